import PyProof.Rows.All
import Wide.All
import OpenK.AllK
import Wide.FinOn
import Lean
import PyProof.EqAt
import PyProof.EqKinds
import PyProof.TupleCall
import PySem.Challenge.RW_errandend_k11_runs_as_told
set_option Elab.async false
set_option linter.all false
set_option maxRecDepth 100000
local macro_rules|`(show _ by $t)=>`((by exact ?n:type_of% (let_mvar% ?n:=(by $t :_);?n)))
namespace L2
open PySem PySem.Spec PyProof.Rows
noncomputable abbrev Key:=Sum Int Str
noncomputable def keyIs:Key→Value→Bool
  | .inl k,v=>Value.isInt k v
  | .inr x,v=>Value.isStrOf x v
noncomputable def keyH (w:World):Key→Int
  | .inl k=>hashInt k
  | .inr x=>hashStr w x
theorem zbm:∀{k:Key} {v:Value},keyIs k v=true→(∃i t,k=Sum.inl i∧v=Value.int i t)∨(∃x t,k=Sum.inr x∧v=Value.str x t)
  | .inl i,v,h=>by
    obtain ⟨t,e⟩:=Value.isInt_shape (k:=i) (v:=v) h
    exact .inl ⟨i,t,rfl,e⟩
  | .inr x,v,h=>by
    obtain ⟨t,e⟩:=Value.isStrOf_shape (x:=x) (v:=v) h
    exact .inr ⟨x,t,rfl,e⟩
theorem zm8 (i:Int) (t:Tok):keyIs (.inl i) (.int i t)=true:=by simp [keyIs,Value.isInt]
theorem zm7 (x:Str) (t:Tok):keyIs (.inr x) (.str x t)=true:=by simp [keyIs,Value.isStrOf]
theorem key_ll (a b:Int):decide ((Sum.inl a:Key)=Sum.inl b)=(a==b):=by
  by_cases e:a=b
  · subst e;simp
  · have h:¬(Sum.inl a:Key)=Sum.inl b:=fun q=>e (Sum.inl.inj q)
    rw [decide_eq_false h]
    exact (beq_eq_false_iff_ne.mpr e).symm
theorem key_rr (a b:Str):decide ((Sum.inr a:Key)=Sum.inr b)=decide (a=b):=by
  by_cases e:a=b
  · subst e;simp
  · have h:¬(Sum.inr a:Key)=Sum.inr b:=fun q=>e (Sum.inr.inj q)
    rw [decide_eq_false h,decide_eq_false e]
theorem key_lr (a:Int) (b:Str):decide ((Sum.inl a:Key)=Sum.inr b)=false:=decide_eq_false (fun q=>nomatch q)
theorem key_rl (a:Str) (b:Int):decide ((Sum.inr a:Key)=Sum.inl b)=false:=decide_eq_false (fun q=>nomatch q)
noncomputable def mixKind (prog:Program) (w:World):PySem.KeyKind prog w Key where
  is:=keyIs
  hash:=keyH w
  inj:=fun v a b ha hb=>by
    rcases zbm ha with ⟨i,t,rfl,rfl⟩|⟨x,t,rfl,rfl⟩
    · rcases zbm hb with ⟨j,u,rfl,e⟩|⟨y,u,rfl,e⟩
      · injection e with e1 _;rw [e1]
      · exact nomatch e
    · rcases zbm hb with ⟨j,u,rfl,e⟩|⟨y,u,rfl,e⟩
      · exact nomatch e
      · injection e with e1 _;rw [e1]
  byValue:=fun k v h=>by
    rcases zbm h with ⟨i,t,rfl,rfl⟩|⟨x,t,rfl,rfl⟩<;>rfl
  pyHash:=fun hv h=>by
    rcases zbm hv with ⟨i,t,rfl,rfl⟩|⟨x,t,rfl,rfl⟩
    · exact wpAny_pyHash_int h
    · exact wpAny_pyHash_str h
  eqBool:=fun hu hv h=>by
    rcases zbm hu with ⟨i,t,rfl,rfl⟩|⟨x,t,rfl,rfl⟩
    · rcases zbm hv with ⟨j,u,rfl,rfl⟩|⟨y,u,rfl,rfl⟩
      · rw [key_ll] at h;exact wpAny_eqBool_int h
      · rw [key_lr] at h;exact SeqAt.EqAt.int_str i t y u _ _ _ _ h
    · rcases zbm hv with ⟨j,u,rfl,rfl⟩|⟨y,u,rfl,rfl⟩
      · rw [key_rl] at h;exact SeqAt.EqAt.str_int x t j u _ _ _ _ h
      · rw [key_rr] at h;exact wpAny_eqBool_str h
  «strs»:=fun k x t v h=>by
    rcases zbm h with ⟨i,u,rfl,e⟩|⟨y,u,rfl,e⟩
    · exact nomatch e
    · injection e with e1 _
      subst e1
      cases v<;>rfl
theorem zjm (prog:Program) (w:World) (i:Int) (t:Tok):(mixKind prog w).is (.inl i) (.int i t)=true:=zm8 i t
theorem zjl (prog:Program) (w:World) (x:Str) (t:Tok):(mixKind prog w).is (.inr x) (.str x t)=true:=zm7 x t
end L2
namespace L2
open PySem PySem.Spec PyProof.Rows
inductive V where
  | non|bl (b:Bool)|int (i:Int)|str (x:Str)|byt (b:Array UInt8)|flt (b:UInt64)|ref (a:Addr)|ty (n:String)
  deriving DecidableEq
def RelV:V→Value→Prop
  | .non,u=>u=Value.none
  | .bl b,u=>u=Value.bool b
  | .int i,u=>∃t,u=Value.int i t
  | .str x,u=>∃t,u=Value.str x t
  | .byt b,u=>∃t,u=Value.bytes b t
  | .flt b,u=>∃t,u=Value.float b t
  | .ref a,u=>u=Value.ref a
  | .ty n,u=>u=Value.type n
abbrev Vals:List V→List Value→Prop:=Paired RelV
theorem Vals.length {xs:List V} {us:List Value} (r:Vals xs us):xs.length=us.length:=Paired.length r
theorem Vals.get:∀{xs:List V} {us:List Value} {i:Nat} {x:V},Vals xs us→xs[i]?=some x→∃u,us[i]?=some u∧RelV x u
  | _,_,_,_,.nil,e=>by simp at e
  | _,_,0,_,.cons r _,e=>by simp at e;subst e;exact ⟨_,rfl,r⟩
  | _,_,i+1,x,.cons _ t,e=>by
    obtain ⟨u,h1,h2⟩:=Vals.get (i:=i) (x:=x) t (by simpa using e)
    exact ⟨u,by simpa using h1,h2⟩
theorem Vals.set {x:V} {u:Value} (r:RelV x u):∀{xs:List V} {us:List Value} (i:Nat),Vals xs us→Vals (xs.set i x) (us.set i u)
  | _,_,_,.nil=>.nil
  | _,_,0,.cons _ t=>.cons r t
  | _,_,i+1,.cons q t=>.cons q (Vals.set r i t)
theorem Vals.append:∀{xs ys:List V} {us ws:List Value},Vals xs us→Vals ys ws→Vals (xs++ys) (us++ws)
  | _,_,_,_,.nil,s=>s
  | _,_,_,_,.cons r t,s=>.cons r (Vals.append t s)
theorem Vals.take:∀{xs:List V} {us:List Value} (n:Nat),Vals xs us→Vals (xs.take n) (us.take n)
  | _,_,0,_=>.nil
  | _,_,_+1,.nil=>.nil
  | _,_,n+1,.cons r t=>.cons r (Vals.take n t)
theorem Vals.drop:∀{xs:List V} {us:List Value} (n:Nat),Vals xs us→Vals (xs.drop n) (us.drop n)
  | _,_,0,r=>r
  | _,_,_+1,.nil=>.nil
  | _,_,n+1,.cons _ t=>Vals.drop n t
def RelO:Option V→Option Value→Prop
  | some v,some u=>RelV v u
  | none,none=>True
  | _,_=>False
def KV {κ:Type}:List (κ×V)→List (κ×Value)→Prop:=Paired fun (p:κ×V) (q:κ×Value)=>p.1=q.1∧RelV p.2 q.2
noncomputable def kV:Key→V
  | .inl i=>.int i
  | .inr x=>.str x
inductive HO where
  | lst (xs:List V)
  | tup (xs:List V)
  | dK (kvs:List (Key×V))|dT (kvs:List (List Key×V))
  | set (S:Int→Bool) (n:Nat)
  | ins (C dx:Addr) (fs:List (Str×V))
  | own (x:Addr)
  | xd (fs:List (Str×V))
  | met (f x:Addr)
  | rng (lo hi:Int)
  | frz (o:Obj) (u:HO)
  | tbl (ps:Array Value)
  | ext (φ:Heap→Prop)
noncomputable abbrev Hp:=Addr→Option HO
noncomputable def upd (H:Hp) (a:Addr) (o:HO):Hp:=fun b=>if b=a then some o else H b
theorem za5 {H:Hp} {a:Addr} {o:HO}:upd H a o a=some o:=by unfold upd;rw [if_pos rfl]
theorem zar {H:Hp} {a b:Addr} {o:HO} (h:b≠a):upd H a o b=H b:=by unfold upd;rw [if_neg h]
theorem ne_of {H:Hp} {a b:Addr} {o u:HO} (h:H a=some o) (h':H b=some u) (d:o≠u):a≠b:=by
  intro e;subst e;rw [h] at h';exact d (Option.some.inj h')
theorem zcb {H:Hp} {a b:Addr} {o:HO} (h:H a=some o) (h':H b=none):a≠b:=by
  intro e;subst e;rw [h] at h';cases h'
section
variable (P:Program) (w:World)
def ObjOk (H:Hp) (h:Heap) (a:Addr):HO→Prop
  | .lst xs=>xs.length≤sizeLine∧∃(its:List Value) (n:Nat),Vals xs its∧h.get? a=some {cls:=.type "list",data:=.seq its.toArray n}
  | .tup xs=>xs.length≤sizeLine∧∃its:List Value,Vals xs its∧IsTup h a its.toArray∧∀o,h.get? a=some o→o.dict=none
  | .dK kvs=>kvs.length≤sizeLine∧(a==sysModules)=false∧∃vs,KV kvs vs∧h.DictOf (mixKind P w) a vs
  | .dT kvs=>kvs.length≤sizeLine∧(a==sysModules)=false∧∃xs:List (List Key×Addr×Value),
      Paired (fun (p:List Key×V) (q:List Key×Addr×Value)=>p.1=q.1∧H q.2.1=some (.tup (p.1.map kV))∧RelV p.2 q.2.2) kvs xs ∧
      ∃o es ep,h.get? a=some o∧o.ExactDict∧o.data=.dict es ep∧es.toList=xs.map (entryOfKey (tupleKind (mixKind P w)))∧(xs.map (·.1)).Nodup
  | .set S n=>h.SetOf (intKind P w) a S n
  | .ins C dx fs=>H dx=some (.own a)∧fs.length≤1000∧dx≠a∧h.get? a=some (PySem.W.instObj C dx) ∧
      ∃mA,h.Ns1 dx mA∧(∀f,RelO (fs.lookup f) (mA f))∧PySem.Within mA (fs.map (·.1))
  | .own _=>∃o,h.get? a=some o
  | .xd fs=>∃mA,h.Ns1 a mA∧∀f,RelO (fs.lookup f) (mA f)
  | .rng lo hi=>∃t u v,h.get? a=some {cls:=.type "range",data:=.fields #[.int lo t,.int hi u,.int 1 v]}
  | .frz o u=>h.get? a=some o∧ObjOk H h a u
  | .tbl ps=>h.get? a=some {cls:=.none,data:=.fields ps}
  | .met f x=>h.get? a=some (PySem.W.methodObj (.ref f) (.ref x))
  | .ext φ=>φ h∧(∃o,h.get? a=some o)∧∀h1 h2:Heap,φ h1→(∀o,h1.get? a=some o→h2.get? a=some o)→φ h2
def HOk (H:Hp) (h:Heap):Prop:=∀a o,H a=some o→ObjOk P w H h a o
end
section
variable {P:Program} {w:World} {H H':Hp} {h h':Heap} {a:Addr} {o:HO}
theorem ObjOk.lt (x:ObjOk P w H h a o):a<h.objs.size:=show _ by
  cases o with
  | lst xs=>obtain ⟨_,_,_,_,e⟩:=x;exact Heap.lt_size e
  | tup xs=>obtain ⟨_,_,_,p,_⟩:=x;exact p.lt
  | dK kvs=>obtain ⟨_,_,_,_,o,_,_,e,_⟩:=x;exact Heap.lt_size e
  | dT kvs=>obtain ⟨_,_,_,_,o,_,_,e,_⟩:=x;exact Heap.lt_size e
  | set S n=>obtain ⟨o,_,_,_,e,_⟩:=x;exact Heap.lt_size e
  | ins C dx fs=>obtain ⟨_,_,_,e,_⟩:=x;exact Heap.lt_size e
  | own y=>obtain ⟨_,e⟩:=x;exact Heap.lt_size e
  | xd fs=>obtain ⟨_,⟨_,_,_,e,_⟩,_⟩:=x;exact Heap.lt_size e
  | rng lo hi=>obtain ⟨_,_,_,e⟩:=x;exact Heap.lt_size e
  | frz ob u=>obtain ⟨e,_⟩:=x;exact Heap.lt_size e
  | tbl ps=>exact Heap.lt_size (show h.get? a=some _ from x)
  | met f y=>exact Heap.lt_size (show h.get? a=some _ from x)
  | ext φ=>obtain ⟨_,⟨_,e⟩,_⟩:=x;exact Heap.lt_size e
theorem Paired.mapP {α β:Type} {F G:α→β→Prop}:∀{l₁:List α} {l₂:List β},Paired F l₁ l₂→(∀a b,F a b→G a b)→Paired G l₁ l₂
  | _,_,.nil,_=>.nil
  | _,_,.cons r t,f=>.cons (f _ _ r) (Paired.mapP t f)
theorem ObjOk.stay (x:ObjOk P w H h a o) (k:∀b u,(b=a∨H b=some (.own a))→h.get? b=some u→h'.get? b=some u)
    (ho:∀b,H b=some (.own a)→H' b=some (.own a)) (ht:∀b xs,H b=some (.tup xs)→H' b=some (.tup xs)):ObjOk P w H' h' a o:=show _ by
  induction o with
  | lst xs=>obtain ⟨z,its,n,r,e⟩:=x;exact ⟨z,its,n,r,k _ _ (.inl rfl) e⟩
  | tup xs=>obtain ⟨z,its,r,⟨ob,e,c⟩,nd⟩:=x;exact ⟨z,its,r,⟨ob,k _ _ (.inl rfl) e,c⟩,fun o q=>by rw [k _ _ (.inl rfl) e] at q;cases q;exact nd _ e⟩
  | dK kvs=>obtain ⟨z,y,vs,r,ob,es,ep,e,c⟩:=x;exact ⟨z,y,vs,r,ob,es,ep,k _ _ (.inl rfl) e,c⟩
  | dT kvs =>
    obtain ⟨z,y,xs,r,ob,es,ep,e,c⟩:=x
    exact ⟨z,y,xs,Paired.mapP r fun p q z=>⟨z.1,ht _ _ z.2.1,z.2.2⟩,ob,es,ep,k _ _ (.inl rfl) e,c⟩
  | set S n=>obtain ⟨ob,es,ep,t,e,c⟩:=x;exact ⟨ob,es,ep,t,k _ _ (.inl rfl) e,c⟩
  | ins C dx fs =>
    obtain ⟨d,z,ne,e,mA,⟨od,es,ep,e2,c⟩,r⟩:=x
    exact ⟨ho _ d,z,ne,k _ _ (.inl rfl) e,mA,⟨od,es,ep,k _ _ (.inr d) e2,c⟩,r⟩
  | own y=>obtain ⟨ob,e⟩:=x;exact ⟨ob,k _ _ (.inl rfl) e⟩
  | xd fs=>obtain ⟨mA,⟨od,es,ep,e,c⟩,r⟩:=x;exact ⟨mA,⟨od,es,ep,k _ _ (.inl rfl) e,c⟩,r⟩
  | rng lo hi=>obtain ⟨t,u,v,e⟩:=x;exact ⟨t,u,v,k _ _ (.inl rfl) e⟩
  | frz ob u ih=>obtain ⟨e,q⟩:=x;exact ⟨k _ _ (.inl rfl) e,ih q⟩
  | tbl ps =>
    have e:h.get? a=some {cls:=.none,data:=.fields ps}:=x
    show h'.get? a=some {cls:=.none,data:=.fields ps}
    exact k a _ (.inl rfl) e
  | met f y =>
    have e:h.get? a=some (PySem.W.methodObj (.ref f) (.ref y)):=x
    show h'.get? a=some (PySem.W.methodObj (.ref f) (.ref y))
    exact k a _ (.inl rfl) e
  | ext φ=>obtain ⟨p,⟨o,e⟩,st⟩:=x;exact ⟨st _ _ p fun o q=>k _ _ (.inl rfl) q,⟨o,k _ _ (.inl rfl) e⟩,st⟩
theorem HOk.lt (x:HOk P w H h) (e:H a=some o):a<h.objs.size:=(x a o e).lt
theorem HOk.fresh (x:HOk P w H h) (e:h.objs.size≤a):H a=none:=by
  cases q:H a with
  | none=>rfl
  | some u=>exact absurd (Nat.lt_of_lt_of_le (x.lt q) e) (Nat.lt_irrefl _)
theorem HOk.kept (x:HOk P w H h) (k:∀b u,h.get? b=some u→h'.get? b=some u):HOk P w H h':=fun a o e =>
  (x a o e).stay (fun b u _ q=>k b u q) (fun _ q=>q) fun _ _ q=>q
theorem HOk.laid (x:HOk P w H h) (k:∀b u,h.get? b=some u→h'.get? b=some u) (hp:h.objs.size≤a) (new:ObjOk P w (upd H a o) h' a o):HOk P w (upd H a o) h':=fun b u e=>by
  have hn:=x.fresh hp
  by_cases hb:b=a
  · subst hb;rw [za5] at e;cases e;exact new
  · rw [zar hb] at e
    exact (x b u e).stay (fun c v _ q=>k c v q) (fun c q=>by rw [zar (zcb q hn)];exact q) fun c xs q=>by rw [zar (zcb q hn)];exact q
end
def Rd (H:Hp) (a:Addr) (u:HO):Prop:=H a=some u∨∃o,H a=some (.frz o u)
theorem Rd.ok {P:Program} {w:World} {H:Hp} {h:Heap} {a:Addr} {u:HO} (r:Rd H a u) (x:HOk P w H h):ObjOk P w H h a u:=by
  rcases r with r|⟨o,r⟩
  · exact x a u r
  · obtain ⟨_,q⟩:=x a _ r
    exact q
def Mut:Option HO→Prop
  | some (.lst _)=>True
  | some (.dK _)=>True
  | some (.dT _)=>True
  | some (.set _ _)=>True
  | some (.ins _ _ _)=>True
  | some (.ext _)=>True
  | _=>False
section
variable {P:Program} {w:World} {H:Hp} {h h':Heap} {x e:Addr} {o':HO}
theorem HOk.write (ok:HOk P w H h) (mu:Mut (H x)) (he:e=x∨H e=some (.own x)) (k:∀b u,b≠e→h.get? b=some u→h'.get? b=some u) (heo:∃u,h'.get? e=some u)
    (new:ObjOk P w (upd H x o') h' x o'):HOk P w (upd H x o') h':=fun b u q=>by
  have nown:∀c y,H c=some (.own y)→c≠x:=fun c y r z=>by subst z;rw [r] at mu;exact mu
  have ntup:∀c xs,H c=some (.tup xs)→c≠x:=fun c xs r z=>by subst z;rw [r] at mu;exact mu
  by_cases hb:b=x
  · subst hb;rw [za5] at q;cases q;exact new
  · rw [zar hb] at q
    by_cases hbe:b=e
    · have q':H b=some (.own x):=show _ by
        rcases he with z|z
        · exact absurd (hbe.trans z) hb
        · rw [hbe];exact z
      rw [q] at q';cases q'
      obtain ⟨v,hv⟩:=heo
      exact ⟨v,by rw [hbe];exact hv⟩
    · refine (ok b u q).stay (fun c v hc r=>k c v ?_ r) (fun c r=>by rw [zar (nown c b r)];exact r) fun c xs r=>by rw [zar (ntup c xs r)];exact r
      rcases hc with rfl|hc
      · exact hbe
      · rintro rfl
        rcases he with z|z
        · exact nown c b hc z
        · rw [hc] at z;cases z;exact hb rfl
end
structure Un (fs ex:List Addr) (H H':Hp) (h h':Heap):Prop where
  keep:∀b o,h.get? b=some o→H b=none→b∉fs→b∉ex→h'.get? b=some o
  slot:∀b o,h.get? b=some o→H b=none→b∈fs→b∉ex→∃sl,h'.get? b=some {o with slots:=sl}
  free:∀b o,h.get? b=some o→H b=none→b∉ex→H' b=none
  there:∀b o,h.get? b=some o→b∉ex→∃o',h'.get? b=some o'
  tups:∀b xs,H b=some (.tup xs)→H' b=some (.tup xs)
  frzs:∀b o u,H b=some (.frz o u)→H' b=some (.frz o u)
  tbls:∀b ps,H b=some (.tbl ps)→∃more,H' b=some (.tbl (ps++more))
section
variable {fs fs' ex ex':List Addr} {H H1 H2:Hp} {h h1 h2 h':Heap} {a x e:Addr} {o:HO}
theorem Un.any (u:Un fs ex H H1 h h1) {b:Addr} {ob:Obj} (q:h.get? b=some ob) (n:H b=none) (hx:b∉ex):∃sl,h1.get? b=some {ob with slots:=sl}:=by
  by_cases hb:b∈fs
  · exact u.slot b ob q n hb hx
  · exact ⟨ob.slots,u.keep b ob q n hb hx⟩
theorem Un.kept (k:∀b u,h.get? b=some u→h'.get? b=some u):Un fs ex H H h h' :=
  ⟨fun b ob q _ _ _=>k b ob q,fun b ob q _ _ _=>⟨ob.slots,k b ob q⟩,fun _ _ _ n _=>n,fun b ob q _=>⟨ob,k b ob q⟩,fun _ _ q=>q,fun _ _ _ q=>q,fun _ ps q=>⟨#[],by rw [q];simp⟩⟩
theorem Un.refl:Un fs ex H H h h:=Un.kept fun _ _ q=>q
theorem Un.laid (k:∀b u,h.get? b=some u→h'.get? b=some u) (hp:h.objs.size≤a) (hn:H a=none):Un fs ex H (upd H a o) h h' where
  keep:=fun b u q _ _ _=>k b u q
  slot:=fun b u q _ _ _=>⟨u.slots,k b u q⟩
  free:=fun b u q n _=>by rw [zar (Nat.ne_of_lt (Nat.lt_of_lt_of_le (Heap.lt_size q) hp))];exact n
  there:=fun b u q _=>⟨u,k b u q⟩
  tups:=fun b xs q=>by rw [zar (zcb q hn)];exact q
  frzs:=fun b u xs q=>by rw [zar (zcb q hn)];exact q
  tbls:=fun b ps q=>⟨#[],by rw [zar (zcb q hn),q];simp⟩
theorem Un.write (mu:Mut (H x)) (he:e=x∨H e=some (.own x)) (k:∀b u,b≠e→h.get? b=some u→h'.get? b=some u) (heo:∃u,h'.get? e=some u):Un fs ex H (upd H x o) h h':=show _ by
  have hx:∀b,H b=none→b≠x:=fun b n z=>by subst z;rw [n] at mu;exact mu
  have hb:∀b,H b=none→b≠e:=fun b n z=>by
    subst z
    rcases he with r|r
    · exact hx b n r
    · rw [n] at r;cases r
  have hm:∀b u,H b=some u→¬Mut (some u)→b≠x:=fun b u q nm z=>by subst z;rw [q] at mu;exact nm mu
  refine ⟨fun b u q n _ _=>k b u (hb b n) q,fun b u q n _ _=>⟨u.slots,k b u (hb b n) q⟩,fun b u q n _=>by rw [zar (hx b n)];exact n,fun b u q _=>?_,
    fun b xs q=>by rw [zar (hm b _ q fun z=>z)];exact q,fun b u xs q=>by rw [zar (hm b _ q fun z=>z)];exact q,fun b ps q=>⟨#[],by rw [zar (hm b _ q fun z=>z),q];simp⟩⟩
  by_cases hbe:b=e
  · subst hbe;exact heo
  · exact ⟨u,k b u hbe q⟩
end
noncomputable def trk (h:Heap) (H:Hp):List Addr:=(List.range h.objs.size).filter fun a=>(H a).isSome
noncomputable def hidT (h:Heap) (H:Hp):Heap:=PySem.W.hideAll h (trk h H)
theorem znf (h:Heap) (H:Hp):(hidT h H).objs.size=h.objs.size:=PySem.W.hideAll_size _ _
theorem zpg {h:Heap} {H:Hp} {b:Addr} {o:Obj} (e:h.get? b=some o) (n:H b=none):(hidT h H).get? b=some o :=
  PySem.W.hideAll_get _ e fun hm=>by
    have q:(H b).isSome=true:=(List.mem_filter.mp hm).2
    rw [n] at q;simp at q
theorem zre {h:Heap} {H:Hp} {b:Addr} {o:Obj} (e:(hidT h H).get? b=some o):h.get? b=some o∧H b=none:=show _ by
  have e':h.get? b=some o:=PySem.W.of_hideAll (trk h H) e
  refine ⟨e',?_⟩
  cases q:H b with
  | none=>rfl
  | some x =>
    have hm:b∈trk h H:=List.mem_filter.mpr ⟨List.mem_range.mpr (Heap.lt_size e'),by simp [q]⟩
    have z:(hidT h H).get? b=none:=PySem.W.hideAll_none (trk h H) hm
    rw [z] at e;cases e
noncomputable def allNews (g h:Heap) (L:Addr):List (Addr×Obj):=(List.range h.objs.size).filterMap fun a=>if a=L∨(g.get? a).isSome=true then none else (h.get? a).map fun o=>(a,o)
noncomputable def rest (g h:Heap) (L d:Addr):List (Addr×Obj):=(allNews g h L).filter fun p=>decide (p.1≠d)
end L2
namespace L2
open PySem PySem.Spec PyProof.Rows
structure Mod (K:PySem.W.Frag) (mg:Str→Option Value) (base:Heap):Prop where
  kin:K.In base
  glob:base.Ns mainGlobals mg
  blt:∃mb,base.Ns builtinsNs mb∧∀x:Str,x≠"__name__"→mb x=bootBuiltins x
  nolimit:base.NoLimit
structure Cx where
  prog:Program
  w:World
  K:PySem.W.Frag
  mg:Str→Option Value
  base:Heap
  A:Around
  N:List Str
  s₀:Shared
  H₀:Hp
  env:Env
  outer:List Env
  stack:List Env
  ex:List Addr
  fn:Str→Bool
  calm:Bool
  pn:List (Addr×Obj)
  xe:Value→Shared→Prop
noncomputable def frs (l:List Env):List Addr:=l.filterMap (·.frame)
noncomputable abbrev Cx.fs (X:Cx):List Addr:=frs X.outer
def Vis (sc:Scope) (x:Str):Prop:=sc.names.lookup x=some .local∨sc.names.lookup x=some .cell∨sc.names.lookup x=some .free
def Loc (sc:Scope) (x:Str):Prop:=sc.names.lookup x=some .local∨sc.names.lookup x=some .cell
def Look (env:Env) (h:Heap) (m:Str→Option Value) (x:Str) (u:Value):Prop :=
  (env.kindOf x=some .local∧m x=some u)∨((env.kindOf x=some .cell∨env.kindOf x=some .free)∧∃c,env.cells.lookup x=some c∧h.IsCell c (some u))
structure Cx.Ok (X:Cx):Prop where
  mod:Mod X.K X.mg X.base
  kind:X.env.scope.kind=.function
  glob:X.env.globals=mainGlobals
  blt:X.env.builtins=builtinsNs
  above:X.s₀.heap.objs.size≤X.env.locals
  inj:∀x y c,X.env.cells.lookup x=some c→X.env.cells.lookup y=some c→x=y
  has:∀x,(X.env.kindOf x=some .cell∨X.env.kindOf x=some .free)→∃c,X.env.cells.lookup x=some c
  cab:∀x c,X.fn x=true→X.env.cells.lookup x=some c→X.s₀.heap.objs.size≤c
  hd:X.calm=true→X.A.handled=none
  frames:X.A.frames=some X.stack
  stk:X.stack=X.outer∨(X.stack=X.env::X.outer∧X.env.frame=some X.env.locals)
  exf:∀b∈X.ex,b≠X.env.locals∧∀x c,X.env.cells.lookup x=some c→c≠b
  bs:∀b o,X.base.get? b=some o→X.s₀.heap.get? b=some o∧X.H₀ b=none
  bsz:X.base.objs.size≤X.s₀.heap.objs.size
  noex:∀b o,X.base.get? b=some o→b∉X.ex
  exfs:∀b∈X.ex,b∉X.fs
  funs:X.s₀.heap.FunFrames X.base X.outer
  frf:∀b∈X.fs,X.H₀ b=none
structure Inv (X:Cx) (pins:List (Addr×Obj)) (σ:List (Option V)) (H:Hp) (s:Shared):Prop where
  ok:X.Ok
  os:s.os=X.s₀.os
  bare:AllBare s.gens
  base:Un X.fs X.ex X.H₀ H X.s₀.heap s.heap
  loc:∃m,s.heap.Ns X.env.locals m∧∀(i:Nat) (x:Str) (v:V),X.N[i]?=some x→σ[i]?=some (some v)→Vis X.env.scope x→∃u,RelV v u∧Look X.env s.heap m x u
  cell:∀x c,X.env.cells.lookup x=some c→∃v,s.heap.IsCell c v
  free:H X.env.locals=none
  freeC:∀x c,X.env.cells.lookup x=some c→H c=none
  pin:∀p∈X.pn++pins,s.heap.get? p.1=some p.2∧H p.1=none∧p.1≠X.env.locals∧p.1∉X.fs∧∀v,p.2.data≠.cell v
  hok:HOk X.prog X.w H s.heap
  len:σ.length=X.N.length
section
variable {X:Cx} {pins:List (Addr×Obj)} {σ:List (Option V)} {H H':Hp} {s:Shared} {h':Heap}
theorem Cx.Ok.nofr (ok:X.Ok) {b:Addr} {o:Obj} (e:X.base.get? b=some o):b∉X.fs:=fun hb=>by
  have:=(ok.funs.mem hb).1
  rw [e] at this;cases this
theorem Inv.bs (I:Inv X pins σ H s):∀b o,X.base.get? b=some o→s.heap.get? b=some o∧H b=none:=fun b o e =>
  ⟨I.base.keep b o (I.ok.bs b o e).1 (I.ok.bs b o e).2 (I.ok.nofr e) (I.ok.noex b o e),I.base.free b o (I.ok.bs b o e).1 (I.ok.bs b o e).2 (I.ok.noex b o e)⟩
theorem Inv.bk (I:Inv X pins σ H s):∀b o,X.base.get? b=some o→s.heap.get? b=some o:=fun b o e=>(I.bs b o e).1
theorem Inv.mod (I:Inv X pins σ H s):Mod X.K X.mg X.base:=I.ok.mod
theorem Inv.kIn (I:Inv X pins σ H s):X.K.In s.heap:=I.ok.mod.kin.keeps I.bk
theorem Inv.lt (I:Inv X pins σ H s):X.env.locals<s.heap.objs.size:=let ⟨_,hn,_⟩:=I.loc;hn.lt
theorem Inv.sz (I:Inv X pins σ H s):X.s₀.heap.objs.size≤s.heap.objs.size:=Nat.le_trans I.ok.above (Nat.le_of_lt I.lt)
theorem Inv.nofs (I:Inv X pins σ H s) {a:Addr} (h:s.heap.objs.size≤a):a∉X.fs:=fun hb=>by
  obtain ⟨_,o,ho,_⟩:=I.ok.funs.mem hb
  exact absurd (Nat.lt_of_lt_of_le (Heap.lt_size ho) (Nat.le_trans I.sz h)) (Nat.lt_irrefl _)
theorem Inv.cne (I:Inv X pins σ H s):∀x c,X.env.cells.lookup x=some c→c≠X.env.locals:=fun x c e z=>by
  obtain ⟨v,o,ho,hd⟩:=I.cell x c e
  obtain ⟨m,⟨o',es,ep,ho',hd',_⟩,_⟩:=I.loc
  rw [z,ho'] at ho;cases ho;rw [hd'] at hd;cases hd
theorem Inv.funs (I:Inv X pins σ H s):s.heap.FunFrames X.base X.outer:=show _ by
  have all:∀(l:List Env),(∀b∈frs l,b∈X.fs)→X.s₀.heap.FunFrames X.base l→s.heap.FunFrames X.base l:=by
    intro l
    induction l with
    | nil=>intro _ _;trivial
    | cons env r ih =>
      intro hs hl
      obtain ⟨hk,⟨L,o,hf,hn,ho,hd⟩,hr⟩:=hl
      have hL:L∈X.fs:=hs L (by unfold frs;rw [List.filterMap_cons,hf];exact List.mem_cons_self)
      obtain ⟨sl,e⟩:=I.base.slot L o ho (I.ok.frf L hL) hL fun z=>I.ok.exfs L z hL
      exact ⟨hk,⟨L,_,hf,hn,e,hd⟩,ih (fun b hb=>hs b (by unfold frs;rw [List.filterMap_cons,hf];exact List.mem_cons_of_mem _ hb)) hr⟩
  exact all X.outer (fun _ hb=>hb) I.ok.funs
theorem Inv.stack (I:Inv X pins σ H s):s.heap.FunFrames X.base X.stack:=show _ by
  rcases I.ok.stk with e|⟨e,hf⟩
  · rw [e];exact I.funs
  · rw [e]
    obtain ⟨m,hn,_⟩:=I.loc
    refine .cons (by rw [I.ok.kind];decide) hf hn ?_ I.funs
    exact Heap.get?_none_of_le (Nat.le_trans I.ok.bsz I.ok.above)
theorem Inv.stkSub (I:Inv X pins σ H s):∀b∈frs X.stack,b∈X.env.locals::X.fs:=fun b hb=>by
  rcases I.ok.stk with e|⟨e,hf⟩
  · rw [e] at hb;exact List.mem_cons_of_mem _ hb
  · rw [e] at hb
    unfold frs at hb
    rw [List.filterMap_cons,hf] at hb
    exact hb
theorem Inv.stkFree (I:Inv X pins σ H s):∀b∈frs X.stack,H b=none:=fun b hb=>by
  rcases List.mem_cons.mp (I.stkSub b hb) with e|hb
  · rw [e];exact I.free
  · obtain ⟨_,o,ho,_⟩:=I.ok.funs.mem hb
    exact I.base.free b o ho (I.ok.frf b hb) fun z=>I.ok.exfs b z hb
theorem Inv.step {g':Array GenState} {t':Nat} {d':Drawn} {ch:List Addr} (I:Inv X pins σ H s)
    (hch:∀b∈ch,(b∈X.ex∨X.s₀.heap.objs.size≤b)∧b≠X.env.locals∧(∀x c,X.env.cells.lookup x=some c→c≠b)∧∀p∈X.pn++pins,p.1≠b)
    (keep:∀b o,b≠X.env.locals→b∉X.fs→b∉ch→s.heap.get? b=some o→H b=none→h'.get? b=some o)
    (slot:∀b o,b≠X.env.locals→b∈X.fs→b∉ch→s.heap.get? b=some o→H b=none→∃sl,h'.get? b=some {o with slots:=sl}) (free:∀b o,b∉ch→s.heap.get? b=some o→H b=none→H' b=none)
    (there:∀b o,b∉ch→s.heap.get? b=some o→∃o',h'.get? b=some o')
    (tups:∀b xs,H b=some (.tup xs)→H' b=some (.tup xs)) (frzs:∀b o u,H b=some (.frz o u)→H' b=some (.frz o u)) (tbls:∀b ps,H b=some (.tbl ps)→∃more,H' b=some (.tbl (ps++more)))
    (ns:∀m,s.heap.Ns X.env.locals m→h'.Ns X.env.locals m) (hok:HOk X.prog X.w H' h') (hg:AllBare g') :
    Inv X pins σ H' {s with heap:=h',gens:=g',drawn:=d',toks:=t'}:=show _ by
  have neL:∀b o,X.s₀.heap.get? b=some o→b≠X.env.locals:=fun b o e=>Nat.ne_of_lt (Nat.lt_of_lt_of_le (Heap.lt_size e) I.ok.above)
  have neC:∀b o,X.s₀.heap.get? b=some o→b∉X.ex→b∉ch:=fun b o e hx hb=>by
    rcases (hch b hb).1 with z|z
    · exact hx z
    · exact absurd (Nat.lt_of_lt_of_le (Heap.lt_size e) z) (Nat.lt_irrefl _)
  have cellK:∀x c,X.env.cells.lookup x=some c→∀v,s.heap.IsCell c v→h'.IsCell c v:=fun x c e v z_1=>by
    obtain ⟨o,ho,hd⟩:=z_1
    have nch:c∉ch:=fun z=>(hch c z).2.2.1 x c e rfl
    by_cases hc:c∈X.fs
    · obtain ⟨sl,q⟩:=slot c o (I.cne x c e) hc nch ho (I.freeC x c e)
      exact ⟨_,q,hd⟩
    · exact ⟨o,keep c o (I.cne x c e) hc nch ho (I.freeC x c e),hd⟩
  refine ⟨I.ok,I.os,hg,⟨fun b o e n hb hx=>?_,fun b o e n hb hx=>?_,fun b o e n hx=>?_,fun b o e hx=>?_,fun b xs e=>tups b xs (I.base.tups b xs e),fun b o xs e=>frzs b o xs (I.base.frzs b o xs e),fun b ps e=>?_⟩,?_,fun x c e=>?_,?_,fun x c e=>?_,fun p hp=>?_,hok,I.len⟩
  · exact keep b o (neL b o e) hb (neC b o e hx) (I.base.keep b o e n hb hx) (I.base.free b o e n hx)
  · obtain ⟨sl,e1⟩:=I.base.slot b o e n hb hx
    obtain ⟨sl',e2⟩:=slot b _ (neL b o e) hb (neC b o e hx) e1 (I.base.free b o e n hx)
    exact ⟨sl',e2⟩
  · obtain ⟨o',e1⟩:=I.base.there b o e hx
    exact free b o' (neC b o e hx) e1 (I.base.free b o e n hx)
  · obtain ⟨o',e1⟩:=I.base.there b o e hx
    exact there b o' (neC b o e hx) e1
  · obtain ⟨m1,e1⟩:=I.base.tbls b ps e
    obtain ⟨m2,e2⟩:=tbls b _ e1
    exact ⟨m1++m2,by rw [e2,Array.append_assoc]⟩
  · obtain ⟨m,hn,hl⟩:=I.loc
    refine ⟨m,ns m hn,fun i x v e1 e2 e3=>?_⟩
    obtain ⟨u,r,l⟩:=hl i x v e1 e2 e3
    refine ⟨u,r,?_⟩
    rcases l with l|⟨k,c,e,z⟩
    · exact .inl l
    · exact .inr ⟨k,c,e,cellK x c e _ z⟩
  · obtain ⟨v,z⟩:=I.cell x c e
    exact ⟨v,cellK x c e v z⟩
  · obtain ⟨m,⟨o,_,_,ho,_⟩,_⟩:=I.loc
    exact free _ o (fun z=>(hch _ z).2.1 rfl) ho I.free
  · obtain ⟨v,o,ho,hd⟩:=I.cell x c e
    exact free c o (fun z=>(hch c z).2.2.1 x c e rfl) ho (I.freeC x c e)
  · obtain ⟨e,n,ne,nf,d⟩:=I.pin p hp
    have nch:p.1∉ch:=fun z=>(hch p.1 z).2.2.2 p hp rfl
    exact ⟨keep p.1 p.2 ne nf nch e n,free p.1 p.2 nch e n,ne,nf,d⟩
theorem Inv.un {t':Nat} (I:Inv X pins σ H s) (u:Un X.fs [] H H' s.heap h') (hok:HOk X.prog X.w H' h'):Inv X pins σ H' {s with heap:=h',toks:=t'}:=show _ by
  obtain ⟨m,⟨o,es,ep,ho,r⟩,_⟩:=id I.loc
  obtain ⟨sl,hL⟩:=u.any ho I.free (by simp)
  exact I.step (g':=s.gens) (d':=s.drawn) (ch:=[]) (fun _ z=>nomatch z) (fun b o _ hb _ e n=>u.keep b o e n hb (by simp)) (fun b o _ hb _ e n=>u.slot b o e n hb (by simp)) (fun b o _ e n=>u.free b o e n (by simp)) (fun b o _ e=>u.there b o e (by simp)) u.tups u.frzs u.tbls (fun m' hm=>by
    obtain ⟨o',es',ep',ho',r'⟩:=hm
    rw [ho] at ho';cases ho'
    exact ⟨_,es',ep',hL,r'⟩) hok I.bare
theorem Inv.call {g':Array GenState} {t':Nat} {d':Drawn} {ch:List Addr} (I:Inv X pins σ H s) (u:Un (frs X.stack) ch H H' s.heap h') (hok:HOk X.prog X.w H' h') (hg:AllBare g')
    (hch:∀b∈ch,(b∈X.ex∨X.s₀.heap.objs.size≤b)∧b≠X.env.locals∧(∀x c,X.env.cells.lookup x=some c→c≠b)∧∀p∈X.pn++pins,p.1≠b) :
    Inv X pins σ H' {s with heap:=h',gens:=g',drawn:=d',toks:=t'}:=show _ by
  obtain ⟨m,⟨o,es,ep,ho,r⟩,_⟩:=id I.loc
  obtain ⟨sl,hL⟩:=u.any ho I.free fun z=>(hch _ z).2.1 rfl
  exact I.step (ch:=ch) hch (fun b o hL hb hc e n=>u.keep b o e n (fun z=>(List.mem_cons.mp (I.stkSub b z)).elim hL hb) hc) (fun b o _ _ hc e n=>u.any e n hc) (fun b o hc e n=>u.free b o e n hc) (fun b o hc e=>u.there b o e hc) u.tups u.frzs u.tbls (fun m' hm=>by
    obtain ⟨o',es',ep',ho',r'⟩:=hm
    rw [ho] at ho';cases ho'
    exact ⟨_,es',ep',hL,r'⟩) hok hg
theorem Inv.turned {t':Nat} {it:Addr} (I:Inv X pins σ H s) (k:∀b o,b≠it→s.heap.get? b=some o→h'.get? b=some o) (hn:H it=none) (hL:it≠X.env.locals)
    (h1:it∈X.ex∨X.s₀.heap.objs.size≤it) (h2:∀x c,X.env.cells.lookup x=some c→c≠it) (h3:∀p∈X.pn++pins,p.1≠it):Inv X pins σ H {s with heap:=h',toks:=t'}:=show _ by
  have nit:∀b u,H b=some u→b≠it:=fun b u e z=>by rw [z,hn] at e;cases e
  refine I.step (g':=s.gens) (d':=s.drawn) (ch:=[it]) (fun b hb=>?_) (fun b o _ _ hc e _=>k b o (fun z=>hc (by simp [z])) e) (fun b o _ _ hc e _=>⟨o.slots,k b o (fun z=>hc (by simp [z])) e⟩) (fun _ _ _ _ n=>n)
    (fun b o hc e=>⟨o,k b o (fun z=>hc (by simp [z])) e⟩) (fun _ _ e=>e) (fun _ _ _ e=>e) (fun b ps e=>⟨#[],by rw [e];simp⟩) (fun m hm=>?_) (fun b u e=>?_) I.bare
  · have e:b=it:=by simpa using hb
    subst e
    exact ⟨h1,hL,h2,h3⟩
  · obtain ⟨o,es,ep,ho,r⟩:=hm
    exact ⟨o,es,ep,k _ o (Ne.symm hL) ho,r⟩
  · refine (I.hok b u e).stay (fun c v hc q=>k c v ?_ q) (fun _ q=>q) fun _ _ q=>q
    rcases hc with z|z
    · rw [z];exact nit b u e
    · exact nit c _ z
theorem Inv.tok (I:Inv X pins σ H s) (t:Nat):Inv X pins σ H {s with toks:=t}:=I.un (h':=s.heap) (t':=t) Un.refl I.hok
theorem Inv.kept {t':Nat} (I:Inv X pins σ H s) (k:∀b u,s.heap.get? b=some u→h'.get? b=some u):Inv X pins σ H {s with heap:=h',toks:=t'}:=I.un (Un.kept k) (I.hok.kept k)
theorem Inv.laid {a:Addr} {o:HO} {t':Nat} (I:Inv X pins σ H s) (k:∀b u,s.heap.get? b=some u→h'.get? b=some u) (hp:s.heap.objs.size≤a) (new:ObjOk X.prog X.w (upd H a o) h' a o) :
    Inv X pins σ (upd H a o) {s with heap:=h',toks:=t'}:=I.un (Un.laid k hp (I.hok.fresh hp)) (I.hok.laid k hp new)
theorem Inv.write {x e:Addr} {o:HO} {t':Nat} (I:Inv X pins σ H s) (mu:Mut (H x)) (he:e=x∨H e=some (.own x)) (k:∀b u,b≠e→s.heap.get? b=some u→h'.get? b=some u) (heo:∃u,h'.get? e=some u)
    (new:ObjOk X.prog X.w (upd H x o) h' x o):Inv X pins σ (upd H x o) {s with heap:=h',toks:=t'}:=I.un (Un.write mu he k heo) (I.hok.write mu he k heo new)
theorem Inv.pins_of {pins':List (Addr×Obj)} (I:Inv X pins σ H s) (h:∀p∈pins',s.heap.get? p.1=some p.2∧H p.1=none∧p.1≠X.env.locals∧p.1∉X.fs∧∀v,p.2.data≠.cell v):Inv X pins' σ H s :=
  ⟨I.ok,I.os,I.bare,I.base,I.loc,I.cell,I.free,I.freeC,fun p hp=>(List.mem_append.mp hp).elim (fun z=>I.pin p (List.mem_append_left _ z)) (h p),I.hok,I.len⟩
theorem zka {N:List Str} (hN:N.Nodup) {i j:Nat} {x:Str} (a:N[i]?=some x) (b:N[j]?=some x):i=j:=by
  obtain ⟨h1,e1⟩:=List.getElem?_eq_some_iff.mp a
  obtain ⟨h2,e2⟩:=List.getElem?_eq_some_iff.mp b
  exact (List.getElem_inj hN).mp (e1.trans e2.symm)
theorem zif {M:Model} {A:Around} {E:Value→Shared→Prop} {i:Nat} {x:Str} {v:V} {u:Value} {Q:Unit→Shared→Prop} (I:Inv X pins σ H s) (hN:X.N.Nodup) (hi:X.N[i]?=some x) (hx:Loc X.env.scope x) (r:RelV v u)
    (h:∀s',Inv X pins (σ.set i (some v)) H s'→(∃a,Heap.SameBut a s.heap s'.heap∧(a=X.env.locals∨X.env.cells.lookup x=some a))→Q () s') (hf:X.fn x=true∨X.env.scope.names.lookup x=some .local:=by first|exact .inl rfl|exact .inr rfl|assumption):wpAny M A (storeName X.env x u) Q E s:=show _ by
  obtain ⟨m,hn,hl⟩:=id I.loc
  have hcls:(X.env.scope.kind == .class||(X.env.scope.kind == .module&&X.env.locals != X.env.globals))=false:=by rw [I.ok.kind];rfl
  have hiσ:i<σ.length:=by rw [I.len];exact (List.getElem?_eq_some_iff.mp hi).1
  have cne:=I.cne
  have tracked:∀{a:Addr} {h':Heap},(∃o,s.heap.get? a=some o∧H a=none)→Heap.SameBut a s.heap h'→HOk X.prog X.w H h':=fun {a h'} ha hs b ob e=>by
    obtain ⟨_,_,hfree⟩:=ha
    refine (I.hok b ob e).stay (fun c w' hc q=>(hs.2 c ?_).trans q) (fun _ q=>q) fun _ _ q=>q
    rintro rfl
    rcases hc with rfl|hc
    · rw [hfree] at e;cases e
    · rw [hfree] at hc;cases hc
  rcases hx with hk|hk
  · refine wpAny_storeName_local hk hn (fun h' hn' hs=>?_) hcls
    obtain ⟨oL,_,_,hoL,_⟩:=id hn
    refine h _ ⟨I.ok,I.os,I.bare,⟨fun b o e n hb hx=>?_,fun b o e n hb hx=>?_,I.base.free,fun b o e hx=>?_,I.base.tups,I.base.frzs,I.base.tbls⟩,⟨_,hn',fun j y v' e1 e2 e3=>?_⟩,fun y c e=>?_,I.free,I.freeC,fun p hp=>?_,tracked ⟨oL,hoL,I.free⟩ hs,by simpa using I.len⟩ ⟨_,hs,.inl rfl⟩
    · exact (hs.2 b (Nat.ne_of_lt (Nat.lt_of_lt_of_le (Heap.lt_size e) I.ok.above))).trans (I.base.keep b o e n hb hx)
    · obtain ⟨sl,e1⟩:=I.base.slot b o e n hb hx
      exact ⟨sl,(hs.2 b (Nat.ne_of_lt (Nat.lt_of_lt_of_le (Heap.lt_size e) I.ok.above))).trans e1⟩
    · obtain ⟨o',e1⟩:=I.base.there b o e hx
      exact ⟨o',(hs.2 b (Nat.ne_of_lt (Nat.lt_of_lt_of_le (Heap.lt_size e) I.ok.above))).trans e1⟩
    · by_cases hj:j=i
      · subst hj
        rw [hi] at e1;cases e1
        rw [List.getElem?_set_self hiσ] at e2
        cases e2
        exact ⟨u,r,.inl ⟨hk,by simp⟩⟩
      · rw [List.getElem?_set_ne (Ne.symm hj)] at e2
        obtain ⟨u',r',q⟩:=hl j y v' e1 e2 e3
        refine ⟨u',r',?_⟩
        rcases q with ⟨k,e⟩|⟨k,c,e,z⟩
        · refine .inl ⟨k,?_⟩
          have:y≠x:=fun e=>hj (zka hN e1 (e▸hi))
          simp [this,e]
        · exact .inr ⟨k,c,e,z.sameBut hs (cne y c e)⟩
    · obtain ⟨w',z⟩:=I.cell y c e
      exact ⟨w',z.sameBut hs (cne y c e)⟩
    · obtain ⟨e,n,ne,nf,d⟩:=I.pin p hp
      exact ⟨(hs.2 p.1 ne).trans e,n,ne,nf,d⟩
  · have hfn:X.fn x=true:=by
      rcases hf with z|z
      · exact z
      · rw [z] at hk;cases hk
    obtain ⟨c,hc⟩:=I.ok.has x (.inl hk)
    obtain ⟨w',z⟩:=I.cell x c hc
    refine wpAny_storeName_cell I.ok.kind hk hc z (fun h' hc' hs=>?_)
    obtain ⟨oc,hoc,hocd⟩:=id z
    refine h {s with heap:=h'} ⟨I.ok,I.os,I.bare,⟨fun b o e n hb hx=>?_,fun b o e n hb hx=>?_,I.base.free,fun b o e hx=>?_,I.base.tups,I.base.frzs,I.base.tbls⟩,⟨m,hn.sameBut hs (Ne.symm (cne x c hc)),fun j y v' e1 e2 e3=>?_⟩,fun y c' e=>?_,I.free,I.freeC,fun p hp=>?_,tracked ⟨oc,hoc,I.freeC x c hc⟩ hs,by simpa using I.len⟩ ⟨c,hs,.inr hc⟩
    · exact (hs.2 b (Nat.ne_of_lt (Nat.lt_of_lt_of_le (Heap.lt_size e) (I.ok.cab x c hfn hc)))).trans (I.base.keep b o e n hb hx)
    · obtain ⟨sl,e1⟩:=I.base.slot b o e n hb hx
      exact ⟨sl,(hs.2 b (Nat.ne_of_lt (Nat.lt_of_lt_of_le (Heap.lt_size e) (I.ok.cab x c hfn hc)))).trans e1⟩
    · obtain ⟨o',e1⟩:=I.base.there b o e hx
      exact ⟨o',(hs.2 b (Nat.ne_of_lt (Nat.lt_of_lt_of_le (Heap.lt_size e) (I.ok.cab x c hfn hc)))).trans e1⟩
    · by_cases hj:j=i
      · subst hj
        rw [hi] at e1;cases e1
        rw [List.getElem?_set_self hiσ] at e2
        cases e2
        exact ⟨u,r,.inr ⟨.inl hk,c,hc,hc'⟩⟩
      · rw [List.getElem?_set_ne (Ne.symm hj)] at e2
        obtain ⟨u',r',q⟩:=hl j y v' e1 e2 e3
        refine ⟨u',r',?_⟩
        rcases q with q|⟨k,c',e,z'⟩
        · exact .inl q
        · refine .inr ⟨k,c',e,z'.sameBut hs ?_⟩
          rintro rfl
          exact hj (zka hN e1 (I.ok.inj _ _ _ e hc▸hi))
    · by_cases hcc:c'=c
      · subst hcc;exact ⟨_,hc'⟩
      · obtain ⟨w2,z2⟩:=I.cell y c' e
        exact ⟨w2,z2.sameBut hs hcc⟩
    · obtain ⟨e,n,ne,nf,d⟩:=I.pin p hp
      refine ⟨(hs.2 p.1 ?_).trans e,n,ne,nf,d⟩
      intro q
      rw [q,hoc] at e
      have q':oc=p.2:=Option.some.inj e
      exact d w' (by rw [←q'];exact hocd)
theorem zhj {M:Model} {A:Around} {E:Value→Shared→Prop} {i:Nat} {x:Str} {v:V} {u:Value} {Q:Unit→Shared→Prop} (I:Inv X pins σ H s) (hN:X.N.Nodup) (hi:X.N[i]?=some x) (hx:Loc X.env.scope x) (r:RelV v u)
    (h:∀s',Inv X pins (σ.set i (some v)) H s'→Q () s') (hf:X.fn x=true∨X.env.scope.names.lookup x=some .local:=by first|exact .inl rfl|exact .inr rfl|assumption):wpAny M A (storeName X.env x u) Q E s :=
  zif I hN hi hx r (fun s' I' _=>h s' I') hf
theorem Inv.call' {s':Shared} {ch:List Addr} (I:Inv X pins σ H s) (ho:s'.os=s.os) (u:Un (frs X.stack) ch H H' s.heap s'.heap) (hok:HOk X.prog X.w H' s'.heap) (hg:AllBare s'.gens)
    (hch:∀b∈ch,(b∈X.ex∨X.s₀.heap.objs.size≤b)∧b≠X.env.locals∧(∀x c,X.env.cells.lookup x=some c→c≠b)∧∀p∈X.pn++pins,p.1≠b):Inv X pins σ H' s':=show _ by
  obtain ⟨h',g',d',t',o'⟩:=s'
  have e:o'=s.os:=ho
  subst e
  exact I.call (g':=g') (t':=t') (d':=d') u hok hg hch
end
noncomputable abbrev XK:=Value→Option Addr→Hp→Prop
noncomputable abbrev St:=List (Option V)
noncomputable abbrev VK:=V→Hp→Prop
noncomputable abbrev TE:=St→Hp→VK→Prop
noncomputable abbrev TT:=St→Hp→(Bool→Hp→Prop)→Prop
noncomputable abbrev TA:=St→Hp→(List V→Hp→Prop)→Prop
structure Ends where
  nx:St→Hp→Prop
  rt:VK
  bk:St→Hp→Prop:=fun _ _=>False
  ct:St→Hp→Prop:=fun _ _=>False
noncomputable abbrev TS:=Ends→St→Hp→Prop
inductive EP (X:Cx) (pins:List (Addr×Obj)) (σ:St) (Q:VK) (u:Value) (s':Shared):Prop where
  | mk (v:V) (H':Hp) (I:Inv X pins σ H' s') (r:RelV v u) (q:Q v H')
def TP (X:Cx) (pins:List (Addr×Obj)) (σ:St) (Q:Bool→Hp→Prop) (b:Bool) (s':Shared):Prop:=∃H',Inv X pins σ H' s'∧Q b H'
inductive AP (X:Cx) (pins:List (Addr×Obj)) (σ:St) (Q:List V→Hp→Prop) (us:List Value) (s':Shared):Prop where
  | mk (vs:List V) (H':Hp) (I:Inv X pins σ H' s') (r:Vals vs us) (q:Q vs H')
def SP (X:Cx) (pins:List (Addr×Obj)) (D:Ends) (f:Flow) (s':Shared):Prop :=
  match f with
  | .next=>∃σ' H',Inv X pins σ' H' s'∧D.nx σ' H'
  | .brk=>∃σ' H',Inv X pins σ' H' s'∧D.bk σ' H'
  | .cont=>∃σ' H',Inv X pins σ' H' s'∧D.ct σ' H'
  | .ret u=>∃v σ' H',Inv X pins σ' H' s'∧RelV v u∧D.rt v H'
def PE (X:Cx) (e:Expr) (t:TE):Prop :=
  ∀(pins:List (Addr×Obj)) (s:Shared) (σ:St) (H:Hp) (Q:VK),Inv X pins σ H s→t σ H Q→wpAny (model X.prog X.w) X.A (eval e X.env) (EP X pins σ Q) X.xe s
def PT (X:Cx) (e:Expr) (t:TT):Prop :=
  ∀(pins:List (Addr×Obj)) (s:Shared) (σ:St) (H:Hp) (Q:Bool→Hp→Prop),Inv X pins σ H s→t σ H Q→wpAny (model X.prog X.w) X.A (isTrue e X.env (eval e X.env)) (TP X pins σ Q) X.xe s
def PW (X:Cx) (e:Expr) (t:TT):Prop :=
  ∀(whole:Sem Value) (pins:List (Addr×Obj)) (s:Shared) (σ:St) (H:Hp) (Q:Bool→Hp→Prop),Inv X pins σ H s→t σ H Q→wpAny (model X.prog X.w) X.A (isTrue e X.env whole) (TP X pins σ Q) X.xe s
theorem PW.pt {X:Cx} {e:Expr} {t:TT} (h:PW X e t):PT X e t:=h _
def PA (X:Cx) (es:List Expr) (t:TA):Prop :=
  ∀(pos:Pos) (pins:List (Addr×Obj)) (s:Shared) (σ:St) (H:Hp) (Q:List V→Hp→Prop),Inv X pins σ H s→t σ H Q→wpAny (model X.prog X.w) X.A (spliced (backTo pos (starEach es X.env))) (AP X pins σ Q) X.xe s
def PS (X:Cx) (st:Stmt) (t:TS):Prop :=
  ∀(pins:List (Addr×Obj)) (s:Shared) (σ:St) (H:Hp) (D:Ends),Inv X pins σ H s→t D σ H→wpAny (model X.prog X.w) X.A (exec st X.env) (SP X pins D) X.xe s
def PSs (X:Cx) (st:List Stmt) (t:TS):Prop :=
  ∀(pins:List (Addr×Obj)) (s:Shared) (σ:St) (H:Hp) (D:Ends),Inv X pins σ H s→t D σ H→wpAny (model X.prog X.w) X.A (execs st X.env) (SP X pins D) X.xe s
theorem thn {α:Type} {t:Sem α} {Q Q':α→Shared→Prop} {M:Model} {A:Around} {E:Value→Shared→Prop} {s:Shared} (h:wpAny M A t Q E s) (hQ:∀a s,Q a s→Q' a s):wpAny M A t Q' E s:=wpAny_mono h hQ fun _ _ x=>x
end L2
namespace L2
open PySem PySem.Spec PyProof.Rows
section
variable {X:Cx}
theorem bin {a b:Expr} {ta tb:TE} (ha:PE X a ta) (hb:PE X b tb) {pins:List (Addr×Obj)} {s:Shared} {σ:St} {H:Hp} {R:V→V→Hp→Prop} (I:Inv X pins σ H s) (h:ta σ H fun x H1=>tb σ H1 fun y H2=>R x y H2)
    {α:Type} {Q:α→Shared→Prop} {f:Value→Value→Sem α}
    (hf:∀v u s2 x y H2,Inv X pins σ H2 s2→RelV x v→RelV y u→R x y H2→wpAny (model X.prog X.w) X.A (f v u) Q X.xe s2) :
    wpAny (model X.prog X.w) X.A (eval a X.env) (fun v s₁=>wpAny (model X.prog X.w) X.A (eval b X.env) (fun u s₂=>wpAny (model X.prog X.w) X.A (f v u) Q X.xe s₂) X.xe s₁) X.xe s:=show _ by
  refine thn (ha pins s σ H _ I h) fun v s1 ⟨x,H1,I1,r1,q1⟩=>?_
  refine thn (hb pins s1 σ H1 _ I1 q1) fun u s2 ⟨y,H2,I2,r2,q2⟩=>?_
  exact hf v u s2 x y H2 I2 r1 r2 q2
def tVar (i:Nat):TE:=fun σ H Q=>∃v,σ[i]?=some (some v)∧Q v H
def tC (v:V):TE:=fun _ H Q=>Q v H
theorem pe_var {i:Nat} {x:Str} {pos:Pos} (hN:X.N[i]?=some x) (hv:Vis X.env.scope x) (hd:(x==("__debug__":Str))=false:=by decide) (hcd:(x==("__classdict__":Str))=false:=by decide):PE X (.Name x pos) (tVar i):=show _ by
  intro pins s σ H Q I h
  obtain ⟨v,e,h⟩:=h
  obtain ⟨m,hn,hl⟩:=I.loc
  obtain ⟨u,r,l⟩:=hl i x v hN e hv
  have fin:EP X pins σ Q u s:=⟨v,H,I,r,h⟩
  rcases l with ⟨hk,hm⟩|⟨hk,c,hc,hcell⟩
  · exact wpAny_Name (wpAny_loadName_local I.ok.kind hk hn hm fin) hd
  · rcases hk with hk|hk
    · exact wpAny_Name (wpAny_loadName_cell I.ok.kind hk hc hcell fin) hd
    · exact wpAny_Name (wpAny_loadName_free I.ok.kind hk hc hcell fin hcd) hd
theorem pe_int {i j pos}:PE X (.Constant (.int i) j pos) (tC (.int i)):=fun _ _ _ H _ I h=>wpAny_Constant_int ⟨.int i,H,I.tok _,⟨_,rfl⟩,h⟩
theorem pe_bl {b j pos}:PE X (.Constant (.bool b) j pos) (tC (.bl b)):=fun _ _ _ H _ I h=>Constant_bool ⟨.bl b,H,I,rfl,h⟩
theorem pe_non {j pos}:PE X (.Constant .none j pos) (tC .non):=fun _ _ _ H _ I h=>Constant_none ⟨.non,H,I,rfl,h⟩
theorem pe_str {x j pos}:PE X (.Constant (.str x) j pos) (tC (.str x)):=fun _ _ _ H _ I h=>Calls.Constant_str ⟨.str x,H,I.tok _,⟨_,rfl⟩,h⟩
def Gl (X:Cx) (x:Str):Prop:=X.env.kindOf x=some .globalImplicit
theorem zjn {E:Value→Shared→Prop} {pins:List (Addr×Obj)} {s:Shared} {σ:St} {H:Hp} {x:Str} {u:Value} {pos:Pos} {Q:Value→Shared→Prop} (I:Inv X pins σ H s) (hg:Gl X x) (hm:X.mg x=some u) (h:Q u s)
    (hd:(x==("__debug__":Str))=false:=by decide):wpAny (model X.prog X.w) X.A (eval (.Name x pos) X.env) Q E s :=
  Calls.Name_function_global I.ok.kind hg (Calls.loadGlobal_global (by rw [I.ok.glob];exact I.mod.glob.keeps I.bk) hm h) hd
theorem zf5 {E:Value→Shared→Prop} {pins:List (Addr×Obj)} {s:Shared} {σ:St} {H:Hp} {x:Str} {u:Value} {pos:Pos} {Q:Value→Shared→Prop} (I:Inv X pins σ H s) (hg:Gl X x) (hm:X.mg x=none) (hv:bootBuiltins x=some u) (h:Q u s)
    (hn:x≠"__name__":=by decide) (hd:(x==("__debug__":Str))=false:=by decide):wpAny (model X.prog X.w) X.A (eval (.Name x pos) X.env) Q E s:=show _ by
  obtain ⟨mb,h1,h2⟩:=I.mod.blt
  exact Calls.Name_function_global I.ok.kind hg (Calls.loadGlobal_builtin (by rw [I.ok.glob];exact I.mod.glob.keeps I.bk) hm (by rw [I.ok.blt];exact h1.keeps I.bk) ((h2 x hn).trans hv) h) hd
theorem zq1 {x:Str} {v:V} {u:Value} {pos:Pos} (hg:Gl X x) (hm:X.mg x=some u) (r:RelV v u) (hd:(x==("__debug__":Str))=false:=by decide):PE X (.Name x pos) (tC v) :=
  fun _ _ _ H _ I h=>zjn I hg hm ⟨v,H,I,r,h⟩ hd
theorem zq5 {x:Str} {v:V} {u:Value} {pos:Pos} (hg:Gl X x) (hm:X.mg x=none) (hv:bootBuiltins x=some u) (r:RelV v u) (hn:x≠"__name__":=by decide) (hd:(x==("__debug__":Str))=false:=by decide):PE X (.Name x pos) (tC v) :=
  fun _ _ _ H _ I h=>zf5 I hg hm hv ⟨v,H,I,r,h⟩ hn hd
variable {a b:Expr} {ta tb:TE} {pos:Pos}
def PC (X:Cx) (op:CmpOp) (a b:Expr) (t:TE):Prop :=
  ∀(pins:List (Addr×Obj)) (s:Shared) (σ:St) (H:Hp) (Q:VK),Inv X pins σ H s→t σ H Q →
    wpAny (model X.prog X.w) X.A (eval a X.env) (fun v s₁=>wpAny (model X.prog X.w) X.A (eval b X.env) (fun u s₂=>wpAny (model X.prog X.w) X.A (compareOp op v u) (EP X pins σ Q) X.xe s₂) X.xe s₁) X.xe s
theorem nobehind (b:Expr) {op:CmpOp} (h:op≠.In) (h2:op≠.NotIn):behindInMarks op b=false:=by
  have e1:(op==CmpOp.In)=false:=by cases op<;>first|rfl|exact absurd rfl h
  have e2:(op==CmpOp.NotIn)=false:=by cases op<;>first|rfl|exact absurd rfl h2
  cases b<;>simp [behindInMarks,e1,e2]
def tB (t:TE):TT:=fun σ H Q=>t σ H fun x H1=>∃c,x=.bl c∧Q c H1
theorem pt_cmp {op:CmpOp} {t:TE} (h:PC X op a b t) (h1:behindInMarks op b=false:=by first|exact nobehind _ (by decide) (by decide)|rfl):PT X (.Compare a [op] [b] pos) (tB t):=show _ by
  intro pins s σ H Q I hw
  refine wpAny_isTrue_Compare1 (thn (h pins s σ H _ I hw) fun v s1 h1=>thn h1 fun u s2 h2=>thn h2 fun c s3 ⟨x,H1,I1,r1,q1⟩=>?_) h1
  obtain ⟨d,rfl,q⟩:=q1
  cases r1
  exact wpAny_truthy_bool ⟨H1,I1,q⟩
theorem pt_val {e:Expr} {t:TE} (h:PE X e t) (he:∀whole,isTrue e X.env whole=(do let v ←whole;standAt e.pos;holding [v] (truthy v)):=by intro _;rfl):PT X e (tB t):=show _ by
  intro pins s σ H Q I hw
  refine isTrue_plain (thn (h pins s σ H _ I hw) fun v s1 ⟨x,H1,I1,r1,q1⟩=>?_) (he _)
  obtain ⟨d,rfl,q⟩:=q1
  cases r1
  exact wpAny_truthy_bool ⟨H1,I1,q⟩
variable {tA tB':TT} {rest:List Expr}
def tAnd (t u:TT):TT:=fun σ H Q=>t σ H fun c H1=>if c=true then u σ H1 Q else Q false H1
def tOr (t u:TT):TT:=fun σ H Q=>t σ H fun c H1=>if c=true then Q true H1 else u σ H1 Q
def tNot (t:TT):TT:=fun σ H Q=>t σ H fun c H1=>Q (!c) H1
theorem zqn (ha:PT X a tA):PW X (.BoolOp .And [a] pos) tA:=by
  intro wh pins s σ H Q I h
  refine isTrue_and (thn (ha pins s σ H Q I h) fun c s1 e=>?_)
  cases c with
  | true=>exact isTrue_and_nil e
  | false=>exact e
theorem pw_or1 (ha:PT X a tA):PW X (.BoolOp .Or [a] pos) tA:=by
  intro wh pins s σ H Q I h
  refine isTrue_or (thn (ha pins s σ H Q I h) fun c s1 e=>?_)
  cases c with
  | false=>exact isTrue_or_nil e
  | true=>exact e
theorem pw_and (ha:PT X a tA) (hb:PW X (.BoolOp .And (b::rest) pos) tB'):PW X (.BoolOp .And (a::b::rest) pos) (tAnd tA tB'):=show _ by
  intro wh pins s σ H Q I h
  refine isTrue_and (thn (ha pins s σ H _ I h) fun c s1 ⟨H1,I1,q1⟩=>?_)
  cases c with
  | true=>exact hb wh pins s1 σ H1 Q I1 q1
  | false=>exact ⟨H1,I1,q1⟩
theorem pw_or (ha:PT X a tA) (hb:PW X (.BoolOp .Or (b::rest) pos) tB'):PW X (.BoolOp .Or (a::b::rest) pos) (tOr tA tB'):=show _ by
  intro wh pins s σ H Q I h
  refine isTrue_or (thn (ha pins s σ H _ I h) fun c s1 ⟨H1,I1,q1⟩=>?_)
  cases c with
  | true=>exact ⟨H1,I1,q1⟩
  | false=>exact hb wh pins s1 σ H1 Q I1 q1
theorem pt_not (ha:PT X a tA):PT X (.UnaryOp .Not a pos) (tNot tA):=by
  intro pins s σ H Q I h
  exact isTrue_not (ha pins s σ H (fun c H1=>Q (!c) H1) I h)
def tAndV (ta tb:TE):TE:=fun σ H Q=>ta σ H fun x H1=>∃c,x=.bl c∧if c=true then tb σ H1 Q else Q (.bl false) H1
def tNotV (ta:TE):TE:=fun σ H Q=>ta σ H fun x H1=>∃c,x=.bl c∧Q (.bl (!c)) H1
theorem pe_one {op} {t:TE} (h:PE X a t):PE X (.BoolOp op [a] pos) t:=fun pins s σ H Q I hw=>BoolOp_one (h pins s σ H Q I hw)
theorem pe_and (ha:PE X a ta) (hb:PE X (.BoolOp .And (b::rest) pos) tb):PE X (.BoolOp .And (a::b::rest) pos) (tAndV ta tb):=show _ by
  intro pins s σ H Q I h
  refine BoolOp_and (thn (ha pins s σ H _ I h) fun v s1 ⟨x,H1,I1,r1,q1⟩=>?_)
  obtain ⟨c,rfl,q1⟩:=q1
  cases r1
  refine wpAny_truthy_bool ?_
  cases c with
  | true=>exact hb pins s1 σ H1 Q I1 q1
  | false=>exact ⟨.bl false,H1,I1,rfl,q1⟩
theorem pe_not (ha:PE X a ta):PE X (.UnaryOp .Not a pos) (tNotV ta):=by
  intro pins s σ H Q I h
  refine UnaryOp_ (thn (ha pins s σ H _ I h) fun v s1 ⟨x,H1,I1,r1,q1⟩=>?_)
  obtain ⟨c,rfl,q1⟩:=q1
  cases r1
  exact not_of (wpAny_truthy_bool ⟨.bl (!c),H1,I1,rfl,q1⟩)
def tIf (t:TT) (ta tb:TE):TE:=fun σ H Q=>t σ H fun c H1=>if c=true then ta σ H1 Q else tb σ H1 Q
theorem zo0 {c:Expr} (hc:PT X c tA) (ha:PE X a ta) (hb:PE X b tb):PE X (.IfExp c a b pos) (tIf tA ta tb):=show _ by
  intro pins s σ H Q I h
  refine wpAny_IfExp (thn (hc pins s σ H _ I h) fun d s1 ⟨H1,I1,q1⟩=>?_)
  cases d with
  | true=>exact ha pins s1 σ H1 Q I1 q1
  | false=>exact hb pins s1 σ H1 Q I1 q1
end
end L2
namespace L2
open PySem PySem.Spec PyProof.Rows
def SqL (K:PySem.W.Frag) (H:Hp) (a:Addr) (xs:List V):Prop :=
  Rd H a (.lst xs) ∨
    ∃(o:Obj) (its:Array Value) (n:Nat),K.lookup a=some o∧o.cls=.type "list"∧o.dict=none∧o.data=.seq its n∧its.size≤sizeLine∧Vals xs its.toList
def SqT (K:PySem.W.Frag) (H:Hp) (a:Addr) (xs:List V):Prop :=
  Rd H a (.tup xs) ∨
    ∃(o:Obj) (its:Array Value) (n:Nat),K.lookup a=some o∧o.cls=.type "tuple"∧o.dict=none∧o.data=.seq its n∧its.size≤sizeLine∧Vals xs its.toList
noncomputable def absV:Value→Option V
  | .none=>some .non
  | .bool b=>some (.bl b)
  | .int i _=>some (.int i)
  | .str x _=>some (.str x)
  | .bytes b _=>some (.byt b)
  | .float b _=>some (.flt b)
  | .ref a=>some (.ref a)
  | .type n=>some (.ty n)
  | _=>none
theorem RelV.abs {x:V} {u:Value} (r:RelV x u):absV u=some x:=show _ by
  cases x with
  | non=>cases r;rfl
  | bl _=>cases r;rfl
  | int _=>obtain ⟨t,rfl⟩:=r;rfl
  | str _=>obtain ⟨t,rfl⟩:=r;rfl
  | byt _=>obtain ⟨t,rfl⟩:=r;rfl
  | flt _=>obtain ⟨t,rfl⟩:=r;rfl
  | ref _=>cases r;rfl
  | ty _=>cases r;rfl
theorem RelV.inj {x y:V} {u:Value} (r:RelV x u) (q:RelV y u):x=y:=Option.some.inj (r.abs.symm.trans q.abs)
theorem Vals.inj:∀{xs ys:List V} {us:List Value},Vals xs us→Vals ys us→xs=ys
  | _,_,_,.nil,.nil=>rfl
  | _,_,_,.cons r t,.cons r' t'=>by rw [r.inj r',Vals.inj t t']
section
variable {X:Cx} {pins:List (Addr×Obj)} {σ:St} {H:Hp} {s:Shared} {a:Addr} {xs ys:List V}
theorem SqL.of {K:PySem.W.Frag} (h:H a=some (.lst xs)):SqL K H a xs:=.inl (.inl h)
theorem SqT.of {K:PySem.W.Frag} (h:H a=some (.tup xs)):SqT K H a xs:=.inl (.inl h)
theorem Inv.list (I:Inv X pins σ H s) (h:SqL X.K H a xs):∃its:List Value,Vals xs its∧PlainL s.heap a its.toArray∧xs.length≤sizeLine:=show _ by
  rcases h with h|⟨o,its,n,hk,hc,hd,hs,hz,r⟩
  · obtain ⟨z,its,n,r,e⟩:=h.ok I.hok
    exact ⟨its,r,⟨_,n,e,rfl,rfl,rfl⟩,z⟩
  · refine ⟨its.toList,r,⟨o,n,I.kIn a o hk,hc,hd,by simpa using hs⟩,?_⟩
    have e:=r.length
    simp only [Array.length_toList] at e
    omega
theorem Inv.tuple (I:Inv X pins σ H s) (h:SqT X.K H a xs):∃its:List Value,Vals xs its∧IsTup s.heap a its.toArray∧xs.length≤sizeLine:=show _ by
  rcases h with h|⟨o,its,n,hk,hc,_,hs,hz,r⟩
  · obtain ⟨z,its,r,p,_⟩:=h.ok I.hok
    exact ⟨its,r,p,z⟩
  · refine ⟨its.toList,r,⟨o,I.kIn a o hk,hc,n,by simpa using hs⟩,?_⟩
    have e:=r.length
    simp only [Array.length_toList] at e
    omega
theorem Inv.list_inj (I:Inv X pins σ H s) (h:SqL X.K H a xs) (h':SqL X.K H a ys):xs=ys:=show _ by
  obtain ⟨its,r,⟨o,n,e,_,_,d⟩,_⟩:=I.list h
  obtain ⟨its',r',⟨o',n',e',_,_,d'⟩,_⟩:=I.list h'
  rw [e] at e';cases e'
  rw [d] at d'
  injection d' with d1 _
  have:its=its':=by simpa using congrArg Array.toList d1
  subst this
  exact r.inj r'
theorem Inv.tuple_inj (I:Inv X pins σ H s) (h:SqT X.K H a xs) (h':SqT X.K H a ys):xs=ys:=show _ by
  obtain ⟨its,r,⟨o,e,_,n,d⟩,_⟩:=I.tuple h
  obtain ⟨its',r',⟨o',e',_,n',d'⟩,_⟩:=I.tuple h'
  rw [e] at e';cases e'
  rw [d] at d'
  injection d' with d1 _
  have:its=its':=by simpa using congrArg Array.toList d1
  subst this
  exact r.inj r'
end
noncomputable abbrev Cx.wish (X:Cx) (E:Value→Shared→Prop):Cx:={X with xe:=E}
noncomputable abbrev Cx.nox (X:Cx):Cx:=X.wish fun _ _=>False
theorem Cx.Ok.wish {X:Cx} (ok:X.Ok) (E:Value→Shared→Prop):(X.wish E).Ok :=
  ⟨ok.mod,ok.kind,ok.glob,ok.blt,ok.above,ok.inj,ok.has,ok.cab,ok.hd,ok.frames,ok.stk,ok.exf,ok.bs,ok.bsz,ok.noex,ok.exfs,ok.funs,ok.frf⟩
theorem Cx.Ok.unwish {X:Cx} {E:Value→Shared→Prop} (ok:(X.wish E).Ok):X.Ok :=
  ⟨ok.mod,ok.kind,ok.glob,ok.blt,ok.above,ok.inj,ok.has,ok.cab,ok.hd,ok.frames,ok.stk,ok.exf,ok.bs,ok.bsz,ok.noex,ok.exfs,ok.funs,ok.frf⟩
section
variable {X:Cx} {pins:List (Addr×Obj)} {σ:St} {H:Hp} {s:Shared} {E:Value→Shared→Prop}
theorem Inv.wish (I:Inv X pins σ H s) (E:Value→Shared→Prop):Inv (X.wish E) pins σ H s:=⟨I.ok.wish E,I.os,I.bare,I.base,I.loc,I.cell,I.free,I.freeC,I.pin,I.hok,I.len⟩
theorem Inv.unwish (I:Inv (X.wish E) pins σ H s):Inv X pins σ H s:=⟨I.ok.unwish,I.os,I.bare,I.base,I.loc,I.cell,I.free,I.freeC,I.pin,I.hok,I.len⟩
theorem SP.unwish {D:Ends} {f:Flow} {s':Shared} (h:SP (X.wish E) pins D f s'):SP X pins D f s':=show _ by
  cases f with
  | next=>obtain ⟨σ',H',I,q⟩:=h;exact ⟨σ',H',I.unwish,q⟩
  | brk=>obtain ⟨σ',H',I,q⟩:=h;exact ⟨σ',H',I.unwish,q⟩
  | cont=>obtain ⟨σ',H',I,q⟩:=h;exact ⟨σ',H',I.unwish,q⟩
  | ret u=>obtain ⟨v,σ',H',I,r,q⟩:=h;exact ⟨v,σ',H',I.unwish,r,q⟩
theorem PSs.nox {st:List Stmt} {t:TS} (h:PSs X.nox st t):PSs X st t:=fun pins s σ H D I hw =>
  wpAny_mono (h pins s σ H D (I.wish _) hw) (fun _ _ q=>q.unwish) fun _ _ z=>False.elim z
end
section
variable {X:Cx} {st:Stmt} {rest:List Stmt} {t u:TS} {e:Expr} {te:TE} {pos:Pos}
def tNext:TS:=fun D σ H=>D.nx σ H
def tSeq (t u:TS):TS:=fun D σ H=>t {D with nx:=u D} σ H
theorem zqr:PSs X [] tNext:=fun _ _ σ H _ I h=>wpAny_execs_nil ⟨σ,H,I,h⟩
theorem zor (h1:PS X st t) (h2:PSs X rest u):PSs X (st::rest) (tSeq t u):=show _ by
  intro pins s σ H D I h
  refine wpAny_execs_cons (thn (h1 pins s σ H {D with nx:=u D} I h) fun f s1 q=>?_)
  cases f with
  | next =>
    obtain ⟨σ',H',I',q⟩:=q
    exact h2 pins s1 σ' H' D I' q
  | ret v=>exact q
  | brk=>exact q
  | cont=>exact q
theorem zqq (h1:PS X st t):PSs X [st] t:=by
  intro pins s σ H D I h
  refine wpAny_execs_cons (thn (h1 pins s σ H D I h) fun f s1 q=>?_)
  cases f with
  | next=>exact wpAny_execs_nil q
  | ret v=>exact q
  | brk=>exact q
  | cont=>exact q
theorem Inv.quiet {pins:List (Addr×Obj)} {σ:St} {H:Hp} {s:Shared} (I:Inv X pins σ H s):interactive X.env=false:=by simp [interactive,I.ok.kind]
def tDrop (te:TE):TS:=fun D σ H=>te σ H fun _ H1=>D.nx σ H1
theorem zqs (he:PE X e te) (hs:swapsWith e none pos.line X.env=pure false:=by rfl):PS X (.Expr e pos) (tDrop te):=by
  intro pins s σ H D I h
  exact wpAny_Expr_any (thn (he pins s σ H _ I h) fun v s1 z_4=>by obtain ⟨x,H1,I1,r1,q1⟩:=z_4;exact ⟨σ,H1,I1,q1⟩) I.quiet hs
def tRet (te:TE):TS:=fun D σ H=>te σ H D.rt
theorem ps_ret (he:PE X e te):PS X (.Return (some e) pos) (tRet te):=by
  intro pins s σ H D I h
  exact wpAny_Return_some (thn (he pins s σ H _ I h) fun v s1 z_5=>by obtain ⟨x,H1,I1,r1,q1⟩:=z_5;exact ⟨x,σ,H1,I1,r1,q1⟩)
def tIfS (c:TT) (t u:TS):TS:=fun D σ H=>c σ H fun b H1=>if b=true then t D σ H1 else u D σ H1
theorem ps_if {c:Expr} {a b:List Stmt} {tc:TT} (hc:PT X c tc) (ha:PSs X a t) (hb:PSs X b u):PS X (.If c a b pos) (tIfS tc t u):=show _ by
  intro pins s σ H D I h
  refine wpAny_If (thn (hc pins s σ H _ I h) fun d s1 ⟨H1,I1,q1⟩=>?_)
  cases d with
  | true=>exact ha pins s1 σ H1 D I1 q1
  | false=>exact hb pins s1 σ H1 D I1 q1
def tNever:TS:=fun _ _ _=>False
theorem zot:PS X st tNever:=fun _ _ _ _ _ _ h=>h.elim
end
noncomputable abbrev TG:=V→St→Hp→(St→Hp→Prop)→Prop
noncomputable abbrev TGs:=List V→St→Hp→(St→Hp→Prop)→Prop
def PG (X:Cx) (target:Expr) (t:TG):Prop :=
  ∀(pins:List (Addr×Obj)) (s:Shared) (σ:St) (H:Hp) (v:V) (u:Value) (Q:St→Hp→Prop),Inv X pins σ H s→RelV v u→t v σ H Q →
    wpAny (model X.prog X.w) X.A (assign target X.env u) (fun _ s'=>∃σ' H',Inv X pins σ' H' s'∧Q σ' H') X.xe s
def PGs (X:Cx) (ts:List Expr) (t:TGs):Prop :=
  ∀(pins:List (Addr×Obj)) (s:Shared) (σ:St) (H:Hp) (vs:List V) (us:List Value) (Q:St→Hp→Prop),Inv X pins σ H s→Vals vs us→t vs σ H Q →
    wpAny (model X.prog X.w) X.A (assignInOrder ((assignEach ts X.env).map (·.2)) us) (fun _ s'=>∃σ' H',Inv X pins σ' H' s'∧Q σ' H') X.xe s
noncomputable abbrev TSet:=V→V→V→Hp→(Hp→Prop)→Prop
def PSet (X:Cx) (t:TSet):Prop :=
  ∀(pins:List (Addr×Obj)) (s:Shared) (σ:St) (H:Hp) (o i v:V) (ov iv u:Value) (Q:Hp→Prop),Inv X pins σ H s→RelV o ov→RelV i iv→RelV v u→t o i v H Q →
    wpAny (model X.prog X.w) X.A (setItem ov iv u) (fun _ s'=>∃H',Inv X pins σ H' s'∧Q H') X.xe s
noncomputable abbrev TIp:=V→V→Hp→VK→Prop
def PIp (X:Cx) (op:Operator) (t:TIp):Prop :=
  ∀(pins:List (Addr×Obj)) (s:Shared) (σ:St) (H:Hp) (x y:V) (v u:Value) (Q:VK),Inv X pins σ H s→RelV x v→RelV y u→t x y H Q →
    wpAny (model X.prog X.w) X.A (inplaceOp op v u) (EP X pins σ Q) X.xe s
section
variable {X:Cx} {pos:Pos}
def gName (i:Nat):TG:=fun v σ H Q=>Q (σ.set i (some v)) H
theorem zmp {i:Nat} {x:Str} (hN:X.N.Nodup) (hi:X.N[i]?=some x) (hx:Loc X.env.scope x) (hf:X.fn x=true∨X.env.scope.names.lookup x=some .local:=by first|exact .inl rfl|exact .inr rfl|assumption):PG X (.Name x pos) (gName i):=show _ by
  intro pins s σ H v u Q I r h
  exact wpAny_assign_Name (zhj I hN hi hx r (fun s' I'=>⟨_,H,I',h⟩) hf)
noncomputable def gNil:TGs:=fun vs σ H Q=>vs=[]∧Q σ H
noncomputable def gCons (t:TG) (u:TGs):TGs:=fun vs σ H Q=>∃v r,vs=v::r∧t v σ H fun σ' H'=>u r σ' H' Q
theorem zq0:PGs X [] gNil:=by
  intro pins s σ H vs us Q I r h
  obtain ⟨e,h⟩:=h
  subst e
  cases r
  exact assignInOrder_nil ⟨σ,H,I,h⟩
theorem zow {e:Expr} {es:List Expr} {t:TG} {u:TGs} (h1:PG X e t) (h2:PGs X es u)
    (hs:(assignEach (e::es) X.env).map (·.2)=assign e X.env::(assignEach es X.env).map (·.2):=by rfl):PGs X (e::es) (gCons t u):=show _ by
  intro pins s σ H vs us Q I r h
  obtain ⟨v,vr,e1,h⟩:=h
  subst e1
  cases r with
  | cons r rr =>
    rw [hs]
    refine assignInOrder_cons (thn (h1 pins s σ H _ _ _ I r h) fun _ s1 ⟨σ1,H1,I1,q1⟩=>?_)
    exact h2 pins s1 σ1 H1 _ _ Q I1 rr q1
def gTup (K:PySem.W.Frag) (n:Nat) (t:TGs):TG:=fun v σ H Q=>∃a xs,v=.ref a∧SqT K H a xs∧xs.length=n∧t xs σ H Q
theorem pg_tup {es:List Expr} {k:Nat} {t:TGs} {n:Nat} (hc:X.calm=true) (h:PGs X es t)
    (hn:(assignEach es X.env).length=n:=by rfl) (hst:(assignEach es X.env).findIdx? (·.1)=none:=by rfl):PG X (.Tuple es k pos) (gTup X.K n t):=show _ by
  intro pins s σ H v u Q I r hw
  obtain ⟨a,xs,e1,hq,hl,hw⟩:=hw
  subst e1
  cases r
  obtain ⟨its,rv,ht,hz⟩:=I.tuple hq
  refine assign_Tuple_tuple (I.ok.hd hc) ht (by simp [hn,←hl,rv.length]) hst fun h' hx=>?_
  have I1:Inv X pins σ H {s with heap:=h'}:=I.kept (t':=s.toks) fun b o e=>hx b o (Nat.ne_of_lt (Heap.lt_size e)) e
  exact h pins _ σ H xs _ Q I1 (by simpa using rv) hw
def gSub (to ti:TE) (t:TSet):TG:=fun v σ H Q=>to σ H fun o H1=>ti σ H1 fun i H2=>t o i v H2 fun H3=>Q σ H3
theorem pg_sub {o i:Expr} {to ti:TE} {t:TSet} (ho:PE X o to) (hi:PE X i ti) (hs:PSet X t)
    (ha:∀v,assign (.Subscript o i pos) X.env v=(do
      let ov ←holding [v] (eval o X.env)
      let iv ←holding [v,ov] (eval i X.env)
      standAt pos
      holding [v,ov,iv] (setItem ov iv v)
      release [v,ov,iv] []):=by intro _;rfl):PG X (.Subscript o i pos) (gSub to ti t):=show _ by
  intro pins s σ H v u Q I r h
  rw [ha]
  refine wpAny_bind (wpAny_holding (thn (ho pins s σ H _ I h) fun ov s1 ⟨x,H1,I1,r1,q1⟩=>?_))
  refine wpAny_bind (wpAny_holding (thn (hi pins s1 σ H1 _ I1 q1) fun iv s2 ⟨y,H2,I2,r2,q2⟩=>?_))
  refine wpAny_bind (wpAny_standAt (wpAny_bind (wpAny_holding (thn (hs pins s2 σ H2 x y v ov iv u _ I2 r1 r2 r q2) fun _ s3 ⟨H3,I3,q3⟩=>?_))))
  exact wpAny_release ⟨σ,H3,I3,q3⟩
def tAsg (te:TE) (g:TG):TS:=fun D σ H=>te σ H fun x H1=>g x σ H1 D.nx
theorem ps_asg {tg e:Expr} {te:TE} {g:TG} (he:PE X e te) (hg:PG X tg g) (hs:swapsWithSole [tg] e pos.line X.env=pure false:=by rfl) (hw:swappedStores [tg] e X.env=pure none:=by rfl)
    (h1:(assignEach [tg] X.env).map (·.2)=[assign tg X.env]:=by rfl):PS X (.Assign [tg] e pos) (tAsg te g):=show _ by
  intro pins s σ H D I h
  refine wpAny_Assign_stores (thn (he pins s σ H _ I h) fun v s1 ⟨x,H1,I1,r1,q1⟩=>?_) hs hw
  rw [h1]
  exact thn (hg pins s1 σ H1 x v _ I1 r1 q1) fun _ s2 q=>q
theorem ps_set {i:Nat} {x:Str} {e:Expr} {te:TE} {pos':Pos} (hN:X.N.Nodup) (hi:X.N[i]?=some x) (hx:Loc X.env.scope x) (he:PE X e te) (hs:swapsWith e (some (.Name x pos')) pos.line X.env=pure false:=by rfl) (hf:X.fn x=true∨X.env.scope.names.lookup x=some .local:=by first|exact .inl rfl|exact .inr rfl|assumption) :
    PS X (.Assign [.Name x pos'] e pos) (tAsg te (gName i)):=show _ by
  intro pins s σ H D I h
  refine wpAny_Assign_Name (thn (he pins s σ H _ I h) fun v s1 ⟨y,H1,I1,r1,q1⟩=>?_) hs
  exact zhj I1 hN hi hx r1 (fun s2 I2=>⟨_,H1,I2,q1⟩) hf
def tAug (i:Nat) (te:TE) (ti:TIp):TS:=fun D σ H=>∃x,σ[i]?=some (some x)∧te σ H fun y H1=>ti x y H1 fun z H2=>D.nx (σ.set i (some z)) H2
theorem ps_aug {i:Nat} {x:Str} {e:Expr} {te:TE} {op:Operator} {ti:TIp} {pos':Pos} (hN:X.N.Nodup) (hi:X.N[i]?=some x) (hx:Loc X.env.scope x) (he:PE X e te) (ho:PIp X op ti) (hf:X.fn x=true∨X.env.scope.names.lookup x=some .local:=by first|exact .inl rfl|exact .inr rfl|assumption) :
    PS X (.AugAssign (.Name x pos') op e pos) (tAug i te ti):=show _ by
  intro pins s σ H D I h
  obtain ⟨v,e1,h⟩:=h
  obtain ⟨m,hn,hl⟩:=I.loc
  have vis:Vis X.env.scope x:=by rcases hx with k|k;exact .inl k;exact .inr (.inl k)
  obtain ⟨u,r,l⟩:=hl i x v hi e1 vis
  refine wpAny_AugAssign_Name ?_
  have go:wpAny (model X.prog X.w) X.A (eval e X.env) (fun w s₂=>wpAny (model X.prog X.w) X.A (inplaceOp op u w) (fun r s₃=>wpAny (model X.prog X.w) X.A (storeName X.env x r) (fun _=>SP X pins D .next) X.xe s₃) X.xe s₂) X.xe s:=by
    refine thn (he pins s σ H _ I h) fun w s1 ⟨y,H1,I1,r1,q1⟩=>?_
    refine thn (ho pins s1 σ H1 v y u w _ I1 r r1 q1) fun z s2 ⟨zv,H2,I2,r2,q2⟩=>?_
    exact zhj I2 hN hi hx r2 (fun s3 I3=>⟨_,H2,I3,q2⟩) hf
  rcases l with ⟨hk,hm⟩|⟨hk,c,hc,hcell⟩
  · exact wpAny_loadName_local I.ok.kind hk hn hm go
  · rcases hk with hk|hk
    · exact wpAny_loadName_cell I.ok.kind hk hc hcell go
    · rcases hx with k|k
      · have:X.env.scope.names.lookup x=some .free:=hk
        rw [k] at this;cases this
      · have:X.env.scope.names.lookup x=some .free:=hk
        rw [k] at this;cases this
noncomputable def ipI (f:Int→Int→Int):TIp:=fun x y H Q=>∃i j,x=.int i∧y=.int j∧Q (.int (f i j)) H
theorem zpx:PIp X .Add (ipI fun i j=>i+j):=by
  intro pins s σ H x y v u Q I r1 r2 h
  obtain ⟨i,j,e1,e2,q⟩:=h
  subst e1;subst e2
  obtain ⟨t,rfl⟩:=r1
  obtain ⟨t',rfl⟩:=r2
  exact iadd_int ⟨.int _,H,I.tok _,⟨_,rfl⟩,q⟩
theorem ip_sub:PIp X .Sub (ipI fun i j=>i-j):=by
  intro pins s σ H x y v u Q I r1 r2 h
  obtain ⟨i,j,e1,e2,q⟩:=h
  subst e1;subst e2
  obtain ⟨t,rfl⟩:=r1
  obtain ⟨t',rfl⟩:=r2
  exact isub_int ⟨.int _,H,I.tok _,⟨_,rfl⟩,q⟩
end
section
variable {X:Cx} {pos:Pos}
def tWhile (c:TT) (tb:TS):TS:=fun D σ H=>∃W:Nat→St→Hp→Prop,(∃m,W m σ H)∧∀m σ H,W m σ H →
  c σ H fun b H1=>if b=true then ∃N:St→Hp→Prop,(∀σ' H',N σ' H'→∃m',m'<m∧W m' σ' H')∧tb {D with nx:=N,ct:=N,bk:=D.nx} σ H1 else D.nx σ H1
theorem zos {c:Expr} {body:List Stmt} {tc:TT} {tb:TS} (hp:PassesOwn (model X.prog X.w) X.A X.env X.xe) (hc:PT X c tc) (hb:PSs X body tb):PS X (.While c body [] pos) (tWhile tc tb):=show _ by
  intro pins s σ H D I h
  obtain ⟨W,⟨m0,w0⟩,turn⟩:=h
  refine wpAny_While (codeAny_whileLoop (fun n s'=>∃σ' H',Inv X pins σ' H' s'∧W n σ' H') ?_ m0 ⟨σ,H,I,w0⟩)
  rintro n s1 ⟨σ1,H1,I1,w1⟩
  refine wpAny_passesOwn hp (thn (hc pins s1 σ1 H1 _ I1 (turn n σ1 H1 w1)) fun b s2 ⟨H2,I2,q2⟩=>?_)
  cases b with
  | true =>
    obtain ⟨N,hN,q2⟩:=q2
    rw [if_pos rfl]
    refine wpAny_passesOwn hp (thn (hb pins s2 σ1 H2 _ I2 q2) fun f s3 q3=>?_)
    cases f with
    | next =>
      obtain ⟨σ3,H3,I3,n3⟩:=q3
      obtain ⟨m',hm,w3⟩:=hN σ3 H3 n3
      exact ⟨m',hm,σ3,H3,I3,w3⟩
    | cont =>
      obtain ⟨σ3,H3,I3,n3⟩:=q3
      obtain ⟨m',hm,w3⟩:=hN σ3 H3 n3
      exact ⟨m',hm,σ3,H3,I3,w3⟩
    | brk=>exact q3
    | ret v=>exact q3
  | false =>
    rw [if_neg Bool.false_ne_true]
    exact wpAny_execs_nil ⟨σ1,H2,I2,q2⟩
end
structure It where
  go:Nat→Hp→Prop
  yld:Nat→Hp→V→Hp→Prop
  stop:Nat→Hp→Prop
def FpOk (X:Cx) (pins:List (Addr×Obj)) (H:Hp) (b:Addr):Prop :=
  H b=none∧b≠X.env.locals∧b∉X.fs∧(b∈X.ex∨X.s₀.heap.objs.size≤b)∧(∀x c,X.env.cells.lookup x=some c→c≠b)∧∀p∈X.pn++pins,p.1≠b
theorem Inv.fpOk {X:Cx} {pins:List (Addr×Obj)} {σ:St} {H H':Hp} {s:Shared} {b:Addr} (I:Inv X pins σ H s) (hb:s.heap.objs.size≤b) (hn:H' b=none):FpOk X pins H' b:=show _ by
  refine ⟨hn,Nat.ne_of_gt (Nat.lt_of_lt_of_le I.lt hb),I.nofs hb,.inr (Nat.le_trans I.sz hb),fun x c e z=>?_,fun p hp z=>?_⟩
  · obtain ⟨v,q⟩:=I.cell x c e
    exact absurd (Nat.lt_of_lt_of_le q.lt (by rw [z];exact hb)) (Nat.lt_irrefl _)
  · exact absurd (Nat.lt_of_lt_of_le (Heap.lt_size (I.pin p hp).1) (by rw [z];exact hb)) (Nat.lt_irrefl _)
structure Turn (P:Program) (w:World) (K:PySem.W.Frag) (tg:Expr) (J:It) (fp:List Addr) (it:Addr) (tn:Nat→Heap→Prop):Prop where
  mem:it∈fp
  obj:∀i h,tn i h→∀b∈fp,∃o,h.get? b=some o∧∀v,o.data≠.cell v
  keep:∀i h h',tn i h→(∀b∈fp,∀o,h.get? b=some o→h'.get? b=some o)→tn i h'
  item:∀(X:Cx),X.prog=P→X.w=w→X.K=K→X.calm=true→∀(i:Nat) (pins:List (Addr×Obj)) (s:Shared) (σ:St) (H:Hp) (E:Value→Shared→Prop),Inv X pins σ H s→(∀b∈fp,FpOk X pins H b)→tn i s.heap→J.go i H →
    wpAny (model P w) X.A (pyNext (.ref it)) (fun r s1=>∃u,r=some u ∧
      wpAny (model P w) X.A (letOwnedTupleGo tg (.ref it) u) (fun _ s2=>∃x H',Inv X pins σ H' s2∧RelV x u∧J.yld i H x H'∧tn (i+1) s2.heap∧∀b∈fp,H' b=none) E s1) E s
  done:∀(X:Cx),X.prog=P→X.w=w→X.K=K→X.calm=true→∀(i:Nat) (pins:List (Addr×Obj)) (s:Shared) (σ:St) (H:Hp) (E:Value→Shared→Prop),Inv X pins σ H s→(∀b∈fp,FpOk X pins H b)→tn i s.heap→J.stop i H →
    wpAny (model P w) X.A (pyNext (.ref it)) (fun r s1=>r=none∧Inv X pins σ H s1) E s
  self:∀(A:Around) (i:Nat) (s:Shared) (Q:Value→Shared→Prop) (E:Value→Shared→Prop),tn i s.heap→Q (.ref it) s→wpAny (model P w) A (pyIter (.ref it)) Q E s
noncomputable abbrev TI:=St→Hp→(It→Hp→Prop)→Prop
def PIE (X:Cx) (pins:List (Addr×Obj)) (σ:St) (tg:Expr) (R:It→Hp→Prop) (itv:Value) (s2:Shared):Prop :=
  ∃(it:Addr) (fp:List Addr) (tn:Nat→Heap→Prop) (J:It) (H':Hp),itv=.ref it∧Inv X pins σ H' s2∧Turn X.prog X.w X.K tg J fp it tn∧tn 0 s2.heap∧(∀b∈fp,FpOk X pins H' b)∧R J H'
def PI (X:Cx) (tg iter:Expr) (wi:TI):Prop :=
  ∀(pins:List (Addr×Obj)) (s:Shared) (σ:St) (H:Hp) (R:It→Hp→Prop),Inv X pins σ H s→wi σ H R →
    wpAny (model X.prog X.w) X.A (eval iter X.env) (fun v s1=>wpAny (model X.prog X.w) X.A (pyIter v) (PIE X pins σ tg R) X.xe s1) X.xe s
theorem zni {M:Model} {A:Around} {E:Value→Shared→Prop} {s:Shared} {tg:Expr} {it:Addr} {u:Value} {o:Obj} {n:String} {vs:Array Value} {Q:Unit→Shared→Prop} (ho:s.heap.get? it=some o) (hc:o.cls=.type n) (hd:o.data=.fields vs)
    (hn:["enumerate","zip","dict_itemiterator","dict_reverseitemiterator","odict_iterator","itertools.zip_longest","itertools.pairwise"].contains n=false) (hQ:Q () s):wpAny M A (letOwnedTupleGo tg (.ref it) u) Q E s:=show _ by
  unfold letOwnedTupleGo
  cases tg<;>first
    | exact wpAny_pure hQ
    | (cases u<;>first
        | exact wpAny_pure hQ
        | (refine wpAny_bind (wpAny_load ho ?_)
           rw [hc,hd]
           show wpAny M A (if (["enumerate","zip","dict_itemiterator","dict_reverseitemiterator","odict_iterator","itertools.zip_longest","itertools.pairwise"].contains n&&vs[0]?==some (rawInt _))=true then _ else _) Q E s
           rw [if_neg (by intro h;rw [hn,Bool.false_and] at h;cases h)]
           exact wpAny_pure hQ))
noncomputable def Itl (K:PySem.W.Frag) (a:Addr):It :=
  ⟨fun i H=>∃xs x,SqL K H a xs∧xs[i]?=some x,fun i H x H'=>H'=H∧∀xs,SqL K H a xs→xs[i]?=some x,fun i H=>∃xs,SqL K H a xs∧xs.length≤i⟩
noncomputable def Itt (K:PySem.W.Frag) (a:Addr):It :=
  ⟨fun i H=>∃xs x,SqT K H a xs∧xs[i]?=some x,fun i H x H'=>H'=H∧∀xs,SqT K H a xs→xs[i]?=some x,fun i H=>∃xs,SqT K H a xs∧xs.length≤i⟩
noncomputable def Itr (lo:Int) (n:Nat):It:=⟨fun i _=>i<n,fun i H x H'=>H'=H∧x=.int (lo+i),fun i _=>n≤i⟩
theorem zlx {P:Program} {w:World} {K:PySem.W.Frag} {tg:Expr} (a it:Addr):Turn P w K tg (Itl K a) [it] it (fun i h=>h.IsListIter it a i) where
  mem:=show _ by simp
  obj:=fun i h st b hb=>by
    have e:b=it:=by simpa using hb
    subst e
    obtain ⟨o,e,c,d⟩:=st
    exact ⟨o,e,fun v z=>by rw [d] at z;cases z⟩
  keep:=fun i h h' st k=>st.at fun o e=>k it (by simp) o e
  item:=by
    intro X hP hw hK hc i pins s σ H E I hf st hg
    subst hP hw hK
    obtain ⟨xs,x,hq,hx⟩:=hg
    obtain ⟨its,rv,p,hz⟩:=I.list hq
    obtain ⟨u,hu,ru⟩:=rv.get hx
    obtain ⟨f0,f1,f2,f3,f4,f5⟩:=hf it (by simp)
    refine wpAny_pyNext_list_item st p.isList (x:=u) (by simpa using hu) fun h' st' sb=>?_
    have I1:Inv X pins σ H {s with heap:=h'}:=I.turned (t':=s.toks) (fun b o hb e=>(sb.2 b hb).trans e) f0 f1 f3 f4 f5
    obtain ⟨o,e,c,d⟩:=id st'
    exact ⟨u,rfl,zni (s:={s with heap:=h'}) e c d (by decide) ⟨x,H,I1,ru,⟨rfl,fun ys hy=>by rw [I.list_inj hy hq];exact hx⟩,st',fun b hb=>(hf b hb).1⟩⟩
  done:=by
    intro X hP hw hK hc i pins s σ H E I hf st hg
    subst hP hw hK
    obtain ⟨xs,hq,hx⟩:=hg
    obtain ⟨its,rv,p,hz⟩:=I.list hq
    obtain ⟨f0,f1,f2,f3,f4,f5⟩:=hf it (by simp)
    have hl:=rv.length
    exact wpAny_pyNext_list_end (I.ok.hd hc) st p.isList (by simp;omega) fun h' eb=>⟨rfl,I.turned (t':=s.toks) (fun b o hb e=>eb b o hb e) f0 f1 f3 f4 f5⟩
  self:=fun _ _ _ _ _ st h=>wpAny_pyIter_listiter st h
theorem zkm {P:Program} {w:World} {K:PySem.W.Frag} {tg:Expr} (a it:Addr):Turn P w K tg (Itt K a) [it] it (fun i h=>h.IsTupleIter it a i) where
  mem:=show _ by simp
  obj:=fun i h st b hb=>by
    have e:b=it:=by simpa using hb
    subst e
    obtain ⟨o,e,c,d⟩:=st
    exact ⟨o,e,fun v z=>by rw [d] at z;cases z⟩
  keep:=fun i h h' st k=>st.at fun o e=>k it (by simp) o e
  item:=by
    intro X hP hw hK hc i pins s σ H E I hf st hg
    subst hP hw hK
    obtain ⟨xs,x,hq,hx⟩:=hg
    obtain ⟨its,rv,p,hz⟩:=I.tuple hq
    obtain ⟨u,hu,ru⟩:=rv.get hx
    obtain ⟨f0,f1,f2,f3,f4,f5⟩:=hf it (by simp)
    refine wpAny_pyNext_tuple_item st (show s.heap.IsTuple a its.toArray from p) (x:=u) (by simpa using hu) fun h' st' sb=>?_
    have I1:Inv X pins σ H {s with heap:=h'}:=I.turned (t':=s.toks) (fun b o hb e=>(sb.2 b hb).trans e) f0 f1 f3 f4 f5
    obtain ⟨o,e,c,d⟩:=id st'
    exact ⟨u,rfl,zni (s:={s with heap:=h'}) e c d (by decide) ⟨x,H,I1,ru,⟨rfl,fun ys hy=>by rw [I.tuple_inj hy hq];exact hx⟩,st',fun b hb=>(hf b hb).1⟩⟩
  done:=by
    intro X hP hw hK hc i pins s σ H E I hf st hg
    subst hP hw hK
    obtain ⟨xs,hq,hx⟩:=hg
    obtain ⟨its,rv,p,hz⟩:=I.tuple hq
    obtain ⟨f0,f1,f2,f3,f4,f5⟩:=hf it (by simp)
    have hl:=rv.length
    exact wpAny_pyNext_tuple_end (I.ok.hd hc) st (show s.heap.IsTuple a its.toArray from p) (by simp;omega) fun h' eb=>⟨rfl,I.turned (t':=s.toks) (fun b o hb e=>eb b o hb e) f0 f1 f3 f4 f5⟩
  self:=fun _ _ _ _ _ st h=>wpAny_pyIter_tupleiter st h
theorem zkn {P:Program} {w:World} {K:PySem.W.Frag} {tg:Expr} (it:Addr) (lo:Int) (n:Nat):Turn P w K tg (Itr lo n) [it] it (fun i h=>IsRangeIter h it (lo+(i:Nat)*1) ((n:Int)-(i:Nat)) 1) where
  mem:=show _ by simp
  obj:=fun i h st b hb=>by
    have e:b=it:=by simpa using hb
    subst e
    exact ⟨_,st,fun v z=>by
      have z':Data.fields _=Data.cell v:=z
      cases z'⟩
  keep:=fun i h h' st k=>k it (by simp) _ st
  item:=by
    intro X hP hw hK hc i pins s σ H E I hf st hg
    subst hP hw hK
    obtain ⟨f0,f1,f2,f3,f4,f5⟩:=hf it (by simp)
    have W:=Walks.range (prog:=X.prog) (w:=X.w) (I.ok.hd hc) it lo 1 n
    refine W.item i s _ _ hg st fun v h' tk hv st' kk=>?_
    obtain ⟨t,rfl⟩:=hv
    have I1:Inv X pins σ H {s with heap:=h',toks:=tk}:=I.turned (fun b o hb e=>kk b o (by simpa using hb) e) f0 f1 f3 f4 f5
    refine ⟨_,rfl,zni (s:={s with heap:=h',toks:=tk}) (n:="range_iterator") st' rfl rfl (by decide) ⟨.int (lo+i),H,I1,⟨t,?_⟩,⟨rfl,rfl⟩,st',fun b hb=>(hf b hb).1⟩⟩
    rw [Int.mul_one]
  done:=by
    intro X hP hw hK hc i pins s σ H E I hf st hg
    subst hP hw hK
    obtain ⟨f0,f1,f2,f3,f4,f5⟩:=hf it (by simp)
    exact wpAny_pyNext_range_end (I.ok.hd hc) st (by have:n≤i:=hg;omega) fun h' eb=>⟨rfl,I.turned (t':=s.toks) (fun b o hb e=>eb b o hb e) f0 f1 f3 f4 f5⟩
  self:=fun _ _ _ _ _ st h=>wpAny_pyIter_rangeiter st h
end L2
namespace L2
open PySem PySem.Spec PyProof.Rows
section
variable {X:Cx} {tg:Expr}
def iList (K:PySem.W.Frag) (tl:TE):TI:=fun σ H R=>tl σ H fun x H1=>∃a,x=.ref a∧(∃xs,SqL K H1 a xs)∧R (Itl K a) H1
def iTup (K:PySem.W.Frag) (tl:TE):TI:=fun σ H R=>tl σ H fun x H1=>∃a,x=.ref a∧(∃xs,SqT K H1 a xs)∧R (Itt K a) H1
theorem zqz {l:Expr} {tl:TE} (hl:PE X l tl):PI X tg l (iList X.K tl):=show _ by
  intro pins s σ H R I h
  refine thn (hl pins s σ H _ I h) fun v s1 ⟨x,H1,I1,r1,q1⟩=>?_
  obtain ⟨a,e,⟨xs,hq⟩,q⟩:=q1
  subst e
  cases r1
  obtain ⟨its,rv,p,hz⟩:=I1.list hq
  refine wpAny_pyIter_list p.isList ?_
  refine ⟨s1.heap.objs.size,[s1.heap.objs.size],_,_,H1,rfl,I1.kept (t':=s1.toks) fun b o e=>Heap.get?_push_of_some _ e,zlx a _,⟨_,Heap.get?_push_size _ rfl,rfl,rfl⟩,fun b hb=>?_,q⟩
  have e:b=s1.heap.objs.size:=by simpa using hb
  subst e
  exact I1.fpOk (Nat.le_refl _) (I1.hok.fresh (Nat.le_refl _))
theorem pi_tup {l:Expr} {tl:TE} (hl:PE X l tl):PI X tg l (iTup X.K tl):=show _ by
  intro pins s σ H R I h
  refine thn (hl pins s σ H _ I h) fun v s1 ⟨x,H1,I1,r1,q1⟩=>?_
  obtain ⟨a,e,⟨xs,hq⟩,q⟩:=q1
  subst e
  cases r1
  obtain ⟨its,rv,p,hz⟩:=I1.tuple hq
  refine wpAny_pyIter_tuple (show s1.heap.IsTuple a its.toArray from p) ?_
  refine ⟨s1.heap.objs.size,[s1.heap.objs.size],_,_,H1,rfl,I1.kept (t':=s1.toks) fun b o e=>Heap.get?_push_of_some _ e,zkm a _,⟨_,Heap.get?_push_size _ rfl,rfl,rfl⟩,fun b hb=>?_,q⟩
  have e:b=s1.heap.objs.size:=by simpa using hb
  subst e
  exact I1.fpOk (Nat.le_refl _) (I1.hok.fresh (Nat.le_refl _))
theorem zoo {pins:List (Addr×Obj)} {σ:St} {H:Hp} {s:Shared} {R:It→Hp→Prop} {E:Value→Shared→Prop} {lo hi:Int} {t u v:Tok} {tk:Nat} (I:Inv X pins σ H s) (h1:-(2^62)≤lo) (h2:lo<2^62) (h3:-(2^62)≤hi) (h4:hi<2^62)
    (q:R (Itr lo (hi-lo).toNat) H):wpAny (model X.prog X.w) X.A (pyIter (.ref s.heap.objs.size)) (PIE X pins σ tg R) E {s with heap:=s.heap.push {cls:=.type "range",data:=.fields #[.int lo t,.int hi u,.int 1 v]},toks:=tk}:=show _ by
  refine wpAny_pyIter_range (IsRange.new ..) (small_one h1 h2 h3 h4) ?_
  have I1:Inv X pins σ H {s with heap:=s.heap.push {cls:=.type "range",data:=.fields #[.int lo t,.int hi u,.int 1 v]},toks:=tk}:=I.kept fun b o e=>Heap.get?_push_of_some _ e
  refine ⟨(s.heap.push {cls:=.type "range",data:=.fields #[.int lo t,.int hi u,.int 1 v]}).objs.size,[(s.heap.push {cls:=.type "range",data:=.fields #[.int lo t,.int hi u,.int 1 v]}).objs.size],_,_,H,rfl,
    I1.kept (t':=tk) fun b o e=>Heap.get?_push_of_some _ e,zkn _ lo (hi-lo).toNat,?_,fun b hb=>?_,q⟩
  · have e1:lo+((0:Nat):Int)*1=lo:=by simp
    have e2:(((hi-lo).toNat:Nat):Int)-((0:Nat):Int)=Builtin.Range.rangeSize lo hi 1:=by rw [rangeSize_one];split<;>omega
    show IsRangeIter _ _ (lo+((0:Nat):Int)*1) ((((hi-lo).toNat:Nat):Int)-((0:Nat):Int)) 1
    rw [e1,e2]
    exact Heap.get?_push_size _ rfl
  · have e:b=(s.heap.push {cls:=.type "range",data:=.fields #[.int lo t,.int hi u,.int 1 v]}).objs.size:=by simpa using hb
    subst e
    exact I1.fpOk (Nat.le_refl _) (I1.hok.fresh (Nat.le_refl _))
def iRng1 (ta:TA):TI:=fun σ H R=>ta σ H fun vs H1=>∃j:Int,vs=[.int j]∧-(2^62)≤j∧j<2^62∧R (Itr 0 j.toNat) H1
theorem zmo {a:Expr} {ta:TA} {p pos:Pos} (hg:Gl X "range") (hm:X.mg "range"=none) (ha:PA X [a] ta) (hs:starEach [a] X.env=[(false,eval a X.env)]:=by rfl):PI X tg (.Call (.Name "range" p) [a] [] pos) (iRng1 ta):=show _ by
  intro pins s σ H R I h
  refine Call_ (zf5 I hg hm boot_range (PyProof.Rows.callWith_type1 (thn (ha pos pins s σ H _ I h) fun us s1 ⟨vs,H1,I1,r1,q1⟩=>?_) hs rfl))
  obtain ⟨j,e,q1,q2,q⟩:=q1
  subst e
  cases r1 with
  | cons r rr =>
    cases rr
    obtain ⟨t,rfl⟩:=r
    exact call_range_1 (zoo I1 (by omega) (by omega) q1 q2 (by simpa using q))
def tFor (wi:TI) (g:TG) (tb:TS):TS:=fun D σ H=>wi σ H fun J H1=>∃W:Nat→Nat→St→Hp→Prop,(∃m,W 0 m σ H1)∧∀i m σ H,W i m σ H →
  (J.stop i H∧D.nx σ H)∨(J.go i H∧∃N:St→Hp→Prop,(∀σ' H',N σ' H'→∃m',m'<m∧W (i+1) m' σ' H')∧∀x H',J.yld i H x H'→g x σ H' fun σ2 H2=>tb {D with nx:=N,ct:=N,bk:=D.nx} σ2 H2)
noncomputable def pinsAt (fp:List Addr) (h:Heap):List (Addr×Obj):=fp.filterMap fun b=>(h.get? b).map fun o=>(b,o)
theorem zcn {fp:List Addr} {h:Heap} {b:Addr} {o:Obj} (hb:b∈fp) (e:h.get? b=some o):(b,o)∈pinsAt fp h:=List.mem_filterMap.mpr ⟨b,hb,by rw [e];rfl⟩
theorem zmz {fp:List Addr} {h:Heap} {p:Addr×Obj} (hp:p∈pinsAt fp h):p.1∈fp∧h.get? p.1=some p.2:=show _ by
  obtain ⟨b,hb,e⟩:=List.mem_filterMap.mp hp
  cases q:h.get? b with
  | none=>rw [q] at e;cases e
  | some o =>
    rw [q] at e
    have e':(b,o)=p:=Option.some.inj e
    subst e'
    exact ⟨hb,q⟩
theorem Inv.pinned {pins:List (Addr×Obj)} {σ:St} {H:Hp} {s:Shared} {fp:List Addr} (I:Inv X pins σ H s) (hf:∀b∈fp,FpOk X pins H b) (ho:∀b∈fp,∃o,s.heap.get? b=some o∧∀v,o.data≠.cell v):Inv X (pins++pinsAt fp s.heap) σ H s :=
  I.pins_of fun p hp=>(List.mem_append.mp hp).elim (fun z=>I.pin p (List.mem_append_right _ z)) fun z=>by
    obtain ⟨hb,e⟩:=zmz z
    obtain ⟨f0,f1,f2,_⟩:=hf p.1 hb
    obtain ⟨o,e',d⟩:=ho p.1 hb
    rw [e] at e';cases e'
    exact ⟨e,f0,f1,f2,d⟩
theorem Inv.unpinned {pins pl:List (Addr×Obj)} {σ:St} {H:Hp} {s:Shared} (I:Inv X (pins++pl) σ H s):Inv X pins σ H s:=I.pins_of fun p hp=>I.pin p (List.mem_append_right _ (List.mem_append_left _ hp))
theorem ps_for {iter:Expr} {body:List Stmt} {wi:TI} {g:TG} {tb:TS} {pos:Pos} (hp:PassesOwn (model X.prog X.w) X.A X.env X.xe) (hc:X.calm=true) (hi:PI X tg iter wi) (hg:PG X tg g) (hb:PSs X body tb)
    (hs:∀x,foldedSetIterable iter X.env x=pure x:=by intro _;rfl):PS X (.For tg iter body [] pos) (tFor wi g tb):=show _ by
  intro pins s σ H D I h
  refine wpAny_For (thn (hi pins s σ H _ I h) fun v s1 h1=>thn h1 fun itv s2 h2=>?_) hs
  obtain ⟨it,fp,tn,J,H2,e,I2,T,st2,f2,W,⟨m0,w0⟩,turn⟩:=h2
  subst e
  have stat:∀{H':Hp},(∀b∈fp,H' b=none)→∀b∈fp,FpOk X pins H' b:=fun hn b hb=>⟨hn b hb,(f2 b hb).2⟩
  refine codeAny_forLoop_any (fun n s'=>∃i σ' H',Inv X pins σ' H' s'∧tn i s'.heap∧(∀b∈fp,H' b=none)∧W i n σ' H') ?_ m0 ⟨0,σ,H2,I2,st2,fun b hb=>(f2 b hb).1,w0⟩
  rintro n s3 ⟨i,σ3,H3,I3,st3,fr3,w3⟩
  rcases turn i n σ3 H3 w3 with ⟨stop,qn⟩|⟨go,N,hN,step⟩
  · refine wpAny_passesOwn hp (thn (T.done X rfl rfl rfl hc i pins s3 σ3 H3 X.xe I3 (stat fr3) st3 stop) fun r s4 ⟨hr,I4⟩=>?_)
    subst hr
    exact wpAny_execs_nil ⟨σ3,H3,I4,qn⟩
  · refine wpAny_passesOwn hp (thn (T.item X rfl rfl rfl hc i pins s3 σ3 H3 X.xe I3 (stat fr3) st3 go) fun r s4 ⟨u,hr,h4⟩=>?_)
    subst hr
    refine wpAny_passesOwn hp (thn h4 fun _ s5 ⟨x,H5,I5,r5,y5,st5,fr5⟩=>?_)
    have I5':=I5.pinned (stat fr5) (T.obj _ _ st5)
    refine wpAny_passesOwn hp (thn (hg _ s5 σ3 H5 x u _ I5' r5 (step x H5 y5)) fun _ s6 ⟨σ6,H6,I6,q6⟩=>?_)
    refine wpAny_passesOwn hp (thn (hb _ s6 σ6 H6 _ I6 q6) fun f s7 q7=>?_)
    have again:∀{σ7:St} {H7:Hp},Inv X (pins++pinsAt fp s5.heap) σ7 H7 s7→N σ7 H7→∃m,m<n∧∃i σ' H',Inv X pins σ' H' s7∧tn i s7.heap∧(∀b∈fp,H' b=none)∧W i m σ' H':=fun {σ7 H7} I7 n7=>by
      obtain ⟨m',hm,w7⟩:=hN σ7 H7 n7
      refine ⟨m',hm,i+1,σ7,H7,I7.unpinned,T.keep _ _ _ st5 fun b hb o e=>(I7.pin (b,o) (List.mem_append_right _ (List.mem_append_right _ (zcn hb e)))).1,fun b hb=>?_,w7⟩
      obtain ⟨o,e,d⟩:=T.obj _ _ st5 b hb
      exact (I7.pin (b,o) (List.mem_append_right _ (List.mem_append_right _ (zcn hb e)))).2.1
    cases f with
    | next=>obtain ⟨σ7,H7,I7,n7⟩:=q7;exact again I7 n7
    | cont=>obtain ⟨σ7,H7,I7,n7⟩:=q7;exact again I7 n7
    | brk=>obtain ⟨σ7,H7,I7,q7⟩:=q7;exact ⟨σ7,H7,I7.unpinned,q7⟩
    | ret v=>obtain ⟨x7,σ7,H7,I7,r7,q7⟩:=q7;exact ⟨x7,σ7,H7,I7.unpinned,r7,q7⟩
end
end L2
namespace L2
open PySem PySem.Spec PyProof.Rows
noncomputable abbrev R2:=V→V→Hp→VK→Prop
def OpR (X:Cx) (f:Value→Value→Sem Value) (r:R2):Prop :=
  ∀(pins:List (Addr×Obj)) (s:Shared) (σ:St) (H:Hp) (x y:V) (v u:Value) (Q:VK),Inv X pins σ H s→RelV x v→RelV y u→r x y H Q →
    wpAny (model X.prog X.w) X.A (f v u) (EP X pins σ Q) X.xe s
def UnR (X:Cx) (f:Value→Sem Value) (r:V→Hp→VK→Prop):Prop :=
  ∀(pins:List (Addr×Obj)) (s:Shared) (σ:St) (H:Hp) (x:V) (v:Value) (Q:VK),Inv X pins σ H s→RelV x v→r x H Q →
    wpAny (model X.prog X.w) X.A (f v) (EP X pins σ Q) X.xe s
def CallR (X:Cx) (f:Value) (r:List V→Hp→VK→Prop):Prop :=
  ∀(pins:List (Addr×Obj)) (s:Shared) (σ:St) (H:Hp) (xs:List V) (us:List Value) (Q:VK),Inv X pins σ H s→Vals xs us→r xs H Q →
    wpAny (model X.prog X.w) X.A (call f us) (EP X pins σ Q) X.xe s
def TruR (X:Cx) (r:V→Hp→(Bool→Hp→Prop)→Prop):Prop :=
  ∀(pins:List (Addr×Obj)) (s:Shared) (σ:St) (H:Hp) (x:V) (v:Value) (Q:Bool→Hp→Prop),Inv X pins σ H s→RelV x v→r x H Q →
    wpAny (model X.prog X.w) X.A (truthy v) (TP X pins σ Q) X.xe s
def tOp (r:R2) (ta tb:TE):TE:=fun σ H Q=>ta σ H fun x H1=>tb σ H1 fun y H2=>r x y H2 Q
def tUn (r:V→Hp→VK→Prop) (ta:TE):TE:=fun σ H Q=>ta σ H fun x H1=>r x H1 Q
def rI (C:Int→Int→Prop) (g:Int→Int→V):R2:=fun x y H Q=>∃i j,x=.int i∧y=.int j∧C i j∧Q (g i j) H
def rI0 (g:Int→Int→V):R2:=fun x y H Q=>∃i j,x=.int i∧y=.int j∧Q (g i j) H
def rU (g:Int→V):V→Hp→VK→Prop:=fun x H Q=>∃i,x=.int i∧Q (g i) H
section
variable {X:Cx} {a b c:Expr} {ta tb tc:TE} {pos:Pos}
theorem binT (ha:PE X a ta) (hb:PE X b tb) {pins:List (Addr×Obj)} {s:Shared} {σ:St} {H:Hp} {R:V→V→Hp→Prop} (I:Inv X pins σ H s)
    (h:ta σ H fun x H1=>tb σ H1 fun y H2=>R x y H2) {Q:Value→Shared→Prop} {f:Value→Value→Sem Value}
    (hf:∀v u s2 x y H2,Inv X pins σ H2 s2→RelV x v→RelV y u→R x y H2→wpAny (model X.prog X.w) X.A (f v u) Q X.xe s2) :
    wpAny (model X.prog X.w) X.A (eval a X.env) (fun v s₁=>wpAny (model X.prog X.w) X.A (eval b X.env) (fun u s₂=>wpAny (model X.prog X.w) X.A (f v u) Q X.xe s₂) X.xe s₁) X.xe s:=show _ by
  refine thn (ha pins s σ H _ I h) fun v s1 ⟨x,H1,I1,r1,q1⟩=>?_
  refine thn (hb pins s1 σ H1 _ I1 q1) fun u s2 ⟨y,H2,I2,r2,q2⟩=>?_
  exact hf v u s2 x y H2 I2 r1 r2 q2
theorem pe_op {op:Operator} {r:R2} (ho:OpR X (binaryOp op) r) (ha:PE X a ta) (hb:PE X b tb):PE X (.BinOp a op b pos) (tOp r ta tb):=by
  intro pins s σ H Q I h
  exact wpAny_BinOp (binT ha hb I h fun v u s2 x y H2 I2 rx ry q=>ho pins s2 σ H2 x y v u Q I2 rx ry q)
theorem pe_un {op:UnaryOp} {r:V→Hp→VK→Prop} (ho:UnR X (unaryOp op) r) (ha:PE X a ta):PE X (.UnaryOp op a pos) (tUn r ta):=by
  intro pins s σ H Q I h
  exact UnaryOp_ (thn (ha pins s σ H _ I h) fun v s1 z_8=>by obtain ⟨x,H1,I1,r1,q1⟩:=z_8;exact ho pins s1 σ H1 x v Q I1 r1 q1)
theorem opI {f:Value→Value→Sem Value} {C:Int→Int→Prop} {g:Int→Int→Int}
    (rule:∀(i j:Int) (t u:Tok) (s:Shared) (Q:Value→Shared→Prop) (E:Value→Shared→Prop),C i j→Q (.int (g i j) s.toks) {s with toks:=s.toks+1}→wpAny (model X.prog X.w) X.A (f (.int i t) (.int j u)) Q E s) :
    OpR X f (rI C fun i j=>.int (g i j)):=show _ by
  intro pins s σ H x y v u Q I rx ry h
  obtain ⟨i,j,rfl,rfl,hc,q⟩:=h
  obtain ⟨t,rfl⟩:=rx
  obtain ⟨t',rfl⟩:=ry
  exact rule i j t t' s _ _ hc ⟨.int (g i j),H,I.tok _,⟨_,rfl⟩,q⟩
theorem opI0 {f:Value→Value→Sem Value} {g:Int→Int→Int}
    (rule:∀(i j:Int) (t u:Tok) (s:Shared) (Q:Value→Shared→Prop) (E:Value→Shared→Prop),Q (.int (g i j) s.toks) {s with toks:=s.toks+1}→wpAny (model X.prog X.w) X.A (f (.int i t) (.int j u)) Q E s) :
    OpR X f (rI0 fun i j=>.int (g i j)):=show _ by
  intro pins s σ H x y v u Q I rx ry h
  obtain ⟨i,j,rfl,rfl,q⟩:=h
  obtain ⟨t,rfl⟩:=rx
  obtain ⟨t',rfl⟩:=ry
  exact rule i j t t' s _ _ ⟨.int (g i j),H,I.tok _,⟨_,rfl⟩,q⟩
theorem opB0 {f:Value→Value→Sem Value} {g:Int→Int→Bool}
    (rule:∀(i j:Int) (t u:Tok) (s:Shared) (Q:Value→Shared→Prop) (E:Value→Shared→Prop),Q (.bool (g i j)) s→wpAny (model X.prog X.w) X.A (f (.int i t) (.int j u)) Q E s) :
    OpR X f (rI0 fun i j=>.bl (g i j)):=show _ by
  intro pins s σ H x y v u Q I rx ry h
  obtain ⟨i,j,rfl,rfl,q⟩:=h
  obtain ⟨t,rfl⟩:=rx
  obtain ⟨t',rfl⟩:=ry
  exact rule i j t t' s _ _ ⟨.bl (g i j),H,I,rfl,q⟩
def CDiv (i j:Int):Prop:=0<j∧j<1073741824
def CPow (i j:Int):Prop:=0≤j∧j≤1000000∧i.natAbs<2^64
def CMul (i j:Int):Prop:=(-(2^64)<i∧i<2^64)∨(-(2^64)<j∧j<2^64)
theorem CMul.ok {i j:Int} (h:CMul i j):IntMulOk i j:=by
  rcases h with ⟨h1,h2⟩|⟨h1,h2⟩
  · exact .of_left (intBits_le_64 h1 h2)
  · exact .of_right (intBits_le_64 h1 h2)
theorem zda:OpR X (binaryOp .Add) (rI0 fun i j=>.int (i+j)):=opI0 fun _ _ _ _ _ _ _ q=>add_int q
theorem ze9:OpR X (binaryOp .Sub) (rI0 fun i j=>.int (i-j)):=opI0 fun _ _ _ _ _ _ _ q=>sub_int q
theorem zpv:OpR X (binaryOp .Mult) (rI CMul fun i j=>.int (i*j)):=opI fun _ _ _ _ _ _ _ hc q=>mul_int q hc.ok
theorem za3:OpR X (binaryOp .FloorDiv) (rI CDiv fun i j=>.int (i/j)):=opI fun i j _ _ _ _ _ hc q=>by
  have h1:(0:Int)<j:=hc.1
  have h2:j<1073741824:=hc.2
  exact floordiv_int (by omega) (by rw [Int.fdiv_eq_ediv_of_nonneg i (by omega)];exact q) (.inl (PyProof.noPylong_small (by omega)))
theorem zau:OpR X (binaryOp .Mod) (rI (fun _ j=>0<j) fun i j=>.int (i%j)):=opI fun i j _ _ _ _ _ hc q=>by
  have h1:(0:Int)<j:=hc
  exact mod_int' (by omega) (by rw [Int.fmod_eq_emod_of_nonneg i (by omega)];exact q)
theorem zin:OpR X (binaryOp .Pow) (rI CPow fun i j=>.int (i^j.toNat)):=opI fun _ _ _ _ _ _ _ hc q=>pow_int_small hc.1 hc.2.1 hc.2.2 q
theorem unI {f:Value→Sem Value} {g:Int→Int}
    (rule:∀(i:Int) (t:Tok) (s:Shared) (Q:Value→Shared→Prop) (E:Value→Shared→Prop),Q (.int (g i) s.toks) {s with toks:=s.toks+1}→wpAny (model X.prog X.w) X.A (f (.int i t)) Q E s) :
    UnR X f (rU fun i=>.int (g i)):=show _ by
  intro pins s σ H x v Q I rx h
  obtain ⟨i,rfl,q⟩:=h
  obtain ⟨t,rfl⟩:=rx
  exact rule i t s _ _ ⟨.int (g i),H,I.tok _,⟨_,rfl⟩,q⟩
theorem un_neg:UnR X (unaryOp .USub) (rU fun i=>.int (-i)):=unI fun _ _ _ _ _ q=>neg_int q
end
noncomputable def scal:V→V→Bool
  | .non,.non=>true | .non,.int _=>true | .int _,.non=>true | .non,.bl _=>true | .bl _,.non=>true | .non,.str _=>true | .str _,.non=>true
  | .int _,.int _=>true | .bl _,.bl _=>true | .str _,.str _=>true | .byt _,.byt _=>true
  | .int _,.str _=>true | .str _,.int _=>true | .bl _,.str _=>true | .str _,.bl _=>true
  | _,_=>false
def rEq:R2:=fun x y H Q=>scal x y=true∧Q (.bl (decide (x=y))) H
def rNe:R2:=fun x y H Q=>scal x y=true∧Q (.bl (!decide (x=y))) H
theorem zjr {i j:Int}:decide (V.int i=V.int j)=(i==j):=by
  rw [Bool.eq_iff_iff]
  simp
theorem zp4 {i j:Bool}:decide (V.bl i=V.bl j)=(i==j):=by
  rw [Bool.eq_iff_iff]
  simp
theorem znv {i j:Str}:decide (V.str i=V.str j)=(i==j):=by
  rw [Bool.eq_iff_iff]
  simp
theorem znw {i j:Array UInt8}:decide (V.byt i=V.byt j)=(i.toList==j.toList):=by
  rw [Bool.eq_iff_iff]
  cases i
  cases j
  simp
section
variable {X:Cx} {a b c:Expr} {ta tb tc:TE} {pos:Pos}
theorem za6 {pins:List (Addr×Obj)} {σ:St} {H:Hp} {s:Shared} {Q:VK} {k k':Bool} (I:Inv X pins σ H s) (q:Q (.bl k) H) (e:k=k'):EP X pins σ Q (.bool k') s:=by
  subst e
  exact ⟨.bl k,H,I,rfl,q⟩
theorem zbe:OpR X (compareOp .Eq) rEq:=show _ by
  intro pins s σ H x y v u Q I rx ry h
  obtain ⟨hs,q⟩:=h
  cases x with
  | non =>
    cases rx
    cases y with
    | non=>cases ry;exact PySem.EqNone.eq_none_none (za6 I q (by simp))
    | bl j=>cases ry;exact PySem.EqNone.eq_none_bool (za6 I q (by simp))
    | int j=>obtain ⟨t',rfl⟩:=ry;exact PySem.EqNone.eq_none_int (za6 I q (by simp))
    | str j=>obtain ⟨t',rfl⟩:=ry;exact PySem.EqNone.eq_none_str (za6 I q (by simp))
    | _=>exact absurd (show false=true from hs) Bool.false_ne_true
  | bl i =>
    cases rx
    cases y with
    | non=>cases ry;exact PySem.EqNone.eq_bool_none (za6 I q (by simp))
    | bl j=>cases ry;exact eq_bool (za6 I q zp4)
    | str j=>obtain ⟨t',rfl⟩:=ry;exact PySem.EqMixed.eq_bool_str (za6 I q (by simp))
    | _=>exact absurd (show false=true from hs) Bool.false_ne_true
  | int i =>
    obtain ⟨t,rfl⟩:=rx
    cases y with
    | non=>cases ry;exact PySem.EqNone.eq_int_none (za6 I q (by simp))
    | int j=>obtain ⟨t',rfl⟩:=ry;exact eq_int (za6 I q zjr)
    | str j=>obtain ⟨t',rfl⟩:=ry;exact PySem.EqMixed.eq_int_str (za6 I q (by simp))
    | _=>exact absurd (show false=true from hs) Bool.false_ne_true
  | str i =>
    obtain ⟨t,rfl⟩:=rx
    cases y with
    | non=>cases ry;exact PySem.EqNone.eq_str_none (za6 I q (by simp))
    | bl j=>cases ry;exact PySem.EqMixed.eq_str_bool (za6 I q (by simp))
    | int j=>obtain ⟨t',rfl⟩:=ry;exact PySem.EqMixed.eq_str_int (za6 I q (by simp))
    | str j=>obtain ⟨t',rfl⟩:=ry;exact eq_str (za6 I q znv)
    | _=>exact absurd (show false=true from hs) Bool.false_ne_true
  | byt i =>
    obtain ⟨t,rfl⟩:=rx
    cases y with
    | byt j=>obtain ⟨t',rfl⟩:=ry;exact PySem.W.eq_bytes (za6 I q znw)
    | _=>exact absurd (show false=true from hs) Bool.false_ne_true
  | _=>cases y<;>exact absurd (show false=true from hs) Bool.false_ne_true
theorem zmt:OpR X (compareOp .NotEq) rNe:=show _ by
  intro pins s σ H x y v u Q I rx ry h
  obtain ⟨hs,q⟩:=h
  cases x with
  | non =>
    cases rx
    cases y with
    | non=>cases ry;exact PySem.EqNone.ne_none_none (za6 I q (by simp))
    | bl j=>cases ry;exact PySem.EqNone.ne_none_bool (za6 I q (by simp))
    | int j=>obtain ⟨t',rfl⟩:=ry;exact PySem.EqNone.ne_none_int (za6 I q (by simp))
    | str j=>obtain ⟨t',rfl⟩:=ry;exact PySem.EqNone.ne_none_str (za6 I q (by simp))
    | _=>exact absurd (show false=true from hs) Bool.false_ne_true
  | bl i =>
    cases rx
    cases y with
    | non=>cases ry;exact PySem.EqNone.ne_bool_none (za6 I q (by simp))
    | bl j=>cases ry;exact ne_bool (za6 I q (congrArg not zp4))
    | str j=>obtain ⟨t',rfl⟩:=ry;exact PySem.EqMixed.ne_bool_str (za6 I q (by simp))
    | _=>exact absurd (show false=true from hs) Bool.false_ne_true
  | int i =>
    obtain ⟨t,rfl⟩:=rx
    cases y with
    | non=>cases ry;exact PySem.EqNone.ne_int_none (za6 I q (by simp))
    | int j=>obtain ⟨t',rfl⟩:=ry;exact ne_int (za6 I q (congrArg not zjr))
    | str j=>obtain ⟨t',rfl⟩:=ry;exact PySem.EqMixed.ne_int_str (za6 I q (by simp))
    | _=>exact absurd (show false=true from hs) Bool.false_ne_true
  | str i =>
    obtain ⟨t,rfl⟩:=rx
    cases y with
    | non=>cases ry;exact PySem.EqNone.ne_str_none (za6 I q (by simp))
    | bl j=>cases ry;exact PySem.EqMixed.ne_str_bool (za6 I q (by simp))
    | int j=>obtain ⟨t',rfl⟩:=ry;exact PySem.EqMixed.ne_str_int (za6 I q (by simp))
    | str j=>obtain ⟨t',rfl⟩:=ry;exact ne_str (za6 I q (congrArg not znv))
    | _=>exact absurd (show false=true from hs) Bool.false_ne_true
  | byt i =>
    obtain ⟨t,rfl⟩:=rx
    cases y with
    | byt j=>obtain ⟨t',rfl⟩:=ry;exact PySem.W.ne_bytes (za6 I q (congrArg not znw))
    | _=>exact absurd (show false=true from hs) Bool.false_ne_true
  | _=>cases y<;>exact absurd (show false=true from hs) Bool.false_ne_true
theorem zk4:OpR X (compareOp .Lt) (rI0 fun i j=>.bl (decide (i<j))):=opB0 fun _ _ _ _ _ _ _ q=>lt_int q
theorem zmv:OpR X (compareOp .Gt) (rI0 fun i j=>.bl (decide (j<i))):=opB0 fun _ _ _ _ _ _ _ q=>gt_int q
theorem op_ge:OpR X (compareOp .GtE) (rI0 fun i j=>.bl (decide (j≤i))):=opB0 fun _ _ _ _ _ _ _ q=>ge_int q
theorem zf0:OpR X (compareOp .Is) (fun x y H Q=>y=.non∧Q (.bl (decide (x=.non))) H):=by
  intro pins s σ H x y v u Q I rx ry h
  obtain ⟨rfl,q⟩:=h
  cases ry
  refine is_none_gen (za6 I q ?_)
  cases x<;>first
    | (cases rx;rfl)
    | (obtain ⟨t,rfl⟩:=rx;rfl)
theorem zms:OpR X (compareOp .IsNot) (fun x y H Q=>y=.non∧Q (.bl (!decide (x=.non))) H):=by
  intro pins s σ H x y v u Q I rx ry h
  obtain ⟨rfl,q⟩:=h
  cases ry
  refine isnot_none_gen (za6 I q ?_)
  cases x<;>first
    | (cases rx;rfl)
    | (obtain ⟨t,rfl⟩:=rx;rfl)
theorem nomark (b:Expr) {op:CmpOp} (h:op≠.In:=by decide) (h2:op≠.NotIn:=by decide):behindInMarks op b=false:=show _ by
  have e1:(op==CmpOp.In)=false:=by cases op<;>first|rfl|exact absurd rfl h
  have e2:(op==CmpOp.NotIn)=false:=by cases op<;>first|rfl|exact absurd rfl h2
  cases b<;>simp [behindInMarks,e1,e2]
theorem zq4 {op:CmpOp} {r:R2} (ho:OpR X (compareOp op) r) (ha:PE X a ta) (hb:PE X b tb) (hm:behindInMarks op b=false):PE X (.Compare a [op] [b] pos) (tOp r ta tb):=show _ by
  intro pins s σ H Q I h
  exact wpAny_Compare1 (binT ha hb I h fun v u s2 x y H2 I2 rx ry q=>ho pins s2 σ H2 x y v u Q I2 rx ry q) hm
def tTest (t:TE):TT:=fun σ H Q=>t σ H fun x H'=>∃k,x=.bl k∧Q k H'
theorem zqp {op:CmpOp} {r:R2} (ho:OpR X (compareOp op) r) (ha:PE X a ta) (hb:PE X b tb) (hm:behindInMarks op b=false):PT X (.Compare a [op] [b] pos) (tTest (tOp r ta tb)):=show _ by
  intro pins s σ H Q I h
  refine wpAny_isTrue_Compare1 (thn (ha pins s σ H _ I h) fun v s1 ⟨x,H1,I1,r1,q1⟩=>thn (hb pins s1 σ H1 _ I1 q1) fun u s2 ⟨y,H2,I2,r2,q2⟩ =>
    thn (ho pins s2 σ H2 x y v u _ I2 r1 r2 q2) fun c s3 ⟨z,H3,I3,r3,k,e,q3⟩=>?_) hm
  subst e
  cases r3
  exact wpAny_truthy_bool ⟨H3,I3,q3⟩
def TruV (K:PySem.W.Frag) (x:V) (H:Hp) (k:Bool):Prop :=
  match x with
  | .non=>k=false
  | .bl b=>k=b
  | .int i=>k=(i != 0)
  | .str y=>y.length≤sizeLine∧k=((y.length:Int) != 0)
  | .byt y=>y.size≤sizeLine∧k=((y.size:Int) != 0)
  | .ref p=>(∃xs,SqL K H p xs∧k=!xs.isEmpty)∨(∃xs,SqT K H p xs∧k=!xs.isEmpty)∨∃kvs,H p=some (.dK kvs)∧k=!kvs.isEmpty
  | _=>False
theorem zli {κ:Type} {kvs:List (κ×V)} {vs:List (κ×Value)} (r:KV kvs vs):(!vs.isEmpty)=!kvs.isEmpty:=by
  cases r<;>rfl
theorem zg9 {xs:List V} {its:List Value} (r:Vals xs its):(!its.toArray.isEmpty)=!xs.isEmpty:=by
  cases r<;>simp
theorem line63:(sizeLine:Nat)<2^63:=by rw [sizeLine_eq];decide
theorem tru_ok:TruR X (fun x H Q=>∃k,TruV X.K x H k∧Q k H):=show _ by
  intro pins s σ H x v Q I rx h
  obtain ⟨k,e,q⟩:=h
  have hl:=line63
  have hs:sizeLine=16777216:=sizeLine_eq
  cases x with
  | non =>
    cases rx
    have e':k=false:=e
    subst e'
    exact truthy_none ⟨H,I,q⟩
  | bl b =>
    cases rx
    have e':k=b:=e
    subst e'
    exact wpAny_truthy_bool ⟨H,I,q⟩
  | int i =>
    obtain ⟨t,rfl⟩:=rx
    have e':k=(i != 0):=e
    subst e'
    exact PySem.P.truthy_int ⟨H,I,q⟩
  | str y =>
    obtain ⟨t,rfl⟩:=rx
    obtain ⟨hy,e'⟩:y.length≤sizeLine∧k=((y.length:Int) != 0):=e
    subst e'
    exact PySem.P.truthy_str (by omega) ⟨H,I.tok _,q⟩
  | byt y =>
    obtain ⟨t,rfl⟩:=rx
    obtain ⟨hy,e'⟩:y.size≤sizeLine∧k=((y.size:Int) != 0):=e
    subst e'
    exact PySem.W.truthy_bytes (by omega) ⟨H,I.tok _,q⟩
  | ref p =>
    cases rx
    have e':(∃xs,SqL X.K H p xs∧k=!xs.isEmpty)∨(∃xs,SqT X.K H p xs∧k=!xs.isEmpty)∨∃kvs,H p=some (.dK kvs)∧k=!kvs.isEmpty:=e
    rcases e' with ⟨xs,hx,e'⟩|⟨xs,hx,e'⟩|⟨kvs,hx,e'⟩
    · subst e'
      obtain ⟨its,r,pl,hz⟩:=I.list hx
      have hlen:=r.length
      exact wpAny_truthy_list pl.isList (by simp only [List.size_toArray];omega) ⟨H,I.tok _,by rw [zg9 r];exact q⟩
    · subst e'
      obtain ⟨its,r,pl,hz⟩:=I.tuple hx
      have hlen:=r.length
      exact truthy_tuple pl (by simp only [List.size_toArray];omega) ⟨H,I.tok _,by rw [zg9 r];exact q⟩
    · subst e'
      obtain ⟨hz,hS,vs,r,m⟩:kvs.length≤sizeLine∧(p==sysModules)=false∧∃vs,KV kvs vs∧s.heap.DictOf (mixKind X.prog X.w) p vs:=I.hok p _ hx
      have hlen:kvs.length=vs.length:=Paired.length r
      exact wpAny_truthy_dict hS m (by omega) ⟨H,I.tok _,by rw [zli r];exact q⟩
  | _=>exact (show False from e).elim
theorem zoq (ha:PE X a ta) (he:∀whole,isTrue a X.env whole=(do let v ←whole;standAt a.pos;holding [v] (truthy v))) :
    PT X a (fun σ H Q=>ta σ H fun x H'=>∃k,TruV X.K x H' k∧Q k H'):=show _ by
  intro pins s σ H Q I h
  exact isTrue_plain (thn (ha pins s σ H _ I h) fun v s1 z_10=>by obtain ⟨x,H1,I1,r1,q1⟩:=z_10;exact tru_ok pins s1 σ H1 x v Q I1 r1 q1) (he _)
theorem zc9:OpR X (binaryOp .Add) (fun x y H Q=>∃i j,x=.str i∧y=.str j∧i.length+j.length≤sizeLine∧Q (.str (i++j)) H):=show _ by
  intro pins s σ H x y v u Q I rx ry h
  obtain ⟨i,j,rfl,rfl,hz,q⟩:=h
  obtain ⟨t,rfl⟩:=rx
  obtain ⟨t',rfl⟩:=ry
  exact add_str (fun t' tk=>⟨.str (i++j),H,I.tok _,⟨_,rfl⟩,q⟩) hz
theorem vals1 {x:V} {us:List Value} (r:Vals [x] us):∃u,us=[u]∧RelV x u:=by
  cases r with
  | cons r1 r2=>cases r2;exact ⟨_,rfl,r1⟩
theorem vals2 {x y:V} {us:List Value} (r:Vals [x,y] us):∃u w',us=[u,w']∧RelV x u∧RelV y w':=by
  cases r with
  | cons r1 r2 =>
    cases r2 with
    | cons r3 r4=>cases r4;exact ⟨_,_,rfl,r1,r3⟩
end
end L2
namespace L2
open PySem PySem.Spec PyProof.Rows
structure ObjM (h:Heap) (x dx C:Addr) (mA:Str→Option Value):Prop where
  obj:h.get? x=some (PySem.W.instObj C dx)
  ns:h.Ns1 dx mA
  ne:dx≠x
theorem zm3 {h:Heap} {dx:Addr} {mA:Str→Option Value} (n:h.Ns1 dx mA):∃od,h.get? dx=some od∧∀name,PySem.W.lookIn name od=some (mA name):=show _ by
  obtain ⟨o,es,ep,ho,hd,hk,_,hm⟩:=n
  refine ⟨o,ho,fun name=>?_⟩
  have e:=hm name
  unfold nsFind findBy at e
  rw [←Array.find?_toList] at e
  unfold PySem.W.lookIn
  rw [hd]
  dsimp only
  split
  · rename_i y q
    rw [q] at e
    exact congrArg some e
  · rename_i q
    rw [q] at e
    have a:es.toList.any (·.refKey)=false:=by
      rw [List.any_eq_false]
      intro y hy
      obtain ⟨z,t,hkey⟩:=hk y (Array.mem_toList_iff.mp hy)
      simp [DictEntry.refKey,hkey]
    have a':¬es.toList.any (·.refKey)=true:=by rw [a];exact Bool.false_ne_true
    rw [if_neg a']
    exact congrArg some e
theorem ObjM.look {h:Heap} {x dx C:Addr} {mA:Str→Option Value} (I:ObjM h x dx C mA):∃od,PySem.W.InstAt h x (PySem.W.instObj C dx) C (some od)∧∀name,PySem.W.lookIn name od=some (mA name) :=
  let ⟨od,ho,hl⟩:=zm3 I.ns
  ⟨od,⟨I.obj,rfl,rfl,ho⟩,hl⟩
section
variable {prog:Program} {w:World} {A:Around} {E:Value→Shared→Prop} {s:Shared} {K:PySem.W.Frag} {x dx C f:Addr} {mA:Str→Option Value} {name:Str} {v:Value}
theorem zrh {expr:Bool} {Q:Value→Shared→Prop} (X:K.In s.heap) (I:ObjM s.heap x dx C mA) (hg:PySem.W.plainGet K C name=true) (hh:PySem.W.hasDictIn K C=true)
    (ha:PySem.W.findIn K (.ref C) name=some none) (hv:mA name=some v) (hv':PySem.W.handedIn v=true) (h:Q v {s with toks:=s.toks+1}) :
    wpAny (model prog w) A (getAttr (.ref x) name expr) Q E s:=show _ by
  obtain ⟨od,J,hl⟩:=I.look
  exact PySem.W.get_value X J (PySem.W.plainGet_of hg).1 (PySem.W.findObj_own hh ha rfl (by rw [hl,hv])) hv' h
theorem zph {pl:Sem Bool} {Q:Value×List Value→Shared→Prop} (X:K.In s.heap) (I:ObjM s.heap x dx C mA) (hg:PySem.W.plainGet K C name=true)
    (hf:PySem.W.findIn K (.ref C) name=some (some (.ref f))) (ht:PySem.W.isFn K (.ref f)=true) (hv:mA name=none) (h:Q (.ref f,[.ref x]) s) :
    wpAny (model prog w) A (getMethod (.ref x) name pl) Q E s:=show _ by
  obtain ⟨od,J,hl⟩:=I.look
  exact PySem.W.method_fn X J (PySem.W.plainGet_of hg).1 (PySem.W.plainGet_of hg).2 hf (beq_iff_eq.mp ht) (by show (PySem.W.lookIn name od).map (·.isSome)=some false;rw [hl,hv];rfl) h
theorem zqe {ns:List Str} {Q:Unit→Shared→Prop} (X:K.In s.heap) (I:ObjM s.heap x dx C mA)
    (hs:PySem.W.findIn K (.ref C) "__setattr__"=some (some (.builtin "object.__setattr__"))) (hp:PySem.W.plainOver K C=true) (ht:PySem.W.takerIn K C name=some none) (hh:PySem.W.hasDictIn K C=true)
    (hw:PySem.Within mA ns) (hsz:ns.length≤sizeLine)
    (h:∀h',ObjM h' x dx C (fun y=>if y=name then some v else mA y)→Heap.SameBut dx s.heap h'→Q () {s with heap:=h',toks:=s.toks+2}) :
    wpAny (model prog w) A (setAttr (.ref x) name v) Q E s:=show _ by
  obtain ⟨od,J,hl⟩:=I.look
  refine PySem.W.set_plain X J hs (PySem.W.osa_open (s:={s with toks:=s.toks+1}) (r:=none) X J hp ht fun b=>?_)
  obtain ⟨cd,hc,hd'⟩:=PySem.W.any_some hh
  have hx:s.heap.get? x=some ⟨.ref C,some dx,.plain,#[]⟩:=I.obj
  refine wpAny_bind (wpAny_pure (wpAny_bind (wpAny_bind (wpAny_loadPart hx (wpAny_bind (PySem.W.Looks.here (s:={s with toks:=s.toks+1}) (PySem.W.looks_clsIn X hc) ?_))))))
  rw [hd']
  refine wpAny_pure (a:=some dx) (wpAny_bind (wpAny_pure (wpAny_bind ?_)))
  refine wpAny_nsSet1 (s:={s with toks:=s.toks+1}) I.ns fun h' hn2 hs2=>?_
  obtain ⟨oD,esD,epD,hoD,hdD,hcD⟩:=hn2.count (PySem.Within.cons name v hw)
  refine wpAny_bind (wpAny_lookBehind hoD (by rw [hdD];exact pastItsLine_dict (Nat.le_trans hcD (by rw [List.length_cons];omega))) ?_)
  exact wpAny_pure (h _ ⟨(hs2.2 _ (Ne.symm I.ne)).trans I.obj,hn2,I.ne⟩ hs2)
theorem zpc {R:Result→Shared→Prop} {vs:List Value} {kw:List (Str×Value)} (X:K.In s.heap) (hm:PySem.W.makesIn K C=true)
    (hi:PySem.W.findIn K (.ref C) "__init__"=some (some (.ref f))) (hf:PySem.W.typeIn K (.ref f)=some (.type "function"))
    (h:codeAny (model prog w) (A.under (.builtin "type.__call__" ⟨.ref C::vs,kw⟩)) (.call (.ref f) ⟨.ref (s.heap.objs.size+1)::vs,kw⟩) (PySem.W.InitBack (s.heap.objs.size+1) R)
      {s with heap:=(s.heap.push PySem.W.emptyDict).push (PySem.W.instObj C s.heap.objs.size)}) :
    codeAny (model prog w) A (.call (.ref C) ⟨vs,kw⟩) R s:=show _ by
  obtain ⟨hh,g,d,t,os⟩:=s
  exact PySem.W.make_core (PySem.W.makes_of X hm) (PySem.W.looks_findIn X hi) (fun self=>PySem.W.bind_fn X self hf) (.inl rfl) h
end
noncomputable def putF (f:Str) (v:V):List (Str×V)→List (Str×V)
  | []=>[(f,v)]
  | (g,x)::r=>if g=f then (g,v)::r else (g,x)::putF f v r
theorem zf3 (f g:Str) (v:V):∀fs:List (Str×V),(putF f v fs).lookup g=if g=f then some v else fs.lookup g
  | []=>by
    show List.lookup g [(f,v)]=_
    by_cases h:g=f
    · have hb:(g==f)=true:=beq_iff_eq.mpr h
      simp only [List.lookup,hb,if_pos h]
    · have hb:(g==f)=false:=beq_eq_false_iff_ne.mpr h
      simp only [List.lookup,hb,if_neg h]
  | (k,x)::r=>by
    have ih:=zf3 f g v r
    rw [show putF f v ((k,x)::r)=(if k=f then (k,v)::r else (k,x)::putF f v r) from rfl]
    by_cases hk:k=f
    · rw [if_pos hk]
      by_cases h:g=k
      · have hb:(g==k)=true:=beq_iff_eq.mpr h
        simp only [List.lookup,hb,if_pos (h.trans hk)]
      · have hb:(g==k)=false:=beq_eq_false_iff_ne.mpr h
        simp only [List.lookup,hb,if_neg (fun e:g=f=>h (e.trans hk.symm))]
    · rw [if_neg hk]
      by_cases h:g=k
      · have hb:(g==k)=true:=beq_iff_eq.mpr h
        simp only [List.lookup,hb,if_neg (fun e:g=f=>hk (h.symm.trans e))]
      · have hb:(g==k)=false:=beq_eq_false_iff_ne.mpr h
        simp only [List.lookup,hb]
        exact ih
theorem zf6 (f:Str) (v:V):∀fs:List (Str×V),f∈(putF f v fs).map (·.1)∧∀g,g∈fs.map (·.1)→g∈(putF f v fs).map (·.1)
  | []=>⟨by simp [putF],fun g h=>by simp at h⟩
  | (k,x)::r=>by
    obtain ⟨i1,i2⟩:=zf6 f v r
    rw [show putF f v ((k,x)::r)=(if k=f then (k,v)::r else (k,x)::putF f v r) from rfl]
    by_cases hk:k=f
    · rw [if_pos hk]
      subst hk
      exact ⟨by simp,fun g h=>by simpa using h⟩
    · rw [if_neg hk]
      refine ⟨?_,fun g h=>?_⟩
      · rw [List.map_cons]
        exact List.mem_cons_of_mem _ i1
      · rw [List.map_cons] at h ⊢
        rcases List.mem_cons.mp h with e|e
        · exact List.mem_cons.mpr (.inl e)
        · exact List.mem_cons_of_mem _ (i2 g e)
theorem zf4 (f:Str) (v:V):∀fs:List (Str×V),(putF f v fs).length≤fs.length+1
  | []=>by simp [putF]
  | (k,x)::r=>by
    have ih:=zf4 f v r
    rw [show putF f v ((k,x)::r)=(if k=f then (k,v)::r else (k,x)::putF f v r) from rfl]
    by_cases hk:k=f
    · rw [if_pos hk,List.length_cons,List.length_cons];omega
    · rw [if_neg hk,List.length_cons,List.length_cons];omega
theorem RelO.some_of {v:V} {o:Option Value} (r:RelO (some v) o):∃u,o=some u∧RelV v u:=by
  cases o with
  | none=>exact (show False from r).elim
  | some u=>exact ⟨u,rfl,r⟩
theorem RelO.none_of {o:Option Value} (r:RelO none o):o=none:=by
  cases o with
  | none=>rfl
  | some u=>exact (show False from r).elim
theorem zng {v:V} {u:Value} (r:RelV v u):PySem.W.handedIn u=true:=show _ by
  cases v with
  | non=>cases (show u=Value.none from r);rfl
  | bl b=>cases (show u=Value.bool b from r);rfl
  | int i=>obtain ⟨t,e⟩:=(show ∃t,u=Value.int i t from r);cases e;rfl
  | str x=>obtain ⟨t,e⟩:=(show ∃t,u=Value.str x t from r);cases e;rfl
  | byt b=>obtain ⟨t,e⟩:=(show ∃t,u=Value.bytes b t from r);cases e;rfl
  | flt b=>obtain ⟨t,e⟩:=(show ∃t,u=Value.float b t from r);cases e;rfl
  | ref a=>cases (show u=Value.ref a from r);rfl
  | ty n=>cases (show u=Value.type n from r);rfl
section
variable {P:Program} {w:World} {H H':Hp} {h h':Heap} {a C dx:Addr} {fs fs':List (Str×V)}
theorem zh0 (hok:HOk P w H h) (e:H a=some (.ins C dx fs)):∃mA,ObjM h a dx C mA∧(∀f,RelO (fs.lookup f) (mA f))∧PySem.Within mA (fs.map (·.1))∧fs.length≤1000∧H dx=some (.own a):=show _ by
  obtain ⟨d,z,ne,ob,mA,n,r,q⟩:=(show ObjOk P w H h a (.ins C dx fs) from hok a _ e)
  exact ⟨mA,⟨ob,n,ne⟩,r,q,z,d⟩
end
structure Cls (K:PySem.W.Frag) (C:Addr):Prop where
  pg:PySem.W.plainGet K C Str.empty=true
  hd:PySem.W.hasDictIn K C=true
  po:PySem.W.plainOver K C=true
  sa:PySem.W.findIn K (.ref C) "__setattr__"=some (some (.builtin "object.__setattr__"))
theorem Cls.get {K:PySem.W.Frag} {C:Addr} (c:Cls K C) (f:Str):PySem.W.plainGet K C f=true:=c.pg
def NoAttr (K:PySem.W.Frag) (C:Addr) (f:Str):Prop:=PySem.W.findIn K (.ref C) f=some none
theorem NoAttr.taker {K:PySem.W.Frag} {C:Addr} {f:Str} (n:NoAttr K C f):PySem.W.takerIn K C f=some none:=by
  unfold PySem.W.takerIn
  rw [show PySem.W.findIn K (.ref C) f=some none from n]
  rfl
structure Meth (K:PySem.W.Frag) (C:Addr) (m:Str) (f:Addr):Prop where
  at_:PySem.W.findIn K (.ref C) m=some (some (.ref f))
  fn:PySem.W.isFn K (.ref f)=true
  kp:PySem.W.keepIn K (.ref f)=true
section
variable {X:Cx} {pins:List (Addr×Obj)} {σ:St} {H:Hp} {s:Shared} {a C dx:Addr} {fs:List (Str×V)} {f:Str} {v:V} {A:Around} {E:Value→Shared→Prop}
theorem zlj {b:Bool} {Q:Value→Shared→Prop} (I:Inv X pins σ H s) (e:H a=some (.ins C dx fs)) (c:Cls X.K C) (n:NoAttr X.K C f) (l:fs.lookup f=some v)
    (h:∀u s',Inv X pins σ H s'→RelV v u→Q u s'):wpAny (model X.prog X.w) A (getAttr (.ref a) f b) Q E s:=show _ by
  obtain ⟨mA,O,r,_,_,_⟩:=zh0 I.hok e
  obtain ⟨u,hu,ru⟩:=RelO.some_of (v:=v) (o:=mA f) (by rw [←l];exact r f)
  exact zrh I.kIn O (c.get f) c.hd n hu (zng ru) (h u _ (I.tok _) ru)
theorem zha {m:Str} {g:Addr} {pl:Sem Bool} {Q:Value×List Value→Shared→Prop} (I:Inv X pins σ H s) (e:H a=some (.ins C dx fs)) (c:Cls X.K C) (k:Meth X.K C m g) (l:fs.lookup m=none)
    (h:Q (.ref g,[.ref a]) s):wpAny (model X.prog X.w) A (getMethod (.ref a) m pl) Q E s:=show _ by
  obtain ⟨mA,O,r,_,_,_⟩:=zh0 I.hok e
  have hn:mA m=none:=RelO.none_of (by rw [←l];exact r m)
  exact zph I.kIn O (c.get m) k.at_ k.fn hn h
theorem zkr {y:V} {u:Value} {Q:Unit→Shared→Prop} (I:Inv X pins σ H s) (e:H a=some (.ins C dx fs)) (c:Cls X.K C) (n:NoAttr X.K C f) (hl:fs.length<1000) (ry:RelV y u)
    (h:∀s',Inv X pins σ (upd H a (.ins C dx (putF f y fs))) s'→Q () s'):wpAny (model X.prog X.w) A (setAttr (.ref a) f u) Q E s:=show _ by
  obtain ⟨mA,O,r,wi,_,ho⟩:=zh0 I.hok e
  have hz:(fs.map (·.1)).length≤sizeLine:=by rw [List.length_map,sizeLine_eq];omega
  refine zqe I.kIn O c.sa c.po n.taker c.hd wi hz fun h' O' sb=>h _ ?_
  have hd:∃o,h'.get? dx=some o:=let ⟨o,_,_,e',_⟩:=O'.ns;⟨o,e'⟩
  refine I.write (x:=a) (e:=dx) (by rw [e];exact True.intro) (.inr ho) (fun b q hb z=>(sb.2 b hb).trans z) hd ?_
  refine ⟨by rw [zar O.ne];exact ho,?_,O.ne,O'.obj,_,O'.ns,fun g=>?_,fun g hg=>?_⟩
  · have:=zf4 f y fs;omega
  · show RelO ((putF f y fs).lookup g) (if g=f then some u else mA g)
    rw [zf3]
    by_cases q:g=f
    · rw [if_pos q,if_pos q];exact ry
    · rw [if_neg q,if_neg q];exact r g
  · by_cases q:g=f
    · rw [q];exact (zf6 f y fs).1
    · refine (zf6 f y fs).2 g (wi g fun z=>hg ?_)
      show (if g=f then some u else mA g)=none
      rw [if_neg q];exact z
theorem Inv.made (I:Inv X pins σ H s):Inv X pins σ (upd (upd H s.heap.objs.size (.own (s.heap.objs.size+1))) (s.heap.objs.size+1) (.ins C s.heap.objs.size []))
    {s with heap:=(s.heap.push PySem.W.emptyDict).push (PySem.W.instObj C s.heap.objs.size)}:=show _ by
  have e1:(s.heap.push PySem.W.emptyDict).get? s.heap.objs.size=some PySem.W.emptyDict:=Heap.get?_push_size s.heap rfl
  have e2:((s.heap.push PySem.W.emptyDict).push (PySem.W.instObj C s.heap.objs.size)).get? (s.heap.objs.size+1)=some (PySem.W.instObj C s.heap.objs.size):=by
    have:=Heap.get?_push_size (s.heap.push PySem.W.emptyDict) (o:=PySem.W.instObj C s.heap.objs.size) rfl
    rwa [Heap.size_push] at this
  have e3:(s.heap.push PySem.W.emptyDict).Ns s.heap.objs.size (fun _=>none):=⟨PySem.W.emptyDict,#[],_,e1,rfl,(fun e he=>absurd he (by simp)),fun _=>rfl⟩
  have I1:=I.laid (a:=s.heap.objs.size) (o:=.own (s.heap.objs.size+1)) (h':=s.heap.push PySem.W.emptyDict) (t':=s.toks) (fun b u q=>Heap.get?_push_of_some _ q) (Nat.le_refl _) ⟨_,e1⟩
  refine I1.laid (a:=s.heap.objs.size+1) (o:=.ins C s.heap.objs.size []) (t':=s.toks) (fun b u q=>Heap.get?_push_of_some _ q) (Nat.le_of_eq (Heap.size_push _ _)) ?_
  have ne:s.heap.objs.size≠s.heap.objs.size+1:=Nat.ne_of_lt (Nat.lt_succ_self _)
  refine ⟨by rw [zar ne,za5],Nat.zero_le _,ne,e2,fun _=>none,(Heap.Ns1.of_empty e3).at fun o q=>Heap.get?_push_of_some _ q,fun _=>True.intro,fun y hy=>absurd rfl hy⟩
theorem zrr {prog:Program} {w:World} {env:Env} {e:Expr} {f:Str} {pos:Pos} {s:Shared} {Q:Value→Shared→Prop} (hb:attributeBase e f env (eval e env)=eval e env)
    (h:wpAny (model prog w) A (eval e env) (fun o s₁=>wpAny (model prog w) A (getAttr o f true) Q E s₁) E s):wpAny (model prog w) A (eval (.Attribute e f pos) env) Q E s :=
  Attribute_any_ h (by rw [arm_eval_Attribute,hb])
end
def tFld (K:PySem.W.Frag) (ta:TE) (f:Str):TE:=fun σ H Q=>ta σ H fun x H1=>∃a C dx fs v,x=.ref a∧H1 a=some (.ins C dx fs)∧Cls K C∧NoAttr K C f∧fs.lookup f=some v∧Q v H1
def sFld (K:PySem.W.Frag) (ta tv:TE) (f:Str):TS:=fun D σ H=>tv σ H fun y H1=>ta σ H1 fun x H2=>∃a C dx fs,x=.ref a∧H2 a=some (.ins C dx fs)∧Cls K C∧NoAttr K C f∧fs.length<1000 ∧
  D.nx σ (upd H2 a (.ins C dx (putF f y fs)))
section
variable {X:Cx} {o e value:Expr} {f:Str} {pos pos' tpos:Pos} {ta tv:TE}
theorem pe_fld (he:PE X e ta) (hb:attributeBase e f X.env (eval e X.env)=eval e X.env):PE X (.Attribute e f pos) (tFld X.K ta f):=show _ by
  intro pins s σ H Q I h
  refine zrr hb (thn (he pins s σ H _ I h) fun u s1 ⟨x,H1,I1,rx,a,C,dx,fs,v,ex,ea,c,n,l,q⟩=>?_)
  subst ex
  obtain rfl:u=Value.ref a:=rx
  exact zlj I1 ea c n l fun u' s2 I2 ru=>⟨v,H1,I2,ru,q⟩
theorem ps_fld (ha:PE X o ta) (hv:PE X value tv) (hs:swapsWith value (some (.Attribute o f pos')) pos.line X.env=pure false):PS X (.Assign [.Attribute o f pos'] value pos) (sFld X.K ta tv f):=show _ by
  intro pins s σ H D I h
  refine plainObj_wpAny_Assign_Attribute (thn (hv pins s σ H _ I h) fun u s1 ⟨y,H1,I1,ry,q⟩=>thn (ha pins s1 σ H1 _ I1 q) fun ov s2 ⟨x,H2,I2,rx,a,C,dx,fs,ex,ea,c,n,l,q2⟩=>?_) hs
  subst ex
  obtain rfl:ov=Value.ref a:=rx
  exact zkr I2 ea c n l ry fun s3 I3=>⟨σ,_,I3,q2⟩
end
section
variable {X:Cx} {pins:List (Addr×Obj)} {σ:St} {H:Hp} {s:Shared} {A:Around} {E:Value→Shared→Prop} {Q:Value→Shared→Prop} {c:Value} {b:Bool}
inductive TyOf (K:PySem.W.Frag) (H:Hp):V→Value→Prop where
  | non:TyOf K H .non (.type "NoneType")
  | bl (x:Bool):TyOf K H (.bl x) (.type "bool")
  | int (i:Int):TyOf K H (.int i) (.type "int")
  | str (x:Str):TyOf K H (.str x) (.type "str")
  | flt (x:UInt64):TyOf K H (.flt x) (.type "float")
  | lst {a:Addr} {xs:List V} (e:H a=some (.lst xs)):TyOf K H (.ref a) (.type "list")
  | frz {a:Addr} {o:Obj} {xs:List V} (e:H a=some (.frz o (.lst xs))):TyOf K H (.ref a) (.type "list")
  | tup {a:Addr} {xs:List V} (e:H a=some (.tup xs)):TyOf K H (.ref a) (.type "tuple")
  | dK {a:Addr} {kvs:List (Key×V)} (e:H a=some (.dK kvs)):TyOf K H (.ref a) (.type "dict")
  | dT {a:Addr} {kvs:List (List Key×V)} (e:H a=some (.dT kvs)):TyOf K H (.ref a) (.type "dict")
  | ins {a C dx:Addr} {fs:List (Str×V)} (e:H a=some (.ins C dx fs)) (cl:Cls K C) (ha:PySem.W.findIn K (.ref C) "__class__"=some (some (.builtin "object.__class__")))
      (hn:PySem.W.specialIn K (.builtin "object.__class__") "__get__"=some (some (.builtin "getset_descriptor.__get__"))) (htk:PySem.W.takesIn K (.builtin "object.__class__")=some true)
      (hm:PySem.W.mroIn K C (.type "object")=some true):TyOf K H (.ref a) (.ref C)
theorem znb {x:V} {u t:Value} (I:Inv X pins σ H s) (rx:RelV x u) (ty:TyOf X.K H x t) (e:PySem.W.kitOne X.K t c=some b) (h:∀tk,Q (.bool b) {s with toks:=tk}) :
    wpAny (model X.prog X.w) A (call (.builtin "isinstance") [u,c]) Q E s:=show _ by
  cases ty with
  | non=>cases (show u=Value.none from rx);exact PySem.W.kia_one PySem.W.kitx_none I.kIn True.intro e (fun z=>nomatch z) h
  | bl y=>cases (show u=Value.bool y from rx);exact PySem.W.kia_one PySem.W.kitx_bool I.kIn True.intro e (fun z=>nomatch z) h
  | int i=>obtain ⟨t,q⟩:=(show ∃t,u=Value.int i t from rx);cases q;exact PySem.W.kia_one PySem.W.kitx_int I.kIn True.intro e (fun z=>nomatch z) h
  | str y=>obtain ⟨t,q⟩:=(show ∃t,u=Value.str y t from rx);cases q;exact PySem.W.kia_one PySem.W.kitx_str I.kIn True.intro e (fun z=>nomatch z) h
  | flt y=>obtain ⟨t,q⟩:=(show ∃t,u=Value.float y t from rx);cases q;exact PySem.W.kia_one PySem.W.kitx_float I.kIn True.intro e (fun z=>nomatch z) h
  | @lst a xs ea =>
    cases (show u=Value.ref a from rx)
    obtain ⟨_,_,n,_,h1⟩:=(show ObjOk X.prog X.w H s.heap a (.lst xs) from I.hok a _ ea)
    exact PySem.W.kia_one PySem.W.kitx_list I.kIn ⟨_,h1,rfl⟩ e (fun z=>nomatch z) h
  | @frz a ob xs ea =>
    cases (show u=Value.ref a from rx)
    obtain ⟨_,_,_,n,_,h1⟩:=(show ObjOk X.prog X.w H s.heap a (.frz ob (.lst xs)) from I.hok a _ ea)
    exact PySem.W.kia_one PySem.W.kitx_list I.kIn ⟨_,h1,rfl⟩ e (fun z=>nomatch z) h
  | @tup a xs ea =>
    cases (show u=Value.ref a from rx)
    obtain ⟨_,_,_,p,_⟩:=(show ObjOk X.prog X.w H s.heap a (.tup xs) from I.hok a _ ea)
    obtain ⟨o,h1,h2,_⟩:=p
    exact PySem.W.kia_one PySem.W.kitx_tuple I.kIn ⟨o,h1,h2⟩ e (fun z=>nomatch z) h
  | @dK a kvs ea =>
    cases (show u=Value.ref a from rx)
    obtain ⟨_,_,vs,_,p⟩:=(show ObjOk X.prog X.w H s.heap a (.dK kvs) from I.hok a _ ea)
    obtain ⟨o,es,ep,h1,h2,_⟩:=p
    exact PySem.W.kia_one PySem.W.kitx_dict I.kIn ⟨o,h1,h2.1⟩ e (fun z=>nomatch z) h
  | @dT a kvs ea =>
    cases (show u=Value.ref a from rx)
    obtain ⟨_,_,xs,_,o,es,ep,h1,h2,_⟩:=(show ObjOk X.prog X.w H s.heap a (.dT kvs) from I.hok a _ ea)
    exact PySem.W.kia_one PySem.W.kitx_dict I.kIn ⟨o,h1,h2.1⟩ e (fun z=>nomatch z) h
  | @ins a C dx fs ea cl ha hn htk hm =>
    cases (show u=Value.ref a from rx)
    obtain ⟨mA,O,_⟩:=zh0 I.hok ea
    obtain ⟨od,J,_⟩:=O.look
    exact PySem.W.kia_one (PySem.W.kitx_own (cl.get _) cl.hd ha hn htk hm) I.kIn J e (fun z=>nomatch z) h
end
end L2
namespace L2
open PySem PySem.Spec PyProof.Rows
structure Room (k:Nat) (A:Around):Prop where
  hd:A.handled=none
  dp:A.depth+3*k+5<recursionLimit
  un:A.units+16*k+200<cLine
theorem Room.mono {j k:Nat} {A:Around} (r:Room k A) (h:j≤k):Room j A:=⟨r.hd,by have:=r.dp;omega,by have:=r.un;omega⟩
theorem Room.deeper {k:Nat} {A:Around} (r:Room (k+1) A) (env:Env):Room k (A.deeper env) :=
  ⟨r.hd,by have:=r.dp;show A.depth+1+3*k+5<_;omega,by have:=r.un;show A.units+3+16*k+200<_;omega⟩
theorem zlg {A:Around} {C:Addr} {us:List Value} {kw:List (Str×Value)}:(A.under (.builtin "type.__call__" ⟨.ref C::us,kw⟩)).depth=A.depth+1:=by
  first|rfl|simp [Around.under,Code.weight,Code.isCreation,Code.isGuard,Code.isCaller,Code.frames,Code.isFrame,guardIds]
theorem zlf {A:Around} {C:Addr} {us:List Value} {kw:List (Str×Value)}:(A.under (.builtin "type.__call__" ⟨.ref C::us,kw⟩)).units=A.units+1:=by
  first|rfl|simp [Around.under,Code.cUnits,Code.frames,Code.isFrame]
theorem Room.make {k:Nat} {A:Around} (r:Room (k+1) A) (C:Addr) (us:List Value) (kw:List (Str×Value)):Room k (A.under (.builtin "type.__call__" ⟨.ref C::us,kw⟩)) :=
  ⟨r.hd,by have:=r.dp;rw [zlg];omega,by have:=r.un;rw [zlf];omega⟩
theorem Room.depth {k:Nat} {A:Around} (r:Room k A):A.depth<recursionLimit:=by have:=r.dp;omega
theorem Room.units {k:Nat} {A:Around} (r:Room k A):A.units+64<cLine:=by have:=r.un;omega
def tNil:TA:=fun _ H Q=>Q [] H
def tCons (ta:TE) (tr:TA):TA:=fun σ H Q=>ta σ H fun x H1=>tr σ H1 fun xs H2=>Q (x::xs) H2
section
variable {X:Cx} {e:Expr} {es:List Expr} {te:TE} {t:TA} {pos:Pos}
theorem pa_nil:PA X [] tNil:=fun _ _ _ _ H Q I h=>Calls.spliced_nil ⟨[],H,I,.nil,h⟩
theorem zq6 (ha:PE X e te) (hr:PA X es t) (hs:starEach (e::es) X.env=(false,eval e X.env)::starEach es X.env:=by rfl):PA X (e::es) (tCons te t):=show _ by
  intro pos pins s σ H Q I h
  rw [hs]
  show wpAny _ _ (spliced ((false,eval e X.env)::backTo pos (starEach es X.env))) _ _ s
  refine Calls.spliced_cons (thn (ha pins s σ H _ I h) fun u s1 ⟨x,H1,I1,r1,q1⟩=>?_)
  exact thn (hr pos pins s1 σ H1 _ I1 q1) fun us s2 z_11=>by obtain ⟨xs,H2,I2,r2,q2⟩:=z_11;exact ⟨x::xs,H2,I2,.cons r1 r2,q2⟩
def tTup (t:TA):TE:=fun σ H Q=>t σ H fun xs H1=>xs.length≤sizeLine∧∀p,H1 p=none→Q (.ref p) (upd H1 p (.tup xs))
def tLst (t:TA):TE:=fun σ H Q=>t σ H fun xs H1=>xs.length≤sizeLine∧∀p,H1 p=none→Q (.ref p) (upd H1 p (.lst xs))
theorem pe_tup {x1} (h:PA X es t):PE X (.Tuple es x1 pos) (tTup t):=show _ by
  intro pins s σ H Q I hq
  refine wpAny_Tuple_spliced (thn (h pos pins s σ H _ I hq) fun us s1 ⟨xs,H1,I1,r,z,q⟩=>⟨by rw [←r.length];exact z,?_⟩)
  have hf:H1 s1.heap.objs.size=none:=I1.hok.fresh (Nat.le_refl _)
  refine ⟨.ref s1.heap.objs.size,upd H1 s1.heap.objs.size (.tup xs),I1.laid (t':=s1.toks) (fun b u e=>Heap.get?_push_of_some _ e) (Nat.le_refl _) ?_,rfl,q _ hf⟩
  exact ⟨z,us,r,⟨_,Heap.get?_push_size _ rfl,rfl,_,rfl⟩,fun o q=>by rw [Heap.get?_push_size _ rfl] at q;cases q;rfl⟩
theorem pe_lst (h:PA X es t):PE X (.List es pos) (tLst t):=show _ by
  intro pins s σ H Q I hq
  refine wpAny_List_spliced (thn (h pos pins s σ H _ I hq) fun us s1 ⟨xs,H1,I1,r,z,q⟩=>⟨by rw [←r.length];exact z,?_⟩)
  have hf:H1 s1.heap.objs.size=none:=I1.hok.fresh (Nat.le_refl _)
  refine ⟨.ref s1.heap.objs.size,upd H1 s1.heap.objs.size (.lst xs),I1.laid (t':=s1.toks) (fun b u e=>Heap.get?_push_of_some _ e) (Nat.le_refl _) ?_,rfl,q _ hf⟩
  exact ⟨z,us,0,r,Heap.get?_push_size _ rfl⟩
end
noncomputable abbrev Sp:=List V→Hp→VK→XK→Prop
noncomputable abbrev CXT:=List Env→Hp→Shared→XK→Value→Shared→Prop
structure Env0 (P:Program) (w:World) (K:PySem.W.Frag) (mg:Str→Option Value) (base:Heap) (A:Around) (outer:List Env) (s:Shared) (H:Hp):Prop where
  frames:A.frames=some outer
  mod:Mod K mg base
  bs:∀b o,base.get? b=some o→s.heap.get? b=some o∧H b=none
  bsz:base.objs.size≤s.heap.objs.size
  funs:s.heap.FunFrames base outer
  frf:∀b∈frs outer,H b=none
  hok:HOk P w H s.heap
  bare:AllBare s.gens
def CE (outer:List Env) (P:Program) (w:World) (H:Hp) (s:Shared) (Q:VK) (u:Value) (s':Shared):Prop :=
  ∃v H',s'.os=s.os∧AllBare s'.gens∧Un (frs outer) [] H H' s.heap s'.heap∧HOk P w H' s'.heap∧RelV v u∧Q v H'
def CR (CX:CXT) (outer:List Env) (P:Program) (w:World) (H:Hp) (s:Shared) (Q:VK) (E:XK) (r:Result) (s':Shared):Prop :=
  match r with
  | .ok (.ret u)=>CE outer P w H s Q u s'
  | .ok _=>False
  | .error e=>CX outer H s E e s'
structure FnOk (P:Program) (w:World) (K:PySem.W.Frag) (mg:Str→Option Value) (base:Heap) (CX:CXT) (k:Nat) (f:Addr) (fd:FuncData) (ps:List Str) (sp:Sp):Prop where
  len:∀vs H Q E,sp vs H Q E→vs.length=ps.length
  run:∀(A:Around) (outer:List Env) (s:Shared) (H:Hp) (args:Args) (us:List Value) (vs:List V) (Q:VK) (E:XK),Room k A→Env0 P w K mg base A outer s H→BindsTo s fd args (ps.zip us)→Vals vs us→sp vs H Q E →
    codeAny (model P w) A (.call (.ref f) args) (CR CX outer P w H s Q E) s
theorem FnOk.mono {P:Program} {w:World} {K:PySem.W.Frag} {mg:Str→Option Value} {base:Heap} {CX:CXT} {j k:Nat} {f:Addr} {fd:FuncData} {ps:List Str} {sp:Sp} (F:FnOk P w K mg base CX j f fd ps sp) (h:j≤k) :
    FnOk P w K mg base CX k f fd ps sp:=⟨F.len,fun A outer s H args us vs Q E hr=>F.run A outer s H args us vs Q E (hr.mono h)⟩
theorem FnOk.imp {P:Program} {w:World} {K:PySem.W.Frag} {mg:Str→Option Value} {base:Heap} {CX:CXT} {k:Nat} {f:Addr} {fd:FuncData} {ps:List Str} {sp sp':Sp} (F:FnOk P w K mg base CX k f fd ps sp)
    (h:∀vs H Q E,sp' vs H Q E→sp vs H Q E):FnOk P w K mg base CX k f fd ps sp' :=
  ⟨fun vs H Q E q=>F.len vs H Q E (h _ _ _ _ q),fun A outer s H args us vs Q E hr he hb hv hs=>F.run A outer s H args us vs Q E hr he hb hv (h _ _ _ _ hs)⟩
theorem Env0.make {P:Program} {w:World} {K:PySem.W.Frag} {mg:Str→Option Value} {base:Heap} {A:Around} {outer:List Env} {s:Shared} {H:Hp} (e:Env0 P w K mg base A outer s H) (C:Addr) (us:List Value) (kw:List (Str×Value)) :
    Env0 P w K mg base (A.under (.builtin "type.__call__" ⟨.ref C::us,kw⟩)) outer s H:=⟨by first|exact e.frames|(simpa [Around.under,Code.envs,Code.isFrame,pushEnvs] using e.frames),e.mod,e.bs,e.bsz,e.funs,e.frf,e.hok,e.bare⟩
section
variable {X:Cx} {pins:List (Addr×Obj)} {σ:St} {H:Hp} {s s':Shared}
theorem Inv.env0 (I:Inv X pins σ H s):Env0 X.prog X.w X.K X.mg X.base X.A X.stack s H :=
  ⟨I.ok.frames,I.ok.mod,I.bs,Nat.le_trans I.ok.bsz I.sz,I.stack,I.stkFree,I.hok,I.bare⟩
theorem Inv.after {Q:VK} {u:Value} (I:Inv X pins σ H s) (h:CE X.stack X.prog X.w H s Q u s'):EP X pins σ Q u s':=show _ by
  obtain ⟨v,H',os,bare,un,hok,r,q⟩:=h
  obtain ⟨hh,g,d,t,os'⟩:=s'
  obtain rfl:os'=s.os:=os
  exact ⟨v,H',I.call (h':=hh) (g':=g) (d':=d) (t':=t) (ch:=[]) un hok bare (fun b z=>absurd z (by simp)),r,q⟩
end
def Binds (K:PySem.W.Frag) (fd:FuncData) (ps:List Str) (ds:List Value):Prop :=
  ∀(s:Shared) (us:List Value),K.In s.heap→(us++ds).length=ps.length→BindsTo s fd ⟨us,[]⟩ (ps.zip (us++ds))
theorem Binds.all {K:PySem.W.Frag} {fd:FuncData} {ps:List Str} (h:∀us:List Value,us.length=ps.length→bindArgs fd ⟨us,[]⟩=pure (ps.zip us)):Binds K fd ps []:=fun s us _ hl=>by
  rw [List.append_nil] at hl ⊢
  exact .of_eq (h us hl)
section
variable {X:Cx} {CX:CXT} {k:Nat} {f C:Addr} {fd:FuncData} {ps:List Str} {sp:Sp} {dvs:List V} {ds:List Value} {E:XK} {x m:Str} {p pos apos:Pos} {e o:Expr} {es:List Expr} {ta:TE} {t:TA}
structure Mk (K:PySem.W.Frag) (C f:Addr):Prop where
  makes:PySem.W.makesIn K C=true
  init:PySem.W.findIn K (.ref C) "__init__"=some (some (.ref f))
  fn:PySem.W.isFn K (.ref f)=true
  kp:PySem.W.keepIn K (.ref C)=true
end
structure FnScope (N P:List Str) (sc:Scope):Prop where
  kind:sc.kind=.function
  co:sc.isCoroutine=false
  gen:sc.isGenerator=false
  nd:N.Nodup
  pre:N.take P.length=P
  par:∀x∈P,sc.names.lookup x=some .local∨sc.names.lookup x=some .cell
  nofree:∀y∈sc.names,y.2≠.free
theorem zi7 {kindOf:Str→Option NameKind} {x:Str}:∀{binds:List (Str×Value)} {m:Str→Option Value},(∀v,(x,v)∉binds)→bindL kindOf binds m x=m x
  | [],_,_=>rfl
  | (n,v)::r,m,h=>by
    unfold bindL
    rw [zi7 fun w hw=>h w (List.mem_cons_of_mem _ hw)]
    split
    · have:x≠n:=show _ by rintro rfl;exact h v List.mem_cons_self
      simp [this]
    · rfl
theorem zi9 {kindOf:Str→Option NameKind} {x:Str}:∀{binds:List (Str×Value)} {m:Str→Option Value},(∀v,(x,v)∉binds)→bindC kindOf binds m x=m x
  | [],_,_=>rfl
  | (n,v)::r,m,h=>by
    unfold bindC
    rw [zi9 fun w hw=>h w (List.mem_cons_of_mem _ hw)]
    split
    · rfl
    · have:x≠n:=show _ by rintro rfl;exact h v List.mem_cons_self
      simp [this]
theorem zi8 {kindOf:Str→Option NameKind} {x:Str} {v:Value}:∀{P:List Str} {vs:List Value} {i:Nat} {m:Str→Option Value},P.Nodup→P[i]?=some x→vs[i]?=some v→kindOf x=some .local →
    bindL kindOf (P.zip vs) m x=some v
  | [],_,_,_,_,h,_,_=>by simp at h
  | _::_,[],_,_,_,_,h,_=>by simp at h
  | p::P,w::vs,0,m,nd,h1,h2,hk=>by
    simp at h1 h2;subst h1;subst h2
    show bindL kindOf ((p,w)::P.zip vs) m p=_
    unfold bindL
    rw [zi7 fun v hv=>(List.nodup_cons.mp nd).1 (List.of_mem_zip hv).1,if_pos hk]
    simp
  | p::P,w::vs,i+1,m,nd,h1,h2,hk=>by
    show bindL kindOf ((p,w)::P.zip vs) m x=_
    unfold bindL
    exact zi8 (i:=i) (List.nodup_cons.mp nd).2 (by simpa using h1) (by simpa using h2) hk
theorem zja {kindOf:Str→Option NameKind} {x:Str} {v:Value}:∀{P:List Str} {vs:List Value} {i:Nat} {m:Str→Option Value},P.Nodup→P[i]?=some x→vs[i]?=some v→kindOf x≠some .local →
    bindC kindOf (P.zip vs) m x=some v
  | [],_,_,_,_,h,_,_=>by simp at h
  | _::_,[],_,_,_,_,h,_=>by simp at h
  | p::P,w::vs,0,m,nd,h1,h2,hk=>by
    simp at h1 h2;subst h1;subst h2
    show bindC kindOf ((p,w)::P.zip vs) m p=_
    unfold bindC
    rw [zi9 fun v hv=>(List.nodup_cons.mp nd).1 (List.of_mem_zip hv).1,if_neg hk]
    simp
  | p::P,w::vs,i+1,m,nd,h1,h2,hk=>by
    show bindC kindOf ((p,w)::P.zip vs) m x=_
    unfold bindC
    exact zja (i:=i) (List.nodup_cons.mp nd).2 (by simpa using h1) (by simpa using h2) hk
noncomputable def start (N:List Str) (vs:List V):St:=vs.map some++List.replicate (N.length-vs.length) none
noncomputable def cxOf (CX:CXT) (P:Program) (w:World) (K:PySem.W.Frag) (mg:Str→Option Value) (base:Heap) (N:List Str) (qual:Str) (scope:Scope) (f:Addr) (cd:Value) (A:Around) (outer:List Env) (s:Shared) (H:Hp) (E:XK):Cx where
  prog:=P
  w:=w
  K:=K
  mg:=mg
  base:=base
  A:=A.deeper (envOfC qual scope s.heap.objs.size f cd)
  N:=N
  s₀:=s
  H₀:=H
  env:=envOfC qual scope s.heap.objs.size f cd
  outer:=outer
  stack:=envOfC qual scope s.heap.objs.size f cd::outer
  ex:=[]
  calm:=true
  fn:=fun _=>true
  pn:=[]
  xe:=fun e s'=>wpAny (model P w) (A.deeper (envOfC qual scope s.heap.objs.size f cd)) (leaving (envOfC qual scope s.heap.objs.size f cd) e) (fun _ s''=>CX outer H s E e s'') (fun e' s''=>CX outer H s E e' s'') s'
theorem zkj {sc:Scope} {n:Nat} {x:Str} (h:sc.names.lookup x=some .cell):∃c,(cellsFrom n sc.names []).lookup x=some c:=by
  have q:=PySem.W.cellsFrom_some sc.names n [] (.inl h)
  exact Option.isSome_iff_exists.mp q
theorem znc {CX:CXT} {P:Program} {w:World} {K:PySem.W.Frag} {mg:Str→Option Value} {base:Heap} {N ps:List Str} {qual:Str} {scope:Scope} {f:Addr} {cd:Value} {A:Around} {outer:List Env} {s s1:Shared} {H:Hp} {E:XK} {us:List Value} {vs:List V}
    (S:FnScope N ps scope) (hd:A.handled=none) (e0:Env0 P w K mg base A outer s H) (hl:vs.length=ps.length) (r:Vals vs us)
    (x:InCallC s s.heap.objs.size (bindL (envOfC qual scope s.heap.objs.size f cd).kindOf (ps.zip us) fun _=>none) (cellsFrom (s.heap.objs.size+1) scope.names []) (bindC (envOfC qual scope s.heap.objs.size f cd).kindOf (ps.zip us) fun _=>none) s1) :
    Inv (cxOf CX P w K mg base N qual scope f cd A outer s H E) [] (start N vs) H s1:=show _ by
  have hpl:ps.length≤N.length:=by have:=congrArg List.length S.pre;rw [List.length_take] at this;omega
  obtain ⟨h1,tk,rfl,hk⟩:=x.done
  have noA:∀b:Addr,b∉(cxOf CX P w K mg base N qual scope f cd A outer s H E).ex:=fun b z=>absurd (show b∈([]:List Addr) from z) (by simp)
  refine ⟨⟨e0.mod,S.kind,rfl,rfl,Nat.le_refl _,fun y z c h1 h2=>?_,fun y hy=>?_,fun y c _ h=>?_,fun _=>hd,Around.frames_deeper e0.frames,.inr ⟨rfl,rfl⟩,fun b z=>absurd z (noA b),e0.bs,e0.bsz,fun b _ _=>noA b,fun b z=>absurd z (noA b),e0.funs,e0.frf⟩,
    rfl,e0.bare,Un.kept hk,⟨_,x.toInCall.ns,fun i y v h1 h2 h3=>?_⟩,fun y c h=>⟨_,x.cell y c h⟩,e0.hok.fresh (Nat.le_refl _),fun y c h=>?_,fun p hp=>absurd (show p∈([]:List (Addr×Obj)) from hp) (by simp),e0.hok.kept hk,?_⟩
  · exact name_of_addr x.apart (PySem.mem_of_lookup h1) (PySem.mem_of_lookup h2)
  · have hy:scope.names.lookup y=some .cell∨scope.names.lookup y=some .free:=hy
    rcases hy with hy|hy
    · exact zkj hy
    · exact absurd rfl (S.nofree _ (PySem.mem_of_lookup hy))
  · exact Nat.le_of_lt (x.above y c (PySem.mem_of_lookup h))
  · have hi:i<vs.length:=by
      unfold start at h2
      by_cases hi:i<vs.length
      · exact hi
      · rw [List.getElem?_append_right (by simpa using hi)] at h2
        rw [List.getElem?_replicate] at h2
        split at h2<;>cases h2
    have ha:vs[i]?=some v:=by
      unfold start at h2
      rw [List.getElem?_append_left (by simpa using hi),List.getElem?_map] at h2
      cases e:vs[i]? with
      | none=>rw [e] at h2;cases h2
      | some a=>rw [e] at h2;cases h2;rfl
    obtain ⟨u,hu,rv⟩:=r.get ha
    have hp:ps[i]?=some y:=by
      rw [←S.pre,List.getElem?_take_of_lt (by omega)];exact h1
    have ndP:ps.Nodup:=by rw [←S.pre];exact S.nd.sublist (List.take_sublist _ _)
    refine ⟨u,rv,?_⟩
    rcases S.par y (List.mem_of_getElem? hp) with k|k
    · exact .inl ⟨k,zi8 ndP hp hu k⟩
    · obtain ⟨c,e⟩:=zkj (n:=s.heap.objs.size+1) k
      refine .inr ⟨.inl k,c,e,?_⟩
      have q:=x.cell y c e
      rw [zja ndP hp hu (by show scope.names.lookup y≠_;rw [k];decide)] at q
      exact q
  · exact e0.hok.fresh (Nat.le_of_lt (x.above y c (PySem.mem_of_lookup h)))
  · unfold start
    show _=N.length
    rw [List.length_append,List.length_map,List.length_replicate]
    omega
theorem zri {CX:CXT} {P:Program} {w:World} {K:PySem.W.Frag} {mg:Str→Option Value} {base:Heap} {k:Nat} {f:Addr} {name qual:Str} {params:Arguments} {body:List Stmt} {scope:Scope} {dV kV doc pm cdv ct oc:Value} {an od:Option Addr}
    {osl:Array (Option Value)} {N ps:List Str} {sp:Sp} (lk:K.lookup f=some ⟨oc,od,.func (PySem.W.fnOf name qual params body scope dV kV doc pm an cdv ct),osl⟩) (hcd:PySem.W.codeIn K cdv qual=true) (S:FnScope N ps scope)
    (len:∀vs H Q E,sp vs H Q E→vs.length=ps.length)
    (hbody:∀(A:Around) (outer:List Env) (s:Shared) (H:Hp) (vs:List V) (Q:VK) (E:XK),Room k (A.deeper (envOfC qual scope s.heap.objs.size f cdv))→sp vs H Q E →
      ∃t,PSs (cxOf CX P w K mg base N qual scope f cdv A outer s H E) body t∧t {nx:=fun _ H'=>Q .non H',rt:=Q} (start N vs) H) :
    FnOk P w K mg base CX (k+1) f (PySem.W.fnOf name qual params body scope dV kV doc pm an cdv ct) ps sp:=show _ by
  refine ⟨len,fun A outer s H args us vs Q E hr e0 hb r hsp=>?_⟩
  have hl:=len _ _ _ _ hsp
  have KX:K.In s.heap:=e0.mod.kin.keeps fun b o e=>(e0.bs b o e).1
  have lim:s.heap.NoLimit:=e0.mod.nolimit.keeps fun b o e=>(e0.bs b o e).1
  have hkind:∀y∈ps.zip us,scope.names.lookup y.1=some .local∨(scope.names.lookup y.1=some .cell∧((cellsFrom (s.heap.objs.size+1) scope.names []).lookup y.1).isSome=true):=fun z_13 hy=>by
    obtain ⟨n,v⟩:=z_13
    rcases S.par n (List.of_mem_zip hy).1 with q|q
    · exact .inl q
    · exact .inr ⟨q,PySem.W.cellsFrom_some _ _ _ (.inl q)⟩
  refine codeAny_call_function hr.depth (KX _ _ lk) rfl S.co S.gen rfl (PySem.W.codeRec_of KX hcd) (hb _ _ _ _ ?_)
  refine wpAny_newFunctionEnv_cells S.kind hkind fun env he s1 x=>?_
  subst he
  refine ⟨lim.keeps x.toInCall.keep,codeAny_func ?_⟩
  obtain ⟨t,ht,hq⟩:=hbody A outer s H vs Q E (hr.deeper _) hsp
  have I:Inv (cxOf CX P w K mg base N qual scope f cdv A outer s H E) [] (start N vs) H s1:=znc S hr.hd e0 hl r x
  refine wpAny_mono (ht [] s1 (start N vs) H _ I hq) (fun fl s' hs=>?_) fun e s' hs=>hs
  have fin:∀{σ':St} {H':Hp} {v:V} {u:Value},Inv (cxOf CX P w K mg base N qual scope f cdv A outer s H E) [] σ' H' s'→RelV v u→Q v H'→CE outer P w H s Q u s' :=
    fun {σ' H' v u} J rv q=>⟨v,H',J.os,J.bare,J.base,J.hok,rv,q⟩
  cases fl with
  | ret u =>
    obtain ⟨v,σ',H',J,rv,q⟩:=hs
    exact fin J rv q
  | next =>
    obtain ⟨σ',H',J,q⟩:=hs
    exact fin (v:=V.non) (u:=Value.none) J rfl q
  | brk =>
    obtain ⟨_,_,_,q⟩:=hs
    exact False.elim q
  | cont =>
    obtain ⟨_,_,_,q⟩:=hs
    exact False.elim q
end L2
namespace L2
open PySem PySem.Spec PyProof.Rows
section
variable {X:Cx} {x:Str} {p pos:Pos} {e:Expr} {es:List Expr} {t:TA} {id T:String} {r:List V→Hp→VK→Prop}
def tCB (r:List V→Hp→VK→Prop) (t:TA):TE:=fun σ H Q=>t σ H fun vs H1=>r vs H1 Q
theorem zo5 (hc:CallR X (.builtin id) r) (hg:Gl X x) (hm:X.mg x=none) (hv:bootBuiltins x=some (.builtin id)) (ha:PA X (e::es) t) (hn:x≠"__name__":=by decide) (hdb:(x==("__debug__":Str))=false:=by decide)
    (he:starEach (e::es) X.env=(false,eval e X.env)::starEach es X.env:=by rfl) (hpl:(backTo pos (starEach es X.env)).any (·.1)=false:=by rfl):PE X (.Call (.Name x p) (e::es) [] pos) (tCB r t):=show _ by
  intro pins s σ H Q I h
  refine wpAny_Call_Name_kw (zf5 I hg hm hv ?_ hn hdb)
  exact PyProof.Rows.callWith_builtin1 (thn (ha pos pins s σ H _ I h) fun us s1 z_14=>by obtain ⟨vs,H1,I1,r1,q1⟩:=z_14;exact hc pins s1 σ H1 vs us Q I1 r1 q1) he hpl
theorem zmr (hc:CallR X (.type T) r) (hg:Gl X x) (hm:X.mg x=none) (hv:bootBuiltins x=some (.type T)) (ha:PA X (e::es) t) (hn:x≠"__name__":=by decide) (hdb:(x==("__debug__":Str))=false:=by decide)
    (he:starEach (e::es) X.env=(false,eval e X.env)::starEach es X.env:=by rfl) (hpl:(backTo pos (starEach es X.env)).any (·.1)=false:=by rfl):PE X (.Call (.Name x p) (e::es) [] pos) (tCB r t):=show _ by
  intro pins s σ H Q I h
  refine wpAny_Call_Name_kw (zf5 I hg hm hv ?_ hn hdb)
  exact PyProof.Rows.callWith_type1 (thn (ha pos pins s σ H _ I h) fun us s1 z_15=>by obtain ⟨vs,H1,I1,r1,q1⟩:=z_15;exact hc pins s1 σ H1 vs us Q I1 r1 q1) he hpl
end
end L2
namespace HT
open PySem PyProof.Rows
section
open PySem.SeqAt
open PySem.AutoSeq1 (wpAny_loadPart')
open PySem.MeetsSeq PySem.MeetsSeq2 PySem.MeetsSeq3
end
section
variable {prog:Program} {w:World} {A:Around} {E:Value→Shared→Prop} {s:Shared}
theorem zrq {t b:Addr} {vs ws:List Value} {Q:Value→Shared→Prop} (ht:IsTup s.heap t vs.toArray) (hb:IsTup s.heap b ws.toArray) (hv:vs≠[])
    (h1:ws=[]→Q (.ref t) s) (h2:ws≠[]→Q (.ref s.heap.objs.size) {s with heap:=s.heap.push {cls:=.type "tuple",data:=.seq (vs++ws).toArray}})
    (hsz:vs.length+ws.length≤sizeLine):wpAny (model prog w) A (binaryOp .Add (.ref t) (.ref b)) Q E s:=show _ by
  obtain ⟨⟨cls,dd,data,sl⟩,ho,hc,n,hd⟩:=id ht
  obtain ⟨⟨cls2,dd2,data2,sl2⟩,ho2,hc2,n2,hd2⟩:=id hb
  simp only at hc hd hc2 hd2
  subst hc hd hc2 hd2
  have e:vs.toArray++ws.toArray=(vs++ws).toArray:=by simp
  by_cases hw:ws=[]
  · exact concat_meets ⟨_,ho,rfl⟩ ⟨_,ho2,rfl⟩ noFill_tuple_add seq_tuple_add PySem.F.slot_tuple_add PySem.F.entry_tuple_add (PySem.F.args_tuple_add_2 _ _)
      (tuple_addW1 t b vs.toArray ws.toArray n n2 dd dd2 sl sl2 (by simpa using hv) (by simp [hw])) ⟨ho,ho2,h1 hw⟩
  · refine concat_meets ⟨_,ho,rfl⟩ ⟨_,ho2,rfl⟩ noFill_tuple_add seq_tuple_add PySem.F.slot_tuple_add PySem.F.entry_tuple_add (PySem.F.args_tuple_add_2 _ _)
      (tuple_addW2 t b vs.toArray ws.toArray n n2 dd dd2 sl sl2 (by simpa using hv) (by simpa using hw) (by rw [List.size_toArray,List.size_toArray];exact hsz)) ⟨ho,ho2,?_⟩
    rw [e]
    exact h2 hw
noncomputable def sIx (n d:Nat):Option Int→Nat
  | none=>d
  | some v=>if v<0 then (v+(n:Int)).toNat else min v.toNat n
theorem zeg (n d:Nat):sIx n d none=d:=rfl
theorem zfw (n d k:Nat):sIx n d (some (k:Int))=min k n:=by
  show (if (k:Int)<0 then ((k:Int)+(n:Int)).toNat else min (k:Int).toNat n)=min k n
  rw [if_neg (by omega),Int.toNat_natCast]
theorem zmh (n d:Nat) (hd:d≤n) (o:Option Int):sIx n d o≤n:=by
  cases o with
  | none=>exact hd
  | some v =>
    show (if v<0 then (v+(n:Int)).toNat else min v.toNat n)≤n
    by_cases hv:v<0
    · rw [if_pos hv];omega
    · rw [if_neg hv];exact Nat.min_le_right _ _
theorem zn4 (v:Int) (n d:Nat):(if v<0 then max (v+(n:Int)) 0 else min v (n:Int))=((sIx n d (some v):Nat):Int):=show _ by
  show (if v<0 then max (v+(n:Int)) 0 else min v (n:Int))=(((if v<0 then (v+(n:Int)).toNat else min v.toNat n):Nat):Int)
  by_cases hv:v<0
  · simp only [if_pos hv];omega
  · simp only [if_neg hv];omega
theorem zlo (lo hi:Option Int) (n:Nat):Builtin.Slice.sliceAdjust lo hi 1 (n:Int)=(((sIx n 0 lo:Nat):Int),((sIx n n hi:Nat):Int)):=show _ by
  have h1:¬((1:Int)<0):=by omega
  unfold Builtin.Slice.sliceAdjust
  simp only [h1,if_false]
  refine Prod.ext ?_ ?_
  · cases lo with
    | none=>rfl
    | some v=>exact zn4 v n 0
  · cases hi with
    | none=>rfl
    | some v=>exact zn4 v n n
theorem zk2 (i j:Nat):Builtin.Slice.slicePlaces (i:Int) (j:Int) 1=j-i:=by
  unfold Builtin.Slice.slicePlaces
  have h1:(1:Int)>0:=by omega
  simp only [h1,if_true,Int.ediv_one]
  split<;>omega
theorem zgx {v:Value} {o:Option Int} {Q:Option Int→Shared→Prop} (p:IsPart v o) (h:Q o s):wpAny (model prog w) A (Builtin.Slice.slicePartIndex v) Q E s:=by
  cases p with
  | none=>exact slicePart_none h
  | int i t=>exact slicePart_int h
theorem zdl {sl:Addr} {vl vu:Value} {lo hi:Option Int} {n:Nat} {Q:Int×Int×Nat→Shared→Prop} (hs:s.heap.IsSliceOf sl vl vu .none) (pl:IsPart vl lo) (pu:IsPart vu hi)
    (h:Q (((sIx n 0 lo:Nat):Int),1,sIx n n hi-sIx n 0 lo) s):wpAny (model prog w) A (Builtin.Slice.sliceApplied (.ref sl) (pure (n:Int))) Q E s:=show _ by
  obtain ⟨os,hos,hcs,hds⟩:=id hs
  unfold Builtin.Slice.sliceApplied Builtin.Slice.sliceFields
  refine wpAny_bind (wpAny_bind (wpAny_field hos hds (x:=vl) rfl (wpAny_bind (wpAny_field hos hds (x:=vu) rfl (wpAny_bind (wpAny_field hos hds (x:=.none) rfl (wpAny_pure ?_)))))))
  refine wpAny_bind (slicePart_none ?_)
  show wpAny _ _ (if ((1:Int)==0)=true then _ else _) _ _ s
  rw [if_neg (by decide)]
  refine wpAny_bind (zgx pl (wpAny_bind (zgx pu (wpAny_bind (wpAny_pure ?_)))))
  show wpAny _ _ (match Builtin.Slice.sliceAdjust lo hi 1 (n:Int) with|(lo,hi)=>pure (lo,(1:Int),Builtin.Slice.slicePlaces lo hi 1)) _ _ s
  rw [zlo lo hi n]
  show wpAny _ _ (pure (((sIx n 0 lo:Nat):Int),(1:Int),Builtin.Slice.slicePlaces ((sIx n 0 lo:Nat):Int) ((sIx n n hi:Nat):Int) 1)) _ _ s
  rw [zk2]
  exact wpAny_pure h
theorem zov (xs:Array Value) (i k:Nat):((List.range k).filterMap fun (m:Nat)=>xs[((i:Int)+(m:Int)*1).toNat]?).toArray=((xs.toList.drop i).take k).toArray:=show _ by
  have e:(fun (m:Nat)=>xs[((i:Int)+(m:Int)*1).toNat]?)=fun m=>xs[i+m]?:=by
    funext m
    have:((i:Int)+(m:Int)*1).toNat=i+m:=by omega
    rw [this]
  rw [e]
  have:=pick_run xs i k
  rw [List.filterMap_map] at this
  have e2:((fun x=>xs[x]?) ∘ fun x=>i+x)=fun m=>xs[i+m]?:=rfl
  rw [e2] at this
  rw [this]
theorem zey {t sl:Addr} {items:Array Value} {vl vu:Value} {lo hi:Option Int} {Q:Value→Shared→Prop} (ht:IsTup s.heap t items) (hs:s.heap.IsSliceOf sl vl vu .none) (pl:IsPart vl lo) (pu:IsPart vu hi)
    (hw:¬(sIx items.size 0 lo=0∧sIx items.size items.size hi=items.size))
    (h:Q (.ref s.heap.objs.size) {s with heap:=s.heap.push {cls:=.type "tuple",data:=.seq ((items.toList.drop (sIx items.size 0 lo)).take (sIx items.size items.size hi-sIx items.size 0 lo)).toArray}})
    (hsz:items.size≤sizeLine):wpAny (model prog w) A (getItem (.ref t) (.ref sl)) Q E s:=show _ by
  have htake:sizeOk (.seq ((items.toList.drop (sIx items.size 0 lo)).take (sIx items.size items.size hi-sIx items.size 0 lo)).toArray):=by
    show ((items.toList.drop (sIx items.size 0 lo)).take (sIx items.size items.size hi-sIx items.size 0 lo)).toArray.size≤sizeLine
    rw [List.size_toArray,List.length_take,List.length_drop,Array.length_toList]
    omega
  have hj:sIx items.size items.size hi≤items.size:=zmh _ _ (Nat.le_refl _) hi
  obtain ⟨os,hos,hcs,hds⟩:=id hs
  have hTs:s.TypeIs (.ref sl) "slice":=⟨os,hos,hcs⟩
  unfold getItem
  try with_reducible refine wpAny_holding ?_
  first|refine wpAny_bind (wpAny_pure ?_)|skip
  refine wpAny_bind (wpAny_sequenceKey ht.typeIs (by decide) ?_)
  refine wpAny_bind (wpAny_callSpecial?_slot (name:=Str.ofString "__getitem__") ht.typeIs PyProof.Rows.slot_tuple_getitem
    (wpAny_call_entry PyProof.Rows.slot_tuple_getitem ht.typeIs entry_tuple_getitem ?_ (args_tuple_getitem _ _)))
  show wpAny _ _ (Builtin.Tuple.tupleItemsOf (.ref t) >>= _) _ _ s
  refine wpAny_bind (tupleItemsOf_ ht ?_)
  refine wpAny_bind (wpAny_typeOf hTs ?_)
  rw [if_pos (by decide)]
  refine wpAny_bind (zdl hs pl pu ?_)
  have hno:¬((((sIx items.size 0 lo:Nat):Int)==0&&(1:Int)==1&&(sIx items.size items.size hi-sIx items.size 0 lo)==items.size)=true):=by
    intro q
    rw [Bool.and_eq_true,Bool.and_eq_true] at q
    have q1:((sIx items.size 0 lo:Nat):Int)=0:=eq_of_beq q.1.1
    have q2:sIx items.size items.size hi-sIx items.size 0 lo=items.size:=eq_of_beq q.2
    exact hw ⟨by omega,by omega⟩
  show wpAny _ _ (if (((sIx items.size 0 lo:Nat):Int)==0&&(1:Int)==1&&(sIx items.size items.size hi-sIx items.size 0 lo)==items.size)=true then _ else _) _ _ s
  rw [if_neg hno,zov]
  first
    | exact wpAny_bind (m:=Builtin.Tuple.tupleExact _) (wpAny_newObj_type (wpAny_pure ⟨_,rfl,wpAny_pure h⟩) htake)
    | exact wpAny_bind (m:=Builtin.Tuple.tupleExact _) (wpAny_newObj_type (wpAny_bind (wpAny_pure (wpAny_pure ⟨_,rfl,wpAny_pure h⟩))) htake)
    | exact wpAny_bind (wpAny_bind (m:=Builtin.Tuple.tupleExact _) (wpAny_newObj_type (wpAny_pure (wpAny_pure ⟨_,rfl,wpAny_pure h⟩)) htake))
    | exact wpAny_bind (wpAny_bind (m:=Builtin.Tuple.tupleExact _) (wpAny_newObj_type (wpAny_pure ⟨_,rfl,wpAny_pure h⟩) htake))
end
end HT
namespace L2
open PySem PySem.Spec PyProof.Rows
noncomputable abbrev TO:=St→Hp→(Option Int→Hp→Prop)→Prop
def PO (X:Cx) (e:Option Expr) (t:TO):Prop :=
  ∀(pins:List (Addr×Obj)) (s:Shared) (σ:St) (H:Hp) (Q:Option Int→Hp→Prop),Inv X pins σ H s→t σ H Q →
    wpAny (model X.prog X.w) X.A (evalPart e X.env) (fun u s'=>∃o H',Inv X pins σ H' s'∧IsPart u o∧Q o H') X.xe s
noncomputable def tNoPart:TO:=fun _ H Q=>Q none H
noncomputable def tPart (t:TE):TO:=fun σ H Q=>t σ H fun x H1=>∃i,x=.int i∧Q (some i) H1
section
variable {X:Cx} {e:Expr} {te:TE} {lo hi:Option Expr} {tl th:TO} {pos p2:Pos}
theorem zqw:PO X none tNoPart:=by
  intro pins s σ H Q I h
  rw [evalPart_none]
  exact wpAny_pure ⟨none,H,I,.none,h⟩
theorem zqv (h:PE X e te):PO X (some e) (tPart te):=by
  intro pins s σ H Q I hw
  rw [evalPart_some]
  refine thn (h pins s σ H _ I hw) fun u s1 ⟨x,H1,I1,r1,q1⟩=>?_
  obtain ⟨i,rfl,q⟩:=q1
  obtain ⟨t,rfl⟩:=r1
  exact ⟨some i,H1,I1,.int i t,q⟩
def SlR (X:Cx) (r:V→Option Int→Option Int→Hp→VK→Prop):Prop :=
  ∀(pins:List (Addr×Obj)) (s:Shared) (σ:St) (H:Hp) (x:V) (v vl vu:Value) (lo hi:Option Int) (sl:Addr) (Q:VK),Inv X pins σ H s→RelV x v→s.heap.IsSliceOf sl vl vu .none→IsPart vl lo→IsPart vu hi→r x lo hi H Q →
    ∃T id,typeLookup (.type T) "__getitem__"=pure (some (.builtin id))∧s.TypeIs v T∧wpAny (model X.prog X.w) X.A (getItem v (.ref sl)) (EP X pins σ Q) X.xe s
def tSl (r:V→Option Int→Option Int→Hp→VK→Prop) (te:TE) (tl th:TO):TE:=fun σ H Q=>te σ H fun x H1=>tl σ H1 fun l H2=>th σ H2 fun u H3=>r x l u H3 Q
theorem zox {r:V→Option Int→Option Int→Hp→VK→Prop} (hr:SlR X r) (he:PE X e te) (hl:PO X lo tl) (hu:PO X hi th):PE X (.Subscript e (.Slice lo hi none p2) pos) (tSl r te tl th):=show _ by
  intro pins s σ H Q I h
  refine Subscript_ (thn (he pins s σ H _ I h) fun v s1 ⟨x,H1,I1,r1,q1⟩=>?_)
  refine wpAny_Slice (thn (hl pins s1 σ H1 _ I1 q1) fun vl s2 ⟨l,H2,I2,pl,q2⟩=>thn (hu pins s2 σ H2 _ I2 q2) fun vu s3 ⟨u,H3,I3,pu,q3⟩=>?_)
  rw [evalPart_none]
  refine wpAny_pure ?_
  have I4:Inv X pins σ H3 {s3 with heap:=s3.heap.push {cls:=.type "slice",data:=.fields #[vl,vu,.none]}}:=I3.kept (t':=s3.toks) fun b ob q=>Heap.get?_push_of_some _ q
  obtain ⟨T,id,hT,ht,hg⟩:=hr pins {s3 with heap:=s3.heap.push {cls:=.type "slice",data:=.fields #[vl,vu,.none]}} σ H3 x v vl vu l u s3.heap.objs.size Q I4 r1 (Heap.IsSliceOf.new ..) pl pu q3
  show wpAny (model X.prog X.w) X.A (subscriptTail e (.Slice lo hi none p2) v (.ref s3.heap.objs.size)) (EP X pins σ Q) X.xe {s3 with heap:=s3.heap.push {cls:=.type "slice",data:=.fields #[vl,vu,.none]}}
  exact tail_any (ops:=[.ref s3.heap.objs.size,v]) ht hT hg (by with_unfolding_all rfl)
noncomputable def cutV (xs:List V) (lo hi:Option Int):List V:=(xs.drop (HT.sIx xs.length 0 lo)).take (HT.sIx xs.length xs.length hi-HT.sIx xs.length 0 lo)
theorem zgg (xs:List V) (lo hi:Option Int):(cutV xs lo hi).length≤xs.length:=by
  unfold cutV
  rw [List.length_take,List.length_drop]
  omega
def rSlT (K:PySem.W.Frag):V→Option Int→Option Int→Hp→VK→Prop:=fun x lo hi H Q=>∃a xs,x=.ref a∧SqT K H a xs ∧
  ¬(HT.sIx xs.length 0 lo=0∧HT.sIx xs.length xs.length hi=xs.length)∧∀p,H p=none→Q (.ref p) (upd H p (.tup (cutV xs lo hi)))
theorem sl_tup:SlR X (rSlT X.K):=show _ by
  intro pins s σ H x v vl vu lo hi sl Q I rx hs pl pu h
  obtain ⟨a,xs,rfl,hx,hw,q⟩:=h
  cases rx
  obtain ⟨its,r,ht,hz⟩:=I.tuple hx
  have hlen:its.toArray.size=xs.length:=by rw [List.size_toArray];exact r.length.symm
  refine ⟨"tuple",_,PyProof.Rows.slot_tuple_getitem.lookup,ht.typeIs,?_⟩
  refine HT.zey ht hs pl pu (by rw [hlen];exact hw) ?_ (by rw [hlen];exact hz)
  rw [hlen]
  refine ⟨.ref s.heap.objs.size,_,I.laid (t':=s.toks) (o:=.tup (cutV xs lo hi)) (fun b ob q=>Heap.get?_push_of_some _ q) (Nat.le_refl _) ?_,rfl,q _ (I.hok.fresh (Nat.le_refl _))⟩
  exact ⟨Nat.le_trans (zgg xs lo hi) hz,_,(r.drop (HT.sIx xs.length 0 lo)).take (HT.sIx xs.length xs.length hi-HT.sIx xs.length 0 lo),IsTup.new _ _,fun o q=>by rw [Heap.get?_push_size _ rfl] at q;cases q;rfl⟩
def rCatT (K:PySem.W.Frag):R2:=fun x y H Q=>∃a b xs ys,x=.ref a∧y=.ref b∧SqT K H a xs∧SqT K H b ys∧xs≠[]∧xs.length+ys.length≤sizeLine ∧
  (ys=[]→Q (.ref a) H)∧(ys≠[]→∀p,H p=none→Q (.ref p) (upd H p (.tup (xs++ys))))
theorem Vals.nil_iff {xs:List V} {us:List Value} (r:Vals xs us):us=[]↔xs=[]:=by
  cases r with
  | nil=>simp
  | cons _ _=>simp
theorem zf1:OpR X (binaryOp .Add) (rCatT X.K):=show _ by
  intro pins s σ H x y v u Q I rx ry h
  obtain ⟨a,b,xs,ys,rfl,rfl,ha,hb,hx,hz,q1,q2⟩:=h
  cases rx
  cases ry
  obtain ⟨its,r1,p1,_⟩:=I.tuple ha
  obtain ⟨its2,r2,p2,_⟩:=I.tuple hb
  refine HT.zrq p1 p2 (fun z=>hx (r1.nil_iff.mp z)) (fun z=>⟨.ref a,H,I,rfl,q1 (r2.nil_iff.mp z)⟩) (fun z=>?_) (by rw [←r1.length,←r2.length];exact hz)
  refine ⟨.ref s.heap.objs.size,_,I.laid (t':=s.toks) (o:=.tup (xs++ys)) (fun b ob q=>Heap.get?_push_of_some _ q) (Nat.le_refl _) ?_,rfl,q2 (fun w=>z (r2.nil_iff.mpr w)) _ (I.hok.fresh (Nat.le_refl _))⟩
  exact ⟨by rw [List.length_append];exact hz,_,r1.append r2,IsTup.new _ _,fun o q=>by rw [Heap.get?_push_size _ rfl] at q;cases q;rfl⟩
end
end L2
namespace L2
open PySem PySem.Spec PyProof.Rows
noncomputable def ixN (n:Nat) (i:Int):Option Nat:=if 0≤i then (if i<n then some i.toNat else none) else if -(n:Int)≤i then some (i+n).toNat else none
noncomputable def atI {α:Type} (xs:List α) (i:Int):Option α:=(ixN xs.length i).bind fun j=>xs[j]?
theorem zna {n:Nat} {i:Int} {j:Nat} (h:ixN n i=some j):seqIndex? i n=some j∧j<n∧-(n:Int)≤i∧i<n:=show _ by
  unfold ixN at h
  by_cases h0:0≤i
  · rw [if_pos h0] at h
    by_cases h1:i<n
    · rw [if_pos h1] at h
      have e:i.toNat=j:=Option.some.inj h
      exact ⟨by rw [seqIndex_of h0 h1,e],by omega,by omega,h1⟩
    · rw [if_neg h1] at h;cases h
  · rw [if_neg h0] at h
    by_cases h1:-(n:Int)≤i
    · rw [if_pos h1] at h
      have e:(i+n).toNat=j:=Option.some.inj h
      exact ⟨by rw [seqIndex_neg (by omega) h1,e],by omega,h1,by omega⟩
    · rw [if_neg h1] at h;cases h
theorem zjw {α:Type} {xs:List α} {i:Int} {v:α} (h:atI xs i=some v):∃j,seqIndex? i xs.length=some j∧xs[j]?=some v∧j<xs.length∧-(xs.length:Int)≤i∧i<xs.length:=show _ by
  unfold atI at h
  cases e:ixN xs.length i with
  | none=>rw [e] at h;cases h
  | some j =>
    rw [e] at h
    obtain ⟨h1,h2,h3,h4⟩:=zna e
    exact ⟨j,h1,h,h2,h3,h4⟩
theorem zcz {α:Type} {xs:List α} {j:Nat} {v:α} (h:xs[j]?=some v):atI xs (j:Int)=some v:=by
  have hj:j<xs.length:=(List.getElem?_eq_some_iff.mp h).1
  have e:ixN xs.length (j:Int)=some j:=by
    unfold ixN
    rw [if_pos (by omega),if_pos (by omega)];simp
  unfold atI;rw [e];exact h
def PlainIx (b:Expr):Prop:=∀o i,subscripted b false o i=operate [o,i] (getItem o i)
def IxR (X:Cx) (r:R2):Prop :=
  ∀(value slice:Expr) (pins:List (Addr×Obj)) (s:Shared) (σ:St) (H:Hp) (x y:V) (v u:Value) (Q:VK),Inv X pins σ H s→RelV x v→RelV y u→r x y H Q →
    subscripted slice false v u=operate [v,u] (getItem v u)→wpAny (model X.prog X.w) X.A (subscriptTail value slice v u) (EP X pins σ Q) X.xe s
def MtR (X:Cx) (id:String) (r:V→List V→Hp→VK→Prop):Prop :=
  ∀(pins:List (Addr×Obj)) (s:Shared) (σ:St) (H:Hp) (x:V) (xs:List V) (v:Value) (us:List Value) (Q:VK),Inv X pins σ H s→RelV x v→Vals xs us→r x xs H Q →
    wpAny (model X.prog X.w) X.A (call (.builtin id) (v::us)) (EP X pins σ Q) X.xe s
section
variable {X:Cx} {a b:Expr} {ta tb:TE} {pos:Pos}
theorem pe_ix {r:R2} (hr:IxR X r) (ha:PE X a ta) (hb:PE X b tb) (hs:PlainIx b):PE X (.Subscript a b pos) (tOp r ta tb):=by
  intro pins s σ H Q I h
  exact Subscript_ (binT ha hb I h fun v u s2 x y H2 I2 rx ry q=>hr a b pins s2 σ H2 x y v u Q I2 rx ry q (hs _ _))
def rIxL (K:PySem.W.Frag):R2:=fun x y H Q=>∃p xs i v,x=.ref p∧y=.int i∧SqL K H p xs∧atI xs i=some v∧Q v H
def rIxT (K:PySem.W.Frag):R2:=fun x y H Q=>∃p xs i v,x=.ref p∧y=.int i∧SqT K H p xs∧atI xs i=some v∧Q v H
def rIxS:R2:=fun x y H Q=>∃z i c,x=.str z∧y=.int i∧z.length≤sizeLine∧atI z.cps.toList i=some c∧Q (.str ⟨#[c]⟩) H
theorem zat:IxR X (rIxL X.K):=show _ by
  intro value slice pins s σ H x y v u Q I rx ry h hs
  obtain ⟨p,xs,i,z,rfl,rfl,hq,he,q⟩:=h
  cases rx
  obtain ⟨t,rfl⟩:=ry
  obtain ⟨its,r,pl,hz⟩:=I.list hq
  obtain ⟨j,h1,h2,h3,h4,h5⟩:=zjw he
  obtain ⟨w,ew,rw'⟩:=r.get h2
  have hl:=r.length
  have hn:=line63
  have fin:EP X pins σ Q w s:=⟨z,H,I,rw',q⟩
  by_cases h0:0≤i
  · have hj:i.toNat=j:=by
      rw [seqIndex_of h0 h5] at h1
      exact Option.some.inj h1
    exact item_listR pl.isList h0 (by omega) (by rw [hj];simpa using ew) fin hs
  · have hj:(i+(its.toArray.size:Int)).toNat=j:=by
      rw [seqIndex_neg (by omega) h4] at h1
      rw [List.size_toArray,←hl]
      exact Option.some.inj h1
    exact subscriptTail_builtinR (x:=w) pl.isList.typeIs slot_list_getitem.lookup
      (wpAny_getItem_list_neg (Q:=fun r s'=>r=w∧EP X pins σ Q r s') pl.isList (by omega) (by rw [List.size_toArray]<;>omega) (by omega) (by rw [hj];simpa using ew) ⟨rfl,fin⟩) hs
theorem zam:IxR X (rIxT X.K):=show _ by
  intro value slice pins s σ H x y v u Q I rx ry h hs
  obtain ⟨p,xs,i,z,rfl,rfl,hq,he,q⟩:=h
  cases rx
  obtain ⟨t,rfl⟩:=ry
  obtain ⟨its,r,pl,hz⟩:=I.tuple hq
  obtain ⟨j,h1,h2,h3,h4,h5⟩:=zjw he
  obtain ⟨w,ew,rw'⟩:=r.get h2
  have hl:=r.length
  have hn:=line63
  have fin:EP X pins σ Q w s:=⟨z,H,I,rw',q⟩
  exact subscriptTail_builtinR (x:=w) pl.typeIs slot_tuple_getitem.lookup
    (getItem_tuple (j:=j) (Q:=fun r s'=>r=w∧EP X pins σ Q r s') pl (by omega) (by omega) (by rw [List.size_toArray,←hl];exact h1) (by simpa using ew) ⟨rfl,fin⟩) hs
theorem zpw:IxR X rIxS:=show _ by
  intro value slice pins s σ H x y v u Q I rx ry h hs
  obtain ⟨z,i,c,rfl,rfl,hz,he,q⟩:=h
  obtain ⟨t,rfl⟩:=rx
  obtain ⟨t',rfl⟩:=ry
  obtain ⟨j,h1,h2,h3,h4,h5⟩:=zjw he
  have hl:z.cps.toList.length=z.length:=by simp [Str.length]
  rw [hl] at h1 h4 h5
  have hn:=line63
  exact tail_any (typeIs_str s z t) slot_str_getitem.lookup (getItem_str (c:=c) (by
    have e1:decide (i < -(2^63:Int))=false:=decide_eq_false (by omega)
    have e2:decide (i≥2^63)=false:=decide_eq_false (by omega)
    rw [e1,e2,Bool.or_false]) (by rw [h1];simpa using h2) ⟨.str ⟨#[c]⟩,H,I.tok _,⟨_,rfl⟩,q⟩) hs
theorem zle (its:List Value) (n j:Nat) (u:Value):Obj.mapSeq (·.setIfInBounds j u) {cls:=.type "list",data:=.seq its.toArray n}={cls:=.type "list",data:=.seq (its.set j u).toArray n}:=by
  simp [Obj.mapSeq]
theorem Inv.lst {pins:List (Addr×Obj)} {σ:St} {H:Hp} {s:Shared} {p:Addr} {xs:List V} (I:Inv X pins σ H s) (h:H p=some (.lst xs)) :
    ∃(its:List Value) (n:Nat),Vals xs its∧s.heap.get? p=some {cls:=.type "list",data:=.seq its.toArray n}∧xs.length≤sizeLine:=show _ by
  obtain ⟨z,its,n,r,e⟩:=I.hok p _ h
  exact ⟨its,n,r,e,z⟩
theorem Inv.lstUpd {pins:List (Addr×Obj)} {σ:St} {H:Hp} {s:Shared} {p:Addr} {xs ys:List V} {its its':List Value} {n n':Nat} {f:Obj→Obj} (I:Inv X pins σ H s) (h:H p=some (.lst xs))
    (ho:s.heap.get? p=some {cls:=.type "list",data:=.seq its.toArray n}) (hf:f {cls:=.type "list",data:=.seq its.toArray n}={cls:=.type "list",data:=.seq its'.toArray n'}) (r:Vals ys its') (hz:ys.length≤sizeLine) (t:Nat) :
    Inv X pins σ (upd H p (.lst ys)) {s with heap:=s.heap.update p f,toks:=t}:=show _ by
  have e:(s.heap.update p f).get? p=some {cls:=.type "list",data:=.seq its'.toArray n'}:=by
    rw [Heap.get?_update_self f ho (by rw [hf]<;>rfl),hf]
  refine I.write (x:=p) (e:=p) (by rw [h];trivial) (.inl rfl) (fun b u hb q=>(Heap.get?_update_other _ _ (Ne.symm hb)).trans q) ⟨_,e⟩ ?_
  exact ⟨hz,its',n',r,e⟩
def rSetL:V→V→V→Hp→(Hp→Prop)→Prop:=fun o i v H Q=>∃p xs k j,o=.ref p∧i=.int k∧H p=some (.lst xs)∧ixN xs.length k=some j∧Q (upd H p (.lst (xs.set j v)))
theorem set_list:PSet X rSetL:=show _ by
  intro pins s σ H o i v ov iv u Q I ro ri rv h
  obtain ⟨p,xs,k,j,rfl,rfl,hp,hj,q⟩:=h
  cases ro
  obtain ⟨t,rfl⟩:=ri
  obtain ⟨its,n,r,ho,hz⟩:=I.lst hp
  obtain ⟨h1,h2,h3,h4⟩:=zna hj
  have hl:=r.length
  have hn:=line63
  have I':Inv X pins σ (upd H p (.lst (xs.set j v))) {s with heap:=s.heap.update p (Obj.mapSeq (·.setIfInBounds j u))} :=
    I.lstUpd hp ho (zle its n j u) (r.set rv j) (by rw [List.length_set];exact hz) s.toks
  by_cases h0:0≤k
  · have hk:k.toNat=j:=by
      rw [seqIndex_of h0 h4] at h1
      exact Option.some.inj h1
    exact PySem.W.ki_setAt ho h0 (by omega) (by rw [List.size_toArray,←hl];exact h4) (by rw [hk];exact ⟨_,I',q⟩)
  · have hk:(k+(its.toArray.size:Int)).toNat=j:=by
      rw [seqIndex_neg (by omega) h3] at h1
      rw [List.size_toArray,←hl]
      exact Option.some.inj h1
    exact PySem.W.ki_setBack ho (by omega) (by rw [List.size_toArray,←hl];exact h3) (by omega) (by rw [hk];exact ⟨_,I',q⟩)
theorem zii (lo hi:Option Int) (n:Nat):(sliceBounds lo hi none n).1=((HT.sIx n 0 lo:Nat):Int)∧(sliceBounds lo hi none n).2.1=((HT.sIx n n hi:Nat):Int)∧(sliceBounds lo hi none n).2.2=1:=show _ by
  refine ⟨?_,?_,rfl⟩
  · cases lo with
    | none=>simp [sliceBounds,HT.sIx]
    | some i =>
      simp only [sliceBounds,HT.sIx,Option.getD_none,show (1:Int)>0 by decide,if_true]
      by_cases h:i<0
      · simp only [h,if_true]<;>omega
      · simp only [h,if_false]<;>omega
  · cases hi with
    | none=>simp [sliceBounds,HT.sIx]
    | some i =>
      simp only [sliceBounds,HT.sIx,Option.getD_none,show (1:Int)>0 by decide,if_true]
      by_cases h:i<0
      · simp only [h,if_true]<;>omega
      · simp only [h,if_false]<;>omega
theorem zhp (its:List Value) (lo hi:Option Int):slicePick its.toArray lo hi none=((its.drop (HT.sIx its.length 0 lo)).take (HT.sIx its.length its.length hi-HT.sIx its.length 0 lo)).toArray:=show _ by
  obtain ⟨h1,h2,h3⟩:=zii lo hi its.toArray.size
  unfold slicePick
  rw [h1,h2,h3]
  simp only [sliceRange_one,pick_run,List.size_toArray]<;>rfl
def rSlL (K:PySem.W.Frag):V→Option Int→Option Int→Hp→VK→Prop:=fun x lo hi H Q=>∃a xs,x=.ref a∧SqL K H a xs∧∀p,H p=none→Q (.ref p) (upd H p (.lst (cutV xs lo hi)))
theorem zco:SlR X (rSlL X.K):=show _ by
  intro pins s σ H x v vl vu lo hi sl Q I rx hs pl pu h
  obtain ⟨a,xs,rfl,hx,q⟩:=h
  cases rx
  obtain ⟨its,r,ht,hz⟩:=I.list hx
  have hlen:=r.length
  refine ⟨"list",_,slot_list_getitem.lookup,ht.isList.typeIs,?_⟩
  refine wpAny_getItem_list_slice ht.isList hs pl pu .none (by simp) ?_ (by rw [List.size_toArray]<;>omega)
  rw [zhp,←hlen]
  refine ⟨.ref s.heap.objs.size,_,I.laid (t':=s.toks) (o:=.lst (cutV xs lo hi)) (fun b ob q=>Heap.get?_push_of_some _ q) (Nat.le_refl _) ?_,rfl,q _ (I.hok.fresh (Nat.le_refl _))⟩
  exact ⟨Nat.le_trans (zgg xs lo hi) hz,_,0,(r.drop (HT.sIx xs.length 0 lo)).take (HT.sIx xs.length xs.length hi-HT.sIx xs.length 0 lo),Heap.get?_push_size _ rfl⟩
noncomputable def flatV:V→Bool
  | .non=>true
  | .bl _=>true
  | .int _=>true
  | .str _=>true
  | _=>false
noncomputable def eqV:V→V→Bool
  | .non,.non=>true
  | .bl a,.bl b=>a==b
  | .bl a,.int b=>(if a then 1 else 0)==b
  | .int a,.bl b=>a==(if b then 1 else 0)
  | .int a,.int b=>a==b
  | .str a,.str b=>a==b
  | _,_=>false
theorem eqAt_V {A:Around} {s:Shared} {y x:V} {u v:Value} (ry:RelV y u) (rx:RelV x v) (fy:flatV y=true) (fx:flatV x=true):SeqAt.EqAt A s u v (eqV y x):=show _ by
  cases y with
  | non =>
    cases ry
    cases x with
    | non=>cases rx;exact SeqAt.EqAt.same _
    | bl b=>cases rx;exact SeqAt.EqAt.none_bool b
    | int b=>obtain ⟨t,rfl⟩:=rx;exact SeqAt.EqAt.none_int b t
    | str b=>obtain ⟨t,rfl⟩:=rx;exact SeqAt.EqAt.none_str b t
    | _=>exact absurd (show false=true from fx) Bool.false_ne_true
  | bl a =>
    cases ry
    cases x with
    | non=>cases rx;exact SeqAt.EqAt.bool_none a
    | bl b=>cases rx;exact SeqAt.EqAt.bool_bool a b
    | int b=>obtain ⟨t,rfl⟩:=rx;exact SeqAt.EqAt.bool_int a b t
    | str b=>obtain ⟨t,rfl⟩:=rx;exact SeqAt.EqAt.bool_str a b t
    | _=>exact absurd (show false=true from fx) Bool.false_ne_true
  | int a =>
    obtain ⟨t',rfl⟩:=ry
    cases x with
    | non=>cases rx;exact SeqAt.EqAt.int_none a t'
    | bl b=>cases rx;exact SeqAt.EqAt.int_bool a t' b
    | int b=>obtain ⟨t,rfl⟩:=rx;exact SeqAt.EqAt.int_int a t' b t
    | str b=>obtain ⟨t,rfl⟩:=rx;exact SeqAt.EqAt.int_str a t' b t
    | _=>exact absurd (show false=true from fx) Bool.false_ne_true
  | str a =>
    obtain ⟨t',rfl⟩:=ry
    cases x with
    | non=>cases rx;exact SeqAt.EqAt.str_none a t'
    | bl b=>cases rx;exact SeqAt.EqAt.str_bool a t' b
    | int b=>obtain ⟨t,rfl⟩:=rx;exact SeqAt.EqAt.str_int a t' b t
    | str b=>obtain ⟨t,rfl⟩:=rx;exact SeqAt.EqAt.str_str a t' b t
    | _=>exact absurd (show false=true from fx) Bool.false_ne_true
  | _=>exact absurd (show false=true from fy) Bool.false_ne_true
noncomputable def eqU (x:V) (u:Value):Bool:=match u with
  | .none=>eqV .non x
  | .bool b=>eqV (.bl b) x
  | .int i _=>eqV (.int i) x
  | .str z _=>eqV (.str z) x
  | _=>false
theorem zpz {x y:V} {u:Value} (r:RelV y u) (f:flatV y=true):eqU x u=eqV y x:=by
  cases y with
  | non=>cases r;rfl
  | bl b=>cases r;rfl
  | int i=>obtain ⟨t,rfl⟩:=r;rfl
  | str z=>obtain ⟨t,rfl⟩:=r;rfl
  | _=>exact absurd (show false=true from f) Bool.false_ne_true
theorem zgj {x:V}:∀{xs:List V} {us:List Value},Vals xs us→xs.all flatV=true→us.any (eqU x)=xs.any fun y=>eqV y x
  | _,_,.nil,_=>rfl
  | y::xs,u::us,.cons r t,f=>by
    rw [List.all_cons,Bool.and_eq_true] at f
    rw [List.any_cons,List.any_cons,zpz r f.1,zgj t f.2]
theorem zej {A:Around} {s:Shared} {x:V} {v:Value} (rx:RelV x v) (fx:flatV x=true):∀{xs:List V} {us:List Value},Vals xs us→xs.all flatV=true→∀u∈us,SeqAt.EqAt A s u v (eqU x u)
  | _,_,.nil,_=>fun u hu=>by cases hu
  | y::xs,u::us,.cons r t,f=>fun u' hu=>by
    rw [List.all_cons,Bool.and_eq_true] at f
    rcases List.mem_cons.mp hu with rfl|hu
    · rw [zpz r f.1];exact eqAt_V r rx f.1 fx
    · exact zej rx fx t f.2 u' hu
noncomputable def inV (x:V) (xs:List V):Bool:=xs.any fun y=>eqV y x
def rIn (K:PySem.W.Frag) (neg:Bool):R2:=fun x y H Q=>∃p xs,y=.ref p∧(SqL K H p xs∨SqT K H p xs)∧flatV x=true∧xs.all flatV=true∧Q (.bl (if neg then !inV x xs else inV x xs)) H
theorem zmu:OpR X (compareOp .In) (rIn X.K false):=show _ by
  intro pins s σ H x y v u Q I rx ry h
  obtain ⟨p,xs,rfl,hq,fx,fs,q⟩:=h
  cases ry
  rcases hq with hq|hq
  · obtain ⟨its,r,pl,hz⟩:=I.list hq
    refine SeqAt.in_listAt (eqU x) pl.isList (fun w hw=>zej rx fx r fs w (by simpa using hw)) ⟨.bl _,H,I,rfl,?_⟩
    rw [show its.toArray.any (eqU x)=its.any (eqU x) by simp,zgj r fs]
    exact q
  · obtain ⟨its,r,pl,hz⟩:=I.tuple hq
    refine SeqAt.in_tupleAt (eqU x) pl (fun w hw=>zej rx fx r fs w (by simpa using hw)) ⟨.bl _,H,I,rfl,?_⟩
    rw [show its.toArray.any (eqU x)=its.any (eqU x) by simp,zgj r fs]
    exact q
theorem zio:OpR X (compareOp .NotIn) (rIn X.K true):=show _ by
  intro pins s σ H x y v u Q I rx ry h
  obtain ⟨p,xs,rfl,hq,fx,fs,q⟩:=h
  cases ry
  rcases hq with hq|hq
  · obtain ⟨its,r,pl,hz⟩:=I.list hq
    refine SeqAt.notIn_listAt (eqU x) pl.isList (fun w hw=>zej rx fx r fs w (by simpa using hw)) ⟨.bl _,H,I,rfl,?_⟩
    rw [show its.toArray.any (eqU x)=its.any (eqU x) by simp,zgj r fs]
    exact q
  · obtain ⟨its,r,pl,hz⟩:=I.tuple hq
    refine SeqAt.notIn_tupleAt (eqU x) pl (fun w hw=>zej rx fx r fs w (by simpa using hw)) ⟨.bl _,H,I,rfl,?_⟩
    rw [show its.toArray.any (eqU x)=its.any (eqU x) by simp,zgj r fs]
    exact q
theorem zaj:CallR X (.builtin "len") (fun xs H Q=>∃p ys,xs=[.ref p]∧(SqL X.K H p ys∨SqT X.K H p ys)∧Q (.int ys.length) H):=show _ by
  intro pins s σ H xs us Q I r h
  obtain ⟨p,ys,rfl,hq,q⟩:=h
  obtain ⟨u,rfl,rx⟩:=vals1 r
  cases rx
  have hn:=line63
  rcases hq with hq|hq
  · obtain ⟨its,r',pl,hz⟩:=I.list hq
    have hlen:=r'.length
    exact Calls.call_len_list pl.isList (by simp only [List.size_toArray]<;>omega) ⟨.int ys.length,H,I.tok _,⟨s.toks+1,by rw [List.size_toArray,hlen]⟩,q⟩
  · obtain ⟨its,r',pl,hz⟩:=I.tuple hq
    have hlen:=r'.length
    exact len_tuple pl (by simp only [List.size_toArray]<;>omega) ⟨.int ys.length,H,I.tok _,⟨s.toks+1,by rw [List.size_toArray,hlen]⟩,q⟩
theorem zi6:CallR X (.builtin "len") (fun xs H Q=>∃z,xs=[.str z]∧z.length≤sizeLine∧Q (.int z.length) H):=show _ by
  intro pins s σ H xs us Q I r h
  obtain ⟨z,rfl,hz,q⟩:=h
  obtain ⟨u,rfl,t,rfl⟩:=vals1 r
  have hn:=line63
  exact len_str (by omega) ⟨.int z.length,H,I.tok _,⟨_,rfl⟩,q⟩
theorem zfc:CallR X (.type "list") (fun xs H Q=>∃p ys,xs=[.ref p]∧(SqL X.K H p ys∨SqT X.K H p ys)∧∀l,H l=none→Q (.ref l) (upd H l (.lst ys))):=show _ by
  intro pins s σ H xs us Q I r h
  obtain ⟨p,ys,rfl,hq,q⟩:=h
  obtain ⟨u,rfl,rx⟩:=vals1 r
  cases rx
  have fin:∀(its:List Value),Vals ys its→ys.length≤sizeLine→∀(h':Heap) (c':Nat),(∀b o',s.heap.get? b=some o'→h'.get? b=some o') →
      h'.get? s.heap.objs.size=some {cls:=.type "list",dict:=none,data:=.seq its.toArray c',slots:=#[]}→EP X pins σ Q (.ref s.heap.objs.size) {s with heap:=h'}:=fun its r' hz h' c' kp e =>
    ⟨.ref s.heap.objs.size,_,I.laid (t':=s.toks) kp (Nat.le_refl _) (show ObjOk X.prog X.w _ h' _ (.lst ys) from ⟨hz,its,c',r',e⟩),rfl,q _ (I.hok.fresh (Nat.le_refl _))⟩
  rcases hq with hq|hq
  · obtain ⟨its,r',pl,hz⟩:=I.list hq
    have hlen:=r'.length
    obtain ⟨o,ho,hc,n,hd⟩:=pl.isList
    exact call_list_seq p (.inl rfl) ho hc hd (fun h' c' kp e=>fin its r' hz h' c' kp e) (by simp only [List.size_toArray]<;>omega)
  · obtain ⟨its,r',pl,hz⟩:=I.tuple hq
    have hlen:=r'.length
    obtain ⟨o,ho,hc,n,hd⟩:=pl
    exact call_list_seq p (.inr rfl) ho hc hd (fun h' c' kp e=>fin its r' hz h' c' kp e) (by simp only [List.size_toArray]<;>omega)
theorem zbn:CallR X (.type "tuple") (fun xs H Q=>∃p ys,xs=[.ref p]∧((SqL X.K H p ys∧∀l,H l=none→Q (.ref l) (upd H l (.tup ys)))∨(SqT X.K H p ys∧Q (.ref p) H))):=show _ by
  intro pins s σ H xs us Q I r h
  obtain ⟨p,ys,rfl,h⟩:=h
  obtain ⟨u,rfl,rx⟩:=vals1 r
  cases rx
  rcases h with ⟨hq,q⟩|⟨hq,q⟩
  · obtain ⟨its,r',pl,hz⟩:=I.list hq
    have hlen:=r'.length
    refine call_tuple_list pl.isList (fun h' kp=>?_) (by simp only [List.size_toArray]<;>omega)
    have I1:Inv X pins σ H {s with heap:=h'}:=I.kept (t':=s.toks) kp
    have I2:Inv X pins σ (upd H h'.objs.size (.tup ys)) {s with heap:=h'.push {cls:=.type "tuple",data:=.seq its.toArray}} :=
      I1.laid (t':=s.toks) (fun b o e=>Heap.get?_push_of_some _ e) (Nat.le_refl _) (show ObjOk X.prog X.w _ _ _ (.tup ys) from ⟨hz,its,r',IsTup.new _ _,fun o q=>by rw [Heap.get?_push_size _ rfl] at q;cases q;rfl⟩)
    exact ⟨.ref h'.objs.size,_,I2,rfl,q _ (I1.hok.fresh (Nat.le_refl _))⟩
  · obtain ⟨its,r',pl,hz⟩:=I.tuple hq
    exact call_tuple_same pl ⟨.ref p,H,I,rfl,q⟩
def tyV (K:PySem.W.Frag) (T:String) (x:V) (H:Hp):Prop:=match x with
  | .str _=>T="str"
  | .int _=>T="int"
  | .ref p=>(T="list"∧∃xs,SqL K H p xs)∨(T="tuple"∧∃o,K.lookup p=some o∧o.cls=.type "tuple"∧o.dict=none) ∨
      (T="dict"∧((∃kvs,H p=some (.dK kvs))∨∃kvs,H p=some (.dT kvs)))∨(T="set"∧∃S n,H p=some (.set S n))
  | _=>False
theorem zps {pins:List (Addr×Obj)} {σ:St} {H:Hp} {s:Shared} {T:String} {x:V} {v:Value} (I:Inv X pins σ H s) (r:RelV x v) (ty:tyV X.K T x H) :
    s.TypeIs v T∧∀a,v=.ref a→∃ob,s.heap.get? a=some ob∧ob.dict=none:=show _ by
  cases x with
  | str z =>
    obtain ⟨t,rfl⟩:=r
    cases (show T="str" from ty)
    exact ⟨typeIs_str s z t,fun _ e=>nomatch e⟩
  | int i =>
    obtain ⟨t,rfl⟩:=r
    cases (show T="int" from ty)
    exact ⟨typeIs_int s i t,fun _ e=>nomatch e⟩
  | ref p =>
    cases r
    rcases ty with ⟨rfl,xs,hq⟩|⟨rfl,o,hk,hc,hd⟩|⟨rfl,hk⟩|⟨rfl,S,n,hk⟩
    · obtain ⟨its,_,pl,_⟩:=I.list hq
      refine ⟨pl.isList.typeIs,fun a e=>?_⟩
      cases e
      obtain ⟨o,n,e,c,hd,_⟩:=pl
      exact ⟨o,e,hd⟩
    · refine ⟨⟨o,I.kIn p o hk,hc⟩,fun a e=>?_⟩
      cases e
      exact ⟨o,I.kIn _ o hk,hd⟩
    · have z:∃o,s.heap.get? p=some o∧o.ExactDict:=by
        rcases hk with ⟨kvs,hk⟩|⟨kvs,hk⟩
        · obtain ⟨_,_,_,_,o,_,_,e,ex,_⟩:=I.hok p _ hk
          exact ⟨o,e,ex⟩
        · obtain ⟨_,_,_,_,o,_,_,e,ex,_⟩:=I.hok p _ hk
          exact ⟨o,e,ex⟩
      obtain ⟨o,e,ex⟩:=z
      refine ⟨⟨o,e,ex.1⟩,fun a e2=>?_⟩
      cases e2
      exact ⟨o,e,ex.2.1⟩
    · obtain ⟨o,_,_,_,e,ex,_⟩:=I.hok p _ hk
      refine ⟨⟨o,e,ex.1⟩,fun a e2=>?_⟩
      cases e2
      exact ⟨o,e,ex.2.1⟩
  | _=>exact False.elim ty
def tBM0 (K:PySem.W.Frag) (T:String) (r:V→List V→Hp→VK→Prop) (to:TE):TE:=fun σ H Q=>to σ H fun x H1=>tyV K T x H1∧r x [] H1 Q
def tBM (K:PySem.W.Frag) (T:String) (r:V→List V→Hp→VK→Prop) (to:TE) (t:TA):TE:=fun σ H Q=>to σ H fun x H1=>tyV K T x H1∧t σ H1 fun xs H2=>r x xs H2 Q
variable {o e:Expr} {es:List Expr} {to:TE} {t:TA} {name:Str} {apos cpos:Pos} {T id:String} {r:V→List V→Hp→VK→Prop}
theorem pe_bm0 (pa:PlainAttrs T) (slot:Slot T name id) (hty:typeOf (.builtin id)=pure (.type "method_descriptor")) (hm:MtR X id r) (ho:PE X o to)
    (hbase:attributeBase o name X.env (eval o X.env)=eval o X.env:=by rfl) (hline:(apos.endLine==cpos.line)=true:=by rfl):PE X (.Call (.Attribute o name apos) [] [] cpos) (tBM0 X.K T r to):=show _ by
  intro pins s σ H Q I h
  refine wpAny_Call_method0_late hbase hline (thn (ho pins s σ H _ I h) fun v s1 ⟨x,H1,I1,r1,ty,q1⟩=>?_)
  obtain ⟨h1,h2⟩:=zps I1 r1 ty
  exact ⟨T,id,pa,slot,hty,h1,h2,Calls.callWith_builtin rfl (PySem.evalArgs_none (hm pins s1 σ H1 x [] v [] Q I1 r1 .nil q1))⟩
theorem pe_bm (pa:PlainAttrs T) (slot:Slot T name id) (hty:typeOf (.builtin id)=pure (.type "method_descriptor")) (hm:MtR X id r) (ho:PE X o to) (ha:PA X (e::es) t)
    (hbase:attributeBase o name X.env (eval o X.env)=eval o X.env:=by rfl)
    (hfew:((backTo cpos (starEach (e::es) X.env)).all (fun x=>!x.1)&&(backToKw cpos (keywordEach [] X.env)).all (fun x=>x.1.isSome)
      && decide ((e::es).length+([]:List Keyword).length+(if ([]:List Keyword).isEmpty then 0 else 1)<30))=true:=by rfl)
    (hline:(apos.endLine==cpos.line)=true:=by rfl) (hs:starEach (e::es) X.env=(false,eval e X.env)::starEach es X.env:=by rfl) (hplain:(backTo cpos (starEach es X.env)).any (·.1)=false:=by rfl) :
    PE X (.Call (.Attribute o name apos) (e::es) [] cpos) (tBM X.K T r to t):=show _ by
  intro pins s σ H Q I h
  refine wpAny_Call_method_late hbase hfew hline rfl (thn (ho pins s σ H _ I h) fun v s1 ⟨x,H1,I1,r1,ty,q1⟩=>?_)
  obtain ⟨h1,h2⟩:=zps I1 r1 ty
  refine ⟨T,id,pa,slot,hty,h1,h2,?_⟩
  have hA:=ha cpos pins s1 σ H1 _ I1 q1
  rw [hs] at hA ⊢
  refine Calls.callWith_builtin (by show (false||(backTo cpos (starEach es X.env)).any (·.1))=false;rw [hplain]<;>rfl) (Calls.evalArgs_plain ?_)
  exact thn hA fun us s2 z_16=>by obtain ⟨vs,H2,I2,r2,q2⟩:=z_16;exact hm pins s2 σ H2 x vs v us Q I2 r1 r2 q2
/- xs.append(e),list.index on a module's tuple .. are MtR facts of 06m -/
end
end L2
namespace L2
open PySem PySem.Spec PyProof.Rows
def MtM (X:Cx) (id:String) (r:V→List V→Hp→VK→Prop):Prop :=
  ∀(pins:List (Addr×Obj)) (s:Shared) (σ:St) (H:Hp) (x:V) (xs:List V) (v:Value) (us:List Value) (Q:VK),Inv X pins σ H s→RelV x v→Vals xs us→r x xs H Q →
    wpAny (model X.prog X.w) X.A (call (.builtin id) (v::us)) (EP X pins σ Q) X.xe s
theorem Vals.one:∀{x:V} {us:List Value},Vals [x] us→∃u,us=[u]∧RelV x u
  | _,_,.cons r .nil=>⟨_,rfl,r⟩
theorem Vals.zero:∀{us:List Value},Vals [] us→us=[]
  | _,.nil=>rfl
theorem Vals.dropLast {xs:List V} {us:List Value} (h:Vals xs us):Vals xs.dropLast us.dropLast:=by
  induction h with
  | nil=>exact .nil
  | cons r t ih =>
    cases t with
    | nil=>exact .nil
    | cons q t'=>exact .cons r ih
theorem zlk {α:Type} (l:List α):l.eraseIdx (l.length-1)=l.dropLast:=show _ by
  induction l with
  | nil=>rfl
  | cons a r ih =>
    cases r with
    | nil=>rfl
    | cons b r =>
      have e:(a::b::r).length-1=((b::r).length-1)+1:=by
        have h1:(a::b::r).length=r.length+2:=rfl
        have h2:(b::r).length=r.length+1:=rfl
        omega
      rw [e,List.eraseIdx_cons_succ,ih]
      all_goals rfl
section
variable {X:Cx} {pins:List (Addr×Obj)} {σ:St} {H:Hp} {s:Shared} {l b:Addr} {xs ys zs:List V}
theorem Inv.lset {its its':List Value} {n:Nat} {f:Array Value→Array Value} {t':Nat} (I:Inv X pins σ H s) (hH:H l=some (.lst xs))
    (e:s.heap.get? l=some {cls:=.type "list",data:=.seq its.toArray n}) (hf:f its.toArray=its'.toArray) (hv:Vals ys its') (hz:ys.length≤sizeLine) :
    Inv X pins σ (upd H l (.lst ys)) {s with heap:=s.heap.update l (Obj.mapSeq f),toks:=t'}:=show _ by
  have q:=PySem.IsL.update e f
  rw [hf] at q
  refine I.write (x:=l) (e:=l) (by rw [hH];exact trivial) (.inl rfl) (fun b' u hb hu=>(Heap.get?_update_other s.heap (Obj.mapSeq f) (Ne.symm hb)).trans hu) ⟨_,q⟩ ?_
  exact ⟨hz,its',_,hv,q⟩
theorem Inv.lnew {its:List Value} {t':Nat} (I:Inv X pins σ H s) (hv:Vals ys its) (hz:ys.length≤sizeLine) :
    Inv X pins σ (upd H s.heap.objs.size (.lst ys)) {s with heap:=s.heap.push {cls:=.type "list",data:=.seq its.toArray},toks:=t'} :=
  I.laid (fun _ _ q=>Heap.get?_push_of_some _ q) (Nat.le_refl _) ⟨hz,its,0,hv,Heap.get?_push_size _ rfl⟩
theorem Inv.fresh (I:Inv X pins σ H s):H s.heap.objs.size=none:=I.hok.fresh (Nat.le_refl _)
theorem Inv.lstM (I:Inv X pins σ H s) (hH:H l=some (.lst xs)):xs.length≤sizeLine∧∃(its:List Value) (n:Nat),Vals xs its∧xs.length=its.length∧s.heap.get? l=some {cls:=.type "list",data:=.seq its.toArray n}:=by
  obtain ⟨z,its,n,r,e⟩:=I.hok l _ hH
  exact ⟨z,its,n,r,r.length,e⟩
theorem notLongL {n:Nat} (h:n≤sizeLine):Builtin.List.listTooLong n=false:=by
  unfold Builtin.List.listTooLong
  exact decide_eq_false (by omega)
end
section
variable {X:Cx}
def rAppend:V→List V→Hp→VK→Prop:=fun x vs H Q=>∃l xs y,x=.ref l∧vs=[y]∧H l=some (.lst xs)∧xs.length<sizeLine∧Q .non (upd H l (.lst (xs++[y])))
theorem zao:MtM X "list.append" rAppend:=show _ by
  intro pins s σ H x vs v us Q I rx rv h
  obtain ⟨l,xs,y,rfl,rfl,hH,hz,q⟩:=h
  cases rx
  obtain ⟨u,rfl,ru⟩:=rv.one
  obtain ⟨z,its,n,r,hl,e⟩:=I.lstM hH
  refine call_meets F.slot_list_append ⟨_,e,rfl⟩ F.entry_list_append (F.args_list_append_2 _ _) (PySem.list_append l its.toArray n u (by rw [List.size_toArray];omega)) ⟨e,?_⟩
  refine ⟨.non,_,I.lset (its':=its++[u]) hH e (by simp) (r.append (.cons ru .nil)) ?_,rfl,q⟩
  rw [List.length_append,List.length_singleton]
  omega
def rPop:V→List V→Hp→VK→Prop:=fun x vs H Q=>∃l xs y,x=.ref l∧vs=[]∧H l=some (.lst xs)∧xs[xs.length-1]?=some y∧Q y (upd H l (.lst xs.dropLast))
theorem mt_pop:MtM X "list.pop" rPop:=show _ by
  intro pins s σ H x vs v us Q I rx rv h
  obtain ⟨l,xs,y,rfl,rfl,hH,hy,q⟩:=h
  cases rx
  have hus:=rv.zero
  subst hus
  obtain ⟨z,its,n,r,hl,e⟩:=I.lstM hH
  obtain ⟨u,hu,ru⟩:=r.get hy
  have hy':its.toArray[its.toArray.size-1]?=some u:=by
    show its.toArray[its.length-1]?=some u
    rw [←Array.getElem?_toList,←hl]
    exact hu
  refine call_meets F.slot_list_pop ⟨_,e,rfl⟩ F.entry_list_pop (F.args_list_pop_1 _) (MeetsSeq.list_pop_last l its.toArray n u hy' (by rw [List.size_toArray];omega)) ⟨e,?_⟩
  refine ⟨y,_,I.lset (its':=its.dropLast) hH e ?_ r.dropLast ?_,ru,q⟩
  · show its.toArray.eraseIdxIfInBounds (its.toArray.size-1)=its.dropLast.toArray
    rw [List.size_toArray,List.eraseIdxIfInBounds_toArray,zlk]
  · rw [List.length_dropLast]
    omega
def rCat:R2:=fun x y H Q=>∃l b xs zs,x=.ref l∧y=.ref b∧H l=some (.lst xs)∧H b=some (.lst zs)∧xs.length+zs.length≤sizeLine∧∀p,H p=none→Q (.ref p) (upd H p (.lst (xs++zs)))
theorem zmw:OpR X (binaryOp .Add) rCat:=show _ by
  intro pins s σ H x y v u Q I rx ry h
  obtain ⟨l,b,xs,zs,rfl,rfl,hH,hB,hz,q⟩:=h
  cases rx
  cases ry
  obtain ⟨z,its,n,r,hl,e⟩:=I.lstM hH
  obtain ⟨z2,its2,n2,r2,hl2,e2⟩:=I.lstM hB
  refine PySem.P.add_list e e2 ?_ (by rw [List.size_toArray,List.size_toArray];omega)
  have ea:its.toArray++its2.toArray=(its++its2).toArray:=by simp
  rw [ea]
  exact ⟨.ref _,_,I.lnew (t':=s.toks) (r.append r2) (by rw [List.length_append];omega),rfl,q _ I.fresh⟩
end
end L2
namespace Att
open PySem PySem.W PySem.Calls PyProof.Rows
theorem zf9 {P:Params} {h:Heap}:∀(ns:List Int) (vs:List Value),WellAll P h vs (ns.map WData.int)→IntsAre vs ns:=show _ by
  intro ns
  induction ns with
  | nil =>
    intro vs w
    rw [List.map_nil] at w
    cases w
    exact .nil
  | cons n ns ih =>
    intro vs w
    rw [List.map_cons] at w
    cases w with
    | cons a b =>
      cases a
      exact .cons _ _ (ih _ b)
theorem zma {l:OpenLaw} {n:Nat} (hn:l.most=some n) {P:Params} {h:Heap} {args:List WData} {vals:List Value}
    (hpre:l.row.toRowW.claim.pre args=true) (hwl:WellAll P h vals args) :
    ∃a vs ns,vals=[Value.ref a]∧args=[WData.list (ns.map WData.int)]∧h.get? a=some {cls:=.type "list",data:=.seq vs.toArray}∧IntsAre vs ns∧ns.length≤n:=show _ by
  have hsh:WShape.hasAll [] args [.list .int]=true:=(pre_splitW hpre).1
  have hc:l.pre.holds [] {args:=args}=true:=(pre_splitW hpre).2
  obtain ⟨d,r,rfl,h1,h2⟩:=hasAllW_cons hsh
  obtain rfl:=hasAllW_nil h2
  obtain ⟨xs,rfl,h3⟩:=hasW_list h1
  obtain ⟨ns,rfl⟩:=items_int h3
  have hlen:ns.length≤n:=by
    unfold OpenLaw.pre at hc
    have h4:(WTm.not (.lt (.lit (.int (n:Int))) (.len (.arg 0)))).holds [] {args:=[.list (ns.map .int)]}=true:=by
      have h4:=(holds_andW hc).1
      rw [hn] at h4
      exact h4
    have h5:=condW_of h4 (w_not (w_lt w_lit (w_len_list (w_arg rfl))))
    rw [List.length_map] at h5
    refine Nat.le_of_not_lt fun q=>?_
    have q':(n:Int)<((ns.length:Nat):Int):=by omega
    first
      | (rw [decide_eq_true q'] at h5;exact absurd h5 (by decide))
      | (simp at h5;omega)
  cases hwl with
  | cons w1 w2 =>
    cases w2
    cases w1 with
    | list ho hall=>exact ⟨_,_,ns,rfl,rfl,ho,zf9 ns _ hall,hlen⟩
theorem zmn (l:OpenLaw) (args:List WData):l.row.toRowW.claim.post args (.bool true) args=true :=
  postW_of (r:=l.row.toRowW) (X:=(true==true))
    (show WShape.has [] (.bool true) .bool=true by first|rfl|decide|simp [WShape.has,WShape.arms,WShape.armsAll])
    (show (WTm.eq .res (.lit (.bool true))).value [] {args:=args,res:=some (.bool true),after:=args}=some (.bool (true==true)) from w_eq_bool (w_res rfl) w_lit) rfl
theorem zjv {l:OpenLaw} {n:Nat} {q:Program} {loose:List Str} {XP:(Str→Option Value)→Heap→Prop} {YP:World→Heap→Prop} {d:DefRec}
    (hn:l.most=some n) (hdf:d.params.defaults=[])
    (call:∀(w:World) (s₀ s₁:Shared) (mg mb:Str→Option Value) (fa:Addr) (o:Obj) (pm cd doc:Value) (a:Addr) (vs:List Value) (ns:List Int),
      Ground q loose [] XP w s₀ mg mb s₁.heap→YP w s₁.heap →
      s₁.heap.get? fa=some o→o.data=.func (docDef d.name d.params d.body d.scope pm cd doc)→s₁.heap.CodeRec cd d.name→mg d.name=some (.ref fa) →
      s₁.heap.get? a=some {cls:=.type "list",data:=.seq vs.toArray}→IntsAre vs ns→ns.length≤n→s₁.gens=#[] →
      codeAny (model l.prog w) callerA (.call (.ref fa) ⟨[.ref a],[]⟩) (fun r s'=>r=.ok (.ret (.bool true))∧OldK s₁.heap s'.heap∧s'.os=s₁.os∧AllBare s'.gens) s₁) :
    WalkO q loose XP YP l.row.toRowW d [] (fun f vs=>PySem.call f vs):=show _ by
  intro w s₀ s₁ mg mb G Y fa o pm cd doc dV kV ho hd hcd hD hmg hg args vals as hpre hlay hrd hwl hlo
  obtain rfl:dV=.none:=Dflts.none hD hdf
  obtain rfl:kV=.none:=Dflts.noKw hD
  obtain ⟨a,vs,ns,rfl,rfl,hobj,hints,hlen⟩:=zma hn hpre hwl
  refine enter_call (codeAny_mono (call w s₀ s₁ mg mb fa o pm cd doc a vs ns G Y ho (fd_plain hd) hcd hmg hobj hints hlen hg) fun r s' hq=>?_)
  obtain ⟨rfl,h2,h3,h4⟩:=hq
  exact ⟨.inl ⟨.bool true,.bool true,[],rfl,fun _=>rfl,.bool true,zmn l _,fun _=>⟨List.Pairwise.nil,fun _ hm=>(nomatch hm)⟩⟩,h2,h3,h4⟩
end Att
namespace L2
open PySem PySem.Spec PyProof.Rows
theorem zea:∀{vs:List Value} {ns:List Int},IntsAre vs ns→Vals (ns.map V.int) vs
  | _,_,.nil=>.nil
  | _,_,.cons n t h=>.cons ⟨t,rfl⟩ (zea h)
def Only (H:Hp):Prop:=∀b,H b=none∨∃o xs,H b=some (.frz o (.lst xs))
theorem zpd {P:Program} {w:World} {K:PySem.W.Frag} {mg mb:Str→Option Value} {CX:CXT} {k:Nat} {fa a:Addr} {fd:FuncData} {x:Str} {sp:Sp} {s₁:Shared} {vs:List Value} {ns:List Int}
    (KX:K.In s₁.heap) (hns:s₁.heap.Ns mainGlobals mg) (hb:s₁.heap.Ns builtinsNs mb) (hbb:∀x:Str,x≠"__name__"→mb x=bootBuiltins x) (hlim:s₁.heap.NoLimit) (hg:s₁.gens=#[])
    (ha:s₁.heap.get? a=some {cls:=.type "list",data:=.seq vs.toArray}) (hi:IntsAre vs ns) (hl:ns.length≤sizeLine) (hr:Room k callerA)
    (F:∀base:Heap,K.In base→base.Ns mainGlobals mg→FnOk P w K mg base CX k fa fd [x] sp) (hbind:∀(s:Shared) (u:Value),BindsTo s fd ⟨[u],[]⟩ [(x,u)])
    (hsp:∀H:Hp,Only H→SqL K H a (ns.map V.int)→sp [.ref a] H (fun v _=>v=.bl true) fun _ _ _=>False)
    (hCX:∀H e s',CX [] H s₁ (fun _ _ _=>False) e s'→False) :
    codeAny (model P w) callerA (.call (.ref fa) ⟨[.ref a],[]⟩) (fun r s'=>r=.ok (.ret (.bool true))∧OldK s₁.heap s'.heap∧s'.os=s₁.os∧AllBare s'.gens) s₁:=show _ by
  have rv:=zea hi
  have lenV:=hi.length
  have core:∀H:Hp,Only H→SqL K H a (ns.map V.int)→HOk P w H s₁.heap→(∀b,H b≠none→b=a)→(H a≠none→K.lookup a=none) →
      codeAny (model P w) callerA (.call (.ref fa) ⟨[.ref a],[]⟩) (fun r s'=>r=.ok (.ret (.bool true))∧OldK s₁.heap s'.heap∧s'.os=s₁.os∧AllBare s'.gens) s₁:=by
    intro H hO hS hok hA hK
    have base_of:∀{b:Addr} {o:Obj},s₁.heap.get? b=some o→H b=none→(hidT s₁.heap H).get? b=some o:=fun e n=>zpg e n
    have noA:∀{b:Addr} {o:Obj} {es:Array DictEntry} {ep:Nat},s₁.heap.get? b=some o→o.data=.dict es ep→H b=none:=fun {b o es ep} e d=>by
      cases q:H b with
      | none=>rfl
      | some u =>
        have e':b=a:=hA b (by rw [q];simp)
        subst e'
        rw [ha] at e;cases e
        have d':Data.seq vs.toArray _=Data.dict es ep:=d
        cases d'
    have nsK:∀{b:Addr} {m:Str→Option Value},s₁.heap.Ns b m→(hidT s₁.heap H).Ns b m:=fun {b m} z_19=>by obtain ⟨o,es,ep,e,d,r⟩:=z_19;exact ⟨o,es,ep,base_of e (noA e d),d,r⟩
    have hKb:K.In (hidT s₁.heap H):=fun b o e=>base_of (KX b o e) (by
      cases q:H b with
      | none=>rfl
      | some u =>
        have e':b=a:=hA b (by rw [q];simp)
        subst e'
        rw [hK (by rw [q];simp)] at e;cases e)
    have hM:Mod K mg (hidT s₁.heap H):=⟨hKb,nsK hns,⟨mb,nsK hb,hbb⟩,let ⟨mc,h1,h2⟩:=hlim;⟨mc,nsK h1,h2⟩⟩
    have e0:Env0 P w K mg (hidT s₁.heap H) callerA [] s₁ H:=⟨rfl,hM,fun b o e=>zre e,Nat.le_of_eq (znf _ _),trivial,fun b hb=>absurd (show b∈([]:List Addr) from hb) (by simp),hok,.of_eq hg⟩
    refine codeAny_mono ((F _ hKb (nsK hns)).run callerA [] s₁ H ⟨[.ref a],[]⟩ [.ref a] [.ref a] _ _ hr e0 (hbind s₁ (.ref a)) (.cons rfl .nil) (hsp H hO hS)) fun r s' h=>?_
    cases r with
    | error e=>exact (hCX H e s' h).elim
    | ok fl =>
      cases fl with
      | next=>exact False.elim h
      | brk=>exact False.elim h
      | cont=>exact False.elim h
      | ret u =>
        obtain ⟨v,H',os,bare,un,hok',r',q⟩:=h
        have q':v=.bl true:=q
        subst q'
        obtain rfl:u=Value.bool true:=r'
        refine ⟨rfl,OldK.of_keep fun b o e=>?_,os,bare⟩
        cases q:H b with
        | none=>exact un.keep b o e q (by intro z;exact absurd (show b∈([]:List Addr) from z) (by simp)) (by simp)
        | some u =>
          rcases hO b with z|⟨ob,xs,z⟩
          · rw [q] at z;cases z
          · have z2:=un.frzs b ob _ z
            obtain ⟨e1,_⟩:=hok b _ z
            obtain ⟨e2,_⟩:=hok' b _ z2
            rw [e] at e1;cases e1
            exact e2
  cases hk:K.lookup a with
  | some o =>
    have e:=KX a o hk
    rw [ha] at e
    cases e
    refine core (fun _=>none) (fun _=>.inl rfl) (.inr ⟨_,vs.toArray,_,hk,rfl,rfl,rfl,by rw [List.size_toArray,lenV];exact hl,by simpa using rv⟩) (fun b u z=>by have z':(none:Option HO)=some u:=z;cases z') (fun b z=>absurd rfl z) fun z=>absurd rfl z
  | none =>
    refine core (fun b=>if b=a then some (.frz {cls:=.type "list",data:=.seq vs.toArray} (.lst (ns.map V.int))) else none) (fun b=>?_) (.inl (.inr ⟨{cls:=.type "list",data:=.seq vs.toArray},if_pos rfl⟩)) (fun b u z=>?_) (fun b z=>?_) fun _=>hk
    · by_cases hb:b=a
      · exact .inr ⟨_,_,if_pos hb⟩
      · exact .inl (if_neg hb)
    · by_cases hb:b=a
      · have z':=(if_pos hb).symm.trans z
        cases z'
        subst hb
        exact ⟨ha,by rw [List.length_map];exact hl,vs,_,rv,ha⟩
      · have z':=(if_neg hb).symm.trans z
        cases z'
    · by_cases hb:b=a
      · exact hb
      · exact absurd (if_neg hb) z
end L2
namespace L2
open PySem PySem.Spec PyProof.Rows
theorem zlu {l:PySem.W.OpenLaw} {n k:Nat} {q:Program} {loose:List Str} {XP:(Str→Option Value)→Heap→Prop} {YP:World→Heap→Prop} {d:DefRec} {K:Params→PySem.W.Frag} {CX:World→CXT} {sp:World→Sp} {x:Str}
    (hn:l.most=some n) (hn2:n≤sizeLine) (hdf:d.params.defaults=[]) (hr:Room k callerA)
    (hY:∀(w:World) (h:Heap),YP w h→(K w.params).In h)
    (F:∀(w:World) (mg:Str→Option Value) (fa:Addr) (h:Heap),(K w.params).In h→h.Ns mainGlobals mg→mg d.name=some (.ref fa) →
      ∃fd:FuncData,(∀(s:Shared) (u:Value),BindsTo s fd ⟨[u],[]⟩ [(x,u)]) ∧
        ∀base:Heap,(K w.params).In base→base.Ns mainGlobals mg→FnOk l.prog w (K w.params) mg base (CX w) k fa fd [x] (sp w))
    (hsp:∀(w:World) (H:Hp) (a:Addr) (ns:List Int),ns.length≤n→Only H→SqL (K w.params) H a (ns.map V.int)→sp w [.ref a] H (fun v _=>v=.bl true) fun _ _ _=>False)
    (hCX:∀(w:World) (H:Hp) (s:Shared) (e:Value) (s':Shared),CX w [] H s (fun _ _ _=>False) e s'→False) :
    PySem.W.WalkO q loose XP YP l.row.toRowW d [] (fun f vs=>PySem.call f vs):=show _ by
  refine Att.zjv hn hdf fun w s₀ s₁ mg mb fa o pm cd doc a vs ns G Y ho hd hcd hmg hobj hints hlen hg=>?_
  have KX:=hY w _ Y
  obtain ⟨fd,hb,hF⟩:=F w mg fa _ KX G.T.g hmg
  exact zpd KX G.T.g G.T.b G.T.builtins G.T.nolimit hg hobj hints (Nat.le_trans hlen hn2) hr hF hb (fun H hO hS=>hsp w H a ns hlen hO hS) fun H e s'=>hCX w H s₁ e s'
end L2
/- THE LAST THEOREM (shape;LID,My.* are yours):
   My.Adr: a structure of the addresses that your layer names (classes,functions);My.Txt K t: a structure (Prop) of the equations over K;
   My.txt_mk:{K} {implicit addresses ..} (e1:nsIn K mainGlobals "law"=some (some (.ref f))) (e2:K.lookup f=some ⟨oc,od,.func (fnOf "law" "law" params body scope dV kV doc pm an cdv ct),sl⟩) (e3:codeIn K cdv "law"=true) ..:∃t,My.Txt K t
set_option maxRecDepth 100000 in
set_option maxHeartbeats 0 in
theorem PySem.Challenge.cw_LID_holds:PySem.Challenge.rw_LID.Holds:=show _ by
  w_on;o_law;k_head;(case hw=>w_witness2)
  k_fill
  refine L2.zlu (l:=PySem.Challenge.rw_LID) (n:=63) (k:=40) (x:="script") (CX:=fun w=>..) (sp:=fun _=>My.sp_law) rfl (by decide) rfl ⟨rfl,by decide,by decide⟩ (fun w h Y=>PySem.W.kIn_of Y) ?F ?S ?C
  case F =>
    intro w mg fa h KX G hmg
    have T:∃t,My.Txt (L2.KOf KX) t:=by
      dsimp only [L2.KOf]                          -- K must stand as «<heap const> w.params» for k_is
      refine' My.txt_mk ?e1 ?e2 ?e3 ..
      (case e1=>PySem.W.k_is)                    -- in the order: a name -> its address -> its object -> its parts
      (case e2=>PySem.W.k_is)
      ..
    obtain ⟨t,T⟩:=T
    have e0:=hmg.symm.trans (PySem.W.mg_of KX G T.law)
    cases e0                                       -- fa is the law's own address
    exact ⟨_,fun s u=>.of_eq rfl,fun base kb nb=>My.zm5 T kb nb⟩     -- if «.of_eq rfl» comes too early: refine' ⟨_,?b,fun base kb nb=>My.zm5 T kb nb⟩;exact fun s u=>.of_eq rfl
  case S=>exact fun w H a ns hl hO hS=>..
  case C=>exact ..
(the tactic k_is has no namespace: write k_is) -/
namespace L2
open PySem PySem.Spec PyProof.Rows
noncomputable def inClass (s:Stmt) (j:Nat):Stmt:=match s with
  | .ClassDef _ _ _ body _ _ _ _ _ _ _=>body.getD j (.Pass ⟨0,0,0,0⟩)
  | _=>.Pass ⟨0,0,0,0⟩
noncomputable def defArgs (s:Stmt):Arguments:=match s with
  | .FunctionDef _ a _ _ _ _ _ _ _ _=>a
  | _=>{posonlyargs:=[],args:=[],vararg:=none,kwonlyargs:=[],kw_defaults:=[],kwarg:=none,defaults:=[]}
noncomputable def defBody (s:Stmt):List Stmt:=match s with
  | .FunctionDef _ _ b _ _ _ _ _ _ _=>b
  | _=>[]
noncomputable def defScope (s:Stmt):Scope:=match s with
  | .FunctionDef _ _ _ _ _ _ sc _ _ _=>sc
  | _=>{kind:=.function,names:=[],isGenerator:=false,isCoroutine:=false}
abbrev E0:XK:=fun _ _ _=>False
structure Fun (K:PySem.W.Frag) (x qual:Str) (st:Stmt) (f:Addr) (fd:FuncData):Prop where
  ex:∃(oc:Value) (od:Option Addr) (kV doc pm:Value) (an:Option Addr) (cdv ct:Value) (osl:Array (Option Value)),
    fd=PySem.W.fnOf x qual (defArgs st) (defBody st) (defScope st) .none kV doc pm an cdv ct∧K.lookup f=some ⟨oc,od,.func fd,osl⟩∧PySem.W.codeIn K cdv qual=true
  kp:PySem.W.keepIn K (.ref f)=true
section
variable {P:Program} {w:World} {K:PySem.W.Frag} {mg:Str→Option Value} {base:Heap}
theorem Fun.binds {x qual:Str} {st:Stmt} {f:Addr} {fd:FuncData} {ps:List Str} (F:Fun K x qual st f fd)
    (h:∀(kV doc pm:Value) (an:Option Addr) (cdv ct:Value) (us:List Value),us.length=ps.length→bindArgs (PySem.W.fnOf x qual (defArgs st) (defBody st) (defScope st) .none kV doc pm an cdv ct) ⟨us,[]⟩=pure (ps.zip us)):Binds K fd ps []:=show _ by
  obtain ⟨oc,od,kV,doc,pm,an,cdv,ct,osl,rfl,lk,hcd⟩:=F.ex
  exact .all (h kV doc pm an cdv ct)
theorem znk {x qual:Str} {st:Stmt} {f:Addr} {oc:Value} {od an:Option Addr} {osl:Array (Option Value)} {kV doc pm cdv ct:Value} (l:K.lookup f=some ⟨oc,od,.func (PySem.W.fnOf x qual (defArgs st) (defBody st) (defScope st) .none kV doc pm an cdv ct),osl⟩)
    (c:PySem.W.codeIn K cdv qual=true) (k:PySem.W.keepIn K (.ref f)=true):Fun K x qual st f (PySem.W.fnOf x qual (defArgs st) (defBody st) (defScope st) .none kV doc pm an cdv ct):=⟨⟨oc,od,kV,doc,pm,an,cdv,ct,osl,rfl,l,c⟩,k⟩
end
theorem ziv {A:Around} {k:Nat} (hr:Room k A):A.units+1<cLine:=Nat.lt_of_le_of_lt (Nat.add_le_add_left (by decide:1≤64) _) hr.units
theorem iteF {A B:Prop} (h:B):if false=true then A else B:=by
  rw [if_neg Bool.false_ne_true]
  exact h
theorem iteT {A B:Prop} (h:A):if true=true then A else B:=by
  rw [if_pos rfl]
  exact h
theorem iteNS {c A B:Prop} [Decidable c] (hc:c) (h:B):if (!decide c)=true then A else B:=by
  rw [decide_eq_true hc]
  exact iteF h
end L2
namespace L2
open PySem PySem.Spec PyProof.Rows
section
variable {κ:Type} [DecidableEq κ]
noncomputable def valV (kvs:List (κ×V)) (k:κ):Option V:=(kvs.find? fun kv=>decide (kv.1=k)).map (·.2)
noncomputable def putK (kvs:List (κ×V)) (k:κ) (v:V):List (κ×V) :=
  if (kvs.any fun kv=>decide (kv.1=k))=true then kvs.map (fun kv=>if kv.1=k then (kv.1,v) else kv) else kvs++[(k,v)]
theorem zff {p:κ×V} {r:List (κ×V)} {k:κ} (e:p.1=k):valV (p::r) k=some p.2:=by simp [valV,List.find?_cons,e]
theorem zfg {p:κ×V} {r:List (κ×V)} {k:κ} (e:¬p.1=k):valV (p::r) k=valV r k:=by simp [valV,List.find?_cons,e]
theorem zj1 (k:κ):∀kvs:List (κ×V),(kvs.any fun kv=>decide (kv.1=k))=(valV kvs k).isSome
  | []=>rfl
  | p::r=>by
    rw [List.any_cons]
    by_cases e:p.1=k
    · simp only [zff e,decide_eq_true e,Bool.true_or,Option.isSome_some]
    · rw [zfg e,decide_eq_false e,Bool.false_or];exact zj1 k r
theorem zd5 (kvs:List (κ×V)) (k:κ) (v:V):(putK kvs k v).length≤kvs.length+1:=by
  unfold putK
  split
  · rw [List.length_map];omega
  · rw [List.length_append,List.length_cons,List.length_nil];omega
theorem RelO.isSome_eq {o:Option V} {u:Option Value} (r:RelO o u):o.isSome=u.isSome:=by
  cases o with
  | none=>cases u with
    | none=>rfl
    | some _=>exact (show False from r).elim
  | some _=>cases u with
    | none=>exact (show False from r).elim
    | some _=>rfl
theorem KV.val {kvs:List (κ×V)} {vs:List (κ×Value)} (r:KV kvs vs) (k:κ):RelO (valV kvs k) (valueAt vs k):=show _ by
  unfold KV at r
  induction r with
  | nil=>exact True.intro
  | @cons p q ps qs h t ih =>
    obtain ⟨h1,h2⟩:=h
    by_cases e:p.1=k
    · have e':q.1=k:=h1.symm.trans e
      have b:valueAt (q::qs) k=some q.2:=by simp [valueAt,List.find?_cons,e']
      rw [zff e,b];exact h2
    · have e':¬q.1=k:=fun z=>e (h1.trans z)
      have b:valueAt (q::qs) k=valueAt qs k:=by simp [valueAt,List.find?_cons,e']
      rw [zfg e,b];exact ih
theorem KV.any {kvs:List (κ×V)} {vs:List (κ×Value)} (r:KV kvs vs) (k:κ):(kvs.any fun kv=>decide (kv.1=k))=vs.any fun kv=>decide (kv.1=k):=by
  unfold KV at r
  induction r with
  | nil=>rfl
  | cons h t ih=>rw [List.any_cons,List.any_cons,ih,h.1]
theorem KV.repl {kvs:List (κ×V)} {vs:List (κ×Value)} (r:KV kvs vs) (k:κ) {y:V} {u:Value} (ry:RelV y u) :
    KV (kvs.map fun kv=>if kv.1=k then (kv.1,y) else kv) (vs.map fun kv=>if kv.1=k then (kv.1,u) else kv):=show _ by
  unfold KV at r ⊢
  induction r with
  | nil=>exact .nil
  | @cons p q ps qs h t ih =>
    rw [List.map_cons,List.map_cons]
    refine .cons ?_ ih
    obtain ⟨h1,h2⟩:=h
    by_cases e:p.1=k
    · rw [if_pos e,if_pos (h1.symm.trans e)];exact ⟨h1,ry⟩
    · rw [if_neg e,if_neg (fun z=>e (h1.trans z))];exact ⟨h1,h2⟩
theorem KV.put {kvs:List (κ×V)} {vs:List (κ×Value)} (r:KV kvs vs) (k:κ) {y:V} {u:Value} (ry:RelV y u):KV (putK kvs k y) (stored vs k u):=show _ by
  unfold putK stored
  rw [r.any k]
  by_cases e:(vs.any fun kv=>decide (kv.1=k))=true
  · rw [if_pos e,if_pos e];exact r.repl k ry
  · rw [if_neg e,if_neg e];exact Paired.snoc r ⟨rfl,ry⟩
theorem KV.length {kvs:List (κ×V)} {vs:List (κ×Value)} (r:KV kvs vs):kvs.length=vs.length:=Paired.length r
end
theorem zm9 {P:Program} {w:World} {k:Key} {u:Value} (r:RelV (kV k) u):(mixKind P w).is k u=true:=by
  cases k with
  | inl i=>obtain ⟨t,e⟩:=(show ∃t,u=Value.int i t from r);subst e;exact zjm P w i t
  | inr x=>obtain ⟨t,e⟩:=(show ∃t,u=Value.str x t from r);subst e;exact zjl P w x t
theorem items_are {P:Program} {w:World}:∀{ks:List Key} {us:List Value},Vals (ks.map kV) us→ItemsAre (mixKind P w) ks us
  | [],_,r=>by rw [List.map_nil] at r;cases r;exact .nil
  | k::ks,_,r=>by
    rw [List.map_cons] at r
    cases r with
    | cons h t=>exact .cons (zm9 h) (items_are t)
abbrev KT (H:Hp):List (List Key×V)→List (List Key×Addr×Value)→Prop:=Paired fun p q=>p.1=q.1∧H q.2.1=some (.tup (p.1.map kV))∧RelV p.2 q.2.2
theorem KT.val {H:Hp} {kvs:List (List Key×V)} {xs:List (List Key×Addr×Value)} (r:KT H kvs xs) (k:List Key):RelO (valV kvs k) ((atKey xs k).map (·.2)):=show _ by
  induction r with
  | nil=>exact True.intro
  | @cons p q ps qs h t ih =>
    obtain ⟨h1,_,h2⟩:=h
    by_cases e:p.1=k
    · have e':q.1=k:=h1.symm.trans e
      have b:atKey (q::qs) k=some q.2:=by simp [atKey,List.find?_cons,e']
      rw [zff e,b];exact h2
    · have e':¬q.1=k:=fun z=>e (h1.trans z)
      have b:atKey (q::qs) k=atKey qs k:=by simp [atKey,List.find?_cons,e']
      rw [zfg e,b];exact ih
theorem KT.repl {H:Hp} {kvs:List (List Key×V)} {xs:List (List Key×Addr×Value)} (r:KT H kvs xs) (k:List Key) {y:V} {u:Value} (ry:RelV y u) :
    KT H (kvs.map fun kv=>if kv.1=k then (kv.1,y) else kv) (xs.map (putAt k u)):=show _ by
  induction r with
  | nil=>exact .nil
  | @cons p q ps qs h t ih =>
    rw [List.map_cons,List.map_cons]
    refine .cons ?_ ih
    obtain ⟨h1,h2,h3⟩:=h
    unfold putAt
    by_cases e:p.1=k
    · rw [if_pos e,if_pos (h1.symm.trans e)];exact ⟨h1,h2,ry⟩
    · rw [if_neg e,if_neg (fun z=>e (h1.trans z))];exact ⟨h1,h2,h3⟩
theorem KT.put {H:Hp} {kvs:List (List Key×V)} {xs:List (List Key×Addr×Value)} (r:KT H kvs xs) (k:List Key) {b:Addr} {y:V} {u:Value} (hb:H b=some (.tup (k.map kV))) (ry:RelV y u) :
    KT H (putK kvs k y) (storedH xs k b u):=show _ by
  have e:(kvs.any fun kv=>decide (kv.1=k))=(atKey xs k).isSome:=by
    rw [zj1,(r.val k).isSome_eq,Option.isSome_map]
  unfold putK storedH
  rw [e]
  by_cases q:(atKey xs k).isSome=true
  · rw [if_pos q,if_pos q];exact r.repl k ry
  · rw [if_neg q,if_neg q];exact Paired.snoc r ⟨rfl,hb,ry⟩
theorem KT.keeps {H H':Hp} {kvs:List (List Key×V)} {xs:List (List Key×Addr×Value)} (r:KT H kvs xs) (ht:∀b ys,H b=some (.tup ys)→H' b=some (.tup ys)):KT H' kvs xs :=
  Paired.mapP r fun _ _ z=>⟨z.1,ht _ _ z.2.1,z.2.2⟩
section
variable {P:Program} {w:World} {H:Hp} {h:Heap} {a:Addr}
theorem rd_of {u:HO} (ok:HOk P w H h) (e:Rd H a u):ObjOk P w H h a u:=e.ok ok
theorem zpj {kvs:List (Key×V)} (ok:HOk P w H h) (e:Rd H a (.dK kvs)):kvs.length≤sizeLine∧(a==sysModules)=false∧∃vs,KV kvs vs∧h.DictOf (mixKind P w) a vs :=
  show ObjOk P w H h a (.dK kvs) from rd_of ok e
theorem dk_of {kvs:List (Key×V)} (ok:HOk P w H h) (e:H a=some (.dK kvs)):kvs.length≤sizeLine∧(a==sysModules)=false∧∃vs,KV kvs vs∧h.DictOf (mixKind P w) a vs:=zpj ok (.inl e)
theorem zkc {ks:List Key} (ok:HOk P w H h) (e:H a=some (.tup (ks.map kV))):(tupleKind (mixKind P w)).is h ks a:=by
  obtain ⟨_,its,r,⟨o,h1,h2,n,h3⟩,_⟩:=(show ObjOk P w H h a (.tup (ks.map kV)) from ok a _ e)
  exact ⟨o,its.toArray,n,h1,h2,h3,by simpa using items_are r⟩
theorem zpi {kvs:List (List Key×V)} (ok:HOk P w H h) (e:Rd H a (.dT kvs)):kvs.length≤sizeLine∧(a==sysModules)=false ∧
    ∃xs,KT H kvs xs∧h.DictOfH (tupleKind (mixKind P w)) a xs:=show _ by
  obtain ⟨z,y,xs,r,o,es,ep,h1,h2,h3,h4,h5⟩:=(show ObjOk P w H h a (.dT kvs) from rd_of ok e)
  refine ⟨z,y,xs,r,o,es,ep,h1,h2,h3,h4,fun x hx=>?_,h5⟩
  have all:∀{l:List (List Key×V)} {m:List (List Key×Addr×Value)},KT H l m→∀x∈m,(tupleKind (mixKind P w)).is h x.1 x.2.1:=by
    intro l m q
    induction q with
    | nil=>intro x hx;exact nomatch hx
    | @cons p q ps qs hq t ih =>
      intro x hx
      rcases List.mem_cons.mp hx with e|hx
      · subst e
        exact zkc ok (by rw [←hq.1];exact hq.2.1)
      · exact ih x hx
  exact all r x hx
theorem dt_of {kvs:List (List Key×V)} (ok:HOk P w H h) (e:H a=some (.dT kvs)):kvs.length≤sizeLine∧(a==sysModules)=false ∧
    ∃xs,KT H kvs xs∧h.DictOfH (tupleKind (mixKind P w)) a xs:=zpi ok (.inl e)
end
def DGet (H:Hp) (a:Addr) (y:V) (r:Option V):Prop :=
  (∃kvs k,Rd H a (.dK kvs)∧y=kV k∧r=valV kvs k)∨∃kvs k b,Rd H a (.dT kvs)∧y=.ref b∧H b=some (.tup (k.map kV))∧r=valV kvs k
def DPut (H:Hp) (a:Addr) (y v:V) (H':Hp):Prop :=
  (∃kvs k,H a=some (.dK kvs)∧y=kV k∧kvs.length<sizeLine∧H'=upd H a (.dK (putK kvs k v))) ∨
  ∃kvs k b,H a=some (.dT kvs)∧y=.ref b∧H b=some (.tup (k.map kV))∧kvs.length<sizeLine∧H'=upd H a (.dT (putK kvs k v))
theorem DGet.k {H:Hp} {a:Addr} {kvs:List (Key×V)} {k:Key} (e:H a=some (.dK kvs)):DGet H a (kV k) (valV kvs k):=.inl ⟨kvs,k,.inl e,rfl,rfl⟩
theorem DPut.k {H:Hp} {a:Addr} {kvs:List (Key×V)} {k:Key} {v:V} (e:H a=some (.dK kvs)) (hl:kvs.length<sizeLine):DPut H a (kV k) v (upd H a (.dK (putK kvs k v))):=.inl ⟨kvs,k,e,rfl,hl,rfl⟩
section
variable {X:Cx} {pins:List (Addr×Obj)} {σ:St} {H:Hp} {s:Shared} {a:Addr} {y v:V} {u r:Value} {o:Option V} {A:Around} {E:Value→Shared→Prop}
theorem Inv.big (I:Inv X pins σ H s):sysModules<s.heap.objs.size:=by
  have h:mainGlobals<s.heap.objs.size:=(I.mod.glob.keeps I.bk).lt
  exact Nat.lt_trans (by decide) h
theorem znz {Q:Value→Shared→Prop} (hu:A.units+1<cLine) (I:Inv X pins σ H s) (g:DGet H a y (some v)) (ry:RelV y u) (h:∀w' s',Inv X pins σ H s'→RelV v w'→Q w' s') :
    wpAny (model X.prog X.w) A (getItem (.ref a) u) Q E s:=show _ by
  rcases g with ⟨kvs,k,e,ey,l⟩|⟨kvs,k,b,e,ey,eb,l⟩
  · subst ey
    obtain ⟨z,hd,vs,rel,dd⟩:=zpj I.hok e
    obtain ⟨w',hw,rw'⟩:=RelO.some_of (v:=v) (o:=valueAt vs k) (by rw [l];exact rel.val k)
    exact wpAny_getItem_of (zm9 ry) dd.mapOf hw (h w' _ (I.tok _) rw')
  · subst ey
    cases (show u=Value.ref b from ry)
    obtain ⟨z,hd,xs,rel,dd⟩:=zpi I.hok e
    obtain ⟨w',hw,rw'⟩:=RelO.some_of (v:=v) (o:=(atKey xs k).map (·.2)) (by rw [l];exact rel.val k)
    obtain ⟨p,hp,hp2⟩:=Option.map_eq_some_iff.mp hw
    refine wpAny_getItem_heap (tupleKind_room_in1 hu) (zkc I.hok eb) dd hp ?_
    rw [hp2]
    exact h w' _ (I.tok _) rw'
theorem zrp {Q:Value→Shared→Prop} (hu:A.units+1<cLine) (I:Inv X pins σ H s) (g:DGet H a y o) (ry:RelV y u) (h:∀s',Inv X pins σ H s'→Q (.bool (!o.isSome)) s') :
    wpAny (model X.prog X.w) A (compareOp .NotIn u (.ref a)) Q E s:=show _ by
  rcases g with ⟨kvs,k,e,ey,l⟩|⟨kvs,k,b,e,ey,eb,l⟩
  · subst ey
    obtain ⟨z,hd,vs,rel,dd⟩:=zpj I.hok e
    refine wpAny_notIn_of (zm9 ry) hd dd.mapOf ?_
    rw [←(rel.val k).isSome_eq,←l]
    exact h _ (I.tok _)
  · subst ey
    cases (show u=Value.ref b from ry)
    obtain ⟨z,hd,xs,rel,dd⟩:=zpi I.hok e
    refine wpAny_notIn_heap (tupleKind_room_in1 hu) (zkc I.hok eb) hd dd ?_
    have q:=(rel.val k).isSome_eq
    rw [Option.isSome_map] at q
    rw [←q,←l]
    exact h _ (I.tok _)
theorem znx {h':Heap} {t':Nat} {ob:HO} (I:Inv X pins σ H s) (mu:Mut (H a)) (hs:Heap.SameBut a s.heap h') (he:∃q,h'.get? a=some q) (new:ObjOk X.prog X.w (upd H a ob) h' a ob) :
    Inv X pins σ (upd H a ob) {s with heap:=h',toks:=t'} :=
  I.write (x:=a) (e:=a) mu (.inl rfl) (fun b q hb z=>(hs.2 b hb).trans z) he new
theorem dk_new {P:Program} {w:World} {H':Hp} {h':Heap} {kvs:List (Key×V)} {vs:List (Key×Value)} (z:kvs.length≤sizeLine) (hd:(a==sysModules)=false) (rel:KV kvs vs) (dd:h'.DictOf (mixKind P w) a vs) :
    ObjOk P w H' h' a (.dK kvs):=⟨z,hd,vs,rel,dd⟩
theorem zny {H':Hp} {Q:Unit→Shared→Prop} (hu:A.units+1<cLine) (I:Inv X pins σ H s) (g:DPut H a y v H') (ry:RelV y u) (rv:RelV v r) (h:∀s',Inv X pins σ H' s'→Q () s') :
    wpAny (model X.prog X.w) A (setItem (.ref a) u r) Q E s:=show _ by
  rcases g with ⟨kvs,k,e,ey,l,eH⟩|⟨kvs,k,b,e,ey,eb,l,eH⟩
  · subst ey eH
    obtain ⟨z,hd,vs,rel,dd⟩:=dk_of I.hok e
    have hz:vs.length≤sizeLine:=by rw [←rel.length];exact z
    have hl:(putK kvs k v).length≤sizeLine:=by have:=zd5 kvs k v;omega
    refine wpAny_setItem_pairs (hsz:=hz) (zm9 ry) dd fun h' dd' hs=>h _ ?_
    have he:∃q,h'.get? a=some q:=let ⟨q,_,_,hq,_⟩:=dd';⟨q,hq⟩
    exact znx I (by rw [e];exact True.intro) hs he (dk_new hl hd (rel.put k rv) dd')
  · subst ey eH
    cases (show u=Value.ref b from ry)
    obtain ⟨z,hd,xs,rel,dd⟩:=dt_of I.hok e
    have hz:xs.length≤sizeLine:=by rw [←Paired.length rel];exact z
    have hl:(putK kvs k v).length≤sizeLine:=by have:=zd5 kvs k v;omega
    refine wpAny_setItem_heap (hsz:=hz) (tupleKind_room_in1 hu) (zkc I.hok eb) dd fun h' dd' hs=>h _ ?_
    obtain ⟨q,es,ep,hq,h2,h3,h4,_,h5⟩:=dd'
    refine znx I (by rw [e];exact True.intro) hs ⟨q,hq⟩ ⟨hl,hd,_,(rel.put k eb rv).keeps fun c ys ec=>?_,q,es,ep,hq,h2,h3,h4,h5⟩
    rw [zar (ne_of ec e (fun z=>nomatch z))]
    exact ec
end
def NoSl (i:Expr):Prop:=∀ov iv,subscripted i false ov iv=operate [ov,iv] (getItem ov iv)
theorem zqc {prog:Program} {w:World} {A:Around} {E:Value→Shared→Prop} {s:Shared} {env:Env} {value slice:Expr} {pos:Pos} {T id:String} {Q:Value→Shared→Prop}
    (hl:typeLookup (.type T) "__getitem__"=pure (some (.builtin id))) (hs:NoSl slice)
    (h:wpAny (model prog w) A (eval value env) (fun o s₁=>wpAny (model prog w) A (eval slice env) (fun i s₂=>s₂.TypeIs o T∧wpAny (model prog w) A (getItem o i) Q E s₂) E s₁) E s) :
    wpAny (model prog w) A (eval (.Subscript value slice pos) env) Q E s:=show _ by
  refine Subscript_ (wpAny_mono h (fun o s₁ h₁=>wpAny_mono h₁ (fun i s₂ h₂=>?_) fun _ _ x=>x) fun _ _ x=>x)
  obtain ⟨hT,h₂⟩:=h₂
  unfold subscriptTail
  refine wpAny_bind ?_
  rw [getitemInPython_of_ne hT.not_modules]
  refine wpAny_bind (wpAny_specialOf hT hl ?_)
  have fin:wpAny (model prog w) A (subscripted slice false o i) (fun r s₃=>wpAny (model prog w) A (letTemporaryGo value o r >>= fun _=>pure r) Q E s₃) E s₂:=by
    rw [hs o i]
    exact wpAny_operating (wpAny_mono h₂ (fun r s₃ h₃=>wpAny_bind (wpAny_letTemporaryGo (wpAny_pure h₃))) fun _ _ x=>x)
  first
    | exact wpAny_pure (wpAny_bind fin)
    | exact wpAny_bind (wpAny_pure (wpAny_bind fin))
    | exact wpAny_bind fin
theorem zjq {X:Cx} {pins:List (Addr×Obj)} {σ:St} {H:Hp} {s:Shared} {a:Addr} {y:V} {o:Option V} (I:Inv X pins σ H s) (g:DGet H a y o):s.TypeIs (.ref a) "dict":=show _ by
  rcases g with ⟨kvs,k,e,_,_⟩|⟨kvs,k,b,e,_,_,_⟩
  · obtain ⟨_,_,vs,_,dd⟩:=zpj I.hok e
    exact dd.typeIs
  · obtain ⟨_,_,xs,_,dd⟩:=zpi I.hok e
    exact dd.typeIs
def tDGet (td ty:TE):TE:=fun σ H Q=>td σ H fun x H1=>ty σ H1 fun y H2=>∃a v,x=.ref a∧DGet H2 a y (some v)∧Q v H2
def sDPut (td ty tv:TE):TS:=fun D σ H=>tv σ H fun v H1=>td σ H1 fun x H2=>ty σ H2 fun y H3=>∃a H4,x=.ref a∧DPut H3 a y v H4∧D.nx σ H4
section
variable {X:Cx} {o i e value:Expr} {pos pos' tpos:Pos} {td ty tv:TE}
theorem zq2 (hu:X.A.units+1<cLine) (ho:PE X o td) (hi:PE X i ty) (hs:NoSl i):PE X (.Subscript o i pos) (tDGet td ty):=show _ by
  intro pins s σ H Q I h
  refine zqc PySem.F.slot_dict_getitem.lookup hs (thn (ho pins s σ H _ I h) fun u s1 ⟨x,H1,I1,rx,q1⟩=>thn (hi pins s1 σ H1 _ I1 q1) fun iv s2 ⟨y,H2,I2,ry,a,v,ex,g,q2⟩=>?_)
  subst ex
  obtain rfl:u=Value.ref a:=rx
  exact ⟨zjq I2 g,znz hu I2 g ry fun w' s3 I3 rw'=>⟨v,H2,I3,rw',q2⟩⟩
theorem zqt (hu:X.A.units+1<cLine) (ho:PE X o td) (hi:PE X i ty) (hv:PE X value tv) (hs:swapsWith value (some (.Subscript o i pos')) pos.line X.env=pure false) :
    PS X (.Assign [.Subscript o i pos'] value pos) (sDPut td ty tv):=show _ by
  intro pins s σ H D I h
  refine wpAny_Assign_Subscript (thn (hv pins s σ H _ I h) fun r s1 ⟨v,H1,I1,rv,q1⟩=>thn (ho pins s1 σ H1 _ I1 q1) fun u s2 ⟨x,H2,I2,rx,q2⟩=>thn (hi pins s2 σ H2 _ I2 q2) fun iv s3 ⟨y,H3,I3,ry,a,H4,ex,g,q3⟩=>?_) hs
  subst ex
  obtain rfl:u=Value.ref a:=rx
  exact zny hu I3 g ry rv fun s4 I4=>⟨σ,H4,I4,q3⟩
end
theorem zpk {P:Program} {w:World} {H:Hp} (h:Heap) (hb:sysModules<h.objs.size):ObjOk P w H (h.push {cls:=.type "dict",data:=.dict #[]}) h.objs.size (.dK []) :=
  ⟨Nat.zero_le _,beq_eq_false_iff_ne.mpr (Ne.symm (Nat.ne_of_lt hb)),[],.nil,Heap.DictOf.new h⟩
def tDNewK:TE:=fun _ H Q=>∀p,H p=none→Q (.ref p) (upd H p (.dK []))
section
variable {X:Cx} {pos:Pos}
theorem zo2:PE X (.Dict [] [] pos) tDNewK:=fun pins s σ H Q I h =>
  wpAny_Dict_empty ⟨.ref s.heap.objs.size,_,I.laid (a:=s.heap.objs.size) (o:=.dK []) (t':=s.toks) (fun _ _ q=>Heap.get?_push_of_some _ q) (Nat.le_refl _) (zpk s.heap I.big),rfl,h _ (I.hok.fresh (Nat.le_refl _))⟩
end
end L2
namespace L2
open PySem PySem.Spec PyProof.Rows
end L2
namespace EE
open PySem PySem.Spec PyProof.Rows L2
structure Has (K:PySem.W.Frag) (mg:Str→Option Value) (x:Str) (st:Stmt) (ps:List Str):Prop where
  ex:∃f fd,Fun K x x st f fd∧Binds K fd ps []∧mg x=some (.ref f)
section
variable {P:Program} {w:World} {K:PySem.W.Frag} {mg:Str→Option Value} {base:Heap}
theorem zbf {h:Heap} {x:Str} {st:Stmt} {ps:List Str} {f:Addr} {oc:Value} {od an:Option Addr} {osl:Array (Option Value)} {kV doc pm cdv ct:Value} (X:K.In h) (G:h.Ns mainGlobals mg)
    (a:PySem.W.nsIn K mainGlobals x=some (some (.ref f))) (l:K.lookup f=some ⟨oc,od,.func (PySem.W.fnOf x x (defArgs st) (defBody st) (defScope st) .none kV doc pm an cdv ct),osl⟩)
    (c:PySem.W.codeIn K cdv x=true) (k:PySem.W.keepIn K (.ref f)=true)
    (hb:∀(kV doc pm:Value) (an:Option Addr) (cdv ct:Value) (us:List Value),us.length=ps.length→bindArgs (PySem.W.fnOf x x (defArgs st) (defBody st) (defScope st) .none kV doc pm an cdv ct) ⟨us,[]⟩=pure (ps.zip us)):Has K mg x st ps:=show _ by
  have F:=znk (st:=st) l c k
  exact ⟨f,_,F,F.binds hb,PySem.W.mg_of X G a⟩
end
section
variable {X:Cx} {k:Nat} {ps:List Str} {sp:Sp} {x:Str} {p pos:Pos} {e:Expr} {es:List Expr} {t:TA}
theorem zo1 {i:Int} (h:∃t,X.mg x=some (.int i t)) (hg:Gl X x) (hd:(x==("__debug__":Str))=false:=by decide):PE X (.Name x pos) (tC (.int i)):=by
  obtain ⟨t,e⟩:=h
  exact zq1 (v:=.int i) hg e ⟨t,rfl⟩ hd
theorem zpe (K:PySem.W.Frag) (n:String):PySem.W.kitOne K (.type n) (.type n)=some true:=by
  unfold PySem.W.kitOne
  rw [if_pos (by simp)]
def rPopS:V→List V→Hp→VK→Prop:=fun x vs H Q=>∃l ys y,x=.ref l∧vs=[]∧H l=some (.lst (ys++[y]))∧Q y (upd H l (.lst ys))
theorem zcc:MtM X "list.pop" rPopS:=by
  intro pins s σ H x vs v us Q I rx rv h
  obtain ⟨l,ys,y,rfl,rfl,hH,q⟩:=h
  refine mt_pop pins s σ H _ _ v us Q I rx rv ⟨l,ys++[y],y,rfl,rfl,hH,by simp,?_⟩
  rw [List.dropLast_concat]
  exact q
theorem zgb (l:Addr) (xs:Array Value) (n:Nat) (b:Addr) (dd:Option Addr) (sl:Array (Option Value)) (ys:Array Value) (m:Nat)
    (hz:¬(!xs.isEmpty&&Builtin.List.listTooLong (xs.size+ys.size))=true) (h1:xs.size≤sizeLine) (h2:xs.size+ys.size≤sizeLine+1) :
    Meets (Builtin.«list.extend» ⟨[.ref l,.ref b],[]⟩) (fun _ R s=>s.heap.get? l=some {cls:=.type "list",dict:=none,data:=.seq xs n,slots:=#[]} ∧
      s.heap.get? b=some {cls:=.type "tuple",dict:=dd,data:=.seq ys m,slots:=sl} ∧
      R (.ok (.ret Value.none)) {s with heap:=s.heap.update l (Obj.mapSeq fun x=>x++ys),toks:=s.toks}) :=
  .of_wp fun prog w A R s h=>by
    obtain ⟨hp,g,d,tk,os⟩:=s
    obtain ⟨hl,hb,h⟩:=h
    have f1:=PySem.AutoSeq1.idx_int
    have f2:=PySem.AutoSeq1.sub_tuple_tuple
    have f3:=PySem.AutoSeq1.sub_list_list
    have f4:=PySem.AutoSeq1.sub_tuple_list
    have f5:=PySem.AutoSeq1.sub_list_tuple
    have hw:(xs++ys).size≤sizeLine+1:=show _ by rw [Array.size_append];exact h2
    wp_walk using (wpAny_updateSeq hl rfl (hz:=h1) (_hz':=hw)),PySem.AutoSeq1.wpAny_loadPart' hl,PySem.AutoSeq1.wpAny_loadPart' hb
    exact ⟨_,rfl,h⟩
def rExtendT (K:PySem.W.Frag):V→List V→Hp→VK→Prop:=fun x vs H Q=>∃l b xs zs,x=.ref l∧vs=[.ref b]∧H l=some (.lst xs)∧SqT K H b zs∧xs.length+zs.length≤sizeLine∧Q .non (upd H l (.lst (xs++zs)))
theorem zld:MtM X "list.extend" (rExtendT X.K):=show _ by
  intro pins s σ H x vs v us Q I rx rv h
  obtain ⟨l,b,xs,zs,rfl,rfl,hH,hB,hz,q⟩:=h
  cases rx
  obtain ⟨u,rfl,ru⟩:=rv.one
  cases ru
  obtain ⟨z,its,n,r,hl,e⟩:=I.lstM hH
  obtain ⟨its2,r2,⟨o,e2,hc,m,hd⟩,hz2⟩:=I.tuple hB
  obtain ⟨oc,od,odt,osl⟩:=o
  obtain rfl:oc=.type "tuple":=hc
  obtain rfl:odt=.seq its2.toArray m:=hd
  have hl2:=r2.length
  have hsz:its.toArray.size+its2.toArray.size≤sizeLine:=by rw [List.size_toArray,List.size_toArray];omega
  have hlong:¬(!its.toArray.isEmpty&&Builtin.List.listTooLong (its.toArray.size+its2.toArray.size))=true:=by
    rw [notLongL hsz,Bool.and_false]
    exact Bool.false_ne_true
  refine call_meets F.slot_list_extend ⟨_,e,rfl⟩ F.entry_list_extend (F.args_list_extend_2 _ _)
    (zgb l its.toArray n b od osl its2.toArray m hlong (by rw [List.size_toArray];omega) (by omega)) ⟨e,e2,?_⟩
  refine ⟨.non,_,I.lset (its':=its++its2) hH e (by simp) (r.append r2) ?_,rfl,q⟩
  rw [List.length_append]
  omega
end
theorem iteN {c A B:Prop} [Decidable c] (hc:¬c) (h:A):if (!decide c)=true then A else B:=by
  rw [decide_eq_false hc]
  exact iteT h
theorem iteD {c A B:Prop} [Decidable c] (hc:c) (h:A):if decide c=true then A else B:=by
  rw [decide_eq_true hc]
  exact iteT h
theorem iteDN {c A B:Prop} [Decidable c] (hc:¬c) (h:B):if decide c=true then A else B:=by
  rw [decide_eq_false hc]
  exact iteF h
theorem iteD2 {c A B:Prop} [Decidable c] (h1:c→A) (h2:¬c→B):if decide c=true then A else B:=by
  by_cases h:c
  · exact iteD h (h1 h)
  · exact iteDN h (h2 h)
theorem snoc_cases {α:Type} (xs:List α):xs=[]∨∃ys y,xs=ys++[y]:=by
  cases xs with
  | nil=>exact .inl rfl
  | cons a r=>exact .inr ⟨(a::r).dropLast,(a::r).getLast (by simp),(List.dropLast_concat_getLast (by simp)).symm⟩
inductive Tre where
  | bud
  | pair (l r:Tre)
noncomputable def Tre.size:Tre→Nat
  | .bud=>0
  | .pair l r=>l.size+r.size+1
noncomputable def Tre.deep:Tre→Nat
  | .bud=>0
  | .pair l r=>max l.deep r.deep+1
theorem Tre.deep_le:∀t:Tre,t.deep≤t.size
  | .bud=>Nat.le_refl _
  | .pair l r=>by
    have h1:=l.deep_le
    have h2:=r.deep_le
    simp only [Tre.deep,Tre.size]
    omega
noncomputable def sizes:List Tre→Nat
  | []=>0
  | t::r=>t.size+sizes r
theorem zak (a b:List Tre):sizes (a++b)=sizes a+sizes b:=by
  induction a with
  | nil=>simp [sizes]
  | cons t r ih=>simp only [List.cons_append,sizes,ih];omega
end EE
namespace EE
open PySem PySem.Spec PyProof.Rows L2
end EE
namespace EE
open PySem PySem.Spec PyProof.Rows L2 SeqAt
inductive Dt where
  | non|bl (b:Bool)|int (i:Int)|str (x:Str)|tup (xs:List Dt)|lst (xs:List Dt)
mutual
noncomputable def eqD:Dt→Dt→Bool
  | .non,.non=>true
  | .bl a,.bl b=>a==b
  | .bl a,.int b=>(if a then 1 else 0)==b
  | .int a,.bl b=>a==(if b then 1 else 0)
  | .int a,.int b=>a==b
  | .str a,.str b=>a==b
  | .tup xs,.tup ys=>eqDs xs ys
  | .lst xs,.lst ys=>eqDs xs ys
  | _,_=>false
noncomputable def eqDs:List Dt→List Dt→Bool
  | [],[]=>true
  | x::xs,y::ys=>eqD x y&&eqDs xs ys
  | _,_=>false
end
mutual
noncomputable def deepD:Dt→Nat
  | .tup xs=>deepDs xs+1
  | .lst xs=>deepDs xs+1
  | _=>0
noncomputable def deepDs:List Dt→Nat
  | []=>0
  | x::xs=>max (deepD x) (deepDs xs)
end
mutual
theorem zdj:∀d:Dt,eqD d d=true
  | .non=>rfl
  | .bl b=>by simp [eqD]
  | .int i=>by simp [eqD]
  | .str x=>by simp [eqD]
  | .tup xs=>by simp only [eqD];exact zgc xs
  | .lst xs=>by simp only [eqD];exact zgc xs
theorem zgc:∀ds:List Dt,eqDs ds ds=true
  | []=>rfl
  | d::ds=>by simp only [eqDs,zdj d,zgc ds,Bool.and_self]
end
mutual
inductive DR (K:PySem.W.Frag) (H:Hp):Dt→V→Prop where
  | non:DR K H .non .non
  | bl (b:Bool):DR K H (.bl b) (.bl b)
  | int (i:Int):DR K H (.int i) (.int i)
  | str (x:Str):DR K H (.str x) (.str x)
  | tup {a:Addr} {xs:List V} {ds:List Dt}:SqT K H a xs→DRs K H ds xs→DR K H (.tup ds) (.ref a)
  | lst {a:Addr} {xs:List V} {ds:List Dt}:SqL K H a xs→DRs K H ds xs→DR K H (.lst ds) (.ref a)
inductive DRs (K:PySem.W.Frag) (H:Hp):List Dt→List V→Prop where
  | nil:DRs K H [] []
  | cons {d:Dt} {v:V} {ds:List Dt} {vs:List V}:DR K H d v→DRs K H ds vs→DRs K H (d::ds) (v::vs)
end
section
variable {X:Cx} {pins:List (Addr×Obj)} {σ:L2.St} {H:Hp} {s:Shared}
theorem zd2 {a:Addr} {xs ys:List V} (I:Inv X pins σ H s) (h:SqL X.K H a xs) (h':SqT X.K H a ys):False:=by
  obtain ⟨its,_,p,_⟩:=I.list h
  obtain ⟨its',_,q,_⟩:=I.tuple h'
  exact ne_of_list_tuple p.isList (show s.heap.IsTuple a its'.toArray from q) rfl
mutual
theorem DR.inj (I:Inv X pins σ H s):∀{d e:Dt} {v:V},DR X.K H d v→DR X.K H e v→d=e
  | _,_,_,.non,h=>by cases h;rfl
  | _,_,_,.bl _,h=>by cases h;rfl
  | _,_,_,.int _,h=>by cases h;rfl
  | _,_,_,.str _,h=>by cases h;rfl
  | _,_,_,.tup p q,h=>by
    cases h with
    | tup p' q' =>
      have e:=I.tuple_inj p p'
      subst e
      rw [DRs.inj I q q']
    | lst p' q'=>exact (zd2 I p' p).elim
  | _,_,_,.lst p q,h=>by
    cases h with
    | lst p' q' =>
      have e:=I.list_inj p p'
      subst e
      rw [DRs.inj I q q']
    | tup p' q'=>exact (zd2 I p p').elim
theorem DRs.inj (I:Inv X pins σ H s):∀{ds es:List Dt} {vs:List V},DRs X.K H ds vs→DRs X.K H es vs→ds=es
  | _,_,_,.nil,h=>by cases h;rfl
  | _,_,_,.cons p q,h=>by
    cases h with
    | cons p' q'=>rw [DR.inj I p p',DRs.inj I q q']
end
theorem DRs.len:∀{ds:List Dt} {vs:List V},DRs X.K H ds vs→ds.length=vs.length
  | _,_,.nil=>rfl
  | _,_,.cons _ q=>by simp [DRs.len q]
theorem DRs.at:∀{ds:List Dt} {vs:List V} {i:Nat} {v:V},DRs X.K H ds vs→vs[i]?=some v→∃d,ds[i]?=some d∧DR X.K H d v
  | _,_,_,_,.nil,e=>by simp at e
  | _,_,0,_,.cons r _,e=>by simp at e;subst e;exact ⟨_,rfl,r⟩
  | _,_,i+1,v,.cons _ q,e=>by
    obtain ⟨d,h1,h2⟩:=DRs.at (i:=i) (v:=v) q (by simpa using e)
    exact ⟨d,by simpa using h1,h2⟩
noncomputable def eqAtI (ds es:List Dt) (i:Nat):Bool:=match ds[i]?,es[i]? with
  | some d,some e=>eqD d e
  | _,_=>true
theorem zob (ds es:List Dt) (d e:Dt) (n:Nat):(List.range (n+1)).all (eqAtI (d::ds) (e::es))=(eqD d e&&(List.range n).all (eqAtI ds es)):=by
  rw [List.range_succ_eq_map,List.all_cons,List.all_map]
  rfl
theorem zfj:∀ds es:List Dt,eqDs ds es=((List.range (min ds.length es.length)).all (eqAtI ds es)&&ds.length==es.length)
  | [],[]=>rfl
  | [],_::_=>by simp [eqDs]
  | _::_,[]=>by simp [eqDs]
  | d::ds,e::es=>by
    have ih:=zfj ds es
    simp only [eqDs,List.length_cons]
    rw [Nat.succ_min_succ,zob,ih,Bool.and_assoc]
    congr 2
    rw [Bool.eq_iff_iff]
    simp
theorem zgf:∀{ds:List Dt} {i:Nat} {d:Dt},ds[i]?=some d→deepD d≤deepDs ds
  | [],_,_,e=>by simp at e
  | x::xs,0,_,e=>by simp at e;subst e;simp only [deepDs];omega
  | x::xs,i+1,d,e=>by
    have:=zgf (ds:=xs) (i:=i) (d:=d) (by simpa using e)
    simp only [deepDs]
    omega
theorem zhf {xs:List V} {us:List Value} {j:Nat} (r:Vals xs us) (h:j<us.toArray.size):∃x,xs[j]?=some x∧RelV x us.toArray[j]:=show _ by
  have hl:=r.length
  have hj:j<xs.length:=by simpa [hl] using h
  have e:xs[j]?=some xs[j]:=List.getElem?_eq_getElem hj
  obtain ⟨u,hu,ru⟩:=r.get e
  refine ⟨_,e,?_⟩
  have:us.toArray[j]=u:=by
    have z:us[j]?=some us[j]:=List.getElem?_eq_getElem (by simpa using h)
    rw [z] at hu
    simpa using Option.some.inj hu
  rw [this]
  exact ru
theorem units_in1 {A:Around}:A.in1.units=A.units+1:=rfl
theorem znm (I:Inv X pins σ H s):∀(n:Nat) (A:Around) (d e:Dt) (v v':V) (u u':Value),deepD d≤n→A.units+n<cLine→DR X.K H d v→DR X.K H e v'→RelV v u→RelV v' u' →
    RcAt A s u u' (eqD d e)∧EqAt A s u u' (eqD d e):=show _ by
  intro n
  induction n with
  | zero =>
    intro A d e v v' u u' hn hu hd he r r'
    have hu':A.units<cLine:=by omega
    cases hd with
    | non =>
      cases r
      cases he with
      | non=>cases r';exact ⟨RcAt.none_none,EqAt.same _⟩
      | bl b=>cases r';exact ⟨RcAt.none_bool b,EqAt.none_bool b⟩
      | int b=>obtain ⟨t,rfl⟩:=r';exact ⟨RcAt.none_int b t,EqAt.none_int b t⟩
      | str b=>obtain ⟨t,rfl⟩:=r';exact ⟨RcAt.none_str b t,EqAt.none_str b t⟩
      | tup p q =>
        cases r'
        obtain ⟨its,_,ht,_⟩:=I.tuple p
        exact ⟨RcAt.none_tuple ht hu',EqAt.none_tuple ht hu'⟩
      | lst p q =>
        cases r'
        obtain ⟨its,_,ht,_⟩:=I.list p
        exact ⟨RcAt.none_list ht.isList hu',EqAt.none_list ht.isList hu'⟩
    | bl a =>
      cases r
      cases he with
      | non=>cases r';exact ⟨RcAt.bool_none a,EqAt.bool_none a⟩
      | bl b=>cases r';exact ⟨RcAt.bool_bool a b,EqAt.bool_bool a b⟩
      | int b=>obtain ⟨t,rfl⟩:=r';exact ⟨RcAt.bool_int a b t,EqAt.bool_int a b t⟩
      | str b=>obtain ⟨t,rfl⟩:=r';exact ⟨RcAt.bool_str a b t,EqAt.bool_str a b t⟩
      | tup p q =>
        cases r'
        obtain ⟨its,_,ht,_⟩:=I.tuple p
        exact ⟨RcAt.bool_tuple a ht hu',EqAt.bool_tuple a ht hu'⟩
      | lst p q =>
        cases r'
        obtain ⟨its,_,ht,_⟩:=I.list p
        exact ⟨RcAt.bool_list a ht.isList hu',EqAt.bool_list a ht.isList hu'⟩
    | int a =>
      obtain ⟨t0,rfl⟩:=r
      cases he with
      | non=>cases r';exact ⟨RcAt.int_none a t0,EqAt.int_none a t0⟩
      | bl b=>cases r';exact ⟨RcAt.int_bool a t0 b,EqAt.int_bool a t0 b⟩
      | int b=>obtain ⟨t,rfl⟩:=r';exact ⟨RcAt.int_int a t0 b t,EqAt.int_int a t0 b t⟩
      | str b=>obtain ⟨t,rfl⟩:=r';exact ⟨RcAt.int_str a t0 b t,EqAt.int_str a t0 b t⟩
      | tup p q =>
        cases r'
        obtain ⟨its,_,ht,_⟩:=I.tuple p
        exact ⟨RcAt.int_tuple a t0 ht hu',EqAt.int_tuple a t0 ht hu'⟩
      | lst p q =>
        cases r'
        obtain ⟨its,_,ht,_⟩:=I.list p
        exact ⟨RcAt.int_list a t0 ht.isList hu',EqAt.int_list a t0 ht.isList hu'⟩
    | str a =>
      obtain ⟨t0,rfl⟩:=r
      cases he with
      | non=>cases r';exact ⟨RcAt.str_none a t0,EqAt.str_none a t0⟩
      | bl b=>cases r';exact ⟨RcAt.str_bool a t0 b,EqAt.str_bool a t0 b⟩
      | int b=>obtain ⟨t,rfl⟩:=r';exact ⟨RcAt.str_int a t0 b t,EqAt.str_int a t0 b t⟩
      | str b=>obtain ⟨t,rfl⟩:=r';exact ⟨RcAt.str_str a t0 b t,EqAt.str_str a t0 b t⟩
      | tup p q =>
        cases r'
        obtain ⟨its,_,ht,_⟩:=I.tuple p
        exact ⟨RcAt.str_tuple a t0 ht hu',EqAt.str_tuple a t0 ht hu'⟩
      | lst p q =>
        cases r'
        obtain ⟨its,_,ht,_⟩:=I.list p
        exact ⟨RcAt.str_list a t0 ht.isList hu',EqAt.str_list a t0 ht.isList hu'⟩
    | tup p q=>simp [deepD] at hn
    | lst p q=>simp [deepD] at hn
  | succ n ih =>
    intro A d e v v' u u' hn hu hd he r r'
    by_cases h0:deepD d≤n
    · exact ih A d e v v' u u' h0 (by omega) hd he r r'
    have hu':A.units<cLine:=by omega
    have items:∀{xs ys:List V} {ds es:List Dt} {its its2:List Value},deepDs ds≤n→DRs X.K H ds xs→DRs X.K H es ys→Vals xs its→Vals ys its2 →
        ∀j (h1:j<its.toArray.size) (h2:j<its2.toArray.size),EqAt A.in1 s its.toArray[j] its2.toArray[j] (eqAtI ds es j):=fun {xs ys ds es its its2} hdd q q' rv rv' j h1 h2=>by
      obtain ⟨x,hx,rx⟩:=zhf rv h1
      obtain ⟨y,hy,ry⟩:=zhf rv' h2
      obtain ⟨dx,edx,rdx⟩:=q.at hx
      obtain ⟨dy,edy,rdy⟩:=q'.at hy
      have hdeep:=zgf edx
      have:=(ih A.in1 dx dy x y _ _ (by omega) (by rw [units_in1];omega) rdx rdy rx ry).2
      unfold eqAtI
      rw [edx,edy]
      exact this
    cases hd with
    | non=>exact absurd (Nat.zero_le _) h0
    | bl _=>exact absurd (Nat.zero_le _) h0
    | int _=>exact absurd (Nat.zero_le _) h0
    | str _=>exact absurd (Nat.zero_le _) h0
    | @tup a xs ds p q =>
      cases r
      obtain ⟨its,rv,ht,_⟩:=I.tuple p
      cases he with
      | non=>cases r';exact ⟨RcAt.tuple_none ht hu',EqAt.tuple_none ht hu'⟩
      | bl b=>cases r';exact ⟨RcAt.tuple_bool b ht hu',EqAt.tuple_bool b ht hu'⟩
      | int b=>obtain ⟨t,rfl⟩:=r';exact ⟨RcAt.tuple_int b t ht hu',EqAt.tuple_int b t ht hu'⟩
      | str b=>obtain ⟨t,rfl⟩:=r';exact ⟨RcAt.tuple_str b t ht hu',EqAt.tuple_str b t ht hu'⟩
      | @tup b ys es p' q' =>
        cases r'
        obtain ⟨its2,rv2,ht2,_⟩:=I.tuple p'
        have hdd:deepDs ds≤n:=by simp only [deepD] at hn;omega
        have e:((List.range (min its.toArray.size its2.toArray.size)).all (eqAtI ds es)&&its.toArray.size==its2.toArray.size)=eqD (.tup ds) (.tup es):=by
          simp only [eqD]
          rw [zfj,q.len,q'.len,rv.length,rv2.length]
          simp
        have rc:RcAt A s (.ref a) (.ref b) (eqD (.tup ds) (.tup es)):=by
          rw [←e]
          exact RcAt.tuples ht ht2 hu' (items hdd q q' rv rv2)
        refine ⟨rc,?_⟩
        by_cases hab:a=b
        · subst hab
          have ed:Dt.tup ds=Dt.tup es:=DR.inj I (.tup p q) (.tup p' q')
          rw [←ed,zdj]
          exact EqAt.same _
        · exact EqAt.of_refs hab rc
      | @lst b ys es p' q' =>
        cases r'
        obtain ⟨its2,_,ht2,_⟩:=I.list p'
        exact ⟨RcAt.tuple_list ht ht2.isList hu',EqAt.tuple_list ht ht2.isList hu'⟩
    | @lst a xs ds p q =>
      cases r
      obtain ⟨its,rv,ht,_⟩:=I.list p
      cases he with
      | non=>cases r';exact ⟨RcAt.list_none ht.isList hu',EqAt.list_none ht.isList hu'⟩
      | bl b=>cases r';exact ⟨RcAt.list_bool b ht.isList hu',EqAt.list_bool b ht.isList hu'⟩
      | int b=>obtain ⟨t,rfl⟩:=r';exact ⟨RcAt.list_int b t ht.isList hu',EqAt.list_int b t ht.isList hu'⟩
      | str b=>obtain ⟨t,rfl⟩:=r';exact ⟨RcAt.list_str b t ht.isList hu',EqAt.list_str b t ht.isList hu'⟩
      | @tup b ys es p' q' =>
        cases r'
        obtain ⟨its2,_,ht2,_⟩:=I.tuple p'
        exact ⟨RcAt.list_tuple ht.isList ht2 hu',EqAt.list_tuple ht.isList ht2 hu'⟩
      | @lst b ys es p' q' =>
        cases r'
        obtain ⟨its2,rv2,ht2,_⟩:=I.list p'
        have hdd:deepDs ds≤n:=by simp only [deepD] at hn;omega
        have rc:RcAt A s (.ref a) (.ref b) (eqD (.lst ds) (.lst es)):=by
          simp only [eqD]
          rw [zfj,q.len,q'.len,rv.length,rv2.length]
          by_cases hsz:its.length=its2.length
          · have e:((List.range (min its.length its2.length)).all (eqAtI ds es)&&its.length==its2.length)=(List.range its.toArray.size).all (eqAtI ds es):=by
              simp [hsz]
            rw [e]
            exact RcAt.lists ht.isList ht2.isList (by simpa using hsz) hu' (items hdd q q' rv rv2)
          · have e:((List.range (min its.length its2.length)).all (eqAtI ds es)&&its.length==its2.length)=false:=by
              rw [beq_eq_false_iff_ne.mpr hsz,Bool.and_false]
            rw [e]
            exact RcAt.lists_lengths ht.isList ht2.isList (by simpa using hsz) hu'
        refine ⟨rc,?_⟩
        by_cases hab:a=b
        · subst hab
          have ed:Dt.lst ds=Dt.lst es:=DR.inj I (.lst p q) (.lst p' q')
          rw [←ed,zdj]
          exact EqAt.same _
        · exact EqAt.of_refs hab rc
theorem zg6 {n:Nat} (hu:X.A.units+n<cLine):OpR X (compareOp .Eq) (fun x y H Q=>∃d e,DR X.K H d x∧DR X.K H e y∧deepD d≤n∧Q (.bl (eqD d e)) H):=show _ by
  intro pins s σ H x y v u Q I rx ry h
  obtain ⟨d,e,hd,he,hn,q⟩:=h
  exact (znm I n X.A d e x y v u hn hu hd he rx ry).1 X.prog X.w X.xe _ ⟨.bl (eqD d e),H,I,rfl,q⟩
end
noncomputable def Tre.dt:Tre→Dt
  | .bud=>.non
  | .pair l r=>.tup [l.dt,r.dt]
theorem Tre.dt_deep:∀t:Tre,deepD t.dt=t.deep
  | .bud=>rfl
  | .pair l r=>by
    simp only [Tre.dt,deepD,deepDs,Tre.deep,l.dt_deep,r.dt_deep]
    omega
end EE
namespace EE
open PySem PySem.Spec PyProof.Rows L2
end EE
namespace EE
open PySem PySem.Spec PyProof.Rows L2
noncomputable def textOf (cs:List Nat):Str:=⟨cs.toArray⟩
theorem za0 (cs:List Nat):(textOf cs).length=cs.length:=by simp [textOf,Str.length]
theorem zc0 (a b:List Nat):textOf a++textOf b=textOf (a++b):=by
  show Str.append (textOf a) (textOf b)=textOf (a++b)
  simp [textOf,Str.append]
end EE
namespace EE
open PySem PySem.Spec PyProof.Rows L2
noncomputable def cutT (cs:List Nat) (lo hi:Option Int):List Nat:=(cs.drop (HT.sIx cs.length 0 lo)).take (HT.sIx cs.length cs.length hi-HT.sIx cs.length 0 lo)
theorem zrf (lo hi:Option Int) (n:Nat):Builtin.Str.strSliceIndices lo hi 1 n=sliceRange ((HT.sIx n 0 lo:Nat):Int) ((HT.sIx n n hi:Nat):Int) 1:=show _ by
  have a:∀(i:Int) (d:Nat),max 0 (min (if i<0 then i+(n:Int) else i) (n:Int))=((HT.sIx n d (some i):Nat):Int):=by
    intro i d
    simp only [HT.sIx]
    by_cases h:i<0
    · simp only [h,if_true];omega
    · simp only [h,if_false];omega
  unfold Builtin.Str.strSliceIndices
  cases lo with
  | none =>
    cases hi with
    | none=>rfl
    | some j =>
      show sliceRange (0:Int) (max 0 (min (if j<0 then j+(n:Int) else j) (n:Int))) 1=_
      rw [a j n]
      rfl
  | some i =>
    cases hi with
    | none =>
      show sliceRange (max 0 (min (if i<0 then i+(n:Int) else i) (n:Int))) (n:Int) 1=_
      rw [a i 0]
      rfl
    | some j =>
      show sliceRange (max 0 (min (if i<0 then i+(n:Int) else i) (n:Int))) (max 0 (min (if j<0 then j+(n:Int) else j) (n:Int))) 1=_
      rw [a i 0,a j n]
theorem zl7 (x:Str) (lo hi:Option Int):Txt.slice x lo hi=textOf (cutT x.cps.toList lo hi):=show _ by
  have hl:x.cps.toList.length=x.length:=by simp [Str.length]
  have l1:HT.sIx x.length 0 lo≤x.length:=HT.zmh _ _ (Nat.zero_le _) lo
  have l2:HT.sIx x.length x.length hi≤x.length:=HT.zmh _ _ (Nat.le_refl _) hi
  unfold Txt.slice cutT
  rw [zrf,sliceRange_one,hl,pick_run]
  by_cases h:((1:Int)==1&&((List.range (HT.sIx x.length x.length hi-HT.sIx x.length 0 lo)).map (HT.sIx x.length 0 lo+·)).length==x.length)=true
  · rw [if_pos h]
    simp only [List.length_map,List.length_range,Bool.and_eq_true,beq_iff_eq] at h
    have h2:=h.2
    have e1:HT.sIx x.length 0 lo=0:=by omega
    have e2:HT.sIx x.length x.length hi=x.length:=by omega
    rw [e1,e2,List.drop_zero,Nat.sub_zero,←hl,List.take_length]
    simp [textOf]
  · rw [if_neg h]
    rfl
def rSlS:V→Option Int→Option Int→Hp→VK→Prop:=fun x lo hi H Q=>∃z,x=.str z∧z.length≤sizeLine∧Q (.str (textOf (cutT z.cps.toList lo hi))) H
theorem zgy {X:Cx}:SlR X rSlS:=show _ by
  intro pins s σ H x v vl vu lo hi sl Q I rx hs pl pu h
  obtain ⟨z,rfl,hz,q⟩:=h
  obtain ⟨t,rfl⟩:=rx
  refine ⟨"str",_,slot_str_getitem.lookup,typeIs_str s z t,?_⟩
  have fin:∀t' k,EP X pins σ Q (.str (Txt.slice z lo hi) t') {s with toks:=k}:=fun t' k=>⟨.str _,H,I.tok _,⟨_,rfl⟩,by rw [zl7];exact q⟩
  have len:(Txt.slice z lo hi).length≤sizeLine:=Nat.le_trans (Txt.slice_le z lo hi) hz
  obtain ⟨o,ho,hc,hd⟩:=hs
  cases pl with
  | none =>
    cases pu with
    | none=>exact wpAny_getItem_str_slice (l:=none) (u:=none) (st:=none) ⟨o,ho,hc,hd⟩ rfl (post_val_or_str ⟨len,fin⟩)
    | int j tj=>exact wpAny_getItem_str_slice (l:=none) (u:=some (j,tj)) (st:=none) ⟨o,ho,hc,hd⟩ rfl (post_val_or_str ⟨len,fin⟩)
  | int i ti =>
    cases pu with
    | none=>exact wpAny_getItem_str_slice (l:=some (i,ti)) (u:=none) (st:=none) ⟨o,ho,hc,hd⟩ rfl (post_val_or_str ⟨len,fin⟩)
    | int j tj=>exact wpAny_getItem_str_slice (l:=some (i,ti)) (u:=some (j,tj)) (st:=none) ⟨o,ho,hc,hd⟩ rfl (post_val_or_str ⟨len,fin⟩)
end EE
namespace EE
open PySem PySem.Spec PyProof.Rows L2
theorem zke {α β:Type} (f:α→β→Sem (ForInStep β)) (g:β→α→β):∀(l:List α) (b:β),(∀x∈l,∀b,f x b=pure (.yield (g b x)))→forIn l b f=pure (l.foldl g b)
  | [],b,_=>rfl
  | x::l,b,h=>by
    rw [List.forIn_cons,h x List.mem_cons_self b]
    exact zke f g l (g b x) fun y hy=>h y (List.mem_cons_of_mem _ hy)
noncomputable def clGo (env:Env) (acc:List (Str×Addr)) (y:Str×NameKind):List (Str×Addr):=if y.2 == .free then (y.1,(env.cells.lookup y.1).getD 0)::acc else acc
noncomputable def clOf (scope:Scope) (env:Env):List (Str×Addr):=scope.names.foldl (clGo env) []
theorem zju {scope:Scope} {env:Env} (h:∀y∈scope.names,y.2=.free→∃c,env.cells.lookup y.1=some c):closureFor scope env=pure (clOf scope env):=show _ by
  simp only [closureFor]
  rw [zke _ (clGo env) scope.names [] (fun y hy b=>?_)]
  · rfl
  · obtain ⟨n,k⟩:=y
    by_cases hk:k=.free
    · subst hk
      obtain ⟨c,e⟩:=h _ hy rfl
      have e':env.cells.lookup n=some c:=e
      simp only [clGo,beq_self_eq_true,if_true,cellOf,e',Option.getD_some]
      rfl
    · have:(k==NameKind.free)=false:=by simpa using hk
      simp only [clGo,this,Bool.false_eq_true,if_false]
theorem zn5 {env:Env}:∀(names:List (Str×NameKind)) (acc:List (Str×Addr)),(∀y∈names,y.2=.free→∃c,env.cells.lookup y.1=some c)→(∀y c,acc.lookup y=some c→env.cells.lookup y=some c) →
    ∀y c,(names.foldl (clGo env) acc).lookup y=some c→env.cells.lookup y=some c
  | [],acc,_,h,y,c,e=>h y c e
  | (n,k)::r,acc,hf,h,y,c,e=>by
    rw [List.foldl_cons] at e
    refine zn5 r _ (fun z hz=>hf z (List.mem_cons_of_mem _ hz)) (fun y c e=>?_) y c e
    unfold clGo at e
    by_cases hk:k=.free
    · subst hk
      obtain ⟨c0,e0⟩:=hf _ List.mem_cons_self rfl
      have e0':env.cells.lookup n=some c0:=e0
      simp only [beq_self_eq_true,if_true,e0',Option.getD_some,List.lookup_cons] at e
      by_cases hy:y=n
      · subst hy
        simp at e
        rw [←e];exact e0'
      · have hb:(y==n)=false:=show _ by simpa using hy
        simp only [hb] at e
        exact h y c e
    · have hb:(k==NameKind.free)=false:=by simpa using hk
      simp only [hb,Bool.false_eq_true,if_false] at e
      exact h y c e
theorem zi5 {env:Env}:∀(names:List (Str×NameKind)) (acc:List (Str×Addr)) (y:Str),(y,NameKind.free)∈names∨(∃c,acc.lookup y=some c)→∃c,(names.foldl (clGo env) acc).lookup y=some c
  | [],acc,y,h=>by
    rcases h with h|h
    · simp at h
    · exact h
  | (n,k)::r,acc,y,h=>by
    rw [List.foldl_cons]
    refine zi5 r _ y ?_
    rcases h with h|⟨c,h⟩
    · rcases List.mem_cons.mp h with h|h
      · cases h
        exact .inr ⟨(env.cells.lookup n).getD 0,by simp [clGo]⟩
      · exact .inl h
    · refine .inr ?_
      unfold clGo
      by_cases hk:k=.free
      · subst hk
        simp only [beq_self_eq_true,if_true,List.lookup_cons]
        by_cases hy:y=n
        · subst hy;simp
        · have hb:(y==n)=false:=show _ by simpa using hy
          simp only [hb]
          exact ⟨c,h⟩
      · have hb:(k==NameKind.free)=false:=by simpa using hk
        simp only [hb,Bool.false_eq_true,if_false]
        exact ⟨c,h⟩
theorem zdg {scope:Scope} {env:Env} {y:Str} {k:NameKind} (h:(relabel scope env).names.lookup y=some k):∃k',(y,k')∈scope.names∧(k=k'∨(k'=.free∧k=.cell)):=show _ by
  have go:∀(l:List (Str×NameKind)),(l.map fun (n,k)=>if (k == .free&&env.scope.kind == .function&&env.kindOf n==some .cell) then (n,NameKind.cell) else (n,k)).lookup y=some k→∃k',(y,k')∈l∧(k=k'∨(k'=.free∧k=.cell)):=by
    intro l
    induction l with
    | nil=>intro h;simp at h
    | cons a r ih =>
      obtain ⟨n,k0⟩:=a
      intro h
      rw [List.map_cons] at h
      by_cases hc:(k0==NameKind.free&&env.scope.kind == .function&&env.kindOf n==some .cell)=true
      · simp only [hc,if_true,List.lookup_cons] at h
        by_cases hy:y=n
        · subst hy
          simp only [beq_self_eq_true] at h
          refine ⟨k0,List.mem_cons_self,.inr ⟨?_,by simpa using h.symm⟩⟩
          simp only [Bool.and_eq_true] at hc
          simpa using hc.1.1
        · have hb:(y==n)=false:=by simpa using hy
          simp only [hb] at h
          obtain ⟨k',m,q⟩:=ih h
          exact ⟨k',List.mem_cons_of_mem _ m,q⟩
      · dsimp only at h
        rw [if_neg hc] at h
        by_cases hy:y=n
        · subst hy
          simp at h
          exact ⟨k0,List.mem_cons_self,.inl h.symm⟩
        · have hb:(y==n)=false:=by simpa using hy
          simp only [List.lookup_cons,hb] at h
          obtain ⟨k',m,q⟩:=ih h
          exact ⟨k',List.mem_cons_of_mem _ m,q⟩
  exact go scope.names h
theorem ze8 {scope:Scope} {env:Env} {y:Str} (hk:env.scope.kind=.function) (hc:env.kindOf y=some .cell) (h:scope.names.lookup y=some .free):(relabel scope env).names.lookup y=some .cell:=show _ by
  have go:∀(l:List (Str×NameKind)),l.lookup y=some .free→(l.map fun (n,k)=>if (k == .free&&env.scope.kind == .function&&env.kindOf n==some .cell) then (n,NameKind.cell) else (n,k)).lookup y=some .cell:=by
    intro l
    induction l with
    | nil=>intro h;simp at h
    | cons a r ih =>
      obtain ⟨n,k0⟩:=a
      intro h
      rw [List.map_cons]
      by_cases hy:y=n
      · subst hy
        simp only [List.lookup_cons,beq_self_eq_true,Option.some.injEq] at h
        subst h
        simp [hk,hc]
      · have hb:(y==n)=false:=by simpa using hy
        simp only [List.lookup_cons,hb] at h
        by_cases hcc:(k0==NameKind.free&&env.scope.kind == .function&&env.kindOf n==some .cell)=true
        · simp only [hcc,if_true,List.lookup_cons,hb]
          exact ih h
        · dsimp only
          rw [if_neg hcc]
          simp only [List.lookup_cons,hb]
          exact ih h
  exact go scope.names h
structure CompScope (osc:Scope) (x:Str) (M:List Str) (scope:Scope):Prop where
  kind:scope.kind=.function
  nocell:∀y∈scope.names,y.2≠.cell
  names:∀y∈scope.names,y.2=.local→scope.names.lookup y.1=some .local
  own:scope.names.lookup x=some .local
  free:∀y∈scope.names,y.2=.free→osc.names.lookup y.1=some .cell
  nd:(x::M).Nodup
  mine:∀y∈M,scope.names.lookup y=some .free
noncomputable def cxComp (X:Cx) (scope:Scope) (C:Addr) (N:List Str) (fp:List Addr) (pins:List (Addr×Obj)) (s:Shared) (H:Hp):Cx where
  prog:=X.prog
  w:=X.w
  K:=X.K
  mg:=X.mg
  base:=X.base
  A:=X.A
  N:=N
  s₀:=s
  H₀:=H
  env:=compEnvC scope (clOf scope X.env) C X.env
  outer:=X.stack
  stack:=X.stack
  ex:=fp
  fn:=fun _=>false
  calm:=true
  pn:=X.pn++pins
  xe:=fun _ _=>False
noncomputable def pick (σ:L2.St) (js:List Nat):L2.St:=js.map fun j=>(σ[j]?).getD none
section
variable {X:Cx} {pins:List (Addr×Obj)} {σ:L2.St} {H:Hp} {s:Shared} {scope:Scope} {x:Str} {M:List Str} {js:List Nat} {C:Addr} {fp:List Addr}
theorem CompScope.cells (S:CompScope X.env.scope x M scope) (I:Inv X pins σ H s):∀y∈scope.names,y.2=.free→∃c,X.env.cells.lookup y.1=some c:=fun y hy hk=>I.ok.has y.1 (.inl (S.free y hy hk))
theorem CompScope.sub (S:CompScope X.env.scope x M scope) (I:Inv X pins σ H s) {y:Str} {c:Addr} (e:(clOf scope X.env).lookup y=some c):X.env.cells.lookup y=some c :=
  zn5 scope.names [] (S.cells I) (fun _ _ h=>by simp at h) y c e
theorem zpf {s1:Shared} {m:Str→Option Value} (S:CompScope X.env.scope x M scope) (hc:X.calm=true) (I:Inv X pins σ H s) (hjs:∀(k:Nat) (y:Str),M[k]?=some y→∃j:Nat,js[k]?=some j∧X.N[j]?=some y) (hlen:js.length=M.length)
    (hf:∀b∈fp,FpOk X pins H b) (hfl:∀b∈fp,b<s.heap.objs.size) (hC:s.heap.objs.size≤C) (hn:s1.heap.Ns C m) (hk:∀b o,s.heap.get? b=some o→s1.heap.get? b=some o) (hos:s1.os=s.os) (hg:AllBare s1.gens) :
    Inv (cxComp X scope C (x::M) fp pins s H) [] (none::pick σ js) H s1:=show _ by
  have nst:∀b∈fp,b∉frs X.stack:=fun b hb z=>by
    obtain ⟨f0,f1,f2,_⟩:=hf b hb
    rcases List.mem_cons.mp (I.stkSub b z) with e|e
    · exact f1 e
    · exact f2 e
  have cellK:∀(c:Addr) (v:Option Value),s.heap.IsCell c v→s1.heap.IsCell c v:=fun c v z_1=>by obtain ⟨o,e,d⟩:=z_1;exact ⟨o,hk c o e,d⟩
  refine ⟨⟨I.ok.mod,S.kind,I.ok.glob,I.ok.blt,hC,fun y z c h1 h2=>I.ok.inj y z c (S.sub I h1) (S.sub I h2),fun y hy=>?_,fun y c h _=>(by cases (show false=true from h)),fun _=>I.ok.hd hc,I.ok.frames,.inl rfl,fun b hb=>?_,I.bs,
    Nat.le_trans I.ok.bsz I.sz,fun b o e hb=>?_,nst,I.stack,I.stkFree⟩,hos,hg,Un.kept hk,⟨m,hn,fun i y v h1 h2 h3=>?_⟩,fun y c e=>?_,I.hok.fresh hC,fun y c e=>I.freeC y c (S.sub I e),fun p hp=>?_,I.hok.kept hk,?_⟩
  · have hy':(relabel scope X.env).names.lookup y=some .cell∨(relabel scope X.env).names.lookup y=some .free:=hy
    have fr:(y,NameKind.free)∈scope.names:=by
      rcases hy' with h|h
      · obtain ⟨k',mm,e|e⟩:=zdg h
        · exact absurd e.symm (S.nocell _ mm)
        · rw [e.1] at mm;exact mm
      · obtain ⟨k',mm,e|e⟩:=zdg h
        · rw [←e] at mm;exact mm
        · exact absurd e.2 (by intro z;cases z)
    exact zi5 scope.names [] y (.inl fr)
  · obtain ⟨f0,f1,f2,f3,f4,f5⟩:=hf b hb
    exact ⟨Nat.ne_of_lt (Nat.lt_of_lt_of_le (hfl b hb) hC),fun y c e=>f4 y c (S.sub I e)⟩
  · obtain ⟨f0,f1,f2,f3,f4,f5⟩:=hf b hb
    rcases f3 with f3|f3
    · exact I.ok.noex b o e f3
    · exact absurd (Heap.lt_size e) (Nat.not_lt.mpr (Nat.le_trans I.ok.bsz f3))
  · cases i with
    | zero =>
      have h2':(none:Option V)=some v:=by simpa using h2
      cases h2'
    | succ k =>
      have h1':M[k]?=some y:=by
        have z:(x::M)[k+1]?=some y:=h1
        simpa using z
      have h2':(pick σ js)[k]?=some (some v):=by simpa using h2
      obtain ⟨j,ej,eN⟩:=hjs k y h1'
      have eσ:σ[j]?=some (some v):=by
        unfold pick at h2'
        rw [List.getElem?_map,ej] at h2'
        have z:(σ[j]?).getD none=some v:=by simpa using h2'
        cases q:σ[j]? with
        | none=>rw [q] at z;cases z
        | some o=>rw [q] at z;rw [show o=some v from z]
      have hfree:=S.mine y (List.mem_of_getElem? h1')
      have hcell:X.env.kindOf y=some .cell:=S.free (y,.free) (PySem.mem_of_lookup hfree) rfl
      obtain ⟨m0,_,hl0⟩:=I.loc
      obtain ⟨u,r,l⟩:=hl0 j y v eN eσ (.inr (.inl hcell))
      refine ⟨u,r,.inr ⟨.inl (ze8 I.ok.kind hcell hfree),?_⟩⟩
      obtain ⟨c',e'⟩:=zi5 (env:=X.env) scope.names [] y (.inl (PySem.mem_of_lookup hfree))
      have e2:=S.sub I (show (clOf scope X.env).lookup y=some c' from e')
      rcases l with ⟨z,_⟩|⟨_,c,hcc,hic⟩
      · rw [hcell] at z;cases z
      · rw [hcc] at e2
        have:c=c':=Option.some.inj e2
        subst this
        exact ⟨c,e',cellK c _ hic⟩
  · obtain ⟨v,h⟩:=I.cell y c (S.sub I e)
    exact ⟨v,cellK c v h⟩
  · have hp':p∈X.pn++pins:=by simpa [cxComp] using hp
    obtain ⟨e,n,ne,nf,d⟩:=I.pin p hp'
    refine ⟨hk _ _ e,n,Nat.ne_of_lt (Nat.lt_of_lt_of_le (Heap.lt_size e) hC),fun z=>?_,d⟩
    rcases List.mem_cons.mp (I.stkSub p.1 z) with q|q
    · exact ne q
    · exact nf q
  · show (none::pick σ js).length=(x::M).length
    simp [pick,hlen]
theorem zh7 {N:List Str} {pins':List (Addr×Obj)} {σ':L2.St} {H':Hp} {s':Shared} {h':Heap} (I:Inv X pins σ H s) (hf:∀b∈fp,FpOk X pins H b) (J:Inv (cxComp X scope C N fp pins s H) pins' σ' H' s')
    (hC:s.heap.objs.size≤C) (hs:Heap.SameBut C s'.heap h'):Inv X pins σ H' {s' with heap:=h'}:=show _ by
  have u0:Un (frs X.stack) fp H H' s.heap s'.heap:=J.base
  have nC:∀b o,s.heap.get? b=some o→b≠C:=fun b o e z=>absurd (Heap.lt_size e) (by rw [z];exact Nat.not_lt.mpr hC)
  have u:Un (frs X.stack) fp H H' s.heap h':=⟨fun b o e n hb hx=>(hs.2 b (nC b o e)).trans (u0.keep b o e n hb hx),fun b o e n hb hx=>let ⟨sl,q⟩:=u0.slot b o e n hb hx;⟨sl,(hs.2 b (nC b o e)).trans q⟩,u0.free,
    fun b o e hx=>let ⟨o',q⟩:=u0.there b o e hx;⟨o',(hs.2 b (nC b o e)).trans q⟩,u0.tups,u0.frzs,u0.tbls⟩
  have fC:H' C=none:=J.free
  have hok:HOk X.prog X.w H' h':=fun b ob e=>(J.hok b ob e).stay (fun c w hc q=>(hs.2 c (fun z=>by
    subst z
    rcases hc with z|z
    · rw [←z,fC] at e;cases e
    · rw [fC] at z;cases z)).trans q) (fun _ q=>q) fun _ _ q=>q
  exact I.call' (s':={s' with heap:=h'}) (ch:=fp) J.os u hok J.bare fun b hb=>by
    obtain ⟨f0,f1,f2,f3,f4,f5⟩:=hf b hb
    exact ⟨f3,f1,f4,f5⟩
end
def tComp (wi:TI) (te:TE) (js:List Nat):TE:=fun σ H Q=>wi σ H fun J H1=>∀D,H1 D=none→∃W:Nat→Nat→Hp→Prop,(∃m,W 0 m (upd H1 D (.lst [])))∧∀i m H2,W i m H2 →
  (J.stop i H2∧Q (.ref D) H2)∨(J.go i H2∧∃N:Hp→Prop,(∀H',N H'→∃m',m'<m∧W (i+1) m' H')∧∀v H',J.yld i H2 v H' →
    te (some v::pick σ js) H' fun y H3=>∃ys,H3 D=some (.lst ys)∧ys.length<sizeLine∧N (upd H3 D (.lst (ys++[y]))))
section
variable {X:Cx} {elt iter:Expr} {x:Str} {px pos:Pos} {scope:Scope} {M:List Str} {js:List Nat} {wi:TI} {te:TE}
theorem zi4 {prog:Program} {w:World} {A:Around} {R:Result→Shared→Prop} {s:Shared} {target:Expr} {it acc:Value} {env:Env} (I:Nat→Shared→Prop)
    (turn:∀n s,I n s→wpAny (model prog w) A (pyNext it) (fun r s₁=>match r with
      | none=>R (.ok .next) s₁
      | some v=>wpAny (model prog w) A (letOwnedTupleGo target it v) (fun _ s₂=>wpAny (model prog w) A (assign target env v) (fun _ s₃=>wpAny (model prog w) A (eval elt env) (fun y s₄ =>
          wpAny (model prog w) A (call (.builtin "list.append") [acc,y]) (fun _ s₅=>∃m,m<n∧I m s₅) (fun _ _=>False) s₄) (fun _ _=>False) s₃) (fun _ _=>False) s₂) (fun _ _=>False) s₁) (fun _ _=>False) s)
    (n:Nat) (h:I n s):codeAny (model prog w) A (.compLoop (.ListComp elt [⟨target,iter,[],0⟩] scope pos) 0 it acc env) R s:=show _ by
  refine codeAny_loop rfl I (fun n s hI=>?_) n h
  show wpAny _ _ ((compTurn (.ListComp elt [⟨target,iter,[],0⟩] scope pos) 0 it acc env).onRaise (fun x=>do noteFrame x env;theTreesLotGoes x)) _ _ s
  refine wpAny_noted ?_
  rw [compTurn_list1]
  refine wpAny_bind (wpAny_standAt (wpAny_bind (wpAny_mono (turn n s hI) (fun r s₁ h₁=>?_) fun _ _ z=>z.elim)))
  cases r with
  | none=>exact wpAny_pure h₁
  | some v =>
    exact wpAny_bind (wpAny_mono h₁ (fun _ s₂ h₂=>wpAny_bind (wpAny_mono h₂ (fun _ s₃ h₃=>wpAny_bind (wpAny_bind (wpAny_mono h₃ (fun y s₄ h₄=>wpAny_bind (wpAny_mono h₄
      (fun _ s₅ h₅=>wpAny_pure (wpAny_pure ⟨rfl,h₅⟩)) fun _ _ z=>z.elim)) fun _ _ z=>z.elim))) fun _ _ z=>z.elim)) fun _ _ z=>z.elim)
theorem zhd {pins:List (Addr×Obj)} {σ:L2.St} {H2:Hp} {s2:Shared} {it D:Addr} {fp:List Addr} {tn:Nat→Heap→Prop} {J:It} {W:Nat→Nat→Hp→Prop} {Qe:Hp→Prop} {R:Addr→Result→Shared→Prop} {E:Value→Shared→Prop} {m0:Nat}
    (S:CompScope X.env.scope x M scope) (hc:X.calm=true) (hjs:∀(k:Nat) (y:Str),M[k]?=some y→∃j:Nat,js[k]?=some j∧X.N[j]?=some y) (hlen:js.length=M.length)
    (he:∀(C:Addr) (fp:List Addr) (pins:List (Addr×Obj)) (s:Shared) (H:Hp),PE (cxComp X scope C (x::M) fp pins s H) elt te)
    (I:Inv X pins σ H2 s2) (T:Turn X.prog X.w X.K (.Name x px) J fp it tn) (st:tn 0 s2.heap) (hf:∀b∈fp,FpOk X pins H2 b) (w0:W 0 m0 H2)
    (turn:∀i m H3,W i m H3→(J.stop i H3∧Qe H3)∨(J.go i H3∧∃N:Hp→Prop,(∀H',N H'→∃m',m'<m∧W (i+1) m' H')∧∀v H',J.yld i H3 v H' →
      te (some v::pick σ js) H' fun y H4=>∃ys,H4 D=some (.lst ys)∧ys.length<sizeLine∧N (upd H4 D (.lst (ys++[y])))))
    (fin:∀(C:Addr) (s':Shared) (H':Hp) (pins':List (Addr×Obj)) (σ':L2.St),s2.heap.objs.size≤C→Inv (cxComp X scope C (x::M) fp pins s2 H2) pins' σ' H' s'→Qe H'→R C (.ok .next) s') :
    wpAny (model X.prog X.w) X.A (newFunctionEnv scope X.env.globals (clOf scope X.env) [] X.env.qual none .none (some X.env)) (fun cenv s4 =>
      codeAny (model X.prog X.w) X.A (.compStart (.ListComp elt [⟨.Name x px,iter,[],0⟩] scope pos) 0 (.ref it) (.ref D) {cenv with scope:=relabel scope X.env}) (R cenv.locals) s4) E s2:=show _ by
  refine wpAny_newFunctionEnv S.nocell (by intro y hy;simp at hy) (fun h1 hns hsb=>?_) S.kind
  have hfl:∀b∈fp,b<s2.heap.objs.size:=fun b hb=>by
    obtain ⟨o,e,_⟩:=T.obj 0 _ st b hb
    exact Heap.lt_size e
  have old:∀b o,s2.heap.get? b=some o→h1.get? b=some o:=fun b o e=>(hsb.2 b (Nat.ne_of_lt (Heap.lt_size e))).trans (Heap.get?_push_of_some _ e)
  have I4:Inv (cxComp X scope s2.heap.objs.size (x::M) fp pins s2 H2) [] (none::pick σ js) H2 {s2 with heap:=h1,toks:=s2.toks+([]:List (Str×Value)).length} :=
    zpf S hc I hjs hlen hf hfl (Nat.le_refl _) hns old rfl I.bare
  have st4:tn 0 h1:=T.keep _ _ _ st fun b hb o e=>old b o e
  have stat:∀{H':Hp},(∀b∈fp,H' b=none)→∀b∈fp,FpOk (cxComp X scope s2.heap.objs.size (x::M) fp pins s2 H2) [] H' b:=fun {H'} hn b hb=>by
    obtain ⟨f0,f1,f2,f3,f4,f5⟩:=hf b hb
    refine ⟨hn b hb,Nat.ne_of_lt (hfl b hb),I4.ok.exfs b hb,.inl hb,fun y c e=>f4 y c (S.sub I e),fun p hp=>f5 p ?_⟩
    simpa [cxComp] using hp
  have loop:∀s3:Shared,s3={s2 with heap:=h1,toks:=s2.toks+([]:List (Str×Value)).length} →
      codeAny (model X.prog X.w) X.A (.compLoop (.ListComp elt [⟨.Name x px,iter,[],0⟩] scope pos) 0 (.ref it) (.ref D) (compEnvC scope (clOf scope X.env) s2.heap.objs.size X.env)) (R s2.heap.objs.size) s3:=by
    rintro s3 rfl
    refine zi4 (fun n s'=>∃i x0 H',Inv (cxComp X scope s2.heap.objs.size (x::M) fp pins s2 H2) [] (x0::pick σ js) H' s'∧tn i s'.heap∧(∀b∈fp,H' b=none)∧W i n H') ?_ m0 ⟨0,none,H2,I4,st4,fun b hb=>(hf b hb).1,w0⟩
    rintro n s5 ⟨i,x0,H5,I5,st5,fr5,w5⟩
    rcases turn i n H5 w5 with ⟨stop,qe⟩|⟨go,N,hN,step⟩
    · refine thn (T.done (cxComp X scope s2.heap.objs.size (x::M) fp pins s2 H2) rfl rfl rfl rfl i [] s5 _ H5 (fun _ _=>False) I5 (stat fr5) st5 stop) fun r s6 ⟨hr,I6⟩=>?_
      subst hr
      exact fin _ s6 H5 [] _ (Nat.le_refl _) I6 qe
    · refine thn (T.item (cxComp X scope s2.heap.objs.size (x::M) fp pins s2 H2) rfl rfl rfl rfl i [] s5 _ H5 (fun _ _=>False) I5 (stat fr5) st5 go) fun r s6 ⟨u,hr,h6⟩=>?_
      subst hr
      refine thn h6 fun _ s7 ⟨v,H7,I7,r7,y7,st7,fr7⟩=>?_
      have I7':=I7.pinned (stat fr7) (T.obj _ _ st7)
      have hg:PG (cxComp X scope s2.heap.objs.size (x::M) fp pins s2 H2) (.Name x px) (gName 0):=zmp (i:=0) S.nd rfl (.inl (lookup_relabel_local S.own)) (.inr (lookup_relabel_local S.own))
      refine thn (hg _ s7 _ H7 v u (fun σ' H'=>σ'=some v::pick σ js∧H'=H7) I7' r7 ⟨rfl,rfl⟩) fun _ s8 ⟨σ8,H8,I8,e8,e8'⟩=>?_
      subst e8 e8'
      refine thn (he s2.heap.objs.size fp pins s2 H2 _ s8 _ H8 _ I8 (step v H8 y7)) fun yv s9 ⟨y,H9,I9,r9,ys,hD,hz,n9⟩=>?_
      refine thn (zao (X:=cxComp X scope s2.heap.objs.size (x::M) fp pins s2 H2) _ s9 _ H9 (.ref D) [y] (.ref D) [yv] (fun _ H'=>N H') I9 rfl (.cons r9 .nil) ⟨D,ys,y,rfl,rfl,hD,hz,n9⟩) fun _ s10 ⟨_,H10,I10,_,n10⟩=>?_
      obtain ⟨m',hm,w10⟩:=hN H10 n10
      refine ⟨m',hm,i+1,_,H10,I10.unpinned,T.keep _ _ _ st7 fun b hb o e=>(I10.pin (b,o) (List.mem_append_right _ (List.mem_append_right _ (zcn hb e)))).1,fun b hb=>?_,w10⟩
      obtain ⟨o,e,d⟩:=T.obj _ _ st7 b hb
      exact (I10.pin (b,o) (List.mem_append_right _ (List.mem_append_right _ (zcn hb e)))).2.1
  exact codeAny_compStart_list (loop _ rfl) (wpAny_mono (T.self X.A 0 _ _ _ st4 (loop _ rfl)) (fun _ _ z=>z) fun _ _ z=>z)
theorem zq3 (S:CompScope X.env.scope x M scope) (hc:X.calm=true) (hjs:∀(k:Nat) (y:Str),M[k]?=some y→∃j:Nat,js[k]?=some j∧X.N[j]?=some y) (hlen:js.length=M.length) (hi:PI X (.Name x px) iter wi)
    (he:∀(C:Addr) (fp:List Addr) (pins:List (Addr×Obj)) (s:Shared) (H:Hp),PE (cxComp X scope C (x::M) fp pins s H) elt te) (hs:∀v,foldedSetIterable iter X.env v=pure v:=by intro _;rfl) :
    PE X (.ListComp elt [⟨.Name x px,iter,[],0⟩] scope pos) (tComp wi te js):=show _ by
  intro pins s σ H Q I h
  rw [eval_ListComp]
  refine wpAny_comprehension_free (use:=none) rfl hs (zju (S.cells I)) S.kind S.names (thn (hi pins s σ H _ I h) fun xv s1 h1=>thn h1 fun itv s2 h2=>?_)
  obtain ⟨it,fp,tn,J,H1,rfl,I2,T,st2,f2,q⟩:=h2
  refine wpAny_newObj_type ?_ (by show 0≤sizeLine;decide)
  have hD:H1 s2.heap.objs.size=none:=I2.hok.fresh (Nat.le_refl _)
  obtain ⟨W,⟨m0,w0⟩,turn⟩:=q _ hD
  have I3:Inv X pins σ (upd H1 s2.heap.objs.size (.lst [])) {s2 with heap:=s2.heap.push {cls:=.type "list",data:=.seq ([]:List Value).toArray}}:=I2.lnew (t':=s2.toks) .nil (Nat.zero_le _)
  have fr3:∀b∈fp,FpOk X pins (upd H1 s2.heap.objs.size (.lst [])) b:=fun b hb=>by
    obtain ⟨f0,f⟩:=f2 b hb
    obtain ⟨o,e,_⟩:=T.obj 0 _ st2 b hb
    exact ⟨by rw [zar (Nat.ne_of_lt (Heap.lt_size e))];exact f0,f⟩
  refine zhd (Qe:=fun H'=>Q (.ref s2.heap.objs.size) H') (R:=fun C=>compPost (model X.prog X.w) X.A X.xe none (EP X pins σ Q) (.ref s2.heap.objs.size) C) S hc hjs hlen he I3 T (T.keep _ _ _ st2 fun b hb o e=>Heap.get?_push_of_some _ e) fr3 w0 turn ?_
  intro C s' H' pins' σ' hC Jv qe
  obtain ⟨m,hn,_⟩:=Jv.loc
  exact ⟨m,hn,fun h' hs'=>⟨.ref _,H',zh7 I3 fr3 Jv hC hs',rfl,qe⟩⟩
theorem zqu {i:Nat} {y:Str} {py spos:Pos} (S:CompScope X.env.scope x M scope) (hc:X.calm=true) (hjs:∀(k:Nat) (y:Str),M[k]?=some y→∃j:Nat,js[k]?=some j∧X.N[j]?=some y) (hlen:js.length=M.length) (hi:PI X (.Name x px) iter wi)
    (he:∀(C:Addr) (fp:List Addr) (pins:List (Addr×Obj)) (s:Shared) (H:Hp),PE (cxComp X scope C (x::M) fp pins s H) elt te)
    (hN:X.N.Nodup) (hy:X.N[i]?=some y) (hl:X.env.scope.names.lookup y=some .local)
    (hsw:swapsWith (.ListComp elt [⟨.Name x px,iter,[],0⟩] scope pos) (some (.Name y py)) spos.line X.env=pure true:=by rfl) (hs:∀v,foldedSetIterable iter X.env v=pure v:=by intro _;rfl) :
    PS X (.Assign [.Name y py] (.ListComp elt [⟨.Name x px,iter,[],0⟩] scope pos) spos) (tAsg (tComp wi te js) (gName i)):=show _ by
  intro pins s σ H D0 I h
  rw [exec_Assign_Name_used _ _ _ _ hsw]
  refine wpAny_bind (wpAny_standAt (wpAny_bind ?_))
  show wpAny _ X.A (do let _ ←comprehension (.ListComp elt [⟨.Name x px,iter,[],0⟩] scope pos) scope X.env _ (newList []) false (eval iter X.env) (some (assign (.Name y py) X.env))) _ _ s
  refine wpAny_bind (wpAny_mono (wpAny_comprehension_free (use:=some (assign (.Name y py) X.env)) (Q:=fun _ s'=>SP X pins D0 .next s') rfl hs (zju (S.cells I)) S.kind S.names
    (thn (hi pins s σ H _ I h) fun xv s1 h1=>thn h1 fun itv s2 h2=>?_)) (fun _ s' hq=>wpAny_pure (wpAny_pure hq)) fun _ _ e=>e)
  obtain ⟨it,fp,tn,J,H1,rfl,I2,T,st2,f2,q⟩:=h2
  refine wpAny_newObj_type ?_ (by show 0≤sizeLine;decide)
  have hD:H1 s2.heap.objs.size=none:=I2.hok.fresh (Nat.le_refl _)
  obtain ⟨W,⟨m0,w0⟩,turn⟩:=q _ hD
  have I3:Inv X pins σ (upd H1 s2.heap.objs.size (.lst [])) {s2 with heap:=s2.heap.push {cls:=.type "list",data:=.seq ([]:List Value).toArray}}:=I2.lnew (t':=s2.toks) .nil (Nat.zero_le _)
  have fr3:∀b∈fp,FpOk X pins (upd H1 s2.heap.objs.size (.lst [])) b:=fun b hb=>by
    obtain ⟨f0,f⟩:=f2 b hb
    obtain ⟨o,e,_⟩:=T.obj 0 _ st2 b hb
    exact ⟨by rw [zar (Nat.ne_of_lt (Heap.lt_size e))];exact f0,f⟩
  refine zhd (Qe:=fun H'=>gName i (.ref s2.heap.objs.size) σ H' D0.nx) (R:=fun C=>compPost (model X.prog X.w) X.A X.xe (some (assign (.Name y py) X.env)) (fun _ s'=>SP X pins D0 .next s') (.ref s2.heap.objs.size) C) S hc hjs hlen he I3 T
    (T.keep _ _ _ st2 fun b hb o e=>Heap.get?_push_of_some _ e) fr3 w0 turn ?_
  intro C s' H' pins' σ' hC Jv qe
  have Ie:Inv X pins σ H' s':=zh7 I3 fr3 Jv hC (Heap.SameBut.refl ..)
  obtain ⟨m,hn,_⟩:=Jv.loc
  have fC:=I3.fpOk (H':=H') hC Jv.free
  obtain ⟨c0,c1,c2,c3,c4,c5⟩:=fC
  show wpAny _ X.A (assign (.Name y py) X.env (.ref s2.heap.objs.size)) (fun _ s''=>∃m,s''.heap.Ns C m∧∀h',Heap.SameBut C s''.heap h'→SP X pins D0 .next {s'' with heap:=h'}) X.xe s'
  refine wpAny_assign_Name (zif Ie hN hy (.inl hl) (show RelV (.ref s2.heap.objs.size) (.ref s2.heap.objs.size) from rfl) (fun s'' I'' ⟨a,hsb,ha⟩=>?_) (.inr hl))
  have hCa:C≠a:=by
    rcases ha with rfl|ha
    · exact c1
    · exact Ne.symm (c4 _ _ ha)
  exact ⟨m,hn.sameBut hsb hCa,fun h' hs'=>⟨_,H',I''.turned (t':=s''.toks) (fun b o hb e=>(hs'.2 b hb).trans e) c0 c1 c3 c4 c5,qe⟩⟩
end
end EE
namespace EE
open PySem PySem.Spec PyProof.Rows L2
section
variable {X:Cx} {elt iter:Expr} {x:Str} {px pos:Pos} {scope osc:Scope} {M N:List Str} {js:List Nat} {wi:TI} {te:TE}
theorem zlh (hjs:M.map some=js.map fun j=>N[j]?):(∀(k:Nat) (y:Str),M[k]?=some y→∃j:Nat,js[k]?=some j∧N[j]?=some y)∧js.length=M.length:=show _ by
  constructor
  · intro k y h
    have e:(M.map some)[k]?=some (some y):=by rw [List.getElem?_map,h];rfl
    rw [hjs,List.getElem?_map] at e
    cases q:js[k]? with
    | none=>rw [q] at e;cases e
    | some j =>
      rw [q] at e
      exact ⟨j,rfl,by simpa using e⟩
  · have:=congrArg List.length hjs
    simpa using this.symm
theorem zo3 (S:CompScope osc x M scope) (hjs:M.map some=js.map fun j=>N[j]?) (hc:X.calm=true) (hi:PI X (.Name x px) iter wi)
    (he:∀(C:Addr) (fp:List Addr) (pins:List (Addr×Obj)) (s:Shared) (H:Hp),PE (cxComp X scope C (x::M) fp pins s H) elt te)
    (hosc:X.env.scope=osc:=by rfl) (hN:X.N=N:=by rfl) (hs:∀v,foldedSetIterable iter X.env v=pure v:=by intro _;rfl) :
    PE X (.ListComp elt [⟨.Name x px,iter,[],0⟩] scope pos) (tComp wi te js):=show _ by
  subst hosc hN
  exact zq3 S hc (zlh hjs).1 (zlh hjs).2 hi he hs
theorem zou {i:Nat} {y:Str} {py spos:Pos} (S:CompScope osc x M scope) (hjs:M.map some=js.map fun j=>N[j]?) (hc:X.calm=true) (hi:PI X (.Name x px) iter wi)
    (he:∀(C:Addr) (fp:List Addr) (pins:List (Addr×Obj)) (s:Shared) (H:Hp),PE (cxComp X scope C (x::M) fp pins s H) elt te)
    (hNd:X.N.Nodup) (hy:X.N[i]?=some y) (hl:X.env.scope.names.lookup y=some .local)
    (hosc:X.env.scope=osc:=by rfl) (hN:X.N=N:=by rfl)
    (hsw:swapsWith (.ListComp elt [⟨.Name x px,iter,[],0⟩] scope pos) (some (.Name y py)) spos.line X.env=pure true:=by rfl) (hs:∀v,foldedSetIterable iter X.env v=pure v:=by intro _;rfl) :
    PS X (.Assign [.Name y py] (.ListComp elt [⟨.Name x px,iter,[],0⟩] scope pos) spos) (tAsg (tComp wi te js) (gName i)):=show _ by
  subst hosc hN
  exact zqu S hc (zlh hjs).1 (zlh hjs).2 hi he hNd hy hl hsw hs
end
def ScR (K:PySem.W.Frag) (H:Hp) (a:Addr) (xs:List V):Prop:=(∃o,H a=some (.frz o (.lst xs))) ∨
    ∃(o:Obj) (its:Array Value) (n:Nat),K.lookup a=some o∧o.cls=.type "list"∧o.dict=none∧o.data=.seq its n∧its.size≤sizeLine∧Vals xs its.toList
theorem ScR.sq {K:PySem.W.Frag} {H:Hp} {a:Addr} {xs:List V} (h:ScR K H a xs):SqL K H a xs:=by
  rcases h with ⟨o,h⟩|h
  · exact .inl (.inr ⟨o,h⟩)
  · exact .inr h
theorem ScR.of {K:PySem.W.Frag} {H:Hp} {a:Addr} {xs:List V} (h:SqL K H a xs) (o:Only H):ScR K H a xs:=by
  rcases h with (h|h)|h
  · rcases o a with e|⟨ob,ys,e⟩
    · rw [e] at h;cases h
    · rw [e] at h;cases h
  · exact .inl h
  · exact .inr h
end EE
namespace EE
open PySem PySem.Spec PyProof.Rows L2
theorem zqk:Slot "reversed" "__init__" "object.__init__" :=
  .of (owner:="object") (n:="__init__") (by rw [typeLookup_type,builtinLookup_eq_fast];kernel_rfl) (by decide +kernel) (by decide +kernel) (by decide +kernel)
    (by first|exact .inl (by decide +kernel)|exact .inr (by decide +kernel)) (by rw [isSubtype_type];kernel_rfl)
theorem zmk:TypeCalled "reversed" "reversed.__new__" "object.__init__" :=
  ⟨by decide +kernel,F.create_reversed,⟨_,_,F.mro_reversed⟩,F.made_reversed,F.plain_reversed_new,F.sub_reversed_self,zqk⟩
theorem zqi:typeLookup (.type "tuple") "__reversed__"=pure none:=by rw [typeLookup_type,builtinLookup_eq_fast];kernel_rfl
theorem zk0:isSubtype (.type "tuple") (.type "dict")=pure false:=by rw [isSubtype_type];kernel_rfl
theorem zfx:Slot "reversed" "__next__" "reversed.__next__" :=
  .of (owner:="reversed") (n:="__next__") (by rw [typeLookup_type,builtinLookup_eq_fast];kernel_rfl) (by decide +kernel) (by decide +kernel) (by decide +kernel)
    (by first|exact .inl (by decide +kernel)|exact .inr (by decide +kernel)) (by rw [isSubtype_type];kernel_rfl)
theorem zeh:entryFor table "reversed.__next__"=some Builtin.«reversed.__next__»:=entryFor_of_tree (by kernel_rfl)
theorem ze7 (a:Value):argsOk "reversed.__next__" ⟨[a],[]⟩:=by unfold argsOk;kernel_rfl
theorem zmj:Slot "reversed" "__iter__" "reversed.__iter__" :=
  .of (owner:="reversed") (n:="__iter__") (by rw [typeLookup_type,builtinLookup_eq_fast];kernel_rfl) (by decide +kernel) (by decide +kernel) (by decide +kernel)
    (by first|exact .inl (by decide +kernel)|exact .inr (by decide +kernel)) (by rw [isSubtype_type];kernel_rfl)
theorem zhu:entryFor table "reversed.__iter__"=some Builtin.«dict_keyiterator.__iter__» :=
  entryFor_alias (id':="dict_keyiterator.__iter__") (by kernel_rfl) (by first|rfl|decide +kernel|(unfold String.splitOn;simp +decide [String.splitOnAux])) (by decide +kernel) (by kernel_rfl)
theorem zil (a:Value):argsOk "reversed.__iter__" ⟨[a],[]⟩:=by unfold argsOk;kernel_rfl
def IsRevT (h:Heap) (a l:Addr) (i:Int):Prop:=∃o,h.get? a=some o∧o.cls=.type "reversed"∧o.data=.fields #[.ref l,rawInt i]
theorem IsRevT.typeIs {s:Shared} {a l:Addr} {i:Int} (x:IsRevT s.heap a l i):s.TypeIs (.ref a) "reversed":=let ⟨o,ho,hc,_⟩:=x;⟨o,ho,hc⟩
section
variable {prog:Program} {w:World} {A:Around} {E:Value→Shared→Prop} {s:Shared}
theorem rv_new (l:Addr) (items:Array Value) (hz:(items.size:Int)<2^63):Meets (Builtin.«reversed.__new__» ⟨[.type "reversed",.ref l],[]⟩) (fun _ R s=>s.heap.IsTuple l items ∧
      ∀tk,R (.ok (.ret (.ref s.heap.objs.size))) {s with heap:=s.heap.push {cls:=.type "reversed",data:=.fields #[.ref l,rawInt ((items.size:Int)-1)]},toks:=tk}) :=
  .of_wp fun prog w A R s h=>by
    obtain ⟨ht,h⟩:=h
    have hT:s.TypeIs (.ref l) "tuple":=let ⟨o,ho,hc,_⟩:=ht;⟨o,ho,hc⟩
    unfold Builtin.«reversed.__new__»
    refine wpAny_bind (wpAny_of_eq (newClass_reversed _) ?_)
    try dsimp only
    refine wpAny_bind (wpAny_of_eq (a:=()) (by first|rfl|kernel_rfl) ?_)
    refine wpAny_bind (wpAny_of_eq (a:=()) (by first|rfl|kernel_rfl) ?_)
    try dsimp only
    refine wpAny_bind (wpAny_specialOf hT zqi ?_)
    try dsimp only
    refine wpAny_bind ?_
    refine wpAny_bind (m:=isInstance (.ref l) (.type "dict")) (wpAny_isInstance (T:="tuple") (b:=false) hT zk0 ?_)
    simp only [Bool.false_eq_true,if_false]
    refine wpAny_bind (wpAny_specialOf hT slot_tuple_getitem.lookup ?_)
    try dsimp only
    rw [if_pos (by decide)]
    refine wpAny_pure ?_
    simp only [Bool.not_true,Bool.false_eq_true,if_false]
    refine wpAny_bind (len_tuple ht hz ?_)
    refine wpAny_bind (m:=asInt? (.int (items.size:Int) s.toks)) (wpAny_of_eq (a:=some (items.size:Int)) rfl ?_)
    try dsimp only
    refine wpAny_bind (m:=Builtin.SmallTypes.newRecord (.type "reversed") [.ref l,rawInt ((items.size:Int)-1)]) ?_
    refine wpAny_newObj_type (data:=.fields #[.ref l,rawInt ((items.size:Int)-1)]) ?_
    exact wpAny_pure ⟨_,rfl,h _⟩
theorem zd8 {l:Addr} {items:Array Value} {Q:Value→Shared→Prop} (ht:s.heap.IsTuple l items) (hz:(items.size:Int)<2^63)
    (h:∀tk,Q (.ref s.heap.objs.size) {s with heap:=s.heap.push {cls:=.type "reversed",data:=.fields #[.ref l,rawInt ((items.size:Int)-1)]},toks:=tk}):wpAny (model prog w) A (call (.type "reversed") [.ref l]) Q E s:=show _ by
  refine callType_new zmk (by decide) (F.typeCall_reversed_1 _) (F.newCall_reversed_1 _) (fun obj=>F.args_object_init_2 obj _) F.entry_reversed_new (rv_new l items hz) ⟨ht,fun tk=>?_⟩
  exact ⟨⟨_,Heap.get?_push_size _ rfl,rfl⟩,h tk⟩
theorem zqj {it l:Addr} {i:Nat} {items:Array Value} {x:Value} {Q:Option Value→Shared→Prop} (hit:IsRevT s.heap it l (i:Int)) (hl:s.heap.IsTuple l items) (hx:items[i]?=some x) (hz:(items.size:Int)<2^63)
    (hQ:∀h' tk,IsRevT h' it l ((i:Int)-1)→Heap.SameBut it s.heap h'→Q (some x) {s with heap:=h',toks:=tk}):wpAny (model prog w) A (pyNext (.ref it)) Q E s:=show _ by
  obtain ⟨o,ho,hc,hd⟩:=id hit
  have hT:s.TypeIs (.ref l) "tuple":=let ⟨o,ho,hc,_⟩:=hl;⟨o,ho,hc⟩
  unfold pyNext
  refine wpAny_bind (wpAny_attempt (wpAny_callSpecial?_slot (name:=Str.ofString "__next__") hit.typeIs zfx
    (wpAny_call_entry zfx hit.typeIs zeh ?_ (ze7 _))))
  unfold Builtin.«reversed.__next__»
  refine wpAny_bind (wpAny_of_eq (a:=(Value.ref it,[])) rfl ?_)
  try dsimp only
  refine wpAny_bind (wpAny_field ho hd (x:=.ref l) rfl ?_)
  try dsimp only
  refine wpAny_bind (wpAny_field ho hd (x:=rawInt (i:Int)) rfl ?_)
  show wpAny _ _ (if (i:Int)<0 then _ else _) _ _ s
  rw [if_neg (by omega)]
  refine wpAny_bind (wpAny_specialOf hT slot_tuple_getitem.lookup ?_)
  show wpAny _ _ (if (some (Value.builtin "tuple.__getitem__")).isNone=true then _ else _) _ _ s
  rw [if_neg (by simp)]
  refine wpAny_bind (wpAny_mkInt ?_)
  have hi:i<items.size:=(Array.getElem?_eq_some_iff.mp hx).1
  refine wpAny_bind (wpAny_attempt (getItem_tuple (j:=i) hl (by omega) (by omega) (seqIndex_of (by omega) (by omega)) hx ?_))
  refine wpAny_bind (wpAny_field (s:={s with toks:=s.toks+1}) ho hd (x:=rawInt (i:Int)) rfl ?_)
  show wpAny _ _ (setField (.ref it) 1 (rawInt ((i:Int)-1)) >>= fun _=>ret x) _ _ _
  refine wpAny_bind (wpAny_setField ho hd (by simp) ?_)
  refine wpAny_pure ⟨x,rfl,wpAny_pure (hQ _ _ ?_ (Heap.SameBut.update ..))⟩
  exact ⟨_,Heap.get?_update_self _ ho (Obj.isFreed_of_fields (Obj.data_mapFields hd _)),(Obj.cls_mapFields ..).trans hc,by
    rw [Obj.data_mapFields hd];simp⟩
theorem rv_end {it l:Addr} {Q:Option Value→Shared→Prop} (hh:A.handled=none) (hit:IsRevT s.heap it l (-1))
    (hQ:∀h',Heap.ExtBut it s.heap h'→Q none {s with heap:=h'}):wpAny (model prog w) A (pyNext (.ref it)) Q E s:=show _ by
  obtain ⟨o,ho,hc,hd⟩:=id hit
  unfold pyNext
  refine wpAny_bind (wpAny_attempt (wpAny_callSpecial?_slot (name:=Str.ofString "__next__") hit.typeIs zfx
    (wpAny_call_entry zfx hit.typeIs zeh ?_ (ze7 _))))
  unfold Builtin.«reversed.__next__»
  refine wpAny_bind (wpAny_of_eq (a:=(Value.ref it,[])) rfl ?_)
  try dsimp only
  refine wpAny_bind (wpAny_field ho hd (x:=.ref l) rfl ?_)
  try dsimp only
  refine wpAny_bind (wpAny_field ho hd (x:=rawInt (-1)) rfl ?_)
  show wpAny _ _ (if (-1:Int)<0 then _ else _) _ _ s
  rw [if_pos (by decide)]
  refine wpAny_bind (wpAny_rule ?_)
  refine wpAny_bind ?_
  refine wpAny_bind (m:=setField (.ref it) 1 (rawInt (-1))) (wpAny_setField ho hd (by simp) ?_)
  have ho1:=Heap.get?_update_self (a:=it) (Obj.mapFields fun xs=>xs.setIfInBounds 1 (rawInt (-1))) ho (Obj.isFreed_of_fields (Obj.data_mapFields hd _))
  refine wpAny_setField ho1 (Obj.data_mapFields hd _) (by simp) ?_
  refine wpAny_bind (m:=Builtin.SmallTypes.stopIteration) ?_
  show wpAny _ _ (newExc (.type "StopIteration") [] >>= _) _ _ _
  refine wpAny_bind ?_
  simp only [newExc,newTuple]
  refine wpAny_bind (wpAny_newObj_type ?_ (by size_fits))
  refine wpAny_bind (m:=firstArgMember _ _) (wpAny_of_eq (a:=Value.none) (by first|rfl|(simp only [firstArgMember];rfl)) ?_)
  refine wpAny_newObj_type ?_ (by size_fits)
  simp only [raiseNew]
  refine wpAny_bind (wpAny_handled ?_)
  first|rw [show A.in1.handled=none from hh]|rw [hh]
  refine wpAny_bind (wpAny_pure (wpAny_throw ?_))
  refine wpAny_bind (wpAny_isInstance (T:="StopIteration") (b:=true) ⟨_,Heap.get?_push_size _ rfl,rfl⟩ isSubtype_stop ?_)
  refine wpAny_pure (hQ _ ?_)
  have e1:=(Heap.SameBut.update (h:=s.heap) (a:=it) (f:=Obj.mapFields fun xs=>xs.setIfInBounds 1 (rawInt (-1)))).extBut
  have e2:=(Heap.SameBut.update (h:=s.heap.update it (Obj.mapFields fun xs=>xs.setIfInBounds 1 (rawInt (-1)))) (a:=it) (f:=Obj.mapFields fun xs=>xs.setIfInBounds 0 Value.none)).extBut
  exact fun b ob hb e=>Heap.get?_push_of_some _ (Heap.get?_push_of_some _ (e2 b ob hb (e1 b ob hb e)))
theorem zmi {it l:Addr} {i:Int} {Q:Value→Shared→Prop} (hit:IsRevT s.heap it l i) (h:Q (.ref it) s):wpAny (model prog w) A (pyIter (.ref it)) Q E s:=show _ by
  refine wpAny_pyIter_slot hit.typeIs zmj (wpAny_call_entry zmj hit.typeIs zhu ?_ (zil _))
  show wpAny _ _ (ret (.ref it)) _ _ s
  exact wpAny_pure ⟨_,rfl,"reversed",_,hit.typeIs,zfx.lookup,h⟩
end
noncomputable def Itv (K:PySem.W.Frag) (a:Addr) (n:Nat):It :=
  ⟨fun i H=>i<n∧∃xs,SqT K H a xs∧xs.length=n,fun i H x H'=>H'=H∧∀xs,SqT K H a xs→xs[n-1-i]?=some x,fun i _=>n≤i⟩
theorem zoj {P:Program} {w:World} {K:PySem.W.Frag} {tg:Expr} (a it:Addr) (n:Nat):Turn P w K tg (Itv K a n) [it] it (fun i h=>i≤n∧IsRevT h it a ((n:Int)-1-(i:Int))) where
  mem:=show _ by simp
  obj:=fun i h st b hb=>by
    have e:b=it:=by simpa using hb
    subst e
    obtain ⟨_,o,e,c,d⟩:=st
    exact ⟨o,e,fun v z=>by rw [d] at z;cases z⟩
  keep:=fun i h h' st k=>let ⟨hi,o,ho,r⟩:=st;⟨hi,o,k it (by simp) o ho,r⟩
  item:=by
    intro X hP hw hK hc i pins s σ H E I hf st hg
    subst hP hw hK
    obtain ⟨hi,xs,hq,hn⟩:=hg
    obtain ⟨its,rv,p,hz⟩:=I.tuple hq
    have hl:=rv.length
    have hx:xs[n-1-i]?=some xs[n-1-i]:=List.getElem?_eq_getElem (by omega)
    obtain ⟨u,hu,ru⟩:=rv.get hx
    obtain ⟨f0,f1,f2,f3,f4,f5⟩:=hf it (by simp)
    have e1:(n:Int)-1-(i:Int)=((n-1-i:Nat):Int):=by omega
    have st2:=st.2
    rw [e1] at st2
    have hs63:=line63
    refine zqj st2 (show s.heap.IsTuple a its.toArray from p) (x:=u) (by simpa using hu) (by simp only [List.size_toArray];omega) fun h' tk st' sb=>?_
    have I1:Inv X pins σ H {s with heap:=h',toks:=tk}:=I.turned (fun b o hb e=>(sb.2 b hb).trans e) f0 f1 f3 f4 f5
    obtain ⟨o,e,c,d⟩:=id st'
    have e2:((n-1-i:Nat):Int)-1=(n:Int)-1-((i+1:Nat):Int):=by omega
    refine ⟨u,rfl,zni (s:={s with heap:=h',toks:=tk}) e c d (by decide) ⟨xs[n-1-i],H,I1,ru,⟨rfl,fun ys hy=>by rw [I.tuple_inj hy hq];exact hx⟩,⟨hi,?_⟩,fun b hb=>(hf b hb).1⟩⟩
    rw [←e2]
    exact st'
  done:=by
    intro X hP hw hK hc i pins s σ H E I hf st hg
    subst hP hw hK
    obtain ⟨f0,f1,f2,f3,f4,f5⟩:=hf it (by simp)
    have hg':n≤i:=hg
    have e1:(n:Int)-1-(i:Int)=-1:=by have:=st.1;omega
    have st2:=st.2
    rw [e1] at st2
    exact rv_end (I.ok.hd hc) st2 fun h' eb=>⟨rfl,I.turned (t':=s.toks) (fun b o hb e=>eb b o hb e) f0 f1 f3 f4 f5⟩
  self:=fun _ _ _ _ _ st h=>zmi st.2 h
def iRev (K:PySem.W.Frag) (te:TA):TI:=fun σ H R=>te σ H fun vs H1=>∃a xs,vs=[.ref a]∧SqT K H1 a xs∧R (Itv K a xs.length) H1
theorem zkk:bootBuiltins "reversed"=some (.type "reversed"):=by decide +kernel
theorem pi_rev {X:Cx} {tg a:Expr} {ta:TA} {p pos:Pos} (hg:Gl X "reversed") (hm:X.mg "reversed"=none) (ha:PA X [a] ta) (hs:starEach [a] X.env=[(false,eval a X.env)]:=by rfl):PI X tg (.Call (.Name "reversed" p) [a] [] pos) (iRev X.K ta):=show _ by
  intro pins s σ H R I h
  refine Call_ (zf5 I hg hm zkk (PyProof.Rows.callWith_type1 (thn (ha pos pins s σ H _ I h) fun us s1 ⟨vs,H1,I1,r1,q1⟩=>?_) hs rfl))
  obtain ⟨b,xs,e,hq,q⟩:=q1
  subst e
  cases r1 with
  | cons r rr =>
    cases rr
    cases r
    obtain ⟨its,rv,pt,hz⟩:=I1.tuple hq
    have hl:=rv.length
    have hs63:=line63
    refine zd8 (show s1.heap.IsTuple b its.toArray from pt) (by simp only [List.size_toArray];omega) fun tk=>?_
    have I2:Inv X pins σ H1 {s1 with heap:=s1.heap.push {cls:=.type "reversed",data:=.fields #[.ref b,rawInt ((its.toArray.size:Int)-1)]},toks:=tk}:=I1.kept fun c o e=>Heap.get?_push_of_some _ e
    have st:IsRevT (s1.heap.push {cls:=.type "reversed",data:=.fields #[.ref b,rawInt ((its.toArray.size:Int)-1)]}) s1.heap.objs.size b ((its.toArray.size:Int)-1):=⟨_,Heap.get?_push_size _ rfl,rfl,rfl⟩
    refine zmi st ?_
    have e1:(its.toArray.size:Int)-1=(xs.length:Int)-1-((0:Nat):Int):=by simp only [List.size_toArray];omega
    refine ⟨s1.heap.objs.size,[s1.heap.objs.size],_,_,H1,rfl,I2,zoj b _ xs.length,⟨Nat.zero_le _,by rw [←e1];exact st⟩,fun c hc=>?_,q⟩
    have e:c=s1.heap.objs.size:=by simpa using hc
    subst e
    exact I1.fpOk (Nat.le_refl _) (I1.hok.fresh (Nat.le_refl _))
end EE
namespace E3
open PySem PySem.Spec PyProof.Rows L2 EE
inductive D where
  | non|bl (b:Bool)|int (i:Int)|str (x:Str)|tup (xs:List D)|rol (xs:List D)|ref (a:Addr)|ty (n:String)
inductive O where
  | lst (xs:List D)|dic (kvs:List (Key×D))|exc (C:Addr)|ins (C:Addr) (fs:List (Str×D))
noncomputable abbrev Hp3:=Addr→Option O
noncomputable abbrev St3:=List (Option D)
noncomputable abbrev K3:=D→Hp3→Prop
noncomputable abbrev X3:=Addr→Addr→Hp3→Prop
noncomputable abbrev W3T:=St3→X3
noncomputable def up (S:Hp3) (a:Addr) (o:O):Hp3:=fun b=>if b=a then some o else S b
noncomputable def emp:Hp3:=fun _=>none
theorem zab {S:Hp3} {a:Addr} {o:O}:up S a o a=some o:=if_pos rfl
theorem za8 {S:Hp3} {a b:Addr} {o:O} (h:b≠a):up S a o b=S b:=if_neg h
theorem zfd {S:Hp3} {a:Addr} {o u:O}:up (up S a o) a u=up S a u:=by
  funext b;unfold up;split<;>rfl
theorem ne3 {S:Hp3} {a b:Addr} {o:O} (h:S a=some o) (h':S b=none):a≠b:=by
  intro e;subst e;rw [h] at h';cases h'
theorem zaf {S:Hp3} {a b:Addr} {o u:O} (h:S b=some u) (h':S a=none):up S a o b=some u:=by rw [za8 (ne3 h h')];exact h
structure Zt where
  p:Addr→Prop
  base:Hp
instance:CoeFun Zt (fun _=>Addr→Prop):=⟨Zt.p⟩
def ExcOf (a C:Addr):Heap→Prop:=fun h=>∃o,h.get? a=some o∧o.cls=.ref C∧∃xs n,o.data=.fields xs∧n=xs.size
mutual
inductive Rp (K:PySem.W.Frag) (H:Hp):D→V→Prop where
  | non:Rp K H .non .non
  | bl (b:Bool):Rp K H (.bl b) (.bl b)
  | int (i:Int):Rp K H (.int i) (.int i)
  | str (x:Str):Rp K H (.str x) (.str x)
  | ref (a:Addr):Rp K H (.ref a) (.ref a)
  | ty (n:String):Rp K H (.ty n) (.ty n)
  | tup {a:Addr} {xs:List V} {ds:List D}:SqT K H a xs→Rps K H ds xs→Rp K H (.tup ds) (.ref a)
  | rol {a:Addr} {xs:List V} {ds:List D}:ScR K H a xs→Rps K H ds xs→Rp K H (.rol ds) (.ref a)
inductive Rps (K:PySem.W.Frag) (H:Hp):List D→List V→Prop where
  | nil:Rps K H [] []
  | cons {d:D} {v:V} {ds:List D} {vs:List V}:Rp K H d v→Rps K H ds vs→Rps K H (d::ds) (v::vs)
end
structure Kp (Z:Zt) (H H':Hp):Prop where
  tup:∀b xs,H b=some (.tup xs)→H' b=some (.tup xs)
  frz:∀b o u,H b=some (.frz o u)→H' b=some (.frz o u)
  hid:∀b,Z b→H' b=H b
theorem Kp.refl (Z:Zt) (H:Hp):Kp Z H H:=⟨fun _ _ h=>h,fun _ _ _ h=>h,fun _ _=>rfl⟩
theorem Kp.trans {Z:Zt} {H H1 H2:Hp} (a:Kp Z H H1) (b:Kp Z H1 H2):Kp Z H H2 :=
  ⟨fun c xs h=>b.tup _ _ (a.tup _ _ h),fun c o u h=>b.frz _ _ _ (a.frz _ _ _ h),fun c z=>(b.hid c z).trans (a.hid c z)⟩
theorem Kp.sqT {K:PySem.W.Frag} {Z:Zt} {H H':Hp} {a:Addr} {xs:List V} (k:Kp Z H H') (h:SqT K H a xs):SqT K H' a xs:=by
  rcases h with (h|⟨o,h⟩)|h
  · exact .inl (.inl (k.tup _ _ h))
  · exact .inl (.inr ⟨o,k.frz _ _ _ h⟩)
  · exact .inr h
theorem Kp.scR {K:PySem.W.Frag} {Z:Zt} {H H':Hp} {a:Addr} {xs:List V} (k:Kp Z H H') (h:ScR K H a xs):ScR K H' a xs:=by
  rcases h with ⟨o,h⟩|h
  · exact .inl ⟨o,k.frz _ _ _ h⟩
  · exact .inr h
mutual
theorem Rp.mono {K:PySem.W.Frag} {Z:Zt} {H H':Hp} (k:Kp Z H H'):∀{d:D} {v:V},Rp K H d v→Rp K H' d v
  | _,_,.non=>.non
  | _,_,.bl b=>.bl b
  | _,_,.int i=>.int i
  | _,_,.str x=>.str x
  | _,_,.ref a=>.ref a
  | _,_,.ty n=>.ty n
  | _,_,.tup h r=>.tup (k.sqT h) (Rps.mono k r)
  | _,_,.rol h r=>.rol (k.scR h) (Rps.mono k r)
theorem Rps.mono {K:PySem.W.Frag} {Z:Zt} {H H':Hp} (k:Kp Z H H'):∀{ds:List D} {vs:List V},Rps K H ds vs→Rps K H' ds vs
  | _,_,.nil=>.nil
  | _,_,.cons h r=>.cons (Rp.mono k h) (Rps.mono k r)
end
section
variable {K:PySem.W.Frag} {H:Hp}
theorem Rps.len:∀{ds:List D} {vs:List V},Rps K H ds vs→ds.length=vs.length
  | _,_,.nil=>rfl
  | _,_,.cons _ r=>by simp [Rps.len r]
theorem Rps.at:∀{ds:List D} {vs:List V} {i:Nat} {d:D},Rps K H ds vs→ds[i]?=some d→∃v,vs[i]?=some v∧Rp K H d v
  | _,_,_,_,.nil,e=>by simp at e
  | _,_,0,_,.cons r _,e=>by simp at e;subst e;exact ⟨_,rfl,r⟩
  | _,_,i+1,d,.cons _ q,e=>by
    obtain ⟨v,h1,h2⟩:=Rps.at (i:=i) (d:=d) q (by simpa using e)
    exact ⟨v,by simpa using h1,h2⟩
theorem Rps.append:∀{ds es:List D} {vs ws:List V},Rps K H ds vs→Rps K H es ws→Rps K H (ds++es) (vs++ws)
  | _,_,_,_,.nil,s=>s
  | _,_,_,_,.cons r t,s=>.cons r (Rps.append t s)
theorem Rps.take:∀{ds:List D} {vs:List V} (n:Nat),Rps K H ds vs→Rps K H (ds.take n) (vs.take n)
  | _,_,0,_=>.nil
  | _,_,_+1,.nil=>.nil
  | _,_,n+1,.cons r t=>.cons r (Rps.take n t)
theorem Rps.drop:∀{ds:List D} {vs:List V} (n:Nat),Rps K H ds vs→Rps K H (ds.drop n) (vs.drop n)
  | _,_,0,r=>r
  | _,_,_+1,.nil=>.nil
  | _,_,n+1,.cons _ t=>Rps.drop n t
theorem Rps.set {d:D} {v:V} (r:Rp K H d v):∀{ds:List D} {vs:List V} (i:Nat),Rps K H ds vs→Rps K H (ds.set i d) (vs.set i v)
  | _,_,_,.nil=>.nil
  | _,_,0,.cons _ t=>.cons r t
  | _,_,i+1,.cons q t=>.cons q (Rps.set r i t)
theorem Rps.snoc_inv:∀{ds:List D} {d:D} {vs:List V},Rps K H (ds++[d]) vs→∃ws w,vs=ws++[w]∧Rps K H ds ws∧Rp K H d w
  | [],d,_,.cons r .nil=>⟨[],_,rfl,.nil,r⟩
  | _::ds,d,_,.cons r q=>by
    obtain ⟨ws,w,rfl,a,b⟩:=Rps.snoc_inv (ds:=ds) q
    exact ⟨_::ws,w,rfl,.cons r a,b⟩
theorem Rps.ints:∀(ns:List Int),Rps K H (ns.map D.int) (ns.map V.int)
  | []=>.nil
  | n::ns=>.cons (.int n) (Rps.ints ns)
theorem Rps.strs:∀{xs:List Str} {vs:List V},Rps K H (xs.map D.str) vs→vs=xs.map V.str
  | [],_,.nil=>rfl
  | _::xs,_,.cons (.str _) q=>by rw [Rps.strs q];rfl
end
def OR (K:PySem.W.Frag) (H:Hp) (a:Addr):O→Prop
  | .lst ds=>∃vs,H a=some (.lst vs)∧Rps K H ds vs
  | .dic kvs=>∃ws,H a=some (.dK ws)∧Paired (fun (p:Key×D) (q:Key×V)=>p.1=q.1∧Rp K H p.2 q.2) kvs ws
  | .exc C=>H a=some (.ext (ExcOf a C))
  | .ins C fs=>∃dx ws,H a=some (.ins C dx ws)∧Paired (fun (p:Str×D) (q:Str×V)=>p.1=q.1∧Rp K H p.2 q.2) fs ws
structure Rl (K:PySem.W.Frag) (Z:Zt) (S:Hp3) (H:Hp):Prop where
  obj:∀a o,S a=some o→OR K H a o
  hid:∀a,Z a→S a=none∧H a≠none
  old:Kp Z Z.base H
theorem OR.there {K:PySem.W.Frag} {H:Hp} {a:Addr} {o:O} (h:OR K H a o):H a≠none:=by
  cases o with
  | lst ds=>obtain ⟨vs,e,_⟩:=h;rw [e];simp
  | dic ds=>obtain ⟨vs,e,_⟩:=h;rw [e];simp
  | exc C=>have e:H a=_:=h;rw [e];simp
  | ins C fs=>obtain ⟨dx,vs,e,_⟩:=h;rw [e];simp
theorem OR.nofrz {K:PySem.W.Frag} {H:Hp} {a:Addr} {o:O} (h:OR K H a o):(∀xs,H a≠some (.tup xs))∧∀q u,H a≠some (.frz q u):=show _ by
  cases o with
  | lst ds=>obtain ⟨vs,e,_⟩:=h;rw [e];exact ⟨fun _ z=>(nomatch z),fun _ _ z=>(nomatch z)⟩
  | dic ds=>obtain ⟨vs,e,_⟩:=h;rw [e];exact ⟨fun _ z=>(nomatch z),fun _ _ z=>(nomatch z)⟩
  | exc C=>have e:H a=_:=h;rw [e];exact ⟨fun _ z=>(nomatch z),fun _ _ z=>(nomatch z)⟩
  | ins C fs=>obtain ⟨dx,vs,e,_⟩:=h;rw [e];exact ⟨fun _ z=>(nomatch z),fun _ _ z=>(nomatch z)⟩
theorem Rl.fresh {K:PySem.W.Frag} {Z:Zt} {S:Hp3} {H:Hp} {p:Addr} (r:Rl K Z S H) (h:H p=none):S p=none∧¬Z p:=by
  constructor
  · cases e:S p with
    | none=>rfl
    | some o=>exact absurd h (r.obj p o e).there
  · exact fun z=>(r.hid p z).2 h
theorem Kp.new {Z:Zt} {H:Hp} {p:Addr} {o:HO} (h:H p=none) (hz:¬Z p):Kp Z H (upd H p o) :=
  ⟨fun b xs e=>by rw [zar (zcb e h)];exact e,fun b q u e=>by rw [zar (zcb e h)];exact e,fun b z=>zar fun e=>hz (e▸z)⟩
theorem Kp.at {K:PySem.W.Frag} {Z:Zt} {S:Hp3} {H:Hp} {p:Addr} {o:O} {q:HO} (r:Rl K Z S H) (h:S p=some o):Kp Z H (upd H p q):=show _ by
  have n:=(r.obj p o h).nofrz
  refine ⟨fun b xs e=>?_,fun b q u e=>?_,fun b z=>?_⟩
  · rw [zar];exact e
    rintro rfl;exact n.1 _ e
  · rw [zar];exact e
    rintro rfl;exact n.2 _ _ e
  · rw [zar]
    rintro rfl
    rw [(r.hid _ z).1] at h
    cases h
theorem OR.keep {K:PySem.W.Frag} {Z:Zt} {H H':Hp} {a:Addr} {o:O} (h:OR K H a o) (k:Kp Z H H') (e:H' a=H a):OR K H' a o:=show _ by
  cases o with
  | lst ds=>obtain ⟨vs,h1,h2⟩:=h;exact ⟨vs,e.trans h1,h2.mono k⟩
  | dic ds=>obtain ⟨vs,h1,h2⟩:=h;exact ⟨vs,e.trans h1,Paired.mapP h2 fun p q z=>⟨z.1,z.2.mono k⟩⟩
  | exc C=>exact e.trans h
  | ins C fs=>obtain ⟨dx,vs,h1,h2⟩:=h;exact ⟨dx,vs,e.trans h1,Paired.mapP h2 fun p q z=>⟨z.1,z.2.mono k⟩⟩
theorem Rl.put {K:PySem.W.Frag} {Z:Zt} {S:Hp3} {H:Hp} {p:Addr} {o:O} {q:HO} (r:Rl K Z S H) (k:Kp Z H (upd H p q)) (hz:¬Z p) (h:OR K (upd H p q) p o):Rl K Z (up S p o) (upd H p q):=show _ by
  refine ⟨fun b u e=>?_,fun b z=>?_,r.old.trans k⟩
  · by_cases hb:b=p
    · subst hb
      rw [zab] at e
      cases e
      exact h
    · rw [za8 hb] at e
      exact (r.obj b u e).keep k (zar hb)
  · have hb:b≠p:=fun e=>hz (e▸z)
    rw [za8 hb,zar hb]
    exact r.hid b z
theorem Rl.notZ {K:PySem.W.Frag} {Z:Zt} {S:Hp3} {H:Hp} {p:Addr} {o:O} (r:Rl K Z S H) (h:S p=some o):¬Z p:=fun z=>by
  rw [(r.hid _ z).1] at h
  cases h
theorem Rl.lay {K:PySem.W.Frag} {Z:Zt} {S:Hp3} {H:Hp} {p:Addr} {q:HO} (r:Rl K Z S H) (h:H p=none):Rl K Z S (upd H p q):=show _ by
  obtain ⟨hs,hz⟩:=r.fresh h
  refine ⟨fun b u e=>(r.obj b u e).keep (Kp.new h hz) (zar (ne3 e hs)),fun b z=>?_,r.old.trans (Kp.new h hz)⟩
  have hb:b≠p:=fun e=>hz (e▸z)
  rw [zar hb]
  exact r.hid b z
def RO (K:PySem.W.Frag) (H:Hp) (o:Option D) (p:Option V):Prop:=∀d,o=some d→∃v,p=some v∧Rp K H d v
abbrev SR (K:PySem.W.Frag) (H:Hp):St3→L2.St→Prop:=Paired (RO K H)
theorem RO.mono {K:PySem.W.Frag} {Z:Zt} {H H':Hp} (k:Kp Z H H') {o:Option D} {p:Option V} (h:RO K H o p):RO K H' o p:=fun d e=>by
  obtain ⟨v,h1,h2⟩:=h d e
  exact ⟨v,h1,h2.mono k⟩
theorem SR.mono {K:PySem.W.Frag} {Z:Zt} {H H':Hp} (k:Kp Z H H') {σ:St3} {τ:L2.St} (h:SR K H σ τ):SR K H' σ τ:=Paired.mapP h fun _ _ q=>q.mono k
theorem SR.at {K:PySem.W.Frag} {H:Hp}:∀{σ:St3} {τ:L2.St} {i:Nat} {d:D},SR K H σ τ→σ[i]?=some (some d)→∃v,τ[i]?=some (some v)∧Rp K H d v
  | _,_,_,_,.nil,e=>by simp at e
  | _,_,0,_,.cons r _,e=>by
    simp at e
    obtain ⟨v,h1,h2⟩:=r _ e
    exact ⟨v,by simp [h1],h2⟩
  | _,_,i+1,d,.cons _ q,e=>by
    obtain ⟨v,h1,h2⟩:=SR.at (i:=i) (d:=d) q (by simpa using e)
    exact ⟨v,by simpa using h1,h2⟩
theorem SR.set {K:PySem.W.Frag} {H:Hp} {d:D} {v:V} (r:Rp K H d v):∀{σ:St3} {τ:L2.St} (i:Nat),SR K H σ τ→SR K H (σ.set i (some d)) (τ.set i (some v))
  | _,_,_,.nil=>.nil
  | _,_,0,.cons _ t=>.cons (fun e he=>by cases he;exact ⟨v,rfl,r⟩) t
  | _,_,i+1,.cons q t=>.cons q (SR.set r i t)
theorem SR.ofRps {K:PySem.W.Frag} {H:Hp}:∀{ds:List D} {vs:List V},Rps K H ds vs→SR K H (ds.map some) (vs.map some)
  | _,_,.nil=>.nil
  | _,_,.cons r t=>.cons (fun e he=>by cases he;exact ⟨_,rfl,r⟩) (SR.ofRps t)
theorem SR.nones {K:PySem.W.Frag} {H:Hp}:∀n:Nat,SR K H (List.replicate n none) (List.replicate n none)
  | 0=>.nil
  | n+1=>.cons (fun d e=>by cases e) (SR.nones n)
theorem zbv {α β:Type} {F:α→β→Prop}:∀{a b:List α} {c d:List β},Paired F a c→Paired F b d→Paired F (a++b) (c++d)
  | _,_,_,_,.nil,s=>s
  | _,_,_,_,.cons r t,s=>.cons r (zbv t s)
noncomputable abbrev TE3:=St3→Hp3→K3→Prop
noncomputable abbrev TT3:=St3→Hp3→(Bool→Hp3→Prop)→Prop
noncomputable abbrev TA3:=St3→Hp3→(List D→Hp3→Prop)→Prop
structure Ends3 where
  nx:St3→Hp3→Prop
  rt:K3
  bk:St3→Hp3→Prop:=fun _ _=>False
  ct:St3→Hp3→Prop:=fun _ _=>False
noncomputable abbrev TS3:=Ends3→St3→Hp3→Prop
section
variable (K:PySem.W.Frag) (Z:Zt)
def CK (H:Hp) (Q3:K3) (Q:VK):Prop:=∀d S v H',Kp Z H H'→Rp K H' d v→Rl K Z S H'→Q3 d S→Q v H'
def CT (H:Hp) (Q3:Bool→Hp3→Prop) (Q:Bool→Hp→Prop):Prop:=∀b S H',Kp Z H H'→Rl K Z S H'→Q3 b S→Q b H'
def CA (H:Hp) (Q3:List D→Hp3→Prop) (Q:List V→Hp→Prop):Prop:=∀ds S vs H',Kp Z H H'→Rps K H' ds vs→Rl K Z S H'→Q3 ds S→Q vs H'
def CS (H:Hp) (Q3:St3→Hp3→Prop) (Q:L2.St→Hp→Prop):Prop:=∀σ S τ H',Kp Z H H'→SR K H' σ τ→Rl K Z S H'→Q3 σ S→Q τ H'
structure CD (H:Hp) (D3:Ends3) (D:Ends):Prop where
  nx:CS K Z H D3.nx D.nx
  bk:CS K Z H D3.bk D.bk
  ct:CS K Z H D3.ct D.ct
  rt:CK K Z H D3.rt D.rt
inductive lE (t:TE3) (τ:L2.St) (H:Hp) (Q:VK):Prop where
  | mk (σ:St3) (S:Hp3) (Q3:K3) (hs:SR K H σ τ) (hr:Rl K Z S H) (ht:t σ S Q3) (hc:CK K Z H Q3 Q)
inductive lT (t:TT3) (τ:L2.St) (H:Hp) (Q:Bool→Hp→Prop):Prop where
  | mk (σ:St3) (S:Hp3) (Q3:Bool→Hp3→Prop) (hs:SR K H σ τ) (hr:Rl K Z S H) (ht:t σ S Q3) (hc:CT K Z H Q3 Q)
inductive lA (t:TA3) (τ:L2.St) (H:Hp) (Q:List V→Hp→Prop):Prop where
  | mk (σ:St3) (S:Hp3) (Q3:List D→Hp3→Prop) (hs:SR K H σ τ) (hr:Rl K Z S H) (ht:t σ S Q3) (hc:CA K Z H Q3 Q)
inductive lS (t:TS3) (D:Ends) (τ:L2.St) (H:Hp):Prop where
  | mk (D3:Ends3) (σ:St3) (S:Hp3) (hs:SR K H σ τ) (hr:Rl K Z S H) (ht:t D3 σ S) (hc:CD K Z H D3 D)
end
variable {K:PySem.W.Frag} {Z:Zt}
theorem CK.mono {H H':Hp} {Q3:K3} {Q:VK} (k:Kp Z H H') (h:CK K Z H Q3 Q):CK K Z H' Q3 Q:=fun d S v H2 k2=>h d S v H2 (k.trans k2)
theorem CT.mono {H H':Hp} {Q3:Bool→Hp3→Prop} {Q:Bool→Hp→Prop} (k:Kp Z H H') (h:CT K Z H Q3 Q):CT K Z H' Q3 Q:=fun d S H2 k2=>h d S H2 (k.trans k2)
theorem CS.mono {H H':Hp} {Q3:St3→Hp3→Prop} {Q:L2.St→Hp→Prop} (k:Kp Z H H') (h:CS K Z H Q3 Q):CS K Z H' Q3 Q:=fun d S v H2 k2=>h d S v H2 (k.trans k2)
theorem CD.mono {H H':Hp} {D3:Ends3} {D:Ends} (k:Kp Z H H') (h:CD K Z H D3 D):CD K Z H' D3 D:=⟨h.nx.mono k,h.bk.mono k,h.ct.mono k,h.rt.mono k⟩
structure FlyT (h:Heap) (a C T:Addr):Prop where
  ne:T≠a
  exc:∃oe vs a0,h.get? a=some oe∧oe.cls=.ref C∧oe.data=.fields vs∧vs[0]?=some a0∧vs[1]?=some (.ref T)
  tb:∃oT ts,h.get? T=some oT∧oT.data=.fields ts∧ts[3]?=some .none
noncomputable def CX1 (P:Program) (w:World):CXT:=fun outer H s E e s'=>∃(a C T:Addr) (H':Hp),e=.ref a∧s'.os=s.os∧AllBare s'.gens∧Un (frs outer) [] H H' s.heap s'.heap∧HOk P w H' s'.heap ∧
  FlyT s'.heap a C T∧H' a=none∧H' T=none∧s.heap.get? a=none∧s.heap.get? T=none∧E (.ref C) (some a) H'
def PassesAt (CX:CXT) (X:Cx) (E:XK) (τ:L2.St):Prop:=∀(pins:List (Addr×Obj)) (H:Hp) (s:Shared) (e:Value) (s':Shared),Inv X pins τ H s→CX X.stack H s E e s'→X.xe e s'
def RaisesAt (X:Cx) (E:XK) (τ:L2.St):Prop:=∀(pins:List (Addr×Obj)) (H:Hp) (s s3:Shared) (e C:Addr) (args:List Value),Inv X pins τ H s→Heap.MadeExcOf s.heap s3.heap e (.ref C) args→s3.os=s.os→s3.gens=s.gens→E (.ref C) (some e) H→X.xe (.ref e) s3
theorem pass1 {P:Program} {w:World} {X:Cx} {τ:L2.St}:PassesAt (CX1 P w) X E0 τ:=fun _ _ _ _ _ _ h=>by
  obtain ⟨a,C,T,H',_,_,_,_,_,_,_,_,_,_,z⟩:=h
  exact z.elim
abbrev NoX:W3T:=fun _ _ _ _=>False
def CE3 (K:PySem.W.Frag) (Z:Zt) (H:Hp) (W3:X3) (E:XK):Prop:=∀C a S H',Kp Z H H'→Rl K Z S H'→H' a=none→W3 C a S→E (.ref C) (some a) H'
structure ZX (X:Cx) (W3:W3T) where
  z:Zt
  E:L2.St→XK
  pass:∀τ,PassesAt (CX1 X.prog X.w) X (E τ) τ
  rz:∀τ,RaisesAt X (E τ) τ
  ce:∀σ τ C a S H,SR X.K H σ τ→Rl X.K z S H→H a=none→W3 σ C a S→E τ (.ref C) (some a) H
noncomputable def ZX.no (X:Cx) (z:Zt):ZX X NoX:=⟨z,fun _=>E0,fun _=>pass1,fun _ _ _ _ _ _ _ _ _ _ _ _ z=>z.elim,fun _ _ _ _ _ _ _ _ _ z=>z.elim⟩
def PE3 (X:Cx) (W3:W3T) (e:Expr) (t:TE3):Prop:=∀Z:ZX X W3,PE X e (lE X.K Z.z t)
def PT3 (X:Cx) (W3:W3T) (e:Expr) (t:TT3):Prop:=∀Z:ZX X W3,PT X e (lT X.K Z.z t)
def PW3 (X:Cx) (W3:W3T) (e:Expr) (t:TT3):Prop:=∀Z:ZX X W3,PW X e (lT X.K Z.z t)
def PA3 (X:Cx) (W3:W3T) (es:List Expr) (t:TA3):Prop:=∀Z:ZX X W3,PA X es (lA X.K Z.z t)
def PS3 (X:Cx) (W3:W3T) (st:Stmt) (t:TS3):Prop:=∀Z:ZX X W3,PS X st (lS X.K Z.z t)
def PSs3 (X:Cx) (W3:W3T) (st:List Stmt) (t:TS3):Prop:=∀Z:ZX X W3,PSs X st (lS X.K Z.z t)
theorem PE.imp {X:Cx} {e:Expr} {t u:TE} (h:PE X e t) (f:∀σ H Q,u σ H Q→t σ H Q):PE X e u:=fun pins s σ H Q I q=>h pins s σ H Q I (f _ _ _ q)
theorem PT.imp {X:Cx} {e:Expr} {t u:TT} (h:PT X e t) (f:∀σ H Q,u σ H Q→t σ H Q):PT X e u:=fun pins s σ H Q I q=>h pins s σ H Q I (f _ _ _ q)
theorem PW.imp {X:Cx} {e:Expr} {t u:TT} (h:PW X e t) (f:∀σ H Q,u σ H Q→t σ H Q):PW X e u:=fun w pins s σ H Q I q=>h w pins s σ H Q I (f _ _ _ q)
theorem PA.imp {X:Cx} {e:List Expr} {t u:TA} (h:PA X e t) (f:∀σ H Q,u σ H Q→t σ H Q):PA X e u:=fun p pins s σ H Q I q=>h p pins s σ H Q I (f _ _ _ q)
theorem PS.imp {X:Cx} {st:Stmt} {t u:TS} (h:PS X st t) (f:∀D σ H,u D σ H→t D σ H):PS X st u:=fun pins s σ H D I q=>h pins s σ H D I (f _ _ _ q)
theorem PSs.imp {X:Cx} {st:List Stmt} {t u:TS} (h:PSs X st t) (f:∀D σ H,u D σ H→t D σ H):PSs X st u:=fun pins s σ H D I q=>h pins s σ H D I (f _ _ _ q)
end E3
namespace E3
open PySem PySem.Spec PyProof.Rows L2 EE
section
variable {X:Cx} {W3:W3T} {a b c e:Expr} {es:List Expr} {pos:Pos}
def v3 (i:Nat):TE3:=fun σ S Q=>∃d,σ[i]?=some (some d)∧Q d S
def c3 (d:D):TE3:=fun _ S Q=>Q d S
theorem e_var {i:Nat} (h:PE X e (tVar i)):PE3 X W3 e (v3 i):=fun Z=>PE.imp h fun τ H Q z_1=>by
  obtain ⟨σ,S,Q3,hs,hr,⟨d,e,q⟩,c⟩:=z_1
  obtain ⟨v,h1,h2⟩:=hs.at e
  exact ⟨v,h1,c d S v H (Kp.refl _ _) h2 hr q⟩
theorem e_v (i:Nat) {x:Str} {pos:Pos} (hN:X.N[i]?=some x:=by rfl) (hv:Vis X.env.scope x:=by first|exact Or.inl rfl|exact Or.inr (Or.inl rfl)|exact Or.inr (Or.inr rfl)) (hd:(x==("__debug__":Str))=false:=by decide)
    (hcd:(x==("__classdict__":Str))=false:=by decide):PE3 X W3 (.Name x pos) (v3 i):=e_var (pe_var hN hv hd hcd)
theorem zll {v:V} {d:D} (h:PE X e (tC v)) (r:∀H,Rp X.K H d v):PE3 X W3 e (c3 d):=fun Z=>PE.imp h fun τ H Q z_2=>by obtain ⟨σ,S,Q3,hs,hr,q,c⟩:=z_2;exact c d S v H (Kp.refl _ _) (r H) hr q
theorem zad {i j}:PE3 X W3 (.Constant (.int i) j pos) (c3 (.int i)):=zll pe_int fun _=>.int _
theorem e_bl {b j}:PE3 X W3 (.Constant (.bool b) j pos) (c3 (.bl b)):=zll pe_bl fun _=>.bl _
theorem zcv {j}:PE3 X W3 (.Constant .none j pos) (c3 .non):=zll pe_non fun _=>.non
theorem zax {x j}:PE3 X W3 (.Constant (.str x) j pos) (c3 (.str x)):=zll pe_str fun _=>.str _
theorem ziy {x:Str} {n:String} (hg:Gl X x) (hm:X.mg x=none) (hv:bootBuiltins x=some (.type n)) (hn:x≠"__name__":=by decide) (hd:(x==("__debug__":Str))=false:=by decide):PE3 X W3 (.Name x pos) (c3 (.ty n)) :=
  zll (zq5 (v:=.ty n) hg hm hv rfl hn hd) fun _=>.ty _
theorem zrj {x:Str} {i:Int} (h:∃t,X.mg x=some (.int i t)) (hg:Gl X x) (hd:(x==("__debug__":Str))=false:=by decide):PE3 X W3 (.Name x pos) (c3 (.int i)) :=
  zll (zo1 h hg hd) fun _=>.int _
noncomputable abbrev R3:=D→D→Hp3→K3→Prop
def Dn2 (K:PySem.W.Frag) (r3:R3) (r:R2):Prop:=∀(Z:Zt) x y S Q3 v w H Q,Rp K H x v→Rp K H y w→Rl K Z S H→r3 x y S Q3→CK K Z H Q3 Q→r v w H Q
def o3 (r:R3) (ta tb:TE3):TE3:=fun σ S Q=>ta σ S fun x S1=>tb σ S1 fun y S2=>r x y S2 Q
def test3 (t:TE3):TT3:=fun σ S Q=>t σ S fun x S'=>∃k,x=.bl k∧Q k S'
variable {ta tb tc:TE3} {tA tB:TT3} {t:TA3}
theorem zhw {K:PySem.W.Frag} {Z:Zt} {r3:R3} {r:R2} (hd:Dn2 K r3 r) {τ:L2.St} {H:Hp} {Q:VK} (h:lE K Z (o3 r3 ta tb) τ H Q):tOp r (lE K Z ta) (lE K Z tb) τ H Q:=show _ by
  obtain ⟨σ,S,Q3,hs,hr,ht,hc⟩:=h
  refine ⟨σ,S,_,hs,hr,ht,fun x S1 v H1 k1 r1 l1 q1=>?_⟩
  refine ⟨σ,S1,_,hs.mono k1,l1,q1,fun y S2 w H2 k2 r2 l2 q2=>?_⟩
  exact hd Z x y S2 Q3 v w H2 Q (r1.mono k2) r2 l2 q2 (hc.mono (k1.trans k2))
theorem e_op {op:Operator} {r3:R3} {r:R2} (ho:OpR X (binaryOp op) r) (hd:Dn2 X.K r3 r) (ha:PE3 X W3 a ta) (hb:PE3 X W3 b tb):PE3 X W3 (.BinOp a op b pos) (o3 r3 ta tb) :=
  fun Z=>PE.imp (pe_op ho (ha Z) (hb Z)) fun _ _ _ h=>zhw hd h
theorem zrm {op:CmpOp} {r3:R3} {r:R2} (ho:OpR X (compareOp op) r) (hd:Dn2 X.K r3 r) (ha:PE3 X W3 a ta) (hb:PE3 X W3 b tb) (hm:behindInMarks op b=false):PE3 X W3 (.Compare a [op] [b] pos) (o3 r3 ta tb) :=
  fun Z=>PE.imp (zq4 ho (ha Z) (hb Z) hm) fun _ _ _ h=>zhw hd h
theorem zie {K:PySem.W.Frag} {Z:Zt} {t3:TE3} {t2:TE} (hd:∀τ H Q,lE K Z t3 τ H Q→t2 τ H Q) {τ:L2.St} {H:Hp} {Q:Bool→Hp→Prop} (h:lT K Z (test3 t3) τ H Q):tTest t2 τ H Q:=show _ by
  obtain ⟨σ,S,Q3,hs,hr,ht,hc⟩:=h
  refine hd τ H _ ⟨σ,S,_,hs,hr,ht,fun x S1 v H1 k1 r1 l1 q1=>?_⟩
  obtain ⟨k,rfl,q⟩:=q1
  cases r1
  exact ⟨k,rfl,hc k S1 H1 k1 l1 q⟩
theorem zap {op:CmpOp} {r3:R3} {r:R2} (ho:OpR X (compareOp op) r) (hd:Dn2 X.K r3 r) (ha:PE3 X W3 a ta) (hb:PE3 X W3 b tb) (hm:behindInMarks op b=false):PT3 X W3 (.Compare a [op] [b] pos) (test3 (o3 r3 ta tb)) :=
  fun Z=>PT.imp (zqp ho (ha Z) (hb Z) hm) fun _ _ _ h=>zie (fun _ _ _ h=>zhw hd h) h
theorem e_ix {r3:R3} {r:R2} (ho:IxR X r) (hd:Dn2 X.K r3 r) (ha:PE3 X W3 a ta) (hb:PE3 X W3 b tb) (hs:PlainIx b):PE3 X W3 (.Subscript a b pos) (o3 r3 ta tb) :=
  fun Z=>PE.imp (pe_ix ho (ha Z) (hb Z) hs) fun _ _ _ h=>zhw hd h
theorem zkp (h:PE3 X W3 e ta) (he:∀whole,isTrue e X.env whole=(do let v ←whole;standAt e.pos;holding [v] (truthy v)):=by intro _;rfl):PT3 X W3 e (test3 ta) :=
  fun Z=>PT.imp (pt_val (h Z) he) fun _ _ _ q=>zie (t2:=lE X.K Z.z ta) (fun _ _ _ z=>z) q
def u3 (r:D→Hp3→K3→Prop) (ta:TE3):TE3:=fun σ S Q=>ta σ S fun x S1=>r x S1 Q
theorem e_neg (ha:PE3 X W3 a ta):PE3 X W3 (.UnaryOp .USub a pos) (u3 (fun x S Q=>∃i,x=.int i∧Q (.int (-i)) S) ta):=fun Z=>PE.imp (pe_un un_neg (ha Z)) fun τ H Q z_3=>by
  obtain ⟨σ,S,Q3,hs,hr,ht,hc⟩:=z_3
  refine ⟨σ,S,_,hs,hr,ht,fun x S1 v H1 k1 r1 l1 q1=>?_⟩
  obtain ⟨i,rfl,q⟩:=q1
  cases r1
  exact ⟨i,rfl,hc _ S1 _ H1 k1 (.int _) l1 q⟩
def and3 (t u:TT3):TT3:=fun σ S Q=>t σ S fun c S1=>if c=true then u σ S1 Q else Q false S1
def or3 (t u:TT3):TT3:=fun σ S Q=>t σ S fun c S1=>if c=true then Q true S1 else u σ S1 Q
def not3 (t:TT3):TT3:=fun σ S Q=>t σ S fun c S1=>Q (!c) S1
def andv3 (ta tb:TE3):TE3:=fun σ S Q=>ta σ S fun x S1=>∃c,x=.bl c∧if c=true then tb σ S1 Q else Q (.bl false) S1
def notv3 (ta:TE3):TE3:=fun σ S Q=>ta σ S fun x S1=>∃c,x=.bl c∧Q (.bl (!c)) S1
def if3 (t:TT3) (ta tb:TE3):TE3:=fun σ S Q=>t σ S fun c S1=>if c=true then ta σ S1 Q else tb σ S1 Q
variable {rest:List Expr}
theorem zfk (ha:PT3 X W3 a tA):PW3 X W3 (.BoolOp .And [a] pos) tA:=fun Z=>zqn (ha Z)
theorem zic (ha:PT3 X W3 a tA):PW3 X W3 (.BoolOp .Or [a] pos) tA:=fun Z=>pw_or1 (ha Z)
theorem w_and (ha:PT3 X W3 a tA) (hb:PW3 X W3 (.BoolOp .And (b::rest) pos) tB):PW3 X W3 (.BoolOp .And (a::b::rest) pos) (and3 tA tB):=fun Z=>PW.imp (pw_and (ha Z) (hb Z)) fun τ H Q z_4=>by
  obtain ⟨σ,S,Q3,hs,hr,ht,hc⟩:=z_4
  refine ⟨σ,S,_,hs,hr,ht,fun c S1 H1 k1 l1 q1=>?_⟩
  cases c with
  | true=>exact ⟨σ,S1,Q3,hs.mono k1,l1,q1,hc.mono k1⟩
  | false=>exact hc false S1 H1 k1 l1 q1
theorem w_or (ha:PT3 X W3 a tA) (hb:PW3 X W3 (.BoolOp .Or (b::rest) pos) tB):PW3 X W3 (.BoolOp .Or (a::b::rest) pos) (or3 tA tB):=fun Z=>PW.imp (pw_or (ha Z) (hb Z)) fun τ H Q z_5=>by
  obtain ⟨σ,S,Q3,hs,hr,ht,hc⟩:=z_5
  refine ⟨σ,S,_,hs,hr,ht,fun c S1 H1 k1 l1 q1=>?_⟩
  cases c with
  | true=>exact hc true S1 H1 k1 l1 q1
  | false=>exact ⟨σ,S1,Q3,hs.mono k1,l1,q1,hc.mono k1⟩
theorem PW3.pt (h:PW3 X W3 e tA):PT3 X W3 e tA:=fun Z=>(h Z).pt
theorem zlz (ha:PT3 X W3 a tA):PT3 X W3 (.UnaryOp .Not a pos) (not3 tA):=fun Z=>PT.imp (pt_not (ha Z)) fun τ H Q z_6=>by obtain ⟨σ,S,Q3,hs,hr,ht,hc⟩:=z_6;exact ⟨σ,S,_,hs,hr,ht,fun c S1 H1 k1 l1 q1=>hc (!c) S1 H1 k1 l1 q1⟩
theorem e_one {op} (h:PE3 X W3 a ta):PE3 X W3 (.BoolOp op [a] pos) ta:=fun Z=>pe_one (h Z)
theorem e_and (ha:PE3 X W3 a ta) (hb:PE3 X W3 (.BoolOp .And (b::rest) pos) tb):PE3 X W3 (.BoolOp .And (a::b::rest) pos) (andv3 ta tb):=fun Z=>PE.imp (pe_and (ha Z) (hb Z)) fun τ H Q z_7=>by
  obtain ⟨σ,S,Q3,hs,hr,ht,hc⟩:=z_7
  refine ⟨σ,S,_,hs,hr,ht,fun x S1 v H1 k1 r1 l1 q1=>?_⟩
  obtain ⟨c,rfl,q1⟩:=q1
  cases r1
  refine ⟨c,rfl,?_⟩
  cases c with
  | true=>exact ⟨σ,S1,Q3,hs.mono k1,l1,q1,hc.mono k1⟩
  | false=>exact hc _ S1 _ H1 k1 (.bl _) l1 q1
theorem e_not (ha:PE3 X W3 a ta):PE3 X W3 (.UnaryOp .Not a pos) (notv3 ta):=fun Z=>PE.imp (pe_not (ha Z)) fun τ H Q z_9=>by
  obtain ⟨σ,S,Q3,hs,hr,ht,hc⟩:=z_9
  refine ⟨σ,S,_,hs,hr,ht,fun x S1 v H1 k1 r1 l1 q1=>?_⟩
  obtain ⟨c,rfl,q1⟩:=q1
  cases r1
  exact ⟨c,rfl,hc _ S1 _ H1 k1 (.bl _) l1 q1⟩
theorem zh4 (hc:PT3 X W3 c tA) (ha:PE3 X W3 a ta) (hb:PE3 X W3 b tb):PE3 X W3 (.IfExp c a b pos) (if3 tA ta tb):=fun Z=>PE.imp (zo0 (hc Z) (ha Z) (hb Z)) fun τ H Q z_10=>by
  obtain ⟨σ,S,Q3,hs,hr,ht,hc⟩:=z_10
  refine ⟨σ,S,_,hs,hr,ht,fun c S1 H1 k1 l1 q1=>?_⟩
  cases c with
  | true=>exact ⟨σ,S1,Q3,hs.mono k1,l1,q1,hc.mono k1⟩
  | false=>exact ⟨σ,S1,Q3,hs.mono k1,l1,q1,hc.mono k1⟩
def IsL (S:Hp3) (x:D) (ds:List D):Prop:=(∃a,x=.ref a∧S a=some (.lst ds))∨x=.rol ds
theorem IsL.down {K:PySem.W.Frag} {Z:Zt} {S:Hp3} {H:Hp} {x:D} {ds:List D} {v:V} (h:IsL S x ds) (r:Rp K H x v) (l:Rl K Z S H):∃a vs,v=.ref a∧SqL K H a vs∧Rps K H ds vs:=show _ by
  rcases h with ⟨a,rfl,e⟩|rfl
  · cases r
    obtain ⟨vs,h1,h2⟩:=l.obj a _ e
    exact ⟨a,vs,rfl,SqL.of h1,h2⟩
  · cases r with
    | rol h1 h2=>exact ⟨_,_,rfl,h1.sq,h2⟩
def Tru (S:Hp3):D→Bool→Prop
  | .non,k=>k=false
  | .bl b,k=>k=b
  | .int i,k=>k=(i != 0)
  | .str y,k=>y.length≤sizeLine∧k=((y.length:Int) != 0)
  | .tup ds,k=>k=!ds.isEmpty
  | .rol ds,k=>k=!ds.isEmpty
  | .ref a,k=>(∃ds,S a=some (.lst ds)∧k=!ds.isEmpty)∨∃kvs,S a=some (.dic kvs)∧k=!kvs.isEmpty
  | .ty _,_=>False
theorem Rps.empty {K:PySem.W.Frag} {H:Hp} {ds:List D} {vs:List V} (r:Rps K H ds vs):ds.isEmpty=vs.isEmpty:=by cases r<;>rfl
theorem Tru.down {K:PySem.W.Frag} {Z:Zt} {S:Hp3} {H:Hp} {x:D} {v:V} {k:Bool} (h:Tru S x k) (r:Rp K H x v) (l:Rl K Z S H):TruV K v H k:=show _ by
  cases r with
  | non=>exact h
  | bl b=>exact h
  | int i=>exact h
  | str x=>exact h
  | ty n=>exact h
  | tup h1 h2=>exact .inr (.inl ⟨_,h1,by rw [←h2.empty];exact h⟩)
  | rol h1 h2=>exact .inl ⟨_,h1.sq,by rw [←h2.empty];exact h⟩
  | ref a =>
    rcases h with ⟨ds,e,q⟩|⟨kvs,e,q⟩
    · obtain ⟨vs,h1,h2⟩:=l.obj a _ e
      exact .inl ⟨vs,SqL.of h1,by rw [←h2.empty];exact q⟩
    · obtain ⟨ws,h1,h2⟩:=l.obj a _ e
      refine .inr (.inr ⟨ws,h1,?_⟩)
      cases h2<;>exact q
def truth3 (ta:TE3):TT3:=fun σ S Q=>ta σ S fun x S1=>∃k,Tru S1 x k∧Q k S1
theorem zhi (ha:PE3 X W3 a ta) (he:∀whole,isTrue a X.env whole=(do let v ←whole;standAt a.pos;holding [v] (truthy v))):PT3 X W3 a (truth3 ta):=fun Z=>PT.imp (zoq (ha Z) he) fun τ H Q z_11=>by
  obtain ⟨σ,S,Q3,hs,hr,ht,hc⟩:=z_11
  refine ⟨σ,S,_,hs,hr,ht,fun x S1 v H1 k1 r1 l1 q1=>?_⟩
  obtain ⟨k,h,q⟩:=q1
  exact ⟨k,h.down r1 l1,hc k S1 H1 k1 l1 q⟩
def nil3:TA3:=fun _ S Q=>Q [] S
def cons3 (ta:TE3) (tr:TA3):TA3:=fun σ S Q=>ta σ S fun x S1=>tr σ S1 fun xs S2=>Q (x::xs) S2
theorem zae:PA3 X W3 [] nil3:=fun Z=>PA.imp pa_nil fun τ H Q z_12=>by obtain ⟨σ,S,Q3,hs,hr,ht,hc⟩:=z_12;exact hc [] S [] H (Kp.refl _ _) .nil hr ht
theorem zaa (ha:PE3 X W3 e ta) (hr:PA3 X W3 es t) (hs:starEach (e::es) X.env=(false,eval e X.env)::starEach es X.env:=by rfl):PA3 X W3 (e::es) (cons3 ta t):=fun Z=>PA.imp (zq6 (ha Z) (hr Z) hs) fun τ H Q z_13=>by
  obtain ⟨σ,S,Q3,hs,hr,ht,hc⟩:=z_13
  refine ⟨σ,S,_,hs,hr,ht,fun x S1 v H1 k1 r1 l1 q1=>?_⟩
  exact ⟨σ,S1,_,hs.mono k1,l1,q1,fun xs S2 vs H2 k2 r2 l2 q2=>hc (x::xs) S2 (v::vs) H2 (k1.trans k2) (.cons (r1.mono k2) r2) l2 q2⟩
def newL (S:Hp3) (ds:List D) (Q:K3):Prop:=∀p,S p=none→Q (.ref p) (up S p (.lst ds))
theorem newL.down {K:PySem.W.Frag} {Z:Zt} {S:Hp3} {H:Hp} {ds:List D} {vs:List V} {Q3:K3} {Q:VK} (h:newL S ds Q3) (r:Rps K H ds vs) (l:Rl K Z S H) (c:CK K Z H Q3 Q):∀p,H p=none→Q (.ref p) (upd H p (.lst vs)):=fun p hp=>by
  obtain ⟨hs,hz⟩:=l.fresh hp
  have k:=Kp.new (o:=HO.lst vs) hp hz
  exact c _ _ _ _ k (.ref p) (l.put (o:=.lst ds) k hz ⟨vs,za5,r.mono k⟩) (h p hs)
theorem tup.down {K:PySem.W.Frag} {Z:Zt} {S:Hp3} {H:Hp} {ds:List D} {vs:List V} {Q3:K3} {Q:VK} (h:Q3 (.tup ds) S) (r:Rps K H ds vs) (l:Rl K Z S H) (c:CK K Z H Q3 Q):∀p,H p=none→Q (.ref p) (upd H p (.tup vs)):=fun p hp=>by
  obtain ⟨hs,hz⟩:=l.fresh hp
  have k:=Kp.new (o:=HO.tup vs) hp hz
  exact c _ _ _ _ k (.tup (SqT.of za5) (r.mono k)) (l.lay hp) h
def tup3 (t:TA3):TE3:=fun σ S Q=>t σ S fun xs S1=>xs.length≤sizeLine∧Q (.tup xs) S1
def lst3 (t:TA3):TE3:=fun σ S Q=>t σ S fun xs S1=>xs.length≤sizeLine∧newL S1 xs Q
theorem zbj {x1} (h:PA3 X W3 es t):PE3 X W3 (.Tuple es x1 pos) (tup3 t):=fun Z=>PE.imp (pe_tup (h Z)) fun τ H Q ⟨σ,S,Q3,hs,hr,ht,hc⟩ =>
  ⟨σ,S,_,hs,hr,ht,fun xs S1 vs H1 k1 r1 l1 z_14=>by obtain ⟨z,q⟩:=z_14;exact ⟨by rw [←r1.len];exact z,tup.down q r1 l1 (hc.mono k1)⟩⟩
theorem zdm (h:PA3 X W3 es t):PE3 X W3 (.List es pos) (lst3 t):=fun Z=>PE.imp (pe_lst (h Z)) fun τ H Q ⟨σ,S,Q3,hs,hr,ht,hc⟩ =>
  ⟨σ,S,_,hs,hr,ht,fun xs S1 vs H1 k1 r1 l1 z_15=>by obtain ⟨z,q⟩:=z_15;exact ⟨by rw [←r1.len];exact z,newL.down q r1 l1 (hc.mono k1)⟩⟩
def dnew3:TE3:=fun _ S Q=>∀p,S p=none→Q (.ref p) (up S p (.dic []))
theorem zno:PE3 X W3 (.Dict [] [] pos) dnew3:=fun Z=>PE.imp zo2 fun τ H Q ⟨σ,S,Q3,hs,hr,ht,hc⟩=>fun p hp=>by
  obtain ⟨h1,hz⟩:=hr.fresh hp
  have k:=Kp.new (o:=HO.dK []) hp hz
  exact hc _ _ _ _ k (.ref p) (hr.put (o:=.dic []) k hz ⟨[],za5,.nil⟩) (ht p h1)
def DnC (K:PySem.W.Frag) (r3:List D→Hp3→K3→Prop) (r:List V→Hp→VK→Prop):Prop:=∀(Z:Zt) ds S Q3 vs H Q,Rps K H ds vs→Rl K Z S H→r3 ds S Q3→CK K Z H Q3 Q→r vs H Q
def cb3 (r:List D→Hp3→K3→Prop) (t:TA3):TE3:=fun σ S Q=>t σ S fun vs S1=>r vs S1 Q
variable {x:Str} {p:Pos} {id T:String} {r3:List D→Hp3→K3→Prop} {r:List V→Hp→VK→Prop}
theorem zn6 {K:PySem.W.Frag} {Z:Zt} (hd:DnC K r3 r) {τ:L2.St} {H:Hp} {Q:VK} (h:lE K Z (cb3 r3 t) τ H Q):tCB r (lA K Z t) τ H Q:=by
  obtain ⟨σ,S,Q3,hs,hr,ht,hc⟩:=h
  exact ⟨σ,S,_,hs,hr,ht,fun ds S1 vs H1 k1 r1 l1 q1=>hd Z ds S1 Q3 vs H1 Q r1 l1 q1 (hc.mono k1)⟩
theorem zay (hc:CallR X (.builtin id) r) (hd:DnC X.K r3 r) (hg:Gl X x) (hm:X.mg x=none) (hv:bootBuiltins x=some (.builtin id)) (ha:PA3 X W3 (e::es) t) (hn:x≠"__name__":=by decide) (hdb:(x==("__debug__":Str))=false:=by decide)
    (he:starEach (e::es) X.env=(false,eval e X.env)::starEach es X.env:=by rfl) (hpl:(backTo pos (starEach es X.env)).any (·.1)=false:=by rfl):PE3 X W3 (.Call (.Name x p) (e::es) [] pos) (cb3 r3 t) :=
  fun Z=>PE.imp (zo5 hc hg hm hv (ha Z) hn hdb he hpl) fun _ _ _ h=>zn6 hd h
theorem zb6 (hc:CallR X (.type T) r) (hd:DnC X.K r3 r) (hg:Gl X x) (hm:X.mg x=none) (hv:bootBuiltins x=some (.type T)) (ha:PA3 X W3 (e::es) t) (hn:x≠"__name__":=by decide) (hdb:(x==("__debug__":Str))=false:=by decide)
    (he:starEach (e::es) X.env=(false,eval e X.env)::starEach es X.env:=by rfl) (hpl:(backTo pos (starEach es X.env)).any (·.1)=false:=by rfl):PE3 X W3 (.Call (.Name x p) (e::es) [] pos) (cb3 r3 t) :=
  fun Z=>PE.imp (zmr hc hg hm hv (ha Z) hn hdb he hpl) fun _ _ _ h=>zn6 hd h
def DnM (K:PySem.W.Frag) (r3:D→List D→Hp3→K3→Prop) (r:V→List V→Hp→VK→Prop):Prop:=∀(Z:Zt) x ds S Q3 v vs H Q,Rp K H x v→Rps K H ds vs→Rl K Z S H→r3 x ds S Q3→CK K Z H Q3 Q→r v vs H Q
def TyD (T:String) (x:D) (S:Hp3):Prop:=(T="str"∧∃z,x=.str z)∨(T="list"∧∃ds,IsL S x ds)∨(T="dict"∧∃a kvs,x=.ref a∧S a=some (.dic kvs))
theorem TyD.down {K:PySem.W.Frag} {Z:Zt} {S:Hp3} {H:Hp} {T:String} {x:D} {v:V} (h:TyD T x S) (r:Rp K H x v) (l:Rl K Z S H):tyV K T v H:=show _ by
  rcases h with ⟨rfl,z,rfl⟩|⟨rfl,ds,h⟩|⟨rfl,a,kvs,rfl,e⟩
  · cases r;rfl
  · obtain ⟨a,vs,rfl,h1,_⟩:=h.down r l
    exact .inl ⟨rfl,vs,h1⟩
  · cases r
    obtain ⟨ws,h1,_⟩:=l.obj a _ e
    exact .inr (.inr (.inl ⟨rfl,.inl ⟨ws,h1⟩⟩))
def bm03 (T:String) (r:D→List D→Hp3→K3→Prop) (to:TE3):TE3:=fun σ S Q=>to σ S fun x S1=>TyD T x S1∧r x [] S1 Q
def bm3 (T:String) (r:D→List D→Hp3→K3→Prop) (to:TE3) (t:TA3):TE3:=fun σ S Q=>to σ S fun x S1=>TyD T x S1∧t σ S1 fun xs S2=>r x xs S2 Q
variable {o:Expr} {to:TE3} {name:Str} {apos cpos:Pos} {m3:D→List D→Hp3→K3→Prop} {m:V→List V→Hp→VK→Prop}
theorem ze0 (pa:PlainAttrs T) (slot:Slot T name id) (hty:typeOf (.builtin id)=pure (.type "method_descriptor")) (hm:MtR X id m) (hd:DnM X.K m3 m) (ho:PE3 X W3 o to)
    (hbase:attributeBase o name X.env (eval o X.env)=eval o X.env:=by rfl) (hline:(apos.endLine==cpos.line)=true:=by rfl):PE3 X W3 (.Call (.Attribute o name apos) [] [] cpos) (bm03 T m3 to) :=
  fun Z=>PE.imp (pe_bm0 pa slot hty hm (ho Z) hbase hline) fun τ H Q ⟨σ,S,Q3,hs,hr,ht,hc⟩ =>
    ⟨σ,S,_,hs,hr,ht,fun x S1 v H1 k1 r1 l1 z_16=>by obtain ⟨ty,q⟩:=z_16;exact ⟨ty.down r1 l1,hd Z.z x [] S1 Q3 v [] H1 Q r1 .nil l1 q (hc.mono k1)⟩⟩
theorem e_bm (pa:PlainAttrs T) (slot:Slot T name id) (hty:typeOf (.builtin id)=pure (.type "method_descriptor")) (hm:MtR X id m) (hd:DnM X.K m3 m) (ho:PE3 X W3 o to) (ha:PA3 X W3 (e::es) t)
    (hbase:attributeBase o name X.env (eval o X.env)=eval o X.env:=by rfl)
    (hfew:((backTo cpos (starEach (e::es) X.env)).all (fun x=>!x.1)&&(backToKw cpos (keywordEach [] X.env)).all (fun x=>x.1.isSome)
      && decide ((e::es).length+([]:List Keyword).length+(if ([]:List Keyword).isEmpty then 0 else 1)<30))=true:=by rfl)
    (hline:(apos.endLine==cpos.line)=true:=by rfl) (hs:starEach (e::es) X.env=(false,eval e X.env)::starEach es X.env:=by rfl) (hplain:(backTo cpos (starEach es X.env)).any (·.1)=false:=by rfl) :
    PE3 X W3 (.Call (.Attribute o name apos) (e::es) [] cpos) (bm3 T m3 to t) :=
  fun Z=>PE.imp (pe_bm pa slot hty hm (ho Z) (ha Z) hbase hfew hline hs hplain) fun τ H Q ⟨σ,S,Q3,hs,hr,ht,hc⟩ =>
    ⟨σ,S,_,hs,hr,ht,fun x S1 v H1 k1 r1 l1 z_17=>by obtain ⟨ty,q⟩:=z_17;exact ⟨ty.down r1 l1,σ,S1,_,hs.mono k1,l1,q,fun ds S2 vs H2 k2 r2 l2 q2=>hd Z.z x ds S2 Q3 v vs H2 Q (r1.mono k2) r2 l2 q2 (hc.mono (k1.trans k2))⟩⟩
noncomputable abbrev TO3:=St3→Hp3→(Option Int→Hp3→Prop)→Prop
def CO (K:PySem.W.Frag) (Z:Zt) (H:Hp) (Q3:Option Int→Hp3→Prop) (Q:Option Int→Hp→Prop):Prop:=∀d S H',Kp Z H H'→Rl K Z S H'→Q3 d S→Q d H'
noncomputable def lO (K:PySem.W.Frag) (Z:Zt) (t:TO3):TO:=fun τ H Q=>∃σ S Q3,SR K H σ τ∧Rl K Z S H∧t σ S Q3∧CO K Z H Q3 Q
def PO3 (X:Cx) (W3:W3T) (e:Option Expr) (t:TO3):Prop:=∀Z:ZX X W3,PO X e (lO X.K Z.z t)
def nopart3:TO3:=fun _ S Q=>Q none S
def part3 (t:TE3):TO3:=fun σ S Q=>t σ S fun x S1=>∃i,x=.int i∧Q (some i) S1
theorem PO.imp {X:Cx} {e:Option Expr} {t u:TO} (h:PO X e t) (f:∀σ H Q,u σ H Q→t σ H Q):PO X e u:=fun pins s σ H Q I q=>h pins s σ H Q I (f _ _ _ q)
theorem zb1:PO3 X W3 none nopart3:=fun Z=>PO.imp zqw fun τ H Q z_18=>by obtain ⟨σ,S,Q3,hs,hr,ht,hc⟩:=z_18;exact hc none S H (Kp.refl _ _) hr ht
theorem zbx (h:PE3 X W3 e ta):PO3 X W3 (some e) (part3 ta):=fun Z=>PO.imp (zqv (h Z)) fun τ H Q z_19=>by
  obtain ⟨σ,S,Q3,hs,hr,ht,hc⟩:=z_19
  refine ⟨σ,S,_,hs,hr,ht,fun x S1 v H1 k1 r1 l1 q1=>?_⟩
  obtain ⟨i,rfl,q⟩:=q1
  cases r1
  exact ⟨i,rfl,hc _ S1 H1 k1 l1 q⟩
def DnS (K:PySem.W.Frag) (r3:D→Option Int→Option Int→Hp3→K3→Prop) (r:V→Option Int→Option Int→Hp→VK→Prop):Prop:=∀(Z:Zt) x lo hi S Q3 v H Q,Rp K H x v→Rl K Z S H→r3 x lo hi S Q3→CK K Z H Q3 Q→r v lo hi H Q
def sl3 (r:D→Option Int→Option Int→Hp3→K3→Prop) (te:TE3) (tl th:TO3):TE3:=fun σ S Q=>te σ S fun x S1=>tl σ S1 fun l S2=>th σ S2 fun u S3=>r x l u S3 Q
theorem zbh {lo hi:Option Expr} {tl th:TO3} {p2:Pos} {s3:D→Option Int→Option Int→Hp3→K3→Prop} {s2:V→Option Int→Option Int→Hp→VK→Prop} (hr:SlR X s2) (hd:DnS X.K s3 s2) (he:PE3 X W3 e ta) (hl:PO3 X W3 lo tl) (hu:PO3 X W3 hi th) :
    PE3 X W3 (.Subscript e (.Slice lo hi none p2) pos) (sl3 s3 ta tl th):=fun Z=>PE.imp (zox hr (he Z) (hl Z) (hu Z)) fun τ H Q z_20=>by obtain ⟨σ,S,Q3,hs,hr,ht,hc⟩:=z_20;exact 
  ⟨σ,S,_,hs,hr,ht,fun x S1 v H1 k1 r1 l1 q1=>⟨σ,S1,_,hs.mono k1,l1,q1,fun l S2 H2 k2 l2 q2=>⟨σ,S2,_,hs.mono (k1.trans k2),l2,q2,fun u S3 H3 k3 l3 q3 =>
    hd Z.z x l u S3 Q3 v H3 Q (r1.mono (k2.trans k3)) l3 q3 (hc.mono (k1.trans (k2.trans k3)))⟩⟩⟩
noncomputable def kD:Key→D
  | .inl i=>.int i
  | .inr x=>.str x
noncomputable def valD (kvs:List (Key×D)) (k:Key):Option D:=(kvs.find? fun kv=>decide (kv.1=k)).map (·.2)
noncomputable def putD (kvs:List (Key×D)) (k:Key) (v:D):List (Key×D):=if (kvs.any fun kv=>decide (kv.1=k))=true then kvs.map fun kv=>if kv.1=k then (kv.1,v) else kv else kvs++[(k,v)]
def dget3 (td ty:TE3):TE3:=fun σ S Q=>td σ S fun x S1=>ty σ S1 fun y S2=>∃a kvs k v,x=.ref a∧S2 a=some (.dic kvs)∧y=kD k∧valD kvs k=some v∧Q v S2
theorem zjo {K:PySem.W.Frag} {H:Hp} {k:Key} {v:V} (r:Rp K H (kD k) v):v=kV k:=by
  cases k with
  | inl i=>cases r;rfl
  | inr x=>cases r;rfl
noncomputable abbrev KR (K:PySem.W.Frag) (H:Hp):=Paired (fun (p:Key×D) (q:Key×V)=>p.1=q.1∧Rp K H p.2 q.2)
theorem KR.val {K:PySem.W.Frag} {H:Hp} {kvs:List (Key×D)} {ws:List (Key×V)} (r:KR K H kvs ws) (k:Key):RO K H (valD kvs k) (valV ws k)∧(valD kvs k).isSome=(valV ws k).isSome:=show _ by
  induction r with
  | nil=>exact ⟨fun d e=>(nomatch e),rfl⟩
  | @cons p q ps qs h t ih =>
    obtain ⟨h1,h2⟩:=h
    by_cases e:p.1=k
    · have e2:q.1=k:=h1▸e
      have a:valD (p::ps) k=some p.2:=by simp [valD,List.find?_cons,e]
      rw [a,zff e2]
      exact ⟨fun d z=>by cases z;exact ⟨_,rfl,h2⟩,rfl⟩
    · have e2:¬q.1=k:=h1▸e
      have a:valD (p::ps) k=valD ps k:=by simp [valD,List.find?_cons,e]
      rw [a,zfg e2]
      exact ih
theorem KR.any {K:PySem.W.Frag} {H:Hp} {kvs:List (Key×D)} {ws:List (Key×V)} (r:KR K H kvs ws) (k:Key):(kvs.any fun kv=>decide (kv.1=k))=ws.any fun kv=>decide (kv.1=k):=by
  induction r with
  | nil=>rfl
  | @cons p q ps qs h t ih=>rw [List.any_cons,List.any_cons,ih,h.1]
theorem KR.repl {K:PySem.W.Frag} {H:Hp} (k:Key) {d:D} {v:V} (h:Rp K H d v):∀{kvs:List (Key×D)} {ws:List (Key×V)},KR K H kvs ws→KR K H (kvs.map fun kv=>if kv.1=k then (kv.1,d) else kv) (ws.map fun kv=>if kv.1=k then (kv.1,v) else kv)
  | _,_,.nil=>.nil
  | _,_,.cons (a:=p) (b:=q) ⟨e,r⟩ t=>by
    refine .cons ?_ (KR.repl k h t)
    dsimp only
    by_cases c:q.1=k
    · rw [if_pos c,if_pos (e▸c)]
      exact ⟨e,h⟩
    · rw [if_neg c,if_neg (e▸c)]
      exact ⟨e,r⟩
theorem KR.put {K:PySem.W.Frag} {H:Hp} {kvs:List (Key×D)} {ws:List (Key×V)} (r:KR K H kvs ws) (k:Key) {d:D} {v:V} (h:Rp K H d v):KR K H (putD kvs k d) (putK ws k v):=by
  unfold putD putK
  rw [r.any k]
  split
  · exact KR.repl k h r
  · exact zbv r (.cons ⟨rfl,h⟩ .nil)
theorem KR.len {K:PySem.W.Frag} {H:Hp} {kvs:List (Key×D)} {ws:List (Key×V)} (r:KR K H kvs ws):kvs.length=ws.length:=Paired.length r
theorem DGet.down {K:PySem.W.Frag} {Z:Zt} {S:Hp3} {H:Hp} {a:Addr} {kvs:List (Key×D)} {k:Key} {v:V} (l:Rl K Z S H) (e:S a=some (.dic kvs)) (r:Rp K H (kD k) v):∃ws,DGet H a v (valV ws k)∧KR K H kvs ws:=by
  obtain ⟨ws,h1,h2⟩:=l.obj a _ e
  rw [zjo r]
  exact ⟨ws,DGet.k h1,h2⟩
theorem zhb {i:Expr} {td ty:TE3} (hu:X.A.units+1<cLine) (ho:PE3 X W3 o td) (hi:PE3 X W3 i ty) (hs:NoSl i):PE3 X W3 (.Subscript o i pos) (dget3 td ty):=fun Z=>PE.imp (zq2 hu (ho Z) (hi Z) hs) fun τ H Q z_21=>by
  obtain ⟨σ,S,Q3,hs,hr,ht,hc⟩:=z_21
  refine ⟨σ,S,_,hs,hr,ht,fun x S1 v H1 k1 r1 l1 q1=>⟨σ,S1,_,hs.mono k1,l1,q1,fun y S2 w H2 k2 r2 l2 q2=>?_⟩⟩
  obtain ⟨a,kvs,k,d,rfl,e,rfl,ev,q⟩:=q2
  cases r1
  obtain ⟨ws,g,kr⟩:=DGet.down l2 e r2
  obtain ⟨u,eu,ru⟩:=(kr.val k).1 d ev
  rw [eu] at g
  exact ⟨a,u,rfl,g,hc d S2 u H2 (k1.trans k2) ru l2 q⟩
end
end E3
namespace E3
open PySem PySem.Spec PyProof.Rows L2 EE
section
variable {X:Cx} {W3:W3T} {st:Stmt} {rest:List Stmt} {t u:TS3} {e:Expr} {te:TE3} {pos:Pos}
def next3:TS3:=fun D σ S=>D.nx σ S
def seq3 (t u:TS3):TS3:=fun D σ S=>t {D with nx:=u D} σ S
theorem zbc:PSs3 X W3 [] next3:=fun Z=>PSs.imp zqr fun D τ H z_1=>by obtain ⟨D3,σ,S,hs,hr,ht,hc⟩:=z_1;exact hc.nx σ S τ H (Kp.refl _ _) hs hr ht
theorem zac (h1:PS3 X W3 st t) (h2:PSs3 X W3 rest u):PSs3 X W3 (st::rest) (seq3 t u):=fun Z=>PSs.imp (zor (h1 Z) (h2 Z)) fun D τ H ⟨D3,σ,S,hs,hr,ht,hc⟩ =>
  ⟨_,σ,S,hs,hr,ht,⟨fun σ' S' τ' H' k r l q=>⟨D3,σ',S',r,l,q,hc.mono k⟩,hc.bk,hc.ct,hc.rt⟩⟩
theorem zah (h1:PS3 X W3 st t):PSs3 X W3 [st] t:=fun Z=>zqq (h1 Z)
def drop3 (te:TE3):TS3:=fun D σ S=>te σ S fun _ S1=>D.nx σ S1
theorem za4 (he:PE3 X W3 e te) (hs:swapsWith e none pos.line X.env=pure false:=by rfl):PS3 X W3 (.Expr e pos) (drop3 te):=fun Z=>PS.imp (zqs (he Z) hs) fun D τ H ⟨D3,σ,S,hs,hr,ht,hc⟩ =>
  ⟨σ,S,_,hs,hr,ht,fun d S' v H' k r l q=>hc.nx σ S' τ H' k (hs.mono k) l q⟩
def ret3 (te:TE3):TS3:=fun D σ S=>te σ S D.rt
theorem zav (he:PE3 X W3 e te):PS3 X W3 (.Return (some e) pos) (ret3 te):=fun Z=>PS.imp (ps_ret (he Z)) fun D τ H z_6=>by obtain ⟨D3,σ,S,hs,hr,ht,hc⟩:=z_6;exact ⟨σ,S,_,hs,hr,ht,hc.rt⟩
def ifs3 (c:TT3) (t u:TS3):TS3:=fun D σ S=>c σ S fun b S1=>if b=true then t D σ S1 else u D σ S1
theorem s_if {c:Expr} {a b:List Stmt} {tc:TT3} (hc:PT3 X W3 c tc) (ha:PSs3 X W3 a t) (hb:PSs3 X W3 b u):PS3 X W3 (.If c a b pos) (ifs3 tc t u):=fun Z=>PS.imp (ps_if (hc Z) (ha Z) (hb Z)) fun D τ H z_8=>by
  obtain ⟨D3,σ,S,hs,hr,ht,hc⟩:=z_8
  refine ⟨σ,S,_,hs,hr,ht,fun b S' H' k l q=>?_⟩
  cases b with
  | true=>exact ⟨D3,σ,S',hs.mono k,l,q,hc.mono k⟩
  | false=>exact ⟨D3,σ,S',hs.mono k,l,q,hc.mono k⟩
def never3:TS3:=fun _ _ _=>False
theorem zmd:PS3 X W3 st never3:=fun Z=>PS.imp zot fun D τ H z_9=>by obtain ⟨D3,σ,S,hs,hr,ht,hc⟩:=z_9;exact ht
noncomputable abbrev TG3:=D→St3→Hp3→(St3→Hp3→Prop)→Prop
def lG (K:PySem.W.Frag) (Z:Zt) (t:TG3):TG:=fun v τ H Q=>∃d σ S Q3,Rp K H d v∧SR K H σ τ∧Rl K Z S H∧t d σ S Q3∧CS K Z H Q3 Q
def PG3 (X:Cx) (W3:W3T) (tg:Expr) (t:TG3):Prop:=∀Z:ZX X W3,PG X tg (lG X.K Z.z t)
theorem PG.imp {X:Cx} {e:Expr} {t u:TG} (h:PG X e t) (f:∀v σ H Q,u v σ H Q→t v σ H Q):PG X e u:=fun pins s σ H v w Q I r q=>h pins s σ H v w Q I r (f _ _ _ _ q)
def name3 (i:Nat):TG3:=fun v σ S Q=>Q (σ.set i (some v)) S
theorem zcu {i:Nat} {x:Str} (hN:X.N.Nodup) (hi:X.N[i]?=some x) (hx:Loc X.env.scope x) (hf:X.fn x=true∨X.env.scope.names.lookup x=some .local:=by first|exact .inl rfl|exact .inr rfl|assumption):PG3 X W3 (.Name x pos) (name3 i) :=
  fun Z=>PG.imp (zmp hN hi hx hf) fun v τ H Q z_11=>by obtain ⟨d,σ,S,Q3,r,hs,hr,ht,hc⟩:=z_11;exact hc _ S _ H (Kp.refl _ _) (hs.set r i) hr ht
noncomputable abbrev TGs3:=List D→St3→Hp3→(St3→Hp3→Prop)→Prop
noncomputable def lGs (K:PySem.W.Frag) (Z:Zt) (t:TGs3):TGs:=fun v τ H Q=>∃d σ S Q3,Rps K H d v∧SR K H σ τ∧Rl K Z S H∧t d σ S Q3∧CS K Z H Q3 Q
def PGs3 (X:Cx) (W3:W3T) (tg:List Expr) (t:TGs3):Prop:=∀Z:ZX X W3,PGs X tg (lGs X.K Z.z t)
theorem PGs.imp {X:Cx} {e:List Expr} {t u:TGs} (h:PGs X e t) (f:∀v σ H Q,u v σ H Q→t v σ H Q):PGs X e u:=fun pins s σ H v w Q I r q=>h pins s σ H v w Q I r (f _ _ _ _ q)
noncomputable def gnil3:TGs3:=fun vs σ S Q=>vs=[]∧Q σ S
noncomputable def gcons3 (t:TG3) (u:TGs3):TGs3:=fun vs σ S Q=>∃v r,vs=v::r∧t v σ S fun σ' S'=>u r σ' S' Q
theorem gs_nil:PGs3 X W3 [] gnil3:=fun Z=>PGs.imp zq0 fun v τ H Q z_12=>by
  obtain ⟨d,σ,S,Q3,r,hs,hr,⟨e,q⟩,hc⟩:=z_12
  subst e
  cases r
  exact ⟨rfl,hc σ S τ H (Kp.refl _ _) hs hr q⟩
theorem znh {es:List Expr} {t:TG3} {u:TGs3} (h1:PG3 X W3 e t) (h2:PGs3 X W3 es u)
    (hs:(assignEach (e::es) X.env).map (·.2)=assign e X.env::(assignEach es X.env).map (·.2):=by rfl):PGs3 X W3 (e::es) (gcons3 t u):=fun Z=>PGs.imp (zow (h1 Z) (h2 Z) hs) fun v τ H Q z_13=>by
  obtain ⟨d,σ,S,Q3,r,hs,hr,⟨d1,dr,e,q⟩,hc⟩:=z_13
  subst e
  cases r with
  | cons r rr=>exact ⟨_,_,rfl,d1,σ,S,_,r,hs,hr,q,fun σ' S' τ' H' k r' l q'=>⟨dr,σ',S',Q3,rr.mono k,r',l,q',hc.mono k⟩⟩
def gtup3 (n:Nat) (t:TGs3):TG3:=fun v σ S Q=>∃xs,v=.tup xs∧xs.length=n∧t xs σ S Q
theorem g_tup {es:List Expr} {k:Nat} {t:TGs3} {n:Nat} (hc:X.calm=true) (h:PGs3 X W3 es t)
    (hn:(assignEach es X.env).length=n:=by rfl) (hst:(assignEach es X.env).findIdx? (·.1)=none:=by rfl):PG3 X W3 (.Tuple es k pos) (gtup3 n t):=fun Z=>PG.imp (pg_tup hc (h Z) hn hst) fun v τ H Q z_14=>by
  obtain ⟨d,σ,S,Q3,r,hs,hr,⟨xs,e,hl,q⟩,hc⟩:=z_14
  subst e
  cases r with
  | tup h1 h2=>exact ⟨_,_,rfl,h1,by rw [←h2.len];exact hl,xs,σ,S,Q3,h2,hs,hr,q,hc⟩
def asg3 (te:TE3) (g:TG3):TS3:=fun D σ S=>te σ S fun x S1=>g x σ S1 D.nx
theorem zpn {K:PySem.W.Frag} {Z:Zt} {g:TG3} {D:Ends} {τ:L2.St} {H:Hp} (h:lS K Z (asg3 te g) D τ H):tAsg (lE K Z te) (lG K Z g) D τ H:=by
  obtain ⟨D3,σ,S,hs,hr,ht,hc⟩:=h
  exact ⟨σ,S,_,hs,hr,ht,fun d S' v H' k r l q=>⟨d,σ,S',_,r,hs.mono k,l,q,hc.nx.mono k⟩⟩
theorem zmf {tg:Expr} {g:TG3} (he:PE3 X W3 e te) (hg:PG3 X W3 tg g) (hs:swapsWithSole [tg] e pos.line X.env=pure false:=by rfl) (hw:swappedStores [tg] e X.env=pure none:=by rfl)
    (h1:(assignEach [tg] X.env).map (·.2)=[assign tg X.env]:=by rfl):PS3 X W3 (.Assign [tg] e pos) (asg3 te g):=fun Z=>PS.imp (ps_asg (he Z) (hg Z) hs hw h1) fun D τ H h=>zpn h
def set3 (i:Nat) (te:TE3):TS3:=fun D σ S=>te σ S fun x S1=>D.nx (σ.set i (some x)) S1
theorem zal {i:Nat} {x:Str} {pos':Pos} (hN:X.N.Nodup) (hi:X.N[i]?=some x) (hx:Loc X.env.scope x) (he:PE3 X W3 e te) (hs:swapsWith e (some (.Name x pos')) pos.line X.env=pure false:=by rfl) (hf:X.fn x=true∨X.env.scope.names.lookup x=some .local:=by first|exact .inl rfl|exact .inr rfl|assumption) :
    PS3 X W3 (.Assign [.Name x pos'] e pos) (set3 i te):=fun Z=>PS.imp (ps_set hN hi hx (he Z) hs hf) fun D τ H z_15=>by obtain ⟨D3,σ,S,hs,hr,ht,hc⟩:=z_15;exact 
  ⟨σ,S,_,hs,hr,ht,fun d S' v H' k r l q=>hc.nx _ S' _ H' k ((hs.mono k).set r i) l q⟩
def setL3 (to ti:TE3):TG3:=fun v σ S Q=>to σ S fun o S1=>ti σ S1 fun i S2=>∃p xs k j,o=.ref p∧i=.int k∧S2 p=some (.lst xs)∧ixN xs.length k=some j∧Q σ (up S2 p (.lst (xs.set j v)))
theorem znj {o i:Expr} {to ti:TE3} (ho:PE3 X W3 o to) (hi:PE3 X W3 i ti)
    (ha:∀v,assign (.Subscript o i pos) X.env v=(do
      let ov ←holding [v] (eval o X.env)
      let iv ←holding [v,ov] (eval i X.env)
      standAt pos
      holding [v,ov,iv] (setItem ov iv v)
      release [v,ov,iv] []):=by intro _;rfl):PG3 X W3 (.Subscript o i pos) (setL3 to ti):=fun Z=>PG.imp (pg_sub (ho Z) (hi Z) set_list ha) fun v τ H Q z_16=>by
  obtain ⟨d,σ,S,Q3,r,hs,hr,ht,hc⟩:=z_16
  refine ⟨σ,S,_,hs,hr,ht,fun x1 S1 v1 H1 k1 r1 l1 q1=>⟨σ,S1,_,hs.mono k1,l1,q1,fun x2 S2 v2 H2 k2 r2 l2 q2=>?_⟩⟩
  obtain ⟨p,xs,k,j,rfl,rfl,e,hj,q⟩:=q2
  cases r1
  cases r2
  obtain ⟨vs,h1,h2⟩:=l2.obj p _ e
  have kk:Kp Z.z H2 (upd H2 p (.lst (vs.set j v))):=Kp.at l2 e
  refine ⟨p,vs,k,j,rfl,rfl,h1,by rw [←h2.len];exact hj,?_⟩
  have k12:=k1.trans (k2.trans kk)
  exact hc σ _ τ _ k12 (hs.mono k12) (l2.put (o:=.lst (xs.set j d)) kk (l2.notZ e) ⟨_,za5,(h2.mono kk).set (r.mono k12) j⟩) q
def dput3 (td ty tv:TE3):TS3:=fun D σ S=>tv σ S fun v S1=>td σ S1 fun x S2=>ty σ S2 fun y S3=>∃a kvs k,x=.ref a∧S3 a=some (.dic kvs)∧y=kD k∧kvs.length<sizeLine∧D.nx σ (up S3 a (.dic (putD kvs k v)))
theorem zme {o i value:Expr} {td ty tv:TE3} {pos':Pos} (hu:X.A.units+1<cLine) (ho:PE3 X W3 o td) (hi:PE3 X W3 i ty) (hv:PE3 X W3 value tv) (hs:swapsWith value (some (.Subscript o i pos')) pos.line X.env=pure false) :
    PS3 X W3 (.Assign [.Subscript o i pos'] value pos) (dput3 td ty tv):=fun Z=>PS.imp (zqt hu (ho Z) (hi Z) (hv Z) hs) fun D τ H z_17=>by
  obtain ⟨D3,σ,S,hs,hr,ht,hc⟩:=z_17
  refine ⟨σ,S,_,hs,hr,ht,fun d S1 v H1 k1 r1 l1 q1=>⟨σ,S1,_,hs.mono k1,l1,q1,fun x S2 w H2 k2 r2 l2 q2=>⟨σ,S2,_,hs.mono (k1.trans k2),l2,q2,fun y S3 z H3 k3 r3 l3 q3=>?_⟩⟩⟩
  obtain ⟨a,kvs,k,rfl,e,rfl,hz,q⟩:=q3
  cases r2
  obtain ⟨ws,h1,h2⟩:=l3.obj a _ e
  have ey:=zjo r3
  subst ey
  have kk:Kp Z.z H3 (upd H3 a (.dK (putK ws k v))):=Kp.at l3 e
  have h2':KR X.K H3 kvs ws:=h2
  refine ⟨a,_,rfl,DPut.k h1 (by rw [←h2'.len];exact hz),?_⟩
  have k12:=k1.trans (k2.trans (k3.trans kk))
  refine hc.nx σ _ τ _ k12 (hs.mono k12) (l3.put (o:=.dic (putD kvs k d)) kk (l3.notZ e) ⟨_,za5,?_⟩) q
  have h3:KR X.K (upd H3 a (.dK (putK ws k v))) kvs ws:=Paired.mapP h2' fun p q z=>⟨z.1,z.2.mono kk⟩
  exact h3.put k ((r1.mono (k2.trans k3)).mono kk)
def aug3 (i:Nat) (te:TE3) (f:Int→Int→Int):TS3:=fun D σ S=>∃a,σ[i]?=some (some (.int a))∧te σ S fun y S1=>∃b,y=.int b∧D.nx (σ.set i (some (.int (f a b)))) S1
theorem zqh {i:Nat} {x:Str} {op:Operator} {f:Int→Int→Int} {pos':Pos} (hN:X.N.Nodup) (hi:X.N[i]?=some x) (hx:Loc X.env.scope x) (he:PE3 X W3 e te) (ho:PIp X op (ipI f)) (hf:X.fn x=true∨X.env.scope.names.lookup x=some .local:=by first|exact .inl rfl|exact .inr rfl|assumption) :
    PS3 X W3 (.AugAssign (.Name x pos') op e pos) (aug3 i te f):=fun Z=>PS.imp (ps_aug hN hi hx (he Z) ho hf) fun D τ H z_18=>by
  obtain ⟨D3,σ,S,hs,hr,⟨a,ea,ht⟩,hc⟩:=z_18
  obtain ⟨v,h1,h2⟩:=hs.at ea
  cases h2
  refine ⟨_,h1,σ,S,_,hs,hr,ht,fun y S' v H' k r l q=>?_⟩
  obtain ⟨b,rfl,q⟩:=q
  cases r
  exact ⟨a,b,rfl,rfl,hc.nx _ S' _ H' k ((hs.mono k).set (.int _) i) l q⟩
def while3 (c:TT3) (tb:TS3):TS3:=fun D σ S=>∃W:Nat→St3→Hp3→Prop,(∃m,W m σ S)∧∀m σ S,W m σ S →
  c σ S fun b S1=>if b=true then tb {D with nx:=fun σ' S'=>∃m',m'<m∧W m' σ' S',ct:=fun σ' S'=>∃m',m'<m∧W m' σ' S',bk:=D.nx} σ S1 else D.nx σ S1
theorem zhs {c:Expr} {body:List Stmt} {tc:TT3} {tb:TS3} (hp:PassesOwn (model X.prog X.w) X.A X.env X.xe) (hc:PT3 X W3 c tc) (hb:PSs3 X W3 body tb):PS3 X W3 (.While c body [] pos) (while3 tc tb):=fun Z=>PS.imp (zos hp (hc Z) (hb Z)) fun D τ H z_19=>by
  obtain ⟨D3,σ,S,hs,hr,⟨W,⟨m0,w0⟩,turn⟩,hc⟩:=z_19
  refine ⟨fun m τ' H'=>∃σ' S',Kp Z.z H H'∧SR X.K H' σ' τ'∧Rl X.K Z.z S' H'∧W m σ' S',⟨m0,σ,S,Kp.refl _ _,hs,hr,w0⟩,?_⟩
  rintro m τ1 H1 ⟨σ1,S1,k1,s1,l1,w1⟩
  refine ⟨σ1,S1,_,s1,l1,turn m σ1 S1 w1,fun b S2 H2 k2 l2 q2=>?_⟩
  cases b with
  | true =>
    rw [if_pos rfl] at q2 ⊢
    refine ⟨fun τ' H'=>∃m',m'<m∧∃σ' S',Kp Z.z H H'∧SR X.K H' σ' τ'∧Rl X.K Z.z S' H'∧W m' σ' S',fun τ' H' z=>z,_,σ1,S2,s1.mono k2,l2,q2,⟨?_,?_,?_,?_⟩⟩
    · exact fun σ' S' τ' H' k r l z_20=>by obtain ⟨m',hm,w⟩:=z_20;exact ⟨m',hm,σ',S',k1.trans (k2.trans k),r,l,w⟩
    · exact hc.nx.mono (k1.trans k2)
    · exact fun σ' S' τ' H' k r l z_21=>by obtain ⟨m',hm,w⟩:=z_21;exact ⟨m',hm,σ',S',k1.trans (k2.trans k),r,l,w⟩
    · exact hc.rt.mono (k1.trans k2)
  | false =>
    rw [if_neg Bool.false_ne_true] at q2 ⊢
    exact hc.nx σ1 S2 τ1 H2 (k1.trans k2) (s1.mono k2) l2 q2
end
noncomputable abbrev TI3:=St3→Hp3→(List D→(Hp3→Prop)→Hp3→Prop)→Prop
structure Wk (K:PySem.W.Frag) (Z:Zt) (J:It) (ds:List D) (Al:Hp3→Prop) (H0:Hp):Prop where
  go:∀i d S H,Kp Z H0 H→Rl K Z S H→Al S→ds[i]?=some d→J.go i H∧∀v H',J.yld i H v H'→Kp Z H H'∧Rp K H' d v∧(∀S',Rl K Z S' H→Rl K Z S' H')∧∀b,H b≠none→H' b=H b
  stop:∀S H,Kp Z H0 H→Rl K Z S H→Al S→J.stop ds.length H
def lI (K:PySem.W.Frag) (Z:Zt) (t:TI3):TI:=fun τ H R=>∃σ S R3,SR K H σ τ∧Rl K Z S H∧t σ S R3∧∀ds Al S' J H',Kp Z H H'→Rl K Z S' H'→R3 ds Al S'→Wk K Z J ds Al H'→R J H'
def PI3 (X:Cx) (W3:W3T) (tg iter:Expr) (t:TI3):Prop:=∀Z:ZX X W3,PI X tg iter (lI X.K Z.z t)
theorem PI.imp {X:Cx} {tg e:Expr} {t u:TI} (h:PI X tg e t) (f:∀σ H R,u σ H R→t σ H R):PI X tg e u:=fun pins s σ H Q I q=>h pins s σ H Q I (f _ _ _ q)
section
variable {X:Cx} {W3:W3T} {tg l:Expr} {tl:TE3} {pos:Pos}
def iL3 (tl:TE3):TI3:=fun σ S R=>tl σ S fun x S1=>(∃a ds,x=.ref a∧S1 a=some (.lst ds)∧R ds (fun S=>S a=some (.lst ds)) S1)∨∃ds,x=.rol ds∧R ds (fun _=>True) S1
theorem ziu (hl:PE3 X W3 l tl):PI3 X W3 tg l (iL3 tl):=fun Z=>PI.imp (zqz (hl Z)) fun τ H R z_22=>by
  obtain ⟨σ,S,R3,hs,hr,ht,hc⟩:=z_22
  refine ⟨σ,S,_,hs,hr,ht,fun x S1 v H1 k1 r1 l1 q1=>?_⟩
  rcases q1 with ⟨a,ds,rfl,e,q⟩|⟨ds,rfl,q⟩
  · cases r1
    obtain ⟨vs,h1,h2⟩:=l1.obj a _ e
    refine ⟨a,rfl,⟨vs,SqL.of h1⟩,hc ds _ S1 _ H1 k1 l1 q ⟨fun i d S2 H2 k2 l2 al hd=>?_,fun S2 H2 k2 l2 al=>?_⟩⟩
    · obtain ⟨ws,h3,h4⟩:=l2.obj a _ al
      obtain ⟨v,hv,rv⟩:=h4.at hd
      refine ⟨⟨ws,v,SqL.of h3,hv⟩,fun v' H' y=>?_⟩
      obtain ⟨rfl,y⟩:=y
      have:=y ws (SqL.of h3)
      rw [hv] at this
      cases this
      exact ⟨Kp.refl _ _,rv,fun _ z=>z,fun _ _=>rfl⟩
    · obtain ⟨ws,h3,h4⟩:=l2.obj a _ al
      exact ⟨ws,SqL.of h3,by rw [h4.len];exact Nat.le_refl _⟩
  · cases r1 with
    | @rol a vs _ h1 h2 =>
      refine ⟨a,rfl,⟨vs,h1.sq⟩,hc ds _ S1 _ H1 k1 l1 q ⟨fun i d S2 H2 k2 l2 al hd=>?_,fun S2 H2 k2 l2 al=>?_⟩⟩
      · obtain ⟨v,hv,rv⟩:=h2.at hd
        have h3:=(k2.scR h1).sq
        refine ⟨⟨vs,v,h3,hv⟩,fun v' H' y=>?_⟩
        obtain ⟨rfl,y⟩:=y
        have:=y vs h3
        rw [hv] at this
        cases this
        exact ⟨Kp.refl _ _,rv.mono k2,fun _ z=>z,fun _ _=>rfl⟩
      · exact ⟨vs,(k2.scR h1).sq,by rw [h2.len];exact Nat.le_refl _⟩
def iT3 (tl:TE3):TI3:=fun σ S R=>tl σ S fun x S1=>∃ds,x=.tup ds∧R ds (fun _=>True) S1
theorem i_tup (hl:PE3 X W3 l tl):PI3 X W3 tg l (iT3 tl):=fun Z=>PI.imp (pi_tup (hl Z)) fun τ H R z_23=>by
  obtain ⟨σ,S,R3,hs,hr,ht,hc⟩:=z_23
  refine ⟨σ,S,_,hs,hr,ht,fun x S1 v H1 k1 r1 l1 q1=>?_⟩
  obtain ⟨ds,rfl,q⟩:=q1
  cases r1 with
  | @tup a vs _ h1 h2 =>
    refine ⟨a,rfl,⟨vs,h1⟩,hc ds _ S1 _ H1 k1 l1 q ⟨fun i d S2 H2 k2 l2 al hd=>?_,fun S2 H2 k2 l2 al=>?_⟩⟩
    · obtain ⟨v,hv,rv⟩:=h2.at hd
      have h3:=k2.sqT h1
      refine ⟨⟨vs,v,h3,hv⟩,fun v' H' y=>?_⟩
      obtain ⟨rfl,y⟩:=y
      have:=y vs h3
      rw [hv] at this
      cases this
      exact ⟨Kp.refl _ _,rv.mono k2,fun _ z=>z,fun _ _=>rfl⟩
    · exact ⟨vs,k2.sqT h1,by rw [h2.len];exact Nat.le_refl _⟩
def iRev3 (ta:TA3):TI3:=fun σ S R=>ta σ S fun xs S1=>∃ds,xs=[.tup ds]∧R ds.reverse (fun _=>True) S1
theorem i_rev {a:Expr} {ta:TA3} {p:Pos} (hg:Gl X "reversed") (hm:X.mg "reversed"=none) (ha:PA3 X W3 [a] ta) (hs:starEach [a] X.env=[(false,eval a X.env)]:=by rfl):PI3 X W3 tg (.Call (.Name "reversed" p) [a] [] pos) (iRev3 ta) :=
  fun Z=>PI.imp (pi_rev hg hm (ha Z) hs) fun τ H R z_24=>by
  obtain ⟨σ,S,R3,hs,hr,ht,hc⟩:=z_24
  refine ⟨σ,S,_,hs,hr,ht,fun xs S1 vs0 H1 k1 r1 l1 q1=>?_⟩
  obtain ⟨ds,rfl,q⟩:=q1
  cases r1 with
  | cons r1 rr =>
    cases rr
    cases r1 with
    | @tup a vs _ h1 h2 =>
      have hl:=h2.len
      refine ⟨a,vs,rfl,h1,hc _ _ S1 _ H1 k1 l1 q ⟨fun i d S2 H2 k2 l2 al hd=>?_,fun S2 H2 k2 l2 al=>?_⟩⟩
      · have hi:i<ds.length:=show _ by
          have:=(List.getElem?_eq_some_iff.mp hd).1
          simpa using this
        rw [List.getElem?_reverse hi] at hd
        obtain ⟨v,hv,rv⟩:=h2.at hd
        have h3:=k2.sqT h1
        rw [hl] at hv
        refine ⟨⟨by omega,vs,h3,rfl⟩,fun v' H' y=>?_⟩
        obtain ⟨rfl,y⟩:=y
        have:=y vs h3
        rw [hv] at this
        cases this
        exact ⟨Kp.refl _ _,rv.mono k2,fun _ z=>z,fun _ _=>rfl⟩
      · show vs.length≤ds.reverse.length
        rw [List.length_reverse,hl]
        exact Nat.le_refl _
noncomputable def nums (lo:Int) (n:Nat):List D:=(List.range n).map fun i:Nat=>.int (lo+(i:Int))
theorem zca {lo:Int} {n i:Nat} {d:D} (h:(nums lo n)[i]?=some d):i<n∧d=.int (lo+(i:Int)):=show _ by
  unfold nums at h
  rw [List.getElem?_map] at h
  cases e:(List.range n)[i]? with
  | none=>rw [e] at h;cases h
  | some c =>
    rw [e] at h
    cases h
    obtain ⟨h1,h2⟩:=List.getElem?_eq_some_iff.mp e
    rw [List.getElem_range] at h2
    subst h2
    exact ⟨by simpa using h1,rfl⟩
theorem za2 {lo:Int} {n:Nat}:(nums lo n).length=n:=by simp [nums]
def iR1 (ta:TA3):TI3:=fun σ S R=>ta σ S fun vs S1=>∃j:Int,vs=[.int j]∧-(2^62)≤j∧j<2^62∧R (nums 0 j.toNat) (fun _=>True) S1
theorem wk_rng {K:PySem.W.Frag} {Z:Zt} {lo:Int} {n:Nat} {H:Hp}:Wk K Z (Itr lo n) (nums lo n) (fun _=>True) H:=show _ by
  refine ⟨fun i d S2 H2 k2 l2 al hd=>?_,fun S2 H2 k2 l2 al=>?_⟩
  · obtain ⟨hi,rfl⟩:=zca hd
    refine ⟨hi,fun v' H' y=>?_⟩
    obtain ⟨rfl,rfl⟩:=y
    exact ⟨Kp.refl _ _,.int _,fun _ z=>z,fun _ _=>rfl⟩
  · show n≤(nums lo n).length
    rw [za2]
    exact Nat.le_refl _
theorem zbw {a:Expr} {ta:TA3} {p:Pos} (hg:Gl X "range") (hm:X.mg "range"=none) (ha:PA3 X W3 [a] ta) (hs:starEach [a] X.env=[(false,eval a X.env)]:=by rfl):PI3 X W3 tg (.Call (.Name "range" p) [a] [] pos) (iR1 ta) :=
  fun Z=>PI.imp (zmo hg hm (ha Z) hs) fun τ H R z_26=>by
  obtain ⟨σ,S,R3,hs,hr,ht,hc⟩:=z_26
  refine ⟨σ,S,_,hs,hr,ht,fun xs S1 vs0 H1 k1 r1 l1 q1=>?_⟩
  obtain ⟨j,rfl,h1,h2,q⟩:=q1
  cases r1 with
  | cons r1 rr =>
    cases rr
    cases r1
    exact ⟨j,rfl,h1,h2,hc _ _ S1 _ H1 k1 l1 q wk_rng⟩
def for3 (wi:TI3) (g:TG3) (tb:TS3):TS3:=fun D σ S=>wi σ S fun ds Al S1=>∃W:Nat→St3→Hp3→Prop,W 0 σ S1∧(∀i σ S,W i σ S→Al S) ∧
  (∀i d σ S,ds[i]?=some d→W i σ S→g d σ S fun σ2 S2=>tb {D with nx:=W (i+1),ct:=W (i+1),bk:=D.nx} σ2 S2)∧∀σ S,W ds.length σ S→D.nx σ S
theorem zeu {iter:Expr} {body:List Stmt} {wi:TI3} {g:TG3} {tb:TS3} (hp:PassesOwn (model X.prog X.w) X.A X.env X.xe) (hc:X.calm=true) (hi:PI3 X W3 tg iter wi) (hg:PG3 X W3 tg g) (hb:PSs3 X W3 body tb)
    (hs:∀x,foldedSetIterable iter X.env x=pure x:=by intro _;rfl):PS3 X W3 (.For tg iter body [] pos) (for3 wi g tb):=fun Z=>PS.imp (ps_for hp hc (hi Z) (hg Z) (hb Z) hs) fun D τ H z_28=>by
  obtain ⟨D3,σ,S,hs,hr,ht,hc⟩:=z_28
  refine ⟨σ,S,_,hs,hr,ht,fun ds Al S1 J H1 k1 l1 q1 wk=>?_⟩
  obtain ⟨W,w0,al,turn,done⟩:=q1
  refine ⟨fun i m τ' H'=>m=ds.length-i∧i≤ds.length∧∃σ' S',Kp Z.z H1 H'∧SR X.K H' σ' τ'∧Rl X.K Z.z S' H'∧W i σ' S',⟨ds.length,by simp,Nat.zero_le _,σ,S1,Kp.refl _ _,hs.mono k1,l1,w0⟩,?_⟩
  rintro i m τ2 H2 ⟨rfl,hi,σ2,S2,k2,s2,l2,w2⟩
  by_cases hlt:i<ds.length
  · have hd:ds[i]?=some ds[i]:=List.getElem?_eq_getElem hlt
    obtain ⟨go,yl⟩:=wk.go i _ S2 H2 k2 l2 (al _ _ _ w2) hd
    refine .inr ⟨go,fun τ' H'=>i<ds.length∧∃σ' S',Kp Z.z H1 H'∧SR X.K H' σ' τ'∧Rl X.K Z.z S' H'∧W (i+1) σ' S',fun τ' H' z=>⟨ds.length-(i+1),by omega,rfl,z.1,z.2⟩,fun v H3 y=>?_⟩
    obtain ⟨k3,rv,l3,_⟩:=yl v H3 y
    refine ⟨_,σ2,S2,_,rv,s2.mono k3,l3 _ l2,turn i _ σ2 S2 hd w2,fun σ4 S4 τ4 H4 k4 s4 l4 q4=>?_⟩
    have k14:=k2.trans (k3.trans k4)
    refine ⟨_,σ4,S4,s4,l4,q4,⟨?_,?_,?_,?_⟩⟩
    · exact fun σ' S' τ' H' k r l w=>⟨hlt,σ',S',k14.trans k,r,l,w⟩
    · exact hc.nx.mono (k1.trans k14)
    · exact fun σ' S' τ' H' k r l w=>⟨hlt,σ',S',k14.trans k,r,l,w⟩
    · exact hc.rt.mono (k1.trans k14)
  · have e:i=ds.length:=show _ by omega
    subst e
    exact .inl ⟨wk.stop S2 H2 k2 l2 (al _ _ _ w2),hc.nx σ2 S2 τ2 H2 (k1.trans k2) s2 l2 (done σ2 S2 w2)⟩
noncomputable def pick3 (σ:St3) (js:List Nat):St3:=js.map fun j=>(σ[j]?).getD none
theorem SR.picks {K:PySem.W.Frag} {H:Hp} {σ:St3} {τ:L2.St} (h:SR K H σ τ) (js:List Nat):SR K H (pick3 σ js) (pick τ js):=show _ by
  unfold pick3 pick
  induction js with
  | nil=>exact .nil
  | cons j js ih =>
    refine .cons (fun d e=>?_) ih
    dsimp only at e ⊢
    cases q:σ[j]? with
    | none=>rw [q] at e;cases e
    | some o =>
      rw [q] at e
      have e:o=some d:=e
      subst e
      obtain ⟨v,h1,h2⟩:=h.at q
      exact ⟨v,by rw [h1];rfl,h2⟩
def comp3 (wi:TI3) (te:TE3) (js:List Nat):TE3:=fun σ S Q=>wi σ S fun ds Al S1=>∃W:Nat→List D→Hp3→Prop,W 0 [] S1∧(∀i ys S,W i ys S→Al S∧ys.length<sizeLine) ∧
  (∀i d ys S,ds[i]?=some d→W i ys S→te (some d::pick3 σ js) S fun y S'=>W (i+1) (ys++[y]) S')∧∀ys S,W ds.length ys S→newL S ys Q
def exZ (K:PySem.W.Frag) (te:TE3):TE:=fun τ H Q=>∃Z:Zt,lE K Z te τ H Q
theorem PE3.ex {X:Cx} {e:Expr} {te:TE3} (h:PE3 X NoX e te):PE X e (exZ X.K te):=fun pins s σ H Q I z_29=>by obtain ⟨Z,q⟩:=z_29;exact h (ZX.no X Z) pins s σ H Q I q
noncomputable abbrev Zt.hide (Z:Zt) (H:Hp) (p:Addr):Zt:=⟨fun a=>Z a∨a=p,H⟩
theorem Rl.hide {K:PySem.W.Frag} {Z:Zt} {S:Hp3} {H:Hp} {p:Addr} (l:Rl K Z S H) (hs:S p=none) (hh:H p≠none):Rl K (Z.hide H p) S H :=
  ⟨l.obj,fun a z=>z.elim (l.hid a) fun e=>e▸⟨hs,hh⟩,Kp.refl _ _⟩
theorem Rl.unhide {K:PySem.W.Frag} {Z Z':Zt} {S:Hp3} {H:Hp} (l:Rl K Z' S H) (h:∀a,Z a→Z' a) (o:Kp Z Z.base H):Rl K Z S H:=⟨l.obj,fun a z=>l.hid a (h a z),o⟩
theorem Kp.unhide {Z Z':Zt} {H H':Hp} (k:Kp Z' H H') (h:∀a,Z a→Z' a):Kp Z H H':=⟨k.tup,k.frz,fun a z=>k.hid a (h a z)⟩
theorem zi3 {K:PySem.W.Frag} {Z:Zt} {wi:TI3} {te:TE3} {js:List Nat} {τ:L2.St} {H:Hp} {Q:VK} (h:lE K Z (comp3 wi te js) τ H Q):tComp (lI K Z wi) (exZ K te) js τ H Q:=show _ by
  obtain ⟨σ,S,Q3,hs,hr,ht,hc⟩:=h
  refine ⟨σ,S,_,hs,hr,ht,fun ds Al S1 J H1 k1 l1 q1 wk=>?_⟩
  intro p hp
  obtain ⟨W,w0,al,turn,done⟩:=q1
  obtain ⟨hsp,hzp⟩:=l1.fresh hp
  have kp:Kp Z H1 (upd H1 p (.lst [])):=Kp.new hp hzp
  refine ⟨fun i m H'=>m=ds.length-i∧i≤ds.length∧∃ys vs S',Kp Z H1 H'∧H' p=some (.lst vs)∧Rps K H' ys vs∧S' p=none∧Rl K Z S' H'∧W i ys S',⟨ds.length,by simp,Nat.zero_le _,[],[],S1,kp,za5,.nil,hsp,l1.lay hp,w0⟩,?_⟩
  rintro i m H2 ⟨rfl,hi,ys,vs,S2,k2,hp2,ry,hs2,l2,w2⟩
  obtain ⟨al2,hz⟩:=al _ _ _ w2
  by_cases hlt:i<ds.length
  · have hd:ds[i]?=some ds[i]:=List.getElem?_eq_getElem hlt
    obtain ⟨go,yl⟩:=wk.go i _ S2 H2 k2 l2 al2 hd
    refine .inr ⟨go,fun H'=>i<ds.length∧∃ys vs S',Kp Z H1 H'∧H' p=some (.lst vs)∧Rps K H' ys vs∧S' p=none∧Rl K Z S' H'∧W (i+1) ys S',fun H' z=>⟨ds.length-(i+1),by omega,rfl,z.1,z.2⟩,fun v H3 y=>?_⟩
    obtain ⟨k3,rv,l3,o3⟩:=yl v H3 y
    have hp3:H3 p=some (.lst vs):=(o3 p (by rw [hp2];simp)).trans hp2
    refine ⟨Z.hide H3 p,_,S2,_,.cons (fun d e=>by cases e;exact ⟨v,rfl,rv⟩) (((hs.mono (k1.trans (k2.trans k3)))).picks js),(l3 _ l2).hide hs2 (by rw [hp3];simp),turn i _ ys S2 hd w2,?_⟩
    intro d S4 w H4 k4 r4 l4 q4
    have hp4:H4 p=some (.lst vs):=(k4.hid p (.inr rfl)).trans hp3
    have k4':=k4.unhide (Z:=Z) fun a z=>.inl z
    have l4':=l4.unhide (Z:=Z) (fun a z=>.inl z) ((l3 _ l2).old.trans k4')
    have kk:Kp Z H4 (upd H4 p (.lst (vs++[w]))):=by
      refine ⟨fun b xs e=>?_,fun b q u e=>?_,fun b z=>?_⟩
      · rw [zar];exact e
        rintro rfl;rw [hp4] at e;cases e
      · rw [zar];exact e
        rintro rfl;rw [hp4] at e;cases e
      · rw [zar];rintro rfl;exact hzp z
    have sp4:S4 p=none:=(l4.hid p (.inr rfl)).1
    have hlen:ys.length=vs.length:=ry.len
    refine ⟨vs,hp4,by omega,hlt,ys++[d],vs++[w],S4,k2.trans (k3.trans (k4'.trans kk)),za5,((ry.mono (k3.trans (k4'.trans kk)))).append (.cons (r4.mono kk) .nil),sp4,⟨fun b u e=>(l4'.obj b u e).keep kk (zar (ne3 e sp4)),fun b z=>?_,l4'.old.trans kk⟩,q4⟩
    have hb:b≠p:=fun e=>hzp (e▸z)
    rw [zar hb]
    exact l4'.hid b z
  · have e:i=ds.length:=by omega
    subst e
    refine .inl ⟨wk.stop S2 H2 k2 l2 al2,?_⟩
    refine hc (.ref p) (up S2 p (.lst ys)) (.ref p) H2 (k1.trans k2) (.ref p) ⟨fun b u e=>?_,fun b z=>?_,l2.old⟩ (done ys S2 w2 p hs2)
    · by_cases hb:b=p
      · subst hb
        rw [zab] at e
        cases e
        exact ⟨vs,hp2,ry⟩
      · rw [za8 hb] at e
        exact l2.obj b u e
    · have hb:b≠p:=fun e=>hzp (e▸z)
      rw [za8 hb]
      exact l2.hid b z
variable {elt iter:Expr} {x:Str} {px:Pos} {scope osc:Scope} {M N:List Str} {js:List Nat} {wi:TI3} {te:TE3}
theorem zkg (S:CompScope osc x M scope) (hjs:M.map some=js.map fun j=>N[j]?) (hc:X.calm=true) (hi:PI3 X W3 (.Name x px) iter wi)
    (he:∀(C:Addr) (fp:List Addr) (pins:List (Addr×Obj)) (s:Shared) (H:Hp),PE3 (cxComp X scope C (x::M) fp pins s H) NoX elt te)
    (hosc:X.env.scope=osc:=by rfl) (hN:X.N=N:=by rfl) (hs:∀v,foldedSetIterable iter X.env v=pure v:=by intro _;rfl) :
    PE3 X W3 (.ListComp elt [⟨.Name x px,iter,[],0⟩] scope pos) (comp3 wi te js):=fun Z =>
  PE.imp (zo3 S hjs hc (hi Z) (fun C fp pins s H=>(he C fp pins s H).ex) hosc hN hs) fun _ _ _ h=>zi3 h
theorem zg4 {i:Nat} {y:Str} {py spos:Pos} (S:CompScope osc x M scope) (hjs:M.map some=js.map fun j=>N[j]?) (hc:X.calm=true) (hi:PI3 X W3 (.Name x px) iter wi)
    (he:∀(C:Addr) (fp:List Addr) (pins:List (Addr×Obj)) (s:Shared) (H:Hp),PE3 (cxComp X scope C (x::M) fp pins s H) NoX elt te)
    (hNd:X.N.Nodup) (hy:X.N[i]?=some y) (hl:X.env.scope.names.lookup y=some .local)
    (hosc:X.env.scope=osc:=by rfl) (hN:X.N=N:=by rfl)
    (hsw:swapsWith (.ListComp elt [⟨.Name x px,iter,[],0⟩] scope pos) (some (.Name y py)) spos.line X.env=pure true:=by rfl) (hs:∀v,foldedSetIterable iter X.env v=pure v:=by intro _;rfl) :
    PS3 X W3 (.Assign [.Name y py] (.ListComp elt [⟨.Name x px,iter,[],0⟩] scope pos) spos) (set3 i (comp3 wi te js)):=fun Z =>
  PS.imp (zou S hjs hc (hi Z) (fun C fp pins s H=>(he C fp pins s H).ex) hNd hy hl hosc hN hsw hs) fun D τ H ⟨D3,σ,S,hs,hr,ht,hc⟩ =>
    zi3 ⟨σ,S,_,hs,hr,ht,fun d S' v H' k r l q=>hc.nx _ S' _ H' k ((hs.mono k).set r i) l q⟩
end
end E3
namespace E3
open PySem PySem.Spec PyProof.Rows L2 EE
section
variable {K:PySem.W.Frag}
def i3 (g:Int→Int→D):R3:=fun x y S Q=>∃i j,x=.int i∧y=.int j∧Q (g i j) S
def ic3 (C:Int→Int→Prop) (g:Int→Int→D):R3:=fun x y S Q=>∃i j,x=.int i∧y=.int j∧C i j∧Q (g i j) S
theorem zbz {g:Int→Int→Int}:Dn2 K (i3 fun i j=>.int (g i j)) (rI0 fun i j=>.int (g i j)):=by
  intro Z x y S Q3 v w H Q rx ry l h c
  obtain ⟨i,j,rfl,rfl,q⟩:=h
  cases rx
  cases ry
  exact ⟨i,j,rfl,rfl,c _ S _ H (Kp.refl _ _) (.int _) l q⟩
theorem zce {g:Int→Int→Bool}:Dn2 K (i3 fun i j=>.bl (g i j)) (rI0 fun i j=>.bl (g i j)):=by
  intro Z x y S Q3 v w H Q rx ry l h c
  obtain ⟨i,j,rfl,rfl,q⟩:=h
  cases rx
  cases ry
  exact ⟨i,j,rfl,rfl,c _ S _ H (Kp.refl _ _) (.bl _) l q⟩
theorem zag {C:Int→Int→Prop} {g:Int→Int→Int}:Dn2 K (ic3 C fun i j=>.int (g i j)) (rI C fun i j=>.int (g i j)):=by
  intro Z x y S Q3 v w H Q rx ry l h c
  obtain ⟨i,j,rfl,rfl,h,q⟩:=h
  cases rx
  cases ry
  exact ⟨i,j,rfl,rfl,h,c _ S _ H (Kp.refl _ _) (.int _) l q⟩
def addS3:R3:=fun x y S Q=>∃i j,x=.str i∧y=.str j∧i.length+j.length≤sizeLine∧Q (.str (i++j)) S
theorem zge:Dn2 K addS3 (fun x y H Q=>∃i j,x=.str i∧y=.str j∧i.length+j.length≤sizeLine∧Q (.str (i++j)) H):=by
  intro Z x y S Q3 v w H Q rx ry l h c
  obtain ⟨i,j,rfl,rfl,h,q⟩:=h
  cases rx
  cases ry
  exact ⟨i,j,rfl,rfl,h,c _ S _ H (Kp.refl _ _) (.str _) l q⟩
noncomputable def isNon:D→Bool
  | .non=>true
  | _=>false
theorem zg8 {H:Hp} {x:D} {v:V} (r:Rp K H x v):isNon x=decide (v=.non):=by
  cases r<;>rfl
def isN3:R3:=fun x y S Q=>y=.non∧Q (.bl (isNon x)) S
def notN3:R3:=fun x y S Q=>y=.non∧Q (.bl (!isNon x)) S
theorem zgd:Dn2 K isN3 (fun x y H Q=>y=.non∧Q (.bl (decide (x=.non))) H):=by
  intro Z x y S Q3 v w H Q rx ry l h c
  obtain ⟨rfl,q⟩:=h
  cases ry
  rw [←zg8 rx]
  exact ⟨rfl,c _ S _ H (Kp.refl _ _) (.bl _) l q⟩
theorem znq:Dn2 K notN3 (fun x y H Q=>y=.non∧Q (.bl (!decide (x=.non))) H):=by
  intro Z x y S Q3 v w H Q rx ry l h c
  obtain ⟨rfl,q⟩:=h
  cases ry
  rw [←zg8 rx]
  exact ⟨rfl,c _ S _ H (Kp.refl _ _) (.bl _) l q⟩
def eqI3:R3:=i3 fun i j=>.bl (decide (i=j))
def neI3:R3:=i3 fun i j=>.bl (!decide (i=j))
def eqS3:R3:=fun x y S Q=>∃i j,x=.str i∧y=.str j∧Q (.bl (decide (i=j))) S
def neS3:R3:=fun x y S Q=>∃i j,x=.str i∧y=.str j∧Q (.bl (!decide (i=j))) S
theorem zp6 {i j:Int}:decide (V.int i=V.int j)=decide (i=j):=by rw [zjr];rfl
theorem zp5 {i j:Str}:decide (V.str i=V.str j)=decide (i=j):=by
  by_cases h:i=j
  · subst h;simp
  · have:V.str i≠V.str j:=fun e=>h (V.str.inj e)
    simp [h]
theorem zbr:Dn2 K eqI3 rEq:=by
  intro Z x y S Q3 v w H Q rx ry l h c
  obtain ⟨i,j,rfl,rfl,q⟩:=h
  cases rx
  cases ry
  refine ⟨rfl,?_⟩
  rw [zp6]
  exact c _ S _ H (Kp.refl _ _) (.bl _) l q
theorem znr:Dn2 K neI3 rNe:=by
  intro Z x y S Q3 v w H Q rx ry l h c
  obtain ⟨i,j,rfl,rfl,q⟩:=h
  cases rx
  cases ry
  refine ⟨rfl,?_⟩
  rw [zp6]
  exact c _ S _ H (Kp.refl _ _) (.bl _) l q
theorem zb2:Dn2 K eqS3 rEq:=by
  intro Z x y S Q3 v w H Q rx ry l h c
  obtain ⟨i,j,rfl,rfl,q⟩:=h
  cases rx
  cases ry
  refine ⟨rfl,?_⟩
  rw [zp5]
  exact c _ S _ H (Kp.refl _ _) (.bl _) l q
theorem zp1:Dn2 K neS3 rNe:=by
  intro Z x y S Q3 v w H Q rx ry l h c
  obtain ⟨i,j,rfl,rfl,q⟩:=h
  cases rx
  cases ry
  refine ⟨rfl,?_⟩
  rw [zp5]
  exact c _ S _ H (Kp.refl _ _) (.bl _) l q
mutual
inductive Dn (S:Hp3):D→Dt→Prop where
  | non:Dn S .non .non
  | bl (b:Bool):Dn S (.bl b) (.bl b)
  | int (i:Int):Dn S (.int i) (.int i)
  | str (x:Str):Dn S (.str x) (.str x)
  | tup {ds:List D} {es:List Dt}:Dns S ds es→Dn S (.tup ds) (.tup es)
  | rol {ds:List D} {es:List Dt}:Dns S ds es→Dn S (.rol ds) (.lst es)
  | ref {a:Addr} {ds:List D} {es:List Dt}:S a=some (.lst ds)→Dns S ds es→Dn S (.ref a) (.lst es)
inductive Dns (S:Hp3):List D→List Dt→Prop where
  | nil:Dns S [] []
  | cons {d:D} {e:Dt} {ds:List D} {es:List Dt}:Dn S d e→Dns S ds es→Dns S (d::ds) (e::es)
end
mutual
theorem Dn.down {Z:Zt} {S:Hp3} {H:Hp} (l:Rl K Z S H):∀{d:D} {e:Dt} {v:V},Dn S d e→Rp K H d v→DR K H e v
  | _,_,_,.non,r=>by cases r;exact .non
  | _,_,_,.bl _,r=>by cases r;exact .bl _
  | _,_,_,.int _,r=>by cases r;exact .int _
  | _,_,_,.str _,r=>by cases r;exact .str _
  | _,_,_,.tup h,r=>by cases r with|tup p q=>exact .tup p (Dns.down l h q)
  | _,_,_,.rol h,r=>by cases r with|rol p q=>exact .lst p.sq (Dns.down l h q)
  | _,_,_,.ref e h,r=>by
    cases r
    obtain ⟨vs,h1,h2⟩:=l.obj _ _ e
    exact .lst (SqL.of h1) (Dns.down l h h2)
theorem Dns.down {Z:Zt} {S:Hp3} {H:Hp} (l:Rl K Z S H):∀{ds:List D} {es:List Dt} {vs:List V},Dns S ds es→Rps K H ds vs→DRs K H es vs
  | _,_,_,.nil,r=>by cases r;exact .nil
  | _,_,_,.cons h t,r=>by cases r with|cons p q=>exact .cons (Dn.down l h p) (Dns.down l t q)
end
mutual
noncomputable def D.dt:D→Dt
  | .non=>.non
  | .bl b=>.bl b
  | .int i=>.int i
  | .str x=>.str x
  | .tup ds=>.tup (D.dts ds)
  | .rol ds=>.lst (D.dts ds)
  | .ref _=>.non
  | .ty _=>.non
noncomputable def D.dts:List D→List Dt
  | []=>[]
  | d::ds=>d.dt::D.dts ds
end
mutual
noncomputable def D.pure:D→Bool
  | .tup ds=>D.pures ds
  | .rol ds=>D.pures ds
  | .ref _=>false
  | .ty _=>false
  | _=>true
noncomputable def D.pures:List D→Bool
  | []=>true
  | d::ds=>d.pure&&D.pures ds
end
mutual
theorem Dn.of {S:Hp3}:∀{d:D},d.pure=true→Dn S d d.dt
  | .non,_=>.non
  | .bl _,_=>.bl _
  | .int _,_=>.int _
  | .str _,_=>.str _
  | .tup ds,h=>by simp only [D.pure] at h;simp only [D.dt];exact .tup (Dns.of h)
  | .rol ds,h=>by simp only [D.pure] at h;simp only [D.dt];exact .rol (Dns.of h)
  | .ref _,h=>by simp [D.pure] at h
  | .ty _,h=>by simp [D.pure] at h
theorem Dns.of {S:Hp3}:∀{ds:List D},D.pures ds=true→Dns S ds (D.dts ds)
  | [],_=>.nil
  | d::ds,h=>by
    simp only [D.pures,Bool.and_eq_true] at h
    simp only [D.dts]
    exact .cons (Dn.of h.1) (Dns.of h.2)
end
theorem D.pures_iff:∀{ds:List D},D.pures ds=true↔∀d∈ds,d.pure=true
  | []=>by simp [D.pures]
  | d::ds=>by simp [D.pures,D.pures_iff (ds:=ds)]
theorem D.dts_map:∀ds:List D,D.dts ds=ds.map D.dt
  | []=>rfl
  | d::ds=>by simp only [D.dts,List.map_cons,D.dts_map ds]
def eqD3 (n:Nat):R3:=fun x y S Q=>∃d e,Dn S x d∧Dn S y e∧deepD d≤n∧Q (.bl (eqD d e)) S
theorem zp3 {n:Nat}:Dn2 K (eqD3 n) (fun x y H Q=>∃d e,DR K H d x∧DR K H e y∧deepD d≤n∧Q (.bl (eqD d e)) H):=by
  intro Z x y S Q3 v w H Q rx ry l h c
  obtain ⟨d,e,h1,h2,hn,q⟩:=h
  exact ⟨d,e,h1.down l rx,h2.down l ry,hn,c _ S _ H (Kp.refl _ _) (.bl _) l q⟩
noncomputable def flatD:D→Bool
  | .non=>true
  | .bl _=>true
  | .int _=>true
  | .str _=>true
  | _=>false
noncomputable def vD:D→V
  | .non=>.non
  | .bl b=>.bl b
  | .int i=>.int i
  | .str x=>.str x
  | _=>.non
theorem zga {H:Hp} {x:D} {v:V} (r:Rp K H x v) (h:flatD x=true):v=vD x∧flatV v=true:=by
  cases r<;>first|exact ⟨rfl,rfl⟩|(simp [flatD] at h)
theorem zdx {H:Hp}:∀{ds:List D} {vs:List V},Rps K H ds vs→ds.all flatD=true→vs=ds.map vD∧vs.all flatV=true
  | _,_,.nil,_=>⟨rfl,rfl⟩
  | _,_,.cons r t,h=>by
    simp only [List.all_cons,Bool.and_eq_true] at h
    obtain ⟨e1,f1⟩:=zga r h.1
    obtain ⟨e2,f2⟩:=zdx t h.2
    subst e1
    subst e2
    exact ⟨rfl,by simp only [List.all_cons,f1,f2,Bool.and_self]⟩
noncomputable def memD (x:D) (ds:List D):Bool:=inV (vD x) (ds.map vD)
def in3 (neg:Bool):R3:=fun x y S Q=>∃ds,(IsL S y ds∨y=.tup ds)∧flatD x=true∧ds.all flatD=true∧Q (.bl (if neg then !memD x ds else memD x ds)) S
theorem dn_in {neg:Bool}:Dn2 K (in3 neg) (rIn K neg):=show _ by
  intro Z x y S Q3 v w H Q rx ry l h c
  obtain ⟨ds,hy,fx,fd,q⟩:=h
  obtain ⟨e1,f1⟩:=zga rx fx
  subst e1
  rcases hy with hy|rfl
  · obtain ⟨a,vs,rfl,h1,h2⟩:=hy.down ry l
    obtain ⟨e2,f2⟩:=zdx h2 fd
    subst e2
    exact ⟨a,_,rfl,.inl h1,f1,f2,c _ S _ H (Kp.refl _ _) (.bl _) l q⟩
  · cases ry with
    | tup h1 h2 =>
      obtain ⟨e2,f2⟩:=zdx h2 fd
      subst e2
      exact ⟨_,_,rfl,.inr h1,f1,f2,c _ S _ H (Kp.refl _ _) (.bl _) l q⟩
theorem zm2 (x:Str) (xs:List Str):memD (.str x) (xs.map D.str)=decide (x∈xs):=show _ by
  unfold memD inV
  induction xs with
  | nil=>rfl
  | cons y ys ih =>
    simp only [List.map_cons,List.any_cons,List.mem_cons]
    rw [ih]
    by_cases h:y=x
    · subst h;simp [eqV,vD]
    · have h':¬x=y:=fun z=>h z.symm
      simp [eqV,vD,h,h']
theorem znl (xs:List Str):(xs.map D.str).all flatD=true:=by
  induction xs with
  | nil=>rfl
  | cons y ys ih=>simp only [List.map_cons,List.all_cons,ih];rfl
def ixL3:R3:=fun x y S Q=>∃ds i d,IsL S x ds∧y=.int i∧atI ds i=some d∧Q d S
def ixT3:R3:=fun x y S Q=>∃ds i d,x=.tup ds∧y=.int i∧atI ds i=some d∧Q d S
def ixS3:R3:=fun x y S Q=>∃z i c,x=.str z∧y=.int i∧z.length≤sizeLine∧atI z.cps.toList i=some c∧Q (.str ⟨#[c]⟩) S
theorem Rps.atI {H:Hp} {ds:List D} {vs:List V} {i:Int} {d:D} (r:Rps K H ds vs) (h:L2.atI ds i=some d):∃v,L2.atI vs i=some v∧Rp K H d v:=by
  unfold L2.atI at h ⊢
  rw [r.len] at h
  cases e:ixN vs.length i with
  | none=>rw [e] at h;cases h
  | some j =>
    rw [e] at h
    exact r.at h
theorem zba:Dn2 K ixL3 (rIxL K):=by
  intro Z x y S Q3 v w H Q rx ry l h c
  obtain ⟨ds,i,d,h1,rfl,h2,q⟩:=h
  cases ry
  obtain ⟨a,vs,rfl,h3,h4⟩:=h1.down rx l
  obtain ⟨u,h5,h6⟩:=h4.atI h2
  exact ⟨a,vs,i,u,rfl,rfl,h3,h5,c d S u H (Kp.refl _ _) h6 l q⟩
theorem zan:Dn2 K ixT3 (rIxT K):=by
  intro Z x y S Q3 v w H Q rx ry l h c
  obtain ⟨ds,i,d,rfl,rfl,h2,q⟩:=h
  cases ry
  cases rx with
  | tup h3 h4 =>
    obtain ⟨u,h5,h6⟩:=h4.atI h2
    exact ⟨_,_,i,u,rfl,rfl,h3,h5,c d S u H (Kp.refl _ _) h6 l q⟩
theorem zp2:Dn2 K ixS3 rIxS:=by
  intro Z x y S Q3 v w H Q rx ry l h c
  obtain ⟨z,i,k,rfl,rfl,hz,h2,q⟩:=h
  cases ry
  cases rx
  exact ⟨z,i,k,rfl,rfl,hz,h2,c _ S _ H (Kp.refl _ _) (.str _) l q⟩
noncomputable def cutD (xs:List D) (lo hi:Option Int):List D:=(xs.drop (HT.sIx xs.length 0 lo)).take (HT.sIx xs.length xs.length hi-HT.sIx xs.length 0 lo)
theorem Rps.cut {H:Hp} {ds:List D} {vs:List V} (r:Rps K H ds vs) (lo hi:Option Int):Rps K H (cutD ds lo hi) (cutV vs lo hi):=by
  unfold cutD cutV
  rw [r.len]
  exact (r.drop _).take _
def slL3:D→Option Int→Option Int→Hp3→K3→Prop:=fun x lo hi S Q=>∃ds,IsL S x ds∧newL S (cutD ds lo hi) Q
def slT3:D→Option Int→Option Int→Hp3→K3→Prop:=fun x lo hi S Q=>∃ds,x=.tup ds∧Q (.tup (cutD ds lo hi)) S
def slS3:D→Option Int→Option Int→Hp3→K3→Prop:=fun x lo hi S Q=>∃z,x=.str z∧z.length≤sizeLine∧Q (.str (textOf (cutT z.cps.toList lo hi))) S
theorem zdr:DnS K slL3 (rSlL K):=by
  intro Z x lo hi S Q3 v H Q rx l h c
  obtain ⟨ds,h1,q⟩:=h
  obtain ⟨a,vs,rfl,h3,h4⟩:=h1.down rx l
  exact ⟨a,vs,rfl,h3,newL.down q (h4.cut lo hi) l c⟩
theorem zhc:DnS K slS3 rSlS:=by
  intro Z x lo hi S Q3 v H Q rx l h c
  obtain ⟨z,rfl,hz,q⟩:=h
  cases rx
  exact ⟨z,rfl,hz,c _ S _ H (Kp.refl _ _) (.str _) l q⟩
def catL3:R3:=fun x y S Q=>∃a b ds es,x=.ref a∧y=.ref b∧S a=some (.lst ds)∧S b=some (.lst es)∧ds.length+es.length≤sizeLine∧newL S (ds++es) Q
theorem zjp:Dn2 K catL3 rCat:=show _ by
  intro Z x y S Q3 v w H Q rx ry l h c
  obtain ⟨a,b,ds,es,rfl,rfl,h1,h2,hz,q⟩:=h
  cases rx
  cases ry
  obtain ⟨vs,h3,h4⟩:=l.obj a _ h1
  obtain ⟨ws,h5,h6⟩:=l.obj b _ h2
  exact ⟨a,b,vs,ws,rfl,rfl,h3,h5,by rw [←h4.len,←h6.len];exact hz,newL.down q (h4.append h6) l c⟩
def catT3:R3:=fun x y S Q=>∃ds es,x=.tup ds∧y=.tup es∧ds≠[]∧ds.length+es.length≤sizeLine∧Q (.tup (ds++es)) S
def len3:List D→Hp3→K3→Prop:=fun xs S Q=>∃x ds,xs=[x]∧(IsL S x ds∨x=.tup ds)∧Q (.int ds.length) S
theorem zby:DnC K len3 (fun xs H Q=>∃p ys,xs=[.ref p]∧(SqL K H p ys∨SqT K H p ys)∧Q (.int ys.length) H):=show _ by
  intro Z ds S Q3 vs H Q r l h c
  obtain ⟨x,es,rfl,hx,q⟩:=h
  cases r with
  | cons r rr =>
    cases rr
    rcases hx with hx|rfl
    · obtain ⟨a,ws,rfl,h3,h4⟩:=hx.down r l
      refine ⟨a,ws,rfl,.inl h3,?_⟩
      rw [←h4.len]
      exact c _ S _ H (Kp.refl _ _) (.int _) l q
    · cases r with
      | tup h3 h4 =>
        refine ⟨_,_,rfl,.inr h3,?_⟩
        rw [←h4.len]
        exact c _ S _ H (Kp.refl _ _) (.int _) l q
def lenS3:List D→Hp3→K3→Prop:=fun xs S Q=>∃z,xs=[.str z]∧z.length≤sizeLine∧Q (.int z.length) S
theorem zrn:DnC K lenS3 (fun xs H Q=>∃z,xs=[.str z]∧z.length≤sizeLine∧Q (.int z.length) H):=by
  intro Z ds S Q3 vs H Q r l h c
  obtain ⟨z,rfl,hz,q⟩:=h
  cases r with
  | cons r rr =>
    cases rr
    cases r
    exact ⟨z,rfl,hz,c _ S _ H (Kp.refl _ _) (.int _) l q⟩
def toList3:List D→Hp3→K3→Prop:=fun xs S Q=>∃x ds,xs=[x]∧(IsL S x ds∨x=.tup ds)∧newL S ds Q
theorem ziz:DnC K toList3 (fun xs H Q=>∃p ys,xs=[.ref p]∧(SqL K H p ys∨SqT K H p ys)∧∀l,H l=none→Q (.ref l) (upd H l (.lst ys))):=show _ by
  intro Z ds S Q3 vs H Q r l h c
  obtain ⟨x,es,rfl,hx,q⟩:=h
  cases r with
  | cons r rr =>
    cases rr
    rcases hx with hx|rfl
    · obtain ⟨a,ws,rfl,h3,h4⟩:=hx.down r l
      exact ⟨a,ws,rfl,.inl h3,newL.down q h4 l c⟩
    · cases r with
      | tup h3 h4=>exact ⟨_,_,rfl,.inr h3,newL.down q h4 l c⟩
def toTup3:List D→Hp3→K3→Prop:=fun xs S Q=>∃x ds,xs=[x]∧(IsL S x ds∨x=.tup ds)∧Q (.tup ds) S
theorem zdk:DnC K toTup3 (fun xs H Q=>∃p ys,xs=[.ref p]∧((SqL K H p ys∧∀l,H l=none→Q (.ref l) (upd H l (.tup ys)))∨(SqT K H p ys∧Q (.ref p) H))):=show _ by
  intro Z ds S Q3 vs H Q r l h c
  obtain ⟨x,es,rfl,hx,q⟩:=h
  cases r with
  | cons r rr =>
    cases rr
    rcases hx with hx|rfl
    · obtain ⟨a,ws,rfl,h3,h4⟩:=hx.down r l
      exact ⟨a,ws,rfl,.inl ⟨h3,tup.down q h4 l c⟩⟩
    · cases r with
      | tup h3 h4=>exact ⟨_,_,rfl,.inr ⟨h3,c _ S _ H (Kp.refl _ _) (.tup h3 h4) l q⟩⟩
def append3:D→List D→Hp3→K3→Prop:=fun x ys S Q=>∃a ds y,x=.ref a∧ys=[y]∧S a=some (.lst ds)∧ds.length<sizeLine∧Q .non (up S a (.lst (ds++[y])))
theorem zaq:DnM K append3 rAppend:=show _ by
  intro Z x ds S Q3 v vs H Q rx r l h c
  obtain ⟨a,es,y,rfl,rfl,e,hz,q⟩:=h
  cases rx
  cases r with
  | @cons _ w _ _ r rr =>
    cases rr
    obtain ⟨ws,h1,h2⟩:=l.obj a _ e
    have kk:Kp Z H (upd H a (.lst (ws++[w]))):=Kp.at l e
    exact ⟨a,ws,w,rfl,rfl,h1,by rw [←h2.len];exact hz,c _ _ _ _ kk .non (l.put (o:=.lst (es++[y])) kk (l.notZ e) ⟨_,za5,(h2.mono kk).append (.cons (r.mono kk) .nil)⟩) q⟩
def pop3:D→List D→Hp3→K3→Prop:=fun x ys S Q=>∃a ds y,x=.ref a∧ys=[]∧S a=some (.lst (ds++[y]))∧Q y (up S a (.lst ds))
theorem zdb:DnM K pop3 rPopS:=show _ by
  intro Z x ds S Q3 v vs H Q rx r l h c
  obtain ⟨a,es,y,rfl,rfl,e,q⟩:=h
  cases rx
  cases r
  obtain ⟨ws,h1,h2⟩:=l.obj a _ e
  obtain ⟨us,u,rfl,h3,h4⟩:=h2.snoc_inv
  have kk:Kp Z H (upd H a (.lst us)):=Kp.at l e
  exact ⟨a,us,u,rfl,rfl,h1,c _ _ _ _ kk (h4.mono kk) (l.put (o:=.lst es) kk (l.notZ e) ⟨_,za5,h3.mono kk⟩) q⟩
def extendT3:D→List D→Hp3→K3→Prop:=fun x ys S Q=>∃a ds es,x=.ref a∧ys=[.tup es]∧S a=some (.lst ds)∧ds.length+es.length≤sizeLine∧Q .non (up S a (.lst (ds++es)))
theorem zlm:DnM K extendT3 (rExtendT K):=show _ by
  intro Z x ds S Q3 v vs H Q rx r l h c
  obtain ⟨a,es,fs,rfl,rfl,e,hz,q⟩:=h
  cases rx
  cases r with
  | cons r rr =>
    cases rr
    cases r with
    | @tup b us _ h3 h4 =>
      obtain ⟨ws,h1,h2⟩:=l.obj a _ e
      have kk:Kp Z H (upd H a (.lst (ws++us))):=Kp.at l e
      exact ⟨a,b,ws,us,rfl,rfl,h1,h3,by rw [←h2.len,←h4.len];exact hz,c _ _ _ _ kk .non (l.put (o:=.lst (es++fs)) kk (l.notZ e) ⟨_,za5,(h2.mono kk).append (h4.mono kk)⟩) q⟩
end
end E3
namespace E3
open PySem PySem.Spec PyProof.Rows L2 EE
section
variable {prog:Program} {w:World} {A:Around} {E:Value→Shared→Prop} {s:Shared}
theorem zez {t sl:Addr} {items:Array Value} {vl vu:Value} {lo hi:Option Int} {Q:Value→Shared→Prop} (ht:IsTup s.heap t items) (hs:s.heap.IsSliceOf sl vl vu .none) (pl:IsPart vl lo) (pu:IsPart vu hi)
    (hw:HT.sIx items.size 0 lo=0∧HT.sIx items.size items.size hi=items.size) (h:Q (.ref t) s):wpAny (model prog w) A (getItem (.ref t) (.ref sl)) Q E s:=show _ by
  obtain ⟨os,hos,hcs,hds⟩:=id hs
  have hTs:s.TypeIs (.ref sl) "slice":=⟨os,hos,hcs⟩
  obtain ⟨o,ho,hc,hd⟩:=id ht
  unfold getItem
  try with_reducible refine wpAny_holding ?_
  first|refine wpAny_bind (wpAny_pure ?_)|skip
  refine wpAny_bind (wpAny_sequenceKey ht.typeIs (by decide) ?_)
  refine wpAny_bind (wpAny_callSpecial?_slot (name:=Str.ofString "__getitem__") ht.typeIs PyProof.Rows.slot_tuple_getitem
    (wpAny_call_entry PyProof.Rows.slot_tuple_getitem ht.typeIs entry_tuple_getitem ?_ (args_tuple_getitem _ _)))
  show wpAny _ _ (Builtin.Tuple.tupleItemsOf (.ref t) >>= _) _ _ s
  refine wpAny_bind (tupleItemsOf_ ht ?_)
  refine wpAny_bind (wpAny_typeOf hTs ?_)
  rw [if_pos (by decide)]
  refine wpAny_bind (HT.zdl hs pl pu ?_)
  have hyes:(((HT.sIx items.size 0 lo:Nat):Int)==0&&(1:Int)==1&&(HT.sIx items.size items.size hi-HT.sIx items.size 0 lo)==items.size)=true:=by
    rw [hw.1,hw.2]
    simp
  show wpAny _ _ (if (((HT.sIx items.size 0 lo:Nat):Int)==0&&(1:Int)==1&&(HT.sIx items.size items.size hi-HT.sIx items.size 0 lo)==items.size)=true then _ else _) _ _ s
  rw [if_pos hyes]
  refine wpAny_bind (m:=Builtin.Tuple.tupleIsExact (Value.ref t)) ?_
  unfold Builtin.Tuple.tupleIsExact
  first
    | refine wpAny_bind (wpAny_typeOf ht.typeIs (wpAny_pure ?_))
    | exact wpAny_bind (wpAny_typeOf ht.typeIs (wpAny_pure ?_))
  rw [if_pos (by decide)]
  exact wpAny_bind (wpAny_rule (wpAny_pure ⟨_,rfl,wpAny_pure h⟩))
end
section
variable {X:Cx}
def rSlTA (K:PySem.W.Frag):V→Option Int→Option Int→Hp→VK→Prop:=fun x lo hi H Q=>∃a xs,x=.ref a∧SqT K H a xs ∧
  ((HT.sIx xs.length 0 lo=0∧HT.sIx xs.length xs.length hi=xs.length)→Q (.ref a) H)∧(¬(HT.sIx xs.length 0 lo=0∧HT.sIx xs.length xs.length hi=xs.length)→∀p,H p=none→Q (.ref p) (upd H p (.tup (cutV xs lo hi))))
theorem zhq:SlR X (rSlTA X.K):=show _ by
  intro pins s σ H x v vl vu lo hi sl Q I rx hs pl pu h
  obtain ⟨a,xs,rfl,hx,h1,h2⟩:=h
  by_cases hw:HT.sIx xs.length 0 lo=0∧HT.sIx xs.length xs.length hi=xs.length
  · cases rx
    obtain ⟨its,r,ht,hz⟩:=I.tuple hx
    have hlen:its.toArray.size=xs.length:=by rw [List.size_toArray];exact r.length.symm
    refine ⟨"tuple",_,PyProof.Rows.slot_tuple_getitem.lookup,ht.typeIs,?_⟩
    refine zez ht hs pl pu (by rw [hlen];exact hw) ?_
    exact ⟨.ref a,H,I,rfl,h1 hw⟩
  · exact sl_tup pins s σ H _ v vl vu lo hi sl Q I rx hs pl pu ⟨a,xs,rfl,hx,hw,h2 hw⟩
theorem zpl {xs:List D} {lo hi:Option Int} (h:HT.sIx xs.length 0 lo=0∧HT.sIx xs.length xs.length hi=xs.length):cutD xs lo hi=xs:=by
  unfold cutD
  rw [h.1,h.2,List.drop_zero,Nat.sub_zero,List.take_length]
theorem zki {K:PySem.W.Frag}:DnS K slT3 (rSlTA K):=show _ by
  intro Z x lo hi S Q3 v H Q rx l h c
  obtain ⟨ds,rfl,q⟩:=h
  cases rx with
  | @tup a vs _ h3 h4 =>
    refine ⟨a,vs,rfl,h3,fun e=>?_,fun _=>tup.down q (h4.cut lo hi) l c⟩
    rw [←h4.len] at e
    rw [zpl e] at q
    exact c _ S _ H (Kp.refl _ _) (.tup h3 h4) l q
theorem zh5 {K:PySem.W.Frag}:Dn2 K catT3 (rCatT K):=show _ by
  intro Z x y S Q3 v w H Q rx ry l h c
  obtain ⟨ds,es,rfl,rfl,hn,hz,q⟩:=h
  cases rx with
  | @tup a vs _ h1 h2 =>
    cases ry with
    | @tup b ws _ h3 h4 =>
      refine ⟨a,b,vs,ws,rfl,rfl,h1,h3,?_,by rw [←h2.len,←h4.len];exact hz,fun e=>?_,fun _=>tup.down q (h2.append h4) l c⟩
      · rintro rfl
        cases h2
        exact hn rfl
      · subst e
        cases h4
        rw [List.append_nil] at q
        exact c _ S _ H (Kp.refl _ _) (.tup h1 h2) l q
def TyN (S:Hp3):D→String→Prop
  | .non,n=>n="NoneType"
  | .bl _,n=>n="bool"
  | .int _,n=>n="int"
  | .str _,n=>n="str"
  | .tup _,n=>n="tuple"
  | .rol _,n=>n="list"
  | .ref a,n=>(n="list"∧∃ds,S a=some (.lst ds))∨(n="dict"∧∃kvs,S a=some (.dic kvs))
  | .ty _,_=>False
inductive TyB (K:PySem.W.Frag) (H:Hp):V→String→Prop where
  | of {x:V} {n:String}:TyOf K H x (.type n)→TyB K H x n
  | tup {a:Addr} {xs:List V}:SqT K H a xs→TyB K H (.ref a) "tuple"
  | lst {a:Addr} {xs:List V}:SqL K H a xs→TyB K H (.ref a) "list"
theorem zen:CallR X (.builtin "isinstance") (fun xs H Q=>∃x n m b,xs=[x,.ty n]∧TyB X.K H x m∧PySem.W.kitOne X.K (.type m) (.type n)=some b∧Q (.bl b) H):=show _ by
  intro pins s σ H xs us Q I r h
  obtain ⟨x,n,m,b,rfl,ty,e,q⟩:=h
  obtain ⟨u,c,rfl,rx,rc⟩:=vals2 r
  obtain rfl:c=Value.type n:=rc
  cases ty with
  | of t=>exact znb I rx t e fun tk=>⟨.bl b,H,I.tok _,rfl,q⟩
  | @tup a xs ht =>
    cases (show u=Value.ref a from rx)
    obtain ⟨_,_,⟨o,h1,h2,_⟩,_⟩:=I.tuple ht
    exact PySem.W.kia_one PySem.W.kitx_tuple I.kIn ⟨o,h1,h2⟩ e (fun z=>nomatch z) fun tk=>⟨.bl b,H,I.tok _,rfl,q⟩
  | @lst a xs ht =>
    cases (show u=Value.ref a from rx)
    obtain ⟨_,_,⟨o,n,h1,h2,_⟩,_⟩:=I.list ht
    exact PySem.W.kia_one PySem.W.kitx_list I.kIn ⟨o,h1,h2⟩ e (fun z=>nomatch z) fun tk=>⟨.bl b,H,I.tok _,rfl,q⟩
theorem TyN.down {K:PySem.W.Frag} {Z:Zt} {S:Hp3} {H:Hp} {x:D} {v:V} {n:String} (h:TyN S x n) (r:Rp K H x v) (l:Rl K Z S H):TyB K H v n:=show _ by
  cases r with
  | non=>cases h;exact .of .non
  | bl b=>cases h;exact .of (.bl b)
  | int i=>cases h;exact .of (.int i)
  | str x=>cases h;exact .of (.str x)
  | tup h1 h2=>cases h;exact .tup h1
  | rol h1 h2=>cases h;exact .lst h1.sq
  | ty n=>exact h.elim
  | ref a =>
    rcases h with ⟨rfl,ds,e⟩|⟨rfl,kvs,e⟩
    · obtain ⟨vs,h1,_⟩:=l.obj a _ e
      exact .lst (SqL.of h1)
    · obtain ⟨vs,h1,_⟩:=l.obj a _ e
      exact .of (.dK h1)
noncomputable def kin (m n:String):Option Bool:=if m=n then some true else if m="bool"∧n="int" then some true else
  if m∈["NoneType","bool","int","str","tuple","list","dict"]∧n∈["bool","int","str","tuple","list","dict"] then some false else none
theorem kin_ok {K:PySem.W.Frag} {m n:String} {b:Bool} (h:kin m n=some b):PySem.W.kitOne K (.type m) (.type n)=some b:=show _ by
  by_cases e:m=n
  · subst e
    rw [kin,if_pos rfl] at h
    cases h
    exact zpe K m
  rw [kin,if_neg e] at h
  by_cases e2:m="bool"∧n="int"
  · rw [if_pos e2] at h
    cases h
    obtain ⟨rfl,rfl⟩:=e2
    unfold PySem.W.kitOne PySem.W.kitCls PySem.W.subIn
    dsimp only
    decide +kernel
  rw [if_neg e2] at h
  by_cases e3:m∈["NoneType","bool","int","str","tuple","list","dict"]∧n∈["bool","int","str","tuple","list","dict"]
  · rw [if_pos e3] at h
    cases h
    obtain ⟨h1,h2⟩:=e3
    simp only [List.mem_cons,List.not_mem_nil,or_false] at h1 h2
    unfold PySem.W.kitOne PySem.W.kitCls PySem.W.subIn
    dsimp only
    rcases h1 with rfl|rfl|rfl|rfl|rfl|rfl|rfl<;>rcases h2 with rfl|rfl|rfl|rfl|rfl|rfl<;>first|exact absurd rfl e|exact absurd ⟨rfl,rfl⟩ e2|decide +kernel
  · rw [if_neg e3] at h
    cases h
def isB3:List D→Hp3→K3→Prop:=fun xs S Q=>∃x n m b,xs=[x,.ty n]∧TyN S x m∧kin m n=some b∧Q (.bl b) S
theorem zi0 {K:PySem.W.Frag}:DnC K isB3 (fun xs H Q=>∃x n m b,xs=[x,.ty n]∧TyB K H x m∧PySem.W.kitOne K (.type m) (.type n)=some b∧Q (.bl b) H):=show _ by
  intro Z ds S Q3 vs H Q r l h c
  obtain ⟨x,n,m,b,rfl,ty,e,q⟩:=h
  cases r with
  | cons r rr =>
    cases rr with
    | cons r2 rr =>
      cases rr
      cases r2
      exact ⟨_,n,m,b,rfl,ty.down r l,kin_ok e,c _ S _ H (Kp.refl _ _) (.bl _) l q⟩
end
noncomputable abbrev Sp3:=List D→Hp3→K3→X3→Prop
inductive lSp (K:PySem.W.Frag) (sp:Sp3) (vs:List V) (H:Hp) (Q:VK) (E:XK):Prop where
  | mk (Z:Zt) (ds:List D) (S:Hp3) (Q3:K3) (E3:X3) (h1:Rps K H ds vs) (h2:Rl K Z S H) (h3:sp ds S Q3 E3) (h4:CK K Z H Q3 Q) (h5:CE3 K Z H E3 E)
structure Cal3 (P:Program) (w:World) (K:PySem.W.Frag) (mg:Str→Option Value) (base:Heap) (k:Nat) (x:Str) (ps:List Str) (sp:Sp3):Prop where
  ex:∃f fd,FnOk P w K mg base (CX1 P w) k f fd ps (lSp K sp)∧Binds K fd ps []∧PySem.W.keepIn K (.ref f)=true∧mg x=some (.ref f)
noncomputable def start3 (N:List Str) (ds:List D):St3:=ds.map some++List.replicate (N.length-ds.length) none
section
variable {P:Program} {w:World} {K:PySem.W.Frag} {mg:Str→Option Value} {base:Heap}
theorem Cal3.mono {j k:Nat} {x:Str} {ps:List Str} {sp:Sp3} (C:Cal3 P w K mg base j x ps sp) (h:j≤k):Cal3 P w K mg base k x ps sp:=by
  obtain ⟨f,fd,F,r⟩:=C.ex
  exact ⟨f,fd,F.mono h,r⟩
theorem Cal3.imp {k:Nat} {x:Str} {ps:List Str} {sp sp':Sp3} (C:Cal3 P w K mg base k x ps sp) (h:∀ds S Q E,sp' ds S Q E→sp ds S Q E):Cal3 P w K mg base k x ps sp':=show _ by
  obtain ⟨f,fd,F,r⟩:=C.ex
  refine ⟨f,fd,F.imp fun vs H Q E z_1=>by obtain ⟨Z,ds,S,Q3,E3,h1,h2,h3,h4,h5⟩:=z_1;exact ⟨Z,ds,S,Q3,E3,h1,h2,h _ _ _ _ h3,h4,h5⟩,r⟩
def Spl (S A B:Hp3):Prop:=∀a,(S a=A a∧B a=none)∨(A a=none∧S a=B a)
def Sub (A B:Hp3):Prop:=∀a o,A a=some o→B a=some o
def fr (sp:Sp3):Sp3:=fun ds S Q E=>∃S0 F,Spl S S0 F∧sp ds S0 (fun d S1=>∃S2,Sub S2 S1∧∀S',Spl S' S2 F→Q d S') (fun C a S1=>∃S2,Sub S2 S1∧∀S',Spl S' S2 F→E C a S')
theorem Rl.sub {Z:Zt} {S S':Hp3} {H:Hp} (l:Rl K Z S H) (h:Sub S' S):Rl K Z S' H:=by
  refine ⟨fun a o e=>l.obj a o (h a o e),fun a z=>⟨?_,(l.hid a z).2⟩,l.old⟩
  cases e:S' a with
  | none=>rfl
  | some o =>
    have:=h a o e
    rw [(l.hid a z).1] at this
    cases this
noncomputable def join (A B:Hp3):Hp3:=fun a=>match A a with
  | some o=>some o
  | none=>B a
noncomputable abbrev Zt.with (Z:Zt) (H:Hp) (F:Hp3):Zt:=⟨fun a=>Z a∨F a≠none,H⟩
theorem Rl.frame {Z:Zt} {S S0 F S1 S2:Hp3} {H H':Hp} (l:Rl K Z S H) (hs:Spl S S0 F) (k:Kp (Z.with H F) H H') (l1:Rl K (Z.with H F) S1 H') (h2:Sub S2 S1) :
    Spl (join S2 F) S2 F∧Rl K Z (join S2 F) H':=show _ by
  have l2:=l1.sub h2
  have dis:∀a,F a≠none→S2 a=none:=fun a z=>(l2.hid a (.inr z)).1
  refine ⟨fun a=>?_,fun a o e=>?_,fun a z=>?_,l.old.trans (k.unhide fun a z=>.inl z)⟩
  · cases e:F a with
    | none =>
      refine .inl ⟨?_,rfl⟩
      unfold join
      cases e2:S2 a with
      | none=>exact e
      | some o=>rfl
    | some o =>
      have:=dis a (by rw [e];simp)
      refine .inr ⟨this,?_⟩
      unfold join
      rw [this]
      exact e
  · unfold join at e
    cases e2:S2 a with
    | some q =>
      rw [e2] at e
      cases e
      exact l2.obj a _ e2
    | none =>
      rw [e2] at e
      have e:F a=some o:=e
      have hne:F a≠none:=by rw [e];simp
      have hS:S a=some o:=by
        rcases hs a with ⟨_,z⟩|⟨_,z⟩
        · exact absurd z hne
        · rw [z];exact e
      exact (l.obj a o hS).keep k (k.hid a (.inr hne))
  · have z1:=l2.hid a (.inl z)
    have z2:=(l.hid a z).1
    refine ⟨?_,z1.2⟩
    unfold join
    rw [z1.1]
    show F a=none
    rcases hs a with ⟨_,q⟩|⟨_,q⟩
    · exact q
    · rw [←q];exact z2
theorem Cal3.frame {k:Nat} {x:Str} {ps:List Str} {sp:Sp3} (C:Cal3 P w K mg base k x ps sp):Cal3 P w K mg base k x ps (fr sp):=show _ by
  obtain ⟨f,fd,F0,r⟩:=C.ex
  refine ⟨f,fd,F0.imp fun vs H Q E ⟨Z,ds,S,Q3,E3,h1,l,⟨S0,F,hs,h3⟩,cq,ce⟩=>?_,r⟩
  refine ⟨Z.with H F,ds,S0,_,_,h1,⟨fun a o e=>?_,fun a z=>?_,Kp.refl _ _⟩,h3,?_,?_⟩
  · refine l.obj a o ?_
    rcases hs a with ⟨q,_⟩|⟨q,_⟩
    · rw [q];exact e
    · rw [q] at e;cases e
  · rcases z with z|z
    · have z2:=l.hid a z
      refine ⟨?_,z2.2⟩
      rcases hs a with ⟨q,_⟩|⟨q,_⟩
      · rw [←q];exact z2.1
      · exact q
    · rcases hs a with ⟨_,q⟩|⟨q,q2⟩
      · exact absurd q z
      · refine ⟨q,?_⟩
        cases e:F a with
        | none=>exact absurd e z
        | some o=>exact (l.obj a o (q2.trans e)).there
  · rintro d S1 v H' k1 r1 l1 ⟨S2,hsub,q⟩
    obtain ⟨sp',l'⟩:=l.frame hs k1 l1 hsub
    exact cq d _ v H' (k1.unhide fun a z=>.inl z) r1 l' (q _ sp')
  · rintro C a S1 H' k1 l1 ha ⟨S2,hsub,q⟩
    obtain ⟨sp',l'⟩:=l.frame hs k1 l1 hsub
    exact ce C a _ H' (k1.unhide fun a z=>.inl z) l' ha (q _ sp')
theorem zjc (S:Hp3):Spl S emp S:=fun _=>.inr ⟨rfl,rfl⟩
theorem zgs {S F:Hp3} (h:Spl S emp F):S=F:=by
  funext a
  rcases h a with ⟨q,z⟩|⟨_,q⟩
  · rw [q,z];rfl
  · exact q
theorem zl0 (S:Hp3):Sub emp S:=fun a o e=>(nomatch e)
noncomputable def one (p:Addr) (o:O):Hp3:=fun a=>if a=p then some o else none
theorem zqd {S F:Hp3} {p:Addr} {o:O} (h:Spl S (one p o) F):F p=none∧S=up F p o:=show _ by
  have hp:F p=none:=by
    rcases h p with ⟨_,z⟩|⟨q,_⟩
    · exact z
    · simp [one] at q
  refine ⟨hp,funext fun a=>?_⟩
  by_cases e:a=p
  · subst e
    rw [zab]
    rcases h a with ⟨q,_⟩|⟨q,_⟩
    · rw [q];simp [one]
    · simp [one] at q
  · rw [za8 e]
    rcases h a with ⟨q,z⟩|⟨_,q⟩
    · rw [q,z];simp [one,e]
    · exact q
theorem sub_one {S:Hp3} {p:Addr} {o:O} (h:S p=some o):Sub (one p o) S:=fun a u e=>by
  unfold one at e
  split at e
  · subst a;cases e;exact h
  · cases e
def vS (A:List D→(D→Prop)→Prop):Sp3:=fun ds S Q _=>A ds fun d=>Q d S
def lSt (A:List D→(List D→Prop)→Prop):Sp3:=fun ds S Q _=>A ds fun ys=>newL S ys Q
variable {x:Str} {st:Stmt} {N ps:List Str} {k:Nat}
noncomputable abbrev Zt.at (Z:Zt) (H:Hp):Zt:=⟨Z.p,H⟩
theorem Rl.into {Z:Zt} {S:Hp3} {H:Hp} (l:Rl K Z S H):Rl K (Z.at H) S H:=⟨l.obj,l.hid,Kp.refl _ _⟩
theorem Rl.out {Z:Zt} {S S':Hp3} {H H':Hp} (l':Rl K (Z.at H) S' H') (l:Rl K Z S H) (k:Kp (Z.at H) H H'):Rl K Z S' H':=⟨l'.obj,l'.hid,l.old.trans (k.unhide fun _ z=>z)⟩
noncomputable def zx0 {X:Cx} (Z:Zt) (H:Hp):ZX X NoX:=ZX.no X (Z.at H)
theorem _root_.EE.Has.cal3 {sp:Sp3} (h:Has K mg x st ps) (S:FnScope N ps (defScope st)) (len:∀vs H Q E,sp vs H Q E→vs.length=ps.length)
    (hbody:∀(f:Addr) (cdv:Value) (A:Around) (outer:List Env) (s:Shared) (H:Hp) (E:XK) (ds:List D) (S:Hp3) (Q:K3) (E3:X3),Room k (A.deeper (envOfC x (defScope st) s.heap.objs.size f cdv))→sp ds S Q E3 →
      ∃t Q',PSs3 (cxOf (CX1 P w) P w K mg base N x (defScope st) f cdv A outer s H E).nox NoX (defBody st) t∧t {nx:=fun _ S'=>Q' .non S',rt:=Q'} (start3 N ds) S∧∀d S',Q' d S'→Q d S'):Cal3 P w K mg base (k+1) x ps sp:=show _ by
  obtain ⟨f,fd,F,b,m⟩:=h.ex
  obtain ⟨oc,od,kV,doc,pm,an,cdv,ct,osl,rfl,lk,hcd⟩:=F.ex
  refine ⟨f,_,zri lk hcd S (fun vs H Q E z_2=>by obtain ⟨Z,ds,S,Q3,E3,h1,_,h3,_,_⟩:=z_2;rw [←h1.len];exact len _ _ _ _ h3) fun A outer s H vs Q E hr ⟨Z,ds,S3,Q3,E3,h1,h2,h3,h4,_⟩=>?_,b,F.kp,m⟩
  obtain ⟨t,Q',ht,q,hw⟩:=hbody f cdv A outer s H E ds S3 Q3 E3 hr h3
  refine ⟨_,(ht (zx0 Z H)).nox,_,start3 N ds,S3,?_,h2.into,q,⟨?_,?_,?_,?_⟩⟩
  · unfold start3 L2.start
    rw [h1.len]
    exact zbv (SR.ofRps h1) (SR.nones _)
  · intro σ S' τ H' kk _ l q'
    exact h4 .non S' .non H' (kk.unhide fun _ z=>z) .non (l.out h2 kk) (hw _ _ q')
  · exact fun _ _ _ _ _ _ _ z=>z
  · exact fun _ _ _ _ _ _ _ z=>z
  · exact fun d S' v H' kk r l q'=>h4 d S' v H' (kk.unhide fun _ z=>z) r (l.out h2 kk) (hw _ _ q')
theorem _root_.EE.Has.val {A:List D→(D→Prop)→Prop} (h:Has K mg x st ps) (S:FnScope N ps (defScope st)) (len:∀ds q,A ds q→ds.length=ps.length)
    (hbody:∀(f:Addr) (cdv:Value) (Ar:Around) (outer:List Env) (s:Shared) (H:Hp) (E:XK) (ds:List D) (q:D→Prop),Room k (Ar.deeper (envOfC x (defScope st) s.heap.objs.size f cdv))→A ds q →
      ∃t,PSs3 (cxOf (CX1 P w) P w K mg base N x (defScope st) f cdv Ar outer s H E).nox NoX (defBody st) t∧t {nx:=fun _ _=>q .non,rt:=fun d _=>q d} (start3 N ds) emp):Cal3 P w K mg base (k+1) x ps (vS A):=show _ by
  have C:Cal3 P w K mg base (k+1) x ps (fun ds S Q E=>S=emp∧∃q,A ds q∧∀d S',q d→Q d S'):=by
    refine h.cal3 S (fun vs H Q E z_3=>by obtain ⟨_,q,z,_⟩:=z_3;exact len _ _ z) fun f cdv Ar outer s H E ds S3 Q E3 hr z=>?_
    obtain ⟨rfl,q,z,hq⟩:=z
    obtain ⟨t,h1,h2⟩:=hbody f cdv Ar outer s H E ds _ hr z
    exact ⟨t,fun d _=>q d,h1,h2,hq⟩
  exact C.frame.imp fun ds S Q E z=>⟨emp,S,zjc S,rfl,_,z,fun d S1 hq=>⟨emp,zl0 _,fun S' h=>zgs h▸hq⟩⟩
theorem _root_.EE.Has.lst {A:List D→(List D→Prop)→Prop} (h:Has K mg x st ps) (S:FnScope N ps (defScope st)) (len:∀ds q,A ds q→ds.length=ps.length)
    (hbody:∀(f:Addr) (cdv:Value) (Ar:Around) (outer:List Env) (s:Shared) (H:Hp) (E:XK) (ds:List D) (q:List D→Prop),Room k (Ar.deeper (envOfC x (defScope st) s.heap.objs.size f cdv))→A ds q →
      ∃t,PSs3 (cxOf (CX1 P w) P w K mg base N x (defScope st) f cdv Ar outer s H E).nox NoX (defBody st) t∧t {nx:=fun _ _=>False,rt:=fun d S'=>∃p ys,d=.ref p∧S' p=some (.lst ys)∧q ys} (start3 N ds) emp):Cal3 P w K mg base (k+1) x ps (lSt A):=show _ by
  have C:Cal3 P w K mg base (k+1) x ps (fun ds S Q E=>S=emp∧∃q,A ds q∧∀d S',(∃p ys,d=.ref p∧S' p=some (.lst ys)∧q ys)→Q d S'):=by
    refine h.cal3 S (fun vs H Q E z_4=>by obtain ⟨_,q,z,_⟩:=z_4;exact len _ _ z) fun f cdv Ar outer s H E ds S3 Q E3 hr z=>?_
    obtain ⟨rfl,q,z,hq⟩:=z
    obtain ⟨t,h1,h2⟩:=hbody f cdv Ar outer s H E ds _ hr z
    refine ⟨t,fun d S'=>∃p ys,d=.ref p∧S' p=some (.lst ys)∧q ys,h1,?_,hq⟩
    have e:(fun (_:St3) (_:Hp3)=>False)=fun (_:St3) (S':Hp3)=>∃p ys,D.non=.ref p∧S' p=some (.lst ys)∧q ys:=by
      funext _ S'
      refine propext ⟨False.elim,fun z=>?_⟩
      obtain ⟨p,ys,z,_⟩:=z
      cases z
    rw [←e]
    exact h2
  refine C.frame.imp fun ds S Q E z=>⟨emp,S,zjc S,rfl,_,z,fun d S1 ⟨p,ys,e,hp,hq⟩=>⟨one p (.lst ys),sub_one hp,fun S' h=>?_⟩⟩
  obtain ⟨h1,rfl⟩:=zqd h
  subst e
  exact hq p h1
section
variable {X:Cx} {CX:CXT} {k:Nat} {f C:Addr} {fd:FuncData} {ps:List Str} {sp:Sp} {dvs:List V} {ds:List Value} {E:L2.St→XK} {x:Str} {p pos:Pos} {e:Expr} {es:List Expr} {t:TA}
theorem zo6 (F:FnOk X.prog X.w X.K X.mg X.base CX k f fd ps sp) (hr:Room k X.A) (hg:Gl X x) (hm:X.mg x=some (.ref f)) (hk:PySem.W.keepIn X.K (.ref f)=true) (hb:Binds X.K fd ps ds) (hd:Vals dvs ds) (hx:∀τ,PassesAt CX X (E τ) τ)
    (ha:PA X (e::es) t) (hdb:(x==("__debug__":Str))=false:=by decide) (he:starEach (e::es) X.env=(false,eval e X.env)::starEach es X.env:=by rfl) (hpl:(backTo pos (starEach es X.env)).any (·.1)=false:=by rfl) :
    PE X (.Call (.Name x p) (e::es) [] pos) (fun τ H Q=>t τ H fun vs H1=>sp (vs++dvs) H1 Q (E τ)):=show _ by
  intro pins s σ H Q I h
  refine wpAny_Call_Name_kw (zjn I hg hm ?_ hdb)
  refine PySem.W.callWith_K (h₀:=X.base) I.ok.mod.kin hk (thn (ha pos pins s σ H _ I h) fun us s1 ⟨vs,H1,I1,r,q⟩=>⟨I1.kIn,?_⟩) he hpl
  have r2:Vals (vs++dvs) (us++ds):=r.append hd
  have hl:(us++ds).length=ps.length:=by rw [←r2.length];exact F.len _ _ _ _ q
  refine wpAny_call (codeAny_mono (F.run X.A X.stack s1 H1 ⟨us,[]⟩ (us++ds) (vs++dvs) Q (E σ) hr I1.env0 (hb s1 us I1.kIn hl) r2 q) fun r s' hq=>?_)
  cases r with
  | error e=>exact hx σ pins H1 s1 e s' I1 hq
  | ok fl =>
    cases fl with
    | ret u=>exact I1.after hq
    | next=>exact False.elim hq
    | brk=>exact False.elim hq
    | cont=>exact False.elim hq
end
def call3 (sp:Sp3) (W3:W3T) (t:TA3):TE3:=fun σ S Q=>t σ S fun ds S1=>sp ds S1 Q (W3 σ)
variable {X:Cx} {W3:W3T} {y:Str} {pos p:Pos} {e:Expr} {es:List Expr} {t:TA3} {sp:Sp3}
theorem zai (C:Cal3 X.prog X.w X.K X.mg X.base k y ps sp) (hr:Room k X.A) (hg:Gl X y) (ha:PA3 X W3 (e::es) t)
    (hdb:(y==("__debug__":Str))=false:=by decide) (he:starEach (e::es) X.env=(false,eval e X.env)::starEach es X.env:=by rfl) (hpl:(backTo pos (starEach es X.env)).any (·.1)=false:=by rfl) :
    PE3 X W3 (.Call (.Name y p) (e::es) [] pos) (call3 sp W3 t):=show _ by
  obtain ⟨f,fd,F,b,kp,m⟩:=C.ex
  refine fun Z=>PE.imp (zo6 F hr hg m kp b .nil Z.pass (ha Z) hdb he hpl) fun τ H Q ⟨σ,S,Q3,hs,hr,ht,hc⟩=>?_
  refine ⟨σ,S,_,hs,hr,ht,fun ds S1 vs H1 k1 r1 l1 q1=>?_⟩
  exact ⟨Z.z,ds,S1,Q3,W3 σ,by rw [List.append_nil];exact r1,l1,q1,hc.mono k1,fun C a S2 H2 k2 l2 ha z=>Z.ce σ τ C a S2 H2 (hs.mono (k1.trans k2)) l2 ha z⟩
end
end E3
namespace E3
open PySem PySem.Spec PyProof.Rows L2 EE
section
variable {σ:St3} {S:Hp3} {Q:K3} {QT:Bool→Hp3→Prop} {QA:List D→Hp3→Prop} {QO:Option Int→Hp3→Prop} {ta tb te:TE3} {tA tB:TT3} {t u:TS3} {al:TA3} {r:R3} {n b c:St3→Hp3→Prop} {rt:K3} {i:Nat}
theorem j_seq (h:t ⟨u ⟨n,rt,b,c⟩,rt,b,c⟩ σ S):seq3 t u ⟨n,rt,b,c⟩ σ S:=h
theorem j_next (h:n σ S):next3 ⟨n,rt,b,c⟩ σ S:=h
theorem j_drop (h:te σ S fun _ S1=>n σ S1):drop3 te ⟨n,rt,b,c⟩ σ S:=h
theorem j_ret (h:te σ S rt):ret3 te ⟨n,rt,b,c⟩ σ S:=h
theorem j_set (h:te σ S fun x S1=>n (σ.set i (some x)) S1):set3 i te ⟨n,rt,b,c⟩ σ S:=h
theorem j_asg {g:TG3} (h:te σ S fun x S1=>g x σ S1 n):asg3 te g ⟨n,rt,b,c⟩ σ S:=h
theorem j_aug {f:Int→Int→Int} {a:Int} (ha:σ[i]?=some (some (.int a))) (h:te σ S fun y S1=>∃b,y=.int b∧n (σ.set i (some (.int (f a b)))) S1):aug3 i te f ⟨n,rt,b,c⟩ σ S:=⟨a,ha,h⟩
theorem j_ei {k:Int} {P:Int→Prop} (h:P k):∃b,D.int k=.int b∧P b:=⟨k,rfl,h⟩
theorem j_ifs (h:tA σ S fun b' S1=>if b'=true then t ⟨n,rt,b,c⟩ σ S1 else u ⟨n,rt,b,c⟩ σ S1):ifs3 tA t u ⟨n,rt,b,c⟩ σ S:=h
theorem j_name {v:D} {Qs:St3→Hp3→Prop} (h:Qs (σ.set i (some v)) S):name3 i v σ S Qs:=h
theorem j_v {d:D} (h:σ[i]?=some (some d)) (q:Q d S):v3 i σ S Q:=⟨d,h,q⟩
theorem j_c {d:D} (q:Q d S):c3 d σ S Q:=q
theorem j_o (h:ta σ S fun x S1=>tb σ S1 fun y S2=>r x y S2 Q):o3 r ta tb σ S Q:=h
theorem j_i3 {g:Int→Int→D} {k j:Int} (q:Q (g k j) S):i3 g (.int k) (.int j) S Q:=⟨k,j,rfl,rfl,q⟩
theorem j_mod {g:Int→Int→D} {k j:Int} (h:0<j) (q:Q (g k j) S):ic3 (fun _ j=>0<j) g (.int k) (.int j) S Q:=⟨k,j,rfl,rfl,h,q⟩
theorem j_div {g:Int→Int→D} {k j:Int} (h:0<j∧j<1073741824) (q:Q (g k j) S):ic3 CDiv g (.int k) (.int j) S Q:=⟨k,j,rfl,rfl,h,q⟩
theorem j_addS {x y:Str} (h:x.length+y.length≤sizeLine) (q:Q (.str (x++y)) S):addS3 (.str x) (.str y) S Q:=⟨x,y,rfl,rfl,h,q⟩
theorem j_isN {x:D} (q:Q (.bl (isNon x)) S):isN3 x .non S Q:=⟨rfl,q⟩
theorem j_notN {x:D} (q:Q (.bl (!isNon x)) S):notN3 x .non S Q:=⟨rfl,q⟩
theorem j_eqI {k j:Int} (q:Q (.bl (decide (k=j))) S):eqI3 (.int k) (.int j) S Q:=⟨k,j,rfl,rfl,q⟩
theorem j_neI {k j:Int} (q:Q (.bl (!decide (k=j))) S):neI3 (.int k) (.int j) S Q:=⟨k,j,rfl,rfl,q⟩
theorem j_eqS {k j:Str} (q:Q (.bl (decide (k=j))) S):eqS3 (.str k) (.str j) S Q:=⟨k,j,rfl,rfl,q⟩
theorem j_neS {k j:Str} (q:Q (.bl (!decide (k=j))) S):neS3 (.str k) (.str j) S Q:=⟨k,j,rfl,rfl,q⟩
theorem j_test (h:te σ S fun x S'=>∃k,x=.bl k∧QT k S'):test3 te σ S QT:=h
theorem j_eb {k:Bool} {P:Bool→Prop} (h:P k):∃b,D.bl k=.bl b∧P b:=⟨k,rfl,h⟩
theorem j_truth (h:te σ S fun x S1=>∃k,Tru S1 x k∧QT k S1):truth3 te σ S QT:=h
theorem j_truL {a:Addr} {ds:List D} {P:Bool→Prop} (hS:S a=some (.lst ds)) (h:P (!ds.isEmpty)):∃k,Tru S (.ref a) k∧P k:=⟨_,.inl ⟨ds,hS,rfl⟩,h⟩
theorem j_and (h:tA σ S fun c' S1=>if c'=true then tB σ S1 QT else QT false S1):and3 tA tB σ S QT:=h
theorem j_or (h:tA σ S fun c' S1=>if c'=true then QT true S1 else tB σ S1 QT):or3 tA tB σ S QT:=h
theorem j_not (h:tA σ S fun c' S1=>QT (!c') S1):not3 tA σ S QT:=h
theorem j_andv (h:ta σ S fun x S1=>∃c',x=.bl c'∧if c'=true then tb σ S1 Q else Q (.bl false) S1):andv3 ta tb σ S Q:=h
theorem j_notv (h:ta σ S fun x S1=>∃c',x=.bl c'∧Q (.bl (!c')) S1):notv3 ta σ S Q:=h
theorem j_ifx (h:tA σ S fun c' S1=>if c'=true then ta σ S1 Q else tb σ S1 Q):if3 tA ta tb σ S Q:=h
theorem j_nil (h:QA [] S):nil3 σ S QA:=h
theorem j_cons (h:te σ S fun x S1=>al σ S1 fun xs S2=>QA (x::xs) S2):cons3 te al σ S QA:=h
theorem j_tup (h:al σ S fun xs S1=>xs.length≤sizeLine∧Q (.tup xs) S1):tup3 al σ S Q:=h
theorem j_lst (h:al σ S fun xs S1=>xs.length≤sizeLine∧newL S1 xs Q):lst3 al σ S Q:=h
theorem j_sz {α:Type} {xs:List α} {P:Prop} (h:xs.length≤sizeLine) (q:P):xs.length≤sizeLine∧P:=⟨h,q⟩
theorem j_cb {f:List D→Hp3→K3→Prop} (h:al σ S fun vs S1=>f vs S1 Q):cb3 f al σ S Q:=h
theorem j_call {sp:Sp3} {W3:W3T} (h:al σ S fun ds S1=>sp ds S1 Q (W3 σ)):call3 sp W3 al σ S Q:=h
theorem j_bm {T:String} {m:D→List D→Hp3→K3→Prop} (h:te σ S fun x S1=>TyD T x S1∧al σ S1 fun xs S2=>m x xs S2 Q):bm3 T m te al σ S Q:=h
theorem j_bm0 {T:String} {m:D→List D→Hp3→K3→Prop} (h:te σ S fun x S1=>TyD T x S1∧m x [] S1 Q):bm03 T m te σ S Q:=h
theorem j_tyL {a:Addr} {ds:List D} {P:Prop} (h:S a=some (.lst ds)) (q:P):TyD "list" (.ref a) S∧P:=⟨.inr (.inl ⟨rfl,ds,.inl ⟨a,rfl,h⟩⟩),q⟩
theorem j_append {a:Addr} {ds:List D} {y:D} (h:S a=some (.lst ds)) (hz:ds.length<sizeLine) (q:Q .non (up S a (.lst (ds++[y])))):append3 (.ref a) [y] S Q:=⟨a,ds,y,rfl,rfl,h,hz,q⟩
theorem j_pop {a:Addr} {ds:List D} {y:D} (h:S a=some (.lst (ds++[y]))) (q:Q y (up S a (.lst ds))):pop3 (.ref a) [] S Q:=⟨a,ds,y,rfl,rfl,h,q⟩
theorem j_extendT {a:Addr} {ds es:List D} (h:S a=some (.lst ds)) (hz:ds.length+es.length≤sizeLine) (q:Q .non (up S a (.lst (ds++es)))):extendT3 (.ref a) [.tup es] S Q:=⟨a,ds,es,rfl,rfl,h,hz,q⟩
theorem j_ixT {ds:List D} {k:Int} {d:D} (h:atI ds k=some d) (q:Q d S):ixT3 (.tup ds) (.int k) S Q:=⟨ds,k,d,rfl,rfl,h,q⟩
theorem j_ixL {a:Addr} {ds:List D} {k:Int} {d:D} (hS:S a=some (.lst ds)) (h:atI ds k=some d) (q:Q d S):ixL3 (.ref a) (.int k) S Q:=⟨ds,k,d,.inl ⟨a,rfl,hS⟩,rfl,h,q⟩
theorem j_ixR {ds:List D} {k:Int} {d:D} (h:atI ds k=some d) (q:Q d S):ixL3 (.rol ds) (.int k) S Q:=⟨ds,k,d,.inr rfl,rfl,h,q⟩
theorem j_ixS {z:Str} {k:Int} {cp:Nat} (hz:z.length≤sizeLine) (h:atI z.cps.toList k=some cp) (q:Q (.str ⟨#[cp]⟩) S):ixS3 (.str z) (.int k) S Q:=⟨z,k,cp,rfl,rfl,hz,h,q⟩
theorem j_lenL {a:Addr} {ds:List D} (hS:S a=some (.lst ds)) (q:Q (.int ds.length) S):len3 [.ref a] S Q:=⟨_,ds,rfl,.inl (.inl ⟨a,rfl,hS⟩),q⟩
theorem j_lenR {ds:List D} (q:Q (.int ds.length) S):len3 [.rol ds] S Q:=⟨_,ds,rfl,.inl (.inr rfl),q⟩
theorem j_lenT {ds:List D} (q:Q (.int ds.length) S):len3 [.tup ds] S Q:=⟨_,ds,rfl,.inr rfl,q⟩
theorem j_lenS {z:Str} (hz:z.length≤sizeLine) (q:Q (.int z.length) S):lenS3 [.str z] S Q:=⟨z,rfl,hz,q⟩
theorem j_toListL {a:Addr} {ds:List D} (hS:S a=some (.lst ds)) (q:newL S ds Q):toList3 [.ref a] S Q:=⟨_,ds,rfl,.inl (.inl ⟨a,rfl,hS⟩),q⟩
theorem j_toTupL {a:Addr} {ds:List D} (hS:S a=some (.lst ds)) (q:Q (.tup ds) S):toTup3 [.ref a] S Q:=⟨_,ds,rfl,.inl (.inl ⟨a,rfl,hS⟩),q⟩
theorem j_isB {x:D} {m k:String} {b':Bool} (h:TyN S x m) (hk:kin m k=some b') (q:Q (.bl b') S):isB3 [x,.ty k] S Q:=⟨x,k,m,b',rfl,h,hk,q⟩
theorem j_sl {f:D→Option Int→Option Int→Hp3→K3→Prop} {tl th:TO3} (h:te σ S fun x S1=>tl σ S1 fun l S2=>th σ S2 fun u' S3=>f x l u' S3 Q):sl3 f te tl th σ S Q:=h
theorem j_nopart (h:QO none S):nopart3 σ S QO:=h
theorem j_part (h:te σ S fun x S1=>∃k,x=.int k∧QO (some k) S1):part3 te σ S QO:=h
theorem j_slL {a:Addr} {ds:List D} {lo hi:Option Int} (hS:S a=some (.lst ds)) (q:newL S (cutD ds lo hi) Q):slL3 (.ref a) lo hi S Q:=⟨ds,.inl ⟨a,rfl,hS⟩,q⟩
theorem j_slT {ds:List D} {lo hi:Option Int} (q:Q (.tup (cutD ds lo hi)) S):slT3 (.tup ds) lo hi S Q:=⟨ds,rfl,q⟩
theorem j_slS {z:Str} {lo hi:Option Int} (hz:z.length≤sizeLine) (q:Q (.str (textOf (cutT z.cps.toList lo hi))) S):slS3 (.str z) lo hi S Q:=⟨z,rfl,hz,q⟩
theorem j_catL {a a':Addr} {ds es:List D} (h:S a=some (.lst ds)) (h':S a'=some (.lst es)) (hz:ds.length+es.length≤sizeLine) (q:newL S (ds++es) Q):catL3 (.ref a) (.ref a') S Q:=⟨a,a',ds,es,rfl,rfl,h,h',hz,q⟩
theorem j_catT {ds es:List D} (hn:ds≠[]) (hz:ds.length+es.length≤sizeLine) (q:Q (.tup (ds++es)) S):catT3 (.tup ds) (.tup es) S Q:=⟨ds,es,rfl,rfl,hn,hz,q⟩
theorem j_comp {wi:TI3} {js:List Nat} (h:wi σ S fun ds Al S1=>∃W:Nat→List D→Hp3→Prop,W 0 [] S1∧(∀i ys S,W i ys S→Al S∧ys.length<sizeLine) ∧
  (∀i d ys S,ds[i]?=some d→W i ys S→te (some d::pick3 σ js) S fun y S'=>W (i+1) (ys++[y]) S')∧∀ys S,W ds.length ys S→newL S ys Q):comp3 wi te js σ S Q:=h
theorem zel {js:List Nat} {ds:List D} {Al:Hp3→Prop} {S1:Hp3} (f:Nat→D) (hz:ds.length≤10000) (hA:Al S1)
    (h:∀i d,ds[i]?=some d→∀P:K3,P (f i) S1→te (some d::pick3 σ js) S1 P) (q:newL S1 ((List.range ds.length).map f) Q) :
    ∃W:Nat→List D→Hp3→Prop,W 0 [] S1∧(∀i ys S,W i ys S→Al S∧ys.length<sizeLine) ∧
  (∀i d ys S,ds[i]?=some d→W i ys S→te (some d::pick3 σ js) S fun y S'=>W (i+1) (ys++[y]) S')∧∀ys S,W ds.length ys S→newL S ys Q:=show _ by
  refine ⟨fun i ys S=>i≤ds.length∧ys=(List.range i).map f∧S=S1,⟨Nat.zero_le _,rfl,rfl⟩,?_,?_,?_⟩
  · rintro i ys S ⟨hi,rfl,rfl⟩
    refine ⟨hA,?_⟩
    rw [List.length_map,List.length_range]
    exact Nat.lt_of_le_of_lt (Nat.le_trans hi hz) (by decide)
  · rintro i d ys S hd ⟨hi,rfl,rfl⟩
    refine h i d hd _ ⟨(List.getElem?_eq_some_iff.mp hd).1,?_,rfl⟩
    rw [List.range_succ,List.map_append]
    rfl
  · rintro ys S ⟨_,rfl,rfl⟩
    exact q
theorem j_for {wi:TI3} {g:TG3} (h:wi σ S fun ds Al S1=>∃W:Nat→St3→Hp3→Prop,W 0 σ S1∧(∀i σ S,W i σ S→Al S) ∧
  (∀i d σ S,ds[i]?=some d→W i σ S→g d σ S fun σ2 S2=>t ⟨W (i+1),rt,n,W (i+1)⟩ σ2 S2)∧∀σ S,W ds.length σ S→n σ S):for3 wi g t ⟨n,rt,b,c⟩ σ S:=h
theorem j_while (W:Nat→St3→Hp3→Prop) (m:Nat) (h0:W m σ S) (h:∀m σ S,W m σ S→tA σ S fun b S1=>if b=true then t ⟨fun σ' S'=>∃m',m'<m∧W m' σ' S',rt,n,fun σ' S'=>∃m',m'<m∧W m' σ' S'⟩ σ S1 else n σ S1) :
    while3 tA t ⟨n,rt,b,c⟩ σ S:=⟨W,⟨m,h0⟩,h⟩
noncomputable abbrev RI:=List D→(Hp3→Prop)→Hp3→Prop
variable {R:RI}
def litA (R:RI) (x:D) (S:Hp3):Prop:=(∃a ds,x=.ref a∧S a=some (.lst ds)∧R ds (fun S=>S a=some (.lst ds)) S)∨∃ds,x=.rol ds∧R ds (fun _=>True) S
theorem j_iList (h:te σ S fun x S1=>litA R x S1):iL3 te σ S R:=h
theorem j_iL {a:Addr} {ds:List D} (hS:S a=some (.lst ds)) (q:R ds (fun S=>S a=some (.lst ds)) S):litA R (.ref a) S:=.inl ⟨a,ds,rfl,hS,q⟩
def titA (R:RI) (x:D) (S:Hp3):Prop:=∃ds,x=.tup ds∧R ds (fun _=>True) S
theorem j_iTup (h:te σ S fun x S1=>titA R x S1):iT3 te σ S R:=h
theorem j_iT {ds:List D} (q:R ds (fun _=>True) S):titA R (.tup ds) S:=⟨ds,rfl,q⟩
theorem j_eT {ds:List D} {P:List D→Prop} (h:P ds):∃es,D.tup ds=.tup es∧P es:=⟨ds,rfl,h⟩
def revA (R:RI) (xs:List D) (S:Hp3):Prop:=∃ds,xs=[.tup ds]∧R ds.reverse (fun _=>True) S
theorem j_iRev (h:al σ S fun xs S1=>revA R xs S1):iRev3 al σ S R:=h
theorem j_iRv {ds:List D} (q:R ds.reverse (fun _=>True) S):revA R [.tup ds] S:=⟨ds,rfl,q⟩
def rngA (R:RI) (vs:List D) (S:Hp3):Prop:=∃j:Int,vs=[.int j]∧-(2^62)≤j∧j<2^62∧R (nums 0 j.toNat) (fun _=>True) S
theorem j_iR1 (h:al σ S fun vs S1=>rngA R vs S1):iR1 al σ S R:=h
theorem j_rng {j:Int} (h1:-(2^62)≤j∧j<2^62) (q:R (nums 0 j.toNat) (fun _=>True) S):rngA R [.int j] S:=⟨j,rfl,h1.1,h1.2,q⟩
theorem j_dnew (h:∀p,S p=none→Q (.ref p) (up S p (.dic []))):dnew3 σ S Q:=h
def setA (v:D) (Qs:St3→Hp3→Prop) (σ:St3) (o i:D) (S:Hp3):Prop:=∃p xs k j,o=.ref p∧i=.int k∧S p=some (.lst xs)∧ixN xs.length k=some j∧Qs σ (up S p (.lst (xs.set j v)))
theorem j_setL {v:D} {Qs:St3→Hp3→Prop} (h:te σ S fun o S1=>ta σ S1 fun i S2=>setA v Qs σ o i S2):setL3 te ta v σ S Qs:=h
theorem j_esL {a:Addr} {xs:List D} {k:Int} {j:Nat} {v:D} {Qs:St3→Hp3→Prop} (hS:S a=some (.lst xs)) (hj:ixN xs.length k=some j) (q:Qs σ (up S a (.lst (xs.set j v)))):setA v Qs σ (.ref a) (.int k) S:=⟨a,xs,k,j,rfl,rfl,hS,hj,q⟩
def dgetA (Q:K3) (x y:D) (S:Hp3):Prop:=∃a kvs k v,x=.ref a∧S a=some (.dic kvs)∧y=kD k∧valD kvs k=some v∧Q v S
theorem j_dget (h:te σ S fun x S1=>ta σ S1 fun y S2=>dgetA Q x y S2):dget3 te ta σ S Q:=h
theorem j_dgetS {a:Addr} {kvs:List (Key×D)} {z:Str} {v:D} (hS:S a=some (.dic kvs)) (hv:valD kvs (.inr z)=some v) (q:Q v S):dgetA Q (.ref a) (.str z) S:=⟨a,kvs,.inr z,v,rfl,hS,rfl,hv,q⟩
def dputA (n:St3→Hp3→Prop) (σ:St3) (v x y:D) (S:Hp3):Prop:=∃a kvs k,x=.ref a∧S a=some (.dic kvs)∧y=kD k∧kvs.length<sizeLine∧n σ (up S a (.dic (putD kvs k v)))
theorem j_dput {tv:TE3} (h:tv σ S fun v S1=>te σ S1 fun x S2=>ta σ S2 fun y S3=>dputA n σ v x y S3):dput3 te ta tv ⟨n,rt,b,c⟩ σ S:=h
theorem j_dputS {a:Addr} {kvs:List (Key×D)} {z:Str} {v:D} (hS:S a=some (.dic kvs)) (hz:kvs.length<sizeLine) (q:n σ (up S a (.dic (putD kvs (.inr z) v)))):dputA n σ v (.ref a) (.str z) S:=⟨a,kvs,.inr z,rfl,hS,rfl,hz,q⟩
end
theorem FnOk.frame {P:Program} {w:World} {K:PySem.W.Frag} {mg:Str→Option Value} {base:Heap} {k:Nat} {f:Addr} {fd:FuncData} {ps:List Str} {sp:Sp3} (F:FnOk P w K mg base (CX1 P w) k f fd ps (lSp K sp)):FnOk P w K mg base (CX1 P w) k f fd ps (lSp K (fr sp)):=show _ by
  refine L2.FnOk.imp F fun vs H Q E ⟨Z,ds,S,Q3,E3,h1,l,⟨S0,F,hs,h3⟩,cq,ce⟩=>?_
  refine ⟨Z.with H F,ds,S0,_,_,h1,⟨fun a o e=>?_,fun a z=>?_,Kp.refl _ _⟩,h3,?_,?_⟩
  · refine l.obj a o ?_
    rcases hs a with ⟨q,_⟩|⟨q,_⟩
    · rw [q];exact e
    · rw [q] at e;cases e
  · rcases z with z|z
    · have z2:=l.hid a z
      refine ⟨?_,z2.2⟩
      rcases hs a with ⟨q,_⟩|⟨q,_⟩
      · rw [←q];exact z2.1
      · exact q
    · rcases hs a with ⟨_,q⟩|⟨q,q2⟩
      · exact absurd q z
      · refine ⟨q,?_⟩
        cases e:F a with
        | none=>exact absurd e z
        | some o=>exact (l.obj a o (q2.trans e)).there
  · rintro d S1 v H' k1 r1 l1 ⟨S2,hsub,q⟩
    obtain ⟨sp',l'⟩:=l.frame hs k1 l1 hsub
    exact cq d _ v H' (k1.unhide fun a z=>.inl z) r1 l' (q _ sp')
  · rintro C a S1 H' k1 l1 ha ⟨S2,hsub,q⟩
    obtain ⟨sp',l'⟩:=l.frame hs k1 l1 hsub
    exact ce C a _ H' (k1.unhide fun a z=>.inl z) l' ha (q _ sp')
def lawS:Sp3:=vS fun ds q=>∃ns:List Int,ds=[.rol (ns.map D.int)]∧ns.length≤63∧q (.bl true)
theorem zm5 {P:Program} {w:World} {K:PySem.W.Frag} {mg:Str→Option Value} {base:Heap} {k:Nat} {st:Stmt} {f:Addr} {fd:FuncData} {N:List Str} (F:Fun K "law" "law" st f fd) (S:FnScope N ["script"] (defScope st))
    (hbody:∀(cdv:Value) (A:Around) (outer:List Env) (s:Shared) (H:Hp) (E:XK) (ns:List Int),Room k (A.deeper (envOfC "law" (defScope st) s.heap.objs.size f cdv))→ns.length≤63 →
      ∃t,PSs3 (cxOf (CX1 P w) P w K mg base N "law" (defScope st) f cdv A outer s H E).nox NoX (defBody st) t∧t {nx:=fun _ _=>False,rt:=fun d _=>d=.bl true} (start3 N [.rol (ns.map D.int)]) emp) :
    FnOk P w K mg base (CX1 P w) (k+1) f fd ["script"] (lSp K lawS):=show _ by
  obtain ⟨oc,od,kV,doc,pm,an,cdv,ct,osl,rfl,lk,hcd⟩:=F.ex
  refine L2.FnOk.imp (sp:=lSp K (fr fun ds S Q E=>S=emp∧∃ns:List Int,ds=[.rol (ns.map D.int)]∧ns.length≤63∧∀S',Q (.bl true) S')) (FnOk.frame ?_) fun vs H Q E z_1=>by obtain ⟨Z,ds,S,Q3,E3,h1,l,⟨ns,e,h63,q⟩,h,h'⟩:=z_1;exact ⟨Z,ds,S,Q3,E3,h1,l,⟨emp,S,zjc S,rfl,ns,e,h63,fun S1=>⟨emp,zl0 _,fun S' hS=>zgs hS▸q⟩⟩,h,h'⟩
  refine zri lk hcd S (fun vs H Q E z_2=>by obtain ⟨Z,ds,S,Q3,E3,h1,_,⟨_,ns,z,_⟩,_,_⟩:=z_2;rw [←h1.len,z];rfl) fun A outer s H vs Q E hr ⟨Z,ds,S3,Q3,E3,h1,h2,⟨e1,ns,e2,h63,hq⟩,h4,_⟩=>?_
  subst e1 e2
  obtain ⟨t,ht,q⟩:=hbody cdv A outer s H E ns hr h63
  refine ⟨_,(ht (zx0 Z H)).nox,_,start3 N [.rol (ns.map D.int)],emp,?_,h2.into,q,⟨?_,?_,?_,?_⟩⟩
  · unfold start3 L2.start
    rw [h1.len]
    exact zbv (SR.ofRps h1) (SR.nones _)
  · exact fun _ _ _ _ _ _ _ z=>z.elim
  · exact fun _ _ _ _ _ _ _ z=>z
  · exact fun _ _ _ _ _ _ _ z=>z
  · intro d S' v H' kk r l e
    have e:d=.bl true:=e
    subst e
    exact h4 _ S' v H' (kk.unhide fun _ z=>z) r (l.out h2 kk) (hq S')
theorem law_sp {K:PySem.W.Frag} {H:Hp} {a:Addr} {ns:List Int} (hl:ns.length≤63) (hO:Only H) (h:SqL K H a (ns.map V.int)):lSp K lawS [.ref a] H (fun v _=>v=.bl true) fun _ _ _=>False:=show _ by
  refine ⟨⟨fun _=>False,H⟩,[.rol (ns.map D.int)],emp,fun d _=>d=.bl true,fun _ _ _=>False,.cons (.rol (ScR.of h hO) (Rps.ints ns)) .nil,⟨fun a o e=>(nomatch e),fun a z=>z.elim,Kp.refl _ _⟩,⟨ns,rfl,hl,rfl⟩,?_,fun _ _ _ _ _ _ _ z=>z⟩
  intro d S v H' _ r _ e
  have e:d=.bl true:=e
  subst e
  cases r
  rfl
theorem zh1 {A:Around} {k:Nat} (hr:Room k A):A.units+200<cLine:=by have:=hr.un;omega
end E3
namespace E3
open PySem PySem.Spec PyProof.Rows L2 EE
theorem Sub.refl (S:Hp3):Sub S S:=fun _ _ h=>h
theorem Sub.trans {A B C:Hp3} (h:Sub A B) (h':Sub B C):Sub A C:=fun a o e=>h' a o (h a o e)
theorem Sub.up {A B:Hp3} {p:Addr} {o:O} (h:Sub A B) (hp:B p=none):Sub A (up B p o):=fun a u e=>zaf (h a u e) hp
theorem Sub.free {A B:Hp3} {p:Addr} (h:Sub A B) (hp:B p=none):A p=none:=by
  cases e:A p with
  | none=>rfl
  | some o=>rw [h p o e] at hp;cases hp
theorem Sub.at {A B:Hp3} {p:Addr} {o:O} (h:Sub A B) (hp:A p=none):Sub A (E3.up B p o):=fun a u e=>by
  rw [za8 (ne3 e hp)];exact h a u e
section
variable {P:Program} {w:World} {K:PySem.W.Frag} {mg:Str→Option Value} {base:Heap} {x:Str} {st:Stmt} {N ps:List Str} {k:Nat}
theorem Cal3.drop {sp:Sp3} (C:Cal3 P w K mg base k x ps sp):Cal3 P w K mg base k x ps (fun ds S Q E=>sp ds S (fun d S1=>∃S2,Sub S2 S1∧Q d S2) E):=show _ by
  obtain ⟨f,fd,F0,r⟩:=C.ex
  refine ⟨f,fd,F0.imp fun vs H Q E ⟨Z,ds,S,Q3,E3,h1,l,h3,cq,ce⟩=>⟨Z,ds,S,_,E3,h1,l,h3,?_,ce⟩,r⟩
  rintro d S1 v H' k1 r1 l1 ⟨S2,hsub,q⟩
  exact cq d S2 v H' k1 r1 (l1.sub hsub) q
def rdV (A:List D→Hp3→(D→Prop)→Prop):Sp3:=fun ds S Q _=>A ds S fun d=>Q d S
def wrV (A:List D→Hp3→(D→Addr→O→Prop)→Prop):Sp3:=fun ds S Q _=>A ds S fun d a o=>Q d (up S a o)
theorem _root_.EE.Has.rdV {A:List D→Hp3→(D→Prop)→Prop} (h:Has K mg x st ps) (S:FnScope N ps (defScope st)) (len:∀ds S q,A ds S q→ds.length=ps.length)
    (hbody:∀(f:Addr) (cdv:Value) (Ar:Around) (outer:List Env) (s:Shared) (H:Hp) (E:XK) (ds:List D) (S:Hp3) (q:D→Prop),Room k (Ar.deeper (envOfC x (defScope st) s.heap.objs.size f cdv))→A ds S q →
      ∃t,PSs3 (cxOf (CX1 P w) P w K mg base N x (defScope st) f cdv Ar outer s H E).nox NoX (defBody st) t∧t {nx:=fun _ S'=>Sub S S'∧q .non,rt:=fun d S'=>Sub S S'∧q d} (start3 N ds) S):Cal3 P w K mg base (k+1) x ps (rdV A):=show _ by
  have C:Cal3 P w K mg base (k+1) x ps (fun ds S Q E=>∃q,A ds S q∧∀d S',Sub S S'∧q d→Q d S'):=by
    refine h.cal3 S (fun vs H Q E z_1=>by obtain ⟨q,z,_⟩:=z_1;exact len _ _ _ z) fun f cdv Ar outer s H E ds S3 Q E3 hr ⟨q,z,hq⟩=>?_
    obtain ⟨t,h1,h2⟩:=hbody f cdv Ar outer s H E ds S3 _ hr z
    exact ⟨t,fun d S'=>Sub S3 S'∧q d,h1,h2,hq⟩
  exact C.drop.imp fun ds S Q E z=>⟨_,z,fun d S1 hq=>⟨S,hq.1,hq.2⟩⟩
theorem _root_.EE.Has.wrV {A:List D→Hp3→(D→Addr→O→Prop)→Prop} (h:Has K mg x st ps) (S:FnScope N ps (defScope st)) (len:∀ds S q,A ds S q→ds.length=ps.length)
    (hbody:∀(f:Addr) (cdv:Value) (Ar:Around) (outer:List Env) (s:Shared) (H:Hp) (E:XK) (ds:List D) (S:Hp3) (q:D→Addr→O→Prop),Room k (Ar.deeper (envOfC x (defScope st) s.heap.objs.size f cdv))→A ds S q →
      ∃t,PSs3 (cxOf (CX1 P w) P w K mg base N x (defScope st) f cdv Ar outer s H E).nox NoX (defBody st) t∧t {nx:=fun _ S'=>∃a o,Sub (up S a o) S'∧q .non a o,rt:=fun d S'=>∃a o,Sub (up S a o) S'∧q d a o} (start3 N ds) S):Cal3 P w K mg base (k+1) x ps (wrV A):=show _ by
  have C:Cal3 P w K mg base (k+1) x ps (fun ds S Q E=>∃q,A ds S q∧∀d S',(∃a o,Sub (up S a o) S'∧q d a o)→Q d S'):=by
    refine h.cal3 S (fun vs H Q E z_3=>by obtain ⟨q,z,_⟩:=z_3;exact len _ _ _ z) fun f cdv Ar outer s H E ds S3 Q E3 hr ⟨q,z,hq⟩=>?_
    obtain ⟨t,h1,h2⟩:=hbody f cdv Ar outer s H E ds S3 _ hr z
    exact ⟨t,fun d S'=>∃a o,Sub (up S3 a o) S'∧q d a o,h1,h2,hq⟩
  exact C.drop.imp fun ds S Q E z=>⟨_,z,fun d S1 z_4=>by obtain ⟨a,o,hs,hq⟩:=z_4;exact ⟨_,hs,hq⟩⟩
theorem _root_.EE.Has.none3 {sp:Sp3} (h:Has K mg x st ps) (no:∀ds S Q E,¬sp ds S Q E) (j:Nat):Cal3 P w K mg base j x ps sp:=show _ by
  obtain ⟨f,fd,F,b,m⟩:=h.ex
  have no':∀vs H Q E,¬lSp K sp vs H Q E:=fun vs H Q E z_5=>by obtain ⟨Z,ds,S,Q3,E3,_,_,z,_,_⟩:=z_5;exact no _ _ _ _ z
  exact ⟨f,fd,⟨fun vs H Q E h=>absurd h (no' vs H Q E),fun A outer s H args us vs Q E _ _ _ _ h=>absurd h (no' vs H Q E)⟩,b,F.kp,m⟩
end
end E3
namespace E3
open PySem PySem.Spec PyProof.Rows L2 EE
section
variable {P:Program} {w:World} {K:PySem.W.Frag} {mg:Str→Option Value} {base:Heap} {x:Str} {st:Stmt} {N ps:List Str} {k:Nat}
def wrL (A:List D→Hp3→(List D→Addr→O→Prop)→Prop):Sp3:=fun ds S Q _=>A ds S fun ys a o=>∀p,S p=none→Q (.ref p) (up (up S a o) p (.lst ys))
theorem _root_.EE.Has.wrL {A:List D→Hp3→(List D→Addr→O→Prop)→Prop} (h:Has K mg x st ps) (S:FnScope N ps (defScope st)) (len:∀ds S q,A ds S q→ds.length=ps.length)
    (hbody:∀(f:Addr) (cdv:Value) (Ar:Around) (outer:List Env) (s:Shared) (H:Hp) (E:XK) (ds:List D) (S:Hp3) (q:List D→Addr→O→Prop),Room k (Ar.deeper (envOfC x (defScope st) s.heap.objs.size f cdv))→A ds S q →
      ∃t,PSs3 (cxOf (CX1 P w) P w K mg base N x (defScope st) f cdv Ar outer s H E).nox NoX (defBody st) t ∧
        t {nx:=fun _ _=>False,rt:=fun d S'=>∃p ys a o,d=.ref p∧S p=none∧S a≠none∧Sub (up S a o) S'∧S' p=some (.lst ys)∧q ys a o} (start3 N ds) S):Cal3 P w K mg base (k+1) x ps (wrL A):=show _ by
  have C:Cal3 P w K mg base (k+1) x ps (fun ds S Q E=>∃q,A ds S q∧∀d S',(∃p ys a o,d=.ref p∧S p=none∧S a≠none∧Sub (up S a o) S'∧S' p=some (.lst ys)∧q ys a o)→Q d S'):=by
    refine h.cal3 S (fun vs H Q E z_6=>by obtain ⟨q,z,_⟩:=z_6;exact len _ _ _ z) fun f cdv Ar outer s H E ds S3 Q E3 hr ⟨q,z,hq⟩=>?_
    obtain ⟨t,h1,h2⟩:=hbody f cdv Ar outer s H E ds S3 _ hr z
    refine ⟨t,fun d S'=>∃p ys a o,d=.ref p∧S3 p=none∧S3 a≠none∧Sub (up S3 a o) S'∧S' p=some (.lst ys)∧q ys a o,h1,?_,hq⟩
    have e:(fun (_:St3) (_:Hp3)=>False)=fun (_:St3) (S':Hp3)=>∃p ys a o,D.non=.ref p∧S3 p=none∧S3 a≠none∧Sub (up S3 a o) S'∧S' p=some (.lst ys)∧q ys a o:=by
      funext _ S'
      refine propext ⟨False.elim,fun z=>?_⟩
      obtain ⟨p,ys,_,_,z,_⟩:=z
      cases z
    rw [←e]
    exact h2
  refine C.drop.imp fun ds S Q E z=>⟨_,z,fun d S1 ⟨p,ys,a,o,e,hp,ha,hs,hp1,hq⟩=>⟨up (up S a o) p (.lst ys),?_,?_⟩⟩
  · intro b u hb
    by_cases c:b=p
    · subst c;rw [zab] at hb;cases hb;exact hp1
    · rw [za8 c] at hb;exact hs b u hb
  · subst e
    exact hq p hp
end
section
variable {σ:St3} {S:Hp3} {Q:K3}
theorem j_pow {g:Int→Int→D} {k j:Int} (h:CPow k j) (q:Q (g k j) S):ic3 CPow g (.int k) (.int j) S Q:=⟨k,j,rfl,rfl,h,q⟩
theorem j_mul {g:Int→Int→D} {k j:Int} (h:CMul k j) (q:Q (g k j) S):ic3 CMul g (.int k) (.int j) S Q:=⟨k,j,rfl,rfl,h,q⟩
theorem j_neg {σ:St3} {te:TE3} (h:te σ S fun x S1=>∃i,x=.int i∧Q (.int (-i)) S1):u3 (fun x S Q=>∃i,x=.int i∧Q (.int (-i)) S) te σ S Q:=h
end
end E3
namespace E3
def Px (sp:PySem.Addr) (S X:Hp3):Prop:=∀a u,a≠sp→S a=some u→X a=some u
theorem Px.refl (sp:PySem.Addr) (S:Hp3):Px sp S S:=fun _ _ _ h=>h
theorem Px.at {sp:PySem.Addr} {S X:Hp3} {o:O} (h:Px sp S X):Px sp S (up X sp o):=fun a u n e=>by rw [za8 n];exact h a u n e
theorem Px.new {sp p:PySem.Addr} {S X:Hp3} {o:O} (h:Px sp S X) (hp:X p=none):Px sp S (up X p o):=fun a u n e=>zaf (h a u n e) hp
theorem Px.sub {sp:PySem.Addr} {S X:Hp3} {o:O} (h:Px sp S X) (hx:X sp=some o):Sub (up S sp o) X:=fun a u e=>by
  by_cases c:a=sp
  · subst c;rw [zab] at e;rw [hx];exact e
  · rw [za8 c] at e;exact h a u c e
end E3
namespace E3
theorem Px.fresh {sp p:PySem.Addr} {S X:Hp3} {o:O} (h:Px sp S X) (hp:S p=none):Px sp S (up X p o):=fun a u n e=>by rw [za8 (ne3 e hp)];exact h a u n e
theorem Px.free {sp p:PySem.Addr} {S X:Hp3} (h:Px sp S X) (hp:X p=none) (n:p≠sp):S p=none:=by
  cases e:S p with
  | none=>rfl
  | some o=>rw [h p o n e] at hp;cases hp
end E3
namespace E3
theorem Px.ext {sp:PySem.Addr} {S X Y:Hp3} (h:Px sp S X) (h':Sub X Y):Px sp S Y:=fun a u n e=>h' a u (h a u n e)
end E3
namespace E3
open PySem PySem.Spec PyProof.Rows L2 EE
end E3
namespace E3
open PySem PySem.Spec PyProof.Rows L2 EE
end E3
namespace E3
open PySem PySem.Spec PyProof.Rows L2 EE
noncomputable abbrev bmVE:List Value:=[.type "ValueError",.type "Exception",.type "BaseException",.type "object"]
end E3
namespace E3
open PySem PySem.Spec PyProof.Rows L2 EE
end E3
namespace E3
open PySem PySem.Spec PyProof.Rows L2 EE
end E3
namespace E3
section
open PySem PySem.Spec PyProof.Rows L2 EE PySem.W Builtin Builtin.ObjectAttr Builtin.Getset_descriptor
end
open PySem PySem.Spec PyProof.Rows L2 EE
noncomputable def rfOne (K:PySem.W.Frag) (C:Addr):Bool:=PySem.W.excIn K C bmVE "ValueError.__new__"&&PySem.W.findIn K (.ref C) "__getattribute__"==some (some (.builtin "BaseException.__getattribute__"))&&PySem.W.findIn K (.ref C) "__getattr__"==some none &&
  PySem.W.findIn K (.ref C) "__class__"==some (some (.builtin "object.__class__"))&&PySem.W.specialIn K (.builtin "object.__class__") "__get__"==some (some (.builtin "getset_descriptor.__get__"))&&PySem.W.takesIn K (.builtin "object.__class__")==some true &&
  PySem.W.mroIn K C (.type "object")==some true&&PySem.W.mroIn K C (.type "BaseException")==some true&&PySem.W.kitCls K (.ref C) (.type "BaseException")==some true&&PySem.W.kitCls K (.ref C) (.type "ValueError")==some true&&(PySem.W.clsIn K C).isSome
inductive Rf where
  | err|text|twice|such|count|apart|many|way
  deriving DecidableEq
noncomputable def Rf.nm:Rf→Str
  | .err=>"ErrandError" | .text=>"BadText" | .twice=>"Twice" | .such=>"NoSuch" | .count=>"WrongCount" | .apart=>"Apart" | .many=>"TooMany" | .way=>"NoWay"
noncomputable def Rf.sub (i j:Rf):Bool:=decide (i=j)||decide (j=.err)
structure Rfs (K:PySem.W.Frag) (mg:Str→Option Value) (es:List Rf) (adr:Rf→Addr):Prop where
  bound:∀i∈es,mg i.nm=some (.ref (adr i))
  one:∀i∈es,rfOne K (adr i)=true
  two:∀i∈es,∀j∈es,PySem.W.kitCls K (.ref (adr i)) (.ref (adr j))=some (i.sub j)
section
variable {K:PySem.W.Frag} {mg:Str→Option Value} {es:List Rf} {adr:Rf→Addr} (R:Rfs K mg es adr) {i j:Rf}
include R
end
end E3
namespace E3
open PySem PySem.Spec PyProof.Rows L2 EE
noncomputable def _root_.EE.Tre.d:Tre→D
  | .bud=>.non
  | .pair l r=>.tup [l.d,r.d]
end E3
namespace E3
open PySem PySem.Spec PyProof.Rows L2 EE
theorem zit:typeLookup (.type "list") "keys"=pure none:=by rw [typeLookup_type,builtinLookup_eq_fast];kernel_rfl
theorem zdp:typeLookup (.type "list") "__getattr__"=pure none:=by rw [typeLookup_type,builtinLookup_eq_fast];kernel_rfl
section
variable {prog:Program} {w:World} {A:Around} {E:Value→Shared→Prop} {a:Addr} {its:Array Value} {n:Nat}
theorem zf7 (a:Addr) (u:Tok) (its:Array Value) (n:Nat):Meets (Builtin.«object.__getattribute__» ⟨[.ref a,.str "keys" u],[]⟩) (fun A R s=>s.heap.get? a=some {cls:=.type "list",data:=.seq its n}∧raisesAttr (.ref a) "keys" A R s) :=
  Meets.of_wp fun prog w A R s hs=>by
    obtain ⟨hx,hs⟩:=hs
    obtain ⟨hp,g,d,tk,os⟩:=s
    have hT:(⟨hp,g,d,tk,os⟩:Shared).TypeIs (.ref a) "list":=⟨_,hx,rfl⟩
    have f4:=zit
    have f5:=zdp
    unfold Builtin.«object.__getattribute__»
    repeat (any_goals (first|assumption|wp_step))
    exact wpAny_raiseAttrError hs.1 hs.2 (attrMsg_fits (by decide +kernel) (by decide))
theorem zm6 {s:Shared} {Q:Option Value→Shared→Prop} (hh:A.handled=none) (hx:s.heap.get? a=some {cls:=.type "list",data:=.seq its n})
    (h:∀h' tk,(∀b ob,s.heap.get? b=some ob→h'.get? b=some ob)→Q none {s with heap:=h',toks:=tk}):wpAny (model prog w) A (getAttr? (.ref a) "keys") Q E s:=show _ by
  obtain ⟨hp,g,d,tk,os⟩:=s
  have hT:∀(tk:Nat),(⟨hp,g,d,tk,os⟩:Shared).TypeIs (.ref a) "list":=fun _=>⟨_,hx,rfl⟩
  have f1:=sub_AttributeError
  have f3:=F.slot_list_getattribute.lookup
  have f4:=F.slot_list_getattribute.bind (.ref a)
  have f5:=zdp
  unfold getAttr? getAttrBy?
  repeat (any_goals (first|assumption|((with_reducible show wpAny _ _ (call (Value.builtin "list.__getattribute__") _ _) _ _ _);refine call_meets F.slot_list_getattribute (hT _) F.entry_list_ga (F.args_list_getattribute_2 _ _) (zf7 a _ its n) ⟨hx,hh,fun h' tk' e hx=>?_⟩)|wp_step))
  obtain ⟨t',u',he⟩:=hx.there
  show wpAny _ _ (getattributeRaised _ _ _ _ _ _ _) _ _ _
  unfold getattributeRaised
  repeat (any_goals (first|assumption|wp_step))
  exact h _ _ hx.keeps
end
end E3
namespace E3
open PySem PySem.Spec PyProof.Rows L2 EE
section
variable {prog:Program} {w:World} {A:Around} {E:Value→Shared→Prop}
theorem zfi:plainId "dict.update.loop"=true:=by decide +kernel
theorem zkf:entryFor table "dict.update.loop"=some Builtin.«dict.update.loop»:=entryFor_of_fast (by kernel_rfl)
noncomputable def storedAll {κ:Type} [DecidableEq κ] (kvs:List (κ×Value)):List (κ×Value)→List (κ×Value)
  | []=>kvs
  | (k,v)::r=>storedAll (stored kvs k v) r
inductive PairsAt {κ:Type} [DecidableEq κ] (knd:PySem.KeyKind prog w κ) (h:Heap):List Value→List (κ×Value)→Prop where
  | nil:PairsAt knd h [] []
  | cons {t:Addr} {key v:Value} {k:κ} {r:List Value} {ps:List (κ×Value)}:IsTup h t #[key,v]→knd.is k key=true→PairsAt knd h r ps→PairsAt knd h (.ref t::r) ((k,v)::ps)
theorem PairsAt.keep {κ:Type} [DecidableEq κ] {knd:PySem.KeyKind prog w κ} {h h':Heap} {d:Addr} {o:Obj} (hd:h.get? d=some o) (hc:o.cls=.type "dict") (hs:∀b ob,b≠d→h.get? b=some ob→h'.get? b=some ob):∀{r:List Value} {ps:List (κ×Value)},PairsAt knd h r ps→PairsAt knd h' r ps
  | _,_,.nil=>.nil
  | _,_,.cons ⟨ob,e,c,q⟩ hk t=>.cons ⟨ob,hs _ _ (by rintro rfl;rw [hd] at e;cases e;rw [hc] at c;exact absurd c (by decide)) e,c,q⟩ hk (PairsAt.keep hd hc hs t)
theorem PairsAt.kept {κ:Type} [DecidableEq κ] {knd:PySem.KeyKind prog w κ} {h h':Heap} (hs:∀b ob,h.get? b=some ob→h'.get? b=some ob):∀{r:List Value} {ps:List (κ×Value)},PairsAt knd h r ps→PairsAt knd h' r ps
  | _,_,.nil=>.nil
  | _,_,.cons ⟨ob,e,c,q⟩ hk t=>.cons ⟨ob,hs _ _ e,c,q⟩ hk (PairsAt.kept hs t)
theorem zjb {κ:Type} [DecidableEq κ] {knd:PySem.KeyKind prog w κ} {d it l:Addr} {R:Result→Shared→Prop} (hh:A.handled=none) (hdit:d≠it) (hdl:d≠l) (hitl:it≠l) :
    ∀(r:List Value) (ps:List (κ×Value)) (i:Nat) (s:Shared) (kvs:List (κ×Value)) (its:Array Value),its.toList.drop i=r→PairsAt knd s.heap r ps→s.heap.IsListIter it l i→s.heap.IsList l its→s.heap.DictOf knd d kvs→kvs.length+ps.length≤sizeLine →
    (∀h' tk,h'.DictOf knd d (storedAll kvs ps)→(∀b ob,b≠d→b≠it→s.heap.get? b=some ob→h'.get? b=some ob)→R (.ok (.ret .none)) {s with heap:=h',toks:=tk}) →
    codeAny (model prog w) A (.builtin "dict.update.loop" ⟨[.ref d,.ref it,rawInt i,.none],[]⟩) R s:=show _ by
  intro r
  induction r with
  | nil =>
    intro ps i s kvs its hr hp hit hl hd hz hR
    cases hp
    refine codeAny_builtin zkf ?_
    rw [Around.under_plainId zfi _]
    show wpAny _ A.in1 (pyNext (.ref it) >>= _) _ _ s
    have hlen:its[i]?=none:=by
      refine Array.getElem?_eq_none ?_
      have:=congrArg List.length hr
      simp at this
      omega
    refine wpAny_bind (wpAny_pyNext_list_end hh hit hl hlen fun h' eb=>?_)
    show wpAny _ _ (Builtin.Dict.addKeywords d [] >>= _) _ _ _
    refine wpAny_bind (wpAny_pure (wpAny_pure ?_))
    exact hR h' s.toks (hd.extBut eb hdit) fun b ob _ hb e=>eb b ob hb e
  | cons x r ih =>
    intro ps i s kvs its hr hp hit hl hd hz hR
    cases hp with
    | @cons t key v k _ ps ht hk hp =>
    refine codeAny_builtin zkf ?_
    rw [Around.under_plainId zfi _]
    show wpAny _ A.in1 (pyNext (.ref it) >>= _) _ _ s
    have hx:its[i]?=some (.ref t):=by
      have:(its.toList.drop i)[0]?=some (.ref t):=by rw [hr];rfl
      simpa using this
    refine wpAny_bind (wpAny_pyNext_list_item hit hl hx fun h1 st1 sb1=>?_)
    have ht1:IsTup h1 t #[key,v]:=by
      obtain ⟨ob,e,c,q⟩:=ht
      refine ⟨ob,(sb1.2 t ?_).trans e,c,q⟩
      rintro rfl
      obtain ⟨o2,e2,c2,_⟩:=hit
      rw [e] at e2;cases e2
      rw [c] at c2;exact absurd c2 (by decide)
    have hT1:(⟨h1,s.gens,s.drawn,s.toks,s.os⟩:Shared).TypeIs (.ref t) "tuple":=ht1.typeIs
    obtain ⟨o1,e1,c1,n1,q1⟩:=id ht1
    have hd1:h1.DictOf knd d kvs:=hd.sameBut sb1 hdit
    refine wpAny_bind (wpAny_holding ?_)
    refine wpAny_bind ?_
    refine wpAny_tryCatch ?_
    unfold Builtin.Dict.pairItems
    refine wpAny_bind (wpAny_typeOf hT1 ?_)
    rw [if_pos (by decide)]
    refine wpAny_bind (wpAny_seqItems (s:=⟨h1,s.gens,s.drawn,s.toks,s.os⟩) e1 q1 (wpAny_pure ?_))
    show wpAny _ _ (holding [key,v] (dictSet d key v)) _ _ _
    refine wpAny_holding (wpAny_dictSet_pairs (s:=⟨h1,s.gens,s.drawn,s.toks,s.os⟩) hk hd1 (fun h2 hd2 sb2=>?_) (by have:((k,v)::ps).length=ps.length+1:=rfl;omega))
    have ei:(i:Int)+1=((i+1:Nat):Int):=by omega
    rw [ei]
    obtain ⟨od,es,ep,ed,xd,_⟩:=id hd
    have hld:(stored kvs k v).length≤kvs.length+1:=by
      unfold stored
      split
      · rw [List.length_map];omega
      · simp
    refine wpAny_pure ⟨plainId_quiet zfi _,ih ps (i+1) _ (stored kvs k v) its ?_ ?_ ?_ ?_ hd2 ?_ fun h' tk hd' hk'=>?_⟩
    · have:=congrArg List.tail hr
      rw [List.tail_drop] at this
      exact this
    · refine PairsAt.keep (h:=h1) (d:=d) ((sb1.2 d hdit).trans ed) xd.1 (fun b ob hb e=>(sb2.2 b hb).trans e) ?_
      obtain ⟨oi,ei,ci,di⟩:=id hit
      clear ih hR hr
      induction hp with
      | nil=>exact .nil
      | @cons t' key' v' k' r' ps' ht' hk' hp' ih' =>
        refine .cons ?_ hk' (ih' (by simp at hz ⊢;omega))
        obtain ⟨ob,e,c,q⟩:=ht'
        refine ⟨ob,(sb1.2 t' ?_).trans e,c,q⟩
        rintro rfl
        rw [e] at ei;cases ei
        rw [c] at ci;exact absurd ci (by decide)
    · exact st1.at fun o e=>(sb2.2 it (Ne.symm hdit)).trans e
    · obtain ⟨o,e,c⟩:=hl
      exact ⟨o,(sb2.2 l (Ne.symm hdl)).trans ((sb1.2 l (Ne.symm hitl)).trans e),c⟩
    · have:((k,v)::ps).length=ps.length+1:=rfl
      omega
    · exact hR h' tk hd' fun b ob h1 h2 e=>hk' b ob h1 h2 ((sb2.2 b h1).trans ((sb1.2 b h2).trans e))
theorem zhx:(Value.type "list" != Value.type "dict")=true:=by decide
theorem zgq {κ:Type} [DecidableEq κ] {knd:PySem.KeyKind prog w κ} {s:Shared} {l:Addr} {its:Array Value} {n:Nat} {ps:List (κ×Value)} {Q:Value→Shared→Prop} (hh:A.handled=none)
    (hl:s.heap.get? l=some {cls:=.type "list",data:=.seq its n}) (hp:PairsAt knd s.heap its.toList ps) (hz:ps.length≤sizeLine)
    (h:∀h' tk,h'.DictOf knd s.heap.objs.size (storedAll [] ps)→(∀b ob,s.heap.get? b=some ob→h'.get? b=some ob)→Q (.ref s.heap.objs.size) {s with heap:=h',toks:=tk}) :
    wpAny (model prog w) A (call (.type "dict") [.ref l]) Q E s:=show _ by
  refine callType_codes (Q₁:=fun obj s₁=>obj=.ref s.heap.objs.size∧s₁={s with heap:=s.heap.push {cls:=.type "dict",data:=.dict #[]}}) F.kt_called_dict (F.kt_typeCall_dict_1 _) F.entry_dict_init (kt_code_dict_new _ ⟨rfl,rfl⟩) ?_
  rintro obj s₁ ⟨rfl,rfl⟩
  have hnew:(s.heap.push {cls:=.type "dict",data:=.dict #[]}).DictOf knd s.heap.objs.size []:=Heap.DictOf.new s.heap
  have hl1:(s.heap.push {cls:=.type "dict",data:=.dict #[]}).get? l=some {cls:=.type "list",data:=.seq its n}:=Heap.get?_push_of_some _ hl
  refine ⟨hnew.typeIs,F.args_dict_init_2 _ _,?_⟩
  unfold Builtin.«dict.__init__»
  refine wpAny_bind ?_
  unfold Builtin.Dict.selfAndRest
  refine wpAny_bind (wpAny_notOrdered_dict hnew.typeIs ?_)
  show wpAny _ _ (pure (s.heap.objs.size,[Value.ref l])) _ _ _
  refine wpAny_pure ?_
  show wpAny _ _ (Builtin.Dict.updateFrom "dict.__init__" s.heap.objs.size (.ref l) [] .none) _ _ _
  unfold Builtin.Dict.updateFrom
  refine wpAny_bind (wpAny_typeOf (T:="list") ⟨_,hl1,rfl⟩ ?_)
  rw [if_pos zhx]
  refine wpAny_bind (zm6 (by first|exact hh|(show A.handled=none;exact hh)) hl1 fun h2 tk2 k2=>?_)
  rw [if_pos (show (none:Option Value).isNone=true from rfl)]
  refine wpAny_bind (wpAny_rule ?_)
  have hl2:h2.get? l=some {cls:=.type "list",data:=.seq its n}:=k2 _ _ hl1
  have il2:h2.IsList l its:=⟨_,hl2,rfl,n,rfl⟩
  refine wpAny_bind (wpAny_pyIter_list (s:={heap:=h2,gens:=s.gens,drawn:=s.drawn,toks:=tk2,os:=s.os}) il2 ?_)
  have hlt:s.heap.objs.size<h2.objs.size:=by
    have:=k2 s.heap.objs.size _ (Heap.get?_push_size _ rfl)
    exact Heap.lt_size this
  have hll:l<s.heap.objs.size:=Heap.lt_size hl
  refine wpAny_pure ⟨plainId_quiet zfi _,zjb (A:=A.in1) (d:=s.heap.objs.size) (it:=h2.objs.size) (l:=l) (knd:=knd) (show A.in1.handled=none from hh) (Nat.ne_of_lt hlt) (Nat.ne_of_gt hll) (Nat.ne_of_gt (Nat.lt_trans hll hlt)) its.toList ps 0 _ [] its rfl ?_ ⟨{cls:=.type "list_iterator",data:=.fields #[.ref l,.int 0 0]},Heap.get?_push_size _ rfl,rfl,rfl⟩ ?_ ?_ ?_ fun h' tk hd' hk'=>?_⟩
  · clear hl h
    have kk:∀b ob,s.heap.get? b=some ob→(h2.push {cls:=.type "list_iterator",data:=.fields #[.ref l,rawInt 0]}).get? b=some ob:=fun b ob e=>Heap.get?_push_of_some _ (k2 b ob (Heap.get?_push_of_some _ e))
    exact hp.kept kk
  · exact ⟨_,Heap.get?_push_of_some _ hl2,rfl,n,rfl⟩
  · obtain ⟨o,es,ep,e,r⟩:=hnew
    exact ⟨o,es,ep,Heap.get?_push_of_some _ (k2 _ _ e),r⟩
  · simpa using hz
  · refine ⟨rfl,h h' tk hd' fun b ob e=>hk' b ob ?_ ?_ (Heap.get?_push_of_some _ (k2 b ob (Heap.get?_push_of_some _ e)))⟩
    · exact Nat.ne_of_lt (Heap.lt_size e)
    · exact Nat.ne_of_lt (Nat.lt_trans (Heap.lt_size e) hlt)
end
section
variable {X:Cx} {W3:W3T}
theorem zfa:∀{more:List (Key×V)} {rs:List (Key×Value)} {kvs:List (Key×V)} {vs:List (Key×Value)},KV more rs→KV kvs vs→KV (more.foldl (fun acc kv=>putK acc kv.1 kv.2) kvs) (E3.storedAll vs rs)
  | _,_,_,_,.nil,h=>h
  | _,_,_,_,.cons (a:=p) (b:=q) ⟨e,r⟩ t,h=>by
    obtain ⟨k,v⟩:=p
    obtain ⟨k',v'⟩:=q
    obtain rfl:k=k':=e
    simp only [List.foldl_cons,E3.storedAll]
    exact zfa t (KV.put h k r)
theorem zkb:∀(more kvs:List (Key×V)),(more.foldl (fun acc kv=>putK acc kv.1 kv.2) kvs).length≤kvs.length+more.length
  | [],kvs=>by simp
  | p::r,kvs=>by
    simp only [List.foldl_cons,List.length_cons]
    have h1:=zkb r (putK kvs p.1 p.2)
    have h2:=zd5 kvs p.1 p.2
    omega
theorem pairs_at {pins:List (Addr×Obj)} {σ:L2.St} {H:Hp} {s:Shared} (I:Inv X pins σ H s):∀{kvs:List (Key×V)} {xs:List V} {us:List Value},Paired (fun (kv:Key×V) (x:V)=>∃t,x=.ref t∧SqT X.K H t [kV kv.1,kv.2]) kvs xs→Vals xs us →
    ∃ps,PairsAt (mixKind X.prog X.w) s.heap us ps∧KV kvs ps
  | _,_,_,.nil,.nil=>⟨[],.nil,.nil⟩
  | _,_,_,.cons (a:=kv) ⟨t,e,ht⟩ q,.cons r rr=>by
    subst e
    cases r
    obtain ⟨ps,h1,h2⟩:=pairs_at I q rr
    obtain ⟨its,rv,p,_⟩:=I.tuple ht
    cases rv with
    | cons ra rv =>
      cases rv with
      | cons rb rv =>
        cases rv
        exact ⟨(kv.1,_)::ps,.cons p (zm9 ra) h1,.cons ⟨rfl,rb⟩ h2⟩
theorem zgh (hc:X.calm=true:=by rfl):CallR X (.type "dict") (fun xs H Q=>∃l ys kvs,xs=[.ref l]∧H l=some (.lst ys)∧Paired (fun (kv:Key×V) (x:V)=>∃t,x=.ref t∧SqT X.K H t [kV kv.1,kv.2]) kvs ys ∧
    ∀p,H p=none→Q (.ref p) (upd H p (.dK (kvs.foldl (fun acc kv=>putK acc kv.1 kv.2) [])))):=show _ by
  intro pins s σ H xs us Q I r h
  obtain ⟨l,ys,kvs,rfl,hH,hp,q⟩:=h
  obtain ⟨u,rfl,ru⟩:=vals1 r
  cases ru
  obtain ⟨z,its,n,rv,hl,e⟩:=I.lstM hH
  obtain ⟨ps,h1,h2⟩:=pairs_at I hp rv
  have hl1:kvs.length=ys.length:=Paired.length hp
  have hl2:kvs.length=ps.length:=KV.length h2
  refine zgq (knd:=mixKind X.prog X.w) (I.ok.hd hc) e (by simpa using h1) (by omega) fun h' tk hd' hk'=>?_
  have fr:=I.fresh
  refine ⟨.ref s.heap.objs.size,_,I.laid (t':=tk) hk' (Nat.le_refl _) ?_,rfl,q _ fr⟩
  have hkv:KV (kvs.foldl (fun acc kv=>putK acc kv.1 kv.2) []) (storedAll [] ps):=zfa h2 .nil
  have hle:=zkb kvs []
  exact ⟨by simp at hle;omega,beq_eq_false_iff_ne.mpr (Nat.ne_of_gt I.big),_,hkv,hd'⟩
def toDict3:List D→Hp3→K3→Prop:=fun xs S Q=>∃(a:Addr) (kvs:List (Key×D)),xs=[.ref a]∧S a=some (.lst (kvs.map fun kv:Key×D=>D.tup [kD kv.1,kv.2]))∧∀p,S p=none→Q (.ref p) (up S p (.dic (kvs.foldl (fun acc kv=>putD acc kv.1 kv.2) [])))
theorem zk3 {K:PySem.W.Frag} {H:Hp}:∀{kvs:List (Key×D)} {ys:List V},Rps K H (kvs.map fun kv:Key×D=>D.tup [kD kv.1,kv.2]) ys→∃ws:List (Key×V),KR K H kvs ws∧Paired (fun (kv:Key×V) (x:V)=>∃t,x=.ref t∧SqT K H t [kV kv.1,kv.2]) ws ys:=show _ by
  intro kvs
  induction kvs with
  | nil=>intro ys h;cases h;exact ⟨[],.nil,.nil⟩
  | cons kv kvs ih =>
    intro ys h
    rw [List.map_cons] at h
    cases h with
    | cons r q =>
      obtain ⟨ws,h2,h3⟩:=ih q
      cases r with
      | tup h1 h4 =>
        cases h4 with
        | cons ra h4 =>
          cases h4 with
          | cons rb h4 =>
            cases h4
            have e:=zjo ra
            subst e
            exact ⟨(kv.1,_)::ws,.cons ⟨rfl,rb⟩ h2,.cons ⟨_,rfl,h1⟩ h3⟩
theorem KR.fold {K:PySem.W.Frag} {H:Hp}:∀{kvs:List (Key×D)} {ws:List (Key×V)} {as:List (Key×D)} {bs:List (Key×V)},KR K H kvs ws→KR K H as bs→KR K H (kvs.foldl (fun acc kv=>putD acc kv.1 kv.2) as) (ws.foldl (fun acc kv=>putK acc kv.1 kv.2) bs)
  | _,_,_,_,.nil,h=>h
  | _,_,_,_,.cons (a:=p) (b:=q) ⟨e,r⟩ t,h=>by
    obtain ⟨k,v⟩:=p
    obtain ⟨k',v'⟩:=q
    obtain rfl:k=k':=e
    simp only [List.foldl_cons]
    exact KR.fold t (KR.put h k r)
theorem znp {K:PySem.W.Frag}:DnC K toDict3 (fun xs H Q=>∃l ys kvs,xs=[.ref l]∧H l=some (.lst ys)∧Paired (fun (kv:Key×V) (x:V)=>∃t,x=.ref t∧SqT K H t [kV kv.1,kv.2]) kvs ys ∧
    ∀p,H p=none→Q (.ref p) (upd H p (.dK (kvs.foldl (fun acc kv=>putK acc kv.1 kv.2) [])))):=show _ by
  intro Z ds S Q3 vs H Q r l h c
  obtain ⟨a,kvs,rfl,e,q⟩:=h
  cases r with
  | cons r rr =>
    cases rr
    cases r
    obtain ⟨ys,h1,h2⟩:=l.obj a _ e
    obtain ⟨ws,h3,h4⟩:=zk3 h2
    refine ⟨a,ys,ws,rfl,h1,h4,fun p hp=>?_⟩
    obtain ⟨hs,hz⟩:=l.fresh hp
    have k:=Kp.new (o:=HO.dK (ws.foldl (fun acc kv=>putK acc kv.1 kv.2) [])) hp hz
    refine c _ _ _ _ k (.ref p) (l.put (o:=.dic (kvs.foldl (fun acc kv=>putD acc kv.1 kv.2) [])) k hz ⟨_,za5,?_⟩) (q p hs)
    have h5:KR K (upd H p (.dK (ws.foldl (fun acc kv=>putK acc kv.1 kv.2) []))) kvs ws:=Paired.mapP h3 fun p q z=>⟨z.1,z.2.mono k⟩
    exact KR.fold h5 .nil
theorem zim {i o:Expr} {td ty:TE} (hu:X.A.units+1<cLine) (hi:PE X i ty) (ho:PE X o td):PC X .NotIn i o (fun σ H Q=>ty σ H fun y H1=>td σ H1 fun x H2=>(∃a r,x=.ref a∧DGet H2 a y r∧Q (.bl (!r.isSome)) H2)∨rIn X.K true y x H2 Q):=show _ by
  intro pins s σ H Q I h
  refine bin hi ho I h fun v u s2 y x H2 I2 ry rx q=>?_
  rcases q with ⟨a,r,rfl,g,q⟩|q
  · cases rx
    exact zrp hu I2 g ry fun s' I'=>⟨.bl _,H2,I',rfl,q⟩
  · exact zio pins s2 σ H2 y x v u Q I2 ry rx q
def notinA (Q:K3) (x y:D) (S:Hp3):Prop:=(∃a kvs k,x=.ref a∧S a=some (.dic kvs)∧y=kD k∧Q (.bl (!(valD kvs k).isSome)) S)∨∃ds,x=.tup ds∧flatD y=true∧ds.all flatD=true∧Q (.bl (!memD y ds)) S
def notin3 (ty td:TE3):TE3:=fun σ S Q=>ty σ S fun y S1=>td σ S1 fun x S2=>notinA Q x y S2
theorem zqb {i o:Expr} {td ty:TE3} {pos:Pos} (hu:X.A.units+1<cLine) (hi:PE3 X W3 i ty) (ho:PE3 X W3 o td) (h1:behindInMarks .NotIn o=false:=by with_unfolding_all rfl):PT3 X W3 (.Compare i [.NotIn] [o] pos) (test3 (notin3 ty td)) :=
  fun Z=>PT.imp (pt_cmp (zim hu (hi Z) (ho Z)) h1) fun τ H Q z_2=>by
    obtain ⟨σ,S,Q3,hs,hr,ht,hc⟩:=z_2
    refine ⟨σ,S,_,hs,hr,ht,fun y S1 w H1 k1 r1 l1 q1=>⟨σ,S1,_,hs.mono k1,l1,q1,fun x S2 v H2 k2 r2 l2 q2=>?_⟩⟩
    rcases q2 with ⟨a,kvs,k,rfl,e,rfl,b,eb,q⟩|⟨ds,rfl,fy,fd,b,eb,q⟩
    · cases r2
      obtain ⟨ws,g,kr⟩:=DGet.down l2 e (r1.mono k2)
      refine .inl ⟨a,_,rfl,g,b,?_,hc _ S2 H2 (k1.trans k2) l2 q⟩
      rw [←(kr.val k).2]
      cases eb
      rfl
    · cases r2 with
      | tup h3 h4 =>
        obtain ⟨e1,f1⟩:=zga (r1.mono k2) fy
        obtain ⟨e2,f2⟩:=zdx h4 fd
        subst e1
        subst e2
        refine .inr ⟨_,_,rfl,.inr h3,f1,f2,b,?_,hc _ S2 H2 (k1.trans k2) l2 q⟩
        cases eb
        rfl
section
variable {σ:St3} {S:Hp3} {Q:K3} {te ta:TE3}
theorem j_notin (h:te σ S fun y S1=>ta σ S1 fun x S2=>notinA Q x y S2):notin3 te ta σ S Q:=h
theorem j_notinD {a:Addr} {kvs:List (Key×D)} {z:Str} (hS:S a=some (.dic kvs)) (q:Q (.bl (!(valD kvs (.inr z)).isSome)) S):notinA Q (.ref a) (.str z) S:=.inl ⟨a,kvs,.inr z,rfl,hS,rfl,q⟩
theorem j_notinT {xs:List Str} {z:Str} (q:Q (.bl (!decide (z∈xs))) S):notinA Q (.tup (xs.map D.str)) (.str z) S:=.inr ⟨_,rfl,rfl,znl xs,by rw [zm2];exact q⟩
theorem j_inT {x:D} {ds:List D} (hx:flatD x=true) (hd:ds.all flatD=true) (q:Q (.bl (memD x ds)) S):in3 false x (.tup ds) S Q:=⟨ds,.inr rfl,hx,hd,q⟩
theorem j_toDict {a:Addr} {kvs:List (Key×D)} (hS:S a=some (.lst (kvs.map fun kv:Key×D=>D.tup [kD kv.1,kv.2]))) (q:∀p,S p=none→Q (.ref p) (up S p (.dic (kvs.foldl (fun acc kv=>putD acc kv.1 kv.2) [])))):toDict3 [.ref a] S Q:=⟨a,kvs,rfl,hS,q⟩
end
theorem iteBt {b:Bool} {A B:Prop} (h:b=true) (q:A):if b=true then A else B:=by rw [if_pos h];exact q
theorem iteBf {b:Bool} {A B:Prop} (h:b=false) (q:B):if b=true then A else B:=by rw [if_neg (by rw [h];exact Bool.false_ne_true)];exact q
end
end E3
namespace E3
open PySem PySem.Spec PyProof.Rows L2 EE
theorem zbi {n:Nat} (h:n≤1000000):n≤sizeLine:=Nat.le_trans h (by decide)
theorem zas {n:Nat} (h:n≤1000000):n<sizeLine:=Nat.lt_of_le_of_lt h (by decide)
theorem zp7 {α:Type} {xs:List α} {i:Int} {v:α} (h0:0≤i) (h:xs[i.toNat]?=some v):atI xs i=some v:=by
  have e:i=((i.toNat:Nat):Int):=by omega
  rw [e]
  exact zcz h
theorem atI_0 {α:Type} {x:α} {xs:List α}:atI (x::xs) 0=some x:=zcz (j:=0) rfl
theorem atI_2 {α:Type} {x y z:α} {xs:List α}:atI (x::y::z::xs) 2=some z:=zcz (j:=2) rfl
theorem ixN_of {n:Nat} {i:Int} {j:Nat} (h:i=(j:Int)) (hj:j<n):ixN n i=some j:=by
  subst h
  unfold ixN
  rw [if_pos (by omega),if_pos (by omega)]
  simp
theorem ixN_0 {α:Type} {x:α} {xs:List α}:ixN (x::xs).length 0=some 0:=ixN_of rfl (by simp)
theorem ze1 {xs:List D} {p:Int} (h0:0≤p):cutD xs none (some p)=xs.take p.toNat:=show _ by
  unfold cutD
  have e:p=((p.toNat:Nat):Int):=by omega
  rw [e,HT.zeg,HT.zfw,List.drop_zero,Nat.sub_zero,←e]
  by_cases h:p.toNat≤xs.length
  · rw [Nat.min_eq_left h]
  · rw [Nat.min_eq_right (by omega),List.take_of_length_le (by omega),List.take_of_length_le (by omega)]
theorem zdc {xs:List D} {p:Int} (h0:0≤p):cutD xs (some p) none=xs.drop p.toNat:=show _ by
  unfold cutD
  have e:p=((p.toNat:Nat):Int):=by omega
  rw [e,HT.zeg,HT.zfw,←e]
  by_cases h:p.toNat≤xs.length
  · rw [Nat.min_eq_left h,List.take_of_length_le (by rw [List.length_drop];omega)]
  · rw [Nat.min_eq_right (by omega),List.drop_eq_nil_of_le (Nat.le_refl _),List.drop_eq_nil_of_le (by omega)]
    simp
theorem zh6 {cs:List Nat} {p:Int} (h0:0≤p):cutT cs none (some p)=cs.take p.toNat:=show _ by
  unfold cutT
  have e:p=((p.toNat:Nat):Int):=by omega
  rw [e,HT.zeg,HT.zfw,List.drop_zero,Nat.sub_zero,←e]
  by_cases h:p.toNat≤cs.length
  · rw [Nat.min_eq_left h]
  · rw [Nat.min_eq_right (by omega),List.take_of_length_le (by omega),List.take_of_length_le (by omega)]
theorem zi2 {cs:List Nat} {p:Int} (h0:0≤p):cutT cs (some p) none=cs.drop p.toNat:=show _ by
  unfold cutT
  have e:p=((p.toNat:Nat):Int):=by omega
  rw [e,HT.zeg,HT.zfw,←e]
  by_cases h:p.toNat≤cs.length
  · rw [Nat.min_eq_left h,List.take_of_length_le (by rw [List.length_drop];omega)]
  · rw [Nat.min_eq_right (by omega),List.drop_eq_nil_of_le (Nat.le_refl _),List.drop_eq_nil_of_le (by omega)]
    simp
def NameOk (x:Str):Prop:=∃cs:List Nat,x=textOf cs∧1≤cs.length∧cs.length≤8∧∀c∈cs,97≤c∧c≤122
theorem zko {a b:List Nat} (h:textOf a=textOf b):a=b:=by
  have:=congrArg (fun x:Str=>x.cps.toList) h
  simpa [textOf] using this
theorem zbk (cs:List Nat):(textOf cs).cps.toList=cs:=by simp [textOf]
theorem zmg:("abcdefghijklmnopqrstuvwxyz":Str)=textOf (List.range' 97 26):=by decide +kernel
theorem zik:("abcdefghijkl":Str)=textOf (List.range' 97 12):=by decide +kernel
theorem zj6:("abcd":Str)=textOf [97,98,99,100]:=by decide +kernel
theorem zkl {n:Nat} {i:Int} (h0:0≤i) (h1:i<n):atI (List.range' 97 n) i=some (97+i.toNat):=by
  refine zp7 h0 ?_
  rw [List.getElem?_range' (by omega)]
  simp
noncomputable def nm1 (cs:List Nat) (p k:Nat):List Nat:=(cs.take p++[97+k])++cs.drop p
noncomputable def nm2 (cs:List Nat) (k:Nat):List Nat:=cs.take 4++[97,98,99,100].take (k+1)
noncomputable def nm3 (cs:List Nat) (k:Nat):List Nat:=[97,98,99,100].drop (3-k)++cs.take 4
def Letters (cs:List Nat):Prop:=∀c∈cs,97≤c∧c≤122
structure Row (n:Nat) (xs:List Str):Prop where
  len:xs.length=n
  nd:xs.Nodup
  ok:∀x∈xs,NameOk x
theorem zmm {n:Nat} {f:Nat→List Nat} (inj:∀i j,i<n→j<n→f i=f j→i=j) (ok:∀i,i<n→NameOk (textOf (f i))):Row n ((List.range n).map fun k=>textOf (f k)):=show _ by
  refine ⟨by simp,?_,fun x hx=>?_⟩
  · rw [List.nodup_iff_pairwise_ne,List.pairwise_map]
    have:=List.nodup_range (n:=n)
    rw [List.nodup_iff_pairwise_ne] at this
    refine List.Pairwise.imp_of_mem (fun {a b} ha hb hab e=>hab ?_) this
    exact inj a b (List.mem_range.mp ha) (List.mem_range.mp hb) (zko e)
  · obtain ⟨k,hk,rfl⟩:=List.mem_map.mp hx
    exact ok k (List.mem_range.mp hk)
theorem row1 {n p:Nat} {cs:List Nat} (hl:Letters cs) (h7:cs.length≤7) (hn:n≤12):Row n ((List.range n).map fun k=>textOf (nm1 cs p k)):=show _ by
  refine zmm (fun i j hi hj e=>?_) fun i hi=>⟨_,rfl,?_,?_,?_⟩
  · unfold nm1 at e
    have e2:=List.append_inj_left' e rfl
    have e3:=List.append_inj_right e2 rfl
    simp at e3
    exact e3
  · simp [nm1];omega
  · simp only [nm1,List.length_append,List.length_take,List.length_cons,List.length_nil,List.length_drop];omega
  · intro c hc
    simp only [nm1,List.mem_append,List.mem_singleton] at hc
    rcases hc with (hc|rfl)|hc
    · exact hl c (List.mem_of_mem_take hc)
    · omega
    · exact hl c (List.mem_of_mem_drop hc)
theorem row2 {n:Nat} {cs:List Nat} (hl:Letters cs) (hn:n≤4):Row n ((List.range n).map fun k=>textOf (nm2 cs k)):=show _ by
  refine zmm (fun i j hi hj e=>?_) fun i hi=>⟨_,rfl,?_,?_,?_⟩
  · have:=congrArg List.length e
    simp only [nm2,List.length_append,List.length_take,List.length_cons,List.length_nil] at this
    omega
  · simp only [nm2,List.length_append,List.length_take,List.length_cons,List.length_nil];omega
  · simp only [nm2,List.length_append,List.length_take,List.length_cons,List.length_nil];omega
  · intro c hc
    simp only [nm2,List.mem_append] at hc
    rcases hc with hc|hc
    · exact hl c (List.mem_of_mem_take hc)
    · have:=List.mem_of_mem_take hc
      simp only [List.mem_cons,List.not_mem_nil,or_false] at this
      omega
theorem row3 {n:Nat} {cs:List Nat} (hl:Letters cs) (hn:n≤4):Row n ((List.range n).map fun k=>textOf (nm3 cs k)):=show _ by
  refine zmm (fun i j hi hj e=>?_) fun i hi=>⟨_,rfl,?_,?_,?_⟩
  · have:=congrArg List.length e
    simp only [nm3,List.length_append,List.length_take,List.length_drop,List.length_cons,List.length_nil] at this
    omega
  · simp only [nm3,List.length_append,List.length_take,List.length_drop,List.length_cons,List.length_nil];omega
  · simp only [nm3,List.length_append,List.length_take,List.length_drop,List.length_cons,List.length_nil];omega
  · intro c hc
    simp only [nm3,List.mem_append] at hc
    rcases hc with hc|hc
    · have:=List.mem_of_mem_drop hc
      simp only [List.mem_cons,List.not_mem_nil,or_false] at this
      omega
    · exact hl c (List.mem_of_mem_take hc)
theorem Row.turn {n t:Nat} {xs:List Str} (r:Row n xs):Row n (xs.drop t++xs.take t):=show _ by
  have e:=List.take_append_drop t xs
  have pm:(xs.drop t++xs.take t).Perm xs:=by
    have:=List.perm_append_comm (l₁:=xs.drop t) (l₂:=xs.take t)
    rw [e] at this
    exact this
  exact ⟨pm.length_eq.trans r.len,pm.nodup_iff.mpr r.nd,fun x hx=>r.ok x (pm.mem_iff.mp hx)⟩
inductive Sy where
  | name (x:Str)|bud|pair (a b:Sy)|left (a:Sy)|right (a:Sy)|fork (a b c:Sy)|send (x:Str) (as:List Sy)
mutual
noncomputable def Sy.d:Sy→D
  | .name x=>.tup [.str "name",.str x]
  | .bud=>.tup [.str "bud"]
  | .pair a b=>.tup [.str "pair",a.d,b.d]
  | .left a=>.tup [.str "left",a.d]
  | .right a=>.tup [.str "right",a.d]
  | .fork a b c=>.tup [.str "fork",a.d,b.d,c.d]
  | .send x as=>.tup [.str "send",.str x,.tup (Sy.ds as)]
noncomputable def Sy.ds:List Sy→List D
  | []=>[]
  | a::as=>a.d::Sy.ds as
end
mutual
noncomputable def Sy.deep:Sy→Nat
  | .name _=>1
  | .bud=>1
  | .pair a b=>max a.deep b.deep+1
  | .left a=>a.deep+1
  | .right a=>a.deep+1
  | .fork a b c=>max a.deep (max b.deep c.deep)+1
  | .send _ as=>Sy.deeps as+1
noncomputable def Sy.deeps:List Sy→Nat
  | []=>0
  | a::as=>max a.deep (Sy.deeps as)
end
noncomputable def Sy.parts:Sy→List Sy
  | .name _=>[]
  | .bud=>[]
  | .pair a b=>[a,b]
  | .left a=>[a]
  | .right a=>[a]
  | .fork a b c=>[a,b,c]
  | .send _ as=>as
mutual
noncomputable def Sy.pre:Sy→List Sy
  | .name x=>[.name x]
  | .bud=>[.bud]
  | .pair a b=>.pair a b::(a.pre++b.pre)
  | .left a=>.left a::a.pre
  | .right a=>.right a::a.pre
  | .fork a b c=>.fork a b c::(a.pre++(b.pre++c.pre))
  | .send x as=>.send x as::Sy.pres as
noncomputable def Sy.pres:List Sy→List Sy
  | []=>[]
  | a::as=>a.pre++Sy.pres as
end
theorem Sy.pre_parts (s:Sy):s.pre=s::Sy.pres s.parts:=by
  cases s<;>simp [Sy.pre,Sy.parts,Sy.pres]
theorem Sy.ds_map:∀as:List Sy,Sy.ds as=as.map Sy.d
  | []=>rfl
  | a::as=>by simp only [Sy.ds,List.map_cons,Sy.ds_map as]
theorem Sy.pres_append:∀as bs:List Sy,Sy.pres (as++bs)=Sy.pres as++Sy.pres bs
  | [],bs=>by simp [Sy.pres]
  | a::as,bs=>by simp [Sy.pres,Sy.pres_append as bs]
mutual
def Sy.wf (ar:Str→Option Nat) (ps:List Str):Sy→Prop
  | .name x=>x∈ps
  | .bud=>True
  | .pair a b=>a.wf ar ps∧b.wf ar ps
  | .left a=>a.wf ar ps
  | .right a=>a.wf ar ps
  | .fork a b c=>a.wf ar ps∧b.wf ar ps∧c.wf ar ps
  | .send x as=>ar x=some as.length∧1≤as.length∧as.length≤4∧Sy.wfs ar ps as
def Sy.wfs (ar:Str→Option Nat) (ps:List Str):List Sy→Prop
  | []=>True
  | a::as=>a.wf ar ps∧Sy.wfs ar ps as
end
theorem Sy.wfs_iff {ar:Str→Option Nat} {ps:List Str}:∀{as:List Sy},Sy.wfs ar ps as↔∀a∈as,a.wf ar ps
  | []=>by simp [Sy.wfs]
  | a::as=>by simp [Sy.wfs,Sy.wfs_iff (as:=as)]
theorem Sy.deeps_le:∀{as:List Sy} {n:Nat},(∀a∈as,a.deep≤n)→Sy.deeps as≤n
  | [],_,_=>Nat.zero_le _
  | a::as,n,h=>by
    simp only [Sy.deeps]
    have h1:=h a List.mem_cons_self
    have h2:=Sy.deeps_le (as:=as) (n:=n) fun b hb=>h b (List.mem_cons_of_mem _ hb)
    omega
theorem Sy.deeps_mem:∀{as:List Sy} {a:Sy},a∈as→a.deep≤Sy.deeps as
  | b::as,a,h=>by
    simp only [Sy.deeps]
    rcases List.mem_cons.mp h with rfl|h
    · omega
    · have:=Sy.deeps_mem h;omega
noncomputable def Sy.sends (s:Sy):Nat:=(s.pre.filter fun a=>match a with | .send _ _=>true|_=>false).length
noncomputable def Sy.sendss (as:List Sy):Nat:=((Sy.pres as).filter fun a=>match a with | .send _ _=>true|_=>false).length
theorem Sy.sendss_cons (a:Sy) (as:List Sy):Sy.sendss (a::as)=a.sends+Sy.sendss as:=by simp [Sy.sendss,Sy.sends,Sy.pres]
theorem Sy.sendss_append (as bs:List Sy):Sy.sendss (as++bs)=Sy.sendss as+Sy.sendss bs:=by simp [Sy.sendss,Sy.pres_append]
noncomputable def arOf:List Str→List Nat→Str→Option Nat
  | x::xs,n::ns,y=>if y=x then some n else arOf xs ns y
  | _,_,_=>none
theorem zia:∀{xs:List Str} {ns:List Nat} {i:Nat} {x:Str} {n:Nat},xs.Nodup→xs[i]?=some x→ns[i]?=some n→arOf xs ns x=some n
  | [],_,_,_,_,_,h,_=>by simp at h
  | _::_,[],_,_,_,_,_,h=>by simp at h
  | y::xs,m::ns,0,x,n,_,h1,h2=>by
    simp at h1 h2
    subst h1 h2
    simp [arOf]
  | y::xs,m::ns,i+1,x,n,nd,h1,h2=>by
    have hx:x∈xs:=List.mem_of_getElem? (by simpa using h1)
    have hne:x≠y:=fun z=>(List.nodup_cons.mp nd).1 (z▸hx)
    rw [arOf,if_neg hne]
    exact zia (List.nodup_cons.mp nd).2 (by simpa using h1) (by simpa using h2)
structure Er where
  name:Str
  ps:List Str
  body:Sy
noncomputable def Er.d (e:Er):D:=.tup [.str e.name,.tup (e.ps.map D.str),e.body.d]
end E3
namespace E3
open PySem PySem.Spec PyProof.Rows L2 EE
theorem at_mod {α:Type} {xs:List α} (c:Int) (h:0<xs.length):∃(j:Nat) (v:α),c%(xs.length:Int)=(j:Int)∧j<xs.length∧xs[j]?=some v:=show _ by
  have h0:=Int.emod_nonneg c (show (xs.length:Int)≠0 by omega)
  have h1:=Int.emod_lt_of_pos c (show (0:Int)<xs.length by omega)
  have hj:(c%(xs.length:Int)).toNat<xs.length:=by omega
  exact ⟨(c%(xs.length:Int)).toNat,xs[(c%(xs.length:Int)).toNat],by omega,hj,List.getElem?_eq_getElem hj⟩
theorem zgi {α:Type} {f:α→D} {xs:List α} (c:Int) (h:0<xs.length):∃(j:Nat) (v:α),c%((xs.map f).length:Int)=(j:Int)∧xs[j]?=some v∧atI (xs.map f) (c%((xs.map f).length:Int))=some (f v):=show _ by
  obtain ⟨j,v,e,hj,hv⟩:=at_mod (xs:=xs) c h
  have e':c%((xs.map f).length:Int)=(j:Int):=by rw [List.length_map];exact e
  refine ⟨j,v,e',hv,?_⟩
  rw [e']
  refine zcz ?_
  rw [List.getElem?_map,hv]
  rfl
theorem zd7 {σ:St3} {js:List Nat} {te:TE3} {Q:K3} {S:Hp3} {sp:Addr} {m:Nat} {i b:Int} {Al:Hp3→Prop} (good:Sy→Prop) (hm:m≤1000) (hA:∀S,Al S)
    (h:∀(d:D) (i1 b1:Int),i≤i1→0≤b1→∀P:K3,(∀(s:Sy) (i2 b2:Int),good s→i1≤i2→0≤b2→(s.sends:Int)+b2≤b1→P s.d (up S sp (.lst [.int i2,.int b2])))→te (some d::pick3 σ js) (up S sp (.lst [.int i1,.int b1])) P)
    (hb:0≤b) (q:∀(ss:List Sy) (i2 b2:Int),ss.length=m→(∀s∈ss,good s)→i≤i2→0≤b2→(Sy.sendss ss:Int)+b2≤b→newL (up S sp (.lst [.int i2,.int b2])) (ss.map Sy.d) Q) :
    ∃W:Nat→List D→Hp3→Prop,W 0 [] (up S sp (.lst [.int i,.int b]))∧(∀i ys S,W i ys S→Al S∧ys.length<sizeLine) ∧
  (∀i d ys S,(nums 0 m)[i]?=some d→W i ys S→te (some d::pick3 σ js) S fun y S'=>W (i+1) (ys++[y]) S')∧∀ys S,W (nums 0 m).length ys S→newL S ys Q:=show _ by
  refine ⟨fun j ys S'=>j≤m∧∃(ss:List Sy) (i1 b1:Int),ys=ss.map Sy.d∧ss.length=j∧(∀s∈ss,good s)∧i≤i1∧0≤b1∧(Sy.sendss ss:Int)+b1≤b∧S'=up S sp (.lst [.int i1,.int b1]),
    ⟨Nat.zero_le _,[],i,b,rfl,rfl,by simp,Int.le_refl _,hb,by simp [Sy.sendss,Sy.pres],rfl⟩,?_,?_,?_⟩
  · rintro j ys S' ⟨hj,ss,i1,b1,rfl,hl,_⟩
    refine ⟨hA _,?_⟩
    rw [List.length_map]
    exact zas (by omega)
  · rintro j d ys S' hd ⟨hj,ss,i1,b1,rfl,hl,hg,hi,hb1,hs,rfl⟩
    obtain ⟨hlt,rfl⟩:=zca hd
    refine h _ i1 b1 hi hb1 _ fun s i2 b2 gs h2 hb2 hs2=>⟨hlt,ss++[s],i2,b2,by simp,by simp [hl],?_,by omega,hb2,?_,rfl⟩
    · intro s' hs'
      rcases List.mem_append.mp hs' with h|h
      · exact hg s' h
      · rw [List.mem_singleton.mp h];exact gs
    · rw [Sy.sendss_append,Sy.sendss_cons]
      simp only [Sy.sendss,Sy.pres,List.filter_nil,List.length_nil] at hs ⊢
      omega
  · rintro ys S' ⟨_,ss,i1,b1,rfl,hl,hg,hi,hb1,hs,rfl⟩
    rw [za2] at hl
    exact q ss i1 b1 hl hg hi hb1 hs
theorem Sy.sends_parts (s:Sy):s.sends=(match s with | .send _ _=>1|_=>0)+Sy.sendss s.parts:=by
  cases s<;>simp [Sy.sends,Sy.sendss,Sy.pre,Sy.parts,Sy.pres]<;>omega
noncomputable def arP (prog:List Er):Str→Option Nat:=arOf (prog.map Er.name) (prog.map fun e=>e.ps.length)
structure Good (prog:List Er) (most deep b:Nat):Prop where
  len1:1≤prog.length
  len:prog.length≤most
  nd:(prog.map Er.name).Nodup
  nm:∀e∈prog,NameOk e.name
  ps:∀e∈prog,1≤e.ps.length∧e.ps.length≤4∧e.ps.Nodup∧∀x∈e.ps,NameOk x
  wf:∀e∈prog,e.body.wf (arP prog) e.ps∧e.body.deep≤deep
  sends:(prog.map fun e=>e.body.sends).sum≤b
theorem zp9 {ers:List Er} {names:List Str} {counts:List Nat} (h1:ers.map Er.name=names) (h2:(ers.map fun e=>e.ps.length)=counts):arP ers=arOf names counts:=by
  unfold arP;rw [h1,h2]
theorem ps_ok {n c:Nat} {xs:List Str} (r:Row n xs) (hc:c≤n):(xs.take c).length=c∧(xs.take c).Nodup∧∀x∈xs.take c,NameOk x:=by
  refine ⟨by rw [List.length_take,r.len];omega,r.nd.sublist (List.take_sublist _ _),fun x hx=>r.ok x (List.mem_of_mem_take hx)⟩
structure ErOk (ar:Str→Option Nat) (deep:Nat) (e:Er):Prop where
  l1:1≤e.ps.length
  l4:e.ps.length≤4
  nd:e.ps.Nodup
  ok:∀x∈e.ps,NameOk x
  wf:e.body.wf ar e.ps
  dp:e.body.deep≤deep
theorem zrg {ers:List Er} {names:List Str} {counts:List Nat} {n most deep b:Nat} (Rn:Row n names) (h1:ers.map Er.name=names) (h2:(ers.map fun e=>e.ps.length)=counts) (hn1:1≤n) (hn:n≤most)
    (hk:∀e∈ers,ErOk (arOf names counts) deep e) (hs:(ers.map fun e=>e.body.sends).sum≤b):Good ers most deep b:=show _ by
  have hl:ers.length=n:=by rw [←Rn.len,←h1,List.length_map]
  refine ⟨by omega,by omega,by rw [h1];exact Rn.nd,fun e he=>Rn.ok _ (by rw [←h1];exact List.mem_map_of_mem he),fun e he=>⟨(hk e he).l1,(hk e he).l4,(hk e he).nd,(hk e he).ok⟩,fun e he=>⟨?_,(hk e he).dp⟩,hs⟩
  rw [zp9 h1 h2]
  exact (hk e he).wf
end E3
namespace E3
open PySem PySem.Spec PyProof.Rows L2 EE
theorem zid {p:Key×D} {r:List (Key×D)} {k:Key}:valD (p::r) k=if p.1=k then some p.2 else valD r k:=by
  by_cases e:p.1=k
  · simp [valD,List.find?_cons,e]
  · simp [valD,List.find?_cons,e]
theorem zhv {kvs:List (Key×D)} {k:Key} {v:D} (h:k∉kvs.map (·.1)):putD kvs k v=kvs++[(k,v)]:=by
  unfold putD
  rw [if_neg]
  intro z
  obtain ⟨p,hp,e⟩:=List.any_eq_true.mp z
  exact h (List.mem_map.mpr ⟨p,hp,of_decide_eq_true e⟩)
mutual
theorem Sy.pre_len {ar:Str→Option Nat} {ps:List Str}:∀{s:Sy},s.wf ar ps→s.pre.length≤5^s.deep
  | .name _,_=>by simp [Sy.pre,Sy.deep]
  | .bud,_=>by simp [Sy.pre,Sy.deep]
  | .pair x y,h=>by
    simp only [Sy.wf] at h
    have h1:=Sy.pre_len h.1
    have h2:=Sy.pre_len h.2
    simp only [Sy.pre,Sy.deep,List.length_cons,List.length_append]
    have e1:5^x.deep≤5^max x.deep y.deep:=Nat.pow_le_pow_right (by omega) (by omega)
    have e2:5^y.deep≤5^max x.deep y.deep:=Nat.pow_le_pow_right (by omega) (by omega)
    have e3:1≤5^max x.deep y.deep:=Nat.one_le_pow _ _ (by omega)
    rw [Nat.pow_succ]
    omega
  | .left x,h=>by
    simp only [Sy.wf] at h
    have h1:=Sy.pre_len h
    simp only [Sy.pre,Sy.deep,List.length_cons]
    have e3:1≤5^x.deep:=Nat.one_le_pow _ _ (by omega)
    rw [Nat.pow_succ]
    omega
  | .right x,h=>by
    simp only [Sy.wf] at h
    have h1:=Sy.pre_len h
    simp only [Sy.pre,Sy.deep,List.length_cons]
    have e3:1≤5^x.deep:=Nat.one_le_pow _ _ (by omega)
    rw [Nat.pow_succ]
    omega
  | .fork x y z,h=>by
    simp only [Sy.wf] at h
    have h1:=Sy.pre_len h.1
    have h2:=Sy.pre_len h.2.1
    have h3:=Sy.pre_len h.2.2
    simp only [Sy.pre,Sy.deep,List.length_cons,List.length_append]
    have e1:5^x.deep≤5^max x.deep (max y.deep z.deep):=Nat.pow_le_pow_right (by omega) (by omega)
    have e2:5^y.deep≤5^max x.deep (max y.deep z.deep):=Nat.pow_le_pow_right (by omega) (by omega)
    have e4:5^z.deep≤5^max x.deep (max y.deep z.deep):=Nat.pow_le_pow_right (by omega) (by omega)
    have e3:1≤5^max x.deep (max y.deep z.deep):=Nat.one_le_pow _ _ (by omega)
    rw [Nat.pow_succ]
    omega
  | .send x as,h=>by
    simp only [Sy.wf] at h
    have h1:=Sy.pres_len h.2.2.2
    simp only [Sy.pre,Sy.deep,List.length_cons]
    have e3:1≤5^Sy.deeps as:=Nat.one_le_pow _ _ (by omega)
    have e4:as.length*5^Sy.deeps as≤4*5^Sy.deeps as:=Nat.mul_le_mul_right _ h.2.2.1
    rw [Nat.pow_succ]
    omega
theorem Sy.pres_len {ar:Str→Option Nat} {ps:List Str}:∀{as:List Sy},Sy.wfs ar ps as→(Sy.pres as).length≤as.length*5^Sy.deeps as
  | [],_=>by simp [Sy.pres]
  | x::xs,h=>by
    simp only [Sy.wfs] at h
    have h1:=Sy.pre_len h.1
    have h2:=Sy.pres_len h.2
    simp only [Sy.pres,Sy.deeps,List.length_cons,List.length_append]
    have e1:5^x.deep≤5^max x.deep (Sy.deeps xs):=Nat.pow_le_pow_right (by omega) (by omega)
    have e2:5^Sy.deeps xs≤5^max x.deep (Sy.deeps xs):=Nat.pow_le_pow_right (by omega) (by omega)
    have e3:xs.length*5^Sy.deeps xs≤xs.length*5^max x.deep (Sy.deeps xs):=Nat.mul_le_mul_left _ e2
    rw [Nat.succ_mul]
    omega
end
noncomputable def Sy.nm:Sy→Option Str
  | .send x _=>some x
  | _=>none
noncomputable def Sy.sent (s:Sy):List Str:=s.pre.filterMap Sy.nm
noncomputable def sendsOf (prog:List Er):List (Str×Str):=(prog.map fun e=>e.body.sent.map fun to=>(e.name,to)).flatten
mutual
theorem Sy.d_pure:∀s:Sy,s.d.pure=true
  | .name x=>rfl
  | .bud=>rfl
  | .pair a b=>by simp only [Sy.d,D.pure,D.pures,a.d_pure,b.d_pure,Bool.and_self]
  | .left a=>by simp only [Sy.d,D.pure,D.pures,a.d_pure,Bool.and_self]
  | .right a=>by simp only [Sy.d,D.pure,D.pures,a.d_pure,Bool.and_self]
  | .fork a b c=>by simp only [Sy.d,D.pure,D.pures,a.d_pure,b.d_pure,c.d_pure,Bool.and_self]
  | .send x as=>by simp only [Sy.d,D.pure,D.pures,Sy.ds_pure as,Bool.and_self]
theorem Sy.ds_pure:∀as:List Sy,D.pures (Sy.ds as)=true
  | []=>rfl
  | a::as=>by simp only [Sy.ds,D.pures,a.d_pure,Sy.ds_pure as,Bool.and_self]
end
mutual
theorem Sy.d_deep:∀s:Sy,deepD s.d.dt≤2*s.deep
  | .name x=>by simp [Sy.d,D.dt,D.dts,deepD,deepDs,Sy.deep]
  | .bud=>by simp [Sy.d,D.dt,D.dts,deepD,deepDs,Sy.deep]
  | .pair a b=>by
    have h1:=a.d_deep
    have h2:=b.d_deep
    simp only [Sy.d,D.dt,D.dts,deepD,deepDs,Sy.deep];omega
  | .left a=>by
    have h1:=a.d_deep
    simp only [Sy.d,D.dt,D.dts,deepD,deepDs,Sy.deep];omega
  | .right a=>by
    have h1:=a.d_deep
    simp only [Sy.d,D.dt,D.dts,deepD,deepDs,Sy.deep];omega
  | .fork a b c=>by
    have h1:=a.d_deep
    have h2:=b.d_deep
    have h3:=c.d_deep
    simp only [Sy.d,D.dt,D.dts,deepD,deepDs,Sy.deep];omega
  | .send x as=>by
    have h1:=Sy.ds_deep as
    simp only [Sy.d,D.dt,D.dts,deepD,deepDs,Sy.deep];omega
theorem Sy.ds_deep:∀as:List Sy,deepDs (D.dts (Sy.ds as))≤2*Sy.deeps as
  | []=>by simp [Sy.ds,D.dts,deepDs]
  | a::as=>by
    have h1:=a.d_deep
    have h2:=Sy.ds_deep as
    simp only [Sy.ds,D.dts,deepDs,Sy.deeps];omega
end
theorem D.strs_pure (xs:List Str):D.pures (xs.map D.str)=true:=D.pures_iff.mpr fun d hd=>by
  obtain ⟨x,_,rfl⟩:=List.mem_map.mp hd
  rfl
theorem zi1 {ds:List Dt} {n:Nat} (h:∀d∈ds,deepD d≤n):deepDs ds≤n:=by
  induction ds with
  | nil=>simp [deepDs]
  | cons d r ih =>
    simp only [deepDs]
    have h1:=h d List.mem_cons_self
    have h2:=ih fun e he=>h e (List.mem_cons_of_mem _ he)
    omega
theorem D.strs_deep (xs:List Str):deepDs (D.dts (xs.map D.str))≤0:=by
  rw [D.dts_map]
  refine zi1 fun d hd=>?_
  obtain ⟨x,hx,rfl⟩:=List.mem_map.mp hd
  obtain ⟨y,_,rfl⟩:=List.mem_map.mp hx
  simp [D.dt,deepD]
theorem Er.d_pure (e:Er):e.d.pure=true:=by simp only [Er.d,D.pure,D.pures,D.strs_pure,e.body.d_pure,Bool.and_self]
theorem Er.d_deep (e:Er):deepD e.d.dt≤2*e.body.deep+2:=by
  have h1:=e.body.d_deep
  have h2:=D.strs_deep e.ps
  simp only [Er.d,D.dt,D.dts,deepD,deepDs]
  omega
theorem zdy {S:Hp3} {a b:Addr} {ds:List D} {n:Nat} {Q:K3} (ha:S a=some (.lst ds)) (hb:S b=some (.lst ds)) (hp:∀d∈ds,d.pure=true) (hd:∀d∈ds,deepD d.dt+1≤n) (h1:1≤n) (q:Q (.bl true) S):eqD3 n (.ref a) (.ref b) S Q:=show _ by
  refine ⟨.lst (D.dts ds),.lst (D.dts ds),.ref ha (Dns.of (D.pures_iff.mpr hp)),.ref hb (Dns.of (D.pures_iff.mpr hp)),?_,by rw [zdj];exact q⟩
  simp only [deepD]
  have:deepDs (D.dts ds)≤n-1:=by
    rw [D.dts_map]
    refine zi1 fun d hd'=>?_
    obtain ⟨x,hx,rfl⟩:=List.mem_map.mp hd'
    have:=hd x hx
    omega
  omega
end E3
namespace EE
open PySem PySem.Spec PyProof.Rows L2
structure CompScG (osc:Scope) (O M:List Str) (scope:Scope):Prop where
  kind:scope.kind=.function
  nocell:∀y∈scope.names,y.2≠.cell
  names:∀y∈scope.names,y.2=.local→scope.names.lookup y.1=some .local
  own:∀y∈O,scope.names.lookup y=some .local
  free:∀y∈scope.names,y.2=.free→osc.names.lookup y.1=some .cell
  nd:(O++M).Nodup
  mine:∀y∈M,scope.names.lookup y=some .free
section
variable {X:Cx} {pins:List (Addr×Obj)} {σ:L2.St} {H:Hp} {s:Shared} {scope:Scope} {O M:List Str} {js:List Nat} {C:Addr} {fp:List Addr}
theorem CompScG.cells (S:CompScG X.env.scope O M scope) (I:Inv X pins σ H s):∀y∈scope.names,y.2=.free→∃c,X.env.cells.lookup y.1=some c:=fun y hy hk=>I.ok.has y.1 (.inl (S.free y hy hk))
theorem CompScG.sub (S:CompScG X.env.scope O M scope) (I:Inv X pins σ H s) {y:Str} {c:Addr} (e:(clOf scope X.env).lookup y=some c):X.env.cells.lookup y=some c :=
  zn5 scope.names [] (S.cells I) (fun _ _ h=>by simp at h) y c e
theorem znd {s1:Shared} {m:Str→Option Value} (S:CompScG X.env.scope O M scope) (hc:X.calm=true) (I:Inv X pins σ H s) (hjs:∀(k:Nat) (y:Str),M[k]?=some y→∃j:Nat,js[k]?=some j∧X.N[j]?=some y) (hlen:js.length=M.length)
    (hf:∀b∈fp,FpOk X pins H b) (hfl:∀b∈fp,b<s.heap.objs.size) (hC:s.heap.objs.size≤C) (hn:s1.heap.Ns C m) (hk:∀b o,s.heap.get? b=some o→s1.heap.get? b=some o) (hos:s1.os=s.os) (hg:AllBare s1.gens) :
    Inv (cxComp X scope C (O++M) fp pins s H) [] (List.replicate O.length none++pick σ js) H s1:=show _ by
  have nst:∀b∈fp,b∉frs X.stack:=fun b hb z=>by
    obtain ⟨f0,f1,f2,_⟩:=hf b hb
    rcases List.mem_cons.mp (I.stkSub b z) with e|e
    · exact f1 e
    · exact f2 e
  have cellK:∀(c:Addr) (v:Option Value),s.heap.IsCell c v→s1.heap.IsCell c v:=fun c v z_1=>by obtain ⟨o,e,d⟩:=z_1;exact ⟨o,hk c o e,d⟩
  refine ⟨⟨I.ok.mod,S.kind,I.ok.glob,I.ok.blt,hC,fun y z c h1 h2=>I.ok.inj y z c (S.sub I h1) (S.sub I h2),fun y hy=>?_,fun y c h _=>(by cases (show false=true from h)),fun _=>I.ok.hd hc,I.ok.frames,.inl rfl,fun b hb=>?_,I.bs,
    Nat.le_trans I.ok.bsz I.sz,fun b o e hb=>?_,nst,I.stack,I.stkFree⟩,hos,hg,Un.kept hk,⟨m,hn,fun i y v h1 h2 h3=>?_⟩,fun y c e=>?_,I.hok.fresh hC,fun y c e=>I.freeC y c (S.sub I e),fun p hp=>?_,I.hok.kept hk,?_⟩
  · have hy':(relabel scope X.env).names.lookup y=some .cell∨(relabel scope X.env).names.lookup y=some .free:=hy
    have fr:(y,NameKind.free)∈scope.names:=by
      rcases hy' with h|h
      · obtain ⟨k',mm,e|e⟩:=zdg h
        · exact absurd e.symm (S.nocell _ mm)
        · rw [e.1] at mm;exact mm
      · obtain ⟨k',mm,e|e⟩:=zdg h
        · rw [←e] at mm;exact mm
        · exact absurd e.2 (by intro z;cases z)
    exact zi5 scope.names [] y (.inl fr)
  · obtain ⟨f0,f1,f2,f3,f4,f5⟩:=hf b hb
    exact ⟨Nat.ne_of_lt (Nat.lt_of_lt_of_le (hfl b hb) hC),fun y c e=>f4 y c (S.sub I e)⟩
  · obtain ⟨f0,f1,f2,f3,f4,f5⟩:=hf b hb
    rcases f3 with f3|f3
    · exact I.ok.noex b o e f3
    · exact absurd (Heap.lt_size e) (Nat.not_lt.mpr (Nat.le_trans I.ok.bsz f3))
  · have h1c:(O++M)[i]?=some y:=h1
    by_cases hi:i<O.length
    · rw [List.getElem?_append_left (by simpa using hi),List.getElem?_replicate,if_pos hi] at h2
      have h2':(none:Option V)=some v:=Option.some.inj h2
      cases h2'
    · have hge:O.length≤i:=Nat.le_of_not_lt hi
      rw [List.getElem?_append_right hge] at h1c
      rw [List.getElem?_append_right (by simpa using hge),List.length_replicate] at h2
      obtain ⟨j,ej,eN⟩:=hjs _ y h1c
      have eσ:σ[j]?=some (some v):=by
        unfold pick at h2
        rw [List.getElem?_map,ej] at h2
        have z:(σ[j]?).getD none=some v:=by simpa using h2
        cases q:σ[j]? with
        | none=>rw [q] at z;cases z
        | some o=>rw [q] at z;rw [show o=some v from z]
      have hfree:=S.mine y (List.mem_of_getElem? h1c)
      have hcell:X.env.kindOf y=some .cell:=S.free (y,.free) (PySem.mem_of_lookup hfree) rfl
      obtain ⟨m0,_,hl0⟩:=I.loc
      obtain ⟨u,r,l⟩:=hl0 j y v eN eσ (.inr (.inl hcell))
      refine ⟨u,r,.inr ⟨.inl (ze8 I.ok.kind hcell hfree),?_⟩⟩
      obtain ⟨c',e'⟩:=zi5 (env:=X.env) scope.names [] y (.inl (PySem.mem_of_lookup hfree))
      have e2:=S.sub I (show (clOf scope X.env).lookup y=some c' from e')
      rcases l with ⟨z,_⟩|⟨_,c,hcc,hic⟩
      · rw [hcell] at z;cases z
      · rw [hcc] at e2
        have:c=c':=Option.some.inj e2
        subst this
        exact ⟨c,e',cellK c _ hic⟩
  · obtain ⟨v,h⟩:=I.cell y c (S.sub I e)
    exact ⟨v,cellK c v h⟩
  · have hp':p∈X.pn++pins:=by simpa [cxComp] using hp
    obtain ⟨e,n,ne,nf,d⟩:=I.pin p hp'
    refine ⟨hk _ _ e,n,Nat.ne_of_lt (Nat.lt_of_lt_of_le (Heap.lt_size e) hC),fun z=>?_,d⟩
    rcases List.mem_cons.mp (I.stkSub p.1 z) with q|q
    · exact ne q
    · exact nf q
  · show (List.replicate O.length none++pick σ js).length=(O++M).length
    simp [pick,hlen]
end
def PTs (X:Cx) (ifs:List Expr) (t:TT):Prop :=
  ∀(pins:List (Addr×Obj)) (s:Shared) (σ:L2.St) (H:Hp) (Q:Bool→Hp→Prop),Inv X pins σ H s→t σ H Q →
    wpAny (model X.prog X.w) X.A (forIn ifs true fun c r=>if r=true then do let ok ←isTrue c X.env (eval c X.env);pure (ForInStep.yield ok) else pure (ForInStep.yield r)) (TP X pins σ Q) X.xe s
theorem zqo {X:Cx} {c:Expr} {t:TT} (h:PT X c t):PTs X [c] t:=fun pins s σ H Q I q=>wpAny_tests_one (h pins s σ H Q I q)
def tCompG (wi:TI) (g:TG) (tt:TT) (te:TE) (n:Nat) (js:List Nat):TE:=fun σ H Q=>wi σ H fun J H1=>∀D,H1 D=none→∃W:Nat→Nat→L2.St→Hp→Prop,(∃m,W 0 m (List.replicate n none++pick σ js) (upd H1 D (.lst []))) ∧
  ∀i m τ H2,W i m τ H2→(J.stop i H2∧Q (.ref D) H2)∨(J.go i H2∧∃N:L2.St→Hp→Prop,(∀τ' H',N τ' H'→∃m',m'<m∧W (i+1) m' τ' H')∧∀v H',J.yld i H2 v H' →
    g v τ H' fun τ' H3=>tt τ' H3 fun b H4=>if b=true then te τ' H4 fun y H5=>∃ys,H5 D=some (.lst ys)∧ys.length<sizeLine∧N τ' (upd H5 D (.lst (ys++[y]))) else N τ' H4)
section
variable {X:Cx} {elt iter tg:Expr} {ifs:List Expr} {pos:Pos} {scope:Scope} {O M:List Str} {js:List Nat} {wi:TI} {g:TG} {tt:TT} {te:TE}
theorem zjt {prog:Program} {w:World} {A:Around} {R:Result→Shared→Prop} {s:Shared} {it acc:Value} {env:Env} (I:Nat→Shared→Prop)
    (turn:∀n s,I n s→wpAny (model prog w) A (pyNext it) (fun r s₁=>match r with
      | none=>R (.ok .next) s₁
      | some v=>wpAny (model prog w) A (letOwnedTupleGo tg it v) (fun _ s₂=>wpAny (model prog w) A (assign tg env v) (fun _ s₃ =>
          wpAny (model prog w) A (forIn ifs true fun c r=>if r=true then do let ok ←isTrue c env (eval c env);pure (ForInStep.yield ok) else pure (ForInStep.yield r)) (fun ok s₄ =>
            if ok=true then wpAny (model prog w) A (eval elt env) (fun y s₅=>wpAny (model prog w) A (call (.builtin "list.append") [acc,y]) (fun _ s₆=>∃m,m<n∧I m s₆) (fun _ _=>False) s₅) (fun _ _=>False) s₄
            else ∃m,m<n∧I m s₄) (fun _ _=>False) s₃) (fun _ _=>False) s₂) (fun _ _=>False) s₁) (fun _ _=>False) s)
    (n:Nat) (h:I n s):codeAny (model prog w) A (.compLoop (.ListComp elt [⟨tg,iter,ifs,0⟩] scope pos) 0 it acc env) R s:=show _ by
  refine codeAny_loop rfl I (fun n s hI=>?_) n h
  show wpAny _ _ ((compTurn (.ListComp elt [⟨tg,iter,ifs,0⟩] scope pos) 0 it acc env).onRaise (fun x=>do noteFrame x env;theTreesLotGoes x)) _ _ s
  refine wpAny_noted ?_
  rw [compTurn_list]
  refine wpAny_bind (wpAny_standAt (wpAny_bind (wpAny_mono (turn n s hI) (fun r s₁ h₁=>?_) fun _ _ z=>z.elim)))
  cases r with
  | none=>exact wpAny_pure h₁
  | some v =>
    refine wpAny_bind (wpAny_mono h₁ (fun _ s₂ h₂=>wpAny_bind (wpAny_mono h₂ (fun _ s₃ h₃=>wpAny_bind (wpAny_mono h₃ (fun ok s₄ h₄=>?_) fun _ _ z=>z.elim)) fun _ _ z=>z.elim)) fun _ _ z=>z.elim)
    cases ok with
    | false=>exact wpAny_pure ⟨rfl,h₄⟩
    | true=>exact wpAny_bind (wpAny_bind (wpAny_mono h₄ (fun y s₅ h₅=>wpAny_bind (wpAny_mono h₅ (fun _ s₆ h₆=>wpAny_pure (wpAny_pure ⟨rfl,h₆⟩)) fun _ _ z=>z.elim)) fun _ _ z=>z.elim))
theorem zjs {pins:List (Addr×Obj)} {σ:L2.St} {H2:Hp} {s2:Shared} {it D:Addr} {fp:List Addr} {tn:Nat→Heap→Prop} {J:It} {W:Nat→Nat→L2.St→Hp→Prop} {Qe:Hp→Prop} {R:Addr→Result→Shared→Prop} {E:Value→Shared→Prop} {m0:Nat}
    (S:CompScG X.env.scope O M scope) (hc:X.calm=true) (hjs:∀(k:Nat) (y:Str),M[k]?=some y→∃j:Nat,js[k]?=some j∧X.N[j]?=some y) (hlen:js.length=M.length)
    (hg:∀(C:Addr) (fp:List Addr) (pins:List (Addr×Obj)) (s:Shared) (H:Hp),PG (cxComp X scope C (O++M) fp pins s H) tg g)
    (ht:∀(C:Addr) (fp:List Addr) (pins:List (Addr×Obj)) (s:Shared) (H:Hp),PTs (cxComp X scope C (O++M) fp pins s H) ifs tt)
    (he:∀(C:Addr) (fp:List Addr) (pins:List (Addr×Obj)) (s:Shared) (H:Hp),PE (cxComp X scope C (O++M) fp pins s H) elt te)
    (I:Inv X pins σ H2 s2) (T:Turn X.prog X.w X.K tg J fp it tn) (st:tn 0 s2.heap) (hf:∀b∈fp,FpOk X pins H2 b) (w0:W 0 m0 (List.replicate O.length none++pick σ js) H2)
    (turn:∀i m τ H3,W i m τ H3→(J.stop i H3∧Qe H3)∨(J.go i H3∧∃N:L2.St→Hp→Prop,(∀τ' H',N τ' H'→∃m',m'<m∧W (i+1) m' τ' H')∧∀v H',J.yld i H3 v H' →
      g v τ H' fun τ' H4=>tt τ' H4 fun b H5=>if b=true then te τ' H5 fun y H6=>∃ys,H6 D=some (.lst ys)∧ys.length<sizeLine∧N τ' (upd H6 D (.lst (ys++[y]))) else N τ' H5))
    (fin:∀(C:Addr) (s':Shared) (H':Hp) (pins':List (Addr×Obj)) (σ':L2.St),s2.heap.objs.size≤C→Inv (cxComp X scope C (O++M) fp pins s2 H2) pins' σ' H' s'→Qe H'→R C (.ok .next) s') :
    wpAny (model X.prog X.w) X.A (newFunctionEnv scope X.env.globals (clOf scope X.env) [] X.env.qual none .none (some X.env)) (fun cenv s4 =>
      codeAny (model X.prog X.w) X.A (.compStart (.ListComp elt [⟨tg,iter,ifs,0⟩] scope pos) 0 (.ref it) (.ref D) {cenv with scope:=relabel scope X.env}) (R cenv.locals) s4) E s2:=show _ by
  refine wpAny_newFunctionEnv S.nocell (by intro y hy;simp at hy) (fun h1 hns hsb=>?_) S.kind
  have hfl:∀b∈fp,b<s2.heap.objs.size:=fun b hb=>by
    obtain ⟨o,e,_⟩:=T.obj 0 _ st b hb
    exact Heap.lt_size e
  have old:∀b o,s2.heap.get? b=some o→h1.get? b=some o:=fun b o e=>(hsb.2 b (Nat.ne_of_lt (Heap.lt_size e))).trans (Heap.get?_push_of_some _ e)
  have I4:Inv (cxComp X scope s2.heap.objs.size (O++M) fp pins s2 H2) [] (List.replicate O.length none++pick σ js) H2 {s2 with heap:=h1,toks:=s2.toks+([]:List (Str×Value)).length} :=
    znd S hc I hjs hlen hf hfl (Nat.le_refl _) hns old rfl I.bare
  have st4:tn 0 h1:=T.keep _ _ _ st fun b hb o e=>old b o e
  have stat:∀{H':Hp},(∀b∈fp,H' b=none)→∀b∈fp,FpOk (cxComp X scope s2.heap.objs.size (O++M) fp pins s2 H2) [] H' b:=fun {H'} hn b hb=>by
    obtain ⟨f0,f1,f2,f3,f4,f5⟩:=hf b hb
    refine ⟨hn b hb,Nat.ne_of_lt (hfl b hb),I4.ok.exfs b hb,.inl hb,fun y c e=>f4 y c (S.sub I e),fun p hp=>f5 p ?_⟩
    simpa [cxComp] using hp
  have loop:∀s3:Shared,s3={s2 with heap:=h1,toks:=s2.toks+([]:List (Str×Value)).length} →
      codeAny (model X.prog X.w) X.A (.compLoop (.ListComp elt [⟨tg,iter,ifs,0⟩] scope pos) 0 (.ref it) (.ref D) (compEnvC scope (clOf scope X.env) s2.heap.objs.size X.env)) (R s2.heap.objs.size) s3:=by
    rintro s3 rfl
    refine zjt (fun n s'=>∃(i:Nat) (τ:L2.St) (H':Hp),Inv (cxComp X scope s2.heap.objs.size (O++M) fp pins s2 H2) [] τ H' s'∧tn i s'.heap∧(∀b∈fp,H' b=none)∧W i n τ H') ?_ m0
      ⟨0,_,H2,I4,st4,fun b hb=>(hf b hb).1,w0⟩
    rintro n s5 ⟨i,τ,H5,I5,st5,fr5,w5⟩
    rcases turn i n τ H5 w5 with ⟨stop,qe⟩|⟨go,N,hN,step⟩
    · refine thn (T.done (cxComp X scope s2.heap.objs.size (O++M) fp pins s2 H2) rfl rfl rfl rfl i [] s5 _ H5 (fun _ _=>False) I5 (stat fr5) st5 stop) fun r s6 ⟨hr,I6⟩=>?_
      subst hr
      exact fin _ s6 H5 [] _ (Nat.le_refl _) I6 qe
    · refine thn (T.item (cxComp X scope s2.heap.objs.size (O++M) fp pins s2 H2) rfl rfl rfl rfl i [] s5 _ H5 (fun _ _=>False) I5 (stat fr5) st5 go) fun r s6 ⟨u,hr,h6⟩=>?_
      subst hr
      refine thn h6 fun _ s7 ⟨v,H7,I7,r7,y7,st7,fr7⟩=>?_
      have I7':=I7.pinned (stat fr7) (T.obj _ _ st7)
      have back:∀{σ9:L2.St} {H9:Hp} {s9:Shared},Inv (cxComp X scope s2.heap.objs.size (O++M) fp pins s2 H2) ([]++pinsAt fp s7.heap) σ9 H9 s9→N σ9 H9 →
          ∃m,m<n∧∃(i:Nat) (τ:L2.St) (H':Hp),Inv (cxComp X scope s2.heap.objs.size (O++M) fp pins s2 H2) [] τ H' s9∧tn i s9.heap∧(∀b∈fp,H' b=none)∧W i m τ H':=by
        intro σ9 H9 s9 I9 n9
        obtain ⟨m',hm,w10⟩:=hN σ9 H9 n9
        refine ⟨m',hm,i+1,σ9,H9,I9.unpinned,T.keep _ _ _ st7 fun b hb o e=>(I9.pin (b,o) (List.mem_append_right _ (List.mem_append_right _ (zcn hb e)))).1,fun b hb=>?_,w10⟩
        obtain ⟨o,e,d⟩:=T.obj _ _ st7 b hb
        exact (I9.pin (b,o) (List.mem_append_right _ (List.mem_append_right _ (zcn hb e)))).2.1
      refine thn (hg s2.heap.objs.size fp pins s2 H2 _ s7 _ H7 v u _ I7' r7 (step v H7 y7)) fun _ s8 ⟨σ8,H8,I8,q8⟩=>?_
      refine thn (ht s2.heap.objs.size fp pins s2 H2 _ s8 _ H8 _ I8 q8) fun ok s9 ⟨H9,I9,q9⟩=>?_
      cases ok with
      | false=>exact back I9 q9
      | true =>
        refine thn (he s2.heap.objs.size fp pins s2 H2 _ s9 _ H9 _ I9 q9) fun yv s10 ⟨y,H10,I10,r10,ys,hD,hz,n10⟩=>?_
        refine thn (zao (X:=cxComp X scope s2.heap.objs.size (O++M) fp pins s2 H2) _ s10 _ H10 (.ref D) [y] (.ref D) [yv] (fun _ H'=>N σ8 H') I10 rfl (.cons r10 .nil) ⟨D,ys,y,rfl,rfl,hD,hz,n10⟩) fun _ s11 ⟨_,H11,I11,_,n11⟩=>?_
        exact back I11 n11
  exact codeAny_compStart_list (loop _ rfl) (wpAny_mono (T.self X.A 0 _ _ _ st4 (loop _ rfl)) (fun _ _ z=>z) fun _ _ z=>z)
theorem zo4 (S:CompScG X.env.scope O M scope) (hc:X.calm=true) (hjs:∀(k:Nat) (y:Str),M[k]?=some y→∃j:Nat,js[k]?=some j∧X.N[j]?=some y) (hlen:js.length=M.length) (hi:PI X tg iter wi)
    (hg:∀(C:Addr) (fp:List Addr) (pins:List (Addr×Obj)) (s:Shared) (H:Hp),PG (cxComp X scope C (O++M) fp pins s H) tg g)
    (ht:∀(C:Addr) (fp:List Addr) (pins:List (Addr×Obj)) (s:Shared) (H:Hp),PTs (cxComp X scope C (O++M) fp pins s H) ifs tt)
    (he:∀(C:Addr) (fp:List Addr) (pins:List (Addr×Obj)) (s:Shared) (H:Hp),PE (cxComp X scope C (O++M) fp pins s H) elt te) (hs:∀v,foldedSetIterable iter X.env v=pure v:=by intro _;rfl) :
    PE X (.ListComp elt [⟨tg,iter,ifs,0⟩] scope pos) (tCompG wi g tt te O.length js):=show _ by
  intro pins s σ H Q I h
  rw [eval_ListComp]
  refine wpAny_comprehension_free (use:=none) rfl hs (zju (S.cells I)) S.kind S.names (thn (hi pins s σ H _ I h) fun xv s1 h1=>thn h1 fun itv s2 h2=>?_)
  obtain ⟨it,fp,tn,J,H1,rfl,I2,T,st2,f2,q⟩:=h2
  refine wpAny_newObj_type ?_ (by show 0≤sizeLine;decide)
  have hD:H1 s2.heap.objs.size=none:=I2.hok.fresh (Nat.le_refl _)
  obtain ⟨W,⟨m0,w0⟩,turn⟩:=q _ hD
  have I3:Inv X pins σ (upd H1 s2.heap.objs.size (.lst [])) {s2 with heap:=s2.heap.push {cls:=.type "list",data:=.seq ([]:List Value).toArray}}:=I2.lnew (t':=s2.toks) .nil (Nat.zero_le _)
  have fr3:∀b∈fp,FpOk X pins (upd H1 s2.heap.objs.size (.lst [])) b:=fun b hb=>by
    obtain ⟨f0,f⟩:=f2 b hb
    obtain ⟨o,e,_⟩:=T.obj 0 _ st2 b hb
    exact ⟨by rw [zar (Nat.ne_of_lt (Heap.lt_size e))];exact f0,f⟩
  refine zjs (Qe:=fun H'=>Q (.ref s2.heap.objs.size) H') (R:=fun C=>compPost (model X.prog X.w) X.A X.xe none (EP X pins σ Q) (.ref s2.heap.objs.size) C) S hc hjs hlen hg ht he I3 T (T.keep _ _ _ st2 fun b hb o e=>Heap.get?_push_of_some _ e) fr3 w0 turn ?_
  intro C s' H' pins' σ' hC Jv qe
  obtain ⟨m,hn,_⟩:=Jv.loc
  exact ⟨m,hn,fun h' hs'=>⟨.ref _,H',zh7 I3 fr3 Jv hC hs',rfl,qe⟩⟩
end
end EE
namespace EE
open PySem PySem.Spec PyProof.Rows L2
theorem turnedL {X:Cx} {pins:List (Addr×Obj)} {σ:L2.St} {H:Hp} {s:Shared} {h':Heap} {t':Nat} {fp:List Addr} (I:Inv X pins σ H s) (k:∀b o,b∉fp→s.heap.get? b=some o→h'.get? b=some o) (hf:∀b∈fp,FpOk X pins H b):Inv X pins σ H {s with heap:=h',toks:=t'}:=show _ by
  have nit:∀b u,H b=some u→b∉fp:=fun b u e z=>by
    rw [(hf b z).1] at e
    cases e
  refine I.step (g':=s.gens) (d':=s.drawn) (ch:=fp) (fun b hb=>?_) (fun b o _ _ hc e _=>k b o hc e) (fun b o _ _ hc e _=>⟨o.slots,k b o hc e⟩) (fun _ _ _ _ n=>n) (fun b o hc e=>⟨o,k b o hc e⟩) (fun _ _ e=>e) (fun _ _ _ e=>e)
    (fun b ps e=>⟨#[],by rw [e];simp⟩) (fun m hm=>?_) (fun b u e=>?_) I.bare
  · obtain ⟨f0,f1,f2,f3,f4,f5⟩:=hf b hb
    exact ⟨f3,f1,f4,f5⟩
  · obtain ⟨o,es,ep,ho,r⟩:=hm
    exact ⟨o,es,ep,k _ o (fun z=>(hf _ z).2.1 rfl) ho,r⟩
  · refine (I.hok b u e).stay (fun c v hc q=>k c v ?_ q) (fun _ q=>q) fun _ _ q=>q
    rcases hc with z|z
    · rw [z]
      exact nit b u e
    · exact nit c _ z
section
variable {prog:Program} {w:World} {A:Around} {E:Value→Shared→Prop} {s:Shared}
theorem zg7 {j t:Addr} {k:Nat} {its:Array Value} {x:Value} {Q:Value→Shared→Prop} (hj:s.heap.IsTupleIter j t k) (ht:s.heap.IsTuple t its) (hx:its[k]?=some x)
    (hQ:∀h',h'.IsTupleIter j t (k+1)→Heap.SameBut j s.heap h'→Q x {s with heap:=h'}):wpAny (model prog w) A (Builtin.SmallTypes.nextOf (.ref j)) Q E s:=show _ by
  obtain ⟨ob,hob,hcl,hda⟩:=id hj
  obtain ⟨ot,hot,_,nt,hdt⟩:=ht
  unfold Builtin.SmallTypes.nextOf
  refine wpAny_bind (wpAny_callSpecial?_slot (name:=Str.ofString "__next__") hj.typeIs PySem.F.slot_tuple_iterator_next (wpAny_call_entry PySem.F.slot_tuple_iterator_next hj.typeIs PySem.F.entry_tuple_iterator_next ?_ (PySem.F.args_tuple_iterator_next_1 _)))
  show wpAny _ _ (field (.ref j) 0 >>= _) _ _ s
  refine wpAny_bind (wpAny_field hob hda (x:=.ref t) rfl ?_)
  show wpAny _ _ (if (Value.ref t==Value.none)=true then _ else _) _ _ _
  rw [if_neg (fun z:(Value.ref t==Value.none)=true=>Bool.false_ne_true z)]
  show wpAny _ _ (field (.ref j) 1 >>= _) _ _ s
  refine wpAny_bind (wpAny_field hob hda (x:=.int k 0) rfl ?_)
  show wpAny _ _ (seqItems? (.ref t) >>= _) _ _ _
  refine wpAny_bind (wpAny_seqItems hot hdt ?_)
  simp only [Int.toNat_natCast,hx]
  refine wpAny_bind (wpAny_setField hob hda (by simp) (wpAny_pure ⟨x,rfl,wpAny_pure (hQ _ ⟨_,Heap.get?_update_self _ hob (Obj.isFreed_of_fields (Obj.data_mapFields hda _)),(Obj.cls_mapFields ..).trans hcl,?_⟩ (Heap.SameBut.update ..))⟩))
  rw [Obj.data_mapFields hda]
  simp [rawInt]
theorem zm0 {j t:Addr} {k:Nat} {its:Array Value} {Q:Value→Shared→Prop} (hh:A.handled=none) (hj:s.heap.IsTupleIter j t k) (ht:s.heap.IsTuple t its) (hx:its[k]?=none)
    (hE:∀h' e,Heap.ExtBut j s.heap h'→(∃o,h'.get? e=some o∧o.cls=.type "StopIteration")→E (.ref e) {s with heap:=h'}):wpAny (model prog w) A (Builtin.SmallTypes.nextOf (.ref j)) Q E s:=show _ by
  obtain ⟨ob,hob,hcl,hda⟩:=id hj
  obtain ⟨ot,hot,_,nt,hdt⟩:=ht
  unfold Builtin.SmallTypes.nextOf
  refine wpAny_bind (wpAny_callSpecial?_slot (name:=Str.ofString "__next__") hj.typeIs PySem.F.slot_tuple_iterator_next (wpAny_call_entry PySem.F.slot_tuple_iterator_next hj.typeIs PySem.F.entry_tuple_iterator_next ?_ (PySem.F.args_tuple_iterator_next_1 _)))
  show wpAny _ _ (field (.ref j) 0 >>= _) _ _ s
  refine wpAny_bind (wpAny_field hob hda (x:=.ref t) rfl ?_)
  show wpAny _ _ (if (Value.ref t==Value.none)=true then _ else _) _ _ _
  rw [if_neg (fun z:(Value.ref t==Value.none)=true=>Bool.false_ne_true z)]
  show wpAny _ _ (field (.ref j) 1 >>= _) _ _ s
  refine wpAny_bind (wpAny_field hob hda (x:=.int k 0) rfl ?_)
  show wpAny _ _ (seqItems? (.ref t) >>= _) _ _ _
  refine wpAny_bind (wpAny_seqItems hot hdt ?_)
  simp only [Int.toNat_natCast,hx]
  refine wpAny_bind (wpAny_rule (wpAny_bind (wpAny_setField hob hda (by simp) ?_)))
  show wpAny _ _ (newExc (.type "StopIteration") [] >>= _) _ _ _
  refine wpAny_bind ?_
  simp only [newExc,newTuple]
  refine wpAny_bind (wpAny_newObj_type ?_ (by size_fits))
  refine wpAny_bind (m:=firstArgMember _ _) (wpAny_of_eq (a:=Value.none) (by first|rfl|(simp only [firstArgMember];rfl)) (wpAny_newObj_type ?_ (by size_fits)))
  simp only [raiseNew]
  refine wpAny_bind (wpAny_handled ?_)
  first
    | rw [show A.in1.handled=none from hh]
    | rw [hh]
  exact wpAny_bind (wpAny_pure (wpAny_throw (hE _ _ (((Heap.SameBut.update ..).extBut.push _).push _) ⟨_,Heap.get?_push_size _ rfl,rfl⟩)))
end
section
variable {prog:Program} {w:World} {A:Around} {E:Value→Shared→Prop} {s:Shared} {z TI TO i1 i2 a b:Addr} {k:Nat} {xs ys:Array Value} {x y p q:Value}
structure ZN (z TI TO i1 i2:Addr):Prop where
  a:TI≠z
  b:TO≠z
  c:i1≠z
  d:i2≠z
  e:TI≠TO
  f:TI≠i1
  g:TI≠i2
  h:TO≠i1
  i:TO≠i2
  j:i1≠i2
structure ZA (z TO i1 i2 a:Addr):Prop where
  z:a≠z
  o:a≠TO
  i:a≠i1
  j:a≠i2
theorem zf8 {h h':Heap} {a c:Addr} {xs:Array Value} (x:h.IsTuple a xs) (e:Heap.ExtBut c h h') (n:a≠c):h'.IsTuple a xs:=by
  obtain ⟨o,ho,r⟩:=x
  exact ⟨o,e _ _ n ho,r⟩
end
theorem zfy {h:Heap} {o:Obj} {n:Nat} (e:h.objs.size=n) (hf:o.isFreed=false:=by rfl):(h.push o).get? n=some o:=by
  rw [←e]
  exact Heap.get?_push_size _ hf
end EE
namespace E3
open PySem PySem.Spec PyProof.Rows L2 EE
def exG (K:PySem.W.Frag) (g:TG3):TG:=fun v τ H Q=>∃Z:Zt,lG K Z g v τ H Q
def exT (K:PySem.W.Frag) (t:TT3):TT:=fun τ H Q=>∃Z:Zt,lT K Z t τ H Q
theorem PG3.ex {X:Cx} {e:Expr} {g:TG3} (h:PG3 X NoX e g):PG X e (exG X.K g):=fun pins s σ H v u Q I r z_1=>by obtain ⟨Z,q⟩:=z_1;exact h (ZX.no X Z) pins s σ H v u Q I r q
theorem PT3.ex {X:Cx} {e:Expr} {t:TT3} (h:PT3 X NoX e t):PT X e (exT X.K t):=fun pins s σ H Q I z_2=>by obtain ⟨Z,q⟩:=z_2;exact h (ZX.no X Z) pins s σ H Q I q
def PTs3 (X:Cx) (ifs:List Expr) (t:TT3):Prop:=PTs X ifs (exT X.K t)
theorem PTs3.ex {X:Cx} {ifs:List Expr} {t:TT3} (h:PTs3 X ifs t):PTs X ifs (exT X.K t):=h
theorem ts_one {X:Cx} {c:Expr} {t:TT3} (h:PT3 X NoX c t):PTs3 X [c] t:=zqo h.ex
def ShG (n:Nat) (g:TG3) (Sh:D→St3→Prop):Prop:=∀d ρ,Sh d ρ→ρ.length=n∧∀σ1 S Q,Q (ρ++σ1) S→g d (List.replicate n none++σ1) S Q
def Sh1:D→St3→Prop:=fun d ρ=>ρ=[some d]
theorem sh1:ShG 1 (name3 0) Sh1:=fun d ρ h=>by
  cases h
  exact ⟨rfl,fun σ1 S Q q=>q⟩
def compS3 (wi:TI3) (Sh:D→St3→Prop) (tt:TT3) (te:TE3) (js:List Nat):TE3:=fun σ S Q=>wi σ S fun ds Al S1=>∃W:Nat→List D→Hp3→Prop,W 0 [] S1∧(∀i ys S,W i ys S→Al S∧ys.length<sizeLine) ∧
  (∀i d ys S,ds[i]?=some d→W i ys S→∃ρ,Sh d ρ∧tt (ρ++pick3 σ js) S fun b S2=>if b=true then te (ρ++pick3 σ js) S2 fun y S3=>W (i+1) (ys++[y]) S3 else W (i+1) ys S2)∧∀ys S,W ds.length ys S→newL S ys Q
theorem SR.blank {K:PySem.W.Frag} {H:Hp} {r:St3}:∀{ρ:St3} {τ:L2.St},SR K H (ρ++r) τ→SR K H (List.replicate ρ.length none++r) τ
  | [],_,h=>h
  | _::ρ,_,.cons _ t=>.cons (fun d e=>by cases e) (SR.blank (ρ:=ρ) t)
theorem zln {K:PySem.W.Frag} {Z:Zt} {wi:TI3} {Sh:D→St3→Prop} {g:TG3} {tt:TT3} {te:TE3} {n:Nat} {js:List Nat} {τ:L2.St} {H:Hp} {Q:VK} (hsh:ShG n g Sh) (h:lE K Z (compS3 wi Sh tt te js) τ H Q) :
    tCompG (lI K Z wi) (exG K g) (exT K tt) (exZ K te) n js τ H Q:=show _ by
  obtain ⟨σ,S,Q3,hs,hr,ht,hc⟩:=h
  refine ⟨σ,S,_,hs,hr,ht,fun ds Al S1 J H1 k1 l1 q1 wk=>?_⟩
  intro p hp
  obtain ⟨W,w0,al,turn,done⟩:=q1
  obtain ⟨hsp,hzp⟩:=l1.fresh hp
  have kp:Kp Z H1 (upd H1 p (.lst [])):=Kp.new hp hzp
  have sr0:SR K (upd H1 p (.lst [])) (List.replicate n none++pick3 σ js) (List.replicate n none++pick τ js):=zbv (SR.nones n) ((hs.mono (k1.trans kp)).picks js)
  refine ⟨fun i m τ' H'=>m=ds.length-i∧i≤ds.length∧SR K H' (List.replicate n none++pick3 σ js) τ'∧∃ys vs S',Kp Z H1 H'∧H' p=some (.lst vs)∧Rps K H' ys vs∧S' p=none∧Rl K Z S' H'∧W i ys S',
    ⟨ds.length,by simp,Nat.zero_le _,sr0,[],[],S1,kp,za5,.nil,hsp,l1.lay hp,w0⟩,?_⟩
  rintro i m τ' H2 ⟨rfl,hi,sr2,ys,vs,S2,k2,hp2,ry,hs2,l2,w2⟩
  obtain ⟨al2,hz⟩:=al _ _ _ w2
  by_cases hlt:i<ds.length
  · have hd:ds[i]?=some ds[i]:=List.getElem?_eq_getElem hlt
    obtain ⟨go,yl⟩:=wk.go i _ S2 H2 k2 l2 al2 hd
    refine .inr ⟨go,fun τ' H'=>i<ds.length∧SR K H' (List.replicate n none++pick3 σ js) τ'∧∃ys vs S',Kp Z H1 H'∧H' p=some (.lst vs)∧Rps K H' ys vs∧S' p=none∧Rl K Z S' H'∧W (i+1) ys S',
      fun τ' H' z=>⟨ds.length-(i+1),by omega,rfl,z.1,z.2⟩,fun v H3 y=>?_⟩
    obtain ⟨k3,rv,l3,o3⟩:=yl v H3 y
    have hp3:H3 p=some (.lst vs):=(o3 p (by rw [hp2];simp)).trans hp2
    obtain ⟨ρ,hρ,step⟩:=turn i _ ys S2 hd w2
    obtain ⟨hn,hg⟩:=hsh _ ρ hρ
    refine ⟨Z.hide H3 p,ds[i],_,S2,fun σ' S'=>σ'=ρ++pick3 σ js∧S'=S2,rv,sr2.mono k3,(l3 _ l2).hide hs2 (by rw [hp3];simp),hg _ _ _ ⟨rfl,rfl⟩,?_⟩
    rintro σ4 S4 τ4 H4 k4 sr4 l4 ⟨rfl,rfl⟩
    refine ⟨Z.hide H3 p,_,_,_,sr4,l4,step,?_⟩
    intro b S5 H5 k5 l5 q5
    have at5:∀{S6:Hp3} {H6:Hp},Kp (Z.hide H3 p) H4 H6→Rl K (Z.hide H3 p) S6 H6→H6 p=some (.lst vs)∧Kp Z H3 H6∧Rl K Z S6 H6∧S6 p=none:=fun {S6 H6} k6 l6=>by
      have kk:=(k4.trans k6).unhide (Z:=Z) fun a z=>.inl z
      exact ⟨((k4.trans k6).hid p (.inr rfl)).trans hp3,kk,l6.unhide (Z:=Z) (fun a z=>.inl z) ((l3 _ l2).old.trans kk),(l6.hid p (.inr rfl)).1⟩
    have bl:∀{H6:Hp},SR K H6 (ρ++pick3 σ js) τ4→SR K H6 (List.replicate n none++pick3 σ js) τ4:=fun {H6} z=>by
      have:=SR.blank z
      rw [hn] at this
      exact this
    cases b with
    | false =>
      rw [if_neg Bool.false_ne_true]
      obtain ⟨hp5,kk,l5',sp5⟩:=at5 k5 l5
      exact ⟨hlt,bl (sr4.mono k5),ys,vs,S5,k2.trans (k3.trans kk),hp5,ry.mono (k3.trans kk),sp5,l5',q5⟩
    | true =>
      rw [if_pos rfl]
      refine ⟨Z.hide H3 p,_,S5,_,sr4.mono k5,l5,q5,?_⟩
      intro d S6 w H6 k6 r6 l6 q6
      obtain ⟨hp6,k6',l6',sp6⟩:=at5 (k5.trans k6) l6
      have kk:Kp Z H6 (upd H6 p (.lst (vs++[w]))):=by
        refine ⟨fun b xs e=>?_,fun b q u e=>?_,fun b z=>?_⟩
        · rw [zar];exact e
          rintro rfl;rw [hp6] at e;cases e
        · rw [zar];exact e
          rintro rfl;rw [hp6] at e;cases e
        · rw [zar];rintro rfl;exact hzp z
      have hlen:ys.length=vs.length:=ry.len
      refine ⟨vs,hp6,by omega,hlt,bl ((sr4.mono (k5.trans k6)).mono kk),ys++[d],vs++[w],S6,k2.trans (k3.trans (k6'.trans kk)),za5,(ry.mono (k3.trans (k6'.trans kk))).append (.cons (r6.mono kk) .nil),sp6,
        ⟨fun b u e=>(l6'.obj b u e).keep kk (zar (ne3 e sp6)),fun b z=>?_,l6'.old.trans kk⟩,q6⟩
      have hb:b≠p:=fun e=>hzp (e▸z)
      rw [zar hb]
      exact l6'.hid b z
  · have e:i=ds.length:=by omega
    subst e
    refine .inl ⟨wk.stop S2 H2 k2 l2 al2,?_⟩
    refine hc (.ref p) (up S2 p (.lst ys)) (.ref p) H2 (k1.trans k2) (.ref p) ⟨fun b u e=>?_,fun b z=>?_,l2.old⟩ (done ys S2 w2 p hs2)
    · by_cases hb:b=p
      · subst hb
        rw [zab] at e
        cases e
        exact ⟨vs,hp2,ry⟩
      · rw [za8 hb] at e
        exact l2.obj b u e
    · have hb:b≠p:=fun e=>hzp (e▸z)
      rw [za8 hb]
      exact l2.hid b z
section
variable {X:Cx} {W3:W3T} {elt iter tg:Expr} {ifs:List Expr} {x x':Str} {px px' pos tp:Pos} {kt:Nat} {scope osc:Scope} {O M N:List Str} {js:List Nat} {wi:TI3} {g:TG3} {Sh:D→St3→Prop} {tt:TT3} {te:TE3}
theorem zrk (S:CompScG osc O M scope) (hjs:M.map some=js.map fun j=>N[j]?) (hc:X.calm=true) (hsh:ShG O.length g Sh) (hi:PI3 X W3 tg iter wi)
    (hg:∀(C:Addr) (fp:List Addr) (pins:List (Addr×Obj)) (s:Shared) (H:Hp),PG3 (cxComp X scope C (O++M) fp pins s H) NoX tg g)
    (ht:∀(C:Addr) (fp:List Addr) (pins:List (Addr×Obj)) (s:Shared) (H:Hp),PTs3 (cxComp X scope C (O++M) fp pins s H) ifs tt)
    (he:∀(C:Addr) (fp:List Addr) (pins:List (Addr×Obj)) (s:Shared) (H:Hp),PE3 (cxComp X scope C (O++M) fp pins s H) NoX elt te)
    (hosc:X.env.scope=osc) (hN:X.N=N) (hs:∀v,foldedSetIterable iter X.env v=pure v) :
    PE3 X W3 (.ListComp elt [⟨tg,iter,ifs,0⟩] scope pos) (compS3 wi Sh tt te js):=fun Z=>by
  subst hosc hN
  exact PE.imp (zo4 S hc (zlh hjs).1 (zlh hjs).2 (hi Z) (fun C fp pins s H=>(hg C fp pins s H).ex) (fun C fp pins s H=>(ht C fp pins s H).ex) (fun C fp pins s H=>(he C fp pins s H).ex) hs) fun _ _ _ h=>zln hsh h
theorem own1 (S:CompScG osc [x] M scope) (C:Addr) (fp:List Addr) (pins:List (Addr×Obj)) (s:Shared) (H:Hp):PG3 (cxComp X scope C ([x]++M) fp pins s H) NoX (.Name x px) (name3 0) :=
  zcu (i:=0) S.nd rfl (.inl (lookup_relabel_local (S.own x List.mem_cons_self))) (.inr (lookup_relabel_local (S.own x List.mem_cons_self)))
theorem zrl (S:CompScG osc [x] M scope) (hjs:M.map some=js.map fun j=>N[j]?) (hc:X.calm=true) (hi:PI3 X W3 (.Name x px) iter wi)
    (ht:∀(C:Addr) (fp:List Addr) (pins:List (Addr×Obj)) (s:Shared) (H:Hp),PTs3 (cxComp X scope C ([x]++M) fp pins s H) ifs tt)
    (he:∀(C:Addr) (fp:List Addr) (pins:List (Addr×Obj)) (s:Shared) (H:Hp),PE3 (cxComp X scope C ([x]++M) fp pins s H) NoX elt te)
    (hosc:X.env.scope=osc:=by rfl) (hN:X.N=N:=by rfl) (hs:∀v,foldedSetIterable iter X.env v=pure v:=by intro _;rfl) :
    PE3 X W3 (.ListComp elt [⟨.Name x px,iter,ifs,0⟩] scope pos) (compS3 wi Sh1 tt te js):=zrk S hjs hc sh1 hi (own1 S) ht he hosc hN hs
end
section
variable {σ:St3} {S:Hp3} {Q:K3} {wi:TI3} {js:List Nat} {tt:TT3} {te:TE3} {Sh:D→St3→Prop}
theorem j_compS (h:wi σ S fun ds Al S1=>∃W:Nat→List D→Hp3→Prop,W 0 [] S1∧(∀i ys S,W i ys S→Al S∧ys.length<sizeLine) ∧
  (∀i d ys S,ds[i]?=some d→W i ys S→∃ρ,Sh d ρ∧tt (ρ++pick3 σ js) S fun b S2=>if b=true then te (ρ++pick3 σ js) S2 fun y S3=>W (i+1) (ys++[y]) S3 else W (i+1) ys S2)∧∀ys S,W ds.length ys S→newL S ys Q):compS3 wi Sh tt te js σ S Q:=h
end
end E3
namespace E3
open PySem PySem.Spec PyProof.Rows L2 EE
noncomputable def zipD (as bs:List D):List D:=(as.zip bs).map fun p=>.tup [p.1,p.2]
end E3
namespace E3
open PySem PySem.Spec PyProof.Rows L2 EE
theorem zn1 {σ:St3} {Q:K3} {te:TE3} {js:List Nat} {ds:List D} {Al:Hp3→Prop} {S1:Hp3} (f:Nat→D) (hz:ds.length≤10000) (hA:∀S,Sub S1 S→Al S)
    (h:∀i d S,ds[i]?=some d→Sub S1 S→∀P:K3,(∀S',Sub S S'→P (f i) S')→te (some d::pick3 σ js) S P) (q:∀S,Sub S1 S→newL S ((List.range ds.length).map f) Q) :
    ∃W:Nat→List D→Hp3→Prop,W 0 [] S1∧(∀i ys S,W i ys S→Al S∧ys.length<sizeLine) ∧
  (∀i d ys S,ds[i]?=some d→W i ys S→te (some d::pick3 σ js) S fun y S'=>W (i+1) (ys++[y]) S')∧∀ys S,W ds.length ys S→newL S ys Q:=show _ by
  refine ⟨fun i ys S=>i≤ds.length∧ys=(List.range i).map f∧Sub S1 S,⟨Nat.zero_le _,rfl,Sub.refl _⟩,?_,?_,?_⟩
  · rintro i ys S ⟨hi,rfl,hs⟩
    refine ⟨hA S hs,?_⟩
    rw [List.length_map,List.length_range]
    exact Nat.lt_of_le_of_lt (Nat.le_trans hi hz) (by decide)
  · rintro i d ys S hd ⟨hi,rfl,hs⟩
    refine h i d S hd hs _ fun S' hs'=>⟨(List.getElem?_eq_some_iff.mp hd).1,?_,hs.trans hs'⟩
    rw [List.range_succ,List.map_append]
    rfl
  · rintro ys S ⟨_,rfl,hs⟩
    exact q S hs
end E3
namespace EE
open PySem PySem.Spec PyProof.Rows L2
theorem zea:∀{ns:List Int} {us:List Value},Vals (ns.map V.int) us→∃ps:List (Int×Tok),us=ps.map (fun p=>.int p.1 p.2)∧ps.map (·.1)=ns
  | [],_,.nil=>⟨[],rfl,rfl⟩
  | n::ns,_,.cons r t=>by
    obtain ⟨tk,rfl⟩:=r
    obtain ⟨ps,rfl,e⟩:=zea t
    exact ⟨(n,tk)::ps,rfl,by rw [List.map_cons,e]⟩
end EE
namespace E3
open PySem PySem.Spec PyProof.Rows L2 EE
def ifm3 (c:TT3) (t u:TS3):TS3:=ifs3 c t u
theorem zef {X:Cx} {W3:W3T} {c:Expr} {a b:List Stmt} {tc:TT3} {t u:TS3} {pos:Pos} (hc:PT3 X W3 c tc) (ha:PSs3 X W3 a t) (hb:PSs3 X W3 b u):PS3 X W3 (.If c a b pos) (ifm3 tc t u):=s_if hc ha hb
theorem j_ifm {tc:TT3} {t u:TS3} {n:St3→Hp3→Prop} {rt:K3} {bk ct:St3→Hp3→Prop} {σ:St3} {S:Hp3} (Mid:St3→Hp3→Prop) (h1:∀n':St3→Hp3→Prop,(∀σ S,Mid σ S→n' σ S)→ifs3 tc t u ⟨n',rt,bk,ct⟩ σ S)
    (h2:∀σ S,Mid σ S→n σ S):ifm3 tc t u ⟨n,rt,bk,ct⟩ σ S:=h1 n h2
end E3
namespace E3
open PySem PySem.Spec PyProof.Rows L2 EE
noncomputable abbrev Mat:=List (List Int)
structure Mt (m n:Nat) (A:Mat):Prop where
  len:A.length=m
  row:∀r∈A,r.length=n
  num:∀r∈A,∀x∈r,0≤x∧x≤2
end E3
namespace E3
open PySem PySem.Spec PyProof.Rows L2 EE
end E3
namespace E3
open PySem PySem.Spec PyProof.Rows L2 EE
open Classical in
theorem zhy {α:Type} [DecidableEq α]:∀{ks ns:List α},ks.Nodup→(∀x∈ks,x∈ns)→ks.length≤ns.length
  | [],_,_,_=>Nat.zero_le _
  | k::ks,ns,h,hs=>by
    have hk:=hs k List.mem_cons_self
    have h1:=List.length_erase_of_mem hk
    have h2:0<ns.length:=List.length_pos_of_mem hk
    have h3:=zhy (ks:=ks) (ns:=ns.erase k) (List.nodup_cons.mp h).2 fun x hx=>by
      have hne:x≠k:=fun e=>(List.nodup_cons.mp h).1 (e▸hx)
      exact (List.mem_erase_of_ne hne).mpr (hs x (List.mem_cons_of_mem _ hx))
    simp only [List.length_cons]
    omega
end E3
namespace EE
open PySem PySem.Spec PyProof.Rows L2
section
variable {X:Cx}
def rNeT (K:PySem.W.Frag) (n:Nat):R2:=fun x y H Q=>∃ds es,DR K H (.tup ds) x∧DR K H (.tup es) y∧deepD (.tup ds)≤n∧Q (.bl (!eqD (.tup ds) (.tup es))) H
theorem zpu {n:Nat} (hu:X.A.units+n<cLine):OpR X (compareOp .NotEq) (rNeT X.K n):=show _ by
  intro pins s σ H x y v u Q I rx ry h
  obtain ⟨ds,es,hd,he,hn,q⟩:=h
  have hu':X.A.units<cLine:=by omega
  cases hd with
  | @tup a xs _ p q1 =>
    cases rx
    obtain ⟨its,rv,ht,_⟩:=I.tuple p
    cases he with
    | @tup b ys _ p' q2 =>
      cases ry
      obtain ⟨its2,rv2,ht2,_⟩:=I.tuple p'
      have hdd:deepDs ds≤n-1∧1≤n:=by
        simp only [deepD] at hn
        omega
      have each:∀j (h1:j<its.toArray.size) (h2:j<its2.toArray.size),SeqAt.EqAt X.A.in1 s its.toArray[j] its2.toArray[j] (eqAtI ds es j):=fun j h1 h2=>by
        obtain ⟨x,hx,rx⟩:=zhf rv h1
        obtain ⟨y,hy,ry⟩:=zhf rv2 h2
        obtain ⟨dx,edx,rdx⟩:=q1.at hx
        obtain ⟨dy,edy,rdy⟩:=q2.at hy
        have hdeep:=zgf edx
        have:=(znm I (n-1) X.A.in1 dx dy x y _ _ (by omega) (by rw [units_in1];omega) rdx rdy rx ry).2
        unfold eqAtI
        rw [edx,edy]
        exact this
      have e:((List.range (min its.toArray.size its2.toArray.size)).all (eqAtI ds es)&&its.toArray.size==its2.toArray.size)=eqD (.tup ds) (.tup es):=by
        simp only [eqD]
        rw [zfj,q1.len,q2.len,rv.length,rv2.length]
        simp
      have rc:=SeqAt.RcNeAt.tuples ht ht2 hu' each
      rw [e] at rc
      exact rc X.prog X.w X.xe _ ⟨.bl _,H,I,rfl,q⟩
end
end EE
namespace E3
open PySem PySem.Spec PyProof.Rows L2 EE
def neT3 (n:Nat):R3:=fun x y S Q=>∃ds es,Dn S x (.tup ds)∧Dn S y (.tup es)∧deepD (.tup ds)≤n∧Q (.bl (!eqD (.tup ds) (.tup es))) S
theorem zp0 {K:PySem.W.Frag} {n:Nat}:Dn2 K (neT3 n) (rNeT K n):=by
  intro Z x y S Q3 v w H Q rx ry l h c
  obtain ⟨d,e,h1,h2,hn,q⟩:=h
  exact ⟨d,e,h1.down l rx,h2.down l ry,hn,c _ S _ H (Kp.refl _ _) (.bl _) l q⟩
end E3
namespace EE
open PySem PySem.Spec PyProof.Rows L2
noncomputable def stS (σ:List Str) (v:Str):List Str:=if v∈σ then σ else σ++[v]
noncomputable def met (vs:List Str):List Str:=vs.foldl stS []
end EE
namespace EE
open PySem PySem.Spec PyProof.Rows L2
end EE
namespace E3
open PySem PySem.Spec PyProof.Rows L2 EE
end E3
namespace EE
open PySem PySem.Spec PyProof.Rows L2
noncomputable def ItvL (K:PySem.W.Frag) (a:Addr) (n:Nat):It :=
  ⟨fun i H=>i<n∧∃xs,SqL K H a xs∧xs.length=n,fun i H x H'=>H'=H∧∀xs,SqL K H a xs→xs[n-1-i]?=some x,fun i _=>n≤i⟩
theorem zlw {P:Program} {w:World} {K:PySem.W.Frag} {tg:Expr} (a it:Addr) (n:Nat):Turn P w K tg (ItvL K a n) [it] it (fun i h=>i≤n∧h.IsRevIter it a ((n:Int)-1-(i:Int))) where
  mem:=show _ by simp
  obj:=fun i h st b hb=>by
    have e:b=it:=by simpa using hb
    subst e
    obtain ⟨_,o,e,c,d⟩:=st
    exact ⟨o,e,fun v z=>by rw [d] at z;cases z⟩
  keep:=fun i h h' st k=>let ⟨hi,o,ho,r⟩:=st;⟨hi,o,k it (by simp) o ho,r⟩
  item:=by
    intro X hP hw hK hc i pins s σ H E I hf st hg
    subst hP hw hK
    obtain ⟨hi,xs,hq,hn⟩:=hg
    obtain ⟨its,rv,p,hz⟩:=I.list hq
    have hl:=rv.length
    have hx:xs[n-1-i]?=some xs[n-1-i]:=List.getElem?_eq_getElem (by omega)
    obtain ⟨u,hu,ru⟩:=rv.get hx
    obtain ⟨f0,f1,f2,f3,f4,f5⟩:=hf it (by simp)
    have e1:(n:Int)-1-(i:Int)=((n-1-i:Nat):Int):=by omega
    have st2:=st.2
    rw [e1] at st2
    refine wpAny_pyNext_rev_item st2 p.isList (x:=u) (by simpa using hu) fun h' st' sb=>?_
    have I1:Inv X pins σ H {s with heap:=h'}:=I.turned (t':=s.toks) (fun b o hb e=>(sb.2 b hb).trans e) f0 f1 f3 f4 f5
    obtain ⟨o,e,c,d⟩:=id st'
    have e2:((n-1-i:Nat):Int)-1=(n:Int)-1-((i+1:Nat):Int):=by omega
    refine ⟨u,rfl,zni (s:={s with heap:=h'}) e c d (by decide) ⟨xs[n-1-i],H,I1,ru,⟨rfl,fun ys hy=>by rw [I.list_inj hy hq];exact hx⟩,⟨hi,?_⟩,fun b hb=>(hf b hb).1⟩⟩
    rw [←e2]
    exact st'
  done:=by
    intro X hP hw hK hc i pins s σ H E I hf st hg
    subst hP hw hK
    obtain ⟨f0,f1,f2,f3,f4,f5⟩:=hf it (by simp)
    have hg':n≤i:=hg
    have e1:(n:Int)-1-(i:Int)=-1:=by have:=st.1;omega
    have st2:=st.2
    rw [e1] at st2
    exact wpAny_pyNext_rev_end (I.ok.hd hc) st2 fun h' eb=>⟨rfl,I.turned (t':=s.toks) (fun b o hb e=>eb b o hb e) f0 f1 f3 f4 f5⟩
  self:=fun _ _ _ _ _ st h=>wpAny_pyIter_revIter st.2 h
def iRevL (K:PySem.W.Frag) (te:TA):TI:=fun σ H R=>te σ H fun vs H1=>∃a xs,vs=[.ref a]∧SqL K H1 a xs∧R (ItvL K a xs.length) H1
theorem zqy {X:Cx} {tg a:Expr} {ta:TA} {p pos:Pos} (hg:Gl X "reversed") (hm:X.mg "reversed"=none) (ha:PA X [a] ta) (hs:starEach [a] X.env=[(false,eval a X.env)]:=by rfl):PI X tg (.Call (.Name "reversed" p) [a] [] pos) (iRevL X.K ta):=show _ by
  intro pins s σ H R I h
  refine Call_ (zf5 I hg hm zkk (PyProof.Rows.callWith_type1 (thn (ha pos pins s σ H _ I h) fun us s1 ⟨vs,H1,I1,r1,q1⟩=>?_) hs rfl))
  obtain ⟨b,xs,e,hq,q⟩:=q1
  subst e
  cases r1 with
  | cons r rr =>
    cases rr
    cases r
    obtain ⟨its,rv,pt,hz⟩:=I1.list hq
    have hl:=rv.length
    refine call_reversed_list pt.isList ?_
    have I2:Inv X pins σ H1 {s1 with heap:=s1.heap.push (revObj b ((its.toArray.size:Int)-1))}:=I1.kept (t':=s1.toks) fun c o e=>Heap.get?_push_of_some _ e
    have st:(s1.heap.push (revObj b ((its.toArray.size:Int)-1))).IsRevIter s1.heap.objs.size b ((its.toArray.size:Int)-1):=⟨_,Heap.get?_push_size _ rfl,rfl,rfl⟩
    refine wpAny_pyIter_revIter st ?_
    have e1:(its.toArray.size:Int)-1=(xs.length:Int)-1-((0:Nat):Int):=by simp only [List.size_toArray];omega
    refine ⟨s1.heap.objs.size,[s1.heap.objs.size],_,_,H1,rfl,I2,zlw b _ xs.length,⟨Nat.zero_le _,by rw [←e1];exact st⟩,fun c hc=>?_,q⟩
    have e:c=s1.heap.objs.size:=by simpa using hc
    subst e
    exact I1.fpOk (Nat.le_refl _) (I1.hok.fresh (Nat.le_refl _))
end EE
namespace E3
open PySem PySem.Spec PyProof.Rows L2 EE
section
variable {X:Cx} {W3:W3T} {tg:Expr} {pos:Pos}
def iRevL3 (ta:TA3):TI3:=fun σ S R=>ta σ S fun xs S1=>∃a ds,xs=[.ref a]∧S1 a=some (.lst ds)∧R ds.reverse (fun S=>S a=some (.lst ds)) S1
theorem i_revL {a:Expr} {ta:TA3} {p:Pos} (hg:Gl X "reversed") (hm:X.mg "reversed"=none) (ha:PA3 X W3 [a] ta) (hs:starEach [a] X.env=[(false,eval a X.env)]:=by rfl):PI3 X W3 tg (.Call (.Name "reversed" p) [a] [] pos) (iRevL3 ta) :=
  fun Z=>PI.imp (zqy hg hm (ha Z) hs) fun τ H R z_1=>by
  obtain ⟨σ,S,R3,hs,hr,ht,hc⟩:=z_1
  refine ⟨σ,S,_,hs,hr,ht,fun xs S1 vs0 H1 k1 r1 l1 q1=>?_⟩
  obtain ⟨b,ds,rfl,e,q⟩:=q1
  cases r1 with
  | cons r1 rr =>
    cases rr
    cases r1
    obtain ⟨vs,h1,h2⟩:=l1.obj b _ e
    have hl:=h2.len
    refine ⟨b,vs,rfl,SqL.of h1,hc _ _ S1 _ H1 k1 l1 q ⟨fun i d S2 H2 k2 l2 al hd=>?_,fun S2 H2 k2 l2 al=>?_⟩⟩
    · have hi:i<ds.length:=show _ by
        have:=(List.getElem?_eq_some_iff.mp hd).1
        simpa using this
      rw [List.getElem?_reverse hi] at hd
      obtain ⟨ws,h3,h4⟩:=l2.obj b _ al
      have hl4:=h4.len
      obtain ⟨v,hv,rv⟩:=h4.at hd
      rw [hl] at hv
      refine ⟨⟨by omega,ws,SqL.of h3,by omega⟩,fun v' H' y=>?_⟩
      obtain ⟨rfl,y⟩:=y
      have:=y ws (SqL.of h3)
      rw [hv] at this
      cases this
      exact ⟨Kp.refl _ _,rv,fun _ z=>z,fun _ _=>rfl⟩
    · show vs.length≤ds.reverse.length
      rw [List.length_reverse,hl]
      exact Nat.le_refl _
end
end E3
namespace EE
open PySem PySem.Spec PyProof.Rows L2
end EE
namespace E3
open PySem PySem.Spec PyProof.Rows L2 EE
end E3
namespace EE
open PySem PySem.Spec PyProof.Rows L2
section
variable {X:Cx}
def rCatE (K:PySem.W.Frag):R2:=fun x y H Q=>∃a b xs ys,x=.ref a∧y=.ref b∧SqT K H a xs∧SqT K H b ys∧xs.length+ys.length≤sizeLine ∧
  (xs=[]→Q (.ref b) H)∧(xs≠[]→(ys=[]→Q (.ref a) H)∧(ys≠[]→∀p,H p=none→Q (.ref p) (upd H p (.tup (xs++ys)))))
theorem zq7:OpR X (binaryOp .Add) (rCatE X.K):=show _ by
  intro pins s σ H x y v u Q I rx ry h
  obtain ⟨a,b,xs,ys,rfl,rfl,ha,hb,hz,q0,q1⟩:=h
  by_cases hx:xs=[]
  · cases rx
    cases ry
    obtain ⟨its,r1,p1,_⟩:=I.tuple ha
    obtain ⟨its2,r2,p2,_⟩:=I.tuple hb
    have hi:its=[]:=r1.nil_iff.mpr hx
    obtain ⟨⟨cls,dd,data,sl⟩,ho,hc,n,hd⟩:=id p1
    obtain ⟨⟨cls2,dd2,data2,sl2⟩,ho2,hc2,n2,hd2⟩:=id p2
    simp only at hc hd hc2 hd2
    subst hc hd hc2 hd2
    exact concat_meets ⟨_,ho,rfl⟩ ⟨_,ho2,rfl⟩ noFill_tuple_add seq_tuple_add PySem.F.slot_tuple_add PySem.F.entry_tuple_add (PySem.F.args_tuple_add_2 _ _)
      (tuple_addW0 a b its.toArray its2.toArray n n2 dd dd2 sl sl2 (by simp [hi])) ⟨ho,ho2,⟨.ref b,H,I,rfl,q0 hx⟩⟩
  · exact zf1 pins s σ H (.ref a) (.ref b) v u Q I rx ry ⟨a,b,xs,ys,rfl,rfl,ha,hb,hx,hz,(q1 hx).1,(q1 hx).2⟩
theorem zn8:CallR X (.type "int") (fun xs H Q=>∃b:Bool,xs=[.bl b]∧Q (.int (if b then 1 else 0)) H):=show _ by
  intro pins s σ H xs us Q I r h
  obtain ⟨b,rfl,q⟩:=h
  obtain ⟨u,rfl,r1⟩:=vals1 r
  obtain rfl:u=Value.bool b:=r1
  exact call_int_bool ⟨.int (if b then 1 else 0),H,I.tok _,⟨_,rfl⟩,q⟩
end
end EE
namespace E3
open PySem PySem.Spec PyProof.Rows L2 EE
section
variable {K:PySem.W.Frag} {S:Hp3} {Q:K3}
def catE3:R3:=fun x y S Q=>∃ds es,x=.tup ds∧y=.tup es∧ds.length+es.length≤sizeLine∧Q (.tup (ds++es)) S
theorem zro:Dn2 K catE3 (rCatE K):=show _ by
  intro Z x y S Q3 v w H Q rx ry l h c
  obtain ⟨ds,es,rfl,rfl,hz,q⟩:=h
  cases rx with
  | @tup a vs _ h1 h2 =>
    cases ry with
    | @tup b ws _ h3 h4 =>
      refine ⟨a,b,vs,ws,rfl,rfl,h1,h3,by rw [←h2.len,←h4.len];exact hz,fun e=>?_,fun _=>⟨fun e=>?_,fun _=>tup.down q (h2.append h4) l c⟩⟩
      · subst e
        cases h2
        rw [List.nil_append] at q
        exact c _ S _ H (Kp.refl _ _) (.tup h3 h4) l q
      · subst e
        cases h4
        rw [List.append_nil] at q
        exact c _ S _ H (Kp.refl _ _) (.tup h1 h2) l q
theorem j_catE {ds es:List D} (hz:ds.length+es.length≤sizeLine) (q:Q (.tup (ds++es)) S):catE3 (.tup ds) (.tup es) S Q:=⟨ds,es,rfl,rfl,hz,q⟩
def intB3:List D→Hp3→K3→Prop:=fun xs S Q=>∃b:Bool,xs=[.bl b]∧Q (.int (if b then 1 else 0)) S
theorem zns:DnC K intB3 (fun xs H Q=>∃b:Bool,xs=[.bl b]∧Q (.int (if b then 1 else 0)) H):=by
  intro Z ds S Q3 vs H Q r l h c
  obtain ⟨b,rfl,q⟩:=h
  cases r with
  | cons r rr =>
    cases rr
    cases r
    exact ⟨b,rfl,c _ S _ H (Kp.refl _ _) (.int _) l q⟩
theorem j_intB {b:Bool} (q:Q (.int (if b then 1 else 0)) S):intB3 [.bl b] S Q:=⟨b,rfl,q⟩
end
section
variable {σ:St3} {S:Hp3} {R:RI} {al:TA3}
def revLA (R:RI) (xs:List D) (S:Hp3):Prop:=∃a ds,xs=[.ref a]∧S a=some (.lst ds)∧R ds.reverse (fun S=>S a=some (.lst ds)) S
theorem j_iRevL (h:al σ S fun xs S1=>revLA R xs S1):iRevL3 al σ S R:=h
theorem j_revL {a:Addr} {ds:List D} (hS:S a=some (.lst ds)) (q:R ds.reverse (fun S=>S a=some (.lst ds)) S):revLA R [.ref a] S:=⟨a,ds,rfl,hS,q⟩
end
end E3
namespace E3
open PySem PySem.Spec PyProof.Rows L2 EE
end E3
namespace E3
open PySem PySem.Spec PyProof.Rows L2 EE
end E3
namespace E3
open PySem PySem.Spec PyProof.Rows L2 EE
mutual
theorem Sy.wf_in {ar:Str→Option Nat} {ps:List Str}:∀{s:Sy},s.wf ar ps→∀a∈s.pre,a.wf ar ps
  | .name x,h,a,ha=>by simp only [Sy.pre,List.mem_singleton] at ha;subst ha;exact h
  | .bud,h,a,ha=>by simp only [Sy.pre,List.mem_singleton] at ha;subst ha;exact h
  | .pair x y,h,a,ha=>by
    simp only [Sy.pre,List.mem_cons,List.mem_append] at ha
    rcases ha with rfl|ha|ha
    · exact h
    · simp only [Sy.wf] at h;exact Sy.wf_in h.1 a ha
    · simp only [Sy.wf] at h;exact Sy.wf_in h.2 a ha
  | .left x,h,a,ha=>by
    simp only [Sy.pre,List.mem_cons] at ha
    rcases ha with rfl|ha
    · exact h
    · simp only [Sy.wf] at h;exact Sy.wf_in h a ha
  | .right x,h,a,ha=>by
    simp only [Sy.pre,List.mem_cons] at ha
    rcases ha with rfl|ha
    · exact h
    · simp only [Sy.wf] at h;exact Sy.wf_in h a ha
  | .fork x y z,h,a,ha=>by
    simp only [Sy.pre,List.mem_cons,List.mem_append] at ha
    rcases ha with rfl|ha|ha|ha
    · exact h
    · simp only [Sy.wf] at h;exact Sy.wf_in h.1 a ha
    · simp only [Sy.wf] at h;exact Sy.wf_in h.2.1 a ha
    · simp only [Sy.wf] at h;exact Sy.wf_in h.2.2 a ha
  | .send x as,h,a,ha=>by
    simp only [Sy.pre,List.mem_cons] at ha
    rcases ha with rfl|ha
    · exact h
    · simp only [Sy.wf] at h;exact Sy.wfs_in h.2.2.2 a ha
theorem Sy.wfs_in {ar:Str→Option Nat} {ps:List Str}:∀{as:List Sy},Sy.wfs ar ps as→∀a∈Sy.pres as,a.wf ar ps
  | [],_,a,ha=>by simp [Sy.pres] at ha
  | x::xs,h,a,ha=>by
    simp only [Sy.pres,List.mem_append] at ha
    simp only [Sy.wfs] at h
    rcases ha with ha|ha
    · exact Sy.wf_in h.1 a ha
    · exact Sy.wfs_in h.2 a ha
end
theorem zj0 {ar:Str→Option Nat} {ps:List Str} {s:Sy} (h:s.wf ar ps):s.parts.length≤4:=by
  cases s<;>simp [Sy.parts]
  simp only [Sy.wf] at h
  exact h.2.2.1
end E3
namespace CL
section
variable {α:Type} [DecidableEq α]
variable {fit:α→α→Bool} {cmp:α→α→α}
theorem zhy {β:Type} [DecidableEq β]:∀{l c:List β},l.Nodup→(∀x∈l,x∈c)→l.length≤c.length
  | [],_,_,_=>Nat.zero_le _
  | x::l,c,h,hs=>by
    have hx:=hs x List.mem_cons_self
    have h1:=zhy (l:=l) (c:=c.erase x) (List.nodup_cons.mp h).2 fun y hy=>by
      refine (List.mem_erase_of_ne ?_).mpr (hs y (List.mem_cons_of_mem _ hy))
      rintro rfl
      exact (List.nodup_cons.mp h).1 hy
    rw [List.length_erase_of_mem hx] at h1
    have:0<c.length:=List.length_pos_of_mem hx
    rw [List.length_cons]
    omega
section
variable {β:Type} [DecidableEq β] {φ:α→β} {Gd:α→Prop} {C:List β} (inj:∀a b,Gd a→Gd b→φ a=φ b→a=b)
include inj
end
end
end CL
namespace EE
open PySem PySem.Spec PyProof.Rows L2
end EE
namespace EE
open PySem PySem.Spec PyProof.Rows L2
namespace FE
end FE
end EE
namespace E3
open PySem PySem.Spec PyProof.Rows L2 EE
section
variable {X:Cx} {W3:W3T} {tg:Expr} {pos pos2 p p2:Pos} {a:Expr} {ta:TA3} {σ:St3} {S:Hp3} {R:RI} {al:TA3}
theorem j_gtup {n:Nat} {xs:List D} {t:TGs3} {Q:St3→Hp3→Prop} (hn:xs.length=n) (h:t xs σ S Q):gtup3 n t (.tup xs) σ S Q:=⟨xs,rfl,hn,h⟩
theorem j_gcons {v:D} {r:List D} {t:TG3} {u:TGs3} {Q:St3→Hp3→Prop} (h:t v σ S fun σ' S'=>u r σ' S' Q):gcons3 t u (v::r) σ S Q:=⟨v,r,rfl,h⟩
theorem j_gnil {Q:St3→Hp3→Prop} (h:Q σ S):gnil3 [] σ S Q:=⟨rfl,h⟩
end
end E3
namespace EE
open PySem PySem.Spec PyProof.Rows L2
end EE
namespace E3
open PySem PySem.Spec PyProof.Rows L2 EE
noncomputable abbrev Gr:=Str×Str×Mat
structure Gd (ar:Str→Option Nat) (g:Gr):Prop where
  ex:∃m n,ar g.1=some m∧ar g.2.1=some n∧1≤m∧1≤n∧m≤4∧n≤4∧Mt m n g.2.2
end E3
namespace E3
open PySem PySem.Spec PyProof.Rows L2 EE
end E3
namespace E3
open PySem PySem.Spec PyProof.Rows L2 EE
end E3
namespace E3
noncomputable abbrev cD (counts:List Nat):List D:=counts.map fun c:Nat=>D.int (c:Int)
end E3
namespace E3
open PySem PySem.Spec PyProof.Rows L2 EE
end E3
namespace E3
open PySem PySem.Spec PyProof.Rows L2 EE
noncomputable def tb (xs ys:List Str) (x:Str):Str:=ys.getD (xs.idxOf x) ""
end E3
namespace CL
end CL
namespace E3
open PySem PySem.Spec PyProof.Rows L2 EE
noncomputable def putI (f:Str) (d:D):List (Str×D)→List (Str×D)
  | []=>[(f,d)]
  | (k,x)::r=>if k=f then (k,d)::r else (k,x)::putI f d r
abbrev FP (K:PySem.W.Frag) (H:Hp) (fs:List (Str×D)) (ws:List (Str×V)):Prop:=Paired (fun (p:Str×D) (q:Str×V)=>p.1=q.1∧Rp K H p.2 q.2) fs ws
section
variable {K:PySem.W.Frag} {H:Hp}
theorem FP.look {f:Str} {d:D}:∀{fs:List (Str×D)} {ws:List (Str×V)},FP K H fs ws→fs.lookup f=some d→∃v,ws.lookup f=some v∧Rp K H d v
  | _,_,.nil,e=>by simp at e
  | (k,x)::fs,(k',y)::ws,.cons ⟨h1,h2⟩ t,e=>by
    have h1:k=k':=h1
    subst h1
    by_cases hb:(f==k)=true
    · simp only [List.lookup,hb] at e ⊢
      cases e
      exact ⟨_,rfl,h2⟩
    · have hb:(f==k)=false:=show _ by simpa using hb
      simp only [List.lookup,hb] at e ⊢
      exact FP.look t e
theorem FP.none {f:Str}:∀{fs:List (Str×D)} {ws:List (Str×V)},FP K H fs ws→fs.lookup f=none→ws.lookup f=none
  | _,_,.nil,_=>rfl
  | (k,x)::fs,(k',y)::ws,.cons ⟨h1,h2⟩ t,e=>by
    have h1:k=k':=h1
    subst h1
    by_cases hb:(f==k)=true
    · simp only [List.lookup,hb] at e
      cases e
    · have hb:(f==k)=false:=show _ by simpa using hb
      simp only [List.lookup,hb] at e ⊢
      exact FP.none t e
theorem FP.put {f:Str} {d:D} {v:V} (r:Rp K H d v):∀{fs:List (Str×D)} {ws:List (Str×V)},FP K H fs ws→FP K H (putI f d fs) (putF f v ws)
  | _,_,.nil=>.cons ⟨rfl,r⟩ .nil
  | (k,x)::fs,(k',y)::ws,.cons ⟨h1,h2⟩ t=>by
    have h1:k=k':=h1
    subst h1
    rw [show putF f v ((k,y)::ws)=(if k=f then (k,v)::ws else (k,y)::putF f v ws) from rfl,putI]
    by_cases hk:k=f
    · rw [if_pos hk,if_pos hk];exact .cons ⟨rfl,r⟩ t
    · rw [if_neg hk,if_neg hk];exact .cons ⟨rfl,h2⟩ (FP.put r t)
theorem FP.len:∀{fs:List (Str×D)} {ws:List (Str×V)},FP K H fs ws→fs.length=ws.length
  | _,_,.nil=>rfl
  | _,_,.cons _ t=>by simp [FP.len t]
theorem FP.mono {Z:Zt} {H':Hp} {fs:List (Str×D)} {ws:List (Str×V)} (k:Kp Z H H') (h:FP K H fs ws):FP K H' fs ws:=Paired.mapP h fun _ _ z=>⟨z.1,z.2.mono k⟩
end
def fldR (C:Addr) (f:Str):D→Hp3→K3→Prop:=fun x S Q=>∃a fs d,x=.ref a∧S a=some (.ins C fs)∧fs.lookup f=some d∧Q d S
def fld3 (C:Addr) (t:TE3) (f:Str):TE3:=fun σ S Q=>t σ S fun x S1=>fldR C f x S1 Q
def putR (C:Addr) (f:Str):D→D→Hp3→(Hp3→Prop)→Prop:=fun x y S q=>∃a fs,x=.ref a∧S a=some (.ins C fs)∧fs.length<1000∧q (up S a (.ins C (putI f y fs)))
def sfld3 (C:Addr) (ta tv:TE3) (f:Str):TS3:=fun D3 σ S=>tv σ S fun y S1=>ta σ S1 fun x S2=>putR C f x y S2 (D3.nx σ)
def methR (C:Addr) (m:Str) (k:Addr→Prop) (x:D) (S:Hp3):Prop:=∃a fs,x=.ref a∧S a=some (.ins C fs)∧fs.lookup m=none∧k a
def meth3 (C:Addr) (m:Str) (sp:Sp3) (W3:W3T) (ta:TE3) (t:TA3):TE3:=fun σ S Q=>ta σ S fun x S1=>methR C m (fun a=>t σ S1 fun ds S2=>sp (.ref a::ds) S2 Q (W3 σ)) x S1
def meth03 (C:Addr) (m:Str) (sp:Sp3) (W3:W3T) (ta:TE3):TE3:=fun σ S Q=>ta σ S fun x S1=>methR C m (fun a=>sp [.ref a] S1 Q (W3 σ)) x S1
def make3 (C:Addr) (sp:Sp3) (W3:W3T) (t:TA3):TE3:=fun σ S Q=>t σ S fun ds S1=>∀a,S1 a=none→sp (.ref a::ds) (up S1 a (.ins C [])) (fun d S2=>d=.non∧Q (.ref a) S2) (W3 σ)
section
variable {X:Cx} {W3:W3T} {o e value:Expr} {f:Str} {pos pos':Pos} {ta tv t:TE3} {C:Addr}
theorem zb5 (c:Cls X.K C) (n:NoAttr X.K C f) (he:PE3 X W3 e t) (hb:attributeBase e f X.env (eval e X.env)=eval e X.env):PE3 X W3 (.Attribute e f pos) (fld3 C t f):=show _ by
  refine fun Z=>PE.imp (pe_fld (he Z) hb) fun τ H Q ⟨σ,S,Q3,hs,hr,ht,hc⟩=>?_
  refine ⟨σ,S,_,hs,hr,ht,fun d S1 v H1 k1 r1 l1 ⟨a,fs,d',e1,e2,e3,q⟩=>?_⟩
  subst e1
  cases r1
  obtain ⟨dx,ws,h1,h2⟩:=l1.obj a _ e2
  obtain ⟨v',h3,h4⟩:=FP.look h2 e3
  exact ⟨a,C,dx,ws,v',rfl,h1,c,n,h3,hc d' S1 v' H1 k1 h4 l1 q⟩
theorem zfv (c:Cls X.K C) (n:NoAttr X.K C f) (ha:PE3 X W3 o ta) (hv:PE3 X W3 value tv) (hs:swapsWith value (some (.Attribute o f pos')) pos.line X.env=pure false):PS3 X W3 (.Assign [.Attribute o f pos'] value pos) (sfld3 C ta tv f):=show _ by
  refine fun Z=>PS.imp (ps_fld (ha Z) (hv Z) hs) fun D τ H ⟨D3,σ,S,hs,hr,ht,hc⟩=>?_
  refine ⟨σ,S,_,hs,hr,ht,fun y S1 vy H1 k1 ry l1 q1=>⟨σ,S1,_,hs.mono k1,l1,q1,fun x S2 vx H2 k2 rx l2 ⟨a,fs,e1,e2,hl,q⟩=>?_⟩⟩
  subst e1
  cases rx
  obtain ⟨dx,ws,h1,h2⟩:=l2.obj a _ e2
  have k3:Kp Z.z H2 (upd H2 a (.ins C dx (putF f vy ws))):=Kp.at l2 e2
  refine ⟨a,C,dx,ws,rfl,h1,c,n,by rw [←FP.len h2];exact hl,hc.nx σ _ τ _ ((k1.trans k2).trans k3) (hs.mono ((k1.trans k2).trans k3)) (l2.put (o:=.ins C (putI f y fs)) k3 (l2.notZ e2) ⟨dx,_,za5,?_⟩) q⟩
  exact FP.put ((ry.mono k2).mono k3) (FP.mono k3 h2)
end
structure HasM (K:PySem.W.Frag) (C:Addr) (m q:Str) (st:Stmt) (ps:List Str):Prop where
  ex:∃f fd,Fun K m q st f fd∧Binds K fd ps []∧Meth K C m f
structure Met3 (P:Program) (w:World) (K:PySem.W.Frag) (mg:Str→Option Value) (base:Heap) (k:Nat) (C:Addr) (m:Str) (ps:List Str) (sp:Sp3):Prop where
  ex:∃f fd,FnOk P w K mg base (CX1 P w) k f fd ps (lSp K sp)∧Binds K fd ps []∧Meth K C m f
section
variable {P:Program} {w:World} {K:PySem.W.Frag} {mg:Str→Option Value} {base:Heap} {m q:Str} {C:Addr} {st:Stmt} {N ps:List Str} {k:Nat}
theorem Met3.mono {j k:Nat} {sp:Sp3} (M:Met3 P w K mg base j C m ps sp) (h:j≤k):Met3 P w K mg base k C m ps sp:=by
  obtain ⟨f,fd,F,r⟩:=M.ex
  exact ⟨f,fd,F.mono h,r⟩
theorem zdi {f:Addr} {oc:Value} {od an:Option Addr} {osl:Array (Option Value)} {kV doc pm cdv ct:Value}
    (a:PySem.W.findIn K (.ref C) m=some (some (.ref f))) (i:PySem.W.isFn K (.ref f)=true) (l:K.lookup f=some ⟨oc,od,.func (PySem.W.fnOf m q (defArgs st) (defBody st) (defScope st) .none kV doc pm an cdv ct),osl⟩)
    (c:PySem.W.codeIn K cdv q=true) (k:PySem.W.keepIn K (.ref f)=true)
    (hb:∀(kV doc pm:Value) (an:Option Addr) (cdv ct:Value) (us:List Value),us.length=ps.length→bindArgs (PySem.W.fnOf m q (defArgs st) (defBody st) (defScope st) .none kV doc pm an cdv ct) ⟨us,[]⟩=pure (ps.zip us)):HasM K C m q st ps:=show _ by
  have F:=znk (st:=st) l c k
  exact ⟨f,_,F,F.binds hb,a,i,k⟩
theorem HasM.met3 {sp:Sp3} (h:HasM K C m q st ps) (S:FnScope N ps (defScope st)) (len:∀vs H Q E,sp vs H Q E→vs.length=ps.length)
    (hbody:∀(f:Addr) (cdv:Value) (A:Around) (outer:List Env) (s:Shared) (H:Hp) (E:XK) (ds:List D) (S:Hp3) (Q:K3) (E3:X3),Room k (A.deeper (envOfC q (defScope st) s.heap.objs.size f cdv))→sp ds S Q E3 →
      ∃t,PSs3 (cxOf (CX1 P w) P w K mg base N q (defScope st) f cdv A outer s H E).nox NoX (defBody st) t∧t {nx:=fun _ S'=>Q .non S',rt:=Q} (start3 N ds) S):Met3 P w K mg base (k+1) C m ps sp:=show _ by
  obtain ⟨f,fd,F,b,mt⟩:=h.ex
  obtain ⟨oc,od,kV,doc,pm,an,cdv,ct,osl,rfl,lk,hcd⟩:=F.ex
  refine ⟨f,_,zri lk hcd S (fun vs H Q E z_1=>by obtain ⟨Z,ds,S,Q3,E3,h1,_,h3,_,_⟩:=z_1;rw [←h1.len];exact len _ _ _ _ h3) fun A outer s H vs Q E hr ⟨Z,ds,S3,Q3,E3,h1,h2,h3,h4,_⟩=>?_,b,mt⟩
  obtain ⟨t,ht,q⟩:=hbody f cdv A outer s H E ds S3 Q3 E3 hr h3
  refine ⟨_,(ht (zx0 Z H)).nox,_,start3 N ds,S3,?_,h2.into,q,⟨?_,?_,?_,?_⟩⟩
  · unfold start3 L2.start
    rw [h1.len]
    exact zbv (SR.ofRps h1) (SR.nones _)
  · intro σ S' τ H' kk _ l q'
    exact h4 .non S' .non H' (kk.unhide fun _ z=>z) .non (l.out h2 kk) q'
  · exact fun _ _ _ _ _ _ _ z=>z
  · exact fun _ _ _ _ _ _ _ z=>z
  · exact fun d S' v H' kk r l q'=>h4 d S' v H' (kk.unhide fun _ z=>z) r (l.out h2 kk) q'
end
section
variable {X:Cx} {CX:CXT} {k:Nat} {f C:Addr} {fd:FuncData} {ps:List Str} {sp:Sp} {E:L2.St→XK} {x m:Str} {p pos apos:Pos} {e o:Expr} {es:List Expr} {ta:TE} {t:TA}
theorem zml {pins:List (Addr×Obj)} {σ:L2.St} {H:Hp} {s:Shared} {Q:VK} {us:List Value} {vs:List V} (F:FnOk X.prog X.w X.K X.mg X.base CX k f fd ps sp) (hr:Room k X.A) (hb:Binds X.K fd ps []) (hx:∀τ,PassesAt CX X (E τ) τ)
    (I:Inv X pins σ H s) (r:Vals vs us) (h:sp vs H Q (E σ)):wpAny (model X.prog X.w) X.A (call (.ref f) us) (EP X pins σ Q) X.xe s:=show _ by
  have hl:us.length=ps.length:=by rw [←r.length];exact F.len _ _ _ _ h
  have hb':=hb s us I.kIn (by rw [List.append_nil];exact hl)
  rw [List.append_nil] at hb'
  refine wpAny_call (codeAny_mono (F.run X.A X.stack s H ⟨us,[]⟩ us vs Q (E σ) hr I.env0 hb' r h) fun r s' hq=>?_)
  cases r with
  | error e=>exact hx σ pins H s e s' I hq
  | ok fl =>
    cases fl with
    | ret u=>exact I.after hq
    | next=>exact False.elim hq
    | brk=>exact False.elim hq
    | cont=>exact False.elim hq
theorem zoy {pl:Sem Bool} (he:PE X o ta) (c:Cls X.K C) (hm:Meth X.K C m f) (F:FnOk X.prog X.w X.K X.mg X.base CX k f fd ps sp) (hr:Room k X.A) (hb:Binds X.K fd ps []) (hx:∀τ,PassesAt CX X (E τ) τ) (ha:PA X (e::es) t)
    (hst:starEach (e::es) X.env=(false,eval e X.env)::starEach es X.env) (hpl:(backTo pos (starEach es X.env)).any (·.1)=false)
    (ht:eval (.Call (.Attribute o m apos) (e::es) [] pos) X.env=(do
      let ov ←eval o X.env
      standAt apos.atName
      let (f,first) ←holding [ov] (getMethod ov m pl)
      callWith pos f first (backTo pos (starEach (e::es) X.env)) (backToKw pos (keywordEach [] X.env)))) :
    PE X (.Call (.Attribute o m apos) (e::es) [] pos) (fun τ H Q=>ta τ H fun x H1=>∃a dx fs,x=.ref a∧H1 a=some (.ins C dx fs)∧fs.lookup m=none∧t τ H1 fun vs H2=>sp (.ref a::vs) H2 Q (E τ)):=show _ by
  intro pins s σ H Q I h
  refine PySem.W.methodCall_KW (pl:=pl) (thn (he pins s σ H _ I h) fun u s1 ⟨x,H1,I1,rx,a,dx,fs,ex,ea,l,q⟩=>?_) ht
  subst ex
  obtain rfl:u=Value.ref a:=rx
  refine zha I1 ea c hm l ?_
  refine PySem.W.callWith_K (first:=[.ref a]) (h₀:=X.base) I.ok.mod.kin hm.kp (thn (ha pos pins s1 σ H1 _ I1 q) fun us s2 ⟨vs,H2,I2,r,q2⟩=>⟨I2.kIn,?_⟩) hst hpl
  exact zml (us:=.ref a::us) (vs:=.ref a::vs) F hr hb hx I2 (.cons rfl r) q2
theorem zmq {pl:Sem Bool} (he:PE X o ta) (c:Cls X.K C) (hm:Meth X.K C m f) (F:FnOk X.prog X.w X.K X.mg X.base CX k f fd ps sp) (hr:Room k X.A) (hb:Binds X.K fd ps []) (hx:∀τ,PassesAt CX X (E τ) τ)
    (ht:eval (.Call (.Attribute o m apos) [] [] pos) X.env=(do
      let ov ←eval o X.env
      standAt apos.atName
      let (f,first) ←holding [ov] (getMethod ov m pl)
      callWith pos f first (backTo pos (starEach [] X.env)) (backToKw pos (keywordEach [] X.env)))) :
    PE X (.Call (.Attribute o m apos) [] [] pos) (fun τ H Q=>ta τ H fun x H1=>∃a dx fs,x=.ref a∧H1 a=some (.ins C dx fs)∧fs.lookup m=none∧sp [.ref a] H1 Q (E τ)):=show _ by
  intro pins s σ H Q I h
  refine PySem.W.methodCall_KW (pl:=pl) (thn (he pins s σ H _ I h) fun u s1 ⟨x,H1,I1,rx,a,dx,fs,ex,ea,l,q⟩=>?_) ht
  subst ex
  obtain rfl:u=Value.ref a:=rx
  refine zha I1 ea c hm l ?_
  exact PySem.W.callWith_K0 (first:=[.ref a]) I1.kIn hm.kp (zml (us:=[.ref a]) (vs:=[.ref a]) F hr hb hx I1 (.cons rfl .nil) q)
theorem zoz (M:Mk X.K C f) (F:FnOk X.prog X.w X.K X.mg X.base CX k f fd ps sp) (hr:Room (k+1) X.A) (hg:Gl X x) (hm:X.mg x=some (.ref C)) (hb:Binds X.K fd ps []) (hx:∀τ,PassesAt CX X (E τ) τ)
    (ha:PA X (e::es) t) (hdb:(x==("__debug__":Str))=false) (he:starEach (e::es) X.env=(false,eval e X.env)::starEach es X.env) (hpl:(backTo pos (starEach es X.env)).any (·.1)=false) :
    PE X (.Call (.Name x p) (e::es) [] pos) (fun τ H Q=>t τ H fun vs H1=>∀x dx,H1 x=none→H1 dx=none→dx≠x →
      sp (.ref x::vs) (upd (upd H1 dx (.own x)) x (.ins C dx [])) (fun v H2=>v=.non∧Q (.ref x) H2) (E τ)):=show _ by
  intro pins s σ H Q I h
  refine wpAny_Call_Name_kw (zjn I hg hm ?_ hdb)
  refine PySem.W.callWith_K (h₀:=X.base) I.ok.mod.kin M.kp (thn (ha pos pins s σ H _ I h) fun us s1 ⟨vs,H1,I1,r,q⟩=>⟨I1.kIn,?_⟩) he hpl
  have hq:=q (s1.heap.objs.size+1) s1.heap.objs.size (I1.hok.fresh (Nat.le_succ _)) (I1.hok.fresh (Nat.le_refl _)) (Nat.ne_of_lt (Nat.lt_succ_self _))
  have I2:=Inv.made (C:=C) I1
  have r2:Vals (V.ref (s1.heap.objs.size+1)::vs) (Value.ref (s1.heap.objs.size+1)::us):=.cons rfl r
  have hl:(Value.ref (s1.heap.objs.size+1)::us).length=ps.length:=by
    have e:=r2.length
    rw [F.len _ _ _ _ hq] at e
    exact e.symm
  have hb':=hb _ (Value.ref (s1.heap.objs.size+1)::us) I2.kIn (by rw [List.append_nil];exact hl)
  rw [List.append_nil] at hb'
  refine wpAny_call (zpc (f:=f) I1.kIn M.makes M.init (beq_iff_eq.mp M.fn) (codeAny_mono (F.run _ X.stack _ _ ⟨Value.ref (s1.heap.objs.size+1)::us,[]⟩ (Value.ref (s1.heap.objs.size+1)::us) _ _ (E σ) (hr.make C us [])
    (I2.env0.make C us []) hb' r2 hq) fun r s' hq'=>?_))
  cases r with
  | error e=>exact hx σ pins _ _ e s' I2 hq'
  | ok fl =>
    cases fl with
    | ret u =>
      obtain ⟨v,H',I3,rv,ev,q3⟩:=I2.after hq'
      subst ev
      exact ⟨rv,⟨V.ref (s1.heap.objs.size+1),H',I3,rfl,q3⟩⟩
    | next=>exact False.elim hq'
    | brk=>exact False.elim hq'
    | cont=>exact False.elim hq'
end
section
variable {X:Cx} {W3:W3T} {k:Nat} {C:Addr} {m y:Str} {ps:List Str} {sp:Sp3} {pos apos p:Pos} {o e:Expr} {es:List Expr} {ta:TE3} {t:TA3}
theorem zfb {pl:Sem Bool} (M:Met3 X.prog X.w X.K X.mg X.base k C m ps sp) (c:Cls X.K C) (hr:Room k X.A) (he:PE3 X W3 o ta) (ha:PA3 X W3 (e::es) t)
    (hst:starEach (e::es) X.env=(false,eval e X.env)::starEach es X.env:=by rfl) (hpl:(backTo pos (starEach es X.env)).any (·.1)=false:=by rfl)
    (ht:eval (.Call (.Attribute o m apos) (e::es) [] pos) X.env=(do
      let ov ←eval o X.env
      standAt apos.atName
      let (f,first) ←holding [ov] (getMethod ov m pl)
      callWith pos f first (backTo pos (starEach (e::es) X.env)) (backToKw pos (keywordEach [] X.env))):=by rfl) :
    PE3 X W3 (.Call (.Attribute o m apos) (e::es) [] pos) (meth3 C m sp W3 ta t):=show _ by
  obtain ⟨f,fd,F,b,mt⟩:=M.ex
  refine fun Z=>PE.imp (zoy (he Z) c mt F hr b Z.pass (ha Z) hst hpl ht) fun τ H Q ⟨σ,S,Q3,hs,hl,ht,hc⟩=>?_
  refine ⟨σ,S,_,hs,hl,ht,fun d S1 v H1 k1 r1 l1 ⟨a,fs,e1,e2,e3,q⟩=>?_⟩
  subst e1
  cases r1
  obtain ⟨dx,ws,h1,h2⟩:=l1.obj a _ e2
  refine ⟨a,dx,ws,rfl,h1,FP.none h2 e3,σ,S1,_,hs.mono k1,l1,q,fun ds S2 vs H2 k2 r2 l2 q2=>?_⟩
  exact ⟨Z.z,.ref a::ds,S2,Q3,W3 σ,.cons (.ref a) r2,l2,q2,hc.mono (k1.trans k2),fun C' a' S3 H3 k3 l3 ha z=>Z.ce σ τ C' a' S3 H3 (hs.mono ((k1.trans k2).trans k3)) l3 ha z⟩
theorem znn {pl:Sem Bool} (M:Met3 X.prog X.w X.K X.mg X.base k C m ps sp) (c:Cls X.K C) (hr:Room k X.A) (he:PE3 X W3 o ta)
    (ht:eval (.Call (.Attribute o m apos) [] [] pos) X.env=(do
      let ov ←eval o X.env
      standAt apos.atName
      let (f,first) ←holding [ov] (getMethod ov m pl)
      callWith pos f first (backTo pos (starEach [] X.env)) (backToKw pos (keywordEach [] X.env))):=by rfl) :
    PE3 X W3 (.Call (.Attribute o m apos) [] [] pos) (meth03 C m sp W3 ta):=show _ by
  obtain ⟨f,fd,F,b,mt⟩:=M.ex
  refine fun Z=>PE.imp (zmq (he Z) c mt F hr b Z.pass ht) fun τ H Q ⟨σ,S,Q3,hs,hl,ht,hc⟩=>?_
  refine ⟨σ,S,_,hs,hl,ht,fun d S1 v H1 k1 r1 l1 ⟨a,fs,e1,e2,e3,q⟩=>?_⟩
  subst e1
  cases r1
  obtain ⟨dx,ws,h1,h2⟩:=l1.obj a _ e2
  exact ⟨a,dx,ws,rfl,h1,FP.none h2 e3,Z.z,[.ref a],S1,Q3,W3 σ,.cons (.ref a) .nil,l1,q,hc.mono k1,fun C' a' S3 H3 k3 l3 ha z=>Z.ce σ τ C' a' S3 H3 (hs.mono (k1.trans k3)) l3 ha z⟩
theorem e_make (M:Met3 X.prog X.w X.K X.mg X.base k C "__init__" ps sp) (mk:PySem.W.makesIn X.K C=true) (kp:PySem.W.keepIn X.K (.ref C)=true) (hr:Room (k+1) X.A) (hg:Gl X y) (hm:X.mg y=some (.ref C)) (ha:PA3 X W3 (e::es) t)
    (hdb:(y==("__debug__":Str))=false:=by decide) (he:starEach (e::es) X.env=(false,eval e X.env)::starEach es X.env:=by rfl) (hpl:(backTo pos (starEach es X.env)).any (·.1)=false:=by rfl) :
    PE3 X W3 (.Call (.Name y p) (e::es) [] pos) (make3 C sp W3 t):=show _ by
  obtain ⟨f,fd,F,b,mt⟩:=M.ex
  refine fun Z=>PE.imp (zoz ⟨mk,mt.at_,mt.fn,kp⟩ F hr hg hm b Z.pass (ha Z) hdb he hpl) fun τ H Q ⟨σ,S,Q3,hs,hl,ht,hc⟩=>?_
  refine ⟨σ,S,_,hs,hl,ht,fun ds S1 vs H1 k1 r1 l1 q1 x dx hx hd hne=>?_⟩
  have l2:Rl X.K Z.z S1 (upd H1 dx (.own x)):=l1.lay hd
  have k2:Kp Z.z H1 (upd H1 dx (.own x)):=Kp.new hd (l1.fresh hd).2
  have hx2:upd H1 dx (.own x) x=none:=by rw [zar (Ne.symm hne)];exact hx
  have k3:Kp Z.z (upd H1 dx (.own x)) (upd (upd H1 dx (.own x)) x (.ins C dx [])):=Kp.new hx2 (l2.fresh hx2).2
  refine ⟨Z.z,.ref x::ds,up S1 x (.ins C []),_,W3 σ,.cons (.ref x) ((r1.mono k2).mono k3),l2.put (o:=.ins C []) k3 (l2.fresh hx2).2 ⟨dx,[],za5,.nil⟩,q1 x (l1.fresh hx).1,?_,fun C' a' S3 H3 k4 l3 ha z=>Z.ce σ τ C' a' S3 H3 (hs.mono (((k1.trans k2).trans k3).trans k4)) l3 ha z⟩
  rintro d S2 v H2 k4 r2 l4 ⟨ed,q2⟩
  subst ed
  cases r2
  exact ⟨rfl,hc (.ref x) S2 _ H2 (((k1.trans k2).trans k3).trans k4) (.ref x) l4 q2⟩
end
section
variable {K:PySem.W.Frag} {S:Hp3} {Q:K3} {σ:St3} {f m:Str} {a C:Addr} {fs:List (Str×D)} {d y:D} {t ta tv:TE3} {W3:W3T} {sp:Sp3}
theorem j_fld (q:t σ S fun x S1=>fldR C f x S1 Q):fld3 C t f σ S Q:=q
theorem j_fldR (hS:S a=some (.ins C fs)) (hl:fs.lookup f=some d) (q:Q d S):fldR C f (.ref a) S Q:=⟨a,fs,d,rfl,hS,hl,q⟩
theorem j_meth {t:TA3} (q:ta σ S fun x S1=>methR C m (fun a=>t σ S1 fun ds S2=>sp (.ref a::ds) S2 Q (W3 σ)) x S1):meth3 C m sp W3 ta t σ S Q:=q
theorem j_meth0 (q:ta σ S fun x S1=>methR C m (fun a=>sp [.ref a] S1 Q (W3 σ)) x S1):meth03 C m sp W3 ta σ S Q:=q
theorem j_make {t:TA3} (q:t σ S fun ds S1=>∀a,S1 a=none→sp (.ref a::ds) (up S1 a (.ins C [])) (fun d S2=>d=.non∧Q (.ref a) S2) (W3 σ)):make3 C sp W3 t σ S Q:=q
theorem j_sfld {n b c:St3→Hp3→Prop} {rt:K3} (q:tv σ S fun y S1=>ta σ S1 fun x S2=>putR C f x y S2 (n σ)):sfld3 C ta tv f ⟨n,rt,b,c⟩ σ S:=q
theorem j_putR {q:Hp3→Prop} (hS:S a=some (.ins C fs)) (hl:fs.length<1000) (h:q (up S a (.ins C (putI f y fs)))):putR C f (.ref a) y S q:=⟨a,fs,rfl,hS,hl,h⟩
end
end E3
namespace EE
open PySem PySem.Spec PyProof.Rows L2
theorem zgk {M:Model} {A:Around} {E:Value→Shared→Prop} {s:Shared} {β:Type} {b:Nat} (f:Nat→β→Sem (ForInStep β)) (I:Nat→β→Shared→Prop) (Q:β→Shared→Prop)
    (turn:∀i c s,i<b→I i c s→wpAny M A (f i c) (fun r s'=>match r with | .yield c'=>I (i+1) c' s' | .done c'=>Q c' s') E s)
    (fin:∀c s,I b c s→Q c s) (c:β) (h:I 0 c s):wpAny M A (forIn [0:b] c f) Q E s:=show _ by
  rw [Std.Legacy.Range.forIn_eq_forIn_range']
  have hsz:([0:b]:Std.Legacy.Range).size=b:=by simp [Std.Legacy.Range.size]
  show wpAny M A (forIn (List.range' 0 ([0:b]:Std.Legacy.Range).size 1) c f) Q E s
  rw [hsz]
  refine wpAny_forIn_list f (fun l c s=>∃i,i≤b∧l=List.range' i (b-i) 1∧I i c s) Q ?_ ?_ _ c ⟨0,Nat.zero_le _,rfl,h⟩
  · rintro x rest c s ⟨i,hib,hl,hI⟩
    have hlt:i<b:=by
      rcases Nat.lt_or_ge i b with h'|h'
      · exact h'
      · rw [show b-i=0 by omega] at hl;simp at hl
    obtain ⟨n,hn⟩:∃n,b-i=n+1:=⟨b-i-1,by omega⟩
    rw [hn,List.range'_succ] at hl
    obtain ⟨rfl,rfl⟩:=List.cons.inj hl
    refine wpAny_mono (turn x c s hlt hI) (fun r s' h'=>?_) fun _ _ e=>e
    cases r with
    | done c'=>exact h'
    | yield c'=>exact ⟨x+1,by omega,by congr 1;omega,h'⟩
  · rintro c s ⟨i,hib,hl,hI⟩
    have:i=b:=by
      rcases Nat.lt_or_ge i b with h'|h'
      · obtain ⟨n,hn⟩:∃n,b-i=n+1:=⟨b-i-1,by omega⟩
        rw [hn,List.range'_succ] at hl
        cases hl
      · omega
    subst this
    exact fin c s hI
theorem zgl (l:Addr) (items:Array Value) (n:Nat) (dd:Option Addr) (sl:Array (Option Value)) (x:Value) (e:Value→Bool) (he:∀y,y∈items→MeetsSeq.EqGives y x (e y)) (j:Nat) (hj:j<items.size)
    (hit:e items[j]=true) (hno:∀m (hm:m<items.size),m<j→e items[m]=false) :
    Meets (Builtin.«tuple.index» ⟨[.ref l,x],[]⟩)
      (fun _ R s=>s.heap.get? l=some {cls:=.type "tuple",dict:=dd,data:=.seq items n,slots:=sl}∧R (.ok (.ret (.int j s.toks))) {s with toks:=s.toks+1}) :=
  .of_wp fun prog w A R s h=>by
    obtain ⟨hp,g,d,tk,os⟩:=s
    obtain ⟨hl,h⟩:=h
    have f1:=PySem.AutoSeq1.sub_tuple_tuple
    wp_walk using PySem.AutoSeq1.wpAny_loadPart' hl,zgk _ (fun i b s'=>b.1=none∧i≤j∧s'=⟨hp,g,d,tk,os⟩) _
    case turn =>
      rintro i b s' hi ⟨hb,hij,rfl⟩
      have hi:i<items.size:=show _ by omega
      rw [Array.getElem?_eq_getElem hi]
      refine wpAny_bind (he _ (Array.getElem_mem hi) prog w _ _ _ _ ?_)
      by_cases hq:i=j
      · subst hq
        rw [hit]
        wp_walk
        exact ⟨_,rfl,h⟩
      · rw [hno i hi (by omega)]
        wp_walk
        exact ⟨rfl,by omega,rfl⟩
    case fin =>
      rintro ⟨b1,b2⟩ s' ⟨hb,hij,rfl⟩
      omega
    case h =>
      exact ⟨rfl,Nat.zero_le _,rfl⟩
theorem zfl:∀{ys:List Str} {us:List Value},Vals (ys.map V.str) us→∀(i:Nat) (y:Str),ys[i]?=some y→∃t,us[i]?=some (.str y t)
  | [],_,_,_,_,e=>by simp at e
  | z::ys,_,.cons r t,0,y,e=>by
    obtain ⟨tk,rfl⟩:=r
    simp at e
    subst e
    exact ⟨tk,rfl⟩
  | z::ys,_,.cons r t,i+1,y,e=>zfl t i y (by simpa using e)
noncomputable def isK (k:Str):Value→Bool
  | .str z _=>z==k
  | _=>false
section
variable {X:Cx}
def rIndexT (K:PySem.W.Frag):V→List V→Hp→VK→Prop:=fun x vs H Q=>∃(a:Addr) (ys:List Str) (k:Str) (j:Nat),x=.ref a∧vs=[.str k]∧SqT K H a (ys.map V.str)∧ys[j]?=some k∧k∉ys.take j∧Q (.int j) H
theorem zm1:MtR X "tuple.index" (rIndexT X.K):=show _ by
  intro pins s σ H x vs v us Q I rx rv h
  obtain ⟨a,ys,k,j,rfl,rfl,hq,hj,hno,q⟩:=h
  cases rx
  obtain ⟨u,rfl,t,rfl⟩:=vals1 rv
  obtain ⟨its,r,⟨o,e2,hc,m,hd⟩,hz⟩:=I.tuple hq
  obtain ⟨oc,od,odt,osl⟩:=o
  obtain rfl:oc=.type "tuple":=hc
  obtain rfl:odt=.seq its.toArray m:=hd
  have hlen:its.length=ys.length:=by rw [←r.length,List.length_map]
  have hjl:j<ys.length:=(List.getElem?_eq_some_iff.mp hj).1
  have at_:∀(i:Nat) (hi:i<its.toArray.size),∃z t,ys[i]?=some z∧its.toArray[i]=.str z t:=fun i hi=>by
    have hi':i<its.length:=by simpa using hi
    have hiy:i<ys.length:=by omega
    obtain ⟨t,e⟩:=zfl r i _ (List.getElem?_eq_getElem hiy)
    refine ⟨_,t,List.getElem?_eq_getElem hiy,?_⟩
    rw [List.getElem?_eq_getElem hi'] at e
    simpa using e
  have hjs:j<its.toArray.size:=by rw [List.size_toArray];omega
  refine call_meets F.slot_tuple_index ⟨_,e2,rfl⟩ F.entry_tuple_index (F.args_tuple_index_2 _ _) (zgl a its.toArray m od osl (.str k t) (isK k) (fun y hy=>?_) j hjs ?_ fun i hi hij=>?_) ⟨e2,⟨.int j,H,I.tok _,⟨_,rfl⟩,q⟩⟩
  · obtain ⟨i,hi,rfl⟩:=Array.getElem_of_mem hy
    obtain ⟨z,t',_,e⟩:=at_ i hi
    rw [e]
    exact eqGives_str z k t' t
  · obtain ⟨z,t',e1,e⟩:=at_ j hjs
    rw [hj] at e1
    cases e1
    rw [e]
    exact beq_self_eq_true k
  · obtain ⟨z,t',e1,e⟩:=at_ i hi
    rw [e]
    refine beq_eq_false_iff_ne.mpr fun hzk=>hno ?_
    subst hzk
    exact List.mem_iff_getElem?.mpr ⟨i,by rw [List.getElem?_take_of_lt hij];exact e1⟩
theorem tupD {pins:List (Addr×Obj)} {σ:L2.St} {H:Hp} {s:Shared} {a:Addr} {xs:List V} (I:Inv X pins σ H s) (h:SqT X.K H a xs):∃o,s.heap.get? a=some o∧o.cls=.type "tuple"∧o.dict=none:=show _ by
  rcases h with h|⟨o,its,n,hk,hc,hd,hs,hz,r⟩
  · obtain ⟨z,its,r,⟨o,e,c,_⟩,nd⟩:=h.ok I.hok
    exact ⟨o,e,c,nd o e⟩
  · exact ⟨o,I.kIn a o hk,hc,hd⟩
theorem pe_bmT {o e:Expr} {es:List Expr} {to:TE} {t:TA} {name:Str} {apos cpos:Pos} {id:String} {r:V→List V→Hp→VK→Prop} (slot:Slot "tuple" name id) (hty:typeOf (.builtin id)=pure (.type "method_descriptor")) (hm:MtR X id r) (ho:PE X o to) (ha:PA X (e::es) t)
    (hbase:attributeBase o name X.env (eval o X.env)=eval o X.env)
    (hfew:((backTo cpos (starEach (e::es) X.env)).all (fun x=>!x.1)&&(backToKw cpos (keywordEach [] X.env)).all (fun x=>x.1.isSome)
      && decide ((e::es).length+([]:List Keyword).length+(if ([]:List Keyword).isEmpty then 0 else 1)<30))=true)
    (hline:(apos.endLine==cpos.line)=true) (hs:starEach (e::es) X.env=(false,eval e X.env)::starEach es X.env) (hplain:(backTo cpos (starEach es X.env)).any (·.1)=false) :
    PE X (.Call (.Attribute o name apos) (e::es) [] cpos) (fun σ H Q=>to σ H fun x H1=>∃p zs,x=.ref p∧SqT X.K H1 p zs∧t σ H1 fun xs H2=>r x xs H2 Q):=show _ by
  intro pins s σ H Q I h
  refine wpAny_Call_method_late hbase hfew hline rfl (thn (ho pins s σ H _ I h) fun v s1 ⟨x,H1,I1,r1,p,zs,ex,hq,q1⟩=>?_)
  subst ex
  cases (show v=Value.ref p from r1)
  obtain ⟨ob,e1,e2,e3⟩:=tupD I1 hq
  refine ⟨"tuple",id,PySem.F.plainAttrs_tuple,slot,hty,⟨ob,e1,e2⟩,fun a z=>by cases z;exact ⟨ob,e1,e3⟩,?_⟩
  have hA:=ha cpos pins s1 σ H1 _ I1 q1
  rw [hs] at hA ⊢
  refine Calls.callWith_builtin (by show (false||(backTo cpos (starEach es X.env)).any (·.1))=false;rw [hplain]<;>rfl) (Calls.evalArgs_plain ?_)
  exact thn hA fun us s2 z_1=>by obtain ⟨vs,H2,I2,r2,q2⟩:=z_1;exact hm pins s2 σ H2 _ vs _ us Q I2 r1 r2 q2
end
end EE
namespace E3
open PySem PySem.Spec PyProof.Rows L2 EE
section
variable {K:PySem.W.Frag} {S:Hp3} {Q:K3}
def indexT3:D→List D→Hp3→K3→Prop:=fun x ys S Q=>∃(zs:List Str) (k:Str) (j:Nat),ys=[.str k]∧x=.tup (zs.map D.str)∧zs[j]?=some k∧k∉zs.take j∧Q (.int j) S
theorem znt:DnM K indexT3 (rIndexT K):=show _ by
  intro Z x ys S Q3 v vs H Q rx r l h c
  obtain ⟨zs,k,j,rfl,rfl,h1,h2,q⟩:=h
  cases rx with
  | tup h3 h4 =>
    cases r with
    | cons r rr =>
      cases rr
      cases r
      rw [Rps.strs h4] at h3
      exact ⟨_,zs,k,j,rfl,rfl,h3,h1,h2,c _ S _ H (Kp.refl _ _) (.int _) l q⟩
def bmT3 (r:D→List D→Hp3→K3→Prop) (to:TE3) (t:TA3):TE3:=fun σ S Q=>to σ S fun x S1=>∃ds,x=.tup ds∧t σ S1 fun xs S2=>r x xs S2 Q
theorem e_bmT {X:Cx} {W3:W3T} {o e:Expr} {es:List Expr} {to:TE3} {t:TA3} {name:Str} {apos cpos:Pos} {id:String} {m3:D→List D→Hp3→K3→Prop} {m:V→List V→Hp→VK→Prop} (slot:Slot "tuple" name id) (hty:typeOf (.builtin id)=pure (.type "method_descriptor")) (hm:MtR X id m) (hd:DnM X.K m3 m) (ho:PE3 X W3 o to) (ha:PA3 X W3 (e::es) t)
    (hbase:attributeBase o name X.env (eval o X.env)=eval o X.env:=by rfl)
    (hfew:((backTo cpos (starEach (e::es) X.env)).all (fun x=>!x.1)&&(backToKw cpos (keywordEach [] X.env)).all (fun x=>x.1.isSome)
      && decide ((e::es).length+([]:List Keyword).length+(if ([]:List Keyword).isEmpty then 0 else 1)<30))=true:=by rfl)
    (hline:(apos.endLine==cpos.line)=true:=by rfl) (hs:starEach (e::es) X.env=(false,eval e X.env)::starEach es X.env:=by rfl) (hplain:(backTo cpos (starEach es X.env)).any (·.1)=false:=by rfl) :
    PE3 X W3 (.Call (.Attribute o name apos) (e::es) [] cpos) (bmT3 m3 to t) :=
  fun Z=>PE.imp (pe_bmT slot hty hm (ho Z) (ha Z) hbase hfew hline hs hplain) fun τ H Q z_2=>by
    obtain ⟨σ,S,Q3,hs,hr,ht,hc⟩:=z_2
    refine ⟨σ,S,_,hs,hr,ht,fun x S1 v H1 k1 r1 l1 ⟨ds,ex,q⟩=>?_⟩
    subst ex
    cases r1 with
    | tup h1 h2=>exact ⟨_,_,rfl,h1,σ,S1,_,hs.mono k1,l1,q,fun ds S2 vs H2 k2 r2 l2 q2=>hd Z.z _ ds S2 Q3 _ vs H2 Q (.tup (k2.sqT h1) (h2.mono k2)) r2 l2 q2 (hc.mono (k1.trans k2))⟩
theorem j_bmT {r:D→List D→Hp3→K3→Prop} {to:TE3} {t:TA3} {σ:St3} (h:to σ S fun x S1=>∃ds,x=.tup ds∧t σ S1 fun xs S2=>r x xs S2 Q):bmT3 r to t σ S Q:=h
theorem j_indexT {zs:List Str} {k:Str} {j:Nat} (h1:zs[j]?=some k) (h2:k∉zs.take j) (q:Q (.int j) S):indexT3 (.tup (zs.map D.str)) [.str k] S Q:=⟨zs,k,j,rfl,rfl,h1,h2,q⟩
end
end E3
namespace E3
open PySem PySem.Spec PyProof.Rows L2 EE
section
variable {σ:St3} {S:Hp3} {Q:K3} {QT:Bool→Hp3→Prop} {QA:List D→Hp3→Prop} {ta tb te:TE3} {tA:TT3} {t u u':TS3} {al:TA3} {r:R3} {n b c:St3→Hp3→Prop} {rt:K3} {i i' i'':Nat} {d e d2 d3:D} {D3:Ends3} {sp:Sp3} {W3:W3T} {f:List D→Hp3→K3→Prop} {ds:List D} {k:Int} {a:Addr}
theorem j_qset (h:te σ S fun x S1=>u D3 (σ.set i (some x)) S1):seq3 (set3 i te) u D3 σ S:=h
theorem j_qdrop (h:te σ S fun _ S1=>u D3 σ S1):seq3 (drop3 te) u D3 σ S:=h
theorem j_qifs (h:tA σ S fun b' S1=>if b'=true then t ⟨u' ⟨n,rt,b,c⟩,rt,b,c⟩ σ S1 else u ⟨u' ⟨n,rt,b,c⟩,rt,b,c⟩ σ S1):seq3 (ifs3 tA t u) u' ⟨n,rt,b,c⟩ σ S:=h
theorem j_qapp (h:σ[i]?=some (some (.ref a))) (hS:S a=some (.lst ds)) (q:te σ S fun y S1=>append3 (.ref a) [y] S1 fun _ S2=>u D3 σ S2):seq3 (drop3 (bm3 "list" append3 (v3 i) (cons3 te nil3))) u D3 σ S :=
  ⟨_,h,.inr (.inl ⟨rfl,ds,.inl ⟨a,rfl,hS⟩⟩),q⟩
theorem j_ixTv (h:σ[i]?=some (some (.tup ds))) (hd:atI ds k=some d) (q:Q d S):o3 ixT3 (v3 i) (c3 (.int k)) σ S Q:=⟨_,h,ds,k,d,rfl,rfl,hd,q⟩
theorem j_tixS {x z:Str} (h:σ[i]?=some (some (.tup ds))) (hx:atI ds k=some (.str x)) (q:QT (decide (x=z)) S):test3 (o3 eqS3 (o3 ixT3 (v3 i) (c3 (.int k))) (c3 (.str z))) σ S QT:=⟨_,h,ds,k,_,rfl,rfl,hx,x,z,rfl,rfl,_,rfl,q⟩
theorem j_tovc (h:σ[i]?=some (some d)) (q:r d e S fun z S'=>∃k,z=.bl k∧QT k S'):test3 (o3 r (v3 i) (c3 e)) σ S QT:=⟨d,h,q⟩
theorem j_tovv (h:σ[i]?=some (some d)) (h':σ[i']?=some (some e)) (q:r d e S fun z S'=>∃k,z=.bl k∧QT k S'):test3 (o3 r (v3 i) (v3 i')) σ S QT:=⟨d,h,e,h',q⟩
theorem j_txc (q:ta σ S fun x S1=>r x e S1 fun z S'=>∃k,z=.bl k∧QT k S'):test3 (o3 r ta (c3 e)) σ S QT:=q
theorem j_txo (q:ta σ S fun x S1=>tb σ S1 fun y S2=>r x y S2 fun z S'=>∃k,z=.bl k∧QT k S'):test3 (o3 r ta tb) σ S QT:=q
theorem j_ovc (h:σ[i]?=some (some d)) (q:r d e S Q):o3 r (v3 i) (c3 e) σ S Q:=⟨d,h,q⟩
theorem j_ovv (h:σ[i]?=some (some d)) (h':σ[i']?=some (some e)) (q:r d e S Q):o3 r (v3 i) (v3 i') σ S Q:=⟨d,h,e,h',q⟩
theorem j_ov (h:σ[i]?=some (some d)) (q:tb σ S fun y S2=>r d y S2 Q):o3 r (v3 i) tb σ S Q:=⟨d,h,q⟩
theorem j_oc (q:tb σ S fun y S2=>r d y S2 Q):o3 r (c3 d) tb σ S Q:=q
theorem j_xc (q:ta σ S fun x S1=>r x e S1 Q):o3 r ta (c3 e) σ S Q:=q
theorem j_kv1 (h:σ[i]?=some (some d)) (q:f [d] S Q):cb3 f (cons3 (v3 i) nil3) σ S Q:=⟨d,h,q⟩
theorem j_ke1 (q:te σ S fun x S1=>f [x] S1 Q):cb3 f (cons3 te nil3) σ S Q:=q
theorem j_fv1 (h:σ[i]?=some (some d)) (q:sp [d] S Q (W3 σ)):call3 sp W3 (cons3 (v3 i) nil3) σ S Q:=⟨d,h,q⟩
theorem j_fe1 (q:te σ S fun x S1=>sp [x] S1 Q (W3 σ)):call3 sp W3 (cons3 te nil3) σ S Q:=q
theorem j_fv2 (h:σ[i]?=some (some d)) (h2:σ[i']?=some (some d2)) (q:sp [d,d2] S Q (W3 σ)):call3 sp W3 (cons3 (v3 i) (cons3 (v3 i') nil3)) σ S Q:=⟨d,h,d2,h2,q⟩
theorem j_cvn (h:σ[i]?=some (some d)) (q:QA [d] S):cons3 (v3 i) nil3 σ S QA:=⟨d,h,q⟩
theorem j_cv (h:σ[i]?=some (some d)) (q:al σ S fun xs S2=>QA (d::xs) S2):cons3 (v3 i) al σ S QA:=⟨d,h,q⟩
theorem j_ccn (q:QA [d] S):cons3 (c3 d) nil3 σ S QA:=q
theorem j_cc (q:al σ S fun xs S2=>QA (d::xs) S2):cons3 (c3 d) al σ S QA:=q
theorem j_cen (q:te σ S fun x S1=>QA [x] S1):cons3 te nil3 σ S QA:=q
end
end E3
namespace EE
open PySem PySem.Spec PyProof.Rows L2
end EE
namespace E3
open PySem PySem.Spec PyProof.Rows L2 EE
end E3
namespace EE
open PySem PySem.Spec PyProof.Rows L2
section
variable {prog:Program} {w:World} {A:Around} {E:Value→Shared→Prop} {s:Shared} {z TI TO i1 i2 a b:Addr} {k:Nat} {xs ys:Array Value} {x y p q:Value}
theorem zlr {Q:Value→Shared→Prop} (N:ZN z TI TO i1 i2) (Na:ZA z TO i1 i2 a) (Nb:ZA z TO i1 i2 b)
    (hz:IsZip s.heap z TI TO .none) (hI:IsPair s.heap TI (.ref i1) (.ref i2)) (hO:IsPair s.heap TO p q) (h1:s.heap.IsTupleIter i1 a k) (h2:s.heap.IsListIter i2 b k) (ha:s.heap.IsTuple a xs) (hb:s.heap.IsList b ys) (hx:xs[k]?=some x) (hy:ys[k]?=some y)
    (hQ:∀h5 h8,h5.objs.size=s.heap.objs.size→(∀c o,c≠z→c≠TO→c≠i1→c≠i2→s.heap.get? c=some o→h5.get? c=some o)→IsPair h5 TO x y→h5.IsTupleIter i1 a (k+1)→h5.IsListIter i2 b (k+1) →
      (∃o,h5.get? z=some o)→Heap.SameBut z (h5.push {cls:=.type "tuple",data:=.seq #[x,y]}) h8→IsZip h8 z TI TO (rawInt h5.objs.size)→Q (.ref h5.objs.size) {s with heap:=h8}) :
    wpAny (model prog w) A (Builtin.«zip.__next__» ⟨[.ref z],[]⟩) (fun fin s'=>∃v,fin=.done (.ret v)∧Q v s') E s:=show _ by
  show wpAny _ _ (field (.ref z) 2 >>= _) _ _ s
  refine wpAny_bind (wpAny_field hz rfl (x:=.bool false) rfl ?_)
  show wpAny _ _ (field (.ref z) 3 >>= _) _ _ s
  refine wpAny_bind (wpAny_field hz rfl (x:=.ref TI) rfl (wpAny_bind (wpAny_seqItems hI rfl ?_)))
  show wpAny _ _ (Builtin.SmallTypes.ownedTupleIsFree (.ref z) >>= _) _ _ s
  refine wpAny_bind ?_
  unfold Builtin.SmallTypes.ownedTupleIsFree
  refine wpAny_bind (wpAny_field hz rfl (x:=.none) rfl (wpAny_pure ?_))
  simp only [if_true]
  refine wpAny_bind (wpAny_rule (wpAny_bind (wpAny_field hz rfl (x:=.ref TO) rfl (wpAny_bind (wpAny_setField_rec hz (by simp) fun g1 hz1 e1=>?_)))))
  replace hz1:IsZip g1 z TI TO .ellipsis:=hz1
  refine wpAny_bind ?_
  simp only [List.zipIdx_cons,List.zipIdx_nil,List.forIn_cons,List.forIn_nil]
  refine wpAny_bind (wpAny_bind (wpAny_onRaise ?_))
  show wpAny _ _ (Builtin.SmallTypes.nextOf (.ref i1) >>= _) _ _ _
  refine wpAny_bind (zg7 (h1.extBut e1.extBut N.c) (zf8 ha e1.extBut Na.z) hx fun g2 i2' e2=>wpAny_pure ?_)
  have o2:IsPair g2 TO p q:=e2.extBut _ _ N.h (e1.extBut _ _ N.b hO)
  refine wpAny_bind (wpAny_seqItems o2 rfl (wpAny_bind (wpAny_updateSeq_pair o2 fun g3 o3 e3=>?_)))
  replace o3:IsPair g3 TO x q:=o3
  refine wpAny_bind (wpAny_letGo (wpAny_pure (wpAny_bind (wpAny_bind (wpAny_onRaise ?_)))))
  show wpAny _ _ (Builtin.SmallTypes.nextOf (.ref i2) >>= _) _ _ _
  refine wpAny_bind (wpAny_nextOf_list_item (((h2.extBut e1.extBut N.d).extBut e2.extBut N.j.symm).extBut e3.extBut N.i.symm) (((hb.extBut e1.extBut Nb.z).extBut e2.extBut Nb.i).extBut e3.extBut Nb.o) hy fun g4 j4 e4=>wpAny_pure ?_)
  have o4:IsPair g4 TO x q:=e4.extBut _ _ N.i o3
  refine wpAny_bind (wpAny_seqItems o4 rfl (wpAny_bind (wpAny_updateSeq_pair o4 fun g5 o5 e5=>?_)))
  replace o5:IsPair g5 TO x y:=o5
  refine wpAny_bind (wpAny_letGo (wpAny_pure (wpAny_pure (wpAny_bind (wpAny_seqItems o5 rfl (wpAny_bind (wpAny_newTuple ?_)))))))
  have hsz:g5.objs.size=s.heap.objs.size:=by rw [e5.1,e4.1,e3.1,e2.1,e1.1]
  have z5:IsZip g5 z TI TO .ellipsis:=e5.extBut _ _ N.b.symm (e4.extBut _ _ N.d.symm (e3.extBut _ _ N.b.symm (e2.extBut _ _ N.c.symm hz1)))
  show wpAny _ _ (Builtin.SmallTypes.ownedTupleHandOut (.ref z) (.ref g5.objs.size) >>= _) _ _ _
  refine wpAny_bind ?_
  unfold Builtin.SmallTypes.ownedTupleHandOut
  have z6:IsZip (g5.push {cls:=.type "tuple",data:=.seq #[x,y]}) z TI TO .ellipsis:=Heap.get?_push_of_some _ z5
  refine wpAny_bind (wpAny_setField_rec z6 (by simp) fun g7 z7 e7=>?_)
  replace z7:IsZip g7 z TI TO (rawInt g5.objs.size):=z7
  refine wpAny_setField_rec z7 (by simp) fun g8 z8 e8=>wpAny_pure ⟨_,rfl,?_⟩
  replace z8:IsZip g8 z TI TO (rawInt g5.objs.size):=z8
  exact hQ g5 g8 hsz (fun c o c1 c2 c3 c4 e=>e5.extBut _ _ c2 (e4.extBut _ _ c4 (e3.extBut _ _ c2 (e2.extBut _ _ c3 (e1.extBut _ _ c1 e))))) o5
    (((i2'.extBut e3.extBut N.h.symm).extBut e4.extBut N.j).extBut e5.extBut N.h.symm) (j4.extBut e5.extBut N.i.symm) ⟨_,z5⟩ ⟨e8.1.trans e7.1,fun c n=>(e8.2 c n).trans (e7.2 c n)⟩ z8
theorem zoi {Q:Fin→Shared→Prop} (hh:A.handled=none) (N:ZN z TI TO i1 i2) (Na:ZA z TO i1 i2 a) (Nb:ZA z TO i1 i2 b)
    (hz:IsZip s.heap z TI TO .none) (hI:IsPair s.heap TI (.ref i1) (.ref i2)) (hO:IsPair s.heap TO p q) (h1:s.heap.IsTupleIter i1 a k) (h2:s.heap.IsListIter i2 b k) (ha:s.heap.IsTuple a xs) (hb:s.heap.IsList b ys) (hend:xs[k]?=none∨ys[k]?=none)
    (hE:∀h' e,(∀c o,c≠z→c≠TO→c≠i1→c≠i2→s.heap.get? c=some o→h'.get? c=some o)→(∃o,h'.get? e=some o∧o.cls=.type "StopIteration")→E (.ref e) {s with heap:=h'}) :
    wpAny (model prog w) A (Builtin.«zip.__next__» ⟨[.ref z],[]⟩) Q E s:=show _ by
  show wpAny _ _ (field (.ref z) 2 >>= _) _ _ s
  refine wpAny_bind (wpAny_field hz rfl (x:=.bool false) rfl ?_)
  show wpAny _ _ (field (.ref z) 3 >>= _) _ _ s
  refine wpAny_bind (wpAny_field hz rfl (x:=.ref TI) rfl (wpAny_bind (wpAny_seqItems hI rfl ?_)))
  show wpAny _ _ (Builtin.SmallTypes.ownedTupleIsFree (.ref z) >>= _) _ _ s
  refine wpAny_bind ?_
  unfold Builtin.SmallTypes.ownedTupleIsFree
  refine wpAny_bind (wpAny_field hz rfl (x:=.none) rfl (wpAny_pure ?_))
  simp only [if_true]
  refine wpAny_bind (wpAny_rule (wpAny_bind (wpAny_field hz rfl (x:=.ref TO) rfl (wpAny_bind (wpAny_setField_rec hz (by simp) fun g1 hz1 e1=>?_)))))
  replace hz1:IsZip g1 z TI TO .ellipsis:=hz1
  refine wpAny_bind ?_
  simp only [List.zipIdx_cons,List.zipIdx_nil,List.forIn_cons,List.forIn_nil]
  refine wpAny_bind (wpAny_bind (wpAny_onRaise ?_))
  show wpAny _ _ (Builtin.SmallTypes.nextOf (.ref i1) >>= _) _ _ _
  cases hx:xs[k]? with
  | none =>
    refine wpAny_bind (zm0 hh (h1.extBut e1.extBut N.c) (zf8 ha e1.extBut Na.z) hx fun g2 e e2 ⟨oe,hoe,hce⟩=>?_)
    have z2:IsZip g2 z TI TO .ellipsis:=e2 _ _ N.c.symm hz1
    have ez:e≠z:=fun x=>by
      subst x
      rw [z2] at hoe
      cases hoe
      simp at hce
    exact wpAny_setField_rec z2 (by simp) fun g3 _ e3=>hE g3 e (fun c o c1 _ c3 _ x=>e3.extBut _ _ c1 (e2 _ _ c3 (e1.extBut _ _ c1 x))) ⟨oe,e3.extBut _ _ ez hoe,hce⟩
  | some x =>
    have hy:ys[k]?=none:=by
      rcases hend with h|h
      · rw [hx] at h
        cases h
      · exact h
    refine wpAny_bind (zg7 (h1.extBut e1.extBut N.c) (zf8 ha e1.extBut Na.z) hx fun g2 i2' e2=>wpAny_pure ?_)
    have o2:IsPair g2 TO p q:=e2.extBut _ _ N.h (e1.extBut _ _ N.b hO)
    refine wpAny_bind (wpAny_seqItems o2 rfl (wpAny_bind (wpAny_updateSeq_pair o2 fun g3 o3 e3=>?_)))
    refine wpAny_bind (wpAny_letGo (wpAny_pure (wpAny_bind (wpAny_bind (wpAny_onRaise ?_)))))
    show wpAny _ _ (Builtin.SmallTypes.nextOf (.ref i2) >>= _) _ _ _
    refine wpAny_bind (wpAny_nextOf_list_end hh (((h2.extBut e1.extBut N.d).extBut e2.extBut N.j.symm).extBut e3.extBut N.i.symm) (((hb.extBut e1.extBut Nb.z).extBut e2.extBut Nb.i).extBut e3.extBut Nb.o) hy fun g4 e e4 ⟨oe,hoe,hce⟩=>?_)
    have z4:IsZip g4 z TI TO .ellipsis:=e4 _ _ N.d.symm (e3.extBut _ _ N.b.symm (e2.extBut _ _ N.c.symm hz1))
    have ez:e≠z:=fun x=>by
      subst x
      rw [z4] at hoe
      cases hoe
      simp at hce
    exact wpAny_setField_rec z4 (by simp) fun g5 _ e5=>hE g5 e (fun c o c1 c2 c3 c4 x=>e5.extBut _ _ c1 (e4 _ _ c4 (e3.extBut _ _ c2 (e2.extBut _ _ c3 (e1.extBut _ _ c1 x))))) ⟨oe,e5.extBut _ _ ez hoe,hce⟩
end
noncomputable def ItzL (K:PySem.W.Frag) (a b:Addr):It :=
  ⟨fun i H=>∃xs ys x y,SqT K H a xs∧SqL K H b ys∧xs[i]?=some x∧ys[i]?=some y,
   fun i H v H'=>∃T x y,v=.ref T∧H T=none∧H'=upd H T (.tup [x,y])∧(∀xs,SqT K H a xs→xs[i]?=some x)∧∀ys,SqL K H b ys→ys[i]?=some y,
   fun i H=>∃xs ys,SqT K H a xs∧SqL K H b ys∧(xs.length≤i∨ys.length≤i)⟩
def ZQ (z TI TO i1 i2 a b:Addr) (i:Nat) (h:Heap):Prop:=IsZip h z TI TO .none∧IsPair h TI (.ref i1) (.ref i2)∧(∃x y,IsPair h TO x y)∧h.IsTupleIter i1 a i∧h.IsListIter i2 b i
theorem zlv {P:Program} {w:World} {K:PySem.W.Frag} {es:List Expr} {kt:Nat} {tp:Pos} (z TI TO i1 i2 a b:Addr) (N:ZN z TI TO i1 i2) (Na:ZA z TO i1 i2 a) (Nb:ZA z TO i1 i2 b) :
    Turn P w K (.Tuple es kt tp) (ItzL K a b) [z,TI,TO,i1,i2] z (ZQ z TI TO i1 i2 a b) where
  mem:=List.mem_cons_self
  obj:=fun i h st c hc=>by
    obtain ⟨s1,s2,⟨x,y,s3⟩,⟨o4,s4,_,d4⟩,⟨o5,s5,_,d5⟩⟩:=st
    simp only [List.mem_cons,List.not_mem_nil,or_false] at hc
    rcases hc with rfl|rfl|rfl|rfl|rfl
    · exact ⟨_,s1,fun v e=>nomatch e⟩
    · exact ⟨_,s2,fun v e=>nomatch e⟩
    · exact ⟨_,s3,fun v e=>nomatch e⟩
    · exact ⟨_,s4,fun v e=>by rw [d4] at e;cases e⟩
    · exact ⟨_,s5,fun v e=>by rw [d5] at e;cases e⟩
  keep:=fun i h h' st kk=>by
    obtain ⟨s1,s2,⟨x,y,s3⟩,s4,s5⟩:=st
    exact ⟨kk z (by simp) _ s1,kk TI (by simp) _ s2,⟨x,y,kk TO (by simp) _ s3⟩,s4.at fun o e=>kk i1 (by simp) o e,s5.at fun o e=>kk i2 (by simp) o e⟩
  item:=show _ by
    intro X hP hw hK hc i pins s σ H E I hf st hg
    subst hP hw hK
    obtain ⟨xs,ys,x,y,hq,hq',hx,hy⟩:=hg
    obtain ⟨its,rv,pt,hz⟩:=I.tuple hq
    obtain ⟨jts,rv',pt',hz'⟩:=I.list hq'
    obtain ⟨u,hu,ru⟩:=rv.get hx
    obtain ⟨u',hu',ru'⟩:=rv'.get hy
    obtain ⟨s1,s2,⟨p,q,s3⟩,s4,s5⟩:=st
    have hT:s.TypeIs (.ref z) "zip":=⟨_,s1,rfl⟩
    unfold pyNext
    refine wpAny_bind (wpAny_attempt (wpAny_callSpecial?_slot (name:=Str.ofString "__next__") hT PySem.F.slot_zip_next (wpAny_call_entry PySem.F.slot_zip_next hT PySem.F.entry_zip_next
      (zlr N Na Nb s1 s2 s3 s4 s5 (show s.heap.IsTuple a its.toArray from pt) (show s.heap.IsList b jts.toArray from pt'.isList) (x:=u) (y:=u') (by simpa using hu) (by simpa using hu') fun h5 h8 sz k5 o5 t1 t2 zz e8 z8=>wpAny_pure ?_) (PySem.F.args_zip_next_1 _))))
    refine ⟨_,rfl,wpAny_letOwnedTupleGo_zip z8 fun h9 z9 e9=>?_⟩
    have fz:∀c o,s.heap.get? c=some o→c∉[z,TI,TO,i1,i2]→h5.get? c=some o:=fun c o e n=>by
      simp only [List.mem_cons,List.not_mem_nil,or_false,not_or] at n
      exact k5 c o n.1 n.2.2.1 n.2.2.2.1 n.2.2.2.2 e
    have I5:Inv X pins σ H {s with heap:=h5}:=turnedL (t':=s.toks) I (fun c o n e=>fz c o e n) hf
    have hfr:H h5.objs.size=none:=I5.hok.fresh (Nat.le_refl _)
    have I6:Inv X pins σ (upd H h5.objs.size (.tup [x,y])) {s with heap:=h5.push {cls:=.type "tuple",data:=.seq #[u,u']}} :=
      I5.laid (t':=s.toks) (fun b u e=>Heap.get?_push_of_some _ e) (Nat.le_refl _) ⟨(by decide:2≤sizeLine),[u,u'],.cons ru (.cons ru' .nil),⟨_,Heap.get?_push_size _ rfl,rfl,_,rfl⟩,fun o q=>by rw [Heap.get?_push_size _ rfl] at q;cases q;rfl⟩
    obtain ⟨oz,hoz⟩:=zz
    have zlt:z<h5.objs.size:=Heap.lt_size hoz
    obtain ⟨f0,f1,f2,f3,f4,f5⟩:=hf z List.mem_cons_self
    have f0':upd H h5.objs.size (.tup [x,y]) z=none:=by rw [zar (Nat.ne_of_lt zlt)];exact f0
    have I8:Inv X pins σ (upd H h5.objs.size (.tup [x,y])) {s with heap:=h8}:=I6.turned (t':=s.toks) (fun c o n e=>(e8.2 c n).trans e) f0' f1 f3 f4 f5
    have I9:Inv X pins σ (upd H h5.objs.size (.tup [x,y])) {s with heap:=h9}:=I8.turned (t':=s.toks) (fun c o n e=>(e9.2 c n).trans e) f0' f1 f3 f4 f5
    have up9:∀c o,c≠z→h5.get? c=some o→h9.get? c=some o:=fun c o n e=>(e9.2 c n).trans ((e8.2 c n).trans (Heap.get?_push_of_some _ e))
    refine ⟨.ref h5.objs.size,_,I9,rfl,⟨_,x,y,rfl,hfr,rfl,fun zs hy=>by rw [I.tuple_inj hy hq];exact hx,fun zs hy'=>by rw [I.list_inj hy' hq'];exact hy⟩,
      ⟨z9,up9 _ _ N.a (k5 _ _ N.a N.e N.f N.g s2),⟨_,_,up9 _ _ N.b o5⟩,t1.at fun o e=>up9 _ o N.c e,t2.at fun o e=>up9 _ o N.d e⟩,fun c hc=>?_⟩
    have cl:c<h5.objs.size:=by
      rw [sz]
      simp only [List.mem_cons,List.not_mem_nil,or_false] at hc
      obtain ⟨o4,s4,_⟩:=s4
      obtain ⟨o5,s5,_⟩:=s5
      rcases hc with rfl|rfl|rfl|rfl|rfl
      · exact Heap.lt_size s1
      · exact Heap.lt_size s2
      · exact Heap.lt_size s3
      · exact Heap.lt_size s4
      · exact Heap.lt_size s5
    rw [zar (Nat.ne_of_lt cl)]
    exact (hf c hc).1
  done:=by
    intro X hP hw hK hc i pins s σ H E I hf st hg
    subst hP hw hK
    obtain ⟨xs,ys,hq,hq',hend⟩:=hg
    obtain ⟨its,rv,pt,hz⟩:=I.tuple hq
    obtain ⟨jts,rv',pt',hz'⟩:=I.list hq'
    have hl:=rv.length
    have hl':=rv'.length
    obtain ⟨s1,s2,⟨p,q,s3⟩,s4,s5⟩:=st
    have hT:s.TypeIs (.ref z) "zip":=⟨_,s1,rfl⟩
    unfold pyNext
    refine wpAny_bind (wpAny_attempt (wpAny_callSpecial?_slot (name:=Str.ofString "__next__") hT PySem.F.slot_zip_next (wpAny_call_entry PySem.F.slot_zip_next hT PySem.F.entry_zip_next
      (zoi (I.ok.hd hc) N Na Nb s1 s2 s3 s4 s5 (show s.heap.IsTuple a its.toArray from pt) (show s.heap.IsList b jts.toArray from pt'.isList) ?_ fun h' e kk ⟨oe,hoe,hce⟩=>?_) (PySem.F.args_zip_next_1 _))))
    · rcases hend with h|h
      · exact .inl (by simp;omega)
      · exact .inr (by simp;omega)
    · refine wpAny_bind (wpAny_isInstance (T:="StopIteration") (b:=true) ⟨oe,hoe,hce⟩ isSubtype_stop (wpAny_pure ⟨rfl,turnedL (t':=s.toks) I (fun c o n e=>?_) hf⟩))
      simp only [List.mem_cons,List.not_mem_nil,or_false,not_or] at n
      exact kk c o n.1 n.2.2.1 n.2.2.2.1 n.2.2.2.2 e
  self:=fun _ _ _ _ _ st h=>wpAny_pyIter_zip st.1 h
noncomputable def zQ (h:Heap) (a b:Addr):Heap:=((((h.push {cls:=.type "tuple_iterator",data:=.fields #[.ref a,.int 0 0]}).push {cls:=.type "list_iterator",data:=.fields #[.ref b,.int 0 0]}).push
  {cls:=.type "tuple",data:=.seq #[.ref h.objs.size,.ref (h.objs.size+1)]}).push {cls:=.type "tuple",data:=.seq #[.none,.none]}).push
  {cls:=.type "zip",data:=.fields #[.none,.bool false,.bool false,.ref (h.objs.size+2),.ref (h.objs.size+3)]}
theorem zls (h:Heap) (a b:Addr):IsZip (zQ h a b) (h.objs.size+4) (h.objs.size+2) (h.objs.size+3) .none:=zfy (by simp [Heap.size_push])
theorem zQ_in (h:Heap) (a b:Addr):IsPair (zQ h a b) (h.objs.size+2) (.ref h.objs.size) (.ref (h.objs.size+1)):=Heap.get?_push_of_some _ (Heap.get?_push_of_some _ (zfy (by simp [Heap.size_push])))
theorem zQ_out (h:Heap) (a b:Addr):IsPair (zQ h a b) (h.objs.size+3) .none .none:=Heap.get?_push_of_some _ (zfy (by simp [Heap.size_push]))
theorem zQ_one (h:Heap) (a b:Addr):(zQ h a b).IsTupleIter h.objs.size a 0:=⟨_,Heap.get?_push_of_some _ (Heap.get?_push_of_some _ (Heap.get?_push_of_some _ (Heap.get?_push_of_some _ (zfy rfl)))),rfl,rfl⟩
theorem zQ_two (h:Heap) (a b:Addr):(zQ h a b).IsListIter (h.objs.size+1) b 0:=⟨_,Heap.get?_push_of_some _ (Heap.get?_push_of_some _ (Heap.get?_push_of_some _ (zfy (by simp [Heap.size_push])))),rfl,rfl⟩
theorem zQ_old {h:Heap} {a b c:Addr} {o:Obj} (e:h.get? c=some o):(zQ h a b).get? c=some o :=
  Heap.get?_push_of_some _ (Heap.get?_push_of_some _ (Heap.get?_push_of_some _ (Heap.get?_push_of_some _ (Heap.get?_push_of_some _ e))))
theorem zoh (a b:Addr) (xs ys:Array Value):Meets (Builtin.«zip.__new__» ⟨[.type "zip",.ref a,.ref b],[]⟩) (fun _ R s=>s.heap.IsTuple a xs∧s.heap.IsList b ys∧R (.ok (.ret (.ref (s.heap.objs.size+4)))) {s with heap:=zQ s.heap a b}) :=
  .of_wp fun prog w A R s h=>by
    obtain ⟨hp,g,d,tk,os⟩:=s
    obtain ⟨ha,hb,h⟩:=h
    have hsub:=sub_zip
    have ha':Heap.IsTuple (Shared.heap ⟨hp,g,d,tk,os⟩) a xs:=ha
    have hb':Heap.IsList (Shared.heap ⟨hp.push {cls:=.type "tuple_iterator",data:=.fields #[.ref a,.int 0 0]},g,d,tk,os⟩) b ys:=show _ by
      obtain ⟨o,e,r⟩:=hb
      exact ⟨o,Heap.get?_push_of_some _ e,r⟩
    wp_walk using wpAny_pyIter_tuple ha',wpAny_pyIter_list hb'
    refine ⟨_,rfl,?_⟩
    simp only [Heap.size_push]
    exact h
section
variable {X:Cx} {es:List Expr} {kt:Nat} {tp:Pos}
theorem zn7 {prog:Program} {w:World} {A:Around} {E:Value→Shared→Prop} {s:Shared} {a b:Addr} {xs ys:Array Value} {Q:Value→Shared→Prop} (ha:s.heap.IsTuple a xs) (hb:s.heap.IsList b ys) (h:Q (.ref (s.heap.objs.size+4)) {s with heap:=zQ s.heap a b}) :
    wpAny (model prog w) A (call (.type "zip") [.ref a,.ref b]) Q E s:=show _ by
  refine callType_new PySem.F.called_zip (by decide) (PySem.F.typeCall_zip_2 _ _) (PySem.F.newCall_zip_2 _ _) (fun obj=>PySem.F.args_object_init_3 obj _ _) PySem.F.entry_zip_new (zoh a b xs ys) ⟨ha,hb,?_⟩
  show _∧_
  exact ⟨⟨_,zls s.heap a b,rfl⟩,h⟩
def iZipQ (K:PySem.W.Frag) (ta:TA):TI:=fun σ H R=>ta σ H fun vs H1=>∃a b,vs=[.ref a,.ref b]∧(∃xs,SqT K H1 a xs)∧(∃ys,SqL K H1 b ys)∧R (ItzL K a b) H1
theorem zqx {a b:Expr} {ta:TA} {p pos:Pos} (hg:Gl X "zip") (hm:X.mg "zip"=none) (ha:PA X [a,b] ta) (hs:starEach [a,b] X.env=[(false,eval a X.env),(false,eval b X.env)]) (hs2:starEach [b] X.env=[(false,eval b X.env)]) :
    PI X (.Tuple es kt tp) (.Call (.Name "zip" p) [a,b] [] pos) (iZipQ X.K ta):=show _ by
  intro pins s σ H R I h
  refine Call_ (zf5 I hg hm boot_zip (PyProof.Rows.callWith_type1 (thn (ha pos pins s σ H _ I h) fun us s1 ⟨vs,H1,I1,r1,q1⟩=>?_) (by rw [hs,hs2]) (by rw [hs2];rfl)))
  obtain ⟨x,y,e,⟨xs,hx⟩,⟨ys,hy⟩,q⟩:=q1
  subst e
  obtain ⟨u,u',rfl,r,r'⟩:=vals2 r1
  cases r
  cases r'
  obtain ⟨its,rv,pt,_⟩:=I1.tuple hx
  obtain ⟨jts,rv',pt',_⟩:=I1.list hy
  refine zn7 (show s1.heap.IsTuple x its.toArray from pt) (show s1.heap.IsList y jts.toArray from pt'.isList) (wpAny_pyIter_zip (zls s1.heap x y) ?_)
  have lx:x<s1.heap.objs.size:=by
    obtain ⟨o,e,_⟩:=pt
    exact Heap.lt_size e
  have ly:y<s1.heap.objs.size:=by
    obtain ⟨o,e,_⟩:=pt'.isList
    exact Heap.lt_size e
  have I2:Inv X pins σ H1 {s1 with heap:=zQ s1.heap x y}:=I1.kept (t':=s1.toks) fun _ _ e=>zQ_old e
  have nd:∀(i j:Nat),i≠j→s1.heap.objs.size+i≠s1.heap.objs.size+j:=fun i j h e=>h (Nat.add_left_cancel e)
  have nx:∀{c:Addr} (i:Nat),c<s1.heap.objs.size→c≠s1.heap.objs.size+i:=fun i h=>Nat.ne_of_lt (Nat.lt_of_lt_of_le h (Nat.le_add_right _ _))
  refine ⟨s1.heap.objs.size+4,[s1.heap.objs.size+4,s1.heap.objs.size+2,s1.heap.objs.size+3,s1.heap.objs.size,s1.heap.objs.size+1],_,_,H1,rfl,I2,
    zlv _ _ _ _ _ x y ⟨nd 2 4 (by decide),nd 3 4 (by decide),nd 0 4 (by decide),nd 1 4 (by decide),nd 2 3 (by decide),nd 2 0 (by decide),nd 2 1 (by decide),nd 3 0 (by decide),nd 3 1 (by decide),nd 0 1 (by decide)⟩ ⟨nx 4 lx,nx 3 lx,nx 0 lx,nx 1 lx⟩ ⟨nx 4 ly,nx 3 ly,nx 0 ly,nx 1 ly⟩,
    ⟨zls ..,zQ_in ..,⟨_,_,zQ_out ..⟩,zQ_one ..,zQ_two ..⟩,fun c hc=>?_,q⟩
  have cl:s1.heap.objs.size≤c:=by
    simp only [List.mem_cons,List.not_mem_nil,or_false] at hc
    rcases hc with rfl|rfl|rfl|rfl|rfl
    · exact Nat.le_add_right _ _
    · exact Nat.le_add_right _ _
    · exact Nat.le_add_right _ _
    · exact Nat.le_refl _
    · exact Nat.le_add_right _ _
  exact I1.fpOk cl (I1.hok.fresh cl)
end
end EE
namespace E3
open PySem PySem.Spec PyProof.Rows L2 EE
def iZipQ3 (ta:TA3):TI3:=fun σ S R=>ta σ S fun xs S1=>∃as b bs,xs=[.tup as,.ref b]∧S1 b=some (.lst bs)∧R (zipD as bs) (fun S=>S b=some (.lst bs)) S1
theorem zqa {K:PySem.W.Frag} {Z:Zt} {a b:Addr} {xs:List V} {as bs:List D} {H1:Hp} (h1:SqT K H1 a xs) (r1:Rps K H1 as xs):Wk K Z (ItzL K a b) (zipD as bs) (fun S=>S b=some (.lst bs)) H1:=show _ by
  constructor
  · intro i d S H k l al hd
    unfold zipD at hd
    rw [List.getElem?_map] at hd
    obtain ⟨p,hp,rfl⟩:=Option.map_eq_some_iff.mp hd
    obtain ⟨ha,hb⟩:=List.getElem?_zip_eq_some.mp hp
    obtain ⟨ys,h2,r2⟩:=l.obj _ _ al
    obtain ⟨x,hx,rx⟩:=r1.at ha
    obtain ⟨y,hy,ry⟩:=r2.at hb
    have h2:SqL K H b ys:=SqL.of h2
    refine ⟨⟨xs,ys,x,y,k.sqT h1,h2,hx,hy⟩,?_⟩
    rintro v H' ⟨T,x',y',rfl,hT,rfl,fx,fy⟩
    have ex:x'=x:=by
      have:=fx _ (k.sqT h1)
      rw [hx] at this
      exact (Option.some.inj this).symm
    have ey:y'=y:=by
      have:=fy _ h2
      rw [hy] at this
      exact (Option.some.inj this).symm
    subst ex ey
    obtain ⟨_,hz⟩:=l.fresh hT
    have kn:Kp Z H (upd H T (.tup [x',y'])):=Kp.new hT hz
    exact ⟨kn,.tup (.inl (.inl za5)) (.cons (rx.mono (k.trans kn)) (.cons (ry.mono kn) .nil)),fun S' l'=>l'.lay hT,fun b hb=>zar fun e=>hb (e▸hT)⟩
  · intro S H k l al
    obtain ⟨ys,h2,r2⟩:=l.obj _ _ al
    have h2:SqL K H b ys:=SqL.of h2
    refine ⟨xs,ys,k.sqT h1,h2,?_⟩
    have e1:=r1.len
    have e2:=r2.len
    simp only [zipD,List.length_map,List.length_zip]
    omega
section
variable {X:Cx} {W3:W3T} {es:List Expr} {kt:Nat} {tp pos p:Pos} {a b:Expr} {ta:TA3} {σ:St3} {S:Hp3} {R:RI} {al:TA3}
theorem i_zipQ (hg:Gl X "zip") (hm:X.mg "zip"=none) (ha:PA3 X W3 [a,b] ta) (hs:starEach [a,b] X.env=[(false,eval a X.env),(false,eval b X.env)]:=by rfl) (hs2:starEach [b] X.env=[(false,eval b X.env)]:=by rfl) :
    PI3 X W3 (.Tuple es kt tp) (.Call (.Name "zip" p) [a,b] [] pos) (iZipQ3 ta):=fun Z=>PI.imp (zqx hg hm (ha Z) hs hs2) fun τ H R z_1=>by
  obtain ⟨σ,S,R3,hs,hr,ht,hc⟩:=z_1
  refine ⟨σ,S,_,hs,hr,ht,fun ds S1 vs H1 k1 r1 l1 q1=>?_⟩
  obtain ⟨as,b,bs,rfl,hb,q⟩:=q1
  cases r1 with
  | cons ra rr =>
    cases rr with
    | cons rb rn =>
      cases rn
      cases rb
      obtain ⟨ys,h2,_⟩:=l1.obj _ _ hb
      cases ra with
      | tup h1 h3=>exact ⟨_,_,rfl,⟨_,h1⟩,⟨ys,SqL.of h2⟩,hc (zipD as bs) _ S1 _ H1 k1 l1 q (zqa h1 h3)⟩
def zipQA (R:RI) (xs:List D) (S:Hp3):Prop:=∃as b bs,xs=[.tup as,.ref b]∧S b=some (.lst bs)∧R (zipD as bs) (fun S=>S b=some (.lst bs)) S
theorem j_iZipQ (h:al σ S fun xs S1=>zipQA R xs S1):iZipQ3 al σ S R:=h
theorem j_zipQ {as bs:List D} {b:Addr} (hb:S b=some (.lst bs)) (q:R (zipD as bs) (fun S=>S b=some (.lst bs)) S):zipQA R [.tup as,.ref b] S:=⟨as,b,bs,rfl,hb,q⟩
end
end E3
namespace EE
open PySem PySem.Spec PyProof.Rows L2 Builtin Builtin.Str
end EE
namespace E3
open PySem PySem.Spec PyProof.Rows L2 EE
end E3
set_option maxHeartbeats 4000000
namespace LW
open PySem PySem.Spec PyProof.Rows L2 EE E3
section
variable {CR:Addr}
noncomputable abbrev runFs (pa bo:Addr) (mo:Int) (be pe wa:Addr) (en:D):List (Str×D) :=
  [("params",.ref pa),("bodies",.ref bo),("most",.int mo),("begun",.ref be),("pending",.ref pe),("waiting",.ref wa),("ending",en)]
structure Ra where
  pa:Addr
  bo:Addr
  be:Addr
  pe:Addr
  wa:Addr
structure Rn where
  pa:List (Key×D)
  bo:List (Key×D)
  mo:Int
  be:List D
  pe:List D
  wa:List D
  en:D
structure RS (CR:Addr) (S0 S:Hp3) (a:Addr) (A:Ra) (r:Rn):Prop where
  self:S a=some (.ins CR (runFs A.pa A.bo r.mo A.be A.pe A.wa r.en))
  pa:S A.pa=some (.dic r.pa)
  bo:S A.bo=some (.dic r.bo)
  be:S A.be=some (.lst r.be)
  pe:S A.pe=some (.lst r.pe)
  wa:S A.wa=some (.lst r.wa)
  n1:A.be≠A.pe
  n2:A.be≠A.wa
  n3:A.pe≠A.wa
  sub:Sub S0 S
  fa:S0 a=none
  f1:S0 A.be=none
  f2:S0 A.pe=none
  f3:S0 A.wa=none
theorem neO {S:Hp3} {a b:Addr} {o u:O} (h:S a=some o) (h':S b=some u) (n:o≠u):a≠b:=fun e=>n (by rw [e,h'] at h;cases h;rfl)
theorem zaz {S:Hp3} {a b:Addr} {o u:O} (h:S b=some u) (n:b≠a):up S a o b=some u:=(za8 n).trans h
section
variable {S0 S:Hp3} {a:Addr} {A:Ra} {r:Rn}
theorem RS.putPe (h:RS CR S0 S a A r) (xs:List D):RS CR S0 (up S A.pe (.lst xs)) a A {r with pe:=xs} :=
  ⟨zaz h.self (neO h.self h.pe (fun z=>nomatch z)),zaz h.pa (neO h.pa h.pe (fun z=>nomatch z)),zaz h.bo (neO h.bo h.pe (fun z=>nomatch z)),zaz h.be h.n1,zab,zaz h.wa (Ne.symm h.n3),h.n1,h.n2,h.n3,h.sub.at h.f2,h.fa,h.f1,h.f2,h.f3⟩
theorem RS.putBe (h:RS CR S0 S a A r) (xs:List D):RS CR S0 (up S A.be (.lst xs)) a A {r with be:=xs} :=
  ⟨zaz h.self (neO h.self h.be (fun z=>nomatch z)),zaz h.pa (neO h.pa h.be (fun z=>nomatch z)),zaz h.bo (neO h.bo h.be (fun z=>nomatch z)),zab,zaz h.pe (Ne.symm h.n1),zaz h.wa (Ne.symm h.n2),h.n1,h.n2,h.n3,h.sub.at h.f1,h.fa,h.f1,h.f2,h.f3⟩
theorem RS.putWa (h:RS CR S0 S a A r) (xs:List D):RS CR S0 (up S A.wa (.lst xs)) a A {r with wa:=xs} :=
  ⟨zaz h.self (neO h.self h.wa (fun z=>nomatch z)),zaz h.pa (neO h.pa h.wa (fun z=>nomatch z)),zaz h.bo (neO h.bo h.wa (fun z=>nomatch z)),zaz h.be h.n2,zaz h.pe h.n3,zab,h.n1,h.n2,h.n3,h.sub.at h.f3,h.fa,h.f1,h.f2,h.f3⟩
theorem RS.lay (h:RS CR S0 S a A r) {p:Addr} {o:O} (hp:S p=none):RS CR S0 (up S p o) a A r :=
  ⟨zaf h.self hp,zaf h.pa hp,zaf h.bo hp,zaf h.be hp,zaf h.pe hp,zaf h.wa hp,h.n1,h.n2,h.n3,h.sub.up hp,h.fa,h.f1,h.f2,h.f3⟩
theorem put_en {pa bo be pe wa:Addr} {mo:Int} {en d:D}:putI "ending" d (runFs pa bo mo be pe wa en)=runFs pa bo mo be pe wa d:=by
  simp only [putI,runFs]
  rfl
theorem put_wa {pa bo be pe wa wa':Addr} {mo:Int} {en:D}:putI "waiting" (.ref wa') (runFs pa bo mo be pe wa en)=runFs pa bo mo be pe wa' en:=by
  simp only [putI,runFs]
  rfl
theorem RS.putEn (h:RS CR S0 S a A r) (d:D):RS CR S0 (up S a (.ins CR (putI "ending" d (runFs A.pa A.bo r.mo A.be A.pe A.wa r.en)))) a A {r with en:=d}:=show _ by
  rw [put_en]
  exact ⟨zab,zaz h.pa (neO h.pa h.self (fun z=>nomatch z)),zaz h.bo (neO h.bo h.self (fun z=>nomatch z)),zaz h.be (neO h.be h.self (fun z=>nomatch z)),zaz h.pe (neO h.pe h.self (fun z=>nomatch z)),zaz h.wa (neO h.wa h.self (fun z=>nomatch z)),h.n1,h.n2,h.n3,h.sub.at h.fa,h.fa,h.f1,h.f2,h.f3⟩
theorem RS.newWa (h:RS CR S0 S a A r) {p:Addr} {xs:List D} (hp:S p=some (.lst xs)) (h1:A.be≠p) (h2:A.pe≠p) (h3:S0 p=none):RS CR S0 (up S a (.ins CR (putI "waiting" (.ref p) (runFs A.pa A.bo r.mo A.be A.pe A.wa r.en)))) a {A with wa:=p} {r with wa:=xs}:=show _ by
  rw [put_wa]
  exact ⟨zab,zaz h.pa (neO h.pa h.self (fun z=>nomatch z)),zaz h.bo (neO h.bo h.self (fun z=>nomatch z)),zaz h.be (neO h.be h.self (fun z=>nomatch z)),zaz h.pe (neO h.pe h.self (fun z=>nomatch z)),zaz hp (neO hp h.self (fun z=>nomatch z)),h.n1,h1,h2,h.sub.at h.fa,h.fa,h.f1,h.f2,h3⟩
variable {Q:K3}
theorem j_Rpa (h:RS CR S0 S a A r) (q:Q (.ref A.pa) S):fldR CR "params" (.ref a) S Q:=j_fldR h.self rfl q
theorem j_Rbo (h:RS CR S0 S a A r) (q:Q (.ref A.bo) S):fldR CR "bodies" (.ref a) S Q:=j_fldR h.self rfl q
theorem j_Rmo (h:RS CR S0 S a A r) (q:Q (.int r.mo) S):fldR CR "most" (.ref a) S Q:=j_fldR h.self rfl q
theorem j_Rbe (h:RS CR S0 S a A r) (q:Q (.ref A.be) S):fldR CR "begun" (.ref a) S Q:=j_fldR h.self rfl q
theorem j_Rpe (h:RS CR S0 S a A r) (q:Q (.ref A.pe) S):fldR CR "pending" (.ref a) S Q:=j_fldR h.self rfl q
theorem j_Rwa (h:RS CR S0 S a A r) (q:Q (.ref A.wa) S):fldR CR "waiting" (.ref a) S Q:=j_fldR h.self rfl q
theorem j_Ren (h:RS CR S0 S a A r) (q:Q (r.en) S):fldR CR "ending" (.ref a) S Q:=j_fldR h.self rfl q
theorem j_RputEn {n:Hp3→Prop} {d:D} (h:RS CR S0 S a A r) (q:n (up S a (.ins CR (putI "ending" d (runFs A.pa A.bo r.mo A.be A.pe A.wa r.en))))):putR CR "ending" (.ref a) d S n:=j_putR h.self (show 7<1000 by decide) q
theorem j_RputWa {n:Hp3→Prop} {d:D} (h:RS CR S0 S a A r) (q:n (up S a (.ins CR (putI "waiting" d (runFs A.pa A.bo r.mo A.be A.pe A.wa r.en))))):putR CR "waiting" (.ref a) d S n:=j_putR h.self (show 7<1000 by decide) q
theorem j_Rm {m:Str} {k:Addr→Prop} (h:RS CR S0 S a A r) (hm:∀pa bo mo be pe wa en,(runFs pa bo mo be pe wa en).lookup m=none) (q:k a):methR CR m k (.ref a) S:=⟨a,_,rfl,h.self,hm _ _ _ _ _ _ _,q⟩
end
end
local macro_rules|`(tactic| nofun)=>do let w:=fun (s:String)=>(s.splitOn " ").toArray.map fun x=>Lean.mkIdent (.mkStr (.mkSimple "E3") x);let at_ ← `(tactic| (first|exact rfl|exact atI_0|exact atI_1|exact atI_2|exact atI_3));let v0 ←(w "j_tovc j_ovc j_kv1 j_fv1 j_cvn").mapM fun n=>`(Lean.Parser.Tactic.tacticSeq| apply $n);let v1 ←(w "j_tovv j_ovv j_fv2").mapM fun n=>`(Lean.Parser.Tactic.tacticSeq| apply $n);let v2 ←(w "j_ov j_cv j_v").mapM fun n=>`(Lean.Parser.Tactic.tacticSeq| apply $n);let a1 ←(w "j_qset j_qdrop j_qifs j_txc j_txo j_oc j_xc j_ke1 j_fe1 j_ccn j_cc j_cen j_seq j_set j_c j_o j_i3 j_cons j_nil j_ifs j_test j_eb j_ei j_ret j_drop j_next j_asg j_name j_eqI j_neI j_eqS j_neS j_isN j_notN j_neg j_and j_or j_not j_andv j_notv j_ifx j_truth j_tup j_lst j_cb j_call j_bm j_bm0 j_lenT j_lenR j_sl j_nopart j_part j_slT j_comp j_compS j_iRevL j_gcons j_gnil j_intB j_for j_iList j_iTup j_eT j_iRev j_iR1 j_iT j_iRv j_notin j_notinT j_dnew j_dget j_dput j_setL j_fld j_sfld j_meth j_meth0 j_make j_bmT j_iZipQ").mapM fun n=>`(Lean.Parser.Tactic.tacticSeq| apply $n);let a2 ←(w "j_truL j_tyL j_lenL j_toListL j_toTupL j_slL j_revL j_iL j_notinD j_zipQ").mapM fun n=>`(Lean.Parser.Tactic.tacticSeq| refine $n (by assumption) ?_);let a3 ←(w "j_truL j_tyL j_lenL j_toTupL j_slL j_revL j_iL").mapM fun n=>`(Lean.Parser.Tactic.tacticSeq| refine $n zab ?_);let al:=a1++a2++a3;`(tactic| repeat (first|((with_reducible apply j_qapp);(exact rfl);(first|assumption|exact zab))|((with_reducible apply j_tixS);(exact rfl);$at_)|((with_reducible apply j_ixTv);(exact rfl);$at_)|((with_reducible first $[| $v0]*);(exact rfl))|((with_reducible first $[| $v1]*);(exact rfl);(exact rfl))|((with_reducible first $[| $v2]*);(exact rfl))|(with_reducible first $[| $al]*)|(with_reducible first|refine iteD rfl ?_|refine iteNS rfl ?_|refine iteT ?_|refine iteF ?_|refine iteD (by assumption) ?_|refine iteDN (by assumption) ?_|refine iteN (by assumption) ?_|refine iteNS (by assumption) ?_|refine j_Rpa (by assumption) ?_|refine j_Rbo (by assumption) ?_|refine j_Rmo (by assumption) ?_|refine j_Rbe (by assumption) ?_|refine j_Rpe (by assumption) ?_|refine j_Rwa (by assumption) ?_|refine j_Ren (by assumption) ?_)|((with_reducible refine j_mod ?_ ?_);(first|decide|omega))|((with_reducible refine j_div ?_ ?_);(first|exact ⟨by decide,by decide⟩|omega))|((with_reducible refine j_pow ?_ ?_);exact ⟨by decide,by decide,by decide⟩)|((with_reducible refine j_mul ?_ ?_);(first|exact .inl ⟨by decide,by decide⟩|exact .inr ⟨by decide,by decide⟩))|((with_reducible refine j_sz ?_ ?_);exact zbi (Nat.le_of_ble_eq_true rfl))|((with_reducible apply j_ixT);$at_)|((with_reducible apply j_ixL (by assumption));$at_)|((with_reducible apply j_ixL zab);$at_)|((with_reducible apply j_ixR);exact rfl)|((with_reducible apply j_aug);exact rfl)|((with_reducible apply j_isB);(exact rfl);(exact rfl))|((with_reducible refine j_gtup ?_ ?_);exact rfl)|((with_reducible refine j_catE ?_ ?_);exact zbi (Nat.le_of_ble_eq_true rfl))|((with_reducible refine j_inT ?_ ?_ ?_);(exact rfl);(exact rfl))|((with_reducible apply j_esL (by assumption));(first|exact rfl|exact ixN_0|exact ixN_1))|((with_reducible apply j_esL zab);(first|exact rfl|exact ixN_0|exact ixN_1))|((with_reducible refine iteBt ?_ ?_);exact rfl)|((with_reducible refine iteBf ?_ ?_);exact rfl)|((with_reducible refine j_rng ?_ ?_);(first|exact ⟨by decide,by decide⟩|exact ⟨by omega,by omega⟩))|((with_reducible refine j_lenS ?_ ?_);assumption)|(with_reducible first|refine iteBt (by decide +kernel) ?_|refine iteBf (by decide +kernel) ?_|refine iteD (by omega) ?_|refine iteDN (by omega) ?_|refine iteN (by omega) ?_|refine iteNS (by omega) ?_)))
noncomputable def top (i:Nat):Stmt:=PySem.Challenge.pw_errandend_k11_runs_as_told.main.body.getD i (.Pass ⟨0,0,0,0⟩)
noncomputable abbrev zck:Stmt:=top 5
theorem zcp:FnScope ["body","found","pending","saying","part"] ["body"] (defScope zck):=⟨rfl,rfl,rfl,by decide +kernel,rfl,by decide +kernel,by decide +kernel⟩
noncomputable abbrev zet:Stmt:=top 6
theorem zol:FnScope ["saying"] ["saying"] (defScope zet):=⟨rfl,rfl,rfl,by decide +kernel,rfl,by decide +kernel,by decide +kernel⟩
noncomputable abbrev zbb:Stmt:=top 7
theorem zep:FnScope ["name","known"] ["name","known"] (defScope zbb):=⟨rfl,rfl,rfl,by decide +kernel,rfl,by decide +kernel,by decide +kernel⟩
noncomputable abbrev zaw:Stmt:=top 8
theorem zcg:FnScope ["name","row","needed","given"] ["name","row","needed"] (defScope zaw):=⟨rfl,rfl,rfl,by decide +kernel,rfl,by decide +kernel,by decide +kernel⟩
noncomputable abbrev zg0:Stmt:=top 11
theorem zfq:FnScope ["tree","pairs","pending","part"] ["tree"] (defScope zg0):=⟨rfl,rfl,rfl,by decide +kernel,rfl,by decide +kernel,by decide +kernel⟩
noncomputable abbrev zky:Stmt:=top 13
theorem sc_run:FnScope ["program","name","trees","most"] ["program","name","trees","most"] (defScope zky):=⟨rfl,rfl,rfl,by decide +kernel,rfl,by decide +kernel,by decide +kernel⟩
noncomputable abbrev zb0:Stmt:=top 14
theorem zdo:FnScope ["program","name","trees","most","params","ended"] ["program","name","trees","most"] (defScope zb0):=⟨rfl,rfl,rfl,by decide +kernel,rfl,by decide +kernel,by decide +kernel⟩
noncomputable abbrev za7:Stmt:=top 15
theorem za1:FnScope ["program","bodies","number","errand","order"] ["program"] (defScope za7):=⟨rfl,rfl,rfl,by decide +kernel,rfl,by decide +kernel,by decide +kernel⟩
noncomputable abbrev zbl:Stmt:=top 16
theorem zgm:FnScope ["order"] ["order"] (defScope zbl):=⟨rfl,rfl,rfl,by decide +kernel,rfl,by decide +kernel,by decide +kernel⟩
noncomputable abbrev zb8:Stmt:=top 17
theorem zb7:FnScope ["order","number","done","later","saying","inner"] ["order","number"] (defScope zb8):=⟨rfl,rfl,rfl,by decide +kernel,rfl,by decide +kernel,by decide +kernel⟩
noncomputable abbrev zbq:Stmt:=top 19
theorem zfr:FnScope ["saying"] ["saying"] (defScope zbq):=⟨rfl,rfl,rfl,by decide +kernel,rfl,by decide +kernel,by decide +kernel⟩
noncomputable abbrev zg1:Stmt:=top 20
theorem zqf:FnScope ["kind","tree"] ["kind","tree"] (defScope zg1):=⟨rfl,rfl,rfl,by decide +kernel,rfl,by decide +kernel,by decide +kernel⟩
noncomputable abbrev zc5:Stmt:=top 22
theorem zkw:FnScope ["script","k"] ["script","k"] (defScope zc5):=⟨rfl,rfl,rfl,by decide +kernel,rfl,by decide +kernel,by decide +kernel⟩
noncomputable abbrev zdf:Stmt:=top 23
theorem zb3:FnScope ["cell","many","base","left","k","place","found","turn"] ["cell","many"] (defScope zdf):=⟨rfl,rfl,rfl,by decide +kernel,rfl,by decide +kernel,by decide +kernel⟩
noncomputable abbrev zg3:Stmt:=top 24
theorem zqg:FnScope ["script","spot"] ["script","spot"] (defScope zg3):=⟨rfl,rfl,rfl,by decide +kernel,rfl,by decide +kernel,by decide +kernel⟩
noncomputable abbrev zde:Stmt:=top 25
theorem zcd:FnScope ["script","spot","names","counts","params","deep","cell","kind","parts_v","to","row"] ["script","spot","names","counts","params","deep"] (defScope zde):=⟨rfl,rfl,rfl,by decide +kernel,rfl,by decide +kernel,by decide +kernel⟩
noncomputable abbrev zd4:Stmt:=top 26
theorem zci:FnScope ["script","spot","most","deep","head","many","names","params","counts","program","k","mine"] ["script","spot","most","deep"] (defScope zd4):=⟨rfl,rfl,rfl,by decide +kernel,rfl,by decide +kernel,by decide +kernel⟩
noncomputable abbrev zg2:Stmt:=top 27
theorem zhr:FnScope ["cell","params","saying","k"] ["cell","params"] (defScope zg2):=⟨rfl,rfl,rfl,by decide +kernel,rfl,by decide +kernel,by decide +kernel⟩
noncomputable abbrev zkz:Stmt:=top 28
theorem sc_arg:FnScope ["cell","params"] ["cell","params"] (defScope zkz):=⟨rfl,rfl,rfl,by decide +kernel,rfl,by decide +kernel,by decide +kernel⟩
noncomputable abbrev zfu:Stmt:=top 29
theorem zmb:FnScope ["script","spot","names","counts","params","to"] ["script","spot","names","counts","params"] (defScope zfu):=⟨rfl,rfl,rfl,by decide +kernel,rfl,by decide +kernel,by decide +kernel⟩
noncomputable abbrev zg5:Stmt:=top 30
theorem zcq:FnScope ["script","spot","names","counts","params","shape","inner","other","row","last"] ["script","spot","names","counts","params"] (defScope zg5):=⟨rfl,rfl,rfl,by decide +kernel,rfl,by decide +kernel,by decide +kernel⟩
noncomputable abbrev zcr:Stmt:=top 31
theorem zbs:FnScope ["script","spot","most","head","many","names","params","counts","program","k","mine"] ["script","spot","most"] (defScope zcr):=⟨rfl,rfl,rfl,by decide +kernel,rfl,by decide +kernel,by decide +kernel⟩
noncomputable abbrev zc3:Stmt:=top 32
theorem zbp:FnScope ["cell","room","row","left","k","digit","last","tree","one"] ["cell","room"] (defScope zc3):=⟨rfl,rfl,rfl,by decide +kernel,rfl,by decide +kernel,by decide +kernel⟩
noncomputable abbrev zew:Stmt:=top 33
theorem zom:FnScope ["tree"] ["tree"] (defScope zew):=⟨rfl,rfl,rfl,by decide +kernel,rfl,by decide +kernel,by decide +kernel⟩
noncomputable abbrev zes:Stmt:=top 34
theorem zfh:FnScope ["script","spot","many","found","k","cell"] ["script","spot","many"] (defScope zes):=⟨rfl,rfl,rfl,by decide +kernel,rfl,by decide +kernel,by decide +kernel⟩
noncomputable abbrev zc4:Stmt:=top 35
theorem zdu:FnScope ["found","room","left","one"] ["found","room"] (defScope zc4):=⟨rfl,rfl,rfl,by decide +kernel,rfl,by decide +kernel,by decide +kernel⟩
noncomputable abbrev zer:Stmt:=top 36
theorem zok:FnScope ["found"] ["found"] (defScope zer):=⟨rfl,rfl,rfl,by decide +kernel,rfl,by decide +kernel,by decide +kernel⟩
noncomputable abbrev zcx:Stmt:=top 37
theorem zc2:FnScope ["saying","trees","table","state","kind","row","first","chosen","second"] ["saying","trees","table","state"] (defScope zcx):=⟨rfl,rfl,rfl,by decide +kernel,rfl,by decide +kernel,by decide +kernel⟩
noncomputable abbrev zcs:Stmt:=top 38
theorem zdv:FnScope ["name","row","table","state","trees","param","tree"] ["name","row","table","state"] (defScope zcs):=⟨rfl,rfl,rfl,by decide +kernel,rfl,by decide +kernel,by decide +kernel⟩
noncomputable abbrev zht:Stmt:=top 39
theorem zch:FnScope ["script","spot","program","most","table","errand","trees","state","tree","due","kept","handed","found"] ["script"] (defScope zht):=⟨rfl,rfl,rfl,by decide +kernel,rfl,by decide +kernel,by decide +kernel⟩
noncomputable abbrev zdw:Stmt:=inClass (top 18) 0
theorem zmc:FnScope ["self","params","bodies","most"] ["self","params","bodies","most"] (defScope zdw):=⟨rfl,rfl,rfl,by decide +kernel,rfl,by decide +kernel,by decide +kernel⟩
noncomputable abbrev zc8:Stmt:=inClass (top 18) 1
theorem zkx:FnScope ["self","parent","number","name","trees"] ["self","parent","number","name","trees"] (defScope zc8):=⟨rfl,rfl,rfl,by decide +kernel,rfl,by decide +kernel,by decide +kernel⟩
noncomputable abbrev zc7:Stmt:=inClass (top 18) 2
theorem zgz:FnScope ["self","task"] ["self"] (defScope zc7):=⟨rfl,rfl,rfl,by decide +kernel,rfl,by decide +kernel,by decide +kernel⟩
noncomputable abbrev zb9:Stmt:=inClass (top 18) 3
theorem ze6:FnScope ["self","saying","place","part"] ["self","saying","place"] (defScope zb9):=⟨rfl,rfl,rfl,by decide +kernel,rfl,by decide +kernel,by decide +kernel⟩
noncomputable abbrev zcl:Stmt:=inClass (top 18) 4
theorem zfs:FnScope ["self","saying","place","kind"] ["self","saying","place"] (defScope zcl):=⟨rfl,rfl,rfl,by decide +kernel,rfl,by decide +kernel,by decide +kernel⟩
noncomputable abbrev zc6:Stmt:=inClass (top 18) 5
theorem zeq:FnScope ["self","many","first","trees"] ["self","many"] (defScope zc6):=⟨rfl,rfl,rfl,by decide +kernel,rfl,by decide +kernel,by decide +kernel⟩
noncomputable abbrev zcm:Stmt:=inClass (top 18) 6
theorem zft:FnScope ["self","fork","place","chosen"] ["self","fork","place"] (defScope zcm):=⟨rfl,rfl,rfl,by decide +kernel,rfl,by decide +kernel,by decide +kernel⟩
noncomputable abbrev zbu:Stmt:=inClass (top 18) 7
theorem zd1:FnScope ["self","pair"] ["self"] (defScope zbu):=⟨rfl,rfl,rfl,by decide +kernel,rfl,by decide +kernel,by decide +kernel⟩
noncomputable abbrev zbt:Stmt:=inClass (top 18) 8
theorem zd0:FnScope ["self","name","place","entry"] ["self","name","place"] (defScope zbt):=⟨rfl,rfl,rfl,by decide +kernel,rfl,by decide +kernel,by decide +kernel⟩
inductive Ex2 {α0 α1:Type} (p:α0→α1→Prop):Prop where
  | mk (a0:α0) (a1:α1) (h:p a0 a1)
inductive Ex3 {α0 α1 α2:Type} (p:α0→α1→α2→Prop):Prop where
  | mk (a0:α0) (a1:α1) (a2:α2) (h:p a0 a1 a2)
inductive Ex4 {α0 α1 α2 α3:Type} (p:α0→α1→α2→α3→Prop):Prop where
  | mk (a0:α0) (a1:α1) (a2:α2) (a3:α3) (h:p a0 a1 a2 a3)
inductive Ex5 {α0 α1 α2 α3 α4:Type} (p:α0→α1→α2→α3→α4→Prop):Prop where
  | mk (a0:α0) (a1:α1) (a2:α2) (a3:α3) (a4:α4) (h:p a0 a1 a2 a3 a4)
inductive Ex7 {α0 α1 α2 α3 α4 α5 α6:Type} (p:α0→α1→α2→α3→α4→α5→α6→Prop):Prop where
  | mk (a0:α0) (a1:α1) (a2:α2) (a3:α3) (a4:α4) (a5:α5) (a6:α6) (h:p a0 a1 a2 a3 a4 a5 a6)
theorem lnS {us:List Value} {n:Nat} (h:us.length=n+1):∃a t,us=a::t∧t.length=n:=by
  cases us with
  | nil=>cases h
  | cons a t=>exact ⟨a,t,rfl,Nat.succ.inj h⟩
theorem ln0 {us:List Value} (h:us.length=0):us=[]:=List.eq_nil_of_length_eq_zero h
theorem ln1 {us:List Value} (h:us.length=1):∃a0,us=[a0]:=by
  obtain ⟨a0,t,rfl,g⟩:=lnS h
  obtain rfl:=ln0 g
  exact ⟨a0,rfl⟩
theorem ln2 {us:List Value} (h:us.length=2):∃a0 a1,us=[a0,a1]:=by
  obtain ⟨a0,t,rfl,g⟩:=lnS h
  obtain ⟨a1,rfl⟩:=ln1 g
  exact ⟨a0,a1,rfl⟩
theorem ln3 {us:List Value} (h:us.length=3):∃a0 a1 a2,us=[a0,a1,a2]:=by
  obtain ⟨a0,t,rfl,g⟩:=lnS h
  obtain ⟨a1,a2,rfl⟩:=ln2 g
  exact ⟨a0,a1,a2,rfl⟩
theorem ln4 {us:List Value} (h:us.length=4):∃a0 a1 a2 a3,us=[a0,a1,a2,a3]:=by
  obtain ⟨a0,t,rfl,g⟩:=lnS h
  obtain ⟨a1,a2,a3,rfl⟩:=ln3 g
  exact ⟨a0,a1,a2,a3,rfl⟩
theorem ln5 {us:List Value} (h:us.length=5):∃a0 a1 a2 a3 a4,us=[a0,a1,a2,a3,a4]:=by
  obtain ⟨a0,t,rfl,g⟩:=lnS h
  obtain ⟨a1,a2,a3,a4,rfl⟩:=ln4 g
  exact ⟨a0,a1,a2,a3,a4,rfl⟩
theorem ln6 {us:List Value} (h:us.length=6):∃a0 a1 a2 a3 a4 a5,us=[a0,a1,a2,a3,a4,a5]:=by
  obtain ⟨a0,t,rfl,g⟩:=lnS h
  obtain ⟨a1,a2,a3,a4,a5,rfl⟩:=ln5 g
  exact ⟨a0,a1,a2,a3,a4,a5,rfl⟩
structure Gs (K:PySem.W.Frag) (mg:Str→Option Value):Prop where
  len:mg "len"=none
  range:mg "range"=none
  isinstance:mg "isinstance"=none
  int:mg "int"=none
  bool:mg "bool"=none
  str:mg "str"=none
  tuple:mg "tuple"=none
  dict:mg "dict"=none
  list:mg "list"=none
  reversed:mg "reversed"=none
  zip:mg "zip"=none
  MOST_PAIRS:∃t,mg "MOST_PAIRS"=some (.int 60 t)
structure RunT (K:PySem.W.Frag) (mg:Str→Option Value) (CR:Addr):Prop where
  cl:Cls K CR
  mks:PySem.W.makesIn K CR=true
  kc:PySem.W.keepIn K (.ref CR)=true
  at_:mg "Run"=some (.ref CR)
  n_params:NoAttr K CR "params"
  n_bodies:NoAttr K CR "bodies"
  n_most:NoAttr K CR "most"
  n_begun:NoAttr K CR "begun"
  n_pending:NoAttr K CR "pending"
  n_waiting:NoAttr K CR "waiting"
  n_ending:NoAttr K CR "ending"
section
variable {P:Program} {w:World} {K:PySem.W.Frag} {mg:Str→Option Value} {base:Heap} {adr:Rf→Addr} {CR:Addr}
noncomputable def cellAt (ns:List Int) (k:Int):Int:=ns.getD k.toNat 0
inductive zog  (ds:List D) (q:D→Prop):Prop where
  | mk (ns:List Int) (k:Int) (_:ds=[.rol (ns.map D.int),.int k]) (_:0≤k) (_:q (.int (cellAt ns k)))
def zdt :Sp3:=vS zog
theorem zk9 {k:Nat} (h:Has K mg "_law_cell_at" zc5 ["script","k"]) (G:Gs K mg):Cal3 P w K mg base (k+1) "_law_cell_at" ["script","k"] zdt:=show _ by
  refine h.val zkw (by rintro ds q ⟨ns,k,e,_⟩;rw [e];rfl) fun f cdv A outer s H E ds q hr ⟨ns,k,e,h0,hq⟩=>?_
  subst e
  refine ⟨_,(zac (s_if (zap zk4 zce (e_v 1) (zay zaj zby rfl G.len PySem.boot_len (zaa (e_v 0) zae)) (nomark _)) (zah (zav (e_ix zat zba (e_v 0) (e_v 1) (fun _ _=>rfl)))) zbc)
 (zah (zav zad))),?_⟩
  nofun
  have hl:(ns.map D.int).length=ns.length:=List.length_map _
  refine iteD2 (fun c=>?_) (fun c=>?_)
  · rw [hl] at c
    have hk:k.toNat<ns.length:=by omega
    nofun
    refine j_ixR (zp7 h0 (v:=.int (cellAt ns k)) ?_) hq
    rw [List.getElem?_map,List.getElem?_eq_getElem hk]
    simp [cellAt,List.getD_eq_getElem?_getD,List.getElem?_eq_getElem hk]
  · rw [hl] at c
    have hk:ns.length≤k.toNat:=by omega
    nofun
    have e:cellAt ns k=0:=by simp [cellAt,List.getD_eq_getElem?_getD,List.getElem?_eq_none hk]
    rw [e] at hq
    exact hq
inductive P_next  (ds:List D) (S:Hp3) (q:D→Addr→O→Prop):Prop where
  | mk (ns:List Int) (sp:Addr) (i:Int) (rs:List D) (_:ds=[.rol (ns.map D.int),.ref sp]) (_:S sp=some (.lst (.int i::rs))) (_:0≤i) (_:q (.int (cellAt ns i)) sp (.lst (.int (i+1)::rs)))
def zd3 :Sp3:=wrV P_next
theorem zrc {k:Nat} (h:Has K mg "_law_next" zg3 ["script","spot"]) (C_cell_at:Cal3 P w K mg base k "_law_cell_at" ["script","k"] zdt):Cal3 P w K mg base (k+1) "_law_next" ["script","spot"] zd3:=show _ by
  refine h.wrV zqg (by rintro ds S q ⟨ns,sp,i,rs,e,_⟩;rw [e];rfl) fun f cdv A outer s H E ds S q hr ⟨ns,sp,i,rs,e,hS,hi,hq⟩=>?_
  subst e
  refine ⟨_,(zac (zmf (e_op zda zbz (e_ix zat zba (e_v 1) zad (fun _ _=>rfl)) zad) (znj (e_v 1) zad))
 (zah (zav (zai C_cell_at hr rfl (zaa (e_v 0) (zaa (e_op ze9 zbz (e_ix zat zba (e_v 1) zad (fun _ _=>rfl)) zad) zae)))))),?_⟩
  nofun
  refine ⟨ns,i+1-1,rfl,by omega,sp,_,Sub.refl _,?_⟩
  have e:i+1-1=i:=by omega
  rw [e]
  exact hq
inductive zrw  (ds:List D) (q:List D→Prop):Prop where
  | mk (c n:Int) (_:ds=[.int c,.int n]) (_:0≤c) (_:1≤n) (_:n≤12) (_:∀xs:List Str,Row n.toNat xs→q (xs.map D.str))
def zhm :Sp3:=lSt zrw
theorem zpa {k:Nat} (h:Has K mg "_law_names" zdf ["cell","many"]) (G:Gs K mg):Cal3 P w K mg base (k+1) "_law_names" ["cell","many"] zhm:=show _ by
  refine h.lst zb3 (by rintro ds q ⟨c,n,e,_⟩;rw [e];rfl) fun f cdv A outer s H E ds q hr ⟨c,n,e,hc,hn1,hn2,hq⟩=>?_
  subst e
  refine ⟨_,(zac (zal (i:=2) zb3.nd rfl (Or.inr rfl) zax)
 (zac (zal (i:=3) zb3.nd rfl (Or.inl rfl) (e_op za3 zag (e_v 0) zad))
 (zac (zeu PassesOwn.never rfl (zbw rfl G.range (zaa (e_op zau zag (e_v 0) zad) zae)) (zcu (i:=4) zb3.nd rfl (Or.inl rfl)) (zac (zal (i:=2) zb3.nd rfl (Or.inr rfl) (e_op zc9 zge (e_v 2) (e_ix zpw zp2 zax (e_op zau zag (e_v 3) zad) (fun _ _=>rfl))))
 (zah (zal (i:=3) zb3.nd rfl (Or.inl rfl) (e_op za3 zag (e_v 3) zad)))))
 (zac (zal (i:=5) zb3.nd rfl (Or.inr rfl) (e_op zau zag (e_op za3 zag (e_v 0) zad) (e_op zda zbz (zay zi6 zrn rfl G.len PySem.boot_len (zaa (e_v 2) zae)) zad)))
 (zac (zg4 (i:=6) (osc:=defScope zdf) (N:=["cell","many","base","left","k","place","found","turn"]) (M:=["base","place"]) (js:=[2,5]) ⟨rfl,by decide +kernel,by decide +kernel,rfl,by decide +kernel,by decide +kernel,by decide +kernel⟩ (by decide +kernel) rfl (zbw rfl G.range (zaa (e_v 1) zae)) (fun _ _ _ _ _=>(e_op zc9 zge (e_op zc9 zge (zbh zgy zhc (e_v 1) zb1 (zbx (e_v 2))) (e_ix zpw zp2 zax (e_v 0) (fun _ _=>rfl))) (zbh zgy zhc (e_v 1) (zbx (e_v 2)) zb1))) zb3.nd rfl rfl)
 (zac (zef (PW3.pt (w_and (zap zk4 zce (e_v 1) zad (nomark _)) (zfk (zap zbe zbr (e_op zau zag (e_op za3 zag (e_v 0) zad) zad) zad (nomark _))))) (zah (zg4 (i:=6) (osc:=defScope zdf) (N:=["cell","many","base","left","k","place","found","turn"]) (M:=["base"]) (js:=[2]) ⟨rfl,by decide +kernel,by decide +kernel,rfl,by decide +kernel,by decide +kernel,by decide +kernel⟩ (by decide +kernel) rfl (zbw rfl G.range (zaa (e_v 1) zae)) (fun _ _ _ _ _=>(e_op zc9 zge (zbh zgy zhc (e_v 1) zb1 (zbx zad)) (zbh zgy zhc zax zb1 (zbx (e_op zda zbz (e_v 0) zad))))) zb3.nd rfl rfl)) zbc)
 (zac (zef (PW3.pt (w_and (zap zk4 zce (e_v 1) zad (nomark _)) (zfk (zap zbe zbr (e_op zau zag (e_op za3 zag (e_v 0) zad) zad) zad (nomark _))))) (zah (zg4 (i:=6) (osc:=defScope zdf) (N:=["cell","many","base","left","k","place","found","turn"]) (M:=["base"]) (js:=[2]) ⟨rfl,by decide +kernel,by decide +kernel,rfl,by decide +kernel,by decide +kernel,by decide +kernel⟩ (by decide +kernel) rfl (zbw rfl G.range (zaa (e_v 1) zae)) (fun _ _ _ _ _=>(e_op zc9 zge (zbh zgy zhc zax (zbx (e_op ze9 zbz zad (e_v 0))) zb1) (zbh zgy zhc (e_v 1) zb1 (zbx zad)))) zb3.nd rfl rfl)) zbc)
 (zac (zal (i:=7) zb3.nd rfl (Or.inl rfl) (e_op zau zag (e_op za3 zag (e_v 0) zad) (e_v 1)))
 (zah (zav (e_op zmw zjp (zbh zco zdr (e_v 6) (zbx (e_v 7)) zb1) (zbh zco zdr (e_v 6) zb1 (zbx (e_v 7)))))))))))))),?_⟩
  nofun
  refine ⟨fun i σ S=>Ex3 fun (lf:Int) (cs:List Nat) (x4:Option D)=>σ=[some (.int c),some (.int n),some (.str (textOf cs)),some (.int lf),x4,none,none,none]∧cs.length=i∧Letters cs∧S=emp,
    ⟨_,[],none,rfl,rfl,fun c hc=>by simp at hc,rfl⟩,fun _ _ _ _=>trivial,?turn,?done⟩
  case turn =>
    rintro i d σ S hd ⟨lf,cs,x4,rfl,hl,hL,rfl⟩
    obtain ⟨hi,rfl⟩:=zca hd
    have m26:=Int.emod_lt_of_pos lf (show (0:Int)<26 by decide)
    have n26:=Int.emod_nonneg lf (show (26:Int)≠0 by decide)
    nofun
    refine j_ixS (cp:=97+(lf%26).toNat) ?_ ?_ ?_
    · rw [zmg,za0];decide
    · rw [zmg,zbk]
      exact zkl n26 m26
    refine j_addS (y:=textOf [97+(lf%26).toNat]) ?_ ?_
    · rw [za0,za0]
      refine zbi ?_
      simp only [List.length_cons,List.length_nil]
      omega
    rw [zc0]
    nofun
    refine ⟨_,cs++[97+(lf%26).toNat],_,rfl,by simp [hl],fun d hd=>?_,rfl⟩
    rcases List.mem_append.mp hd with hd|hd
    · exact hL d hd
    · simp at hd
      omega
  rintro σ S ⟨lf,cs,x4,rfl,hl,hL,rfl⟩
  rw [za2] at hl
  have hl7:cs.length≤7:=by omega
  have lz:∀ds:List Nat,ds.length≤100→(textOf ds).length≤sizeLine:=fun ds h=>by rw [za0];exact zbi (by omega)
  have hz:=lz cs (by omega)
  nofun
  rw [za0]
  have p0:=Int.emod_nonneg (c/11) (show ((cs.length:Int)+1)≠0 by omega)
  obtain ⟨pl,epl⟩:∃pl,(c/11)%((cs.length:Int)+1)=pl:=⟨_,rfl⟩
  rw [epl] at p0 ⊢
  refine zel (fun k=>.str (textOf (nm1 cs pl.toNat k))) (by rw [za2];exact Nat.le_trans (show n.toNat≤12 by omega) (by decide)) trivial ?e1 ?_
  case e1 =>
    intro i d hd P hP
    obtain ⟨hi,rfl⟩:=zca hd
    nofun
    refine j_slS hz ?_
    rw [zbk,zh6 p0]
    nofun
    refine j_ixS (cp:=97+i) ?_ ?_ ?_
    · rw [zik,za0];decide
    · rw [zik,zbk,zkl (by omega) (by omega)]
      simp
    refine j_addS (y:=textOf [97+i]) ?_ ?_
    · rw [za0,za0,List.length_take]
      exact zbi (by simp only [List.length_cons,List.length_nil];omega)
    rw [zc0]
    nofun
    refine j_slS hz ?_
    rw [zbk,zi2 p0]
    refine j_addS ?_ ?_
    · rw [za0,za0,List.length_append,List.length_take,List.length_drop]
      exact zbi (by simp only [List.length_cons,List.length_nil];omega)
    rw [zc0]
    exact hP
  rw [za2]
  intro D1 hD1
  have e26:n.toNat≤12:=by omega
  have m1:∀f:Nat→List Nat,((List.range n.toNat).map fun k=>D.str (textOf (f k)))=((List.range n.toNat).map fun k=>textOf (f k)).map D.str:=fun f=>by rw [List.map_map];rfl
  rw [m1]
  have R1:Row n.toNat ((List.range n.toNat).map fun k=>textOf (nm1 cs pl.toNat k)):=row1 hL hl7 (by omega)
  nofun
  refine j_ifm (fun σ T=>Ex2 fun (r:Addr) (xs:List Str)=>σ=[some (.int c),some (.int n),some (.str (textOf cs)),some (.int lf),x4,some (.int pl),some (.ref r),none]∧T r=some (.lst (xs.map D.str))∧Row n.toNat xs) ?_ ?_
  · intro n' hn'
    by_cases h5:n<5
    case neg =>
      nofun
      exact hn' _ _ ⟨D1,_,rfl,zab,R1⟩
    by_cases e1:c/17%3=1
    case neg =>
      nofun
      exact hn' _ _ ⟨D1,_,rfl,zab,R1⟩
    nofun
    refine zel (fun k=>.str (textOf (nm2 cs k))) (by rw [za2];exact Nat.le_trans e26 (by decide)) trivial ?e2 ?_
    case e2 =>
      intro i d hd P hP
      obtain ⟨hi,rfl⟩:=zca hd
      nofun
      refine j_slS hz ?_
      rw [zbk,zh6 (by decide)]
      nofun
      refine j_slS (by rw [zj6];exact lz _ (by decide)) ?_
      rw [zj6,zbk,zh6 (by omega)]
      have ei:((0:Int)+(i:Int)+1).toNat=i+1:=by omega
      rw [ei]
      refine j_addS ?_ ?_
      · rw [za0,za0,List.length_take,List.length_take]
        exact zbi (by omega)
      rw [zc0]
      exact hP
    rw [za2]
    intro D2 hD2
    rw [m1]
    nofun
    exact hn' _ _ ⟨D2,_,rfl,zab,row2 hL (by omega)⟩
  clear R1
  rintro σ T ⟨r,xs,rfl,hr1,R⟩
  nofun
  refine j_ifm (fun σ T=>Ex2 fun (r:Addr) (xs:List Str)=>σ=[some (.int c),some (.int n),some (.str (textOf cs)),some (.int lf),x4,some (.int pl),some (.ref r),none]∧T r=some (.lst (xs.map D.str))∧Row n.toNat xs) ?_ ?_
  · intro n' hn'
    by_cases h5:n<5
    case neg =>
      nofun
      exact hn' _ _ ⟨r,xs,rfl,hr1,R⟩
    by_cases e2:c/17%3=2
    case neg =>
      nofun
      exact hn' _ _ ⟨r,xs,rfl,hr1,R⟩
    nofun
    refine zel (fun k=>.str (textOf (nm3 cs k))) (by rw [za2];exact Nat.le_trans e26 (by decide)) trivial ?e3 ?_
    case e3 =>
      intro i d hd P hP
      obtain ⟨hi,rfl⟩:=zca hd
      nofun
      refine j_slS (by rw [zj6];exact lz _ (by decide)) ?_
      rw [zj6,zbk,zi2 (by omega)]
      have ei:((3:Int)-(0+(i:Int))).toNat=3-i:=by omega
      rw [ei]
      nofun
      refine j_slS hz ?_
      rw [zbk,zh6 (by decide)]
      refine j_addS ?_ ?_
      · rw [za0,za0,List.length_take,List.length_drop]
        exact zbi (by simp only [List.length_cons,List.length_nil];omega)
      rw [zc0]
      exact hP
    rw [za2]
    intro D2 hD2
    rw [m1]
    nofun
    exact hn' _ _ ⟨D2,_,rfl,zab,row3 hL (by omega)⟩
  rintro σ T' ⟨r,xs,rfl,hr1,R⟩
  have t0:=Int.emod_nonneg (c/13) (show n≠0 by omega)
  nofun
  rw [zdc t0]
  intro p1 hp1
  have hD4:=zaf (o:=.lst ((xs.map D.str).drop (c/13%n).toNat)) hr1 hp1
  nofun
  rw [ze1 t0]
  intro p2 hp2
  have hxl:=R.len
  refine j_catL (zaf zab hp2) zab ?_ ?_
  · rw [List.length_drop,List.length_take,List.length_map]
    exact zbi (by omega)
  intro r hr'
  refine ⟨r,_,rfl,zab,?_⟩
  have:=hq _ (R.turn (t:=(c/13%n).toNat))
  rw [List.map_append,List.map_drop,List.map_take] at this
  exact this
inductive zpo (n:Nat) (ds:List D) (S:Hp3) (q:D→Addr→O→Prop):Prop where
  | mk (ns:List Int) (sp nm ct:Addr) (i b deep:Int) (names ps:List Str) (counts:List Nat) (_:ds=[.rol (ns.map D.int),.ref sp,.ref nm,.ref ct,.tup (ps.map D.str),.int deep]) (_:S sp=some (.lst [.int i,.int b])) (_:S nm=some (.lst (names.map D.str))) (_:S ct=some (.lst (cD counts))) (_:sp≠nm) (_:sp≠ct) (_:0≤i) (_:0≤b) (_:1≤deep) (_:deep≤n) (_:1≤ps.length) (_:ps.length≤4) (_:1≤names.length) (_:names.Nodup) (_:names.length=counts.length) (_:(∀c∈counts,1≤c∧c≤4)) (_:∀(s:Sy) (i2 b2:Int),s.wf (arOf names counts) ps→(s.deep:Int)≤deep→i≤i2→0≤b2→(s.sends:Int)+b2≤b→q s.d sp (.lst [.int i2,.int b2]))
def zfm (n:Nat):Sp3:=wrV (zpo n)
theorem ziq (h:Has K mg "_law_saying" zde ["script","spot","names","counts","params","deep"]) (G:Gs K mg) (C0:Cal3 P w K mg base 2 "_law_next" ["script","spot"] zd3) :
    ∀n:Nat,Cal3 P w K mg base (n+3) "_law_saying" ["script","spot","names","counts","params","deep"] (zfm n)
  | 0=>h.none3 (by rintro ds S Q E ⟨ns,sp,nm,ct,i,b,deep,names,ps,counts,_,_,_,_,_,_,_,_,h1,h2,_⟩;omega) _
  | n+1=>by
    have C_saying:=ziq h G C0 n
    have C_next:=C0.mono (show 2≤n+3 by omega)
    refine h.wrV zcd (by rintro ds S q ⟨ns,sp,nm,ct,i,b,deep,names,ps,counts,e,_⟩;rw [e];rfl) fun f cdv A outer s H E ds S q hr hA=>?_
    obtain ⟨ns,sp,nm,ct,i,b,deep,names,ps,counts,rfl,hsp,hnm,hct,n1,n2,hi,hb,d1,dn,p1,p4,m1,nd,hlc,hc4,hq⟩:=hA
    refine ⟨_,(zac (zal (i:=6) zcd.nd rfl (Or.inl rfl) (zai C_next hr rfl (zaa (e_v 0) (zaa (e_v 1) zae))))
 (zac (zal (i:=7) zcd.nd rfl (Or.inl rfl) (e_op zau zag (e_v 6) zad))
 (zac (s_if (PW3.pt (w_or (zap zk4 zce (e_v 5) zad (nomark _)) (zic (zap zbe zbr (e_v 7) zad (nomark _))))) (zah (zav (zbj (zaa zax (zaa (e_ix zam zan (e_v 4) (e_op zau zag (e_op za3 zag (e_v 6) zad) (zay zaj zby rfl G.len PySem.boot_len (zaa (e_v 4) zae))) (fun _ _=>rfl)) zae))))) zbc)
 (zac (s_if (zap zbe zbr (e_v 7) zad (nomark _)) (zah (zav (zbj (zaa zax zae)))) zbc)
 (zac (s_if (PW3.pt (w_or (zap zbe zbr (e_v 7) zad (nomark _)) (zic (zap zbe zbr (e_v 7) zad (nomark _))))) (zah (zav (zbj (zaa (e_ix zat zba (zdm (zaa zax (zaa zax zae))) (e_op ze9 zbz (e_v 7) zad) (fun _ _=>rfl)) (zaa (zai C_saying hr rfl (zaa (e_v 0) (zaa (e_v 1) (zaa (e_v 2) (zaa (e_v 3) (zaa (e_v 4) (zaa (e_op ze9 zbz (e_v 5) zad) zae))))))) zae))))) zbc)
 (zac (zal (i:=8) zcd.nd rfl (Or.inl rfl) zad)
 (zac (s_if (PW3.pt (w_or (zap zbe zbr (e_v 7) zad (nomark _)) (zic (zap zbe zbr (e_v 7) zad (nomark _))))) (zah (zal (i:=8) zcd.nd rfl (Or.inl rfl) zad)) zbc)
 (zac (zal (i:=9) zcd.nd rfl (Or.inl rfl) (e_op zau zag (e_op za3 zag (e_v 6) zad) (zay zaj zby rfl G.len PySem.boot_len (zaa (e_v 2) zae))))
 (zac (s_if (zap zmv zce (e_v 7) zad (nomark _)) (zac (s_if (zap zbe zbr (e_ix zat zba (e_v 1) zad (fun _ _=>rfl)) zad (nomark _)) (zah (zav (zbj (zaa zax zae)))) zbc)
 (zac (zmf (e_op ze9 zbz (e_ix zat zba (e_v 1) zad (fun _ _=>rfl)) zad) (znj (e_v 1) zad))
 (zah (zal (i:=8) zcd.nd rfl (Or.inl rfl) (e_ix zat zba (e_v 3) (e_v 9) (fun _ _=>rfl)))))) zbc)
 (zac (zal (i:=10) zcd.nd rfl (Or.inl rfl) (zb6 zbn zdk rfl G.tuple boot_tuple (zaa (zkg (osc:=defScope zde) (N:=["script","spot","names","counts","params","deep","cell","kind","parts_v","to","row"]) (M:=["script","spot","names","counts","params","deep"]) (js:=[0,1,2,3,4,5]) ⟨rfl,by decide +kernel,by decide +kernel,rfl,by decide +kernel,by decide +kernel,by decide +kernel⟩ (by decide +kernel) rfl (zbw rfl G.range (zaa (e_v 8) zae)) (fun _ _ _ _ _=>(zai C_saying hr rfl (zaa (e_v 1) (zaa (e_v 2) (zaa (e_v 3) (zaa (e_v 4) (zaa (e_v 5) (zaa (e_op ze9 zbz (e_v 6) zad) zae))))))))) zae)))
 (zac (s_if (zap zbe zbr (e_v 7) zad (nomark _)) (zah (zav (e_op zf1 zh5 (zbj (zaa zax zae)) (e_v 10)))) zbc)
 (zac (s_if (zap zk4 zce (e_v 7) zad (nomark _)) (zah (zav (e_op zf1 zh5 (zbj (zaa zax zae)) (e_v 10)))) zbc)
 (zah (zav (zbj (zaa zax (zaa (e_ix zat zba (e_v 2) (e_v 9) (fun _ _=>rfl)) (zaa (e_v 10) zae)))))))))))))))))),?_⟩
    nofun
    refine ⟨ns,sp,i,[.int b],rfl,hsp,hi,?_⟩
    generalize hcell:cellAt ns i=cell
    have k0:=Int.emod_nonneg cell (show (9:Int)≠0 by decide)
    have k9:=Int.emod_lt_of_pos cell (show (0:Int)<9 by decide)
    have sp1:up S sp (.lst [.int (i+1),.int b]) sp=some (.lst [.int (i+1),.int b]):=zab
    have nm1:∀o,up S sp o nm=some (.lst (names.map D.str)):=fun o=>by rw [za8 (Ne.symm n1)];exact hnm
    have ct1:∀o,up S sp o ct=some (.lst (cD counts)):=fun o=>by rw [za8 (Ne.symm n2)];exact hct
    have nm2:=nm1 (.lst [.int (i+1),.int b])
    have fin:∀(s:Sy),s.wf (arOf names counts) ps→(s.deep:Int)≤deep→s.sends=0→∃a o,Sub (up S a o) (up S sp (.lst [.int (i+1),.int b]))∧q s.d a o:=fun s h1 h2 h3 =>
      ⟨sp,_,Sub.refl _,hq s (i+1) b h1 h2 (by omega) hb (by omega)⟩
    obtain ⟨jp,vp,ejp,hvp,hap⟩:=zgi (f:=D.str) (cell/9) (show 0<ps.length by omega)
    have hpl:(0:Int)<((ps.map D.str).length:Int):=show _ by rw [List.length_map];omega
    have hnl:(0:Int)<((names.map D.str).length:Int):=by rw [List.length_map];omega
    have vpm:vp∈ps:=List.mem_of_getElem? hvp
    by_cases hd:deep<2
    · nofun
      refine j_ixT hap ?_
      nofun
      exact fin (.name vp) vpm (by simp only [Sy.deep];omega) (by simp [Sy.sends,Sy.pre])
    by_cases h0:cell%9=0
    · nofun
      refine j_ixT hap ?_
      nofun
      exact fin (.name vp) vpm (by simp only [Sy.deep];omega) (by simp [Sy.sends,Sy.pre])
    by_cases h1:cell%9=1
    · nofun
      exact fin .bud trivial (by simp only [Sy.deep];omega) (by simp [Sy.sends,Sy.pre])
    by_cases h2:cell%9=2
    · nofun
      intro p hp
      nofun
      refine j_ixL zab (d:=.str "left") (by rw [h2];rfl) ?_
      nofun
      refine ⟨ns,sp,nm,ct,i+1,b,deep-1,names,ps,counts,rfl,zaf zab hp,zaf (nm1 _) hp,zaf (ct1 _) hp,n1,n2,by omega,hb,by omega,by omega,p1,p4,m1,nd,hlc,hc4,fun s i2 b2 hw hdp hi2 hb2 hs2=>?_⟩
      nofun
      refine ⟨sp,_,((Px.refl sp S).at.new hp).at.sub zab,hq (.left s) i2 b2 hw (by simp only [Sy.deep];omega) (by omega) hb2 ?_⟩
      rw [Sy.sends_parts]
      simp only [Sy.parts,Sy.sendss_cons]
      simp [Sy.sendss,Sy.pres]
      omega
    by_cases h3:cell%9=3
    · nofun
      intro p hp
      nofun
      refine j_ixL zab (d:=.str "right") (by rw [h3];rfl) ?_
      nofun
      refine ⟨ns,sp,nm,ct,i+1,b,deep-1,names,ps,counts,rfl,zaf zab hp,zaf (nm1 _) hp,zaf (ct1 _) hp,n1,n2,by omega,hb,by omega,by omega,p1,p4,m1,nd,hlc,hc4,fun s i2 b2 hw hdp hi2 hb2 hs2=>?_⟩
      nofun
      refine ⟨sp,_,((Px.refl sp S).at.new hp).at.sub zab,hq (.right s) i2 b2 hw (by simp only [Sy.deep];omega) (by omega) hb2 ?_⟩
      rw [Sy.sends_parts]
      simp only [Sy.parts,Sy.sendss_cons]
      simp [Sy.sendss,Sy.pres]
      omega
    obtain ⟨jt,vt,ejt,hvt,hat⟩:=zgi (f:=D.str) (cell/9) (show 0<names.length by omega)
    have hct':jt<counts.length:=by rw [←hlc];exact (List.getElem?_eq_some_iff.mp hvt).1
    obtain ⟨cn,hcn⟩:∃cn,counts[jt]?=some cn:=⟨_,List.getElem?_eq_getElem hct'⟩
    have hcn4:=hc4 cn (List.mem_of_getElem? hcn)
    have har:arOf names counts vt=some cn:=zia nd hvt hcn
    have elt:∀(d:D) (x6:Option D) (i0 b0 i1 b1:Int),0≤i1→0≤b1→∀P:K3,
        (∀(s:Sy) (i2 b2:Int),(s.wf (arOf names counts) ps∧(s.deep:Int)≤deep-1)→i1≤i2→0≤b2→(s.sends:Int)+b2≤b1→P s.d (up S sp (.lst [.int i2,.int b2]))) →
        zfm n [.rol (ns.map D.int),.ref sp,.ref nm,.ref ct,.tup (ps.map D.str),.int (deep-1)] (up S sp (.lst [.int i1,.int b1])) P (fun _ _ _=>False):=fun d x6 i0 b0 i1 b1 hi1 hb1 P hP =>
      ⟨ns,sp,nm,ct,i1,b1,deep-1,names,ps,counts,rfl,zab,nm1 _,ct1 _,n1,n2,hi1,hb1,by omega,by omega,p1,p4,m1,nd,hlc,hc4,fun s i2 b2 hw hdp hi2 hb2 hs2=>by
        show P s.d (up (up S sp (.lst [.int i1,.int b1])) sp (.lst [.int i2,.int b2]))
        rw [zfd]
        exact hP s i2 b2 ⟨hw,hdp⟩ hi2 hb2 hs2⟩
    have hk:cell%9=4∨(cell%9=5∨cell%9=6)∨(cell%9=7∨cell%9=8):=by omega
    rcases hk with h4|h56|h78
    · nofun
      refine zd7 (m:=2) (fun s=>s.wf (arOf names counts) ps∧(s.deep:Int)≤deep-1) (by omega) (fun _=>trivial) (fun d i1 b1 hi1 hb1 P hP=>?_) hb fun ss i2 b2 hl hg hi2 hb2 hs2=>?_
      · nofun
        exact elt d none 0 0 i1 b1 (by omega) hb1 P hP
      · intro p hp
        match ss,hl with
        | [a,c],_ =>
          obtain ⟨wa,da⟩:=hg a (by simp)
          obtain ⟨wc,dc⟩:=hg c (by simp)
          nofun
          refine j_catT (by simp) (zbi (by simp)) ?_
          refine ⟨sp,_,((Px.refl sp S).at.new hp).sub (zaf zab hp),hq (.pair a c) i2 b2 ⟨wa,wc⟩ (by simp only [Sy.deep];omega) (by omega) hb2 ?_⟩
          rw [Sy.sends_parts]
          simpa [Sy.parts] using hs2
    · have n4:¬cell%9=4:=by omega
      rcases h56 with h5|h6
      all_goals
        nofun
        refine zd7 (m:=3) (fun s=>s.wf (arOf names counts) ps∧(s.deep:Int)≤deep-1) (by omega) (fun _=>trivial) (fun d i1 b1 hi1 hb1 P hP=>?_) hb fun ss i2 b2 hl hg hi2 hb2 hs2=>?_
        · nofun
          exact elt d none 0 0 i1 b1 (by omega) hb1 P hP
        · intro p hp
          match ss,hl with
          | [a,c,e],_ =>
            obtain ⟨wa,da⟩:=hg a (by simp)
            obtain ⟨wc,dc⟩:=hg c (by simp)
            obtain ⟨we,de⟩:=hg e (by simp)
            nofun
            refine j_catT (by simp) (zbi (by simp)) ?_
            refine ⟨sp,_,((Px.refl sp S).at.new hp).sub (zaf zab hp),hq (.fork a c e) i2 b2 ⟨wa,wc,we⟩ (by simp only [Sy.deep];omega) (by omega) hb2 ?_⟩
            rw [Sy.sends_parts]
            simpa [Sy.parts] using hs2
    · by_cases hb0:b=0
      · rcases h78 with h7|h8
        all_goals
          nofun
          exact fin .bud trivial (by simp only [Sy.deep];omega) (by simp [Sy.sends,Sy.pre])
      · rcases h78 with h7|h8
        all_goals
          nofun
          have es:([D.int (i+1),D.int b].set (Int.toNat 1) (D.int (b-1)))=[D.int (i+1),D.int (b-1)]:=rfl
          rw [es,zfd]
          refine j_ixL (ct1 _) (d:=.int cn) (by rw [ejt];refine zcz ?_;rw [List.getElem?_map,hcn];rfl) ?_
          nofun
          rw [Int.toNat_natCast]
          refine zd7 (m:=cn) (fun s=>s.wf (arOf names counts) ps∧(s.deep:Int)≤deep-1) (by omega) (fun _=>trivial) (fun d i1 b1 hi1 hb1 P hP=>?_) (show 0≤b-1 by omega) fun ss i2 b2 hl hg hi2 hb2 hs2=>?_
          · nofun
            exact elt d none 0 0 i1 b1 (by omega) hb1 P hP
          · intro p hp
            have nm3:=zaf (o:=.lst (ss.map Sy.d)) (nm1 (.lst [.int i2,.int b2])) hp
            nofun
            refine j_ixL nm3 hat ?_
            nofun
            have hdd:Sy.deeps ss≤(deep-1).toNat:=Sy.deeps_le fun a ha=>by
              have:=(hg a ha).2
              omega
            have:=hq (.send vt ss) i2 b2 ⟨by rw [hl];exact har,by omega,by omega,Sy.wfs_iff.mpr fun a ha=>(hg a ha).1⟩ (by simp only [Sy.deep];omega) (by omega) hb2 (by
              rw [Sy.sends_parts]
              simp only [Sy.parts]
              omega)
            rw [Sy.d,Sy.ds_map] at this
            exact ⟨sp,_,((Px.refl sp S).at.new hp).sub (zaf zab hp),this⟩
inductive zry (n:Nat) (ds:List D) (S:Hp3) (q:List D→Addr→O→Prop):Prop where
  | mk (ns:List Int) (sp:Addr) (i b most deep:Int) (_:ds=[.rol (ns.map D.int),.ref sp,.int most,.int deep]) (_:S sp=some (.lst [.int i,.int b])) (_:0≤i) (_:0≤b) (_:1≤most) (_:most≤12) (_:1≤deep) (_:deep≤n) (_:∀(prog:List Er) (i2 b2:Int),Good prog most.toNat deep.toNat b.toNat→0≤i2→q (prog.map Er.d) sp (.lst [.int i2,.int b2]))
def zj5 (n:Nat):Sp3:=wrL (zry n)
theorem zpb {n:Nat} (h:Has K mg "_law_drawn" zd4 ["script","spot","most","deep"]) (G:Gs K mg) (C0:Cal3 P w K mg base 2 "_law_next" ["script","spot"] zd3) (C1:Cal3 P w K mg base 1 "_law_names" ["cell","many"] zhm)
    (C_saying:Cal3 P w K mg base (n+3) "_law_saying" ["script","spot","names","counts","params","deep"] (zfm n)):Cal3 P w K mg base (n+4) "_law_drawn" ["script","spot","most","deep"] (zj5 n):=show _ by
  have C_next:=C0.mono (show 2≤n+3 by omega)
  have C_names:=C1.mono (show 1≤n+3 by omega)
  refine h.wrL zci (by rintro ds S q ⟨ns,sp,i,b,most,deep,e,_⟩;rw [e];rfl) fun f cdv A outer s H E ds S q hr hA=>?_
  obtain ⟨ns,sp,i,b,most,deep,rfl,hsp,hi,hb,m1,m12,d1,dn,hq⟩:=hA
  refine ⟨_,(zac (zal (i:=4) zci.nd rfl (Or.inr rfl) (zai C_next hr rfl (zaa (e_v 0) (zaa (e_v 1) zae))))
 (zac (zal (i:=5) zci.nd rfl (Or.inl rfl) (e_op zda zbz zad (e_op zau zag (e_v 4) (e_v 2))))
 (zac (zal (i:=6) zci.nd rfl (Or.inl rfl) (zai C_names hr rfl (zaa (e_op zau zag (e_op za3 zag (e_v 4) (e_v 2)) (e_op zin zag zad zad)) (zaa (e_v 5) zae))))
 (zac (zal (i:=7) zci.nd rfl (Or.inl rfl) (zai C_names hr rfl (zaa (e_op zau zag (zai C_next hr rfl (zaa (e_v 0) (zaa (e_v 1) zae))) (e_op zin zag zad zad)) (zaa zad zae))))
 (zac (zg4 (i:=8) (osc:=defScope zd4) (N:=["script","spot","most","deep","head","many","names","params","counts","program","k","mine"]) (M:=["head"]) (js:=[4]) ⟨rfl,by decide +kernel,by decide +kernel,rfl,by decide +kernel,by decide +kernel,by decide +kernel⟩ (by decide +kernel) rfl (zbw rfl G.range (zaa (e_v 5) zae)) (fun _ _ _ _ _=>(e_op zda zbz zad (e_op zau zag (e_op za3 zag (e_v 1) (e_op zpv zag zad (e_op zda zbz (e_v 0) zad))) zad))) zci.nd rfl rfl)
 (zac (zal (i:=9) zci.nd rfl (Or.inl rfl) (zdm zae))
 (zac (zeu PassesOwn.never rfl (zbw rfl G.range (zaa (e_v 5) zae)) (zcu (i:=10) zci.nd rfl (Or.inl rfl)) (zac (zal (i:=11) zci.nd rfl (Or.inl rfl) (zb6 zbn zdk rfl G.tuple boot_tuple (zaa (zbh zco zdr (e_op zmw zjp (zbh zco zdr (e_v 7) (zbx (e_op zau zag (e_v 10) zad)) zb1) (zbh zco zdr (e_v 7) zb1 (zbx (e_op zau zag (e_v 10) zad)))) zb1 (zbx (e_ix zat zba (e_v 8) (e_v 10) (fun _ _=>rfl)))) zae)))
 (zah (za4 (e_bm PySem.F.plainAttrs_list PySem.F.slot_list_append PySem.F.type_list_append zao zaq (e_v 9) (zaa (zbj (zaa (e_ix zat zba (e_v 6) (e_v 10) (fun _ _=>rfl)) (zaa (e_v 11) (zaa (zai C_saying hr rfl (zaa (e_v 0) (zaa (e_v 1) (zaa (e_v 6) (zaa (e_v 8) (zaa (e_v 11) (zaa (e_v 3) zae))))))) zae)))) zae))))))
 (zah (zav (e_v 9)))))))))),?_⟩
  nofun
  refine ⟨ns,sp,i,[.int b],rfl,hsp,hi,?_⟩
  generalize cellAt ns i=head
  have hm0:=Int.emod_nonneg head (show most≠0 by omega)
  have hm1:=Int.emod_lt_of_pos head (show 0<most by omega)
  have t14:(0:Int)<10^(Int.toNat 14):=by decide
  nofun
  refine ⟨_,_,rfl,Int.emod_nonneg _ (by decide),by omega,by omega,fun names Rn=>?_⟩
  intro nm hnm
  have n1:sp≠nm:=ne3 zab hnm
  nofun
  refine ⟨ns,sp,i+1,[.int b],rfl,zaf zab hnm,by omega,?_⟩
  generalize cellAt ns (i+1)=c2
  nofun
  refine ⟨_,4,rfl,Int.emod_nonneg _ (by decide),by omega,by omega,fun pp Rp=>?_⟩
  intro pm hpm
  nofun
  generalize hmany:1+head%most=many
  have h1m:1≤many:=by omega
  have h12:many≤most:=by omega
  obtain ⟨cnt,hcnt⟩:∃cnt:Nat→Nat,∀k:Nat,1+head/(7*(0+(k:Int)+1))%4=(cnt k:Int)∧1≤cnt k∧cnt k≤4:=⟨fun k=>(1+head/(7*(0+(k:Int)+1))%4).toNat,fun k=>by
    dsimp only
    generalize head/(7*(0+(k:Int)+1))=x
    omega⟩
  refine zel (fun k=>.int (cnt k)) (by rw [za2];omega) trivial ?_ ?_
  · intro j d hd P hP
    obtain ⟨hj,rfl⟩:=zca hd
    nofun
    rw [(hcnt j).1]
    exact hP
  rw [za2]
  obtain ⟨counts,hcounts⟩:∃counts,counts=(List.range many.toNat).map cnt:=⟨_,rfl⟩
  have ecd:((List.range many.toNat).map fun k=>D.int (cnt k:Int))=cD counts:=by rw [hcounts,cD,List.map_map];rfl
  rw [ecd]
  have hc4:∀c∈counts,1≤c∧c≤4:=fun c hc=>by
    rw [hcounts] at hc
    obtain ⟨k,_,rfl⟩:=List.mem_map.mp hc
    exact (hcnt k).2
  have hlc:counts.length=many.toNat:=by rw [hcounts];simp
  intro ct hct
  nofun
  intro pr hpr
  have hnl:=Rn.len
  rw [hmany] at Rn hnl
  have g_sp:up (up (up (up (up (up S sp (.lst [.int (i+1),.int b])) nm (.lst (names.map D.str))) sp (.lst [.int (i+1+1),.int b])) pm (.lst (pp.map D.str))) ct (.lst (cD counts))) pr (.lst []) sp=some (.lst [.int (i+1+1),.int b]) :=
    zaf (zaf (zaf zab hpm) hct) hpr
  have g_nm:up (up (up (up (up (up S sp (.lst [.int (i+1),.int b])) nm (.lst (names.map D.str))) sp (.lst [.int (i+1+1),.int b])) pm (.lst (pp.map D.str))) ct (.lst (cD counts))) pr (.lst []) nm=some (.lst (names.map D.str)) :=
    zaf (zaf (zaf (by rw [za8 (Ne.symm n1)];exact zab) hpm) hct) hpr
  have g_pm:up (up (up (up (up (up S sp (.lst [.int (i+1),.int b])) nm (.lst (names.map D.str))) sp (.lst [.int (i+1+1),.int b])) pm (.lst (pp.map D.str))) ct (.lst (cD counts))) pr (.lst []) pm=some (.lst (pp.map D.str)) :=
    zaf (zaf zab hct) hpr
  have g_ct:up (up (up (up (up (up S sp (.lst [.int (i+1),.int b])) nm (.lst (names.map D.str))) sp (.lst [.int (i+1+1),.int b])) pm (.lst (pp.map D.str))) ct (.lst (cD counts))) pr (.lst []) ct=some (.lst (cD counts)) :=
    zaf zab hpr
  have g_pr:up (up (up (up (up (up S sp (.lst [.int (i+1),.int b])) nm (.lst (names.map D.str))) sp (.lst [.int (i+1+1),.int b])) pm (.lst (pp.map D.str))) ct (.lst (cD counts))) pr (.lst []) pr=some (.lst []):=zab
  have g_px:Px sp S (up (up (up (up (up (up S sp (.lst [.int (i+1),.int b])) nm (.lst (names.map D.str))) sp (.lst [.int (i+1+1),.int b])) pm (.lst (pp.map D.str))) ct (.lst (cD counts))) pr (.lst [])) :=
    ((((Px.refl sp S).at.new hnm).at.new hpm).new hct).new hpr
  have q_nm:sp≠nm:=n1
  have q_pm:sp≠pm:=ne3 zab hpm
  have q_ct:sp≠ct:=ne3 (zaf zab hpm) hct
  have q_pr:sp≠pr:=ne3 (zaf (zaf zab hpm) hct) hpr
  have r_nm:nm≠pr:=ne3 (zaf (zaf (by rw [za8 (Ne.symm n1)];exact zab) hpm) hct) hpr
  have r_pm:pm≠pr:=ne3 (zaf zab hct) hpr
  have r_ct:ct≠pr:=ne3 zab hpr
  have f_pr:S pr=none:=((((Px.refl sp S).at.new hnm).at.new hpm).new hct).free hpr (Ne.symm q_pr)
  generalize up (up (up (up (up (up S sp (.lst [.int (i+1),.int b])) nm (.lst (names.map D.str))) sp (.lst [.int (i+1+1),.int b])) pm (.lst (pp.map D.str))) ct (.lst (cD counts))) pr (.lst [])=S6 at *
  nofun
  refine ⟨fun j σ S'=>Ex5 fun (ers:List Er) (i1 b1:Int) (x10 x11:Option D)=>σ=[some (.rol (ns.map D.int)),some (.ref sp),some (.int most),some (.int deep),some (.int head),some (.int many),some (.ref nm),some (.ref pm),some (.ref ct),some (.ref pr),x10,x11] ∧
    S' sp=some (.lst [.int i1,.int b1])∧S' nm=some (.lst (names.map D.str))∧S' pm=some (.lst (pp.map D.str))∧S' ct=some (.lst (cD counts))∧S' pr=some (.lst (ers.map Er.d))∧Px sp S S' ∧
    ers.length=j∧0≤i1∧0≤b1∧ers.map Er.name=names.take j∧(ers.map fun e=>e.ps.length)=counts.take j∧(∀e∈ers,ErOk (arOf names counts) deep.toNat e)∧(((ers.map fun e=>e.body.sends).sum:Nat):Int)+b1≤b,
    ⟨[],i+1+1,b,none,none,rfl,g_sp,g_nm,g_pm,g_ct,g_pr,g_px,rfl,by omega,hb,rfl,rfl,by simp,by simp⟩,fun _ _ _ _=>trivial,?turn,?done⟩
  case turn =>
    clear g_sp g_nm g_pm g_ct g_pr g_px
    rintro j d σ S' hd ⟨ers,i1,b1,x10,x11,rfl,g_sp,g_nm,g_pm,g_ct,g_pr,g_px,hl,hi1,hb1,en,ec,hk,hs⟩
    obtain ⟨hj,rfl⟩:=zca hd
    have c0:=Int.emod_nonneg (0+(j:Int)) (show (4:Int)≠0 by decide)
    have ap:∀{α:Type} {f:α→D} {xs:List α} {v:α},xs[j]?=some v→atI (xs.map f) (0+(j:Int))=some (f v):=fun {α f xs v} hv=>by
      have e:(0:Int)+(j:Int)=((j:Nat):Int):=by omega
      rw [e]
      refine zcz ?_
      rw [List.getElem?_map,hv]
      rfl
    obtain ⟨cn,hcn⟩:∃cn,counts[j]?=some cn:=⟨_,List.getElem?_eq_getElem (by omega)⟩
    obtain ⟨nj,hnj⟩:∃nj,names[j]?=some nj:=⟨_,List.getElem?_eq_getElem (by omega)⟩
    have hcn4:=hc4 cn (List.mem_of_getElem? hcn)
    nofun
    rw [zdc c0]
    intro p1 hp1
    have g1:=zaf (o:=.lst ((pp.map D.str).drop ((0+(j:Int))%4).toNat)) g_pm hp1
    nofun
    rw [ze1 c0]
    intro p2 hp2
    have hpl:=Rp.len
    refine j_catL (zaf zab hp2) zab ?_ ?_
    · rw [List.length_drop,List.length_take,List.length_map]
      exact zbi (by omega)
    intro p3 hp3
    nofun
    refine j_ixL (zaf (zaf (zaf g_ct hp1) hp2) hp3) (ap hcn) ?_
    nofun
    rw [ze1 (by omega),Int.toNat_natCast]
    intro p4 hp4
    nofun
    obtain ⟨mine,hmine⟩:∃mine,mine=(pp.drop ((0+(j:Int))%4).toNat++pp.take ((0+(j:Int))%4).toNat).take cn:=⟨_,rfl⟩
    have em:((pp.map D.str).drop ((0+(j:Int))%4).toNat++(pp.map D.str).take ((0+(j:Int))%4).toNat).take cn=mine.map D.str:=by
      rw [hmine,←List.map_drop,←List.map_take,←List.map_append,←List.map_take]
    rw [em]
    have hmo:mine.length=cn∧mine.Nodup∧∀x∈mine,NameOk x:=by
      rw [hmine]
      exact ps_ok Rp.turn (by show cn≤4;omega)
    have hsub:=((((Sub.refl S').up (o:=.lst ((pp.map D.str).drop ((0+(j:Int))%4).toNat)) hp1).up (o:=.lst ((pp.map D.str).take ((0+(j:Int))%4).toNat)) hp2).up
      (o:=.lst ((pp.map D.str).drop ((0+(j:Int))%4).toNat++(pp.map D.str).take ((0+(j:Int))%4).toNat)) hp3).up (o:=.lst (mine.map D.str)) hp4
    generalize up (up (up (up S' p1 _) p2 _) p3 _) p4 _=S5 at hsub ⊢
    replace g_sp:=hsub _ _ g_sp
    replace g_nm:=hsub _ _ g_nm
    replace g_pm:=hsub _ _ g_pm
    replace g_ct:=hsub _ _ g_ct
    replace g_pr:=hsub _ _ g_pr
    replace g_px:=g_px.ext hsub
    nofun
    refine j_ixL g_nm (ap hnj) ?_
    nofun
    refine ⟨ns,sp,nm,ct,i1,b1,deep,names,mine,counts,rfl,g_sp,g_nm,g_ct,q_nm,q_ct,hi1,hb1,d1,dn,by omega,by omega,by omega,Rn.nd,by omega,hc4,fun s i2 b2 hw hdp hi2 hb2 hs2=>?_⟩
    nofun
    have h_pr:up S5 sp (.lst [.int i2,.int b2]) pr=some (.lst (ers.map Er.d)):=by rw [za8 (Ne.symm q_pr)];exact g_pr
    refine j_append h_pr (by rw [List.length_map];exact zas (by omega)) ?_
    have ee:ers.map Er.d++[D.tup [D.str nj,D.tup (mine.map D.str),s.d]]=(ers++[(⟨nj,mine,s⟩:Er)]).map Er.d:=by simp [Er.d]
    rw [ee]
    refine ⟨ers++[(⟨nj,mine,s⟩:Er)],i2,b2,_,_,rfl,?_,?_,?_,?_,zab,(g_px.at).fresh f_pr,by simp [hl],by omega,hb2,?_,?_,?_,?_⟩
    · rw [za8 q_pr];exact zab
    · rw [za8 r_nm,za8 (Ne.symm q_nm)];exact g_nm
    · rw [za8 r_pm,za8 (Ne.symm q_pm)];exact g_pm
    · rw [za8 r_ct,za8 (Ne.symm q_ct)];exact g_ct
    · rw [List.take_succ,hnj,List.map_append,en];rfl
    · rw [List.take_succ,hcn,List.map_append,ec]
      show counts.take j++[mine.length]=_
      rw [hmo.1]
      rfl
    · intro e he
      rcases List.mem_append.mp he with he|he
      · exact hk e he
      · rw [List.mem_singleton.mp he]
        exact ⟨by show 1≤mine.length;omega,by show mine.length≤4;omega,hmo.2.1,hmo.2.2,hw,by show s.deep≤_;omega⟩
    · rw [List.map_append,List.sum_append]
      simp only [List.map_cons,List.map_nil,List.sum_cons,List.sum_nil]
      omega
  rintro σ S' ⟨ers,i1,b1,x10,x11,rfl,g_sp,g_nm,g_pm,g_ct,g_pr,g_px,hl,hi1,hb1,en,ec,hk,hs⟩
  rw [za2] at hl en ec
  rw [List.take_of_length_le (by omega)] at en ec
  nofun
  refine ⟨pr,_,sp,_,rfl,f_pr,by rw [hsp];simp,g_px.sub g_sp,g_pr,hq ers i1 b1 (zrg Rn en ec (by omega) (by omega) hk (by omega)) hi1⟩
structure Plain (ps:List Str) (n:Nat) (s:Sy):Prop where
  wf:∀ar,s.wf ar ps
  deep:s.deep≤n
  sends:s.sends=0
  size:s.pre.length+1≤2^n
theorem zbd (a:Sy) (as:List Sy):(Sy.pres (a::as)).length=a.pre.length+(Sy.pres as).length:=by simp [Sy.pres]
theorem zdh (s:Sy):s.pre.length=1+(Sy.pres s.parts).length:=by rw [Sy.pre_parts];simp;omega
theorem zk1 {ps:List Str} {x:Str} (h:x∈ps):Plain ps 1 (.name x):=⟨fun _=>h,by simp [Sy.deep],by simp [Sy.sends,Sy.pre],by simp [Sy.pre]⟩
theorem Plain.one {ps:List Str} {n:Nat} {s:Sy} (h:Plain ps n s):(Sy.pres [s]).length+2≤2^(n+1):=by
  have:=h.size
  rw [zbd,Nat.pow_succ]
  simp [Sy.pres]
  omega
theorem Plain.left {ps:List Str} {n:Nat} {s:Sy} (h:Plain ps n s):Plain ps (n+1) (.left s):=⟨h.wf,by have:=h.deep;simp only [Sy.deep];omega,by rw [Sy.sends_parts];simp only [Sy.parts,Sy.sendss_cons,h.sends];simp [Sy.sendss,Sy.pres],
  by have:=h.one;rw [zdh];simp only [Sy.parts];omega⟩
theorem Plain.right {ps:List Str} {n:Nat} {s:Sy} (h:Plain ps n s):Plain ps (n+1) (.right s):=⟨h.wf,by have:=h.deep;simp only [Sy.deep];omega,by rw [Sy.sends_parts];simp only [Sy.parts,Sy.sendss_cons,h.sends];simp [Sy.sendss,Sy.pres],
  by have:=h.one;rw [zdh];simp only [Sy.parts];omega⟩
theorem Plain.pair {ps:List Str} {n:Nat} {s t:Sy} (h:Plain ps n s) (h':Plain ps n t):Plain ps (n+1) (.pair s t):=⟨fun ar=>⟨h.wf ar,h'.wf ar⟩,by have:=h.deep;have:=h'.deep;simp only [Sy.deep];omega,by rw [Sy.sends_parts];simp only [Sy.parts,Sy.sendss_cons,h.sends,h'.sends];simp [Sy.sendss,Sy.pres],
  by have:=h.size;have:=h'.size;rw [zdh,Nat.pow_succ];simp only [Sy.parts,zbd];simp [Sy.pres];omega⟩
theorem Plain.mono {ps:List Str} {n m:Nat} {s:Sy} (h:Plain ps n s) (hm:n≤m):Plain ps m s:=⟨h.wf,Nat.le_trans h.deep hm,h.sends,Nat.le_trans h.size (Nat.pow_le_pow_right (by decide) hm)⟩
theorem j_two {S:Hp3} {Q:K3} {a:Addr} {x y:D} {c:Int} (hS:S a=some (.lst [x,y])) (q0:Q x S) (q1:Q y S):ixL3 (.ref a) (.int (c%2)) S Q:=by
  have m2:c%2=0∨c%2=1:=by omega
  rcases m2 with m|m
  · exact j_ixL hS (by rw [m];rfl) q0
  · exact j_ixL hS (by rw [m];rfl) q1
inductive P_path  (ds:List D) (q:D→Prop):Prop where
  | mk (cell:Int) (ps:List Str) (_:ds=[.int cell,.tup (ps.map D.str)]) (_:1≤ps.length) (_:ps.length≤4) (_:∀s:Sy,Plain ps 4 s→q s.d)
def zje :Sp3:=vS P_path
theorem zrb {k:Nat} (h:Has K mg "_law_path" zg2 ["cell","params"]) (G:Gs K mg):Cal3 P w K mg base (k+1) "_law_path" ["cell","params"] zje:=show _ by
  refine h.val zhr (by rintro ds q ⟨_,_,e,_⟩;rw [e];rfl) fun f cdv A outer s0 H E ds q hr hA=>?_
  obtain ⟨cell,ps,rfl,l1,l4,hq⟩:=hA
  obtain ⟨jp,vp,ejp,hvp,hap⟩:=zgi (f:=D.str) cell (show 0<ps.length by omega)
  have hpl:(0:Int)<((ps.map D.str).length:Int):=by rw [List.length_map];omega
  have n4:0≤cell/4%4∧cell/4%4<4:=by omega
  refine ⟨_,(zac (zal (i:=2) zhr.nd rfl (Or.inl rfl) (zbj (zaa zax (zaa (e_ix zam zan (e_v 1) (e_op zau zag (e_v 0) (zay zaj zby rfl G.len PySem.boot_len (zaa (e_v 1) zae))) (fun _ _=>rfl)) zae))))
 (zac (zeu PassesOwn.never rfl (zbw rfl G.range (zaa (e_op zau zag (e_op za3 zag (e_v 0) zad) zad) zae)) (zcu (i:=3) zhr.nd rfl (Or.inl rfl)) (zah (zal (i:=2) zhr.nd rfl (Or.inl rfl) (zbj (zaa (e_ix zat zba (zdm (zaa zax (zaa zax zae))) (e_op zau zag (e_op za3 zag (e_v 0) (e_ix zat zba (zdm (zaa zad (zaa zad (zaa zad zae)))) (e_v 3) (fun _ _=>rfl))) zad) (fun _ _=>rfl)) (zaa (e_v 2) zae))))))
 (zah (zav (e_v 2))))),?_⟩
  nofun
  refine j_ixT hap ?_
  nofun
  refine ⟨fun i σ S=>Ex2 fun (s:Sy) (x3:Option D)=>σ=[some (.int cell),some (.tup (ps.map D.str)),some s.d,x3]∧Plain ps (1+i) s,⟨.name vp,none,rfl,zk1 (List.mem_of_getElem? hvp)⟩,fun _ _ _ _=>trivial,?_,?_⟩
  · rintro i d σ S hd ⟨s,x3,rfl,hs⟩
    obtain ⟨hi,rfl⟩:=zca hd
    nofun
    intro p1 hp1
    nofun
    intro p2 hp2
    nofun
    have h3:i=0∨i=1∨i=2:=by omega
    have hl:=zaf (o:=.lst [.int 16,.int 32,.int 64]) (zab (S:=S) (a:=p1) (o:=.lst [.str "left",.str "right"])) hp2
    rcases h3 with rfl|rfl|rfl
    all_goals
      nofun
      refine j_two hl ?_ ?_
      · nofun
        exact ⟨.left s,_,rfl,by rw [←Nat.add_assoc];exact hs.left⟩
      · nofun
        exact ⟨.right s,_,rfl,by rw [←Nat.add_assoc];exact hs.right⟩
  · rintro σ S ⟨s,x3,rfl,hs⟩
    rw [za2] at hs
    nofun
    exact hq s (hs.mono (by omega))
inductive P_arg  (ds:List D) (q:D→Prop):Prop where
  | mk (cell:Int) (ps:List Str) (_:ds=[.int cell,.tup (ps.map D.str)]) (_:1≤ps.length) (_:ps.length≤4) (_:∀s:Sy,Plain ps 5 s→q s.d)
def zl6 :Sp3:=vS P_arg
theorem ok_arg {k:Nat} (h:Has K mg "_law_arg" zkz ["cell","params"]) (C_path:Cal3 P w K mg base k "_law_path" ["cell","params"] zje):Cal3 P w K mg base (k+1) "_law_arg" ["cell","params"] zl6:=show _ by
  refine h.val sc_arg (by rintro ds q ⟨_,_,e,_⟩;rw [e];rfl) fun f cdv A outer s0 H E ds q hr hA=>?_
  obtain ⟨cell,ps,rfl,l1,l4,hq⟩:=hA
  refine ⟨_,(zac (s_if (zap zbe zbr (e_op zau zag (e_v 0) zad) zad (nomark _)) (zah (zav (zbj (zaa zax zae)))) zbc)
 (zac (s_if (zap zbe zbr (e_op zau zag (e_v 0) zad) zad (nomark _)) (zah (zav (zbj (zaa zax (zaa (zai C_path hr rfl (zaa (e_op za3 zag (e_v 0) zad) (zaa (e_v 1) zae))) (zaa (zai C_path hr rfl (zaa (e_op za3 zag (e_v 0) zad) (zaa (e_v 1) zae))) zae)))))) zbc)
 (zah (zav (zai C_path hr rfl (zaa (e_op za3 zag (e_v 0) zad) (zaa (e_v 1) zae))))))),?_⟩
  by_cases h0:cell%9=0
  · nofun
    exact hq .bud ⟨fun _=>trivial,by simp [Sy.deep],by simp [Sy.sends,Sy.pre],by simp [Sy.pre]⟩
  by_cases h1:cell%9=1
  · nofun
    refine ⟨_,ps,rfl,l1,l4,fun a ha=>?_⟩
    nofun
    refine ⟨_,ps,rfl,l1,l4,fun b hb=>?_⟩
    nofun
    exact hq (.pair a b) (ha.pair hb)
  · nofun
    refine ⟨_,ps,rfl,l1,l4,fun a ha=>?_⟩
    nofun
    exact hq a (ha.mono (by decide))
structure SendOk (ar:Str→Option Nat) (ps:List Str) (x:Str) (as:List Sy):Prop where
  ar:ar x=some as.length
  l1:1≤as.length
  l4:as.length≤4
  plain:∀a∈as,Plain ps 5 a
inductive P_send  (ds:List D) (S:Hp3) (q:D→Addr→O→Prop):Prop where
  | mk (ns:List Int) (sp nm ct:Addr) (i:Int) (rest:List D) (names ps:List Str) (counts:List Nat) (_:ds=[.rol (ns.map D.int),.ref sp,.ref nm,.ref ct,.tup (ps.map D.str)]) (_:S sp=some (.lst (.int i::rest))) (_:S nm=some (.lst (names.map D.str))) (_:S ct=some (.lst (cD counts))) (_:sp≠nm) (_:sp≠ct) (_:0≤i) (_:1≤ps.length) (_:ps.length≤4) (_:1≤names.length) (_:names.Nodup) (_:names.length=counts.length) (_:(∀c∈counts,1≤c∧c≤4)) (_:∀(x:Str) (as:List Sy) (i2:Int),SendOk (arOf names counts) ps x as→0≤i2→q (Sy.send x as).d sp (.lst (.int i2::rest)))
def zjd :Sp3:=wrV P_send
theorem zra {k:Nat} (h:Has K mg "_law_send" zfu ["script","spot","names","counts","params"]) (G:Gs K mg) (C_next:Cal3 P w K mg base k "_law_next" ["script","spot"] zd3) (C_arg:Cal3 P w K mg base k "_law_arg" ["cell","params"] zl6) :
    Cal3 P w K mg base (k+1) "_law_send" ["script","spot","names","counts","params"] zjd:=show _ by
  refine h.wrV zmb (by rintro ds S q ⟨_,_,_,_,_,_,_,_,_,e,_⟩;rw [e];rfl) fun f cdv A outer s0 H E ds S q hr hA=>?_
  obtain ⟨ns,sp,nm,ct,i,rest,names,ps,counts,rfl,hsp,hnm,hct,n1,n2,hi,l1,l4,m1,nd,hlc,hc4,hq⟩:=hA
  refine ⟨_,(zac (zal (i:=5) zmb.nd rfl (Or.inl rfl) (e_op zau zag (zai C_next hr rfl (zaa (e_v 0) (zaa (e_v 1) zae))) (zay zaj zby rfl G.len PySem.boot_len (zaa (e_v 2) zae))))
 (zah (zav (zbj (zaa zax (zaa (e_ix zat zba (e_v 2) (e_v 5) (fun _ _=>rfl)) (zaa (zb6 zbn zdk rfl G.tuple boot_tuple (zaa (zkg (osc:=defScope zfu) (N:=["script","spot","names","counts","params","to"]) (M:=["script","spot","params"]) (js:=[0,1,4]) ⟨rfl,by decide +kernel,by decide +kernel,rfl,by decide +kernel,by decide +kernel,by decide +kernel⟩ (by decide +kernel) rfl (zbw rfl G.range (zaa (e_ix zat zba (e_v 3) (e_v 5) (fun _ _=>rfl)) zae)) (fun _ _ _ _ _=>(zai C_arg hr rfl (zaa (zai C_next hr rfl (zaa (e_v 1) (zaa (e_v 2) zae))) (zaa (e_v 3) zae))))) zae)) zae))))))),?_⟩
  have hnl:(0:Int)<((names.map D.str).length:Int):=by rw [List.length_map];omega
  have nm1:∀o,up S sp o nm=some (.lst (names.map D.str)):=fun o=>by rw [za8 (Ne.symm n1)];exact hnm
  have ct1:∀o,up S sp o ct=some (.lst (cD counts)):=fun o=>by rw [za8 (Ne.symm n2)];exact hct
  nofun
  refine ⟨ns,sp,i,rest,rfl,hsp,hi,?_⟩
  have nm2:=nm1 (.lst (.int (i+1)::rest))
  have ct2:=ct1 (.lst (.int (i+1)::rest))
  obtain ⟨jt,vt,ejt,hvt,hat⟩:=zgi (f:=D.str) (cellAt ns i) (show 0<names.length by omega)
  have hct':jt<counts.length:=by rw [←hlc];exact (List.getElem?_eq_some_iff.mp hvt).1
  obtain ⟨cn,hcn⟩:∃cn,counts[jt]?=some cn:=⟨_,List.getElem?_eq_getElem hct'⟩
  have hcn4:=hc4 cn (List.mem_of_getElem? hcn)
  have har:arOf names counts vt=some cn:=zia nd hvt hcn
  nofun
  refine j_ixL nm2 hat ?_
  nofun
  refine j_ixL ct2 (d:=.int cn) (by rw [ejt];refine zcz ?_;rw [List.getElem?_map,hcn];rfl) ?_
  nofun
  refine ⟨fun j ys S'=>∃as:List Sy,ys=as.map Sy.d∧as.length=j∧j≤cn∧(∀a∈as,Plain ps 5 a)∧S'=up S sp (.lst (.int (i+1+j)::rest)),⟨[],rfl,rfl,Nat.zero_le _,by simp,by simp⟩,?_,?_,?_⟩
  · rintro j ys S' ⟨as,rfl,hl,hj,_,rfl⟩
    exact ⟨trivial,by rw [List.length_map];exact zas (by omega)⟩
  · rintro j d ys S' hd ⟨as,rfl,hl,hj,hpl,rfl⟩
    obtain ⟨hj',rfl⟩:=zca hd
    nofun
    refine ⟨ns,sp,i+1+j,rest,rfl,zab,by omega,?_⟩
    nofun
    refine ⟨_,ps,rfl,l1,l4,fun a ha=>?_⟩
    refine ⟨as++[a],by simp,by simp [hl],by omega,fun b hb=>?_,?_⟩
    · rcases List.mem_append.mp hb with hb|hb
      · exact hpl b hb
      · rw [List.mem_singleton.mp hb];exact ha
    · rw [zfd]
      have:i+1+(j:Int)+1=i+1+((j+1:Nat):Int):=by omega
      rw [this]
  rintro ys S' ⟨as,rfl,hl,hj,hpl,rfl⟩
  rw [za2,Int.toNat_natCast] at hl
  intro p1 hp1
  nofun
  have e:D.tup [.str "send",.str vt,.tup (as.map Sy.d)]=(Sy.send vt as).d:=by simp only [Sy.d,Sy.ds_map]
  rw [e]
  exact ⟨sp,_,((Px.refl sp S).at.new hp1).sub (zaf zab hp1),hq vt as _ ⟨by rw [hl];exact har,by omega,by omega,hpl⟩ (by omega)⟩
structure Bd (ar:Str→Option Nat) (ps:List Str) (n m z:Nat) (s:Sy):Prop where
  wf:s.wf ar ps
  deep:s.deep≤n
  sends:s.sends≤m
  size:s.pre.length≤z
theorem Plain.bd {ar:Str→Option Nat} {ps:List Str} {n:Nat} {s:Sy} (h:Plain ps n s):Bd ar ps n 0 (2^n) s:=⟨h.wf ar,h.deep,by rw [h.sends];exact Nat.le_refl _,by have:=h.size;omega⟩
theorem Bd.mono {ar:Str→Option Nat} {ps:List Str} {n m z n' m' z':Nat} {s:Sy} (h:Bd ar ps n m z s) (h1:n≤n') (h2:m≤m') (h3:z≤z'):Bd ar ps n' m' z' s:=⟨h.wf,Nat.le_trans h.deep h1,Nat.le_trans h.sends h2,Nat.le_trans h.size h3⟩
theorem Bd.pair {ar:Str→Option Nat} {ps:List Str} {n m z m' z':Nat} {s t:Sy} (h:Bd ar ps n m z s) (h':Bd ar ps n m' z' t):Bd ar ps (n+1) (m+m') (1+z+z') (.pair s t) :=
  ⟨⟨h.wf,h'.wf⟩,by have:=h.deep;have:=h'.deep;simp only [Sy.deep];omega,by have:=h.sends;have:=h'.sends;rw [Sy.sends_parts];simp only [Sy.parts,Sy.sendss_cons];simp [Sy.sendss,Sy.pres];omega,
    by have:=h.size;have:=h'.size;rw [zdh];simp only [Sy.parts,zbd];simp [Sy.pres];omega⟩
theorem Bd.fork {ar:Str→Option Nat} {ps:List Str} {n m z m' z' m2 z2:Nat} {s t u:Sy} (h:Bd ar ps n m z s) (h':Bd ar ps n m' z' t) (h2:Bd ar ps n m2 z2 u):Bd ar ps (n+1) (m+m'+m2) (1+z+z'+z2) (.fork s t u) :=
  ⟨⟨h.wf,h'.wf,h2.wf⟩,by have:=h.deep;have:=h'.deep;have:=h2.deep;simp only [Sy.deep];omega,by have:=h.sends;have:=h'.sends;have:=h2.sends;rw [Sy.sends_parts];simp only [Sy.parts,Sy.sendss_cons];simp [Sy.sendss,Sy.pres];omega,
    by have:=h.size;have:=h'.size;have:=h2.size;rw [zdh];simp only [Sy.parts,zbd];simp [Sy.pres];omega⟩
theorem zfz {ps:List Str}:∀{as:List Sy},(∀a∈as,Plain ps 5 a)→Sy.sendss as=0∧(Sy.pres as).length≤31*as.length
  | [],_=>by simp [Sy.sendss,Sy.pres]
  | a::as,h=>by
    have h1:=h a List.mem_cons_self
    have h2:=zfz (as:=as) fun b hb=>h b (List.mem_cons_of_mem _ hb)
    have:=h1.sends
    have:=h1.size
    rw [Sy.sendss_cons,zbd,List.length_cons]
    omega
theorem SendOk.bd {ar:Str→Option Nat} {ps:List Str} {x:Str} {as:List Sy} (h:SendOk ar ps x as):Bd ar ps 6 1 125 (.send x as):=show _ by
  obtain ⟨h1,h2⟩:=zfz h.plain
  have:=h.l4
  refine ⟨⟨h.ar,h.l1,h.l4,Sy.wfs_iff.mpr fun a ha=>(h.plain a ha).wf ar⟩,?_,?_,?_⟩
  · have:=Sy.deeps_le (as:=as) (n:=5) fun a ha=>(h.plain a ha).deep
    simp only [Sy.deep]
    omega
  · rw [Sy.sends_parts]
    simp only [Sy.parts]
    omega
  · rw [zdh]
    simp only [Sy.parts]
    omega
theorem SendOk.put {ar:Str→Option Nat} {ps:List Str} {x:Str} {as:List Sy} {n m z:Nat} (h:SendOk ar ps x as) (hn:5≤n) (bs:List Sy) (hb:∀b∈bs,b.wf ar ps∧b.deep≤n) (hs:Sy.sendss bs≤m) (hz:(Sy.pres bs).length≤z) (hl:bs.length≤as.length) (h1:1≤bs.length) :
    Bd ar ps (n+1) (m+1) (1+z+124) (.send x (bs++as.drop bs.length)):=show _ by
  have hp:∀a∈as.drop bs.length,Plain ps 5 a:=fun a ha=>h.plain a (List.mem_of_mem_drop ha)
  obtain ⟨e1,e2⟩:=zfz hp
  have:=h.l4
  have hlen:(bs++as.drop bs.length).length=as.length:=by rw [List.length_append,List.length_drop];omega
  have hall:∀a∈bs++as.drop bs.length,a.wf ar ps∧a.deep≤n:=fun a ha=>by
    rcases List.mem_append.mp ha with ha|ha
    · exact hb a ha
    · exact ⟨(hp a ha).wf ar,Nat.le_trans (hp a ha).deep hn⟩
  rw [List.length_drop] at e2
  refine ⟨⟨by rw [hlen];exact h.ar,by rw [hlen];exact h.l1,by rw [hlen];exact h.l4,Sy.wfs_iff.mpr fun a ha=>(hall a ha).1⟩,?_,?_,?_⟩
  · have:=Sy.deeps_le (as:=bs++as.drop bs.length) (n:=n) fun a ha=>(hall a ha).2
    simp only [Sy.deep]
    omega
  · rw [Sy.sends_parts]
    simp only [Sy.parts,Sy.sendss_append]
    omega
  · rw [zdh]
    simp only [Sy.parts,Sy.pres_append,List.length_append]
    omega
inductive P_body  (ds:List D) (S:Hp3) (q:D→Addr→O→Prop):Prop where
  | mk (ns:List Int) (sp nm ct:Addr) (i:Int) (rest:List D) (names ps:List Str) (counts:List Nat) (_:ds=[.rol (ns.map D.int),.ref sp,.ref nm,.ref ct,.tup (ps.map D.str)]) (_:S sp=some (.lst (.int i::rest))) (_:S nm=some (.lst (names.map D.str))) (_:S ct=some (.lst (cD counts))) (_:sp≠nm) (_:sp≠ct) (_:0≤i) (_:1≤ps.length) (_:ps.length≤4) (_:1≤names.length) (_:names.Nodup) (_:names.length=counts.length) (_:(∀c∈counts,1≤c∧c≤4)) (_:∀(s:Sy) (i2:Int),Bd (arOf names counts) ps 10 6 1500 s→0≤i2→q s.d sp (.lst (.int i2::rest)))
def zl5 :Sp3:=wrV P_body
theorem zrd {k:Nat} (h:Has K mg "_law_body" zg5 ["script","spot","names","counts","params"]) (G:Gs K mg) (C_next:Cal3 P w K mg base k "_law_next" ["script","spot"] zd3) (C_arg:Cal3 P w K mg base k "_law_arg" ["cell","params"] zl6)
    (C_path:Cal3 P w K mg base k "_law_path" ["cell","params"] zje) (C_send:Cal3 P w K mg base k "_law_send" ["script","spot","names","counts","params"] zjd) :
    Cal3 P w K mg base (k+1) "_law_body" ["script","spot","names","counts","params"] zl5:=show _ by
  refine h.wrV zcq (by rintro ds S q ⟨_,_,_,_,_,_,_,_,_,e,_⟩;rw [e];rfl) fun f cdv A outer s0 H E ds S q hr hA=>?_
  obtain ⟨ns,sp,nm,ct,i,rest,names,ps,counts,rfl,hsp,hnm,hct,n1,n2,hi,l1,l4,m1,nd,hlc,hc4,hq⟩:=hA
  refine ⟨_,(zac (zal (i:=5) zcq.nd rfl (Or.inl rfl) (zai C_next hr rfl (zaa (e_v 0) (zaa (e_v 1) zae))))
 (zac (zal (i:=6) zcq.nd rfl (Or.inl rfl) (zai C_send hr rfl (zaa (e_v 0) (zaa (e_v 1) (zaa (e_v 2) (zaa (e_v 3) (zaa (e_v 4) zae)))))))
 (zac (zef (zap zbe zbr (e_op zau zag (e_v 5) zad) zad (nomark _)) (zah (zal (i:=6) zcq.nd rfl (Or.inl rfl) (zbj (zaa zax (zaa (e_v 6) (zaa (zai C_path hr rfl (zaa (e_op za3 zag (e_v 5) zad) (zaa (e_v 4) zae))) zae)))))) zbc)
 (zac (zef (zap zbe zbr (e_op zau zag (e_v 5) zad) zad (nomark _)) (zac (zal (i:=7) zcq.nd rfl (Or.inl rfl) (zai C_send hr rfl (zaa (e_v 0) (zaa (e_v 1) (zaa (e_v 2) (zaa (e_v 3) (zaa (e_v 4) zae)))))))
 (zac (zal (i:=8) zcq.nd rfl (Or.inl rfl) (e_op zf1 zh5 (zbj (zaa (e_v 6) zae)) (zbh zhq zki (e_ix zam zan (e_v 7) zad (fun _ _=>rfl)) (zbx zad) zb1)))
 (zac (zef (PW3.pt (w_and (zap zbe zbr (e_op zau zag (e_op za3 zag (e_v 5) zad) zad) zad (nomark _)) (zfk (zap zmv zce (zay zaj zby rfl G.len PySem.boot_len (zaa (e_v 8) zae)) zad (nomark _))))) (zah (zal (i:=8) zcq.nd rfl (Or.inl rfl) (e_op zf1 zh5 (zbj (zaa (e_v 6) (zaa (zai C_send hr rfl (zaa (e_v 0) (zaa (e_v 1) (zaa (e_v 2) (zaa (e_v 3) (zaa (e_v 4) zae)))))) zae))) (zbh zhq zki (e_v 8) (zbx zad) zb1)))) zbc)
 (zah (zal (i:=6) zcq.nd rfl (Or.inl rfl) (zbj (zaa zax (zaa (e_ix zam zan (e_v 7) zad (fun _ _=>rfl)) (zaa (e_v 8) zae))))))))) zbc)
 (zac (zef (zap zbe zbr (e_op zau zag (e_v 5) zad) zad (nomark _)) (zah (zal (i:=6) zcq.nd rfl (Or.inl rfl) (zbj (zaa zax (zaa (e_v 6) (zaa (zai C_send hr rfl (zaa (e_v 0) (zaa (e_v 1) (zaa (e_v 2) (zaa (e_v 3) (zaa (e_v 4) zae)))))) zae)))))) zbc)
 (zac (zal (i:=9) zcq.nd rfl (Or.inl rfl) (zai C_arg hr rfl (zaa (e_op za3 zag (e_v 5) zad) (zaa (e_v 4) zae))))
 (zac (zef (zap zbe zbr (e_op zau zag (e_op za3 zag (e_v 5) zad) zad) zad (nomark _)) (zah (zal (i:=9) zcq.nd rfl (Or.inl rfl) (zai C_send hr rfl (zaa (e_v 0) (zaa (e_v 1) (zaa (e_v 2) (zaa (e_v 3) (zaa (e_v 4) zae)))))))) zbc)
 (zac (zef (zap zbe zbr (e_op zau zag (e_op za3 zag (e_v 5) zad) zad) zad (nomark _)) (zah (zav (e_v 6))) zbc)
 (zah (zav (zbj (zaa zax (zaa (zai C_path hr rfl (zaa (zai C_next hr rfl (zaa (e_v 0) (zaa (e_v 1) zae))) (zaa (e_v 4) zae))) (zaa (e_v 6) (zaa (e_v 9) zae))))))))))))))),?_⟩
  have nm1:∀o,up S sp o nm=some (.lst (names.map D.str)):=fun o=>by rw [za8 (Ne.symm n1)];exact hnm
  have ct1:∀o,up S sp o ct=some (.lst (cD counts)):=fun o=>by rw [za8 (Ne.symm n2)];exact hct
  have fin:∀(s:Sy) (i2:Int),Bd (arOf names counts) ps 10 6 1500 s→0≤i2→∃a o,Sub (up S a o) (up S sp (.lst (.int i2::rest)))∧q s.d a o:=fun s i2 h1 h2=>⟨sp,_,Sub.refl _,hq s i2 h1 h2⟩
  have snd:∀(i1:Int) (Q:K3),0≤i1→(∀(x:Str) (as:List Sy) (i2:Int),SendOk (arOf names counts) ps x as→0≤i2→Q (Sy.send x as).d (up S sp (.lst (.int i2::rest)))) →
      zjd [.rol (ns.map D.int),.ref sp,.ref nm,.ref ct,.tup (ps.map D.str)] (up S sp (.lst (.int i1::rest))) Q (fun _ _ _=>False):=fun i1 Q h1 h2 =>
    ⟨ns,sp,nm,ct,i1,rest,names,ps,counts,rfl,zab,nm1 _,ct1 _,n1,n2,h1,l1,l4,m1,nd,hlc,hc4,fun x as i2 ho hi2=>by
      show Q _ (up (up S sp _) sp _)
      rw [zfd]
      exact h2 x as i2 ho hi2⟩
  nofun
  refine ⟨ns,sp,i,rest,rfl,hsp,hi,?_⟩
  generalize cellAt ns i=shape
  nofun
  refine snd _ _ (by omega) fun x0 as0 i0 ho0 hi0=>?_
  nofun
  refine j_ifm (fun σ T=>∃(s:Sy),σ=[some (.rol (ns.map D.int)),some (.ref sp),some (.ref nm),some (.ref ct),some (.tup (ps.map D.str)),some (.int shape),some s.d,none,none,none]∧T=up S sp (.lst (.int i0::rest))∧Bd (arOf names counts) ps 7 1 200 s) ?_ ?_
  · intro n' hn'
    by_cases c1:shape%4=1
    · nofun
      refine ⟨_,ps,rfl,l1,l4,fun p hp=>?_⟩
      nofun
      exact hn' _ _ ⟨.pair (.send x0 as0) p,rfl,rfl,(ho0.bd.pair (hp.bd.mono (n':=6) (by decide) (Nat.le_refl _) (Nat.le_refl _))).mono (by decide) (by decide) (by decide)⟩
    · nofun
      exact hn' _ _ ⟨.send x0 as0,rfl,rfl,ho0.bd.mono (by decide) (by decide) (by decide)⟩
  rintro σ T ⟨s,rfl,rfl,hs⟩
  nofun
  refine j_ifm (fun σ T=>Ex4 fun (s:Sy) (x7 x8:Option D) (i1:Int)=>σ=[some (.rol (ns.map D.int)),some (.ref sp),some (.ref nm),some (.ref ct),some (.tup (ps.map D.str)),some (.int shape),some s.d,x7,x8,none]∧0≤i1∧T=up S sp (.lst (.int i1::rest))∧Bd (arOf names counts) ps 8 3 600 s) ?_ ?_
  · intro n' hn'
    by_cases c1:shape%4=2
    · nofun
      refine snd _ _ (by omega) fun x1 as1 i1 ho1 hi1=>?_
      simp only [Sy.d,Sy.ds_map]
      have hl1:=ho1.l1
      have hl4:=ho1.l4
      nofun
      rw [zdc (by decide)]
      refine j_catT (by simp) (zbi (by simp;omega)) ?_
      nofun
      have er:[s.d]++(as1.map Sy.d).drop (Int.toNat 1)=([s]++as1.drop [s].length).map Sy.d:=by simp
      rw [er]
      refine j_ifm (fun σ T=>Ex2 fun (bs:List Sy) (i2:Int)=>σ=[some (.rol (ns.map D.int)),some (.ref sp),some (.ref nm),some (.ref ct),some (.tup (ps.map D.str)),some (.int shape),some s.d,some (.tup [.str "send",.str x1,.tup (as1.map Sy.d)]),some (.tup ((bs++as1.drop bs.length).map Sy.d)),none] ∧
        0≤i2∧T=up S sp (.lst (.int i2::rest))∧(∀b∈bs,b.wf (arOf names counts) ps∧b.deep≤7)∧Sy.sendss bs≤2∧(Sy.pres bs).length≤325∧bs.length≤as1.length∧1≤bs.length) ?_ ?_
      · intro n2 hn2
        have one:Sy.sendss [s]≤1∧(Sy.pres [s]).length≤200:=by
          have:=hs.sends
          have:=hs.size
          rw [Sy.sendss_cons,zbd]
          simp [Sy.sendss,Sy.pres]
          omega
        have stay:n2 [some (.rol (ns.map D.int)),some (.ref sp),some (.ref nm),some (.ref ct),some (.tup (ps.map D.str)),some (.int shape),some s.d,some (.tup [.str "send",.str x1,.tup (as1.map Sy.d)]),some (.tup (([s]++as1.drop [s].length).map Sy.d)),none] (up S sp (.lst (.int i1::rest))) :=
          hn2 _ _ ⟨[s],i1,rfl,hi1,rfl,fun b hb=>by rw [List.mem_singleton.mp hb];exact ⟨hs.wf,hs.deep⟩,by omega,by omega,by simpa using hl1,by simp⟩
        have elen:((([s]++as1.drop [s].length).map Sy.d).length:Int)=(as1.length:Int):=by
          rw [List.length_map,List.length_append,List.length_drop]
          simp
          omega
        by_cases c2:shape/20%3=1
        · by_cases c3:(1:Int)<(as1.length:Int)
          · nofun
            refine snd _ _ (by omega) fun x2 as2 i2 ho2 hi2=>?_
            nofun
            rw [zdc (by decide)]
            refine j_catT (by simp) (zbi (by simp;omega)) ?_
            have e2:[s.d,(Sy.send x2 as2).d]++(([s]++as1.drop [s].length).map Sy.d).drop (Int.toNat 2)=([s,.send x2 as2]++as1.drop [s,.send x2 as2].length).map Sy.d:=by simp
            rw [e2]
            have b2:=ho2.bd
            refine hn2 _ _ ⟨[s,.send x2 as2],i2,rfl,hi2,rfl,fun b hb=>?_,?_,?_,?_,by simp⟩
            · simp only [List.mem_cons,List.not_mem_nil,or_false] at hb
              rcases hb with rfl|rfl
              · exact ⟨hs.wf,hs.deep⟩
              · exact ⟨b2.wf,Nat.le_trans b2.deep (by decide)⟩
            · have:=hs.sends
              have:=b2.sends
              rw [Sy.sendss_cons,Sy.sendss_cons]
              simp [Sy.sendss,Sy.pres]
              omega
            · have:=hs.size
              have:=b2.size
              rw [zbd,zbd]
              simp [Sy.pres]
              omega
            · simp
              omega
          · nofun
            exact stay
        · nofun
          exact stay
      rintro σ T ⟨bs,i2,rfl,hi2,rfl,hb1,hb2,hb3,hb4,hb5⟩
      nofun
      refine hn' _ _ ⟨.send x1 (bs++as1.drop bs.length),_,_,i2,by simp only [Sy.d,Sy.ds_map];rfl,hi2,rfl,(ho1.put (by decide) bs hb1 hb2 hb3 hb4 hb5).mono (by decide) (by decide) (by decide)⟩
    · nofun
      exact hn' _ _ ⟨s,none,none,i0,rfl,hi0,rfl,hs.mono (by decide) (by decide) (by decide)⟩
  rintro σ T ⟨s,x7,x8,i1,rfl,hi1,rfl,hs⟩
  nofun
  refine j_ifm (fun σ T=>Ex2 fun (s:Sy) (i2:Int)=>σ=[some (.rol (ns.map D.int)),some (.ref sp),some (.ref nm),some (.ref ct),some (.tup (ps.map D.str)),some (.int shape),some s.d,x7,x8,none]∧0≤i2∧T=up S sp (.lst (.int i2::rest))∧Bd (arOf names counts) ps 9 4 800 s) ?_ ?_
  · intro n' hn'
    by_cases c1:shape%4=3
    · nofun
      refine snd _ _ (by omega) fun x2 as2 i2 ho2 hi2=>?_
      nofun
      exact hn' _ _ ⟨.pair s (.send x2 as2),i2,rfl,hi2,rfl,(hs.pair (ho2.bd.mono (n':=8) (by decide) (Nat.le_refl _) (Nat.le_refl _))).mono (by decide) (by decide) (by decide)⟩
    · nofun
      exact hn' _ _ ⟨s,i1,rfl,hi1,rfl,hs.mono (by decide) (by decide) (by decide)⟩
  rintro σ T ⟨s,i2,rfl,hi2,rfl,hs⟩
  nofun
  refine ⟨_,ps,rfl,l1,l4,fun a ha=>?_⟩
  nofun
  refine j_ifm (fun σ T=>Ex2 fun (t:Sy) (i3:Int)=>σ=[some (.rol (ns.map D.int)),some (.ref sp),some (.ref nm),some (.ref ct),some (.tup (ps.map D.str)),some (.int shape),some s.d,x7,x8,some t.d]∧0≤i3∧T=up S sp (.lst (.int i3::rest))∧Bd (arOf names counts) ps 9 1 125 t) ?_ ?_
  · intro n' hn'
    by_cases c1:shape/4%5=1
    · nofun
      refine snd _ _ (by omega) fun x2 as2 i3 ho2 hi3=>?_
      nofun
      exact hn' _ _ ⟨.send x2 as2,i3,rfl,hi3,rfl,ho2.bd.mono (by decide) (by decide) (by decide)⟩
    · nofun
      exact hn' _ _ ⟨a,i2,rfl,hi2,rfl,ha.bd.mono (by decide) (by decide) (by decide)⟩
  rintro σ T ⟨t,i3,rfl,hi3,rfl,ht⟩
  nofun
  refine j_ifm (fun σ T=>σ=[some (.rol (ns.map D.int)),some (.ref sp),some (.ref nm),some (.ref ct),some (.tup (ps.map D.str)),some (.int shape),some s.d,x7,x8,some t.d]∧T=up S sp (.lst (.int i3::rest))) ?_ ?_
  · intro n' hn'
    by_cases c1:shape/4%5=2
    · nofun
      exact fin s i3 (hs.mono (by decide) (by decide) (by decide)) hi3
    · nofun
      exact hn' _ _ ⟨rfl,rfl⟩
  rintro σ T ⟨rfl,rfl⟩
  nofun
  refine ⟨ns,sp,i3,rest,rfl,zab,hi3,?_⟩
  nofun
  refine ⟨_,ps,rfl,l1,l4,fun p hp=>?_⟩
  nofun
  rw [zfd]
  exact fin (.fork p s t) _ (((hp.bd.mono (n':=9) (by decide) (Nat.le_refl _) (Nat.le_refl _)).fork hs ht).mono (by decide) (by decide) (by decide)) (by omega)
structure Pg (prog:List Er):Prop where
  len1:1≤prog.length
  len:prog.length≤12
  nd:(prog.map Er.name).Nodup
  nm:∀e∈prog,NameOk e.name
  ps:∀e∈prog,1≤e.ps.length∧e.ps.length≤4∧e.ps.Nodup∧∀x∈e.ps,NameOk x
  body:∀e∈prog,Bd (arP prog) e.ps 10 12 5000 e.body
structure ErP (ar:Str→Option Nat) (e:Er):Prop where
  l1:1≤e.ps.length
  l4:e.ps.length≤4
  nd:e.ps.Nodup
  ok:∀x∈e.ps,NameOk x
  bd:Bd ar e.ps 10 6 1500 e.body
inductive zod  (ds:List D) (S:Hp3) (q:List D→Addr→O→Prop):Prop where
  | mk (ns:List Int) (sp:Addr) (i most:Int) (rest:List D) (_:ds=[.rol (ns.map D.int),.ref sp,.int most]) (_:S sp=some (.lst (.int i::rest))) (_:0≤i) (_:1≤most) (_:most≤12) (_:∀(prog:List Er) (i2:Int),Pg prog→prog.length≤most.toNat→0≤i2→q (prog.map Er.d) sp (.lst (.int i2::rest)))
def zgu :Sp3:=wrL zod
theorem zk6 {k:Nat} (h:Has K mg "_law_program" zcr ["script","spot","most"]) (G:Gs K mg) (C_next:Cal3 P w K mg base k "_law_next" ["script","spot"] zd3) (C_names:Cal3 P w K mg base k "_law_names" ["cell","many"] zhm)
    (C_body:Cal3 P w K mg base k "_law_body" ["script","spot","names","counts","params"] zl5):Cal3 P w K mg base (k+1) "_law_program" ["script","spot","most"] zgu:=show _ by
  refine h.wrL zbs (by rintro ds S q ⟨_,_,_,_,_,e,_⟩;rw [e];rfl) fun f cdv A outer s H E ds S q hr hA=>?_
  obtain ⟨ns,sp,i,most,rest,rfl,hsp,hi,m1,m12,hq⟩:=hA
  refine ⟨_,(zac (zal (i:=3) zbs.nd rfl (Or.inr rfl) (zai C_next hr rfl (zaa (e_v 0) (zaa (e_v 1) zae))))
 (zac (zal (i:=4) zbs.nd rfl (Or.inl rfl) (e_op zda zbz zad (e_op zau zag (e_v 3) (e_v 2))))
 (zac (zal (i:=5) zbs.nd rfl (Or.inl rfl) (zai C_names hr rfl (zaa (e_op zau zag (e_op za3 zag (e_v 3) (e_v 2)) (e_op zin zag zad zad)) (zaa (e_v 4) zae))))
 (zac (zal (i:=6) zbs.nd rfl (Or.inl rfl) (zai C_names hr rfl (zaa (e_op zau zag (zai C_next hr rfl (zaa (e_v 0) (zaa (e_v 1) zae))) (e_op zin zag zad zad)) (zaa zad zae))))
 (zac (zg4 (i:=7) (osc:=defScope zcr) (N:=["script","spot","most","head","many","names","params","counts","program","k","mine"]) (M:=["head"]) (js:=[3]) ⟨rfl,by decide +kernel,by decide +kernel,rfl,by decide +kernel,by decide +kernel,by decide +kernel⟩ (by decide +kernel) rfl (zbw rfl G.range (zaa (e_v 4) zae)) (fun _ _ _ _ _=>(e_ix zat zba (zdm (zaa zad (zaa zad (zaa zad (zaa zad (zaa zad zae)))))) (e_op zau zag (e_op za3 zag (e_v 1) (e_op zpv zag zad (e_op zda zbz (e_v 0) zad))) zad) (fun _ _=>rfl))) zbs.nd rfl rfl)
 (zac (zal (i:=8) zbs.nd rfl (Or.inl rfl) (zdm zae))
 (zac (zeu PassesOwn.never rfl (zbw rfl G.range (zaa (e_v 4) zae)) (zcu (i:=9) zbs.nd rfl (Or.inl rfl)) (zac (zal (i:=10) zbs.nd rfl (Or.inl rfl) (zb6 zbn zdk rfl G.tuple boot_tuple (zaa (zbh zco zdr (e_op zmw zjp (zbh zco zdr (e_v 6) (zbx (e_op zau zag (e_v 9) zad)) zb1) (zbh zco zdr (e_v 6) zb1 (zbx (e_op zau zag (e_v 9) zad)))) zb1 (zbx (e_ix zat zba (e_v 7) (e_v 9) (fun _ _=>rfl)))) zae)))
 (zah (za4 (e_bm PySem.F.plainAttrs_list PySem.F.slot_list_append PySem.F.type_list_append zao zaq (e_v 8) (zaa (zbj (zaa (e_ix zat zba (e_v 5) (e_v 9) (fun _ _=>rfl)) (zaa (e_v 10) (zaa (zai C_body hr rfl (zaa (e_v 0) (zaa (e_v 1) (zaa (e_v 5) (zaa (e_v 7) (zaa (e_v 10) zae)))))) zae)))) zae))))))
 (zah (zav (e_v 8)))))))))),?_⟩
  nofun
  refine ⟨ns,sp,i,rest,rfl,hsp,hi,?_⟩
  generalize cellAt ns i=head
  have hm0:=Int.emod_nonneg head (show most≠0 by omega)
  have hm1:=Int.emod_lt_of_pos head (show 0<most by omega)
  have t14:(0:Int)<10^(Int.toNat 14):=by decide
  nofun
  refine ⟨_,_,rfl,Int.emod_nonneg _ (by decide),by omega,by omega,fun names Rn=>?_⟩
  intro nm hnm
  have n1:sp≠nm:=ne3 zab hnm
  nofun
  refine ⟨ns,sp,i+1,rest,rfl,zaf zab hnm,by omega,?_⟩
  generalize cellAt ns (i+1)=c2
  nofun
  refine ⟨_,4,rfl,Int.emod_nonneg _ (by decide),by omega,by omega,fun pp Rp=>?_⟩
  intro pm hpm
  nofun
  generalize hmany:1+head%most=many
  have h1m:1≤many:=by omega
  have h12:many≤most:=by omega
  obtain ⟨cnt,hcnt⟩:∃cnt:Nat→Nat,∀k:Nat,atI [D.int 2,.int 1,.int 2,.int 2,.int 3] (head/(7*(0+(k:Int)+1))%5)=some (.int (cnt k:Int))∧1≤cnt k∧cnt k≤4:=by
    have:∀k:Nat,∃c:Nat,atI [D.int 2,.int 1,.int 2,.int 2,.int 3] (head/(7*(0+(k:Int)+1))%5)=some (.int (c:Int))∧1≤c∧c≤4:=fun k=>by
      generalize head/(7*(0+(k:Int)+1))=x
      have h5:x%5=0∨x%5=1∨x%5=2∨x%5=3∨x%5=4:=by omega
      rcases h5 with e|e|e|e|e
      · exact ⟨2,by rw [e];rfl,by decide,by decide⟩
      · exact ⟨1,by rw [e];rfl,by decide,by decide⟩
      · exact ⟨2,by rw [e];rfl,by decide,by decide⟩
      · exact ⟨2,by rw [e];rfl,by decide,by decide⟩
      · exact ⟨3,by rw [e];rfl,by decide,by decide⟩
    exact ⟨fun k=>(this k).choose,fun k=>(this k).choose_spec⟩
  have g_sp:=zaf (o:=.lst (pp.map D.str)) (zab (S:=up (up S sp (.lst (.int (i+1)::rest))) nm (.lst (names.map D.str))) (a:=sp) (o:=.lst (.int (i+1+1)::rest))) hpm
  have g_nm:up (up (up (up S sp (.lst (.int (i+1)::rest))) nm (.lst (names.map D.str))) sp (.lst (.int (i+1+1)::rest))) pm (.lst (pp.map D.str)) nm=some (.lst (names.map D.str)) :=
    zaf (by rw [za8 (Ne.symm n1)];exact zab) hpm
  have g_pm:up (up (up (up S sp (.lst (.int (i+1)::rest))) nm (.lst (names.map D.str))) sp (.lst (.int (i+1+1)::rest))) pm (.lst (pp.map D.str)) pm=some (.lst (pp.map D.str)):=zab
  have g_px:Px sp S (up (up (up (up S sp (.lst (.int (i+1)::rest))) nm (.lst (names.map D.str))) sp (.lst (.int (i+1+1)::rest))) pm (.lst (pp.map D.str))):=((Px.refl sp S).at.new hnm).at.new hpm
  have q_pm:sp≠pm:=ne3 zab hpm
  generalize up (up (up (up S sp (.lst (.int (i+1)::rest))) nm (.lst (names.map D.str))) sp (.lst (.int (i+1+1)::rest))) pm (.lst (pp.map D.str))=S4 at g_sp g_nm g_pm g_px ⊢
  refine zn1 (fun k=>.int (cnt k)) (by rw [za2];omega) (fun _ _=>trivial) ?_ ?_
  · intro j d S' hd hs' P hP
    obtain ⟨hj,rfl⟩:=zca hd
    nofun
    intro p1 hp1
    nofun
    refine j_ixL zab (hcnt j).1 ?_
    exact hP _ ((Sub.refl S').up hp1)
  intro S5 s45
  replace g_sp:=s45 _ _ g_sp
  replace g_nm:=s45 _ _ g_nm
  replace g_pm:=s45 _ _ g_pm
  replace g_px:=g_px.ext s45
  rw [za2]
  obtain ⟨counts,hcounts⟩:∃counts,counts=(List.range many.toNat).map cnt:=⟨_,rfl⟩
  have ecd:((List.range many.toNat).map fun k=>D.int (cnt k:Int))=cD counts:=by rw [hcounts,cD,List.map_map];rfl
  rw [ecd]
  have hc4:∀c∈counts,1≤c∧c≤4:=fun c hc=>by
    rw [hcounts] at hc
    obtain ⟨k,_,rfl⟩:=List.mem_map.mp hc
    exact (hcnt k).2
  have hlc:counts.length=many.toNat:=by rw [hcounts];simp
  intro ct hct
  nofun
  intro pr hpr
  have hnl:=Rn.len
  rw [hmany] at Rn hnl
  have q_nm:sp≠nm:=n1
  have q_ct:sp≠ct:=ne3 g_sp hct
  have q_pr:sp≠pr:=ne3 (zaf g_sp hct) hpr
  have r_nm:nm≠pr:=ne3 (zaf g_nm hct) hpr
  have r_pm:pm≠pr:=ne3 (zaf g_pm hct) hpr
  have r_ct:ct≠pr:=ne3 zab hpr
  have f_pr:S pr=none:=(g_px.new hct).free hpr (Ne.symm q_pr)
  replace g_sp:=zaf (o:=.lst []) (zaf (o:=.lst (cD counts)) g_sp hct) hpr
  replace g_nm:=zaf (o:=.lst []) (zaf (o:=.lst (cD counts)) g_nm hct) hpr
  replace g_pm:=zaf (o:=.lst []) (zaf (o:=.lst (cD counts)) g_pm hct) hpr
  replace g_px:=(g_px.new (o:=.lst (cD counts)) hct).new (o:=.lst []) hpr
  have g_ct:up (up S5 ct (.lst (cD counts))) pr (.lst []) ct=some (.lst (cD counts)):=zaf zab hpr
  have g_pr:up (up S5 ct (.lst (cD counts))) pr (.lst []) pr=some (.lst []):=zab
  generalize up (up S5 ct (.lst (cD counts))) pr (.lst [])=S6 at g_sp g_nm g_pm g_px g_ct g_pr ⊢
  nofun
  refine ⟨fun j σ S'=>Ex4 fun (ers:List Er) (i1:Int) (x10 x11:Option D)=>σ=[some (.rol (ns.map D.int)),some (.ref sp),some (.int most),some (.int head),some (.int many),some (.ref nm),some (.ref pm),some (.ref ct),some (.ref pr),x10,x11] ∧
    S' sp=some (.lst (.int i1::rest))∧S' nm=some (.lst (names.map D.str))∧S' pm=some (.lst (pp.map D.str))∧S' ct=some (.lst (cD counts))∧S' pr=some (.lst (ers.map Er.d))∧Px sp S S' ∧
    ers.length=j∧0≤i1∧ers.map Er.name=names.take j∧(ers.map fun e=>e.ps.length)=counts.take j∧(∀e∈ers,ErP (arOf names counts) e),
    ⟨[],i+1+1,none,none,rfl,g_sp,g_nm,g_pm,g_ct,g_pr,g_px,rfl,by omega,rfl,rfl,by simp⟩,fun _ _ _ _=>trivial,?turn,?done⟩
  case turn =>
    clear g_sp g_nm g_pm g_ct g_pr g_px
    rintro j d σ S' hd ⟨ers,i1,x10,x11,rfl,g_sp,g_nm,g_pm,g_ct,g_pr,g_px,hl,hi1,en,ec,hk⟩
    obtain ⟨hj,rfl⟩:=zca hd
    have c0:=Int.emod_nonneg (0+(j:Int)) (show (4:Int)≠0 by decide)
    have ap:∀{α:Type} {f:α→D} {xs:List α} {v:α},xs[j]?=some v→atI (xs.map f) (0+(j:Int))=some (f v):=fun {α f xs v} hv=>by
      have e:(0:Int)+(j:Int)=((j:Nat):Int):=by omega
      rw [e]
      refine zcz ?_
      rw [List.getElem?_map,hv]
      rfl
    obtain ⟨cn,hcn⟩:∃cn,counts[j]?=some cn:=⟨_,List.getElem?_eq_getElem (by omega)⟩
    obtain ⟨nj,hnj⟩:∃nj,names[j]?=some nj:=⟨_,List.getElem?_eq_getElem (by omega)⟩
    have hcn4:=hc4 cn (List.mem_of_getElem? hcn)
    nofun
    rw [zdc c0]
    intro p1 hp1
    have g1:=zaf (o:=.lst ((pp.map D.str).drop ((0+(j:Int))%4).toNat)) g_pm hp1
    nofun
    rw [ze1 c0]
    intro p2 hp2
    have hpl:=Rp.len
    refine j_catL (zaf zab hp2) zab ?_ ?_
    · rw [List.length_drop,List.length_take,List.length_map]
      exact zbi (by omega)
    intro p3 hp3
    nofun
    refine j_ixL (zaf (zaf (zaf g_ct hp1) hp2) hp3) (ap hcn) ?_
    nofun
    rw [ze1 (by omega),Int.toNat_natCast]
    intro p4 hp4
    nofun
    obtain ⟨mine,hmine⟩:∃mine,mine=(pp.drop ((0+(j:Int))%4).toNat++pp.take ((0+(j:Int))%4).toNat).take cn:=⟨_,rfl⟩
    have em:((pp.map D.str).drop ((0+(j:Int))%4).toNat++(pp.map D.str).take ((0+(j:Int))%4).toNat).take cn=mine.map D.str:=by
      rw [hmine,←List.map_drop,←List.map_take,←List.map_append,←List.map_take]
    rw [em]
    have hmo:mine.length=cn∧mine.Nodup∧∀x∈mine,NameOk x:=by
      rw [hmine]
      exact ps_ok Rp.turn (by show cn≤4;omega)
    have hsub:=((((Sub.refl S').up (o:=.lst ((pp.map D.str).drop ((0+(j:Int))%4).toNat)) hp1).up (o:=.lst ((pp.map D.str).take ((0+(j:Int))%4).toNat)) hp2).up
      (o:=.lst ((pp.map D.str).drop ((0+(j:Int))%4).toNat++(pp.map D.str).take ((0+(j:Int))%4).toNat)) hp3).up (o:=.lst (mine.map D.str)) hp4
    generalize up (up (up (up S' p1 _) p2 _) p3 _) p4 _=S5 at hsub ⊢
    replace g_sp:=hsub _ _ g_sp
    replace g_nm:=hsub _ _ g_nm
    replace g_pm:=hsub _ _ g_pm
    replace g_ct:=hsub _ _ g_ct
    replace g_pr:=hsub _ _ g_pr
    replace g_px:=g_px.ext hsub
    nofun
    refine j_ixL g_nm (ap hnj) ?_
    nofun
    refine ⟨ns,sp,nm,ct,i1,rest,names,mine,counts,rfl,g_sp,g_nm,g_ct,q_nm,q_ct,hi1,by omega,by omega,by omega,Rn.nd,by omega,hc4,fun s i2 hbd hi2=>?_⟩
    nofun
    have h_pr:up S5 sp (.lst (.int i2::rest)) pr=some (.lst (ers.map Er.d)):=by rw [za8 (Ne.symm q_pr)];exact g_pr
    refine j_append h_pr (by rw [List.length_map];exact zas (by omega)) ?_
    have ee:ers.map Er.d++[D.tup [D.str nj,D.tup (mine.map D.str),s.d]]=(ers++[(⟨nj,mine,s⟩:Er)]).map Er.d:=by simp [Er.d]
    rw [ee]
    refine ⟨ers++[(⟨nj,mine,s⟩:Er)],i2,_,_,rfl,?_,?_,?_,?_,zab,(g_px.at).fresh f_pr,by simp [hl],hi2,?_,?_,?_⟩
    · rw [za8 q_pr];exact zab
    · rw [za8 r_nm,za8 (Ne.symm q_nm)];exact g_nm
    · rw [za8 r_pm,za8 (Ne.symm q_pm)];exact g_pm
    · rw [za8 r_ct,za8 (Ne.symm q_ct)];exact g_ct
    · rw [List.take_succ,hnj,List.map_append,en];rfl
    · rw [List.take_succ,hcn,List.map_append,ec]
      show counts.take j++[mine.length]=_
      rw [hmo.1]
      rfl
    · intro e he
      rcases List.mem_append.mp he with he|he
      · exact hk e he
      · rw [List.mem_singleton.mp he]
        exact ⟨by show 1≤mine.length;omega,by show mine.length≤4;omega,hmo.2.1,hmo.2.2,hbd⟩
  rintro σ S' ⟨ers,i1,x10,x11,rfl,g_sp,g_nm,g_pm,g_ct,g_pr,g_px,hl,hi1,en,ec,hk⟩
  rw [za2] at hl en ec
  rw [List.take_of_length_le (by omega)] at en ec
  nofun
  refine ⟨pr,_,sp,_,rfl,f_pr,by rw [hsp];simp,g_px.sub g_sp,g_pr,hq ers i1 ⟨by omega,by omega,?_,fun e he=>?_,fun e he=>?_,fun e he=>?_⟩ (by omega) hi1⟩
  · rw [en];exact Rn.nd
  · exact Rn.ok _ (by rw [←en];exact List.mem_map_of_mem he)
  · exact ⟨(hk e he).l1,(hk e he).l4,(hk e he).nd,(hk e he).ok⟩
  · rw [zp9 en ec];exact (hk e he).bd.mono (by decide) (by decide) (by decide)
inductive zoc  (ds:List D) (q:D→Prop):Prop where
  | mk (c n:Int) (_:ds=[.int c,.int n]) (_:0≤n) (_:n≤100) (_:∀t:Tre,(t.size:Int)≤n→q t.d)
def zgt :Sp3:=vS zoc
theorem zkq (ts:List Tre) (i:Nat) {t:Tre} (h:ts[i]?=some t):sizes (ts.take (i+1))=sizes (ts.take i)+t.size:=by
  rw [List.take_add_one,h,zak]
  simp [sizes]
theorem zn0 (x:D) (xs:List D):E3.cutD (x::xs) (some 1) none=xs:=show _ by
  unfold E3.cutD
  have e1:HT.sIx (x::xs).length 0 (some (1:Int))=1:=by
    have:=HT.zfw (x::xs).length 0 1
    rw [Nat.min_eq_left (by simp)] at this
    exact this
  rw [e1,HT.zeg]
  exact List.take_of_length_le (by rw [List.length_drop];omega)
theorem zk5 {k:Nat} (h:Has K mg "_law_tree_by" zc3 ["cell","room"]) (G:Gs K mg):Cal3 P w K mg base (k+1) "_law_tree_by" ["cell","room"] zgt:=show _ by
  refine h.val zbp (by rintro ds q ⟨c,n,e,_⟩;rw [e];rfl) fun f cdv A outer s0 H E ds q hr hA=>?_
  obtain ⟨c,n,rfl,h0,h1,hq⟩:=hA
  refine ⟨_,(zac (zal (i:=2) zbp.nd rfl (Or.inl rfl) (zdm (zaa zcv zae)))
 (zac (zal (i:=3) zbp.nd rfl (Or.inl rfl) (e_op zau zag (e_v 0) (e_op zin zag zad zad)))
 (zac (zeu PassesOwn.never rfl (zbw rfl G.range (zaa (e_v 1) zae)) (zcu (i:=4) zbp.nd rfl (Or.inl rfl)) (zac (zal (i:=5) zbp.nd rfl (Or.inl rfl) (e_op zau zag (e_v 3) zad))
 (zac (zal (i:=3) zbp.nd rfl (Or.inl rfl) (e_op za3 zag (e_v 3) zad))
 (zah (s_if (zap zbe zbr (e_v 5) zad (nomark _)) (zah (za4 (e_bm PySem.F.plainAttrs_list PySem.F.slot_list_append PySem.F.type_list_append zao zaq (e_v 2) (zaa zcv zae)))) (zah (s_if (PW3.pt (w_and (zap zbe zbr (e_v 5) zad (nomark _)) (zfk (zap zmv zce (zay zaj zby rfl G.len PySem.boot_len (zaa (e_v 2) zae)) zad (nomark _))))) (zac (zal (i:=6) zbp.nd rfl (Or.inl rfl) (ze0 PySem.F.plainAttrs_list PySem.F.slot_list_pop PySem.F.type_list_pop zcc zdb (e_v 2)))
 (zah (za4 (e_bm PySem.F.plainAttrs_list PySem.F.slot_list_append PySem.F.type_list_append zao zaq (e_v 2) (zaa (zbj (zaa (ze0 PySem.F.plainAttrs_list PySem.F.slot_list_pop PySem.F.type_list_pop zcc zdb (e_v 2)) (zaa (e_v 6) zae))) zae))))) (zah (s_if (zap zbe zbr (e_v 5) zad (nomark _)) (zah (za4 (e_bm PySem.F.plainAttrs_list PySem.F.slot_list_append PySem.F.type_list_append zao zaq (e_v 2) (zaa (zbj (zaa (ze0 PySem.F.plainAttrs_list PySem.F.slot_list_pop PySem.F.type_list_pop zcc zdb (e_v 2)) (zaa zcv zae))) zae)))) (zah (za4 (e_bm PySem.F.plainAttrs_list PySem.F.slot_list_append PySem.F.type_list_append zao zaq (e_v 2) (zaa (zbj (zaa zcv (zaa (ze0 PySem.F.plainAttrs_list PySem.F.slot_list_pop PySem.F.type_list_pop zcc zdb (e_v 2)) zae))) zae)))))))))))))
 (zac (zal (i:=7) zbp.nd rfl (Or.inl rfl) (e_ix zat zba (e_v 2) zad (fun _ _=>rfl)))
 (zac (zeu PassesOwn.never rfl (ziu (zbh zco zdr (e_v 2) (zbx zad) zb1)) (zcu (i:=8) zbp.nd rfl (Or.inl rfl)) (zah (zal (i:=7) zbp.nd rfl (Or.inl rfl) (zbj (zaa (e_v 7) (zaa (e_v 8) zae))))))
 (zah (zav (e_v 7)))))))),?_⟩
  nofun
  intro p hp
  nofun
  refine ⟨fun i σ S=>Ex7 fun (lf:Int) (ts:List Tre) (x4 x5 x6 x7 x8:Option D)=>σ=[some (.int c),some (.int n),some (.ref p),some (.int lf),x4,x5,x6,x7,x8]∧S p=some (.lst (ts.map Tre.d))∧1≤ts.length∧sizes ts+ts.length≤i+1,
    ⟨_,[.bud],none,none,none,none,none,rfl,zab,by simp,by simp [sizes,Tre.size]⟩,fun _ _ _ _=>trivial,?_,?_⟩
  · rintro i d σ S hd ⟨lf,ts,x4,x5,x6,x7,x8,rfl,hS,one,few⟩
    obtain ⟨hi,rfl⟩:=zca hd
    have hlen:(ts.map Tre.d).length+5<sizeLine:=by rw [List.length_map];exact Nat.lt_of_le_of_lt (by omega:ts.length+5≤3003) (by decide)
    have put:∀(us:List Tre) (u:Tre),((us.map Tre.d)++[u.d])=(us++[u]).map Tre.d:=fun us u=>by simp
    by_cases c0:lf%4=0
    · nofun
      refine j_append hS (by omega) ?_
      nofun
      refine ⟨_,ts++[.bud],_,_,_,_,_,rfl,by rw [zab,←put];rfl,by simp,?_⟩
      rw [zak]
      simp only [sizes,Tre.size,List.length_append,List.length_cons,List.length_nil]
      omega
    · rcases snoc_cases ts with rfl|⟨ts,ty,rfl⟩
      · simp at one
      have hS1:=hS
      rw [←put] at hS1
      clear hS
      rw [zak] at few
      simp only [sizes,List.length_append,List.length_cons,List.length_nil,List.length_map] at few hlen
      by_cases hc:lf%4=1∧1<((ts.map Tre.d++[ty.d]).length:Int)
      · obtain ⟨c1,c2⟩:=hc
        rcases snoc_cases ts with rfl|⟨ts,tz,rfl⟩
        · simp at c2
        rw [zak] at few
        simp only [sizes,List.length_append,List.length_cons,List.length_nil] at few hlen
        nofun
        refine j_pop hS1 ?_
        have hS2:up S p (.lst ((ts++[tz]).map Tre.d)) p=some (.lst (ts.map Tre.d++[tz.d])):=by rw [zab,put]
        nofun
        refine j_pop hS2 ?_
        rw [zfd]
        nofun
        refine j_append zab (by rw [List.length_map];omega) ?_
        rw [zfd]
        nofun
        refine ⟨_,ts++[.pair tz ty],_,_,_,_,_,rfl,by rw [zab,←put];rfl,by simp,?_⟩
        rw [zak]
        simp only [sizes,Tre.size,List.length_append,List.length_cons,List.length_nil]
        omega
      · have fin:∀u:Tre,u.size=ty.size+1→up S p (.lst (ts.map Tre.d++[u.d])) p=some (.lst ((ts++[u]).map Tre.d))∧1≤(ts++[u]).length∧sizes (ts++[u])+(ts++[u]).length≤i+1+1:=by
          intro u hu
          refine ⟨by rw [zab,put],by simp,?_⟩
          rw [zak]
          simp only [sizes,List.length_append,List.length_cons,List.length_nil]
          omega
        by_cases c1:lf%4=1
        case' pos =>
          have c2:¬1<((ts.map Tre.d++[ty.d]).length:Int):=fun z=>hc ⟨c1,z⟩
          have c3:¬lf%4=2:=by omega
        case' neg=>by_cases c3:lf%4=2
        all_goals
          nofun
          refine j_pop hS1 ?_
          nofun
          refine j_append zab (by rw [List.length_map];omega) ?_
          rw [zfd]
          nofun
        all_goals first|exact ⟨_,ts++[Tre.pair Tre.bud ty],_,_,_,_,_,rfl,fin (Tre.pair Tre.bud ty) (by simp [Tre.size])⟩|exact ⟨_,ts++[Tre.pair ty Tre.bud],_,_,_,_,_,rfl,fin (Tre.pair ty Tre.bud) (by simp [Tre.size])⟩
  · rintro σ S ⟨lf,ts,x4,x5,x6,x7,x8,rfl,hS,one,few⟩
    rw [za2] at few
    match ts,one with
    | t0::tr,_ =>
      simp only [sizes,List.length_cons] at few
      rw [List.map_cons] at hS
      nofun
      intro p2 hp2
      have hS2:=zaf (o:=.lst (E3.cutD (t0.d::tr.map Tre.d) (some 1) none)) hS hp2
      have ecut:E3.cutD (t0.d::tr.map Tre.d) (some 1) none=tr.map Tre.d:=zn0 _ _
      rw [ecut] at hS2 ⊢
      have hS3:up S p2 (.lst (tr.map Tre.d)) p2=some (.lst (tr.map Tre.d)):=zab
      generalize up S p2 (.lst (tr.map Tre.d))=S2 at hS2 hS3 ⊢
      nofun
      refine ⟨fun i σ S=>S=S2∧Ex2 fun (t:Tre) (x8:Option D)=>σ=[some (.int c),some (.int n),some (.ref p),some (.int lf),x4,x5,x6,some t.d,x8]∧t.size≤t0.size+sizes (tr.take i)+i,⟨rfl,t0,x8,rfl,by simp [sizes]⟩,fun i σ S ⟨e,_⟩=>by rw [e];exact hS3,?_,?_⟩
      · rintro i d σ S hd ⟨rfl,t,x8,rfl,hz⟩
        obtain ⟨ti,hti,rfl⟩:∃ti,tr[i]?=some ti∧d=ti.d:=by
          rw [List.getElem?_map] at hd
          cases c:tr[i]? with
          | none=>rw [c] at hd;cases hd
          | some e=>rw [c] at hd;cases hd;exact ⟨e,rfl,rfl⟩
        nofun
        refine ⟨rfl,.pair t ti,_,rfl,?_⟩
        rw [zkq _ _ hti]
        simp only [Tre.size]
        omega
      · rintro σ S ⟨rfl,t,x8,rfl,hz⟩
        rw [List.length_map,List.take_length] at hz
        nofun
        exact hq t (by omega)
inductive zrt  (ds:List D) (S:Hp3) (q:List D→Addr→O→Prop):Prop where
  | mk (ns:List Int) (sp:Addr) (i n:Int) (rest:List D) (_:ds=[.rol (ns.map D.int),.ref sp,.int n]) (_:S sp=some (.lst (.int i::rest))) (_:0≤i) (_:0≤n) (_:n≤100) (_:∀(ts:List Tre) (i2:Int),ts.length=n.toNat→(∀t∈ts,t.size≤6)→0≤i2→q (ts.map Tre.d) sp (.lst (.int i2::rest)))
def zj3 :Sp3:=wrL zrt
theorem zo8 {k:Nat} (h:Has K mg "_law_trees" zes ["script","spot","many"]) (G:Gs K mg) (C_next:Cal3 P w K mg base k "_law_next" ["script","spot"] zd3) (C_tree_by:Cal3 P w K mg base k "_law_tree_by" ["cell","room"] zgt):Cal3 P w K mg base (k+1) "_law_trees" ["script","spot","many"] zj3:=show _ by
  refine h.wrL zfh (by rintro ds S q ⟨_,_,_,_,_,e,_⟩;rw [e];rfl) fun f cdv A outer s H E ds S q hr hA=>?_
  obtain ⟨ns,sp,i,n,rest,rfl,hsp,hi,n0,n1,hq⟩:=hA
  refine ⟨_,(zac (zal (i:=3) zfh.nd rfl (Or.inl rfl) (zdm zae))
 (zac (zeu PassesOwn.never rfl (zbw rfl G.range (zaa (e_v 2) zae)) (zcu (i:=4) zfh.nd rfl (Or.inl rfl)) (zac (zal (i:=5) zfh.nd rfl (Or.inl rfl) (zai C_next hr rfl (zaa (e_v 0) (zaa (e_v 1) zae))))
 (zah (za4 (e_bm PySem.F.plainAttrs_list PySem.F.slot_list_append PySem.F.type_list_append zao zaq (e_v 3) (zaa (zai C_tree_by hr rfl (zaa (e_op za3 zag (e_v 5) zad) (zaa (e_op zau zag (e_v 5) zad) zae))) zae))))))
 (zah (zav (e_v 3))))),?_⟩
  nofun
  intro pf hpf
  have q_sp:sp≠pf:=ne3 hsp hpf
  nofun
  refine ⟨fun j σ S'=>Ex4 fun (ts:List Tre) (i2:Int) (x4 x5:Option D)=>σ=[some (.rol (ns.map D.int)),some (.ref sp),some (.int n),some (.ref pf),x4,x5]∧ts.length=j∧(∀t∈ts,t.size≤6)∧0≤i2∧S' sp=some (.lst (.int i2::rest))∧S' pf=some (.lst (ts.map Tre.d))∧Px sp S S',
    ⟨[],i,none,none,rfl,rfl,by simp,hi,zaf hsp hpf,zab,(Px.refl sp S).new hpf⟩,fun _ _ _ _=>trivial,?_,?_⟩
  · rintro j d σ S' hd ⟨ts,i2,x4,x5,rfl,hl,hz,h2,g1,g2,gp⟩
    have hj:=(List.getElem?_eq_some_iff.mp hd).1
    rw [za2] at hj
    nofun
    refine ⟨ns,sp,i2,rest,rfl,g1,h2,?_⟩
    have g3:=zaz (o:=.lst (.int (i2+1)::rest)) g2 q_sp.symm
    have g4:up S' sp (.lst (.int (i2+1)::rest)) sp=some (.lst (.int (i2+1)::rest)):=zab
    have gp2:Px sp S (up S' sp (.lst (.int (i2+1)::rest))):=gp.at
    generalize up S' sp (.lst (.int (i2+1)::rest))=S2 at g3 g4 gp2 ⊢
    generalize cellAt ns i2=c
    have c0:=Int.emod_nonneg c (show (7:Int)≠0 by decide)
    have c1:=Int.emod_lt_of_pos c (show (0:Int)<7 by decide)
    nofun
    refine ⟨_,_,rfl,c0,by omega,fun t ht=>?_⟩
    nofun
    refine j_append g3 (zas (by rw [List.length_map];omega)) ?_
    nofun
    refine ⟨ts++[t],i2+1,_,_,rfl,by simp [hl],fun u hu=>?_,by omega,zaz g4 q_sp,by rw [zab,List.map_append];rfl,gp2.fresh hpf⟩
    rcases List.mem_append.mp hu with hu|hu
    · exact hz u hu
    · rw [List.mem_singleton.mp hu];omega
  · rintro σ S' ⟨ts,i2,x4,x5,rfl,hl,hz,h2,g1,g2,gp⟩
    rw [za2] at hl
    nofun
    exact ⟨pf,_,sp,_,rfl,hpf,by rw [hsp];simp,gp.sub g1,g2,hq ts i2 (by omega) hz h2⟩
inductive zrs  (ds:List D) (q:D→Prop):Prop where
  | mk (i:Int) (_:ds=[.int i]) (_:q (.bl true))
def zj2 :Sp3:=vS zrs
theorem zo7 {k:Nat} (h:Has K mg "_law_whole" zer ["found"]) (G:Gs K mg):Cal3 P w K mg base (k+1) "_law_whole" ["found"] zj2:=show _ by
  refine h.val zok (by rintro ds q ⟨i,e,_⟩;rw [e];rfl) fun f cdv A outer s0 H E ds q hr hA=>?_
  obtain ⟨i,rfl,hq⟩:=hA
  refine ⟨_,(zah (zav (e_and (zay zen zi0 rfl G.isinstance boot_isinstance (zaa (e_v 0) (zaa (ziy (n:="int") rfl G.int boot_int) zae))) (e_one (e_not (zay zen zi0 rfl G.isinstance boot_isinstance (zaa (e_v 0) (zaa (ziy (n:="bool") rfl G.bool boot_bool) zae)))))))),?_⟩
  nofun
  exact hq
inductive zof  (ds:List D) (q:D→Prop):Prop where
  | mk (t:Tre) (n:Int) (_:ds=[t.d,.int n]) (_:(t.size:Int)≤n) (_:t.size≤1000) (_:q (.bl true))
def zgw :Sp3:=vS zof
theorem zk7 {k:Nat} (h:Has K mg "_law_is_tree" zc4 ["found","room"]) (G:Gs K mg):Cal3 P w K mg base (k+1) "_law_is_tree" ["found","room"] zgw:=show _ by
  refine h.val zdu (by rintro ds q ⟨t,n,e,_⟩;rw [e];rfl) fun f cdv A outer s0 H E ds q hr hA=>?_
  obtain ⟨t,n,rfl,hn,hz,hq⟩:=hA
  refine ⟨_,(zac (zal (i:=2) zdu.nd rfl (Or.inl rfl) (zdm (zaa (e_v 0) zae)))
 (zac (zhs PassesOwn.never (zhi (e_v 2) (fun _=>rfl)) (zac (zal (i:=3) zdu.nd rfl (Or.inl rfl) (ze0 PySem.F.plainAttrs_list PySem.F.slot_list_pop PySem.F.type_list_pop zcc zdb (e_v 2)))
 (zah (s_if (zap zms znq (e_v 3) zcv (nomark _)) (zac (s_if (PW3.pt (w_or (zlz (zkp (zay zen zi0 rfl G.isinstance boot_isinstance (zaa (e_v 3) (zaa (ziy (n:="tuple") rfl G.tuple boot_tuple) zae))))) (w_or (zap zmt znr (zay zaj zby rfl G.len PySem.boot_len (zaa (e_v 3) zae)) zad (nomark _)) (zic (zap zbe zbr (e_v 1) zad (nomark _)))))) (zah (zav e_bl)) zbc)
 (zac (zal (i:=1) zdu.nd rfl (Or.inl rfl) (e_op ze9 zbz (e_v 1) zad))
 (zac (za4 (e_bm PySem.F.plainAttrs_list PySem.F.slot_list_append PySem.F.type_list_append zao zaq (e_v 2) (zaa (e_ix zam zan (e_v 3) zad (fun _ _=>rfl)) zae)))
 (zah (za4 (e_bm PySem.F.plainAttrs_list PySem.F.slot_list_append PySem.F.type_list_append zao zaq (e_v 2) (zaa (e_ix zam zan (e_v 3) zad (fun _ _=>rfl)) zae))))))) zbc))))
 (zah (zav e_bl)))),?_⟩
  nofun
  intro p hp
  nofun
  refine j_while (fun m σ S=>Ex3 fun (n:Int) (ts:List Tre) (x3:Option D)=>σ=[some t.d,some (.int n),some (.ref p),x3]∧S p=some (.lst (ts.map Tre.d))∧(sizes ts:Int)≤n∧m=2*sizes ts+ts.length∧m≤2*t.size+1) (2*t.size+1)
    ⟨n,[t],none,rfl,zab,by simpa [sizes] using hn,by simp [sizes],Nat.le_refl _⟩ ?_
  rintro m σ S ⟨n,ts,x3,rfl,hl,hk,hm,hmb⟩
  nofun
  rcases snoc_cases ts with rfl|⟨ts,t',rfl⟩
  · nofun
    exact hq
  · have eb:(!((ts++[t']).map Tre.d).isEmpty)=true:=by simp
    rw [eb]
    refine iteT ?_
    rw [zak] at hk hm
    simp only [sizes,List.length_append,List.length_cons,List.length_nil] at hk hm
    rw [List.map_append] at hl
    nofun
    refine j_pop hl ?_
    have hp1:up S p (.lst (ts.map Tre.d)) p=some (.lst (ts.map Tre.d)):=zab
    generalize up S p (.lst (ts.map Tre.d))=S1 at hp1 ⊢
    nofun
    cases t' with
    | bud =>
      refine iteBf rfl ?_
      simp only [Tre.size] at hk hm
      nofun
      exact ⟨_,by omega,n,ts,_,rfl,hp1,by omega,rfl,by omega⟩
    | pair l r =>
      refine iteBt rfl ?_
      simp only [Tre.size] at hk hm
      have e:(Tre.pair l r).d=.tup [l.d,r.d]:=rfl
      rw [e]
      have hn0:¬n=0:=by omega
      nofun
      have hlen:(ts.map Tre.d).length+2<sizeLine:=by rw [List.length_map];exact Nat.lt_of_le_of_lt (by omega:ts.length+2≤3003) (by decide)
      refine j_append hp1 (by omega) ?_
      nofun
      refine j_append zab (by simp only [List.length_append,List.length_cons,List.length_nil];omega) ?_
      rw [zfd]
      nofun
      refine ⟨_,?_,n-1,ts++[l]++[r],_,rfl,?_,?_,rfl,?_⟩
      · rw [zak,zak]
        simp only [sizes,List.length_append,List.length_cons,List.length_nil]
        omega
      · rw [zab,List.map_append,List.map_append]
        rfl
      · rw [zak,zak]
        simp only [sizes]
        omega
      · rw [zak,zak]
        simp only [sizes,List.length_append,List.length_cons,List.length_nil]
        omega
inductive zrz (n:Nat) (ds:List D) (q:D→Prop):Prop where
  | mk (t:Tre) (_:ds=[t.d]) (_:t.deep<n) (_:q (.int t.size))
def zhn (n:Nat):Sp3:=vS (zrz n)
theorem zj9 (h:Has K mg "_law_count" zew ["tree"]):∀n:Nat,Cal3 P w K mg base n "_law_count" ["tree"] (zhn n)
  | 0=>h.none3 (by rintro ds S Q E ⟨t,_,z,_⟩;omega) 0
  | n+1=>by
    have C_count:=zj9 h n
    refine h.val zom (by rintro ds q ⟨t,e,_⟩;rw [e];rfl) fun f cdv A outer s0 H E ds q hr hA=>?_
    obtain ⟨t,rfl,hd,hq⟩:=hA
    refine ⟨_,(zac (s_if (zap zf0 zgd (e_v 0) zcv (nomark _)) (zah (zav zad)) zbc)
 (zah (zav (e_op zda zbz (e_op zda zbz zad (zai C_count hr rfl (zaa (e_ix zam zan (e_v 0) zad (fun _ _=>rfl)) zae))) (zai C_count hr rfl (zaa (e_ix zam zan (e_v 0) zad (fun _ _=>rfl)) zae)))))),?_⟩
    nofun
    cases t with
    | bud =>
      refine iteBt rfl ?_
      nofun
      exact hq
    | pair l r =>
      refine iteBf rfl ?_
      have e:(Tre.pair l r).d=.tup [l.d,r.d]:=rfl
      rw [e]
      simp only [Tre.deep] at hd
      nofun
      refine ⟨l,rfl,by omega,?_⟩
      nofun
      refine ⟨r,rfl,by omega,?_⟩
      nofun
      have e:(1+(l.size:Int)+(r.size:Int))=((Tre.pair l r).size:Int):=show _ by
        simp only [Tre.size]
        omega
      rw [e]
      exact hq
inductive PtD:D→List D→Prop
  | name (x:Str):PtD (.tup [.str "name",.str x]) []
  | bud:PtD (.tup [.str "bud"]) []
  | pair (a b:D):PtD (.tup [.str "pair",a,b]) [a,b]
  | left (a:D):PtD (.tup [.str "left",a]) [a]
  | right (a:D):PtD (.tup [.str "right",a]) [a]
  | fork (a b c:D):PtD (.tup [.str "fork",a,b,c]) [a,b,c]
  | send (x:Str) (is r:List D):PtD (.tup (.str "send"::.str x::.tup is::r)) is
theorem PtD.of:∀s:Sy,PtD s.d (s.parts.map Sy.d)
  | .name x=>.name x
  | .bud=>.bud
  | .pair a b=>.pair _ _
  | .left a=>.left _
  | .right a=>.right _
  | .fork a b c=>.fork _ _ _
  | .send x as=>by rw [Sy.d,Sy.ds_map];exact .send x _ []
inductive zpp  (ds:List D) (q:D→Prop):Prop where
  | mk (s:_) (ps:_) (_:ds=[s]) (_:PtD s ps) (_:q (.tup ps))
def zfn :Sp3:=vS zpp
inductive zrv  (ds:List D) (q:D→Prop):Prop where
  | mk (s:Sy) (_:ds=[s.d]) (_:q (.tup (s.parts.map Sy.d)))
def zhl :Sp3:=vS zrv
theorem zo9 {k:Nat} (h:Has K mg "parts" zet ["saying"]) (G:Gs K mg):Cal3 P w K mg base (k+1) "parts" ["saying"] zfn:=show _ by
  refine h.val zol (by rintro ds q ⟨s,ps,e,_⟩;rw [e];rfl) fun f cdv A outer s0 H E ds q hr hA=>?_
  obtain ⟨s,ps,rfl,hp,hq⟩:=hA
  refine ⟨_,(zac (s_if (zap zmu dn_in (e_ix zam zan (e_v 0) zad (fun _ _=>rfl)) (zbj (zaa zax (zaa zax zae))) (by with_unfolding_all rfl)) (zah (zav (zbj zae))) zbc)
 (zac (s_if (zap zbe zb2 (e_ix zam zan (e_v 0) zad (fun _ _=>rfl)) zax (nomark _)) (zah (zav (e_ix zam zan (e_v 0) zad (fun _ _=>rfl)))) zbc)
 (zah (zav (zbh zhq zki (e_v 0) (zbx zad) zb1))))),?_⟩
  cases hp<;>(nofun;exact hq)
theorem zj8 {k:Nat} (C:Cal3 P w K mg base k "parts" ["saying"] zfn):Cal3 P w K mg base k "parts" ["saying"] zhl:=C.imp fun _ _ _ _ ⟨s,e,q⟩=>⟨s.d,_,e,PtD.of s,q⟩
inductive zlq  (ds:List D) (q:List D→Prop):Prop where
  | mk (s:Sy) (_:ds=[s.d]) (_:s.pre.length≤100000) (_:q (s.pre.map Sy.d))
def zfp :Sp3:=lSt zlq
theorem zji {k:Nat} (h:Has K mg "in_order" zck ["body"]) (G:Gs K mg) (C_parts:Cal3 P w K mg base k "parts" ["saying"] zhl):Cal3 P w K mg base (k+1) "in_order" ["body"] zfp:=show _ by
  refine h.lst zcp (by rintro ds q ⟨s,e,_⟩;rw [e];rfl) fun f cdv A outer s0 H E ds q hr hA=>?_
  obtain ⟨s,rfl,hz,hq⟩:=hA
  refine ⟨_,(zac (zal (i:=1) zcp.nd rfl (Or.inl rfl) (zdm zae))
 (zac (zal (i:=2) zcp.nd rfl (Or.inl rfl) (zdm (zaa (e_v 0) zae)))
 (zac (zhs PassesOwn.never (zhi (e_v 2) (fun _=>rfl)) (zac (zal (i:=3) zcp.nd rfl (Or.inl rfl) (ze0 PySem.F.plainAttrs_list PySem.F.slot_list_pop PySem.F.type_list_pop zcc zdb (e_v 2)))
 (zac (za4 (e_bm PySem.F.plainAttrs_list PySem.F.slot_list_append PySem.F.type_list_append zao zaq (e_v 1) (zaa (e_v 3) zae)))
 (zah (zeu PassesOwn.never rfl (i_rev rfl G.reversed (zaa (zai C_parts hr rfl (zaa (e_v 3) zae)) zae)) (zcu (i:=4) zcp.nd rfl (Or.inl rfl)) (zah (za4 (e_bm PySem.F.plainAttrs_list PySem.F.slot_list_append PySem.F.type_list_append zao zaq (e_v 2) (zaa (e_v 4) zae)))))))))
 (zah (zav (e_v 1)))))),?_⟩
  nofun
  intro pf hpf
  nofun
  intro pe hpe
  have hne:pf≠pe:=ne3 zab hpe
  nofun
  refine j_while (fun m σ S=>Ex4 fun (fs ps:List Sy) (x3 x4:Option D)=>σ=[some s.d,some (.ref pf),some (.ref pe),x3,x4]∧S pf=some (.lst (fs.map Sy.d))∧S pe=some (.lst (ps.map Sy.d))∧fs++Sy.pres ps.reverse=s.pre∧m=(Sy.pres ps.reverse).length)
    _ ⟨[],[s],none,none,rfl,zaf zab hpe,zab,by simp [Sy.pres],rfl⟩ ?_
  rintro m σ S ⟨fs,ps,x3,x4,rfl,hf,he,hfs,rfl⟩
  nofun
  rcases snoc_cases ps with rfl|⟨ps',s',rfl⟩
  · refine iteF ?_
    nofun
    refine ⟨pf,_,rfl,hf,?_⟩
    have e:fs=s.pre:=by simpa [Sy.pres] using hfs
    rw [e]
    exact hq
  · have eb:(!((ps'++[s']).map Sy.d).isEmpty)=true:=by simp
    rw [eb]
    refine iteT ?_
    have hlen:=congrArg List.length hfs
    rw [List.length_append] at hlen
    have er:(ps'++[s']).reverse=s'::ps'.reverse:=by simp
    rw [er,Sy.pres,Sy.pre_parts] at hfs hlen
    simp only [List.length_append,List.length_cons] at hlen
    have he':S pe=some (.lst (ps'.map Sy.d++[s'.d])):=by rw [he];simp
    nofun
    refine j_pop he' ?_
    nofun
    have hf1:up S pe (.lst (ps'.map Sy.d)) pf=some (.lst (fs.map Sy.d)):=by rw [za8 hne];exact hf
    refine j_tyL hf1 ?_
    nofun
    refine j_append hf1 (by rw [List.length_map];exact zas (by omega)) ?_
    nofun
    refine ⟨s',rfl,?_⟩
    nofun
    refine ⟨fun i σ S'=>∃x4,σ=[some s.d,some (.ref pf),some (.ref pe),some s'.d,x4]∧S' pf=some (.lst ((fs++[s']).map Sy.d))∧S' pe=some (.lst (ps'.map Sy.d++((s'.parts.map Sy.d).reverse).take i)),
      ⟨x4,rfl,by rw [zab];simp,?_⟩,fun _ _ _ _=>trivial,?_,?_⟩
    · rw [za8 (Ne.symm hne),zab];simp
    · rintro i d σ S' hd ⟨y4,rfl,g1,g2⟩
      have hi:=(List.getElem?_eq_some_iff.mp hd).1
      rw [List.length_reverse,List.length_map] at hi
      have hpl:s'.parts.length≤(Sy.pres s'.parts).length:=by
        generalize s'.parts=l
        induction l with
        | nil=>simp
        | cons a r ih=>rw [Sy.pres,Sy.pre_parts];simp;omega
      nofun
      refine j_append g2 ?_ ?_
      · rw [List.length_append,List.length_take,List.length_reverse,List.length_map,List.length_map]
        have:ps'.length≤(Sy.pres ps'.reverse).length:=by
          have:∀l:List Sy,l.length≤(Sy.pres l).length:=fun l=>by
            induction l with
            | nil=>simp
            | cons a r ih=>rw [Sy.pres,Sy.pre_parts];simp;omega
          have:=this ps'.reverse
          simpa using this
        exact zas (by omega)
      refine ⟨_,rfl,by rw [za8 hne];exact g1,?_⟩
      rw [zab,List.take_succ,hd,List.append_assoc]
      rfl
    · rintro σ S' ⟨y4,rfl,g1,g2⟩
      refine ⟨_,?_,fs++[s'],ps'++s'.parts.reverse,_,_,rfl,g1,?_,?_,rfl⟩
      · simp only [List.reverse_append,List.reverse_reverse,List.reverse_cons,List.reverse_nil,List.nil_append,List.singleton_append,Sy.pres_append,Sy.pres,Sy.pre_parts s',List.length_append,List.length_cons,List.length_nil]
        omega
      · rw [g2,List.take_of_length_le (by simp),List.map_append,List.map_reverse]
      · rw [←hfs]
        simp [Sy.pres_append]
inductive zfe  (ds:List D) (S:Hp3) (q:D→Prop):Prop where
  | mk (x:Str) (y:D) (_:ds=[.str x,y]) (_:((∃xs:List Str,y=.tup (xs.map D.str)∧x∈xs)∨∃a kvs,y=.ref a∧S a=some (.dic kvs)∧(valD kvs (.inr x)).isSome=true)) (_:q .non)
def zc1 :Sp3:=rdV zfe
theorem zex {k:Nat} (h:Has K mg "refuse_missing" zbb ["name","known"]):Cal3 P w K mg base (k+1) "refuse_missing" ["name","known"] zc1:=show _ by
  refine h.rdV zep (by rintro ds S q ⟨x,y,e,_⟩;rw [e];rfl) fun f cdv A outer s0 H E ds S q hr hA=>?_
  obtain ⟨x,y,rfl,hy,hq⟩:=hA
  have hu:=ziv hr
  refine ⟨_,(zah (s_if (zqb hu (e_v 0) (e_v 1)) (zah zmd) zbc)),?_⟩
  rcases hy with ⟨xs,rfl,hx⟩|⟨a,kvs,rfl,ha,hv⟩
  · nofun
    exact ⟨Sub.refl _,hq⟩
  · nofun
    rw [hv]
    nofun
    exact ⟨Sub.refl _,hq⟩
inductive zd9  (ds:List D) (S:Hp3) (q:D→Prop):Prop where
  | mk (x:Str) (a:Addr) (xs:List D) (_:ds=[.str x,.ref a,.int (xs.length:Int)]) (_:S a=some (.lst xs)) (_:q .non)
def zcf :Sp3:=rdV zd9
theorem zdz {k:Nat} (h:Has K mg "refuse_miscounted" zaw ["name","row","needed"]) (G:Gs K mg):Cal3 P w K mg base (k+1) "refuse_miscounted" ["name","row","needed"] zcf:=show _ by
  refine h.rdV zcg (by rintro ds S q ⟨x,a,xs,e,_⟩;rw [e];rfl) fun f cdv A outer s0 H E ds S q hr hA=>?_
  obtain ⟨x,a,xs,rfl,hS,hq⟩:=hA
  refine ⟨_,(zac (zal (i:=3) zcg.nd rfl (Or.inl rfl) (zay zaj zby rfl G.len PySem.boot_len (zaa (e_v 1) zae)))
 (zah (s_if (zap zmt znr (e_v 3) (e_v 2) (nomark _)) (zah zmd) zbc))),?_⟩
  nofun
  exact ⟨Sub.refl _,hq⟩
inductive P_size  (ds:List D) (q:D→Prop):Prop where
  | mk (t:Tre) (_:ds=[t.d]) (_:t.size≤1000) (_:q (.int t.size))
def zl1 :Sp3:=vS P_size
theorem zq8 {k:Nat} (h:Has K mg "size" zg0 ["tree"]) (G:Gs K mg):Cal3 P w K mg base (k+1) "size" ["tree"] zl1:=show _ by
  refine h.val zfq (by rintro ds q ⟨t,e,_⟩;rw [e];rfl) fun f cdv A outer s0 H E ds q hr hA=>?_
  obtain ⟨t,rfl,hz,hq⟩:=hA
  refine ⟨_,(zac (zal (i:=1) zfq.nd rfl (Or.inl rfl) zad)
 (zac (zal (i:=2) zfq.nd rfl (Or.inl rfl) (zdm (zaa (e_v 0) zae)))
 (zac (zhs PassesOwn.never (zhi (e_v 2) (fun _=>rfl)) (zac (zal (i:=3) zfq.nd rfl (Or.inl rfl) (ze0 PySem.F.plainAttrs_list PySem.F.slot_list_pop PySem.F.type_list_pop zcc zdb (e_v 2)))
 (zah (s_if (zap zms znq (e_v 3) zcv (nomark _)) (zac (zqh (i:=1) zfq.nd rfl (Or.inl rfl) zad zpx)
 (zah (za4 (e_bm PySem.F.plainAttrs_list PySem.F.slot_list_extend PySem.F.type_list_extend zld zlm (e_v 2) (zaa (e_v 3) zae))))) zbc))))
 (zah (zav (e_v 1)))))),?_⟩
  nofun
  intro p hp
  nofun
  refine j_while (fun m σ S=>Ex3 fun (n:Int) (ts:List Tre) (x3:Option D)=>σ=[some t.d,some (.int n),some (.ref p),x3]∧S p=some (.lst (ts.map Tre.d))∧n+sizes ts=t.size∧m=2*sizes ts+ts.length∧m≤2*t.size+1) (2*t.size+1)
    ⟨0,[t],none,rfl,zab,by simp [sizes],by simp [sizes],Nat.le_refl _⟩ ?_
  rintro m σ S ⟨n,ts,x3,rfl,hl,hk,hm,hmb⟩
  nofun
  rcases snoc_cases ts with rfl|⟨ts,t',rfl⟩
  · nofun
    have e:n=t.size:=by simpa [sizes] using hk
    rw [e]
    exact hq
  · have eb:(!((ts++[t']).map Tre.d).isEmpty)=true:=by simp
    rw [eb]
    refine iteT ?_
    rw [zak] at hk hm
    simp only [sizes,List.length_append,List.length_cons,List.length_nil] at hk hm
    rw [List.map_append] at hl
    nofun
    refine j_pop hl ?_
    have hp1:up S p (.lst (ts.map Tre.d)) p=some (.lst (ts.map Tre.d)):=zab
    generalize up S p (.lst (ts.map Tre.d))=S1 at hp1 ⊢
    nofun
    cases t' with
    | bud =>
      refine iteBf rfl ?_
      simp only [Tre.size] at hk hm
      nofun
      exact ⟨_,by omega,n,ts,_,rfl,hp1,by omega,rfl,by omega⟩
    | pair l r =>
      refine iteBt rfl ?_
      simp only [Tre.size] at hk hm
      have e:(Tre.pair l r).d=.tup [l.d,r.d]:=rfl
      rw [e]
      nofun
      refine j_extendT hp1 ?_ ?_
      · rw [List.length_map]
        exact zbi (by simp only [List.length_cons,List.length_nil];omega)
      nofun
      refine ⟨_,?_,n+1,ts++[l]++[r],_,rfl,?_,?_,rfl,?_⟩
      · rw [zak,zak]
        simp only [sizes,List.length_append,List.length_cons,List.length_nil]
        omega
      · rw [zab,List.map_append,List.map_append,List.append_assoc]
        rfl
      · rw [zak,zak]
        simp only [sizes]
        omega
      · rw [zak,zak]
        simp only [sizes,List.length_append,List.length_cons,List.length_nil]
        omega
noncomputable def Sy.isS:Sy→Bool
  | .send _ _=>true
  | _=>false
noncomputable def cntS (xs:List Sy):Int:=((xs.filter Sy.isS).length:Nat)
inductive zib  (ds:List D) (S:Hp3) (q:D→Prop):Prop where
  | mk (po:Addr) (xs:List Sy) (_:ds=[.ref po]) (_:S po=some (.lst (xs.map Sy.d))) (_:xs.length≤100000) (_:q (.int (cntS xs)))
def zcy :Sp3:=rdV zib
theorem zgn {k:Nat} (h:Has K mg "count_sends" zbl ["order"]) (G:Gs K mg):Cal3 P w K mg base (k+1) "count_sends" ["order"] zcy:=show _ by
  refine h.rdV zgm (by rintro ds S q ⟨po,xs,e,_⟩;rw [e];rfl) fun f cdv A outer s0 H E ds S q hr hA=>?_
  obtain ⟨po,xs,rfl,hS,hz,hq⟩:=hA
  refine ⟨_,(zah (zav (zay zaj zby rfl G.len PySem.boot_len (zaa (zrl (osc:=defScope zbl) (N:=["order"]) (M:=[]) (js:=[]) ⟨rfl,by decide +kernel,by decide +kernel,by decide +kernel,by decide +kernel,by decide +kernel,by decide +kernel⟩ (by decide +kernel) rfl (ziu (e_v 0)) (fun _ _ _ _ _=>(ts_one (zap zbe zb2 (e_ix zam zan (e_v 0) zad (fun _ _=>rfl)) zax (nomark _)))) (fun _ _ _ _ _=>(e_v 0))) zae)))),?_⟩
  nofun
  refine ⟨fun i ys S'=>S'=S∧ys=((xs.take i).filter Sy.isS).map Sy.d,⟨rfl,rfl⟩,?_,?_,?_⟩
  · rintro i ys S' ⟨rfl,rfl⟩
    refine ⟨hS,?_⟩
    rw [List.length_map]
    have:=List.length_filter_le Sy.isS (xs.take i)
    have:(xs.take i).length≤xs.length:=by rw [List.length_take];omega
    exact zas (by omega)
  · rintro i d ys S' hd ⟨rfl,rfl⟩
    rw [List.getElem?_map] at hd
    obtain ⟨s,hs,rfl⟩:=Option.map_eq_some_iff.mp hd
    have htk:xs.take (i+1)=xs.take i++[s]:=by rw [List.take_succ,hs];rfl
    refine ⟨_,rfl,?_⟩
    cases s<;>(simp only [Sy.d];nofun;exact ⟨rfl,by rw [htk,List.filter_append,List.map_append];first|rfl|exact (List.append_nil _).symm⟩)
  · rintro ys S' ⟨rfl,rfl⟩
    rw [List.length_map,List.take_length]
    intro p hp
    nofun
    rw [List.length_map]
    exact ⟨(Sub.refl _).up hp,hq⟩
noncomputable def stepN:List D×Int→Sy→Option (List D×Int)
  | (st,l),.name x=>some (.tup [.str "name",.str x]::st,l)
  | (st,l),.bud=>some (.tup [.str "bud"]::st,l)
  | (a::b::st,l),.pair _ _=>some (.tup [.str "pair",a,b]::st,l)
  | (a::st,l),.left _=>some (.tup [.str "left",a]::st,l)
  | (a::st,l),.right _=>some (.tup [.str "right",a]::st,l)
  | (a::b::c::st,l),.fork _ _ _=>some (.tup [.str "fork",a,b,c]::st,l)
  | (st,l),.send x as=>if as.length≤st.length then some (.tup [.str "send",.str x,.tup (st.take as.length),.int (l-1)]::st.drop as.length,l-1) else none
  | _,_=>none
noncomputable def foldN:List D×Int→List Sy→Option (List D×Int)
  | a,[]=>some a
  | a,s::r=>match stepN a s with
    | some b=>foldN b r
    | none=>none
inductive zlp  (ds:List D) (S:Hp3) (q:D→Prop):Prop where
  | mk (po:Addr) (xs:List Sy) (n:Int) (d:D) (st:List D) (l:Int) (_:ds=[.ref po,.int n]) (_:S po=some (.lst (xs.map Sy.d))) (_:xs.length≤100000) (_:foldN ([],n+cntS xs) xs.reverse=some (d::st,l)) (_:q d)
def zfo :Sp3:=rdV zlp
theorem zjh {k:Nat} (h:Has K mg "numbered" zb8 ["order","number"]) (G:Gs K mg) (C_count_sends:Cal3 P w K mg base k "count_sends" ["order"] zcy) (C_parts:Cal3 P w K mg base k "parts" ["saying"] zhl):Cal3 P w K mg base (k+1) "numbered" ["order","number"] zfo:=show _ by
  refine h.rdV zb7 (by rintro ds S q ⟨po,xs,n,d,st,l,e,_⟩;rw [e];rfl) fun f cdv A outer s0 H E ds S q hr hA=>?_
  obtain ⟨po,xs,n,d,st,l,rfl,hS,hz,hf,hq⟩:=hA
  refine ⟨_,(zac (zal (i:=2) zb7.nd rfl (Or.inr rfl) (zdm zae))
 (zac (zal (i:=3) zb7.nd rfl (Or.inl rfl) (e_op zda zbz (e_v 1) (zai C_count_sends hr rfl (zaa (e_v 0) zae))))
 (zac (zeu PassesOwn.never rfl (i_revL rfl G.reversed (zaa (e_v 0) zae)) (zcu (i:=4) zb7.nd rfl (Or.inl rfl)) (zac (zal (i:=5) zb7.nd rfl (Or.inl rfl) (zb6 zbn zdk rfl G.tuple boot_tuple (zaa (zkg (osc:=defScope zb8) (N:=["order","number","done","later","saying","inner"]) (M:=["done"]) (js:=[2]) ⟨rfl,by decide +kernel,by decide +kernel,rfl,by decide +kernel,by decide +kernel,by decide +kernel⟩ (by decide +kernel) rfl (i_tup (zai C_parts hr rfl (zaa (e_v 4) zae))) (fun _ _ _ _ _=>(ze0 PySem.F.plainAttrs_list PySem.F.slot_list_pop PySem.F.type_list_pop zcc zdb (e_v 1)))) zae)))
 (zah (s_if (zap zbe zb2 (e_ix zam zan (e_v 4) zad (fun _ _=>rfl)) zax (nomark _)) (zac (zqh (i:=3) zb7.nd rfl (Or.inl rfl) zad ip_sub)
 (zah (za4 (e_bm PySem.F.plainAttrs_list PySem.F.slot_list_append PySem.F.type_list_append zao zaq (e_v 2) (zaa (zbj (zaa zax (zaa (e_ix zam zan (e_v 4) zad (fun _ _=>rfl)) (zaa (e_v 5) (zaa (e_v 3) zae))))) zae))))) (zah (s_if (zap zbe zb2 (e_ix zam zan (e_v 4) zad (fun _ _=>rfl)) zax (nomark _)) (zah (za4 (e_bm PySem.F.plainAttrs_list PySem.F.slot_list_append PySem.F.type_list_append zao zaq (e_v 2) (zaa (e_v 4) zae)))) (zah (za4 (e_bm PySem.F.plainAttrs_list PySem.F.slot_list_append PySem.F.type_list_append zao zaq (e_v 2) (zaa (e_op zq7 zro (zbj (zaa (e_ix zam zan (e_v 4) zad (fun _ _=>rfl)) zae)) (e_v 5)) zae))))))))))
 (zah (zav (ze0 PySem.F.plainAttrs_list PySem.F.slot_list_pop PySem.F.type_list_pop zcc zdb (e_v 2))))))),?_⟩
  nofun
  intro pd hpd
  have hS1:=zaf (o:=.lst []) hS hpd
  nofun
  refine ⟨po,xs,rfl,hS1,hz,?_⟩
  nofun
  refine ⟨fun i σ S'=>Ex4 fun (us:List D) (m:Int) (x4 x5:Option D)=>σ=[some (.ref po),some (.int n),some (.ref pd),some (.int m),x4,x5]∧Sub S S'∧S' pd=some (.lst us.reverse)∧us.length≤i∧foldN (us,m) (xs.reverse.drop i)=some (d::st,l),
    ⟨[],_,none,none,rfl,(Sub.refl S).up hpd,zab,Nat.zero_le _,hf⟩,fun i σ S' ⟨_,_,_,_,_,h1,_⟩=>h1 _ _ hS,?_,?_⟩
  · rintro i s' σ S' hd ⟨us,m,x4,x5,rfl,g1,g2,gl,gf⟩
    rw [←List.map_reverse,List.getElem?_map] at hd
    obtain ⟨s,hs,rfl⟩:=Option.map_eq_some_iff.mp hd
    have hi:i<100000:=by
      have:=(List.getElem?_eq_some_iff.mp hs).1
      rw [List.length_reverse] at this
      omega
    have hdr:xs.reverse.drop i=s::xs.reverse.drop (i+1):=by
      rw [List.drop_eq_getElem_cons (List.getElem?_eq_some_iff.mp hs).1]
      rw [(List.getElem?_eq_some_iff.mp hs).2]
    rw [hdr,foldN] at gf
    cases hst:stepN (us,m) s with
    | none=>rw [hst] at gf;cases gf
    | some r =>
    rw [hst] at gf
    have gf:foldN r (xs.reverse.drop (i+1))=some (d::st,l):=gf
    obtain ⟨us',m'⟩:=r
    have hpl:s.parts.length≤us.length:=by
      cases s with
      | name x=>exact Nat.zero_le _
      | bud=>exact Nat.zero_le _
      | pair a b =>
        match us,hst with
        | _::_::_,_=>simp [Sy.parts]
      | send x as =>
        simp only [stepN] at hst
        by_cases hc:as.length≤us.length
        · exact hc
        · rw [if_neg hc] at hst;cases hst
      | left a =>
        match us,hst with
        | _::_,_=>simp [Sy.parts]
      | right a =>
        match us,hst with
        | _::_,_=>simp [Sy.parts]
      | fork a b c =>
        match us,hst with
        | _::_::_::_,_=>simp [Sy.parts]
    nofun
    refine ⟨s,rfl,?_⟩
    nofun
    refine ⟨fun j ys S2=>ys=us.take j∧j≤s.parts.length∧Sub S S2∧S2 pd=some (.lst (us.drop j).reverse),⟨rfl,Nat.zero_le _,g1,g2⟩,?_,?_,?_⟩
    · rintro j ys S2 ⟨rfl,hj,_,_⟩
      refine ⟨trivial,?_⟩
      have:=List.length_take_le j us
      exact zas (by omega)
    · rintro j e ys S2 he ⟨rfl,hj,k1,k2⟩
      have hj':=(List.getElem?_eq_some_iff.mp he).1
      rw [List.length_map] at hj'
      have hju:j<us.length:=by omega
      have ed:us.drop j=us[j]::us.drop (j+1):=List.drop_eq_getElem_cons hju
      rw [ed,List.reverse_cons] at k2
      nofun
      refine j_pop k2 ⟨?_,by omega,k1.at (Sub.free (Sub.refl S) hpd),zab⟩
      rw [List.take_succ,List.getElem?_eq_getElem hju]
      rfl
    rintro ys S2 ⟨rfl,-,k1,k2⟩
    rw [List.length_map] at k2 ⊢
    intro pn hpn
    have k3:=zaf (o:=.lst (us.take s.parts.length)) k2 hpn
    have k4:Sub S (up S2 pn (.lst (us.take s.parts.length))):=k1.up hpn
    nofun
    generalize up S2 pn (.lst (us.take s.parts.length))=S3 at k3 k4 ⊢
    have fin:∀u:D,us'=u::us.drop s.parts.length→Sub S (up S3 pd (.lst ((us.drop s.parts.length).reverse++[u])))∧up S3 pd (.lst ((us.drop s.parts.length).reverse++[u])) pd=some (.lst us'.reverse)∧us'.length≤i+1:=by
      intro u hu
      refine ⟨k4.at hpd,?_,?_⟩
      · rw [zab,hu]
        simp
      · rw [hu,List.length_cons,List.length_drop]
        omega
    have hsm:((us.drop s.parts.length).reverse).length<sizeLine:=by
      rw [List.length_reverse,List.length_drop]
      exact zas (by omega)
    cases s with
    | name x =>
      cases hst
      simp only [Sy.d]
      nofun
      refine j_append k3 hsm ?_
      nofun
      obtain ⟨z1,z2,z3⟩:=fin _ rfl
      exact ⟨_,_,_,_,rfl,z1,z2,z3,gf⟩
    | bud =>
      cases hst
      simp only [Sy.d]
      nofun
      refine j_append k3 hsm ?_
      nofun
      obtain ⟨z1,z2,z3⟩:=fin _ rfl
      exact ⟨_,_,_,_,rfl,z1,z2,z3,gf⟩
    | pair a b =>
      obtain ⟨a',b',u2,rfl⟩:∃a' b' u2,us=a'::b'::u2:=by
        match us,hst with
        | a'::b'::u2,_=>exact ⟨a',b',u2,rfl⟩
      cases hst
      simp only [Sy.d]
      nofun
      refine j_append k3 hsm ?_
      nofun
      obtain ⟨z1,z2,z3⟩:=fin _ rfl
      exact ⟨_,_,_,_,rfl,z1,z2,z3,gf⟩
    | send x as =>
      have hc:as.length≤us.length:=hpl
      simp only [stepN] at hst
      rw [if_pos hc] at hst
      cases hst
      simp only [Sy.d]
      nofun
      refine j_append k3 hsm ?_
      nofun
      obtain ⟨z1,z2,z3⟩:=fin _ rfl
      exact ⟨_,_,_,_,rfl,z1,z2,z3,gf⟩
    | left a =>
      obtain ⟨a',u2,rfl⟩:∃a' u2,us=a'::u2:=by
        match us,hst with
        | a'::u2,_=>exact ⟨a',u2,rfl⟩
      cases hst
      simp only [Sy.d]
      nofun
      refine j_append k3 hsm ?_
      nofun
      obtain ⟨z1,z2,z3⟩:=fin _ rfl
      exact ⟨_,_,_,_,rfl,z1,z2,z3,gf⟩
    | right a =>
      obtain ⟨a',u2,rfl⟩:∃a' u2,us=a'::u2:=by
        match us,hst with
        | a'::u2,_=>exact ⟨a',u2,rfl⟩
      cases hst
      simp only [Sy.d]
      nofun
      refine j_append k3 hsm ?_
      nofun
      obtain ⟨z1,z2,z3⟩:=fin _ rfl
      exact ⟨_,_,_,_,rfl,z1,z2,z3,gf⟩
    | fork a b c =>
      obtain ⟨a',b',c',u2,rfl⟩:∃a' b' c' u2,us=a'::b'::c'::u2:=by
        match us,hst with
        | a'::b'::c'::u2,_=>exact ⟨a',b',c',u2,rfl⟩
      cases hst
      simp only [Sy.d]
      nofun
      refine j_append k3 hsm ?_
      nofun
      obtain ⟨z1,z2,z3⟩:=fin _ rfl
      exact ⟨_,_,_,_,rfl,z1,z2,z3,gf⟩
  · rintro σ S' ⟨us,m,x4,x5,rfl,g1,g2,gl,gf⟩
    rw [List.length_reverse,List.length_map,←List.length_reverse,List.drop_length] at gf
    cases gf
    rw [List.reverse_cons] at g2
    nofun
    refine j_pop g2 ?_
    nofun
    exact ⟨g1.at hpd,hq⟩
noncomputable def foldB:List (Key×D)→Int→List Er→Option (List (Key×D))
  | kvs,_,[]=>some kvs
  | kvs,n,e::r=>match foldN ([],n+cntS e.body.pre) e.body.pre.reverse with
    | some (d::_,_)=>foldB (putD kvs (.inr e.name) d) (n+cntS e.body.pre) r
    | _=>none
theorem zop (kvs:List (Key×D)) (k:Key) (v:D):(putD kvs k v).length≤kvs.length+1:=by
  unfold putD
  split
  · rw [List.length_map];omega
  · rw [List.length_append];exact Nat.le_refl _
inductive ze2  (ds:List D) (S:Hp3) (Q:K3) (_:X3):Prop where
  | mk (pr:Addr) (prog:List Er) (kvs:List (Key×D)) (_:ds=[.ref pr]) (_:S pr=some (.lst (prog.map Er.d))) (_:prog.length≤100) (_:(∀e∈prog,e.body.pre.length≤100000)) (_:foldB [] 0 prog=some kvs) (_:∀p S',Sub S S'→S' p=some (.dic kvs)→Q (.ref p) S')
def zcw :Sp3:= ze2
theorem zei {k:Nat} (h:Has K mg "numbered_bodies" za7 ["program"]) (G:Gs K mg) (C_in_order:Cal3 P w K mg base k "in_order" ["body"] zfp) (C_numbered:Cal3 P w K mg base k "numbered" ["order","number"] zfo)
    (C_count_sends:Cal3 P w K mg base k "count_sends" ["order"] zcy):Cal3 P w K mg base (k+1) "numbered_bodies" ["program"] zcw:=show _ by
  refine h.cal3 za1 (by rintro ds S Q E ⟨pr,prog,kvs,e,_⟩;rw [e];rfl) fun f cdv A outer s0 H E ds S Q W hr hA=>?_
  obtain ⟨pr,prog,kvs,rfl,hS,hl,hz,hf,hq⟩:=hA
  have hu:=ziv hr
  refine ⟨_,Q,(zac (zal (i:=1) za1.nd rfl (Or.inl rfl) zno)
 (zac (zal (i:=2) za1.nd rfl (Or.inl rfl) zad)
 (zac (zeu PassesOwn.never rfl (ziu (e_v 0)) (zcu (i:=3) za1.nd rfl (Or.inl rfl)) (zac (zal (i:=4) za1.nd rfl (Or.inl rfl) (zai C_in_order hr rfl (zaa (e_ix zam zan (e_v 3) zad (fun _ _=>rfl)) zae)))
 (zac (zme hu (e_v 1) (e_ix zam zan (e_v 3) zad (fun _ _=>rfl)) (zai C_numbered hr rfl (zaa (e_v 4) (zaa (e_v 2) zae))) rfl)
 (zah (zqh (i:=2) za1.nd rfl (Or.inl rfl) (zai C_count_sends hr rfl (zaa (e_v 4) zae)) zpx)))))
 (zah (zav (e_v 1)))))),?_,fun _ _ q=>q⟩
  nofun
  intro pb hpb
  have hS1:=zaf (o:=.dic []) hS hpb
  nofun
  refine ⟨fun i σ S'=>Ex4 fun (kv:List (Key×D)) (n:Int) (x3 x4:Option D)=>σ=[some (.ref pr),some (.ref pb),some (.int n),x3,x4]∧Sub S S'∧S' pb=some (.dic kv)∧kv.length≤i∧foldB kv n (prog.drop i)=some kvs,
    ⟨[],0,none,none,rfl,(Sub.refl S).up hpb,zab,Nat.zero_le _,hf⟩,fun i σ S' ⟨_,_,_,_,_,h1,_⟩=>h1 _ _ hS,?_,?_⟩
  · rintro i d σ S' hd ⟨kv,n,x3,x4,rfl,g1,g2,gl,gf⟩
    rw [List.getElem?_map] at hd
    obtain ⟨e,he,rfl⟩:=Option.map_eq_some_iff.mp hd
    have hi:=(List.getElem?_eq_some_iff.mp he).1
    have hdr:prog.drop i=e::prog.drop (i+1):=by
      rw [List.drop_eq_getElem_cons hi,(List.getElem?_eq_some_iff.mp he).2]
    rw [hdr,foldB] at gf
    have hze:=hz e (List.mem_of_getElem? he)
    unfold Er.d
    nofun
    refine ⟨e.body,rfl,by omega,?_⟩
    intro po hpo
    have k1:up S' po (.lst (e.body.pre.map Sy.d)) po=some (.lst (e.body.pre.map Sy.d)):=zab
    have k2:=zaf (o:=.lst (e.body.pre.map Sy.d)) g2 hpo
    have k3:Sub S (up S' po (.lst (e.body.pre.map Sy.d))):=g1.up hpo
    have n1:po≠pb:=(ne3 g2 hpo).symm
    generalize up S' po (.lst (e.body.pre.map Sy.d))=S1 at k1 k2 k3 ⊢
    nofun
    cases hfd:foldN ([],n+cntS e.body.pre) e.body.pre.reverse with
    | none=>rw [hfd] at gf;cases gf
    | some us =>
      obtain ⟨us,l⟩:=us
      rw [hfd] at gf
      cases us with
      | nil=>cases gf
      | cons d st =>
        have gf:foldB (putD kv (.inr e.name) d) (n+cntS e.body.pre) (prog.drop (i+1))=some kvs:=gf
        refine ⟨po,e.body.pre,n,d,st,l,rfl,k1,hze,hfd,?_⟩
        nofun
        refine j_dputS k2 (zas (by omega)) ?_
        nofun
        refine ⟨po,e.body.pre,rfl,by rw [za8 n1];exact k1,hze,?_⟩
        nofun
        refine ⟨_,_,_,_,rfl,k3.at hpb,zab,?_,gf⟩
        have:=zop kv (.inr e.name) d
        omega
  · rintro σ S' ⟨kv,n,x3,x4,rfl,g1,g2,gl,gf⟩
    rw [List.length_map,List.drop_length] at gf
    cases gf
    nofun
    exact hq _ _ g1 g2
inductive PtN:D→List D→Prop
  | name (x:Str):PtN (.tup [.str "name",.str x]) []
  | bud:PtN (.tup [.str "bud"]) []
  | pair (a b:D):PtN (.tup [.str "pair",a,b]) [a,b]
  | left (a:D):PtN (.tup [.str "left",a]) [a]
  | right (a:D):PtN (.tup [.str "right",a]) [a]
  | fork (a b c:D):PtN (.tup [.str "fork",a,b,c]) [a]
  | send (x:Str) (is:List D) (l:Int):PtN (.tup [.str "send",.str x,.tup is,.int l]) is
inductive zgr  (ds:List D) (q:D→Prop):Prop where
  | mk (s:_) (ps:_) (_:ds=[s]) (_:PtN s ps) (_:q (.tup ps))
def zdn :Sp3:=vS zgr
theorem zf2 {k:Nat} (h:Has K mg "needed_parts" zbq ["saying"]) (G:Gs K mg) (C_parts:Cal3 P w K mg base k "parts" ["saying"] zfn):Cal3 P w K mg base (k+1) "needed_parts" ["saying"] zdn:=show _ by
  refine h.val zfr (by rintro ds q ⟨s,ps,e,_⟩;rw [e];rfl) fun f cdv A outer s0 H E ds q hr hA=>?_
  obtain ⟨s,ps,rfl,hp,hq⟩:=hA
  refine ⟨_,(zah (zav (zh4 (zap zbe zb2 (e_ix zam zan (e_v 0) zad (fun _ _=>rfl)) zax (nomark _)) (zbh zhq zki (e_v 0) (zbx zad) (zbx zad)) (zai C_parts hr rfl (zaa (e_v 0) zae))))),?_⟩
  cases hp with
  | name x=>nofun;exact ⟨_,_,rfl,.name x,hq⟩
  | bud=>nofun;exact ⟨_,_,rfl,.bud,hq⟩
  | pair a b=>nofun;exact ⟨_,_,rfl,.pair a b,hq⟩
  | left a=>nofun;exact ⟨_,_,rfl,.left a,hq⟩
  | right a=>nofun;exact ⟨_,_,rfl,.right a,hq⟩
  | fork a b c=>nofun;exact hq
  | send x is l=>nofun;exact ⟨_,_,rfl,.send x _ _,hq⟩
noncomputable def sideT (l:Bool):Tre→Tre
  | .bud=>.bud
  | .pair a b=>if l then a else b
inductive P_side  (ds:List D) (q:D→Prop):Prop where
  | mk (l:Bool) (t:Tre) (_:ds=[.str (if l then "left" else "right"),t.d]) (_:q (sideT l t).d)
def zl2 :Sp3:=vS P_side
theorem zq9 {k:Nat} (h:Has K mg "side" zg1 ["kind","tree"]) (G:Gs K mg):Cal3 P w K mg base (k+1) "side" ["kind","tree"] zl2:=show _ by
  refine h.val zqf (by rintro ds q ⟨l,t,e,_⟩;rw [e];rfl) fun f cdv A outer s0 H E ds q hr hA=>?_
  obtain ⟨l,t,rfl,hq⟩:=hA
  refine ⟨_,(zac (s_if (zap zf0 zgd (e_v 1) zcv (nomark _)) (zah (zav zcv)) zbc)
 (zah (zav (zh4 (zap zbe zb2 (e_v 0) zax (nomark _)) (e_ix zam zan (e_v 1) zad (fun _ _=>rfl)) (e_ix zam zan (e_v 1) zad (fun _ _=>rfl)))))),?_⟩
  cases t with
  | bud =>
    nofun
    exact hq
  | pair a b =>
    have e:(Tre.pair a b).d=.tup [a.d,b.d]:=rfl
    rw [e]
    cases l with
    | true =>
      nofun
      exact hq
    | false =>
      nofun
      exact hq
inductive P_init (CR:Addr) (ds:List D) (S:Hp3) (Q:K3) (_:X3):Prop where
  | mk (S0:_) (a:_) (pa:_) (bo:_) (mo:_) (kv1:_) (kv2:_) (_:ds=[.ref a,.ref pa,.ref bo,.int mo]) (_:S a=some (.ins CR [])) (_:S pa=some (.dic kv1)) (_:S bo=some (.dic kv2)) (_:Sub S0 S) (_:S0 a=none) (_:∀A S',RS CR S0 S' a A ⟨kv1,kv2,mo,[],[],[],.non⟩→Q .non S')
def zl4 (CR:Addr):Sp3:= (P_init CR)
theorem zmy {k:Nat} (h:HasM K CR "__init__" "Run.__init__" zdw ["self","params","bodies","most"]) (G:Gs K mg) (T:RunT K mg CR):Met3 P w K mg base (k+1) CR "__init__" ["self","params","bodies","most"] (zl4 CR):=show _ by
  refine h.met3 zmc (by rintro ds S Q E ⟨_,a,pa,bo,mo,_,_,e,_⟩;rw [e];rfl) fun f cdv A0 outer s0 H E ds S Q W hr hA=>?_
  obtain ⟨S0,a,pa,bo,mo,kv1,kv2,rfl,ha,hpa,hbo,hs,fa,hq⟩:=hA
  refine ⟨_,(zac (zfv T.cl T.n_params (e_v 0) (e_v 1) rfl)
 (zac (zfv T.cl T.n_bodies (e_v 0) (e_v 2) rfl)
 (zac (zfv T.cl T.n_most (e_v 0) (e_v 3) rfl)
 (zac (zfv T.cl T.n_begun (e_v 0) (zdm zae) rfl)
 (zac (zfv T.cl T.n_pending (e_v 0) (zdm zae) rfl)
 (zac (zfv T.cl T.n_waiting (e_v 0) (zdm zae) rfl)
 (zah (zfv T.cl T.n_ending (e_v 0) zcv rfl)))))))),?_⟩
  have np:pa≠a:=neO hpa ha (fun z=>nomatch z)
  have nb:bo≠a:=neO hbo ha (fun z=>nomatch z)
  have put:∀(gs:List (Str×D)) (S:Hp3) (fs:List (Str×D)) (f:Str) (d:D) (n:Hp3→Prop),S a=some (.ins CR fs)→fs.length<1000→putI f d fs=gs→n (up S a (.ins CR gs))→putR CR f (.ref a) d S n:=fun gs S fs f d n hS hl e q=>j_putR hS hl (by rw [e];exact q)
  nofun
  refine put [("params",.ref pa)] _ _ _ _ _ ha (by decide) rfl ?_
  nofun
  refine put [("params",.ref pa),("bodies",.ref bo)] _ _ _ _ _ zab (show 1<1000 by decide) rfl ?_
  rw [zfd]
  nofun
  refine put [("params",.ref pa),("bodies",.ref bo),("most",.int mo)] _ _ _ _ _ zab (show 2<1000 by decide) rfl ?_
  rw [zfd]
  have K0:Sub S0 (up S a (.ins CR [("params",.ref pa),("bodies",.ref bo),("most",.int mo)])):=hs.at fa
  have f1:up S a (.ins CR [("params",.ref pa),("bodies",.ref bo),("most",.int mo)]) a=_:=zab
  have f2:=zaz (o:=.ins CR [("params",.ref pa),("bodies",.ref bo),("most",.int mo)]) hpa np
  have f3:=zaz (o:=.ins CR [("params",.ref pa),("bodies",.ref bo),("most",.int mo)]) hbo nb
  nofun
  intro be hbe
  have K1:Sub S0 (up (up S a (.ins CR [("params",.ref pa),("bodies",.ref bo),("most",.int mo)])) be (.lst [])):=K0.up hbe
  have fb:=K0.free hbe
  have g1:=zaf (o:=.lst []) f1 hbe
  have g2:=zaf (o:=.lst []) f2 hbe
  have g3:=zaf (o:=.lst []) f3 hbe
  have g4:=zab (S:=up S a (.ins CR [("params",.ref pa),("bodies",.ref bo),("most",.int mo)])) (a:=be) (o:=.lst [])
  generalize up (up S a (.ins CR [("params",.ref pa),("bodies",.ref bo),("most",.int mo)])) be (.lst [])=S1 at g1 g2 g3 g4 K1 ⊢
  nofun
  refine put [("params",.ref pa),("bodies",.ref bo),("most",.int mo),("begun",.ref be)] _ _ _ _ _ g1 (show 3<1000 by decide) rfl ?_
  have e1:be≠a:=neO g4 g1 (fun z=>nomatch z)
  have h1:up S1 a (.ins CR [("params",.ref pa),("bodies",.ref bo),("most",.int mo),("begun",.ref be)]) a=_:=zab
  have h2:=zaz (o:=.ins CR [("params",.ref pa),("bodies",.ref bo),("most",.int mo),("begun",.ref be)]) g2 np
  have h3:=zaz (o:=.ins CR [("params",.ref pa),("bodies",.ref bo),("most",.int mo),("begun",.ref be)]) g3 nb
  have h4:=zaz (o:=.ins CR [("params",.ref pa),("bodies",.ref bo),("most",.int mo),("begun",.ref be)]) g4 e1
  have K2:Sub S0 (up S1 a (.ins CR [("params",.ref pa),("bodies",.ref bo),("most",.int mo),("begun",.ref be)])):=K1.at fa
  generalize up S1 a (.ins CR [("params",.ref pa),("bodies",.ref bo),("most",.int mo),("begun",.ref be)])=S2 at h1 h2 h3 h4 K2 ⊢
  nofun
  intro pe hpe
  have i1:=zaf (o:=.lst []) h1 hpe
  have i2:=zaf (o:=.lst []) h2 hpe
  have i3:=zaf (o:=.lst []) h3 hpe
  have i4:=zaf (o:=.lst []) h4 hpe
  have i5:=zab (S:=S2) (a:=pe) (o:=.lst [])
  have n1:be≠pe:=ne3 h4 hpe
  have K3:Sub S0 (up S2 pe (.lst [])):=K2.up hpe
  have fp:=K2.free hpe
  generalize up S2 pe (.lst [])=S3 at i1 i2 i3 i4 i5 K3 ⊢
  nofun
  refine put [("params",.ref pa),("bodies",.ref bo),("most",.int mo),("begun",.ref be),("pending",.ref pe)] _ _ _ _ _ i1 (show 4<1000 by decide) rfl ?_
  have e2:pe≠a:=neO i5 i1 (fun z=>nomatch z)
  have k1:up S3 a (.ins CR [("params",.ref pa),("bodies",.ref bo),("most",.int mo),("begun",.ref be),("pending",.ref pe)]) a=_:=zab
  have k2:=zaz (o:=.ins CR [("params",.ref pa),("bodies",.ref bo),("most",.int mo),("begun",.ref be),("pending",.ref pe)]) i2 np
  have k3:=zaz (o:=.ins CR [("params",.ref pa),("bodies",.ref bo),("most",.int mo),("begun",.ref be),("pending",.ref pe)]) i3 nb
  have k4:=zaz (o:=.ins CR [("params",.ref pa),("bodies",.ref bo),("most",.int mo),("begun",.ref be),("pending",.ref pe)]) i4 e1
  have k5:=zaz (o:=.ins CR [("params",.ref pa),("bodies",.ref bo),("most",.int mo),("begun",.ref be),("pending",.ref pe)]) i5 e2
  have K4:Sub S0 (up S3 a (.ins CR [("params",.ref pa),("bodies",.ref bo),("most",.int mo),("begun",.ref be),("pending",.ref pe)])):=K3.at fa
  generalize up S3 a (.ins CR [("params",.ref pa),("bodies",.ref bo),("most",.int mo),("begun",.ref be),("pending",.ref pe)])=S4 at k1 k2 k3 k4 k5 K4 ⊢
  nofun
  intro wa hwa
  have l1:=zaf (o:=.lst []) k1 hwa
  have l2:=zaf (o:=.lst []) k2 hwa
  have l3:=zaf (o:=.lst []) k3 hwa
  have l4:=zaf (o:=.lst []) k4 hwa
  have l5:=zaf (o:=.lst []) k5 hwa
  have l6:=zab (S:=S4) (a:=wa) (o:=.lst [])
  have n2:be≠wa:=ne3 k4 hwa
  have n3:pe≠wa:=ne3 k5 hwa
  have K5:Sub S0 (up S4 wa (.lst [])):=K4.up hwa
  have fw:=K4.free hwa
  generalize up S4 wa (.lst [])=S5 at l1 l2 l3 l4 l5 l6 K5 ⊢
  nofun
  refine put [("params",.ref pa),("bodies",.ref bo),("most",.int mo),("begun",.ref be),("pending",.ref pe),("waiting",.ref wa)] _ _ _ _ _ l1 (show 5<1000 by decide) rfl ?_
  nofun
  refine put [("params",.ref pa),("bodies",.ref bo),("most",.int mo),("begun",.ref be),("pending",.ref pe),("waiting",.ref wa),("ending",.non)] _ _ _ _ _ zab (show 6<1000 by decide) rfl ?_
  rw [zfd]
  nofun
  exact hq ⟨pa,bo,be,pe,wa⟩ _ ⟨zab,zaz l2 np,zaz l3 nb,zaz l4 e1,zaz l5 e2,zaz l6 (neO l6 l1 (fun z=>nomatch z)),n1,n2,n3,K5.at fa,fa,fb,fp,fw⟩
inductive Beg:Rn→D→D→Str→D→Rn→Prop
  | stop {r:Rn} {p n ts:D} {x:Str}:r.mo≤(r.be.length:Int)→Beg r p n x ts {r with en:=.tup [.str "going",.int r.mo]}
  | new {r:Rn} {p n ts body:D} {x:Str}:(r.be.length:Int)<r.mo→valD r.bo (.inr x)=some body→Beg r p n x ts {r with pe:=r.pe++[.tup [.bl false,body,.int r.be.length]],be:=r.be++[.tup [p,n,.str x,ts]]}
inductive zr0 (CR:Addr) (ds:List D) (S:Hp3) (Q:K3) (_:X3):Prop where
  | mk (S0:_) (a:_) (A:_) (r:_) (p:_) (n:_) (x:_) (ts:_) (r':_) (_:ds=[.ref a,p,n,.str x,ts]) (_:RS CR S0 S a A r) (_:r.be.length≤900000) (_:r.pe.length≤900000) (_:Beg r p n x ts r') (_:∀S',RS CR S0 S' a A r'→Q .non S')
def zho (CR:Addr):Sp3:= (zr0 CR)
theorem zlc {k:Nat} (h:HasM K CR "begin" "Run.begin" zc8 ["self","parent","number","name","trees"]) (G:Gs K mg) (T:RunT K mg CR):Met3 P w K mg base (k+1) CR "begin" ["self","parent","number","name","trees"] (zho CR):=show _ by
  refine h.met3 zkx (by rintro ds S Q E ⟨_,a,A,r,p,n,x,ts,body,e,_⟩;rw [e];rfl) fun f cdv A0 outer s0 H E ds S Q W hr hA=>?_
  obtain ⟨S0,a,A,r,p,n,x,ts,r',rfl,h,lb,lp,hb,hq⟩:=hA
  have hu:=ziv hr
  refine ⟨_,(zah (s_if (zap op_ge zce (zay zaj zby rfl G.len PySem.boot_len (zaa (zb5 T.cl T.n_begun (e_v 0) rfl) zae)) (zb5 T.cl T.n_most (e_v 0) rfl) (nomark _)) (zah (zfv T.cl T.n_ending (e_v 0) (zbj (zaa zax (zaa (zb5 T.cl T.n_most (e_v 0) rfl) zae))) rfl)) (zac (za4 (e_bm PySem.F.plainAttrs_list PySem.F.slot_list_append PySem.F.type_list_append zao zaq (zb5 T.cl T.n_pending (e_v 0) rfl) (zaa (zbj (zaa e_bl (zaa (zhb hu (zb5 T.cl T.n_bodies (e_v 0) rfl) (e_v 3) (fun _ _=>rfl)) (zaa (zay zaj zby rfl G.len PySem.boot_len (zaa (zb5 T.cl T.n_begun (e_v 0) rfl) zae)) zae)))) zae)))
 (zah (za4 (e_bm PySem.F.plainAttrs_list PySem.F.slot_list_append PySem.F.type_list_append zao zaq (zb5 T.cl T.n_begun (e_v 0) rfl) (zaa (zbj (zaa (e_v 1) (zaa (e_v 2) (zaa (e_v 3) (zaa (e_v 4) zae))))) zae))))))),?_⟩
  have hbe:=h.be
  have hpe:=h.pe
  cases hb with
  | stop hm =>
    nofun
    refine j_RputEn h ?_
    nofun
    exact hq _ (h.putEn _)
  | new hm hv =>
    rename_i body
    nofun
    refine j_dgetS h.bo hv ?_
    nofun
    refine j_append hpe (zas (by omega)) ?_
    have h1:=h.putPe (r.pe++[.tup [.bl false,body,.int r.be.length]])
    have hbe1:=h1.be
    generalize up S A.pe _=S1 at h1 hbe1 ⊢
    nofun
    refine j_append (ds:=r.be) hbe1 (zas (by omega)) ?_
    nofun
    exact hq _ (h1.putBe _)
inductive zru (CR:Addr) (ds:List D) (S:Hp3) (Q:K3) (_:X3):Prop where
  | mk (S0:_) (a:_) (A:_) (r:_) (n:_) (xs:_) (ys:_) (_:ds=[.ref a,.int n]) (_:RS CR S0 S a A r) (_:r.wa=xs++ys) (_:(ys.length:Int)=n) (_:∀A' S',RS CR S0 S' a A' {r with wa:=xs}→Q (.tup ys) S')
def zhk (CR:Addr):Sp3:= (zru CR)
theorem zla {k:Nat} (h:HasM K CR "taken" "Run.taken" zc6 ["self","many"]) (G:Gs K mg) (T:RunT K mg CR):Met3 P w K mg base (k+1) CR "taken" ["self","many"] (zhk CR):=show _ by
  refine h.met3 zeq (by rintro ds S Q E ⟨_,a,A,r,n,xs,ys,e,_⟩;rw [e];rfl) fun f cdv A0 outer s0 H E ds S Q W hr hA=>?_
  obtain ⟨S0,a,A,r,n,xs,ys,rfl,h,hw,hn,hq⟩:=hA
  refine ⟨_,(zac (zal (i:=2) zeq.nd rfl (Or.inl rfl) (e_op ze9 zbz (zay zaj zby rfl G.len PySem.boot_len (zaa (zb5 T.cl T.n_waiting (e_v 0) rfl) zae)) (e_v 1)))
 (zac (zal (i:=3) zeq.nd rfl (Or.inl rfl) (zb6 zbn zdk rfl G.tuple boot_tuple (zaa (zbh zco zdr (zb5 T.cl T.n_waiting (e_v 0) rfl) (zbx (e_v 2)) zb1) zae)))
 (zac (zfv T.cl T.n_waiting (e_v 0) (zbh zco zdr (zb5 T.cl T.n_waiting (e_v 0) rfl) zb1 (zbx (e_v 2))) rfl)
 (zah (zav (e_v 3)))))),?_⟩
  have hwa:=h.wa
  nofun
  have e1:((r.wa.length:Nat):Int)-n=(xs.length:Nat):=by rw [hw,List.length_append,←hn];omega
  rw [e1]
  have c1:E3.cutD r.wa (some ((xs.length:Nat):Int)) none=ys:=by rw [zdc (by omega),hw];simp
  have c2:E3.cutD r.wa none (some ((xs.length:Nat):Int))=xs:=by rw [ze1 (by omega),hw];simp
  nofun
  rw [c1]
  intro p1 hp1
  have h1:=h.lay (o:=.lst ys) hp1
  have hw1:=h1.wa
  have g1:up S p1 (.lst ys) p1=some (.lst ys):=zab
  generalize up S p1 (.lst ys)=S1 at h1 hw1 g1 ⊢
  nofun
  rw [c2]
  intro p2 hp2
  have h2:=h1.lay (o:=.lst xs) hp2
  have g2:up S1 p2 (.lst xs) p2=some (.lst xs):=zab
  have m1:A.be≠p2:=ne3 h1.be hp2
  have m2:A.pe≠p2:=ne3 h1.pe hp2
  generalize up S1 p2 (.lst xs)=S2 at h2 g2 ⊢
  nofun
  refine j_RputWa h2 ?_
  have h3:=h2.newWa g2 m1 m2 (h1.sub.free hp2)
  nofun
  exact hq _ _ h3
noncomputable def pickT (t:Tre) (x y:D):D:=match t with
  | .bud=>y
  | .pair _ _=>x
inductive zpr (CR:Addr) (ds:List D) (S:Hp3) (Q:K3) (_:X3):Prop where
  | mk (S0:_) (a:_) (A:_) (r:_) (c:_) (x:_) (y:_) (p:_) (xs:_) (t:_) (_:ds=[.ref a,.tup [.str "fork",c,x,y],.int p]) (_:RS CR S0 S a A r) (_:r.pe.length≤900000) (_:r.wa=xs++[Tre.d t]) (_:∀S',RS CR S0 S' a A {r with wa:=xs,pe:=r.pe++[.tup [.bl false,pickT t x y,.int p]]}→Q .non S')
def zih (CR:Addr):Sp3:= (zpr CR)
theorem zjk {k:Nat} (h:HasM K CR "choose" "Run.choose" zcm ["self","fork","place"]) (G:Gs K mg) (T:RunT K mg CR):Met3 P w K mg base (k+1) CR "choose" ["self","fork","place"] (zih CR):=show _ by
  refine h.met3 zft (by rintro ds S Q E ⟨_,a,A,r,c,x,y,p,xs,t,e,_⟩;rw [e];rfl) fun f cdv A0 outer s0 H E ds S Q W hr hA=>?_
  obtain ⟨S0,a,A,r,c,x,y,p,xs,t,rfl,h,lp,hw,hq⟩:=hA
  refine ⟨_,(zac (zal (i:=3) zft.nd rfl (Or.inl rfl) (zh4 (zap zf0 zgd (ze0 PySem.F.plainAttrs_list PySem.F.slot_list_pop PySem.F.type_list_pop zcc zdb (zb5 T.cl T.n_waiting (e_v 0) rfl)) zcv (nomark _)) (e_ix zam zan (e_v 1) zad (fun _ _=>rfl)) (e_ix zam zan (e_v 1) zad (fun _ _=>rfl))))
 (zah (za4 (e_bm PySem.F.plainAttrs_list PySem.F.slot_list_append PySem.F.type_list_append zao zaq (zb5 T.cl T.n_pending (e_v 0) rfl) (zaa (zbj (zaa e_bl (zaa (e_v 3) (zaa (e_v 2) zae)))) zae))))),?_⟩
  have hwa:=h.wa
  rw [hw] at hwa
  nofun
  refine j_pop hwa ?_
  have g:=h.putWa xs
  have hpe:=g.pe
  generalize up S A.wa _=S1 at g hpe ⊢
  cases t with
  | bud =>
    nofun
    refine j_append (ds:=r.pe) hpe (zas (by omega)) ?_
    nofun
    exact hq _ (g.putPe _)
  | pair l u =>
    have e:(Tre.pair l u).d=.tup [l.d,u.d]:=rfl
    rw [e]
    nofun
    refine j_append (ds:=r.pe) hpe (zas (by omega)) ?_
    nofun
    exact hq _ (g.putPe _)
inductive zjy (CR:Addr) (ds:List D) (S:Hp3) (Q:K3) (_:X3):Prop where
  | mk (S0:_) (a:_) (A:_) (r:_) (xs:_) (t1:_) (t2:_) (_:ds=[.ref a]) (_:RS CR S0 S a A r) (_:r.wa=xs++[Tre.d t1,Tre.d t2]) (_:xs.length≤900000) (_:(Tre.pair t1 t2).size≤1000) (_:((Tre.pair t1 t2).size≤60→∀A' S',RS CR S0 S' a A' {r with wa:=xs++[(Tre.pair t1 t2).d]}→Q .non S')) (_:(60<(Tre.pair t1 t2).size→∀A' S',RS CR S0 S' a A' {r with wa:=xs,en:=.tup [.str "grown",.int r.be.length]}→Q .non S'))
def ze4 (CR:Addr):Sp3:= (zjy CR)
theorem zgp {k:Nat} (h:HasM K CR "join_pair" "Run.join_pair" zbu ["self"]) (G:Gs K mg) (T:RunT K mg CR) (M_taken:Met3 P w K mg base k CR "taken" ["self","many"] (zhk CR)) (C_size:Cal3 P w K mg base k "size" ["tree"] zl1):Met3 P w K mg base (k+1) CR "join_pair" ["self"] (ze4 CR):=show _ by
  refine h.met3 zd1 (by rintro ds S Q E ⟨_,a,A,r,xs,t1,t2,e,_⟩;rw [e];rfl) fun f cdv A0 outer s0 H E ds S Q W hr hA=>?_
  obtain ⟨S0,a,A,r,xs,t1,t2,rfl,h,hw,hl,hz,hq1,hq2⟩:=hA
  refine ⟨_,(zac (zal (i:=1) zd1.nd rfl (Or.inl rfl) (zfb M_taken T.cl hr (e_v 0) (zaa zad zae)))
 (zah (s_if (zap zmv zce (zai C_size hr rfl (zaa (e_v 1) zae)) (zrj G.MOST_PAIRS rfl) (nomark _)) (zah (zfv T.cl T.n_ending (e_v 0) (zbj (zaa zax (zaa (zay zaj zby rfl G.len PySem.boot_len (zaa (zb5 T.cl T.n_begun (e_v 0) rfl) zae)) zae))) rfl)) (zah (za4 (e_bm PySem.F.plainAttrs_list PySem.F.slot_list_append PySem.F.type_list_append zao zaq (zb5 T.cl T.n_waiting (e_v 0) rfl) (zaa (e_v 1) zae))))))),?_⟩
  nofun
  refine j_Rm h (fun _ _ _ _ _ _ _=>rfl) ?_
  nofun
  refine ⟨S0,a,A,r,2,xs,[t1.d,t2.d],rfl,h,hw,rfl,fun A' S' h1=>?_⟩
  nofun
  refine ⟨.pair t1 t2,rfl,hz,?_⟩
  nofun
  have hb1:=h1.be
  have hw1:=h1.wa
  by_cases c:(60:Int)<((Tre.pair t1 t2).size:Int)
  · nofun
    refine j_RputEn h1 ?_
    nofun
    exact hq2 (by omega) _ _ (h1.putEn _)
  · nofun
    refine j_append (ds:=xs) hw1 (zas (by omega)) ?_
    nofun
    exact hq1 (by omega) _ _ (h1.putWa _)
inductive zjx (CR:Addr) (ds:List D) (S:Hp3) (Q:K3) (_:X3):Prop where
  | mk (S0:Hp3) (a:Addr) (A:Ra) (r:Rn) (x:Str) (pl:Int) (pr nu:D) (nm:Str) (zs:List Str) (ts:List D) (j:Nat) (d:D) (_:ds=[.ref a,.str x,.int pl]) (_:RS CR S0 S a A r) (_:atI r.be pl=some (.tup [pr,nu,.str nm,.tup ts])) (_:valD r.pa (.inr nm)=some (.tup (zs.map D.str))) (_:zs[j]?=some x) (_:x∉zs.take j) (_:ts[j]?=some d) (_:Q d S)
def ze3 (CR:Addr):Sp3:= (zjx CR)
theorem zgo {k:Nat} (h:HasM K CR "parameter" "Run.parameter" zbt ["self","name","place"]) (G:Gs K mg) (T:RunT K mg CR):Met3 P w K mg base (k+1) CR "parameter" ["self","name","place"] (ze3 CR):=show _ by
  refine h.met3 zd0 (by rintro ds S Q E ⟨_,a,A,r,x,pl,pr,nu,nm,zs,ts,j,d,e,_⟩;rw [e];rfl) fun f cdv A0 outer s0 H E ds S Q W hr hA=>?_
  obtain ⟨S0,a,A,r,x,pl,pr,nu,nm,zs,ts,j,d,rfl,h,he,hv,hj,hno,hd,hq⟩:=hA
  have hu:=ziv hr
  refine ⟨_,(zac (zal (i:=3) zd0.nd rfl (Or.inl rfl) (e_ix zat zba (zb5 T.cl T.n_begun (e_v 0) rfl) (e_v 2) (fun _ _=>rfl)))
 (zah (zav (e_ix zam zan (e_ix zam zan (e_v 3) zad (fun _ _=>rfl)) (e_bmT PySem.F.slot_tuple_index PySem.F.type_tuple_index zm1 znt (zhb hu (zb5 T.cl T.n_params (e_v 0) rfl) (e_ix zam zan (e_v 3) zad (fun _ _=>rfl)) (fun _ _=>rfl)) (zaa (e_v 1) zae)) (fun _ _=>rfl))))),?_⟩
  nofun
  refine j_ixL h.be he ?_
  nofun
  refine j_dgetS h.pa hv ?_
  nofun
  refine j_indexT hj hno ?_
  nofun
  exact j_ixT (zcz hd) hq
structure Sm (r:Rn):Prop where
  be:r.be.length≤900000
  pe:r.pe.length≤900000
  wa:r.wa.length≤900000
inductive Fin:Rn→D→Int→Rn→Prop
  | send {r r':Rn} {x:Str} {us xs ts:List D} {l p:Int}:r.wa=xs++ts→ts.length=us.length→Beg {r with wa:=xs} (.int p) (.int l) x (.tup ts) r'→Fin r (.tup [.str "send",.str x,.tup us,.int l]) p r'
  | fork {r:Rn} {c x y:D} {xs:List D} {t:Tre} {p:Int}:r.wa=xs++[Tre.d t]→Fin r (.tup [.str "fork",c,x,y]) p {r with wa:=xs,pe:=r.pe++[.tup [.bl false,pickT t x y,.int p]]}
  | left {r:Rn} {c:D} {xs:List D} {t:Tre} {p:Int}:r.wa=xs++[Tre.d t]→Fin r (.tup [.str "left",c]) p {r with wa:=xs++[(sideT true t).d]}
  | right {r:Rn} {c:D} {xs:List D} {t:Tre} {p:Int}:r.wa=xs++[Tre.d t]→Fin r (.tup [.str "right",c]) p {r with wa:=xs++[(sideT false t).d]}
  | pair {r:Rn} {a b:D} {xs:List D} {t1 t2:Tre} {p:Int}:r.wa=xs++[Tre.d t1,Tre.d t2]→(Tre.pair t1 t2).size≤60→Fin r (.tup [.str "pair",a,b]) p {r with wa:=xs++[(Tre.pair t1 t2).d]}
  | grown {r:Rn} {a b:D} {xs:List D} {t1 t2:Tre} {p:Int}:r.wa=xs++[Tre.d t1,Tre.d t2]→60<(Tre.pair t1 t2).size→(Tre.pair t1 t2).size≤1000→Fin r (.tup [.str "pair",a,b]) p {r with wa:=xs,en:=.tup [.str "grown",.int r.be.length]}
  | name {r:Rn} {x nm:Str} {p:Int} {pr nu d:D} {zs:List Str} {ts:List D} {j:Nat}:atI r.be p=some (.tup [pr,nu,.str nm,.tup ts])→valD r.pa (.inr nm)=some (.tup (zs.map D.str))→zs[j]?=some x→x∉zs.take j→ts[j]?=some d →
      Fin r (.tup [.str "name",.str x]) p {r with wa:=r.wa++[d]}
  | bud {r:Rn} {p:Int}:Fin r (.tup [.str "bud"]) p {r with wa:=r.wa++[.non]}
inductive zpq (CR:Addr) (ds:List D) (S:Hp3) (Q:K3) (_:X3):Prop where
  | mk (S0:_) (a:_) (A:_) (r:_) (s:_) (p:_) (r':_) (_:ds=[.ref a,s,.int p]) (_:RS CR S0 S a A r) (_:Sm r) (_:Fin r s p r') (_:∀A' S',RS CR S0 S' a A' r'→Q .non S')
def zig (CR:Addr):Sp3:= (zpq CR)
theorem zjj {k:Nat} (h:HasM K CR "finish" "Run.finish" zcl ["self","saying","place"]) (G:Gs K mg) (T:RunT K mg CR) (M_begin:Met3 P w K mg base k CR "begin" ["self","parent","number","name","trees"] (zho CR)) (M_taken:Met3 P w K mg base k CR "taken" ["self","many"] (zhk CR))
    (M_choose:Met3 P w K mg base k CR "choose" ["self","fork","place"] (zih CR)) (M_join_pair:Met3 P w K mg base k CR "join_pair" ["self"] (ze4 CR)) (M_parameter:Met3 P w K mg base k CR "parameter" ["self","name","place"] (ze3 CR)) (C_side:Cal3 P w K mg base k "side" ["kind","tree"] zl2) :
    Met3 P w K mg base (k+1) CR "finish" ["self","saying","place"] (zig CR):=show _ by
  refine h.met3 zfs (by rintro ds S Q E ⟨_,a,A,r,s,p,r',e,_⟩;rw [e];rfl) fun f cdv A0 outer s0 H E ds S Q W hr hA=>?_
  obtain ⟨S0,a,A,r,s,p,r',rfl,h,sm,hf,hq⟩:=hA
  refine ⟨_,(zac (zal (i:=3) zfs.nd rfl (Or.inl rfl) (e_ix zam zan (e_v 1) zad (fun _ _=>rfl)))
 (zah (s_if (zap zbe zb2 (e_v 3) zax (nomark _)) (zah (za4 (zfb M_begin T.cl hr (e_v 0) (zaa (e_v 2) (zaa (e_ix zam zan (e_v 1) zad (fun _ _=>rfl)) (zaa (e_ix zam zan (e_v 1) zad (fun _ _=>rfl)) (zaa (zfb M_taken T.cl hr (e_v 0) (zaa (zay zaj zby rfl G.len PySem.boot_len (zaa (e_ix zam zan (e_v 1) zad (fun _ _=>rfl)) zae)) zae)) zae))))))) (zah (s_if (zap zbe zb2 (e_v 3) zax (nomark _)) (zah (za4 (zfb M_choose T.cl hr (e_v 0) (zaa (e_v 1) (zaa (e_v 2) zae))))) (zah (s_if (zap zbe zb2 (e_v 3) zax (nomark _)) (zah (za4 (znn M_join_pair T.cl hr (e_v 0)))) (zah (s_if (zap zbe zb2 (e_v 3) zax (nomark _)) (zah (za4 (e_bm PySem.F.plainAttrs_list PySem.F.slot_list_append PySem.F.type_list_append zao zaq (zb5 T.cl T.n_waiting (e_v 0) rfl) (zaa (zfb M_parameter T.cl hr (e_v 0) (zaa (e_ix zam zan (e_v 1) zad (fun _ _=>rfl)) (zaa (e_v 2) zae))) zae)))) (zah (s_if (zap zbe zb2 (e_v 3) zax (nomark _)) (zah (za4 (e_bm PySem.F.plainAttrs_list PySem.F.slot_list_append PySem.F.type_list_append zao zaq (zb5 T.cl T.n_waiting (e_v 0) rfl) (zaa zcv zae)))) (zah (za4 (e_bm PySem.F.plainAttrs_list PySem.F.slot_list_append PySem.F.type_list_append zao zaq (zb5 T.cl T.n_waiting (e_v 0) rfl) (zaa (zai C_side hr rfl (zaa (e_v 3) (zaa (ze0 PySem.F.plainAttrs_list PySem.F.slot_list_pop PySem.F.type_list_pop zcc zdb (zb5 T.cl T.n_waiting (e_v 0) rfl)) zae))) zae))))))))))))))),?_⟩
  have hw:=h.wa
  cases hf with
  | @send _ x is xs ts l _ h1 h2 h3 =>
    nofun
    refine j_Rm h (fun _ _ _ _ _ _ _=>rfl) ?_
    nofun
    refine j_Rm h (fun _ _ _ _ _ _ _=>rfl) ?_
    nofun
    refine ⟨S0,a,A,r,_,xs,ts,rfl,h,h1,by rw [h2],fun A' S' g=>?_⟩
    nofun
    exact ⟨S0,a,A',_,_,_,_,_,_,rfl,g,sm.be,sm.pe,h3,fun S2 g2=>hq _ _ g2⟩
  | pair h1 h2 =>
    nofun
    refine j_Rm h (fun _ _ _ _ _ _ _=>rfl) ?_
    refine ⟨S0,a,A,r,_,_,_,rfl,h,h1,?_,by omega,fun _ A' S' g=>?_,fun z=>absurd h2 (by omega)⟩
    · have:=sm.wa
      rw [h1,List.length_append] at this
      omega
    · nofun
      exact hq _ _ g
  | grown h1 h2 h3 =>
    nofun
    refine j_Rm h (fun _ _ _ _ _ _ _=>rfl) ?_
    refine ⟨S0,a,A,r,_,_,_,rfl,h,h1,?_,h3,fun z=>absurd h2 (by omega),fun _ A' S' g=>?_⟩
    · have:=sm.wa
      rw [h1,List.length_append] at this
      omega
    · nofun
      exact hq _ _ g
  | @name x nm _ pr nu d zs ts j h1 h2 h3 h4 h5 =>
    nofun
    refine j_Rm h (fun _ _ _ _ _ _ _=>rfl) ?_
    nofun
    refine ⟨S0,a,A,r,x,p,pr,nu,nm,zs,ts,j,d,rfl,h,h1,h2,h3,h4,h5,?_⟩
    nofun
    refine j_append hw (zas (by have:=sm.wa;omega)) ?_
    nofun
    exact hq _ _ (h.putWa _)
  | bud =>
    nofun
    refine j_append hw (zas (by have:=sm.wa;omega)) ?_
    nofun
    exact hq _ _ (h.putWa _)
  | @fork c x y xs t _ h1 =>
    nofun
    refine j_Rm h (fun _ _ _ _ _ _ _=>rfl) ?_
    nofun
    refine ⟨S0,a,A,r,c,x,y,p,xs,t,rfl,h,sm.pe,h1,fun S2 g2=>?_⟩
    nofun
    exact hq _ _ g2
  | @left c xs t _ h1 =>
    rw [h1] at hw
    nofun
    refine j_pop hw ?_
    have g:=h.putWa xs
    have gw:=g.wa
    generalize up S A.wa _=S1 at g gw ⊢
    nofun
    refine ⟨true,t,rfl,?_⟩
    nofun
    refine j_append (ds:=xs) gw (zas (by have:=sm.wa;rw [h1,List.length_append] at this;omega)) ?_
    nofun
    exact hq _ _ (g.putWa _)
  | @right c xs t _ h1 =>
    rw [h1] at hw
    nofun
    refine j_pop hw ?_
    have g:=h.putWa xs
    have gw:=g.wa
    generalize up S A.wa _=S1 at g gw ⊢
    nofun
    refine ⟨false,t,rfl,?_⟩
    nofun
    refine j_append (ds:=xs) gw (zas (by have:=sm.wa;rw [h1,List.length_append] at this;omega)) ?_
    nofun
    exact hq _ _ (g.putWa _)
noncomputable def askd (p:Int) (ps:List D):List D:=ps.reverse.map fun c=>.tup [.bl false,c,.int p]
inductive zoe (CR:Addr) (ds:List D) (S:Hp3) (Q:K3) (_:X3):Prop where
  | mk (S0:_) (a:_) (A:_) (r:_) (s:_) (p:_) (ps:_) (_:ds=[.ref a,s,.int p]) (_:RS CR S0 S a A r) (_:r.pe.length≤900000) (_:PtN s ps) (_:ps.length≤100) (_:∀S',RS CR S0 S' a A {r with pe:=r.pe++[.tup [.bl true,s,.int p]]++askd p ps}→Q .non S')
def zgv (CR:Addr):Sp3:= (zoe CR)
theorem zis {k:Nat} (h:HasM K CR "prepare" "Run.prepare" zb9 ["self","saying","place"]) (G:Gs K mg) (T:RunT K mg CR) (C_needed_parts:Cal3 P w K mg base k "needed_parts" ["saying"] zdn):Met3 P w K mg base (k+1) CR "prepare" ["self","saying","place"] (zgv CR):=show _ by
  refine h.met3 ze6 (by rintro ds S Q E ⟨_,a,A,r,s,p,ps,e,_⟩;rw [e];rfl) fun f cdv A0 outer s0 H E ds S Q W hr hA=>?_
  obtain ⟨S0,a,A,r,s,p,ps,rfl,h,lp,hp,lps,hq⟩:=hA
  refine ⟨_,(zac (za4 (e_bm PySem.F.plainAttrs_list PySem.F.slot_list_append PySem.F.type_list_append zao zaq (zb5 T.cl T.n_pending (e_v 0) rfl) (zaa (zbj (zaa e_bl (zaa (e_v 1) (zaa (e_v 2) zae)))) zae)))
 (zah (zeu PassesOwn.never rfl (i_rev rfl G.reversed (zaa (zai C_needed_parts hr rfl (zaa (e_v 1) zae)) zae)) (zcu (i:=3) ze6.nd rfl (Or.inl rfl)) (zah (za4 (e_bm PySem.F.plainAttrs_list PySem.F.slot_list_append PySem.F.type_list_append zao zaq (zb5 T.cl T.n_pending (e_v 0) rfl) (zaa (zbj (zaa e_bl (zaa (e_v 3) (zaa (e_v 2) zae)))) zae))))))),?_⟩
  have hpe:=h.pe
  nofun
  refine j_append hpe (zas (by omega)) ?_
  have h1:=h.putPe (r.pe++[.tup [.bl true,s,.int p]])
  generalize up S A.pe _=S1 at h1 ⊢
  nofun
  refine ⟨s,ps,rfl,hp,?_⟩
  nofun
  refine ⟨fun i σ S'=>∃x3,σ=[some (.ref a),some s,some (.int p),x3]∧RS CR S0 S' a A {r with pe:=r.pe++[.tup [.bl true,s,.int p]]++(ps.reverse.take i).map fun c=>.tup [.bl false,c,.int p]},⟨none,rfl,by simpa using h1⟩,fun _ _ _ _=>trivial,?_,?_⟩
  · rintro i d σ S' hd ⟨x3,rfl,g⟩
    have hi:=(List.getElem?_eq_some_iff.mp hd).1
    rw [List.length_reverse] at hi
    have gp:=g.pe
    nofun
    refine j_append gp ?_ ?_
    · simp only [List.length_append,List.length_map,List.length_take,List.length_reverse,List.length_cons,List.length_nil]
      exact zas (by omega)
    nofun
    refine ⟨_,rfl,?_⟩
    have g2:=g.putPe (r.pe++[.tup [.bl true,s,.int p]]++((ps.reverse.take i).map fun c=>.tup [.bl false,c,.int p])++[.tup [.bl false,d,.int p]])
    rw [List.take_succ,hd,List.map_append,←List.append_assoc]
    exact g2
  · rintro σ S' ⟨x3,rfl,g⟩
    nofun
    refine hq _ ?_
    rw [List.take_length] at g
    exact g
inductive GoN:Nat→Rn→Rn→Prop
  | fin {r:Rn} {xs:List D} {v:D}:r.pe=[]→r.en=.non→r.wa=xs++[v]→GoN 0 r {r with wa:=xs,en:=.tup [.str "done",v,.int r.be.length]}
  | grown {r:Rn} {ds:List D}:r.en=.tup ds→GoN 0 r r
  | prep {n:Nat} {r r':Rn} {ps qs:List D} {s:D} {p:Int}:ps.length≤900000→r.en=.non→r.pe=ps++[.tup [.bl false,s,.int p]]→PtN s qs→qs.length≤100→GoN n {r with pe:=ps++[.tup [.bl true,s,.int p]]++askd p qs} r'→GoN (n+1) r r'
  | fnsh {n:Nat} {r r1 r':Rn} {ps:List D} {s:D} {p:Int}:Sm {r with pe:=ps}→r.en=.non→r.pe=ps++[.tup [.bl true,s,.int p]]→Fin {r with pe:=ps} s p r1→GoN n r1 r'→GoN (n+1) r r'
inductive zrx (CR:Addr) (ds:List D) (S:Hp3) (Q:K3) (_:X3):Prop where
  | mk (S0:_) (a:_) (A:_) (r:_) (n:_) (r':_) (_:ds=[.ref a]) (_:RS CR S0 S a A r) (_:GoN n r r') (_:∀A' S',RS CR S0 S' a A' r'→Q .non S')
def zj4 (CR:Addr):Sp3:= (zrx CR)
theorem zlb {k:Nat} (h:HasM K CR "go_on" "Run.go_on" zc7 ["self"]) (G:Gs K mg) (T:RunT K mg CR) (M_finish:Met3 P w K mg base k CR "finish" ["self","saying","place"] (zig CR)) (M_prepare:Met3 P w K mg base k CR "prepare" ["self","saying","place"] (zgv CR)) :
    Met3 P w K mg base (k+1) CR "go_on" ["self"] (zj4 CR):=show _ by
  refine h.met3 zgz (by rintro ds S Q E ⟨_,a,A,r,n,r',e,_⟩;rw [e];rfl) fun f cdv A0 outer s0 H E ds S Q W hr hA=>?_
  obtain ⟨S0,a,A,r,n,r',rfl,h,hg,hq⟩:=hA
  refine ⟨_,(zac (zhs PassesOwn.never (PW3.pt (w_and (zhi (zb5 T.cl T.n_pending (e_v 0) rfl) (fun _=>rfl)) (zfk (zap zf0 zgd (zb5 T.cl T.n_ending (e_v 0) rfl) zcv (nomark _))))) (zac (zal (i:=1) zgz.nd rfl (Or.inl rfl) (ze0 PySem.F.plainAttrs_list PySem.F.slot_list_pop PySem.F.type_list_pop zcc zdb (zb5 T.cl T.n_pending (e_v 0) rfl)))
 (zah (s_if (zkp (e_ix zam zan (e_v 1) zad (fun _ _=>rfl))) (zah (za4 (zfb M_finish T.cl hr (e_v 0) (zaa (e_ix zam zan (e_v 1) zad (fun _ _=>rfl)) (zaa (e_ix zam zan (e_v 1) zad (fun _ _=>rfl)) zae))))) (zah (za4 (zfb M_prepare T.cl hr (e_v 0) (zaa (e_ix zam zan (e_v 1) zad (fun _ _=>rfl)) (zaa (e_ix zam zan (e_v 1) zad (fun _ _=>rfl)) zae)))))))))
 (zah (s_if (zap zf0 zgd (zb5 T.cl T.n_ending (e_v 0) rfl) zcv (nomark _)) (zah (zfv T.cl T.n_ending (e_v 0) (zbj (zaa zax (zaa (ze0 PySem.F.plainAttrs_list PySem.F.slot_list_pop PySem.F.type_list_pop zcc zdb (zb5 T.cl T.n_waiting (e_v 0) rfl)) (zaa (zay zaj zby rfl G.len PySem.boot_len (zaa (zb5 T.cl T.n_begun (e_v 0) rfl) zae)) zae)))) rfl)) zbc))),?_⟩
  nofun
  refine j_while (fun m σ S=>Ex3 fun A r x1=>σ=[some (.ref a),x1]∧RS CR S0 S a A r∧GoN m r r') n ⟨A,r,none,rfl,h,hg⟩ ?_
  clear h hg
  rintro m σ S ⟨A,r,x1,rfl,h,hg⟩
  have hpe:=h.pe
  have hbe:=h.be
  nofun
  cases hg with
  | @fin _ xs v h1 h2 h3 =>
    have h2':isNon r.en=true:=by rw [h2];rfl
    have hw:S A.wa=some (.lst (xs++[v])):=by rw [h.wa,h3]
    rw [h1]
    nofun
    rw [h2']
    nofun
    refine j_pop hw ?_
    have g:=h.putWa xs
    have gb:=g.be
    generalize up S A.wa _=S1 at g gb ⊢
    nofun
    refine j_RputEn g ?_
    nofun
    exact hq _ _ (g.putEn _)
  | @grown _ ds h1 =>
    have h2':isNon r'.en=false:=by rw [h1];rfl
    cases hb:(!r'.pe.isEmpty) with
    | true =>
      refine iteT ?_
      nofun
      rw [h2']
      nofun
      rw [h2']
      nofun
      exact hq _ _ h
    | false =>
      refine iteF ?_
      nofun
      rw [h2']
      nofun
      exact hq _ _ h
  | @prep n _ _ ps qs s p h1 h2 h3 h4 h5 h6 =>
    have h2':isNon r.en=true:=by rw [h2];rfl
    have hb:(!r.pe.isEmpty)=true:=by rw [h3];simp
    rw [h3] at hpe
    rw [hb]
    nofun
    rw [h2']
    nofun
    refine j_pop hpe ?_
    have g:=h.putPe ps
    generalize up S A.pe _=S1 at g ⊢
    nofun
    refine j_Rm g (fun _ _ _ _ _ _ _=>rfl) ?_
    nofun
    refine ⟨S0,a,A,_,s,p,qs,rfl,g,h1,h4,h5,fun S' g2=>?_⟩
    nofun
    exact ⟨n,Nat.lt_succ_self _,A,_,_,rfl,g2,h6⟩
  | @fnsh n _ r1 _ ps s p h1 h2 h3 h4 h5 =>
    have h2':isNon r.en=true:=by rw [h2];rfl
    have hb:(!r.pe.isEmpty)=true:=by rw [h3];simp
    rw [h3] at hpe
    rw [hb]
    nofun
    rw [h2']
    nofun
    refine j_pop hpe ?_
    have g:=h.putPe ps
    generalize up S A.pe _=S1 at g ⊢
    nofun
    refine j_Rm g (fun _ _ _ _ _ _ _=>rfl) ?_
    nofun
    refine ⟨S0,a,A,_,s,p,r1,rfl,g,h1,h4,fun A' S' g2=>?_⟩
    nofun
    exact ⟨n,Nat.lt_succ_self _,A',_,_,rfl,g2,h5⟩
noncomputable def parD (prog:List Er):List (Key×D):=(prog.map fun e=>((Sum.inr e.name:Key),D.tup (e.ps.map D.str))).foldl (fun acc kv=>putD acc kv.1 kv.2) []
structure Runs (prog:List Er) (x:Str) (ts:List D) (mo:Int) (r':Rn):Prop where
  len:prog.length≤100
  pre:∀e∈prog,e.body.pre.length≤100000
  ex:∃(zs:List Str) (kvs:List (Key×D)) (r1:Rn) (n:Nat),valD (parD prog) (.inr x)=some (.tup (zs.map D.str))∧zs.length=ts.length∧foldB [] 0 prog=some kvs∧Beg ⟨parD prog,kvs,mo,[],[],[],.non⟩ .non .non x (.tup ts) r1∧GoN n r1 r'
inductive zjz (CR:Addr) (ds:List D) (S:Hp3) (Q:K3) (_:X3):Prop where
  | mk (pr tr:Addr) (prog:List Er) (x:Str) (ts:List D) (mo:Int) (r':Rn) (_:ds=[.ref pr,.str x,.ref tr,.int mo]) (_:S pr=some (.lst (prog.map Er.d))) (_:S tr=some (.lst ts)) (_:Runs prog x ts mo r') (_:∀a A S',RS CR S S' a A r'→Q (.ref a) S')
def ze5 (CR:Addr):Sp3:= (zjz CR)
theorem zir {k:Nat} (h:Has K mg "ended_run" zb0 ["program","name","trees","most"]) (G:Gs K mg) (T:RunT K mg CR) (C_refuse_missing:Cal3 P w K mg base (k+1) "refuse_missing" ["name","known"] zc1) (C_refuse_miscounted:Cal3 P w K mg base (k+1) "refuse_miscounted" ["name","row","needed"] zcf)
    (C_numbered_bodies:Cal3 P w K mg base (k+1) "numbered_bodies" ["program"] zcw) (M_init:Met3 P w K mg base k CR "__init__" ["self","params","bodies","most"] (zl4 CR)) (M_begin:Met3 P w K mg base (k+1) CR "begin" ["self","parent","number","name","trees"] (zho CR))
    (M_go_on:Met3 P w K mg base (k+1) CR "go_on" ["self"] (zj4 CR)):Cal3 P w K mg base (k+1+1) "ended_run" ["program","name","trees","most"] (ze5 CR):=show _ by
  refine h.cal3 zdo (by rintro ds S Q E ⟨pr,tr,prog,x,ts,mo,r',e,_⟩;rw [e];rfl) fun f cdv A outer s0 H E ds S Q W hr hA=>?_
  obtain ⟨pr,tr,prog,x,ts,mo,r',rfl,hS,hT,hR,hq⟩:=hA
  obtain ⟨zs,kvs,r0,n,h1,h2,h3,h5,h6⟩:=hR.ex
  have hl:=hR.len
  have hu:=ziv hr
  refine ⟨_,Q,(zac (zal (i:=4) zdo.nd rfl (Or.inl rfl) (zb6 zgh znp rfl G.dict boot_dict (zaa (zkg (osc:=defScope zb0) (N:=["program","name","trees","most","params","ended"]) (M:=[]) (js:=[]) ⟨rfl,by decide +kernel,by decide +kernel,rfl,by decide +kernel,by decide +kernel,by decide +kernel⟩ (by decide +kernel) rfl (ziu (e_v 0)) (fun _ _ _ _ _=>(zbj (zaa (e_ix zam zan (e_v 0) zad (fun _ _=>rfl)) (zaa (e_ix zam zan (e_v 0) zad (fun _ _=>rfl)) zae))))) zae)))
 (zac (za4 (zai C_refuse_missing hr rfl (zaa (e_v 1) (zaa (e_v 4) zae))))
 (zac (za4 (zai C_refuse_miscounted hr rfl (zaa (e_v 1) (zaa (e_v 2) (zaa (zay zaj zby rfl G.len PySem.boot_len (zaa (zhb hu (e_v 4) (e_v 1) (fun _ _=>rfl)) zae)) zae)))))
 (zac (zal (i:=5) zdo.nd rfl (Or.inl rfl) (e_make M_init T.mks T.kc hr rfl T.at_ (zaa (e_v 4) (zaa (zai C_numbered_bodies hr rfl (zaa (e_v 0) zae)) (zaa (e_v 3) zae)))))
 (zac (za4 (zfb M_begin T.cl hr (e_v 5) (zaa zcv (zaa zcv (zaa (e_v 1) (zaa (zb6 zbn zdk rfl G.tuple boot_tuple (zaa (e_v 2) zae)) zae))))))
 (zac (za4 (znn M_go_on T.cl hr (e_v 5)))
 (zah (zav (e_v 5))))))))),?_,fun _ _ q=>q⟩
  nofun
  refine zel (fun i=>((prog.map fun e=>D.tup [.str e.name,.tup (e.ps.map D.str)]).getD i .non)) (by rw [List.length_map];omega) (by exact hS) ?_ ?_
  · intro i d hd P hP
    rw [List.getElem?_map] at hd
    obtain ⟨e,he,rfl⟩:=Option.map_eq_some_iff.mp hd
    unfold Er.d
    nofun
    rw [List.getD_eq_getElem?_getD,List.getElem?_map,he] at hP
    exact hP
  have en:((List.range (prog.map Er.d).length).map fun i=>((prog.map fun e=>D.tup [.str e.name,.tup (e.ps.map D.str)]).getD i .non))=(prog.map fun e=>((Sum.inr e.name:Key),D.tup (e.ps.map D.str))).map fun kv=>D.tup [kD kv.1,kv.2]:=by
    rw [List.length_map,List.map_map]
    apply List.ext_getElem?
    intro i
    rw [List.getElem?_map,List.getElem?_map]
    by_cases hi:i<prog.length
    · rw [List.getElem?_range hi,List.getElem?_eq_getElem hi]
      show some (List.getD _ _ _)=some _
      rw [List.getD_eq_getElem?_getD,List.getElem?_map,List.getElem?_eq_getElem hi]
      rfl
    · rw [List.getElem?_eq_none (by simpa using hi),List.getElem?_eq_none (by omega)]
      rfl
  rw [en]
  intro pl hpl
  have a1:=zaf (o:=.lst ((prog.map fun e=>((Sum.inr e.name:Key),D.tup (e.ps.map D.str))).map fun kv=>D.tup [kD kv.1,kv.2])) hS hpl
  have a2:=zaf (o:=.lst ((prog.map fun e=>((Sum.inr e.name:Key),D.tup (e.ps.map D.str))).map fun kv=>D.tup [kD kv.1,kv.2])) hT hpl
  nofun
  refine j_toDict zab fun pd hpd=>?_
  have eP:List.foldl (fun acc (kv:Key×D)=>putD acc kv.1 kv.2) [] (prog.map fun e=>((Sum.inr e.name:Key),D.tup (e.ps.map D.str)))=parD prog:=rfl
  rw [eP]
  have b1:=zaf (o:=.dic (parD prog)) a1 hpd
  have b2:=zaf (o:=.dic (parD prog)) a2 hpd
  have b3:=zab (S:=up S pl (.lst ((prog.map fun e=>((Sum.inr e.name:Key),D.tup (e.ps.map D.str))).map fun kv=>D.tup [kD kv.1,kv.2]))) (a:=pd) (o:=.dic (parD prog))
  have b0:Sub S (up (up S pl (.lst ((prog.map fun e=>((Sum.inr e.name:Key),D.tup (e.ps.map D.str))).map fun kv=>D.tup [kD kv.1,kv.2]))) pd (.dic (parD prog))):=((Sub.refl S).up hpl).up hpd
  generalize up (up S pl _) pd (.dic (parD prog))=S1 at b0 b1 b2 b3 ⊢
  nofun
  refine ⟨x,_,rfl,.inr ⟨pd,_,rfl,b3,by rw [h1];rfl⟩,?_⟩
  nofun
  refine j_dgetS b3 h1 ?_
  nofun
  have e1:((zs.map D.str).length:Int)=(ts.length:Int):=by rw [List.length_map,h2]
  rw [e1]
  refine ⟨x,tr,ts,rfl,b2,?_⟩
  nofun
  refine ⟨pr,prog,kvs,rfl,b1,hl,hR.pre,h3,fun pb S2 sub hb=>?_⟩
  nofun
  intro a ha
  have c2:=zaf (o:=.ins CR []) (sub _ _ b2) ha
  refine ⟨S,a,pd,pb,mo,parD prog,kvs,rfl,zab,zaf (sub _ _ b3) ha,zaf hb ha,(b0.trans sub).up ha,(b0.trans sub).free ha,fun A1 S3 r3=>⟨rfl,?_⟩⟩
  have d2:=r3.sub _ _ hT
  nofun
  refine j_Rm r3 (fun _ _ _ _ _ _ _=>rfl) ?_
  nofun
  refine ⟨S,a,A1,_,_,_,x,_,_,rfl,r3,Nat.zero_le _,Nat.zero_le _,h5,fun S4 r4=>?_⟩
  nofun
  refine j_Rm r4 (fun _ _ _ _ _ _ _=>rfl) ?_
  refine ⟨S,a,A1,_,n,r',rfl,r4,h6,fun A2 S5 r5=>?_⟩
  nofun
  exact hq a A2 S5 r5
inductive P_run0  (ds:List D) (S:Hp3) (q:D→Prop):Prop where
  | mk (pr tr:Addr) (prog:List Er) (x:Str) (ts:List D) (mo:Int) (r':Rn) (_:ds=[.ref pr,.str x,.ref tr,.int mo]) (_:S pr=some (.lst (prog.map Er.d))) (_:S tr=some (.lst ts)) (_:Runs prog x ts mo r') (_:q r'.en)
def zl3 :Sp3:=rdV P_run0
theorem ok_run {k:Nat} (h:Has K mg "run" zky ["program","name","trees","most"]) (G:Gs K mg) (T:RunT K mg CR) (C_ended_run:Cal3 P w K mg base k "ended_run" ["program","name","trees","most"] (ze5 CR)):Cal3 P w K mg base (k+1) "run" ["program","name","trees","most"] zl3:=show _ by
  refine h.rdV sc_run (by rintro ds S Q ⟨pr,tr,prog,x,ts,mo,r',e,_⟩;rw [e];rfl) fun f cdv A outer s0 H E ds S q hr hA=>?_
  obtain ⟨pr,tr,prog,x,ts,mo,r',rfl,hS,hT,hR,hq⟩:=hA
  refine ⟨_,(zah (zav (zb5 T.cl T.n_ending (zai C_ended_run hr rfl (zaa (e_v 0) (zaa (e_v 1) (zaa (e_v 2) (zaa (e_v 3) zae))))) rfl))),?_⟩
  nofun
  refine ⟨pr,tr,prog,x,ts,mo,r',rfl,hS,hT,hR,fun a A1 S1 r1=>?_⟩
  nofun
  exact ⟨r1.sub,hq⟩
structure En where
  pr:D
  nu:D
  nm:Str
  ts:List Tre
noncomputable def En.d (e:En):D:=.tup [e.pr,e.nu,.str e.nm,.tup (e.ts.map Tre.d)]
inductive Rs (α:Type)
  | val (a:α) (be:List En)
  | grown (be:List En)
  | going (be:List En)
noncomputable def Rs.be {α:Type}:Rs α→List En
  | .val _ be=>be
  | .grown be=>be
  | .going be=>be
noncomputable def Rs.bind {α β:Type} (r:Rs α) (f:α→List En→Rs β):Rs β:=match r with
  | .val a be=>f a be
  | .grown be=>.grown be
  | .going be=>.going be
noncomputable abbrev Call:=D→D→Str→List Tre→List En→Rs Tre
noncomputable def joinT (t1 t2:Tre) (be:List En):Rs Tre:=if (Tre.pair t1 t2).size≤60 then .val (.pair t1 t2) be else .grown be
mutual
noncomputable def ev (call:Call) (zs:List Str) (ts:List Tre) (p:Int):Sy→Int→List En→Rs Tre
  | .name x,_,be=>.val ((ts[zs.idxOf x]?).getD .bud) be
  | .bud,_,be=>.val .bud be
  | .pair a b,n,be=>(ev call zs ts p a n be).bind fun t1 be1=>(ev call zs ts p b (n+a.sends) be1).bind fun t2 be2=>joinT t1 t2 be2
  | .left a,n,be=>(ev call zs ts p a n be).bind fun t be1=>.val (sideT true t) be1
  | .right a,n,be=>(ev call zs ts p a n be).bind fun t be1=>.val (sideT false t) be1
  | .fork a b c,n,be=>(ev call zs ts p a n be).bind fun t be1=>match t with
    | .bud=>ev call zs ts p c (n+a.sends+b.sends) be1
    | .pair _ _=>ev call zs ts p b (n+a.sends) be1
  | .send x as,n,be=>(evs call zs ts p as (n+1) be).bind fun us be1=>call (.int p) (.int n) x us be1
noncomputable def evs (call:Call) (zs:List Str) (ts:List Tre) (p:Int):List Sy→Int→List En→Rs (List Tre)
  | [],_,be=>.val [] be
  | a::as,n,be=>(ev call zs ts p a n be).bind fun t be1=>(evs call zs ts p as (n+a.sends) be1).bind fun us be2=>.val (t::us) be2
end
structure Bk where
  zs:List Str
  body:Sy
  num:Int
noncomputable def enter (B:Str→Bk) (mo:Nat):Nat→Call
  | 0,_,_,_,_,be=>.going be
  | n+1,p,l,x,ts,be=>if be.length<mo then ev (enter B mo n) (B x).zs ts be.length (B x).body (B x).num (be++[⟨p,l,x,ts⟩]) else .going be
mutual
noncomputable def numD:Sy→Int→D
  | .name x,_=>.tup [.str "name",.str x]
  | .bud,_=>.tup [.str "bud"]
  | .pair a b,n=>.tup [.str "pair",numD a n,numD b (n+a.sends)]
  | .left a,n=>.tup [.str "left",numD a n]
  | .right a,n=>.tup [.str "right",numD a n]
  | .fork a b c,n=>.tup [.str "fork",numD a n,numD b (n+a.sends),numD c (n+a.sends+b.sends)]
  | .send x as,n=>.tup [.str "send",.str x,.tup (numDs as (n+1)),.int n]
noncomputable def numDs:List Sy→Int→List D
  | [],_=>[]
  | a::as,n=>numD a n::numDs as (n+a.sends)
end
theorem zct:∀(as:List Sy) (n:Int),(numDs as n).length=as.length
  | [],_=>rfl
  | a::as,n=>by rw [numDs,List.length_cons,List.length_cons,zct as]
theorem zbg (a:List D×Int) (xs ys:List Sy):foldN a (xs++ys)=(foldN a xs).bind fun b=>foldN b ys:=by
  induction xs generalizing a with
  | nil=>rfl
  | cons x xs ih =>
    rw [List.cons_append,foldN,foldN]
    cases stepN a x with
    | none=>rfl
    | some b=>exact ih b
theorem zkt (a b:Sy):(Sy.pair a b).sends=a.sends+b.sends:=by rw [Sy.sends_parts];simp only [Sy.parts,Sy.sendss_cons];simp [Sy.sendss,Sy.pres]
theorem zku (a:Sy):(Sy.left a).sends=a.sends:=by rw [Sy.sends_parts];simp only [Sy.parts,Sy.sendss_cons];simp [Sy.sendss,Sy.pres]
theorem zjf (a:Sy):(Sy.right a).sends=a.sends:=by rw [Sy.sends_parts];simp only [Sy.parts,Sy.sendss_cons];simp [Sy.sendss,Sy.pres]
theorem zkv (a b c:Sy):(Sy.fork a b c).sends=a.sends+b.sends+c.sends:=by rw [Sy.sends_parts];simp only [Sy.parts,Sy.sendss_cons];simp [Sy.sendss,Sy.pres];omega
theorem zks (x:Str) (as:List Sy):(Sy.send x as).sends=1+Sy.sendss as:=by rw [Sy.sends_parts];rfl
theorem zpm (s:Sy):cntS s.pre=(s.sends:Nat):=by
  unfold cntS Sy.sends
  exact congrArg (fun n:Nat=>(n:Int)) (congrArg List.length (List.filter_congr fun a _=>by cases a<;>rfl))
mutual
theorem zcj:∀(s:Sy) (st:List D) (l:Int),foldN (st,l) s.pre.reverse=some (numD s (l-s.sends)::st,l-s.sends)
  | .name x,st,l=>by simp [Sy.pre,foldN,stepN,numD,Sy.sends]
  | .bud,st,l=>by simp [Sy.pre,foldN,stepN,numD,Sy.sends]
  | .pair a b,st,l=>by
    have e1:l-(a.sends:Int)-b.sends+a.sends=l-b.sends:=show _ by omega
    have e2:l-(b.sends:Int)-a.sends=l-((a.sends+b.sends:Nat):Int):=by omega
    rw [zkt,Sy.pre,List.reverse_cons,List.reverse_append,zbg,zbg,zcj b]
    simp only [Option.bind_some]
    rw [zcj a]
    simp only [Option.bind_some,foldN,stepN,numD]
    rw [e2]
    rw [show l-((a.sends+b.sends:Nat):Int)+a.sends=l-b.sends by omega]
  | .left a,st,l=>by
    rw [zku,Sy.pre,List.reverse_cons,zbg,zcj a]
    simp only [Option.bind_some,foldN,stepN,numD]
  | .right a,st,l=>by
    rw [zjf,Sy.pre,List.reverse_cons,zbg,zcj a]
    simp only [Option.bind_some,foldN,stepN,numD]
  | .fork a b c,st,l=>by
    have e2:l-(c.sends:Int)-b.sends-a.sends=l-((a.sends+b.sends+c.sends:Nat):Int):=by omega
    rw [zkv,Sy.pre,List.reverse_cons,List.reverse_append,List.reverse_append,zbg,zbg,zbg,zcj c]
    simp only [Option.bind_some]
    rw [zcj b]
    simp only [Option.bind_some]
    rw [zcj a]
    simp only [Option.bind_some,foldN,stepN,numD]
    rw [e2,show l-((a.sends+b.sends+c.sends:Nat):Int)+a.sends=l-c.sends-b.sends by omega,show l-(c.sends:Int)-b.sends+b.sends=l-c.sends by omega]
  | .send x as,st,l=>by
    rw [zks,Sy.pre,List.reverse_cons,zbg,ziw as]
    simp only [Option.bind_some,foldN,stepN,numD]
    have hl:as.length≤(numDs as (l-(Sy.sendss as:Nat))++st).length:=by rw [List.length_append,zct];omega
    rw [if_pos hl,show l-((1+Sy.sendss as:Nat):Int)+1=l-(Sy.sendss as:Nat) by omega,show l-((Sy.sendss as:Nat):Int)-1=l-((1+Sy.sendss as:Nat):Int) by omega]
    rw [show as.length=(numDs as (l-(Sy.sendss as:Nat))).length from (zct _ _).symm,List.take_left,List.drop_left]
theorem ziw:∀(as:List Sy) (st:List D) (l:Int),foldN (st,l) (Sy.pres as).reverse=some (numDs as (l-(Sy.sendss as:Nat))++st,l-(Sy.sendss as:Nat))
  | [],st,l=>by simp [Sy.pres,foldN,numDs,Sy.sendss]
  | a::as,st,l=>by
    rw [Sy.sendss_cons,Sy.pres,List.reverse_append,zbg,ziw as]
    simp only [Option.bind_some]
    rw [zcj a]
    simp only [numDs]
    rw [show l-((Sy.sendss as:Nat):Int)-a.sends=l-((a.sends+Sy.sendss as:Nat):Int) by omega,show l-((a.sends+Sy.sendss as:Nat):Int)+a.sends=l-(Sy.sendss as:Nat) by omega]
    rfl
end
structure Ext {α:Type} (mo:Nat) (be:List En) (r:Rs α) (P:α→Prop):Prop where
  pre:be <+: r.be
  le:r.be.length≤mo
  val:∀a b,r=.val a b→P a
theorem Ext.bind {α β:Type} {mo:Nat} {be:List En} {r:Rs α} {P:α→Prop} {P':β→Prop} {f:α→List En→Rs β} (h:Ext mo be r P) (hf:∀a b,P a→be <+: b→b.length≤mo→Ext mo b (f a b) P'):Ext mo be (r.bind f) P':=show _ by
  cases r with
  | val a b =>
    have g:=hf a b (h.val a b rfl) h.pre h.le
    exact ⟨h.pre.trans g.pre,g.le,g.val⟩
  | grown b=>exact ⟨h.pre,h.le,fun _ _ e=>nomatch e⟩
  | going b=>exact ⟨h.pre,h.le,fun _ _ e=>nomatch e⟩
theorem Ext.one {α:Type} {mo:Nat} {be:List En} {a:α} {P:α→Prop} (hl:be.length≤mo) (h:P a):Ext mo be (.val a be) P:=⟨List.prefix_refl _,hl,fun _ _ e=>by cases e;exact h⟩
abbrev Sz (t:Tre):Prop:=t.size≤60
theorem zl9 {l:Bool} {t:Tre} (h:Sz t):Sz (sideT l t):=by
  cases t with
  | bud=>exact h
  | pair a b =>
    have:a.size+b.size+1≤60:=by simp only [Sz,Tre.size] at h;omega
    cases l
    · show b.size≤60;omega
    · show a.size≤60;omega
def ExtC (mo:Nat) (call:Call):Prop:=∀p l x us be,be.length≤mo→(∀u∈us,Sz u)→Ext mo be (call p l x us be) Sz
section
variable {call:Call} {zs:List Str} {ts:List Tre} {p:Int} {mo:Nat}
theorem zhz {t1 t2:Tre} {be:List En} (hl:be.length≤mo):Ext mo be (joinT t1 t2 be) Sz:=by
  unfold joinT
  by_cases c:(Tre.pair t1 t2).size≤60
  · rw [if_pos c];exact .one hl c
  · rw [if_neg c];exact ⟨List.prefix_refl _,hl,fun _ _ e=>nomatch e⟩
mutual
theorem za9 (hc:ExtC mo call) (ht:∀t∈ts,Sz t):∀(s:Sy) (n:Int) (be:List En),be.length≤mo→Ext mo be (ev call zs ts p s n be) Sz
  | .name x,n,be,hl=>by
    rw [ev]
    refine .one hl ?_
    cases e:ts[zs.idxOf x]? with
    | none=>exact Nat.zero_le _
    | some t=>exact ht t (List.mem_of_getElem? e)
  | .bud,n,be,hl=>by rw [ev];exact .one hl (Nat.zero_le _)
  | .pair a b,n,be,hl=>by
    rw [ev]
    exact (za9 hc ht a n be hl).bind fun t1 b1 _ _ l1=>(za9 hc ht b _ b1 l1).bind fun t2 b2 _ _ l2=>zhz l2
  | .left a,n,be,hl=>by
    rw [ev]
    exact (za9 hc ht a n be hl).bind fun t b1 h _ l1=>.one l1 (zl9 h)
  | .right a,n,be,hl=>by
    rw [ev]
    exact (za9 hc ht a n be hl).bind fun t b1 h _ l1=>.one l1 (zl9 h)
  | .fork a b c,n,be,hl=>by
    rw [ev]
    refine (za9 hc ht a n be hl).bind fun t b1 h _ l1=>?_
    cases t with
    | bud=>exact za9 hc ht c _ b1 l1
    | pair u v=>exact za9 hc ht b _ b1 l1
  | .send x as,n,be,hl=>by
    rw [ev]
    exact (zdq hc ht as _ be hl).bind fun us b1 h _ l1=>hc _ _ _ _ _ l1 h.1
theorem zdq (hc:ExtC mo call) (ht:∀t∈ts,Sz t):∀(as:List Sy) (n:Int) (be:List En),be.length≤mo→Ext mo be (evs call zs ts p as n be) (fun us=>(∀u∈us,Sz u)∧us.length=as.length)
  | [],n,be,hl=>by rw [evs];exact .one hl ⟨fun _ h=>by simp at h,rfl⟩
  | a::as,n,be,hl=>by
    rw [evs]
    refine (za9 hc ht a n be hl).bind fun t b1 h _ l1=>(zdq hc ht as _ b1 l1).bind fun us b2 h2 _ l2=>.one l2 ⟨fun u hu=>?_,by simp [h2.2]⟩
    rcases List.mem_cons.mp hu with rfl|hu
    · exact h
    · exact h2.1 u hu
end
end
theorem zb4 (B:Str→Bk) (mo:Nat):∀n,ExtC mo (enter B mo n)
  | 0,p,l,x,us,be,hl,hs=>⟨List.prefix_refl _,hl,fun _ _ e=>nomatch e⟩
  | n+1,p,l,x,us,be,hl,hs=>by
    rw [enter]
    by_cases c:be.length<mo
    · rw [if_pos c]
      have g:=za9 (zs:=(B x).zs) (p:=be.length) (zb4 B mo n) hs (B x).body (B x).num (be++[⟨p,l,x,us⟩]) (by rw [List.length_append];exact c)
      exact ⟨(List.prefix_append _ _).trans g.pre,g.le,g.val⟩
    · rw [if_neg c]
      exact ⟨List.prefix_refl _,hl,fun _ _ e=>nomatch e⟩
def Cmp {α:Type} (mo mo':Nat) (r r':Rs α):Prop:=match r with
  | .going b=>b.length=mo∧b <+: r'.be∧(mo<mo'→mo<r'.be.length)
  | _=>r'=r
theorem Cmp.bind {α β:Type} {mo mo':Nat} {r r':Rs α} {f f':α→List En→Rs β} (h:Cmp mo mo' r r') (hf:∀a b,r=.val a b→Cmp mo mo' (f a b) (f' a b)) (he:∀a b,r'=.val a b→b <+: (f' a b).be):Cmp mo mo' (r.bind f) (r'.bind f'):=show _ by
  cases r with
  | val a b =>
    have e:r'=.val a b:=h
    subst e
    exact hf a b rfl
  | grown b =>
    have e:r'=.grown b:=h
    subst e
    exact rfl
  | going b =>
    obtain ⟨h1,h2,h3⟩:=h
    have k:r'.be <+: (r'.bind f').be:=by
      cases r' with
      | val a c=>exact he a c rfl
      | grown c=>exact List.prefix_refl _
      | going c=>exact List.prefix_refl _
    exact ⟨h1,h2.trans k,fun hm=>Nat.lt_of_lt_of_le (h3 hm) k.length_le⟩
structure CmpC (mo mo' f:Nat) (c c':Call):Prop where
  e:ExtC mo c
  e':ExtC mo' c'
  c:∀p l x us be,be.length≤mo→f≤be.length→(∀u∈us,Sz u)→Cmp mo mo' (c p l x us be) (c' p l x us be)
section
variable {c c':Call} {zs:List Str} {ts:List Tre} {p:Int} {mo mo' f:Nat}
theorem Ext.len {α:Type} {mo:Nat} {be:List En} {r:Rs α} {P:α→Prop} (h:Ext mo be r P) {a:α} {b:List En} (e:r=.val a b):be.length≤b.length∧b.length≤mo∧P a∧be <+: b:=by
  subst e
  exact ⟨h.pre.length_le,h.le,h.val _ _ rfl,h.pre⟩
mutual
theorem zem (C:CmpC mo mo' f c c') (hm:mo≤mo') (ht:∀t∈ts,Sz t):∀(s:Sy) (n:Int) (be:List En),be.length≤mo→f≤be.length→Cmp mo mo' (ev c zs ts p s n be) (ev c' zs ts p s n be)
  | .name x,n,be,hl,hf=>by rw [ev,ev];exact rfl
  | .bud,n,be,hl,hf=>by rw [ev,ev];exact rfl
  | .pair a b,n,be,hl,hf=>by
    have xa:=za9 (zs:=zs) (p:=p) C.e ht a n be hl
    have xa':=za9 (zs:=zs) (p:=p) C.e' ht a n be (by omega)
    rw [ev,ev]
    refine (zem C hm ht a n be hl hf).bind (fun t1 b1 e1=>?_) fun t1 b1 e1=>?_
    · have g1:=xa.len e1
      have xb:=za9 (zs:=zs) (p:=p) C.e ht b (n+a.sends) b1 g1.2.1
      refine (zem C hm ht b _ b1 g1.2.1 (by omega)).bind (fun t2 b2 e2=>?_) fun t2 b2 e2=>?_
      · unfold joinT
        by_cases q:(Tre.pair t1 t2).size≤60
        · rw [if_pos q];exact rfl
        · rw [if_neg q];exact rfl
      · have g2:=(za9 (zs:=zs) (p:=p) C.e' ht b (n+a.sends) b1 (by omega)).len e2
        exact (zhz (t1:=t1) (t2:=t2) g2.2.1).pre
    · have g1:=xa'.len e1
      exact ((za9 (zs:=zs) (p:=p) C.e' ht b (n+a.sends) b1 g1.2.1).bind fun t2 b2 _ _ l2=>zhz (t1:=t1) (t2:=t2) l2).pre
  | .left a,n,be,hl,hf=>by
    rw [ev,ev]
    exact (zem C hm ht a n be hl hf).bind (fun t1 b1 e1=>rfl) fun t1 b1 e1=>List.prefix_refl _
  | .right a,n,be,hl,hf=>by
    rw [ev,ev]
    exact (zem C hm ht a n be hl hf).bind (fun t1 b1 e1=>rfl) fun t1 b1 e1=>List.prefix_refl _
  | .fork a b d,n,be,hl,hf=>by
    have xa:=za9 (zs:=zs) (p:=p) C.e ht a n be hl
    have xa':=za9 (zs:=zs) (p:=p) C.e' ht a n be (by omega)
    rw [ev,ev]
    refine (zem C hm ht a n be hl hf).bind (fun t1 b1 e1=>?_) fun t1 b1 e1=>?_
    · have g1:=xa.len e1
      cases t1 with
      | bud=>exact zem C hm ht d _ b1 g1.2.1 (by omega)
      | pair u v=>exact zem C hm ht b _ b1 g1.2.1 (by omega)
    · have g1:=xa'.len e1
      cases t1 with
      | bud=>exact (za9 (zs:=zs) (p:=p) C.e' ht d _ b1 g1.2.1).pre
      | pair u v=>exact (za9 (zs:=zs) (p:=p) C.e' ht b _ b1 g1.2.1).pre
  | .send x as,n,be,hl,hf=>by
    have xa:=zdq (zs:=zs) (p:=p) C.e ht as (n+1) be hl
    have xa':=zdq (zs:=zs) (p:=p) C.e' ht as (n+1) be (by omega)
    rw [ev,ev]
    refine (zn2 C hm ht as _ be hl hf).bind (fun us b1 e1=>?_) fun us b1 e1=>?_
    · have g1:=xa.len e1
      exact C.c _ _ _ _ _ g1.2.1 (by omega) g1.2.2.1.1
    · have g1:=xa'.len e1
      exact (C.e' _ _ _ _ _ g1.2.1 g1.2.2.1.1).pre
theorem zn2 (C:CmpC mo mo' f c c') (hm:mo≤mo') (ht:∀t∈ts,Sz t):∀(as:List Sy) (n:Int) (be:List En),be.length≤mo→f≤be.length→Cmp mo mo' (evs c zs ts p as n be) (evs c' zs ts p as n be)
  | [],n,be,hl,hf=>by rw [evs,evs];exact rfl
  | a::as,n,be,hl,hf=>by
    have xa:=za9 (zs:=zs) (p:=p) C.e ht a n be hl
    have xa':=za9 (zs:=zs) (p:=p) C.e' ht a n be (by omega)
    rw [evs,evs]
    refine (zem C hm ht a n be hl hf).bind (fun t1 b1 e1=>?_) fun t1 b1 e1=>?_
    · have g1:=xa.len e1
      exact (zn2 C hm ht as _ b1 g1.2.1 (by omega)).bind (fun us b2 _=>rfl) fun us b2 _=>List.prefix_refl _
    · have g1:=xa'.len e1
      exact ((zdq (zs:=zs) (p:=p) C.e' ht as (n+a.sends) b1 g1.2.1).bind (P':=fun _=>True) fun us b2 _ _ l2=>.one l2 trivial).pre
end
end
theorem zn3 (B:Str→Bk) {mo mo':Nat} (hm:mo≤mo'):∀n n',∀p l x us be,be.length≤mo→mo≤be.length+n→mo'≤be.length+n'→(∀u∈us,Sz u)→Cmp mo mo' (enter B mo n p l x us be) (enter B mo' n' p l x us be):=show _ by
  have base:∀n',∀p l x us be,be.length=mo→mo'≤be.length+n'→(∀u∈us,Sz u)→Cmp mo mo' (.going be) (enter B mo' n' p l x us be):=by
    intro n' p l x us be hb hn hs
    have g:=zb4 B mo' n' p l x us be (by omega) hs
    refine ⟨hb,g.pre,fun hlt=>?_⟩
    cases n' with
    | zero=>omega
    | succ k =>
      rw [enter,if_pos (by omega)]
      have g2:=za9 (zs:=(B x).zs) (p:=be.length) (zb4 B mo' k) hs (B x).body (B x).num (be++[⟨p,l,x,us⟩]) (by rw [List.length_append];show be.length+1≤mo';omega)
      have:=g2.pre.length_le
      rw [List.length_append] at this
      have e1:[(⟨p,l,x,us⟩:En)].length=1:=rfl
      omega
  intro n
  induction n with
  | zero =>
    intro n' p l x us be hl hn hn' hs
    exact base n' p l x us be (by omega) hn' hs
  | succ n ih =>
    intro n' p l x us be hl hn hn' hs
    rw [enter]
    by_cases q:be.length<mo
    · rw [if_pos q]
      cases n' with
      | zero=>omega
      | succ k =>
        rw [enter,if_pos (by omega)]
        refine zem (f:=be.length+1) ⟨zb4 B mo n,zb4 B mo' k,fun p l x us b h1 h2 h3=>ih k p l x us b h1 (by omega) (by omega) h3⟩ hm hs _ _ _ ?_ ?_
        · rw [List.length_append];exact q
        · rw [List.length_append];exact Nat.le_refl _
    · rw [if_neg q]
      exact base n' p l x us be (by omega) hn' hs
noncomputable abbrev tk (b:Bool) (s:D) (p:Int):D:=.tup [.bl b,s,.int p]
section
variable (pa bo:List (Key×D)) (mo:Nat)
noncomputable abbrev stt (be:List En) (ps wa:List D):Rn:=⟨pa,bo,mo,be.map En.d,ps,wa,.non⟩
def Fi (r:Rn) (X:List En×D):Prop:=∃n pe wa,GoN n r ⟨pa,bo,mo,X.1.map En.d,pe,wa,X.2⟩
def After {α:Type} (g:α→List D) (o:Rs α) (ps wa:List D) (X:List En×D):Prop:=match o with
  | .val a be=>Fi pa bo mo (stt pa bo mo be ps (wa++g a)) X
  | .grown be=>X=(be,.tup [.str "grown",.int be.length])
  | .going be=>X=(be,.tup [.str "going",.int mo])
noncomputable abbrev g1 (t:Tre):List D:=[t.d]
noncomputable abbrev gs (ts:List Tre):List D:=ts.map Tre.d
end
section
variable {pa bo:List (Key×D)} {mo:Nat} {X:List En×D} {ps wa:List D}
theorem After.bind {α β:Type} {g:α→List D} {g':β→List D} {r:Rs α} {f:α→List En→Rs β} {ps' wa':List D} (h:After pa bo mo g' (r.bind f) ps wa X) (hf:∀a be,r=.val a be→After pa bo mo g' (f a be) ps wa X→Fi pa bo mo (stt pa bo mo be ps' (wa'++g a)) X):After pa bo mo g r ps' wa' X:=show _ by
  cases r with
  | val a be=>exact hf a be rfl h
  | grown be=>exact h
  | going be=>exact h
structure Low (be:List En) (ps wa:List D):Prop where
  be:be.length≤900000
  ps:ps.length≤900000
  wa:wa.length≤900000
theorem Low.sm {be:List En} (h:Low be ps wa):Sm (stt pa bo mo be ps wa):=⟨by show (be.map En.d).length≤_;rw [List.length_map];exact h.be,h.ps,h.wa⟩
theorem zd6 {be:List En} {s:D} {qs:List D} {p:Int} (hp:ps.length≤900000) (hq:PtN s qs) (hl:qs.length≤100) (h:Fi pa bo mo (stt pa bo mo be (ps++[tk true s p]++askd p qs) wa) X):Fi pa bo mo (stt pa bo mo be (ps++[tk false s p]) wa) X:=show _ by
  obtain ⟨n,pe,w,g⟩:=h
  exact ⟨n+1,pe,w,.prep hp rfl rfl hq hl g⟩
theorem zek {be:List En} {s:D} {p:Int} {r1:Rn} (hl:Low be ps wa) (hf:Fin (stt pa bo mo be ps wa) s p r1) (h:Fi pa bo mo r1 X):Fi pa bo mo (stt pa bo mo be (ps++[tk true s p]) wa) X:=by
  obtain ⟨n,pe,w,g⟩:=h
  exact ⟨n+1,pe,w,.fnsh (ps:=ps) hl.sm rfl rfl hf g⟩
theorem zpy {be:List En} {ds:List D} (e:X=(be,.tup ds)):Fi pa bo mo ⟨pa,bo,mo,be.map En.d,ps,wa,.tup ds⟩ X:=by
  subst e
  exact ⟨0,ps,wa,.grown rfl⟩
theorem zdd (p:Int) (d:D) (ds:List D):askd p (d::ds)=askd p ds++[tk false d p]:=by
  unfold askd
  rw [List.reverse_cons,List.map_append]
  rfl
structure At (pa:List (Key×D)) (zs:List Str) (ts:List Tre) (p:Nat) (be:List En):Prop where
  ex:∃e,be[p]?=some e∧e.ts=ts∧valD pa (.inr e.nm)=some (.tup (zs.map D.str))
  len:ts.length=zs.length
  sz:∀t∈ts,Sz t
theorem pre_at {α:Type} {a b:List α} {i:Nat} {v:α} (h:a <+: b) (e:a[i]?=some v):b[i]?=some v:=by
  obtain ⟨c,rfl⟩:=h
  rw [List.getElem?_append_left (List.getElem?_eq_some_iff.mp e).1]
  exact e
theorem At.mono {zs:List Str} {ts:List Tre} {p:Nat} {be be':List En} (h:At pa zs ts p be) (g:be <+: be'):At pa zs ts p be':=by
  obtain ⟨e,h1,h2,h3⟩:=h.ex
  exact ⟨⟨e,pre_at g h1,h2,h3⟩,h.len,h.sz⟩
theorem zkd (x:Str):∀zs:List Str,x∉zs.take (zs.idxOf x)
  | []=>by simp
  | z::zs=>by
    rw [List.idxOf_cons]
    by_cases e:z=x
    · simp [e]
    · have e':(z==x)=false:=show _ by simpa using e
      rw [e',cond_false,List.take_succ_cons]
      intro h
      rcases List.mem_cons.mp h with h|h
      · exact e h.symm
      · exact zkd x zs h
theorem zne {x:Str}:∀{zs:List Str},x∈zs→zs[zs.idxOf x]?=some x
  | z::zs,h=>by
    rw [List.idxOf_cons]
    by_cases e:z=x
    · simp [e]
    · have e':(z==x)=false:=show _ by simpa using e
      rw [e',cond_false,List.getElem?_cons_succ]
      rcases List.mem_cons.mp h with h|h
      · exact absurd h.symm e
      · exact zne h
theorem zj7 (s:Sy):1≤s.pre.length:=by rw [Sy.pre_parts];simp
theorem zjg:∀as:List Sy,as.length≤(Sy.pres as).length
  | []=>Nat.zero_le _
  | a::as=>by
    have:=zjg as
    have:=zj7 a
    simp only [Sy.pres,List.length_append,List.length_cons]
    omega
def Rm (mo M:Nat) (z:Nat) (be:List En) (ps wa:List D):Prop:=ps.length+wa.length+z+(mo-be.length)*M≤800000
theorem Rm.less {M z z':Nat} {be be':List En} {ps' wa':List D} (h:Rm mo M z be ps wa) (hb:be <+: be') (hz:ps'.length+wa'.length+z'≤ps.length+wa.length+z):Rm mo M z' be' ps' wa':=show _ by
  unfold Rm at h ⊢
  have:=hb.length_le
  have:(mo-be'.length)*M≤(mo-be.length)*M:=Nat.mul_le_mul_right _ (by omega)
  omega
theorem Rm.low {M z:Nat} {be:List En} (h:Rm mo M z be ps wa) (hb:be.length≤mo) (hm:mo≤1000):Low be ps wa:=by
  unfold Rm at h
  exact ⟨by omega,by omega,by omega⟩
structure SimC (ar:Str→Option Nat) (pa bo:List (Key×D)) (mo M f:Nat) (call:Call):Prop where
  e:ExtC mo call
  stop:∀p l x us (be:List En),mo≤be.length→call p l x us be=.going be
  new:∀p l x us (be:List En) ps wa X,be.length<mo→f≤be.length→ar x=some us.length→(∀u∈us,Sz u)→Rm mo M 0 be ps wa→After pa bo mo g1 (call p l x us be) ps wa X →
    ∃body,valD bo (.inr x)=some body∧Fi pa bo mo (stt pa bo mo (be++[⟨p,l,x,us⟩]) (ps++[tk false body be.length]) wa) X
variable {ar:Str→Option Nat} {M f:Nat} {call:Call} {zs:List Str} {ts:List Tre} {p:Nat}
theorem dlist2 (a b:D) (xs:List D):xs++[a]++[b]=xs++[a,b]:=by rw [List.append_assoc];rfl
mutual
theorem zee (C:SimC ar pa bo mo M f call) (hmo:mo≤1000):∀(s:Sy) (n:Int) (be:List En) (ps wa:List D) (X:List En×D),s.wf ar zs→At pa zs ts p be→be.length≤mo→f≤be.length→Rm mo M (2*s.pre.length) be ps wa →
    After pa bo mo g1 (ev call zs ts p s n be) ps wa X→Fi pa bo mo (stt pa bo mo be (ps++[tk false (numD s n) p]) wa) X
  | .name x,n,be,ps,wa,X,hw,hA,hl,hf,hr,h=>by
    rw [ev] at h
    rw [numD]
    have low:=hr.low hl hmo
    obtain ⟨e,h1,h2,h3⟩:=hA.ex
    have hx:=zne hw
    have hj:zs.idxOf x<ts.length:=show _ by rw [hA.len];exact (List.getElem?_eq_some_iff.mp hx).1
    have hget:ts[zs.idxOf x]?=some ts[zs.idxOf x]:=List.getElem?_eq_getElem hj
    have h:Fi pa bo mo (stt pa bo mo be ps (wa++[((ts[zs.idxOf x]?).getD .bud).d])) X:=h
    rw [hget,Option.getD_some] at h
    refine zd6 low.ps (.name x) (Nat.zero_le _) ?_
    rw [show askd p []=[] from rfl,List.append_nil]
    refine zek low (.name (nm:=e.nm) (pr:=e.pr) (nu:=e.nu) (ts:=ts.map Tre.d) (zs:=zs) (j:=zs.idxOf x) (d:=(ts[zs.idxOf x]).d) (zcz ?_) h3 hx (zkd x zs) ?_) h
    · show (be.map En.d)[p]?=_
      rw [List.getElem?_map,h1,←h2]
      rfl
    · rw [List.getElem?_map,hget]
      rfl
  | .bud,n,be,ps,wa,X,hw,hA,hl,hf,hr,h=>by
    rw [ev] at h
    rw [numD]
    have low:=hr.low hl hmo
    refine zd6 low.ps .bud (Nat.zero_le _) ?_
    rw [show askd p []=[] from rfl,List.append_nil]
    exact zek low .bud h
  | .pair a b,n,be,ps,wa,X,hw,hA,hl,hf,hr,h=>by
    have xa:=za9 (zs:=zs) (p:=p) C.e hA.sz a n be hl
    have pa1:=zj7 a
    have pb1:=zj7 b
    have low:=hr.low hl hmo
    have ez:(Sy.pair a b).pre.length=1+a.pre.length+b.pre.length:=by simp only [Sy.pre,List.length_cons,List.length_append];omega
    rw [ez] at hr
    rw [ev] at h
    rw [numD]
    refine zd6 low.ps (.pair _ _) (show 2≤100 by decide) ?_
    rw [zdd,zdd,show askd p []=[] from rfl,List.nil_append,←List.append_assoc]
    refine zee C hmo a n be _ wa X hw.1 hA hl hf (hr.less (List.prefix_refl _) (by simp only [List.length_append,List.length_cons,List.length_nil];omega)) (h.bind fun t1 b1 e1 h1=>?_)
    have k1:=xa.len e1
    have xb:=za9 (zs:=zs) (p:=p) C.e hA.sz b (n+a.sends) b1 k1.2.1
    refine zee C hmo b _ b1 _ _ X hw.2 (hA.mono k1.2.2.2) k1.2.1 (by omega) (hr.less k1.2.2.2 (by simp only [List.length_append,List.length_cons,List.length_nil];omega)) (h1.bind fun t2 b2 e2 h2=>?_)
    have k2:=xb.len e2
    have low2:Low b2 ps (wa++g1 t1++g1 t2):=(hr.less (ps':=ps) (wa':=wa++g1 t1++g1 t2) (z':=0) (k1.2.2.2.trans k2.2.2.2) (by simp only [List.length_append,List.length_cons,List.length_nil];omega)).low k2.2.1 hmo
    have s1:t1.size≤60:=k1.2.2.1
    have s2:t2.size≤60:=k2.2.2.1
    unfold joinT at h2
    by_cases q:(Tre.pair t1 t2).size≤60
    · rw [if_pos q] at h2
      exact zek low2 (.pair (xs:=wa) (dlist2 _ _ _) q) h2
    · rw [if_neg q] at h2
      have h2:X=(b2,.tup [.str "grown",.int b2.length]):=h2
      refine zek low2 (.grown (xs:=wa) (t1:=t1) (t2:=t2) (dlist2 _ _ _) (by omega) (by simp only [Tre.size];omega)) ?_
      refine zpy (be:=b2) ?_
      rw [h2]
      show _=(b2,D.tup [.str "grown",.int ((b2.map En.d).length:Nat)])
      rw [List.length_map]
  | .left a,n,be,ps,wa,X,hw,hA,hl,hf,hr,h=>by
    have xa:=za9 (zs:=zs) (p:=p) C.e hA.sz a n be hl
    have low:=hr.low hl hmo
    have ez:(Sy.left a).pre.length=1+a.pre.length:=by simp only [Sy.pre,List.length_cons];omega
    rw [ez] at hr
    rw [ev] at h
    rw [numD]
    refine zd6 low.ps (.left _) (show 1≤100 by decide) ?_
    rw [zdd,show askd p []=[] from rfl,List.nil_append]
    refine zee C hmo a n be _ wa X hw hA hl hf (hr.less (List.prefix_refl _) (by simp only [List.length_append,List.length_cons,List.length_nil];omega)) (h.bind fun t1 b1 e1 h1=>?_)
    have k1:=xa.len e1
    have low2:Low b1 ps (wa++g1 t1):=(hr.less (ps':=ps) (wa':=wa++g1 t1) (z':=0) k1.2.2.2 (by simp only [List.length_append,List.length_cons,List.length_nil];omega)).low k1.2.1 hmo
    exact zek low2 (.left (xs:=wa) rfl) h1
  | .right a,n,be,ps,wa,X,hw,hA,hl,hf,hr,h=>by
    have xa:=za9 (zs:=zs) (p:=p) C.e hA.sz a n be hl
    have low:=hr.low hl hmo
    have ez:(Sy.right a).pre.length=1+a.pre.length:=by simp only [Sy.pre,List.length_cons];omega
    rw [ez] at hr
    rw [ev] at h
    rw [numD]
    refine zd6 low.ps (.right _) (show 1≤100 by decide) ?_
    rw [zdd,show askd p []=[] from rfl,List.nil_append]
    refine zee C hmo a n be _ wa X hw hA hl hf (hr.less (List.prefix_refl _) (by simp only [List.length_append,List.length_cons,List.length_nil];omega)) (h.bind fun t1 b1 e1 h1=>?_)
    have k1:=xa.len e1
    have low2:Low b1 ps (wa++g1 t1):=(hr.less (ps':=ps) (wa':=wa++g1 t1) (z':=0) k1.2.2.2 (by simp only [List.length_append,List.length_cons,List.length_nil];omega)).low k1.2.1 hmo
    exact zek low2 (.right (xs:=wa) rfl) h1
  | .fork a b c,n,be,ps,wa,X,hw,hA,hl,hf,hr,h=>by
    have xa:=za9 (zs:=zs) (p:=p) C.e hA.sz a n be hl
    have low:=hr.low hl hmo
    have ez:(Sy.fork a b c).pre.length=1+a.pre.length+b.pre.length+c.pre.length:=by simp only [Sy.pre,List.length_cons,List.length_append];omega
    rw [ez] at hr
    rw [ev] at h
    rw [numD]
    refine zd6 low.ps (.fork _ _ _) (show 1≤100 by decide) ?_
    rw [zdd,show askd p []=[] from rfl,List.nil_append]
    refine zee C hmo a n be _ wa X hw.1 hA hl hf (hr.less (List.prefix_refl _) (by simp only [List.length_append,List.length_cons,List.length_nil];omega)) (h.bind fun t1 b1 e1 h1=>?_)
    have k1:=xa.len e1
    have low2:Low b1 ps (wa++g1 t1):=(hr.less (ps':=ps) (wa':=wa++g1 t1) (z':=0) k1.2.2.2 (by simp only [List.length_append,List.length_cons,List.length_nil];omega)).low k1.2.1 hmo
    refine zek low2 (.fork (xs:=wa) (t:=t1) rfl) ?_
    cases t1 with
    | bud=>exact zee C hmo c _ b1 ps wa X hw.2.2 (hA.mono k1.2.2.2) k1.2.1 (by omega) (hr.less k1.2.2.2 (by omega)) h1
    | pair u v=>exact zee C hmo b _ b1 ps wa X hw.2.1 (hA.mono k1.2.2.2) k1.2.1 (by omega) (hr.less k1.2.2.2 (by omega)) h1
  | .send x as,n,be,ps,wa,X,hw,hA,hl,hf,hr,h=>by
    have xa:=zdq (zs:=zs) (p:=p) C.e hA.sz as (n+1) be hl
    have low:=hr.low hl hmo
    have ez:(Sy.send x as).pre.length=1+(Sy.pres as).length:=by simp only [Sy.pre,List.length_cons];omega
    have ga:=zjg as
    rw [ez] at hr
    rw [ev] at h
    rw [numD]
    obtain ⟨w1,_,w3,w4⟩:=hw
    refine zd6 low.ps (.send x _ n) (by rw [zct];omega) ?_
    refine zl8 C hmo as (n+1) be _ wa X w4 hA hl hf (hr.less (List.prefix_refl _) (by simp only [List.length_append,List.length_cons,List.length_nil];omega)) (h.bind fun us b1 e1 h1=>?_)
    have k1:=xa.len e1
    have hlen:us.length=as.length:=k1.2.2.1.2
    have room:Rm mo M 0 b1 ps wa:=hr.less k1.2.2.2 (by omega)
    have low2:Low b1 ps (wa++gs us):=(hr.less (ps':=ps) (wa':=wa++gs us) (z':=0) k1.2.2.2 (by simp only [List.length_append,List.length_map];omega)).low k1.2.1 hmo
    by_cases q:b1.length<mo
    · obtain ⟨body,hb,g⟩:=C.new (.int p) (.int n) x us b1 ps wa X q (by omega) (by rw [hlen];exact w1) k1.2.2.1.1 room h1
      have hb1:(((b1.map En.d).length:Nat):Int)<(mo:Int):=by rw [List.length_map];omega
      refine zek low2 (.send (xs:=wa) (ts:=us.map Tre.d) rfl (by rw [List.length_map,zct,hlen]) (.new (body:=body) hb1 hb)) ?_
      have e2:stt pa bo mo (b1++[⟨.int p,.int n,x,us⟩]) (ps++[tk false body b1.length]) wa=⟨pa,bo,mo,b1.map En.d++[.tup [.int p,.int n,.str x,.tup (us.map Tre.d)]],ps++[.tup [.bl false,body,.int (b1.map En.d).length]],wa,.non⟩:=by
        rw [List.length_map]
        show (⟨_,_,_,(b1++[_]).map En.d,_,_,_⟩:Rn)=_
        rw [List.map_append]
        rfl
      rw [e2] at g
      exact g
    · rw [C.stop _ _ _ _ _ (by omega)] at h1
      have h1:X=(b1,.tup [.str "going",.int mo]):=h1
      refine zek low2 (.send (xs:=wa) (ts:=us.map Tre.d) rfl (by rw [List.length_map,zct,hlen]) (.stop (by show (mo:Int)≤((b1.map En.d).length:Nat);rw [List.length_map];omega))) ?_
      exact zpy h1
theorem zl8 (C:SimC ar pa bo mo M f call) (hmo:mo≤1000):∀(as:List Sy) (n:Int) (be:List En) (ps wa:List D) (X:List En×D),Sy.wfs ar zs as→At pa zs ts p be→be.length≤mo→f≤be.length→Rm mo M (2*(Sy.pres as).length) be ps wa →
    After pa bo mo gs (evs call zs ts p as n be) ps wa X→Fi pa bo mo (stt pa bo mo be (ps++askd p (numDs as n)) wa) X
  | [],n,be,ps,wa,X,hw,hA,hl,hf,hr,h=>by
    rw [evs] at h
    rw [numDs,show askd p []=[] from rfl,List.append_nil]
    have h:Fi pa bo mo (stt pa bo mo be ps (wa++[])) X:=h
    rw [List.append_nil] at h
    exact h
  | a::as,n,be,ps,wa,X,hw,hA,hl,hf,hr,h=>by
    have xa:=za9 (zs:=zs) (p:=p) C.e hA.sz a n be hl
    have ez:(Sy.pres (a::as)).length=a.pre.length+(Sy.pres as).length:=show _ by simp only [Sy.pres,List.length_append]
    have pa1:=zj7 a
    have ga:=zjg as
    rw [ez] at hr
    rw [evs] at h
    rw [numDs,zdd,←List.append_assoc]
    have la:(askd p (numDs as (n+a.sends))).length=as.length:=by unfold askd;rw [List.length_map,List.length_reverse,zct]
    refine zee C hmo a n be _ wa X hw.1 hA hl hf (hr.less (List.prefix_refl _) (by rw [List.length_append,la];omega)) (h.bind fun t1 b1 e1 h1=>?_)
    have k1:=xa.len e1
    refine zl8 C hmo as _ b1 ps _ X hw.2 (hA.mono k1.2.2.2) k1.2.1 (by omega) (hr.less k1.2.2.2 (by simp only [List.length_append,List.length_cons,List.length_nil];omega)) (h1.bind fun us b2 e2 h2=>?_)
    have h2:Fi pa bo mo (stt pa bo mo b2 ps (wa++(t1::us).map Tre.d)) X:=h2
    rw [List.append_assoc]
    exact h2
end
structure Bok (ar:Str→Option Nat) (pa bo:List (Key×D)) (M:Nat) (B:Str→Bk):Prop where
  len:∀x k,ar x=some k→(B x).zs.length=k
  pa:∀x k,ar x=some k→valD pa (.inr x)=some (.tup ((B x).zs.map D.str))
  bo:∀x k,ar x=some k→valD bo (.inr x)=some (numD (B x).body (B x).num)
  wf:∀x k,ar x=some k→(B x).body.wf ar (B x).zs
  sz:∀x k,ar x=some k→2*(B x).body.pre.length≤M
theorem zij {B:Str→Bk} (H:Bok ar pa bo M B) (hmo:mo≤1000):∀n f,mo≤f+n→SimC ar pa bo mo M f (enter B mo n)
  | 0,f,hf=>⟨zb4 B mo 0,fun _ _ _ _ _ _=>rfl,fun p l x us be ps wa X h1 h2=>by omega⟩
  | n+1,f,hf=>by
    refine ⟨zb4 B mo (n+1),fun p l x us be h=>by rw [enter,if_neg (by omega)],fun p l x us be ps wa X h1 h2 h3 h4 h5 h6=>⟨_,H.bo x _ h3,?_⟩⟩
    rw [enter,if_pos h1] at h6
    have le1:(be++[(⟨p,l,x,us⟩:En)]).length=be.length+1:=show _ by rw [List.length_append];rfl
    refine zee (zs:=(B x).zs) (ts:=us) (zij H hmo n (f+1) (by omega)) hmo (B x).body (B x).num _ ps wa X (H.wf x _ h3) ⟨⟨⟨p,l,x,us⟩,by simp,rfl,H.pa x _ h3⟩,(H.len x _ h3).symm,h4⟩ (by omega) (by omega) ?_ h6
    have:=H.sz x _ h3
    unfold Rm at h5 ⊢
    rw [le1]
    have e:(mo-be.length)*M=(mo-(be.length+1))*M+M:=by
      rw [←Nat.succ_mul]
      congr 1
      omega
    omega
end
noncomputable def bks:Int→List Er→List (Str×Bk)
  | _,[]=>[]
  | n,e::r=>(e.name,⟨e.ps,e.body,n⟩)::bks (n+e.body.sends) r
noncomputable def bkOf (bs:List (Str×Bk)) (x:Str):Bk:=(bs.lookup x).getD ⟨[],.bud,0⟩
noncomputable abbrev tabB (prog:List Er):Str→Bk:=bkOf (bks 0 prog)
theorem zeo:∀(n:Int) (prog:List Er),(bks n prog).map (·.1)=prog.map Er.name
  | _,[]=>rfl
  | n,e::r=>by rw [bks,List.map_cons,List.map_cons,zeo]
theorem zix:∀(prog:List Er) (kvs:List (Key×D)) (n:Int),foldB kvs n prog=some ((bks n prog).foldl (fun acc b=>putD acc (.inr b.1) (numD b.2.body b.2.num)) kvs)
  | [],kvs,n=>rfl
  | e::r,kvs,n=>by
    have h:=zcj e.body [] (n+e.body.sends)
    rw [show n+(e.body.sends:Int)-e.body.sends=n by omega] at h
    rw [foldB,zpm,h]
    show foldB (putD kvs (.inr e.name) (numD e.body n)) _ r=_
    rw [zix r]
    rfl
theorem zh2 {α:Type} (f:α→D):∀(bs:List (Str×α)) (acc:List (Key×D)),(bs.map (·.1)).Nodup→(∀b∈bs,(Sum.inr b.1:Key)∉acc.map (·.1))→bs.foldl (fun acc b=>putD acc (.inr b.1) (f b.2)) acc=acc++bs.map fun b=>((Sum.inr b.1:Key),f b.2)
  | [],acc,_,_=>by simp
  | b::bs,acc,nd,h=>by
    rw [List.map_cons,List.nodup_cons] at nd
    rw [List.foldl_cons,zhv (h b List.mem_cons_self),zh2 f bs _ nd.2 fun c hc=>?_]
    · rw [List.append_assoc];rfl
    · rw [List.map_append,List.mem_append]
      rintro (z|z)
      · exact h c (List.mem_cons_of_mem _ hc) z
      · simp only [List.map_cons,List.map_nil,List.mem_singleton,Sum.inr.injEq] at z
        exact nd.1 (z▸List.mem_map_of_mem hc)
theorem zhg {α:Type} (f:α→D) {x:Str}:∀{bs:List (Str×α)} {a:α},bs.lookup x=some a→valD (bs.map fun b=>((Sum.inr b.1:Key),f b.2)) (.inr x)=some (f a)
  | (y,b)::bs,a,h=>by
    rw [List.map_cons,zid]
    by_cases e:x=y
    · subst e
      rw [List.lookup_cons_self] at h
      cases h
      rw [if_pos rfl]
    · rw [List.lookup_cons,show (x==y)=false by simpa using e] at h
      rw [if_neg (by simpa using fun z=>e z.symm)]
      exact zhg f h
theorem zm4 {α:Type} {x:Str}:∀{bs:List (Str×α)} {a:α},bs.lookup x=some a→(x,a)∈bs
  | (y,b)::bs,a,h=>by
    by_cases e:x=y
    · subst e
      rw [List.lookup_cons_self] at h
      cases h
      exact List.mem_cons_self
    · rw [List.lookup_cons,show (x==y)=false by simpa using e] at h
      exact List.mem_cons_of_mem _ (zm4 h)
theorem zh9:∀{xs:List Str} {ns:List Nat} {x:Str} {k:Nat},arOf xs ns x=some k→x∈xs
  | [],_,_,_,h=>by cases h
  | _::_,[],_,_,h=>by cases h
  | y::xs,m::ns,x,k,h=>by
    rw [arOf] at h
    by_cases e:x=y
    · subst e;exact List.mem_cons_self
    · rw [if_neg e] at h
      exact List.mem_cons_of_mem _ (zh9 h)
structure Rp (prog:List Er) (M:Nat):Prop where
  len:prog.length≤100
  nd:(prog.map Er.name).Nodup
  wf:∀e∈prog,e.body.wf (arP prog) e.ps
  sz:∀e∈prog,2*e.body.pre.length≤M
  m:M≤200000
theorem zh8 {x:Str} {prog:List Er} (n:Int) (hx:x∈prog.map Er.name):∃b,(bks n prog).lookup x=some b:=show _ by
  cases e:(bks n prog).lookup x with
  | some b=>exact ⟨b,rfl⟩
  | none =>
    rw [List.lookup_eq_none_iff] at e
    rw [←zeo n] at hx
    obtain ⟨p,hp,rfl⟩:=List.mem_map.mp hx
    exact absurd (e p hp) (by simp)
theorem zoa:∀{prog:List Er} {n:Int} {p:Str×Bk},p∈bks n prog→∃e∈prog,e.name=p.1∧e.ps=p.2.zs∧e.body=p.2.body
  | e::r,n,p,h=>by
    rw [bks] at h
    rcases List.mem_cons.mp h with rfl|h
    · exact ⟨e,List.mem_cons_self,rfl,rfl,rfl⟩
    · obtain ⟨e',he,g⟩:=zoa h
      exact ⟨e',List.mem_cons_of_mem _ he,g⟩
theorem zp8 {prog:List Er} (nd:(prog.map Er.name).Nodup) {e:Er} (he:e∈prog):arP prog e.name=some e.ps.length:=show _ by
  obtain ⟨i,hi,rfl⟩:=List.getElem_of_mem he
  exact zia nd (i:=i) (by rw [List.getElem?_map,List.getElem?_eq_getElem hi];rfl) (by rw [List.getElem?_map,List.getElem?_eq_getElem hi];rfl)
theorem zn9:∀(n:Int) (prog:List Er),((bks n prog).map fun b=>((Sum.inr b.1:Key),D.tup (b.2.zs.map D.str)))=prog.map fun e=>((Sum.inr e.name:Key),D.tup (e.ps.map D.str))
  | _,[]=>rfl
  | n,e::r=>by rw [bks,List.map_cons,List.map_cons,zn9]
noncomputable def bosD (prog:List Er):List (Key×D):=(bks 0 prog).map fun b=>((Sum.inr b.1:Key),numD b.2.body b.2.num)
theorem Rp.bo {prog:List Er} {M:Nat} (h:Rp prog M):foldB [] 0 prog=some (bosD prog):=by
  rw [zix,zh2 (fun b:Bk=>numD b.body b.num) _ _ (by rw [zeo];exact h.nd) (fun _ _=>by simp)]
  rfl
theorem Rp.pa {prog:List Er} {M:Nat} (h:Rp prog M):parD prog=prog.map fun e=>((Sum.inr e.name:Key),D.tup (e.ps.map D.str)):=show _ by
  unfold parD
  rw [←zn9 0 prog,List.foldl_map]
  exact (zh2 (fun b:Bk=>D.tup (b.zs.map D.str)) _ [] (by rw [zeo];exact h.nd) (fun _ _=>by simp)).trans (List.nil_append _)
theorem Rp.bok {prog:List Er} {M:Nat} (h:Rp prog M):Bok (arP prog) (parD prog) (bosD prog) M (tabB prog):=show _ by
  have key:∀x k,arP prog x=some k→∃b,(bks 0 prog).lookup x=some b∧tabB prog x=b∧∃e∈prog,e.name=x∧e.ps=b.zs∧e.body=b.body:=by
    intro x k hx
    obtain ⟨b,hb⟩:=zh8 0 (zh9 hx)
    obtain ⟨e,he,g⟩:=zoa (zm4 hb)
    exact ⟨b,hb,by show ((bks 0 prog).lookup x).getD _=b;rw [hb];rfl,e,he,g⟩
  refine ⟨?_,?_,?_,?_,?_⟩<;>intro x k hx<;>obtain ⟨b,hb,e1,e,he,g1,g2,g3⟩:=key x k hx<;>rw [e1]
  · rw [←g2]
    rw [←g1,zp8 h.nd he] at hx
    exact Option.some.inj hx
  · rw [h.pa,←zn9 0 prog]
    exact zhg (fun b:Bk=>D.tup (b.zs.map D.str)) hb
  · exact zhg (fun b:Bk=>numD b.body b.num) hb
  · rw [←g2,←g3]
    exact h.wf e he
  · rw [←g3]
    exact h.sz e he
noncomputable def runR (prog:List Er) (x:Str) (ts:List Tre) (mo:Nat):Rs Tre:=enter (tabB prog) mo mo .non .non x ts []
noncomputable def endD (mo:Nat):Rs Tre→D
  | .val t be=>.tup [.str "done",t.d,.int be.length]
  | .grown be=>.tup [.str "grown",.int be.length]
  | .going _=>.tup [.str "going",.int mo]
structure Rok (prog:List Er) (x:Str) (ts:List Tre) (mo:Nat):Prop where
  ex:∃M,Rp prog M∧mo*M≤700000
  mo:mo≤1000
  ar:arP prog x=some ts.length
  sz:∀t∈ts,Sz t
theorem Rok.runs {prog:List Er} {x:Str} {ts:List Tre} {mo:Nat} (h:Rok prog x ts mo):∃r',Runs prog x (ts.map Tre.d) mo r'∧r'.en=endD mo (runR prog x ts mo)∧r'.be=(runR prog x ts mo).be.map En.d:=show _ by
  obtain ⟨M,R,hM⟩:=h.ex
  have H:=R.bok
  have hz:=H.len x _ h.ar
  have start:∀r1 n r',Beg ⟨parD prog,bosD prog,mo,[],[],[],.non⟩ .non .non x (.tup (ts.map Tre.d)) r1→GoN n r1 r'→Runs prog x (ts.map Tre.d) mo r':=fun r1 n r' h1 h2 =>
    ⟨R.len,fun e he=>by have:=R.sz e he;have:=R.m;omega,_,_,r1,n,H.pa x _ h.ar,by rw [hz,List.length_map],R.bo,h1,h2⟩
  by_cases q:0<mo
  · have S:=zij (mo:=mo) H h.mo mo 0 (by omega)
    have hA:After (parD prog) (bosD prog) mo g1 (runR prog x ts mo) [] [] ((runR prog x ts mo).be,endD mo (runR prog x ts mo)):=by
      cases runR prog x ts mo with
      | val t be =>
        refine ⟨0,[],[],?_⟩
        have g:GoN 0 (stt (parD prog) (bosD prog) mo be [] [t.d]) _:=.fin (xs:=[]) (v:=t.d) rfl rfl rfl
        have e:(((be.map En.d).length:Nat):Int)=(be.length:Nat):=by rw [List.length_map]
        have g:GoN 0 (stt (parD prog) (bosD prog) mo be [] [t.d]) ⟨parD prog,bosD prog,mo,be.map En.d,[],[],.tup [.str "done",t.d,.int ((be.map En.d).length:Nat)]⟩:=g
        rw [e] at g
        exact g
      | grown be=>exact rfl
      | going be=>exact rfl
    obtain ⟨body,hb,n,pe,w,g⟩:=S.new .non .non x ts [] [] [] _ q (Nat.zero_le _) h.ar h.sz (by unfold Rm;simp only [List.length_nil,Nat.sub_zero];omega) hA
    exact ⟨_,start _ n _ (.new (body:=body) (show ((0:Nat):Int)<mo by omega) hb) g,rfl,rfl⟩
  · obtain rfl:mo=0:=by omega
    exact ⟨_,start _ 0 _ (.stop (show ((0:Nat):Int)≤((0:Nat):Int) by omega)) (.grown rfl),rfl,rfl⟩
theorem zqm {prog:List Er} {x:Str} {ts:List Tre} {m m':Nat} (hs:∀t∈ts,Sz t) (h:m≤m'):Cmp m m' (runR prog x ts m) (runR prog x ts m'):=zn3 _ h m m' _ _ _ _ [] (Nat.zero_le _) (by omega) (by omega) hs
theorem zql {prog:List Er} {x:Str} {ts:List Tre} {m:Nat} (hs:∀t∈ts,Sz t):Ext m [] (runR prog x ts m) Sz:=zb4 _ m m _ _ _ _ [] (Nat.zero_le _) hs
theorem zkh {S:Hp3}:∀t:Tre,Dn S t.d t.dt
  | .bud=>.non
  | .pair l r=>.tup (.cons (zkh l) (.cons (zkh r) .nil))
theorem j_endNe {m:Nat} {r:Rs Tre} {S:Hp3} {Q:K3} (h:∀t b,r=.val t b→Sz t) (q:Q (.bl false) S):neT3 200 (endD m r) (endD m r) S Q:=show _ by
  cases r with
  | val t b =>
    have hz:t.size≤60:=h t b rfl
    have hd:=t.deep_le
    have hdt:deepD (.tup [.str "done",t.dt,.int b.length])≤200:=by
      simp only [deepD,deepDs,t.dt_deep]
      omega
    refine ⟨[.str "done",t.dt,.int b.length],[.str "done",t.dt,.int b.length],.tup (.cons (.str _) (.cons (zkh t) (.cons (.int _) .nil))),.tup (.cons (.str _) (.cons (zkh t) (.cons (.int _) .nil))),hdt,?_⟩
    rw [zdj]
    exact q
  | grown b =>
    refine ⟨[.str "grown",.int b.length],[.str "grown",.int b.length],.tup (.cons (.str _) (.cons (.int _) .nil)),.tup (.cons (.str _) (.cons (.int _) .nil)),by simp [deepD,deepDs],?_⟩
    rw [zdj]
    exact q
  | going b =>
    refine ⟨[.str "going",.int m],[.str "going",.int m],.tup (.cons (.str _) (.cons (.int _) .nil)),.tup (.cons (.str _) (.cons (.int _) .nil)),by simp [deepD,deepDs],?_⟩
    rw [zdj]
    exact q
inductive P_run  (ds:List D) (S:Hp3) (q:D→Prop):Prop where
  | mk (pr tr:Addr) (prog:List Er) (x:Str) (ts:List Tre) (mo:Nat) (_:ds=[.ref pr,.str x,.ref tr,.int mo]) (_:S pr=some (.lst (prog.map Er.d))) (_:S tr=some (.lst (ts.map Tre.d))) (_:Rok prog x ts mo) (_:q (endD mo (runR prog x ts mo)))
def zpt :Sp3:=rdV P_run
theorem run_of {k:Nat} (C:Cal3 P w K mg base k "run" ["program","name","trees","most"] zl3):Cal3 P w K mg base k "run" ["program","name","trees","most"] zpt:=C.imp fun _ _ _ _ ⟨pr,tr,prog,x,ts,mo,e,h1,h2,h3,q⟩=>by
  obtain ⟨r',g1,g2,_⟩:=h3.runs
  exact ⟨pr,tr,prog,x,_,mo,r',e,h1,h2,g1,by rw [g2];exact q⟩
structure FitE (prog:List Er) (be:List En) (i:Nat) (e:En):Prop where
  ex:∃(p n:Nat) (e':En),e.pr=.int p∧e.nu=.int n∧p<i∧be[p]?=some e'∧(sendsOf prog)[n]?=some (e'.nm,e.nm)
  ar:arP prog e.nm=some e.ts.length
  sz:∀t∈e.ts,Sz t
def Inv (prog:List Er) (be:List En):Prop:=∀i e,1≤i→be[i]?=some e→FitE prog be i e
theorem zon {prog:List Er} {x:Str} {ts:List Tre} {m:Nat} (hs:∀t∈ts,Sz t):∀b,runR prog x ts m=.going b→b.length=m:=fun b e=>by
  have C:=zqm (prog:=prog) (x:=x) (m:=m) (m':=m) hs (Nat.le_refl _)
  rw [e] at C
  exact C.1
theorem zeb:∀t:Tre,t.d.pure=true
  | .bud=>rfl
  | .pair l r=>by simp only [Tre.d,D.pure,D.pures,zeb l,zeb r,Bool.and_self]
theorem zly:∀t:Tre,t.d.dt=t.dt
  | .bud=>rfl
  | .pair l r=>by simp only [Tre.d,D.dt,D.dts,Tre.dt,zly l,zly r]
theorem zhh {t:Tre} (h:Sz t):deepD t.d.dt≤60:=by
  rw [zly,t.dt_deep]
  have:=t.deep_le
  have:t.size≤60:=h
  omega
def Mt {α:Type} (r:Rs α) (t:α) (be:List En) (g:Str):Prop:=match r with
  | .val u b=>t=u∧be=b∧g=""
  | .grown b=>be=b∧g="grown"
  | .going b=>be=b∧g="going"
theorem _root_.E3.Px.trans {st:Addr} {A B C:Hp3} (h:Px st A B) (h':Px st B C):Px st A C:=fun a u n e=>h' a u n (h a u n e)
theorem zh3 (call:Call) (zs:List Str) (ts:List Tre) (p:Int):∀(as:List Sy) (a:Sy) (n:Int) (be:List En),evs call zs ts p (as++[a]) n be=(evs call zs ts p as n be).bind fun us b=>(ev call zs ts p a (n+(Sy.sendss as:Nat)) b).bind fun t b2=>.val (us++[t]) b2
  | [],a,n,be=>by
    rw [List.nil_append,evs,evs]
    simp only [Rs.bind,evs,Sy.sendss,Sy.pres,List.filter_nil,List.length_nil,Int.ofNat_zero,Int.add_zero,List.nil_append]
  | c::as,a,n,be=>by
    rw [List.cons_append,evs,evs,Sy.sendss_cons]
    cases ev call zs ts p c n be with
    | val t b =>
      simp only [Rs.bind]
      rw [zh3 call zs ts p as a]
      rw [show n+(c.sends:Int)+((Sy.sendss as:Nat):Int)=n+((c.sends+Sy.sendss as:Nat):Int) by omega]
      cases evs call zs ts p as (n+c.sends) b with
      | val us b2 =>
        simp only [Rs.bind]
        cases ev call zs ts p a (n+((c.sends+Sy.sendss as:Nat):Int)) b2<;>rfl
      | grown b2=>rfl
      | going b2=>rfl
    | grown b=>rfl
    | going b=>rfl
def DicT (kv:List (Key×D)) (zs:List Str) (ts:List Tre):Prop:=∀x∈zs,valD kv (.inr x)=some ((ts[zs.idxOf x]?).getD .bud).d
structure TabW (prog:List Er):Prop where
  len:∀x k,arP prog x=some k→(tabB prog x).zs.length=k∧k≤100
  nd:∀x k,arP prog x=some k→(tabB prog x).zs.Nodup
  wf:∀x k,arP prog x=some k→(tabB prog x).body.wf (arP prog) (tabB prog x).zs
  deep:∀x k,arP prog x=some k→(tabB prog x).body.deep≤10
def Tab11 (prog:List Er) (kt:List (Key×D)):Prop:=∀x k,arP prog x=some k→valD kt (.inr x)=some (.tup [.tup ((tabB prog x).zs.map D.str),(tabB prog x).body.d])
structure Wd (S:Hp3) (st:Addr) (be:List En) (g:Str) (mo:Nat):Prop where
  hs:S st=some (.lst [.int be.length,.str g,.int mo])
structure Wk (S:Hp3) (prog:List Er) (kt:List (Key×D)) (tb st:Addr) (be:List En) (mo f:Nat):Prop where
  wd:Wd S st be "" mo
  ht:S tb=some (.dic kt)
  tab:Tab11 prog kt
  tw:TabW prog
  le:be.length≤mo
  m1:mo≤100
  fu:mo≤be.length+f
theorem Wk.next {S S':Hp3} {prog:List Er} {kt:List (Key×D)} {tb st:Addr} {be be':List En} {mo f:Nat} (h:Wk S prog kt tb st be mo f) (hw:Wd S' st be' "" mo) (px:Px st S S') (hb:be <+: be') (hl:be'.length≤mo):Wk S' prog kt tb st be' mo f :=
  ⟨hw,px _ _ (neO h.ht h.wd.hs (fun z=>nomatch z)) h.ht,h.tab,h.tw,hl,h.m1,by have:=hb.length_le;have:=h.fu;omega⟩
def zed (n:Nat):Sp3:=fun ds S Q _=>1≤n∧((∃(d1 d2 d3:D) (st:Addr) (c:Int) (g:Str) (mo:Nat),ds=[d1,d2,d3,.ref st]∧S st=some (.lst [.int c,.str g,.int mo])∧g≠""∧Q .non S) ∨
  ∃(s:Sy) (k:Int) (p:Nat) (pt tb st:Addr) (kv kt:List (Key×D)) (zs:List Str) (ts:List Tre) (prog:List Er) (be:List En) (mo f:Nat),ds=[s.d,.ref pt,.ref tb,.ref st]∧Wk S prog kt tb st be mo f∧S pt=some (.dic kv)∧DicT kv zs ts∧s.wf (arP prog) zs∧(∀t∈ts,Sz t) ∧
    (mo-be.length)*12+s.deep+66≤n∧∀(t:Tre) (be':List En) (g':Str) (S':Hp3),Mt (ev (enter (tabB prog) mo f) zs ts p s k be) t be' g'→Wd S' st be' g' mo→Px st S S'→Q t.d S')
def zds (n:Nat):Sp3:=fun ds S Q _=>1≤n∧((∃(d1 d2 d3:D) (st:Addr) (c:Int) (g:Str) (mo:Nat),ds=[d1,d2,d3,.ref st]∧S st=some (.lst [.int c,.str g,.int mo])∧g≠""∧Q .non S) ∨
  ∃(pr nu:D) (x:Str) (us:List Tre) (pw tb st:Addr) (kt:List (Key×D)) (prog:List Er) (be:List En) (mo f:Nat),ds=[.str x,.ref pw,.ref tb,.ref st]∧Wk S prog kt tb st be mo f∧S pw=some (.lst (us.map Tre.d))∧pw≠st∧arP prog x=some us.length∧(∀t∈us,Sz t) ∧
    (mo-be.length)*12+66≤n∧∀(t:Tre) (be':List En) (g':Str) (S':Hp3),Mt (enter (tabB prog) mo f pr nu x us be) t be' g'→Wd S' st be' g' mo→Px st S S'→Q t.d S')
theorem Mt.bind {α β:Type} {r:Rs α} {f:α→List En→Rs β} {t:α} {be:List En} {g:Str} (h:Mt r t be g) (hg:g≠"") (u:β):Mt (r.bind f) u be g:=by
  cases r with
  | val a b=>exact absurd h.2.2 hg
  | grown b=>exact h
  | going b=>exact h
theorem Mt.go {α:Type} {r:Rs α} {t:α} {be:List En} (h:Mt r t be ""):r=.val t be:=by
  cases r with
  | val a b=>rw [h.1,h.2.1]
  | grown b=>exact absurd h.2 (by decide +kernel)
  | going b=>exact absurd h.2 (by decide +kernel)
theorem Mt.val {α:Type} (t:α) (be:List En):Mt (.val t be) t be "":=⟨rfl,rfl,rfl⟩
theorem ds_at {as:List Sy} {i:Nat} {d:D} (h:(Sy.ds as)[i]?=some d):∃a,as[i]?=some a∧d=a.d:=by
  rw [Sy.ds_map,List.getElem?_map] at h
  obtain ⟨a,ha,rfl⟩:=Option.map_eq_some_iff.mp h
  exact ⟨a,ha,rfl⟩
theorem ds_len (as:List Sy):(Sy.ds as).length=as.length:=by rw [Sy.ds_map,List.length_map]
theorem Wd.lay {S:Hp3} {st:Addr} {be:List En} {g:Str} {mo:Nat} {p:Addr} {o:O} (h:Wd S st be g mo) (hp:S p=none):Wd (up S p o) st be g mo:=⟨zaf h.hs hp⟩
theorem znu:∀{zs:List Str} {us:List Tre},zs.Nodup→us.length=zs.length→DicT ((zs.zip us).map fun p=>((Sum.inr p.1:Key),p.2.d)) zs us
  | [],[],_,_=>fun x hx=>by simp at hx
  | z::zs,u::us,nd,hl=>fun x hx=>by
    rw [List.nodup_cons] at nd
    rw [List.zip_cons_cons,List.map_cons,zid,List.idxOf_cons]
    by_cases e:z=x
    · subst e
      simp
    · have e':(z==x)=false:=show _ by simpa using e
      rw [if_neg (by simpa using e),e',cond_false,List.getElem?_cons_succ]
      rcases List.mem_cons.mp hx with h|h
      · exact absurd h.symm e
      · exact znu nd.2 (by simpa using hl) x h
theorem zmx {n:Nat} (h:Has K mg "_law_worked" zcx ["saying","trees","table","state"]) (G:Gs K mg) (C_worked:Cal3 P w K mg base n "_law_worked" ["saying","trees","table","state"] (zed n)) (C_entered:Cal3 P w K mg base n "_law_entered" ["name","row","table","state"] (zds n))
    (C_count:Cal3 P w K mg base n "_law_count" ["tree"] (zhn n)):Cal3 P w K mg base (n+1) "_law_worked" ["saying","trees","table","state"] (zed (n+1)):=show _ by
  refine h.cal3 zc2 (fun ds S Q E z=>by rcases z.2 with ⟨_,_,_,_,_,_,_,e,_⟩|⟨_,_,_,_,_,_,_,_,_,_,_,_,_,_,e,_⟩<;>rw [e]<;>rfl) fun f cdv A outer s0 H E ds S Q W hr hA=>?_
  have hu:=ziv hr
  refine ⟨_,Q,(zac (s_if (zap zmt zp1 (e_ix zat zba (e_v 3) zad (fun _ _=>rfl)) zax (nomark _)) (zah (zav zcv)) zbc)
 (zac (zal (i:=4) zc2.nd rfl (Or.inl rfl) (e_ix zam zan (e_v 0) zad (fun _ _=>rfl)))
 (zac (s_if (zap zbe zb2 (e_v 4) zax (nomark _)) (zah (zav (zhb hu (e_v 1) (e_ix zam zan (e_v 0) zad (fun _ _=>rfl)) (fun _ _=>rfl)))) zbc)
 (zac (s_if (zap zbe zb2 (e_v 4) zax (nomark _)) (zah (zav zcv)) zbc)
 (zac (s_if (zap zbe zb2 (e_v 4) zax (nomark _)) (zac (zg4 (i:=5) (osc:=defScope zcx) (N:=["saying","trees","table","state","kind","row","first","chosen","second"]) (M:=["trees","table","state"]) (js:=[1,2,3]) ⟨rfl,by decide +kernel,by decide +kernel,rfl,by decide +kernel,by decide +kernel,by decide +kernel⟩ (by decide +kernel) rfl (i_tup (e_ix zam zan (e_v 0) zad (fun _ _=>rfl))) (fun _ _ _ _ _=>(zai C_worked hr rfl (zaa (e_v 0) (zaa (e_v 1) (zaa (e_v 2) (zaa (e_v 3) zae)))))) zc2.nd rfl rfl)
 (zah (zav (zai C_entered hr rfl (zaa (e_ix zam zan (e_v 0) zad (fun _ _=>rfl)) (zaa (e_v 5) (zaa (e_v 2) (zaa (e_v 3) zae)))))))) zbc)
 (zac (zal (i:=6) zc2.nd rfl (Or.inl rfl) (zai C_worked hr rfl (zaa (e_ix zam zan (e_v 0) zad (fun _ _=>rfl)) (zaa (e_v 1) (zaa (e_v 2) (zaa (e_v 3) zae))))))
 (zac (s_if (zap zbe zb2 (e_v 4) zax (nomark _)) (zac (zal (i:=7) zc2.nd rfl (Or.inl rfl) (zh4 (zap zf0 zgd (e_v 6) zcv (nomark _)) (e_ix zam zan (e_v 0) zad (fun _ _=>rfl)) (e_ix zam zan (e_v 0) zad (fun _ _=>rfl))))
 (zah (zav (zai C_worked hr rfl (zaa (e_v 7) (zaa (e_v 1) (zaa (e_v 2) (zaa (e_v 3) zae)))))))) zbc)
 (zac (s_if (zap zbe zb2 (e_v 4) zax (nomark _)) (zac (zal (i:=8) zc2.nd rfl (Or.inl rfl) (zai C_worked hr rfl (zaa (e_ix zam zan (e_v 0) zad (fun _ _=>rfl)) (zaa (e_v 1) (zaa (e_v 2) (zaa (e_v 3) zae))))))
 (zac (s_if (PW3.pt (w_and (zap zbe zb2 (e_ix zat zba (e_v 3) zad (fun _ _=>rfl)) zax (nomark _)) (zfk (zap zmv zce (e_op zda zbz (zai C_count hr rfl (zaa (e_v 6) zae)) (zai C_count hr rfl (zaa (e_v 8) zae))) zad (nomark _))))) (zah (zmf zax (znj (e_v 3) zad))) zbc)
 (zah (zav (zbj (zaa (e_v 6) (zaa (e_v 8) zae))))))) zbc)
 (zac (s_if (zap zf0 zgd (e_v 6) zcv (nomark _)) (zah (zav zcv)) zbc)
 (zah (zav (e_ix zam zan (e_v 6) (zb6 zn8 zns rfl G.int boot_int (zaa (zrm zbe zb2 (e_v 4) zax (nomark _)) zae)) (fun _ _=>rfl))))))))))))),?_,fun _ _ q=>q⟩
  rcases hA.2 with ⟨d1,d2,d3,st,c,g,mo,rfl,hst,hg,hq⟩|⟨s,k,p,pt,tb,st,kv,kt,zs,ts,prog,be,mo,fu,rfl,Wk0,hpt,dic,wf,hz,lev,hq⟩
  · nofun
    exact hq
  have hst:=Wk0.wd.hs
  have htb:=Wk0.ht
  have npt:pt≠st:=neO hpt hst (fun z=>nomatch z)
  have XC:=zb4 (tabB prog) mo fu
  have lmo:∀b:List En,be.length≤b.length→(mo-b.length)*12≤(mo-be.length)*12:=fun b hb=>Nat.mul_le_mul_right _ (by omega)
  cases s with
  | name x =>
    simp only [Sy.d]
    nofun
    refine j_dgetS hpt (dic x wf) ?_
    exact hq _ be "" S (by rw [ev];exact Mt.val _ _) Wk0.wd (Px.refl _ _)
  | bud =>
    simp only [Sy.d]
    nofun
    exact hq .bud be "" S (by rw [ev];exact Mt.val _ _) Wk0.wd (Px.refl _ _)
  | send x as =>
    obtain ⟨w1,w2,w3,w4⟩:=wf
    simp only [Sy.deep] at lev
    simp only [Sy.d]
    nofun
    refine ⟨fun i ys S'=>∃(us:List Tre) (b:List En) (g:Str),ys=us.map Tre.d∧us.length=i∧i≤as.length∧Mt (evs (enter (tabB prog) mo fu) zs ts p (as.take i) (k+1) be) us b g∧Wd S' st b g mo∧Px st S S',
      ⟨[],be,"",rfl,rfl,Nat.zero_le _,by rw [List.take_zero,evs];exact Mt.val _ _,Wk0.wd,Px.refl _ _⟩,?_,?_,?_⟩
    · rintro i ys S' ⟨us,b,g,rfl,hl,hi,hm,hw,px⟩
      refine ⟨trivial,zas ?_⟩
      rw [List.length_map]
      omega
    · rintro i d ys S' hd ⟨us,b,g,rfl,hl,hi0,hm,hw,px⟩
      obtain ⟨a,ha,rfl⟩:=ds_at hd
      have hi:=(List.getElem?_eq_some_iff.mp ha).1
      have htk:as.take (i+1)=as.take i++[a]:=by rw [List.take_succ,ha];rfl
      have hmem:=List.mem_of_getElem? ha
      have hda:=Sy.deeps_mem hmem
      nofun
      by_cases hg:g=""
      · subst hg
        have er:=hm.go
        have g4:=(zdq (zs:=zs) (p:=p) XC hz (as.take i) (k+1) be Wk0.le).len er
        refine ⟨by omega,.inr ⟨a,k+1+(Sy.sendss (as.take i):Nat),p,pt,tb,st,kv,kt,zs,ts,prog,b,mo,fu,rfl,Wk0.next hw px g4.2.2.2 g4.2.1,px _ _ npt hpt,dic,Sy.wfs_iff.mp w4 a hmem,hz,by have:=lmo b g4.1;omega,fun t b2 g2 S2 hm2 hw2 px2=>?_⟩⟩
        refine ⟨us++[t],b2,g2,by rw [List.map_append];rfl,by rw [List.length_append,hl];rfl,hi,?_,hw2,px.trans px2⟩
        rw [htk,zh3,er]
        by_cases h2:g2=""
        · subst h2
          show Mt ((ev (enter (tabB prog) mo fu) zs ts p a _ b).bind _) _ _ _
          rw [hm2.go]
          exact Mt.val _ _
        · exact hm2.bind h2 _
      · refine ⟨by omega,.inl ⟨_,_,_,st,_,g,mo,rfl,hw.hs,hg,?_⟩⟩
        refine ⟨us++[.bud],b,g,by rw [List.map_append];rfl,by rw [List.length_append,hl];rfl,hi,?_,hw,px⟩
        rw [htk,zh3]
        exact hm.bind hg _
    · rintro ys S' ⟨us,b,g,rfl,hl,hi0,hm,hw,px⟩
      rw [ds_len] at hl hm
      rw [List.take_length] at hm
      intro pw hpw
      have hst1:=zaf (o:=.lst (us.map Tre.d)) hw.hs hpw
      have npw:pw≠st:=(ne3 hw.hs hpw).symm
      have hpw1:up S' pw (.lst (us.map Tre.d)) pw=some (.lst (us.map Tre.d)):=zab
      have hw1:=hw.lay (o:=.lst (us.map Tre.d)) hpw
      have px1:Px st S (up S' pw (.lst (us.map Tre.d))):=px.new hpw
      generalize up S' pw (.lst (us.map Tre.d))=S1 at hst1 hpw1 hw1 px1 ⊢
      nofun
      by_cases hg:g=""
      · subst hg
        have er:=hm.go
        have g4:=(zdq (zs:=zs) (p:=p) XC hz as (k+1) be Wk0.le).len er
        refine ⟨by omega,.inr ⟨.int p,.int k,x,us,pw,tb,st,kt,prog,b,mo,fu,rfl,Wk0.next hw1 px1 g4.2.2.2 g4.2.1,hpw1,npw,by rw [g4.2.2.1.2];exact w1,g4.2.2.1.1,by have:=lmo b g4.1;omega,fun t b2 g2 S2 hm2 hw2 px2=>?_⟩⟩
        refine hq t b2 g2 S2 ?_ hw2 (px1.trans px2)
        rw [ev,er]
        exact hm2
      · refine ⟨by omega,.inl ⟨_,_,_,st,_,g,mo,rfl,hst1,hg,?_⟩⟩
        refine hq .bud b g S1 ?_ hw1 px1
        rw [ev]
        exact hm.bind hg _
  | pair a b =>
    simp only [Sy.deep] at lev
    simp only [Sy.d]
    nofun
    refine ⟨by omega,.inr ⟨a,k,p,pt,tb,st,kv,kt,zs,ts,prog,be,mo,fu,rfl,Wk0,hpt,dic,wf.1,hz,by omega,fun t1 b1 g1 S1 m1 w1 p1=>?_⟩⟩
    have hst1:=w1.hs
    nofun
    by_cases hg:g1=""
    · subst hg
      have er:=m1.go
      have g4:=(za9 (zs:=zs) (p:=p) XC hz a k be Wk0.le).len er
      have Wk1:=Wk0.next w1 p1 g4.2.2.2 g4.2.1
      refine ⟨by omega,.inr ⟨b,k+a.sends,p,pt,tb,st,kv,kt,zs,ts,prog,b1,mo,fu,rfl,Wk1,p1 _ _ npt hpt,dic,wf.2,hz,by have:=lmo b1 g4.1;omega,fun t2 b2 g2 S2 m2 w2 p2=>?_⟩⟩
      have hst2:=w2.hs
      by_cases hg2:g2=""
      · subst hg2
        have er2:=m2.go
        have g5:=(za9 (zs:=zs) (p:=p) XC hz b (k+a.sends) b1 Wk1.le).len er2
        have z1:t1.size≤60:=g4.2.2.1
        have z2:t2.size≤60:=g5.2.2.1
        have d1:=t1.deep_le
        have d2:=t2.deep_le
        nofun
        refine ⟨t1,rfl,by omega,?_⟩
        nofun
        refine ⟨t2,rfl,by omega,?_⟩
        nofun
        by_cases big:(59:Int)<(t1.size:Int)+(t2.size:Int)
        · nofun
          refine hq (.pair t1 t2) b2 "grown" _ ?_ ⟨zab⟩ (p1.trans p2).at
          rw [ev,er]
          show Mt ((ev (enter (tabB prog) mo fu) zs ts p b (k+a.sends) b1).bind _) _ _ _
          rw [er2]
          show Mt (joinT t1 t2 b2) _ _ _
          unfold joinT
          rw [if_neg (by simp only [Tre.size];omega)]
          exact ⟨rfl,rfl⟩
        · nofun
          refine hq (.pair t1 t2) b2 "" _ ?_ w2 (p1.trans p2)
          rw [ev,er]
          show Mt ((ev (enter (tabB prog) mo fu) zs ts p b (k+a.sends) b1).bind _) _ _ _
          rw [er2]
          show Mt (joinT t1 t2 b2) _ _ _
          unfold joinT
          rw [if_pos (by simp only [Tre.size];omega)]
          exact Mt.val _ _
      · nofun
        refine hq (.pair t1 t2) b2 g2 _ ?_ w2 (p1.trans p2)
        rw [ev,er]
        exact m2.bind hg2 _
    · refine ⟨by omega,.inl ⟨_,_,_,st,_,g1,mo,rfl,hst1,hg,?_⟩⟩
      nofun
      refine hq (.pair t1 .bud) b1 g1 _ ?_ w1 p1
      rw [ev]
      exact m1.bind hg _
  | fork a b c =>
    simp only [Sy.deep] at lev
    simp only [Sy.d]
    nofun
    refine ⟨by omega,.inr ⟨a,k,p,pt,tb,st,kv,kt,zs,ts,prog,be,mo,fu,rfl,Wk0,hpt,dic,wf.1,hz,by omega,fun t1 b1 g1 S1 m1 w1 p1=>?_⟩⟩
    have hst1:=w1.hs
    by_cases hg:g1=""
    · subst hg
      have er:=m1.go
      have g4:=(za9 (zs:=zs) (p:=p) XC hz a k be Wk0.le).len er
      have Wk1:=Wk0.next w1 p1 g4.2.2.2 g4.2.1
      cases t1 with
      | bud =>
        nofun
        refine ⟨by omega,.inr ⟨c,k+a.sends+b.sends,p,pt,tb,st,kv,kt,zs,ts,prog,b1,mo,fu,rfl,Wk1,p1 _ _ npt hpt,dic,wf.2.2,hz,by have:=lmo b1 g4.1;omega,fun t2 b2 g2 S2 m2 w2 p2=>?_⟩⟩
        refine hq t2 b2 g2 _ ?_ w2 (p1.trans p2)
        rw [ev,er]
        exact m2
      | pair u v =>
        have eu:(Tre.pair u v).d=.tup [u.d,v.d]:=rfl
        rw [eu]
        nofun
        refine ⟨by omega,.inr ⟨b,k+a.sends,p,pt,tb,st,kv,kt,zs,ts,prog,b1,mo,fu,rfl,Wk1,p1 _ _ npt hpt,dic,wf.2.1,hz,by have:=lmo b1 g4.1;omega,fun t2 b2 g2 S2 m2 w2 p2=>?_⟩⟩
        refine hq t2 b2 g2 _ ?_ w2 (p1.trans p2)
        rw [ev,er]
        exact m2
    · have fin:=hq .bud b1 g1 S1 (by rw [ev];exact m1.bind hg _) w1 p1
      cases t1 with
      | bud =>
        nofun
        exact ⟨by omega,.inl ⟨_,_,_,st,_,g1,mo,rfl,hst1,hg,fin⟩⟩
      | pair u v =>
        have eu:(Tre.pair u v).d=.tup [u.d,v.d]:=rfl
        rw [eu]
        nofun
        exact ⟨by omega,.inl ⟨_,_,_,st,_,g1,mo,rfl,hst1,hg,fin⟩⟩
  | left a =>
    simp only [Sy.deep] at lev
    simp only [Sy.d]
    nofun
    refine ⟨by omega,.inr ⟨a,k,p,pt,tb,st,kv,kt,zs,ts,prog,be,mo,fu,rfl,Wk0,hpt,dic,wf,hz,by omega,fun t1 b1 g1 S1 m1 w1 p1=>?_⟩⟩
    have fin:=hq (sideT true t1) b1 g1 S1 (by
      rw [ev]
      by_cases hg:g1=""
      · subst hg
        rw [m1.go]
        exact Mt.val _ _
      · exact m1.bind hg _) w1 p1
    cases t1 with
    | bud =>
      nofun
      exact fin
    | pair u v =>
      have eu:(Tre.pair u v).d=.tup [u.d,v.d]:=rfl
      rw [eu]
      nofun
      exact fin
  | right a =>
    simp only [Sy.deep] at lev
    simp only [Sy.d]
    nofun
    refine ⟨by omega,.inr ⟨a,k,p,pt,tb,st,kv,kt,zs,ts,prog,be,mo,fu,rfl,Wk0,hpt,dic,wf,hz,by omega,fun t1 b1 g1 S1 m1 w1 p1=>?_⟩⟩
    have fin:=hq (sideT false t1) b1 g1 S1 (by
      rw [ev]
      by_cases hg:g1=""
      · subst hg
        rw [m1.go]
        exact Mt.val _ _
      · exact m1.bind hg _) w1 p1
    cases t1 with
    | bud =>
      nofun
      exact fin
    | pair u v =>
      have eu:(Tre.pair u v).d=.tup [u.d,v.d]:=rfl
      rw [eu]
      nofun
      exact fin
theorem zk8 {n:Nat} (h:Has K mg "_law_entered" zcs ["name","row","table","state"]) (G:Gs K mg) (C_worked:Cal3 P w K mg base n "_law_worked" ["saying","trees","table","state"] (zed n)):Cal3 P w K mg base (n+1) "_law_entered" ["name","row","table","state"] (zds (n+1)):=show _ by
  refine h.cal3 zdv (fun ds S Q E z=>by rcases z.2 with ⟨_,_,_,_,_,_,_,e,_⟩|⟨_,_,_,_,_,_,_,_,_,_,_,_,e,_⟩<;>rw [e]<;>rfl) fun f cdv A outer s0 H E ds S Q W hr hA=>?_
  have hu:=ziv hr
  refine ⟨_,Q,(zac (s_if (zap zmt zp1 (e_ix zat zba (e_v 3) zad (fun _ _=>rfl)) zax (nomark _)) (zah (zav zcv)) zbc)
 (zac (s_if (zap zbe zbr (e_ix zat zba (e_v 3) zad (fun _ _=>rfl)) (e_ix zat zba (e_v 3) zad (fun _ _=>rfl)) (nomark _)) (zac (zmf zax (znj (e_v 3) zad))
 (zah (zav zcv))) zbc)
 (zac (zmf (e_op zda zbz (e_ix zat zba (e_v 3) zad (fun _ _=>rfl)) zad) (znj (e_v 3) zad))
 (zac (zal (i:=4) zdv.nd rfl (Or.inl rfl) zno)
 (zac (zeu PassesOwn.never rfl (i_zipQ rfl G.zip (zaa (e_ix zam zan (zhb hu (e_v 2) (e_v 0) (fun _ _=>rfl)) zad (fun _ _=>rfl)) (zaa (e_v 1) zae))) (g_tup rfl (znh (zcu (i:=5) zdv.nd rfl (Or.inl rfl)) (znh (zcu (i:=6) zdv.nd rfl (Or.inl rfl)) gs_nil))) (zah (zme hu (e_v 4) (e_v 5) (e_v 6) rfl)))
 (zah (zav (zai C_worked hr rfl (zaa (e_ix zam zan (zhb hu (e_v 2) (e_v 0) (fun _ _=>rfl)) zad (fun _ _=>rfl)) (zaa (e_v 4) (zaa (e_v 2) (zaa (e_v 3) zae)))))))))))),?_,fun _ _ q=>q⟩
  rcases hA.2 with ⟨d1,d2,d3,st,c,g,mo,rfl,hst,hg,hq⟩|⟨pr,nu,x,us,pw,tb,st,kt,prog,be,mo,fu,rfl,Wk0,hpw,npw,har,hz,lev,hq⟩
  · nofun
    exact hq
  have hst:=Wk0.wd.hs
  have htb:=Wk0.ht
  have hv:=Wk0.tab x _ har
  have lb1:be.length≤1000:=by have:=Wk0.le;have:=Wk0.m1;omega
  have lb2:(be++[(⟨pr,nu,x,us⟩:En)]).length=be.length+1:=by rw [List.length_append];rfl
  by_cases q:be.length<mo
  · have nq:¬((be.length:Nat):Int)=(mo:Int):=by omega
    nofun
    intro pt hpt
    have e1:([D.int be.length,.str "",.int mo].set (Int.toNat 0) (.int (be.length+1)))=[D.int (be++[(⟨pr,nu,x,us⟩:En)]).length,.str "",.int mo]:=by rw [lb2];rfl
    rw [e1] at hpt ⊢
    have w1:Wd (up S st (.lst [.int (be++[(⟨pr,nu,x,us⟩:En)]).length,.str "",.int mo])) st (be++[⟨pr,nu,x,us⟩]) "" mo:=⟨zab⟩
    have px1:Px st S (up S st (.lst [.int (be++[(⟨pr,nu,x,us⟩:En)]).length,.str "",.int mo])):=(Px.refl st S).at
    have ntb:tb≠st:=neO htb hst (fun z=>nomatch z)
    have t1:up S st (.lst [.int (be++[(⟨pr,nu,x,us⟩:En)]).length,.str "",.int mo]) tb=some (.dic kt):=zaz htb ntb
    have r1:up S st (.lst [.int (be++[(⟨pr,nu,x,us⟩:En)]).length,.str "",.int mo]) pw=some (.lst (us.map Tre.d)):=zaz hpw npw
    generalize up S st (.lst [.int (be++[(⟨pr,nu,x,us⟩:En)]).length,.str "",.int mo])=S1 at hpt w1 px1 t1 r1 ⊢
    have w2:=w1.lay (o:=.dic []) hpt
    have px2:=px1.new (o:=.dic []) hpt
    have t2:=zaf (o:=.dic []) t1 hpt
    have r2:=zaf (o:=.dic []) r1 hpt
    have p2:up S1 pt (.dic []) pt=some (.dic []):=zab
    have npt:tb≠pt:=ne3 t1 hpt
    have nst:st≠pt:=ne3 w1.hs hpt
    have nrw:pw≠pt:=ne3 r1 hpt
    generalize up S1 pt (.dic [])=S2 at w2 px2 t2 r2 p2 ⊢
    nofun
    refine j_dgetS t2 hv ?_
    nofun
    obtain ⟨hlen,h100⟩:=Wk0.tw.len x _ har
    have hnd:=Wk0.tw.nd x _ har
    refine ⟨fun i σ S'=>Ex2 fun (x5 x6:Option D)=>σ=[some (.str x),some (.ref pw),some (.ref tb),some (.ref st),some (.ref pt),x5,x6]∧i≤us.length∧Wd S' st (be++[⟨pr,nu,x,us⟩]) "" mo∧S' tb=some (.dic kt)∧S' pw=some (.lst (us.map Tre.d))∧S' pt=some (.dic ((((tabB prog x).zs.zip us).take i).map fun p=>((Sum.inr p.1:Key),p.2.d)))∧Px st S S',
      ⟨none,none,rfl,Nat.zero_le _,w2,t2,r2,p2,px2⟩,fun _ _ _ ⟨_,_,_,_,_,_,h1,_⟩=>h1,?_,?_⟩
    · rintro i d σ S' hd ⟨x5,x6,rfl,hi,w3,t3,r3,p3,px3⟩
      have hzl:((tabB prog x).zs.zip us).length=us.length:=by rw [List.length_zip];omega
      obtain ⟨z,u,hzu,rfl⟩:∃z u,((tabB prog x).zs.zip us)[i]?=some (z,u)∧d=.tup [.str z,u.d]:=by
        unfold zipD at hd
        rw [List.zip_map,List.map_map,List.getElem?_map] at hd
        obtain ⟨⟨z,u⟩,h1,rfl⟩:=Option.map_eq_some_iff.mp hd
        exact ⟨z,u,h1,rfl⟩
      have hi2:i<us.length:=by rw [←hzl];exact (List.getElem?_eq_some_iff.mp hzu).1
      have htk:((tabB prog x).zs.zip us).take (i+1)=((tabB prog x).zs.zip us).take i++[(z,u)]:=by rw [List.take_succ,hzu];rfl
      have hz2:(tabB prog x).zs[i]?=some z:=(List.getElem?_zip_eq_some.mp hzu).1
      have hnew:(Sum.inr z:Key)∉((((tabB prog x).zs.zip us).take i).map fun p=>((Sum.inr p.1:Key),p.2.d)).map (·.1):=by
        rw [List.map_map]
        intro hc
        obtain ⟨v,hv2,ev⟩:=List.mem_map.mp hc
        have e2:v.1=z:=by simpa using ev
        have hm:v.1∈(tabB prog x).zs.take i:=by
          obtain ⟨j,hj⟩:=List.mem_iff_getElem?.mp hv2
          rw [List.getElem?_take] at hj
          by_cases hji:j<i
          · rw [if_pos hji] at hj
            rw [List.mem_iff_getElem?]
            exact ⟨j,by rw [List.getElem?_take,if_pos hji];exact (List.getElem?_zip_eq_some.mp hj).1⟩
          · rw [if_neg hji] at hj
            cases hj
        rw [e2] at hm
        have hnd2:=hnd
        rw [←List.take_append_drop i (tabB prog x).zs,List.nodup_append] at hnd2
        exact hnd2.2.2 z hm z (by rw [List.mem_iff_getElem?];exact ⟨0,by rw [List.getElem?_drop];exact hz2⟩) rfl
      nofun
      refine j_dputS p3 (zas (by rw [List.length_map,List.length_take];omega)) ?_
      nofun
      refine ⟨_,_,rfl,hi2,⟨zaz w3.hs nst⟩,zaz t3 npt,zaz r3 nrw,?_,?_⟩
      · rw [zab,zhv hnew,htk,List.map_append]
        rfl
      · intro a v n1 e
        by_cases c:a=pt
        · subst c
          have hn:S a=none:=by
            cases e3:S a with
            | none=>rfl
            | some o=>rw [px1 a o n1 e3] at hpt;cases hpt
          rw [hn] at e
          cases e
        · rw [za8 c]
          exact px3 a v n1 e
    · rintro σ S' ⟨x5,x6,rfl,hi,w3,t3,r3,p3,px3⟩
      have hll:(zipD ((tabB prog x).zs.map D.str) (us.map Tre.d)).length=((tabB prog x).zs.zip us).length:=by unfold zipD;simp
      rw [hll,List.take_length] at p3
      have hst3:=w3.hs
      nofun
      refine j_dgetS t3 hv ?_
      nofun
      obtain ⟨fu',rfl⟩:∃m,fu=m+1:=⟨fu-1,by have:=Wk0.fu;omega⟩
      have el:(mo-be.length)*12=(mo-(be.length+1))*12+12:=by omega
      refine ⟨by omega,.inr ⟨(tabB prog x).body,(tabB prog x).num,be.length,pt,tb,st,_,kt,(tabB prog x).zs,us,prog,_,mo,fu',rfl,⟨w3,t3,Wk0.tab,Wk0.tw,by omega,Wk0.m1,by have:=Wk0.fu;omega⟩,p3,znu hnd (by omega),Wk0.tw.wf x _ har,hz,by have:=Wk0.tw.deep x _ har;rw [lb2];omega,fun t b2 g2 S2 m2 w4 p4=>?_⟩⟩
      refine hq t b2 g2 S2 ?_ w4 (px3.trans p4)
      rw [enter,if_pos q]
      exact m2
  · have nq:((be.length:Nat):Int)=(mo:Int):=by have:=Wk0.le;omega
    nofun
    refine hq .bud be "going" _ ?_ ⟨zab⟩ (Px.refl st S).at
    cases fu with
    | zero=>exact ⟨rfl,rfl⟩
    | succ m =>
      rw [enter,if_neg q]
      exact ⟨rfl,rfl⟩
theorem zhe (h1:Has K mg "_law_worked" zcx ["saying","trees","table","state"]) (h2:Has K mg "_law_entered" zcs ["name","row","table","state"]) (G:Gs K mg) (Cc:∀n,Cal3 P w K mg base n "_law_count" ["tree"] (zhn n)) :
    ∀n,Cal3 P w K mg base n "_law_worked" ["saying","trees","table","state"] (zed n)∧Cal3 P w K mg base n "_law_entered" ["name","row","table","state"] (zds n)
  | 0=>⟨h1.none3 (fun ds S Q E z=>absurd z.1 (by omega)) 0,h2.none3 (fun ds S Q E z=>absurd z.1 (by omega)) 0⟩
  | n+1=>⟨zmx h1 G (zhe h1 h2 G Cc n).1 (zhe h1 h2 G Cc n).2 (Cc n),zk8 h2 G (zhe h1 h2 G Cc n).1⟩
structure PgX (prog:List Er):Prop where
  len1:1≤prog.length
  rp:Rp prog 10000
  ps:∀e∈prog,1≤e.ps.length∧e.ps.length≤4∧e.ps.Nodup
  deep:∀e∈prog,e.body.deep≤10
  parts:∀e∈prog,∀a∈e.body.pre,a.parts.length≤1000
theorem Pg.x {prog:List Er} (h:Pg prog):PgX prog :=
  ⟨h.len1,⟨by have:=h.len;omega,h.nd,fun e he=>(h.body e he).wf,fun e he=>by have:=(h.body e he).size;omega,by decide⟩,fun e he=>⟨(h.ps e he).1,(h.ps e he).2.1,(h.ps e he).2.2.1⟩,fun e he=>(h.body e he).deep,
    fun e he a ha=>by have:=zj0 (Sy.wf_in (h.body e he).wf a ha);omega⟩
theorem Good.x {prog:List Er} {b:Nat} (h:Good prog 3 4 b):PgX prog:=show _ by
  have hd:∀e∈prog,e.body.pre.length≤625:=fun e he=>by
    have h1:=Sy.pre_len (h.wf e he).1
    exact Nat.le_trans h1 (Nat.le_trans (Nat.pow_le_pow_right (by decide) (h.wf e he).2) (by decide))
  exact ⟨h.len1,⟨by have:=h.len;omega,h.nd,fun e he=>(h.wf e he).1,fun e he=>by have:=hd e he;omega,by decide⟩,fun e he=>⟨(h.ps e he).1,(h.ps e he).2.1,(h.ps e he).2.2.1⟩,fun e he=>by have:=(h.wf e he).2;omega,
    fun e he a ha=>by have:=zj0 (Sy.wf_in (h.wf e he).1 a ha);omega⟩
theorem PgX.tw {prog:List Er} (h:PgX prog):TabW prog:=show _ by
  have key:∀x k,arP prog x=some k→∃e∈prog,e.name=x∧e.ps=(tabB prog x).zs∧e.body=(tabB prog x).body:=by
    intro x k hx
    obtain ⟨b,hb⟩:=zh8 0 (zh9 hx)
    obtain ⟨e,he,g1,g2,g3⟩:=zoa (zm4 hb)
    have e1:tabB prog x=b:=by show ((bks 0 prog).lookup x).getD _=b;rw [hb];rfl
    exact ⟨e,he,g1,by rw [e1];exact g2,by rw [e1];exact g3⟩
  have B:=h.rp.bok
  refine ⟨fun x k hx=>⟨B.len x k hx,?_⟩,fun x k hx=>?_,fun x k hx=>B.wf x k hx,fun x k hx=>?_⟩<;>obtain ⟨e,he,g1,g2,g3⟩:=key x k hx
  · have:=(h.ps e he).2.1
    have:=B.len x k hx
    rw [←g2] at this
    omega
  · rw [←g2];exact (h.ps e he).2.2
  · rw [←g3];exact h.deep e he
theorem zbo {tc:TT3} {t u:TS3} {D3:Ends3} {σ:St3} {S:Hp3} (h:ifs3 tc t u D3 σ S):ifm3 tc t u D3 σ S:=h
noncomputable def tabD11 (es:List Er):List (Key×D):=(bks 0 es).map fun b=>((Sum.inr b.1:Key),.tup [.tup (b.2.zs.map D.str),b.2.body.d])
theorem tab11 (prog:List Er):Tab11 prog (tabD11 prog):=by
  intro x k hx
  obtain ⟨b,hb⟩:=zh8 0 (zh9 hx)
  have e1:tabB prog x=b:=by show ((bks 0 prog).lookup x).getD _=b;rw [hb];rfl
  rw [e1]
  exact zhg (fun b:Bk=>D.tup [.tup (b.zs.map D.str),b.body.d]) hb
theorem zec (es:List Er):tabD11 es=es.map fun e=>((Sum.inr e.name:Key),D.tup [.tup (e.ps.map D.str),e.body.d]):=by
  unfold tabD11
  generalize (0:Int)=n
  induction es generalizing n with
  | nil=>rfl
  | cons e r ih=>rw [bks,List.map_cons,List.map_cons,ih]
theorem ok_law {f:Addr} {fd:FuncData} (F:Fun K "law" "law" zht f fd) (G:Gs K mg) (C_cell_at:Cal3 P w K mg base 230 "_law_cell_at" ["script","k"] zdt) (C_program:Cal3 P w K mg base 230 "_law_program" ["script","spot","most"] zgu) (C_drawn:Cal3 P w K mg base 230 "_law_drawn" ["script","spot","most","deep"] (zj5 5)) (C_trees:Cal3 P w K mg base 230 "_law_trees" ["script","spot","many"] zj3)
    (C_entered:Cal3 P w K mg base 230 "_law_entered" ["name","row","table","state"] (zds 230)) (C_run:Cal3 P w K mg base 230 "run" ["program","name","trees","most"] zpt) (C_whole:Cal3 P w K mg base 230 "_law_whole" ["found"] zj2) (C_is_tree:Cal3 P w K mg base 230 "_law_is_tree" ["found","room"] zgw):FnOk P w K mg base (CX1 P w) 231 f fd ["script"] (lSp K lawS):=show _ by
  refine zm5 F zch fun cdv A outer s0 H E ns hr h63=>?_
  have hu:=ziv hr
  refine ⟨_,(zac (zal (i:=1) zch.nd rfl (Or.inl rfl) (zdm (zaa zad (zaa zad zae))))
 (zac (zef (zap zbe zbr (e_op zau zag (zai C_cell_at hr rfl (zaa (e_v 0) (zaa zad zae))) zad) zad (nomark _)) (zah (zal (i:=2) zch.nd rfl (Or.inl rfl) (zai C_drawn hr rfl (zaa (e_v 0) (zaa (e_v 1) (zaa zad (zaa zad zae))))))) (zah (zal (i:=2) zch.nd rfl (Or.inl rfl) (zai C_program hr rfl (zaa (e_v 0) (zaa (e_v 1) (zaa zad zae)))))))
 (zac (zal (i:=3) zch.nd rfl (Or.inl rfl) (e_op zau zag (e_op za3 zag (zai C_cell_at hr rfl (zaa (e_v 0) (zaa zad zae))) zad) zad))
 (zac (zal (i:=4) zch.nd rfl (Or.inl rfl) zno)
 (zac (zeu PassesOwn.never rfl (ziu (e_v 2)) (zcu (i:=5) zch.nd rfl (Or.inl rfl)) (zah (zme hu (e_v 4) (e_ix zam zan (e_v 5) zad (fun _ _=>rfl)) (zbj (zaa (e_ix zam zan (e_v 5) zad (fun _ _=>rfl)) (zaa (e_ix zam zan (e_v 5) zad (fun _ _=>rfl)) zae))) rfl)))
 (zac (zal (i:=5) zch.nd rfl (Or.inl rfl) (e_ix zat zba (e_v 2) (e_op zau zag (zai C_cell_at hr rfl (zaa (e_v 0) (zaa zad zae))) (zay zaj zby rfl G.len PySem.boot_len (zaa (e_v 2) zae))) (fun _ _=>rfl)))
 (zac (zal (i:=6) zch.nd rfl (Or.inl rfl) (zai C_trees hr rfl (zaa (e_v 0) (zaa (e_v 1) (zaa (zay zaj zby rfl G.len PySem.boot_len (zaa (e_ix zam zan (e_v 5) zad (fun _ _=>rfl)) zae)) zae)))))
 (zac (zal (i:=7) zch.nd rfl (Or.inl rfl) (zdm (zaa zad (zaa zax (zaa (e_v 3) zae)))))
 (zac (zal (i:=8) zch.nd rfl (Or.inl rfl) (zai C_entered hr rfl (zaa (e_ix zam zan (e_v 5) zad (fun _ _=>rfl)) (zaa (e_v 6) (zaa (e_v 4) (zaa (e_v 7) zae))))))
 (zac (zal (i:=9) zch.nd rfl (Or.inl rfl) (zbj (zaa (e_ix zat zba (e_v 7) zad (fun _ _=>rfl)) (zaa (e_ix zat zba (e_v 7) zad (fun _ _=>rfl)) zae))))
 (zac (zef (zap zbe zb2 (e_ix zat zba (e_v 7) zad (fun _ _=>rfl)) zax (nomark _)) (zah (zal (i:=9) zch.nd rfl (Or.inl rfl) (zbj (zaa zax (zaa (e_v 8) (zaa (e_ix zat zba (e_v 7) zad (fun _ _=>rfl)) zae)))))) zbc)
 (zac (zal (i:=10) zch.nd rfl (Or.inl rfl) (zb6 zfc ziz rfl G.list boot_list (zaa (e_v 2) zae)))
 (zac (zal (i:=11) zch.nd rfl (Or.inl rfl) (zb6 zfc ziz rfl G.list boot_list (zaa (e_v 6) zae)))
 (zac (zal (i:=12) zch.nd rfl (Or.inl rfl) (zai C_run hr rfl (zaa (e_v 2) (zaa (e_ix zam zan (e_v 5) zad (fun _ _=>rfl)) (zaa (e_v 6) (zaa (e_v 3) zae))))))
 (zac (zef (PW3.pt (w_or (zlz (zkp (zay zen zi0 rfl G.isinstance boot_isinstance (zaa (e_v 12) (zaa (ziy (n:="tuple") rfl G.tuple boot_tuple) zae))))) (zic (zap zk4 zce (zay zaj zby rfl G.len PySem.boot_len (zaa (e_v 12) zae)) zad (nomark _))))) (zah (zav e_bl)) zbc)
 (zac (zef (PW3.pt (w_or (zlz (zkp (zay zen zi0 rfl G.isinstance boot_isinstance (zaa (e_ix zam zan (e_v 12) zad (fun _ _=>rfl)) (zaa (ziy (n:="str") rfl G.str boot_str) zae))))) (zic (zlz (zkp (zai C_whole hr rfl (zaa (e_ix zam zan (e_v 12) (e_neg zad) (fun _ _=>rfl)) zae))))))) (zah (zav e_bl)) zbc)
 (zac (zef (PW3.pt (w_and (zap zbe zb2 (e_ix zam zan (e_v 12) zad (fun _ _=>rfl)) zax (nomark _)) (zfk (PW3.pt (w_or (zap zmt znr (zay zaj zby rfl G.len PySem.boot_len (zaa (e_v 12) zae)) zad (nomark _)) (zic (zlz (zkp (zai C_is_tree hr rfl (zaa (e_ix zam zan (e_v 12) zad (fun _ _=>rfl)) (zaa zad zae))))))))))) (zah (zav e_bl)) zbc)
 (zac (zef (PW3.pt (w_or (zap (zpu (zh1 hr)) zp0 (e_v 12) (e_v 9) (nomark _)) (zic (zap (zpu (zh1 hr)) zp0 (zai C_run hr rfl (zaa (e_v 2) (zaa (e_ix zam zan (e_v 5) zad (fun _ _=>rfl)) (zaa (e_v 6) (zaa (e_v 3) zae))))) (e_v 9) (nomark _))))) (zah (zav e_bl)) zbc)
 (zah (zav (e_and (zrm (zg6 (zh1 hr)) zp3 (e_v 2) (e_v 10) (nomark _)) (e_one (zrm (zg6 (zh1 hr)) zp3 (e_v 6) (e_v 11) (nomark _)))))))))))))))))))))))),?_⟩
  have cell:∀{k:Int} {S:Hp3} {Q:K3} {W:X3},0≤k→Q (.int (cellAt ns k)) S→zdt [.rol (ns.map D.int),.int k] S Q W:=fun h0 q=>⟨ns,_,rfl,h0,q⟩
  nofun
  intro sp hsp
  nofun
  refine j_ifm (fun σ S=>Ex4 fun (prog:List Er) (i b:Int) (pr:Addr)=>σ=[some (.rol (ns.map D.int)),some (.ref sp),some (.ref pr),none,none,none,none,none,none,none,none,none,none]∧PgX prog∧0≤i∧S sp=some (.lst [.int i,.int b])∧S pr=some (.lst (prog.map Er.d))∧sp≠pr) (fun n' hn'=>?_) ?_
  · nofun
    refine cell (by decide) ?_
    nofun
    refine iteD2 (fun c=>?_) fun c=>?_
    · nofun
      refine ⟨ns,sp,2,6,3,4,rfl,zab,by decide,by decide,by decide,by decide,by decide,by decide,fun prog i2 b2 hG hi=>?_⟩
      intro pr hpr
      have n1:sp≠pr:=ne3 zab hpr
      nofun
      exact hn' _ _ ⟨prog,i2,b2,pr,rfl,Good.x hG,hi,(za8 n1).trans zab,zab,n1⟩
    · nofun
      refine ⟨ns,sp,2,3,[.int 6],rfl,zab,by decide,by decide,by decide,fun prog i2 hP hl hi=>?_⟩
      intro pr hpr
      have n1:sp≠pr:=ne3 zab hpr
      nofun
      exact hn' _ _ ⟨prog,i2,6,pr,rfl,hP.x,hi,(za8 n1).trans zab,zab,n1⟩
  rintro σ S1 ⟨prog,i2,b2,pr,rfl,hX,hi,a1,a2,n1⟩
  nofun
  refine cell (by decide) ?_
  nofun
  have l0:=Int.emod_nonneg (cellAt ns 0/2) (show (10:Int)≠0 by decide)
  have l1:=Int.emod_lt_of_pos (cellAt ns 0/2) (show (0:Int)<10 by decide)
  obtain ⟨m,hm⟩:=Int.eq_ofNat_of_zero_le l0
  rw [hm] at l1 ⊢
  intro tb htb
  have b1:=zaf (o:=.dic []) a1 htb
  have b2':=zaf (o:=.dic []) a2 htb
  have b3:up S1 tb (.dic []) tb=some (.dic []):=zab
  generalize up S1 tb (.dic [])=S2 at b1 b2' b3 ⊢
  have q4:sp≠tb:=neO b1 b3 (fun z=>nomatch z)
  have q5:pr≠tb:=neO b2' b3 (fun z=>nomatch z)
  nofun
  refine ⟨fun j σ S'=>∃(x5:Option D),σ=[some (.rol (ns.map D.int)),some (.ref sp),some (.ref pr),some (.int m),some (.ref tb),x5,none,none,none,none,none,none,none]∧S' sp=some (.lst [.int i2,.int b2])∧S' pr=some (.lst (prog.map Er.d))∧S' tb=some (.dic (tabD11 (prog.take j))),
    ⟨none,rfl,b1,b2',b3⟩,fun _ _ _ ⟨_,_,_,h1,_⟩=>h1,?_,?_⟩
  · rintro j d σ S' hd ⟨x5,rfl,g1,g2,g3⟩
    rw [List.getElem?_map] at hd
    obtain ⟨e,he,rfl⟩:=Option.map_eq_some_iff.mp hd
    have hj:=(List.getElem?_eq_some_iff.mp he).1
    have hlen:=hX.rp.len
    have hme:=List.mem_of_getElem? he
    have htk:prog.take (j+1)=prog.take j++[e]:=by rw [List.take_succ,he];rfl
    rw [show e.d=.tup [.str e.name,.tup (e.ps.map D.str),e.body.d] from rfl]
    nofun
    refine j_dputS g3 (zas (by rw [zec,List.length_map,List.length_take];omega)) ?_
    nofun
    refine ⟨_,rfl,zaz g1 q4,zaz g2 q5,?_⟩
    rw [zab,zhv,htk]
    · rw [zec,zec,List.map_append]
      rfl
    · rw [zec,List.map_map]
      intro hc
      obtain ⟨u,hu,eu⟩:=List.mem_map.mp hc
      have e2:u.name=e.name:=by simpa using eu
      have hnd:=hX.rp.nd
      rw [←List.take_append_drop j prog,List.map_append,List.nodup_append] at hnd
      have hd:e∈prog.drop j:=by rw [List.mem_iff_getElem?];exact ⟨0,by rw [List.getElem?_drop];exact he⟩
      exact hnd.2.2 _ (List.mem_map_of_mem hu) _ (List.mem_map_of_mem hd) e2
  rintro σ S' ⟨x5,rfl,g1,g2,g3⟩
  rw [List.length_map,List.take_length] at g3
  nofun
  refine cell (by decide) ?_
  obtain ⟨jt,e0,ejt,he0,hat⟩:=zgi (f:=Er.d) (cellAt ns 1) (show 0<prog.length by have:=hX.len1;omega)
  have hme:=List.mem_of_getElem? he0
  have hpp:(0:Int)<((prog.map Er.d).length:Int):=by rw [List.length_map];have:=hX.len1;omega
  nofun
  refine j_ixL g2 hat ?_
  rw [show e0.d=.tup [.str e0.name,.tup (e0.ps.map D.str),e0.body.d] from rfl]
  have hps:=hX.ps e0 hme
  nofun
  rw [List.length_map]
  refine ⟨ns,sp,i2,_,[.int b2],rfl,g1,hi,by omega,by omega,fun ts i3 hts hz hi3=>?_⟩
  intro tr htr
  have d1:up (up S' sp (.lst [.int i3,.int b2])) tr (.lst (ts.map Tre.d)) pr=some (.lst (prog.map Er.d)):=zaz (zaz g2 n1.symm) (ne3 g2 htr)
  have d2:up (up S' sp (.lst [.int i3,.int b2])) tr (.lst (ts.map Tre.d)) tr=some (.lst (ts.map Tre.d)):=zab
  have d3:up (up S' sp (.lst [.int i3,.int b2])) tr (.lst (ts.map Tre.d)) tb=some (.dic (tabD11 prog)):=zaz (zaz g3 (Ne.symm q4)) (ne3 g3 htr)
  generalize up (up S' sp (.lst [.int i3,.int b2])) tr (.lst (ts.map Tre.d))=S4 at d1 d2 d3 ⊢
  have hs:∀t∈ts,Sz t:=fun t ht=>Nat.le_trans (hz t ht) (by decide)
  have har:arP prog e0.name=some ts.length:=by rw [zp8 hX.rp.nd hme,hts];rfl
  have ok:Rok prog e0.name ts m:=⟨⟨10000,hX.rp,by omega⟩,by omega,har,hs⟩
  have X0:=zql (prog:=prog) (x:=e0.name) (m:=m) hs
  have hlast:=zon (prog:=prog) (x:=e0.name) (m:=m) hs
  nofun
  intro st hst
  have h1:=zaf (o:=.lst [.int 0,.str "",.int m]) d1 hst
  have h2:=zaf (o:=.lst [.int 0,.str "",.int m]) d2 hst
  have h3:=zaf (o:=.lst [.int 0,.str "",.int m]) d3 hst
  have h5:up S4 st (.lst [.int 0,.str "",.int m]) st=some (.lst [.int 0,.str "",.int m]):=zab
  have m3:pr≠st:=ne3 d1 hst
  have m4:tr≠st:=ne3 d2 hst
  generalize up S4 st (.lst [.int 0,.str "",.int m])=S6 at h1 h2 h3 h5 ⊢
  nofun
  refine ⟨by decide,.inr ⟨.non,.non,e0.name,ts,tr,tb,st,_,prog,[],m,m,rfl,⟨⟨h5⟩,h3,tab11 prog,hX.tw,Nat.zero_le _,by omega,by simp⟩,h2,m4,har,hs,by rw [List.length_nil];omega,fun t be' g' S7 hm7 w7 px7=>?_⟩⟩
  have hm7:Mt (runR prog e0.name ts m) t be' g':=hm7
  have k1:=px7 pr _ m3 h1
  have k2:=px7 tr _ m4 h2
  have k3:=w7.hs
  nofun
  refine j_ifm (fun σ S=>∃x8,σ=[some (.rol (ns.map D.int)),some (.ref sp),some (.ref pr),some (.int m),some (.ref tb),some (.tup [.str e0.name,.tup (e0.ps.map D.str),e0.body.d]),some (.ref tr),some (.ref st),x8,some (endD m (runR prog e0.name ts m)),none,none,none]∧S=S7) (fun n' hn'=>?_) ?_
  · nofun
    cases er:runR prog e0.name ts m with
    | val u b =>
      rw [er] at hm7
      obtain ⟨rfl,rfl,rfl⟩:=hm7
      nofun
      exact hn' _ _ ⟨_,by rw [er];rfl,rfl⟩
    | grown b =>
      rw [er] at hm7
      obtain ⟨rfl,rfl⟩:=hm7
      nofun
      exact hn' _ _ ⟨_,by rw [er];rfl,rfl⟩
    | going b =>
      have hbl:=hlast b er
      rw [er] at hm7
      obtain ⟨rfl,rfl⟩:=hm7
      rw [hbl]
      nofun
      exact hn' _ _ ⟨_,by rw [er];rfl,rfl⟩
  rintro σ S8 ⟨x8,rfl,rfl⟩
  nofun
  intro pk hpk
  have p1:=zaf (o:=.lst (prog.map Er.d)) k1 hpk
  have p2:=zaf (o:=.lst (prog.map Er.d)) k2 hpk
  have p3:up S8 pk (.lst (prog.map Er.d)) pk=some (.lst (prog.map Er.d)):=zab
  generalize up S8 pk (.lst (prog.map Er.d))=S9 at p1 p2 p3 ⊢
  nofun
  intro ph hph
  have r1:=zaf (o:=.lst (ts.map Tre.d)) p1 hph
  have r2:=zaf (o:=.lst (ts.map Tre.d)) p2 hph
  have r3:=zaf (o:=.lst (ts.map Tre.d)) p3 hph
  have r4:up S9 ph (.lst (ts.map Tre.d)) ph=some (.lst (ts.map Tre.d)):=zab
  generalize up S9 ph (.lst (ts.map Tre.d))=S10 at r1 r2 r3 r4 ⊢
  nofun
  refine ⟨pr,tr,prog,e0.name,ts,m,rfl,r1,r2,ok,?_⟩
  nofun
  have hzt:∀u b,runR prog e0.name ts m=.val u b→Sz u:=X0.val
  cases er:runR prog e0.name ts m with
  | val u b =>
    have hz':∀v c,(.val u b:Rs Tre)=.val v c→Sz v:=fun v c e=>hzt v c (er.trans e)
    have hu60:u.size≤60:=hz' u b rfl
    simp only [endD]
    refine zbo ?_
    nofun
    refine zbo ?_
    nofun
    refine ⟨_,rfl,?_⟩
    nofun
    refine zbo ?_
    nofun
    refine ⟨u,60,rfl,by omega,by omega,?_⟩
    nofun
    refine zbo ?_
    nofun
    refine j_endNe (m:=m) (r:=.val u b) hz' ?_
    nofun
    refine ⟨pr,tr,prog,e0.name,ts,m,rfl,r1,r2,ok,?_⟩
    rw [er]
    nofun
    refine j_endNe (m:=m) (r:=.val u b) hz' ?_
    nofun
    refine zdy r1 r3 (fun d hd=>?_) (fun d hd=>?_) (by decide) ?_
    · obtain ⟨e,_,rfl⟩:=List.mem_map.mp hd
      exact e.d_pure
    · obtain ⟨e,he,rfl⟩:=List.mem_map.mp hd
      have:=e.d_deep
      have:=hX.deep e he
      omega
    nofun
    refine zdy r2 r4 (fun d hd=>?_) (fun d hd=>?_) (by decide) rfl
    · obtain ⟨v,_,rfl⟩:=List.mem_map.mp hd
      exact zeb v
    · obtain ⟨v,hv,rfl⟩:=List.mem_map.mp hd
      have:=zhh (hs v hv)
      omega
  | grown b =>
    have hz':∀v c,(.grown b:Rs Tre)=.val v c→Sz v:=fun v c e=>hzt v c (er.trans e)
    simp only [endD]
    refine zbo ?_
    nofun
    refine zbo ?_
    nofun
    refine ⟨_,rfl,?_⟩
    nofun
    refine zbo ?_
    nofun
    refine zbo ?_
    nofun
    refine j_endNe (m:=m) (r:=.grown b) hz' ?_
    nofun
    refine ⟨pr,tr,prog,e0.name,ts,m,rfl,r1,r2,ok,?_⟩
    rw [er]
    nofun
    refine j_endNe (m:=m) (r:=.grown b) hz' ?_
    nofun
    refine zdy r1 r3 (fun d hd=>?_) (fun d hd=>?_) (by decide) ?_
    · obtain ⟨e,_,rfl⟩:=List.mem_map.mp hd
      exact e.d_pure
    · obtain ⟨e,he,rfl⟩:=List.mem_map.mp hd
      have:=e.d_deep
      have:=hX.deep e he
      omega
    nofun
    refine zdy r2 r4 (fun d hd=>?_) (fun d hd=>?_) (by decide) rfl
    · obtain ⟨v,_,rfl⟩:=List.mem_map.mp hd
      exact zeb v
    · obtain ⟨v,hv,rfl⟩:=List.mem_map.mp hd
      have:=zhh (hs v hv)
      omega
  | going b =>
    have hz':∀v c,(.going b:Rs Tre)=.val v c→Sz v:=fun v c e=>hzt v c (er.trans e)
    simp only [endD]
    refine zbo ?_
    nofun
    refine zbo ?_
    nofun
    refine ⟨_,rfl,?_⟩
    nofun
    refine zbo ?_
    nofun
    refine zbo ?_
    nofun
    refine j_endNe (m:=m) (r:=.going b) hz' ?_
    nofun
    refine ⟨pr,tr,prog,e0.name,ts,m,rfl,r1,r2,ok,?_⟩
    rw [er]
    nofun
    refine j_endNe (m:=m) (r:=.going b) hz' ?_
    nofun
    refine zdy r1 r3 (fun d hd=>?_) (fun d hd=>?_) (by decide) ?_
    · obtain ⟨e,_,rfl⟩:=List.mem_map.mp hd
      exact e.d_pure
    · obtain ⟨e,he,rfl⟩:=List.mem_map.mp hd
      have:=e.d_deep
      have:=hX.deep e he
      omega
    nofun
    refine zdy r2 r4 (fun d hd=>?_) (fun d hd=>?_) (by decide) rfl
    · obtain ⟨v,_,rfl⟩:=List.mem_map.mp hd
      exact zeb v
    · obtain ⟨v,hv,rfl⟩:=List.mem_map.mp hd
      have:=zhh (hs v hv)
      omega
end
theorem all_mk {l:PySem.W.OpenLaw} {w:World} {K:PySem.W.Frag} {h:Heap} {mg:Str→Option Value} {fa f_in_order f_parts f_refuse_missing f_refuse_miscounted f_size f_run f_ended_run f_numbered_bodies f_count_sends f_numbered f_needed_parts f_side f_cell_at f_names f_next f_saying f_drawn f_path f_arg f_send f_body f_program f_tree_by f_count f_trees f_is_tree f_whole f_worked f_entered f_R_init f_R_begin f_R_go_on f_R_prepare f_R_finish f_R_taken f_R_choose f_R_join_pair f_R_parameter f_law:Addr}
    (X:K.In h) (G:h.Ns mainGlobals mg) (hfa:mg "law"=some (.ref fa))
    {od_in_order an_in_order od_parts an_parts od_refuse_missing an_refuse_missing od_refuse_miscounted an_refuse_miscounted od_size an_size od_run an_run od_ended_run an_ended_run od_numbered_bodies an_numbered_bodies od_count_sends an_count_sends od_numbered an_numbered od_needed_parts an_needed_parts od_side an_side od_cell_at an_cell_at od_names an_names od_next an_next od_saying an_saying od_drawn an_drawn od_path an_path od_arg an_arg od_send an_send od_body an_body od_program an_program od_tree_by an_tree_by od_count an_count od_trees an_trees od_is_tree an_is_tree od_whole an_whole od_worked an_worked od_entered an_entered od_R_init an_R_init od_R_begin an_R_begin od_R_go_on an_R_go_on od_R_prepare an_R_prepare od_R_finish an_R_finish od_R_taken an_R_taken od_R_choose an_R_choose od_R_join_pair an_R_join_pair od_R_parameter an_R_parameter od_law an_law:Option Addr}
    {sl_in_order sl_parts sl_refuse_missing sl_refuse_miscounted sl_size sl_run sl_ended_run sl_numbered_bodies sl_count_sends sl_numbered sl_needed_parts sl_side sl_cell_at sl_names sl_next sl_saying sl_drawn sl_path sl_arg sl_send sl_body sl_program sl_tree_by sl_count sl_trees sl_is_tree sl_whole sl_worked sl_entered sl_R_init sl_R_begin sl_R_go_on sl_R_prepare sl_R_finish sl_R_taken sl_R_choose sl_R_join_pair sl_R_parameter sl_law:Array (Option Value)}
    {oc_in_order kV_in_order dc_in_order pm_in_order cd_in_order ct_in_order oc_parts kV_parts dc_parts pm_parts cd_parts ct_parts oc_refuse_missing kV_refuse_missing dc_refuse_missing pm_refuse_missing cd_refuse_missing ct_refuse_missing oc_refuse_miscounted kV_refuse_miscounted dc_refuse_miscounted pm_refuse_miscounted cd_refuse_miscounted ct_refuse_miscounted oc_size kV_size dc_size pm_size cd_size ct_size oc_run kV_run dc_run pm_run cd_run ct_run oc_ended_run kV_ended_run dc_ended_run pm_ended_run cd_ended_run ct_ended_run oc_numbered_bodies kV_numbered_bodies dc_numbered_bodies pm_numbered_bodies cd_numbered_bodies ct_numbered_bodies oc_count_sends kV_count_sends dc_count_sends pm_count_sends cd_count_sends ct_count_sends oc_numbered kV_numbered dc_numbered pm_numbered cd_numbered ct_numbered oc_needed_parts kV_needed_parts dc_needed_parts pm_needed_parts cd_needed_parts ct_needed_parts oc_side kV_side dc_side pm_side cd_side ct_side oc_cell_at kV_cell_at dc_cell_at pm_cell_at cd_cell_at ct_cell_at oc_names kV_names dc_names pm_names cd_names ct_names oc_next kV_next dc_next pm_next cd_next ct_next oc_saying kV_saying dc_saying pm_saying cd_saying ct_saying oc_drawn kV_drawn dc_drawn pm_drawn cd_drawn ct_drawn oc_path kV_path dc_path pm_path cd_path ct_path oc_arg kV_arg dc_arg pm_arg cd_arg ct_arg oc_send kV_send dc_send pm_send cd_send ct_send oc_body kV_body dc_body pm_body cd_body ct_body oc_program kV_program dc_program pm_program cd_program ct_program oc_tree_by kV_tree_by dc_tree_by pm_tree_by cd_tree_by ct_tree_by oc_count kV_count dc_count pm_count cd_count ct_count oc_trees kV_trees dc_trees pm_trees cd_trees ct_trees oc_is_tree kV_is_tree dc_is_tree pm_is_tree cd_is_tree ct_is_tree oc_whole kV_whole dc_whole pm_whole cd_whole ct_whole oc_worked kV_worked dc_worked pm_worked cd_worked ct_worked oc_entered kV_entered dc_entered pm_entered cd_entered ct_entered oc_R_init kV_R_init dc_R_init pm_R_init cd_R_init ct_R_init oc_R_begin kV_R_begin dc_R_begin pm_R_begin cd_R_begin ct_R_begin oc_R_go_on kV_R_go_on dc_R_go_on pm_R_go_on cd_R_go_on ct_R_go_on oc_R_prepare kV_R_prepare dc_R_prepare pm_R_prepare cd_R_prepare ct_R_prepare oc_R_finish kV_R_finish dc_R_finish pm_R_finish cd_R_finish ct_R_finish oc_R_taken kV_R_taken dc_R_taken pm_R_taken cd_R_taken ct_R_taken oc_R_choose kV_R_choose dc_R_choose pm_R_choose cd_R_choose ct_R_choose oc_R_join_pair kV_R_join_pair dc_R_join_pair pm_R_join_pair cd_R_join_pair ct_R_join_pair oc_R_parameter kV_R_parameter dc_R_parameter pm_R_parameter cd_R_parameter ct_R_parameter oc_law kV_law dc_law pm_law cd_law ct_law:Value}
    {tk_MOST_PAIRS:Tok}
    {CR:Addr}
    (aC:PySem.W.nsIn K mainGlobals "Run"=some (some (.ref CR)))
    (a_in_order:PySem.W.nsIn K mainGlobals "in_order"=some (some (.ref f_in_order)))
    (l_in_order:K.lookup f_in_order=some ⟨oc_in_order,od_in_order,.func (PySem.W.fnOf "in_order" "in_order" (defArgs zck) (defBody zck) (defScope zck) .none kV_in_order dc_in_order pm_in_order an_in_order cd_in_order ct_in_order),sl_in_order⟩)
    (c_in_order:PySem.W.codeIn K cd_in_order "in_order"=true) (k_in_order:PySem.W.keepIn K (.ref f_in_order)=true)
    (a_parts:PySem.W.nsIn K mainGlobals "parts"=some (some (.ref f_parts)))
    (l_parts:K.lookup f_parts=some ⟨oc_parts,od_parts,.func (PySem.W.fnOf "parts" "parts" (defArgs zet) (defBody zet) (defScope zet) .none kV_parts dc_parts pm_parts an_parts cd_parts ct_parts),sl_parts⟩)
    (c_parts:PySem.W.codeIn K cd_parts "parts"=true) (k_parts:PySem.W.keepIn K (.ref f_parts)=true)
    (a_refuse_missing:PySem.W.nsIn K mainGlobals "refuse_missing"=some (some (.ref f_refuse_missing)))
    (l_refuse_missing:K.lookup f_refuse_missing=some ⟨oc_refuse_missing,od_refuse_missing,.func (PySem.W.fnOf "refuse_missing" "refuse_missing" (defArgs zbb) (defBody zbb) (defScope zbb) .none kV_refuse_missing dc_refuse_missing pm_refuse_missing an_refuse_missing cd_refuse_missing ct_refuse_missing),sl_refuse_missing⟩)
    (c_refuse_missing:PySem.W.codeIn K cd_refuse_missing "refuse_missing"=true) (k_refuse_missing:PySem.W.keepIn K (.ref f_refuse_missing)=true)
    (a_refuse_miscounted:PySem.W.nsIn K mainGlobals "refuse_miscounted"=some (some (.ref f_refuse_miscounted)))
    (l_refuse_miscounted:K.lookup f_refuse_miscounted=some ⟨oc_refuse_miscounted,od_refuse_miscounted,.func (PySem.W.fnOf "refuse_miscounted" "refuse_miscounted" (defArgs zaw) (defBody zaw) (defScope zaw) .none kV_refuse_miscounted dc_refuse_miscounted pm_refuse_miscounted an_refuse_miscounted cd_refuse_miscounted ct_refuse_miscounted),sl_refuse_miscounted⟩)
    (c_refuse_miscounted:PySem.W.codeIn K cd_refuse_miscounted "refuse_miscounted"=true) (k_refuse_miscounted:PySem.W.keepIn K (.ref f_refuse_miscounted)=true)
    (a_size:PySem.W.nsIn K mainGlobals "size"=some (some (.ref f_size)))
    (l_size:K.lookup f_size=some ⟨oc_size,od_size,.func (PySem.W.fnOf "size" "size" (defArgs zg0) (defBody zg0) (defScope zg0) .none kV_size dc_size pm_size an_size cd_size ct_size),sl_size⟩)
    (c_size:PySem.W.codeIn K cd_size "size"=true) (k_size:PySem.W.keepIn K (.ref f_size)=true)
    (a_run:PySem.W.nsIn K mainGlobals "run"=some (some (.ref f_run)))
    (l_run:K.lookup f_run=some ⟨oc_run,od_run,.func (PySem.W.fnOf "run" "run" (defArgs zky) (defBody zky) (defScope zky) .none kV_run dc_run pm_run an_run cd_run ct_run),sl_run⟩)
    (c_run:PySem.W.codeIn K cd_run "run"=true) (k_run:PySem.W.keepIn K (.ref f_run)=true)
    (a_ended_run:PySem.W.nsIn K mainGlobals "ended_run"=some (some (.ref f_ended_run)))
    (l_ended_run:K.lookup f_ended_run=some ⟨oc_ended_run,od_ended_run,.func (PySem.W.fnOf "ended_run" "ended_run" (defArgs zb0) (defBody zb0) (defScope zb0) .none kV_ended_run dc_ended_run pm_ended_run an_ended_run cd_ended_run ct_ended_run),sl_ended_run⟩)
    (c_ended_run:PySem.W.codeIn K cd_ended_run "ended_run"=true) (k_ended_run:PySem.W.keepIn K (.ref f_ended_run)=true)
    (a_numbered_bodies:PySem.W.nsIn K mainGlobals "numbered_bodies"=some (some (.ref f_numbered_bodies)))
    (l_numbered_bodies:K.lookup f_numbered_bodies=some ⟨oc_numbered_bodies,od_numbered_bodies,.func (PySem.W.fnOf "numbered_bodies" "numbered_bodies" (defArgs za7) (defBody za7) (defScope za7) .none kV_numbered_bodies dc_numbered_bodies pm_numbered_bodies an_numbered_bodies cd_numbered_bodies ct_numbered_bodies),sl_numbered_bodies⟩)
    (c_numbered_bodies:PySem.W.codeIn K cd_numbered_bodies "numbered_bodies"=true) (k_numbered_bodies:PySem.W.keepIn K (.ref f_numbered_bodies)=true)
    (a_count_sends:PySem.W.nsIn K mainGlobals "count_sends"=some (some (.ref f_count_sends)))
    (l_count_sends:K.lookup f_count_sends=some ⟨oc_count_sends,od_count_sends,.func (PySem.W.fnOf "count_sends" "count_sends" (defArgs zbl) (defBody zbl) (defScope zbl) .none kV_count_sends dc_count_sends pm_count_sends an_count_sends cd_count_sends ct_count_sends),sl_count_sends⟩)
    (c_count_sends:PySem.W.codeIn K cd_count_sends "count_sends"=true) (k_count_sends:PySem.W.keepIn K (.ref f_count_sends)=true)
    (a_numbered:PySem.W.nsIn K mainGlobals "numbered"=some (some (.ref f_numbered)))
    (l_numbered:K.lookup f_numbered=some ⟨oc_numbered,od_numbered,.func (PySem.W.fnOf "numbered" "numbered" (defArgs zb8) (defBody zb8) (defScope zb8) .none kV_numbered dc_numbered pm_numbered an_numbered cd_numbered ct_numbered),sl_numbered⟩)
    (c_numbered:PySem.W.codeIn K cd_numbered "numbered"=true) (k_numbered:PySem.W.keepIn K (.ref f_numbered)=true)
    (a_needed_parts:PySem.W.nsIn K mainGlobals "needed_parts"=some (some (.ref f_needed_parts)))
    (l_needed_parts:K.lookup f_needed_parts=some ⟨oc_needed_parts,od_needed_parts,.func (PySem.W.fnOf "needed_parts" "needed_parts" (defArgs zbq) (defBody zbq) (defScope zbq) .none kV_needed_parts dc_needed_parts pm_needed_parts an_needed_parts cd_needed_parts ct_needed_parts),sl_needed_parts⟩)
    (c_needed_parts:PySem.W.codeIn K cd_needed_parts "needed_parts"=true) (k_needed_parts:PySem.W.keepIn K (.ref f_needed_parts)=true)
    (a_side:PySem.W.nsIn K mainGlobals "side"=some (some (.ref f_side)))
    (l_side:K.lookup f_side=some ⟨oc_side,od_side,.func (PySem.W.fnOf "side" "side" (defArgs zg1) (defBody zg1) (defScope zg1) .none kV_side dc_side pm_side an_side cd_side ct_side),sl_side⟩)
    (c_side:PySem.W.codeIn K cd_side "side"=true) (k_side:PySem.W.keepIn K (.ref f_side)=true)
    (a_cell_at:PySem.W.nsIn K mainGlobals "_law_cell_at"=some (some (.ref f_cell_at)))
    (l_cell_at:K.lookup f_cell_at=some ⟨oc_cell_at,od_cell_at,.func (PySem.W.fnOf "_law_cell_at" "_law_cell_at" (defArgs zc5) (defBody zc5) (defScope zc5) .none kV_cell_at dc_cell_at pm_cell_at an_cell_at cd_cell_at ct_cell_at),sl_cell_at⟩)
    (c_cell_at:PySem.W.codeIn K cd_cell_at "_law_cell_at"=true) (k_cell_at:PySem.W.keepIn K (.ref f_cell_at)=true)
    (a_names:PySem.W.nsIn K mainGlobals "_law_names"=some (some (.ref f_names)))
    (l_names:K.lookup f_names=some ⟨oc_names,od_names,.func (PySem.W.fnOf "_law_names" "_law_names" (defArgs zdf) (defBody zdf) (defScope zdf) .none kV_names dc_names pm_names an_names cd_names ct_names),sl_names⟩)
    (c_names:PySem.W.codeIn K cd_names "_law_names"=true) (k_names:PySem.W.keepIn K (.ref f_names)=true)
    (a_next:PySem.W.nsIn K mainGlobals "_law_next"=some (some (.ref f_next)))
    (l_next:K.lookup f_next=some ⟨oc_next,od_next,.func (PySem.W.fnOf "_law_next" "_law_next" (defArgs zg3) (defBody zg3) (defScope zg3) .none kV_next dc_next pm_next an_next cd_next ct_next),sl_next⟩)
    (c_next:PySem.W.codeIn K cd_next "_law_next"=true) (k_next:PySem.W.keepIn K (.ref f_next)=true)
    (a_saying:PySem.W.nsIn K mainGlobals "_law_saying"=some (some (.ref f_saying)))
    (l_saying:K.lookup f_saying=some ⟨oc_saying,od_saying,.func (PySem.W.fnOf "_law_saying" "_law_saying" (defArgs zde) (defBody zde) (defScope zde) .none kV_saying dc_saying pm_saying an_saying cd_saying ct_saying),sl_saying⟩)
    (c_saying:PySem.W.codeIn K cd_saying "_law_saying"=true) (k_saying:PySem.W.keepIn K (.ref f_saying)=true)
    (a_drawn:PySem.W.nsIn K mainGlobals "_law_drawn"=some (some (.ref f_drawn)))
    (l_drawn:K.lookup f_drawn=some ⟨oc_drawn,od_drawn,.func (PySem.W.fnOf "_law_drawn" "_law_drawn" (defArgs zd4) (defBody zd4) (defScope zd4) .none kV_drawn dc_drawn pm_drawn an_drawn cd_drawn ct_drawn),sl_drawn⟩)
    (c_drawn:PySem.W.codeIn K cd_drawn "_law_drawn"=true) (k_drawn:PySem.W.keepIn K (.ref f_drawn)=true)
    (a_path:PySem.W.nsIn K mainGlobals "_law_path"=some (some (.ref f_path)))
    (l_path:K.lookup f_path=some ⟨oc_path,od_path,.func (PySem.W.fnOf "_law_path" "_law_path" (defArgs zg2) (defBody zg2) (defScope zg2) .none kV_path dc_path pm_path an_path cd_path ct_path),sl_path⟩)
    (c_path:PySem.W.codeIn K cd_path "_law_path"=true) (k_path:PySem.W.keepIn K (.ref f_path)=true)
    (a_arg:PySem.W.nsIn K mainGlobals "_law_arg"=some (some (.ref f_arg)))
    (l_arg:K.lookup f_arg=some ⟨oc_arg,od_arg,.func (PySem.W.fnOf "_law_arg" "_law_arg" (defArgs zkz) (defBody zkz) (defScope zkz) .none kV_arg dc_arg pm_arg an_arg cd_arg ct_arg),sl_arg⟩)
    (c_arg:PySem.W.codeIn K cd_arg "_law_arg"=true) (k_arg:PySem.W.keepIn K (.ref f_arg)=true)
    (a_send:PySem.W.nsIn K mainGlobals "_law_send"=some (some (.ref f_send)))
    (l_send:K.lookup f_send=some ⟨oc_send,od_send,.func (PySem.W.fnOf "_law_send" "_law_send" (defArgs zfu) (defBody zfu) (defScope zfu) .none kV_send dc_send pm_send an_send cd_send ct_send),sl_send⟩)
    (c_send:PySem.W.codeIn K cd_send "_law_send"=true) (k_send:PySem.W.keepIn K (.ref f_send)=true)
    (a_body:PySem.W.nsIn K mainGlobals "_law_body"=some (some (.ref f_body)))
    (l_body:K.lookup f_body=some ⟨oc_body,od_body,.func (PySem.W.fnOf "_law_body" "_law_body" (defArgs zg5) (defBody zg5) (defScope zg5) .none kV_body dc_body pm_body an_body cd_body ct_body),sl_body⟩)
    (c_body:PySem.W.codeIn K cd_body "_law_body"=true) (k_body:PySem.W.keepIn K (.ref f_body)=true)
    (a_program:PySem.W.nsIn K mainGlobals "_law_program"=some (some (.ref f_program)))
    (l_program:K.lookup f_program=some ⟨oc_program,od_program,.func (PySem.W.fnOf "_law_program" "_law_program" (defArgs zcr) (defBody zcr) (defScope zcr) .none kV_program dc_program pm_program an_program cd_program ct_program),sl_program⟩)
    (c_program:PySem.W.codeIn K cd_program "_law_program"=true) (k_program:PySem.W.keepIn K (.ref f_program)=true)
    (a_tree_by:PySem.W.nsIn K mainGlobals "_law_tree_by"=some (some (.ref f_tree_by)))
    (l_tree_by:K.lookup f_tree_by=some ⟨oc_tree_by,od_tree_by,.func (PySem.W.fnOf "_law_tree_by" "_law_tree_by" (defArgs zc3) (defBody zc3) (defScope zc3) .none kV_tree_by dc_tree_by pm_tree_by an_tree_by cd_tree_by ct_tree_by),sl_tree_by⟩)
    (c_tree_by:PySem.W.codeIn K cd_tree_by "_law_tree_by"=true) (k_tree_by:PySem.W.keepIn K (.ref f_tree_by)=true)
    (a_count:PySem.W.nsIn K mainGlobals "_law_count"=some (some (.ref f_count)))
    (l_count:K.lookup f_count=some ⟨oc_count,od_count,.func (PySem.W.fnOf "_law_count" "_law_count" (defArgs zew) (defBody zew) (defScope zew) .none kV_count dc_count pm_count an_count cd_count ct_count),sl_count⟩)
    (c_count:PySem.W.codeIn K cd_count "_law_count"=true) (k_count:PySem.W.keepIn K (.ref f_count)=true)
    (a_trees:PySem.W.nsIn K mainGlobals "_law_trees"=some (some (.ref f_trees)))
    (l_trees:K.lookup f_trees=some ⟨oc_trees,od_trees,.func (PySem.W.fnOf "_law_trees" "_law_trees" (defArgs zes) (defBody zes) (defScope zes) .none kV_trees dc_trees pm_trees an_trees cd_trees ct_trees),sl_trees⟩)
    (c_trees:PySem.W.codeIn K cd_trees "_law_trees"=true) (k_trees:PySem.W.keepIn K (.ref f_trees)=true)
    (a_is_tree:PySem.W.nsIn K mainGlobals "_law_is_tree"=some (some (.ref f_is_tree)))
    (l_is_tree:K.lookup f_is_tree=some ⟨oc_is_tree,od_is_tree,.func (PySem.W.fnOf "_law_is_tree" "_law_is_tree" (defArgs zc4) (defBody zc4) (defScope zc4) .none kV_is_tree dc_is_tree pm_is_tree an_is_tree cd_is_tree ct_is_tree),sl_is_tree⟩)
    (c_is_tree:PySem.W.codeIn K cd_is_tree "_law_is_tree"=true) (k_is_tree:PySem.W.keepIn K (.ref f_is_tree)=true)
    (a_whole:PySem.W.nsIn K mainGlobals "_law_whole"=some (some (.ref f_whole)))
    (l_whole:K.lookup f_whole=some ⟨oc_whole,od_whole,.func (PySem.W.fnOf "_law_whole" "_law_whole" (defArgs zer) (defBody zer) (defScope zer) .none kV_whole dc_whole pm_whole an_whole cd_whole ct_whole),sl_whole⟩)
    (c_whole:PySem.W.codeIn K cd_whole "_law_whole"=true) (k_whole:PySem.W.keepIn K (.ref f_whole)=true)
    (a_worked:PySem.W.nsIn K mainGlobals "_law_worked"=some (some (.ref f_worked)))
    (l_worked:K.lookup f_worked=some ⟨oc_worked,od_worked,.func (PySem.W.fnOf "_law_worked" "_law_worked" (defArgs zcx) (defBody zcx) (defScope zcx) .none kV_worked dc_worked pm_worked an_worked cd_worked ct_worked),sl_worked⟩)
    (c_worked:PySem.W.codeIn K cd_worked "_law_worked"=true) (k_worked:PySem.W.keepIn K (.ref f_worked)=true)
    (a_entered:PySem.W.nsIn K mainGlobals "_law_entered"=some (some (.ref f_entered)))
    (l_entered:K.lookup f_entered=some ⟨oc_entered,od_entered,.func (PySem.W.fnOf "_law_entered" "_law_entered" (defArgs zcs) (defBody zcs) (defScope zcs) .none kV_entered dc_entered pm_entered an_entered cd_entered ct_entered),sl_entered⟩)
    (c_entered:PySem.W.codeIn K cd_entered "_law_entered"=true) (k_entered:PySem.W.keepIn K (.ref f_entered)=true)
    (a_R_init:PySem.W.findIn K (.ref CR) "__init__"=some (some (.ref f_R_init))) (i_R_init:PySem.W.isFn K (.ref f_R_init)=true)
    (l_R_init:K.lookup f_R_init=some ⟨oc_R_init,od_R_init,.func (PySem.W.fnOf "__init__" "Run.__init__" (defArgs zdw) (defBody zdw) (defScope zdw) .none kV_R_init dc_R_init pm_R_init an_R_init cd_R_init ct_R_init),sl_R_init⟩)
    (c_R_init:PySem.W.codeIn K cd_R_init "Run.__init__"=true) (k_R_init:PySem.W.keepIn K (.ref f_R_init)=true)
    (a_R_begin:PySem.W.findIn K (.ref CR) "begin"=some (some (.ref f_R_begin))) (i_R_begin:PySem.W.isFn K (.ref f_R_begin)=true)
    (l_R_begin:K.lookup f_R_begin=some ⟨oc_R_begin,od_R_begin,.func (PySem.W.fnOf "begin" "Run.begin" (defArgs zc8) (defBody zc8) (defScope zc8) .none kV_R_begin dc_R_begin pm_R_begin an_R_begin cd_R_begin ct_R_begin),sl_R_begin⟩)
    (c_R_begin:PySem.W.codeIn K cd_R_begin "Run.begin"=true) (k_R_begin:PySem.W.keepIn K (.ref f_R_begin)=true)
    (a_R_go_on:PySem.W.findIn K (.ref CR) "go_on"=some (some (.ref f_R_go_on))) (i_R_go_on:PySem.W.isFn K (.ref f_R_go_on)=true)
    (l_R_go_on:K.lookup f_R_go_on=some ⟨oc_R_go_on,od_R_go_on,.func (PySem.W.fnOf "go_on" "Run.go_on" (defArgs zc7) (defBody zc7) (defScope zc7) .none kV_R_go_on dc_R_go_on pm_R_go_on an_R_go_on cd_R_go_on ct_R_go_on),sl_R_go_on⟩)
    (c_R_go_on:PySem.W.codeIn K cd_R_go_on "Run.go_on"=true) (k_R_go_on:PySem.W.keepIn K (.ref f_R_go_on)=true)
    (a_R_prepare:PySem.W.findIn K (.ref CR) "prepare"=some (some (.ref f_R_prepare))) (i_R_prepare:PySem.W.isFn K (.ref f_R_prepare)=true)
    (l_R_prepare:K.lookup f_R_prepare=some ⟨oc_R_prepare,od_R_prepare,.func (PySem.W.fnOf "prepare" "Run.prepare" (defArgs zb9) (defBody zb9) (defScope zb9) .none kV_R_prepare dc_R_prepare pm_R_prepare an_R_prepare cd_R_prepare ct_R_prepare),sl_R_prepare⟩)
    (c_R_prepare:PySem.W.codeIn K cd_R_prepare "Run.prepare"=true) (k_R_prepare:PySem.W.keepIn K (.ref f_R_prepare)=true)
    (a_R_finish:PySem.W.findIn K (.ref CR) "finish"=some (some (.ref f_R_finish))) (i_R_finish:PySem.W.isFn K (.ref f_R_finish)=true)
    (l_R_finish:K.lookup f_R_finish=some ⟨oc_R_finish,od_R_finish,.func (PySem.W.fnOf "finish" "Run.finish" (defArgs zcl) (defBody zcl) (defScope zcl) .none kV_R_finish dc_R_finish pm_R_finish an_R_finish cd_R_finish ct_R_finish),sl_R_finish⟩)
    (c_R_finish:PySem.W.codeIn K cd_R_finish "Run.finish"=true) (k_R_finish:PySem.W.keepIn K (.ref f_R_finish)=true)
    (a_R_taken:PySem.W.findIn K (.ref CR) "taken"=some (some (.ref f_R_taken))) (i_R_taken:PySem.W.isFn K (.ref f_R_taken)=true)
    (l_R_taken:K.lookup f_R_taken=some ⟨oc_R_taken,od_R_taken,.func (PySem.W.fnOf "taken" "Run.taken" (defArgs zc6) (defBody zc6) (defScope zc6) .none kV_R_taken dc_R_taken pm_R_taken an_R_taken cd_R_taken ct_R_taken),sl_R_taken⟩)
    (c_R_taken:PySem.W.codeIn K cd_R_taken "Run.taken"=true) (k_R_taken:PySem.W.keepIn K (.ref f_R_taken)=true)
    (a_R_choose:PySem.W.findIn K (.ref CR) "choose"=some (some (.ref f_R_choose))) (i_R_choose:PySem.W.isFn K (.ref f_R_choose)=true)
    (l_R_choose:K.lookup f_R_choose=some ⟨oc_R_choose,od_R_choose,.func (PySem.W.fnOf "choose" "Run.choose" (defArgs zcm) (defBody zcm) (defScope zcm) .none kV_R_choose dc_R_choose pm_R_choose an_R_choose cd_R_choose ct_R_choose),sl_R_choose⟩)
    (c_R_choose:PySem.W.codeIn K cd_R_choose "Run.choose"=true) (k_R_choose:PySem.W.keepIn K (.ref f_R_choose)=true)
    (a_R_join_pair:PySem.W.findIn K (.ref CR) "join_pair"=some (some (.ref f_R_join_pair))) (i_R_join_pair:PySem.W.isFn K (.ref f_R_join_pair)=true)
    (l_R_join_pair:K.lookup f_R_join_pair=some ⟨oc_R_join_pair,od_R_join_pair,.func (PySem.W.fnOf "join_pair" "Run.join_pair" (defArgs zbu) (defBody zbu) (defScope zbu) .none kV_R_join_pair dc_R_join_pair pm_R_join_pair an_R_join_pair cd_R_join_pair ct_R_join_pair),sl_R_join_pair⟩)
    (c_R_join_pair:PySem.W.codeIn K cd_R_join_pair "Run.join_pair"=true) (k_R_join_pair:PySem.W.keepIn K (.ref f_R_join_pair)=true)
    (a_R_parameter:PySem.W.findIn K (.ref CR) "parameter"=some (some (.ref f_R_parameter))) (i_R_parameter:PySem.W.isFn K (.ref f_R_parameter)=true)
    (l_R_parameter:K.lookup f_R_parameter=some ⟨oc_R_parameter,od_R_parameter,.func (PySem.W.fnOf "parameter" "Run.parameter" (defArgs zbt) (defBody zbt) (defScope zbt) .none kV_R_parameter dc_R_parameter pm_R_parameter an_R_parameter cd_R_parameter ct_R_parameter),sl_R_parameter⟩)
    (c_R_parameter:PySem.W.codeIn K cd_R_parameter "Run.parameter"=true) (k_R_parameter:PySem.W.keepIn K (.ref f_R_parameter)=true)
    (a_law:PySem.W.nsIn K mainGlobals "law"=some (some (.ref f_law)))
    (l_law:K.lookup f_law=some ⟨oc_law,od_law,.func (PySem.W.fnOf "law" "law" (defArgs zht) (defBody zht) (defScope zht) .none kV_law dc_law pm_law an_law cd_law ct_law),sl_law⟩)
    (c_law:PySem.W.codeIn K cd_law "law"=true) (k_law:PySem.W.keepIn K (.ref f_law)=true)
    (z_len:PySem.W.nsIn K mainGlobals "len"=some none)
    (z_range:PySem.W.nsIn K mainGlobals "range"=some none)
    (z_isinstance:PySem.W.nsIn K mainGlobals "isinstance"=some none)
    (z_int:PySem.W.nsIn K mainGlobals "int"=some none)
    (z_bool:PySem.W.nsIn K mainGlobals "bool"=some none)
    (z_str:PySem.W.nsIn K mainGlobals "str"=some none)
    (z_tuple:PySem.W.nsIn K mainGlobals "tuple"=some none)
    (z_dict:PySem.W.nsIn K mainGlobals "dict"=some none)
    (z_list:PySem.W.nsIn K mainGlobals "list"=some none)
    (z_reversed:PySem.W.nsIn K mainGlobals "reversed"=some none)
    (z_zip:PySem.W.nsIn K mainGlobals "zip"=some none)
    (z_MOST_PAIRS:PySem.W.nsIn K mainGlobals "MOST_PAIRS"=some (some (.int 60 tk_MOST_PAIRS)))
    (pgC:PySem.W.plainGet K CR Str.empty=true) (hdC:PySem.W.hasDictIn K CR=true) (poC:PySem.W.plainOver K CR=true) (saC:PySem.W.findIn K (.ref CR) "__setattr__"=some (some (.builtin "object.__setattr__"))) (mkC:PySem.W.makesIn K CR=true) (kcC:PySem.W.keepIn K (.ref CR)=true)
    (n_params:PySem.W.findIn K (.ref CR) "params"=some none)
    (n_bodies:PySem.W.findIn K (.ref CR) "bodies"=some none)
    (n_most:PySem.W.findIn K (.ref CR) "most"=some none)
    (n_begun:PySem.W.findIn K (.ref CR) "begun"=some none)
    (n_pending:PySem.W.findIn K (.ref CR) "pending"=some none)
    (n_waiting:PySem.W.findIn K (.ref CR) "waiting"=some none)
    (n_ending:PySem.W.findIn K (.ref CR) "ending"=some none) :
    ∃fd:FuncData,(∀(s:Shared) (v:Value),BindsTo s fd ⟨[v],[]⟩ [("script",v)])∧∀base:Heap,K.In base→base.Ns mainGlobals mg→FnOk l.prog w K mg base (CX1 l.prog w) 231 fa fd ["script"] (lSp K lawS):=show _ by
  have e:=hfa.symm.trans (PySem.W.mg_of X G a_law)
  cases e
  have H_in_order:Has K mg "in_order" zck ["body"]:=zbf X G a_in_order l_in_order c_in_order k_in_order fun _ _ _ _ _ _ us hl=>by obtain ⟨_,rfl⟩:=ln1 hl;rfl
  have H_parts:Has K mg "parts" zet ["saying"]:=zbf X G a_parts l_parts c_parts k_parts fun _ _ _ _ _ _ us hl=>by obtain ⟨_,rfl⟩:=ln1 hl;rfl
  have H_refuse_missing:Has K mg "refuse_missing" zbb ["name","known"]:=zbf X G a_refuse_missing l_refuse_missing c_refuse_missing k_refuse_missing fun _ _ _ _ _ _ us hl=>by obtain ⟨_,_,rfl⟩:=ln2 hl;rfl
  have H_refuse_miscounted:Has K mg "refuse_miscounted" zaw ["name","row","needed"]:=zbf X G a_refuse_miscounted l_refuse_miscounted c_refuse_miscounted k_refuse_miscounted fun _ _ _ _ _ _ us hl=>by obtain ⟨_,_,_,rfl⟩:=ln3 hl;rfl
  have H_size:Has K mg "size" zg0 ["tree"]:=zbf X G a_size l_size c_size k_size fun _ _ _ _ _ _ us hl=>by obtain ⟨_,rfl⟩:=ln1 hl;rfl
  have H_run:Has K mg "run" zky ["program","name","trees","most"]:=zbf X G a_run l_run c_run k_run fun _ _ _ _ _ _ us hl=>by obtain ⟨_,_,_,_,rfl⟩:=ln4 hl;rfl
  have H_ended_run:Has K mg "ended_run" zb0 ["program","name","trees","most"]:=zbf X G a_ended_run l_ended_run c_ended_run k_ended_run fun _ _ _ _ _ _ us hl=>by obtain ⟨_,_,_,_,rfl⟩:=ln4 hl;rfl
  have H_numbered_bodies:Has K mg "numbered_bodies" za7 ["program"]:=zbf X G a_numbered_bodies l_numbered_bodies c_numbered_bodies k_numbered_bodies fun _ _ _ _ _ _ us hl=>by obtain ⟨_,rfl⟩:=ln1 hl;rfl
  have H_count_sends:Has K mg "count_sends" zbl ["order"]:=zbf X G a_count_sends l_count_sends c_count_sends k_count_sends fun _ _ _ _ _ _ us hl=>by obtain ⟨_,rfl⟩:=ln1 hl;rfl
  have H_numbered:Has K mg "numbered" zb8 ["order","number"]:=zbf X G a_numbered l_numbered c_numbered k_numbered fun _ _ _ _ _ _ us hl=>by obtain ⟨_,_,rfl⟩:=ln2 hl;rfl
  have H_needed_parts:Has K mg "needed_parts" zbq ["saying"]:=zbf X G a_needed_parts l_needed_parts c_needed_parts k_needed_parts fun _ _ _ _ _ _ us hl=>by obtain ⟨_,rfl⟩:=ln1 hl;rfl
  have H_side:Has K mg "side" zg1 ["kind","tree"]:=zbf X G a_side l_side c_side k_side fun _ _ _ _ _ _ us hl=>by obtain ⟨_,_,rfl⟩:=ln2 hl;rfl
  have H_cell_at:Has K mg "_law_cell_at" zc5 ["script","k"]:=zbf X G a_cell_at l_cell_at c_cell_at k_cell_at fun _ _ _ _ _ _ us hl=>by obtain ⟨_,_,rfl⟩:=ln2 hl;rfl
  have H_names:Has K mg "_law_names" zdf ["cell","many"]:=zbf X G a_names l_names c_names k_names fun _ _ _ _ _ _ us hl=>by obtain ⟨_,_,rfl⟩:=ln2 hl;rfl
  have H_next:Has K mg "_law_next" zg3 ["script","spot"]:=zbf X G a_next l_next c_next k_next fun _ _ _ _ _ _ us hl=>by obtain ⟨_,_,rfl⟩:=ln2 hl;rfl
  have H_saying:Has K mg "_law_saying" zde ["script","spot","names","counts","params","deep"]:=zbf X G a_saying l_saying c_saying k_saying fun _ _ _ _ _ _ us hl=>by obtain ⟨_,_,_,_,_,_,rfl⟩:=ln6 hl;rfl
  have H_drawn:Has K mg "_law_drawn" zd4 ["script","spot","most","deep"]:=zbf X G a_drawn l_drawn c_drawn k_drawn fun _ _ _ _ _ _ us hl=>by obtain ⟨_,_,_,_,rfl⟩:=ln4 hl;rfl
  have H_path:Has K mg "_law_path" zg2 ["cell","params"]:=zbf X G a_path l_path c_path k_path fun _ _ _ _ _ _ us hl=>by obtain ⟨_,_,rfl⟩:=ln2 hl;rfl
  have H_arg:Has K mg "_law_arg" zkz ["cell","params"]:=zbf X G a_arg l_arg c_arg k_arg fun _ _ _ _ _ _ us hl=>by obtain ⟨_,_,rfl⟩:=ln2 hl;rfl
  have H_send:Has K mg "_law_send" zfu ["script","spot","names","counts","params"]:=zbf X G a_send l_send c_send k_send fun _ _ _ _ _ _ us hl=>by obtain ⟨_,_,_,_,_,rfl⟩:=ln5 hl;rfl
  have H_body:Has K mg "_law_body" zg5 ["script","spot","names","counts","params"]:=zbf X G a_body l_body c_body k_body fun _ _ _ _ _ _ us hl=>by obtain ⟨_,_,_,_,_,rfl⟩:=ln5 hl;rfl
  have H_program:Has K mg "_law_program" zcr ["script","spot","most"]:=zbf X G a_program l_program c_program k_program fun _ _ _ _ _ _ us hl=>by obtain ⟨_,_,_,rfl⟩:=ln3 hl;rfl
  have H_tree_by:Has K mg "_law_tree_by" zc3 ["cell","room"]:=zbf X G a_tree_by l_tree_by c_tree_by k_tree_by fun _ _ _ _ _ _ us hl=>by obtain ⟨_,_,rfl⟩:=ln2 hl;rfl
  have H_count:Has K mg "_law_count" zew ["tree"]:=zbf X G a_count l_count c_count k_count fun _ _ _ _ _ _ us hl=>by obtain ⟨_,rfl⟩:=ln1 hl;rfl
  have H_trees:Has K mg "_law_trees" zes ["script","spot","many"]:=zbf X G a_trees l_trees c_trees k_trees fun _ _ _ _ _ _ us hl=>by obtain ⟨_,_,_,rfl⟩:=ln3 hl;rfl
  have H_is_tree:Has K mg "_law_is_tree" zc4 ["found","room"]:=zbf X G a_is_tree l_is_tree c_is_tree k_is_tree fun _ _ _ _ _ _ us hl=>by obtain ⟨_,_,rfl⟩:=ln2 hl;rfl
  have H_whole:Has K mg "_law_whole" zer ["found"]:=zbf X G a_whole l_whole c_whole k_whole fun _ _ _ _ _ _ us hl=>by obtain ⟨_,rfl⟩:=ln1 hl;rfl
  have H_worked:Has K mg "_law_worked" zcx ["saying","trees","table","state"]:=zbf X G a_worked l_worked c_worked k_worked fun _ _ _ _ _ _ us hl=>by obtain ⟨_,_,_,_,rfl⟩:=ln4 hl;rfl
  have H_entered:Has K mg "_law_entered" zcs ["name","row","table","state"]:=zbf X G a_entered l_entered c_entered k_entered fun _ _ _ _ _ _ us hl=>by obtain ⟨_,_,_,_,rfl⟩:=ln4 hl;rfl
  have H_R_init:HasM K CR "__init__" "Run.__init__" zdw ["self","params","bodies","most"]:=zdi a_R_init i_R_init l_R_init c_R_init k_R_init fun _ _ _ _ _ _ us hl=>by obtain ⟨_,_,_,_,rfl⟩:=ln4 hl;rfl
  have H_R_begin:HasM K CR "begin" "Run.begin" zc8 ["self","parent","number","name","trees"]:=zdi a_R_begin i_R_begin l_R_begin c_R_begin k_R_begin fun _ _ _ _ _ _ us hl=>by obtain ⟨_,_,_,_,_,rfl⟩:=ln5 hl;rfl
  have H_R_go_on:HasM K CR "go_on" "Run.go_on" zc7 ["self"]:=zdi a_R_go_on i_R_go_on l_R_go_on c_R_go_on k_R_go_on fun _ _ _ _ _ _ us hl=>by obtain ⟨_,rfl⟩:=ln1 hl;rfl
  have H_R_prepare:HasM K CR "prepare" "Run.prepare" zb9 ["self","saying","place"]:=zdi a_R_prepare i_R_prepare l_R_prepare c_R_prepare k_R_prepare fun _ _ _ _ _ _ us hl=>by obtain ⟨_,_,_,rfl⟩:=ln3 hl;rfl
  have H_R_finish:HasM K CR "finish" "Run.finish" zcl ["self","saying","place"]:=zdi a_R_finish i_R_finish l_R_finish c_R_finish k_R_finish fun _ _ _ _ _ _ us hl=>by obtain ⟨_,_,_,rfl⟩:=ln3 hl;rfl
  have H_R_taken:HasM K CR "taken" "Run.taken" zc6 ["self","many"]:=zdi a_R_taken i_R_taken l_R_taken c_R_taken k_R_taken fun _ _ _ _ _ _ us hl=>by obtain ⟨_,_,rfl⟩:=ln2 hl;rfl
  have H_R_choose:HasM K CR "choose" "Run.choose" zcm ["self","fork","place"]:=zdi a_R_choose i_R_choose l_R_choose c_R_choose k_R_choose fun _ _ _ _ _ _ us hl=>by obtain ⟨_,_,_,rfl⟩:=ln3 hl;rfl
  have H_R_join_pair:HasM K CR "join_pair" "Run.join_pair" zbu ["self"]:=zdi a_R_join_pair i_R_join_pair l_R_join_pair c_R_join_pair k_R_join_pair fun _ _ _ _ _ _ us hl=>by obtain ⟨_,rfl⟩:=ln1 hl;rfl
  have H_R_parameter:HasM K CR "parameter" "Run.parameter" zbt ["self","name","place"]:=zdi a_R_parameter i_R_parameter l_R_parameter c_R_parameter k_R_parameter fun _ _ _ _ _ _ us hl=>by obtain ⟨_,_,_,rfl⟩:=ln3 hl;rfl
  have Gx:Gs K mg:=⟨PySem.W.mg_none_of X G z_len,PySem.W.mg_none_of X G z_range,PySem.W.mg_none_of X G z_isinstance,PySem.W.mg_none_of X G z_int,PySem.W.mg_none_of X G z_bool,PySem.W.mg_none_of X G z_str,PySem.W.mg_none_of X G z_tuple,PySem.W.mg_none_of X G z_dict,PySem.W.mg_none_of X G z_list,PySem.W.mg_none_of X G z_reversed,PySem.W.mg_none_of X G z_zip,⟨_,PySem.W.mg_of X G z_MOST_PAIRS⟩⟩
  have Tx:RunT K mg CR:=⟨⟨pgC,hdC,poC,saC⟩,mkC,kcC,PySem.W.mg_of X G aC,n_params,n_bodies,n_most,n_begun,n_pending,n_waiting,n_ending⟩
  have F_law:=znk (st:=zht) l_law c_law k_law
  refine ⟨PySem.W.fnOf "law" "law" (defArgs zht) (defBody zht) (defScope zht) .none kV_law dc_law pm_law an_law cd_law ct_law,fun s v=>.of_eq rfl,fun base _ _=>?_⟩
  have C_cell_at:=zk9 (P:=l.prog) (w:=w) (base:=base) (k:=0) H_cell_at Gx
  have C_next:=zrc (P:=l.prog) (w:=w) (base:=base) (k:=1) H_next C_cell_at
  have C_names:=zpa (P:=l.prog) (w:=w) (base:=base) (k:=0) H_names Gx
  have C_tree_by:=zk5 (P:=l.prog) (w:=w) (base:=base) (k:=0) H_tree_by Gx
  have C_trees:=zo8 (k:=2) H_trees Gx C_next (C_tree_by.mono (by decide))
  have C_path:=zrb (P:=l.prog) (w:=w) (base:=base) (k:=0) H_path Gx
  have C_arg:=ok_arg (k:=1) H_arg C_path
  have C_send:=zra (k:=2) H_send Gx C_next C_arg
  have C_body:=zrd (k:=3) H_body Gx (C_next.mono (by decide)) (C_arg.mono (by decide)) (C_path.mono (by decide)) C_send
  have C_program:=zk6 (k:=4) H_program Gx (C_next.mono (by decide)) (C_names.mono (by decide)) C_body
  have C_partsD:=zo9 (P:=l.prog) (w:=w) (base:=base) (k:=0) H_parts Gx
  have C_in_order:=zji (P:=l.prog) (w:=w) (base:=base) (k:=1) H_in_order Gx (zj8 C_partsD)
  have C_count_sends:=zgn (P:=l.prog) (w:=w) (base:=base) (k:=0) H_count_sends Gx
  have C_numbered:=zjh (P:=l.prog) (w:=w) (base:=base) (k:=1) H_numbered Gx C_count_sends (zj8 C_partsD)
  have C_bodies:=zei (P:=l.prog) (w:=w) (base:=base) (k:=2) H_numbered_bodies Gx C_in_order C_numbered (C_count_sends.mono (by decide))
  have C_needed:=zf2 (P:=l.prog) (w:=w) (base:=base) (k:=1) H_needed_parts Gx C_partsD
  have C_size:=zq8 (P:=l.prog) (w:=w) (base:=base) (k:=0) H_size Gx
  have M_begin:=zlc (P:=l.prog) (w:=w) (base:=base) (k:=0) H_R_begin Gx Tx
  have M_taken:=zla (P:=l.prog) (w:=w) (base:=base) (k:=0) H_R_taken Gx Tx
  have M_choose:=zjk (P:=l.prog) (w:=w) (base:=base) (k:=0) H_R_choose Gx Tx
  have M_join:=zgp (k:=1) H_R_join_pair Gx Tx M_taken C_size
  have M_par:=zgo (P:=l.prog) (w:=w) (base:=base) (k:=0) H_R_parameter Gx Tx
  have C_side:=zq9 (P:=l.prog) (w:=w) (base:=base) (k:=0) H_side Gx
  have M_finish:=zjj (k:=2) H_R_finish Gx Tx (M_begin.mono (by decide)) (M_taken.mono (by decide)) (M_choose.mono (by decide)) M_join (M_par.mono (by decide)) (C_side.mono (by decide))
  have M_prepare:=zis (k:=2) H_R_prepare Gx Tx C_needed
  have M_go_on:=zlb (k:=3) H_R_go_on Gx Tx M_finish M_prepare
  have C_ended:=zir (k:=3) H_ended_run Gx Tx ((zex (k:=0) H_refuse_missing).mono (by decide)) ((zdz (k:=0) H_refuse_miscounted Gx).mono (by decide)) (C_bodies.mono (by decide)) (zmy (k:=2) H_R_init Gx Tx) (M_begin.mono (by decide)) M_go_on
  have C_run:=ok_run (k:=5) H_run Gx Tx C_ended
  have C_drawn:=zpb (n:=5) H_drawn Gx C_next C_names (ziq H_saying Gx C_next 5)
  have C_count:=zj9 (P:=l.prog) (w:=w) (base:=base) H_count
  have C_both:=zhe (P:=l.prog) (w:=w) (base:=base) H_worked H_entered Gx C_count
  exact ok_law F_law Gx (C_cell_at.mono (by decide)) (C_program.mono (by decide)) (C_drawn.mono (by decide)) (C_trees.mono (by decide)) (C_both 230).2 ((run_of C_run).mono (by decide)) ((zo7 (k:=0) H_whole Gx).mono (by decide)) ((zk7 (k:=0) H_is_tree Gx).mono (by decide))
theorem walk {l:PySem.W.OpenLaw} {q:Program} {loose:List Str} {XP:(Str→Option Value)→Heap→Prop} {YP:World→Heap→Prop} {d:DefRec} {K:Params→PySem.W.Frag} (hn:l.most=some 63) (hdf:d.params.defaults=[])
    (hY:∀(w:World) (h:Heap),YP w h→(K w.params).In h)
    (F:∀(w:World) (mg:Str→Option Value) (fa:Addr) (h:Heap),(K w.params).In h→h.Ns mainGlobals mg→mg d.name=some (.ref fa) →
      ∃fd:FuncData,(∀(s:Shared) (u:Value),BindsTo s fd ⟨[u],[]⟩ [("script",u)])∧∀base:Heap,(K w.params).In base→base.Ns mainGlobals mg→FnOk l.prog w (K w.params) mg base (CX1 l.prog w) 231 fa fd ["script"] (lSp (K w.params) lawS)) :
    PySem.W.WalkO q loose XP YP l.row.toRowW d [] (fun f vs=>PySem.call f vs) :=
  L2.zlu (n:=63) (k:=231) (x:="script") (CX:=fun w=>CX1 l.prog w) (sp:=fun w=>lSp (K w.params) lawS) hn (by decide) hdf ⟨rfl,by decide,by decide⟩ hY F (fun _ _ a ns hl hO hS=>law_sp hl hO hS) fun _ _ _ _ _ z=>by
    obtain ⟨a,C,T,H',_,_,_,_,_,_,_,_,_,_,z⟩:=z
    exact z
end LW
namespace PySem.W.Fast
theorem tw13837106327777218553:True:=trivial
theorem tw494340128382346338:True:=trivial
theorem tw7811706296686517640:True:=trivial
theorem tw8593746117772874107:True:=trivial
theorem tw6291728043202077043:True:=trivial
theorem tw17104918465937002229:True:=trivial
theorem tw1182169855004373369:True:=trivial
theorem tw11720345888949333101:True:=trivial
theorem tw6704761400908103326:True:=trivial
theorem tw2655173990733992678:True:=trivial
theorem tw3783118414571096851:True:=trivial
theorem tw5247337274281430581:True:=trivial
theorem tw4509804881228523301:True:=trivial
theorem tw17233434635823068879:True:=trivial
theorem tw14248799737938356481:True:=trivial
theorem tw11191533839048574078:True:=trivial
theorem tw6483757599713558459:True:=trivial
theorem tw12126908302577071422:True:=trivial
theorem tw4930976855910972294:True:=trivial
theorem tw17715385408467033974:True:=trivial
theorem tw3116288987193840922:True:=trivial
theorem tw14206993086196246978:True:=trivial
theorem tw15730798847856321346:True:=trivial
theorem tw14592870135186942758:True:=trivial
theorem tw11631827979922429073:True:=trivial
theorem tw3856541549474165653:True:=trivial
theorem tw11386453975992281928:True:=trivial
theorem tw2221057134430353375:True:=trivial
theorem tw13450405570888329095:True:=trivial
theorem tw3321125906789728217:True:=trivial
theorem tw14235279900943345869:True:=trivial
theorem tw3781702581903388321:True:=trivial
theorem tw4154305428755196997:True:=trivial
theorem tw9454309909521058565:True:=trivial
theorem tw637742960771182991:True:=trivial
theorem tw1063347463825595150:True:=trivial
theorem tw18210001840315721342:True:=trivial
theorem tw9708520822135803714:True:=trivial
theorem tw11804476459904874110:True:=trivial
theorem tw12092483610139018489:True:=trivial
theorem tw7795834050856987523:True:=trivial
theorem tw1755763870651558897:True:=trivial
theorem tw3985613194028834362:True:=trivial
theorem tw3408085231375782826:True:=trivial
theorem tw15827632031480390641:True:=trivial
theorem tw7065222917422990896:True:=trivial
theorem tw4555870292846283190:True:=trivial
theorem tw5453389442909797053:True:=trivial
theorem tw14537513329888636843:True:=trivial
theorem tw14615055169329570544:True:=trivial
theorem tw12535476306414913449:True:=trivial
theorem tw6637627432442297848:True:=trivial
theorem tw14029275497208202240:True:=trivial
theorem tw4538904370112131927:True:=trivial
theorem tw9870504217535649835:True:=trivial
theorem tw11281885193897397950:True:=trivial
theorem tw2460684373338349764:True:=trivial
theorem tw17945319889428487725:True:=trivial
theorem tw16723407994206804358:True:=trivial
theorem tw6247644587350302109:True:=trivial
theorem tw5714341218980882103:True:=trivial
theorem tw13657417871874386669:True:=trivial
theorem tw9181261844330260323:True:=trivial
theorem tw8912883169411572504:True:=trivial
theorem tw2394695490944414561:True:=trivial
theorem tw769027407195695012:True:=trivial
theorem tw2086562057194540117:True:=trivial
theorem tw2645328648435252536:True:=trivial
theorem tw77196998584562025:True:=trivial
theorem tw3984611883655585211:True:=trivial
theorem tw14699392160198787760:True:=trivial
theorem tw4831474101705156890:True:=trivial
theorem tw6598245649354756819:True:=trivial
theorem tw6689610588809879847:True:=trivial
theorem tw3089431902643335606:True:=trivial
theorem tw4546145205046653785:True:=trivial
theorem tw9555675956908075950:True:=trivial
theorem tw6361702147117624075:True:=trivial
theorem tw1185759060951030539:True:=trivial
theorem tw8717166037780742499:True:=trivial
theorem tw4290774696110950270:True:=trivial
theorem tw14304693806913340636:True:=trivial
theorem tw10216620623533080467:True:=trivial
theorem tw7421635799255384340:True:=trivial
theorem tw12577398931342773216:True:=trivial
theorem tw7319671202248358134:True:=trivial
theorem tw4078978807630815434:True:=trivial
theorem tw11421244938917903751:True:=trivial
theorem tw1017003519880193193:True:=trivial
theorem tw15001652081834685538:True:=trivial
theorem tw5096274461832646057:True:=trivial
theorem tw2563222807655349368:True:=trivial
theorem tw7192309493796952484:True:=trivial
theorem tw3424178207939070989:True:=trivial
theorem tw16471072556110998129:True:=trivial
theorem tw4539654975984819061:True:=trivial
theorem tw16191471322053375752:True:=trivial
theorem tw5682167022971651519:True:=trivial
theorem tw5801087871374608624:True:=trivial
theorem tw961838440085620260:True:=trivial
theorem tw1301941301770405771:True:=trivial
theorem tw10537035348078901507:True:=trivial
theorem tw9457357118041184271:True:=trivial
theorem tw2485423248420011240:True:=trivial
theorem tw16446095743836787596:True:=trivial
theorem tw106783708791633402:True:=trivial
theorem tw9886806485590618758:True:=trivial
theorem tw4074527446289808782:True:=trivial
theorem tw10250314044983205122:True:=trivial
theorem tw14897848622460637076:True:=trivial
theorem tw7586867060727133365:True:=trivial
theorem tw16071374709940647117:True:=trivial
theorem tw6561367243318108176:True:=trivial
theorem tw10570951517076526860:True:=trivial
theorem tw7043388761786697750:True:=trivial
theorem tw6176625660034268152:True:=trivial
theorem tw11229843855593599591:True:=trivial
theorem tw4258232752006859072:True:=trivial
theorem tw16703478546213550681:True:=trivial
theorem tw12513510533680046051:True:=trivial
theorem tw4167014321318352324:True:=trivial
theorem tw1862375517269400306:True:=trivial
theorem tw11642715505730373580:True:=trivial
theorem tw974971595155909627:True:=trivial
theorem tw1310600872494186378:True:=trivial
theorem tw3120482341491856573:True:=trivial
theorem tw6114246913114612469:True:=trivial
theorem tw2701208847209159830:True:=trivial
theorem tw13433633665091490305:True:=trivial
theorem tw3251122709789652394:True:=trivial
theorem tw10851007478890587646:True:=trivial
theorem tw4186317337343128316:True:=trivial
theorem tw9933466087294327914:True:=trivial
theorem tw17405351235496346584:True:=trivial
theorem tw6404188498862193970:True:=trivial
theorem tw6228814863801373328:True:=trivial
theorem tw10219036464186441409:True:=trivial
theorem tw10098933628780019050:True:=trivial
theorem tw11095093605565039530:True:=trivial
theorem tw5159496883855608548:True:=trivial
theorem tw634321949011948608:True:=trivial
theorem tw6330511064155856942:True:=trivial
theorem tw7014989655235313970:True:=trivial
theorem tw12874960928994523903:True:=trivial
theorem tw9154253040666430935:True:=trivial
theorem tw11067655831549822781:True:=trivial
theorem tw4729334290065834776:True:=trivial
theorem tw15876753206164274664:True:=trivial
theorem tw11538859007507120025:True:=trivial
theorem tw3752975391308719718:True:=trivial
theorem tw16638729852559953376:True:=trivial
theorem tw5087729609718358919:True:=trivial
theorem tw11626424279745469077:True:=trivial
theorem tw1430794956464971720:True:=trivial
theorem tw16654074291746513:True:=trivial
theorem tw3287733206722432254:True:=trivial
theorem tw13481445128990828238:True:=trivial
theorem tw12553390418253355312:True:=trivial
theorem tw1626058579562930340:True:=trivial
theorem tw7902087917718457445:True:=trivial
theorem tw12994206575574790334:True:=trivial
theorem tw16085273748337055913:True:=trivial
theorem tw2137982492896762419:True:=trivial
theorem tw13608908475765964129:True:=trivial
theorem tw4405237007669624291:True:=trivial
theorem tw7486241674014842745:True:=trivial
theorem tw5929391592750878809:True:=trivial
theorem tw11309328223518089240:True:=trivial
theorem tw1450898830521562008:True:=trivial
theorem tw18059545257345025008:True:=trivial
theorem tw14705502777719523529:True:=trivial
theorem tw11639783348385732040:True:=trivial
theorem tw513494496484559992:True:=trivial
theorem tw13402402886556690463:True:=trivial
theorem tw1329762216799470277:True:=trivial
theorem tw1364352383008787013:True:=trivial
theorem tw1661166694060274166:True:=trivial
theorem tw18255091519972244043:True:=trivial
theorem tw10979515911326791509:True:=trivial
theorem tw12779062406500064550:True:=trivial
theorem tw5728562298101770211:True:=trivial
end PySem.W.Fast
open PySem PySem.W PyProof.Rows
set_option maxRecDepth 100000 in
set_option maxHeartbeats 0 in
theorem PySem.Challenge.cw_errandend_k11_runs_as_told_holds : PySem.Challenge.rw_errandend_k11_runs_as_told.Holds := by
  w_on; o_law; k_head; (case hw => w_witness2)
  k_fill
  refine LW.walk (l := PySem.Challenge.rw_errandend_k11_runs_as_told) rfl rfl (fun w h Y => PySem.W.kIn_of Y) ?F
  case F =>
    intro w mg fa h KX G hmg
    refine' LW.all_mk KX G hmg ?aC ?a_in_order ?l_in_order ?c_in_order ?k_in_order ?a_parts ?l_parts ?c_parts ?k_parts ?a_refuse_missing ?l_refuse_missing ?c_refuse_missing ?k_refuse_missing ?a_refuse_miscounted ?l_refuse_miscounted ?c_refuse_miscounted ?k_refuse_miscounted ?a_size ?l_size ?c_size ?k_size ?a_run ?l_run ?c_run ?k_run ?a_ended_run ?l_ended_run ?c_ended_run ?k_ended_run ?a_numbered_bodies ?l_numbered_bodies ?c_numbered_bodies ?k_numbered_bodies ?a_count_sends ?l_count_sends ?c_count_sends ?k_count_sends ?a_numbered ?l_numbered ?c_numbered ?k_numbered ?a_needed_parts ?l_needed_parts ?c_needed_parts ?k_needed_parts ?a_side ?l_side ?c_side ?k_side ?a_cell_at ?l_cell_at ?c_cell_at ?k_cell_at ?a_names ?l_names ?c_names ?k_names ?a_next ?l_next ?c_next ?k_next ?a_saying ?l_saying ?c_saying ?k_saying ?a_drawn ?l_drawn ?c_drawn ?k_drawn ?a_path ?l_path ?c_path ?k_path ?a_arg ?l_arg ?c_arg ?k_arg ?a_send ?l_send ?c_send ?k_send ?a_body ?l_body ?c_body ?k_body ?a_program ?l_program ?c_program ?k_program ?a_tree_by ?l_tree_by ?c_tree_by ?k_tree_by ?a_count ?l_count ?c_count ?k_count ?a_trees ?l_trees ?c_trees ?k_trees ?a_is_tree ?l_is_tree ?c_is_tree ?k_is_tree ?a_whole ?l_whole ?c_whole ?k_whole ?a_worked ?l_worked ?c_worked ?k_worked ?a_entered ?l_entered ?c_entered ?k_entered ?a_R_init ?i_R_init ?l_R_init ?c_R_init ?k_R_init ?a_R_begin ?i_R_begin ?l_R_begin ?c_R_begin ?k_R_begin ?a_R_go_on ?i_R_go_on ?l_R_go_on ?c_R_go_on ?k_R_go_on ?a_R_prepare ?i_R_prepare ?l_R_prepare ?c_R_prepare ?k_R_prepare ?a_R_finish ?i_R_finish ?l_R_finish ?c_R_finish ?k_R_finish ?a_R_taken ?i_R_taken ?l_R_taken ?c_R_taken ?k_R_taken ?a_R_choose ?i_R_choose ?l_R_choose ?c_R_choose ?k_R_choose ?a_R_join_pair ?i_R_join_pair ?l_R_join_pair ?c_R_join_pair ?k_R_join_pair ?a_R_parameter ?i_R_parameter ?l_R_parameter ?c_R_parameter ?k_R_parameter ?a_law ?l_law ?c_law ?k_law ?z_len ?z_range ?z_isinstance ?z_int ?z_bool ?z_str ?z_tuple ?z_dict ?z_list ?z_reversed ?z_zip ?z_MOST_PAIRS ?pgC ?hdC ?poC ?saC ?mkC ?kcC ?n_params ?n_bodies ?n_most ?n_begun ?n_pending ?n_waiting ?n_ending
    (case aC => k_is)
    (case a_in_order => k_is)
    (case l_in_order => k_is)
    (case c_in_order => k_is)
    (case k_in_order => k_is)
    (case a_parts => k_is)
    (case l_parts => k_is)
    (case c_parts => k_is)
    (case k_parts => k_is)
    (case a_refuse_missing => k_is)
    (case l_refuse_missing => k_is)
    (case c_refuse_missing => k_is)
    (case k_refuse_missing => k_is)
    (case a_refuse_miscounted => k_is)
    (case l_refuse_miscounted => k_is)
    (case c_refuse_miscounted => k_is)
    (case k_refuse_miscounted => k_is)
    (case a_size => k_is)
    (case l_size => k_is)
    (case c_size => k_is)
    (case k_size => k_is)
    (case a_run => k_is)
    (case l_run => k_is)
    (case c_run => k_is)
    (case k_run => k_is)
    (case a_ended_run => k_is)
    (case l_ended_run => k_is)
    (case c_ended_run => k_is)
    (case k_ended_run => k_is)
    (case a_numbered_bodies => k_is)
    (case l_numbered_bodies => k_is)
    (case c_numbered_bodies => k_is)
    (case k_numbered_bodies => k_is)
    (case a_count_sends => k_is)
    (case l_count_sends => k_is)
    (case c_count_sends => k_is)
    (case k_count_sends => k_is)
    (case a_numbered => k_is)
    (case l_numbered => k_is)
    (case c_numbered => k_is)
    (case k_numbered => k_is)
    (case a_needed_parts => k_is)
    (case l_needed_parts => k_is)
    (case c_needed_parts => k_is)
    (case k_needed_parts => k_is)
    (case a_side => k_is)
    (case l_side => k_is)
    (case c_side => k_is)
    (case k_side => k_is)
    (case a_cell_at => k_is)
    (case l_cell_at => k_is)
    (case c_cell_at => k_is)
    (case k_cell_at => k_is)
    (case a_names => k_is)
    (case l_names => k_is)
    (case c_names => k_is)
    (case k_names => k_is)
    (case a_next => k_is)
    (case l_next => k_is)
    (case c_next => k_is)
    (case k_next => k_is)
    (case a_saying => k_is)
    (case l_saying => k_is)
    (case c_saying => k_is)
    (case k_saying => k_is)
    (case a_drawn => k_is)
    (case l_drawn => k_is)
    (case c_drawn => k_is)
    (case k_drawn => k_is)
    (case a_path => k_is)
    (case l_path => k_is)
    (case c_path => k_is)
    (case k_path => k_is)
    (case a_arg => k_is)
    (case l_arg => k_is)
    (case c_arg => k_is)
    (case k_arg => k_is)
    (case a_send => k_is)
    (case l_send => k_is)
    (case c_send => k_is)
    (case k_send => k_is)
    (case a_body => k_is)
    (case l_body => k_is)
    (case c_body => k_is)
    (case k_body => k_is)
    (case a_program => k_is)
    (case l_program => k_is)
    (case c_program => k_is)
    (case k_program => k_is)
    (case a_tree_by => k_is)
    (case l_tree_by => k_is)
    (case c_tree_by => k_is)
    (case k_tree_by => k_is)
    (case a_count => k_is)
    (case l_count => k_is)
    (case c_count => k_is)
    (case k_count => k_is)
    (case a_trees => k_is)
    (case l_trees => k_is)
    (case c_trees => k_is)
    (case k_trees => k_is)
    (case a_is_tree => k_is)
    (case l_is_tree => k_is)
    (case c_is_tree => k_is)
    (case k_is_tree => k_is)
    (case a_whole => k_is)
    (case l_whole => k_is)
    (case c_whole => k_is)
    (case k_whole => k_is)
    (case a_worked => k_is)
    (case l_worked => k_is)
    (case c_worked => k_is)
    (case k_worked => k_is)
    (case a_entered => k_is)
    (case l_entered => k_is)
    (case c_entered => k_is)
    (case k_entered => k_is)
    (case a_R_init => k_is)
    (case i_R_init => k_is)
    (case l_R_init => k_is)
    (case c_R_init => k_is)
    (case k_R_init => k_is)
    (case a_R_begin => k_is)
    (case i_R_begin => k_is)
    (case l_R_begin => k_is)
    (case c_R_begin => k_is)
    (case k_R_begin => k_is)
    (case a_R_go_on => k_is)
    (case i_R_go_on => k_is)
    (case l_R_go_on => k_is)
    (case c_R_go_on => k_is)
    (case k_R_go_on => k_is)
    (case a_R_prepare => k_is)
    (case i_R_prepare => k_is)
    (case l_R_prepare => k_is)
    (case c_R_prepare => k_is)
    (case k_R_prepare => k_is)
    (case a_R_finish => k_is)
    (case i_R_finish => k_is)
    (case l_R_finish => k_is)
    (case c_R_finish => k_is)
    (case k_R_finish => k_is)
    (case a_R_taken => k_is)
    (case i_R_taken => k_is)
    (case l_R_taken => k_is)
    (case c_R_taken => k_is)
    (case k_R_taken => k_is)
    (case a_R_choose => k_is)
    (case i_R_choose => k_is)
    (case l_R_choose => k_is)
    (case c_R_choose => k_is)
    (case k_R_choose => k_is)
    (case a_R_join_pair => k_is)
    (case i_R_join_pair => k_is)
    (case l_R_join_pair => k_is)
    (case c_R_join_pair => k_is)
    (case k_R_join_pair => k_is)
    (case a_R_parameter => k_is)
    (case i_R_parameter => k_is)
    (case l_R_parameter => k_is)
    (case c_R_parameter => k_is)
    (case k_R_parameter => k_is)
    (case a_law => k_is)
    (case l_law => k_is)
    (case c_law => k_is)
    (case k_law => k_is)
    (case z_len => k_is)
    (case z_range => k_is)
    (case z_isinstance => k_is)
    (case z_int => k_is)
    (case z_bool => k_is)
    (case z_str => k_is)
    (case z_tuple => k_is)
    (case z_dict => k_is)
    (case z_list => k_is)
    (case z_reversed => k_is)
    (case z_zip => k_is)
    (case z_MOST_PAIRS => k_is)
    (case pgC => k_is)
    (case hdC => k_is)
    (case poC => k_is)
    (case saC => k_is)
    (case mkC => k_is)
    (case kcC => k_is)
    (case n_params => k_is)
    (case n_bodies => k_is)
    (case n_most => k_is)
    (case n_begun => k_is)
    (case n_pending => k_is)
    (case n_waiting => k_is)
    (case n_ending => k_is)
#print axioms PySem.Challenge.cw_errandend_k11_runs_as_told_holds
