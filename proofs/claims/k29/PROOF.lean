import PyProof.Rows.All
import Wide.All
import OpenK.AllK
import Wide.FinOn
import Lean
import PyProof.EqAt
import PyProof.EqKinds
import PyProof.TupleCall
import PySem.Challenge.RW_errandend_k29_lines_changed
set_option Elab.async false
set_option linter.all false
set_option maxRecDepth 100000
namespace L2
open PySem PySem.Spec PyProof.Rows
noncomputable abbrev Key:=Sum Int Str
noncomputable def keyIs:Key→Value→Bool
  | .inl k,v=>Value.isInt k v
  | .inr x,v=>Value.isStrOf x v
noncomputable def keyH (w:World):Key→Int
  | .inl k=>hashInt k
  | .inr x=>hashStr w x
theorem zbg:∀{k:Key} {v:Value},keyIs k v=true→(∃i t,k=Sum.inl i∧v=Value.int i t)∨(∃x t,k=Sum.inr x∧v=Value.str x t)
  | .inl i,v,h=>by
    obtain ⟨t,e⟩:=Value.isInt_shape (k:=i) (v:=v) h
    exact .inl ⟨i,t,rfl,e⟩
  | .inr x,v,h=>by
    obtain ⟨t,e⟩:=Value.isStrOf_shape (x:=x) (v:=v) h
    exact .inr ⟨x,t,rfl,e⟩
theorem zl6 (i:Int) (t:Tok):keyIs (.inl i) (.int i t)=true:=by simp [keyIs,Value.isInt]
theorem zl5 (x:Str) (t:Tok):keyIs (.inr x) (.str x t)=true:=by simp [keyIs,Value.isStrOf]
theorem key_ll (a b:Int):decide ((Sum.inl a:Key)=Sum.inl b)=(a==b):=by
  by_cases e:a=b
  · subst e;simp
  · have h:¬(Sum.inl a:Key)=Sum.inl b:=fun q=>e (Sum.inl.inj q)
    rw [decide_eq_false h]
    exact (beq_eq_false_iff_ne.mpr e).symm
theorem key_rr (a b:Str):decide ((Sum.inr a:Key)=Sum.inr b)=decide (a=b):=by
  by_cases e:a=b
  · subst e;simp
  · have h:¬(Sum.inr a:Key)=Sum.inr b:=fun q=>e (Sum.inr.inj q)
    rw [decide_eq_false h,decide_eq_false e]
theorem key_lr (a:Int) (b:Str):decide ((Sum.inl a:Key)=Sum.inr b)=false:=decide_eq_false (fun q=>nomatch q)
theorem key_rl (a:Str) (b:Int):decide ((Sum.inr a:Key)=Sum.inl b)=false:=decide_eq_false (fun q=>nomatch q)
noncomputable def mixKind (prog:Program) (w:World):PySem.KeyKind prog w Key where
  is:=keyIs
  hash:=keyH w
  inj:=fun v a b ha hb=>by
    rcases zbg ha with ⟨i,t,rfl,rfl⟩|⟨x,t,rfl,rfl⟩
    · rcases zbg hb with ⟨j,u,rfl,e⟩|⟨y,u,rfl,e⟩
      · injection e with e1 _;rw [e1]
      · exact nomatch e
    · rcases zbg hb with ⟨j,u,rfl,e⟩|⟨y,u,rfl,e⟩
      · exact nomatch e
      · injection e with e1 _;rw [e1]
  byValue:=fun k v h=>by
    rcases zbg h with ⟨i,t,rfl,rfl⟩|⟨x,t,rfl,rfl⟩<;>rfl
  pyHash:=fun hv h=>by
    rcases zbg hv with ⟨i,t,rfl,rfl⟩|⟨x,t,rfl,rfl⟩
    · exact wpAny_pyHash_int h
    · exact wpAny_pyHash_str h
  eqBool:=fun hu hv h=>by
    rcases zbg hu with ⟨i,t,rfl,rfl⟩|⟨x,t,rfl,rfl⟩
    · rcases zbg hv with ⟨j,u,rfl,rfl⟩|⟨y,u,rfl,rfl⟩
      · rw [key_ll] at h;exact wpAny_eqBool_int h
      · rw [key_lr] at h;exact SeqAt.EqAt.int_str i t y u _ _ _ _ h
    · rcases zbg hv with ⟨j,u,rfl,rfl⟩|⟨y,u,rfl,rfl⟩
      · rw [key_rl] at h;exact SeqAt.EqAt.str_int x t j u _ _ _ _ h
      · rw [key_rr] at h;exact wpAny_eqBool_str h
  «strs»:=fun k x t v h=>by
    rcases zbg h with ⟨i,u,rfl,e⟩|⟨y,u,rfl,e⟩
    · exact nomatch e
    · injection e with e1 _
      subst e1
      cases v<;>rfl
theorem ziv (prog:Program) (w:World) (i:Int) (t:Tok):(mixKind prog w).is (.inl i) (.int i t)=true:=zl6 i t
theorem ziu (prog:Program) (w:World) (x:Str) (t:Tok):(mixKind prog w).is (.inr x) (.str x t)=true:=zl5 x t
end L2
namespace L2
open PySem PySem.Spec PyProof.Rows
inductive V where
  | non|bl (b:Bool)|int (i:Int)|str (x:Str)|byt (b:Array UInt8)|flt (b:UInt64)|ref (a:Addr)|ty (n:String)
  deriving DecidableEq
def RelV:V→Value→Prop
  | .non,u=>u=Value.none
  | .bl b,u=>u=Value.bool b
  | .int i,u=>∃t,u=Value.int i t
  | .str x,u=>∃t,u=Value.str x t
  | .byt b,u=>∃t,u=Value.bytes b t
  | .flt b,u=>∃t,u=Value.float b t
  | .ref a,u=>u=Value.ref a
  | .ty n,u=>u=Value.type n
abbrev Vals:List V→List Value→Prop:=Paired RelV
theorem Vals.length {xs:List V} {us:List Value} (r:Vals xs us):xs.length=us.length:=Paired.length r
theorem Vals.get:∀{xs:List V} {us:List Value} {i:Nat} {x:V},Vals xs us→xs[i]?=some x→∃u,us[i]?=some u∧RelV x u
  | _,_,_,_,.nil,e=>by simp at e
  | _,_,0,_,.cons r _,e=>by simp at e;subst e;exact ⟨_,rfl,r⟩
  | _,_,i+1,x,.cons _ t,e=>by
    obtain ⟨u,h1,h2⟩:=Vals.get (i:=i) (x:=x) t (by simpa using e)
    exact ⟨u,by simpa using h1,h2⟩
theorem Vals.set {x:V} {u:Value} (r:RelV x u):∀{xs:List V} {us:List Value} (i:Nat),Vals xs us→Vals (xs.set i x) (us.set i u)
  | _,_,_,.nil=>.nil
  | _,_,0,.cons _ t=>.cons r t
  | _,_,i+1,.cons q t=>.cons q (Vals.set r i t)
theorem Vals.append:∀{xs ys:List V} {us ws:List Value},Vals xs us→Vals ys ws→Vals (xs++ys) (us++ws)
  | _,_,_,_,.nil,s=>s
  | _,_,_,_,.cons r t,s=>.cons r (Vals.append t s)
theorem Vals.take:∀{xs:List V} {us:List Value} (n:Nat),Vals xs us→Vals (xs.take n) (us.take n)
  | _,_,0,_=>.nil
  | _,_,_+1,.nil=>.nil
  | _,_,n+1,.cons r t=>.cons r (Vals.take n t)
theorem Vals.drop:∀{xs:List V} {us:List Value} (n:Nat),Vals xs us→Vals (xs.drop n) (us.drop n)
  | _,_,0,r=>r
  | _,_,_+1,.nil=>.nil
  | _,_,n+1,.cons _ t=>Vals.drop n t
def RelO:Option V→Option Value→Prop
  | some v,some u=>RelV v u
  | none,none=>True
  | _,_=>False
def KV {κ:Type}:List (κ×V)→List (κ×Value)→Prop:=Paired fun (p:κ×V) (q:κ×Value)=>p.1=q.1∧RelV p.2 q.2
noncomputable def kV:Key→V
  | .inl i=>.int i
  | .inr x=>.str x
inductive HO where
  | lst (xs:List V)
  | tup (xs:List V)
  | dK (kvs:List (Key×V))|dT (kvs:List (List Key×V))
  | set (S:Int→Bool) (n:Nat)
  | ins (C dx:Addr) (fs:List (Str×V))
  | own (x:Addr)
  | xd (fs:List (Str×V))
  | met (f x:Addr)
  | rng (lo hi:Int)
  | frz (o:Obj) (u:HO)
  | tbl (ps:Array Value)
  | ext (φ:Heap→Prop)
noncomputable abbrev Hp:=Addr→Option HO
noncomputable def upd (H:Hp) (a:Addr) (o:HO):Hp:=fun b=>if b=a then some o else H b
theorem za6 {H:Hp} {a:Addr} {o:HO}:upd H a o a=some o:=by unfold upd;rw [if_pos rfl]
theorem zan {H:Hp} {a b:Addr} {o:HO} (h:b≠a):upd H a o b=H b:=by unfold upd;rw [if_neg h]
theorem zb6 {H:Hp} {a b:Addr} {o:HO} (h:H a=some o) (h':H b=none):a≠b:=by
  intro e;subst e;rw [h] at h';cases h'
section
variable (P:Program) (w:World)
def ObjOk (H:Hp) (h:Heap) (a:Addr):HO→Prop
  | .lst xs=>xs.length≤sizeLine∧∃(its:List Value) (n:Nat),Vals xs its∧h.get? a=some {cls:=.type "list",data:=.seq its.toArray n}
  | .tup xs=>xs.length≤sizeLine∧∃its:List Value,Vals xs its∧IsTup h a its.toArray∧∀o,h.get? a=some o→o.dict=none
  | .dK kvs=>kvs.length≤sizeLine∧(a==sysModules)=false∧∃vs,KV kvs vs∧h.DictOf (mixKind P w) a vs
  | .dT kvs=>kvs.length≤sizeLine∧(a==sysModules)=false∧∃xs:List (List Key×Addr×Value),
      Paired (fun (p:List Key×V) (q:List Key×Addr×Value)=>p.1=q.1∧H q.2.1=some (.tup (p.1.map kV))∧RelV p.2 q.2.2) kvs xs ∧
      ∃o es ep,h.get? a=some o∧o.ExactDict∧o.data=.dict es ep∧es.toList=xs.map (entryOfKey (tupleKind (mixKind P w)))∧(xs.map (·.1)).Nodup
  | .set S n=>h.SetOf (intKind P w) a S n
  | .ins C dx fs=>H dx=some (.own a)∧fs.length≤1000∧dx≠a∧h.get? a=some (PySem.W.instObj C dx) ∧
      ∃mA,h.Ns1 dx mA∧(∀f,RelO (fs.lookup f) (mA f))∧PySem.Within mA (fs.map (·.1))
  | .own _=>∃o,h.get? a=some o
  | .xd fs=>∃mA,h.Ns1 a mA∧∀f,RelO (fs.lookup f) (mA f)
  | .rng lo hi=>∃t u v,h.get? a=some {cls:=.type "range",data:=.fields #[.int lo t,.int hi u,.int 1 v]}
  | .frz o u=>h.get? a=some o∧ObjOk H h a u
  | .tbl ps=>h.get? a=some {cls:=.none,data:=.fields ps}
  | .met f x=>h.get? a=some (PySem.W.methodObj (.ref f) (.ref x))
  | .ext φ=>φ h∧(∃o,h.get? a=some o)∧∀h1 h2:Heap,φ h1→(∀o,h1.get? a=some o→h2.get? a=some o)→φ h2
def HOk (H:Hp) (h:Heap):Prop:=∀a o,H a=some o→ObjOk P w H h a o
end
section
variable {P:Program} {w:World} {H H':Hp} {h h':Heap} {a:Addr} {o:HO}
theorem ObjOk.lt (x:ObjOk P w H h a o):a<h.objs.size:=by
  cases o with
  | lst xs=>obtain ⟨_,_,_,_,e⟩:=x;exact Heap.lt_size e
  | tup xs=>obtain ⟨_,_,_,p,_⟩:=x;exact p.lt
  | dK kvs=>obtain ⟨_,_,_,_,o,_,_,e,_⟩:=x;exact Heap.lt_size e
  | dT kvs=>obtain ⟨_,_,_,_,o,_,_,e,_⟩:=x;exact Heap.lt_size e
  | set S n=>obtain ⟨o,_,_,_,e,_⟩:=x;exact Heap.lt_size e
  | ins C dx fs=>obtain ⟨_,_,_,e,_⟩:=x;exact Heap.lt_size e
  | own y=>obtain ⟨_,e⟩:=x;exact Heap.lt_size e
  | xd fs=>obtain ⟨_,⟨_,_,_,e,_⟩,_⟩:=x;exact Heap.lt_size e
  | rng lo hi=>obtain ⟨_,_,_,e⟩:=x;exact Heap.lt_size e
  | frz ob u=>obtain ⟨e,_⟩:=x;exact Heap.lt_size e
  | tbl ps=>exact Heap.lt_size (show h.get? a=some _ from x)
  | met f y=>exact Heap.lt_size (show h.get? a=some _ from x)
  | ext φ=>obtain ⟨_,⟨_,e⟩,_⟩:=x;exact Heap.lt_size e
theorem Paired.mapP {α β:Type} {F G:α→β→Prop}:∀{l₁:List α} {l₂:List β},Paired F l₁ l₂→(∀a b,F a b→G a b)→Paired G l₁ l₂
  | _,_,.nil,_=>.nil
  | _,_,.cons r t,f=>.cons (f _ _ r) (Paired.mapP t f)
theorem ObjOk.stay (x:ObjOk P w H h a o) (k:∀b u,(b=a∨H b=some (.own a))→h.get? b=some u→h'.get? b=some u)
    (ho:∀b,H b=some (.own a)→H' b=some (.own a)) (ht:∀b xs,H b=some (.tup xs)→H' b=some (.tup xs)):ObjOk P w H' h' a o:=by
  induction o with
  | lst xs=>obtain ⟨z,its,n,r,e⟩:=x;exact ⟨z,its,n,r,k _ _ (.inl rfl) e⟩
  | tup xs=>obtain ⟨z,its,r,⟨ob,e,c⟩,nd⟩:=x;exact ⟨z,its,r,⟨ob,k _ _ (.inl rfl) e,c⟩,fun o q=>by rw [k _ _ (.inl rfl) e] at q;cases q;exact nd _ e⟩
  | dK kvs=>obtain ⟨z,y,vs,r,ob,es,ep,e,c⟩:=x;exact ⟨z,y,vs,r,ob,es,ep,k _ _ (.inl rfl) e,c⟩
  | dT kvs =>
    obtain ⟨z,y,xs,r,ob,es,ep,e,c⟩:=x
    exact ⟨z,y,xs,Paired.mapP r fun p q z=>⟨z.1,ht _ _ z.2.1,z.2.2⟩,ob,es,ep,k _ _ (.inl rfl) e,c⟩
  | set S n=>obtain ⟨ob,es,ep,t,e,c⟩:=x;exact ⟨ob,es,ep,t,k _ _ (.inl rfl) e,c⟩
  | ins C dx fs =>
    obtain ⟨d,z,ne,e,mA,⟨od,es,ep,e2,c⟩,r⟩:=x
    exact ⟨ho _ d,z,ne,k _ _ (.inl rfl) e,mA,⟨od,es,ep,k _ _ (.inr d) e2,c⟩,r⟩
  | own y=>obtain ⟨ob,e⟩:=x;exact ⟨ob,k _ _ (.inl rfl) e⟩
  | xd fs=>obtain ⟨mA,⟨od,es,ep,e,c⟩,r⟩:=x;exact ⟨mA,⟨od,es,ep,k _ _ (.inl rfl) e,c⟩,r⟩
  | rng lo hi=>obtain ⟨t,u,v,e⟩:=x;exact ⟨t,u,v,k _ _ (.inl rfl) e⟩
  | frz ob u ih=>obtain ⟨e,q⟩:=x;exact ⟨k _ _ (.inl rfl) e,ih q⟩
  | tbl ps =>
    have e:h.get? a=some {cls:=.none,data:=.fields ps}:=x
    show h'.get? a=some {cls:=.none,data:=.fields ps}
    exact k a _ (.inl rfl) e
  | met f y =>
    have e:h.get? a=some (PySem.W.methodObj (.ref f) (.ref y)):=x
    show h'.get? a=some (PySem.W.methodObj (.ref f) (.ref y))
    exact k a _ (.inl rfl) e
  | ext φ=>obtain ⟨p,⟨o,e⟩,st⟩:=x;exact ⟨st _ _ p fun o q=>k _ _ (.inl rfl) q,⟨o,k _ _ (.inl rfl) e⟩,st⟩
theorem HOk.lt (x:HOk P w H h) (e:H a=some o):a<h.objs.size:=(x a o e).lt
theorem HOk.fresh (x:HOk P w H h) (e:h.objs.size≤a):H a=none:=by
  cases q:H a with
  | none=>rfl
  | some u=>exact absurd (Nat.lt_of_lt_of_le (x.lt q) e) (Nat.lt_irrefl _)
theorem HOk.kept (x:HOk P w H h) (k:∀b u,h.get? b=some u→h'.get? b=some u):HOk P w H h':=fun a o e =>
  (x a o e).stay (fun b u _ q=>k b u q) (fun _ q=>q) fun _ _ q=>q
theorem HOk.laid (x:HOk P w H h) (k:∀b u,h.get? b=some u→h'.get? b=some u) (hp:h.objs.size≤a) (new:ObjOk P w (upd H a o) h' a o):HOk P w (upd H a o) h':=fun b u e=>by
  have hn:=x.fresh hp
  by_cases hb:b=a
  · subst hb;rw [za6] at e;cases e;exact new
  · rw [zan hb] at e
    exact (x b u e).stay (fun c v _ q=>k c v q) (fun c q=>by rw [zan (zb6 q hn)];exact q) fun c xs q=>by rw [zan (zb6 q hn)];exact q
end
def Rd (H:Hp) (a:Addr) (u:HO):Prop:=H a=some u∨∃o,H a=some (.frz o u)
theorem Rd.ok {P:Program} {w:World} {H:Hp} {h:Heap} {a:Addr} {u:HO} (r:Rd H a u) (x:HOk P w H h):ObjOk P w H h a u:=by
  rcases r with r|⟨o,r⟩
  · exact x a u r
  · obtain ⟨_,q⟩:=x a _ r
    exact q
def Mut:Option HO→Prop
  | some (.lst _)=>True
  | some (.dK _)=>True
  | some (.dT _)=>True
  | some (.set _ _)=>True
  | some (.ins _ _ _)=>True
  | some (.ext _)=>True
  | _=>False
section
variable {P:Program} {w:World} {H:Hp} {h h':Heap} {x e:Addr} {o':HO}
theorem HOk.write (ok:HOk P w H h) (mu:Mut (H x)) (he:e=x∨H e=some (.own x)) (k:∀b u,b≠e→h.get? b=some u→h'.get? b=some u) (heo:∃u,h'.get? e=some u)
    (new:ObjOk P w (upd H x o') h' x o'):HOk P w (upd H x o') h':=fun b u q=>by
  have nown:∀c y,H c=some (.own y)→c≠x:=fun c y r z=>by subst z;rw [r] at mu;exact mu
  have ntup:∀c xs,H c=some (.tup xs)→c≠x:=fun c xs r z=>by subst z;rw [r] at mu;exact mu
  by_cases hb:b=x
  · subst hb;rw [za6] at q;cases q;exact new
  · rw [zan hb] at q
    by_cases hbe:b=e
    · have q':H b=some (.own x):=by
        rcases he with z|z
        · exact absurd (hbe.trans z) hb
        · rw [hbe];exact z
      rw [q] at q';cases q'
      obtain ⟨v,hv⟩:=heo
      exact ⟨v,by rw [hbe];exact hv⟩
    · refine (ok b u q).stay (fun c v hc r=>k c v ?_ r) (fun c r=>by rw [zan (nown c b r)];exact r) fun c xs r=>by rw [zan (ntup c xs r)];exact r
      rcases hc with rfl|hc
      · exact hbe
      · rintro rfl
        rcases he with z|z
        · exact nown c b hc z
        · rw [hc] at z;cases z;exact hb rfl
end
structure Un (fs ex:List Addr) (H H':Hp) (h h':Heap):Prop where
  keep:∀b o,h.get? b=some o→H b=none→b∉fs→b∉ex→h'.get? b=some o
  slot:∀b o,h.get? b=some o→H b=none→b∈fs→b∉ex→∃sl,h'.get? b=some {o with slots:=sl}
  free:∀b o,h.get? b=some o→H b=none→b∉ex→H' b=none
  there:∀b o,h.get? b=some o→b∉ex→∃o',h'.get? b=some o'
  tups:∀b xs,H b=some (.tup xs)→H' b=some (.tup xs)
  frzs:∀b o u,H b=some (.frz o u)→H' b=some (.frz o u)
  tbls:∀b ps,H b=some (.tbl ps)→∃more,H' b=some (.tbl (ps++more))
section
variable {fs fs' ex ex':List Addr} {H H1 H2:Hp} {h h1 h2 h':Heap} {a x e:Addr} {o:HO}
theorem Un.any (u:Un fs ex H H1 h h1) {b:Addr} {ob:Obj} (q:h.get? b=some ob) (n:H b=none) (hx:b∉ex):∃sl,h1.get? b=some {ob with slots:=sl}:=by
  by_cases hb:b∈fs
  · exact u.slot b ob q n hb hx
  · exact ⟨ob.slots,u.keep b ob q n hb hx⟩
theorem Un.kept (k:∀b u,h.get? b=some u→h'.get? b=some u):Un fs ex H H h h' :=
  ⟨fun b ob q _ _ _=>k b ob q,fun b ob q _ _ _=>⟨ob.slots,k b ob q⟩,fun _ _ _ n _=>n,fun b ob q _=>⟨ob,k b ob q⟩,fun _ _ q=>q,fun _ _ _ q=>q,fun _ ps q=>⟨#[],by rw [q];simp⟩⟩
theorem Un.refl:Un fs ex H H h h:=Un.kept fun _ _ q=>q
theorem Un.laid (k:∀b u,h.get? b=some u→h'.get? b=some u) (hp:h.objs.size≤a) (hn:H a=none):Un fs ex H (upd H a o) h h' where
  keep:=fun b u q _ _ _=>k b u q
  slot:=fun b u q _ _ _=>⟨u.slots,k b u q⟩
  free:=fun b u q n _=>by rw [zan (Nat.ne_of_lt (Nat.lt_of_lt_of_le (Heap.lt_size q) hp))];exact n
  there:=fun b u q _=>⟨u,k b u q⟩
  tups:=fun b xs q=>by rw [zan (zb6 q hn)];exact q
  frzs:=fun b u xs q=>by rw [zan (zb6 q hn)];exact q
  tbls:=fun b ps q=>⟨#[],by rw [zan (zb6 q hn),q];simp⟩
theorem Un.write (mu:Mut (H x)) (he:e=x∨H e=some (.own x)) (k:∀b u,b≠e→h.get? b=some u→h'.get? b=some u) (heo:∃u,h'.get? e=some u):Un fs ex H (upd H x o) h h':=by
  have hx:∀b,H b=none→b≠x:=fun b n z=>by subst z;rw [n] at mu;exact mu
  have hb:∀b,H b=none→b≠e:=fun b n z=>by
    subst z
    rcases he with r|r
    · exact hx b n r
    · rw [n] at r;cases r
  have hm:∀b u,H b=some u→¬Mut (some u)→b≠x:=fun b u q nm z=>by subst z;rw [q] at mu;exact nm mu
  refine ⟨fun b u q n _ _=>k b u (hb b n) q,fun b u q n _ _=>⟨u.slots,k b u (hb b n) q⟩,fun b u q n _=>by rw [zan (hx b n)];exact n,fun b u q _=>?_,
    fun b xs q=>by rw [zan (hm b _ q fun z=>z)];exact q,fun b u xs q=>by rw [zan (hm b _ q fun z=>z)];exact q,fun b ps q=>⟨#[],by rw [zan (hm b _ q fun z=>z),q];simp⟩⟩
  by_cases hbe:b=e
  · subst hbe;exact heo
  · exact ⟨u,k b u hbe q⟩
end
noncomputable def trk (h:Heap) (H:Hp):List Addr:=(List.range h.objs.size).filter fun a=>(H a).isSome
noncomputable def hidT (h:Heap) (H:Hp):Heap:=PySem.W.hideAll h (trk h H)
theorem zme (h:Heap) (H:Hp):(hidT h H).objs.size=h.objs.size:=PySem.W.hideAll_size _ _
theorem zoh {h:Heap} {H:Hp} {b:Addr} {o:Obj} (e:h.get? b=some o) (n:H b=none):(hidT h H).get? b=some o :=
  PySem.W.hideAll_get _ e fun hm=>by
    have q:(H b).isSome=true:=(List.mem_filter.mp hm).2
    rw [n] at q;simp at q
theorem zp3 {h:Heap} {H:Hp} {b:Addr} {o:Obj} (e:(hidT h H).get? b=some o):h.get? b=some o∧H b=none:=by
  have e':h.get? b=some o:=PySem.W.of_hideAll (trk h H) e
  refine ⟨e',?_⟩
  cases q:H b with
  | none=>rfl
  | some x =>
    have hm:b∈trk h H:=List.mem_filter.mpr ⟨List.mem_range.mpr (Heap.lt_size e'),by simp [q]⟩
    have z:(hidT h H).get? b=none:=PySem.W.hideAll_none (trk h H) hm
    rw [z] at e;cases e
noncomputable def allNews (g h:Heap) (L:Addr):List (Addr×Obj):=(List.range h.objs.size).filterMap fun a=>if a=L∨(g.get? a).isSome=true then none else (h.get? a).map fun o=>(a,o)
noncomputable def rest (g h:Heap) (L d:Addr):List (Addr×Obj):=(allNews g h L).filter fun p=>decide (p.1≠d)
end L2
namespace L2
open PySem PySem.Spec PyProof.Rows
structure Mod (K:PySem.W.Frag) (mg:Str→Option Value) (base:Heap):Prop where
  kin:K.In base
  glob:base.Ns mainGlobals mg
  blt:∃mb,base.Ns builtinsNs mb∧∀x:Str,x≠"__name__"→mb x=bootBuiltins x
  nolimit:base.NoLimit
structure Cx where
  prog:Program
  w:World
  K:PySem.W.Frag
  mg:Str→Option Value
  base:Heap
  A:Around
  N:List Str
  s₀:Shared
  H₀:Hp
  env:Env
  outer:List Env
  stack:List Env
  ex:List Addr
  fn:Str→Bool
  calm:Bool
  pn:List (Addr×Obj)
  xe:Value→Shared→Prop
noncomputable def frs (l:List Env):List Addr:=l.filterMap (·.frame)
noncomputable abbrev Cx.fs (X:Cx):List Addr:=frs X.outer
def Vis (sc:Scope) (x:Str):Prop:=sc.names.lookup x=some .local∨sc.names.lookup x=some .cell∨sc.names.lookup x=some .free
def Loc (sc:Scope) (x:Str):Prop:=sc.names.lookup x=some .local∨sc.names.lookup x=some .cell
def Look (env:Env) (h:Heap) (m:Str→Option Value) (x:Str) (u:Value):Prop :=
  (env.kindOf x=some .local∧m x=some u)∨((env.kindOf x=some .cell∨env.kindOf x=some .free)∧∃c,env.cells.lookup x=some c∧h.IsCell c (some u))
structure Cx.Ok (X:Cx):Prop where
  mod:Mod X.K X.mg X.base
  kind:X.env.scope.kind=.function
  glob:X.env.globals=mainGlobals
  blt:X.env.builtins=builtinsNs
  above:X.s₀.heap.objs.size≤X.env.locals
  inj:∀x y c,X.env.cells.lookup x=some c→X.env.cells.lookup y=some c→x=y
  has:∀x,(X.env.kindOf x=some .cell∨X.env.kindOf x=some .free)→∃c,X.env.cells.lookup x=some c
  cab:∀x c,X.fn x=true→X.env.cells.lookup x=some c→X.s₀.heap.objs.size≤c
  hd:X.calm=true→X.A.handled=none
  frames:X.A.frames=some X.stack
  stk:X.stack=X.outer∨(X.stack=X.env::X.outer∧X.env.frame=some X.env.locals)
  exf:∀b∈X.ex,b≠X.env.locals∧∀x c,X.env.cells.lookup x=some c→c≠b
  bs:∀b o,X.base.get? b=some o→X.s₀.heap.get? b=some o∧X.H₀ b=none
  bsz:X.base.objs.size≤X.s₀.heap.objs.size
  noex:∀b o,X.base.get? b=some o→b∉X.ex
  exfs:∀b∈X.ex,b∉X.fs
  funs:X.s₀.heap.FunFrames X.base X.outer
  frf:∀b∈X.fs,X.H₀ b=none
structure Inv (X:Cx) (pins:List (Addr×Obj)) (σ:List (Option V)) (H:Hp) (s:Shared):Prop where
  ok:X.Ok
  os:s.os=X.s₀.os
  bare:AllBare s.gens
  base:Un X.fs X.ex X.H₀ H X.s₀.heap s.heap
  loc:∃m,s.heap.Ns X.env.locals m∧∀(i:Nat) (x:Str) (v:V),X.N[i]?=some x→σ[i]?=some (some v)→Vis X.env.scope x→∃u,RelV v u∧Look X.env s.heap m x u
  cell:∀x c,X.env.cells.lookup x=some c→∃v,s.heap.IsCell c v
  free:H X.env.locals=none
  freeC:∀x c,X.env.cells.lookup x=some c→H c=none
  pin:∀p∈X.pn++pins,s.heap.get? p.1=some p.2∧H p.1=none∧p.1≠X.env.locals∧p.1∉X.fs∧∀v,p.2.data≠.cell v
  hok:HOk X.prog X.w H s.heap
  len:σ.length=X.N.length
section
variable {X:Cx} {pins:List (Addr×Obj)} {σ:List (Option V)} {H H':Hp} {s:Shared} {h':Heap}
theorem Cx.Ok.nofr (ok:X.Ok) {b:Addr} {o:Obj} (e:X.base.get? b=some o):b∉X.fs:=fun hb=>by
  have:=(ok.funs.mem hb).1
  rw [e] at this;cases this
theorem Inv.bs (I:Inv X pins σ H s):∀b o,X.base.get? b=some o→s.heap.get? b=some o∧H b=none:=fun b o e =>
  ⟨I.base.keep b o (I.ok.bs b o e).1 (I.ok.bs b o e).2 (I.ok.nofr e) (I.ok.noex b o e),I.base.free b o (I.ok.bs b o e).1 (I.ok.bs b o e).2 (I.ok.noex b o e)⟩
theorem Inv.bk (I:Inv X pins σ H s):∀b o,X.base.get? b=some o→s.heap.get? b=some o:=fun b o e=>(I.bs b o e).1
theorem Inv.mod (I:Inv X pins σ H s):Mod X.K X.mg X.base:=I.ok.mod
theorem Inv.kIn (I:Inv X pins σ H s):X.K.In s.heap:=I.ok.mod.kin.keeps I.bk
theorem Inv.lt (I:Inv X pins σ H s):X.env.locals<s.heap.objs.size:=let ⟨_,hn,_⟩:=I.loc;hn.lt
theorem Inv.sz (I:Inv X pins σ H s):X.s₀.heap.objs.size≤s.heap.objs.size:=Nat.le_trans I.ok.above (Nat.le_of_lt I.lt)
theorem Inv.nofs (I:Inv X pins σ H s) {a:Addr} (h:s.heap.objs.size≤a):a∉X.fs:=fun hb=>by
  obtain ⟨_,o,ho,_⟩:=I.ok.funs.mem hb
  exact absurd (Nat.lt_of_lt_of_le (Heap.lt_size ho) (Nat.le_trans I.sz h)) (Nat.lt_irrefl _)
theorem Inv.cne (I:Inv X pins σ H s):∀x c,X.env.cells.lookup x=some c→c≠X.env.locals:=fun x c e z=>by
  obtain ⟨v,o,ho,hd⟩:=I.cell x c e
  obtain ⟨m,⟨o',es,ep,ho',hd',_⟩,_⟩:=I.loc
  rw [z,ho'] at ho;cases ho;rw [hd'] at hd;cases hd
theorem Inv.funs (I:Inv X pins σ H s):s.heap.FunFrames X.base X.outer:=by
  have all:∀(l:List Env),(∀b∈frs l,b∈X.fs)→X.s₀.heap.FunFrames X.base l→s.heap.FunFrames X.base l:=by
    intro l
    induction l with
    | nil=>intro _ _;trivial
    | cons env r ih =>
      intro hs hl
      obtain ⟨hk,⟨L,o,hf,hn,ho,hd⟩,hr⟩:=hl
      have hL:L∈X.fs:=hs L (by unfold frs;rw [List.filterMap_cons,hf];exact List.mem_cons_self)
      obtain ⟨sl,e⟩:=I.base.slot L o ho (I.ok.frf L hL) hL fun z=>I.ok.exfs L z hL
      exact ⟨hk,⟨L,_,hf,hn,e,hd⟩,ih (fun b hb=>hs b (by unfold frs;rw [List.filterMap_cons,hf];exact List.mem_cons_of_mem _ hb)) hr⟩
  exact all X.outer (fun _ hb=>hb) I.ok.funs
theorem Inv.stack (I:Inv X pins σ H s):s.heap.FunFrames X.base X.stack:=by
  rcases I.ok.stk with e|⟨e,hf⟩
  · rw [e];exact I.funs
  · rw [e]
    obtain ⟨m,hn,_⟩:=I.loc
    refine .cons (by rw [I.ok.kind];decide) hf hn ?_ I.funs
    exact Heap.get?_none_of_le (Nat.le_trans I.ok.bsz I.ok.above)
theorem Inv.stkSub (I:Inv X pins σ H s):∀b∈frs X.stack,b∈X.env.locals::X.fs:=fun b hb=>by
  rcases I.ok.stk with e|⟨e,hf⟩
  · rw [e] at hb;exact List.mem_cons_of_mem _ hb
  · rw [e] at hb
    unfold frs at hb
    rw [List.filterMap_cons,hf] at hb
    exact hb
theorem Inv.stkFree (I:Inv X pins σ H s):∀b∈frs X.stack,H b=none:=fun b hb=>by
  rcases List.mem_cons.mp (I.stkSub b hb) with e|hb
  · rw [e];exact I.free
  · obtain ⟨_,o,ho,_⟩:=I.ok.funs.mem hb
    exact I.base.free b o ho (I.ok.frf b hb) fun z=>I.ok.exfs b z hb
theorem Inv.step {g':Array GenState} {t':Nat} {d':Drawn} {ch:List Addr} (I:Inv X pins σ H s)
    (hch:∀b∈ch,(b∈X.ex∨X.s₀.heap.objs.size≤b)∧b≠X.env.locals∧(∀x c,X.env.cells.lookup x=some c→c≠b)∧∀p∈X.pn++pins,p.1≠b)
    (keep:∀b o,b≠X.env.locals→b∉X.fs→b∉ch→s.heap.get? b=some o→H b=none→h'.get? b=some o)
    (slot:∀b o,b≠X.env.locals→b∈X.fs→b∉ch→s.heap.get? b=some o→H b=none→∃sl,h'.get? b=some {o with slots:=sl}) (free:∀b o,b∉ch→s.heap.get? b=some o→H b=none→H' b=none)
    (there:∀b o,b∉ch→s.heap.get? b=some o→∃o',h'.get? b=some o')
    (tups:∀b xs,H b=some (.tup xs)→H' b=some (.tup xs)) (frzs:∀b o u,H b=some (.frz o u)→H' b=some (.frz o u)) (tbls:∀b ps,H b=some (.tbl ps)→∃more,H' b=some (.tbl (ps++more)))
    (ns:∀m,s.heap.Ns X.env.locals m→h'.Ns X.env.locals m) (hok:HOk X.prog X.w H' h') (hg:AllBare g') :
    Inv X pins σ H' {s with heap:=h',gens:=g',drawn:=d',toks:=t'}:=by
  have neL:∀b o,X.s₀.heap.get? b=some o→b≠X.env.locals:=fun b o e=>Nat.ne_of_lt (Nat.lt_of_lt_of_le (Heap.lt_size e) I.ok.above)
  have neC:∀b o,X.s₀.heap.get? b=some o→b∉X.ex→b∉ch:=fun b o e hx hb=>by
    rcases (hch b hb).1 with z|z
    · exact hx z
    · exact absurd (Nat.lt_of_lt_of_le (Heap.lt_size e) z) (Nat.lt_irrefl _)
  have cellK:∀x c,X.env.cells.lookup x=some c→∀v,s.heap.IsCell c v→h'.IsCell c v:=fun x c e v z_1=>by
    obtain ⟨o,ho,hd⟩:=z_1
    have nch:c∉ch:=fun z=>(hch c z).2.2.1 x c e rfl
    by_cases hc:c∈X.fs
    · obtain ⟨sl,q⟩:=slot c o (I.cne x c e) hc nch ho (I.freeC x c e)
      exact ⟨_,q,hd⟩
    · exact ⟨o,keep c o (I.cne x c e) hc nch ho (I.freeC x c e),hd⟩
  refine ⟨I.ok,I.os,hg,⟨fun b o e n hb hx=>?_,fun b o e n hb hx=>?_,fun b o e n hx=>?_,fun b o e hx=>?_,fun b xs e=>tups b xs (I.base.tups b xs e),fun b o xs e=>frzs b o xs (I.base.frzs b o xs e),fun b ps e=>?_⟩,?_,fun x c e=>?_,?_,fun x c e=>?_,fun p hp=>?_,hok,I.len⟩
  · exact keep b o (neL b o e) hb (neC b o e hx) (I.base.keep b o e n hb hx) (I.base.free b o e n hx)
  · obtain ⟨sl,e1⟩:=I.base.slot b o e n hb hx
    obtain ⟨sl',e2⟩:=slot b _ (neL b o e) hb (neC b o e hx) e1 (I.base.free b o e n hx)
    exact ⟨sl',e2⟩
  · obtain ⟨o',e1⟩:=I.base.there b o e hx
    exact free b o' (neC b o e hx) e1 (I.base.free b o e n hx)
  · obtain ⟨o',e1⟩:=I.base.there b o e hx
    exact there b o' (neC b o e hx) e1
  · obtain ⟨m1,e1⟩:=I.base.tbls b ps e
    obtain ⟨m2,e2⟩:=tbls b _ e1
    exact ⟨m1++m2,by rw [e2,Array.append_assoc]⟩
  · obtain ⟨m,hn,hl⟩:=I.loc
    refine ⟨m,ns m hn,fun i x v e1 e2 e3=>?_⟩
    obtain ⟨u,r,l⟩:=hl i x v e1 e2 e3
    refine ⟨u,r,?_⟩
    rcases l with l|⟨k,c,e,z⟩
    · exact .inl l
    · exact .inr ⟨k,c,e,cellK x c e _ z⟩
  · obtain ⟨v,z⟩:=I.cell x c e
    exact ⟨v,cellK x c e v z⟩
  · obtain ⟨m,⟨o,_,_,ho,_⟩,_⟩:=I.loc
    exact free _ o (fun z=>(hch _ z).2.1 rfl) ho I.free
  · obtain ⟨v,o,ho,hd⟩:=I.cell x c e
    exact free c o (fun z=>(hch c z).2.2.1 x c e rfl) ho (I.freeC x c e)
  · obtain ⟨e,n,ne,nf,d⟩:=I.pin p hp
    have nch:p.1∉ch:=fun z=>(hch p.1 z).2.2.2 p hp rfl
    exact ⟨keep p.1 p.2 ne nf nch e n,free p.1 p.2 nch e n,ne,nf,d⟩
theorem Inv.un {t':Nat} (I:Inv X pins σ H s) (u:Un X.fs [] H H' s.heap h') (hok:HOk X.prog X.w H' h'):Inv X pins σ H' {s with heap:=h',toks:=t'}:=by
  obtain ⟨m,⟨o,es,ep,ho,r⟩,_⟩:=id I.loc
  obtain ⟨sl,hL⟩:=u.any ho I.free (by simp)
  exact I.step (g':=s.gens) (d':=s.drawn) (ch:=[]) (fun _ z=>nomatch z) (fun b o _ hb _ e n=>u.keep b o e n hb (by simp)) (fun b o _ hb _ e n=>u.slot b o e n hb (by simp)) (fun b o _ e n=>u.free b o e n (by simp)) (fun b o _ e=>u.there b o e (by simp)) u.tups u.frzs u.tbls (fun m' hm=>by
    obtain ⟨o',es',ep',ho',r'⟩:=hm
    rw [ho] at ho';cases ho'
    exact ⟨_,es',ep',hL,r'⟩) hok I.bare
theorem Inv.call {g':Array GenState} {t':Nat} {d':Drawn} {ch:List Addr} (I:Inv X pins σ H s) (u:Un (frs X.stack) ch H H' s.heap h') (hok:HOk X.prog X.w H' h') (hg:AllBare g')
    (hch:∀b∈ch,(b∈X.ex∨X.s₀.heap.objs.size≤b)∧b≠X.env.locals∧(∀x c,X.env.cells.lookup x=some c→c≠b)∧∀p∈X.pn++pins,p.1≠b) :
    Inv X pins σ H' {s with heap:=h',gens:=g',drawn:=d',toks:=t'}:=by
  obtain ⟨m,⟨o,es,ep,ho,r⟩,_⟩:=id I.loc
  obtain ⟨sl,hL⟩:=u.any ho I.free fun z=>(hch _ z).2.1 rfl
  exact I.step (ch:=ch) hch (fun b o hL hb hc e n=>u.keep b o e n (fun z=>(List.mem_cons.mp (I.stkSub b z)).elim hL hb) hc) (fun b o _ _ hc e n=>u.any e n hc) (fun b o hc e n=>u.free b o e n hc) (fun b o hc e=>u.there b o e hc) u.tups u.frzs u.tbls (fun m' hm=>by
    obtain ⟨o',es',ep',ho',r'⟩:=hm
    rw [ho] at ho';cases ho'
    exact ⟨_,es',ep',hL,r'⟩) hok hg
theorem Inv.turned {t':Nat} {it:Addr} (I:Inv X pins σ H s) (k:∀b o,b≠it→s.heap.get? b=some o→h'.get? b=some o) (hn:H it=none) (hL:it≠X.env.locals)
    (h1:it∈X.ex∨X.s₀.heap.objs.size≤it) (h2:∀x c,X.env.cells.lookup x=some c→c≠it) (h3:∀p∈X.pn++pins,p.1≠it):Inv X pins σ H {s with heap:=h',toks:=t'}:=by
  have nit:∀b u,H b=some u→b≠it:=fun b u e z=>by rw [z,hn] at e;cases e
  refine I.step (g':=s.gens) (d':=s.drawn) (ch:=[it]) (fun b hb=>?_) (fun b o _ _ hc e _=>k b o (fun z=>hc (by simp [z])) e) (fun b o _ _ hc e _=>⟨o.slots,k b o (fun z=>hc (by simp [z])) e⟩) (fun _ _ _ _ n=>n)
    (fun b o hc e=>⟨o,k b o (fun z=>hc (by simp [z])) e⟩) (fun _ _ e=>e) (fun _ _ _ e=>e) (fun b ps e=>⟨#[],by rw [e];simp⟩) (fun m hm=>?_) (fun b u e=>?_) I.bare
  · have e:b=it:=by simpa using hb
    subst e
    exact ⟨h1,hL,h2,h3⟩
  · obtain ⟨o,es,ep,ho,r⟩:=hm
    exact ⟨o,es,ep,k _ o (Ne.symm hL) ho,r⟩
  · refine (I.hok b u e).stay (fun c v hc q=>k c v ?_ q) (fun _ q=>q) fun _ _ q=>q
    rcases hc with z|z
    · rw [z];exact nit b u e
    · exact nit c _ z
theorem Inv.tok (I:Inv X pins σ H s) (t:Nat):Inv X pins σ H {s with toks:=t}:=I.un (h':=s.heap) (t':=t) Un.refl I.hok
theorem Inv.kept {t':Nat} (I:Inv X pins σ H s) (k:∀b u,s.heap.get? b=some u→h'.get? b=some u):Inv X pins σ H {s with heap:=h',toks:=t'}:=I.un (Un.kept k) (I.hok.kept k)
theorem Inv.laid {a:Addr} {o:HO} {t':Nat} (I:Inv X pins σ H s) (k:∀b u,s.heap.get? b=some u→h'.get? b=some u) (hp:s.heap.objs.size≤a) (new:ObjOk X.prog X.w (upd H a o) h' a o) :
    Inv X pins σ (upd H a o) {s with heap:=h',toks:=t'}:=I.un (Un.laid k hp (I.hok.fresh hp)) (I.hok.laid k hp new)
theorem Inv.write {x e:Addr} {o:HO} {t':Nat} (I:Inv X pins σ H s) (mu:Mut (H x)) (he:e=x∨H e=some (.own x)) (k:∀b u,b≠e→s.heap.get? b=some u→h'.get? b=some u) (heo:∃u,h'.get? e=some u)
    (new:ObjOk X.prog X.w (upd H x o) h' x o):Inv X pins σ (upd H x o) {s with heap:=h',toks:=t'}:=I.un (Un.write mu he k heo) (I.hok.write mu he k heo new)
theorem Inv.pins_of {pins':List (Addr×Obj)} (I:Inv X pins σ H s) (h:∀p∈pins',s.heap.get? p.1=some p.2∧H p.1=none∧p.1≠X.env.locals∧p.1∉X.fs∧∀v,p.2.data≠.cell v):Inv X pins' σ H s :=
  ⟨I.ok,I.os,I.bare,I.base,I.loc,I.cell,I.free,I.freeC,fun p hp=>(List.mem_append.mp hp).elim (fun z=>I.pin p (List.mem_append_left _ z)) (h p),I.hok,I.len⟩
theorem zg8 {N:List Str} (hN:N.Nodup) {i j:Nat} {x:Str} (a:N[i]?=some x) (b:N[j]?=some x):i=j:=by
  obtain ⟨h1,e1⟩:=List.getElem?_eq_some_iff.mp a
  obtain ⟨h2,e2⟩:=List.getElem?_eq_some_iff.mp b
  exact (List.getElem_inj hN).mp (e1.trans e2.symm)
theorem zff {M:Model} {A:Around} {E:Value→Shared→Prop} {i:Nat} {x:Str} {v:V} {u:Value} {Q:Unit→Shared→Prop} (I:Inv X pins σ H s) (hN:X.N.Nodup) (hi:X.N[i]?=some x) (hx:Loc X.env.scope x) (r:RelV v u)
    (h:∀s',Inv X pins (σ.set i (some v)) H s'→(∃a,Heap.SameBut a s.heap s'.heap∧(a=X.env.locals∨X.env.cells.lookup x=some a))→Q () s') (hf:X.fn x=true∨X.env.scope.names.lookup x=some .local:=by first|exact .inl rfl|exact .inr rfl|assumption):wpAny M A (storeName X.env x u) Q E s:=by
  obtain ⟨m,hn,hl⟩:=id I.loc
  have hcls:(X.env.scope.kind == .class||(X.env.scope.kind == .module&&X.env.locals != X.env.globals))=false:=by rw [I.ok.kind];rfl
  have hiσ:i<σ.length:=by rw [I.len];exact (List.getElem?_eq_some_iff.mp hi).1
  have cne:=I.cne
  have tracked:∀{a:Addr} {h':Heap},(∃o,s.heap.get? a=some o∧H a=none)→Heap.SameBut a s.heap h'→HOk X.prog X.w H h':=fun {a h'} ha hs b ob e=>by
    obtain ⟨_,_,hfree⟩:=ha
    refine (I.hok b ob e).stay (fun c w' hc q=>(hs.2 c ?_).trans q) (fun _ q=>q) fun _ _ q=>q
    rintro rfl
    rcases hc with rfl|hc
    · rw [hfree] at e;cases e
    · rw [hfree] at hc;cases hc
  rcases hx with hk|hk
  · refine wpAny_storeName_local hk hn (fun h' hn' hs=>?_) hcls
    obtain ⟨oL,_,_,hoL,_⟩:=id hn
    refine h _ ⟨I.ok,I.os,I.bare,⟨fun b o e n hb hx=>?_,fun b o e n hb hx=>?_,I.base.free,fun b o e hx=>?_,I.base.tups,I.base.frzs,I.base.tbls⟩,⟨_,hn',fun j y v' e1 e2 e3=>?_⟩,fun y c e=>?_,I.free,I.freeC,fun p hp=>?_,tracked ⟨oL,hoL,I.free⟩ hs,by simpa using I.len⟩ ⟨_,hs,.inl rfl⟩
    · exact (hs.2 b (Nat.ne_of_lt (Nat.lt_of_lt_of_le (Heap.lt_size e) I.ok.above))).trans (I.base.keep b o e n hb hx)
    · obtain ⟨sl,e1⟩:=I.base.slot b o e n hb hx
      exact ⟨sl,(hs.2 b (Nat.ne_of_lt (Nat.lt_of_lt_of_le (Heap.lt_size e) I.ok.above))).trans e1⟩
    · obtain ⟨o',e1⟩:=I.base.there b o e hx
      exact ⟨o',(hs.2 b (Nat.ne_of_lt (Nat.lt_of_lt_of_le (Heap.lt_size e) I.ok.above))).trans e1⟩
    · by_cases hj:j=i
      · subst hj
        rw [hi] at e1;cases e1
        rw [List.getElem?_set_self hiσ] at e2
        cases e2
        exact ⟨u,r,.inl ⟨hk,by simp⟩⟩
      · rw [List.getElem?_set_ne (Ne.symm hj)] at e2
        obtain ⟨u',r',q⟩:=hl j y v' e1 e2 e3
        refine ⟨u',r',?_⟩
        rcases q with ⟨k,e⟩|⟨k,c,e,z⟩
        · refine .inl ⟨k,?_⟩
          have:y≠x:=fun e=>hj (zg8 hN e1 (e▸hi))
          simp [this,e]
        · exact .inr ⟨k,c,e,z.sameBut hs (cne y c e)⟩
    · obtain ⟨w',z⟩:=I.cell y c e
      exact ⟨w',z.sameBut hs (cne y c e)⟩
    · obtain ⟨e,n,ne,nf,d⟩:=I.pin p hp
      exact ⟨(hs.2 p.1 ne).trans e,n,ne,nf,d⟩
  · have hfn:X.fn x=true:=by
      rcases hf with z|z
      · exact z
      · rw [z] at hk;cases hk
    obtain ⟨c,hc⟩:=I.ok.has x (.inl hk)
    obtain ⟨w',z⟩:=I.cell x c hc
    refine wpAny_storeName_cell I.ok.kind hk hc z (fun h' hc' hs=>?_)
    obtain ⟨oc,hoc,hocd⟩:=id z
    refine h {s with heap:=h'} ⟨I.ok,I.os,I.bare,⟨fun b o e n hb hx=>?_,fun b o e n hb hx=>?_,I.base.free,fun b o e hx=>?_,I.base.tups,I.base.frzs,I.base.tbls⟩,⟨m,hn.sameBut hs (Ne.symm (cne x c hc)),fun j y v' e1 e2 e3=>?_⟩,fun y c' e=>?_,I.free,I.freeC,fun p hp=>?_,tracked ⟨oc,hoc,I.freeC x c hc⟩ hs,by simpa using I.len⟩ ⟨c,hs,.inr hc⟩
    · exact (hs.2 b (Nat.ne_of_lt (Nat.lt_of_lt_of_le (Heap.lt_size e) (I.ok.cab x c hfn hc)))).trans (I.base.keep b o e n hb hx)
    · obtain ⟨sl,e1⟩:=I.base.slot b o e n hb hx
      exact ⟨sl,(hs.2 b (Nat.ne_of_lt (Nat.lt_of_lt_of_le (Heap.lt_size e) (I.ok.cab x c hfn hc)))).trans e1⟩
    · obtain ⟨o',e1⟩:=I.base.there b o e hx
      exact ⟨o',(hs.2 b (Nat.ne_of_lt (Nat.lt_of_lt_of_le (Heap.lt_size e) (I.ok.cab x c hfn hc)))).trans e1⟩
    · by_cases hj:j=i
      · subst hj
        rw [hi] at e1;cases e1
        rw [List.getElem?_set_self hiσ] at e2
        cases e2
        exact ⟨u,r,.inr ⟨.inl hk,c,hc,hc'⟩⟩
      · rw [List.getElem?_set_ne (Ne.symm hj)] at e2
        obtain ⟨u',r',q⟩:=hl j y v' e1 e2 e3
        refine ⟨u',r',?_⟩
        rcases q with q|⟨k,c',e,z'⟩
        · exact .inl q
        · refine .inr ⟨k,c',e,z'.sameBut hs ?_⟩
          rintro rfl
          exact hj (zg8 hN e1 (I.ok.inj _ _ _ e hc▸hi))
    · by_cases hcc:c'=c
      · subst hcc;exact ⟨_,hc'⟩
      · obtain ⟨w2,z2⟩:=I.cell y c' e
        exact ⟨w2,z2.sameBut hs hcc⟩
    · obtain ⟨e,n,ne,nf,d⟩:=I.pin p hp
      refine ⟨(hs.2 p.1 ?_).trans e,n,ne,nf,d⟩
      intro q
      rw [q,hoc] at e
      have q':oc=p.2:=Option.some.inj e
      exact d w' (by rw [←q'];exact hocd)
theorem zgs {M:Model} {A:Around} {E:Value→Shared→Prop} {i:Nat} {x:Str} {v:V} {u:Value} {Q:Unit→Shared→Prop} (I:Inv X pins σ H s) (hN:X.N.Nodup) (hi:X.N[i]?=some x) (hx:Loc X.env.scope x) (r:RelV v u)
    (h:∀s',Inv X pins (σ.set i (some v)) H s'→Q () s') (hf:X.fn x=true∨X.env.scope.names.lookup x=some .local:=by first|exact .inl rfl|exact .inr rfl|assumption):wpAny M A (storeName X.env x u) Q E s :=
  zff I hN hi hx r (fun s' I' _=>h s' I') hf
theorem Inv.call' {s':Shared} {ch:List Addr} (I:Inv X pins σ H s) (ho:s'.os=s.os) (u:Un (frs X.stack) ch H H' s.heap s'.heap) (hok:HOk X.prog X.w H' s'.heap) (hg:AllBare s'.gens)
    (hch:∀b∈ch,(b∈X.ex∨X.s₀.heap.objs.size≤b)∧b≠X.env.locals∧(∀x c,X.env.cells.lookup x=some c→c≠b)∧∀p∈X.pn++pins,p.1≠b):Inv X pins σ H' s':=by
  obtain ⟨h',g',d',t',o'⟩:=s'
  have e:o'=s.os:=ho
  subst e
  exact I.call (g':=g') (t':=t') (d':=d') u hok hg hch
end
noncomputable abbrev XK:=Value→Option Addr→Hp→Prop
noncomputable abbrev St:=List (Option V)
noncomputable abbrev VK:=V→Hp→Prop
noncomputable abbrev TE:=St→Hp→VK→Prop
noncomputable abbrev TT:=St→Hp→(Bool→Hp→Prop)→Prop
noncomputable abbrev TA:=St→Hp→(List V→Hp→Prop)→Prop
structure Ends where
  nx:St→Hp→Prop
  rt:VK
  bk:St→Hp→Prop:=fun _ _=>False
  ct:St→Hp→Prop:=fun _ _=>False
noncomputable abbrev TS:=Ends→St→Hp→Prop
inductive EP (X:Cx) (pins:List (Addr×Obj)) (σ:St) (Q:VK) (u:Value) (s':Shared):Prop where
  | mk (v:V) (H':Hp) (I:Inv X pins σ H' s') (r:RelV v u) (q:Q v H')
def TP (X:Cx) (pins:List (Addr×Obj)) (σ:St) (Q:Bool→Hp→Prop) (b:Bool) (s':Shared):Prop:=∃H',Inv X pins σ H' s'∧Q b H'
inductive AP (X:Cx) (pins:List (Addr×Obj)) (σ:St) (Q:List V→Hp→Prop) (us:List Value) (s':Shared):Prop where
  | mk (vs:List V) (H':Hp) (I:Inv X pins σ H' s') (r:Vals vs us) (q:Q vs H')
def SP (X:Cx) (pins:List (Addr×Obj)) (D:Ends) (f:Flow) (s':Shared):Prop :=
  match f with
  | .next=>∃σ' H',Inv X pins σ' H' s'∧D.nx σ' H'
  | .brk=>∃σ' H',Inv X pins σ' H' s'∧D.bk σ' H'
  | .cont=>∃σ' H',Inv X pins σ' H' s'∧D.ct σ' H'
  | .ret u=>∃v σ' H',Inv X pins σ' H' s'∧RelV v u∧D.rt v H'
def PE (X:Cx) (e:Expr) (t:TE):Prop :=
  ∀(pins:List (Addr×Obj)) (s:Shared) (σ:St) (H:Hp) (Q:VK),Inv X pins σ H s→t σ H Q→wpAny (model X.prog X.w) X.A (eval e X.env) (EP X pins σ Q) X.xe s
def PT (X:Cx) (e:Expr) (t:TT):Prop :=
  ∀(pins:List (Addr×Obj)) (s:Shared) (σ:St) (H:Hp) (Q:Bool→Hp→Prop),Inv X pins σ H s→t σ H Q→wpAny (model X.prog X.w) X.A (isTrue e X.env (eval e X.env)) (TP X pins σ Q) X.xe s
def PW (X:Cx) (e:Expr) (t:TT):Prop :=
  ∀(whole:Sem Value) (pins:List (Addr×Obj)) (s:Shared) (σ:St) (H:Hp) (Q:Bool→Hp→Prop),Inv X pins σ H s→t σ H Q→wpAny (model X.prog X.w) X.A (isTrue e X.env whole) (TP X pins σ Q) X.xe s
theorem PW.pt {X:Cx} {e:Expr} {t:TT} (h:PW X e t):PT X e t:=h _
def PA (X:Cx) (es:List Expr) (t:TA):Prop :=
  ∀(pos:Pos) (pins:List (Addr×Obj)) (s:Shared) (σ:St) (H:Hp) (Q:List V→Hp→Prop),Inv X pins σ H s→t σ H Q→wpAny (model X.prog X.w) X.A (spliced (backTo pos (starEach es X.env))) (AP X pins σ Q) X.xe s
def PS (X:Cx) (st:Stmt) (t:TS):Prop :=
  ∀(pins:List (Addr×Obj)) (s:Shared) (σ:St) (H:Hp) (D:Ends),Inv X pins σ H s→t D σ H→wpAny (model X.prog X.w) X.A (exec st X.env) (SP X pins D) X.xe s
def PSs (X:Cx) (st:List Stmt) (t:TS):Prop :=
  ∀(pins:List (Addr×Obj)) (s:Shared) (σ:St) (H:Hp) (D:Ends),Inv X pins σ H s→t D σ H→wpAny (model X.prog X.w) X.A (execs st X.env) (SP X pins D) X.xe s
theorem thn {α:Type} {t:Sem α} {Q Q':α→Shared→Prop} {M:Model} {A:Around} {E:Value→Shared→Prop} {s:Shared} (h:wpAny M A t Q E s) (hQ:∀a s,Q a s→Q' a s):wpAny M A t Q' E s:=wpAny_mono h hQ fun _ _ x=>x
end L2
namespace L2
open PySem PySem.Spec PyProof.Rows
section
variable {X:Cx}
def tVar (i:Nat):TE:=fun σ H Q=>∃v,σ[i]?=some (some v)∧Q v H
def tC (v:V):TE:=fun _ H Q=>Q v H
theorem pe_var {i:Nat} {x:Str} {pos:Pos} (hN:X.N[i]?=some x) (hv:Vis X.env.scope x) (hd:(x==("__debug__":Str))=false:=by decide) (hcd:(x==("__classdict__":Str))=false:=by decide):PE X (.Name x pos) (tVar i):=by
  intro pins s σ H Q I h
  obtain ⟨v,e,h⟩:=h
  obtain ⟨m,hn,hl⟩:=I.loc
  obtain ⟨u,r,l⟩:=hl i x v hN e hv
  have fin:EP X pins σ Q u s:=⟨v,H,I,r,h⟩
  rcases l with ⟨hk,hm⟩|⟨hk,c,hc,hcell⟩
  · exact wpAny_Name (wpAny_loadName_local I.ok.kind hk hn hm fin) hd
  · rcases hk with hk|hk
    · exact wpAny_Name (wpAny_loadName_cell I.ok.kind hk hc hcell fin) hd
    · exact wpAny_Name (wpAny_loadName_free I.ok.kind hk hc hcell fin hcd) hd
theorem pe_int {i j pos}:PE X (.Constant (.int i) j pos) (tC (.int i)):=fun _ _ _ H _ I h=>wpAny_Constant_int ⟨.int i,H,I.tok _,⟨_,rfl⟩,h⟩
theorem pe_bl {b j pos}:PE X (.Constant (.bool b) j pos) (tC (.bl b)):=fun _ _ _ H _ I h=>Constant_bool ⟨.bl b,H,I,rfl,h⟩
theorem pe_non {j pos}:PE X (.Constant .none j pos) (tC .non):=fun _ _ _ H _ I h=>Constant_none ⟨.non,H,I,rfl,h⟩
theorem zll {x j pos}:PE X (.Constant (.str x) j pos) (tC (.str x)):=fun _ _ _ H _ I h=>Calls.Constant_str ⟨.str x,H,I.tok _,⟨_,rfl⟩,h⟩
def Gl (X:Cx) (x:Str):Prop:=X.env.kindOf x=some .globalImplicit
theorem zfu {E:Value→Shared→Prop} {pins:List (Addr×Obj)} {s:Shared} {σ:St} {H:Hp} {x:Str} {u:Value} {pos:Pos} {Q:Value→Shared→Prop} (I:Inv X pins σ H s) (hg:Gl X x) (hm:X.mg x=some u) (h:Q u s)
    (hd:(x==("__debug__":Str))=false:=by decide):wpAny (model X.prog X.w) X.A (eval (.Name x pos) X.env) Q E s :=
  Calls.Name_function_global I.ok.kind hg (Calls.loadGlobal_global (by rw [I.ok.glob];exact I.mod.glob.keeps I.bk) hm h) hd
theorem zjw {E:Value→Shared→Prop} {pins:List (Addr×Obj)} {s:Shared} {σ:St} {H:Hp} {x:Str} {u:Value} {pos:Pos} {Q:Value→Shared→Prop} (I:Inv X pins σ H s) (hg:Gl X x) (hm:X.mg x=none) (hv:bootBuiltins x=some u) (h:Q u s)
    (hn:x≠"__name__":=by decide) (hd:(x==("__debug__":Str))=false:=by decide):wpAny (model X.prog X.w) X.A (eval (.Name x pos) X.env) Q E s:=by
  obtain ⟨mb,h1,h2⟩:=I.mod.blt
  exact Calls.Name_function_global I.ok.kind hg (Calls.loadGlobal_builtin (by rw [I.ok.glob];exact I.mod.glob.keeps I.bk) hm (by rw [I.ok.blt];exact h1.keeps I.bk) ((h2 x hn).trans hv) h) hd
theorem zln {x:Str} {v:V} {u:Value} {pos:Pos} (hg:Gl X x) (hm:X.mg x=some u) (r:RelV v u) (hd:(x==("__debug__":Str))=false:=by decide):PE X (.Name x pos) (tC v) :=
  fun _ _ _ H _ I h=>zfu I hg hm ⟨v,H,I,r,h⟩ hd
theorem zpw {x:Str} {v:V} {u:Value} {pos:Pos} (hg:Gl X x) (hm:X.mg x=none) (hv:bootBuiltins x=some u) (r:RelV v u) (hn:x≠"__name__":=by decide) (hd:(x==("__debug__":Str))=false:=by decide):PE X (.Name x pos) (tC v) :=
  fun _ _ _ H _ I h=>zjw I hg hm hv ⟨v,H,I,r,h⟩ hn hd
variable {a b:Expr} {ta tb:TE} {pos:Pos}
def tB (t:TE):TT:=fun σ H Q=>t σ H fun x H1=>∃c,x=.bl c∧Q c H1
theorem pt_val {e:Expr} {t:TE} (h:PE X e t) (he:∀whole,isTrue e X.env whole=(do let v ←whole;standAt e.pos;holding [v] (truthy v)):=by intro _;rfl):PT X e (tB t):=by
  intro pins s σ H Q I hw
  refine isTrue_plain (thn (h pins s σ H _ I hw) fun v s1 ⟨x,H1,I1,r1,q1⟩=>?_) (he _)
  obtain ⟨d,rfl,q⟩:=q1
  cases r1
  exact wpAny_truthy_bool ⟨H1,I1,q⟩
variable {tA tB':TT} {rest:List Expr}
def tAnd (t u:TT):TT:=fun σ H Q=>t σ H fun c H1=>if c=true then u σ H1 Q else Q false H1
def tOr (t u:TT):TT:=fun σ H Q=>t σ H fun c H1=>if c=true then Q true H1 else u σ H1 Q
def tNot (t:TT):TT:=fun σ H Q=>t σ H fun c H1=>Q (!c) H1
theorem zph (ha:PT X a tA):PW X (.BoolOp .And [a] pos) tA:=by
  intro wh pins s σ H Q I h
  refine isTrue_and (thn (ha pins s σ H Q I h) fun c s1 e=>?_)
  cases c with
  | true=>exact isTrue_and_nil e
  | false=>exact e
theorem pw_or1 (ha:PT X a tA):PW X (.BoolOp .Or [a] pos) tA:=by
  intro wh pins s σ H Q I h
  refine isTrue_or (thn (ha pins s σ H Q I h) fun c s1 e=>?_)
  cases c with
  | false=>exact isTrue_or_nil e
  | true=>exact e
theorem pw_and (ha:PT X a tA) (hb:PW X (.BoolOp .And (b::rest) pos) tB'):PW X (.BoolOp .And (a::b::rest) pos) (tAnd tA tB'):=by
  intro wh pins s σ H Q I h
  refine isTrue_and (thn (ha pins s σ H _ I h) fun c s1 ⟨H1,I1,q1⟩=>?_)
  cases c with
  | true=>exact hb wh pins s1 σ H1 Q I1 q1
  | false=>exact ⟨H1,I1,q1⟩
theorem pw_or (ha:PT X a tA) (hb:PW X (.BoolOp .Or (b::rest) pos) tB'):PW X (.BoolOp .Or (a::b::rest) pos) (tOr tA tB'):=by
  intro wh pins s σ H Q I h
  refine isTrue_or (thn (ha pins s σ H _ I h) fun c s1 ⟨H1,I1,q1⟩=>?_)
  cases c with
  | true=>exact ⟨H1,I1,q1⟩
  | false=>exact hb wh pins s1 σ H1 Q I1 q1
theorem pt_not (ha:PT X a tA):PT X (.UnaryOp .Not a pos) (tNot tA):=by
  intro pins s σ H Q I h
  exact isTrue_not (ha pins s σ H (fun c H1=>Q (!c) H1) I h)
def tAndV (ta tb:TE):TE:=fun σ H Q=>ta σ H fun x H1=>∃c,x=.bl c∧if c=true then tb σ H1 Q else Q (.bl false) H1
def tNotV (ta:TE):TE:=fun σ H Q=>ta σ H fun x H1=>∃c,x=.bl c∧Q (.bl (!c)) H1
theorem pe_one {op} {t:TE} (h:PE X a t):PE X (.BoolOp op [a] pos) t:=fun pins s σ H Q I hw=>BoolOp_one (h pins s σ H Q I hw)
theorem pe_and (ha:PE X a ta) (hb:PE X (.BoolOp .And (b::rest) pos) tb):PE X (.BoolOp .And (a::b::rest) pos) (tAndV ta tb):=by
  intro pins s σ H Q I h
  refine BoolOp_and (thn (ha pins s σ H _ I h) fun v s1 ⟨x,H1,I1,r1,q1⟩=>?_)
  obtain ⟨c,rfl,q1⟩:=q1
  cases r1
  refine wpAny_truthy_bool ?_
  cases c with
  | true=>exact hb pins s1 σ H1 Q I1 q1
  | false=>exact ⟨.bl false,H1,I1,rfl,q1⟩
theorem pe_not (ha:PE X a ta):PE X (.UnaryOp .Not a pos) (tNotV ta):=by
  intro pins s σ H Q I h
  refine UnaryOp_ (thn (ha pins s σ H _ I h) fun v s1 ⟨x,H1,I1,r1,q1⟩=>?_)
  obtain ⟨c,rfl,q1⟩:=q1
  cases r1
  exact not_of (wpAny_truthy_bool ⟨.bl (!c),H1,I1,rfl,q1⟩)
def tIf (t:TT) (ta tb:TE):TE:=fun σ H Q=>t σ H fun c H1=>if c=true then ta σ H1 Q else tb σ H1 Q
theorem znv {c:Expr} (hc:PT X c tA) (ha:PE X a ta) (hb:PE X b tb):PE X (.IfExp c a b pos) (tIf tA ta tb):=by
  intro pins s σ H Q I h
  refine wpAny_IfExp (thn (hc pins s σ H _ I h) fun d s1 ⟨H1,I1,q1⟩=>?_)
  cases d with
  | true=>exact ha pins s1 σ H1 Q I1 q1
  | false=>exact hb pins s1 σ H1 Q I1 q1
end
end L2
namespace L2
open PySem PySem.Spec PyProof.Rows
def SqL (K:PySem.W.Frag) (H:Hp) (a:Addr) (xs:List V):Prop :=
  Rd H a (.lst xs) ∨
    ∃(o:Obj) (its:Array Value) (n:Nat),K.lookup a=some o∧o.cls=.type "list"∧o.dict=none∧o.data=.seq its n∧its.size≤sizeLine∧Vals xs its.toList
def SqT (K:PySem.W.Frag) (H:Hp) (a:Addr) (xs:List V):Prop :=
  Rd H a (.tup xs) ∨
    ∃(o:Obj) (its:Array Value) (n:Nat),K.lookup a=some o∧o.cls=.type "tuple"∧o.dict=none∧o.data=.seq its n∧its.size≤sizeLine∧Vals xs its.toList
noncomputable def absV:Value→Option V
  | .none=>some .non
  | .bool b=>some (.bl b)
  | .int i _=>some (.int i)
  | .str x _=>some (.str x)
  | .bytes b _=>some (.byt b)
  | .float b _=>some (.flt b)
  | .ref a=>some (.ref a)
  | .type n=>some (.ty n)
  | _=>none
theorem RelV.abs {x:V} {u:Value} (r:RelV x u):absV u=some x:=by
  cases x with
  | non=>cases r;rfl
  | bl _=>cases r;rfl
  | int _=>obtain ⟨t,rfl⟩:=r;rfl
  | str _=>obtain ⟨t,rfl⟩:=r;rfl
  | byt _=>obtain ⟨t,rfl⟩:=r;rfl
  | flt _=>obtain ⟨t,rfl⟩:=r;rfl
  | ref _=>cases r;rfl
  | ty _=>cases r;rfl
theorem RelV.inj {x y:V} {u:Value} (r:RelV x u) (q:RelV y u):x=y:=Option.some.inj (r.abs.symm.trans q.abs)
theorem Vals.inj:∀{xs ys:List V} {us:List Value},Vals xs us→Vals ys us→xs=ys
  | _,_,_,.nil,.nil=>rfl
  | _,_,_,.cons r t,.cons r' t'=>by rw [r.inj r',Vals.inj t t']
section
variable {X:Cx} {pins:List (Addr×Obj)} {σ:St} {H:Hp} {s:Shared} {a:Addr} {xs ys:List V}
theorem SqL.of {K:PySem.W.Frag} (h:H a=some (.lst xs)):SqL K H a xs:=.inl (.inl h)
theorem SqT.of {K:PySem.W.Frag} (h:H a=some (.tup xs)):SqT K H a xs:=.inl (.inl h)
theorem Inv.list (I:Inv X pins σ H s) (h:SqL X.K H a xs):∃its:List Value,Vals xs its∧PlainL s.heap a its.toArray∧xs.length≤sizeLine:=by
  rcases h with h|⟨o,its,n,hk,hc,hd,hs,hz,r⟩
  · obtain ⟨z,its,n,r,e⟩:=h.ok I.hok
    exact ⟨its,r,⟨_,n,e,rfl,rfl,rfl⟩,z⟩
  · refine ⟨its.toList,r,⟨o,n,I.kIn a o hk,hc,hd,by simpa using hs⟩,?_⟩
    have e:=r.length
    simp only [Array.length_toList] at e
    omega
theorem Inv.tuple (I:Inv X pins σ H s) (h:SqT X.K H a xs):∃its:List Value,Vals xs its∧IsTup s.heap a its.toArray∧xs.length≤sizeLine:=by
  rcases h with h|⟨o,its,n,hk,hc,_,hs,hz,r⟩
  · obtain ⟨z,its,r,p,_⟩:=h.ok I.hok
    exact ⟨its,r,p,z⟩
  · refine ⟨its.toList,r,⟨o,I.kIn a o hk,hc,n,by simpa using hs⟩,?_⟩
    have e:=r.length
    simp only [Array.length_toList] at e
    omega
theorem Inv.list_inj (I:Inv X pins σ H s) (h:SqL X.K H a xs) (h':SqL X.K H a ys):xs=ys:=by
  obtain ⟨its,r,⟨o,n,e,_,_,d⟩,_⟩:=I.list h
  obtain ⟨its',r',⟨o',n',e',_,_,d'⟩,_⟩:=I.list h'
  rw [e] at e';cases e'
  rw [d] at d'
  injection d' with d1 _
  have:its=its':=by simpa using congrArg Array.toList d1
  subst this
  exact r.inj r'
theorem Inv.tuple_inj (I:Inv X pins σ H s) (h:SqT X.K H a xs) (h':SqT X.K H a ys):xs=ys:=by
  obtain ⟨its,r,⟨o,e,_,n,d⟩,_⟩:=I.tuple h
  obtain ⟨its',r',⟨o',e',_,n',d'⟩,_⟩:=I.tuple h'
  rw [e] at e';cases e'
  rw [d] at d'
  injection d' with d1 _
  have:its=its':=by simpa using congrArg Array.toList d1
  subst this
  exact r.inj r'
end
noncomputable abbrev Cx.wish (X:Cx) (E:Value→Shared→Prop):Cx:={X with xe:=E}
noncomputable abbrev Cx.nox (X:Cx):Cx:=X.wish fun _ _=>False
theorem Cx.Ok.wish {X:Cx} (ok:X.Ok) (E:Value→Shared→Prop):(X.wish E).Ok :=
  ⟨ok.mod,ok.kind,ok.glob,ok.blt,ok.above,ok.inj,ok.has,ok.cab,ok.hd,ok.frames,ok.stk,ok.exf,ok.bs,ok.bsz,ok.noex,ok.exfs,ok.funs,ok.frf⟩
theorem Cx.Ok.unwish {X:Cx} {E:Value→Shared→Prop} (ok:(X.wish E).Ok):X.Ok :=
  ⟨ok.mod,ok.kind,ok.glob,ok.blt,ok.above,ok.inj,ok.has,ok.cab,ok.hd,ok.frames,ok.stk,ok.exf,ok.bs,ok.bsz,ok.noex,ok.exfs,ok.funs,ok.frf⟩
section
variable {X:Cx} {pins:List (Addr×Obj)} {σ:St} {H:Hp} {s:Shared} {E:Value→Shared→Prop}
theorem Inv.wish (I:Inv X pins σ H s) (E:Value→Shared→Prop):Inv (X.wish E) pins σ H s:=⟨I.ok.wish E,I.os,I.bare,I.base,I.loc,I.cell,I.free,I.freeC,I.pin,I.hok,I.len⟩
theorem Inv.unwish (I:Inv (X.wish E) pins σ H s):Inv X pins σ H s:=⟨I.ok.unwish,I.os,I.bare,I.base,I.loc,I.cell,I.free,I.freeC,I.pin,I.hok,I.len⟩
theorem SP.unwish {D:Ends} {f:Flow} {s':Shared} (h:SP (X.wish E) pins D f s'):SP X pins D f s':=by
  cases f with
  | next=>obtain ⟨σ',H',I,q⟩:=h;exact ⟨σ',H',I.unwish,q⟩
  | brk=>obtain ⟨σ',H',I,q⟩:=h;exact ⟨σ',H',I.unwish,q⟩
  | cont=>obtain ⟨σ',H',I,q⟩:=h;exact ⟨σ',H',I.unwish,q⟩
  | ret u=>obtain ⟨v,σ',H',I,r,q⟩:=h;exact ⟨v,σ',H',I.unwish,r,q⟩
theorem PSs.nox {st:List Stmt} {t:TS} (h:PSs X.nox st t):PSs X st t:=fun pins s σ H D I hw =>
  wpAny_mono (h pins s σ H D (I.wish _) hw) (fun _ _ q=>q.unwish) fun _ _ z=>False.elim z
end
section
variable {X:Cx} {st:Stmt} {rest:List Stmt} {t u:TS} {e:Expr} {te:TE} {pos:Pos}
def tNext:TS:=fun D σ H=>D.nx σ H
def tSeq (t u:TS):TS:=fun D σ H=>t {D with nx:=u D} σ H
theorem zpl:PSs X [] tNext:=fun _ _ σ H _ I h=>wpAny_execs_nil ⟨σ,H,I,h⟩
theorem znl (h1:PS X st t) (h2:PSs X rest u):PSs X (st::rest) (tSeq t u):=by
  intro pins s σ H D I h
  refine wpAny_execs_cons (thn (h1 pins s σ H {D with nx:=u D} I h) fun f s1 q=>?_)
  cases f with
  | next =>
    obtain ⟨σ',H',I',q⟩:=q
    exact h2 pins s1 σ' H' D I' q
  | ret v=>exact q
  | brk=>exact q
  | cont=>exact q
theorem zpk (h1:PS X st t):PSs X [st] t:=by
  intro pins s σ H D I h
  refine wpAny_execs_cons (thn (h1 pins s σ H D I h) fun f s1 q=>?_)
  cases f with
  | next=>exact wpAny_execs_nil q
  | ret v=>exact q
  | brk=>exact q
  | cont=>exact q
theorem Inv.quiet {pins:List (Addr×Obj)} {σ:St} {H:Hp} {s:Shared} (I:Inv X pins σ H s):interactive X.env=false:=by simp [interactive,I.ok.kind]
def tDrop (te:TE):TS:=fun D σ H=>te σ H fun _ H1=>D.nx σ H1
theorem zpm (he:PE X e te) (hs:swapsWith e none pos.line X.env=pure false:=by rfl):PS X (.Expr e pos) (tDrop te):=by
  intro pins s σ H D I h
  exact wpAny_Expr_any (thn (he pins s σ H _ I h) fun v s1 z_4=>by obtain ⟨x,H1,I1,r1,q1⟩:=z_4;exact ⟨σ,H1,I1,q1⟩) I.quiet hs
def tRet (te:TE):TS:=fun D σ H=>te σ H D.rt
theorem ps_ret (he:PE X e te):PS X (.Return (some e) pos) (tRet te):=by
  intro pins s σ H D I h
  exact wpAny_Return_some (thn (he pins s σ H _ I h) fun v s1 z_5=>by obtain ⟨x,H1,I1,r1,q1⟩:=z_5;exact ⟨x,σ,H1,I1,r1,q1⟩)
def tIfS (c:TT) (t u:TS):TS:=fun D σ H=>c σ H fun b H1=>if b=true then t D σ H1 else u D σ H1
theorem ps_if {c:Expr} {a b:List Stmt} {tc:TT} (hc:PT X c tc) (ha:PSs X a t) (hb:PSs X b u):PS X (.If c a b pos) (tIfS tc t u):=by
  intro pins s σ H D I h
  refine wpAny_If (thn (hc pins s σ H _ I h) fun d s1 ⟨H1,I1,q1⟩=>?_)
  cases d with
  | true=>exact ha pins s1 σ H1 D I1 q1
  | false=>exact hb pins s1 σ H1 D I1 q1
end
noncomputable abbrev TG:=V→St→Hp→(St→Hp→Prop)→Prop
def PG (X:Cx) (target:Expr) (t:TG):Prop :=
  ∀(pins:List (Addr×Obj)) (s:Shared) (σ:St) (H:Hp) (v:V) (u:Value) (Q:St→Hp→Prop),Inv X pins σ H s→RelV v u→t v σ H Q →
    wpAny (model X.prog X.w) X.A (assign target X.env u) (fun _ s'=>∃σ' H',Inv X pins σ' H' s'∧Q σ' H') X.xe s
noncomputable abbrev TSet:=V→V→V→Hp→(Hp→Prop)→Prop
def PSet (X:Cx) (t:TSet):Prop :=
  ∀(pins:List (Addr×Obj)) (s:Shared) (σ:St) (H:Hp) (o i v:V) (ov iv u:Value) (Q:Hp→Prop),Inv X pins σ H s→RelV o ov→RelV i iv→RelV v u→t o i v H Q →
    wpAny (model X.prog X.w) X.A (setItem ov iv u) (fun _ s'=>∃H',Inv X pins σ H' s'∧Q H') X.xe s
section
variable {X:Cx} {pos:Pos}
def gName (i:Nat):TG:=fun v σ H Q=>Q (σ.set i (some v)) H
theorem zlk {i:Nat} {x:Str} (hN:X.N.Nodup) (hi:X.N[i]?=some x) (hx:Loc X.env.scope x) (hf:X.fn x=true∨X.env.scope.names.lookup x=some .local:=by first|exact .inl rfl|exact .inr rfl|assumption):PG X (.Name x pos) (gName i):=by
  intro pins s σ H v u Q I r h
  exact wpAny_assign_Name (zgs I hN hi hx r (fun s' I'=>⟨_,H,I',h⟩) hf)
def gSub (to ti:TE) (t:TSet):TG:=fun v σ H Q=>to σ H fun o H1=>ti σ H1 fun i H2=>t o i v H2 fun H3=>Q σ H3
theorem pg_sub {o i:Expr} {to ti:TE} {t:TSet} (ho:PE X o to) (hi:PE X i ti) (hs:PSet X t)
    (ha:∀v,assign (.Subscript o i pos) X.env v=(do
      let ov ←holding [v] (eval o X.env)
      let iv ←holding [v,ov] (eval i X.env)
      standAt pos
      holding [v,ov,iv] (setItem ov iv v)
      release [v,ov,iv] []):=by intro _;rfl):PG X (.Subscript o i pos) (gSub to ti t):=by
  intro pins s σ H v u Q I r h
  rw [ha]
  refine wpAny_bind (wpAny_holding (thn (ho pins s σ H _ I h) fun ov s1 ⟨x,H1,I1,r1,q1⟩=>?_))
  refine wpAny_bind (wpAny_holding (thn (hi pins s1 σ H1 _ I1 q1) fun iv s2 ⟨y,H2,I2,r2,q2⟩=>?_))
  refine wpAny_bind (wpAny_standAt (wpAny_bind (wpAny_holding (thn (hs pins s2 σ H2 x y v ov iv u _ I2 r1 r2 r q2) fun _ s3 ⟨H3,I3,q3⟩=>?_))))
  exact wpAny_release ⟨σ,H3,I3,q3⟩
def tAsg (te:TE) (g:TG):TS:=fun D σ H=>te σ H fun x H1=>g x σ H1 D.nx
theorem ps_asg {tg e:Expr} {te:TE} {g:TG} (he:PE X e te) (hg:PG X tg g) (hs:swapsWithSole [tg] e pos.line X.env=pure false:=by rfl) (hw:swappedStores [tg] e X.env=pure none:=by rfl)
    (h1:(assignEach [tg] X.env).map (·.2)=[assign tg X.env]:=by rfl):PS X (.Assign [tg] e pos) (tAsg te g):=by
  intro pins s σ H D I h
  refine wpAny_Assign_stores (thn (he pins s σ H _ I h) fun v s1 ⟨x,H1,I1,r1,q1⟩=>?_) hs hw
  rw [h1]
  exact thn (hg pins s1 σ H1 x v _ I1 r1 q1) fun _ s2 q=>q
theorem ps_set {i:Nat} {x:Str} {e:Expr} {te:TE} {pos':Pos} (hN:X.N.Nodup) (hi:X.N[i]?=some x) (hx:Loc X.env.scope x) (he:PE X e te) (hs:swapsWith e (some (.Name x pos')) pos.line X.env=pure false:=by rfl) (hf:X.fn x=true∨X.env.scope.names.lookup x=some .local:=by first|exact .inl rfl|exact .inr rfl|assumption) :
    PS X (.Assign [.Name x pos'] e pos) (tAsg te (gName i)):=by
  intro pins s σ H D I h
  refine wpAny_Assign_Name (thn (he pins s σ H _ I h) fun v s1 ⟨y,H1,I1,r1,q1⟩=>?_) hs
  exact zgs I1 hN hi hx r1 (fun s2 I2=>⟨_,H1,I2,q1⟩) hf
end
section
variable {X:Cx} {pos:Pos}
def tWhile (c:TT) (tb:TS):TS:=fun D σ H=>∃W:Nat→St→Hp→Prop,(∃m,W m σ H)∧∀m σ H,W m σ H →
  c σ H fun b H1=>if b=true then ∃N:St→Hp→Prop,(∀σ' H',N σ' H'→∃m',m'<m∧W m' σ' H')∧tb {D with nx:=N,ct:=N,bk:=D.nx} σ H1 else D.nx σ H1
theorem znm {c:Expr} {body:List Stmt} {tc:TT} {tb:TS} (hp:PassesOwn (model X.prog X.w) X.A X.env X.xe) (hc:PT X c tc) (hb:PSs X body tb):PS X (.While c body [] pos) (tWhile tc tb):=by
  intro pins s σ H D I h
  obtain ⟨W,⟨m0,w0⟩,turn⟩:=h
  refine wpAny_While (codeAny_whileLoop (fun n s'=>∃σ' H',Inv X pins σ' H' s'∧W n σ' H') ?_ m0 ⟨σ,H,I,w0⟩)
  rintro n s1 ⟨σ1,H1,I1,w1⟩
  refine wpAny_passesOwn hp (thn (hc pins s1 σ1 H1 _ I1 (turn n σ1 H1 w1)) fun b s2 ⟨H2,I2,q2⟩=>?_)
  cases b with
  | true =>
    obtain ⟨N,hN,q2⟩:=q2
    rw [if_pos rfl]
    refine wpAny_passesOwn hp (thn (hb pins s2 σ1 H2 _ I2 q2) fun f s3 q3=>?_)
    cases f with
    | next =>
      obtain ⟨σ3,H3,I3,n3⟩:=q3
      obtain ⟨m',hm,w3⟩:=hN σ3 H3 n3
      exact ⟨m',hm,σ3,H3,I3,w3⟩
    | cont =>
      obtain ⟨σ3,H3,I3,n3⟩:=q3
      obtain ⟨m',hm,w3⟩:=hN σ3 H3 n3
      exact ⟨m',hm,σ3,H3,I3,w3⟩
    | brk=>exact q3
    | ret v=>exact q3
  | false =>
    rw [if_neg Bool.false_ne_true]
    exact wpAny_execs_nil ⟨σ1,H2,I2,q2⟩
end
structure It where
  go:Nat→Hp→Prop
  yld:Nat→Hp→V→Hp→Prop
  stop:Nat→Hp→Prop
def FpOk (X:Cx) (pins:List (Addr×Obj)) (H:Hp) (b:Addr):Prop :=
  H b=none∧b≠X.env.locals∧b∉X.fs∧(b∈X.ex∨X.s₀.heap.objs.size≤b)∧(∀x c,X.env.cells.lookup x=some c→c≠b)∧∀p∈X.pn++pins,p.1≠b
theorem Inv.fpOk {X:Cx} {pins:List (Addr×Obj)} {σ:St} {H H':Hp} {s:Shared} {b:Addr} (I:Inv X pins σ H s) (hb:s.heap.objs.size≤b) (hn:H' b=none):FpOk X pins H' b:=by
  refine ⟨hn,Nat.ne_of_gt (Nat.lt_of_lt_of_le I.lt hb),I.nofs hb,.inr (Nat.le_trans I.sz hb),fun x c e z=>?_,fun p hp z=>?_⟩
  · obtain ⟨v,q⟩:=I.cell x c e
    exact absurd (Nat.lt_of_lt_of_le q.lt (by rw [z];exact hb)) (Nat.lt_irrefl _)
  · exact absurd (Nat.lt_of_lt_of_le (Heap.lt_size (I.pin p hp).1) (by rw [z];exact hb)) (Nat.lt_irrefl _)
structure Turn (P:Program) (w:World) (K:PySem.W.Frag) (tg:Expr) (J:It) (fp:List Addr) (it:Addr) (tn:Nat→Heap→Prop):Prop where
  mem:it∈fp
  obj:∀i h,tn i h→∀b∈fp,∃o,h.get? b=some o∧∀v,o.data≠.cell v
  keep:∀i h h',tn i h→(∀b∈fp,∀o,h.get? b=some o→h'.get? b=some o)→tn i h'
  item:∀(X:Cx),X.prog=P→X.w=w→X.K=K→X.calm=true→∀(i:Nat) (pins:List (Addr×Obj)) (s:Shared) (σ:St) (H:Hp) (E:Value→Shared→Prop),Inv X pins σ H s→(∀b∈fp,FpOk X pins H b)→tn i s.heap→J.go i H →
    wpAny (model P w) X.A (pyNext (.ref it)) (fun r s1=>∃u,r=some u ∧
      wpAny (model P w) X.A (letOwnedTupleGo tg (.ref it) u) (fun _ s2=>∃x H',Inv X pins σ H' s2∧RelV x u∧J.yld i H x H'∧tn (i+1) s2.heap∧∀b∈fp,H' b=none) E s1) E s
  done:∀(X:Cx),X.prog=P→X.w=w→X.K=K→X.calm=true→∀(i:Nat) (pins:List (Addr×Obj)) (s:Shared) (σ:St) (H:Hp) (E:Value→Shared→Prop),Inv X pins σ H s→(∀b∈fp,FpOk X pins H b)→tn i s.heap→J.stop i H →
    wpAny (model P w) X.A (pyNext (.ref it)) (fun r s1=>r=none∧Inv X pins σ H s1) E s
  self:∀(A:Around) (i:Nat) (s:Shared) (Q:Value→Shared→Prop) (E:Value→Shared→Prop),tn i s.heap→Q (.ref it) s→wpAny (model P w) A (pyIter (.ref it)) Q E s
noncomputable abbrev TI:=St→Hp→(It→Hp→Prop)→Prop
def PIE (X:Cx) (pins:List (Addr×Obj)) (σ:St) (tg:Expr) (R:It→Hp→Prop) (itv:Value) (s2:Shared):Prop :=
  ∃(it:Addr) (fp:List Addr) (tn:Nat→Heap→Prop) (J:It) (H':Hp),itv=.ref it∧Inv X pins σ H' s2∧Turn X.prog X.w X.K tg J fp it tn∧tn 0 s2.heap∧(∀b∈fp,FpOk X pins H' b)∧R J H'
def PI (X:Cx) (tg iter:Expr) (wi:TI):Prop :=
  ∀(pins:List (Addr×Obj)) (s:Shared) (σ:St) (H:Hp) (R:It→Hp→Prop),Inv X pins σ H s→wi σ H R →
    wpAny (model X.prog X.w) X.A (eval iter X.env) (fun v s1=>wpAny (model X.prog X.w) X.A (pyIter v) (PIE X pins σ tg R) X.xe s1) X.xe s
theorem zoi {M:Model} {A:Around} {E:Value→Shared→Prop} {s:Shared} {tg:Expr} {it:Addr} {u:Value} {o:Obj} {n:String} {vs:Array Value} {Q:Unit→Shared→Prop} (ho:s.heap.get? it=some o) (hc:o.cls=.type n) (hd:o.data=.fields vs)
    (hn:["enumerate","zip","dict_itemiterator","dict_reverseitemiterator","odict_iterator","itertools.zip_longest","itertools.pairwise"].contains n=false) (hQ:Q () s):wpAny M A (letOwnedTupleGo tg (.ref it) u) Q E s:=by
  unfold letOwnedTupleGo
  cases tg<;>first
    | exact wpAny_pure hQ
    | (cases u<;>first
        | exact wpAny_pure hQ
        | (refine wpAny_bind (wpAny_load ho ?_)
           rw [hc,hd]
           show wpAny M A (if (["enumerate","zip","dict_itemiterator","dict_reverseitemiterator","odict_iterator","itertools.zip_longest","itertools.pairwise"].contains n&&vs[0]?==some (rawInt _))=true then _ else _) Q E s
           rw [if_neg (by intro h;rw [hn,Bool.false_and] at h;cases h)]
           exact wpAny_pure hQ))
noncomputable def Itl (K:PySem.W.Frag) (a:Addr):It :=
  ⟨fun i H=>∃xs x,SqL K H a xs∧xs[i]?=some x,fun i H x H'=>H'=H∧∀xs,SqL K H a xs→xs[i]?=some x,fun i H=>∃xs,SqL K H a xs∧xs.length≤i⟩
noncomputable def Itt (K:PySem.W.Frag) (a:Addr):It :=
  ⟨fun i H=>∃xs x,SqT K H a xs∧xs[i]?=some x,fun i H x H'=>H'=H∧∀xs,SqT K H a xs→xs[i]?=some x,fun i H=>∃xs,SqT K H a xs∧xs.length≤i⟩
noncomputable def Itr (lo:Int) (n:Nat):It:=⟨fun i _=>i<n,fun i H x H'=>H'=H∧x=.int (lo+i),fun i _=>n≤i⟩
theorem zky {P:Program} {w:World} {K:PySem.W.Frag} {tg:Expr} (a it:Addr):Turn P w K tg (Itl K a) [it] it (fun i h=>h.IsListIter it a i) where
  mem:=by simp
  obj:=fun i h st b hb=>by
    have e:b=it:=by simpa using hb
    subst e
    obtain ⟨o,e,c,d⟩:=st
    exact ⟨o,e,fun v z=>by rw [d] at z;cases z⟩
  keep:=fun i h h' st k=>st.at fun o e=>k it (by simp) o e
  item:=by
    intro X hP hw hK hc i pins s σ H E I hf st hg
    subst hP hw hK
    obtain ⟨xs,x,hq,hx⟩:=hg
    obtain ⟨its,rv,p,hz⟩:=I.list hq
    obtain ⟨u,hu,ru⟩:=rv.get hx
    obtain ⟨f0,f1,f2,f3,f4,f5⟩:=hf it (by simp)
    refine wpAny_pyNext_list_item st p.isList (x:=u) (by simpa using hu) fun h' st' sb=>?_
    have I1:Inv X pins σ H {s with heap:=h'}:=I.turned (t':=s.toks) (fun b o hb e=>(sb.2 b hb).trans e) f0 f1 f3 f4 f5
    obtain ⟨o,e,c,d⟩:=id st'
    exact ⟨u,rfl,zoi (s:={s with heap:=h'}) e c d (by decide) ⟨x,H,I1,ru,⟨rfl,fun ys hy=>by rw [I.list_inj hy hq];exact hx⟩,st',fun b hb=>(hf b hb).1⟩⟩
  done:=by
    intro X hP hw hK hc i pins s σ H E I hf st hg
    subst hP hw hK
    obtain ⟨xs,hq,hx⟩:=hg
    obtain ⟨its,rv,p,hz⟩:=I.list hq
    obtain ⟨f0,f1,f2,f3,f4,f5⟩:=hf it (by simp)
    have hl:=rv.length
    exact wpAny_pyNext_list_end (I.ok.hd hc) st p.isList (by simp;omega) fun h' eb=>⟨rfl,I.turned (t':=s.toks) (fun b o hb e=>eb b o hb e) f0 f1 f3 f4 f5⟩
  self:=fun _ _ _ _ _ st h=>wpAny_pyIter_listiter st h
theorem zj6 {P:Program} {w:World} {K:PySem.W.Frag} {tg:Expr} (a it:Addr):Turn P w K tg (Itt K a) [it] it (fun i h=>h.IsTupleIter it a i) where
  mem:=by simp
  obj:=fun i h st b hb=>by
    have e:b=it:=by simpa using hb
    subst e
    obtain ⟨o,e,c,d⟩:=st
    exact ⟨o,e,fun v z=>by rw [d] at z;cases z⟩
  keep:=fun i h h' st k=>st.at fun o e=>k it (by simp) o e
  item:=by
    intro X hP hw hK hc i pins s σ H E I hf st hg
    subst hP hw hK
    obtain ⟨xs,x,hq,hx⟩:=hg
    obtain ⟨its,rv,p,hz⟩:=I.tuple hq
    obtain ⟨u,hu,ru⟩:=rv.get hx
    obtain ⟨f0,f1,f2,f3,f4,f5⟩:=hf it (by simp)
    refine wpAny_pyNext_tuple_item st (show s.heap.IsTuple a its.toArray from p) (x:=u) (by simpa using hu) fun h' st' sb=>?_
    have I1:Inv X pins σ H {s with heap:=h'}:=I.turned (t':=s.toks) (fun b o hb e=>(sb.2 b hb).trans e) f0 f1 f3 f4 f5
    obtain ⟨o,e,c,d⟩:=id st'
    exact ⟨u,rfl,zoi (s:={s with heap:=h'}) e c d (by decide) ⟨x,H,I1,ru,⟨rfl,fun ys hy=>by rw [I.tuple_inj hy hq];exact hx⟩,st',fun b hb=>(hf b hb).1⟩⟩
  done:=by
    intro X hP hw hK hc i pins s σ H E I hf st hg
    subst hP hw hK
    obtain ⟨xs,hq,hx⟩:=hg
    obtain ⟨its,rv,p,hz⟩:=I.tuple hq
    obtain ⟨f0,f1,f2,f3,f4,f5⟩:=hf it (by simp)
    have hl:=rv.length
    exact wpAny_pyNext_tuple_end (I.ok.hd hc) st (show s.heap.IsTuple a its.toArray from p) (by simp;omega) fun h' eb=>⟨rfl,I.turned (t':=s.toks) (fun b o hb e=>eb b o hb e) f0 f1 f3 f4 f5⟩
  self:=fun _ _ _ _ _ st h=>wpAny_pyIter_tupleiter st h
theorem zj7 {P:Program} {w:World} {K:PySem.W.Frag} {tg:Expr} (it:Addr) (lo:Int) (n:Nat):Turn P w K tg (Itr lo n) [it] it (fun i h=>IsRangeIter h it (lo+(i:Nat)*1) ((n:Int)-(i:Nat)) 1) where
  mem:=by simp
  obj:=fun i h st b hb=>by
    have e:b=it:=by simpa using hb
    subst e
    exact ⟨_,st,fun v z=>by
      have z':Data.fields _=Data.cell v:=z
      cases z'⟩
  keep:=fun i h h' st k=>k it (by simp) _ st
  item:=by
    intro X hP hw hK hc i pins s σ H E I hf st hg
    subst hP hw hK
    obtain ⟨f0,f1,f2,f3,f4,f5⟩:=hf it (by simp)
    have W:=Walks.range (prog:=X.prog) (w:=X.w) (I.ok.hd hc) it lo 1 n
    refine W.item i s _ _ hg st fun v h' tk hv st' kk=>?_
    obtain ⟨t,rfl⟩:=hv
    have I1:Inv X pins σ H {s with heap:=h',toks:=tk}:=I.turned (fun b o hb e=>kk b o (by simpa using hb) e) f0 f1 f3 f4 f5
    refine ⟨_,rfl,zoi (s:={s with heap:=h',toks:=tk}) (n:="range_iterator") st' rfl rfl (by decide) ⟨.int (lo+i),H,I1,⟨t,?_⟩,⟨rfl,rfl⟩,st',fun b hb=>(hf b hb).1⟩⟩
    rw [Int.mul_one]
  done:=by
    intro X hP hw hK hc i pins s σ H E I hf st hg
    subst hP hw hK
    obtain ⟨f0,f1,f2,f3,f4,f5⟩:=hf it (by simp)
    exact wpAny_pyNext_range_end (I.ok.hd hc) st (by have:n≤i:=hg;omega) fun h' eb=>⟨rfl,I.turned (t':=s.toks) (fun b o hb e=>eb b o hb e) f0 f1 f3 f4 f5⟩
  self:=fun _ _ _ _ _ st h=>wpAny_pyIter_rangeiter st h
end L2
namespace L2
open PySem PySem.Spec PyProof.Rows
section
variable {X:Cx} {tg:Expr}
def iList (K:PySem.W.Frag) (tl:TE):TI:=fun σ H R=>tl σ H fun x H1=>∃a,x=.ref a∧(∃xs,SqL K H1 a xs)∧R (Itl K a) H1
def iTup (K:PySem.W.Frag) (tl:TE):TI:=fun σ H R=>tl σ H fun x H1=>∃a,x=.ref a∧(∃xs,SqT K H1 a xs)∧R (Itt K a) H1
theorem zpr {l:Expr} {tl:TE} (hl:PE X l tl):PI X tg l (iList X.K tl):=by
  intro pins s σ H R I h
  refine thn (hl pins s σ H _ I h) fun v s1 ⟨x,H1,I1,r1,q1⟩=>?_
  obtain ⟨a,e,⟨xs,hq⟩,q⟩:=q1
  subst e
  cases r1
  obtain ⟨its,rv,p,hz⟩:=I1.list hq
  refine wpAny_pyIter_list p.isList ?_
  refine ⟨s1.heap.objs.size,[s1.heap.objs.size],_,_,H1,rfl,I1.kept (t':=s1.toks) fun b o e=>Heap.get?_push_of_some _ e,zky a _,⟨_,Heap.get?_push_size _ rfl,rfl,rfl⟩,fun b hb=>?_,q⟩
  have e:b=s1.heap.objs.size:=by simpa using hb
  subst e
  exact I1.fpOk (Nat.le_refl _) (I1.hok.fresh (Nat.le_refl _))
theorem pi_tup {l:Expr} {tl:TE} (hl:PE X l tl):PI X tg l (iTup X.K tl):=by
  intro pins s σ H R I h
  refine thn (hl pins s σ H _ I h) fun v s1 ⟨x,H1,I1,r1,q1⟩=>?_
  obtain ⟨a,e,⟨xs,hq⟩,q⟩:=q1
  subst e
  cases r1
  obtain ⟨its,rv,p,hz⟩:=I1.tuple hq
  refine wpAny_pyIter_tuple (show s1.heap.IsTuple a its.toArray from p) ?_
  refine ⟨s1.heap.objs.size,[s1.heap.objs.size],_,_,H1,rfl,I1.kept (t':=s1.toks) fun b o e=>Heap.get?_push_of_some _ e,zj6 a _,⟨_,Heap.get?_push_size _ rfl,rfl,rfl⟩,fun b hb=>?_,q⟩
  have e:b=s1.heap.objs.size:=by simpa using hb
  subst e
  exact I1.fpOk (Nat.le_refl _) (I1.hok.fresh (Nat.le_refl _))
theorem zni {pins:List (Addr×Obj)} {σ:St} {H:Hp} {s:Shared} {R:It→Hp→Prop} {E:Value→Shared→Prop} {lo hi:Int} {t u v:Tok} {tk:Nat} (I:Inv X pins σ H s) (h1:-(2^62)≤lo) (h2:lo<2^62) (h3:-(2^62)≤hi) (h4:hi<2^62)
    (q:R (Itr lo (hi-lo).toNat) H):wpAny (model X.prog X.w) X.A (pyIter (.ref s.heap.objs.size)) (PIE X pins σ tg R) E {s with heap:=s.heap.push {cls:=.type "range",data:=.fields #[.int lo t,.int hi u,.int 1 v]},toks:=tk}:=by
  refine wpAny_pyIter_range (IsRange.new ..) (small_one h1 h2 h3 h4) ?_
  have I1:Inv X pins σ H {s with heap:=s.heap.push {cls:=.type "range",data:=.fields #[.int lo t,.int hi u,.int 1 v]},toks:=tk}:=I.kept fun b o e=>Heap.get?_push_of_some _ e
  refine ⟨(s.heap.push {cls:=.type "range",data:=.fields #[.int lo t,.int hi u,.int 1 v]}).objs.size,[(s.heap.push {cls:=.type "range",data:=.fields #[.int lo t,.int hi u,.int 1 v]}).objs.size],_,_,H,rfl,
    I1.kept (t':=tk) fun b o e=>Heap.get?_push_of_some _ e,zj7 _ lo (hi-lo).toNat,?_,fun b hb=>?_,q⟩
  · have e1:lo+((0:Nat):Int)*1=lo:=by simp
    have e2:(((hi-lo).toNat:Nat):Int)-((0:Nat):Int)=Builtin.Range.rangeSize lo hi 1:=by rw [rangeSize_one];split<;>omega
    show IsRangeIter _ _ (lo+((0:Nat):Int)*1) ((((hi-lo).toNat:Nat):Int)-((0:Nat):Int)) 1
    rw [e1,e2]
    exact Heap.get?_push_size _ rfl
  · have e:b=(s.heap.push {cls:=.type "range",data:=.fields #[.int lo t,.int hi u,.int 1 v]}).objs.size:=by simpa using hb
    subst e
    exact I1.fpOk (Nat.le_refl _) (I1.hok.fresh (Nat.le_refl _))
def iRng1 (ta:TA):TI:=fun σ H R=>ta σ H fun vs H1=>∃j:Int,vs=[.int j]∧-(2^62)≤j∧j<2^62∧R (Itr 0 j.toNat) H1
theorem zlj {a:Expr} {ta:TA} {p pos:Pos} (hg:Gl X "range") (hm:X.mg "range"=none) (ha:PA X [a] ta) (hs:starEach [a] X.env=[(false,eval a X.env)]:=by rfl):PI X tg (.Call (.Name "range" p) [a] [] pos) (iRng1 ta):=by
  intro pins s σ H R I h
  refine Call_ (zjw I hg hm boot_range (PyProof.Rows.callWith_type1 (thn (ha pos pins s σ H _ I h) fun us s1 ⟨vs,H1,I1,r1,q1⟩=>?_) hs rfl))
  obtain ⟨j,e,q1,q2,q⟩:=q1
  subst e
  cases r1 with
  | cons r rr =>
    cases rr
    obtain ⟨t,rfl⟩:=r
    exact call_range_1 (zni I1 (by omega) (by omega) q1 q2 (by simpa using q))
def tFor (wi:TI) (g:TG) (tb:TS):TS:=fun D σ H=>wi σ H fun J H1=>∃W:Nat→Nat→St→Hp→Prop,(∃m,W 0 m σ H1)∧∀i m σ H,W i m σ H →
  (J.stop i H∧D.nx σ H)∨(J.go i H∧∃N:St→Hp→Prop,(∀σ' H',N σ' H'→∃m',m'<m∧W (i+1) m' σ' H')∧∀x H',J.yld i H x H'→g x σ H' fun σ2 H2=>tb {D with nx:=N,ct:=N,bk:=D.nx} σ2 H2)
noncomputable def pinsAt (fp:List Addr) (h:Heap):List (Addr×Obj):=fp.filterMap fun b=>(h.get? b).map fun o=>(b,o)
theorem zcj {fp:List Addr} {h:Heap} {b:Addr} {o:Obj} (hb:b∈fp) (e:h.get? b=some o):(b,o)∈pinsAt fp h:=List.mem_filterMap.mpr ⟨b,hb,by rw [e];rfl⟩
theorem zlw {fp:List Addr} {h:Heap} {p:Addr×Obj} (hp:p∈pinsAt fp h):p.1∈fp∧h.get? p.1=some p.2:=by
  obtain ⟨b,hb,e⟩:=List.mem_filterMap.mp hp
  cases q:h.get? b with
  | none=>rw [q] at e;cases e
  | some o =>
    rw [q] at e
    have e':(b,o)=p:=Option.some.inj e
    subst e'
    exact ⟨hb,q⟩
theorem Inv.pinned {pins:List (Addr×Obj)} {σ:St} {H:Hp} {s:Shared} {fp:List Addr} (I:Inv X pins σ H s) (hf:∀b∈fp,FpOk X pins H b) (ho:∀b∈fp,∃o,s.heap.get? b=some o∧∀v,o.data≠.cell v):Inv X (pins++pinsAt fp s.heap) σ H s :=
  I.pins_of fun p hp=>(List.mem_append.mp hp).elim (fun z=>I.pin p (List.mem_append_right _ z)) fun z=>by
    obtain ⟨hb,e⟩:=zlw z
    obtain ⟨f0,f1,f2,_⟩:=hf p.1 hb
    obtain ⟨o,e',d⟩:=ho p.1 hb
    rw [e] at e';cases e'
    exact ⟨e,f0,f1,f2,d⟩
theorem Inv.unpinned {pins pl:List (Addr×Obj)} {σ:St} {H:Hp} {s:Shared} (I:Inv X (pins++pl) σ H s):Inv X pins σ H s:=I.pins_of fun p hp=>I.pin p (List.mem_append_right _ (List.mem_append_left _ hp))
theorem ps_for {iter:Expr} {body:List Stmt} {wi:TI} {g:TG} {tb:TS} {pos:Pos} (hp:PassesOwn (model X.prog X.w) X.A X.env X.xe) (hc:X.calm=true) (hi:PI X tg iter wi) (hg:PG X tg g) (hb:PSs X body tb)
    (hs:∀x,foldedSetIterable iter X.env x=pure x:=by intro _;rfl):PS X (.For tg iter body [] pos) (tFor wi g tb):=by
  intro pins s σ H D I h
  refine wpAny_For (thn (hi pins s σ H _ I h) fun v s1 h1=>thn h1 fun itv s2 h2=>?_) hs
  obtain ⟨it,fp,tn,J,H2,e,I2,T,st2,f2,W,⟨m0,w0⟩,turn⟩:=h2
  subst e
  have stat:∀{H':Hp},(∀b∈fp,H' b=none)→∀b∈fp,FpOk X pins H' b:=fun hn b hb=>⟨hn b hb,(f2 b hb).2⟩
  refine codeAny_forLoop_any (fun n s'=>∃i σ' H',Inv X pins σ' H' s'∧tn i s'.heap∧(∀b∈fp,H' b=none)∧W i n σ' H') ?_ m0 ⟨0,σ,H2,I2,st2,fun b hb=>(f2 b hb).1,w0⟩
  rintro n s3 ⟨i,σ3,H3,I3,st3,fr3,w3⟩
  rcases turn i n σ3 H3 w3 with ⟨stop,qn⟩|⟨go,N,hN,step⟩
  · refine wpAny_passesOwn hp (thn (T.done X rfl rfl rfl hc i pins s3 σ3 H3 X.xe I3 (stat fr3) st3 stop) fun r s4 ⟨hr,I4⟩=>?_)
    subst hr
    exact wpAny_execs_nil ⟨σ3,H3,I4,qn⟩
  · refine wpAny_passesOwn hp (thn (T.item X rfl rfl rfl hc i pins s3 σ3 H3 X.xe I3 (stat fr3) st3 go) fun r s4 ⟨u,hr,h4⟩=>?_)
    subst hr
    refine wpAny_passesOwn hp (thn h4 fun _ s5 ⟨x,H5,I5,r5,y5,st5,fr5⟩=>?_)
    have I5':=I5.pinned (stat fr5) (T.obj _ _ st5)
    refine wpAny_passesOwn hp (thn (hg _ s5 σ3 H5 x u _ I5' r5 (step x H5 y5)) fun _ s6 ⟨σ6,H6,I6,q6⟩=>?_)
    refine wpAny_passesOwn hp (thn (hb _ s6 σ6 H6 _ I6 q6) fun f s7 q7=>?_)
    have again:∀{σ7:St} {H7:Hp},Inv X (pins++pinsAt fp s5.heap) σ7 H7 s7→N σ7 H7→∃m,m<n∧∃i σ' H',Inv X pins σ' H' s7∧tn i s7.heap∧(∀b∈fp,H' b=none)∧W i m σ' H':=fun {σ7 H7} I7 n7=>by
      obtain ⟨m',hm,w7⟩:=hN σ7 H7 n7
      refine ⟨m',hm,i+1,σ7,H7,I7.unpinned,T.keep _ _ _ st5 fun b hb o e=>(I7.pin (b,o) (List.mem_append_right _ (List.mem_append_right _ (zcj hb e)))).1,fun b hb=>?_,w7⟩
      obtain ⟨o,e,d⟩:=T.obj _ _ st5 b hb
      exact (I7.pin (b,o) (List.mem_append_right _ (List.mem_append_right _ (zcj hb e)))).2.1
    cases f with
    | next=>obtain ⟨σ7,H7,I7,n7⟩:=q7;exact again I7 n7
    | cont=>obtain ⟨σ7,H7,I7,n7⟩:=q7;exact again I7 n7
    | brk=>obtain ⟨σ7,H7,I7,q7⟩:=q7;exact ⟨σ7,H7,I7.unpinned,q7⟩
    | ret v=>obtain ⟨x7,σ7,H7,I7,r7,q7⟩:=q7;exact ⟨x7,σ7,H7,I7.unpinned,r7,q7⟩
end
end L2
namespace L2
open PySem PySem.Spec PyProof.Rows
noncomputable abbrev R2:=V→V→Hp→VK→Prop
def OpR (X:Cx) (f:Value→Value→Sem Value) (r:R2):Prop :=
  ∀(pins:List (Addr×Obj)) (s:Shared) (σ:St) (H:Hp) (x y:V) (v u:Value) (Q:VK),Inv X pins σ H s→RelV x v→RelV y u→r x y H Q →
    wpAny (model X.prog X.w) X.A (f v u) (EP X pins σ Q) X.xe s
def UnR (X:Cx) (f:Value→Sem Value) (r:V→Hp→VK→Prop):Prop :=
  ∀(pins:List (Addr×Obj)) (s:Shared) (σ:St) (H:Hp) (x:V) (v:Value) (Q:VK),Inv X pins σ H s→RelV x v→r x H Q →
    wpAny (model X.prog X.w) X.A (f v) (EP X pins σ Q) X.xe s
def CallR (X:Cx) (f:Value) (r:List V→Hp→VK→Prop):Prop :=
  ∀(pins:List (Addr×Obj)) (s:Shared) (σ:St) (H:Hp) (xs:List V) (us:List Value) (Q:VK),Inv X pins σ H s→Vals xs us→r xs H Q →
    wpAny (model X.prog X.w) X.A (call f us) (EP X pins σ Q) X.xe s
def tOp (r:R2) (ta tb:TE):TE:=fun σ H Q=>ta σ H fun x H1=>tb σ H1 fun y H2=>r x y H2 Q
def tUn (r:V→Hp→VK→Prop) (ta:TE):TE:=fun σ H Q=>ta σ H fun x H1=>r x H1 Q
def rI (C:Int→Int→Prop) (g:Int→Int→V):R2:=fun x y H Q=>∃i j,x=.int i∧y=.int j∧C i j∧Q (g i j) H
def rI0 (g:Int→Int→V):R2:=fun x y H Q=>∃i j,x=.int i∧y=.int j∧Q (g i j) H
def rU (g:Int→V):V→Hp→VK→Prop:=fun x H Q=>∃i,x=.int i∧Q (g i) H
section
variable {X:Cx} {a b c:Expr} {ta tb tc:TE} {pos:Pos}
theorem binT (ha:PE X a ta) (hb:PE X b tb) {pins:List (Addr×Obj)} {s:Shared} {σ:St} {H:Hp} {R:V→V→Hp→Prop} (I:Inv X pins σ H s)
    (h:ta σ H fun x H1=>tb σ H1 fun y H2=>R x y H2) {Q:Value→Shared→Prop} {f:Value→Value→Sem Value}
    (hf:∀v u s2 x y H2,Inv X pins σ H2 s2→RelV x v→RelV y u→R x y H2→wpAny (model X.prog X.w) X.A (f v u) Q X.xe s2) :
    wpAny (model X.prog X.w) X.A (eval a X.env) (fun v s₁=>wpAny (model X.prog X.w) X.A (eval b X.env) (fun u s₂=>wpAny (model X.prog X.w) X.A (f v u) Q X.xe s₂) X.xe s₁) X.xe s:=by
  refine thn (ha pins s σ H _ I h) fun v s1 ⟨x,H1,I1,r1,q1⟩=>?_
  refine thn (hb pins s1 σ H1 _ I1 q1) fun u s2 ⟨y,H2,I2,r2,q2⟩=>?_
  exact hf v u s2 x y H2 I2 r1 r2 q2
theorem pe_op {op:Operator} {r:R2} (ho:OpR X (binaryOp op) r) (ha:PE X a ta) (hb:PE X b tb):PE X (.BinOp a op b pos) (tOp r ta tb):=by
  intro pins s σ H Q I h
  exact wpAny_BinOp (binT ha hb I h fun v u s2 x y H2 I2 rx ry q=>ho pins s2 σ H2 x y v u Q I2 rx ry q)
theorem pe_un {op:UnaryOp} {r:V→Hp→VK→Prop} (ho:UnR X (unaryOp op) r) (ha:PE X a ta):PE X (.UnaryOp op a pos) (tUn r ta):=by
  intro pins s σ H Q I h
  exact UnaryOp_ (thn (ha pins s σ H _ I h) fun v s1 z_8=>by obtain ⟨x,H1,I1,r1,q1⟩:=z_8;exact ho pins s1 σ H1 x v Q I1 r1 q1)
theorem opI {f:Value→Value→Sem Value} {C:Int→Int→Prop} {g:Int→Int→Int}
    (rule:∀(i j:Int) (t u:Tok) (s:Shared) (Q:Value→Shared→Prop) (E:Value→Shared→Prop),C i j→Q (.int (g i j) s.toks) {s with toks:=s.toks+1}→wpAny (model X.prog X.w) X.A (f (.int i t) (.int j u)) Q E s) :
    OpR X f (rI C fun i j=>.int (g i j)):=by
  intro pins s σ H x y v u Q I rx ry h
  obtain ⟨i,j,rfl,rfl,hc,q⟩:=h
  obtain ⟨t,rfl⟩:=rx
  obtain ⟨t',rfl⟩:=ry
  exact rule i j t t' s _ _ hc ⟨.int (g i j),H,I.tok _,⟨_,rfl⟩,q⟩
theorem opI0 {f:Value→Value→Sem Value} {g:Int→Int→Int}
    (rule:∀(i j:Int) (t u:Tok) (s:Shared) (Q:Value→Shared→Prop) (E:Value→Shared→Prop),Q (.int (g i j) s.toks) {s with toks:=s.toks+1}→wpAny (model X.prog X.w) X.A (f (.int i t) (.int j u)) Q E s) :
    OpR X f (rI0 fun i j=>.int (g i j)):=by
  intro pins s σ H x y v u Q I rx ry h
  obtain ⟨i,j,rfl,rfl,q⟩:=h
  obtain ⟨t,rfl⟩:=rx
  obtain ⟨t',rfl⟩:=ry
  exact rule i j t t' s _ _ ⟨.int (g i j),H,I.tok _,⟨_,rfl⟩,q⟩
theorem opB0 {f:Value→Value→Sem Value} {g:Int→Int→Bool}
    (rule:∀(i j:Int) (t u:Tok) (s:Shared) (Q:Value→Shared→Prop) (E:Value→Shared→Prop),Q (.bool (g i j)) s→wpAny (model X.prog X.w) X.A (f (.int i t) (.int j u)) Q E s) :
    OpR X f (rI0 fun i j=>.bl (g i j)):=by
  intro pins s σ H x y v u Q I rx ry h
  obtain ⟨i,j,rfl,rfl,q⟩:=h
  obtain ⟨t,rfl⟩:=rx
  obtain ⟨t',rfl⟩:=ry
  exact rule i j t t' s _ _ ⟨.bl (g i j),H,I,rfl,q⟩
def CDiv (i j:Int):Prop:=0<j∧j<1073741824
def CPow (i j:Int):Prop:=0≤j∧j≤1000000∧i.natAbs<2^64
def CMul (i j:Int):Prop:=(-(2^64)<i∧i<2^64)∨(-(2^64)<j∧j<2^64)
theorem CMul.ok {i j:Int} (h:CMul i j):IntMulOk i j:=by
  rcases h with ⟨h1,h2⟩|⟨h1,h2⟩
  · exact .of_left (intBits_le_64 h1 h2)
  · exact .of_right (intBits_le_64 h1 h2)
theorem za9:OpR X (binaryOp .Add) (rI0 fun i j=>.int (i+j)):=opI0 fun _ _ _ _ _ _ _ q=>add_int q
theorem zfl:OpR X (binaryOp .Sub) (rI0 fun i j=>.int (i-j)):=opI0 fun _ _ _ _ _ _ _ q=>sub_int q
theorem op_mul:OpR X (binaryOp .Mult) (rI CMul fun i j=>.int (i*j)):=opI fun _ _ _ _ _ _ _ hc q=>mul_int q hc.ok
theorem zcc:OpR X (binaryOp .FloorDiv) (rI CDiv fun i j=>.int (i/j)):=opI fun i j _ _ _ _ _ hc q=>by
  have h1:(0:Int)<j:=hc.1
  have h2:j<1073741824:=hc.2
  exact floordiv_int (by omega) (by rw [Int.fdiv_eq_ediv_of_nonneg i (by omega)];exact q) (.inl (PyProof.noPylong_small (by omega)))
theorem zbt:OpR X (binaryOp .Mod) (rI (fun _ j=>0<j) fun i j=>.int (i%j)):=opI fun i j _ _ _ _ _ hc q=>by
  have h1:(0:Int)<j:=hc
  exact mod_int' (by omega) (by rw [Int.fmod_eq_emod_of_nonneg i (by omega)];exact q)
theorem zlq:OpR X (binaryOp .Pow) (rI CPow fun i j=>.int (i^j.toNat)):=opI fun _ _ _ _ _ _ _ hc q=>pow_int_small hc.1 hc.2.1 hc.2.2 q
theorem unI {f:Value→Sem Value} {g:Int→Int}
    (rule:∀(i:Int) (t:Tok) (s:Shared) (Q:Value→Shared→Prop) (E:Value→Shared→Prop),Q (.int (g i) s.toks) {s with toks:=s.toks+1}→wpAny (model X.prog X.w) X.A (f (.int i t)) Q E s) :
    UnR X f (rU fun i=>.int (g i)):=by
  intro pins s σ H x v Q I rx h
  obtain ⟨i,rfl,q⟩:=h
  obtain ⟨t,rfl⟩:=rx
  exact rule i t s _ _ ⟨.int (g i),H,I.tok _,⟨_,rfl⟩,q⟩
theorem un_neg:UnR X (unaryOp .USub) (rU fun i=>.int (-i)):=unI fun _ _ _ _ _ q=>neg_int q
end
noncomputable def scal:V→V→Bool
  | .non,.non=>true | .non,.int _=>true | .int _,.non=>true | .non,.bl _=>true | .bl _,.non=>true | .non,.str _=>true | .str _,.non=>true
  | .int _,.int _=>true | .bl _,.bl _=>true | .str _,.str _=>true | .byt _,.byt _=>true
  | .int _,.str _=>true | .str _,.int _=>true | .bl _,.str _=>true | .str _,.bl _=>true
  | _,_=>false
def rEq:R2:=fun x y H Q=>scal x y=true∧Q (.bl (decide (x=y))) H
def rNe:R2:=fun x y H Q=>scal x y=true∧Q (.bl (!decide (x=y))) H
theorem zi3 {i j:Int}:decide (V.int i=V.int j)=(i==j):=by
  rw [Bool.eq_iff_iff]
  simp
theorem zo4 {i j:Bool}:decide (V.bl i=V.bl j)=(i==j):=by
  rw [Bool.eq_iff_iff]
  simp
theorem zmy {i j:Str}:decide (V.str i=V.str j)=(i==j):=by
  rw [Bool.eq_iff_iff]
  simp
theorem zmz {i j:Array UInt8}:decide (V.byt i=V.byt j)=(i.toList==j.toList):=by
  rw [Bool.eq_iff_iff]
  cases i
  cases j
  simp
section
variable {X:Cx} {a b c:Expr} {ta tb tc:TE} {pos:Pos}
theorem za4 {pins:List (Addr×Obj)} {σ:St} {H:Hp} {s:Shared} {Q:VK} {k k':Bool} (I:Inv X pins σ H s) (q:Q (.bl k) H) (e:k=k'):EP X pins σ Q (.bool k') s:=by
  subst e
  exact ⟨.bl k,H,I,rfl,q⟩
theorem zbl:OpR X (compareOp .Eq) rEq:=by
  intro pins s σ H x y v u Q I rx ry h
  obtain ⟨hs,q⟩:=h
  cases x with
  | non =>
    cases rx
    cases y with
    | non=>cases ry;exact PySem.EqNone.eq_none_none (za4 I q (by simp))
    | bl j=>cases ry;exact PySem.EqNone.eq_none_bool (za4 I q (by simp))
    | int j=>obtain ⟨t',rfl⟩:=ry;exact PySem.EqNone.eq_none_int (za4 I q (by simp))
    | str j=>obtain ⟨t',rfl⟩:=ry;exact PySem.EqNone.eq_none_str (za4 I q (by simp))
    | _=>exact absurd (show false=true from hs) Bool.false_ne_true
  | bl i =>
    cases rx
    cases y with
    | non=>cases ry;exact PySem.EqNone.eq_bool_none (za4 I q (by simp))
    | bl j=>cases ry;exact eq_bool (za4 I q zo4)
    | str j=>obtain ⟨t',rfl⟩:=ry;exact PySem.EqMixed.eq_bool_str (za4 I q (by simp))
    | _=>exact absurd (show false=true from hs) Bool.false_ne_true
  | int i =>
    obtain ⟨t,rfl⟩:=rx
    cases y with
    | non=>cases ry;exact PySem.EqNone.eq_int_none (za4 I q (by simp))
    | int j=>obtain ⟨t',rfl⟩:=ry;exact eq_int (za4 I q zi3)
    | str j=>obtain ⟨t',rfl⟩:=ry;exact PySem.EqMixed.eq_int_str (za4 I q (by simp))
    | _=>exact absurd (show false=true from hs) Bool.false_ne_true
  | str i =>
    obtain ⟨t,rfl⟩:=rx
    cases y with
    | non=>cases ry;exact PySem.EqNone.eq_str_none (za4 I q (by simp))
    | bl j=>cases ry;exact PySem.EqMixed.eq_str_bool (za4 I q (by simp))
    | int j=>obtain ⟨t',rfl⟩:=ry;exact PySem.EqMixed.eq_str_int (za4 I q (by simp))
    | str j=>obtain ⟨t',rfl⟩:=ry;exact eq_str (za4 I q zmy)
    | _=>exact absurd (show false=true from hs) Bool.false_ne_true
  | byt i =>
    obtain ⟨t,rfl⟩:=rx
    cases y with
    | byt j=>obtain ⟨t',rfl⟩:=ry;exact PySem.W.eq_bytes (za4 I q zmz)
    | _=>exact absurd (show false=true from hs) Bool.false_ne_true
  | _=>cases y<;>exact absurd (show false=true from hs) Bool.false_ne_true
theorem zeg:OpR X (compareOp .NotEq) rNe:=by
  intro pins s σ H x y v u Q I rx ry h
  obtain ⟨hs,q⟩:=h
  cases x with
  | non =>
    cases rx
    cases y with
    | non=>cases ry;exact PySem.EqNone.ne_none_none (za4 I q (by simp))
    | bl j=>cases ry;exact PySem.EqNone.ne_none_bool (za4 I q (by simp))
    | int j=>obtain ⟨t',rfl⟩:=ry;exact PySem.EqNone.ne_none_int (za4 I q (by simp))
    | str j=>obtain ⟨t',rfl⟩:=ry;exact PySem.EqNone.ne_none_str (za4 I q (by simp))
    | _=>exact absurd (show false=true from hs) Bool.false_ne_true
  | bl i =>
    cases rx
    cases y with
    | non=>cases ry;exact PySem.EqNone.ne_bool_none (za4 I q (by simp))
    | bl j=>cases ry;exact ne_bool (za4 I q (congrArg not zo4))
    | str j=>obtain ⟨t',rfl⟩:=ry;exact PySem.EqMixed.ne_bool_str (za4 I q (by simp))
    | _=>exact absurd (show false=true from hs) Bool.false_ne_true
  | int i =>
    obtain ⟨t,rfl⟩:=rx
    cases y with
    | non=>cases ry;exact PySem.EqNone.ne_int_none (za4 I q (by simp))
    | int j=>obtain ⟨t',rfl⟩:=ry;exact ne_int (za4 I q (congrArg not zi3))
    | str j=>obtain ⟨t',rfl⟩:=ry;exact PySem.EqMixed.ne_int_str (za4 I q (by simp))
    | _=>exact absurd (show false=true from hs) Bool.false_ne_true
  | str i =>
    obtain ⟨t,rfl⟩:=rx
    cases y with
    | non=>cases ry;exact PySem.EqNone.ne_str_none (za4 I q (by simp))
    | bl j=>cases ry;exact PySem.EqMixed.ne_str_bool (za4 I q (by simp))
    | int j=>obtain ⟨t',rfl⟩:=ry;exact PySem.EqMixed.ne_str_int (za4 I q (by simp))
    | str j=>obtain ⟨t',rfl⟩:=ry;exact ne_str (za4 I q (congrArg not zmy))
    | _=>exact absurd (show false=true from hs) Bool.false_ne_true
  | byt i =>
    obtain ⟨t,rfl⟩:=rx
    cases y with
    | byt j=>obtain ⟨t',rfl⟩:=ry;exact PySem.W.ne_bytes (za4 I q (congrArg not zmz))
    | _=>exact absurd (show false=true from hs) Bool.false_ne_true
  | _=>cases y<;>exact absurd (show false=true from hs) Bool.false_ne_true
theorem ze1:OpR X (compareOp .Lt) (rI0 fun i j=>.bl (decide (i<j))):=opB0 fun _ _ _ _ _ _ _ q=>lt_int q
theorem zn4:OpR X (compareOp .LtE) (rI0 fun i j=>.bl (decide (i≤j))):=opB0 fun _ _ _ _ _ _ _ q=>le_int q
theorem zkc:OpR X (compareOp .Gt) (rI0 fun i j=>.bl (decide (j<i))):=opB0 fun _ _ _ _ _ _ _ q=>gt_int q
theorem zfm:OpR X (compareOp .In) (fun x y H Q=>∃i j,x=.str i∧y=.str j∧Q (.bl (!(Builtin.Str.occurrences j i 0 j.length 1).isEmpty)) H):=by
  intro pins s σ H x y v u Q I rx ry h
  obtain ⟨i,j,rfl,rfl,q⟩:=h
  obtain ⟨t,rfl⟩:=rx
  obtain ⟨t',rfl⟩:=ry
  exact in_str (za4 I q rfl)
theorem zhy:OpR X (compareOp .Is) (fun x y H Q=>y=.non∧Q (.bl (decide (x=.non))) H):=by
  intro pins s σ H x y v u Q I rx ry h
  obtain ⟨rfl,q⟩:=h
  cases ry
  refine is_none_gen (za4 I q ?_)
  cases x<;>first
    | (cases rx;rfl)
    | (obtain ⟨t,rfl⟩:=rx;rfl)
theorem nomark (b:Expr) {op:CmpOp} (h:op≠.In:=by decide) (h2:op≠.NotIn:=by decide):behindInMarks op b=false:=by
  have e1:(op==CmpOp.In)=false:=by cases op<;>first|rfl|exact absurd rfl h
  have e2:(op==CmpOp.NotIn)=false:=by cases op<;>first|rfl|exact absurd rfl h2
  cases b<;>simp [behindInMarks,e1,e2]
theorem zpv {op:CmpOp} {r:R2} (ho:OpR X (compareOp op) r) (ha:PE X a ta) (hb:PE X b tb) (hm:behindInMarks op b=false):PE X (.Compare a [op] [b] pos) (tOp r ta tb):=by
  intro pins s σ H Q I h
  exact wpAny_Compare1 (binT ha hb I h fun v u s2 x y H2 I2 rx ry q=>ho pins s2 σ H2 x y v u Q I2 rx ry q) hm
def tTest (t:TE):TT:=fun σ H Q=>t σ H fun x H'=>∃k,x=.bl k∧Q k H'
theorem zpj {op:CmpOp} {r:R2} (ho:OpR X (compareOp op) r) (ha:PE X a ta) (hb:PE X b tb) (hm:behindInMarks op b=false):PT X (.Compare a [op] [b] pos) (tTest (tOp r ta tb)):=by
  intro pins s σ H Q I h
  refine wpAny_isTrue_Compare1 (thn (ha pins s σ H _ I h) fun v s1 ⟨x,H1,I1,r1,q1⟩=>thn (hb pins s1 σ H1 _ I1 q1) fun u s2 ⟨y,H2,I2,r2,q2⟩ =>
    thn (ho pins s2 σ H2 x y v u _ I2 r1 r2 q2) fun c s3 ⟨z,H3,I3,r3,k,e,q3⟩=>?_) hm
  subst e
  cases r3
  exact wpAny_truthy_bool ⟨H3,I3,q3⟩
def tChain (r r':R2) (ta tb tc:TE):TE:=fun σ H Q=>ta σ H fun x H1=>tb σ H1 fun y H2=>r x y H2 fun z H3=>∃k,z=.bl k ∧
  (if k=true then tc σ H3 fun w' H4=>r' y w' H4 Q else Q (.bl false) H3)
theorem zny {op op':CmpOp} {r r':R2} (ho:OpR X (compareOp op) r) (ho':OpR X (compareOp op') r') (ha:PE X a ta) (hb:PE X b tb) (hc:PE X c tc)
    (hm:lastMarks [op,op'] [b,c]=false:=by with_unfolding_all rfl):PE X (.Compare a [op,op'] [b,c] pos) (tChain r r' ta tb tc):=by
  intro pins s σ H Q I h
  refine Compare_chain (thn (ha pins s σ H _ I h) fun v s1 ⟨x,H1,I1,r1,q1⟩=>chain_link (thn (hb pins s1 σ H1 _ I1 q1) fun u s2 ⟨y,H2,I2,r2,q2⟩ =>
    thn (ho pins s2 σ H2 x y v u _ I2 r1 r2 q2) fun d s3 ⟨z,H3,I3,r3,k,e,q3⟩=>?_)) hm
  subst e
  cases r3
  refine wpAny_truthy_bool ?_
  cases k with
  | false=>exact ite_ff ⟨.bl false,H3,I3,rfl,q3⟩
  | true=>exact ite_tt (chain_last (thn (hc pins s3 σ H3 _ I3 q3) fun w' s4 z_9=>by obtain ⟨z',H4,I4,r4,q4⟩:=z_9;exact ho' pins s4 σ H4 y z' u w' Q I4 r2 r4 q4))
theorem znk {op op':CmpOp} {r r':R2} (ho:OpR X (compareOp op) r) (ho':OpR X (compareOp op') r') (ha:PE X a ta) (hb:PE X b tb) (hc:PE X c tc)
    (hm:lastMarks [op,op'] [b,c]=false:=by with_unfolding_all rfl):PT X (.Compare a [op,op'] [b,c] pos) (tTest (tChain r r' ta tb tc)):=by
  intro pins s σ H Q I h
  refine isTrue_chain (thn (ha pins s σ H _ I h) fun v s1 ⟨x,H1,I1,r1,q1⟩=>test_link (thn (hb pins s1 σ H1 _ I1 q1) fun u s2 ⟨y,H2,I2,r2,q2⟩ =>
    thn (ho pins s2 σ H2 x y v u _ I2 r1 r2 q2) fun d s3 ⟨z,H3,I3,r3,k,e,q3⟩=>?_)) hm
  subst e
  cases r3
  refine wpAny_truthy_bool ?_
  cases k with
  | false =>
    obtain ⟨k',e',q'⟩:=q3
    cases e'
    exact ite_ff ⟨H3,I3,q'⟩
  | true =>
    refine ite_tt (test_last (thn (hc pins s3 σ H3 _ I3 q3) fun w' s4 ⟨z',H4,I4,r4,q4⟩=>thn (ho' pins s4 σ H4 y z' u w' _ I4 r2 r4 q4) fun d' s5 ⟨z2,H5,I5,r5,k2,e2,q5⟩=>?_))
    subst e2
    cases r5
    exact wpAny_truthy_bool ⟨H5,I5,q5⟩
theorem line63:(sizeLine:Nat)<2^63:=by rw [sizeLine_eq];decide
theorem zal:OpR X (binaryOp .Add) (fun x y H Q=>∃i j,x=.str i∧y=.str j∧i.length+j.length≤sizeLine∧Q (.str (i++j)) H):=by
  intro pins s σ H x y v u Q I rx ry h
  obtain ⟨i,j,rfl,rfl,hz,q⟩:=h
  obtain ⟨t,rfl⟩:=rx
  obtain ⟨t',rfl⟩:=ry
  exact add_str (fun t' tk=>⟨.str (i++j),H,I.tok _,⟨_,rfl⟩,q⟩) hz
theorem vals1 {x:V} {us:List Value} (r:Vals [x] us):∃u,us=[u]∧RelV x u:=by
  cases r with
  | cons r1 r2=>cases r2;exact ⟨_,rfl,r1⟩
theorem vals2 {x y:V} {us:List Value} (r:Vals [x,y] us):∃u w',us=[u,w']∧RelV x u∧RelV y w':=by
  cases r with
  | cons r1 r2 =>
    cases r2 with
    | cons r3 r4=>cases r4;exact ⟨_,_,rfl,r1,r3⟩
end
end L2
namespace L2
open PySem PySem.Spec PyProof.Rows
structure ObjM (h:Heap) (x dx C:Addr) (mA:Str→Option Value):Prop where
  obj:h.get? x=some (PySem.W.instObj C dx)
  ns:h.Ns1 dx mA
  ne:dx≠x
theorem zl3 {h:Heap} {dx:Addr} {mA:Str→Option Value} (n:h.Ns1 dx mA):∃od,h.get? dx=some od∧∀name,PySem.W.lookIn name od=some (mA name):=by
  obtain ⟨o,es,ep,ho,hd,hk,_,hm⟩:=n
  refine ⟨o,ho,fun name=>?_⟩
  have e:=hm name
  unfold nsFind findBy at e
  rw [←Array.find?_toList] at e
  unfold PySem.W.lookIn
  rw [hd]
  dsimp only
  split
  · rename_i y q
    rw [q] at e
    exact congrArg some e
  · rename_i q
    rw [q] at e
    have a:es.toList.any (·.refKey)=false:=by
      rw [List.any_eq_false]
      intro y hy
      obtain ⟨z,t,hkey⟩:=hk y (Array.mem_toList_iff.mp hy)
      simp [DictEntry.refKey,hkey]
    have a':¬es.toList.any (·.refKey)=true:=by rw [a];exact Bool.false_ne_true
    rw [if_neg a']
    exact congrArg some e
theorem ObjM.look {h:Heap} {x dx C:Addr} {mA:Str→Option Value} (I:ObjM h x dx C mA):∃od,PySem.W.InstAt h x (PySem.W.instObj C dx) C (some od)∧∀name,PySem.W.lookIn name od=some (mA name) :=
  let ⟨od,ho,hl⟩:=zl3 I.ns
  ⟨od,⟨I.obj,rfl,rfl,ho⟩,hl⟩
section
variable {prog:Program} {w:World} {A:Around} {E:Value→Shared→Prop} {s:Shared} {K:PySem.W.Frag} {x dx C f:Addr} {mA:Str→Option Value} {name:Str} {v:Value}
theorem zp8 {expr:Bool} {Q:Value→Shared→Prop} (X:K.In s.heap) (I:ObjM s.heap x dx C mA) (hg:PySem.W.plainGet K C name=true) (hh:PySem.W.hasDictIn K C=true)
    (ha:PySem.W.findIn K (.ref C) name=some none) (hv:mA name=some v) (hv':PySem.W.handedIn v=true) (h:Q v {s with toks:=s.toks+1}) :
    wpAny (model prog w) A (getAttr (.ref x) name expr) Q E s:=by
  obtain ⟨od,J,hl⟩:=I.look
  exact PySem.W.get_value X J (PySem.W.plainGet_of hg).1 (PySem.W.findObj_own hh ha rfl (by rw [hl,hv])) hv' h
theorem zoj {pl:Sem Bool} {Q:Value×List Value→Shared→Prop} (X:K.In s.heap) (I:ObjM s.heap x dx C mA) (hg:PySem.W.plainGet K C name=true)
    (hf:PySem.W.findIn K (.ref C) name=some (some (.ref f))) (ht:PySem.W.isFn K (.ref f)=true) (hv:mA name=none) (h:Q (.ref f,[.ref x]) s) :
    wpAny (model prog w) A (getMethod (.ref x) name pl) Q E s:=by
  obtain ⟨od,J,hl⟩:=I.look
  exact PySem.W.method_fn X J (PySem.W.plainGet_of hg).1 (PySem.W.plainGet_of hg).2 hf (beq_iff_eq.mp ht) (by show (PySem.W.lookIn name od).map (·.isSome)=some false;rw [hl,hv];rfl) h
theorem zpd {ns:List Str} {Q:Unit→Shared→Prop} (X:K.In s.heap) (I:ObjM s.heap x dx C mA)
    (hs:PySem.W.findIn K (.ref C) "__setattr__"=some (some (.builtin "object.__setattr__"))) (hp:PySem.W.plainOver K C=true) (ht:PySem.W.takerIn K C name=some none) (hh:PySem.W.hasDictIn K C=true)
    (hw:PySem.Within mA ns) (hsz:ns.length≤sizeLine)
    (h:∀h',ObjM h' x dx C (fun y=>if y=name then some v else mA y)→Heap.SameBut dx s.heap h'→Q () {s with heap:=h',toks:=s.toks+2}) :
    wpAny (model prog w) A (setAttr (.ref x) name v) Q E s:=by
  obtain ⟨od,J,hl⟩:=I.look
  refine PySem.W.set_plain X J hs (PySem.W.osa_open (s:={s with toks:=s.toks+1}) (r:=none) X J hp ht fun b=>?_)
  obtain ⟨cd,hc,hd'⟩:=PySem.W.any_some hh
  have hx:s.heap.get? x=some ⟨.ref C,some dx,.plain,#[]⟩:=I.obj
  refine wpAny_bind (wpAny_pure (wpAny_bind (wpAny_bind (wpAny_loadPart hx (wpAny_bind (PySem.W.Looks.here (s:={s with toks:=s.toks+1}) (PySem.W.looks_clsIn X hc) ?_))))))
  rw [hd']
  refine wpAny_pure (a:=some dx) (wpAny_bind (wpAny_pure (wpAny_bind ?_)))
  refine wpAny_nsSet1 (s:={s with toks:=s.toks+1}) I.ns fun h' hn2 hs2=>?_
  obtain ⟨oD,esD,epD,hoD,hdD,hcD⟩:=hn2.count (PySem.Within.cons name v hw)
  refine wpAny_bind (wpAny_lookBehind hoD (by rw [hdD];exact pastItsLine_dict (Nat.le_trans hcD (by rw [List.length_cons];omega))) ?_)
  exact wpAny_pure (h _ ⟨(hs2.2 _ (Ne.symm I.ne)).trans I.obj,hn2,I.ne⟩ hs2)
theorem zod {R:Result→Shared→Prop} {vs:List Value} {kw:List (Str×Value)} (X:K.In s.heap) (hm:PySem.W.makesIn K C=true)
    (hi:PySem.W.findIn K (.ref C) "__init__"=some (some (.ref f))) (hf:PySem.W.typeIn K (.ref f)=some (.type "function"))
    (h:codeAny (model prog w) (A.under (.builtin "type.__call__" ⟨.ref C::vs,kw⟩)) (.call (.ref f) ⟨.ref (s.heap.objs.size+1)::vs,kw⟩) (PySem.W.InitBack (s.heap.objs.size+1) R)
      {s with heap:=(s.heap.push PySem.W.emptyDict).push (PySem.W.instObj C s.heap.objs.size)}) :
    codeAny (model prog w) A (.call (.ref C) ⟨vs,kw⟩) R s:=by
  obtain ⟨hh,g,d,t,os⟩:=s
  exact PySem.W.make_core (PySem.W.makes_of X hm) (PySem.W.looks_findIn X hi) (fun self=>PySem.W.bind_fn X self hf) (.inl rfl) h
end
noncomputable def putF (f:Str) (v:V):List (Str×V)→List (Str×V)
  | []=>[(f,v)]
  | (g,x)::r=>if g=f then (g,v)::r else (g,x)::putF f v r
theorem zfs (f g:Str) (v:V):∀fs:List (Str×V),(putF f v fs).lookup g=if g=f then some v else fs.lookup g
  | []=>by
    show List.lookup g [(f,v)]=_
    by_cases h:g=f
    · have hb:(g==f)=true:=beq_iff_eq.mpr h
      simp only [List.lookup,hb,if_pos h]
    · have hb:(g==f)=false:=beq_eq_false_iff_ne.mpr h
      simp only [List.lookup,hb,if_neg h]
  | (k,x)::r=>by
    have ih:=zfs f g v r
    rw [show putF f v ((k,x)::r)=(if k=f then (k,v)::r else (k,x)::putF f v r) from rfl]
    by_cases hk:k=f
    · rw [if_pos hk]
      by_cases h:g=k
      · have hb:(g==k)=true:=beq_iff_eq.mpr h
        simp only [List.lookup,hb,if_pos (h.trans hk)]
      · have hb:(g==k)=false:=beq_eq_false_iff_ne.mpr h
        simp only [List.lookup,hb,if_neg (fun e:g=f=>h (e.trans hk.symm))]
    · rw [if_neg hk]
      by_cases h:g=k
      · have hb:(g==k)=true:=beq_iff_eq.mpr h
        simp only [List.lookup,hb,if_neg (fun e:g=f=>hk (h.symm.trans e))]
      · have hb:(g==k)=false:=beq_eq_false_iff_ne.mpr h
        simp only [List.lookup,hb]
        exact ih
theorem zfv (f:Str) (v:V):∀fs:List (Str×V),f∈(putF f v fs).map (·.1)∧∀g,g∈fs.map (·.1)→g∈(putF f v fs).map (·.1)
  | []=>⟨by simp [putF],fun g h=>by simp at h⟩
  | (k,x)::r=>by
    obtain ⟨i1,i2⟩:=zfv f v r
    rw [show putF f v ((k,x)::r)=(if k=f then (k,v)::r else (k,x)::putF f v r) from rfl]
    by_cases hk:k=f
    · rw [if_pos hk]
      subst hk
      exact ⟨by simp,fun g h=>by simpa using h⟩
    · rw [if_neg hk]
      refine ⟨?_,fun g h=>?_⟩
      · rw [List.map_cons]
        exact List.mem_cons_of_mem _ i1
      · rw [List.map_cons] at h ⊢
        rcases List.mem_cons.mp h with e|e
        · exact List.mem_cons.mpr (.inl e)
        · exact List.mem_cons_of_mem _ (i2 g e)
theorem zft (f:Str) (v:V):∀fs:List (Str×V),(putF f v fs).length≤fs.length+1
  | []=>by simp [putF]
  | (k,x)::r=>by
    have ih:=zft f v r
    rw [show putF f v ((k,x)::r)=(if k=f then (k,v)::r else (k,x)::putF f v r) from rfl]
    by_cases hk:k=f
    · rw [if_pos hk,List.length_cons,List.length_cons];omega
    · rw [if_neg hk,List.length_cons,List.length_cons];omega
theorem RelO.some_of {v:V} {o:Option Value} (r:RelO (some v) o):∃u,o=some u∧RelV v u:=by
  cases o with
  | none=>exact (show False from r).elim
  | some u=>exact ⟨u,rfl,r⟩
theorem RelO.none_of {o:Option Value} (r:RelO none o):o=none:=by
  cases o with
  | none=>rfl
  | some u=>exact (show False from r).elim
theorem zmf {v:V} {u:Value} (r:RelV v u):PySem.W.handedIn u=true:=by
  cases v with
  | non=>cases (show u=Value.none from r);rfl
  | bl b=>cases (show u=Value.bool b from r);rfl
  | int i=>obtain ⟨t,e⟩:=(show ∃t,u=Value.int i t from r);cases e;rfl
  | str x=>obtain ⟨t,e⟩:=(show ∃t,u=Value.str x t from r);cases e;rfl
  | byt b=>obtain ⟨t,e⟩:=(show ∃t,u=Value.bytes b t from r);cases e;rfl
  | flt b=>obtain ⟨t,e⟩:=(show ∃t,u=Value.float b t from r);cases e;rfl
  | ref a=>cases (show u=Value.ref a from r);rfl
  | ty n=>cases (show u=Value.type n from r);rfl
section
variable {P:Program} {w:World} {H H':Hp} {h h':Heap} {a C dx:Addr} {fs fs':List (Str×V)}
theorem zhb (hok:HOk P w H h) (e:H a=some (.ins C dx fs)):∃mA,ObjM h a dx C mA∧(∀f,RelO (fs.lookup f) (mA f))∧PySem.Within mA (fs.map (·.1))∧fs.length≤1000∧H dx=some (.own a):=by
  obtain ⟨d,z,ne,ob,mA,n,r,q⟩:=(show ObjOk P w H h a (.ins C dx fs) from hok a _ e)
  exact ⟨mA,⟨ob,n,ne⟩,r,q,z,d⟩
end
structure Cls (K:PySem.W.Frag) (C:Addr):Prop where
  pg:PySem.W.plainGet K C Str.empty=true
  hd:PySem.W.hasDictIn K C=true
  po:PySem.W.plainOver K C=true
  sa:PySem.W.findIn K (.ref C) "__setattr__"=some (some (.builtin "object.__setattr__"))
theorem Cls.get {K:PySem.W.Frag} {C:Addr} (c:Cls K C) (f:Str):PySem.W.plainGet K C f=true:=c.pg
def NoAttr (K:PySem.W.Frag) (C:Addr) (f:Str):Prop:=PySem.W.findIn K (.ref C) f=some none
theorem NoAttr.taker {K:PySem.W.Frag} {C:Addr} {f:Str} (n:NoAttr K C f):PySem.W.takerIn K C f=some none:=by
  unfold PySem.W.takerIn
  rw [show PySem.W.findIn K (.ref C) f=some none from n]
  rfl
structure Meth (K:PySem.W.Frag) (C:Addr) (m:Str) (f:Addr):Prop where
  at_:PySem.W.findIn K (.ref C) m=some (some (.ref f))
  fn:PySem.W.isFn K (.ref f)=true
  kp:PySem.W.keepIn K (.ref f)=true
section
variable {X:Cx} {pins:List (Addr×Obj)} {σ:St} {H:Hp} {s:Shared} {a C dx:Addr} {fs:List (Str×V)} {f:Str} {v:V} {A:Around} {E:Value→Shared→Prop}
theorem zgl {b:Bool} {Q:Value→Shared→Prop} (I:Inv X pins σ H s) (e:H a=some (.ins C dx fs)) (c:Cls X.K C) (n:NoAttr X.K C f) (l:fs.lookup f=some v)
    (h:∀u s',Inv X pins σ H s'→RelV v u→Q u s'):wpAny (model X.prog X.w) A (getAttr (.ref a) f b) Q E s:=by
  obtain ⟨mA,O,r,_,_,_⟩:=zhb I.hok e
  obtain ⟨u,hu,ru⟩:=RelO.some_of (v:=v) (o:=mA f) (by rw [←l];exact r f)
  exact zp8 I.kIn O (c.get f) c.hd n hu (zmf ru) (h u _ (I.tok _) ru)
theorem zgk {m:Str} {g:Addr} {pl:Sem Bool} {Q:Value×List Value→Shared→Prop} (I:Inv X pins σ H s) (e:H a=some (.ins C dx fs)) (c:Cls X.K C) (k:Meth X.K C m g) (l:fs.lookup m=none)
    (h:Q (.ref g,[.ref a]) s):wpAny (model X.prog X.w) A (getMethod (.ref a) m pl) Q E s:=by
  obtain ⟨mA,O,r,_,_,_⟩:=zhb I.hok e
  have hn:mA m=none:=RelO.none_of (by rw [←l];exact r m)
  exact zoj I.kIn O (c.get m) k.at_ k.fn hn h
theorem zgc {y:V} {u:Value} {Q:Unit→Shared→Prop} (I:Inv X pins σ H s) (e:H a=some (.ins C dx fs)) (c:Cls X.K C) (n:NoAttr X.K C f) (hl:fs.length<1000) (ry:RelV y u)
    (h:∀s',Inv X pins σ (upd H a (.ins C dx (putF f y fs))) s'→Q () s'):wpAny (model X.prog X.w) A (setAttr (.ref a) f u) Q E s:=by
  obtain ⟨mA,O,r,wi,_,ho⟩:=zhb I.hok e
  have hz:(fs.map (·.1)).length≤sizeLine:=by rw [List.length_map,sizeLine_eq];omega
  refine zpd I.kIn O c.sa c.po n.taker c.hd wi hz fun h' O' sb=>h _ ?_
  have hd:∃o,h'.get? dx=some o:=let ⟨o,_,_,e',_⟩:=O'.ns;⟨o,e'⟩
  refine I.write (x:=a) (e:=dx) (by rw [e];exact True.intro) (.inr ho) (fun b q hb z=>(sb.2 b hb).trans z) hd ?_
  refine ⟨by rw [zan O.ne];exact ho,?_,O.ne,O'.obj,_,O'.ns,fun g=>?_,fun g hg=>?_⟩
  · have:=zft f y fs;omega
  · show RelO ((putF f y fs).lookup g) (if g=f then some u else mA g)
    rw [zfs]
    by_cases q:g=f
    · rw [if_pos q,if_pos q];exact ry
    · rw [if_neg q,if_neg q];exact r g
  · by_cases q:g=f
    · rw [q];exact (zfv f y fs).1
    · refine (zfv f y fs).2 g (wi g fun z=>hg ?_)
      show (if g=f then some u else mA g)=none
      rw [if_neg q];exact z
theorem Inv.made (I:Inv X pins σ H s):Inv X pins σ (upd (upd H s.heap.objs.size (.own (s.heap.objs.size+1))) (s.heap.objs.size+1) (.ins C s.heap.objs.size []))
    {s with heap:=(s.heap.push PySem.W.emptyDict).push (PySem.W.instObj C s.heap.objs.size)}:=by
  have e1:(s.heap.push PySem.W.emptyDict).get? s.heap.objs.size=some PySem.W.emptyDict:=Heap.get?_push_size s.heap rfl
  have e2:((s.heap.push PySem.W.emptyDict).push (PySem.W.instObj C s.heap.objs.size)).get? (s.heap.objs.size+1)=some (PySem.W.instObj C s.heap.objs.size):=by
    have:=Heap.get?_push_size (s.heap.push PySem.W.emptyDict) (o:=PySem.W.instObj C s.heap.objs.size) rfl
    rwa [Heap.size_push] at this
  have e3:(s.heap.push PySem.W.emptyDict).Ns s.heap.objs.size (fun _=>none):=⟨PySem.W.emptyDict,#[],_,e1,rfl,(fun e he=>absurd he (by simp)),fun _=>rfl⟩
  have I1:=I.laid (a:=s.heap.objs.size) (o:=.own (s.heap.objs.size+1)) (h':=s.heap.push PySem.W.emptyDict) (t':=s.toks) (fun b u q=>Heap.get?_push_of_some _ q) (Nat.le_refl _) ⟨_,e1⟩
  refine I1.laid (a:=s.heap.objs.size+1) (o:=.ins C s.heap.objs.size []) (t':=s.toks) (fun b u q=>Heap.get?_push_of_some _ q) (Nat.le_of_eq (Heap.size_push _ _)) ?_
  have ne:s.heap.objs.size≠s.heap.objs.size+1:=Nat.ne_of_lt (Nat.lt_succ_self _)
  refine ⟨by rw [zan ne,za6],Nat.zero_le _,ne,e2,fun _=>none,(Heap.Ns1.of_empty e3).at fun o q=>Heap.get?_push_of_some _ q,fun _=>True.intro,fun y hy=>absurd rfl hy⟩
theorem zqf {prog:Program} {w:World} {env:Env} {e:Expr} {f:Str} {pos:Pos} {s:Shared} {Q:Value→Shared→Prop} (hb:attributeBase e f env (eval e env)=eval e env)
    (h:wpAny (model prog w) A (eval e env) (fun o s₁=>wpAny (model prog w) A (getAttr o f true) Q E s₁) E s):wpAny (model prog w) A (eval (.Attribute e f pos) env) Q E s :=
  Attribute_any_ h (by rw [arm_eval_Attribute,hb])
end
def tFld (K:PySem.W.Frag) (ta:TE) (f:Str):TE:=fun σ H Q=>ta σ H fun x H1=>∃a C dx fs v,x=.ref a∧H1 a=some (.ins C dx fs)∧Cls K C∧NoAttr K C f∧fs.lookup f=some v∧Q v H1
def sFld (K:PySem.W.Frag) (ta tv:TE) (f:Str):TS:=fun D σ H=>tv σ H fun y H1=>ta σ H1 fun x H2=>∃a C dx fs,x=.ref a∧H2 a=some (.ins C dx fs)∧Cls K C∧NoAttr K C f∧fs.length<1000 ∧
  D.nx σ (upd H2 a (.ins C dx (putF f y fs)))
def InOp (X:Cx) (op:Operator) (rd:V→V→Hp→VK→Prop):Prop :=
  ∀(pins:List (Addr×Obj)) (s:Shared) (σ:St) (H:Hp) (x y:V) (u v:Value) (Q:VK),Inv X pins σ H s→RelV x u→RelV y v→rd x y H Q→wpAny (model X.prog X.w) X.A (inplaceOp op u v) (EP X pins σ Q) X.xe s
def sFldAug (K:PySem.W.Frag) (ta tv:TE) (rd:V→V→Hp→VK→Prop) (f:Str):TS:=fun D σ H=>ta σ H fun x H1=>∃a C dx fs v,x=.ref a∧H1 a=some (.ins C dx fs)∧Cls K C∧NoAttr K C f∧fs.lookup f=some v ∧
  tv σ H1 fun y H2=>rd v y H2 fun z H3=>∃dx' fs',H3 a=some (.ins C dx' fs')∧fs'.length<1000∧D.nx σ (upd H3 a (.ins C dx' (putF f z fs')))
section
variable {X:Cx} {o e value:Expr} {f:Str} {pos pos' tpos:Pos} {ta tv:TE}
theorem pe_fld (he:PE X e ta) (hb:attributeBase e f X.env (eval e X.env)=eval e X.env):PE X (.Attribute e f pos) (tFld X.K ta f):=by
  intro pins s σ H Q I h
  refine zqf hb (thn (he pins s σ H _ I h) fun u s1 ⟨x,H1,I1,rx,a,C,dx,fs,v,ex,ea,c,n,l,q⟩=>?_)
  subst ex
  obtain rfl:u=Value.ref a:=rx
  exact zgl I1 ea c n l fun u' s2 I2 ru=>⟨v,H1,I2,ru,q⟩
theorem ps_fld (ha:PE X o ta) (hv:PE X value tv) (hs:swapsWith value (some (.Attribute o f pos')) pos.line X.env=pure false):PS X (.Assign [.Attribute o f pos'] value pos) (sFld X.K ta tv f):=by
  intro pins s σ H D I h
  refine plainObj_wpAny_Assign_Attribute (thn (hv pins s σ H _ I h) fun u s1 ⟨y,H1,I1,ry,q⟩=>thn (ha pins s1 σ H1 _ I1 q) fun ov s2 ⟨x,H2,I2,rx,a,C,dx,fs,ex,ea,c,n,l,q2⟩=>?_) hs
  subst ex
  obtain rfl:ov=Value.ref a:=rx
  exact zgc I2 ea c n l ry fun s3 I3=>⟨σ,_,I3,q2⟩
theorem zlg {op:Operator} {rd:V→V→Hp→VK→Prop} (ha:PE X o ta) (hv:PE X value tv) (hop:InOp X op rd):PS X (.AugAssign (.Attribute o f tpos) op value pos) (sFldAug X.K ta tv rd f):=by
  intro pins s σ H D I h
  refine wpAny_AugAssign_AttributeAny (thn (ha pins s σ H _ I h) fun ov s1 ⟨x,H1,I1,rx,a,C,dx,fs,v,ex,ea,c,n,l,q⟩=>?_)
  subst ex
  obtain rfl:ov=Value.ref a:=rx
  refine zgl I1 ea c n l fun u s2 I2 ru=>thn (hv pins s2 σ H1 _ I2 q) fun w3 s3 ⟨y,H2,I3,ry,q3⟩=>thn (hop pins s3 σ H2 v y u w3 _ I3 ru ry q3) fun w4 s4 ⟨z,H3,I4,rz,dx',fs',ea',l',q4⟩=>?_
  exact zgc I4 ea' c n l' rz fun s5 I5=>⟨σ,_,I5,q4⟩
def rAdd:V→V→Hp→VK→Prop:=fun x y H Q=>∃i j,x=.int i∧y=.int j∧Q (.int (i+j)) H
theorem in_add:InOp X .Add rAdd:=by
  rintro pins s σ H x y u v Q I rx ry ⟨i,j,rfl,rfl,q⟩
  obtain ⟨t,rfl⟩:=(show ∃t,u=Value.int i t from rx)
  obtain ⟨t',rfl⟩:=(show ∃t',v=Value.int j t' from ry)
  exact PyProof.Rows.iadd_int ⟨.int (i+j),H,I.tok _,⟨_,rfl⟩,q⟩
end
section
variable {X:Cx} {pins:List (Addr×Obj)} {σ:St} {H:Hp} {s:Shared} {A:Around} {E:Value→Shared→Prop} {Q:Value→Shared→Prop} {c:Value} {b:Bool}
inductive TyOf (K:PySem.W.Frag) (H:Hp):V→Value→Prop where
  | non:TyOf K H .non (.type "NoneType")
  | bl (x:Bool):TyOf K H (.bl x) (.type "bool")
  | int (i:Int):TyOf K H (.int i) (.type "int")
  | str (x:Str):TyOf K H (.str x) (.type "str")
  | flt (x:UInt64):TyOf K H (.flt x) (.type "float")
  | lst {a:Addr} {xs:List V} (e:H a=some (.lst xs)):TyOf K H (.ref a) (.type "list")
  | frz {a:Addr} {o:Obj} {xs:List V} (e:H a=some (.frz o (.lst xs))):TyOf K H (.ref a) (.type "list")
  | tup {a:Addr} {xs:List V} (e:H a=some (.tup xs)):TyOf K H (.ref a) (.type "tuple")
  | dK {a:Addr} {kvs:List (Key×V)} (e:H a=some (.dK kvs)):TyOf K H (.ref a) (.type "dict")
  | dT {a:Addr} {kvs:List (List Key×V)} (e:H a=some (.dT kvs)):TyOf K H (.ref a) (.type "dict")
  | ins {a C dx:Addr} {fs:List (Str×V)} (e:H a=some (.ins C dx fs)) (cl:Cls K C) (ha:PySem.W.findIn K (.ref C) "__class__"=some (some (.builtin "object.__class__")))
      (hn:PySem.W.specialIn K (.builtin "object.__class__") "__get__"=some (some (.builtin "getset_descriptor.__get__"))) (htk:PySem.W.takesIn K (.builtin "object.__class__")=some true)
      (hm:PySem.W.mroIn K C (.type "object")=some true):TyOf K H (.ref a) (.ref C)
theorem zl8 {x:V} {u t:Value} (I:Inv X pins σ H s) (rx:RelV x u) (ty:TyOf X.K H x t) (e:PySem.W.kitOne X.K t c=some b) (h:∀tk,Q (.bool b) {s with toks:=tk}) :
    wpAny (model X.prog X.w) A (call (.builtin "isinstance") [u,c]) Q E s:=by
  cases ty with
  | non=>cases (show u=Value.none from rx);exact PySem.W.kia_one PySem.W.kitx_none I.kIn True.intro e (fun z=>nomatch z) h
  | bl y=>cases (show u=Value.bool y from rx);exact PySem.W.kia_one PySem.W.kitx_bool I.kIn True.intro e (fun z=>nomatch z) h
  | int i=>obtain ⟨t,q⟩:=(show ∃t,u=Value.int i t from rx);cases q;exact PySem.W.kia_one PySem.W.kitx_int I.kIn True.intro e (fun z=>nomatch z) h
  | str y=>obtain ⟨t,q⟩:=(show ∃t,u=Value.str y t from rx);cases q;exact PySem.W.kia_one PySem.W.kitx_str I.kIn True.intro e (fun z=>nomatch z) h
  | flt y=>obtain ⟨t,q⟩:=(show ∃t,u=Value.float y t from rx);cases q;exact PySem.W.kia_one PySem.W.kitx_float I.kIn True.intro e (fun z=>nomatch z) h
  | @lst a xs ea =>
    cases (show u=Value.ref a from rx)
    obtain ⟨_,_,n,_,h1⟩:=(show ObjOk X.prog X.w H s.heap a (.lst xs) from I.hok a _ ea)
    exact PySem.W.kia_one PySem.W.kitx_list I.kIn ⟨_,h1,rfl⟩ e (fun z=>nomatch z) h
  | @frz a ob xs ea =>
    cases (show u=Value.ref a from rx)
    obtain ⟨_,_,_,n,_,h1⟩:=(show ObjOk X.prog X.w H s.heap a (.frz ob (.lst xs)) from I.hok a _ ea)
    exact PySem.W.kia_one PySem.W.kitx_list I.kIn ⟨_,h1,rfl⟩ e (fun z=>nomatch z) h
  | @tup a xs ea =>
    cases (show u=Value.ref a from rx)
    obtain ⟨_,_,_,p,_⟩:=(show ObjOk X.prog X.w H s.heap a (.tup xs) from I.hok a _ ea)
    obtain ⟨o,h1,h2,_⟩:=p
    exact PySem.W.kia_one PySem.W.kitx_tuple I.kIn ⟨o,h1,h2⟩ e (fun z=>nomatch z) h
  | @dK a kvs ea =>
    cases (show u=Value.ref a from rx)
    obtain ⟨_,_,vs,_,p⟩:=(show ObjOk X.prog X.w H s.heap a (.dK kvs) from I.hok a _ ea)
    obtain ⟨o,es,ep,h1,h2,_⟩:=p
    exact PySem.W.kia_one PySem.W.kitx_dict I.kIn ⟨o,h1,h2.1⟩ e (fun z=>nomatch z) h
  | @dT a kvs ea =>
    cases (show u=Value.ref a from rx)
    obtain ⟨_,_,xs,_,o,es,ep,h1,h2,_⟩:=(show ObjOk X.prog X.w H s.heap a (.dT kvs) from I.hok a _ ea)
    exact PySem.W.kia_one PySem.W.kitx_dict I.kIn ⟨o,h1,h2.1⟩ e (fun z=>nomatch z) h
  | @ins a C dx fs ea cl ha hn htk hm =>
    cases (show u=Value.ref a from rx)
    obtain ⟨mA,O,_⟩:=zhb I.hok ea
    obtain ⟨od,J,_⟩:=O.look
    exact PySem.W.kia_one (PySem.W.kitx_own (cl.get _) cl.hd ha hn htk hm) I.kIn J e (fun z=>nomatch z) h
end
end L2
namespace L2
open PySem PySem.Spec PyProof.Rows
structure Room (k:Nat) (A:Around):Prop where
  hd:A.handled=none
  dp:A.depth+3*k+5<recursionLimit
  un:A.units+16*k+200<cLine
theorem Room.mono {j k:Nat} {A:Around} (r:Room k A) (h:j≤k):Room j A:=⟨r.hd,by have:=r.dp;omega,by have:=r.un;omega⟩
theorem Room.deeper {k:Nat} {A:Around} (r:Room (k+1) A) (env:Env):Room k (A.deeper env) :=
  ⟨r.hd,by have:=r.dp;show A.depth+1+3*k+5<_;omega,by have:=r.un;show A.units+3+16*k+200<_;omega⟩
theorem zki {A:Around} {C:Addr} {us:List Value} {kw:List (Str×Value)}:(A.under (.builtin "type.__call__" ⟨.ref C::us,kw⟩)).depth=A.depth+1:=by
  first|rfl|simp [Around.under,Code.weight,Code.isCreation,Code.isGuard,Code.isCaller,Code.frames,Code.isFrame,guardIds]
theorem zkh {A:Around} {C:Addr} {us:List Value} {kw:List (Str×Value)}:(A.under (.builtin "type.__call__" ⟨.ref C::us,kw⟩)).units=A.units+1:=by
  first|rfl|simp [Around.under,Code.cUnits,Code.frames,Code.isFrame]
theorem Room.make {k:Nat} {A:Around} (r:Room (k+1) A) (C:Addr) (us:List Value) (kw:List (Str×Value)):Room k (A.under (.builtin "type.__call__" ⟨.ref C::us,kw⟩)) :=
  ⟨r.hd,by have:=r.dp;rw [zki];omega,by have:=r.un;rw [zkh];omega⟩
theorem Room.depth {k:Nat} {A:Around} (r:Room k A):A.depth<recursionLimit:=by have:=r.dp;omega
theorem Room.units {k:Nat} {A:Around} (r:Room k A):A.units+64<cLine:=by have:=r.un;omega
def tNil:TA:=fun _ H Q=>Q [] H
def tCons (ta:TE) (tr:TA):TA:=fun σ H Q=>ta σ H fun x H1=>tr σ H1 fun xs H2=>Q (x::xs) H2
section
variable {X:Cx} {e:Expr} {es:List Expr} {te:TE} {t:TA} {pos:Pos}
theorem pa_nil:PA X [] tNil:=fun _ _ _ _ H Q I h=>Calls.spliced_nil ⟨[],H,I,.nil,h⟩
theorem zpy (ha:PE X e te) (hr:PA X es t) (hs:starEach (e::es) X.env=(false,eval e X.env)::starEach es X.env:=by rfl):PA X (e::es) (tCons te t):=by
  intro pos pins s σ H Q I h
  rw [hs]
  show wpAny _ _ (spliced ((false,eval e X.env)::backTo pos (starEach es X.env))) _ _ s
  refine Calls.spliced_cons (thn (ha pins s σ H _ I h) fun u s1 ⟨x,H1,I1,r1,q1⟩=>?_)
  exact thn (hr pos pins s1 σ H1 _ I1 q1) fun us s2 z_11=>by obtain ⟨xs,H2,I2,r2,q2⟩:=z_11;exact ⟨x::xs,H2,I2,.cons r1 r2,q2⟩
def tTup (t:TA):TE:=fun σ H Q=>t σ H fun xs H1=>xs.length≤sizeLine∧∀p,H1 p=none→Q (.ref p) (upd H1 p (.tup xs))
def tLst (t:TA):TE:=fun σ H Q=>t σ H fun xs H1=>xs.length≤sizeLine∧∀p,H1 p=none→Q (.ref p) (upd H1 p (.lst xs))
theorem pe_tup {x1} (h:PA X es t):PE X (.Tuple es x1 pos) (tTup t):=by
  intro pins s σ H Q I hq
  refine wpAny_Tuple_spliced (thn (h pos pins s σ H _ I hq) fun us s1 ⟨xs,H1,I1,r,z,q⟩=>⟨by rw [←r.length];exact z,?_⟩)
  have hf:H1 s1.heap.objs.size=none:=I1.hok.fresh (Nat.le_refl _)
  refine ⟨.ref s1.heap.objs.size,upd H1 s1.heap.objs.size (.tup xs),I1.laid (t':=s1.toks) (fun b u e=>Heap.get?_push_of_some _ e) (Nat.le_refl _) ?_,rfl,q _ hf⟩
  exact ⟨z,us,r,⟨_,Heap.get?_push_size _ rfl,rfl,_,rfl⟩,fun o q=>by rw [Heap.get?_push_size _ rfl] at q;cases q;rfl⟩
theorem pe_lst (h:PA X es t):PE X (.List es pos) (tLst t):=by
  intro pins s σ H Q I hq
  refine wpAny_List_spliced (thn (h pos pins s σ H _ I hq) fun us s1 ⟨xs,H1,I1,r,z,q⟩=>⟨by rw [←r.length];exact z,?_⟩)
  have hf:H1 s1.heap.objs.size=none:=I1.hok.fresh (Nat.le_refl _)
  refine ⟨.ref s1.heap.objs.size,upd H1 s1.heap.objs.size (.lst xs),I1.laid (t':=s1.toks) (fun b u e=>Heap.get?_push_of_some _ e) (Nat.le_refl _) ?_,rfl,q _ hf⟩
  exact ⟨z,us,0,r,Heap.get?_push_size _ rfl⟩
end
noncomputable abbrev Sp:=List V→Hp→VK→XK→Prop
noncomputable abbrev CXT:=List Env→Hp→Shared→XK→Value→Shared→Prop
structure Env0 (P:Program) (w:World) (K:PySem.W.Frag) (mg:Str→Option Value) (base:Heap) (A:Around) (outer:List Env) (s:Shared) (H:Hp):Prop where
  frames:A.frames=some outer
  mod:Mod K mg base
  bs:∀b o,base.get? b=some o→s.heap.get? b=some o∧H b=none
  bsz:base.objs.size≤s.heap.objs.size
  funs:s.heap.FunFrames base outer
  frf:∀b∈frs outer,H b=none
  hok:HOk P w H s.heap
  bare:AllBare s.gens
def CE (outer:List Env) (P:Program) (w:World) (H:Hp) (s:Shared) (Q:VK) (u:Value) (s':Shared):Prop :=
  ∃v H',s'.os=s.os∧AllBare s'.gens∧Un (frs outer) [] H H' s.heap s'.heap∧HOk P w H' s'.heap∧RelV v u∧Q v H'
def CR (CX:CXT) (outer:List Env) (P:Program) (w:World) (H:Hp) (s:Shared) (Q:VK) (E:XK) (r:Result) (s':Shared):Prop :=
  match r with
  | .ok (.ret u)=>CE outer P w H s Q u s'
  | .ok _=>False
  | .error e=>CX outer H s E e s'
structure FnOk (P:Program) (w:World) (K:PySem.W.Frag) (mg:Str→Option Value) (base:Heap) (CX:CXT) (k:Nat) (f:Addr) (fd:FuncData) (ps:List Str) (sp:Sp):Prop where
  len:∀vs H Q E,sp vs H Q E→vs.length=ps.length
  run:∀(A:Around) (outer:List Env) (s:Shared) (H:Hp) (args:Args) (us:List Value) (vs:List V) (Q:VK) (E:XK),Room k A→Env0 P w K mg base A outer s H→BindsTo s fd args (ps.zip us)→Vals vs us→sp vs H Q E →
    codeAny (model P w) A (.call (.ref f) args) (CR CX outer P w H s Q E) s
theorem FnOk.mono {P:Program} {w:World} {K:PySem.W.Frag} {mg:Str→Option Value} {base:Heap} {CX:CXT} {j k:Nat} {f:Addr} {fd:FuncData} {ps:List Str} {sp:Sp} (F:FnOk P w K mg base CX j f fd ps sp) (h:j≤k) :
    FnOk P w K mg base CX k f fd ps sp:=⟨F.len,fun A outer s H args us vs Q E hr=>F.run A outer s H args us vs Q E (hr.mono h)⟩
theorem FnOk.imp {P:Program} {w:World} {K:PySem.W.Frag} {mg:Str→Option Value} {base:Heap} {CX:CXT} {k:Nat} {f:Addr} {fd:FuncData} {ps:List Str} {sp sp':Sp} (F:FnOk P w K mg base CX k f fd ps sp)
    (h:∀vs H Q E,sp' vs H Q E→sp vs H Q E):FnOk P w K mg base CX k f fd ps sp' :=
  ⟨fun vs H Q E q=>F.len vs H Q E (h _ _ _ _ q),fun A outer s H args us vs Q E hr he hb hv hs=>F.run A outer s H args us vs Q E hr he hb hv (h _ _ _ _ hs)⟩
theorem Env0.make {P:Program} {w:World} {K:PySem.W.Frag} {mg:Str→Option Value} {base:Heap} {A:Around} {outer:List Env} {s:Shared} {H:Hp} (e:Env0 P w K mg base A outer s H) (C:Addr) (us:List Value) (kw:List (Str×Value)) :
    Env0 P w K mg base (A.under (.builtin "type.__call__" ⟨.ref C::us,kw⟩)) outer s H:=⟨by first|exact e.frames|(simpa [Around.under,Code.envs,Code.isFrame,pushEnvs] using e.frames),e.mod,e.bs,e.bsz,e.funs,e.frf,e.hok,e.bare⟩
section
variable {X:Cx} {pins:List (Addr×Obj)} {σ:St} {H:Hp} {s s':Shared}
theorem Inv.env0 (I:Inv X pins σ H s):Env0 X.prog X.w X.K X.mg X.base X.A X.stack s H :=
  ⟨I.ok.frames,I.ok.mod,I.bs,Nat.le_trans I.ok.bsz I.sz,I.stack,I.stkFree,I.hok,I.bare⟩
theorem Inv.after {Q:VK} {u:Value} (I:Inv X pins σ H s) (h:CE X.stack X.prog X.w H s Q u s'):EP X pins σ Q u s':=by
  obtain ⟨v,H',os,bare,un,hok,r,q⟩:=h
  obtain ⟨hh,g,d,t,os'⟩:=s'
  obtain rfl:os'=s.os:=os
  exact ⟨v,H',I.call (h':=hh) (g':=g) (d':=d) (t':=t) (ch:=[]) un hok bare (fun b z=>absurd z (by simp)),r,q⟩
end
def Binds (K:PySem.W.Frag) (fd:FuncData) (ps:List Str) (ds:List Value):Prop :=
  ∀(s:Shared) (us:List Value),K.In s.heap→(us++ds).length=ps.length→BindsTo s fd ⟨us,[]⟩ (ps.zip (us++ds))
theorem Binds.all {K:PySem.W.Frag} {fd:FuncData} {ps:List Str} (h:∀us:List Value,us.length=ps.length→bindArgs fd ⟨us,[]⟩=pure (ps.zip us)):Binds K fd ps []:=fun s us _ hl=>by
  rw [List.append_nil] at hl ⊢
  exact .of_eq (h us hl)
def Passes (CX:CXT) (X:Cx) (E:XK):Prop:=∀(pins:List (Addr×Obj)) (σ:St) (H:Hp) (s:Shared) (e:Value) (s':Shared),Inv X pins σ H s→CX X.stack H s E e s'→X.xe e s'
section
variable {X:Cx} {CX:CXT} {k:Nat} {f C:Addr} {fd:FuncData} {ps:List Str} {sp:Sp} {dvs:List V} {ds:List Value} {E:XK} {x m:Str} {p pos apos:Pos} {e o:Expr} {es:List Expr} {ta:TE} {t:TA}
structure Mk (K:PySem.W.Frag) (C f:Addr):Prop where
  makes:PySem.W.makesIn K C=true
  init:PySem.W.findIn K (.ref C) "__init__"=some (some (.ref f))
  fn:PySem.W.isFn K (.ref f)=true
  kp:PySem.W.keepIn K (.ref C)=true
end
structure FnScope (N P:List Str) (sc:Scope):Prop where
  kind:sc.kind=.function
  co:sc.isCoroutine=false
  gen:sc.isGenerator=false
  nd:N.Nodup
  pre:N.take P.length=P
  par:∀x∈P,sc.names.lookup x=some .local∨sc.names.lookup x=some .cell
  nofree:∀y∈sc.names,y.2≠.free
theorem zij {kindOf:Str→Option NameKind} {x:Str}:∀{binds:List (Str×Value)} {m:Str→Option Value},(∀v,(x,v)∉binds)→bindL kindOf binds m x=m x
  | [],_,_=>rfl
  | (n,v)::r,m,h=>by
    unfold bindL
    rw [zij fun w hw=>h w (List.mem_cons_of_mem _ hw)]
    split
    · have:x≠n:=by rintro rfl;exact h v List.mem_cons_self
      simp [this]
    · rfl
theorem zil {kindOf:Str→Option NameKind} {x:Str}:∀{binds:List (Str×Value)} {m:Str→Option Value},(∀v,(x,v)∉binds)→bindC kindOf binds m x=m x
  | [],_,_=>rfl
  | (n,v)::r,m,h=>by
    unfold bindC
    rw [zil fun w hw=>h w (List.mem_cons_of_mem _ hw)]
    split
    · rfl
    · have:x≠n:=by rintro rfl;exact h v List.mem_cons_self
      simp [this]
theorem zik {kindOf:Str→Option NameKind} {x:Str} {v:Value}:∀{P:List Str} {vs:List Value} {i:Nat} {m:Str→Option Value},P.Nodup→P[i]?=some x→vs[i]?=some v→kindOf x=some .local →
    bindL kindOf (P.zip vs) m x=some v
  | [],_,_,_,_,h,_,_=>by simp at h
  | _::_,[],_,_,_,_,h,_=>by simp at h
  | p::P,w::vs,0,m,nd,h1,h2,hk=>by
    simp at h1 h2;subst h1;subst h2
    show bindL kindOf ((p,w)::P.zip vs) m p=_
    unfold bindL
    rw [zij fun v hv=>(List.nodup_cons.mp nd).1 (List.of_mem_zip hv).1,if_pos hk]
    simp
  | p::P,w::vs,i+1,m,nd,h1,h2,hk=>by
    show bindL kindOf ((p,w)::P.zip vs) m x=_
    unfold bindL
    exact zik (i:=i) (List.nodup_cons.mp nd).2 (by simpa using h1) (by simpa using h2) hk
theorem zim {kindOf:Str→Option NameKind} {x:Str} {v:Value}:∀{P:List Str} {vs:List Value} {i:Nat} {m:Str→Option Value},P.Nodup→P[i]?=some x→vs[i]?=some v→kindOf x≠some .local →
    bindC kindOf (P.zip vs) m x=some v
  | [],_,_,_,_,h,_,_=>by simp at h
  | _::_,[],_,_,_,_,h,_=>by simp at h
  | p::P,w::vs,0,m,nd,h1,h2,hk=>by
    simp at h1 h2;subst h1;subst h2
    show bindC kindOf ((p,w)::P.zip vs) m p=_
    unfold bindC
    rw [zil fun v hv=>(List.nodup_cons.mp nd).1 (List.of_mem_zip hv).1,if_neg hk]
    simp
  | p::P,w::vs,i+1,m,nd,h1,h2,hk=>by
    show bindC kindOf ((p,w)::P.zip vs) m x=_
    unfold bindC
    exact zim (i:=i) (List.nodup_cons.mp nd).2 (by simpa using h1) (by simpa using h2) hk
noncomputable def start (N:List Str) (vs:List V):St:=vs.map some++List.replicate (N.length-vs.length) none
noncomputable def cxOf (CX:CXT) (P:Program) (w:World) (K:PySem.W.Frag) (mg:Str→Option Value) (base:Heap) (N:List Str) (qual:Str) (scope:Scope) (f:Addr) (cd:Value) (A:Around) (outer:List Env) (s:Shared) (H:Hp) (E:XK):Cx where
  prog:=P
  w:=w
  K:=K
  mg:=mg
  base:=base
  A:=A.deeper (envOfC qual scope s.heap.objs.size f cd)
  N:=N
  s₀:=s
  H₀:=H
  env:=envOfC qual scope s.heap.objs.size f cd
  outer:=outer
  stack:=envOfC qual scope s.heap.objs.size f cd::outer
  ex:=[]
  calm:=true
  fn:=fun _=>true
  pn:=[]
  xe:=fun e s'=>wpAny (model P w) (A.deeper (envOfC qual scope s.heap.objs.size f cd)) (leaving (envOfC qual scope s.heap.objs.size f cd) e) (fun _ s''=>CX outer H s E e s'') (fun e' s''=>CX outer H s E e' s'') s'
theorem zj3 {sc:Scope} {n:Nat} {x:Str} (h:sc.names.lookup x=some .cell):∃c,(cellsFrom n sc.names []).lookup x=some c:=by
  have q:=PySem.W.cellsFrom_some sc.names n [] (.inl h)
  exact Option.isSome_iff_exists.mp q
theorem zma {CX:CXT} {P:Program} {w:World} {K:PySem.W.Frag} {mg:Str→Option Value} {base:Heap} {N ps:List Str} {qual:Str} {scope:Scope} {f:Addr} {cd:Value} {A:Around} {outer:List Env} {s s1:Shared} {H:Hp} {E:XK} {us:List Value} {vs:List V}
    (S:FnScope N ps scope) (hd:A.handled=none) (e0:Env0 P w K mg base A outer s H) (hl:vs.length=ps.length) (r:Vals vs us)
    (x:InCallC s s.heap.objs.size (bindL (envOfC qual scope s.heap.objs.size f cd).kindOf (ps.zip us) fun _=>none) (cellsFrom (s.heap.objs.size+1) scope.names []) (bindC (envOfC qual scope s.heap.objs.size f cd).kindOf (ps.zip us) fun _=>none) s1) :
    Inv (cxOf CX P w K mg base N qual scope f cd A outer s H E) [] (start N vs) H s1:=by
  have hpl:ps.length≤N.length:=by have:=congrArg List.length S.pre;rw [List.length_take] at this;omega
  obtain ⟨h1,tk,rfl,hk⟩:=x.done
  have noA:∀b:Addr,b∉(cxOf CX P w K mg base N qual scope f cd A outer s H E).ex:=fun b z=>absurd (show b∈([]:List Addr) from z) (by simp)
  refine ⟨⟨e0.mod,S.kind,rfl,rfl,Nat.le_refl _,fun y z c h1 h2=>?_,fun y hy=>?_,fun y c _ h=>?_,fun _=>hd,Around.frames_deeper e0.frames,.inr ⟨rfl,rfl⟩,fun b z=>absurd z (noA b),e0.bs,e0.bsz,fun b _ _=>noA b,fun b z=>absurd z (noA b),e0.funs,e0.frf⟩,
    rfl,e0.bare,Un.kept hk,⟨_,x.toInCall.ns,fun i y v h1 h2 h3=>?_⟩,fun y c h=>⟨_,x.cell y c h⟩,e0.hok.fresh (Nat.le_refl _),fun y c h=>?_,fun p hp=>absurd (show p∈([]:List (Addr×Obj)) from hp) (by simp),e0.hok.kept hk,?_⟩
  · exact name_of_addr x.apart (PySem.mem_of_lookup h1) (PySem.mem_of_lookup h2)
  · have hy:scope.names.lookup y=some .cell∨scope.names.lookup y=some .free:=hy
    rcases hy with hy|hy
    · exact zj3 hy
    · exact absurd rfl (S.nofree _ (PySem.mem_of_lookup hy))
  · exact Nat.le_of_lt (x.above y c (PySem.mem_of_lookup h))
  · have hi:i<vs.length:=by
      unfold start at h2
      by_cases hi:i<vs.length
      · exact hi
      · rw [List.getElem?_append_right (by simpa using hi)] at h2
        rw [List.getElem?_replicate] at h2
        split at h2<;>cases h2
    have ha:vs[i]?=some v:=by
      unfold start at h2
      rw [List.getElem?_append_left (by simpa using hi),List.getElem?_map] at h2
      cases e:vs[i]? with
      | none=>rw [e] at h2;cases h2
      | some a=>rw [e] at h2;cases h2;rfl
    obtain ⟨u,hu,rv⟩:=r.get ha
    have hp:ps[i]?=some y:=by
      rw [←S.pre,List.getElem?_take_of_lt (by omega)];exact h1
    have ndP:ps.Nodup:=by rw [←S.pre];exact S.nd.sublist (List.take_sublist _ _)
    refine ⟨u,rv,?_⟩
    rcases S.par y (List.mem_of_getElem? hp) with k|k
    · exact .inl ⟨k,zik ndP hp hu k⟩
    · obtain ⟨c,e⟩:=zj3 (n:=s.heap.objs.size+1) k
      refine .inr ⟨.inl k,c,e,?_⟩
      have q:=x.cell y c e
      rw [zim ndP hp hu (by show scope.names.lookup y≠_;rw [k];decide)] at q
      exact q
  · exact e0.hok.fresh (Nat.le_of_lt (x.above y c (PySem.mem_of_lookup h)))
  · unfold start
    show _=N.length
    rw [List.length_append,List.length_map,List.length_replicate]
    omega
theorem zmi {CX:CXT} {P:Program} {w:World} {K:PySem.W.Frag} {mg:Str→Option Value} {base:Heap} {k:Nat} {f:Addr} {name qual:Str} {params:Arguments} {body:List Stmt} {scope:Scope} {dV kV doc pm cdv ct oc:Value} {an od:Option Addr}
    {osl:Array (Option Value)} {N ps:List Str} {sp:Sp} (lk:K.lookup f=some ⟨oc,od,.func (PySem.W.fnOf name qual params body scope dV kV doc pm an cdv ct),osl⟩) (hcd:PySem.W.codeIn K cdv qual=true) (S:FnScope N ps scope)
    (len:∀vs H Q E,sp vs H Q E→vs.length=ps.length)
    (hbody:∀(A:Around) (outer:List Env) (s:Shared) (H:Hp) (vs:List V) (Q:VK) (E:XK),Room k (A.deeper (envOfC qual scope s.heap.objs.size f cdv))→sp vs H Q E →
      ∃t,PSs (cxOf CX P w K mg base N qual scope f cdv A outer s H E) body t∧t {nx:=fun _ H'=>Q .non H',rt:=Q} (start N vs) H) :
    FnOk P w K mg base CX (k+1) f (PySem.W.fnOf name qual params body scope dV kV doc pm an cdv ct) ps sp:=by
  refine ⟨len,fun A outer s H args us vs Q E hr e0 hb r hsp=>?_⟩
  have hl:=len _ _ _ _ hsp
  have KX:K.In s.heap:=e0.mod.kin.keeps fun b o e=>(e0.bs b o e).1
  have lim:s.heap.NoLimit:=e0.mod.nolimit.keeps fun b o e=>(e0.bs b o e).1
  have hkind:∀y∈ps.zip us,scope.names.lookup y.1=some .local∨(scope.names.lookup y.1=some .cell∧((cellsFrom (s.heap.objs.size+1) scope.names []).lookup y.1).isSome=true):=fun z_13 hy=>by
    obtain ⟨n,v⟩:=z_13
    rcases S.par n (List.of_mem_zip hy).1 with q|q
    · exact .inl q
    · exact .inr ⟨q,PySem.W.cellsFrom_some _ _ _ (.inl q)⟩
  refine codeAny_call_function hr.depth (KX _ _ lk) rfl S.co S.gen rfl (PySem.W.codeRec_of KX hcd) (hb _ _ _ _ ?_)
  refine wpAny_newFunctionEnv_cells S.kind hkind fun env he s1 x=>?_
  subst he
  refine ⟨lim.keeps x.toInCall.keep,codeAny_func ?_⟩
  obtain ⟨t,ht,hq⟩:=hbody A outer s H vs Q E (hr.deeper _) hsp
  have I:Inv (cxOf CX P w K mg base N qual scope f cdv A outer s H E) [] (start N vs) H s1:=zma S hr.hd e0 hl r x
  refine wpAny_mono (ht [] s1 (start N vs) H _ I hq) (fun fl s' hs=>?_) fun e s' hs=>hs
  have fin:∀{σ':St} {H':Hp} {v:V} {u:Value},Inv (cxOf CX P w K mg base N qual scope f cdv A outer s H E) [] σ' H' s'→RelV v u→Q v H'→CE outer P w H s Q u s' :=
    fun {σ' H' v u} J rv q=>⟨v,H',J.os,J.bare,J.base,J.hok,rv,q⟩
  cases fl with
  | ret u =>
    obtain ⟨v,σ',H',J,rv,q⟩:=hs
    exact fin J rv q
  | next =>
    obtain ⟨σ',H',J,q⟩:=hs
    exact fin (v:=V.non) (u:=Value.none) J rfl q
  | brk =>
    obtain ⟨_,_,_,q⟩:=hs
    exact False.elim q
  | cont =>
    obtain ⟨_,_,_,q⟩:=hs
    exact False.elim q
end L2
namespace L2
open PySem PySem.Spec PyProof.Rows
section
variable {X:Cx} {x:Str} {p pos:Pos} {e:Expr} {es:List Expr} {t:TA} {id T:String} {r:List V→Hp→VK→Prop}
def tCB (r:List V→Hp→VK→Prop) (t:TA):TE:=fun σ H Q=>t σ H fun vs H1=>r vs H1 Q
theorem znz (hc:CallR X (.builtin id) r) (hg:Gl X x) (hm:X.mg x=none) (hv:bootBuiltins x=some (.builtin id)) (ha:PA X (e::es) t) (hn:x≠"__name__":=by decide) (hdb:(x==("__debug__":Str))=false:=by decide)
    (he:starEach (e::es) X.env=(false,eval e X.env)::starEach es X.env:=by rfl) (hpl:(backTo pos (starEach es X.env)).any (·.1)=false:=by rfl):PE X (.Call (.Name x p) (e::es) [] pos) (tCB r t):=by
  intro pins s σ H Q I h
  refine wpAny_Call_Name_kw (zjw I hg hm hv ?_ hn hdb)
  exact PyProof.Rows.callWith_builtin1 (thn (ha pos pins s σ H _ I h) fun us s1 z_14=>by obtain ⟨vs,H1,I1,r1,q1⟩:=z_14;exact hc pins s1 σ H1 vs us Q I1 r1 q1) he hpl
theorem zlo (hc:CallR X (.type T) r) (hg:Gl X x) (hm:X.mg x=none) (hv:bootBuiltins x=some (.type T)) (ha:PA X (e::es) t) (hn:x≠"__name__":=by decide) (hdb:(x==("__debug__":Str))=false:=by decide)
    (he:starEach (e::es) X.env=(false,eval e X.env)::starEach es X.env:=by rfl) (hpl:(backTo pos (starEach es X.env)).any (·.1)=false:=by rfl):PE X (.Call (.Name x p) (e::es) [] pos) (tCB r t):=by
  intro pins s σ H Q I h
  refine wpAny_Call_Name_kw (zjw I hg hm hv ?_ hn hdb)
  exact PyProof.Rows.callWith_type1 (thn (ha pos pins s σ H _ I h) fun us s1 z_15=>by obtain ⟨vs,H1,I1,r1,q1⟩:=z_15;exact hc pins s1 σ H1 vs us Q I1 r1 q1) he hpl
end
end L2
namespace HT
open PySem PyProof.Rows
section
open PySem.SeqAt
open PySem.AutoSeq1 (wpAny_loadPart')
open PySem.MeetsSeq PySem.MeetsSeq2 PySem.MeetsSeq3
end
section
variable {prog:Program} {w:World} {A:Around} {E:Value→Shared→Prop} {s:Shared}
theorem zqe {t b:Addr} {vs ws:List Value} {Q:Value→Shared→Prop} (ht:IsTup s.heap t vs.toArray) (hb:IsTup s.heap b ws.toArray) (hv:vs≠[])
    (h1:ws=[]→Q (.ref t) s) (h2:ws≠[]→Q (.ref s.heap.objs.size) {s with heap:=s.heap.push {cls:=.type "tuple",data:=.seq (vs++ws).toArray}})
    (hsz:vs.length+ws.length≤sizeLine):wpAny (model prog w) A (binaryOp .Add (.ref t) (.ref b)) Q E s:=by
  obtain ⟨⟨cls,dd,data,sl⟩,ho,hc,n,hd⟩:=id ht
  obtain ⟨⟨cls2,dd2,data2,sl2⟩,ho2,hc2,n2,hd2⟩:=id hb
  simp only at hc hd hc2 hd2
  subst hc hd hc2 hd2
  have e:vs.toArray++ws.toArray=(vs++ws).toArray:=by simp
  by_cases hw:ws=[]
  · exact concat_meets ⟨_,ho,rfl⟩ ⟨_,ho2,rfl⟩ noFill_tuple_add seq_tuple_add PySem.F.slot_tuple_add PySem.F.entry_tuple_add (PySem.F.args_tuple_add_2 _ _)
      (tuple_addW1 t b vs.toArray ws.toArray n n2 dd dd2 sl sl2 (by simpa using hv) (by simp [hw])) ⟨ho,ho2,h1 hw⟩
  · refine concat_meets ⟨_,ho,rfl⟩ ⟨_,ho2,rfl⟩ noFill_tuple_add seq_tuple_add PySem.F.slot_tuple_add PySem.F.entry_tuple_add (PySem.F.args_tuple_add_2 _ _)
      (tuple_addW2 t b vs.toArray ws.toArray n n2 dd dd2 sl sl2 (by simpa using hv) (by simpa using hw) (by rw [List.size_toArray,List.size_toArray];exact hsz)) ⟨ho,ho2,?_⟩
    rw [e]
    exact h2 hw
noncomputable def sIx (n d:Nat):Option Int→Nat
  | none=>d
  | some v=>if v<0 then (v+(n:Int)).toNat else min v.toNat n
theorem ze7 (n d:Nat):sIx n d none=d:=rfl
theorem zg0 (n d k:Nat):sIx n d (some (k:Int))=min k n:=by
  show (if (k:Int)<0 then ((k:Int)+(n:Int)).toNat else min (k:Int).toNat n)=min k n
  rw [if_neg (by omega),Int.toNat_natCast]
theorem zlc (n d:Nat) (hd:d≤n) (o:Option Int):sIx n d o≤n:=by
  cases o with
  | none=>exact hd
  | some v =>
    show (if v<0 then (v+(n:Int)).toNat else min v.toNat n)≤n
    by_cases hv:v<0
    · rw [if_pos hv];omega
    · rw [if_neg hv];exact Nat.min_le_right _ _
theorem zm2 (v:Int) (n d:Nat):(if v<0 then max (v+(n:Int)) 0 else min v (n:Int))=((sIx n d (some v):Nat):Int):=by
  show (if v<0 then max (v+(n:Int)) 0 else min v (n:Int))=(((if v<0 then (v+(n:Int)).toNat else min v.toNat n):Nat):Int)
  by_cases hv:v<0
  · simp only [if_pos hv];omega
  · simp only [if_neg hv];omega
theorem zkq (lo hi:Option Int) (n:Nat):Builtin.Slice.sliceAdjust lo hi 1 (n:Int)=(((sIx n 0 lo:Nat):Int),((sIx n n hi:Nat):Int)):=by
  have h1:¬((1:Int)<0):=by omega
  unfold Builtin.Slice.sliceAdjust
  simp only [h1,if_false]
  refine Prod.ext ?_ ?_
  · cases lo with
    | none=>rfl
    | some v=>exact zm2 v n 0
  · cases hi with
    | none=>rfl
    | some v=>exact zm2 v n n
theorem zkb (i j:Nat):Builtin.Slice.slicePlaces (i:Int) (j:Int) 1=j-i:=by
  unfold Builtin.Slice.slicePlaces
  have h1:(1:Int)>0:=by omega
  simp only [h1,if_true,Int.ediv_one]
  split<;>omega
theorem zgb {v:Value} {o:Option Int} {Q:Option Int→Shared→Prop} (p:IsPart v o) (h:Q o s):wpAny (model prog w) A (Builtin.Slice.slicePartIndex v) Q E s:=by
  cases p with
  | none=>exact slicePart_none h
  | int i t=>exact slicePart_int h
theorem zc6 {sl:Addr} {vl vu:Value} {lo hi:Option Int} {n:Nat} {Q:Int×Int×Nat→Shared→Prop} (hs:s.heap.IsSliceOf sl vl vu .none) (pl:IsPart vl lo) (pu:IsPart vu hi)
    (h:Q (((sIx n 0 lo:Nat):Int),1,sIx n n hi-sIx n 0 lo) s):wpAny (model prog w) A (Builtin.Slice.sliceApplied (.ref sl) (pure (n:Int))) Q E s:=by
  obtain ⟨os,hos,hcs,hds⟩:=id hs
  unfold Builtin.Slice.sliceApplied Builtin.Slice.sliceFields
  refine wpAny_bind (wpAny_bind (wpAny_field hos hds (x:=vl) rfl (wpAny_bind (wpAny_field hos hds (x:=vu) rfl (wpAny_bind (wpAny_field hos hds (x:=.none) rfl (wpAny_pure ?_)))))))
  refine wpAny_bind (slicePart_none ?_)
  show wpAny _ _ (if ((1:Int)==0)=true then _ else _) _ _ s
  rw [if_neg (by decide)]
  refine wpAny_bind (zgb pl (wpAny_bind (zgb pu (wpAny_bind (wpAny_pure ?_)))))
  show wpAny _ _ (match Builtin.Slice.sliceAdjust lo hi 1 (n:Int) with|(lo,hi)=>pure (lo,(1:Int),Builtin.Slice.slicePlaces lo hi 1)) _ _ s
  rw [zkq lo hi n]
  show wpAny _ _ (pure (((sIx n 0 lo:Nat):Int),(1:Int),Builtin.Slice.slicePlaces ((sIx n 0 lo:Nat):Int) ((sIx n n hi:Nat):Int) 1)) _ _ s
  rw [zkb]
  exact wpAny_pure h
theorem znr (xs:Array Value) (i k:Nat):((List.range k).filterMap fun (m:Nat)=>xs[((i:Int)+(m:Int)*1).toNat]?).toArray=((xs.toList.drop i).take k).toArray:=by
  have e:(fun (m:Nat)=>xs[((i:Int)+(m:Int)*1).toNat]?)=fun m=>xs[i+m]?:=by
    funext m
    have:((i:Int)+(m:Int)*1).toNat=i+m:=by omega
    rw [this]
  rw [e]
  have:=pick_run xs i k
  rw [List.filterMap_map] at this
  have e2:((fun x=>xs[x]?) ∘ fun x=>i+x)=fun m=>xs[i+m]?:=rfl
  rw [e2] at this
  rw [this]
theorem zei {t sl:Addr} {items:Array Value} {vl vu:Value} {lo hi:Option Int} {Q:Value→Shared→Prop} (ht:IsTup s.heap t items) (hs:s.heap.IsSliceOf sl vl vu .none) (pl:IsPart vl lo) (pu:IsPart vu hi)
    (hw:¬(sIx items.size 0 lo=0∧sIx items.size items.size hi=items.size))
    (h:Q (.ref s.heap.objs.size) {s with heap:=s.heap.push {cls:=.type "tuple",data:=.seq ((items.toList.drop (sIx items.size 0 lo)).take (sIx items.size items.size hi-sIx items.size 0 lo)).toArray}})
    (hsz:items.size≤sizeLine):wpAny (model prog w) A (getItem (.ref t) (.ref sl)) Q E s:=by
  have htake:sizeOk (.seq ((items.toList.drop (sIx items.size 0 lo)).take (sIx items.size items.size hi-sIx items.size 0 lo)).toArray):=by
    show ((items.toList.drop (sIx items.size 0 lo)).take (sIx items.size items.size hi-sIx items.size 0 lo)).toArray.size≤sizeLine
    rw [List.size_toArray,List.length_take,List.length_drop,Array.length_toList]
    omega
  have hj:sIx items.size items.size hi≤items.size:=zlc _ _ (Nat.le_refl _) hi
  obtain ⟨os,hos,hcs,hds⟩:=id hs
  have hTs:s.TypeIs (.ref sl) "slice":=⟨os,hos,hcs⟩
  unfold getItem
  try with_reducible refine wpAny_holding ?_
  first|refine wpAny_bind (wpAny_pure ?_)|skip
  refine wpAny_bind (wpAny_sequenceKey ht.typeIs (by decide) ?_)
  refine wpAny_bind (wpAny_callSpecial?_slot (name:=Str.ofString "__getitem__") ht.typeIs PyProof.Rows.slot_tuple_getitem
    (wpAny_call_entry PyProof.Rows.slot_tuple_getitem ht.typeIs entry_tuple_getitem ?_ (args_tuple_getitem _ _)))
  show wpAny _ _ (Builtin.Tuple.tupleItemsOf (.ref t) >>= _) _ _ s
  refine wpAny_bind (tupleItemsOf_ ht ?_)
  refine wpAny_bind (wpAny_typeOf hTs ?_)
  rw [if_pos (by decide)]
  refine wpAny_bind (zc6 hs pl pu ?_)
  have hno:¬((((sIx items.size 0 lo:Nat):Int)==0&&(1:Int)==1&&(sIx items.size items.size hi-sIx items.size 0 lo)==items.size)=true):=by
    intro q
    rw [Bool.and_eq_true,Bool.and_eq_true] at q
    have q1:((sIx items.size 0 lo:Nat):Int)=0:=eq_of_beq q.1.1
    have q2:sIx items.size items.size hi-sIx items.size 0 lo=items.size:=eq_of_beq q.2
    exact hw ⟨by omega,by omega⟩
  show wpAny _ _ (if (((sIx items.size 0 lo:Nat):Int)==0&&(1:Int)==1&&(sIx items.size items.size hi-sIx items.size 0 lo)==items.size)=true then _ else _) _ _ s
  rw [if_neg hno,znr]
  first
    | exact wpAny_bind (m:=Builtin.Tuple.tupleExact _) (wpAny_newObj_type (wpAny_pure ⟨_,rfl,wpAny_pure h⟩) htake)
    | exact wpAny_bind (m:=Builtin.Tuple.tupleExact _) (wpAny_newObj_type (wpAny_bind (wpAny_pure (wpAny_pure ⟨_,rfl,wpAny_pure h⟩))) htake)
    | exact wpAny_bind (wpAny_bind (m:=Builtin.Tuple.tupleExact _) (wpAny_newObj_type (wpAny_pure (wpAny_pure ⟨_,rfl,wpAny_pure h⟩)) htake))
    | exact wpAny_bind (wpAny_bind (m:=Builtin.Tuple.tupleExact _) (wpAny_newObj_type (wpAny_pure ⟨_,rfl,wpAny_pure h⟩) htake))
end
end HT
namespace L2
open PySem PySem.Spec PyProof.Rows
noncomputable abbrev TO:=St→Hp→(Option Int→Hp→Prop)→Prop
def PO (X:Cx) (e:Option Expr) (t:TO):Prop :=
  ∀(pins:List (Addr×Obj)) (s:Shared) (σ:St) (H:Hp) (Q:Option Int→Hp→Prop),Inv X pins σ H s→t σ H Q →
    wpAny (model X.prog X.w) X.A (evalPart e X.env) (fun u s'=>∃o H',Inv X pins σ H' s'∧IsPart u o∧Q o H') X.xe s
noncomputable def tNoPart:TO:=fun _ H Q=>Q none H
noncomputable def tPart (t:TE):TO:=fun σ H Q=>t σ H fun x H1=>∃i,x=.int i∧Q (some i) H1
section
variable {X:Cx} {e:Expr} {te:TE} {lo hi:Option Expr} {tl th:TO} {pos p2:Pos}
theorem zpq:PO X none tNoPart:=by
  intro pins s σ H Q I h
  rw [evalPart_none]
  exact wpAny_pure ⟨none,H,I,.none,h⟩
theorem zpp (h:PE X e te):PO X (some e) (tPart te):=by
  intro pins s σ H Q I hw
  rw [evalPart_some]
  refine thn (h pins s σ H _ I hw) fun u s1 ⟨x,H1,I1,r1,q1⟩=>?_
  obtain ⟨i,rfl,q⟩:=q1
  obtain ⟨t,rfl⟩:=r1
  exact ⟨some i,H1,I1,.int i t,q⟩
def SlR (X:Cx) (r:V→Option Int→Option Int→Hp→VK→Prop):Prop :=
  ∀(pins:List (Addr×Obj)) (s:Shared) (σ:St) (H:Hp) (x:V) (v vl vu:Value) (lo hi:Option Int) (sl:Addr) (Q:VK),Inv X pins σ H s→RelV x v→s.heap.IsSliceOf sl vl vu .none→IsPart vl lo→IsPart vu hi→r x lo hi H Q →
    ∃T id,typeLookup (.type T) "__getitem__"=pure (some (.builtin id))∧s.TypeIs v T∧wpAny (model X.prog X.w) X.A (getItem v (.ref sl)) (EP X pins σ Q) X.xe s
def tSl (r:V→Option Int→Option Int→Hp→VK→Prop) (te:TE) (tl th:TO):TE:=fun σ H Q=>te σ H fun x H1=>tl σ H1 fun l H2=>th σ H2 fun u H3=>r x l u H3 Q
theorem zns {r:V→Option Int→Option Int→Hp→VK→Prop} (hr:SlR X r) (he:PE X e te) (hl:PO X lo tl) (hu:PO X hi th):PE X (.Subscript e (.Slice lo hi none p2) pos) (tSl r te tl th):=by
  intro pins s σ H Q I h
  refine Subscript_ (thn (he pins s σ H _ I h) fun v s1 ⟨x,H1,I1,r1,q1⟩=>?_)
  refine wpAny_Slice (thn (hl pins s1 σ H1 _ I1 q1) fun vl s2 ⟨l,H2,I2,pl,q2⟩=>thn (hu pins s2 σ H2 _ I2 q2) fun vu s3 ⟨u,H3,I3,pu,q3⟩=>?_)
  rw [evalPart_none]
  refine wpAny_pure ?_
  have I4:Inv X pins σ H3 {s3 with heap:=s3.heap.push {cls:=.type "slice",data:=.fields #[vl,vu,.none]}}:=I3.kept (t':=s3.toks) fun b ob q=>Heap.get?_push_of_some _ q
  obtain ⟨T,id,hT,ht,hg⟩:=hr pins {s3 with heap:=s3.heap.push {cls:=.type "slice",data:=.fields #[vl,vu,.none]}} σ H3 x v vl vu l u s3.heap.objs.size Q I4 r1 (Heap.IsSliceOf.new ..) pl pu q3
  show wpAny (model X.prog X.w) X.A (subscriptTail e (.Slice lo hi none p2) v (.ref s3.heap.objs.size)) (EP X pins σ Q) X.xe {s3 with heap:=s3.heap.push {cls:=.type "slice",data:=.fields #[vl,vu,.none]}}
  exact tail_any (ops:=[.ref s3.heap.objs.size,v]) ht hT hg (by with_unfolding_all rfl)
noncomputable def cutV (xs:List V) (lo hi:Option Int):List V:=(xs.drop (HT.sIx xs.length 0 lo)).take (HT.sIx xs.length xs.length hi-HT.sIx xs.length 0 lo)
theorem zf2 (xs:List V) (lo hi:Option Int):(cutV xs lo hi).length≤xs.length:=by
  unfold cutV
  rw [List.length_take,List.length_drop]
  omega
def rSlT (K:PySem.W.Frag):V→Option Int→Option Int→Hp→VK→Prop:=fun x lo hi H Q=>∃a xs,x=.ref a∧SqT K H a xs ∧
  ¬(HT.sIx xs.length 0 lo=0∧HT.sIx xs.length xs.length hi=xs.length)∧∀p,H p=none→Q (.ref p) (upd H p (.tup (cutV xs lo hi)))
theorem sl_tup:SlR X (rSlT X.K):=by
  intro pins s σ H x v vl vu lo hi sl Q I rx hs pl pu h
  obtain ⟨a,xs,rfl,hx,hw,q⟩:=h
  cases rx
  obtain ⟨its,r,ht,hz⟩:=I.tuple hx
  have hlen:its.toArray.size=xs.length:=by rw [List.size_toArray];exact r.length.symm
  refine ⟨"tuple",_,PyProof.Rows.slot_tuple_getitem.lookup,ht.typeIs,?_⟩
  refine HT.zei ht hs pl pu (by rw [hlen];exact hw) ?_ (by rw [hlen];exact hz)
  rw [hlen]
  refine ⟨.ref s.heap.objs.size,_,I.laid (t':=s.toks) (o:=.tup (cutV xs lo hi)) (fun b ob q=>Heap.get?_push_of_some _ q) (Nat.le_refl _) ?_,rfl,q _ (I.hok.fresh (Nat.le_refl _))⟩
  exact ⟨Nat.le_trans (zf2 xs lo hi) hz,_,(r.drop (HT.sIx xs.length 0 lo)).take (HT.sIx xs.length xs.length hi-HT.sIx xs.length 0 lo),IsTup.new _ _,fun o q=>by rw [Heap.get?_push_size _ rfl] at q;cases q;rfl⟩
def rCatT (K:PySem.W.Frag):R2:=fun x y H Q=>∃a b xs ys,x=.ref a∧y=.ref b∧SqT K H a xs∧SqT K H b ys∧xs≠[]∧xs.length+ys.length≤sizeLine ∧
  (ys=[]→Q (.ref a) H)∧(ys≠[]→∀p,H p=none→Q (.ref p) (upd H p (.tup (xs++ys))))
theorem Vals.nil_iff {xs:List V} {us:List Value} (r:Vals xs us):us=[]↔xs=[]:=by
  cases r with
  | nil=>simp
  | cons _ _=>simp
theorem zfn:OpR X (binaryOp .Add) (rCatT X.K):=by
  intro pins s σ H x y v u Q I rx ry h
  obtain ⟨a,b,xs,ys,rfl,rfl,ha,hb,hx,hz,q1,q2⟩:=h
  cases rx
  cases ry
  obtain ⟨its,r1,p1,_⟩:=I.tuple ha
  obtain ⟨its2,r2,p2,_⟩:=I.tuple hb
  refine HT.zqe p1 p2 (fun z=>hx (r1.nil_iff.mp z)) (fun z=>⟨.ref a,H,I,rfl,q1 (r2.nil_iff.mp z)⟩) (fun z=>?_) (by rw [←r1.length,←r2.length];exact hz)
  refine ⟨.ref s.heap.objs.size,_,I.laid (t':=s.toks) (o:=.tup (xs++ys)) (fun b ob q=>Heap.get?_push_of_some _ q) (Nat.le_refl _) ?_,rfl,q2 (fun w=>z (r2.nil_iff.mpr w)) _ (I.hok.fresh (Nat.le_refl _))⟩
  exact ⟨by rw [List.length_append];exact hz,_,r1.append r2,IsTup.new _ _,fun o q=>by rw [Heap.get?_push_size _ rfl] at q;cases q;rfl⟩
end
end L2
namespace L2
open PySem PySem.Spec PyProof.Rows
noncomputable def ixN (n:Nat) (i:Int):Option Nat:=if 0≤i then (if i<n then some i.toNat else none) else if -(n:Int)≤i then some (i+n).toNat else none
noncomputable def atI {α:Type} (xs:List α) (i:Int):Option α:=(ixN xs.length i).bind fun j=>xs[j]?
theorem zl7 {n:Nat} {i:Int} {j:Nat} (h:ixN n i=some j):seqIndex? i n=some j∧j<n∧-(n:Int)≤i∧i<n:=by
  unfold ixN at h
  by_cases h0:0≤i
  · rw [if_pos h0] at h
    by_cases h1:i<n
    · rw [if_pos h1] at h
      have e:i.toNat=j:=Option.some.inj h
      exact ⟨by rw [seqIndex_of h0 h1,e],by omega,by omega,h1⟩
    · rw [if_neg h1] at h;cases h
  · rw [if_neg h0] at h
    by_cases h1:-(n:Int)≤i
    · rw [if_pos h1] at h
      have e:(i+n).toNat=j:=Option.some.inj h
      exact ⟨by rw [seqIndex_neg (by omega) h1,e],by omega,h1,by omega⟩
    · rw [if_neg h1] at h;cases h
theorem zja {α:Type} {xs:List α} {i:Int} {v:α} (h:atI xs i=some v):∃j,seqIndex? i xs.length=some j∧xs[j]?=some v∧j<xs.length∧-(xs.length:Int)≤i∧i<xs.length:=by
  unfold atI at h
  cases e:ixN xs.length i with
  | none=>rw [e] at h;cases h
  | some j =>
    rw [e] at h
    obtain ⟨h1,h2,h3,h4⟩:=zl7 e
    exact ⟨j,h1,h,h2,h3,h4⟩
theorem zc5 {α:Type} {xs:List α} {j:Nat} {v:α} (h:xs[j]?=some v):atI xs (j:Int)=some v:=by
  have hj:j<xs.length:=(List.getElem?_eq_some_iff.mp h).1
  have e:ixN xs.length (j:Int)=some j:=by
    unfold ixN
    rw [if_pos (by omega),if_pos (by omega)];simp
  unfold atI;rw [e];exact h
def PlainIx (b:Expr):Prop:=∀o i,subscripted b false o i=operate [o,i] (getItem o i)
def IxR (X:Cx) (r:R2):Prop :=
  ∀(value slice:Expr) (pins:List (Addr×Obj)) (s:Shared) (σ:St) (H:Hp) (x y:V) (v u:Value) (Q:VK),Inv X pins σ H s→RelV x v→RelV y u→r x y H Q →
    subscripted slice false v u=operate [v,u] (getItem v u)→wpAny (model X.prog X.w) X.A (subscriptTail value slice v u) (EP X pins σ Q) X.xe s
def MtR (X:Cx) (id:String) (r:V→List V→Hp→VK→Prop):Prop :=
  ∀(pins:List (Addr×Obj)) (s:Shared) (σ:St) (H:Hp) (x:V) (xs:List V) (v:Value) (us:List Value) (Q:VK),Inv X pins σ H s→RelV x v→Vals xs us→r x xs H Q →
    wpAny (model X.prog X.w) X.A (call (.builtin id) (v::us)) (EP X pins σ Q) X.xe s
section
variable {X:Cx} {a b:Expr} {ta tb:TE} {pos:Pos}
theorem pe_ix {r:R2} (hr:IxR X r) (ha:PE X a ta) (hb:PE X b tb) (hs:PlainIx b):PE X (.Subscript a b pos) (tOp r ta tb):=by
  intro pins s σ H Q I h
  exact Subscript_ (binT ha hb I h fun v u s2 x y H2 I2 rx ry q=>hr a b pins s2 σ H2 x y v u Q I2 rx ry q (hs _ _))
def rIxL (K:PySem.W.Frag):R2:=fun x y H Q=>∃p xs i v,x=.ref p∧y=.int i∧SqL K H p xs∧atI xs i=some v∧Q v H
def rIxT (K:PySem.W.Frag):R2:=fun x y H Q=>∃p xs i v,x=.ref p∧y=.int i∧SqT K H p xs∧atI xs i=some v∧Q v H
def rIxS:R2:=fun x y H Q=>∃z i c,x=.str z∧y=.int i∧z.length≤sizeLine∧atI z.cps.toList i=some c∧Q (.str ⟨#[c]⟩) H
theorem zb2:IxR X (rIxL X.K):=by
  intro value slice pins s σ H x y v u Q I rx ry h hs
  obtain ⟨p,xs,i,z,rfl,rfl,hq,he,q⟩:=h
  cases rx
  obtain ⟨t,rfl⟩:=ry
  obtain ⟨its,r,pl,hz⟩:=I.list hq
  obtain ⟨j,h1,h2,h3,h4,h5⟩:=zja he
  obtain ⟨w,ew,rw'⟩:=r.get h2
  have hl:=r.length
  have hn:=line63
  have fin:EP X pins σ Q w s:=⟨z,H,I,rw',q⟩
  by_cases h0:0≤i
  · have hj:i.toNat=j:=by
      rw [seqIndex_of h0 h5] at h1
      exact Option.some.inj h1
    exact item_listR pl.isList h0 (by omega) (by rw [hj];simpa using ew) fin hs
  · have hj:(i+(its.toArray.size:Int)).toNat=j:=by
      rw [seqIndex_neg (by omega) h4] at h1
      rw [List.size_toArray,←hl]
      exact Option.some.inj h1
    exact subscriptTail_builtinR (x:=w) pl.isList.typeIs slot_list_getitem.lookup
      (wpAny_getItem_list_neg (Q:=fun r s'=>r=w∧EP X pins σ Q r s') pl.isList (by omega) (by rw [List.size_toArray]<;>omega) (by omega) (by rw [hj];simpa using ew) ⟨rfl,fin⟩) hs
theorem zaq:IxR X (rIxT X.K):=by
  intro value slice pins s σ H x y v u Q I rx ry h hs
  obtain ⟨p,xs,i,z,rfl,rfl,hq,he,q⟩:=h
  cases rx
  obtain ⟨t,rfl⟩:=ry
  obtain ⟨its,r,pl,hz⟩:=I.tuple hq
  obtain ⟨j,h1,h2,h3,h4,h5⟩:=zja he
  obtain ⟨w,ew,rw'⟩:=r.get h2
  have hl:=r.length
  have hn:=line63
  have fin:EP X pins σ Q w s:=⟨z,H,I,rw',q⟩
  exact subscriptTail_builtinR (x:=w) pl.typeIs slot_tuple_getitem.lookup
    (getItem_tuple (j:=j) (Q:=fun r s'=>r=w∧EP X pins σ Q r s') pl (by omega) (by omega) (by rw [List.size_toArray,←hl];exact h1) (by simpa using ew) ⟨rfl,fin⟩) hs
theorem zdp:IxR X rIxS:=by
  intro value slice pins s σ H x y v u Q I rx ry h hs
  obtain ⟨z,i,c,rfl,rfl,hz,he,q⟩:=h
  obtain ⟨t,rfl⟩:=rx
  obtain ⟨t',rfl⟩:=ry
  obtain ⟨j,h1,h2,h3,h4,h5⟩:=zja he
  have hl:z.cps.toList.length=z.length:=by simp [Str.length]
  rw [hl] at h1 h4 h5
  have hn:=line63
  exact tail_any (typeIs_str s z t) slot_str_getitem.lookup (getItem_str (c:=c) (by
    have e1:decide (i < -(2^63:Int))=false:=decide_eq_false (by omega)
    have e2:decide (i≥2^63)=false:=decide_eq_false (by omega)
    rw [e1,e2,Bool.or_false]) (by rw [h1];simpa using h2) ⟨.str ⟨#[c]⟩,H,I.tok _,⟨_,rfl⟩,q⟩) hs
theorem zkg (its:List Value) (n j:Nat) (u:Value):Obj.mapSeq (·.setIfInBounds j u) {cls:=.type "list",data:=.seq its.toArray n}={cls:=.type "list",data:=.seq (its.set j u).toArray n}:=by
  simp [Obj.mapSeq]
theorem Inv.lst {pins:List (Addr×Obj)} {σ:St} {H:Hp} {s:Shared} {p:Addr} {xs:List V} (I:Inv X pins σ H s) (h:H p=some (.lst xs)) :
    ∃(its:List Value) (n:Nat),Vals xs its∧s.heap.get? p=some {cls:=.type "list",data:=.seq its.toArray n}∧xs.length≤sizeLine:=by
  obtain ⟨z,its,n,r,e⟩:=I.hok p _ h
  exact ⟨its,n,r,e,z⟩
theorem Inv.lstUpd {pins:List (Addr×Obj)} {σ:St} {H:Hp} {s:Shared} {p:Addr} {xs ys:List V} {its its':List Value} {n n':Nat} {f:Obj→Obj} (I:Inv X pins σ H s) (h:H p=some (.lst xs))
    (ho:s.heap.get? p=some {cls:=.type "list",data:=.seq its.toArray n}) (hf:f {cls:=.type "list",data:=.seq its.toArray n}={cls:=.type "list",data:=.seq its'.toArray n'}) (r:Vals ys its') (hz:ys.length≤sizeLine) (t:Nat) :
    Inv X pins σ (upd H p (.lst ys)) {s with heap:=s.heap.update p f,toks:=t}:=by
  have e:(s.heap.update p f).get? p=some {cls:=.type "list",data:=.seq its'.toArray n'}:=by
    rw [Heap.get?_update_self f ho (by rw [hf]<;>rfl),hf]
  refine I.write (x:=p) (e:=p) (by rw [h];trivial) (.inl rfl) (fun b u hb q=>(Heap.get?_update_other _ _ (Ne.symm hb)).trans q) ⟨_,e⟩ ?_
  exact ⟨hz,its',n',r,e⟩
def rSetL:V→V→V→Hp→(Hp→Prop)→Prop:=fun o i v H Q=>∃p xs k j,o=.ref p∧i=.int k∧H p=some (.lst xs)∧ixN xs.length k=some j∧Q (upd H p (.lst (xs.set j v)))
theorem set_list:PSet X rSetL:=by
  intro pins s σ H o i v ov iv u Q I ro ri rv h
  obtain ⟨p,xs,k,j,rfl,rfl,hp,hj,q⟩:=h
  cases ro
  obtain ⟨t,rfl⟩:=ri
  obtain ⟨its,n,r,ho,hz⟩:=I.lst hp
  obtain ⟨h1,h2,h3,h4⟩:=zl7 hj
  have hl:=r.length
  have hn:=line63
  have I':Inv X pins σ (upd H p (.lst (xs.set j v))) {s with heap:=s.heap.update p (Obj.mapSeq (·.setIfInBounds j u))} :=
    I.lstUpd hp ho (zkg its n j u) (r.set rv j) (by rw [List.length_set];exact hz) s.toks
  by_cases h0:0≤k
  · have hk:k.toNat=j:=by
      rw [seqIndex_of h0 h4] at h1
      exact Option.some.inj h1
    exact PySem.W.ki_setAt ho h0 (by omega) (by rw [List.size_toArray,←hl];exact h4) (by rw [hk];exact ⟨_,I',q⟩)
  · have hk:(k+(its.toArray.size:Int)).toNat=j:=by
      rw [seqIndex_neg (by omega) h3] at h1
      rw [List.size_toArray,←hl]
      exact Option.some.inj h1
    exact PySem.W.ki_setBack ho (by omega) (by rw [List.size_toArray,←hl];exact h3) (by omega) (by rw [hk];exact ⟨_,I',q⟩)
theorem zho (lo hi:Option Int) (n:Nat):(sliceBounds lo hi none n).1=((HT.sIx n 0 lo:Nat):Int)∧(sliceBounds lo hi none n).2.1=((HT.sIx n n hi:Nat):Int)∧(sliceBounds lo hi none n).2.2=1:=by
  refine ⟨?_,?_,rfl⟩
  · cases lo with
    | none=>simp [sliceBounds,HT.sIx]
    | some i =>
      simp only [sliceBounds,HT.sIx,Option.getD_none,show (1:Int)>0 by decide,if_true]
      by_cases h:i<0
      · simp only [h,if_true]<;>omega
      · simp only [h,if_false]<;>omega
  · cases hi with
    | none=>simp [sliceBounds,HT.sIx]
    | some i =>
      simp only [sliceBounds,HT.sIx,Option.getD_none,show (1:Int)>0 by decide,if_true]
      by_cases h:i<0
      · simp only [h,if_true]<;>omega
      · simp only [h,if_false]<;>omega
theorem zgw (its:List Value) (lo hi:Option Int):slicePick its.toArray lo hi none=((its.drop (HT.sIx its.length 0 lo)).take (HT.sIx its.length its.length hi-HT.sIx its.length 0 lo)).toArray:=by
  obtain ⟨h1,h2,h3⟩:=zho lo hi its.toArray.size
  unfold slicePick
  rw [h1,h2,h3]
  simp only [sliceRange_one,pick_run,List.size_toArray]<;>rfl
def rSlL (K:PySem.W.Frag):V→Option Int→Option Int→Hp→VK→Prop:=fun x lo hi H Q=>∃a xs,x=.ref a∧SqL K H a xs∧∀p,H p=none→Q (.ref p) (upd H p (.lst (cutV xs lo hi)))
theorem zdt:SlR X (rSlL X.K):=by
  intro pins s σ H x v vl vu lo hi sl Q I rx hs pl pu h
  obtain ⟨a,xs,rfl,hx,q⟩:=h
  cases rx
  obtain ⟨its,r,ht,hz⟩:=I.list hx
  have hlen:=r.length
  refine ⟨"list",_,slot_list_getitem.lookup,ht.isList.typeIs,?_⟩
  refine wpAny_getItem_list_slice ht.isList hs pl pu .none (by simp) ?_ (by rw [List.size_toArray]<;>omega)
  rw [zgw,←hlen]
  refine ⟨.ref s.heap.objs.size,_,I.laid (t':=s.toks) (o:=.lst (cutV xs lo hi)) (fun b ob q=>Heap.get?_push_of_some _ q) (Nat.le_refl _) ?_,rfl,q _ (I.hok.fresh (Nat.le_refl _))⟩
  exact ⟨Nat.le_trans (zf2 xs lo hi) hz,_,0,(r.drop (HT.sIx xs.length 0 lo)).take (HT.sIx xs.length xs.length hi-HT.sIx xs.length 0 lo),Heap.get?_push_size _ rfl⟩
noncomputable def flatV:V→Bool
  | .non=>true
  | .bl _=>true
  | .int _=>true
  | .str _=>true
  | _=>false
noncomputable def eqV:V→V→Bool
  | .non,.non=>true
  | .bl a,.bl b=>a==b
  | .bl a,.int b=>(if a then 1 else 0)==b
  | .int a,.bl b=>a==(if b then 1 else 0)
  | .int a,.int b=>a==b
  | .str a,.str b=>a==b
  | _,_=>false
theorem eqAt_V {A:Around} {s:Shared} {y x:V} {u v:Value} (ry:RelV y u) (rx:RelV x v) (fy:flatV y=true) (fx:flatV x=true):SeqAt.EqAt A s u v (eqV y x):=by
  cases y with
  | non =>
    cases ry
    cases x with
    | non=>cases rx;exact SeqAt.EqAt.same _
    | bl b=>cases rx;exact SeqAt.EqAt.none_bool b
    | int b=>obtain ⟨t,rfl⟩:=rx;exact SeqAt.EqAt.none_int b t
    | str b=>obtain ⟨t,rfl⟩:=rx;exact SeqAt.EqAt.none_str b t
    | _=>exact absurd (show false=true from fx) Bool.false_ne_true
  | bl a =>
    cases ry
    cases x with
    | non=>cases rx;exact SeqAt.EqAt.bool_none a
    | bl b=>cases rx;exact SeqAt.EqAt.bool_bool a b
    | int b=>obtain ⟨t,rfl⟩:=rx;exact SeqAt.EqAt.bool_int a b t
    | str b=>obtain ⟨t,rfl⟩:=rx;exact SeqAt.EqAt.bool_str a b t
    | _=>exact absurd (show false=true from fx) Bool.false_ne_true
  | int a =>
    obtain ⟨t',rfl⟩:=ry
    cases x with
    | non=>cases rx;exact SeqAt.EqAt.int_none a t'
    | bl b=>cases rx;exact SeqAt.EqAt.int_bool a t' b
    | int b=>obtain ⟨t,rfl⟩:=rx;exact SeqAt.EqAt.int_int a t' b t
    | str b=>obtain ⟨t,rfl⟩:=rx;exact SeqAt.EqAt.int_str a t' b t
    | _=>exact absurd (show false=true from fx) Bool.false_ne_true
  | str a =>
    obtain ⟨t',rfl⟩:=ry
    cases x with
    | non=>cases rx;exact SeqAt.EqAt.str_none a t'
    | bl b=>cases rx;exact SeqAt.EqAt.str_bool a t' b
    | int b=>obtain ⟨t,rfl⟩:=rx;exact SeqAt.EqAt.str_int a t' b t
    | str b=>obtain ⟨t,rfl⟩:=rx;exact SeqAt.EqAt.str_str a t' b t
    | _=>exact absurd (show false=true from fx) Bool.false_ne_true
  | _=>exact absurd (show false=true from fy) Bool.false_ne_true
noncomputable def eqU (x:V) (u:Value):Bool:=match u with
  | .none=>eqV .non x
  | .bool b=>eqV (.bl b) x
  | .int i _=>eqV (.int i) x
  | .str z _=>eqV (.str z) x
  | _=>false
theorem zo0 {x y:V} {u:Value} (r:RelV y u) (f:flatV y=true):eqU x u=eqV y x:=by
  cases y with
  | non=>cases r;rfl
  | bl b=>cases r;rfl
  | int i=>obtain ⟨t,rfl⟩:=r;rfl
  | str z=>obtain ⟨t,rfl⟩:=r;rfl
  | _=>exact absurd (show false=true from f) Bool.false_ne_true
theorem zjb {x:V}:∀{xs:List V} {us:List Value},Vals xs us→xs.all flatV=true→us.any (eqU x)=xs.any fun y=>eqV y x
  | _,_,.nil,_=>rfl
  | y::xs,u::us,.cons r t,f=>by
    rw [List.all_cons,Bool.and_eq_true] at f
    rw [List.any_cons,List.any_cons,zo0 r f.1,zjb t f.2]
theorem zg9 {A:Around} {s:Shared} {x:V} {v:Value} (rx:RelV x v) (fx:flatV x=true):∀{xs:List V} {us:List Value},Vals xs us→xs.all flatV=true→∀u∈us,SeqAt.EqAt A s u v (eqU x u)
  | _,_,.nil,_=>fun u hu=>by cases hu
  | y::xs,u::us,.cons r t,f=>fun u' hu=>by
    rw [List.all_cons,Bool.and_eq_true] at f
    rcases List.mem_cons.mp hu with rfl|hu
    · rw [zo0 r f.1];exact eqAt_V r rx f.1 fx
    · exact zg9 rx fx t f.2 u' hu
noncomputable def inV (x:V) (xs:List V):Bool:=xs.any fun y=>eqV y x
def rIn (K:PySem.W.Frag) (neg:Bool):R2:=fun x y H Q=>∃p xs,y=.ref p∧(SqL K H p xs∨SqT K H p xs)∧flatV x=true∧xs.all flatV=true∧Q (.bl (if neg then !inV x xs else inV x xs)) H
theorem zeu:OpR X (compareOp .NotIn) (rIn X.K true):=by
  intro pins s σ H x y v u Q I rx ry h
  obtain ⟨p,xs,rfl,hq,fx,fs,q⟩:=h
  cases ry
  rcases hq with hq|hq
  · obtain ⟨its,r,pl,hz⟩:=I.list hq
    refine SeqAt.notIn_listAt (eqU x) pl.isList (fun w hw=>zg9 rx fx r fs w (by simpa using hw)) ⟨.bl _,H,I,rfl,?_⟩
    rw [show its.toArray.any (eqU x)=its.any (eqU x) by simp,zjb r fs]
    exact q
  · obtain ⟨its,r,pl,hz⟩:=I.tuple hq
    refine SeqAt.notIn_tupleAt (eqU x) pl (fun w hw=>zg9 rx fx r fs w (by simpa using hw)) ⟨.bl _,H,I,rfl,?_⟩
    rw [show its.toArray.any (eqU x)=its.any (eqU x) by simp,zjb r fs]
    exact q
theorem zas:CallR X (.builtin "len") (fun xs H Q=>∃p ys,xs=[.ref p]∧(SqL X.K H p ys∨SqT X.K H p ys)∧Q (.int ys.length) H):=by
  intro pins s σ H xs us Q I r h
  obtain ⟨p,ys,rfl,hq,q⟩:=h
  obtain ⟨u,rfl,rx⟩:=vals1 r
  cases rx
  have hn:=line63
  rcases hq with hq|hq
  · obtain ⟨its,r',pl,hz⟩:=I.list hq
    have hlen:=r'.length
    exact Calls.call_len_list pl.isList (by simp only [List.size_toArray]<;>omega) ⟨.int ys.length,H,I.tok _,⟨s.toks+1,by rw [List.size_toArray,hlen]⟩,q⟩
  · obtain ⟨its,r',pl,hz⟩:=I.tuple hq
    have hlen:=r'.length
    exact len_tuple pl (by simp only [List.size_toArray]<;>omega) ⟨.int ys.length,H,I.tok _,⟨s.toks+1,by rw [List.size_toArray,hlen]⟩,q⟩
theorem zap:CallR X (.builtin "len") (fun xs H Q=>∃z,xs=[.str z]∧z.length≤sizeLine∧Q (.int z.length) H):=by
  intro pins s σ H xs us Q I r h
  obtain ⟨z,rfl,hz,q⟩:=h
  obtain ⟨u,rfl,t,rfl⟩:=vals1 r
  have hn:=line63
  exact len_str (by omega) ⟨.int z.length,H,I.tok _,⟨_,rfl⟩,q⟩
theorem zbh:CallR X (.type "tuple") (fun xs H Q=>∃p ys,xs=[.ref p]∧((SqL X.K H p ys∧∀l,H l=none→Q (.ref l) (upd H l (.tup ys)))∨(SqT X.K H p ys∧Q (.ref p) H))):=by
  intro pins s σ H xs us Q I r h
  obtain ⟨p,ys,rfl,h⟩:=h
  obtain ⟨u,rfl,rx⟩:=vals1 r
  cases rx
  rcases h with ⟨hq,q⟩|⟨hq,q⟩
  · obtain ⟨its,r',pl,hz⟩:=I.list hq
    have hlen:=r'.length
    refine call_tuple_list pl.isList (fun h' kp=>?_) (by simp only [List.size_toArray]<;>omega)
    have I1:Inv X pins σ H {s with heap:=h'}:=I.kept (t':=s.toks) kp
    have I2:Inv X pins σ (upd H h'.objs.size (.tup ys)) {s with heap:=h'.push {cls:=.type "tuple",data:=.seq its.toArray}} :=
      I1.laid (t':=s.toks) (fun b o e=>Heap.get?_push_of_some _ e) (Nat.le_refl _) (show ObjOk X.prog X.w _ _ _ (.tup ys) from ⟨hz,its,r',IsTup.new _ _,fun o q=>by rw [Heap.get?_push_size _ rfl] at q;cases q;rfl⟩)
    exact ⟨.ref h'.objs.size,_,I2,rfl,q _ (I1.hok.fresh (Nat.le_refl _))⟩
  · obtain ⟨its,r',pl,hz⟩:=I.tuple hq
    exact call_tuple_same pl ⟨.ref p,H,I,rfl,q⟩
def tyV (K:PySem.W.Frag) (T:String) (x:V) (H:Hp):Prop:=match x with
  | .str _=>T="str"
  | .int _=>T="int"
  | .ref p=>(T="list"∧∃xs,SqL K H p xs)∨(T="tuple"∧∃o,K.lookup p=some o∧o.cls=.type "tuple"∧o.dict=none) ∨
      (T="dict"∧((∃kvs,H p=some (.dK kvs))∨∃kvs,H p=some (.dT kvs)))∨(T="set"∧∃S n,H p=some (.set S n))
  | _=>False
theorem zos {pins:List (Addr×Obj)} {σ:St} {H:Hp} {s:Shared} {T:String} {x:V} {v:Value} (I:Inv X pins σ H s) (r:RelV x v) (ty:tyV X.K T x H) :
    s.TypeIs v T∧∀a,v=.ref a→∃ob,s.heap.get? a=some ob∧ob.dict=none:=by
  cases x with
  | str z =>
    obtain ⟨t,rfl⟩:=r
    cases (show T="str" from ty)
    exact ⟨typeIs_str s z t,fun _ e=>nomatch e⟩
  | int i =>
    obtain ⟨t,rfl⟩:=r
    cases (show T="int" from ty)
    exact ⟨typeIs_int s i t,fun _ e=>nomatch e⟩
  | ref p =>
    cases r
    rcases ty with ⟨rfl,xs,hq⟩|⟨rfl,o,hk,hc,hd⟩|⟨rfl,hk⟩|⟨rfl,S,n,hk⟩
    · obtain ⟨its,_,pl,_⟩:=I.list hq
      refine ⟨pl.isList.typeIs,fun a e=>?_⟩
      cases e
      obtain ⟨o,n,e,c,hd,_⟩:=pl
      exact ⟨o,e,hd⟩
    · refine ⟨⟨o,I.kIn p o hk,hc⟩,fun a e=>?_⟩
      cases e
      exact ⟨o,I.kIn _ o hk,hd⟩
    · have z:∃o,s.heap.get? p=some o∧o.ExactDict:=by
        rcases hk with ⟨kvs,hk⟩|⟨kvs,hk⟩
        · obtain ⟨_,_,_,_,o,_,_,e,ex,_⟩:=I.hok p _ hk
          exact ⟨o,e,ex⟩
        · obtain ⟨_,_,_,_,o,_,_,e,ex,_⟩:=I.hok p _ hk
          exact ⟨o,e,ex⟩
      obtain ⟨o,e,ex⟩:=z
      refine ⟨⟨o,e,ex.1⟩,fun a e2=>?_⟩
      cases e2
      exact ⟨o,e,ex.2.1⟩
    · obtain ⟨o,_,_,_,e,ex,_⟩:=I.hok p _ hk
      refine ⟨⟨o,e,ex.1⟩,fun a e2=>?_⟩
      cases e2
      exact ⟨o,e,ex.2.1⟩
  | _=>exact False.elim ty
def tBM0 (K:PySem.W.Frag) (T:String) (r:V→List V→Hp→VK→Prop) (to:TE):TE:=fun σ H Q=>to σ H fun x H1=>tyV K T x H1∧r x [] H1 Q
def tBM (K:PySem.W.Frag) (T:String) (r:V→List V→Hp→VK→Prop) (to:TE) (t:TA):TE:=fun σ H Q=>to σ H fun x H1=>tyV K T x H1∧t σ H1 fun xs H2=>r x xs H2 Q
variable {o e:Expr} {es:List Expr} {to:TE} {t:TA} {name:Str} {apos cpos:Pos} {T id:String} {r:V→List V→Hp→VK→Prop}
theorem pe_bm0 (pa:PlainAttrs T) (slot:Slot T name id) (hty:typeOf (.builtin id)=pure (.type "method_descriptor")) (hm:MtR X id r) (ho:PE X o to)
    (hbase:attributeBase o name X.env (eval o X.env)=eval o X.env:=by rfl) (hline:(apos.endLine==cpos.line)=true:=by rfl):PE X (.Call (.Attribute o name apos) [] [] cpos) (tBM0 X.K T r to):=by
  intro pins s σ H Q I h
  refine wpAny_Call_method0_late hbase hline (thn (ho pins s σ H _ I h) fun v s1 ⟨x,H1,I1,r1,ty,q1⟩=>?_)
  obtain ⟨h1,h2⟩:=zos I1 r1 ty
  exact ⟨T,id,pa,slot,hty,h1,h2,Calls.callWith_builtin rfl (PySem.evalArgs_none (hm pins s1 σ H1 x [] v [] Q I1 r1 .nil q1))⟩
theorem pe_bm (pa:PlainAttrs T) (slot:Slot T name id) (hty:typeOf (.builtin id)=pure (.type "method_descriptor")) (hm:MtR X id r) (ho:PE X o to) (ha:PA X (e::es) t)
    (hbase:attributeBase o name X.env (eval o X.env)=eval o X.env:=by rfl)
    (hfew:((backTo cpos (starEach (e::es) X.env)).all (fun x=>!x.1)&&(backToKw cpos (keywordEach [] X.env)).all (fun x=>x.1.isSome)
      && decide ((e::es).length+([]:List Keyword).length+(if ([]:List Keyword).isEmpty then 0 else 1)<30))=true:=by rfl)
    (hline:(apos.endLine==cpos.line)=true:=by rfl) (hs:starEach (e::es) X.env=(false,eval e X.env)::starEach es X.env:=by rfl) (hplain:(backTo cpos (starEach es X.env)).any (·.1)=false:=by rfl) :
    PE X (.Call (.Attribute o name apos) (e::es) [] cpos) (tBM X.K T r to t):=by
  intro pins s σ H Q I h
  refine wpAny_Call_method_late hbase hfew hline rfl (thn (ho pins s σ H _ I h) fun v s1 ⟨x,H1,I1,r1,ty,q1⟩=>?_)
  obtain ⟨h1,h2⟩:=zos I1 r1 ty
  refine ⟨T,id,pa,slot,hty,h1,h2,?_⟩
  have hA:=ha cpos pins s1 σ H1 _ I1 q1
  rw [hs] at hA ⊢
  refine Calls.callWith_builtin (by show (false||(backTo cpos (starEach es X.env)).any (·.1))=false;rw [hplain]<;>rfl) (Calls.evalArgs_plain ?_)
  exact thn hA fun us s2 z_16=>by obtain ⟨vs,H2,I2,r2,q2⟩:=z_16;exact hm pins s2 σ H2 x vs v us Q I2 r1 r2 q2
/- xs.append(e),list.index on a module's tuple .. are MtR facts of 06m -/
end
end L2
namespace L2
open PySem PySem.Spec PyProof.Rows
def MtM (X:Cx) (id:String) (r:V→List V→Hp→VK→Prop):Prop :=
  ∀(pins:List (Addr×Obj)) (s:Shared) (σ:St) (H:Hp) (x:V) (xs:List V) (v:Value) (us:List Value) (Q:VK),Inv X pins σ H s→RelV x v→Vals xs us→r x xs H Q →
    wpAny (model X.prog X.w) X.A (call (.builtin id) (v::us)) (EP X pins σ Q) X.xe s
theorem Vals.one:∀{x:V} {us:List Value},Vals [x] us→∃u,us=[u]∧RelV x u
  | _,_,.cons r .nil=>⟨_,rfl,r⟩
section
variable {X:Cx} {pins:List (Addr×Obj)} {σ:St} {H:Hp} {s:Shared} {l b:Addr} {xs ys zs:List V}
theorem Inv.lset {its its':List Value} {n:Nat} {f:Array Value→Array Value} {t':Nat} (I:Inv X pins σ H s) (hH:H l=some (.lst xs))
    (e:s.heap.get? l=some {cls:=.type "list",data:=.seq its.toArray n}) (hf:f its.toArray=its'.toArray) (hv:Vals ys its') (hz:ys.length≤sizeLine) :
    Inv X pins σ (upd H l (.lst ys)) {s with heap:=s.heap.update l (Obj.mapSeq f),toks:=t'}:=by
  have q:=PySem.IsL.update e f
  rw [hf] at q
  refine I.write (x:=l) (e:=l) (by rw [hH];exact trivial) (.inl rfl) (fun b' u hb hu=>(Heap.get?_update_other s.heap (Obj.mapSeq f) (Ne.symm hb)).trans hu) ⟨_,q⟩ ?_
  exact ⟨hz,its',_,hv,q⟩
theorem Inv.lnew {its:List Value} {t':Nat} (I:Inv X pins σ H s) (hv:Vals ys its) (hz:ys.length≤sizeLine) :
    Inv X pins σ (upd H s.heap.objs.size (.lst ys)) {s with heap:=s.heap.push {cls:=.type "list",data:=.seq its.toArray},toks:=t'} :=
  I.laid (fun _ _ q=>Heap.get?_push_of_some _ q) (Nat.le_refl _) ⟨hz,its,0,hv,Heap.get?_push_size _ rfl⟩
theorem Inv.fresh (I:Inv X pins σ H s):H s.heap.objs.size=none:=I.hok.fresh (Nat.le_refl _)
theorem Inv.lstM (I:Inv X pins σ H s) (hH:H l=some (.lst xs)):xs.length≤sizeLine∧∃(its:List Value) (n:Nat),Vals xs its∧xs.length=its.length∧s.heap.get? l=some {cls:=.type "list",data:=.seq its.toArray n}:=by
  obtain ⟨z,its,n,r,e⟩:=I.hok l _ hH
  exact ⟨z,its,n,r,r.length,e⟩
end
section
variable {X:Cx}
def rAppend:V→List V→Hp→VK→Prop:=fun x vs H Q=>∃l xs y,x=.ref l∧vs=[y]∧H l=some (.lst xs)∧xs.length<sizeLine∧Q .non (upd H l (.lst (xs++[y])))
theorem zdd:MtM X "list.append" rAppend:=by
  intro pins s σ H x vs v us Q I rx rv h
  obtain ⟨l,xs,y,rfl,rfl,hH,hz,q⟩:=h
  cases rx
  obtain ⟨u,rfl,ru⟩:=rv.one
  obtain ⟨z,its,n,r,hl,e⟩:=I.lstM hH
  refine call_meets F.slot_list_append ⟨_,e,rfl⟩ F.entry_list_append (F.args_list_append_2 _ _) (PySem.list_append l its.toArray n u (by rw [List.size_toArray];omega)) ⟨e,?_⟩
  refine ⟨.non,_,I.lset (its':=its++[u]) hH e (by simp) (r.append (.cons ru .nil)) ?_,rfl,q⟩
  rw [List.length_append,List.length_singleton]
  omega
def rCat:R2:=fun x y H Q=>∃l b xs zs,x=.ref l∧y=.ref b∧H l=some (.lst xs)∧H b=some (.lst zs)∧xs.length+zs.length≤sizeLine∧∀p,H p=none→Q (.ref p) (upd H p (.lst (xs++zs)))
theorem zow:OpR X (binaryOp .Add) rCat:=by
  intro pins s σ H x y v u Q I rx ry h
  obtain ⟨l,b,xs,zs,rfl,rfl,hH,hB,hz,q⟩:=h
  cases rx
  cases ry
  obtain ⟨z,its,n,r,hl,e⟩:=I.lstM hH
  obtain ⟨z2,its2,n2,r2,hl2,e2⟩:=I.lstM hB
  refine PySem.P.add_list e e2 ?_ (by rw [List.size_toArray,List.size_toArray];omega)
  have ea:its.toArray++its2.toArray=(its++its2).toArray:=by simp
  rw [ea]
  exact ⟨.ref _,_,I.lnew (t':=s.toks) (r.append r2) (by rw [List.length_append];omega),rfl,q _ I.fresh⟩
end
end L2
namespace Att
open PySem PySem.W PySem.Calls PyProof.Rows
theorem zfw {P:Params} {h:Heap}:∀(ns:List Int) (vs:List Value),WellAll P h vs (ns.map WData.int)→IntsAre vs ns:=by
  intro ns
  induction ns with
  | nil =>
    intro vs w
    rw [List.map_nil] at w
    cases w
    exact .nil
  | cons n ns ih =>
    intro vs w
    rw [List.map_cons] at w
    cases w with
    | cons a b =>
      cases a
      exact .cons _ _ (ih _ b)
theorem zk7 {l:OpenLaw} {n:Nat} (hn:l.most=some n) {P:Params} {h:Heap} {args:List WData} {vals:List Value}
    (hpre:l.row.toRowW.claim.pre args=true) (hwl:WellAll P h vals args) :
    ∃a vs ns,vals=[Value.ref a]∧args=[WData.list (ns.map WData.int)]∧h.get? a=some {cls:=.type "list",data:=.seq vs.toArray}∧IntsAre vs ns∧ns.length≤n:=by
  have hsh:WShape.hasAll [] args [.list .int]=true:=(pre_splitW hpre).1
  have hc:l.pre.holds [] {args:=args}=true:=(pre_splitW hpre).2
  obtain ⟨d,r,rfl,h1,h2⟩:=hasAllW_cons hsh
  obtain rfl:=hasAllW_nil h2
  obtain ⟨xs,rfl,h3⟩:=hasW_list h1
  obtain ⟨ns,rfl⟩:=items_int h3
  have hlen:ns.length≤n:=by
    unfold OpenLaw.pre at hc
    have h4:(WTm.not (.lt (.lit (.int (n:Int))) (.len (.arg 0)))).holds [] {args:=[.list (ns.map .int)]}=true:=by
      have h4:=(holds_andW hc).1
      rw [hn] at h4
      exact h4
    have h5:=condW_of h4 (w_not (w_lt w_lit (w_len_list (w_arg rfl))))
    rw [List.length_map] at h5
    refine Nat.le_of_not_lt fun q=>?_
    have q':(n:Int)<((ns.length:Nat):Int):=by omega
    first
      | (rw [decide_eq_true q'] at h5;exact absurd h5 (by decide))
      | (simp at h5;omega)
  cases hwl with
  | cons w1 w2 =>
    cases w2
    cases w1 with
    | list ho hall=>exact ⟨_,_,ns,rfl,rfl,ho,zfw ns _ hall,hlen⟩
theorem zli (l:OpenLaw) (args:List WData):l.row.toRowW.claim.post args (.bool true) args=true :=
  postW_of (r:=l.row.toRowW) (X:=(true==true))
    (show WShape.has [] (.bool true) .bool=true by first|rfl|decide|simp [WShape.has,WShape.arms,WShape.armsAll])
    (show (WTm.eq .res (.lit (.bool true))).value [] {args:=args,res:=some (.bool true),after:=args}=some (.bool (true==true)) from w_eq_bool (w_res rfl) w_lit) rfl
theorem zi8 {l:OpenLaw} {n:Nat} {q:Program} {loose:List Str} {XP:(Str→Option Value)→Heap→Prop} {YP:World→Heap→Prop} {d:DefRec}
    (hn:l.most=some n) (hdf:d.params.defaults=[])
    (call:∀(w:World) (s₀ s₁:Shared) (mg mb:Str→Option Value) (fa:Addr) (o:Obj) (pm cd doc:Value) (a:Addr) (vs:List Value) (ns:List Int),
      Ground q loose [] XP w s₀ mg mb s₁.heap→YP w s₁.heap →
      s₁.heap.get? fa=some o→o.data=.func (docDef d.name d.params d.body d.scope pm cd doc)→s₁.heap.CodeRec cd d.name→mg d.name=some (.ref fa) →
      s₁.heap.get? a=some {cls:=.type "list",data:=.seq vs.toArray}→IntsAre vs ns→ns.length≤n→s₁.gens=#[] →
      codeAny (model l.prog w) callerA (.call (.ref fa) ⟨[.ref a],[]⟩) (fun r s'=>r=.ok (.ret (.bool true))∧OldK s₁.heap s'.heap∧s'.os=s₁.os∧AllBare s'.gens) s₁) :
    WalkO q loose XP YP l.row.toRowW d [] (fun f vs=>PySem.call f vs):=by
  intro w s₀ s₁ mg mb G Y fa o pm cd doc dV kV ho hd hcd hD hmg hg args vals as hpre hlay hrd hwl hlo
  obtain rfl:dV=.none:=Dflts.none hD hdf
  obtain rfl:kV=.none:=Dflts.noKw hD
  obtain ⟨a,vs,ns,rfl,rfl,hobj,hints,hlen⟩:=zk7 hn hpre hwl
  refine enter_call (codeAny_mono (call w s₀ s₁ mg mb fa o pm cd doc a vs ns G Y ho (fd_plain hd) hcd hmg hobj hints hlen hg) fun r s' hq=>?_)
  obtain ⟨rfl,h2,h3,h4⟩:=hq
  exact ⟨.inl ⟨.bool true,.bool true,[],rfl,fun _=>rfl,.bool true,zli l _,fun _=>⟨List.Pairwise.nil,fun _ hm=>(nomatch hm)⟩⟩,h2,h3,h4⟩
end Att
namespace L2
open PySem PySem.Spec PyProof.Rows
theorem zd2:∀{vs:List Value} {ns:List Int},IntsAre vs ns→Vals (ns.map V.int) vs
  | _,_,.nil=>.nil
  | _,_,.cons n t h=>.cons ⟨t,rfl⟩ (zd2 h)
def Only (H:Hp):Prop:=∀b,H b=none∨∃o xs,H b=some (.frz o (.lst xs))
theorem zoe {P:Program} {w:World} {K:PySem.W.Frag} {mg mb:Str→Option Value} {CX:CXT} {k:Nat} {fa a:Addr} {fd:FuncData} {x:Str} {sp:Sp} {s₁:Shared} {vs:List Value} {ns:List Int}
    (KX:K.In s₁.heap) (hns:s₁.heap.Ns mainGlobals mg) (hb:s₁.heap.Ns builtinsNs mb) (hbb:∀x:Str,x≠"__name__"→mb x=bootBuiltins x) (hlim:s₁.heap.NoLimit) (hg:s₁.gens=#[])
    (ha:s₁.heap.get? a=some {cls:=.type "list",data:=.seq vs.toArray}) (hi:IntsAre vs ns) (hl:ns.length≤sizeLine) (hr:Room k callerA)
    (F:∀base:Heap,K.In base→base.Ns mainGlobals mg→FnOk P w K mg base CX k fa fd [x] sp) (hbind:∀(s:Shared) (u:Value),BindsTo s fd ⟨[u],[]⟩ [(x,u)])
    (hsp:∀H:Hp,Only H→SqL K H a (ns.map V.int)→sp [.ref a] H (fun v _=>v=.bl true) fun _ _ _=>False)
    (hCX:∀H e s',CX [] H s₁ (fun _ _ _=>False) e s'→False) :
    codeAny (model P w) callerA (.call (.ref fa) ⟨[.ref a],[]⟩) (fun r s'=>r=.ok (.ret (.bool true))∧OldK s₁.heap s'.heap∧s'.os=s₁.os∧AllBare s'.gens) s₁:=by
  have rv:=zd2 hi
  have lenV:=hi.length
  have core:∀H:Hp,Only H→SqL K H a (ns.map V.int)→HOk P w H s₁.heap→(∀b,H b≠none→b=a)→(H a≠none→K.lookup a=none) →
      codeAny (model P w) callerA (.call (.ref fa) ⟨[.ref a],[]⟩) (fun r s'=>r=.ok (.ret (.bool true))∧OldK s₁.heap s'.heap∧s'.os=s₁.os∧AllBare s'.gens) s₁:=by
    intro H hO hS hok hA hK
    have base_of:∀{b:Addr} {o:Obj},s₁.heap.get? b=some o→H b=none→(hidT s₁.heap H).get? b=some o:=fun e n=>zoh e n
    have noA:∀{b:Addr} {o:Obj} {es:Array DictEntry} {ep:Nat},s₁.heap.get? b=some o→o.data=.dict es ep→H b=none:=fun {b o es ep} e d=>by
      cases q:H b with
      | none=>rfl
      | some u =>
        have e':b=a:=hA b (by rw [q];simp)
        subst e'
        rw [ha] at e;cases e
        have d':Data.seq vs.toArray _=Data.dict es ep:=d
        cases d'
    have nsK:∀{b:Addr} {m:Str→Option Value},s₁.heap.Ns b m→(hidT s₁.heap H).Ns b m:=fun {b m} z_19=>by obtain ⟨o,es,ep,e,d,r⟩:=z_19;exact ⟨o,es,ep,base_of e (noA e d),d,r⟩
    have hKb:K.In (hidT s₁.heap H):=fun b o e=>base_of (KX b o e) (by
      cases q:H b with
      | none=>rfl
      | some u =>
        have e':b=a:=hA b (by rw [q];simp)
        subst e'
        rw [hK (by rw [q];simp)] at e;cases e)
    have hM:Mod K mg (hidT s₁.heap H):=⟨hKb,nsK hns,⟨mb,nsK hb,hbb⟩,let ⟨mc,h1,h2⟩:=hlim;⟨mc,nsK h1,h2⟩⟩
    have e0:Env0 P w K mg (hidT s₁.heap H) callerA [] s₁ H:=⟨rfl,hM,fun b o e=>zp3 e,Nat.le_of_eq (zme _ _),trivial,fun b hb=>absurd (show b∈([]:List Addr) from hb) (by simp),hok,.of_eq hg⟩
    refine codeAny_mono ((F _ hKb (nsK hns)).run callerA [] s₁ H ⟨[.ref a],[]⟩ [.ref a] [.ref a] _ _ hr e0 (hbind s₁ (.ref a)) (.cons rfl .nil) (hsp H hO hS)) fun r s' h=>?_
    cases r with
    | error e=>exact (hCX H e s' h).elim
    | ok fl =>
      cases fl with
      | next=>exact False.elim h
      | brk=>exact False.elim h
      | cont=>exact False.elim h
      | ret u =>
        obtain ⟨v,H',os,bare,un,hok',r',q⟩:=h
        have q':v=.bl true:=q
        subst q'
        obtain rfl:u=Value.bool true:=r'
        refine ⟨rfl,OldK.of_keep fun b o e=>?_,os,bare⟩
        cases q:H b with
        | none=>exact un.keep b o e q (by intro z;exact absurd (show b∈([]:List Addr) from z) (by simp)) (by simp)
        | some u =>
          rcases hO b with z|⟨ob,xs,z⟩
          · rw [q] at z;cases z
          · have z2:=un.frzs b ob _ z
            obtain ⟨e1,_⟩:=hok b _ z
            obtain ⟨e2,_⟩:=hok' b _ z2
            rw [e] at e1;cases e1
            exact e2
  cases hk:K.lookup a with
  | some o =>
    have e:=KX a o hk
    rw [ha] at e
    cases e
    refine core (fun _=>none) (fun _=>.inl rfl) (.inr ⟨_,vs.toArray,_,hk,rfl,rfl,rfl,by rw [List.size_toArray,lenV];exact hl,by simpa using rv⟩) (fun b u z=>by have z':(none:Option HO)=some u:=z;cases z') (fun b z=>absurd rfl z) fun z=>absurd rfl z
  | none =>
    refine core (fun b=>if b=a then some (.frz {cls:=.type "list",data:=.seq vs.toArray} (.lst (ns.map V.int))) else none) (fun b=>?_) (.inl (.inr ⟨{cls:=.type "list",data:=.seq vs.toArray},if_pos rfl⟩)) (fun b u z=>?_) (fun b z=>?_) fun _=>hk
    · by_cases hb:b=a
      · exact .inr ⟨_,_,if_pos hb⟩
      · exact .inl (if_neg hb)
    · by_cases hb:b=a
      · have z':=(if_pos hb).symm.trans z
        cases z'
        subst hb
        exact ⟨ha,by rw [List.length_map];exact hl,vs,_,rv,ha⟩
      · have z':=(if_neg hb).symm.trans z
        cases z'
    · by_cases hb:b=a
      · exact hb
      · exact absurd (if_neg hb) z
end L2
namespace L2
open PySem PySem.Spec PyProof.Rows
theorem zks {l:PySem.W.OpenLaw} {n k:Nat} {q:Program} {loose:List Str} {XP:(Str→Option Value)→Heap→Prop} {YP:World→Heap→Prop} {d:DefRec} {K:Params→PySem.W.Frag} {CX:World→CXT} {sp:World→Sp} {x:Str}
    (hn:l.most=some n) (hn2:n≤sizeLine) (hdf:d.params.defaults=[]) (hr:Room k callerA)
    (hY:∀(w:World) (h:Heap),YP w h→(K w.params).In h)
    (F:∀(w:World) (mg:Str→Option Value) (fa:Addr) (h:Heap),(K w.params).In h→h.Ns mainGlobals mg→mg d.name=some (.ref fa) →
      ∃fd:FuncData,(∀(s:Shared) (u:Value),BindsTo s fd ⟨[u],[]⟩ [(x,u)]) ∧
        ∀base:Heap,(K w.params).In base→base.Ns mainGlobals mg→FnOk l.prog w (K w.params) mg base (CX w) k fa fd [x] (sp w))
    (hsp:∀(w:World) (H:Hp) (a:Addr) (ns:List Int),ns.length≤n→Only H→SqL (K w.params) H a (ns.map V.int)→sp w [.ref a] H (fun v _=>v=.bl true) fun _ _ _=>False)
    (hCX:∀(w:World) (H:Hp) (s:Shared) (e:Value) (s':Shared),CX w [] H s (fun _ _ _=>False) e s'→False) :
    PySem.W.WalkO q loose XP YP l.row.toRowW d [] (fun f vs=>PySem.call f vs):=by
  refine Att.zi8 hn hdf fun w s₀ s₁ mg mb fa o pm cd doc a vs ns G Y ho hd hcd hmg hobj hints hlen hg=>?_
  have KX:=hY w _ Y
  obtain ⟨fd,hb,hF⟩:=F w mg fa _ KX G.T.g hmg
  exact zoe KX G.T.g G.T.b G.T.builtins G.T.nolimit hg hobj hints (Nat.le_trans hlen hn2) hr hF hb (fun H hO hS=>hsp w H a ns hlen hO hS) fun H e s'=>hCX w H s₁ e s'
end L2
/- THE LAST THEOREM (shape;LID,My.* are yours):
   My.Adr: a structure of the addresses that your layer names (classes,functions);My.Txt K t: a structure (Prop) of the equations over K;
   My.txt_mk:{K} {implicit addresses ..} (e1:nsIn K mainGlobals "law"=some (some (.ref f))) (e2:K.lookup f=some ⟨oc,od,.func (fnOf "law" "law" params body scope dV kV doc pm an cdv ct),sl⟩) (e3:codeIn K cdv "law"=true) ..:∃t,My.Txt K t
set_option maxRecDepth 100000 in
set_option maxHeartbeats 0 in
theorem PySem.Challenge.cw_LID_holds:PySem.Challenge.rw_LID.Holds:=by
  w_on;o_law;k_head;(case hw=>w_witness2)
  k_fill
  refine L2.zks (l:=PySem.Challenge.rw_LID) (n:=63) (k:=40) (x:="script") (CX:=fun w=>..) (sp:=fun _=>My.sp_law) rfl (by decide) rfl ⟨rfl,by decide,by decide⟩ (fun w h Y=>PySem.W.kIn_of Y) ?F ?S ?C
  case F =>
    intro w mg fa h KX G hmg
    have T:∃t,My.Txt (L2.KOf KX) t:=by
      dsimp only [L2.KOf]                          -- K must stand as «<heap const> w.params» for k_is
      refine' My.txt_mk ?e1 ?e2 ?e3 ..
      (case e1=>PySem.W.k_is)                    -- in the order: a name -> its address -> its object -> its parts
      (case e2=>PySem.W.k_is)
      ..
    obtain ⟨t,T⟩:=T
    have e0:=hmg.symm.trans (PySem.W.mg_of KX G T.law)
    cases e0                                       -- fa is the law's own address
    exact ⟨_,fun s u=>.of_eq rfl,fun base kb nb=>My.zl4 T kb nb⟩     -- if «.of_eq rfl» comes too early: refine' ⟨_,?b,fun base kb nb=>My.zl4 T kb nb⟩;exact fun s u=>.of_eq rfl
  case S=>exact fun w H a ns hl hO hS=>..
  case C=>exact ..
(the tactic k_is has no namespace: write k_is) -/
namespace L2
open PySem PySem.Spec PyProof.Rows
noncomputable def inClass (s:Stmt) (j:Nat):Stmt:=match s with
  | .ClassDef _ _ _ body _ _ _ _ _ _ _=>body.getD j (.Pass ⟨0,0,0,0⟩)
  | _=>.Pass ⟨0,0,0,0⟩
noncomputable def defArgs (s:Stmt):Arguments:=match s with
  | .FunctionDef _ a _ _ _ _ _ _ _ _=>a
  | _=>{posonlyargs:=[],args:=[],vararg:=none,kwonlyargs:=[],kw_defaults:=[],kwarg:=none,defaults:=[]}
noncomputable def defBody (s:Stmt):List Stmt:=match s with
  | .FunctionDef _ _ b _ _ _ _ _ _ _=>b
  | _=>[]
noncomputable def defScope (s:Stmt):Scope:=match s with
  | .FunctionDef _ _ _ _ _ _ sc _ _ _=>sc
  | _=>{kind:=.function,names:=[],isGenerator:=false,isCoroutine:=false}
abbrev E0:XK:=fun _ _ _=>False
structure Fun (K:PySem.W.Frag) (x qual:Str) (st:Stmt) (f:Addr) (fd:FuncData):Prop where
  ex:∃(oc:Value) (od:Option Addr) (kV doc pm:Value) (an:Option Addr) (cdv ct:Value) (osl:Array (Option Value)),
    fd=PySem.W.fnOf x qual (defArgs st) (defBody st) (defScope st) .none kV doc pm an cdv ct∧K.lookup f=some ⟨oc,od,.func fd,osl⟩∧PySem.W.codeIn K cdv qual=true
  kp:PySem.W.keepIn K (.ref f)=true
section
variable {P:Program} {w:World} {K:PySem.W.Frag} {mg:Str→Option Value} {base:Heap}
theorem Fun.binds {x qual:Str} {st:Stmt} {f:Addr} {fd:FuncData} {ps:List Str} (F:Fun K x qual st f fd)
    (h:∀(kV doc pm:Value) (an:Option Addr) (cdv ct:Value) (us:List Value),us.length=ps.length→bindArgs (PySem.W.fnOf x qual (defArgs st) (defBody st) (defScope st) .none kV doc pm an cdv ct) ⟨us,[]⟩=pure (ps.zip us)):Binds K fd ps []:=by
  obtain ⟨oc,od,kV,doc,pm,an,cdv,ct,osl,rfl,lk,hcd⟩:=F.ex
  exact .all (h kV doc pm an cdv ct)
theorem zmh {x qual:Str} {st:Stmt} {f:Addr} {oc:Value} {od an:Option Addr} {osl:Array (Option Value)} {kV doc pm cdv ct:Value} (l:K.lookup f=some ⟨oc,od,.func (PySem.W.fnOf x qual (defArgs st) (defBody st) (defScope st) .none kV doc pm an cdv ct),osl⟩)
    (c:PySem.W.codeIn K cdv qual=true) (k:PySem.W.keepIn K (.ref f)=true):Fun K x qual st f (PySem.W.fnOf x qual (defArgs st) (defBody st) (defScope st) .none kV doc pm an cdv ct):=⟨⟨oc,od,kV,doc,pm,an,cdv,ct,osl,rfl,l,c⟩,k⟩
end
theorem hu_of {A:Around} {k:Nat} (hr:Room k A):A.units+1<cLine:=Nat.lt_of_le_of_lt (Nat.add_le_add_left (by decide:1≤64) _) hr.units
theorem iteF {A B:Prop} (h:B):if false=true then A else B:=by
  rw [if_neg Bool.false_ne_true]
  exact h
theorem iteT {A B:Prop} (h:A):if true=true then A else B:=by
  rw [if_pos rfl]
  exact h
theorem iteNS {c A B:Prop} [Decidable c] (hc:c) (h:B):if (!decide c)=true then A else B:=by
  rw [decide_eq_true hc]
  exact iteF h
end L2
namespace L2
open PySem PySem.Spec PyProof.Rows
section
variable {κ:Type} [DecidableEq κ]
noncomputable def valV (kvs:List (κ×V)) (k:κ):Option V:=(kvs.find? fun kv=>decide (kv.1=k)).map (·.2)
noncomputable def putK (kvs:List (κ×V)) (k:κ) (v:V):List (κ×V) :=
  if (kvs.any fun kv=>decide (kv.1=k))=true then kvs.map (fun kv=>if kv.1=k then (kv.1,v) else kv) else kvs++[(k,v)]
theorem ze4 {p:κ×V} {r:List (κ×V)} {k:κ} (e:p.1=k):valV (p::r) k=some p.2:=by simp [valV,List.find?_cons,e]
theorem ze5 {p:κ×V} {r:List (κ×V)} {k:κ} (e:¬p.1=k):valV (p::r) k=valV r k:=by simp [valV,List.find?_cons,e]
theorem zjl (k:κ):∀kvs:List (κ×V),(kvs.any fun kv=>decide (kv.1=k))=(valV kvs k).isSome
  | []=>rfl
  | p::r=>by
    rw [List.any_cons]
    by_cases e:p.1=k
    · simp only [ze4 e,decide_eq_true e,Bool.true_or,Option.isSome_some]
    · rw [ze5 e,decide_eq_false e,Bool.false_or];exact zjl k r
theorem ziw (kvs:List (κ×V)) (k:κ) (v:V):(putK kvs k v).length≤kvs.length+1:=by
  unfold putK
  split
  · rw [List.length_map];omega
  · rw [List.length_append,List.length_cons,List.length_nil];omega
theorem znj {kvs:List (κ×V)} {k:κ} (v:V) (h:valV kvs k=none):putK kvs k v=kvs++[(k,v)]:=by
  unfold putK
  rw [zjl,h]
  exact if_neg (by decide)
theorem KV.val {kvs:List (κ×V)} {vs:List (κ×Value)} (r:KV kvs vs) (k:κ):RelO (valV kvs k) (valueAt vs k):=by
  unfold KV at r
  induction r with
  | nil=>exact True.intro
  | @cons p q ps qs h t ih =>
    obtain ⟨h1,h2⟩:=h
    by_cases e:p.1=k
    · have e':q.1=k:=h1.symm.trans e
      have b:valueAt (q::qs) k=some q.2:=by simp [valueAt,List.find?_cons,e']
      rw [ze4 e,b];exact h2
    · have e':¬q.1=k:=fun z=>e (h1.trans z)
      have b:valueAt (q::qs) k=valueAt qs k:=by simp [valueAt,List.find?_cons,e']
      rw [ze5 e,b];exact ih
theorem KV.any {kvs:List (κ×V)} {vs:List (κ×Value)} (r:KV kvs vs) (k:κ):(kvs.any fun kv=>decide (kv.1=k))=vs.any fun kv=>decide (kv.1=k):=by
  unfold KV at r
  induction r with
  | nil=>rfl
  | cons h t ih=>rw [List.any_cons,List.any_cons,ih,h.1]
theorem KV.repl {kvs:List (κ×V)} {vs:List (κ×Value)} (r:KV kvs vs) (k:κ) {y:V} {u:Value} (ry:RelV y u) :
    KV (kvs.map fun kv=>if kv.1=k then (kv.1,y) else kv) (vs.map fun kv=>if kv.1=k then (kv.1,u) else kv):=by
  unfold KV at r ⊢
  induction r with
  | nil=>exact .nil
  | @cons p q ps qs h t ih =>
    rw [List.map_cons,List.map_cons]
    refine .cons ?_ ih
    obtain ⟨h1,h2⟩:=h
    by_cases e:p.1=k
    · rw [if_pos e,if_pos (h1.symm.trans e)];exact ⟨h1,ry⟩
    · rw [if_neg e,if_neg (fun z=>e (h1.trans z))];exact ⟨h1,h2⟩
theorem KV.put {kvs:List (κ×V)} {vs:List (κ×Value)} (r:KV kvs vs) (k:κ) {y:V} {u:Value} (ry:RelV y u):KV (putK kvs k y) (stored vs k u):=by
  unfold putK stored
  rw [r.any k]
  by_cases e:(vs.any fun kv=>decide (kv.1=k))=true
  · rw [if_pos e,if_pos e];exact r.repl k ry
  · rw [if_neg e,if_neg e];exact Paired.snoc r ⟨rfl,ry⟩
end
theorem zp4 {P:Program} {w:World} {k:Key} {u:Value} (r:RelV (kV k) u):(mixKind P w).is k u=true:=by
  cases k with
  | inl i=>obtain ⟨t,e⟩:=(show ∃t,u=Value.int i t from r);subst e;exact ziv P w i t
  | inr x=>obtain ⟨t,e⟩:=(show ∃t,u=Value.str x t from r);subst e;exact ziu P w x t
theorem items_are {P:Program} {w:World}:∀{ks:List Key} {us:List Value},Vals (ks.map kV) us→ItemsAre (mixKind P w) ks us
  | [],_,r=>by rw [List.map_nil] at r;cases r;exact .nil
  | k::ks,_,r=>by
    rw [List.map_cons] at r
    cases r with
    | cons h t=>exact .cons (zp4 h) (items_are t)
abbrev KT (H:Hp):List (List Key×V)→List (List Key×Addr×Value)→Prop:=Paired fun p q=>p.1=q.1∧H q.2.1=some (.tup (p.1.map kV))∧RelV p.2 q.2.2
theorem KT.val {H:Hp} {kvs:List (List Key×V)} {xs:List (List Key×Addr×Value)} (r:KT H kvs xs) (k:List Key):RelO (valV kvs k) ((atKey xs k).map (·.2)):=by
  induction r with
  | nil=>exact True.intro
  | @cons p q ps qs h t ih =>
    obtain ⟨h1,_,h2⟩:=h
    by_cases e:p.1=k
    · have e':q.1=k:=h1.symm.trans e
      have b:atKey (q::qs) k=some q.2:=by simp [atKey,List.find?_cons,e']
      rw [ze4 e,b];exact h2
    · have e':¬q.1=k:=fun z=>e (h1.trans z)
      have b:atKey (q::qs) k=atKey qs k:=by simp [atKey,List.find?_cons,e']
      rw [ze5 e,b];exact ih
section
variable {P:Program} {w:World} {H:Hp} {h:Heap} {a:Addr}
theorem rd_of {u:HO} (ok:HOk P w H h) (e:Rd H a u):ObjOk P w H h a u:=e.ok ok
theorem zqc {kvs:List (Key×V)} (ok:HOk P w H h) (e:Rd H a (.dK kvs)):kvs.length≤sizeLine∧(a==sysModules)=false∧∃vs,KV kvs vs∧h.DictOf (mixKind P w) a vs :=
  show ObjOk P w H h a (.dK kvs) from rd_of ok e
theorem dk_of {kvs:List (Key×V)} (ok:HOk P w H h) (e:H a=some (.dK kvs)):kvs.length≤sizeLine∧(a==sysModules)=false∧∃vs,KV kvs vs∧h.DictOf (mixKind P w) a vs:=zqc ok (.inl e)
theorem zoy {ks:List Key} (ok:HOk P w H h) (e:H a=some (.tup (ks.map kV))):(tupleKind (mixKind P w)).is h ks a:=by
  obtain ⟨_,its,r,⟨o,h1,h2,n,h3⟩,_⟩:=(show ObjOk P w H h a (.tup (ks.map kV)) from ok a _ e)
  exact ⟨o,its.toArray,n,h1,h2,h3,by simpa using items_are r⟩
theorem dt_rd {kvs:List (List Key×V)} (ok:HOk P w H h) (e:Rd H a (.dT kvs)):kvs.length≤sizeLine∧(a==sysModules)=false ∧
    ∃xs,KT H kvs xs∧h.DictOfH (tupleKind (mixKind P w)) a xs:=by
  obtain ⟨z,y,xs,r,o,es,ep,h1,h2,h3,h4,h5⟩:=(show ObjOk P w H h a (.dT kvs) from rd_of ok e)
  refine ⟨z,y,xs,r,o,es,ep,h1,h2,h3,h4,fun x hx=>?_,h5⟩
  have all:∀{l:List (List Key×V)} {m:List (List Key×Addr×Value)},KT H l m→∀x∈m,(tupleKind (mixKind P w)).is h x.1 x.2.1:=by
    intro l m q
    induction q with
    | nil=>intro x hx;exact nomatch hx
    | @cons p q ps qs hq t ih =>
      intro x hx
      rcases List.mem_cons.mp hx with e|hx
      · subst e
        exact zoy ok (by rw [←hq.1];exact hq.2.1)
      · exact ih x hx
  exact all r x hx
end
def DGet (H:Hp) (a:Addr) (y:V) (r:Option V):Prop :=
  (∃kvs k,Rd H a (.dK kvs)∧y=kV k∧r=valV kvs k)∨∃kvs k b,Rd H a (.dT kvs)∧y=.ref b∧H b=some (.tup (k.map kV))∧r=valV kvs k
theorem DGet.k {H:Hp} {a:Addr} {kvs:List (Key×V)} {k:Key} (e:H a=some (.dK kvs)):DGet H a (kV k) (valV kvs k):=.inl ⟨kvs,k,.inl e,rfl,rfl⟩
section
variable {X:Cx} {pins:List (Addr×Obj)} {σ:St} {H:Hp} {s:Shared} {a:Addr} {y v:V} {u r:Value} {o:Option V} {A:Around} {E:Value→Shared→Prop}
theorem Inv.big (I:Inv X pins σ H s):sysModules<s.heap.objs.size:=by
  have h:mainGlobals<s.heap.objs.size:=(I.mod.glob.keeps I.bk).lt
  exact Nat.lt_trans (by decide) h
theorem zm1 {Q:Value→Shared→Prop} (hu:A.units+1<cLine) (I:Inv X pins σ H s) (g:DGet H a y (some v)) (ry:RelV y u) (h:∀w' s',Inv X pins σ H s'→RelV v w'→Q w' s') :
    wpAny (model X.prog X.w) A (getItem (.ref a) u) Q E s:=by
  rcases g with ⟨kvs,k,e,ey,l⟩|⟨kvs,k,b,e,ey,eb,l⟩
  · subst ey
    obtain ⟨z,hd,vs,rel,dd⟩:=zqc I.hok e
    obtain ⟨w',hw,rw'⟩:=RelO.some_of (v:=v) (o:=valueAt vs k) (by rw [l];exact rel.val k)
    exact wpAny_getItem_of (zp4 ry) dd.mapOf hw (h w' _ (I.tok _) rw')
  · subst ey
    cases (show u=Value.ref b from ry)
    obtain ⟨z,hd,xs,rel,dd⟩:=dt_rd I.hok e
    obtain ⟨w',hw,rw'⟩:=RelO.some_of (v:=v) (o:=(atKey xs k).map (·.2)) (by rw [l];exact rel.val k)
    obtain ⟨p,hp,hp2⟩:=Option.map_eq_some_iff.mp hw
    refine wpAny_getItem_heap (tupleKind_room_in1 hu) (zoy I.hok eb) dd hp ?_
    rw [hp2]
    exact h w' _ (I.tok _) rw'
theorem zqd {h':Heap} {t':Nat} {ob:HO} (I:Inv X pins σ H s) (mu:Mut (H a)) (hs:Heap.SameBut a s.heap h') (he:∃q,h'.get? a=some q) (new:ObjOk X.prog X.w (upd H a ob) h' a ob) :
    Inv X pins σ (upd H a ob) {s with heap:=h',toks:=t'} :=
  I.write (x:=a) (e:=a) mu (.inl rfl) (fun b q hb z=>(hs.2 b hb).trans z) he new
theorem dk_new {P:Program} {w:World} {H':Hp} {h':Heap} {kvs:List (Key×V)} {vs:List (Key×Value)} (z:kvs.length≤sizeLine) (hd:(a==sysModules)=false) (rel:KV kvs vs) (dd:h'.DictOf (mixKind P w) a vs) :
    ObjOk P w H' h' a (.dK kvs):=⟨z,hd,vs,rel,dd⟩
end
def NoSl (i:Expr):Prop:=∀ov iv,subscripted i false ov iv=operate [ov,iv] (getItem ov iv)
theorem zpb {prog:Program} {w:World} {A:Around} {E:Value→Shared→Prop} {s:Shared} {env:Env} {value slice:Expr} {pos:Pos} {T id:String} {Q:Value→Shared→Prop}
    (hl:typeLookup (.type T) "__getitem__"=pure (some (.builtin id))) (hs:NoSl slice)
    (h:wpAny (model prog w) A (eval value env) (fun o s₁=>wpAny (model prog w) A (eval slice env) (fun i s₂=>s₂.TypeIs o T∧wpAny (model prog w) A (getItem o i) Q E s₂) E s₁) E s) :
    wpAny (model prog w) A (eval (.Subscript value slice pos) env) Q E s:=by
  refine Subscript_ (wpAny_mono h (fun o s₁ h₁=>wpAny_mono h₁ (fun i s₂ h₂=>?_) fun _ _ x=>x) fun _ _ x=>x)
  obtain ⟨hT,h₂⟩:=h₂
  unfold subscriptTail
  refine wpAny_bind ?_
  rw [getitemInPython_of_ne hT.not_modules]
  refine wpAny_bind (wpAny_specialOf hT hl ?_)
  have fin:wpAny (model prog w) A (subscripted slice false o i) (fun r s₃=>wpAny (model prog w) A (letTemporaryGo value o r >>= fun _=>pure r) Q E s₃) E s₂:=by
    rw [hs o i]
    exact wpAny_operating (wpAny_mono h₂ (fun r s₃ h₃=>wpAny_bind (wpAny_letTemporaryGo (wpAny_pure h₃))) fun _ _ x=>x)
  first
    | exact wpAny_pure (wpAny_bind fin)
    | exact wpAny_bind (wpAny_pure (wpAny_bind fin))
    | exact wpAny_bind fin
theorem zi2 {X:Cx} {pins:List (Addr×Obj)} {σ:St} {H:Hp} {s:Shared} {a:Addr} {y:V} {o:Option V} (I:Inv X pins σ H s) (g:DGet H a y o):s.TypeIs (.ref a) "dict":=by
  rcases g with ⟨kvs,k,e,_,_⟩|⟨kvs,k,b,e,_,_,_⟩
  · obtain ⟨_,_,vs,_,dd⟩:=zqc I.hok e
    exact dd.typeIs
  · obtain ⟨_,_,xs,_,dd⟩:=dt_rd I.hok e
    exact dd.typeIs
def tDGet (td ty:TE):TE:=fun σ H Q=>td σ H fun x H1=>ty σ H1 fun y H2=>∃a v,x=.ref a∧DGet H2 a y (some v)∧Q v H2
section
variable {X:Cx} {o i e value:Expr} {pos pos' tpos:Pos} {td ty tv:TE}
theorem zpt (hu:X.A.units+1<cLine) (ho:PE X o td) (hi:PE X i ty) (hs:NoSl i):PE X (.Subscript o i pos) (tDGet td ty):=by
  intro pins s σ H Q I h
  refine zpb PySem.F.slot_dict_getitem.lookup hs (thn (ho pins s σ H _ I h) fun u s1 ⟨x,H1,I1,rx,q1⟩=>thn (hi pins s1 σ H1 _ I1 q1) fun iv s2 ⟨y,H2,I2,ry,a,v,ex,g,q2⟩=>?_)
  subst ex
  obtain rfl:u=Value.ref a:=rx
  exact ⟨zi2 I2 g,zm1 hu I2 g ry fun w' s3 I3 rw'=>⟨v,H2,I3,rw',q2⟩⟩
end
theorem zom {P:Program} {w:World} {H:Hp} (h:Heap) (hb:sysModules<h.objs.size):ObjOk P w H (h.push {cls:=.type "dict",data:=.dict #[]}) h.objs.size (.dK []) :=
  ⟨Nat.zero_le _,beq_eq_false_iff_ne.mpr (Ne.symm (Nat.ne_of_lt hb)),[],.nil,Heap.DictOf.new h⟩
def tPairs:List (TE×TE)→St→Hp→(List (V×V)→Hp→Prop)→Prop
  | [],_,H,Q=>Q [] H
  | (tk,tv)::r,σ,H,Q=>tk σ H fun x H1=>tv σ H1 fun y H2=>tPairs r σ H2 fun ps H3=>Q ((x,y)::ps) H3
abbrev VV:List (V×V)→List (Value×Value)→Prop:=Paired fun p q=>RelV p.1 q.1∧RelV p.2 q.2
def PPs (X:Cx) (pos:Pos) (keys:List (Option Expr)) (values:List Expr) (trs:List (TE×TE)):Prop :=
  ∀(pins:List (Addr×Obj)) (s:Shared) (σ:St) (H:Hp) (Q:List (V×V)→Hp→Prop),Inv X pins σ H s→tPairs trs σ H Q →
    wpAny (model X.prog X.w) X.A (evalPairs (pairTrees keys values X.env pos)) (fun vs s'=>∃ps H',Inv X pins σ H' s'∧VV ps vs∧Q ps H') X.xe s
theorem zpo {X:Cx} {pos:Pos}:PPs X pos [] [] []:=fun pins s σ H Q I h=>pairTrees_nil_walk ⟨[],H,I,.nil,h⟩
theorem znq {X:Cx} {pos:Pos} {k v:Expr} {ks:List (Option Expr)} {vs:List Expr} {tk tv:TE} {trs:List (TE×TE)} (hk:PE X k tk) (hv:PE X v tv) (hr:PPs X pos ks vs trs) :
    PPs X pos (some k::ks) (v::vs) ((tk,tv)::trs):=fun pins s σ H Q I h =>
  pairTrees_cons_walk (thn (hk pins s σ H _ I h) fun u s1 ⟨x,H1,I1,rx,q1⟩=>thn (hv pins s1 σ H1 _ I1 q1) fun w2 s2 ⟨y,H2,I2,ry,q2⟩ =>
    thn (hr pins s2 σ H2 _ I2 q2) fun ws s3 z_1=>by obtain ⟨ps,H3,I3,rel,q3⟩:=z_1;exact ⟨(x,y)::ps,H3,I3,.cons ⟨rx,ry⟩ rel,q3⟩)
noncomputable def mergeK (kvs more:List (Key×V)):List (Key×V):=more.foldl (fun acc kv=>putK acc kv.1 kv.2) kvs
theorem KV.merge:∀{more:List (Key×V)} {rs:List (Key×Value)} {kvs:List (Key×V)} {vs:List (Key×Value)},KV more rs→KV kvs vs→KV (mergeK kvs more) (merged vs rs):=by
  intro more rs kvs vs r
  unfold KV at r
  induction r generalizing kvs vs with
  | nil=>intro q;exact q
  | @cons p q ps qs h t ih =>
    intro r0
    have e:KV (putK kvs p.1 p.2) (stored vs q.1 q.2):=by
      have:=r0.put p.1 h.2
      rw [←h.1];exact this
    exact ih e
theorem zd8:∀(more kvs:List (Key×V)),(mergeK kvs more).length≤kvs.length+more.length
  | [],kvs=>by show kvs.length≤kvs.length+0;omega
  | p::r,kvs=>by
    have h1:=zd8 r (putK kvs p.1 p.2)
    have h2:=ziw kvs p.1 p.2
    show (mergeK (putK kvs p.1 p.2) r).length≤_
    rw [List.length_cons];omega
theorem zgo {P:Program} {w:World}:∀{kvs:List (Key×V)} {ws:List (Value×Value)},VV (kvs.map fun kv=>(kV kv.1,kv.2)) ws→∃rs,Carries (mixKind P w) ws rs∧KV kvs rs
  | [],_,r=>by rw [List.map_nil] at r;cases r;exact ⟨[],True.intro,.nil⟩
  | p::kvs,_,r=>by
    rw [List.map_cons] at r
    cases r with
    | @cons a b as bs h t =>
      obtain ⟨rs,c,q⟩:=zgo (P:=P) (w:=w) t
      obtain ⟨b1,b2⟩:=b
      exact ⟨(p.1,b2)::rs,⟨zp4 h.1,rfl,c⟩,.cons ⟨rfl,h.2⟩ q⟩
def tDisp (trs:List (TE×TE)):TE:=fun σ H Q=>∀p,H p=none→tPairs trs σ (upd H p (.dK [])) fun ps H2=>H2 p=some (.dK [])∧∃kvs:List (Key×V),ps=kvs.map (fun kv=>(kV kv.1,kv.2))∧kvs.length≤15∧Q (.ref p) (upd H2 p (.dK (mergeK [] kvs)))
theorem zps {X:Cx} {pos:Pos} {keys:List (Option Expr)} {values:List Expr} {trs:List (TE×TE)} (h:PPs X pos keys values trs) (hall:keys.all (·.isSome)=true) (hl:keys.length=values.length) (h0:keys≠[])
    (h15:keys.length≤15):PE X (.Dict keys values pos) (tDisp trs):=by
  intro pins s σ H Q I q
  have hn:=I.hok.fresh (Nat.le_refl s.heap.objs.size)
  have I1:=I.laid (a:=s.heap.objs.size) (o:=.dK []) (h':=s.heap.push {cls:=.type "dict",data:=.dict #[]}) (t':=s.toks) (fun _ _ q=>Heap.get?_push_of_some _ q) (Nat.le_refl _) (zom s.heap I.big)
  refine wpAny_Dict_walk (knd:=mixKind X.prog X.w) hall hl h0 h15 (thn (h pins _ σ _ _ I1 (q _ hn)) fun ws s2 ⟨ps,H2,I2,rel,e,kvs,ep,lk,q2⟩=>?_)
  subst ep
  obtain ⟨rs,c,rk⟩:=zgo (P:=X.prog) (w:=X.w) rel
  obtain ⟨z,hd,vs0,r0,dd⟩:=dk_of I2.hok e
  cases r0
  refine ⟨rs,c,dd,fun h' dd' hs=>⟨.ref s.heap.objs.size,_,?_,rfl,q2⟩⟩
  have hz:(mergeK [] kvs).length≤sizeLine:=by
    have h1:=zd8 kvs []
    rw [List.length_nil] at h1
    rw [sizeLine_eq];omega
  have he:∃q,h'.get? s.heap.objs.size=some q:=let ⟨q,_,_,hq,_⟩:=dd';⟨q,hq⟩
  exact zqd I2 (by rw [e];exact True.intro) hs he (dk_new hz hd (rk.merge .nil) dd')
end L2
namespace L2
open PySem PySem.Spec PyProof.Rows
end L2
namespace EE
open PySem PySem.Spec PyProof.Rows L2
structure Has (K:PySem.W.Frag) (mg:Str→Option Value) (x:Str) (st:Stmt) (ps:List Str):Prop where
  ex:∃f fd,Fun K x x st f fd∧Binds K fd ps []∧mg x=some (.ref f)
section
variable {P:Program} {w:World} {K:PySem.W.Frag} {mg:Str→Option Value} {base:Heap}
theorem zb3 {h:Heap} {x:Str} {st:Stmt} {ps:List Str} {f:Addr} {oc:Value} {od an:Option Addr} {osl:Array (Option Value)} {kV doc pm cdv ct:Value} (X:K.In h) (G:h.Ns mainGlobals mg)
    (a:PySem.W.nsIn K mainGlobals x=some (some (.ref f))) (l:K.lookup f=some ⟨oc,od,.func (PySem.W.fnOf x x (defArgs st) (defBody st) (defScope st) .none kV doc pm an cdv ct),osl⟩)
    (c:PySem.W.codeIn K cdv x=true) (k:PySem.W.keepIn K (.ref f)=true)
    (hb:∀(kV doc pm:Value) (an:Option Addr) (cdv ct:Value) (us:List Value),us.length=ps.length→bindArgs (PySem.W.fnOf x x (defArgs st) (defBody st) (defScope st) .none kV doc pm an cdv ct) ⟨us,[]⟩=pure (ps.zip us)):Has K mg x st ps:=by
  have F:=zmh (st:=st) l c k
  exact ⟨f,_,F,F.binds hb,PySem.W.mg_of X G a⟩
end
section
variable {X:Cx} {k:Nat} {ps:List Str} {sp:Sp} {x:Str} {p pos:Pos} {e:Expr} {es:List Expr} {t:TA}
theorem znw {i:Int} (h:∃t,X.mg x=some (.int i t)) (hg:Gl X x) (hd:(x==("__debug__":Str))=false:=by decide):PE X (.Name x pos) (tC (.int i)):=by
  obtain ⟨t,e⟩:=h
  exact zln (v:=.int i) hg e ⟨t,rfl⟩ hd
theorem zof (K:PySem.W.Frag) (n:String):PySem.W.kitOne K (.type n) (.type n)=some true:=by
  unfold PySem.W.kitOne
  rw [if_pos (by simp)]
end
theorem iteN {c A B:Prop} [Decidable c] (hc:¬c) (h:A):if (!decide c)=true then A else B:=by
  rw [decide_eq_false hc]
  exact iteT h
theorem iteD {c A B:Prop} [Decidable c] (hc:c) (h:A):if decide c=true then A else B:=by
  rw [decide_eq_true hc]
  exact iteT h
theorem iteDN {c A B:Prop} [Decidable c] (hc:¬c) (h:B):if decide c=true then A else B:=by
  rw [decide_eq_false hc]
  exact iteF h
theorem iteD2 {c A B:Prop} [Decidable c] (h1:c→A) (h2:¬c→B):if decide c=true then A else B:=by
  by_cases h:c
  · exact iteD h (h1 h)
  · exact iteDN h (h2 h)
end EE
namespace EE
open PySem PySem.Spec PyProof.Rows L2
noncomputable def Its (x:Str):It:=⟨fun i _=>i<x.cps.size,fun i H v H'=>H'=H∧∃c,x.cps[i]?=some c∧v=.str ⟨#[c]⟩,fun i _=>x.cps.size≤i⟩
theorem zhn {P:Program} {w:World} {K:PySem.W.Frag} {tg:Expr} {nm:String} (it:Addr) (x:Str) (t:Tok)
    (hn:["enumerate","zip","dict_itemiterator","dict_reverseitemiterator","odict_iterator","itertools.zip_longest","itertools.pairwise"].contains nm=false)
    (W:∀A:Around,A.handled=none→Walks P w A it [it] [it] x.cps.size (SignAt x) (fun i h=>h.IsStrIter it nm x t i))
    (stop:∀(A:Around) (s:Shared) (i:Nat) (Q:Option Value→Shared→Prop) (E:Value→Shared→Prop),A.handled=none→s.heap.IsStrIter it nm x t i→x.cps[i]?=none →
      (∀h',Heap.ExtBut it s.heap h'→Q none {s with heap:=h'})→wpAny (model P w) A (pyNext (.ref it)) Q E s)
    (self:∀(A:Around) (i:Nat) (s:Shared) (Q:Value→Shared→Prop) (E:Value→Shared→Prop),s.heap.IsStrIter it nm x t i→Q (.ref it) s→wpAny (model P w) A (pyIter (.ref it)) Q E s) :
    Turn P w K tg (Its x) [it] it (fun i h=>h.IsStrIter it nm x t i) where
  mem:=by simp
  obj:=fun i h st b hb=>by
    have e:b=it:=by simpa using hb
    subst e
    obtain ⟨o,e,c,d⟩:=st
    exact ⟨o,e,fun v z=>by rw [d] at z;cases z⟩
  keep:=fun i h h' st k=>let ⟨o,ho,r⟩:=st;⟨o,k it (by simp) o ho,r⟩
  item:=by
    intro X hP hw hK hc i pins s σ H E I hf st hg
    subst hP hw hK
    obtain ⟨f0,f1,f2,f3,f4,f5⟩:=hf it (by simp)
    refine (W X.A (I.ok.hd hc)).item i s _ _ hg st fun v h' tk hv st' kk=>?_
    obtain ⟨c,u,hcc,rfl⟩:=hv
    have I1:Inv X pins σ H {s with heap:=h',toks:=tk}:=I.turned (fun b o hb e=>kk b o (by simpa using hb) e) f0 f1 f3 f4 f5
    obtain ⟨o,e,cl,d⟩:=id st'
    exact ⟨_,rfl,zoi (s:={s with heap:=h',toks:=tk}) e cl d hn ⟨.str ⟨#[c]⟩,H,I1,⟨u,rfl⟩,⟨rfl,c,hcc,rfl⟩,st',fun b hb=>(hf b hb).1⟩⟩
  done:=by
    intro X hP hw hK hc i pins s σ H E I hf st hg
    subst hP hw hK
    obtain ⟨f0,f1,f2,f3,f4,f5⟩:=hf it (by simp)
    exact stop X.A s i _ E (I.ok.hd hc) st (Array.getElem?_eq_none hg) fun h' eb=>⟨rfl,I.turned (t':=s.toks) (fun b o hb e=>eb b o hb e) f0 f1 f3 f4 f5⟩
  self:=self
theorem zj8 {P:Program} {w:World} {K:PySem.W.Frag} {tg:Expr} (it:Addr) (x:Str) (t:Tok):Turn P w K tg (Its x) [it] it (fun i h=>h.IsStrIter it "str_ascii_iterator" x t i) :=
  zhn it x t (by decide) (fun A hA=>Walks.strAscii hA it x t) (fun A s i Q E hh st e h=>wpAny_pyNext_ascii_end hh st e h) fun A i s Q E st h=>wpAny_pyIter_striter_ascii st h
theorem zkx {P:Program} {w:World} {K:PySem.W.Frag} {tg:Expr} (it:Addr) (x:Str) (t:Tok):Turn P w K tg (Its x) [it] it (fun i h=>h.IsStrIter it "str_iterator" x t i) :=
  zhn it x t (by decide) (fun A hA=>Walks.strWide hA it x t) (fun A s i Q E hh st e h=>wpAny_pyNext_wide_end hh st e h) fun A i s Q E st h=>wpAny_pyIter_striter_wide st h
def iStr (tl:TE):TI:=fun σ H R=>tl σ H fun v H1=>∃x,v=.str x∧R (Its x) H1
theorem pi_str {X:Cx} {tg l:Expr} {tl:TE} (hl:PE X l tl):PI X tg l (iStr tl):=by
  intro pins s σ H R I h
  refine thn (hl pins s σ H _ I h) fun v s1 ⟨y,H1,I1,r1,q1⟩=>?_
  obtain ⟨x,rfl,q⟩:=q1
  obtain ⟨t,rfl⟩:=r1
  have fin:∀(o:Obj) (tn:Nat→Heap→Prop),Turn X.prog X.w X.K tg (Its x) [s1.heap.objs.size] s1.heap.objs.size tn→tn 0 (s1.heap.push o)→PIE X pins σ tg R (.ref s1.heap.objs.size) {s1 with heap:=s1.heap.push o}:=fun o tn T st=>by
    refine ⟨s1.heap.objs.size,[s1.heap.objs.size],_,_,H1,rfl,I1.kept (t':=s1.toks) fun b o e=>Heap.get?_push_of_some _ e,T,st,fun b hb=>?_,q⟩
    have e:b=s1.heap.objs.size:=by simpa using hb
    subst e
    exact I1.fpOk (Nat.le_refl _) (I1.hok.fresh (Nat.le_refl _))
  cases ha:x.cps.all (·<128)
  · exact wpAny_pyIter_wide ha (fin _ _ (zkx _ x t) ⟨_,Heap.get?_push_size _ rfl,rfl,rfl⟩)
  · exact wpAny_pyIter_ascii ha (fin _ _ (zj8 _ x t) ⟨_,Heap.get?_push_size _ rfl,rfl,rfl⟩)
noncomputable abbrev sg (c:Nat):V:=.str ⟨#[c]⟩
section
variable {X:Cx}
theorem zf9 {xs:List Str}:∀{us:List Value},Vals (xs.map V.str) us→StrsAre us xs:=by
  induction xs with
  | nil=>intro us r;rw [List.map_nil] at r;cases r;exact .nil
  | cons n ns ih =>
    intro us r
    rw [List.map_cons] at r
    cases r with
    | cons r1 r2 =>
      obtain ⟨t,e⟩:=r1
      subst e
      exact .cons n t (ih r2)
def rJoin (K:PySem.W.Frag):V→List V→Hp→VK→Prop:=fun x vs H Q=>∃sep l ys,x=.str sep∧vs=[.ref l]∧SqL K H l (ys.map V.str)∧(ys.map (·.length)).sum+ys.length*sep.length≤16777216∧Q (.str (Txt.join sep ys)) H
theorem zfq:MtR X "str.join" (rJoin X.K):=by
  intro pins s σ H x vs v us Q I rx rv h
  obtain ⟨sep,l,ys,rfl,rfl,hl,hz,q⟩:=h
  obtain ⟨t,rfl⟩:=rx
  obtain ⟨u,rfl,ru⟩:=rv.one
  cases ru
  obtain ⟨its,r,pl,hn⟩:=I.list hl
  exact join_list pl.isList (by simpa using zf9 r) hz fun t' k=>⟨.str _,H,I.tok _,⟨_,rfl⟩,q⟩
end
end EE
namespace EE
open PySem PySem.Spec PyProof.Rows L2 SeqAt
inductive Dt where
  | non|bl (b:Bool)|int (i:Int)|str (x:Str)|tup (xs:List Dt)|lst (xs:List Dt)
mutual
noncomputable def eqD:Dt→Dt→Bool
  | .non,.non=>true
  | .bl a,.bl b=>a==b
  | .bl a,.int b=>(if a then 1 else 0)==b
  | .int a,.bl b=>a==(if b then 1 else 0)
  | .int a,.int b=>a==b
  | .str a,.str b=>a==b
  | .tup xs,.tup ys=>eqDs xs ys
  | .lst xs,.lst ys=>eqDs xs ys
  | _,_=>false
noncomputable def eqDs:List Dt→List Dt→Bool
  | [],[]=>true
  | x::xs,y::ys=>eqD x y&&eqDs xs ys
  | _,_=>false
end
mutual
noncomputable def deepD:Dt→Nat
  | .tup xs=>deepDs xs+1
  | .lst xs=>deepDs xs+1
  | _=>0
noncomputable def deepDs:List Dt→Nat
  | []=>0
  | x::xs=>max (deepD x) (deepDs xs)
end
mutual
theorem zfa:∀d:Dt,eqD d d=true
  | .non=>rfl
  | .bl b=>by simp [eqD]
  | .int i=>by simp [eqD]
  | .str x=>by simp [eqD]
  | .tup xs=>by simp only [eqD];exact zfx xs
  | .lst xs=>by simp only [eqD];exact zfx xs
theorem zfx:∀ds:List Dt,eqDs ds ds=true
  | []=>rfl
  | d::ds=>by simp only [eqDs,zfa d,zfx ds,Bool.and_self]
end
mutual
inductive DR (K:PySem.W.Frag) (H:Hp):Dt→V→Prop where
  | non:DR K H .non .non
  | bl (b:Bool):DR K H (.bl b) (.bl b)
  | int (i:Int):DR K H (.int i) (.int i)
  | str (x:Str):DR K H (.str x) (.str x)
  | tup {a:Addr} {xs:List V} {ds:List Dt}:SqT K H a xs→DRs K H ds xs→DR K H (.tup ds) (.ref a)
  | lst {a:Addr} {xs:List V} {ds:List Dt}:SqL K H a xs→DRs K H ds xs→DR K H (.lst ds) (.ref a)
inductive DRs (K:PySem.W.Frag) (H:Hp):List Dt→List V→Prop where
  | nil:DRs K H [] []
  | cons {d:Dt} {v:V} {ds:List Dt} {vs:List V}:DR K H d v→DRs K H ds vs→DRs K H (d::ds) (v::vs)
end
section
variable {X:Cx} {pins:List (Addr×Obj)} {σ:L2.St} {H:Hp} {s:Shared}
theorem zdo {a:Addr} {xs ys:List V} (I:Inv X pins σ H s) (h:SqL X.K H a xs) (h':SqT X.K H a ys):False:=by
  obtain ⟨its,_,p,_⟩:=I.list h
  obtain ⟨its',_,q,_⟩:=I.tuple h'
  exact ne_of_list_tuple p.isList (show s.heap.IsTuple a its'.toArray from q) rfl
mutual
theorem DR.inj (I:Inv X pins σ H s):∀{d e:Dt} {v:V},DR X.K H d v→DR X.K H e v→d=e
  | _,_,_,.non,h=>by cases h;rfl
  | _,_,_,.bl _,h=>by cases h;rfl
  | _,_,_,.int _,h=>by cases h;rfl
  | _,_,_,.str _,h=>by cases h;rfl
  | _,_,_,.tup p q,h=>by
    cases h with
    | tup p' q' =>
      have e:=I.tuple_inj p p'
      subst e
      rw [DRs.inj I q q']
    | lst p' q'=>exact (zdo I p' p).elim
  | _,_,_,.lst p q,h=>by
    cases h with
    | lst p' q' =>
      have e:=I.list_inj p p'
      subst e
      rw [DRs.inj I q q']
    | tup p' q'=>exact (zdo I p p').elim
theorem DRs.inj (I:Inv X pins σ H s):∀{ds es:List Dt} {vs:List V},DRs X.K H ds vs→DRs X.K H es vs→ds=es
  | _,_,_,.nil,h=>by cases h;rfl
  | _,_,_,.cons p q,h=>by
    cases h with
    | cons p' q'=>rw [DR.inj I p p',DRs.inj I q q']
end
theorem DRs.len:∀{ds:List Dt} {vs:List V},DRs X.K H ds vs→ds.length=vs.length
  | _,_,.nil=>rfl
  | _,_,.cons _ q=>by simp [DRs.len q]
theorem DRs.at:∀{ds:List Dt} {vs:List V} {i:Nat} {v:V},DRs X.K H ds vs→vs[i]?=some v→∃d,ds[i]?=some d∧DR X.K H d v
  | _,_,_,_,.nil,e=>by simp at e
  | _,_,0,_,.cons r _,e=>by simp at e;subst e;exact ⟨_,rfl,r⟩
  | _,_,i+1,v,.cons _ q,e=>by
    obtain ⟨d,h1,h2⟩:=DRs.at (i:=i) (v:=v) q (by simpa using e)
    exact ⟨d,by simpa using h1,h2⟩
noncomputable def eqAtI (ds es:List Dt) (i:Nat):Bool:=match ds[i]?,es[i]? with
  | some d,some e=>eqD d e
  | _,_=>true
theorem zm9 (ds es:List Dt) (d e:Dt) (n:Nat):(List.range (n+1)).all (eqAtI (d::ds) (e::es))=(eqD d e&&(List.range n).all (eqAtI ds es)):=by
  rw [List.range_succ_eq_map,List.all_cons,List.all_map]
  rfl
theorem zhe:∀ds es:List Dt,eqDs ds es=((List.range (min ds.length es.length)).all (eqAtI ds es)&&ds.length==es.length)
  | [],[]=>rfl
  | [],_::_=>by simp [eqDs]
  | _::_,[]=>by simp [eqDs]
  | d::ds,e::es=>by
    have ih:=zhe ds es
    simp only [eqDs,List.length_cons]
    rw [Nat.succ_min_succ,zm9,ih,Bool.and_assoc]
    congr 2
    rw [Bool.eq_iff_iff]
    simp
theorem zif:∀{ds:List Dt} {i:Nat} {d:Dt},ds[i]?=some d→deepD d≤deepDs ds
  | [],_,_,e=>by simp at e
  | x::xs,0,_,e=>by simp at e;subst e;simp only [deepDs];omega
  | x::xs,i+1,d,e=>by
    have:=zif (ds:=xs) (i:=i) (d:=d) (by simpa using e)
    simp only [deepDs]
    omega
theorem zkt {xs:List V} {us:List Value} {j:Nat} (r:Vals xs us) (h:j<us.toArray.size):∃x,xs[j]?=some x∧RelV x us.toArray[j]:=by
  have hl:=r.length
  have hj:j<xs.length:=by simpa [hl] using h
  have e:xs[j]?=some xs[j]:=List.getElem?_eq_getElem hj
  obtain ⟨u,hu,ru⟩:=r.get e
  refine ⟨_,e,?_⟩
  have:us.toArray[j]=u:=by
    have z:us[j]?=some us[j]:=List.getElem?_eq_getElem (by simpa using h)
    rw [z] at hu
    simpa using Option.some.inj hu
  rw [this]
  exact ru
theorem units_in1 {A:Around}:A.in1.units=A.units+1:=rfl
theorem zqa (I:Inv X pins σ H s):∀(n:Nat) (A:Around) (d e:Dt) (v v':V) (u u':Value),deepD d≤n→A.units+n<cLine→DR X.K H d v→DR X.K H e v'→RelV v u→RelV v' u' →
    RcAt A s u u' (eqD d e)∧EqAt A s u u' (eqD d e):=by
  intro n
  induction n with
  | zero =>
    intro A d e v v' u u' hn hu hd he r r'
    have hu':A.units<cLine:=by omega
    cases hd with
    | non =>
      cases r
      cases he with
      | non=>cases r';exact ⟨RcAt.none_none,EqAt.same _⟩
      | bl b=>cases r';exact ⟨RcAt.none_bool b,EqAt.none_bool b⟩
      | int b=>obtain ⟨t,rfl⟩:=r';exact ⟨RcAt.none_int b t,EqAt.none_int b t⟩
      | str b=>obtain ⟨t,rfl⟩:=r';exact ⟨RcAt.none_str b t,EqAt.none_str b t⟩
      | tup p q =>
        cases r'
        obtain ⟨its,_,ht,_⟩:=I.tuple p
        exact ⟨RcAt.none_tuple ht hu',EqAt.none_tuple ht hu'⟩
      | lst p q =>
        cases r'
        obtain ⟨its,_,ht,_⟩:=I.list p
        exact ⟨RcAt.none_list ht.isList hu',EqAt.none_list ht.isList hu'⟩
    | bl a =>
      cases r
      cases he with
      | non=>cases r';exact ⟨RcAt.bool_none a,EqAt.bool_none a⟩
      | bl b=>cases r';exact ⟨RcAt.bool_bool a b,EqAt.bool_bool a b⟩
      | int b=>obtain ⟨t,rfl⟩:=r';exact ⟨RcAt.bool_int a b t,EqAt.bool_int a b t⟩
      | str b=>obtain ⟨t,rfl⟩:=r';exact ⟨RcAt.bool_str a b t,EqAt.bool_str a b t⟩
      | tup p q =>
        cases r'
        obtain ⟨its,_,ht,_⟩:=I.tuple p
        exact ⟨RcAt.bool_tuple a ht hu',EqAt.bool_tuple a ht hu'⟩
      | lst p q =>
        cases r'
        obtain ⟨its,_,ht,_⟩:=I.list p
        exact ⟨RcAt.bool_list a ht.isList hu',EqAt.bool_list a ht.isList hu'⟩
    | int a =>
      obtain ⟨t0,rfl⟩:=r
      cases he with
      | non=>cases r';exact ⟨RcAt.int_none a t0,EqAt.int_none a t0⟩
      | bl b=>cases r';exact ⟨RcAt.int_bool a t0 b,EqAt.int_bool a t0 b⟩
      | int b=>obtain ⟨t,rfl⟩:=r';exact ⟨RcAt.int_int a t0 b t,EqAt.int_int a t0 b t⟩
      | str b=>obtain ⟨t,rfl⟩:=r';exact ⟨RcAt.int_str a t0 b t,EqAt.int_str a t0 b t⟩
      | tup p q =>
        cases r'
        obtain ⟨its,_,ht,_⟩:=I.tuple p
        exact ⟨RcAt.int_tuple a t0 ht hu',EqAt.int_tuple a t0 ht hu'⟩
      | lst p q =>
        cases r'
        obtain ⟨its,_,ht,_⟩:=I.list p
        exact ⟨RcAt.int_list a t0 ht.isList hu',EqAt.int_list a t0 ht.isList hu'⟩
    | str a =>
      obtain ⟨t0,rfl⟩:=r
      cases he with
      | non=>cases r';exact ⟨RcAt.str_none a t0,EqAt.str_none a t0⟩
      | bl b=>cases r';exact ⟨RcAt.str_bool a t0 b,EqAt.str_bool a t0 b⟩
      | int b=>obtain ⟨t,rfl⟩:=r';exact ⟨RcAt.str_int a t0 b t,EqAt.str_int a t0 b t⟩
      | str b=>obtain ⟨t,rfl⟩:=r';exact ⟨RcAt.str_str a t0 b t,EqAt.str_str a t0 b t⟩
      | tup p q =>
        cases r'
        obtain ⟨its,_,ht,_⟩:=I.tuple p
        exact ⟨RcAt.str_tuple a t0 ht hu',EqAt.str_tuple a t0 ht hu'⟩
      | lst p q =>
        cases r'
        obtain ⟨its,_,ht,_⟩:=I.list p
        exact ⟨RcAt.str_list a t0 ht.isList hu',EqAt.str_list a t0 ht.isList hu'⟩
    | tup p q=>simp [deepD] at hn
    | lst p q=>simp [deepD] at hn
  | succ n ih =>
    intro A d e v v' u u' hn hu hd he r r'
    by_cases h0:deepD d≤n
    · exact ih A d e v v' u u' h0 (by omega) hd he r r'
    have hu':A.units<cLine:=by omega
    have items:∀{xs ys:List V} {ds es:List Dt} {its its2:List Value},deepDs ds≤n→DRs X.K H ds xs→DRs X.K H es ys→Vals xs its→Vals ys its2 →
        ∀j (h1:j<its.toArray.size) (h2:j<its2.toArray.size),EqAt A.in1 s its.toArray[j] its2.toArray[j] (eqAtI ds es j):=fun {xs ys ds es its its2} hdd q q' rv rv' j h1 h2=>by
      obtain ⟨x,hx,rx⟩:=zkt rv h1
      obtain ⟨y,hy,ry⟩:=zkt rv' h2
      obtain ⟨dx,edx,rdx⟩:=q.at hx
      obtain ⟨dy,edy,rdy⟩:=q'.at hy
      have hdeep:=zif edx
      have:=(ih A.in1 dx dy x y _ _ (by omega) (by rw [units_in1];omega) rdx rdy rx ry).2
      unfold eqAtI
      rw [edx,edy]
      exact this
    cases hd with
    | non=>exact absurd (Nat.zero_le _) h0
    | bl _=>exact absurd (Nat.zero_le _) h0
    | int _=>exact absurd (Nat.zero_le _) h0
    | str _=>exact absurd (Nat.zero_le _) h0
    | @tup a xs ds p q =>
      cases r
      obtain ⟨its,rv,ht,_⟩:=I.tuple p
      cases he with
      | non=>cases r';exact ⟨RcAt.tuple_none ht hu',EqAt.tuple_none ht hu'⟩
      | bl b=>cases r';exact ⟨RcAt.tuple_bool b ht hu',EqAt.tuple_bool b ht hu'⟩
      | int b=>obtain ⟨t,rfl⟩:=r';exact ⟨RcAt.tuple_int b t ht hu',EqAt.tuple_int b t ht hu'⟩
      | str b=>obtain ⟨t,rfl⟩:=r';exact ⟨RcAt.tuple_str b t ht hu',EqAt.tuple_str b t ht hu'⟩
      | @tup b ys es p' q' =>
        cases r'
        obtain ⟨its2,rv2,ht2,_⟩:=I.tuple p'
        have hdd:deepDs ds≤n:=by simp only [deepD] at hn;omega
        have e:((List.range (min its.toArray.size its2.toArray.size)).all (eqAtI ds es)&&its.toArray.size==its2.toArray.size)=eqD (.tup ds) (.tup es):=by
          simp only [eqD]
          rw [zhe,q.len,q'.len,rv.length,rv2.length]
          simp
        have rc:RcAt A s (.ref a) (.ref b) (eqD (.tup ds) (.tup es)):=by
          rw [←e]
          exact RcAt.tuples ht ht2 hu' (items hdd q q' rv rv2)
        refine ⟨rc,?_⟩
        by_cases hab:a=b
        · subst hab
          have ed:Dt.tup ds=Dt.tup es:=DR.inj I (.tup p q) (.tup p' q')
          rw [←ed,zfa]
          exact EqAt.same _
        · exact EqAt.of_refs hab rc
      | @lst b ys es p' q' =>
        cases r'
        obtain ⟨its2,_,ht2,_⟩:=I.list p'
        exact ⟨RcAt.tuple_list ht ht2.isList hu',EqAt.tuple_list ht ht2.isList hu'⟩
    | @lst a xs ds p q =>
      cases r
      obtain ⟨its,rv,ht,_⟩:=I.list p
      cases he with
      | non=>cases r';exact ⟨RcAt.list_none ht.isList hu',EqAt.list_none ht.isList hu'⟩
      | bl b=>cases r';exact ⟨RcAt.list_bool b ht.isList hu',EqAt.list_bool b ht.isList hu'⟩
      | int b=>obtain ⟨t,rfl⟩:=r';exact ⟨RcAt.list_int b t ht.isList hu',EqAt.list_int b t ht.isList hu'⟩
      | str b=>obtain ⟨t,rfl⟩:=r';exact ⟨RcAt.list_str b t ht.isList hu',EqAt.list_str b t ht.isList hu'⟩
      | @tup b ys es p' q' =>
        cases r'
        obtain ⟨its2,_,ht2,_⟩:=I.tuple p'
        exact ⟨RcAt.list_tuple ht.isList ht2 hu',EqAt.list_tuple ht.isList ht2 hu'⟩
      | @lst b ys es p' q' =>
        cases r'
        obtain ⟨its2,rv2,ht2,_⟩:=I.list p'
        have hdd:deepDs ds≤n:=by simp only [deepD] at hn;omega
        have rc:RcAt A s (.ref a) (.ref b) (eqD (.lst ds) (.lst es)):=by
          simp only [eqD]
          rw [zhe,q.len,q'.len,rv.length,rv2.length]
          by_cases hsz:its.length=its2.length
          · have e:((List.range (min its.length its2.length)).all (eqAtI ds es)&&its.length==its2.length)=(List.range its.toArray.size).all (eqAtI ds es):=by
              simp [hsz]
            rw [e]
            exact RcAt.lists ht.isList ht2.isList (by simpa using hsz) hu' (items hdd q q' rv rv2)
          · have e:((List.range (min its.length its2.length)).all (eqAtI ds es)&&its.length==its2.length)=false:=by
              rw [beq_eq_false_iff_ne.mpr hsz,Bool.and_false]
            rw [e]
            exact RcAt.lists_lengths ht.isList ht2.isList (by simpa using hsz) hu'
        refine ⟨rc,?_⟩
        by_cases hab:a=b
        · subst hab
          have ed:Dt.lst ds=Dt.lst es:=DR.inj I (.lst p q) (.lst p' q')
          rw [←ed,zfa]
          exact EqAt.same _
        · exact EqAt.of_refs hab rc
theorem zeh {n:Nat} (hu:X.A.units+n<cLine):OpR X (compareOp .Eq) (fun x y H Q=>∃d e,DR X.K H d x∧DR X.K H e y∧deepD d≤n∧Q (.bl (eqD d e)) H):=by
  intro pins s σ H x y v u Q I rx ry h
  obtain ⟨d,e,hd,he,hn,q⟩:=h
  exact (zqa I n X.A d e x y v u hn hu hd he rx ry).1 X.prog X.w X.xe _ ⟨.bl (eqD d e),H,I,rfl,q⟩
end
end EE
namespace EE
open PySem PySem.Spec PyProof.Rows L2
end EE
namespace EE
open PySem PySem.Spec PyProof.Rows L2
noncomputable def textOf (cs:List Nat):Str:=⟨cs.toArray⟩
theorem za3 (cs:List Nat):(textOf cs).length=cs.length:=by simp [textOf,Str.length]
theorem zcs (a b:List Nat):textOf a++textOf b=textOf (a++b):=by
  show Str.append (textOf a) (textOf b)=textOf (a++b)
  simp [textOf,Str.append]
end EE
namespace EE
open PySem PySem.Spec PyProof.Rows L2
noncomputable def cutT (cs:List Nat) (lo hi:Option Int):List Nat:=(cs.drop (HT.sIx cs.length 0 lo)).take (HT.sIx cs.length cs.length hi-HT.sIx cs.length 0 lo)
theorem zp6 (lo hi:Option Int) (n:Nat):Builtin.Str.strSliceIndices lo hi 1 n=sliceRange ((HT.sIx n 0 lo:Nat):Int) ((HT.sIx n n hi:Nat):Int) 1:=by
  have a:∀(i:Int) (d:Nat),max 0 (min (if i<0 then i+(n:Int) else i) (n:Int))=((HT.sIx n d (some i):Nat):Int):=by
    intro i d
    simp only [HT.sIx]
    by_cases h:i<0
    · simp only [h,if_true];omega
    · simp only [h,if_false];omega
  unfold Builtin.Str.strSliceIndices
  cases lo with
  | none =>
    cases hi with
    | none=>rfl
    | some j =>
      show sliceRange (0:Int) (max 0 (min (if j<0 then j+(n:Int) else j) (n:Int))) 1=_
      rw [a j n]
      rfl
  | some i =>
    cases hi with
    | none =>
      show sliceRange (max 0 (min (if i<0 then i+(n:Int) else i) (n:Int))) (n:Int) 1=_
      rw [a i 0]
      rfl
    | some j =>
      show sliceRange (max 0 (min (if i<0 then i+(n:Int) else i) (n:Int))) (max 0 (min (if j<0 then j+(n:Int) else j) (n:Int))) 1=_
      rw [a i 0,a j n]
theorem zk5 (x:Str) (lo hi:Option Int):Txt.slice x lo hi=textOf (cutT x.cps.toList lo hi):=by
  have hl:x.cps.toList.length=x.length:=by simp [Str.length]
  have l1:HT.sIx x.length 0 lo≤x.length:=HT.zlc _ _ (Nat.zero_le _) lo
  have l2:HT.sIx x.length x.length hi≤x.length:=HT.zlc _ _ (Nat.le_refl _) hi
  unfold Txt.slice cutT
  rw [zp6,sliceRange_one,hl,pick_run]
  by_cases h:((1:Int)==1&&((List.range (HT.sIx x.length x.length hi-HT.sIx x.length 0 lo)).map (HT.sIx x.length 0 lo+·)).length==x.length)=true
  · rw [if_pos h]
    simp only [List.length_map,List.length_range,Bool.and_eq_true,beq_iff_eq] at h
    have h2:=h.2
    have e1:HT.sIx x.length 0 lo=0:=by omega
    have e2:HT.sIx x.length x.length hi=x.length:=by omega
    rw [e1,e2,List.drop_zero,Nat.sub_zero,←hl,List.take_length]
    simp [textOf]
  · rw [if_neg h]
    rfl
def rSlS:V→Option Int→Option Int→Hp→VK→Prop:=fun x lo hi H Q=>∃z,x=.str z∧z.length≤sizeLine∧Q (.str (textOf (cutT z.cps.toList lo hi))) H
theorem zbs {X:Cx}:SlR X rSlS:=by
  intro pins s σ H x v vl vu lo hi sl Q I rx hs pl pu h
  obtain ⟨z,rfl,hz,q⟩:=h
  obtain ⟨t,rfl⟩:=rx
  refine ⟨"str",_,slot_str_getitem.lookup,typeIs_str s z t,?_⟩
  have fin:∀t' k,EP X pins σ Q (.str (Txt.slice z lo hi) t') {s with toks:=k}:=fun t' k=>⟨.str _,H,I.tok _,⟨_,rfl⟩,by rw [zk5];exact q⟩
  have len:(Txt.slice z lo hi).length≤sizeLine:=Nat.le_trans (Txt.slice_le z lo hi) hz
  obtain ⟨o,ho,hc,hd⟩:=hs
  cases pl with
  | none =>
    cases pu with
    | none=>exact wpAny_getItem_str_slice (l:=none) (u:=none) (st:=none) ⟨o,ho,hc,hd⟩ rfl (post_val_or_str ⟨len,fin⟩)
    | int j tj=>exact wpAny_getItem_str_slice (l:=none) (u:=some (j,tj)) (st:=none) ⟨o,ho,hc,hd⟩ rfl (post_val_or_str ⟨len,fin⟩)
  | int i ti =>
    cases pu with
    | none=>exact wpAny_getItem_str_slice (l:=some (i,ti)) (u:=none) (st:=none) ⟨o,ho,hc,hd⟩ rfl (post_val_or_str ⟨len,fin⟩)
    | int j tj=>exact wpAny_getItem_str_slice (l:=some (i,ti)) (u:=some (j,tj)) (st:=none) ⟨o,ho,hc,hd⟩ rfl (post_val_or_str ⟨len,fin⟩)
end EE
namespace EE
open PySem PySem.Spec PyProof.Rows L2
theorem zjy {α β:Type} (f:α→β→Sem (ForInStep β)) (g:β→α→β):∀(l:List α) (b:β),(∀x∈l,∀b,f x b=pure (.yield (g b x)))→forIn l b f=pure (l.foldl g b)
  | [],b,_=>rfl
  | x::l,b,h=>by
    rw [List.forIn_cons,h x List.mem_cons_self b]
    exact zjy f g l (g b x) fun y hy=>h y (List.mem_cons_of_mem _ hy)
noncomputable def clGo (env:Env) (acc:List (Str×Addr)) (y:Str×NameKind):List (Str×Addr):=if y.2 == .free then (y.1,(env.cells.lookup y.1).getD 0)::acc else acc
noncomputable def clOf (scope:Scope) (env:Env):List (Str×Addr):=scope.names.foldl (clGo env) []
theorem zi7 {scope:Scope} {env:Env} (h:∀y∈scope.names,y.2=.free→∃c,env.cells.lookup y.1=some c):closureFor scope env=pure (clOf scope env):=by
  simp only [closureFor]
  rw [zjy _ (clGo env) scope.names [] (fun y hy b=>?_)]
  · rfl
  · obtain ⟨n,k⟩:=y
    by_cases hk:k=.free
    · subst hk
      obtain ⟨c,e⟩:=h _ hy rfl
      have e':env.cells.lookup n=some c:=e
      simp only [clGo,beq_self_eq_true,if_true,cellOf,e',Option.getD_some]
      rfl
    · have:(k==NameKind.free)=false:=by simpa using hk
      simp only [clGo,this,Bool.false_eq_true,if_false]
theorem zm3 {env:Env}:∀(names:List (Str×NameKind)) (acc:List (Str×Addr)),(∀y∈names,y.2=.free→∃c,env.cells.lookup y.1=some c)→(∀y c,acc.lookup y=some c→env.cells.lookup y=some c) →
    ∀y c,(names.foldl (clGo env) acc).lookup y=some c→env.cells.lookup y=some c
  | [],acc,_,h,y,c,e=>h y c e
  | (n,k)::r,acc,hf,h,y,c,e=>by
    rw [List.foldl_cons] at e
    refine zm3 r _ (fun z hz=>hf z (List.mem_cons_of_mem _ hz)) (fun y c e=>?_) y c e
    unfold clGo at e
    by_cases hk:k=.free
    · subst hk
      obtain ⟨c0,e0⟩:=hf _ List.mem_cons_self rfl
      have e0':env.cells.lookup n=some c0:=e0
      simp only [beq_self_eq_true,if_true,e0',Option.getD_some,List.lookup_cons] at e
      by_cases hy:y=n
      · subst hy
        simp at e
        rw [←e];exact e0'
      · have hb:(y==n)=false:=by simpa using hy
        simp only [hb] at e
        exact h y c e
    · have hb:(k==NameKind.free)=false:=by simpa using hk
      simp only [hb,Bool.false_eq_true,if_false] at e
      exact h y c e
theorem zii {env:Env}:∀(names:List (Str×NameKind)) (acc:List (Str×Addr)) (y:Str),(y,NameKind.free)∈names∨(∃c,acc.lookup y=some c)→∃c,(names.foldl (clGo env) acc).lookup y=some c
  | [],acc,y,h=>by
    rcases h with h|h
    · simp at h
    · exact h
  | (n,k)::r,acc,y,h=>by
    rw [List.foldl_cons]
    refine zii r _ y ?_
    rcases h with h|⟨c,h⟩
    · rcases List.mem_cons.mp h with h|h
      · cases h
        exact .inr ⟨(env.cells.lookup n).getD 0,by simp [clGo]⟩
      · exact .inl h
    · refine .inr ?_
      unfold clGo
      by_cases hk:k=.free
      · subst hk
        simp only [beq_self_eq_true,if_true,List.lookup_cons]
        by_cases hy:y=n
        · subst hy;simp
        · have hb:(y==n)=false:=by simpa using hy
          simp only [hb]
          exact ⟨c,h⟩
      · have hb:(k==NameKind.free)=false:=by simpa using hk
        simp only [hb,Bool.false_eq_true,if_false]
        exact ⟨c,h⟩
theorem zc0 {scope:Scope} {env:Env} {y:Str} {k:NameKind} (h:(relabel scope env).names.lookup y=some k):∃k',(y,k')∈scope.names∧(k=k'∨(k'=.free∧k=.cell)):=by
  have go:∀(l:List (Str×NameKind)),(l.map fun (n,k)=>if (k == .free&&env.scope.kind == .function&&env.kindOf n==some .cell) then (n,NameKind.cell) else (n,k)).lookup y=some k→∃k',(y,k')∈l∧(k=k'∨(k'=.free∧k=.cell)):=by
    intro l
    induction l with
    | nil=>intro h;simp at h
    | cons a r ih =>
      obtain ⟨n,k0⟩:=a
      intro h
      rw [List.map_cons] at h
      by_cases hc:(k0==NameKind.free&&env.scope.kind == .function&&env.kindOf n==some .cell)=true
      · simp only [hc,if_true,List.lookup_cons] at h
        by_cases hy:y=n
        · subst hy
          simp only [beq_self_eq_true] at h
          refine ⟨k0,List.mem_cons_self,.inr ⟨?_,by simpa using h.symm⟩⟩
          simp only [Bool.and_eq_true] at hc
          simpa using hc.1.1
        · have hb:(y==n)=false:=by simpa using hy
          simp only [hb] at h
          obtain ⟨k',m,q⟩:=ih h
          exact ⟨k',List.mem_cons_of_mem _ m,q⟩
      · dsimp only at h
        rw [if_neg hc] at h
        by_cases hy:y=n
        · subst hy
          simp at h
          exact ⟨k0,List.mem_cons_self,.inl h.symm⟩
        · have hb:(y==n)=false:=by simpa using hy
          simp only [List.lookup_cons,hb] at h
          obtain ⟨k',m,q⟩:=ih h
          exact ⟨k',List.mem_cons_of_mem _ m,q⟩
  exact go scope.names h
theorem zes {scope:Scope} {env:Env} {y:Str} (hk:env.scope.kind=.function) (hc:env.kindOf y=some .cell) (h:scope.names.lookup y=some .free):(relabel scope env).names.lookup y=some .cell:=by
  have go:∀(l:List (Str×NameKind)),l.lookup y=some .free→(l.map fun (n,k)=>if (k == .free&&env.scope.kind == .function&&env.kindOf n==some .cell) then (n,NameKind.cell) else (n,k)).lookup y=some .cell:=by
    intro l
    induction l with
    | nil=>intro h;simp at h
    | cons a r ih =>
      obtain ⟨n,k0⟩:=a
      intro h
      rw [List.map_cons]
      by_cases hy:y=n
      · subst hy
        simp only [List.lookup_cons,beq_self_eq_true,Option.some.injEq] at h
        subst h
        simp [hk,hc]
      · have hb:(y==n)=false:=by simpa using hy
        simp only [List.lookup_cons,hb] at h
        by_cases hcc:(k0==NameKind.free&&env.scope.kind == .function&&env.kindOf n==some .cell)=true
        · simp only [hcc,if_true,List.lookup_cons,hb]
          exact ih h
        · dsimp only
          rw [if_neg hcc]
          simp only [List.lookup_cons,hb]
          exact ih h
  exact go scope.names h
structure CompScope (osc:Scope) (x:Str) (M:List Str) (scope:Scope):Prop where
  kind:scope.kind=.function
  nocell:∀y∈scope.names,y.2≠.cell
  names:∀y∈scope.names,y.2=.local→scope.names.lookup y.1=some .local
  own:scope.names.lookup x=some .local
  free:∀y∈scope.names,y.2=.free→osc.names.lookup y.1=some .cell
  nd:(x::M).Nodup
  mine:∀y∈M,scope.names.lookup y=some .free
noncomputable def cxComp (X:Cx) (scope:Scope) (C:Addr) (N:List Str) (fp:List Addr) (pins:List (Addr×Obj)) (s:Shared) (H:Hp):Cx where
  prog:=X.prog
  w:=X.w
  K:=X.K
  mg:=X.mg
  base:=X.base
  A:=X.A
  N:=N
  s₀:=s
  H₀:=H
  env:=compEnvC scope (clOf scope X.env) C X.env
  outer:=X.stack
  stack:=X.stack
  ex:=fp
  fn:=fun _=>false
  calm:=true
  pn:=X.pn++pins
  xe:=fun _ _=>False
noncomputable def pick (σ:L2.St) (js:List Nat):L2.St:=js.map fun j=>(σ[j]?).getD none
section
variable {X:Cx} {pins:List (Addr×Obj)} {σ:L2.St} {H:Hp} {s:Shared} {scope:Scope} {x:Str} {M:List Str} {js:List Nat} {C:Addr} {fp:List Addr}
theorem CompScope.cells (S:CompScope X.env.scope x M scope) (I:Inv X pins σ H s):∀y∈scope.names,y.2=.free→∃c,X.env.cells.lookup y.1=some c:=fun y hy hk=>I.ok.has y.1 (.inl (S.free y hy hk))
theorem CompScope.sub (S:CompScope X.env.scope x M scope) (I:Inv X pins σ H s) {y:Str} {c:Addr} (e:(clOf scope X.env).lookup y=some c):X.env.cells.lookup y=some c :=
  zm3 scope.names [] (S.cells I) (fun _ _ h=>by simp at h) y c e
theorem zog {s1:Shared} {m:Str→Option Value} (S:CompScope X.env.scope x M scope) (hc:X.calm=true) (I:Inv X pins σ H s) (hjs:∀(k:Nat) (y:Str),M[k]?=some y→∃j:Nat,js[k]?=some j∧X.N[j]?=some y) (hlen:js.length=M.length)
    (hf:∀b∈fp,FpOk X pins H b) (hfl:∀b∈fp,b<s.heap.objs.size) (hC:s.heap.objs.size≤C) (hn:s1.heap.Ns C m) (hk:∀b o,s.heap.get? b=some o→s1.heap.get? b=some o) (hos:s1.os=s.os) (hg:AllBare s1.gens) :
    Inv (cxComp X scope C (x::M) fp pins s H) [] (none::pick σ js) H s1:=by
  have nst:∀b∈fp,b∉frs X.stack:=fun b hb z=>by
    obtain ⟨f0,f1,f2,_⟩:=hf b hb
    rcases List.mem_cons.mp (I.stkSub b z) with e|e
    · exact f1 e
    · exact f2 e
  have cellK:∀(c:Addr) (v:Option Value),s.heap.IsCell c v→s1.heap.IsCell c v:=fun c v z_1=>by obtain ⟨o,e,d⟩:=z_1;exact ⟨o,hk c o e,d⟩
  refine ⟨⟨I.ok.mod,S.kind,I.ok.glob,I.ok.blt,hC,fun y z c h1 h2=>I.ok.inj y z c (S.sub I h1) (S.sub I h2),fun y hy=>?_,fun y c h _=>(by cases (show false=true from h)),fun _=>I.ok.hd hc,I.ok.frames,.inl rfl,fun b hb=>?_,I.bs,
    Nat.le_trans I.ok.bsz I.sz,fun b o e hb=>?_,nst,I.stack,I.stkFree⟩,hos,hg,Un.kept hk,⟨m,hn,fun i y v h1 h2 h3=>?_⟩,fun y c e=>?_,I.hok.fresh hC,fun y c e=>I.freeC y c (S.sub I e),fun p hp=>?_,I.hok.kept hk,?_⟩
  · have hy':(relabel scope X.env).names.lookup y=some .cell∨(relabel scope X.env).names.lookup y=some .free:=hy
    have fr:(y,NameKind.free)∈scope.names:=by
      rcases hy' with h|h
      · obtain ⟨k',mm,e|e⟩:=zc0 h
        · exact absurd e.symm (S.nocell _ mm)
        · rw [e.1] at mm;exact mm
      · obtain ⟨k',mm,e|e⟩:=zc0 h
        · rw [←e] at mm;exact mm
        · exact absurd e.2 (by intro z;cases z)
    exact zii scope.names [] y (.inl fr)
  · obtain ⟨f0,f1,f2,f3,f4,f5⟩:=hf b hb
    exact ⟨Nat.ne_of_lt (Nat.lt_of_lt_of_le (hfl b hb) hC),fun y c e=>f4 y c (S.sub I e)⟩
  · obtain ⟨f0,f1,f2,f3,f4,f5⟩:=hf b hb
    rcases f3 with f3|f3
    · exact I.ok.noex b o e f3
    · exact absurd (Heap.lt_size e) (Nat.not_lt.mpr (Nat.le_trans I.ok.bsz f3))
  · cases i with
    | zero =>
      have h2':(none:Option V)=some v:=by simpa using h2
      cases h2'
    | succ k =>
      have h1':M[k]?=some y:=by
        have z:(x::M)[k+1]?=some y:=h1
        simpa using z
      have h2':(pick σ js)[k]?=some (some v):=by simpa using h2
      obtain ⟨j,ej,eN⟩:=hjs k y h1'
      have eσ:σ[j]?=some (some v):=by
        unfold pick at h2'
        rw [List.getElem?_map,ej] at h2'
        have z:(σ[j]?).getD none=some v:=by simpa using h2'
        cases q:σ[j]? with
        | none=>rw [q] at z;cases z
        | some o=>rw [q] at z;rw [show o=some v from z]
      have hfree:=S.mine y (List.mem_of_getElem? h1')
      have hcell:X.env.kindOf y=some .cell:=S.free (y,.free) (PySem.mem_of_lookup hfree) rfl
      obtain ⟨m0,_,hl0⟩:=I.loc
      obtain ⟨u,r,l⟩:=hl0 j y v eN eσ (.inr (.inl hcell))
      refine ⟨u,r,.inr ⟨.inl (zes I.ok.kind hcell hfree),?_⟩⟩
      obtain ⟨c',e'⟩:=zii (env:=X.env) scope.names [] y (.inl (PySem.mem_of_lookup hfree))
      have e2:=S.sub I (show (clOf scope X.env).lookup y=some c' from e')
      rcases l with ⟨z,_⟩|⟨_,c,hcc,hic⟩
      · rw [hcell] at z;cases z
      · rw [hcc] at e2
        have:c=c':=Option.some.inj e2
        subst this
        exact ⟨c,e',cellK c _ hic⟩
  · obtain ⟨v,h⟩:=I.cell y c (S.sub I e)
    exact ⟨v,cellK c v h⟩
  · have hp':p∈X.pn++pins:=by simpa [cxComp] using hp
    obtain ⟨e,n,ne,nf,d⟩:=I.pin p hp'
    refine ⟨hk _ _ e,n,Nat.ne_of_lt (Nat.lt_of_lt_of_le (Heap.lt_size e) hC),fun z=>?_,d⟩
    rcases List.mem_cons.mp (I.stkSub p.1 z) with q|q
    · exact ne q
    · exact nf q
  · show (none::pick σ js).length=(x::M).length
    simp [pick,hlen]
theorem zhh {N:List Str} {pins':List (Addr×Obj)} {σ':L2.St} {H':Hp} {s':Shared} {h':Heap} (I:Inv X pins σ H s) (hf:∀b∈fp,FpOk X pins H b) (J:Inv (cxComp X scope C N fp pins s H) pins' σ' H' s')
    (hC:s.heap.objs.size≤C) (hs:Heap.SameBut C s'.heap h'):Inv X pins σ H' {s' with heap:=h'}:=by
  have u0:Un (frs X.stack) fp H H' s.heap s'.heap:=J.base
  have nC:∀b o,s.heap.get? b=some o→b≠C:=fun b o e z=>absurd (Heap.lt_size e) (by rw [z];exact Nat.not_lt.mpr hC)
  have u:Un (frs X.stack) fp H H' s.heap h':=⟨fun b o e n hb hx=>(hs.2 b (nC b o e)).trans (u0.keep b o e n hb hx),fun b o e n hb hx=>let ⟨sl,q⟩:=u0.slot b o e n hb hx;⟨sl,(hs.2 b (nC b o e)).trans q⟩,u0.free,
    fun b o e hx=>let ⟨o',q⟩:=u0.there b o e hx;⟨o',(hs.2 b (nC b o e)).trans q⟩,u0.tups,u0.frzs,u0.tbls⟩
  have fC:H' C=none:=J.free
  have hok:HOk X.prog X.w H' h':=fun b ob e=>(J.hok b ob e).stay (fun c w hc q=>(hs.2 c (fun z=>by
    subst z
    rcases hc with z|z
    · rw [←z,fC] at e;cases e
    · rw [fC] at z;cases z)).trans q) (fun _ q=>q) fun _ _ q=>q
  exact I.call' (s':={s' with heap:=h'}) (ch:=fp) J.os u hok J.bare fun b hb=>by
    obtain ⟨f0,f1,f2,f3,f4,f5⟩:=hf b hb
    exact ⟨f3,f1,f4,f5⟩
end
def tComp (wi:TI) (te:TE) (js:List Nat):TE:=fun σ H Q=>wi σ H fun J H1=>∀D,H1 D=none→∃W:Nat→Nat→Hp→Prop,(∃m,W 0 m (upd H1 D (.lst [])))∧∀i m H2,W i m H2 →
  (J.stop i H2∧Q (.ref D) H2)∨(J.go i H2∧∃N:Hp→Prop,(∀H',N H'→∃m',m'<m∧W (i+1) m' H')∧∀v H',J.yld i H2 v H' →
    te (some v::pick σ js) H' fun y H3=>∃ys,H3 D=some (.lst ys)∧ys.length<sizeLine∧N (upd H3 D (.lst (ys++[y]))))
section
variable {X:Cx} {elt iter:Expr} {x:Str} {px pos:Pos} {scope:Scope} {M:List Str} {js:List Nat} {wi:TI} {te:TE}
theorem zih {prog:Program} {w:World} {A:Around} {R:Result→Shared→Prop} {s:Shared} {target:Expr} {it acc:Value} {env:Env} (I:Nat→Shared→Prop)
    (turn:∀n s,I n s→wpAny (model prog w) A (pyNext it) (fun r s₁=>match r with
      | none=>R (.ok .next) s₁
      | some v=>wpAny (model prog w) A (letOwnedTupleGo target it v) (fun _ s₂=>wpAny (model prog w) A (assign target env v) (fun _ s₃=>wpAny (model prog w) A (eval elt env) (fun y s₄ =>
          wpAny (model prog w) A (call (.builtin "list.append") [acc,y]) (fun _ s₅=>∃m,m<n∧I m s₅) (fun _ _=>False) s₄) (fun _ _=>False) s₃) (fun _ _=>False) s₂) (fun _ _=>False) s₁) (fun _ _=>False) s)
    (n:Nat) (h:I n s):codeAny (model prog w) A (.compLoop (.ListComp elt [⟨target,iter,[],0⟩] scope pos) 0 it acc env) R s:=by
  refine codeAny_loop rfl I (fun n s hI=>?_) n h
  show wpAny _ _ ((compTurn (.ListComp elt [⟨target,iter,[],0⟩] scope pos) 0 it acc env).onRaise (fun x=>do noteFrame x env;theTreesLotGoes x)) _ _ s
  refine wpAny_noted ?_
  rw [compTurn_list1]
  refine wpAny_bind (wpAny_standAt (wpAny_bind (wpAny_mono (turn n s hI) (fun r s₁ h₁=>?_) fun _ _ z=>z.elim)))
  cases r with
  | none=>exact wpAny_pure h₁
  | some v =>
    exact wpAny_bind (wpAny_mono h₁ (fun _ s₂ h₂=>wpAny_bind (wpAny_mono h₂ (fun _ s₃ h₃=>wpAny_bind (wpAny_bind (wpAny_mono h₃ (fun y s₄ h₄=>wpAny_bind (wpAny_mono h₄
      (fun _ s₅ h₅=>wpAny_pure (wpAny_pure ⟨rfl,h₅⟩)) fun _ _ z=>z.elim)) fun _ _ z=>z.elim))) fun _ _ z=>z.elim)) fun _ _ z=>z.elim)
theorem zgm {pins:List (Addr×Obj)} {σ:L2.St} {H2:Hp} {s2:Shared} {it D:Addr} {fp:List Addr} {tn:Nat→Heap→Prop} {J:It} {W:Nat→Nat→Hp→Prop} {Qe:Hp→Prop} {R:Addr→Result→Shared→Prop} {E:Value→Shared→Prop} {m0:Nat}
    (S:CompScope X.env.scope x M scope) (hc:X.calm=true) (hjs:∀(k:Nat) (y:Str),M[k]?=some y→∃j:Nat,js[k]?=some j∧X.N[j]?=some y) (hlen:js.length=M.length)
    (he:∀(C:Addr) (fp:List Addr) (pins:List (Addr×Obj)) (s:Shared) (H:Hp),PE (cxComp X scope C (x::M) fp pins s H) elt te)
    (I:Inv X pins σ H2 s2) (T:Turn X.prog X.w X.K (.Name x px) J fp it tn) (st:tn 0 s2.heap) (hf:∀b∈fp,FpOk X pins H2 b) (w0:W 0 m0 H2)
    (turn:∀i m H3,W i m H3→(J.stop i H3∧Qe H3)∨(J.go i H3∧∃N:Hp→Prop,(∀H',N H'→∃m',m'<m∧W (i+1) m' H')∧∀v H',J.yld i H3 v H' →
      te (some v::pick σ js) H' fun y H4=>∃ys,H4 D=some (.lst ys)∧ys.length<sizeLine∧N (upd H4 D (.lst (ys++[y])))))
    (fin:∀(C:Addr) (s':Shared) (H':Hp) (pins':List (Addr×Obj)) (σ':L2.St),s2.heap.objs.size≤C→Inv (cxComp X scope C (x::M) fp pins s2 H2) pins' σ' H' s'→Qe H'→R C (.ok .next) s') :
    wpAny (model X.prog X.w) X.A (newFunctionEnv scope X.env.globals (clOf scope X.env) [] X.env.qual none .none (some X.env)) (fun cenv s4 =>
      codeAny (model X.prog X.w) X.A (.compStart (.ListComp elt [⟨.Name x px,iter,[],0⟩] scope pos) 0 (.ref it) (.ref D) {cenv with scope:=relabel scope X.env}) (R cenv.locals) s4) E s2:=by
  refine wpAny_newFunctionEnv S.nocell (by intro y hy;simp at hy) (fun h1 hns hsb=>?_) S.kind
  have hfl:∀b∈fp,b<s2.heap.objs.size:=fun b hb=>by
    obtain ⟨o,e,_⟩:=T.obj 0 _ st b hb
    exact Heap.lt_size e
  have old:∀b o,s2.heap.get? b=some o→h1.get? b=some o:=fun b o e=>(hsb.2 b (Nat.ne_of_lt (Heap.lt_size e))).trans (Heap.get?_push_of_some _ e)
  have I4:Inv (cxComp X scope s2.heap.objs.size (x::M) fp pins s2 H2) [] (none::pick σ js) H2 {s2 with heap:=h1,toks:=s2.toks+([]:List (Str×Value)).length} :=
    zog S hc I hjs hlen hf hfl (Nat.le_refl _) hns old rfl I.bare
  have st4:tn 0 h1:=T.keep _ _ _ st fun b hb o e=>old b o e
  have stat:∀{H':Hp},(∀b∈fp,H' b=none)→∀b∈fp,FpOk (cxComp X scope s2.heap.objs.size (x::M) fp pins s2 H2) [] H' b:=fun {H'} hn b hb=>by
    obtain ⟨f0,f1,f2,f3,f4,f5⟩:=hf b hb
    refine ⟨hn b hb,Nat.ne_of_lt (hfl b hb),I4.ok.exfs b hb,.inl hb,fun y c e=>f4 y c (S.sub I e),fun p hp=>f5 p ?_⟩
    simpa [cxComp] using hp
  have loop:∀s3:Shared,s3={s2 with heap:=h1,toks:=s2.toks+([]:List (Str×Value)).length} →
      codeAny (model X.prog X.w) X.A (.compLoop (.ListComp elt [⟨.Name x px,iter,[],0⟩] scope pos) 0 (.ref it) (.ref D) (compEnvC scope (clOf scope X.env) s2.heap.objs.size X.env)) (R s2.heap.objs.size) s3:=by
    rintro s3 rfl
    refine zih (fun n s'=>∃i x0 H',Inv (cxComp X scope s2.heap.objs.size (x::M) fp pins s2 H2) [] (x0::pick σ js) H' s'∧tn i s'.heap∧(∀b∈fp,H' b=none)∧W i n H') ?_ m0 ⟨0,none,H2,I4,st4,fun b hb=>(hf b hb).1,w0⟩
    rintro n s5 ⟨i,x0,H5,I5,st5,fr5,w5⟩
    rcases turn i n H5 w5 with ⟨stop,qe⟩|⟨go,N,hN,step⟩
    · refine thn (T.done (cxComp X scope s2.heap.objs.size (x::M) fp pins s2 H2) rfl rfl rfl rfl i [] s5 _ H5 (fun _ _=>False) I5 (stat fr5) st5 stop) fun r s6 ⟨hr,I6⟩=>?_
      subst hr
      exact fin _ s6 H5 [] _ (Nat.le_refl _) I6 qe
    · refine thn (T.item (cxComp X scope s2.heap.objs.size (x::M) fp pins s2 H2) rfl rfl rfl rfl i [] s5 _ H5 (fun _ _=>False) I5 (stat fr5) st5 go) fun r s6 ⟨u,hr,h6⟩=>?_
      subst hr
      refine thn h6 fun _ s7 ⟨v,H7,I7,r7,y7,st7,fr7⟩=>?_
      have I7':=I7.pinned (stat fr7) (T.obj _ _ st7)
      have hg:PG (cxComp X scope s2.heap.objs.size (x::M) fp pins s2 H2) (.Name x px) (gName 0):=zlk (i:=0) S.nd rfl (.inl (lookup_relabel_local S.own)) (.inr (lookup_relabel_local S.own))
      refine thn (hg _ s7 _ H7 v u (fun σ' H'=>σ'=some v::pick σ js∧H'=H7) I7' r7 ⟨rfl,rfl⟩) fun _ s8 ⟨σ8,H8,I8,e8,e8'⟩=>?_
      subst e8 e8'
      refine thn (he s2.heap.objs.size fp pins s2 H2 _ s8 _ H8 _ I8 (step v H8 y7)) fun yv s9 ⟨y,H9,I9,r9,ys,hD,hz,n9⟩=>?_
      refine thn (zdd (X:=cxComp X scope s2.heap.objs.size (x::M) fp pins s2 H2) _ s9 _ H9 (.ref D) [y] (.ref D) [yv] (fun _ H'=>N H') I9 rfl (.cons r9 .nil) ⟨D,ys,y,rfl,rfl,hD,hz,n9⟩) fun _ s10 ⟨_,H10,I10,_,n10⟩=>?_
      obtain ⟨m',hm,w10⟩:=hN H10 n10
      refine ⟨m',hm,i+1,_,H10,I10.unpinned,T.keep _ _ _ st7 fun b hb o e=>(I10.pin (b,o) (List.mem_append_right _ (List.mem_append_right _ (zcj hb e)))).1,fun b hb=>?_,w10⟩
      obtain ⟨o,e,d⟩:=T.obj _ _ st7 b hb
      exact (I10.pin (b,o) (List.mem_append_right _ (List.mem_append_right _ (zcj hb e)))).2.1
  exact codeAny_compStart_list (loop _ rfl) (wpAny_mono (T.self X.A 0 _ _ _ st4 (loop _ rfl)) (fun _ _ z=>z) fun _ _ z=>z)
theorem zpu (S:CompScope X.env.scope x M scope) (hc:X.calm=true) (hjs:∀(k:Nat) (y:Str),M[k]?=some y→∃j:Nat,js[k]?=some j∧X.N[j]?=some y) (hlen:js.length=M.length) (hi:PI X (.Name x px) iter wi)
    (he:∀(C:Addr) (fp:List Addr) (pins:List (Addr×Obj)) (s:Shared) (H:Hp),PE (cxComp X scope C (x::M) fp pins s H) elt te) (hs:∀v,foldedSetIterable iter X.env v=pure v:=by intro _;rfl) :
    PE X (.ListComp elt [⟨.Name x px,iter,[],0⟩] scope pos) (tComp wi te js):=by
  intro pins s σ H Q I h
  rw [eval_ListComp]
  refine wpAny_comprehension_free (use:=none) rfl hs (zi7 (S.cells I)) S.kind S.names (thn (hi pins s σ H _ I h) fun xv s1 h1=>thn h1 fun itv s2 h2=>?_)
  obtain ⟨it,fp,tn,J,H1,rfl,I2,T,st2,f2,q⟩:=h2
  refine wpAny_newObj_type ?_ (by show 0≤sizeLine;decide)
  have hD:H1 s2.heap.objs.size=none:=I2.hok.fresh (Nat.le_refl _)
  obtain ⟨W,⟨m0,w0⟩,turn⟩:=q _ hD
  have I3:Inv X pins σ (upd H1 s2.heap.objs.size (.lst [])) {s2 with heap:=s2.heap.push {cls:=.type "list",data:=.seq ([]:List Value).toArray}}:=I2.lnew (t':=s2.toks) .nil (Nat.zero_le _)
  have fr3:∀b∈fp,FpOk X pins (upd H1 s2.heap.objs.size (.lst [])) b:=fun b hb=>by
    obtain ⟨f0,f⟩:=f2 b hb
    obtain ⟨o,e,_⟩:=T.obj 0 _ st2 b hb
    exact ⟨by rw [zan (Nat.ne_of_lt (Heap.lt_size e))];exact f0,f⟩
  refine zgm (Qe:=fun H'=>Q (.ref s2.heap.objs.size) H') (R:=fun C=>compPost (model X.prog X.w) X.A X.xe none (EP X pins σ Q) (.ref s2.heap.objs.size) C) S hc hjs hlen he I3 T (T.keep _ _ _ st2 fun b hb o e=>Heap.get?_push_of_some _ e) fr3 w0 turn ?_
  intro C s' H' pins' σ' hC Jv qe
  obtain ⟨m,hn,_⟩:=Jv.loc
  exact ⟨m,hn,fun h' hs'=>⟨.ref _,H',zhh I3 fr3 Jv hC hs',rfl,qe⟩⟩
theorem zpn {i:Nat} {y:Str} {py spos:Pos} (S:CompScope X.env.scope x M scope) (hc:X.calm=true) (hjs:∀(k:Nat) (y:Str),M[k]?=some y→∃j:Nat,js[k]?=some j∧X.N[j]?=some y) (hlen:js.length=M.length) (hi:PI X (.Name x px) iter wi)
    (he:∀(C:Addr) (fp:List Addr) (pins:List (Addr×Obj)) (s:Shared) (H:Hp),PE (cxComp X scope C (x::M) fp pins s H) elt te)
    (hN:X.N.Nodup) (hy:X.N[i]?=some y) (hl:X.env.scope.names.lookup y=some .local)
    (hsw:swapsWith (.ListComp elt [⟨.Name x px,iter,[],0⟩] scope pos) (some (.Name y py)) spos.line X.env=pure true:=by rfl) (hs:∀v,foldedSetIterable iter X.env v=pure v:=by intro _;rfl) :
    PS X (.Assign [.Name y py] (.ListComp elt [⟨.Name x px,iter,[],0⟩] scope pos) spos) (tAsg (tComp wi te js) (gName i)):=by
  intro pins s σ H D0 I h
  rw [exec_Assign_Name_used _ _ _ _ hsw]
  refine wpAny_bind (wpAny_standAt (wpAny_bind ?_))
  show wpAny _ X.A (do let _ ←comprehension (.ListComp elt [⟨.Name x px,iter,[],0⟩] scope pos) scope X.env _ (newList []) false (eval iter X.env) (some (assign (.Name y py) X.env))) _ _ s
  refine wpAny_bind (wpAny_mono (wpAny_comprehension_free (use:=some (assign (.Name y py) X.env)) (Q:=fun _ s'=>SP X pins D0 .next s') rfl hs (zi7 (S.cells I)) S.kind S.names
    (thn (hi pins s σ H _ I h) fun xv s1 h1=>thn h1 fun itv s2 h2=>?_)) (fun _ s' hq=>wpAny_pure (wpAny_pure hq)) fun _ _ e=>e)
  obtain ⟨it,fp,tn,J,H1,rfl,I2,T,st2,f2,q⟩:=h2
  refine wpAny_newObj_type ?_ (by show 0≤sizeLine;decide)
  have hD:H1 s2.heap.objs.size=none:=I2.hok.fresh (Nat.le_refl _)
  obtain ⟨W,⟨m0,w0⟩,turn⟩:=q _ hD
  have I3:Inv X pins σ (upd H1 s2.heap.objs.size (.lst [])) {s2 with heap:=s2.heap.push {cls:=.type "list",data:=.seq ([]:List Value).toArray}}:=I2.lnew (t':=s2.toks) .nil (Nat.zero_le _)
  have fr3:∀b∈fp,FpOk X pins (upd H1 s2.heap.objs.size (.lst [])) b:=fun b hb=>by
    obtain ⟨f0,f⟩:=f2 b hb
    obtain ⟨o,e,_⟩:=T.obj 0 _ st2 b hb
    exact ⟨by rw [zan (Nat.ne_of_lt (Heap.lt_size e))];exact f0,f⟩
  refine zgm (Qe:=fun H'=>gName i (.ref s2.heap.objs.size) σ H' D0.nx) (R:=fun C=>compPost (model X.prog X.w) X.A X.xe (some (assign (.Name y py) X.env)) (fun _ s'=>SP X pins D0 .next s') (.ref s2.heap.objs.size) C) S hc hjs hlen he I3 T
    (T.keep _ _ _ st2 fun b hb o e=>Heap.get?_push_of_some _ e) fr3 w0 turn ?_
  intro C s' H' pins' σ' hC Jv qe
  have Ie:Inv X pins σ H' s':=zhh I3 fr3 Jv hC (Heap.SameBut.refl ..)
  obtain ⟨m,hn,_⟩:=Jv.loc
  have fC:=I3.fpOk (H':=H') hC Jv.free
  obtain ⟨c0,c1,c2,c3,c4,c5⟩:=fC
  show wpAny _ X.A (assign (.Name y py) X.env (.ref s2.heap.objs.size)) (fun _ s''=>∃m,s''.heap.Ns C m∧∀h',Heap.SameBut C s''.heap h'→SP X pins D0 .next {s'' with heap:=h'}) X.xe s'
  refine wpAny_assign_Name (zff Ie hN hy (.inl hl) (show RelV (.ref s2.heap.objs.size) (.ref s2.heap.objs.size) from rfl) (fun s'' I'' ⟨a,hsb,ha⟩=>?_) (.inr hl))
  have hCa:C≠a:=by
    rcases ha with rfl|ha
    · exact c1
    · exact Ne.symm (c4 _ _ ha)
  exact ⟨m,hn.sameBut hsb hCa,fun h' hs'=>⟨_,H',I''.turned (t':=s''.toks) (fun b o hb e=>(hs'.2 b hb).trans e) c0 c1 c3 c4 c5,qe⟩⟩
end
end EE
namespace EE
open PySem PySem.Spec PyProof.Rows L2
section
variable {X:Cx} {elt iter:Expr} {x:Str} {px pos:Pos} {scope osc:Scope} {M N:List Str} {js:List Nat} {wi:TI} {te:TE}
theorem zkk (hjs:M.map some=js.map fun j=>N[j]?):(∀(k:Nat) (y:Str),M[k]?=some y→∃j:Nat,js[k]?=some j∧N[j]?=some y)∧js.length=M.length:=by
  constructor
  · intro k y h
    have e:(M.map some)[k]?=some (some y):=by rw [List.getElem?_map,h];rfl
    rw [hjs,List.getElem?_map] at e
    cases q:js[k]? with
    | none=>rw [q] at e;cases e
    | some j =>
      rw [q] at e
      exact ⟨j,rfl,by simpa using e⟩
  · have:=congrArg List.length hjs
    simpa using this.symm
theorem znx (S:CompScope osc x M scope) (hjs:M.map some=js.map fun j=>N[j]?) (hc:X.calm=true) (hi:PI X (.Name x px) iter wi)
    (he:∀(C:Addr) (fp:List Addr) (pins:List (Addr×Obj)) (s:Shared) (H:Hp),PE (cxComp X scope C (x::M) fp pins s H) elt te)
    (hosc:X.env.scope=osc:=by rfl) (hN:X.N=N:=by rfl) (hs:∀v,foldedSetIterable iter X.env v=pure v:=by intro _;rfl) :
    PE X (.ListComp elt [⟨.Name x px,iter,[],0⟩] scope pos) (tComp wi te js):=by
  subst hosc hN
  exact zpu S hc (zkk hjs).1 (zkk hjs).2 hi he hs
theorem zno {i:Nat} {y:Str} {py spos:Pos} (S:CompScope osc x M scope) (hjs:M.map some=js.map fun j=>N[j]?) (hc:X.calm=true) (hi:PI X (.Name x px) iter wi)
    (he:∀(C:Addr) (fp:List Addr) (pins:List (Addr×Obj)) (s:Shared) (H:Hp),PE (cxComp X scope C (x::M) fp pins s H) elt te)
    (hNd:X.N.Nodup) (hy:X.N[i]?=some y) (hl:X.env.scope.names.lookup y=some .local)
    (hosc:X.env.scope=osc:=by rfl) (hN:X.N=N:=by rfl)
    (hsw:swapsWith (.ListComp elt [⟨.Name x px,iter,[],0⟩] scope pos) (some (.Name y py)) spos.line X.env=pure true:=by rfl) (hs:∀v,foldedSetIterable iter X.env v=pure v:=by intro _;rfl) :
    PS X (.Assign [.Name y py] (.ListComp elt [⟨.Name x px,iter,[],0⟩] scope pos) spos) (tAsg (tComp wi te js) (gName i)):=by
  subst hosc hN
  exact zpn S hc (zkk hjs).1 (zkk hjs).2 hi he hNd hy hl hsw hs
end
def ScR (K:PySem.W.Frag) (H:Hp) (a:Addr) (xs:List V):Prop:=(∃o,H a=some (.frz o (.lst xs))) ∨
    ∃(o:Obj) (its:Array Value) (n:Nat),K.lookup a=some o∧o.cls=.type "list"∧o.dict=none∧o.data=.seq its n∧its.size≤sizeLine∧Vals xs its.toList
theorem ScR.sq {K:PySem.W.Frag} {H:Hp} {a:Addr} {xs:List V} (h:ScR K H a xs):SqL K H a xs:=by
  rcases h with ⟨o,h⟩|h
  · exact .inl (.inr ⟨o,h⟩)
  · exact .inr h
theorem ScR.of {K:PySem.W.Frag} {H:Hp} {a:Addr} {xs:List V} (h:SqL K H a xs) (o:Only H):ScR K H a xs:=by
  rcases h with (h|h)|h
  · rcases o a with e|⟨ob,ys,e⟩
    · rw [e] at h;cases h
    · rw [e] at h;cases h
  · exact .inl h
  · exact .inr h
end EE
namespace EE
open PySem PySem.Spec PyProof.Rows L2
end EE
namespace E3
open PySem PySem.Spec PyProof.Rows L2 EE
inductive D where
  | non|bl (b:Bool)|int (i:Int)|str (x:Str)|tup (xs:List D)|rol (xs:List D)|ref (a:Addr)|ty (n:String)
inductive O where
  | lst (xs:List D)|dic (kvs:List (Key×D))|exc (C:Addr)|ins (C:Addr) (fs:List (Str×D))
noncomputable abbrev Hp3:=Addr→Option O
noncomputable abbrev St3:=List (Option D)
noncomputable abbrev K3:=D→Hp3→Prop
noncomputable abbrev X3:=Addr→Addr→Hp3→Prop
noncomputable abbrev W3T:=St3→X3
noncomputable def up (S:Hp3) (a:Addr) (o:O):Hp3:=fun b=>if b=a then some o else S b
noncomputable def emp:Hp3:=fun _=>none
theorem zaf {S:Hp3} {a:Addr} {o:O}:up S a o a=some o:=if_pos rfl
theorem zb9 {S:Hp3} {a b:Addr} {o:O} (h:b≠a):up S a o b=S b:=if_neg h
theorem zo9 {S:Hp3} {a:Addr} {o u:O}:up (up S a o) a u=up S a u:=by
  funext b;unfold up;split<;>rfl
theorem ne3 {S:Hp3} {a b:Addr} {o:O} (h:S a=some o) (h':S b=none):a≠b:=by
  intro e;subst e;rw [h] at h';cases h'
theorem zax {S:Hp3} {a b:Addr} {o u:O} (h:S b=some u) (h':S a=none):up S a o b=some u:=by rw [zb9 (ne3 h h')];exact h
structure Zt where
  p:Addr→Prop
  base:Hp
instance:CoeFun Zt (fun _=>Addr→Prop):=⟨Zt.p⟩
def ExcOf (a C:Addr):Heap→Prop:=fun h=>∃o,h.get? a=some o∧o.cls=.ref C∧∃xs n,o.data=.fields xs∧n=xs.size
mutual
inductive Rp (K:PySem.W.Frag) (H:Hp):D→V→Prop where
  | non:Rp K H .non .non
  | bl (b:Bool):Rp K H (.bl b) (.bl b)
  | int (i:Int):Rp K H (.int i) (.int i)
  | str (x:Str):Rp K H (.str x) (.str x)
  | ref (a:Addr):Rp K H (.ref a) (.ref a)
  | ty (n:String):Rp K H (.ty n) (.ty n)
  | tup {a:Addr} {xs:List V} {ds:List D}:SqT K H a xs→Rps K H ds xs→Rp K H (.tup ds) (.ref a)
  | rol {a:Addr} {xs:List V} {ds:List D}:ScR K H a xs→Rps K H ds xs→Rp K H (.rol ds) (.ref a)
inductive Rps (K:PySem.W.Frag) (H:Hp):List D→List V→Prop where
  | nil:Rps K H [] []
  | cons {d:D} {v:V} {ds:List D} {vs:List V}:Rp K H d v→Rps K H ds vs→Rps K H (d::ds) (v::vs)
end
structure Kp (Z:Zt) (H H':Hp):Prop where
  tup:∀b xs,H b=some (.tup xs)→H' b=some (.tup xs)
  frz:∀b o u,H b=some (.frz o u)→H' b=some (.frz o u)
  hid:∀b,Z b→H' b=H b
theorem Kp.refl (Z:Zt) (H:Hp):Kp Z H H:=⟨fun _ _ h=>h,fun _ _ _ h=>h,fun _ _=>rfl⟩
theorem Kp.trans {Z:Zt} {H H1 H2:Hp} (a:Kp Z H H1) (b:Kp Z H1 H2):Kp Z H H2 :=
  ⟨fun c xs h=>b.tup _ _ (a.tup _ _ h),fun c o u h=>b.frz _ _ _ (a.frz _ _ _ h),fun c z=>(b.hid c z).trans (a.hid c z)⟩
theorem Kp.sqT {K:PySem.W.Frag} {Z:Zt} {H H':Hp} {a:Addr} {xs:List V} (k:Kp Z H H') (h:SqT K H a xs):SqT K H' a xs:=by
  rcases h with (h|⟨o,h⟩)|h
  · exact .inl (.inl (k.tup _ _ h))
  · exact .inl (.inr ⟨o,k.frz _ _ _ h⟩)
  · exact .inr h
theorem Kp.scR {K:PySem.W.Frag} {Z:Zt} {H H':Hp} {a:Addr} {xs:List V} (k:Kp Z H H') (h:ScR K H a xs):ScR K H' a xs:=by
  rcases h with ⟨o,h⟩|h
  · exact .inl ⟨o,k.frz _ _ _ h⟩
  · exact .inr h
mutual
theorem Rp.mono {K:PySem.W.Frag} {Z:Zt} {H H':Hp} (k:Kp Z H H'):∀{d:D} {v:V},Rp K H d v→Rp K H' d v
  | _,_,.non=>.non
  | _,_,.bl b=>.bl b
  | _,_,.int i=>.int i
  | _,_,.str x=>.str x
  | _,_,.ref a=>.ref a
  | _,_,.ty n=>.ty n
  | _,_,.tup h r=>.tup (k.sqT h) (Rps.mono k r)
  | _,_,.rol h r=>.rol (k.scR h) (Rps.mono k r)
theorem Rps.mono {K:PySem.W.Frag} {Z:Zt} {H H':Hp} (k:Kp Z H H'):∀{ds:List D} {vs:List V},Rps K H ds vs→Rps K H' ds vs
  | _,_,.nil=>.nil
  | _,_,.cons h r=>.cons (Rp.mono k h) (Rps.mono k r)
end
section
variable {K:PySem.W.Frag} {H:Hp}
theorem Rps.len:∀{ds:List D} {vs:List V},Rps K H ds vs→ds.length=vs.length
  | _,_,.nil=>rfl
  | _,_,.cons _ r=>by simp [Rps.len r]
theorem Rps.at:∀{ds:List D} {vs:List V} {i:Nat} {d:D},Rps K H ds vs→ds[i]?=some d→∃v,vs[i]?=some v∧Rp K H d v
  | _,_,_,_,.nil,e=>by simp at e
  | _,_,0,_,.cons r _,e=>by simp at e;subst e;exact ⟨_,rfl,r⟩
  | _,_,i+1,d,.cons _ q,e=>by
    obtain ⟨v,h1,h2⟩:=Rps.at (i:=i) (d:=d) q (by simpa using e)
    exact ⟨v,by simpa using h1,h2⟩
theorem Rps.append:∀{ds es:List D} {vs ws:List V},Rps K H ds vs→Rps K H es ws→Rps K H (ds++es) (vs++ws)
  | _,_,_,_,.nil,s=>s
  | _,_,_,_,.cons r t,s=>.cons r (Rps.append t s)
theorem Rps.take:∀{ds:List D} {vs:List V} (n:Nat),Rps K H ds vs→Rps K H (ds.take n) (vs.take n)
  | _,_,0,_=>.nil
  | _,_,_+1,.nil=>.nil
  | _,_,n+1,.cons r t=>.cons r (Rps.take n t)
theorem Rps.drop:∀{ds:List D} {vs:List V} (n:Nat),Rps K H ds vs→Rps K H (ds.drop n) (vs.drop n)
  | _,_,0,r=>r
  | _,_,_+1,.nil=>.nil
  | _,_,n+1,.cons _ t=>Rps.drop n t
theorem Rps.set {d:D} {v:V} (r:Rp K H d v):∀{ds:List D} {vs:List V} (i:Nat),Rps K H ds vs→Rps K H (ds.set i d) (vs.set i v)
  | _,_,_,.nil=>.nil
  | _,_,0,.cons _ t=>.cons r t
  | _,_,i+1,.cons q t=>.cons q (Rps.set r i t)
theorem Rps.ints:∀(ns:List Int),Rps K H (ns.map D.int) (ns.map V.int)
  | []=>.nil
  | n::ns=>.cons (.int n) (Rps.ints ns)
theorem Rps.strs:∀{xs:List Str} {vs:List V},Rps K H (xs.map D.str) vs→vs=xs.map V.str
  | [],_,.nil=>rfl
  | _::xs,_,.cons (.str _) q=>by rw [Rps.strs q];rfl
end
def OR (K:PySem.W.Frag) (H:Hp) (a:Addr):O→Prop
  | .lst ds=>∃vs,H a=some (.lst vs)∧Rps K H ds vs
  | .dic kvs=>∃ws,H a=some (.dK ws)∧Paired (fun (p:Key×D) (q:Key×V)=>p.1=q.1∧Rp K H p.2 q.2) kvs ws
  | .exc C=>H a=some (.ext (ExcOf a C))
  | .ins C fs=>∃dx ws,H a=some (.ins C dx ws)∧Paired (fun (p:Str×D) (q:Str×V)=>p.1=q.1∧Rp K H p.2 q.2) fs ws
structure Rl (K:PySem.W.Frag) (Z:Zt) (S:Hp3) (H:Hp):Prop where
  obj:∀a o,S a=some o→OR K H a o
  hid:∀a,Z a→S a=none∧H a≠none
  old:Kp Z Z.base H
theorem OR.there {K:PySem.W.Frag} {H:Hp} {a:Addr} {o:O} (h:OR K H a o):H a≠none:=by
  cases o with
  | lst ds=>obtain ⟨vs,e,_⟩:=h;rw [e];simp
  | dic ds=>obtain ⟨vs,e,_⟩:=h;rw [e];simp
  | exc C=>have e:H a=_:=h;rw [e];simp
  | ins C fs=>obtain ⟨dx,vs,e,_⟩:=h;rw [e];simp
theorem OR.nofrz {K:PySem.W.Frag} {H:Hp} {a:Addr} {o:O} (h:OR K H a o):(∀xs,H a≠some (.tup xs))∧∀q u,H a≠some (.frz q u):=by
  cases o with
  | lst ds=>obtain ⟨vs,e,_⟩:=h;rw [e];exact ⟨fun _ z=>(nomatch z),fun _ _ z=>(nomatch z)⟩
  | dic ds=>obtain ⟨vs,e,_⟩:=h;rw [e];exact ⟨fun _ z=>(nomatch z),fun _ _ z=>(nomatch z)⟩
  | exc C=>have e:H a=_:=h;rw [e];exact ⟨fun _ z=>(nomatch z),fun _ _ z=>(nomatch z)⟩
  | ins C fs=>obtain ⟨dx,vs,e,_⟩:=h;rw [e];exact ⟨fun _ z=>(nomatch z),fun _ _ z=>(nomatch z)⟩
theorem Rl.fresh {K:PySem.W.Frag} {Z:Zt} {S:Hp3} {H:Hp} {p:Addr} (r:Rl K Z S H) (h:H p=none):S p=none∧¬Z p:=by
  constructor
  · cases e:S p with
    | none=>rfl
    | some o=>exact absurd h (r.obj p o e).there
  · exact fun z=>(r.hid p z).2 h
theorem Kp.new {Z:Zt} {H:Hp} {p:Addr} {o:HO} (h:H p=none) (hz:¬Z p):Kp Z H (upd H p o) :=
  ⟨fun b xs e=>by rw [zan (zb6 e h)];exact e,fun b q u e=>by rw [zan (zb6 e h)];exact e,fun b z=>zan fun e=>hz (e▸z)⟩
theorem Kp.at {K:PySem.W.Frag} {Z:Zt} {S:Hp3} {H:Hp} {p:Addr} {o:O} {q:HO} (r:Rl K Z S H) (h:S p=some o):Kp Z H (upd H p q):=by
  have n:=(r.obj p o h).nofrz
  refine ⟨fun b xs e=>?_,fun b q u e=>?_,fun b z=>?_⟩
  · rw [zan];exact e
    rintro rfl;exact n.1 _ e
  · rw [zan];exact e
    rintro rfl;exact n.2 _ _ e
  · rw [zan]
    rintro rfl
    rw [(r.hid _ z).1] at h
    cases h
theorem OR.keep {K:PySem.W.Frag} {Z:Zt} {H H':Hp} {a:Addr} {o:O} (h:OR K H a o) (k:Kp Z H H') (e:H' a=H a):OR K H' a o:=by
  cases o with
  | lst ds=>obtain ⟨vs,h1,h2⟩:=h;exact ⟨vs,e.trans h1,h2.mono k⟩
  | dic ds=>obtain ⟨vs,h1,h2⟩:=h;exact ⟨vs,e.trans h1,Paired.mapP h2 fun p q z=>⟨z.1,z.2.mono k⟩⟩
  | exc C=>exact e.trans h
  | ins C fs=>obtain ⟨dx,vs,h1,h2⟩:=h;exact ⟨dx,vs,e.trans h1,Paired.mapP h2 fun p q z=>⟨z.1,z.2.mono k⟩⟩
theorem Rl.put {K:PySem.W.Frag} {Z:Zt} {S:Hp3} {H:Hp} {p:Addr} {o:O} {q:HO} (r:Rl K Z S H) (k:Kp Z H (upd H p q)) (hz:¬Z p) (h:OR K (upd H p q) p o):Rl K Z (up S p o) (upd H p q):=by
  refine ⟨fun b u e=>?_,fun b z=>?_,r.old.trans k⟩
  · by_cases hb:b=p
    · subst hb
      rw [zaf] at e
      cases e
      exact h
    · rw [zb9 hb] at e
      exact (r.obj b u e).keep k (zan hb)
  · have hb:b≠p:=fun e=>hz (e▸z)
    rw [zb9 hb,zan hb]
    exact r.hid b z
theorem Rl.notZ {K:PySem.W.Frag} {Z:Zt} {S:Hp3} {H:Hp} {p:Addr} {o:O} (r:Rl K Z S H) (h:S p=some o):¬Z p:=fun z=>by
  rw [(r.hid _ z).1] at h
  cases h
theorem Rl.lay {K:PySem.W.Frag} {Z:Zt} {S:Hp3} {H:Hp} {p:Addr} {q:HO} (r:Rl K Z S H) (h:H p=none):Rl K Z S (upd H p q):=by
  obtain ⟨hs,hz⟩:=r.fresh h
  refine ⟨fun b u e=>(r.obj b u e).keep (Kp.new h hz) (zan (ne3 e hs)),fun b z=>?_,r.old.trans (Kp.new h hz)⟩
  have hb:b≠p:=fun e=>hz (e▸z)
  rw [zan hb]
  exact r.hid b z
def RO (K:PySem.W.Frag) (H:Hp) (o:Option D) (p:Option V):Prop:=∀d,o=some d→∃v,p=some v∧Rp K H d v
abbrev SR (K:PySem.W.Frag) (H:Hp):St3→L2.St→Prop:=Paired (RO K H)
theorem RO.mono {K:PySem.W.Frag} {Z:Zt} {H H':Hp} (k:Kp Z H H') {o:Option D} {p:Option V} (h:RO K H o p):RO K H' o p:=fun d e=>by
  obtain ⟨v,h1,h2⟩:=h d e
  exact ⟨v,h1,h2.mono k⟩
theorem SR.mono {K:PySem.W.Frag} {Z:Zt} {H H':Hp} (k:Kp Z H H') {σ:St3} {τ:L2.St} (h:SR K H σ τ):SR K H' σ τ:=Paired.mapP h fun _ _ q=>q.mono k
theorem SR.at {K:PySem.W.Frag} {H:Hp}:∀{σ:St3} {τ:L2.St} {i:Nat} {d:D},SR K H σ τ→σ[i]?=some (some d)→∃v,τ[i]?=some (some v)∧Rp K H d v
  | _,_,_,_,.nil,e=>by simp at e
  | _,_,0,_,.cons r _,e=>by
    simp at e
    obtain ⟨v,h1,h2⟩:=r _ e
    exact ⟨v,by simp [h1],h2⟩
  | _,_,i+1,d,.cons _ q,e=>by
    obtain ⟨v,h1,h2⟩:=SR.at (i:=i) (d:=d) q (by simpa using e)
    exact ⟨v,by simpa using h1,h2⟩
theorem SR.set {K:PySem.W.Frag} {H:Hp} {d:D} {v:V} (r:Rp K H d v):∀{σ:St3} {τ:L2.St} (i:Nat),SR K H σ τ→SR K H (σ.set i (some d)) (τ.set i (some v))
  | _,_,_,.nil=>.nil
  | _,_,0,.cons _ t=>.cons (fun e he=>by cases he;exact ⟨v,rfl,r⟩) t
  | _,_,i+1,.cons q t=>.cons q (SR.set r i t)
theorem SR.ofRps {K:PySem.W.Frag} {H:Hp}:∀{ds:List D} {vs:List V},Rps K H ds vs→SR K H (ds.map some) (vs.map some)
  | _,_,.nil=>.nil
  | _,_,.cons r t=>.cons (fun e he=>by cases he;exact ⟨_,rfl,r⟩) (SR.ofRps t)
theorem SR.nones {K:PySem.W.Frag} {H:Hp}:∀n:Nat,SR K H (List.replicate n none) (List.replicate n none)
  | 0=>.nil
  | n+1=>.cons (fun d e=>by cases e) (SR.nones n)
theorem zbe {α β:Type} {F:α→β→Prop}:∀{a b:List α} {c d:List β},Paired F a c→Paired F b d→Paired F (a++b) (c++d)
  | _,_,_,_,.nil,s=>s
  | _,_,_,_,.cons r t,s=>.cons r (zbe t s)
noncomputable abbrev TE3:=St3→Hp3→K3→Prop
noncomputable abbrev TT3:=St3→Hp3→(Bool→Hp3→Prop)→Prop
noncomputable abbrev TA3:=St3→Hp3→(List D→Hp3→Prop)→Prop
structure Ends3 where
  nx:St3→Hp3→Prop
  rt:K3
  bk:St3→Hp3→Prop:=fun _ _=>False
  ct:St3→Hp3→Prop:=fun _ _=>False
noncomputable abbrev TS3:=Ends3→St3→Hp3→Prop
section
variable (K:PySem.W.Frag) (Z:Zt)
def CK (H:Hp) (Q3:K3) (Q:VK):Prop:=∀d S v H',Kp Z H H'→Rp K H' d v→Rl K Z S H'→Q3 d S→Q v H'
def CT (H:Hp) (Q3:Bool→Hp3→Prop) (Q:Bool→Hp→Prop):Prop:=∀b S H',Kp Z H H'→Rl K Z S H'→Q3 b S→Q b H'
def CA (H:Hp) (Q3:List D→Hp3→Prop) (Q:List V→Hp→Prop):Prop:=∀ds S vs H',Kp Z H H'→Rps K H' ds vs→Rl K Z S H'→Q3 ds S→Q vs H'
def CS (H:Hp) (Q3:St3→Hp3→Prop) (Q:L2.St→Hp→Prop):Prop:=∀σ S τ H',Kp Z H H'→SR K H' σ τ→Rl K Z S H'→Q3 σ S→Q τ H'
structure CD (H:Hp) (D3:Ends3) (D:Ends):Prop where
  nx:CS K Z H D3.nx D.nx
  bk:CS K Z H D3.bk D.bk
  ct:CS K Z H D3.ct D.ct
  rt:CK K Z H D3.rt D.rt
inductive lE (t:TE3) (τ:L2.St) (H:Hp) (Q:VK):Prop where
  | mk (σ:St3) (S:Hp3) (Q3:K3) (hs:SR K H σ τ) (hr:Rl K Z S H) (ht:t σ S Q3) (hc:CK K Z H Q3 Q)
inductive lT (t:TT3) (τ:L2.St) (H:Hp) (Q:Bool→Hp→Prop):Prop where
  | mk (σ:St3) (S:Hp3) (Q3:Bool→Hp3→Prop) (hs:SR K H σ τ) (hr:Rl K Z S H) (ht:t σ S Q3) (hc:CT K Z H Q3 Q)
inductive lA (t:TA3) (τ:L2.St) (H:Hp) (Q:List V→Hp→Prop):Prop where
  | mk (σ:St3) (S:Hp3) (Q3:List D→Hp3→Prop) (hs:SR K H σ τ) (hr:Rl K Z S H) (ht:t σ S Q3) (hc:CA K Z H Q3 Q)
inductive lS (t:TS3) (D:Ends) (τ:L2.St) (H:Hp):Prop where
  | mk (D3:Ends3) (σ:St3) (S:Hp3) (hs:SR K H σ τ) (hr:Rl K Z S H) (ht:t D3 σ S) (hc:CD K Z H D3 D)
end
variable {K:PySem.W.Frag} {Z:Zt}
theorem CK.mono {H H':Hp} {Q3:K3} {Q:VK} (k:Kp Z H H') (h:CK K Z H Q3 Q):CK K Z H' Q3 Q:=fun d S v H2 k2=>h d S v H2 (k.trans k2)
theorem CT.mono {H H':Hp} {Q3:Bool→Hp3→Prop} {Q:Bool→Hp→Prop} (k:Kp Z H H') (h:CT K Z H Q3 Q):CT K Z H' Q3 Q:=fun d S H2 k2=>h d S H2 (k.trans k2)
theorem CS.mono {H H':Hp} {Q3:St3→Hp3→Prop} {Q:L2.St→Hp→Prop} (k:Kp Z H H') (h:CS K Z H Q3 Q):CS K Z H' Q3 Q:=fun d S v H2 k2=>h d S v H2 (k.trans k2)
theorem CD.mono {H H':Hp} {D3:Ends3} {D:Ends} (k:Kp Z H H') (h:CD K Z H D3 D):CD K Z H' D3 D:=⟨h.nx.mono k,h.bk.mono k,h.ct.mono k,h.rt.mono k⟩
structure FlyT (h:Heap) (a C T:Addr):Prop where
  ne:T≠a
  exc:∃oe vs a0,h.get? a=some oe∧oe.cls=.ref C∧oe.data=.fields vs∧vs[0]?=some a0∧vs[1]?=some (.ref T)
  tb:∃oT ts,h.get? T=some oT∧oT.data=.fields ts∧ts[3]?=some .none
noncomputable def CX1 (P:Program) (w:World):CXT:=fun outer H s E e s'=>∃(a C T:Addr) (H':Hp),e=.ref a∧s'.os=s.os∧AllBare s'.gens∧Un (frs outer) [] H H' s.heap s'.heap∧HOk P w H' s'.heap ∧
  FlyT s'.heap a C T∧H' a=none∧H' T=none∧s.heap.get? a=none∧s.heap.get? T=none∧E (.ref C) (some a) H'
def PassesAt (CX:CXT) (X:Cx) (E:XK) (τ:L2.St):Prop:=∀(pins:List (Addr×Obj)) (H:Hp) (s:Shared) (e:Value) (s':Shared),Inv X pins τ H s→CX X.stack H s E e s'→X.xe e s'
def RaisesAt (X:Cx) (E:XK) (τ:L2.St):Prop:=∀(pins:List (Addr×Obj)) (H:Hp) (s s3:Shared) (e C:Addr) (args:List Value),Inv X pins τ H s→Heap.MadeExcOf s.heap s3.heap e (.ref C) args→s3.os=s.os→s3.gens=s.gens→E (.ref C) (some e) H→X.xe (.ref e) s3
theorem pass1 {P:Program} {w:World} {X:Cx} {τ:L2.St}:PassesAt (CX1 P w) X E0 τ:=fun _ _ _ _ _ _ h=>by
  obtain ⟨a,C,T,H',_,_,_,_,_,_,_,_,_,_,z⟩:=h
  exact z.elim
abbrev NoX:W3T:=fun _ _ _ _=>False
def CE3 (K:PySem.W.Frag) (Z:Zt) (H:Hp) (W3:X3) (E:XK):Prop:=∀C a S H',Kp Z H H'→Rl K Z S H'→H' a=none→W3 C a S→E (.ref C) (some a) H'
structure ZX (X:Cx) (W3:W3T) where
  z:Zt
  E:L2.St→XK
  pass:∀τ,PassesAt (CX1 X.prog X.w) X (E τ) τ
  rz:∀τ,RaisesAt X (E τ) τ
  ce:∀σ τ C a S H,SR X.K H σ τ→Rl X.K z S H→H a=none→W3 σ C a S→E τ (.ref C) (some a) H
noncomputable def ZX.no (X:Cx) (z:Zt):ZX X NoX:=⟨z,fun _=>E0,fun _=>pass1,fun _ _ _ _ _ _ _ _ _ _ _ _ z=>z.elim,fun _ _ _ _ _ _ _ _ _ z=>z.elim⟩
def PE3 (X:Cx) (W3:W3T) (e:Expr) (t:TE3):Prop:=∀Z:ZX X W3,PE X e (lE X.K Z.z t)
def PT3 (X:Cx) (W3:W3T) (e:Expr) (t:TT3):Prop:=∀Z:ZX X W3,PT X e (lT X.K Z.z t)
def PW3 (X:Cx) (W3:W3T) (e:Expr) (t:TT3):Prop:=∀Z:ZX X W3,PW X e (lT X.K Z.z t)
def PA3 (X:Cx) (W3:W3T) (es:List Expr) (t:TA3):Prop:=∀Z:ZX X W3,PA X es (lA X.K Z.z t)
def PS3 (X:Cx) (W3:W3T) (st:Stmt) (t:TS3):Prop:=∀Z:ZX X W3,PS X st (lS X.K Z.z t)
def PSs3 (X:Cx) (W3:W3T) (st:List Stmt) (t:TS3):Prop:=∀Z:ZX X W3,PSs X st (lS X.K Z.z t)
theorem PE.imp {X:Cx} {e:Expr} {t u:TE} (h:PE X e t) (f:∀σ H Q,u σ H Q→t σ H Q):PE X e u:=fun pins s σ H Q I q=>h pins s σ H Q I (f _ _ _ q)
theorem PT.imp {X:Cx} {e:Expr} {t u:TT} (h:PT X e t) (f:∀σ H Q,u σ H Q→t σ H Q):PT X e u:=fun pins s σ H Q I q=>h pins s σ H Q I (f _ _ _ q)
theorem PW.imp {X:Cx} {e:Expr} {t u:TT} (h:PW X e t) (f:∀σ H Q,u σ H Q→t σ H Q):PW X e u:=fun w pins s σ H Q I q=>h w pins s σ H Q I (f _ _ _ q)
theorem PA.imp {X:Cx} {e:List Expr} {t u:TA} (h:PA X e t) (f:∀σ H Q,u σ H Q→t σ H Q):PA X e u:=fun p pins s σ H Q I q=>h p pins s σ H Q I (f _ _ _ q)
theorem PS.imp {X:Cx} {st:Stmt} {t u:TS} (h:PS X st t) (f:∀D σ H,u D σ H→t D σ H):PS X st u:=fun pins s σ H D I q=>h pins s σ H D I (f _ _ _ q)
theorem PSs.imp {X:Cx} {st:List Stmt} {t u:TS} (h:PSs X st t) (f:∀D σ H,u D σ H→t D σ H):PSs X st u:=fun pins s σ H D I q=>h pins s σ H D I (f _ _ _ q)
end E3
namespace E3
open PySem PySem.Spec PyProof.Rows L2 EE
section
variable {X:Cx} {W3:W3T} {a b c e:Expr} {es:List Expr} {pos:Pos}
def v3 (i:Nat):TE3:=fun σ S Q=>∃d,σ[i]?=some (some d)∧Q d S
def c3 (d:D):TE3:=fun _ S Q=>Q d S
theorem e_var {i:Nat} (h:PE X e (tVar i)):PE3 X W3 e (v3 i):=fun Z=>PE.imp h fun τ H Q z_1=>by
  obtain ⟨σ,S,Q3,hs,hr,⟨d,e,q⟩,c⟩:=z_1
  obtain ⟨v,h1,h2⟩:=hs.at e
  exact ⟨v,h1,c d S v H (Kp.refl _ _) h2 hr q⟩
theorem e_v (i:Nat) {x:Str} {pos:Pos} (hN:X.N[i]?=some x:=by rfl) (hv:Vis X.env.scope x:=by first|exact Or.inl rfl|exact Or.inr (Or.inl rfl)|exact Or.inr (Or.inr rfl)) (hd:(x==("__debug__":Str))=false:=by decide)
    (hcd:(x==("__classdict__":Str))=false:=by decide):PE3 X W3 (.Name x pos) (v3 i):=e_var (pe_var hN hv hd hcd)
theorem zi1 {v:V} {d:D} (h:PE X e (tC v)) (r:∀H,Rp X.K H d v):PE3 X W3 e (c3 d):=fun Z=>PE.imp h fun τ H Q z_2=>by obtain ⟨σ,S,Q3,hs,hr,q,c⟩:=z_2;exact c d S v H (Kp.refl _ _) (r H) hr q
theorem zac {i j}:PE3 X W3 (.Constant (.int i) j pos) (c3 (.int i)):=zi1 pe_int fun _=>.int _
theorem e_bl {b j}:PE3 X W3 (.Constant (.bool b) j pos) (c3 (.bl b)):=zi1 pe_bl fun _=>.bl _
theorem zdk {j}:PE3 X W3 (.Constant .none j pos) (c3 .non):=zi1 pe_non fun _=>.non
theorem zai {x j}:PE3 X W3 (.Constant (.str x) j pos) (c3 (.str x)):=zi1 zll fun _=>.str _
theorem zdq {x:Str} {n:String} (hg:Gl X x) (hm:X.mg x=none) (hv:bootBuiltins x=some (.type n)) (hn:x≠"__name__":=by decide) (hd:(x==("__debug__":Str))=false:=by decide):PE3 X W3 (.Name x pos) (c3 (.ty n)) :=
  zi1 (zpw (v:=.ty n) hg hm hv rfl hn hd) fun _=>.ty _
theorem zhf {x:Str} {i:Int} (h:∃t,X.mg x=some (.int i t)) (hg:Gl X x) (hd:(x==("__debug__":Str))=false:=by decide):PE3 X W3 (.Name x pos) (c3 (.int i)) :=
  zi1 (znw h hg hd) fun _=>.int _
theorem zdy {x:Str} {C:Addr} (h:X.mg x=some (.ref C)) (hg:Gl X x) (hd:(x==("__debug__":Str))=false:=by decide):PE3 X W3 (.Name x pos) (c3 (.ref C)) :=
  zi1 (zln (v:=.ref C) hg h rfl hd) fun _=>.ref _
noncomputable abbrev R3:=D→D→Hp3→K3→Prop
def Dn2 (K:PySem.W.Frag) (r3:R3) (r:R2):Prop:=∀(Z:Zt) x y S Q3 v w H Q,Rp K H x v→Rp K H y w→Rl K Z S H→r3 x y S Q3→CK K Z H Q3 Q→r v w H Q
def o3 (r:R3) (ta tb:TE3):TE3:=fun σ S Q=>ta σ S fun x S1=>tb σ S1 fun y S2=>r x y S2 Q
def test3 (t:TE3):TT3:=fun σ S Q=>t σ S fun x S'=>∃k,x=.bl k∧Q k S'
variable {ta tb tc:TE3} {tA tB:TT3} {t:TA3}
theorem zg4 {K:PySem.W.Frag} {Z:Zt} {r3:R3} {r:R2} (hd:Dn2 K r3 r) {τ:L2.St} {H:Hp} {Q:VK} (h:lE K Z (o3 r3 ta tb) τ H Q):tOp r (lE K Z ta) (lE K Z tb) τ H Q:=by
  obtain ⟨σ,S,Q3,hs,hr,ht,hc⟩:=h
  refine ⟨σ,S,_,hs,hr,ht,fun x S1 v H1 k1 r1 l1 q1=>?_⟩
  refine ⟨σ,S1,_,hs.mono k1,l1,q1,fun y S2 w H2 k2 r2 l2 q2=>?_⟩
  exact hd Z x y S2 Q3 v w H2 Q (r1.mono k2) r2 l2 q2 (hc.mono (k1.trans k2))
theorem e_op {op:Operator} {r3:R3} {r:R2} (ho:OpR X (binaryOp op) r) (hd:Dn2 X.K r3 r) (ha:PE3 X W3 a ta) (hb:PE3 X W3 b tb):PE3 X W3 (.BinOp a op b pos) (o3 r3 ta tb) :=
  fun Z=>PE.imp (pe_op ho (ha Z) (hb Z)) fun _ _ _ h=>zg4 hd h
theorem zmp {op:CmpOp} {r3:R3} {r:R2} (ho:OpR X (compareOp op) r) (hd:Dn2 X.K r3 r) (ha:PE3 X W3 a ta) (hb:PE3 X W3 b tb) (hm:behindInMarks op b=false):PE3 X W3 (.Compare a [op] [b] pos) (o3 r3 ta tb) :=
  fun Z=>PE.imp (zpv ho (ha Z) (hb Z) hm) fun _ _ _ h=>zg4 hd h
theorem zfc {K:PySem.W.Frag} {Z:Zt} {t3:TE3} {t2:TE} (hd:∀τ H Q,lE K Z t3 τ H Q→t2 τ H Q) {τ:L2.St} {H:Hp} {Q:Bool→Hp→Prop} (h:lT K Z (test3 t3) τ H Q):tTest t2 τ H Q:=by
  obtain ⟨σ,S,Q3,hs,hr,ht,hc⟩:=h
  refine hd τ H _ ⟨σ,S,_,hs,hr,ht,fun x S1 v H1 k1 r1 l1 q1=>?_⟩
  obtain ⟨k,rfl,q⟩:=q1
  cases r1
  exact ⟨k,rfl,hc k S1 H1 k1 l1 q⟩
theorem zao {op:CmpOp} {r3:R3} {r:R2} (ho:OpR X (compareOp op) r) (hd:Dn2 X.K r3 r) (ha:PE3 X W3 a ta) (hb:PE3 X W3 b tb) (hm:behindInMarks op b=false):PT3 X W3 (.Compare a [op] [b] pos) (test3 (o3 r3 ta tb)) :=
  fun Z=>PT.imp (zpj ho (ha Z) (hb Z) hm) fun _ _ _ h=>zfc (fun _ _ _ h=>zg4 hd h) h
theorem e_ix {r3:R3} {r:R2} (ho:IxR X r) (hd:Dn2 X.K r3 r) (ha:PE3 X W3 a ta) (hb:PE3 X W3 b tb) (hs:PlainIx b):PE3 X W3 (.Subscript a b pos) (o3 r3 ta tb) :=
  fun Z=>PE.imp (pe_ix ho (ha Z) (hb Z) hs) fun _ _ _ h=>zg4 hd h
theorem zf5 (h:PE3 X W3 e ta) (he:∀whole,isTrue e X.env whole=(do let v ←whole;standAt e.pos;holding [v] (truthy v)):=by intro _;rfl):PT3 X W3 e (test3 ta) :=
  fun Z=>PT.imp (pt_val (h Z) he) fun _ _ _ q=>zfc (t2:=lE X.K Z.z ta) (fun _ _ _ z=>z) q
def u3 (r:D→Hp3→K3→Prop) (ta:TE3):TE3:=fun σ S Q=>ta σ S fun x S1=>r x S1 Q
theorem e_neg (ha:PE3 X W3 a ta):PE3 X W3 (.UnaryOp .USub a pos) (u3 (fun x S Q=>∃i,x=.int i∧Q (.int (-i)) S) ta):=fun Z=>PE.imp (pe_un un_neg (ha Z)) fun τ H Q z_3=>by
  obtain ⟨σ,S,Q3,hs,hr,ht,hc⟩:=z_3
  refine ⟨σ,S,_,hs,hr,ht,fun x S1 v H1 k1 r1 l1 q1=>?_⟩
  obtain ⟨i,rfl,q⟩:=q1
  cases r1
  exact ⟨i,rfl,hc _ S1 _ H1 k1 (.int _) l1 q⟩
def and3 (t u:TT3):TT3:=fun σ S Q=>t σ S fun c S1=>if c=true then u σ S1 Q else Q false S1
def or3 (t u:TT3):TT3:=fun σ S Q=>t σ S fun c S1=>if c=true then Q true S1 else u σ S1 Q
def not3 (t:TT3):TT3:=fun σ S Q=>t σ S fun c S1=>Q (!c) S1
def andv3 (ta tb:TE3):TE3:=fun σ S Q=>ta σ S fun x S1=>∃c,x=.bl c∧if c=true then tb σ S1 Q else Q (.bl false) S1
def notv3 (ta:TE3):TE3:=fun σ S Q=>ta σ S fun x S1=>∃c,x=.bl c∧Q (.bl (!c)) S1
def if3 (t:TT3) (ta tb:TE3):TE3:=fun σ S Q=>t σ S fun c S1=>if c=true then ta σ S1 Q else tb σ S1 Q
variable {rest:List Expr}
theorem zem (ha:PT3 X W3 a tA):PW3 X W3 (.BoolOp .And [a] pos) tA:=fun Z=>zph (ha Z)
theorem zds (ha:PT3 X W3 a tA):PW3 X W3 (.BoolOp .Or [a] pos) tA:=fun Z=>pw_or1 (ha Z)
theorem w_and (ha:PT3 X W3 a tA) (hb:PW3 X W3 (.BoolOp .And (b::rest) pos) tB):PW3 X W3 (.BoolOp .And (a::b::rest) pos) (and3 tA tB):=fun Z=>PW.imp (pw_and (ha Z) (hb Z)) fun τ H Q z_4=>by
  obtain ⟨σ,S,Q3,hs,hr,ht,hc⟩:=z_4
  refine ⟨σ,S,_,hs,hr,ht,fun c S1 H1 k1 l1 q1=>?_⟩
  cases c with
  | true=>exact ⟨σ,S1,Q3,hs.mono k1,l1,q1,hc.mono k1⟩
  | false=>exact hc false S1 H1 k1 l1 q1
theorem w_or (ha:PT3 X W3 a tA) (hb:PW3 X W3 (.BoolOp .Or (b::rest) pos) tB):PW3 X W3 (.BoolOp .Or (a::b::rest) pos) (or3 tA tB):=fun Z=>PW.imp (pw_or (ha Z) (hb Z)) fun τ H Q z_5=>by
  obtain ⟨σ,S,Q3,hs,hr,ht,hc⟩:=z_5
  refine ⟨σ,S,_,hs,hr,ht,fun c S1 H1 k1 l1 q1=>?_⟩
  cases c with
  | true=>exact hc true S1 H1 k1 l1 q1
  | false=>exact ⟨σ,S1,Q3,hs.mono k1,l1,q1,hc.mono k1⟩
theorem PW3.pt (h:PW3 X W3 e tA):PT3 X W3 e tA:=fun Z=>(h Z).pt
theorem zez (ha:PT3 X W3 a tA):PT3 X W3 (.UnaryOp .Not a pos) (not3 tA):=fun Z=>PT.imp (pt_not (ha Z)) fun τ H Q z_6=>by obtain ⟨σ,S,Q3,hs,hr,ht,hc⟩:=z_6;exact ⟨σ,S,_,hs,hr,ht,fun c S1 H1 k1 l1 q1=>hc (!c) S1 H1 k1 l1 q1⟩
theorem zmm {op} (h:PE3 X W3 a ta):PE3 X W3 (.BoolOp op [a] pos) ta:=fun Z=>pe_one (h Z)
theorem zkn (ha:PE3 X W3 a ta) (hb:PE3 X W3 (.BoolOp .And (b::rest) pos) tb):PE3 X W3 (.BoolOp .And (a::b::rest) pos) (andv3 ta tb):=fun Z=>PE.imp (pe_and (ha Z) (hb Z)) fun τ H Q z_7=>by
  obtain ⟨σ,S,Q3,hs,hr,ht,hc⟩:=z_7
  refine ⟨σ,S,_,hs,hr,ht,fun x S1 v H1 k1 r1 l1 q1=>?_⟩
  obtain ⟨c,rfl,q1⟩:=q1
  cases r1
  refine ⟨c,rfl,?_⟩
  cases c with
  | true=>exact ⟨σ,S1,Q3,hs.mono k1,l1,q1,hc.mono k1⟩
  | false=>exact hc _ S1 _ H1 k1 (.bl _) l1 q1
theorem e_not (ha:PE3 X W3 a ta):PE3 X W3 (.UnaryOp .Not a pos) (notv3 ta):=fun Z=>PE.imp (pe_not (ha Z)) fun τ H Q z_9=>by
  obtain ⟨σ,S,Q3,hs,hr,ht,hc⟩:=z_9
  refine ⟨σ,S,_,hs,hr,ht,fun x S1 v H1 k1 r1 l1 q1=>?_⟩
  obtain ⟨c,rfl,q1⟩:=q1
  cases r1
  exact ⟨c,rfl,hc _ S1 _ H1 k1 (.bl _) l1 q1⟩
theorem zmn (hc:PT3 X W3 c tA) (ha:PE3 X W3 a ta) (hb:PE3 X W3 b tb):PE3 X W3 (.IfExp c a b pos) (if3 tA ta tb):=fun Z=>PE.imp (znv (hc Z) (ha Z) (hb Z)) fun τ H Q z_10=>by
  obtain ⟨σ,S,Q3,hs,hr,ht,hc⟩:=z_10
  refine ⟨σ,S,_,hs,hr,ht,fun c S1 H1 k1 l1 q1=>?_⟩
  cases c with
  | true=>exact ⟨σ,S1,Q3,hs.mono k1,l1,q1,hc.mono k1⟩
  | false=>exact ⟨σ,S1,Q3,hs.mono k1,l1,q1,hc.mono k1⟩
def IsL (S:Hp3) (x:D) (ds:List D):Prop:=(∃a,x=.ref a∧S a=some (.lst ds))∨x=.rol ds
theorem IsL.down {K:PySem.W.Frag} {Z:Zt} {S:Hp3} {H:Hp} {x:D} {ds:List D} {v:V} (h:IsL S x ds) (r:Rp K H x v) (l:Rl K Z S H):∃a vs,v=.ref a∧SqL K H a vs∧Rps K H ds vs:=by
  rcases h with ⟨a,rfl,e⟩|rfl
  · cases r
    obtain ⟨vs,h1,h2⟩:=l.obj a _ e
    exact ⟨a,vs,rfl,SqL.of h1,h2⟩
  · cases r with
    | rol h1 h2=>exact ⟨_,_,rfl,h1.sq,h2⟩
def nil3:TA3:=fun _ S Q=>Q [] S
def cons3 (ta:TE3) (tr:TA3):TA3:=fun σ S Q=>ta σ S fun x S1=>tr σ S1 fun xs S2=>Q (x::xs) S2
theorem zae:PA3 X W3 [] nil3:=fun Z=>PA.imp pa_nil fun τ H Q z_12=>by obtain ⟨σ,S,Q3,hs,hr,ht,hc⟩:=z_12;exact hc [] S [] H (Kp.refl _ _) .nil hr ht
theorem zaa (ha:PE3 X W3 e ta) (hr:PA3 X W3 es t) (hs:starEach (e::es) X.env=(false,eval e X.env)::starEach es X.env:=by rfl):PA3 X W3 (e::es) (cons3 ta t):=fun Z=>PA.imp (zpy (ha Z) (hr Z) hs) fun τ H Q z_13=>by
  obtain ⟨σ,S,Q3,hs,hr,ht,hc⟩:=z_13
  refine ⟨σ,S,_,hs,hr,ht,fun x S1 v H1 k1 r1 l1 q1=>?_⟩
  exact ⟨σ,S1,_,hs.mono k1,l1,q1,fun xs S2 vs H2 k2 r2 l2 q2=>hc (x::xs) S2 (v::vs) H2 (k1.trans k2) (.cons (r1.mono k2) r2) l2 q2⟩
def newL (S:Hp3) (ds:List D) (Q:K3):Prop:=∀p,S p=none→Q (.ref p) (up S p (.lst ds))
theorem newL.down {K:PySem.W.Frag} {Z:Zt} {S:Hp3} {H:Hp} {ds:List D} {vs:List V} {Q3:K3} {Q:VK} (h:newL S ds Q3) (r:Rps K H ds vs) (l:Rl K Z S H) (c:CK K Z H Q3 Q):∀p,H p=none→Q (.ref p) (upd H p (.lst vs)):=fun p hp=>by
  obtain ⟨hs,hz⟩:=l.fresh hp
  have k:=Kp.new (o:=HO.lst vs) hp hz
  exact c _ _ _ _ k (.ref p) (l.put (o:=.lst ds) k hz ⟨vs,za6,r.mono k⟩) (h p hs)
theorem tup.down {K:PySem.W.Frag} {Z:Zt} {S:Hp3} {H:Hp} {ds:List D} {vs:List V} {Q3:K3} {Q:VK} (h:Q3 (.tup ds) S) (r:Rps K H ds vs) (l:Rl K Z S H) (c:CK K Z H Q3 Q):∀p,H p=none→Q (.ref p) (upd H p (.tup vs)):=fun p hp=>by
  obtain ⟨hs,hz⟩:=l.fresh hp
  have k:=Kp.new (o:=HO.tup vs) hp hz
  exact c _ _ _ _ k (.tup (SqT.of za6) (r.mono k)) (l.lay hp) h
def tup3 (t:TA3):TE3:=fun σ S Q=>t σ S fun xs S1=>xs.length≤sizeLine∧Q (.tup xs) S1
def lst3 (t:TA3):TE3:=fun σ S Q=>t σ S fun xs S1=>xs.length≤sizeLine∧newL S1 xs Q
theorem zbx {x1} (h:PA3 X W3 es t):PE3 X W3 (.Tuple es x1 pos) (tup3 t):=fun Z=>PE.imp (pe_tup (h Z)) fun τ H Q ⟨σ,S,Q3,hs,hr,ht,hc⟩ =>
  ⟨σ,S,_,hs,hr,ht,fun xs S1 vs H1 k1 r1 l1 z_14=>by obtain ⟨z,q⟩:=z_14;exact ⟨by rw [←r1.len];exact z,tup.down q r1 l1 (hc.mono k1)⟩⟩
theorem zkm (h:PA3 X W3 es t):PE3 X W3 (.List es pos) (lst3 t):=fun Z=>PE.imp (pe_lst (h Z)) fun τ H Q ⟨σ,S,Q3,hs,hr,ht,hc⟩ =>
  ⟨σ,S,_,hs,hr,ht,fun xs S1 vs H1 k1 r1 l1 z_15=>by obtain ⟨z,q⟩:=z_15;exact ⟨by rw [←r1.len];exact z,newL.down q r1 l1 (hc.mono k1)⟩⟩
def DnC (K:PySem.W.Frag) (r3:List D→Hp3→K3→Prop) (r:List V→Hp→VK→Prop):Prop:=∀(Z:Zt) ds S Q3 vs H Q,Rps K H ds vs→Rl K Z S H→r3 ds S Q3→CK K Z H Q3 Q→r vs H Q
def cb3 (r:List D→Hp3→K3→Prop) (t:TA3):TE3:=fun σ S Q=>t σ S fun vs S1=>r vs S1 Q
variable {x:Str} {p:Pos} {id T:String} {r3:List D→Hp3→K3→Prop} {r:List V→Hp→VK→Prop}
theorem zm5 {K:PySem.W.Frag} {Z:Zt} (hd:DnC K r3 r) {τ:L2.St} {H:Hp} {Q:VK} (h:lE K Z (cb3 r3 t) τ H Q):tCB r (lA K Z t) τ H Q:=by
  obtain ⟨σ,S,Q3,hs,hr,ht,hc⟩:=h
  exact ⟨σ,S,_,hs,hr,ht,fun ds S1 vs H1 k1 r1 l1 q1=>hd Z ds S1 Q3 vs H1 Q r1 l1 q1 (hc.mono k1)⟩
theorem zaj (hc:CallR X (.builtin id) r) (hd:DnC X.K r3 r) (hg:Gl X x) (hm:X.mg x=none) (hv:bootBuiltins x=some (.builtin id)) (ha:PA3 X W3 (e::es) t) (hn:x≠"__name__":=by decide) (hdb:(x==("__debug__":Str))=false:=by decide)
    (he:starEach (e::es) X.env=(false,eval e X.env)::starEach es X.env:=by rfl) (hpl:(backTo pos (starEach es X.env)).any (·.1)=false:=by rfl):PE3 X W3 (.Call (.Name x p) (e::es) [] pos) (cb3 r3 t) :=
  fun Z=>PE.imp (znz hc hg hm hv (ha Z) hn hdb he hpl) fun _ _ _ h=>zm5 hd h
theorem zc2 (hc:CallR X (.type T) r) (hd:DnC X.K r3 r) (hg:Gl X x) (hm:X.mg x=none) (hv:bootBuiltins x=some (.type T)) (ha:PA3 X W3 (e::es) t) (hn:x≠"__name__":=by decide) (hdb:(x==("__debug__":Str))=false:=by decide)
    (he:starEach (e::es) X.env=(false,eval e X.env)::starEach es X.env:=by rfl) (hpl:(backTo pos (starEach es X.env)).any (·.1)=false:=by rfl):PE3 X W3 (.Call (.Name x p) (e::es) [] pos) (cb3 r3 t) :=
  fun Z=>PE.imp (zlo hc hg hm hv (ha Z) hn hdb he hpl) fun _ _ _ h=>zm5 hd h
def DnM (K:PySem.W.Frag) (r3:D→List D→Hp3→K3→Prop) (r:V→List V→Hp→VK→Prop):Prop:=∀(Z:Zt) x ds S Q3 v vs H Q,Rp K H x v→Rps K H ds vs→Rl K Z S H→r3 x ds S Q3→CK K Z H Q3 Q→r v vs H Q
def TyD (T:String) (x:D) (S:Hp3):Prop:=(T="str"∧∃z,x=.str z)∨(T="list"∧∃ds,IsL S x ds)∨(T="dict"∧∃a kvs,x=.ref a∧S a=some (.dic kvs))
theorem TyD.down {K:PySem.W.Frag} {Z:Zt} {S:Hp3} {H:Hp} {T:String} {x:D} {v:V} (h:TyD T x S) (r:Rp K H x v) (l:Rl K Z S H):tyV K T v H:=by
  rcases h with ⟨rfl,z,rfl⟩|⟨rfl,ds,h⟩|⟨rfl,a,kvs,rfl,e⟩
  · cases r;rfl
  · obtain ⟨a,vs,rfl,h1,_⟩:=h.down r l
    exact .inl ⟨rfl,vs,h1⟩
  · cases r
    obtain ⟨ws,h1,_⟩:=l.obj a _ e
    exact .inr (.inr (.inl ⟨rfl,.inl ⟨ws,h1⟩⟩))
def bm03 (T:String) (r:D→List D→Hp3→K3→Prop) (to:TE3):TE3:=fun σ S Q=>to σ S fun x S1=>TyD T x S1∧r x [] S1 Q
def bm3 (T:String) (r:D→List D→Hp3→K3→Prop) (to:TE3) (t:TA3):TE3:=fun σ S Q=>to σ S fun x S1=>TyD T x S1∧t σ S1 fun xs S2=>r x xs S2 Q
variable {o:Expr} {to:TE3} {name:Str} {apos cpos:Pos} {m3:D→List D→Hp3→K3→Prop} {m:V→List V→Hp→VK→Prop}
theorem e_bm0 (pa:PlainAttrs T) (slot:Slot T name id) (hty:typeOf (.builtin id)=pure (.type "method_descriptor")) (hm:MtR X id m) (hd:DnM X.K m3 m) (ho:PE3 X W3 o to)
    (hbase:attributeBase o name X.env (eval o X.env)=eval o X.env:=by rfl) (hline:(apos.endLine==cpos.line)=true:=by rfl):PE3 X W3 (.Call (.Attribute o name apos) [] [] cpos) (bm03 T m3 to) :=
  fun Z=>PE.imp (pe_bm0 pa slot hty hm (ho Z) hbase hline) fun τ H Q ⟨σ,S,Q3,hs,hr,ht,hc⟩ =>
    ⟨σ,S,_,hs,hr,ht,fun x S1 v H1 k1 r1 l1 z_16=>by obtain ⟨ty,q⟩:=z_16;exact ⟨ty.down r1 l1,hd Z.z x [] S1 Q3 v [] H1 Q r1 .nil l1 q (hc.mono k1)⟩⟩
theorem e_bm (pa:PlainAttrs T) (slot:Slot T name id) (hty:typeOf (.builtin id)=pure (.type "method_descriptor")) (hm:MtR X id m) (hd:DnM X.K m3 m) (ho:PE3 X W3 o to) (ha:PA3 X W3 (e::es) t)
    (hbase:attributeBase o name X.env (eval o X.env)=eval o X.env:=by rfl)
    (hfew:((backTo cpos (starEach (e::es) X.env)).all (fun x=>!x.1)&&(backToKw cpos (keywordEach [] X.env)).all (fun x=>x.1.isSome)
      && decide ((e::es).length+([]:List Keyword).length+(if ([]:List Keyword).isEmpty then 0 else 1)<30))=true:=by rfl)
    (hline:(apos.endLine==cpos.line)=true:=by rfl) (hs:starEach (e::es) X.env=(false,eval e X.env)::starEach es X.env:=by rfl) (hplain:(backTo cpos (starEach es X.env)).any (·.1)=false:=by rfl) :
    PE3 X W3 (.Call (.Attribute o name apos) (e::es) [] cpos) (bm3 T m3 to t) :=
  fun Z=>PE.imp (pe_bm pa slot hty hm (ho Z) (ha Z) hbase hfew hline hs hplain) fun τ H Q ⟨σ,S,Q3,hs,hr,ht,hc⟩ =>
    ⟨σ,S,_,hs,hr,ht,fun x S1 v H1 k1 r1 l1 z_17=>by obtain ⟨ty,q⟩:=z_17;exact ⟨ty.down r1 l1,σ,S1,_,hs.mono k1,l1,q,fun ds S2 vs H2 k2 r2 l2 q2=>hd Z.z x ds S2 Q3 v vs H2 Q (r1.mono k2) r2 l2 q2 (hc.mono (k1.trans k2))⟩⟩
noncomputable abbrev TO3:=St3→Hp3→(Option Int→Hp3→Prop)→Prop
def CO (K:PySem.W.Frag) (Z:Zt) (H:Hp) (Q3:Option Int→Hp3→Prop) (Q:Option Int→Hp→Prop):Prop:=∀d S H',Kp Z H H'→Rl K Z S H'→Q3 d S→Q d H'
noncomputable def lO (K:PySem.W.Frag) (Z:Zt) (t:TO3):TO:=fun τ H Q=>∃σ S Q3,SR K H σ τ∧Rl K Z S H∧t σ S Q3∧CO K Z H Q3 Q
def PO3 (X:Cx) (W3:W3T) (e:Option Expr) (t:TO3):Prop:=∀Z:ZX X W3,PO X e (lO X.K Z.z t)
def nopart3:TO3:=fun _ S Q=>Q none S
def part3 (t:TE3):TO3:=fun σ S Q=>t σ S fun x S1=>∃i,x=.int i∧Q (some i) S1
theorem PO.imp {X:Cx} {e:Option Expr} {t u:TO} (h:PO X e t) (f:∀σ H Q,u σ H Q→t σ H Q):PO X e u:=fun pins s σ H Q I q=>h pins s σ H Q I (f _ _ _ q)
theorem zbi:PO3 X W3 none nopart3:=fun Z=>PO.imp zpq fun τ H Q z_18=>by obtain ⟨σ,S,Q3,hs,hr,ht,hc⟩:=z_18;exact hc none S H (Kp.refl _ _) hr ht
theorem za1 (h:PE3 X W3 e ta):PO3 X W3 (some e) (part3 ta):=fun Z=>PO.imp (zpp (h Z)) fun τ H Q z_19=>by
  obtain ⟨σ,S,Q3,hs,hr,ht,hc⟩:=z_19
  refine ⟨σ,S,_,hs,hr,ht,fun x S1 v H1 k1 r1 l1 q1=>?_⟩
  obtain ⟨i,rfl,q⟩:=q1
  cases r1
  exact ⟨i,rfl,hc _ S1 H1 k1 l1 q⟩
def DnS (K:PySem.W.Frag) (r3:D→Option Int→Option Int→Hp3→K3→Prop) (r:V→Option Int→Option Int→Hp→VK→Prop):Prop:=∀(Z:Zt) x lo hi S Q3 v H Q,Rp K H x v→Rl K Z S H→r3 x lo hi S Q3→CK K Z H Q3 Q→r v lo hi H Q
def sl3 (r:D→Option Int→Option Int→Hp3→K3→Prop) (te:TE3) (tl th:TO3):TE3:=fun σ S Q=>te σ S fun x S1=>tl σ S1 fun l S2=>th σ S2 fun u S3=>r x l u S3 Q
theorem zaw {lo hi:Option Expr} {tl th:TO3} {p2:Pos} {s3:D→Option Int→Option Int→Hp3→K3→Prop} {s2:V→Option Int→Option Int→Hp→VK→Prop} (hr:SlR X s2) (hd:DnS X.K s3 s2) (he:PE3 X W3 e ta) (hl:PO3 X W3 lo tl) (hu:PO3 X W3 hi th) :
    PE3 X W3 (.Subscript e (.Slice lo hi none p2) pos) (sl3 s3 ta tl th):=fun Z=>PE.imp (zns hr (he Z) (hl Z) (hu Z)) fun τ H Q z_20=>by obtain ⟨σ,S,Q3,hs,hr,ht,hc⟩:=z_20;exact 
  ⟨σ,S,_,hs,hr,ht,fun x S1 v H1 k1 r1 l1 q1=>⟨σ,S1,_,hs.mono k1,l1,q1,fun l S2 H2 k2 l2 q2=>⟨σ,S2,_,hs.mono (k1.trans k2),l2,q2,fun u S3 H3 k3 l3 q3 =>
    hd Z.z x l u S3 Q3 v H3 Q (r1.mono (k2.trans k3)) l3 q3 (hc.mono (k1.trans (k2.trans k3)))⟩⟩⟩
noncomputable def kD:Key→D
  | .inl i=>.int i
  | .inr x=>.str x
noncomputable def valD (kvs:List (Key×D)) (k:Key):Option D:=(kvs.find? fun kv=>decide (kv.1=k)).map (·.2)
def dget3 (td ty:TE3):TE3:=fun σ S Q=>td σ S fun x S1=>ty σ S1 fun y S2=>∃a kvs k v,x=.ref a∧S2 a=some (.dic kvs)∧y=kD k∧valD kvs k=some v∧Q v S2
theorem zp5 {K:PySem.W.Frag} {H:Hp} {k:Key} {v:V} (r:Rp K H (kD k) v):v=kV k:=by
  cases k with
  | inl i=>cases r;rfl
  | inr x=>cases r;rfl
noncomputable abbrev KR (K:PySem.W.Frag) (H:Hp):=Paired (fun (p:Key×D) (q:Key×V)=>p.1=q.1∧Rp K H p.2 q.2)
theorem KR.val {K:PySem.W.Frag} {H:Hp} {kvs:List (Key×D)} {ws:List (Key×V)} (r:KR K H kvs ws) (k:Key):RO K H (valD kvs k) (valV ws k)∧(valD kvs k).isSome=(valV ws k).isSome:=by
  induction r with
  | nil=>exact ⟨fun d e=>(nomatch e),rfl⟩
  | @cons p q ps qs h t ih =>
    obtain ⟨h1,h2⟩:=h
    by_cases e:p.1=k
    · have e2:q.1=k:=h1▸e
      have a:valD (p::ps) k=some p.2:=by simp [valD,List.find?_cons,e]
      rw [a,ze4 e2]
      exact ⟨fun d z=>by cases z;exact ⟨_,rfl,h2⟩,rfl⟩
    · have e2:¬q.1=k:=h1▸e
      have a:valD (p::ps) k=valD ps k:=by simp [valD,List.find?_cons,e]
      rw [a,ze5 e2]
      exact ih
theorem DGet.down {K:PySem.W.Frag} {Z:Zt} {S:Hp3} {H:Hp} {a:Addr} {kvs:List (Key×D)} {k:Key} {v:V} (l:Rl K Z S H) (e:S a=some (.dic kvs)) (r:Rp K H (kD k) v):∃ws,DGet H a v (valV ws k)∧KR K H kvs ws:=by
  obtain ⟨ws,h1,h2⟩:=l.obj a _ e
  rw [zp5 r]
  exact ⟨ws,DGet.k h1,h2⟩
theorem zmo {i:Expr} {td ty:TE3} (hu:X.A.units+1<cLine) (ho:PE3 X W3 o td) (hi:PE3 X W3 i ty) (hs:NoSl i):PE3 X W3 (.Subscript o i pos) (dget3 td ty):=fun Z=>PE.imp (zpt hu (ho Z) (hi Z) hs) fun τ H Q z_21=>by
  obtain ⟨σ,S,Q3,hs,hr,ht,hc⟩:=z_21
  refine ⟨σ,S,_,hs,hr,ht,fun x S1 v H1 k1 r1 l1 q1=>⟨σ,S1,_,hs.mono k1,l1,q1,fun y S2 w H2 k2 r2 l2 q2=>?_⟩⟩
  obtain ⟨a,kvs,k,d,rfl,e,rfl,ev,q⟩:=q2
  cases r1
  obtain ⟨ws,g,kr⟩:=DGet.down l2 e r2
  obtain ⟨u,eu,ru⟩:=(kr.val k).1 d ev
  rw [eu] at g
  exact ⟨a,u,rfl,g,hc d S2 u H2 (k1.trans k2) ru l2 q⟩
end
end E3
namespace E3
open PySem PySem.Spec PyProof.Rows L2 EE
section
variable {X:Cx} {W3:W3T} {st:Stmt} {rest:List Stmt} {t u:TS3} {e:Expr} {te:TE3} {pos:Pos}
def next3:TS3:=fun D σ S=>D.nx σ S
def seq3 (t u:TS3):TS3:=fun D σ S=>t {D with nx:=u D} σ S
theorem za5:PSs3 X W3 [] next3:=fun Z=>PSs.imp zpl fun D τ H z_1=>by obtain ⟨D3,σ,S,hs,hr,ht,hc⟩:=z_1;exact hc.nx σ S τ H (Kp.refl _ _) hs hr ht
theorem zab (h1:PS3 X W3 st t) (h2:PSs3 X W3 rest u):PSs3 X W3 (st::rest) (seq3 t u):=fun Z=>PSs.imp (znl (h1 Z) (h2 Z)) fun D τ H ⟨D3,σ,S,hs,hr,ht,hc⟩ =>
  ⟨_,σ,S,hs,hr,ht,⟨fun σ' S' τ' H' k r l q=>⟨D3,σ',S',r,l,q,hc.mono k⟩,hc.bk,hc.ct,hc.rt⟩⟩
theorem zak (h1:PS3 X W3 st t):PSs3 X W3 [st] t:=fun Z=>zpk (h1 Z)
def drop3 (te:TE3):TS3:=fun D σ S=>te σ S fun _ S1=>D.nx σ S1
theorem zer (he:PE3 X W3 e te) (hs:swapsWith e none pos.line X.env=pure false:=by rfl):PS3 X W3 (.Expr e pos) (drop3 te):=fun Z=>PS.imp (zpm (he Z) hs) fun D τ H ⟨D3,σ,S,hs,hr,ht,hc⟩ =>
  ⟨σ,S,_,hs,hr,ht,fun d S' v H' k r l q=>hc.nx σ S' τ H' k (hs.mono k) l q⟩
def ret3 (te:TE3):TS3:=fun D σ S=>te σ S D.rt
theorem zau (he:PE3 X W3 e te):PS3 X W3 (.Return (some e) pos) (ret3 te):=fun Z=>PS.imp (ps_ret (he Z)) fun D τ H z_6=>by obtain ⟨D3,σ,S,hs,hr,ht,hc⟩:=z_6;exact ⟨σ,S,_,hs,hr,ht,hc.rt⟩
def ifs3 (c:TT3) (t u:TS3):TS3:=fun D σ S=>c σ S fun b S1=>if b=true then t D σ S1 else u D σ S1
theorem s_if {c:Expr} {a b:List Stmt} {tc:TT3} (hc:PT3 X W3 c tc) (ha:PSs3 X W3 a t) (hb:PSs3 X W3 b u):PS3 X W3 (.If c a b pos) (ifs3 tc t u):=fun Z=>PS.imp (ps_if (hc Z) (ha Z) (hb Z)) fun D τ H z_8=>by
  obtain ⟨D3,σ,S,hs,hr,ht,hc⟩:=z_8
  refine ⟨σ,S,_,hs,hr,ht,fun b S' H' k l q=>?_⟩
  cases b with
  | true=>exact ⟨D3,σ,S',hs.mono k,l,q,hc.mono k⟩
  | false=>exact ⟨D3,σ,S',hs.mono k,l,q,hc.mono k⟩
noncomputable abbrev TG3:=D→St3→Hp3→(St3→Hp3→Prop)→Prop
def lG (K:PySem.W.Frag) (Z:Zt) (t:TG3):TG:=fun v τ H Q=>∃d σ S Q3,Rp K H d v∧SR K H σ τ∧Rl K Z S H∧t d σ S Q3∧CS K Z H Q3 Q
def PG3 (X:Cx) (W3:W3T) (tg:Expr) (t:TG3):Prop:=∀Z:ZX X W3,PG X tg (lG X.K Z.z t)
theorem PG.imp {X:Cx} {e:Expr} {t u:TG} (h:PG X e t) (f:∀v σ H Q,u v σ H Q→t v σ H Q):PG X e u:=fun pins s σ H v w Q I r q=>h pins s σ H v w Q I r (f _ _ _ _ q)
def name3 (i:Nat):TG3:=fun v σ S Q=>Q (σ.set i (some v)) S
theorem zh7 {i:Nat} {x:Str} (hN:X.N.Nodup) (hi:X.N[i]?=some x) (hx:Loc X.env.scope x) (hf:X.fn x=true∨X.env.scope.names.lookup x=some .local:=by first|exact .inl rfl|exact .inr rfl|assumption):PG3 X W3 (.Name x pos) (name3 i) :=
  fun Z=>PG.imp (zlk hN hi hx hf) fun v τ H Q z_11=>by obtain ⟨d,σ,S,Q3,r,hs,hr,ht,hc⟩:=z_11;exact hc _ S _ H (Kp.refl _ _) (hs.set r i) hr ht
def asg3 (te:TE3) (g:TG3):TS3:=fun D σ S=>te σ S fun x S1=>g x σ S1 D.nx
theorem zoq {K:PySem.W.Frag} {Z:Zt} {g:TG3} {D:Ends} {τ:L2.St} {H:Hp} (h:lS K Z (asg3 te g) D τ H):tAsg (lE K Z te) (lG K Z g) D τ H:=by
  obtain ⟨D3,σ,S,hs,hr,ht,hc⟩:=h
  exact ⟨σ,S,_,hs,hr,ht,fun d S' v H' k r l q=>⟨d,σ,S',_,r,hs.mono k,l,q,hc.nx.mono k⟩⟩
theorem s_asg {tg:Expr} {g:TG3} (he:PE3 X W3 e te) (hg:PG3 X W3 tg g) (hs:swapsWithSole [tg] e pos.line X.env=pure false:=by rfl) (hw:swappedStores [tg] e X.env=pure none:=by rfl)
    (h1:(assignEach [tg] X.env).map (·.2)=[assign tg X.env]:=by rfl):PS3 X W3 (.Assign [tg] e pos) (asg3 te g):=fun Z=>PS.imp (ps_asg (he Z) (hg Z) hs hw h1) fun D τ H h=>zoq h
def set3 (i:Nat) (te:TE3):TS3:=fun D σ S=>te σ S fun x S1=>D.nx (σ.set i (some x)) S1
theorem zay {i:Nat} {x:Str} {pos':Pos} (hN:X.N.Nodup) (hi:X.N[i]?=some x) (hx:Loc X.env.scope x) (he:PE3 X W3 e te) (hs:swapsWith e (some (.Name x pos')) pos.line X.env=pure false:=by rfl) (hf:X.fn x=true∨X.env.scope.names.lookup x=some .local:=by first|exact .inl rfl|exact .inr rfl|assumption) :
    PS3 X W3 (.Assign [.Name x pos'] e pos) (set3 i te):=fun Z=>PS.imp (ps_set hN hi hx (he Z) hs hf) fun D τ H z_15=>by obtain ⟨D3,σ,S,hs,hr,ht,hc⟩:=z_15;exact 
  ⟨σ,S,_,hs,hr,ht,fun d S' v H' k r l q=>hc.nx _ S' _ H' k ((hs.mono k).set r i) l q⟩
def setL3 (to ti:TE3):TG3:=fun v σ S Q=>to σ S fun o S1=>ti σ S1 fun i S2=>∃p xs k j,o=.ref p∧i=.int k∧S2 p=some (.lst xs)∧ixN xs.length k=some j∧Q σ (up S2 p (.lst (xs.set j v)))
theorem g_sub {o i:Expr} {to ti:TE3} (ho:PE3 X W3 o to) (hi:PE3 X W3 i ti)
    (ha:∀v,assign (.Subscript o i pos) X.env v=(do
      let ov ←holding [v] (eval o X.env)
      let iv ←holding [v,ov] (eval i X.env)
      standAt pos
      holding [v,ov,iv] (setItem ov iv v)
      release [v,ov,iv] []):=by intro _;rfl):PG3 X W3 (.Subscript o i pos) (setL3 to ti):=fun Z=>PG.imp (pg_sub (ho Z) (hi Z) set_list ha) fun v τ H Q z_16=>by
  obtain ⟨d,σ,S,Q3,r,hs,hr,ht,hc⟩:=z_16
  refine ⟨σ,S,_,hs,hr,ht,fun x1 S1 v1 H1 k1 r1 l1 q1=>⟨σ,S1,_,hs.mono k1,l1,q1,fun x2 S2 v2 H2 k2 r2 l2 q2=>?_⟩⟩
  obtain ⟨p,xs,k,j,rfl,rfl,e,hj,q⟩:=q2
  cases r1
  cases r2
  obtain ⟨vs,h1,h2⟩:=l2.obj p _ e
  have kk:Kp Z.z H2 (upd H2 p (.lst (vs.set j v))):=Kp.at l2 e
  refine ⟨p,vs,k,j,rfl,rfl,h1,by rw [←h2.len];exact hj,?_⟩
  have k12:=k1.trans (k2.trans kk)
  exact hc σ _ τ _ k12 (hs.mono k12) (l2.put (o:=.lst (xs.set j d)) kk (l2.notZ e) ⟨_,za6,(h2.mono kk).set (r.mono k12) j⟩) q
def while3 (c:TT3) (tb:TS3):TS3:=fun D σ S=>∃W:Nat→St3→Hp3→Prop,(∃m,W m σ S)∧∀m σ S,W m σ S →
  c σ S fun b S1=>if b=true then tb {D with nx:=fun σ' S'=>∃m',m'<m∧W m' σ' S',ct:=fun σ' S'=>∃m',m'<m∧W m' σ' S',bk:=D.nx} σ S1 else D.nx σ S1
theorem zgy {c:Expr} {body:List Stmt} {tc:TT3} {tb:TS3} (hp:PassesOwn (model X.prog X.w) X.A X.env X.xe) (hc:PT3 X W3 c tc) (hb:PSs3 X W3 body tb):PS3 X W3 (.While c body [] pos) (while3 tc tb):=fun Z=>PS.imp (znm hp (hc Z) (hb Z)) fun D τ H z_19=>by
  obtain ⟨D3,σ,S,hs,hr,⟨W,⟨m0,w0⟩,turn⟩,hc⟩:=z_19
  refine ⟨fun m τ' H'=>∃σ' S',Kp Z.z H H'∧SR X.K H' σ' τ'∧Rl X.K Z.z S' H'∧W m σ' S',⟨m0,σ,S,Kp.refl _ _,hs,hr,w0⟩,?_⟩
  rintro m τ1 H1 ⟨σ1,S1,k1,s1,l1,w1⟩
  refine ⟨σ1,S1,_,s1,l1,turn m σ1 S1 w1,fun b S2 H2 k2 l2 q2=>?_⟩
  cases b with
  | true =>
    rw [if_pos rfl] at q2 ⊢
    refine ⟨fun τ' H'=>∃m',m'<m∧∃σ' S',Kp Z.z H H'∧SR X.K H' σ' τ'∧Rl X.K Z.z S' H'∧W m' σ' S',fun τ' H' z=>z,_,σ1,S2,s1.mono k2,l2,q2,⟨?_,?_,?_,?_⟩⟩
    · exact fun σ' S' τ' H' k r l z_20=>by obtain ⟨m',hm,w⟩:=z_20;exact ⟨m',hm,σ',S',k1.trans (k2.trans k),r,l,w⟩
    · exact hc.nx.mono (k1.trans k2)
    · exact fun σ' S' τ' H' k r l z_21=>by obtain ⟨m',hm,w⟩:=z_21;exact ⟨m',hm,σ',S',k1.trans (k2.trans k),r,l,w⟩
    · exact hc.rt.mono (k1.trans k2)
  | false =>
    rw [if_neg Bool.false_ne_true] at q2 ⊢
    exact hc.nx σ1 S2 τ1 H2 (k1.trans k2) (s1.mono k2) l2 q2
end
noncomputable abbrev TI3:=St3→Hp3→(List D→(Hp3→Prop)→Hp3→Prop)→Prop
structure Wk (K:PySem.W.Frag) (Z:Zt) (J:It) (ds:List D) (Al:Hp3→Prop) (H0:Hp):Prop where
  go:∀i d S H,Kp Z H0 H→Rl K Z S H→Al S→ds[i]?=some d→J.go i H∧∀v H',J.yld i H v H'→Kp Z H H'∧Rp K H' d v∧(∀S',Rl K Z S' H→Rl K Z S' H')∧∀b,H b≠none→H' b=H b
  stop:∀S H,Kp Z H0 H→Rl K Z S H→Al S→J.stop ds.length H
def lI (K:PySem.W.Frag) (Z:Zt) (t:TI3):TI:=fun τ H R=>∃σ S R3,SR K H σ τ∧Rl K Z S H∧t σ S R3∧∀ds Al S' J H',Kp Z H H'→Rl K Z S' H'→R3 ds Al S'→Wk K Z J ds Al H'→R J H'
def PI3 (X:Cx) (W3:W3T) (tg iter:Expr) (t:TI3):Prop:=∀Z:ZX X W3,PI X tg iter (lI X.K Z.z t)
theorem PI.imp {X:Cx} {tg e:Expr} {t u:TI} (h:PI X tg e t) (f:∀σ H R,u σ H R→t σ H R):PI X tg e u:=fun pins s σ H Q I q=>h pins s σ H Q I (f _ _ _ q)
section
variable {X:Cx} {W3:W3T} {tg l:Expr} {tl:TE3} {pos:Pos}
def iL3 (tl:TE3):TI3:=fun σ S R=>tl σ S fun x S1=>(∃a ds,x=.ref a∧S1 a=some (.lst ds)∧R ds (fun S=>S a=some (.lst ds)) S1)∨∃ds,x=.rol ds∧R ds (fun _=>True) S1
theorem zoz (hl:PE3 X W3 l tl):PI3 X W3 tg l (iL3 tl):=fun Z=>PI.imp (zpr (hl Z)) fun τ H R z_22=>by
  obtain ⟨σ,S,R3,hs,hr,ht,hc⟩:=z_22
  refine ⟨σ,S,_,hs,hr,ht,fun x S1 v H1 k1 r1 l1 q1=>?_⟩
  rcases q1 with ⟨a,ds,rfl,e,q⟩|⟨ds,rfl,q⟩
  · cases r1
    obtain ⟨vs,h1,h2⟩:=l1.obj a _ e
    refine ⟨a,rfl,⟨vs,SqL.of h1⟩,hc ds _ S1 _ H1 k1 l1 q ⟨fun i d S2 H2 k2 l2 al hd=>?_,fun S2 H2 k2 l2 al=>?_⟩⟩
    · obtain ⟨ws,h3,h4⟩:=l2.obj a _ al
      obtain ⟨v,hv,rv⟩:=h4.at hd
      refine ⟨⟨ws,v,SqL.of h3,hv⟩,fun v' H' y=>?_⟩
      obtain ⟨rfl,y⟩:=y
      have:=y ws (SqL.of h3)
      rw [hv] at this
      cases this
      exact ⟨Kp.refl _ _,rv,fun _ z=>z,fun _ _=>rfl⟩
    · obtain ⟨ws,h3,h4⟩:=l2.obj a _ al
      exact ⟨ws,SqL.of h3,by rw [h4.len];exact Nat.le_refl _⟩
  · cases r1 with
    | @rol a vs _ h1 h2 =>
      refine ⟨a,rfl,⟨vs,h1.sq⟩,hc ds _ S1 _ H1 k1 l1 q ⟨fun i d S2 H2 k2 l2 al hd=>?_,fun S2 H2 k2 l2 al=>?_⟩⟩
      · obtain ⟨v,hv,rv⟩:=h2.at hd
        have h3:=(k2.scR h1).sq
        refine ⟨⟨vs,v,h3,hv⟩,fun v' H' y=>?_⟩
        obtain ⟨rfl,y⟩:=y
        have:=y vs h3
        rw [hv] at this
        cases this
        exact ⟨Kp.refl _ _,rv.mono k2,fun _ z=>z,fun _ _=>rfl⟩
      · exact ⟨vs,(k2.scR h1).sq,by rw [h2.len];exact Nat.le_refl _⟩
def iT3 (tl:TE3):TI3:=fun σ S R=>tl σ S fun x S1=>∃ds,x=.tup ds∧R ds (fun _=>True) S1
theorem zmd (hl:PE3 X W3 l tl):PI3 X W3 tg l (iT3 tl):=fun Z=>PI.imp (pi_tup (hl Z)) fun τ H R z_23=>by
  obtain ⟨σ,S,R3,hs,hr,ht,hc⟩:=z_23
  refine ⟨σ,S,_,hs,hr,ht,fun x S1 v H1 k1 r1 l1 q1=>?_⟩
  obtain ⟨ds,rfl,q⟩:=q1
  cases r1 with
  | @tup a vs _ h1 h2 =>
    refine ⟨a,rfl,⟨vs,h1⟩,hc ds _ S1 _ H1 k1 l1 q ⟨fun i d S2 H2 k2 l2 al hd=>?_,fun S2 H2 k2 l2 al=>?_⟩⟩
    · obtain ⟨v,hv,rv⟩:=h2.at hd
      have h3:=k2.sqT h1
      refine ⟨⟨vs,v,h3,hv⟩,fun v' H' y=>?_⟩
      obtain ⟨rfl,y⟩:=y
      have:=y vs h3
      rw [hv] at this
      cases this
      exact ⟨Kp.refl _ _,rv.mono k2,fun _ z=>z,fun _ _=>rfl⟩
    · exact ⟨vs,k2.sqT h1,by rw [h2.len];exact Nat.le_refl _⟩
noncomputable def signs (x:Str):List D:=x.cps.toList.map fun c=>.str ⟨#[c]⟩
def iS3 (tl:TE3):TI3:=fun σ S R=>tl σ S fun x S1=>∃z,x=.str z∧R (signs z) (fun _=>True) S1
theorem i_str (hl:PE3 X W3 l tl):PI3 X W3 tg l (iS3 tl):=fun Z=>PI.imp (pi_str (hl Z)) fun τ H R z_25=>by
  obtain ⟨σ,S,R3,hs,hr,ht,hc⟩:=z_25
  refine ⟨σ,S,_,hs,hr,ht,fun x S1 v H1 k1 r1 l1 q1=>?_⟩
  obtain ⟨z,rfl,q⟩:=q1
  cases r1
  refine ⟨z,rfl,hc _ _ S1 _ H1 k1 l1 q ⟨fun i d S2 H2 k2 l2 al hd=>?_,fun S2 H2 k2 l2 al=>?_⟩⟩
  · unfold signs at hd
    rw [List.getElem?_map] at hd
    cases e:z.cps.toList[i]? with
    | none=>rw [e] at hd;cases hd
    | some c =>
      rw [e] at hd
      cases hd
      have hi:=(List.getElem?_eq_some_iff.mp e).1
      have e':z.cps[i]?=some c:=by simpa using e
      refine ⟨by show i<z.cps.size;simpa using hi,fun v' H' y=>?_⟩
      obtain ⟨rfl,c',hc',rfl⟩:=y
      rw [e'] at hc'
      cases hc'
      exact ⟨Kp.refl _ _,.str _,fun _ z=>z,fun _ _=>rfl⟩
  · show z.cps.size≤(signs z).length
    simp [signs]
noncomputable def nums (lo:Int) (n:Nat):List D:=(List.range n).map fun i:Nat=>.int (lo+(i:Int))
theorem zc1 {lo:Int} {n i:Nat} {d:D} (h:(nums lo n)[i]?=some d):i<n∧d=.int (lo+(i:Int)):=by
  unfold nums at h
  rw [List.getElem?_map] at h
  cases e:(List.range n)[i]? with
  | none=>rw [e] at h;cases h
  | some c =>
    rw [e] at h
    cases h
    obtain ⟨h1,h2⟩:=List.getElem?_eq_some_iff.mp e
    rw [List.getElem_range] at h2
    subst h2
    exact ⟨by simpa using h1,rfl⟩
theorem zbk {lo:Int} {n:Nat}:(nums lo n).length=n:=by simp [nums]
def iR1 (ta:TA3):TI3:=fun σ S R=>ta σ S fun vs S1=>∃j:Int,vs=[.int j]∧-(2^62)≤j∧j<2^62∧R (nums 0 j.toNat) (fun _=>True) S1
theorem wk_rng {K:PySem.W.Frag} {Z:Zt} {lo:Int} {n:Nat} {H:Hp}:Wk K Z (Itr lo n) (nums lo n) (fun _=>True) H:=by
  refine ⟨fun i d S2 H2 k2 l2 al hd=>?_,fun S2 H2 k2 l2 al=>?_⟩
  · obtain ⟨hi,rfl⟩:=zc1 hd
    refine ⟨hi,fun v' H' y=>?_⟩
    obtain ⟨rfl,rfl⟩:=y
    exact ⟨Kp.refl _ _,.int _,fun _ z=>z,fun _ _=>rfl⟩
  · show n≤(nums lo n).length
    rw [zbk]
    exact Nat.le_refl _
theorem zco {a:Expr} {ta:TA3} {p:Pos} (hg:Gl X "range") (hm:X.mg "range"=none) (ha:PA3 X W3 [a] ta) (hs:starEach [a] X.env=[(false,eval a X.env)]:=by rfl):PI3 X W3 tg (.Call (.Name "range" p) [a] [] pos) (iR1 ta) :=
  fun Z=>PI.imp (zlj hg hm (ha Z) hs) fun τ H R z_26=>by
  obtain ⟨σ,S,R3,hs,hr,ht,hc⟩:=z_26
  refine ⟨σ,S,_,hs,hr,ht,fun xs S1 vs0 H1 k1 r1 l1 q1=>?_⟩
  obtain ⟨j,rfl,h1,h2,q⟩:=q1
  cases r1 with
  | cons r1 rr =>
    cases rr
    cases r1
    exact ⟨j,rfl,h1,h2,hc _ _ S1 _ H1 k1 l1 q wk_rng⟩
def for3 (wi:TI3) (g:TG3) (tb:TS3):TS3:=fun D σ S=>wi σ S fun ds Al S1=>∃W:Nat→St3→Hp3→Prop,W 0 σ S1∧(∀i σ S,W i σ S→Al S) ∧
  (∀i d σ S,ds[i]?=some d→W i σ S→g d σ S fun σ2 S2=>tb {D with nx:=W (i+1),ct:=W (i+1),bk:=D.nx} σ2 S2)∧∀σ S,W ds.length σ S→D.nx σ S
theorem znh {iter:Expr} {body:List Stmt} {wi:TI3} {g:TG3} {tb:TS3} (hp:PassesOwn (model X.prog X.w) X.A X.env X.xe) (hc:X.calm=true) (hi:PI3 X W3 tg iter wi) (hg:PG3 X W3 tg g) (hb:PSs3 X W3 body tb)
    (hs:∀x,foldedSetIterable iter X.env x=pure x:=by intro _;rfl):PS3 X W3 (.For tg iter body [] pos) (for3 wi g tb):=fun Z=>PS.imp (ps_for hp hc (hi Z) (hg Z) (hb Z) hs) fun D τ H z_28=>by
  obtain ⟨D3,σ,S,hs,hr,ht,hc⟩:=z_28
  refine ⟨σ,S,_,hs,hr,ht,fun ds Al S1 J H1 k1 l1 q1 wk=>?_⟩
  obtain ⟨W,w0,al,turn,done⟩:=q1
  refine ⟨fun i m τ' H'=>m=ds.length-i∧i≤ds.length∧∃σ' S',Kp Z.z H1 H'∧SR X.K H' σ' τ'∧Rl X.K Z.z S' H'∧W i σ' S',⟨ds.length,by simp,Nat.zero_le _,σ,S1,Kp.refl _ _,hs.mono k1,l1,w0⟩,?_⟩
  rintro i m τ2 H2 ⟨rfl,hi,σ2,S2,k2,s2,l2,w2⟩
  by_cases hlt:i<ds.length
  · have hd:ds[i]?=some ds[i]:=List.getElem?_eq_getElem hlt
    obtain ⟨go,yl⟩:=wk.go i _ S2 H2 k2 l2 (al _ _ _ w2) hd
    refine .inr ⟨go,fun τ' H'=>i<ds.length∧∃σ' S',Kp Z.z H1 H'∧SR X.K H' σ' τ'∧Rl X.K Z.z S' H'∧W (i+1) σ' S',fun τ' H' z=>⟨ds.length-(i+1),by omega,rfl,z.1,z.2⟩,fun v H3 y=>?_⟩
    obtain ⟨k3,rv,l3,_⟩:=yl v H3 y
    refine ⟨_,σ2,S2,_,rv,s2.mono k3,l3 _ l2,turn i _ σ2 S2 hd w2,fun σ4 S4 τ4 H4 k4 s4 l4 q4=>?_⟩
    have k14:=k2.trans (k3.trans k4)
    refine ⟨_,σ4,S4,s4,l4,q4,⟨?_,?_,?_,?_⟩⟩
    · exact fun σ' S' τ' H' k r l w=>⟨hlt,σ',S',k14.trans k,r,l,w⟩
    · exact hc.nx.mono (k1.trans k14)
    · exact fun σ' S' τ' H' k r l w=>⟨hlt,σ',S',k14.trans k,r,l,w⟩
    · exact hc.rt.mono (k1.trans k14)
  · have e:i=ds.length:=by omega
    subst e
    exact .inl ⟨wk.stop S2 H2 k2 l2 (al _ _ _ w2),hc.nx σ2 S2 τ2 H2 (k1.trans k2) s2 l2 (done σ2 S2 w2)⟩
noncomputable def pick3 (σ:St3) (js:List Nat):St3:=js.map fun j=>(σ[j]?).getD none
theorem SR.picks {K:PySem.W.Frag} {H:Hp} {σ:St3} {τ:L2.St} (h:SR K H σ τ) (js:List Nat):SR K H (pick3 σ js) (pick τ js):=by
  unfold pick3 pick
  induction js with
  | nil=>exact .nil
  | cons j js ih =>
    refine .cons (fun d e=>?_) ih
    dsimp only at e ⊢
    cases q:σ[j]? with
    | none=>rw [q] at e;cases e
    | some o =>
      rw [q] at e
      have e:o=some d:=e
      subst e
      obtain ⟨v,h1,h2⟩:=h.at q
      exact ⟨v,by rw [h1];rfl,h2⟩
def comp3 (wi:TI3) (te:TE3) (js:List Nat):TE3:=fun σ S Q=>wi σ S fun ds Al S1=>∃W:Nat→List D→Hp3→Prop,W 0 [] S1∧(∀i ys S,W i ys S→Al S∧ys.length<sizeLine) ∧
  (∀i d ys S,ds[i]?=some d→W i ys S→te (some d::pick3 σ js) S fun y S'=>W (i+1) (ys++[y]) S')∧∀ys S,W ds.length ys S→newL S ys Q
def exZ (K:PySem.W.Frag) (te:TE3):TE:=fun τ H Q=>∃Z:Zt,lE K Z te τ H Q
theorem PE3.ex {X:Cx} {e:Expr} {te:TE3} (h:PE3 X NoX e te):PE X e (exZ X.K te):=fun pins s σ H Q I z_29=>by obtain ⟨Z,q⟩:=z_29;exact h (ZX.no X Z) pins s σ H Q I q
noncomputable abbrev Zt.hide (Z:Zt) (H:Hp) (p:Addr):Zt:=⟨fun a=>Z a∨a=p,H⟩
theorem Rl.hide {K:PySem.W.Frag} {Z:Zt} {S:Hp3} {H:Hp} {p:Addr} (l:Rl K Z S H) (hs:S p=none) (hh:H p≠none):Rl K (Z.hide H p) S H :=
  ⟨l.obj,fun a z=>z.elim (l.hid a) fun e=>e▸⟨hs,hh⟩,Kp.refl _ _⟩
theorem Rl.unhide {K:PySem.W.Frag} {Z Z':Zt} {S:Hp3} {H:Hp} (l:Rl K Z' S H) (h:∀a,Z a→Z' a) (o:Kp Z Z.base H):Rl K Z S H:=⟨l.obj,fun a z=>l.hid a (h a z),o⟩
theorem Kp.unhide {Z Z':Zt} {H H':Hp} (k:Kp Z' H H') (h:∀a,Z a→Z' a):Kp Z H H':=⟨k.tup,k.frz,fun a z=>k.hid a (h a z)⟩
theorem zig {K:PySem.W.Frag} {Z:Zt} {wi:TI3} {te:TE3} {js:List Nat} {τ:L2.St} {H:Hp} {Q:VK} (h:lE K Z (comp3 wi te js) τ H Q):tComp (lI K Z wi) (exZ K te) js τ H Q:=by
  obtain ⟨σ,S,Q3,hs,hr,ht,hc⟩:=h
  refine ⟨σ,S,_,hs,hr,ht,fun ds Al S1 J H1 k1 l1 q1 wk=>?_⟩
  intro p hp
  obtain ⟨W,w0,al,turn,done⟩:=q1
  obtain ⟨hsp,hzp⟩:=l1.fresh hp
  have kp:Kp Z H1 (upd H1 p (.lst [])):=Kp.new hp hzp
  refine ⟨fun i m H'=>m=ds.length-i∧i≤ds.length∧∃ys vs S',Kp Z H1 H'∧H' p=some (.lst vs)∧Rps K H' ys vs∧S' p=none∧Rl K Z S' H'∧W i ys S',⟨ds.length,by simp,Nat.zero_le _,[],[],S1,kp,za6,.nil,hsp,l1.lay hp,w0⟩,?_⟩
  rintro i m H2 ⟨rfl,hi,ys,vs,S2,k2,hp2,ry,hs2,l2,w2⟩
  obtain ⟨al2,hz⟩:=al _ _ _ w2
  by_cases hlt:i<ds.length
  · have hd:ds[i]?=some ds[i]:=List.getElem?_eq_getElem hlt
    obtain ⟨go,yl⟩:=wk.go i _ S2 H2 k2 l2 al2 hd
    refine .inr ⟨go,fun H'=>i<ds.length∧∃ys vs S',Kp Z H1 H'∧H' p=some (.lst vs)∧Rps K H' ys vs∧S' p=none∧Rl K Z S' H'∧W (i+1) ys S',fun H' z=>⟨ds.length-(i+1),by omega,rfl,z.1,z.2⟩,fun v H3 y=>?_⟩
    obtain ⟨k3,rv,l3,o3⟩:=yl v H3 y
    have hp3:H3 p=some (.lst vs):=(o3 p (by rw [hp2];simp)).trans hp2
    refine ⟨Z.hide H3 p,_,S2,_,.cons (fun d e=>by cases e;exact ⟨v,rfl,rv⟩) (((hs.mono (k1.trans (k2.trans k3)))).picks js),(l3 _ l2).hide hs2 (by rw [hp3];simp),turn i _ ys S2 hd w2,?_⟩
    intro d S4 w H4 k4 r4 l4 q4
    have hp4:H4 p=some (.lst vs):=(k4.hid p (.inr rfl)).trans hp3
    have k4':=k4.unhide (Z:=Z) fun a z=>.inl z
    have l4':=l4.unhide (Z:=Z) (fun a z=>.inl z) ((l3 _ l2).old.trans k4')
    have kk:Kp Z H4 (upd H4 p (.lst (vs++[w]))):=by
      refine ⟨fun b xs e=>?_,fun b q u e=>?_,fun b z=>?_⟩
      · rw [zan];exact e
        rintro rfl;rw [hp4] at e;cases e
      · rw [zan];exact e
        rintro rfl;rw [hp4] at e;cases e
      · rw [zan];rintro rfl;exact hzp z
    have sp4:S4 p=none:=(l4.hid p (.inr rfl)).1
    have hlen:ys.length=vs.length:=ry.len
    refine ⟨vs,hp4,by omega,hlt,ys++[d],vs++[w],S4,k2.trans (k3.trans (k4'.trans kk)),za6,((ry.mono (k3.trans (k4'.trans kk)))).append (.cons (r4.mono kk) .nil),sp4,⟨fun b u e=>(l4'.obj b u e).keep kk (zan (ne3 e sp4)),fun b z=>?_,l4'.old.trans kk⟩,q4⟩
    have hb:b≠p:=fun e=>hzp (e▸z)
    rw [zan hb]
    exact l4'.hid b z
  · have e:i=ds.length:=by omega
    subst e
    refine .inl ⟨wk.stop S2 H2 k2 l2 al2,?_⟩
    refine hc (.ref p) (up S2 p (.lst ys)) (.ref p) H2 (k1.trans k2) (.ref p) ⟨fun b u e=>?_,fun b z=>?_,l2.old⟩ (done ys S2 w2 p hs2)
    · by_cases hb:b=p
      · subst hb
        rw [zaf] at e
        cases e
        exact ⟨vs,hp2,ry⟩
      · rw [zb9 hb] at e
        exact l2.obj b u e
    · have hb:b≠p:=fun e=>hzp (e▸z)
      rw [zb9 hb]
      exact l2.hid b z
variable {elt iter:Expr} {x:Str} {px:Pos} {scope osc:Scope} {M N:List Str} {js:List Nat} {wi:TI3} {te:TE3}
theorem zfy (S:CompScope osc x M scope) (hjs:M.map some=js.map fun j=>N[j]?) (hc:X.calm=true) (hi:PI3 X W3 (.Name x px) iter wi)
    (he:∀(C:Addr) (fp:List Addr) (pins:List (Addr×Obj)) (s:Shared) (H:Hp),PE3 (cxComp X scope C (x::M) fp pins s H) NoX elt te)
    (hosc:X.env.scope=osc:=by rfl) (hN:X.N=N:=by rfl) (hs:∀v,foldedSetIterable iter X.env v=pure v:=by intro _;rfl) :
    PE3 X W3 (.ListComp elt [⟨.Name x px,iter,[],0⟩] scope pos) (comp3 wi te js):=fun Z =>
  PE.imp (znx S hjs hc (hi Z) (fun C fp pins s H=>(he C fp pins s H).ex) hosc hN hs) fun _ _ _ h=>zig h
theorem zjq {i:Nat} {y:Str} {py spos:Pos} (S:CompScope osc x M scope) (hjs:M.map some=js.map fun j=>N[j]?) (hc:X.calm=true) (hi:PI3 X W3 (.Name x px) iter wi)
    (he:∀(C:Addr) (fp:List Addr) (pins:List (Addr×Obj)) (s:Shared) (H:Hp),PE3 (cxComp X scope C (x::M) fp pins s H) NoX elt te)
    (hNd:X.N.Nodup) (hy:X.N[i]?=some y) (hl:X.env.scope.names.lookup y=some .local)
    (hosc:X.env.scope=osc:=by rfl) (hN:X.N=N:=by rfl)
    (hsw:swapsWith (.ListComp elt [⟨.Name x px,iter,[],0⟩] scope pos) (some (.Name y py)) spos.line X.env=pure true:=by rfl) (hs:∀v,foldedSetIterable iter X.env v=pure v:=by intro _;rfl) :
    PS3 X W3 (.Assign [.Name y py] (.ListComp elt [⟨.Name x px,iter,[],0⟩] scope pos) spos) (set3 i (comp3 wi te js)):=fun Z =>
  PS.imp (zno S hjs hc (hi Z) (fun C fp pins s H=>(he C fp pins s H).ex) hNd hy hl hosc hN hsw hs) fun D τ H ⟨D3,σ,S,hs,hr,ht,hc⟩ =>
    zig ⟨σ,S,_,hs,hr,ht,fun d S' v H' k r l q=>hc.nx _ S' _ H' k ((hs.mono k).set r i) l q⟩
end
end E3
namespace E3
open PySem PySem.Spec PyProof.Rows L2 EE
section
variable {K:PySem.W.Frag}
def i3 (g:Int→Int→D):R3:=fun x y S Q=>∃i j,x=.int i∧y=.int j∧Q (g i j) S
def ic3 (C:Int→Int→Prop) (g:Int→Int→D):R3:=fun x y S Q=>∃i j,x=.int i∧y=.int j∧C i j∧Q (g i j) S
theorem za2 {g:Int→Int→Int}:Dn2 K (i3 fun i j=>.int (g i j)) (rI0 fun i j=>.int (g i j)):=by
  intro Z x y S Q3 v w H Q rx ry l h c
  obtain ⟨i,j,rfl,rfl,q⟩:=h
  cases rx
  cases ry
  exact ⟨i,j,rfl,rfl,c _ S _ H (Kp.refl _ _) (.int _) l q⟩
theorem zba {g:Int→Int→Bool}:Dn2 K (i3 fun i j=>.bl (g i j)) (rI0 fun i j=>.bl (g i j)):=by
  intro Z x y S Q3 v w H Q rx ry l h c
  obtain ⟨i,j,rfl,rfl,q⟩:=h
  cases rx
  cases ry
  exact ⟨i,j,rfl,rfl,c _ S _ H (Kp.refl _ _) (.bl _) l q⟩
theorem zam {C:Int→Int→Prop} {g:Int→Int→Int}:Dn2 K (ic3 C fun i j=>.int (g i j)) (rI C fun i j=>.int (g i j)):=by
  intro Z x y S Q3 v w H Q rx ry l h c
  obtain ⟨i,j,rfl,rfl,h,q⟩:=h
  cases rx
  cases ry
  exact ⟨i,j,rfl,rfl,h,c _ S _ H (Kp.refl _ _) (.int _) l q⟩
def addS3:R3:=fun x y S Q=>∃i j,x=.str i∧y=.str j∧i.length+j.length≤sizeLine∧Q (.str (i++j)) S
theorem za7:Dn2 K addS3 (fun x y H Q=>∃i j,x=.str i∧y=.str j∧i.length+j.length≤sizeLine∧Q (.str (i++j)) H):=by
  intro Z x y S Q3 v w H Q rx ry l h c
  obtain ⟨i,j,rfl,rfl,h,q⟩:=h
  cases rx
  cases ry
  exact ⟨i,j,rfl,rfl,h,c _ S _ H (Kp.refl _ _) (.str _) l q⟩
noncomputable def isNon:D→Bool
  | .non=>true
  | _=>false
theorem zkl {H:Hp} {x:D} {v:V} (r:Rp K H x v):isNon x=decide (v=.non):=by
  cases r<;>rfl
def isN3:R3:=fun x y S Q=>y=.non∧Q (.bl (isNon x)) S
theorem zic:Dn2 K isN3 (fun x y H Q=>y=.non∧Q (.bl (decide (x=.non))) H):=by
  intro Z x y S Q3 v w H Q rx ry l h c
  obtain ⟨rfl,q⟩:=h
  cases ry
  rw [←zkl rx]
  exact ⟨rfl,c _ S _ H (Kp.refl _ _) (.bl _) l q⟩
def eqI3:R3:=i3 fun i j=>.bl (decide (i=j))
def neI3:R3:=i3 fun i j=>.bl (!decide (i=j))
def eqS3:R3:=fun x y S Q=>∃i j,x=.str i∧y=.str j∧Q (.bl (decide (i=j))) S
def neS3:R3:=fun x y S Q=>∃i j,x=.str i∧y=.str j∧Q (.bl (!decide (i=j))) S
theorem zo6 {i j:Int}:decide (V.int i=V.int j)=decide (i=j):=by rw [zi3];rfl
theorem zo5 {i j:Str}:decide (V.str i=V.str j)=decide (i=j):=by
  by_cases h:i=j
  · subst h;simp
  · have:V.str i≠V.str j:=fun e=>h (V.str.inj e)
    simp [h]
theorem zcf:Dn2 K eqI3 rEq:=by
  intro Z x y S Q3 v w H Q rx ry l h c
  obtain ⟨i,j,rfl,rfl,q⟩:=h
  cases rx
  cases ry
  refine ⟨rfl,?_⟩
  rw [zo6]
  exact c _ S _ H (Kp.refl _ _) (.bl _) l q
theorem zib:Dn2 K neI3 rNe:=by
  intro Z x y S Q3 v w H Q rx ry l h c
  obtain ⟨i,j,rfl,rfl,q⟩:=h
  cases rx
  cases ry
  refine ⟨rfl,?_⟩
  rw [zo6]
  exact c _ S _ H (Kp.refl _ _) (.bl _) l q
theorem zb0:Dn2 K eqS3 rEq:=by
  intro Z x y S Q3 v w H Q rx ry l h c
  obtain ⟨i,j,rfl,rfl,q⟩:=h
  cases rx
  cases ry
  refine ⟨rfl,?_⟩
  rw [zo5]
  exact c _ S _ H (Kp.refl _ _) (.bl _) l q
theorem zey:Dn2 K neS3 rNe:=by
  intro Z x y S Q3 v w H Q rx ry l h c
  obtain ⟨i,j,rfl,rfl,q⟩:=h
  cases rx
  cases ry
  refine ⟨rfl,?_⟩
  rw [zo5]
  exact c _ S _ H (Kp.refl _ _) (.bl _) l q
mutual
inductive Dn (S:Hp3):D→Dt→Prop where
  | non:Dn S .non .non
  | bl (b:Bool):Dn S (.bl b) (.bl b)
  | int (i:Int):Dn S (.int i) (.int i)
  | str (x:Str):Dn S (.str x) (.str x)
  | tup {ds:List D} {es:List Dt}:Dns S ds es→Dn S (.tup ds) (.tup es)
  | rol {ds:List D} {es:List Dt}:Dns S ds es→Dn S (.rol ds) (.lst es)
  | ref {a:Addr} {ds:List D} {es:List Dt}:S a=some (.lst ds)→Dns S ds es→Dn S (.ref a) (.lst es)
inductive Dns (S:Hp3):List D→List Dt→Prop where
  | nil:Dns S [] []
  | cons {d:D} {e:Dt} {ds:List D} {es:List Dt}:Dn S d e→Dns S ds es→Dns S (d::ds) (e::es)
end
mutual
theorem Dn.down {Z:Zt} {S:Hp3} {H:Hp} (l:Rl K Z S H):∀{d:D} {e:Dt} {v:V},Dn S d e→Rp K H d v→DR K H e v
  | _,_,_,.non,r=>by cases r;exact .non
  | _,_,_,.bl _,r=>by cases r;exact .bl _
  | _,_,_,.int _,r=>by cases r;exact .int _
  | _,_,_,.str _,r=>by cases r;exact .str _
  | _,_,_,.tup h,r=>by cases r with|tup p q=>exact .tup p (Dns.down l h q)
  | _,_,_,.rol h,r=>by cases r with|rol p q=>exact .lst p.sq (Dns.down l h q)
  | _,_,_,.ref e h,r=>by
    cases r
    obtain ⟨vs,h1,h2⟩:=l.obj _ _ e
    exact .lst (SqL.of h1) (Dns.down l h h2)
theorem Dns.down {Z:Zt} {S:Hp3} {H:Hp} (l:Rl K Z S H):∀{ds:List D} {es:List Dt} {vs:List V},Dns S ds es→Rps K H ds vs→DRs K H es vs
  | _,_,_,.nil,r=>by cases r;exact .nil
  | _,_,_,.cons h t,r=>by cases r with|cons p q=>exact .cons (Dn.down l h p) (Dns.down l t q)
end
mutual
noncomputable def D.dt:D→Dt
  | .non=>.non
  | .bl b=>.bl b
  | .int i=>.int i
  | .str x=>.str x
  | .tup ds=>.tup (D.dts ds)
  | .rol ds=>.lst (D.dts ds)
  | .ref _=>.non
  | .ty _=>.non
noncomputable def D.dts:List D→List Dt
  | []=>[]
  | d::ds=>d.dt::D.dts ds
end
mutual
noncomputable def D.pure:D→Bool
  | .tup ds=>D.pures ds
  | .rol ds=>D.pures ds
  | .ref _=>false
  | .ty _=>false
  | _=>true
noncomputable def D.pures:List D→Bool
  | []=>true
  | d::ds=>d.pure&&D.pures ds
end
mutual
theorem Dn.of {S:Hp3}:∀{d:D},d.pure=true→Dn S d d.dt
  | .non,_=>.non
  | .bl _,_=>.bl _
  | .int _,_=>.int _
  | .str _,_=>.str _
  | .tup ds,h=>by simp only [D.pure] at h;simp only [D.dt];exact .tup (Dns.of h)
  | .rol ds,h=>by simp only [D.pure] at h;simp only [D.dt];exact .rol (Dns.of h)
  | .ref _,h=>by simp [D.pure] at h
  | .ty _,h=>by simp [D.pure] at h
theorem Dns.of {S:Hp3}:∀{ds:List D},D.pures ds=true→Dns S ds (D.dts ds)
  | [],_=>.nil
  | d::ds,h=>by
    simp only [D.pures,Bool.and_eq_true] at h
    simp only [D.dts]
    exact .cons (Dn.of h.1) (Dns.of h.2)
end
theorem D.pures_iff:∀{ds:List D},D.pures ds=true↔∀d∈ds,d.pure=true
  | []=>by simp [D.pures]
  | d::ds=>by simp [D.pures,D.pures_iff (ds:=ds)]
theorem D.dts_map:∀ds:List D,D.dts ds=ds.map D.dt
  | []=>rfl
  | d::ds=>by simp only [D.dts,List.map_cons,D.dts_map ds]
def eqD3 (n:Nat):R3:=fun x y S Q=>∃d e,Dn S x d∧Dn S y e∧deepD d≤n∧Q (.bl (eqD d e)) S
theorem zmw {n:Nat}:Dn2 K (eqD3 n) (fun x y H Q=>∃d e,DR K H d x∧DR K H e y∧deepD d≤n∧Q (.bl (eqD d e)) H):=by
  intro Z x y S Q3 v w H Q rx ry l h c
  obtain ⟨d,e,h1,h2,hn,q⟩:=h
  exact ⟨d,e,h1.down l rx,h2.down l ry,hn,c _ S _ H (Kp.refl _ _) (.bl _) l q⟩
noncomputable def flatD:D→Bool
  | .non=>true
  | .bl _=>true
  | .int _=>true
  | .str _=>true
  | _=>false
noncomputable def vD:D→V
  | .non=>.non
  | .bl b=>.bl b
  | .int i=>.int i
  | .str x=>.str x
  | _=>.non
theorem zh8 {H:Hp} {x:D} {v:V} (r:Rp K H x v) (h:flatD x=true):v=vD x∧flatV v=true:=by
  cases r<;>first|exact ⟨rfl,rfl⟩|(simp [flatD] at h)
theorem zel {H:Hp}:∀{ds:List D} {vs:List V},Rps K H ds vs→ds.all flatD=true→vs=ds.map vD∧vs.all flatV=true
  | _,_,.nil,_=>⟨rfl,rfl⟩
  | _,_,.cons r t,h=>by
    simp only [List.all_cons,Bool.and_eq_true] at h
    obtain ⟨e1,f1⟩:=zh8 r h.1
    obtain ⟨e2,f2⟩:=zel t h.2
    subst e1
    subst e2
    exact ⟨rfl,by simp only [List.all_cons,f1,f2,Bool.and_self]⟩
noncomputable def memD (x:D) (ds:List D):Bool:=inV (vD x) (ds.map vD)
def in3 (neg:Bool):R3:=fun x y S Q=>∃ds,(IsL S y ds∨y=.tup ds)∧flatD x=true∧ds.all flatD=true∧Q (.bl (if neg then !memD x ds else memD x ds)) S
theorem dn_in {neg:Bool}:Dn2 K (in3 neg) (rIn K neg):=by
  intro Z x y S Q3 v w H Q rx ry l h c
  obtain ⟨ds,hy,fx,fd,q⟩:=h
  obtain ⟨e1,f1⟩:=zh8 rx fx
  subst e1
  rcases hy with hy|rfl
  · obtain ⟨a,vs,rfl,h1,h2⟩:=hy.down ry l
    obtain ⟨e2,f2⟩:=zel h2 fd
    subst e2
    exact ⟨a,_,rfl,.inl h1,f1,f2,c _ S _ H (Kp.refl _ _) (.bl _) l q⟩
  · cases ry with
    | tup h1 h2 =>
      obtain ⟨e2,f2⟩:=zel h2 fd
      subst e2
      exact ⟨_,_,rfl,.inr h1,f1,f2,c _ S _ H (Kp.refl _ _) (.bl _) l q⟩
theorem zlz (x:Str) (xs:List Str):memD (.str x) (xs.map D.str)=decide (x∈xs):=by
  unfold memD inV
  induction xs with
  | nil=>rfl
  | cons y ys ih =>
    simp only [List.map_cons,List.any_cons,List.mem_cons]
    rw [ih]
    by_cases h:y=x
    · subst h;simp [eqV,vD]
    · have h':¬x=y:=fun z=>h z.symm
      simp [eqV,vD,h,h']
theorem zmj (xs:List Str):(xs.map D.str).all flatD=true:=by
  induction xs with
  | nil=>rfl
  | cons y ys ih=>simp only [List.map_cons,List.all_cons,ih];rfl
def ixL3:R3:=fun x y S Q=>∃ds i d,IsL S x ds∧y=.int i∧atI ds i=some d∧Q d S
def ixT3:R3:=fun x y S Q=>∃ds i d,x=.tup ds∧y=.int i∧atI ds i=some d∧Q d S
def ixS3:R3:=fun x y S Q=>∃z i c,x=.str z∧y=.int i∧z.length≤sizeLine∧atI z.cps.toList i=some c∧Q (.str ⟨#[c]⟩) S
theorem Rps.atI {H:Hp} {ds:List D} {vs:List V} {i:Int} {d:D} (r:Rps K H ds vs) (h:L2.atI ds i=some d):∃v,L2.atI vs i=some v∧Rp K H d v:=by
  unfold L2.atI at h ⊢
  rw [r.len] at h
  cases e:ixN vs.length i with
  | none=>rw [e] at h;cases h
  | some j =>
    rw [e] at h
    exact r.at h
theorem zcq:Dn2 K ixL3 (rIxL K):=by
  intro Z x y S Q3 v w H Q rx ry l h c
  obtain ⟨ds,i,d,h1,rfl,h2,q⟩:=h
  cases ry
  obtain ⟨a,vs,rfl,h3,h4⟩:=h1.down rx l
  obtain ⟨u,h5,h6⟩:=h4.atI h2
  exact ⟨a,vs,i,u,rfl,rfl,h3,h5,c d S u H (Kp.refl _ _) h6 l q⟩
theorem zar:Dn2 K ixT3 (rIxT K):=by
  intro Z x y S Q3 v w H Q rx ry l h c
  obtain ⟨ds,i,d,rfl,rfl,h2,q⟩:=h
  cases ry
  cases rx with
  | tup h3 h4 =>
    obtain ⟨u,h5,h6⟩:=h4.atI h2
    exact ⟨_,_,i,u,rfl,rfl,h3,h5,c d S u H (Kp.refl _ _) h6 l q⟩
theorem zdr:Dn2 K ixS3 rIxS:=by
  intro Z x y S Q3 v w H Q rx ry l h c
  obtain ⟨z,i,k,rfl,rfl,hz,h2,q⟩:=h
  cases ry
  cases rx
  exact ⟨z,i,k,rfl,rfl,hz,h2,c _ S _ H (Kp.refl _ _) (.str _) l q⟩
noncomputable def cutD (xs:List D) (lo hi:Option Int):List D:=(xs.drop (HT.sIx xs.length 0 lo)).take (HT.sIx xs.length xs.length hi-HT.sIx xs.length 0 lo)
theorem Rps.cut {H:Hp} {ds:List D} {vs:List V} (r:Rps K H ds vs) (lo hi:Option Int):Rps K H (cutD ds lo hi) (cutV vs lo hi):=by
  unfold cutD cutV
  rw [r.len]
  exact (r.drop _).take _
def slL3:D→Option Int→Option Int→Hp3→K3→Prop:=fun x lo hi S Q=>∃ds,IsL S x ds∧newL S (cutD ds lo hi) Q
def slT3:D→Option Int→Option Int→Hp3→K3→Prop:=fun x lo hi S Q=>∃ds,x=.tup ds∧Q (.tup (cutD ds lo hi)) S
def slS3:D→Option Int→Option Int→Hp3→K3→Prop:=fun x lo hi S Q=>∃z,x=.str z∧z.length≤sizeLine∧Q (.str (textOf (cutT z.cps.toList lo hi))) S
theorem zfz:DnS K slL3 (rSlL K):=by
  intro Z x lo hi S Q3 v H Q rx l h c
  obtain ⟨ds,h1,q⟩:=h
  obtain ⟨a,vs,rfl,h3,h4⟩:=h1.down rx l
  exact ⟨a,vs,rfl,h3,newL.down q (h4.cut lo hi) l c⟩
theorem zbu:DnS K slS3 rSlS:=by
  intro Z x lo hi S Q3 v H Q rx l h c
  obtain ⟨z,rfl,hz,q⟩:=h
  cases rx
  exact ⟨z,rfl,hz,c _ S _ H (Kp.refl _ _) (.str _) l q⟩
def catL3:R3:=fun x y S Q=>∃a b ds es,x=.ref a∧y=.ref b∧S a=some (.lst ds)∧S b=some (.lst es)∧ds.length+es.length≤sizeLine∧newL S (ds++es) Q
theorem zmx:Dn2 K catL3 rCat:=by
  intro Z x y S Q3 v w H Q rx ry l h c
  obtain ⟨a,b,ds,es,rfl,rfl,h1,h2,hz,q⟩:=h
  cases rx
  cases ry
  obtain ⟨vs,h3,h4⟩:=l.obj a _ h1
  obtain ⟨ws,h5,h6⟩:=l.obj b _ h2
  exact ⟨a,b,vs,ws,rfl,rfl,h3,h5,by rw [←h4.len,←h6.len];exact hz,newL.down q (h4.append h6) l c⟩
def catT3:R3:=fun x y S Q=>∃ds es,x=.tup ds∧y=.tup es∧ds≠[]∧ds.length+es.length≤sizeLine∧Q (.tup (ds++es)) S
def len3:List D→Hp3→K3→Prop:=fun xs S Q=>∃x ds,xs=[x]∧(IsL S x ds∨x=.tup ds)∧Q (.int ds.length) S
theorem zcp:DnC K len3 (fun xs H Q=>∃p ys,xs=[.ref p]∧(SqL K H p ys∨SqT K H p ys)∧Q (.int ys.length) H):=by
  intro Z ds S Q3 vs H Q r l h c
  obtain ⟨x,es,rfl,hx,q⟩:=h
  cases r with
  | cons r rr =>
    cases rr
    rcases hx with hx|rfl
    · obtain ⟨a,ws,rfl,h3,h4⟩:=hx.down r l
      refine ⟨a,ws,rfl,.inl h3,?_⟩
      rw [←h4.len]
      exact c _ S _ H (Kp.refl _ _) (.int _) l q
    · cases r with
      | tup h3 h4 =>
        refine ⟨_,_,rfl,.inr h3,?_⟩
        rw [←h4.len]
        exact c _ S _ H (Kp.refl _ _) (.int _) l q
def lenS3:List D→Hp3→K3→Prop:=fun xs S Q=>∃z,xs=[.str z]∧z.length≤sizeLine∧Q (.int z.length) S
theorem zby:DnC K lenS3 (fun xs H Q=>∃z,xs=[.str z]∧z.length≤sizeLine∧Q (.int z.length) H):=by
  intro Z ds S Q3 vs H Q r l h c
  obtain ⟨z,rfl,hz,q⟩:=h
  cases r with
  | cons r rr =>
    cases rr
    cases r
    exact ⟨z,rfl,hz,c _ S _ H (Kp.refl _ _) (.int _) l q⟩
def toTup3:List D→Hp3→K3→Prop:=fun xs S Q=>∃x ds,xs=[x]∧(IsL S x ds∨x=.tup ds)∧Q (.tup ds) S
theorem zc3:DnC K toTup3 (fun xs H Q=>∃p ys,xs=[.ref p]∧((SqL K H p ys∧∀l,H l=none→Q (.ref l) (upd H l (.tup ys)))∨(SqT K H p ys∧Q (.ref p) H))):=by
  intro Z ds S Q3 vs H Q r l h c
  obtain ⟨x,es,rfl,hx,q⟩:=h
  cases r with
  | cons r rr =>
    cases rr
    rcases hx with hx|rfl
    · obtain ⟨a,ws,rfl,h3,h4⟩:=hx.down r l
      exact ⟨a,ws,rfl,.inl ⟨h3,tup.down q h4 l c⟩⟩
    · cases r with
      | tup h3 h4=>exact ⟨_,_,rfl,.inr ⟨h3,c _ S _ H (Kp.refl _ _) (.tup h3 h4) l q⟩⟩
def append3:D→List D→Hp3→K3→Prop:=fun x ys S Q=>∃a ds y,x=.ref a∧ys=[y]∧S a=some (.lst ds)∧ds.length<sizeLine∧Q .non (up S a (.lst (ds++[y])))
theorem zf1:DnM K append3 rAppend:=by
  intro Z x ds S Q3 v vs H Q rx r l h c
  obtain ⟨a,es,y,rfl,rfl,e,hz,q⟩:=h
  cases rx
  cases r with
  | @cons _ w _ _ r rr =>
    cases rr
    obtain ⟨ws,h1,h2⟩:=l.obj a _ e
    have kk:Kp Z H (upd H a (.lst (ws++[w]))):=Kp.at l e
    exact ⟨a,ws,w,rfl,rfl,h1,by rw [←h2.len];exact hz,c _ _ _ _ kk .non (l.put (o:=.lst (es++[y])) kk (l.notZ e) ⟨_,za6,(h2.mono kk).append (.cons (r.mono kk) .nil)⟩) q⟩
def join3:D→List D→Hp3→K3→Prop:=fun x ys S Q=>∃sep y xs,x=.str sep∧ys=[y]∧IsL S y (xs.map D.str)∧(xs.map (·.length)).sum+xs.length*sep.length≤16777216∧Q (.str (Txt.join sep xs)) S
theorem zms:DnM K join3 (rJoin K):=by
  intro Z x ds S Q3 v vs H Q rx r l h c
  obtain ⟨sep,y,xs,rfl,rfl,e,hz,q⟩:=h
  cases rx
  cases r with
  | cons r rr =>
    cases rr
    obtain ⟨a,ws,rfl,h3,h4⟩:=e.down r l
    have:=h4.strs
    subst this
    exact ⟨sep,a,xs,rfl,rfl,h3,hz,c _ S _ H (Kp.refl _ _) (.str _) l q⟩
end
end E3
namespace E3
open PySem PySem.Spec PyProof.Rows L2 EE
section
variable {prog:Program} {w:World} {A:Around} {E:Value→Shared→Prop} {s:Shared}
theorem zej {t sl:Addr} {items:Array Value} {vl vu:Value} {lo hi:Option Int} {Q:Value→Shared→Prop} (ht:IsTup s.heap t items) (hs:s.heap.IsSliceOf sl vl vu .none) (pl:IsPart vl lo) (pu:IsPart vu hi)
    (hw:HT.sIx items.size 0 lo=0∧HT.sIx items.size items.size hi=items.size) (h:Q (.ref t) s):wpAny (model prog w) A (getItem (.ref t) (.ref sl)) Q E s:=by
  obtain ⟨os,hos,hcs,hds⟩:=id hs
  have hTs:s.TypeIs (.ref sl) "slice":=⟨os,hos,hcs⟩
  obtain ⟨o,ho,hc,hd⟩:=id ht
  unfold getItem
  try with_reducible refine wpAny_holding ?_
  first|refine wpAny_bind (wpAny_pure ?_)|skip
  refine wpAny_bind (wpAny_sequenceKey ht.typeIs (by decide) ?_)
  refine wpAny_bind (wpAny_callSpecial?_slot (name:=Str.ofString "__getitem__") ht.typeIs PyProof.Rows.slot_tuple_getitem
    (wpAny_call_entry PyProof.Rows.slot_tuple_getitem ht.typeIs entry_tuple_getitem ?_ (args_tuple_getitem _ _)))
  show wpAny _ _ (Builtin.Tuple.tupleItemsOf (.ref t) >>= _) _ _ s
  refine wpAny_bind (tupleItemsOf_ ht ?_)
  refine wpAny_bind (wpAny_typeOf hTs ?_)
  rw [if_pos (by decide)]
  refine wpAny_bind (HT.zc6 hs pl pu ?_)
  have hyes:(((HT.sIx items.size 0 lo:Nat):Int)==0&&(1:Int)==1&&(HT.sIx items.size items.size hi-HT.sIx items.size 0 lo)==items.size)=true:=by
    rw [hw.1,hw.2]
    simp
  show wpAny _ _ (if (((HT.sIx items.size 0 lo:Nat):Int)==0&&(1:Int)==1&&(HT.sIx items.size items.size hi-HT.sIx items.size 0 lo)==items.size)=true then _ else _) _ _ s
  rw [if_pos hyes]
  refine wpAny_bind (m:=Builtin.Tuple.tupleIsExact (Value.ref t)) ?_
  unfold Builtin.Tuple.tupleIsExact
  first
    | refine wpAny_bind (wpAny_typeOf ht.typeIs (wpAny_pure ?_))
    | exact wpAny_bind (wpAny_typeOf ht.typeIs (wpAny_pure ?_))
  rw [if_pos (by decide)]
  exact wpAny_bind (wpAny_rule (wpAny_pure ⟨_,rfl,wpAny_pure h⟩))
end
section
variable {X:Cx}
def rSlTA (K:PySem.W.Frag):V→Option Int→Option Int→Hp→VK→Prop:=fun x lo hi H Q=>∃a xs,x=.ref a∧SqT K H a xs ∧
  ((HT.sIx xs.length 0 lo=0∧HT.sIx xs.length xs.length hi=xs.length)→Q (.ref a) H)∧(¬(HT.sIx xs.length 0 lo=0∧HT.sIx xs.length xs.length hi=xs.length)→∀p,H p=none→Q (.ref p) (upd H p (.tup (cutV xs lo hi))))
theorem zk6:SlR X (rSlTA X.K):=by
  intro pins s σ H x v vl vu lo hi sl Q I rx hs pl pu h
  obtain ⟨a,xs,rfl,hx,h1,h2⟩:=h
  by_cases hw:HT.sIx xs.length 0 lo=0∧HT.sIx xs.length xs.length hi=xs.length
  · cases rx
    obtain ⟨its,r,ht,hz⟩:=I.tuple hx
    have hlen:its.toArray.size=xs.length:=by rw [List.size_toArray];exact r.length.symm
    refine ⟨"tuple",_,PyProof.Rows.slot_tuple_getitem.lookup,ht.typeIs,?_⟩
    refine zej ht hs pl pu (by rw [hlen];exact hw) ?_
    exact ⟨.ref a,H,I,rfl,h1 hw⟩
  · exact sl_tup pins s σ H _ v vl vu lo hi sl Q I rx hs pl pu ⟨a,xs,rfl,hx,hw,h2 hw⟩
theorem zon {xs:List D} {lo hi:Option Int} (h:HT.sIx xs.length 0 lo=0∧HT.sIx xs.length xs.length hi=xs.length):cutD xs lo hi=xs:=by
  unfold cutD
  rw [h.1,h.2,List.drop_zero,Nat.sub_zero,List.take_length]
theorem zo2 {K:PySem.W.Frag}:DnS K slT3 (rSlTA K):=by
  intro Z x lo hi S Q3 v H Q rx l h c
  obtain ⟨ds,rfl,q⟩:=h
  cases rx with
  | @tup a vs _ h3 h4 =>
    refine ⟨a,vs,rfl,h3,fun e=>?_,fun _=>tup.down q (h4.cut lo hi) l c⟩
    rw [←h4.len] at e
    rw [zon e] at q
    exact c _ S _ H (Kp.refl _ _) (.tup h3 h4) l q
theorem zf0 {K:PySem.W.Frag}:Dn2 K catT3 (rCatT K):=by
  intro Z x y S Q3 v w H Q rx ry l h c
  obtain ⟨ds,es,rfl,rfl,hn,hz,q⟩:=h
  cases rx with
  | @tup a vs _ h1 h2 =>
    cases ry with
    | @tup b ws _ h3 h4 =>
      refine ⟨a,b,vs,ws,rfl,rfl,h1,h3,?_,by rw [←h2.len,←h4.len];exact hz,fun e=>?_,fun _=>tup.down q (h2.append h4) l c⟩
      · rintro rfl
        cases h2
        exact hn rfl
      · subst e
        cases h4
        rw [List.append_nil] at q
        exact c _ S _ H (Kp.refl _ _) (.tup h1 h2) l q
def TyN (S:Hp3):D→String→Prop
  | .non,n=>n="NoneType"
  | .bl _,n=>n="bool"
  | .int _,n=>n="int"
  | .str _,n=>n="str"
  | .tup _,n=>n="tuple"
  | .rol _,n=>n="list"
  | .ref a,n=>(n="list"∧∃ds,S a=some (.lst ds))∨(n="dict"∧∃kvs,S a=some (.dic kvs))
  | .ty _,_=>False
inductive TyB (K:PySem.W.Frag) (H:Hp):V→String→Prop where
  | of {x:V} {n:String}:TyOf K H x (.type n)→TyB K H x n
  | tup {a:Addr} {xs:List V}:SqT K H a xs→TyB K H (.ref a) "tuple"
  | lst {a:Addr} {xs:List V}:SqL K H a xs→TyB K H (.ref a) "list"
theorem zci:CallR X (.builtin "isinstance") (fun xs H Q=>∃x n m b,xs=[x,.ty n]∧TyB X.K H x m∧PySem.W.kitOne X.K (.type m) (.type n)=some b∧Q (.bl b) H):=by
  intro pins s σ H xs us Q I r h
  obtain ⟨x,n,m,b,rfl,ty,e,q⟩:=h
  obtain ⟨u,c,rfl,rx,rc⟩:=vals2 r
  obtain rfl:c=Value.type n:=rc
  cases ty with
  | of t=>exact zl8 I rx t e fun tk=>⟨.bl b,H,I.tok _,rfl,q⟩
  | @tup a xs ht =>
    cases (show u=Value.ref a from rx)
    obtain ⟨_,_,⟨o,h1,h2,_⟩,_⟩:=I.tuple ht
    exact PySem.W.kia_one PySem.W.kitx_tuple I.kIn ⟨o,h1,h2⟩ e (fun z=>nomatch z) fun tk=>⟨.bl b,H,I.tok _,rfl,q⟩
  | @lst a xs ht =>
    cases (show u=Value.ref a from rx)
    obtain ⟨_,_,⟨o,n,h1,h2,_⟩,_⟩:=I.list ht
    exact PySem.W.kia_one PySem.W.kitx_list I.kIn ⟨o,h1,h2⟩ e (fun z=>nomatch z) fun tk=>⟨.bl b,H,I.tok _,rfl,q⟩
theorem TyN.down {K:PySem.W.Frag} {Z:Zt} {S:Hp3} {H:Hp} {x:D} {v:V} {n:String} (h:TyN S x n) (r:Rp K H x v) (l:Rl K Z S H):TyB K H v n:=by
  cases r with
  | non=>cases h;exact .of .non
  | bl b=>cases h;exact .of (.bl b)
  | int i=>cases h;exact .of (.int i)
  | str x=>cases h;exact .of (.str x)
  | tup h1 h2=>cases h;exact .tup h1
  | rol h1 h2=>cases h;exact .lst h1.sq
  | ty n=>exact h.elim
  | ref a =>
    rcases h with ⟨rfl,ds,e⟩|⟨rfl,kvs,e⟩
    · obtain ⟨vs,h1,_⟩:=l.obj a _ e
      exact .lst (SqL.of h1)
    · obtain ⟨vs,h1,_⟩:=l.obj a _ e
      exact .of (.dK h1)
noncomputable def kin (m n:String):Option Bool:=if m=n then some true else if m="bool"∧n="int" then some true else
  if m∈["NoneType","bool","int","str","tuple","list","dict"]∧n∈["bool","int","str","tuple","list","dict"] then some false else none
theorem kin_ok {K:PySem.W.Frag} {m n:String} {b:Bool} (h:kin m n=some b):PySem.W.kitOne K (.type m) (.type n)=some b:=by
  by_cases e:m=n
  · subst e
    rw [kin,if_pos rfl] at h
    cases h
    exact zof K m
  rw [kin,if_neg e] at h
  by_cases e2:m="bool"∧n="int"
  · rw [if_pos e2] at h
    cases h
    obtain ⟨rfl,rfl⟩:=e2
    unfold PySem.W.kitOne PySem.W.kitCls PySem.W.subIn
    dsimp only
    decide +kernel
  rw [if_neg e2] at h
  by_cases e3:m∈["NoneType","bool","int","str","tuple","list","dict"]∧n∈["bool","int","str","tuple","list","dict"]
  · rw [if_pos e3] at h
    cases h
    obtain ⟨h1,h2⟩:=e3
    simp only [List.mem_cons,List.not_mem_nil,or_false] at h1 h2
    unfold PySem.W.kitOne PySem.W.kitCls PySem.W.subIn
    dsimp only
    rcases h1 with rfl|rfl|rfl|rfl|rfl|rfl|rfl<;>rcases h2 with rfl|rfl|rfl|rfl|rfl|rfl<;>first|exact absurd rfl e|exact absurd ⟨rfl,rfl⟩ e2|decide +kernel
  · rw [if_neg e3] at h
    cases h
def isB3:List D→Hp3→K3→Prop:=fun xs S Q=>∃x n m b,xs=[x,.ty n]∧TyN S x m∧kin m n=some b∧Q (.bl b) S
theorem zea {K:PySem.W.Frag}:DnC K isB3 (fun xs H Q=>∃x n m b,xs=[x,.ty n]∧TyB K H x m∧PySem.W.kitOne K (.type m) (.type n)=some b∧Q (.bl b) H):=by
  intro Z ds S Q3 vs H Q r l h c
  obtain ⟨x,n,m,b,rfl,ty,e,q⟩:=h
  cases r with
  | cons r rr =>
    cases rr with
    | cons r2 rr =>
      cases rr
      cases r2
      exact ⟨_,n,m,b,rfl,ty.down r l,kin_ok e,c _ S _ H (Kp.refl _ _) (.bl _) l q⟩
end
noncomputable abbrev Sp3:=List D→Hp3→K3→X3→Prop
inductive lSp (K:PySem.W.Frag) (sp:Sp3) (vs:List V) (H:Hp) (Q:VK) (E:XK):Prop where
  | mk (Z:Zt) (ds:List D) (S:Hp3) (Q3:K3) (E3:X3) (h1:Rps K H ds vs) (h2:Rl K Z S H) (h3:sp ds S Q3 E3) (h4:CK K Z H Q3 Q) (h5:CE3 K Z H E3 E)
structure Cal3 (P:Program) (w:World) (K:PySem.W.Frag) (mg:Str→Option Value) (base:Heap) (k:Nat) (x:Str) (ps:List Str) (sp:Sp3):Prop where
  ex:∃f fd,FnOk P w K mg base (CX1 P w) k f fd ps (lSp K sp)∧Binds K fd ps []∧PySem.W.keepIn K (.ref f)=true∧mg x=some (.ref f)
noncomputable def start3 (N:List Str) (ds:List D):St3:=ds.map some++List.replicate (N.length-ds.length) none
section
variable {P:Program} {w:World} {K:PySem.W.Frag} {mg:Str→Option Value} {base:Heap}
theorem Cal3.mono {j k:Nat} {x:Str} {ps:List Str} {sp:Sp3} (C:Cal3 P w K mg base j x ps sp) (h:j≤k):Cal3 P w K mg base k x ps sp:=by
  obtain ⟨f,fd,F,r⟩:=C.ex
  exact ⟨f,fd,F.mono h,r⟩
theorem Cal3.imp {k:Nat} {x:Str} {ps:List Str} {sp sp':Sp3} (C:Cal3 P w K mg base k x ps sp) (h:∀ds S Q E,sp' ds S Q E→sp ds S Q E):Cal3 P w K mg base k x ps sp':=by
  obtain ⟨f,fd,F,r⟩:=C.ex
  refine ⟨f,fd,F.imp fun vs H Q E z_1=>by obtain ⟨Z,ds,S,Q3,E3,h1,h2,h3,h4,h5⟩:=z_1;exact ⟨Z,ds,S,Q3,E3,h1,h2,h _ _ _ _ h3,h4,h5⟩,r⟩
def Spl (S A B:Hp3):Prop:=∀a,(S a=A a∧B a=none)∨(A a=none∧S a=B a)
def Sub (A B:Hp3):Prop:=∀a o,A a=some o→B a=some o
def fr (sp:Sp3):Sp3:=fun ds S Q E=>∃S0 F,Spl S S0 F∧sp ds S0 (fun d S1=>∃S2,Sub S2 S1∧∀S',Spl S' S2 F→Q d S') (fun C a S1=>∃S2,Sub S2 S1∧∀S',Spl S' S2 F→E C a S')
theorem Rl.sub {Z:Zt} {S S':Hp3} {H:Hp} (l:Rl K Z S H) (h:Sub S' S):Rl K Z S' H:=by
  refine ⟨fun a o e=>l.obj a o (h a o e),fun a z=>⟨?_,(l.hid a z).2⟩,l.old⟩
  cases e:S' a with
  | none=>rfl
  | some o =>
    have:=h a o e
    rw [(l.hid a z).1] at this
    cases this
noncomputable def join (A B:Hp3):Hp3:=fun a=>match A a with
  | some o=>some o
  | none=>B a
noncomputable abbrev Zt.with (Z:Zt) (H:Hp) (F:Hp3):Zt:=⟨fun a=>Z a∨F a≠none,H⟩
theorem Rl.frame {Z:Zt} {S S0 F S1 S2:Hp3} {H H':Hp} (l:Rl K Z S H) (hs:Spl S S0 F) (k:Kp (Z.with H F) H H') (l1:Rl K (Z.with H F) S1 H') (h2:Sub S2 S1) :
    Spl (join S2 F) S2 F∧Rl K Z (join S2 F) H':=by
  have l2:=l1.sub h2
  have dis:∀a,F a≠none→S2 a=none:=fun a z=>(l2.hid a (.inr z)).1
  refine ⟨fun a=>?_,fun a o e=>?_,fun a z=>?_,l.old.trans (k.unhide fun a z=>.inl z)⟩
  · cases e:F a with
    | none =>
      refine .inl ⟨?_,rfl⟩
      unfold join
      cases e2:S2 a with
      | none=>exact e
      | some o=>rfl
    | some o =>
      have:=dis a (by rw [e];simp)
      refine .inr ⟨this,?_⟩
      unfold join
      rw [this]
      exact e
  · unfold join at e
    cases e2:S2 a with
    | some q =>
      rw [e2] at e
      cases e
      exact l2.obj a _ e2
    | none =>
      rw [e2] at e
      have e:F a=some o:=e
      have hne:F a≠none:=by rw [e];simp
      have hS:S a=some o:=by
        rcases hs a with ⟨_,z⟩|⟨_,z⟩
        · exact absurd z hne
        · rw [z];exact e
      exact (l.obj a o hS).keep k (k.hid a (.inr hne))
  · have z1:=l2.hid a (.inl z)
    have z2:=(l.hid a z).1
    refine ⟨?_,z1.2⟩
    unfold join
    rw [z1.1]
    show F a=none
    rcases hs a with ⟨_,q⟩|⟨_,q⟩
    · exact q
    · rw [←q];exact z2
theorem Cal3.frame {k:Nat} {x:Str} {ps:List Str} {sp:Sp3} (C:Cal3 P w K mg base k x ps sp):Cal3 P w K mg base k x ps (fr sp):=by
  obtain ⟨f,fd,F0,r⟩:=C.ex
  refine ⟨f,fd,F0.imp fun vs H Q E ⟨Z,ds,S,Q3,E3,h1,l,⟨S0,F,hs,h3⟩,cq,ce⟩=>?_,r⟩
  refine ⟨Z.with H F,ds,S0,_,_,h1,⟨fun a o e=>?_,fun a z=>?_,Kp.refl _ _⟩,h3,?_,?_⟩
  · refine l.obj a o ?_
    rcases hs a with ⟨q,_⟩|⟨q,_⟩
    · rw [q];exact e
    · rw [q] at e;cases e
  · rcases z with z|z
    · have z2:=l.hid a z
      refine ⟨?_,z2.2⟩
      rcases hs a with ⟨q,_⟩|⟨q,_⟩
      · rw [←q];exact z2.1
      · exact q
    · rcases hs a with ⟨_,q⟩|⟨q,q2⟩
      · exact absurd q z
      · refine ⟨q,?_⟩
        cases e:F a with
        | none=>exact absurd e z
        | some o=>exact (l.obj a o (q2.trans e)).there
  · rintro d S1 v H' k1 r1 l1 ⟨S2,hsub,q⟩
    obtain ⟨sp',l'⟩:=l.frame hs k1 l1 hsub
    exact cq d _ v H' (k1.unhide fun a z=>.inl z) r1 l' (q _ sp')
  · rintro C a S1 H' k1 l1 ha ⟨S2,hsub,q⟩
    obtain ⟨sp',l'⟩:=l.frame hs k1 l1 hsub
    exact ce C a _ H' (k1.unhide fun a z=>.inl z) l' ha (q _ sp')
theorem zgt (S:Hp3):Spl S emp S:=fun _=>.inr ⟨rfl,rfl⟩
theorem zdf {S F:Hp3} (h:Spl S emp F):S=F:=by
  funext a
  rcases h a with ⟨q,z⟩|⟨_,q⟩
  · rw [q,z];rfl
  · exact q
theorem zgr (S:Hp3):Sub emp S:=fun a o e=>(nomatch e)
noncomputable def one (p:Addr) (o:O):Hp3:=fun a=>if a=p then some o else none
theorem zpc {S F:Hp3} {p:Addr} {o:O} (h:Spl S (one p o) F):F p=none∧S=up F p o:=by
  have hp:F p=none:=by
    rcases h p with ⟨_,z⟩|⟨q,_⟩
    · exact z
    · simp [one] at q
  refine ⟨hp,funext fun a=>?_⟩
  by_cases e:a=p
  · subst e
    rw [zaf]
    rcases h a with ⟨q,_⟩|⟨q,_⟩
    · rw [q];simp [one]
    · simp [one] at q
  · rw [zb9 e]
    rcases h a with ⟨q,z⟩|⟨_,q⟩
    · rw [q,z];simp [one,e]
    · exact q
theorem sub_one {S:Hp3} {p:Addr} {o:O} (h:S p=some o):Sub (one p o) S:=fun a u e=>by
  unfold one at e
  split at e
  · subst a;cases e;exact h
  · cases e
def vS (A:List D→(D→Prop)→Prop):Sp3:=fun ds S Q _=>A ds fun d=>Q d S
def lSt (A:List D→(List D→Prop)→Prop):Sp3:=fun ds S Q _=>A ds fun ys=>newL S ys Q
variable {x:Str} {st:Stmt} {N ps:List Str} {k:Nat}
noncomputable abbrev Zt.at (Z:Zt) (H:Hp):Zt:=⟨Z.p,H⟩
theorem Rl.into {Z:Zt} {S:Hp3} {H:Hp} (l:Rl K Z S H):Rl K (Z.at H) S H:=⟨l.obj,l.hid,Kp.refl _ _⟩
theorem Rl.out {Z:Zt} {S S':Hp3} {H H':Hp} (l':Rl K (Z.at H) S' H') (l:Rl K Z S H) (k:Kp (Z.at H) H H'):Rl K Z S' H':=⟨l'.obj,l'.hid,l.old.trans (k.unhide fun _ z=>z)⟩
noncomputable def zx0 {X:Cx} (Z:Zt) (H:Hp):ZX X NoX:=ZX.no X (Z.at H)
theorem _root_.EE.Has.cal3 {sp:Sp3} (h:Has K mg x st ps) (S:FnScope N ps (defScope st)) (len:∀vs H Q E,sp vs H Q E→vs.length=ps.length)
    (hbody:∀(f:Addr) (cdv:Value) (A:Around) (outer:List Env) (s:Shared) (H:Hp) (E:XK) (ds:List D) (S:Hp3) (Q:K3) (E3:X3),Room k (A.deeper (envOfC x (defScope st) s.heap.objs.size f cdv))→sp ds S Q E3 →
      ∃t Q',PSs3 (cxOf (CX1 P w) P w K mg base N x (defScope st) f cdv A outer s H E).nox NoX (defBody st) t∧t {nx:=fun _ S'=>Q' .non S',rt:=Q'} (start3 N ds) S∧∀d S',Q' d S'→Q d S'):Cal3 P w K mg base (k+1) x ps sp:=by
  obtain ⟨f,fd,F,b,m⟩:=h.ex
  obtain ⟨oc,od,kV,doc,pm,an,cdv,ct,osl,rfl,lk,hcd⟩:=F.ex
  refine ⟨f,_,zmi lk hcd S (fun vs H Q E z_2=>by obtain ⟨Z,ds,S,Q3,E3,h1,_,h3,_,_⟩:=z_2;rw [←h1.len];exact len _ _ _ _ h3) fun A outer s H vs Q E hr ⟨Z,ds,S3,Q3,E3,h1,h2,h3,h4,_⟩=>?_,b,F.kp,m⟩
  obtain ⟨t,Q',ht,q,hw⟩:=hbody f cdv A outer s H E ds S3 Q3 E3 hr h3
  refine ⟨_,(ht (zx0 Z H)).nox,_,start3 N ds,S3,?_,h2.into,q,⟨?_,?_,?_,?_⟩⟩
  · unfold start3 L2.start
    rw [h1.len]
    exact zbe (SR.ofRps h1) (SR.nones _)
  · intro σ S' τ H' kk _ l q'
    exact h4 .non S' .non H' (kk.unhide fun _ z=>z) .non (l.out h2 kk) (hw _ _ q')
  · exact fun _ _ _ _ _ _ _ z=>z
  · exact fun _ _ _ _ _ _ _ z=>z
  · exact fun d S' v H' kk r l q'=>h4 d S' v H' (kk.unhide fun _ z=>z) r (l.out h2 kk) (hw _ _ q')
theorem _root_.EE.Has.val {A:List D→(D→Prop)→Prop} (h:Has K mg x st ps) (S:FnScope N ps (defScope st)) (len:∀ds q,A ds q→ds.length=ps.length)
    (hbody:∀(f:Addr) (cdv:Value) (Ar:Around) (outer:List Env) (s:Shared) (H:Hp) (E:XK) (ds:List D) (q:D→Prop),Room k (Ar.deeper (envOfC x (defScope st) s.heap.objs.size f cdv))→A ds q →
      ∃t,PSs3 (cxOf (CX1 P w) P w K mg base N x (defScope st) f cdv Ar outer s H E).nox NoX (defBody st) t∧t {nx:=fun _ _=>q .non,rt:=fun d _=>q d} (start3 N ds) emp):Cal3 P w K mg base (k+1) x ps (vS A):=by
  have C:Cal3 P w K mg base (k+1) x ps (fun ds S Q E=>S=emp∧∃q,A ds q∧∀d S',q d→Q d S'):=by
    refine h.cal3 S (fun vs H Q E z_3=>by obtain ⟨_,q,z,_⟩:=z_3;exact len _ _ z) fun f cdv Ar outer s H E ds S3 Q E3 hr z=>?_
    obtain ⟨rfl,q,z,hq⟩:=z
    obtain ⟨t,h1,h2⟩:=hbody f cdv Ar outer s H E ds _ hr z
    exact ⟨t,fun d _=>q d,h1,h2,hq⟩
  exact C.frame.imp fun ds S Q E z=>⟨emp,S,zgt S,rfl,_,z,fun d S1 hq=>⟨emp,zgr _,fun S' h=>zdf h▸hq⟩⟩
theorem _root_.EE.Has.lst {A:List D→(List D→Prop)→Prop} (h:Has K mg x st ps) (S:FnScope N ps (defScope st)) (len:∀ds q,A ds q→ds.length=ps.length)
    (hbody:∀(f:Addr) (cdv:Value) (Ar:Around) (outer:List Env) (s:Shared) (H:Hp) (E:XK) (ds:List D) (q:List D→Prop),Room k (Ar.deeper (envOfC x (defScope st) s.heap.objs.size f cdv))→A ds q →
      ∃t,PSs3 (cxOf (CX1 P w) P w K mg base N x (defScope st) f cdv Ar outer s H E).nox NoX (defBody st) t∧t {nx:=fun _ _=>False,rt:=fun d S'=>∃p ys,d=.ref p∧S' p=some (.lst ys)∧q ys} (start3 N ds) emp):Cal3 P w K mg base (k+1) x ps (lSt A):=by
  have C:Cal3 P w K mg base (k+1) x ps (fun ds S Q E=>S=emp∧∃q,A ds q∧∀d S',(∃p ys,d=.ref p∧S' p=some (.lst ys)∧q ys)→Q d S'):=by
    refine h.cal3 S (fun vs H Q E z_4=>by obtain ⟨_,q,z,_⟩:=z_4;exact len _ _ z) fun f cdv Ar outer s H E ds S3 Q E3 hr z=>?_
    obtain ⟨rfl,q,z,hq⟩:=z
    obtain ⟨t,h1,h2⟩:=hbody f cdv Ar outer s H E ds _ hr z
    refine ⟨t,fun d S'=>∃p ys,d=.ref p∧S' p=some (.lst ys)∧q ys,h1,?_,hq⟩
    have e:(fun (_:St3) (_:Hp3)=>False)=fun (_:St3) (S':Hp3)=>∃p ys,D.non=.ref p∧S' p=some (.lst ys)∧q ys:=by
      funext _ S'
      refine propext ⟨False.elim,fun z=>?_⟩
      obtain ⟨p,ys,z,_⟩:=z
      cases z
    rw [←e]
    exact h2
  refine C.frame.imp fun ds S Q E z=>⟨emp,S,zgt S,rfl,_,z,fun d S1 ⟨p,ys,e,hp,hq⟩=>⟨one p (.lst ys),sub_one hp,fun S' h=>?_⟩⟩
  obtain ⟨h1,rfl⟩:=zpc h
  subst e
  exact hq p h1
section
variable {X:Cx} {CX:CXT} {k:Nat} {f C:Addr} {fd:FuncData} {ps:List Str} {sp:Sp} {dvs:List V} {ds:List Value} {E:L2.St→XK} {x:Str} {p pos:Pos} {e:Expr} {es:List Expr} {t:TA}
theorem zn0 (F:FnOk X.prog X.w X.K X.mg X.base CX k f fd ps sp) (hr:Room k X.A) (hg:Gl X x) (hm:X.mg x=some (.ref f)) (hk:PySem.W.keepIn X.K (.ref f)=true) (hb:Binds X.K fd ps ds) (hd:Vals dvs ds) (hx:∀τ,PassesAt CX X (E τ) τ)
    (ha:PA X (e::es) t) (hdb:(x==("__debug__":Str))=false:=by decide) (he:starEach (e::es) X.env=(false,eval e X.env)::starEach es X.env:=by rfl) (hpl:(backTo pos (starEach es X.env)).any (·.1)=false:=by rfl) :
    PE X (.Call (.Name x p) (e::es) [] pos) (fun τ H Q=>t τ H fun vs H1=>sp (vs++dvs) H1 Q (E τ)):=by
  intro pins s σ H Q I h
  refine wpAny_Call_Name_kw (zfu I hg hm ?_ hdb)
  refine PySem.W.callWith_K (h₀:=X.base) I.ok.mod.kin hk (thn (ha pos pins s σ H _ I h) fun us s1 ⟨vs,H1,I1,r,q⟩=>⟨I1.kIn,?_⟩) he hpl
  have r2:Vals (vs++dvs) (us++ds):=r.append hd
  have hl:(us++ds).length=ps.length:=by rw [←r2.length];exact F.len _ _ _ _ q
  refine wpAny_call (codeAny_mono (F.run X.A X.stack s1 H1 ⟨us,[]⟩ (us++ds) (vs++dvs) Q (E σ) hr I1.env0 (hb s1 us I1.kIn hl) r2 q) fun r s' hq=>?_)
  cases r with
  | error e=>exact hx σ pins H1 s1 e s' I1 hq
  | ok fl =>
    cases fl with
    | ret u=>exact I1.after hq
    | next=>exact False.elim hq
    | brk=>exact False.elim hq
    | cont=>exact False.elim hq
end
def call3 (sp:Sp3) (W3:W3T) (t:TA3):TE3:=fun σ S Q=>t σ S fun ds S1=>sp ds S1 Q (W3 σ)
variable {X:Cx} {W3:W3T} {y:Str} {pos p:Pos} {e:Expr} {es:List Expr} {t:TA3} {sp:Sp3}
theorem za0 (C:Cal3 X.prog X.w X.K X.mg X.base k y ps sp) (hr:Room k X.A) (hg:Gl X y) (ha:PA3 X W3 (e::es) t)
    (hdb:(y==("__debug__":Str))=false:=by decide) (he:starEach (e::es) X.env=(false,eval e X.env)::starEach es X.env:=by rfl) (hpl:(backTo pos (starEach es X.env)).any (·.1)=false:=by rfl) :
    PE3 X W3 (.Call (.Name y p) (e::es) [] pos) (call3 sp W3 t):=by
  obtain ⟨f,fd,F,b,kp,m⟩:=C.ex
  refine fun Z=>PE.imp (zn0 F hr hg m kp b .nil Z.pass (ha Z) hdb he hpl) fun τ H Q ⟨σ,S,Q3,hs,hr,ht,hc⟩=>?_
  refine ⟨σ,S,_,hs,hr,ht,fun ds S1 vs H1 k1 r1 l1 q1=>?_⟩
  exact ⟨Z.z,ds,S1,Q3,W3 σ,by rw [List.append_nil];exact r1,l1,q1,hc.mono k1,fun C a S2 H2 k2 l2 ha z=>Z.ce σ τ C a S2 H2 (hs.mono (k1.trans k2)) l2 ha z⟩
end
end E3
namespace E3
open PySem PySem.Spec PyProof.Rows L2 EE
section
variable {σ:St3} {S:Hp3} {Q:K3} {QT:Bool→Hp3→Prop} {QA:List D→Hp3→Prop} {QO:Option Int→Hp3→Prop} {ta tb te:TE3} {tA tB:TT3} {t u:TS3} {al:TA3} {r:R3} {n b c:St3→Hp3→Prop} {rt:K3} {i:Nat}
theorem j_seq (h:t ⟨u ⟨n,rt,b,c⟩,rt,b,c⟩ σ S):seq3 t u ⟨n,rt,b,c⟩ σ S:=h
theorem j_next (h:n σ S):next3 ⟨n,rt,b,c⟩ σ S:=h
theorem j_drop (h:te σ S fun _ S1=>n σ S1):drop3 te ⟨n,rt,b,c⟩ σ S:=h
theorem j_ret (h:te σ S rt):ret3 te ⟨n,rt,b,c⟩ σ S:=h
theorem j_set (h:te σ S fun x S1=>n (σ.set i (some x)) S1):set3 i te ⟨n,rt,b,c⟩ σ S:=h
theorem j_asg {g:TG3} (h:te σ S fun x S1=>g x σ S1 n):asg3 te g ⟨n,rt,b,c⟩ σ S:=h
theorem j_ei {k:Int} {P:Int→Prop} (h:P k):∃b,D.int k=.int b∧P b:=⟨k,rfl,h⟩
theorem j_ifs (h:tA σ S fun b' S1=>if b'=true then t ⟨n,rt,b,c⟩ σ S1 else u ⟨n,rt,b,c⟩ σ S1):ifs3 tA t u ⟨n,rt,b,c⟩ σ S:=h
theorem j_name {v:D} {Qs:St3→Hp3→Prop} (h:Qs (σ.set i (some v)) S):name3 i v σ S Qs:=h
theorem j_v {d:D} (h:σ[i]?=some (some d)) (q:Q d S):v3 i σ S Q:=⟨d,h,q⟩
theorem j_c {d:D} (q:Q d S):c3 d σ S Q:=q
theorem j_o (h:ta σ S fun x S1=>tb σ S1 fun y S2=>r x y S2 Q):o3 r ta tb σ S Q:=h
theorem j_i3 {g:Int→Int→D} {k j:Int} (q:Q (g k j) S):i3 g (.int k) (.int j) S Q:=⟨k,j,rfl,rfl,q⟩
theorem j_mod {g:Int→Int→D} {k j:Int} (h:0<j) (q:Q (g k j) S):ic3 (fun _ j=>0<j) g (.int k) (.int j) S Q:=⟨k,j,rfl,rfl,h,q⟩
theorem j_div {g:Int→Int→D} {k j:Int} (h:0<j∧j<1073741824) (q:Q (g k j) S):ic3 CDiv g (.int k) (.int j) S Q:=⟨k,j,rfl,rfl,h,q⟩
theorem j_addS {x y:Str} (h:x.length+y.length≤sizeLine) (q:Q (.str (x++y)) S):addS3 (.str x) (.str y) S Q:=⟨x,y,rfl,rfl,h,q⟩
theorem j_isN {x:D} (q:Q (.bl (isNon x)) S):isN3 x .non S Q:=⟨rfl,q⟩
theorem j_eqI {k j:Int} (q:Q (.bl (decide (k=j))) S):eqI3 (.int k) (.int j) S Q:=⟨k,j,rfl,rfl,q⟩
theorem j_neI {k j:Int} (q:Q (.bl (!decide (k=j))) S):neI3 (.int k) (.int j) S Q:=⟨k,j,rfl,rfl,q⟩
theorem j_eqS {k j:Str} (q:Q (.bl (decide (k=j))) S):eqS3 (.str k) (.str j) S Q:=⟨k,j,rfl,rfl,q⟩
theorem j_neS {k j:Str} (q:Q (.bl (!decide (k=j))) S):neS3 (.str k) (.str j) S Q:=⟨k,j,rfl,rfl,q⟩
theorem j_test (h:te σ S fun x S'=>∃k,x=.bl k∧QT k S'):test3 te σ S QT:=h
theorem j_eb {k:Bool} {P:Bool→Prop} (h:P k):∃b,D.bl k=.bl b∧P b:=⟨k,rfl,h⟩
theorem j_and (h:tA σ S fun c' S1=>if c'=true then tB σ S1 QT else QT false S1):and3 tA tB σ S QT:=h
theorem j_or (h:tA σ S fun c' S1=>if c'=true then QT true S1 else tB σ S1 QT):or3 tA tB σ S QT:=h
theorem j_not (h:tA σ S fun c' S1=>QT (!c') S1):not3 tA σ S QT:=h
theorem j_andv (h:ta σ S fun x S1=>∃c',x=.bl c'∧if c'=true then tb σ S1 Q else Q (.bl false) S1):andv3 ta tb σ S Q:=h
theorem j_notv (h:ta σ S fun x S1=>∃c',x=.bl c'∧Q (.bl (!c')) S1):notv3 ta σ S Q:=h
theorem j_ifx (h:tA σ S fun c' S1=>if c'=true then ta σ S1 Q else tb σ S1 Q):if3 tA ta tb σ S Q:=h
theorem j_nil (h:QA [] S):nil3 σ S QA:=h
theorem j_cons (h:te σ S fun x S1=>al σ S1 fun xs S2=>QA (x::xs) S2):cons3 te al σ S QA:=h
theorem j_tup (h:al σ S fun xs S1=>xs.length≤sizeLine∧Q (.tup xs) S1):tup3 al σ S Q:=h
theorem j_lst (h:al σ S fun xs S1=>xs.length≤sizeLine∧newL S1 xs Q):lst3 al σ S Q:=h
theorem j_sz {α:Type} {xs:List α} {P:Prop} (h:xs.length≤sizeLine) (q:P):xs.length≤sizeLine∧P:=⟨h,q⟩
theorem j_cb {f:List D→Hp3→K3→Prop} (h:al σ S fun vs S1=>f vs S1 Q):cb3 f al σ S Q:=h
theorem j_call {sp:Sp3} {W3:W3T} (h:al σ S fun ds S1=>sp ds S1 Q (W3 σ)):call3 sp W3 al σ S Q:=h
theorem j_bm {T:String} {m:D→List D→Hp3→K3→Prop} (h:te σ S fun x S1=>TyD T x S1∧al σ S1 fun xs S2=>m x xs S2 Q):bm3 T m te al σ S Q:=h
theorem j_bm0 {T:String} {m:D→List D→Hp3→K3→Prop} (h:te σ S fun x S1=>TyD T x S1∧m x [] S1 Q):bm03 T m te σ S Q:=h
theorem j_tyL {a:Addr} {ds:List D} {P:Prop} (h:S a=some (.lst ds)) (q:P):TyD "list" (.ref a) S∧P:=⟨.inr (.inl ⟨rfl,ds,.inl ⟨a,rfl,h⟩⟩),q⟩
theorem j_tyS {z:Str} {P:Prop} (q:P):TyD "str" (.str z) S∧P:=⟨.inl ⟨rfl,z,rfl⟩,q⟩
theorem j_append {a:Addr} {ds:List D} {y:D} (h:S a=some (.lst ds)) (hz:ds.length<sizeLine) (q:Q .non (up S a (.lst (ds++[y])))):append3 (.ref a) [y] S Q:=⟨a,ds,y,rfl,rfl,h,hz,q⟩
theorem j_ixT {ds:List D} {k:Int} {d:D} (h:atI ds k=some d) (q:Q d S):ixT3 (.tup ds) (.int k) S Q:=⟨ds,k,d,rfl,rfl,h,q⟩
theorem j_ixL {a:Addr} {ds:List D} {k:Int} {d:D} (hS:S a=some (.lst ds)) (h:atI ds k=some d) (q:Q d S):ixL3 (.ref a) (.int k) S Q:=⟨ds,k,d,.inl ⟨a,rfl,hS⟩,rfl,h,q⟩
theorem j_ixR {ds:List D} {k:Int} {d:D} (h:atI ds k=some d) (q:Q d S):ixL3 (.rol ds) (.int k) S Q:=⟨ds,k,d,.inr rfl,rfl,h,q⟩
theorem j_ixS {z:Str} {k:Int} {cp:Nat} (hz:z.length≤sizeLine) (h:atI z.cps.toList k=some cp) (q:Q (.str ⟨#[cp]⟩) S):ixS3 (.str z) (.int k) S Q:=⟨z,k,cp,rfl,rfl,hz,h,q⟩
theorem j_lenL {a:Addr} {ds:List D} (hS:S a=some (.lst ds)) (q:Q (.int ds.length) S):len3 [.ref a] S Q:=⟨_,ds,rfl,.inl (.inl ⟨a,rfl,hS⟩),q⟩
theorem j_lenR {ds:List D} (q:Q (.int ds.length) S):len3 [.rol ds] S Q:=⟨_,ds,rfl,.inl (.inr rfl),q⟩
theorem j_lenT {ds:List D} (q:Q (.int ds.length) S):len3 [.tup ds] S Q:=⟨_,ds,rfl,.inr rfl,q⟩
theorem j_lenS {z:Str} (hz:z.length≤sizeLine) (q:Q (.int z.length) S):lenS3 [.str z] S Q:=⟨z,rfl,hz,q⟩
theorem j_toTupL {a:Addr} {ds:List D} (hS:S a=some (.lst ds)) (q:Q (.tup ds) S):toTup3 [.ref a] S Q:=⟨_,ds,rfl,.inl (.inl ⟨a,rfl,hS⟩),q⟩
theorem j_isB {x:D} {m k:String} {b':Bool} (h:TyN S x m) (hk:kin m k=some b') (q:Q (.bl b') S):isB3 [x,.ty k] S Q:=⟨x,k,m,b',rfl,h,hk,q⟩
theorem j_sl {f:D→Option Int→Option Int→Hp3→K3→Prop} {tl th:TO3} (h:te σ S fun x S1=>tl σ S1 fun l S2=>th σ S2 fun u' S3=>f x l u' S3 Q):sl3 f te tl th σ S Q:=h
theorem j_nopart (h:QO none S):nopart3 σ S QO:=h
theorem j_part (h:te σ S fun x S1=>∃k,x=.int k∧QO (some k) S1):part3 te σ S QO:=h
theorem j_slL {a:Addr} {ds:List D} {lo hi:Option Int} (hS:S a=some (.lst ds)) (q:newL S (cutD ds lo hi) Q):slL3 (.ref a) lo hi S Q:=⟨ds,.inl ⟨a,rfl,hS⟩,q⟩
theorem j_slT {ds:List D} {lo hi:Option Int} (q:Q (.tup (cutD ds lo hi)) S):slT3 (.tup ds) lo hi S Q:=⟨ds,rfl,q⟩
theorem j_slS {z:Str} {lo hi:Option Int} (hz:z.length≤sizeLine) (q:Q (.str (textOf (cutT z.cps.toList lo hi))) S):slS3 (.str z) lo hi S Q:=⟨z,rfl,hz,q⟩
theorem j_catL {a a':Addr} {ds es:List D} (h:S a=some (.lst ds)) (h':S a'=some (.lst es)) (hz:ds.length+es.length≤sizeLine) (q:newL S (ds++es) Q):catL3 (.ref a) (.ref a') S Q:=⟨a,a',ds,es,rfl,rfl,h,h',hz,q⟩
theorem j_catT {ds es:List D} (hn:ds≠[]) (hz:ds.length+es.length≤sizeLine) (q:Q (.tup (ds++es)) S):catT3 (.tup ds) (.tup es) S Q:=⟨ds,es,rfl,rfl,hn,hz,q⟩
theorem j_comp {wi:TI3} {js:List Nat} (h:wi σ S fun ds Al S1=>∃W:Nat→List D→Hp3→Prop,W 0 [] S1∧(∀i ys S,W i ys S→Al S∧ys.length<sizeLine) ∧
  (∀i d ys S,ds[i]?=some d→W i ys S→te (some d::pick3 σ js) S fun y S'=>W (i+1) (ys++[y]) S')∧∀ys S,W ds.length ys S→newL S ys Q):comp3 wi te js σ S Q:=h
theorem zb8 {js:List Nat} {ds:List D} {Al:Hp3→Prop} {S1:Hp3} (f:Nat→D) (hz:ds.length≤10000) (hA:Al S1)
    (h:∀i d,ds[i]?=some d→∀P:K3,P (f i) S1→te (some d::pick3 σ js) S1 P) (q:newL S1 ((List.range ds.length).map f) Q) :
    ∃W:Nat→List D→Hp3→Prop,W 0 [] S1∧(∀i ys S,W i ys S→Al S∧ys.length<sizeLine) ∧
  (∀i d ys S,ds[i]?=some d→W i ys S→te (some d::pick3 σ js) S fun y S'=>W (i+1) (ys++[y]) S')∧∀ys S,W ds.length ys S→newL S ys Q:=by
  refine ⟨fun i ys S=>i≤ds.length∧ys=(List.range i).map f∧S=S1,⟨Nat.zero_le _,rfl,rfl⟩,?_,?_,?_⟩
  · rintro i ys S ⟨hi,rfl,rfl⟩
    refine ⟨hA,?_⟩
    rw [List.length_map,List.length_range]
    exact Nat.lt_of_le_of_lt (Nat.le_trans hi hz) (by decide)
  · rintro i d ys S hd ⟨hi,rfl,rfl⟩
    refine h i d hd _ ⟨(List.getElem?_eq_some_iff.mp hd).1,?_,rfl⟩
    rw [List.range_succ,List.map_append]
    rfl
  · rintro ys S ⟨_,rfl,rfl⟩
    exact q
theorem j_for {wi:TI3} {g:TG3} (h:wi σ S fun ds Al S1=>∃W:Nat→St3→Hp3→Prop,W 0 σ S1∧(∀i σ S,W i σ S→Al S) ∧
  (∀i d σ S,ds[i]?=some d→W i σ S→g d σ S fun σ2 S2=>t ⟨W (i+1),rt,n,W (i+1)⟩ σ2 S2)∧∀σ S,W ds.length σ S→n σ S):for3 wi g t ⟨n,rt,b,c⟩ σ S:=h
theorem j_while (W:Nat→St3→Hp3→Prop) (m:Nat) (h0:W m σ S) (h:∀m σ S,W m σ S→tA σ S fun b S1=>if b=true then t ⟨fun σ' S'=>∃m',m'<m∧W m' σ' S',rt,n,fun σ' S'=>∃m',m'<m∧W m' σ' S'⟩ σ S1 else n σ S1) :
    while3 tA t ⟨n,rt,b,c⟩ σ S:=⟨W,⟨m,h0⟩,h⟩
noncomputable abbrev RI:=List D→(Hp3→Prop)→Hp3→Prop
variable {R:RI}
def litA (R:RI) (x:D) (S:Hp3):Prop:=(∃a ds,x=.ref a∧S a=some (.lst ds)∧R ds (fun S=>S a=some (.lst ds)) S)∨∃ds,x=.rol ds∧R ds (fun _=>True) S
theorem j_iList (h:te σ S fun x S1=>litA R x S1):iL3 te σ S R:=h
theorem j_iL {a:Addr} {ds:List D} (hS:S a=some (.lst ds)) (q:R ds (fun S=>S a=some (.lst ds)) S):litA R (.ref a) S:=.inl ⟨a,ds,rfl,hS,q⟩
def titA (R:RI) (x:D) (S:Hp3):Prop:=∃ds,x=.tup ds∧R ds (fun _=>True) S
theorem j_iTup (h:te σ S fun x S1=>titA R x S1):iT3 te σ S R:=h
theorem j_iT {ds:List D} (q:R ds (fun _=>True) S):titA R (.tup ds) S:=⟨ds,rfl,q⟩
def sitA (R:RI) (x:D) (S:Hp3):Prop:=∃z,x=.str z∧R (signs z) (fun _=>True) S
theorem j_iStr (h:te σ S fun x S1=>sitA R x S1):iS3 te σ S R:=h
theorem j_iS {z:Str} (q:R (signs z) (fun _=>True) S):sitA R (.str z) S:=⟨z,rfl,q⟩
theorem j_eS {z:Str} {P:Str→Prop} (h:P z):∃y,D.str z=.str y∧P y:=⟨z,rfl,h⟩
def rngA (R:RI) (vs:List D) (S:Hp3):Prop:=∃j:Int,vs=[.int j]∧-(2^62)≤j∧j<2^62∧R (nums 0 j.toNat) (fun _=>True) S
theorem j_iR1 (h:al σ S fun vs S1=>rngA R vs S1):iR1 al σ S R:=h
theorem j_rng {j:Int} (h1:-(2^62)≤j∧j<2^62) (q:R (nums 0 j.toNat) (fun _=>True) S):rngA R [.int j] S:=⟨j,rfl,h1.1,h1.2,q⟩
def setA (v:D) (Qs:St3→Hp3→Prop) (σ:St3) (o i:D) (S:Hp3):Prop:=∃p xs k j,o=.ref p∧i=.int k∧S p=some (.lst xs)∧ixN xs.length k=some j∧Qs σ (up S p (.lst (xs.set j v)))
theorem j_setL {v:D} {Qs:St3→Hp3→Prop} (h:te σ S fun o S1=>ta σ S1 fun i S2=>setA v Qs σ o i S2):setL3 te ta v σ S Qs:=h
theorem j_esL {a:Addr} {xs:List D} {k:Int} {j:Nat} {v:D} {Qs:St3→Hp3→Prop} (hS:S a=some (.lst xs)) (hj:ixN xs.length k=some j) (q:Qs σ (up S a (.lst (xs.set j v)))):setA v Qs σ (.ref a) (.int k) S:=⟨a,xs,k,j,rfl,rfl,hS,hj,q⟩
def dgetA (Q:K3) (x y:D) (S:Hp3):Prop:=∃a kvs k v,x=.ref a∧S a=some (.dic kvs)∧y=kD k∧valD kvs k=some v∧Q v S
theorem j_dget (h:te σ S fun x S1=>ta σ S1 fun y S2=>dgetA Q x y S2):dget3 te ta σ S Q:=h
theorem j_dgetS {a:Addr} {kvs:List (Key×D)} {z:Str} {v:D} (hS:S a=some (.dic kvs)) (hv:valD kvs (.inr z)=some v) (q:Q v S):dgetA Q (.ref a) (.str z) S:=⟨a,kvs,.inr z,v,rfl,hS,rfl,hv,q⟩
end
theorem FnOk.frame {P:Program} {w:World} {K:PySem.W.Frag} {mg:Str→Option Value} {base:Heap} {k:Nat} {f:Addr} {fd:FuncData} {ps:List Str} {sp:Sp3} (F:FnOk P w K mg base (CX1 P w) k f fd ps (lSp K sp)):FnOk P w K mg base (CX1 P w) k f fd ps (lSp K (fr sp)):=by
  refine L2.FnOk.imp F fun vs H Q E ⟨Z,ds,S,Q3,E3,h1,l,⟨S0,F,hs,h3⟩,cq,ce⟩=>?_
  refine ⟨Z.with H F,ds,S0,_,_,h1,⟨fun a o e=>?_,fun a z=>?_,Kp.refl _ _⟩,h3,?_,?_⟩
  · refine l.obj a o ?_
    rcases hs a with ⟨q,_⟩|⟨q,_⟩
    · rw [q];exact e
    · rw [q] at e;cases e
  · rcases z with z|z
    · have z2:=l.hid a z
      refine ⟨?_,z2.2⟩
      rcases hs a with ⟨q,_⟩|⟨q,_⟩
      · rw [←q];exact z2.1
      · exact q
    · rcases hs a with ⟨_,q⟩|⟨q,q2⟩
      · exact absurd q z
      · refine ⟨q,?_⟩
        cases e:F a with
        | none=>exact absurd e z
        | some o=>exact (l.obj a o (q2.trans e)).there
  · rintro d S1 v H' k1 r1 l1 ⟨S2,hsub,q⟩
    obtain ⟨sp',l'⟩:=l.frame hs k1 l1 hsub
    exact cq d _ v H' (k1.unhide fun a z=>.inl z) r1 l' (q _ sp')
  · rintro C a S1 H' k1 l1 ha ⟨S2,hsub,q⟩
    obtain ⟨sp',l'⟩:=l.frame hs k1 l1 hsub
    exact ce C a _ H' (k1.unhide fun a z=>.inl z) l' ha (q _ sp')
def lawS:Sp3:=vS fun ds q=>∃ns:List Int,ds=[.rol (ns.map D.int)]∧ns.length≤63∧q (.bl true)
theorem zl4 {P:Program} {w:World} {K:PySem.W.Frag} {mg:Str→Option Value} {base:Heap} {k:Nat} {st:Stmt} {f:Addr} {fd:FuncData} {N:List Str} (F:Fun K "law" "law" st f fd) (S:FnScope N ["script"] (defScope st))
    (hbody:∀(cdv:Value) (A:Around) (outer:List Env) (s:Shared) (H:Hp) (E:XK) (ns:List Int),Room k (A.deeper (envOfC "law" (defScope st) s.heap.objs.size f cdv))→ns.length≤63 →
      ∃t,PSs3 (cxOf (CX1 P w) P w K mg base N "law" (defScope st) f cdv A outer s H E).nox NoX (defBody st) t∧t {nx:=fun _ _=>False,rt:=fun d _=>d=.bl true} (start3 N [.rol (ns.map D.int)]) emp) :
    FnOk P w K mg base (CX1 P w) (k+1) f fd ["script"] (lSp K lawS):=by
  obtain ⟨oc,od,kV,doc,pm,an,cdv,ct,osl,rfl,lk,hcd⟩:=F.ex
  refine L2.FnOk.imp (sp:=lSp K (fr fun ds S Q E=>S=emp∧∃ns:List Int,ds=[.rol (ns.map D.int)]∧ns.length≤63∧∀S',Q (.bl true) S')) (FnOk.frame ?_) fun vs H Q E z_1=>by obtain ⟨Z,ds,S,Q3,E3,h1,l,⟨ns,e,h63,q⟩,h,h'⟩:=z_1;exact ⟨Z,ds,S,Q3,E3,h1,l,⟨emp,S,zgt S,rfl,ns,e,h63,fun S1=>⟨emp,zgr _,fun S' hS=>zdf hS▸q⟩⟩,h,h'⟩
  refine zmi lk hcd S (fun vs H Q E z_2=>by obtain ⟨Z,ds,S,Q3,E3,h1,_,⟨_,ns,z,_⟩,_,_⟩:=z_2;rw [←h1.len,z];rfl) fun A outer s H vs Q E hr ⟨Z,ds,S3,Q3,E3,h1,h2,⟨e1,ns,e2,h63,hq⟩,h4,_⟩=>?_
  subst e1 e2
  obtain ⟨t,ht,q⟩:=hbody cdv A outer s H E ns hr h63
  refine ⟨_,(ht (zx0 Z H)).nox,_,start3 N [.rol (ns.map D.int)],emp,?_,h2.into,q,⟨?_,?_,?_,?_⟩⟩
  · unfold start3 L2.start
    rw [h1.len]
    exact zbe (SR.ofRps h1) (SR.nones _)
  · exact fun _ _ _ _ _ _ _ z=>z.elim
  · exact fun _ _ _ _ _ _ _ z=>z
  · exact fun _ _ _ _ _ _ _ z=>z
  · intro d S' v H' kk r l e
    have e:d=.bl true:=e
    subst e
    exact h4 _ S' v H' (kk.unhide fun _ z=>z) r (l.out h2 kk) (hq S')
theorem law_sp {K:PySem.W.Frag} {H:Hp} {a:Addr} {ns:List Int} (hl:ns.length≤63) (hO:Only H) (h:SqL K H a (ns.map V.int)):lSp K lawS [.ref a] H (fun v _=>v=.bl true) fun _ _ _=>False:=by
  refine ⟨⟨fun _=>False,H⟩,[.rol (ns.map D.int)],emp,fun d _=>d=.bl true,fun _ _ _=>False,.cons (.rol (ScR.of h hO) (Rps.ints ns)) .nil,⟨fun a o e=>(nomatch e),fun a z=>z.elim,Kp.refl _ _⟩,⟨ns,rfl,hl,rfl⟩,?_,fun _ _ _ _ _ _ _ z=>z⟩
  intro d S v H' _ r _ e
  have e:d=.bl true:=e
  subst e
  cases r
  rfl
theorem zix {A:Around} {k:Nat} (hr:Room k A):A.units+200<cLine:=by have:=hr.un;omega
end E3
namespace E3
open PySem PySem.Spec PyProof.Rows L2 EE
theorem Sub.refl (S:Hp3):Sub S S:=fun _ _ h=>h
theorem Sub.up {A B:Hp3} {p:Addr} {o:O} (h:Sub A B) (hp:B p=none):Sub A (up B p o):=fun a u e=>zax (h a u e) hp
section
variable {P:Program} {w:World} {K:PySem.W.Frag} {mg:Str→Option Value} {base:Heap} {x:Str} {st:Stmt} {N ps:List Str} {k:Nat}
theorem Cal3.drop {sp:Sp3} (C:Cal3 P w K mg base k x ps sp):Cal3 P w K mg base k x ps (fun ds S Q E=>sp ds S (fun d S1=>∃S2,Sub S2 S1∧Q d S2) E):=by
  obtain ⟨f,fd,F0,r⟩:=C.ex
  refine ⟨f,fd,F0.imp fun vs H Q E ⟨Z,ds,S,Q3,E3,h1,l,h3,cq,ce⟩=>⟨Z,ds,S,_,E3,h1,l,h3,?_,ce⟩,r⟩
  rintro d S1 v H' k1 r1 l1 ⟨S2,hsub,q⟩
  exact cq d S2 v H' k1 r1 (l1.sub hsub) q
def wrV (A:List D→Hp3→(D→Addr→O→Prop)→Prop):Sp3:=fun ds S Q _=>A ds S fun d a o=>Q d (up S a o)
theorem _root_.EE.Has.wrV {A:List D→Hp3→(D→Addr→O→Prop)→Prop} (h:Has K mg x st ps) (S:FnScope N ps (defScope st)) (len:∀ds S q,A ds S q→ds.length=ps.length)
    (hbody:∀(f:Addr) (cdv:Value) (Ar:Around) (outer:List Env) (s:Shared) (H:Hp) (E:XK) (ds:List D) (S:Hp3) (q:D→Addr→O→Prop),Room k (Ar.deeper (envOfC x (defScope st) s.heap.objs.size f cdv))→A ds S q →
      ∃t,PSs3 (cxOf (CX1 P w) P w K mg base N x (defScope st) f cdv Ar outer s H E).nox NoX (defBody st) t∧t {nx:=fun _ S'=>∃a o,Sub (up S a o) S'∧q .non a o,rt:=fun d S'=>∃a o,Sub (up S a o) S'∧q d a o} (start3 N ds) S):Cal3 P w K mg base (k+1) x ps (wrV A):=by
  have C:Cal3 P w K mg base (k+1) x ps (fun ds S Q E=>∃q,A ds S q∧∀d S',(∃a o,Sub (up S a o) S'∧q d a o)→Q d S'):=by
    refine h.cal3 S (fun vs H Q E z_3=>by obtain ⟨q,z,_⟩:=z_3;exact len _ _ _ z) fun f cdv Ar outer s H E ds S3 Q E3 hr ⟨q,z,hq⟩=>?_
    obtain ⟨t,h1,h2⟩:=hbody f cdv Ar outer s H E ds S3 _ hr z
    exact ⟨t,fun d S'=>∃a o,Sub (up S3 a o) S'∧q d a o,h1,h2,hq⟩
  exact C.drop.imp fun ds S Q E z=>⟨_,z,fun d S1 z_4=>by obtain ⟨a,o,hs,hq⟩:=z_4;exact ⟨_,hs,hq⟩⟩
theorem _root_.EE.Has.none3 {sp:Sp3} (h:Has K mg x st ps) (no:∀ds S Q E,¬sp ds S Q E) (j:Nat):Cal3 P w K mg base j x ps sp:=by
  obtain ⟨f,fd,F,b,m⟩:=h.ex
  have no':∀vs H Q E,¬lSp K sp vs H Q E:=fun vs H Q E z_5=>by obtain ⟨Z,ds,S,Q3,E3,_,_,z,_,_⟩:=z_5;exact no _ _ _ _ z
  exact ⟨f,fd,⟨fun vs H Q E h=>absurd h (no' vs H Q E),fun A outer s H args us vs Q E _ _ _ _ h=>absurd h (no' vs H Q E)⟩,b,F.kp,m⟩
end
end E3
namespace E3
open PySem PySem.Spec PyProof.Rows L2 EE
section
variable {P:Program} {w:World} {K:PySem.W.Frag} {mg:Str→Option Value} {base:Heap} {x:Str} {st:Stmt} {N ps:List Str} {k:Nat}
def wrL (A:List D→Hp3→(List D→Addr→O→Prop)→Prop):Sp3:=fun ds S Q _=>A ds S fun ys a o=>∀p,S p=none→Q (.ref p) (up (up S a o) p (.lst ys))
theorem _root_.EE.Has.wrL {A:List D→Hp3→(List D→Addr→O→Prop)→Prop} (h:Has K mg x st ps) (S:FnScope N ps (defScope st)) (len:∀ds S q,A ds S q→ds.length=ps.length)
    (hbody:∀(f:Addr) (cdv:Value) (Ar:Around) (outer:List Env) (s:Shared) (H:Hp) (E:XK) (ds:List D) (S:Hp3) (q:List D→Addr→O→Prop),Room k (Ar.deeper (envOfC x (defScope st) s.heap.objs.size f cdv))→A ds S q →
      ∃t,PSs3 (cxOf (CX1 P w) P w K mg base N x (defScope st) f cdv Ar outer s H E).nox NoX (defBody st) t ∧
        t {nx:=fun _ _=>False,rt:=fun d S'=>∃p ys a o,d=.ref p∧S p=none∧S a≠none∧Sub (up S a o) S'∧S' p=some (.lst ys)∧q ys a o} (start3 N ds) S):Cal3 P w K mg base (k+1) x ps (wrL A):=by
  have C:Cal3 P w K mg base (k+1) x ps (fun ds S Q E=>∃q,A ds S q∧∀d S',(∃p ys a o,d=.ref p∧S p=none∧S a≠none∧Sub (up S a o) S'∧S' p=some (.lst ys)∧q ys a o)→Q d S'):=by
    refine h.cal3 S (fun vs H Q E z_6=>by obtain ⟨q,z,_⟩:=z_6;exact len _ _ _ z) fun f cdv Ar outer s H E ds S3 Q E3 hr ⟨q,z,hq⟩=>?_
    obtain ⟨t,h1,h2⟩:=hbody f cdv Ar outer s H E ds S3 _ hr z
    refine ⟨t,fun d S'=>∃p ys a o,d=.ref p∧S3 p=none∧S3 a≠none∧Sub (up S3 a o) S'∧S' p=some (.lst ys)∧q ys a o,h1,?_,hq⟩
    have e:(fun (_:St3) (_:Hp3)=>False)=fun (_:St3) (S':Hp3)=>∃p ys a o,D.non=.ref p∧S3 p=none∧S3 a≠none∧Sub (up S3 a o) S'∧S' p=some (.lst ys)∧q ys a o:=by
      funext _ S'
      refine propext ⟨False.elim,fun z=>?_⟩
      obtain ⟨p,ys,_,_,z,_⟩:=z
      cases z
    rw [←e]
    exact h2
  refine C.drop.imp fun ds S Q E z=>⟨_,z,fun d S1 ⟨p,ys,a,o,e,hp,ha,hs,hp1,hq⟩=>⟨up (up S a o) p (.lst ys),?_,?_⟩⟩
  · intro b u hb
    by_cases c:b=p
    · subst c;rw [zaf] at hb;cases hb;exact hp1
    · rw [zb9 c] at hb;exact hs b u hb
  · subst e
    exact hq p hp
end
section
variable {σ:St3} {S:Hp3} {Q:K3}
theorem j_pow {g:Int→Int→D} {k j:Int} (h:CPow k j) (q:Q (g k j) S):ic3 CPow g (.int k) (.int j) S Q:=⟨k,j,rfl,rfl,h,q⟩
theorem j_mul {g:Int→Int→D} {k j:Int} (h:CMul k j) (q:Q (g k j) S):ic3 CMul g (.int k) (.int j) S Q:=⟨k,j,rfl,rfl,h,q⟩
theorem j_neg {σ:St3} {te:TE3} (h:te σ S fun x S1=>∃i,x=.int i∧Q (.int (-i)) S1):u3 (fun x S Q=>∃i,x=.int i∧Q (.int (-i)) S) te σ S Q:=h
end
end E3
namespace E3
def Px (sp:PySem.Addr) (S X:Hp3):Prop:=∀a u,a≠sp→S a=some u→X a=some u
theorem Px.refl (sp:PySem.Addr) (S:Hp3):Px sp S S:=fun _ _ _ h=>h
theorem Px.at {sp:PySem.Addr} {S X:Hp3} {o:O} (h:Px sp S X):Px sp S (up X sp o):=fun a u n e=>by rw [zb9 n];exact h a u n e
theorem Px.new {sp p:PySem.Addr} {S X:Hp3} {o:O} (h:Px sp S X) (hp:X p=none):Px sp S (up X p o):=fun a u n e=>zax (h a u n e) hp
theorem Px.sub {sp:PySem.Addr} {S X:Hp3} {o:O} (h:Px sp S X) (hx:X sp=some o):Sub (up S sp o) X:=fun a u e=>by
  by_cases c:a=sp
  · subst c;rw [zaf] at e;rw [hx];exact e
  · rw [zb9 c] at e;exact h a u c e
end E3
namespace E3
theorem Px.fresh {sp p:PySem.Addr} {S X:Hp3} {o:O} (h:Px sp S X) (hp:S p=none):Px sp S (up X p o):=fun a u n e=>by rw [zb9 (ne3 e hp)];exact h a u n e
theorem Px.free {sp p:PySem.Addr} {S X:Hp3} (h:Px sp S X) (hp:X p=none) (n:p≠sp):S p=none:=by
  cases e:S p with
  | none=>rfl
  | some o=>rw [h p o n e] at hp;cases hp
end E3
namespace E3
theorem Px.ext {sp:PySem.Addr} {S X Y:Hp3} (h:Px sp S X) (h':Sub X Y):Px sp S Y:=fun a u n e=>h' a u (h a u n e)
end E3
namespace E3
open PySem PySem.Spec PyProof.Rows L2 EE
theorem zkf {P:Program} {w:World} {H:Hp} {h:Heap} {a:Addr} {o:HO} (x:ObjOk P w H h a o):∃u,h.get? a=some u:=by
  cases o with
  | lst xs=>obtain ⟨_,_,_,_,e⟩:=x;exact ⟨_,e⟩
  | tup xs=>obtain ⟨_,_,_,⟨o,e,_⟩,_⟩:=x;exact ⟨_,e⟩
  | dK kvs=>obtain ⟨_,_,_,_,o,_,_,e,_⟩:=x;exact ⟨_,e⟩
  | dT kvs=>obtain ⟨_,_,_,_,o,_,_,e,_⟩:=x;exact ⟨_,e⟩
  | set S n=>obtain ⟨o,_,_,_,e,_⟩:=x;exact ⟨_,e⟩
  | ins C dx fs=>obtain ⟨_,_,_,e,_⟩:=x;exact ⟨_,e⟩
  | own y=>exact x
  | xd fs=>obtain ⟨_,⟨_,_,_,e,_⟩,_⟩:=x;exact ⟨_,e⟩
  | rng lo hi=>obtain ⟨_,_,_,e⟩:=x;exact ⟨_,e⟩
  | frz ob u=>obtain ⟨e,_⟩:=x;exact ⟨_,e⟩
  | tbl ps=>exact ⟨_,show h.get? a=some _ from x⟩
  | met f y=>exact ⟨_,show h.get? a=some _ from x⟩
  | ext φ=>exact x.2.1
theorem ze9 {P:Program} {w:World} {H:Hp} {h:Heap} {a:Addr} (x:HOk P w H h) (e:h.get? a=none):H a=none:=by
  cases q:H a with
  | none=>rfl
  | some o=>obtain ⟨u,z⟩:=zkf (x a o q);rw [e] at z;cases z
section
variable {P:Program} {w:World} {K:PySem.W.Frag} {mg:Str→Option Value} {base:Heap} {N:List Str} {qual:Str} {scope:Scope} {f:Addr} {cd:Value} {A:Around} {outer:List Env} {s s2:Shared} {H H1:Hp} {E:XK}
  {pins:List (Addr×Obj)} {σ:L2.St} {a C:Addr}
theorem zek (I:Inv (cxOf (CX1 P w) P w K mg base N qual scope f cd A outer s H E) pins σ H1 s2):s2.heap.FunFrames base (envOfC qual scope s.heap.objs.size f cd::outer):=by
  obtain ⟨m,⟨o,es,ep,ho,hd,_⟩,_⟩:=I.loc
  have hk:scope.kind=.function:=I.ok.kind
  refine ⟨?_,⟨s.heap.objs.size,o,rfl,?_,ho,fun vs z=>?_⟩,I.funs⟩
  · show scope.kind≠.module
    rw [hk]
    intro z
    cases z
  · cases q:base.get? s.heap.objs.size with
    | none=>rfl
    | some u=>exact absurd (Nat.lt_of_lt_of_le (Heap.lt_size q) I.ok.bsz) (Nat.lt_irrefl _)
  · rw [hd] at z
    cases z
theorem zo7 {a0:Value} {h':Heap} (hold:List Addr) (I:Inv (cxOf (CX1 P w) P w K mg base N qual scope f cd A outer s H E) pins σ H1 s2) (hh:∀b∈hold,H1 b=none∧s.heap.get? b=none) (na:H1 a=none∧s.heap.get? a=none)
    (fl:Heap.FlyingW (PySem.W.hideAll s2.heap (hold++frs (envOfC qual scope s.heap.objs.size f cd::outer))) outer a (.ref C) a0 h') (us:s2.heap.UpToSlots h') (q:E (.ref C) (some a) H1) {s3:Shared} (h3:s3.heap=h') (ho:s3.os=s2.os) (hg:s3.gens=s2.gens) :
    CX1 P w outer H s E (.ref a) s3:=by
  have all:=zek I
  have frL:frs (envOfC qual scope s.heap.objs.size f cd::outer)=s.heap.objs.size::frs outer:=rfl
  have hL:s.heap.get? s.heap.objs.size=none:=by
    cases q:s.heap.get? s.heap.objs.size with
    | none=>rfl
    | some u=>exact absurd (Heap.lt_size q) (Nat.lt_irrefl _)
  have frame:∀b,b∈frs (envOfC qual scope s.heap.objs.size f cd::outer)→H1 b=none∧∃o,s2.heap.get? b=some o∧∀vs,o.data≠.fields vs:=by
    intro b hb
    refine ⟨?_,(all.mem hb).2⟩
    rw [frL] at hb
    rcases List.mem_cons.mp hb with rfl|hb
    · exact I.free
    · obtain ⟨_,o,e,_⟩:=I.ok.funs.mem hb
      exact I.base.free b o e (I.ok.frf b hb) (by exact List.not_mem_nil)
  have keep:∀b o,s2.heap.get? b=some o→b∉hold→b∉frs (envOfC qual scope s.heap.objs.size f cd::outer)→h'.get? b=some o:=fun b o e n1 n2 =>
    fl.1 b o (PySem.W.hideAll_get _ e fun z=>(List.mem_append.mp z).elim n1 n2)
  have slot:∀b o,s2.heap.get? b=some o→b∈frs (envOfC qual scope s.heap.objs.size f cd::outer)→∃sl,h'.get? b=some {o with slots:=sl}:=fun b o e hb=>by
    obtain ⟨_,o',e',hn⟩:=frame b hb
    rw [e] at e'
    cases e'
    exact us b o e hn
  have nold:∀b o,s.heap.get? b=some o→b∉hold:=fun b o e z=>by rw [(hh b z).2] at e;cases e
  have nL:∀b o,s.heap.get? b=some o→b∉frs outer→b∉frs (envOfC qual scope s.heap.objs.size f cd::outer):=fun b o e n z=>by
    rw [frL] at z
    rcases List.mem_cons.mp z with rfl|z
    · rw [hL] at e;cases e
    · exact n z
  obtain ⟨f1,f2,f3,oe,vs,T,oT,ts,he,⟨hc,h0⟩,hd,h1,hnT,hTe,hT,hdT,h3T⟩:=fl
  have hTfr:T∉frs (envOfC qual scope s.heap.objs.size f cd::outer):=fun z=>by
    obtain ⟨_,o',e',hn⟩:=frame T z
    obtain ⟨sl,e2⟩:=us T o' e' hn
    rw [hT] at e2
    cases e2
    exact hn _ hdT
  have tT:H1 T=none∧s.heap.get? T=none:=by
    by_cases hz:T∈hold
    · exact hh T hz
    · have n2:s2.heap.get? T=none:=by
        cases q:s2.heap.get? T with
        | none=>rfl
        | some o =>
          rw [PySem.W.hideAll_get _ q fun z=>(List.mem_append.mp z).elim hz hTfr] at hnT
          cases hnT
      refine ⟨ze9 I.hok n2,?_⟩
      cases q:s.heap.get? T with
      | none=>rfl
      | some o =>
        obtain ⟨o',e'⟩:=I.base.there T o q (by exact List.not_mem_nil)
        rw [n2] at e'
        cases e'
  refine ⟨a,C,T,H1,rfl,ho.trans I.os,?_,?_,?_,?_,na.1,tT.1,na.2,tT.2,q⟩
  · rw [hg];exact I.bare
  · rw [h3]
    refine ⟨fun b o e n hf hx=>?_,fun b o e n hf hx=>?_,fun b o e n hx=>I.base.free b o e n (by exact List.not_mem_nil),fun b o e hx=>?_,I.base.tups,I.base.frzs,I.base.tbls⟩
    · exact keep b o (I.base.keep b o e n hf (by exact List.not_mem_nil)) (nold b o e) (nL b o e hf)
    · obtain ⟨sl,e1⟩:=I.base.slot b o e n hf (by exact List.not_mem_nil)
      obtain ⟨sl',e2⟩:=slot b _ e1 (by rw [frL];exact .tail _ hf)
      exact ⟨sl',e2⟩
    · obtain ⟨o',e1⟩:=I.base.there b o e (by exact List.not_mem_nil)
      by_cases hb:b∈frs (envOfC qual scope s.heap.objs.size f cd::outer)
      · obtain ⟨sl,e2⟩:=slot b _ e1 hb
        exact ⟨_,e2⟩
      · exact ⟨_,keep b _ e1 (nold b o e) hb⟩
  · rw [h3]
    intro b o e
    refine (I.hok b o e).stay (fun c u hc q=>?_) (fun _ q=>q) fun _ _ q=>q
    have hcH:H1 c≠none:=by
      rcases hc with rfl|z
      · rw [e];simp
      · rw [z];simp
    exact keep c u q (fun z=>hcH (hh c z).1) fun z=>hcH (frame c z).1
  · rw [h3]
    exact ⟨hTe,⟨oe,vs,a0,he,hc,hd,h0,h1⟩,⟨oT,ts,hT,hdT,h3T⟩⟩
theorem zpx:Passes (CX1 P w) (cxOf (CX1 P w) P w K mg base N qual scope f cd A outer s H E) E:=by
  rintro pins σ H1 s1 e s' I ⟨a,C,T,H',he,hos,hb,u,hok,fly,ha,hT,na,nT,z⟩
  subst he
  have I':=I.call' hos u hok hb fun _ z=>nomatch z
  have all:=zek I'
  have old:∀b,s1.heap.get? b=none→s.heap.get? b=none:=fun b e=>by
    cases q:s.heap.get? b with
    | none=>rfl
    | some o =>
      obtain ⟨o',e'⟩:=I.base.there b o q (by exact List.not_mem_nil)
      rw [e] at e'
      cases e'
  obtain ⟨oe,vs,a0,e1,e2,e3,e4,e5⟩:=fly.exc
  obtain ⟨oT,ts,t1,t2,t3⟩:=fly.tb
  have hl:∀env∈(envOfC qual scope s.heap.objs.size f cd::outer),∀b,env.frame=some b→b∈[a,T]++frs (envOfC qual scope s.heap.objs.size f cd::outer):=fun env he b hb=>List.mem_append_right _ (List.mem_filterMap.mpr ⟨env,he,hb⟩)
  show wpAny _ _ (leaving (envOfC qual scope s.heap.objs.size f cd) (.ref a)) _ _ s'
  refine wpAny_leaves_onW (base:=PySem.W.hideAll s'.heap ([a,T]++frs (envOfC qual scope s.heap.objs.size f cd::outer))) I'.ok.frames rfl ⟨fun b o q=>PySem.W.of_hideAll _ q,PySem.W.hideAll_none _ (by simp),PySem.W.funFrames_hide all hl,
    oe,vs,T,oT,ts,e1,⟨e2,e4⟩,e3,e5,PySem.W.hideAll_none _ (by simp),fly.ne,t1,t2,t3⟩ fun h' x1 x2=>?_
  refine zo7 [a,T] I' (fun b hb=>?_) ⟨ha,old a na⟩ x1 x2 z rfl rfl rfl
  rcases List.mem_cons.mp hb with rfl|hb
  · exact ⟨ha,old b na⟩
  · rcases List.mem_cons.mp hb with rfl|hb
    · exact ⟨hT,old b nT⟩
    · cases hb
theorem leave_new {args:List Value} {s3:Shared} {e:Addr} (I:Inv (cxOf (CX1 P w) P w K mg base N qual scope f cd A outer s H E) pins σ H1 s2) (hx:Heap.MadeExcOf s2.heap s3.heap e (.ref C) args) (ho:s3.os=s2.os) (hg:s3.gens=s2.gens) (q:E (.ref C) (some e) H1) :
    (cxOf (CX1 P w) P w K mg base N qual scope f cd A outer s H E).xe (.ref e) s3:=by
  have all:=zek I
  have hl:∀env∈(envOfC qual scope s.heap.objs.size f cd::outer),∀b,env.frame=some b→b∈[]++frs (envOfC qual scope s.heap.objs.size f cd::outer):=fun env he b hb=>List.mem_append_right _ (List.mem_filterMap.mpr ⟨env,he,hb⟩)
  show wpAny _ _ (leaving (envOfC qual scope s.heap.objs.size f cd) (.ref e)) _ _ s3
  refine wpAny_leaves_madeW (base:=PySem.W.hideAll s2.heap ([]++frs (envOfC qual scope s.heap.objs.size f cd::outer))) (h:=s2.heap) I.ok.frames rfl (fun b o q=>PySem.W.of_hideAll _ q) (PySem.W.funFrames_hide all hl) hx fun h' t x1 _ _ x4=>?_
  refine zo7 [] I (fun b hb=>nomatch hb) ⟨ze9 I.hok hx.new,?_⟩ x1 ((Heap.UpToSlots.of_keeps hx.keeps).trans x4) q rfl ho hg
  cases q:s.heap.get? e with
  | none=>rfl
  | some o =>
    obtain ⟨o',e'⟩:=I.base.there e o q (by exact List.not_mem_nil)
    rw [hx.new] at e'
    cases e'
end
end E3
namespace E3
open PySem PySem.Spec PyProof.Rows L2 EE
section
variable {P:Program} {w:World} {K:PySem.W.Frag} {mg:Str→Option Value} {base:Heap} {x:Str} {st:Stmt} {N ps:List Str} {k:Nat}
noncomputable def zxE {f:Addr} {cdv:Value} {A:Around} {outer:List Env} {s:Shared} {H:Hp} {E:XK} {scope:Scope} (Z:Zt) (W:X3) (o:Kp Z Z.base H) (ce:CE3 K Z H W E):ZX (cxOf (CX1 P w) P w K mg base N x scope f cdv A outer s H E) (fun _=>W) where
  z:=Z.at H
  E:=fun _=>E
  pass:=fun τ pins H s e s' I q=>zpx pins τ H s e s' I q
  rz:=fun _ _ _ _ _ _ _ _ I hx ho hg q=>leave_new I hx ho hg q
  ce:=fun _ _ C a S H' _ l ha q=>ce C a S H' (l.old.unhide fun _ z=>z) ⟨l.obj,l.hid,o.trans (l.old.unhide fun _ z=>z)⟩ ha q
theorem _root_.EE.Has.cal3x {sp:Sp3} (h:Has K mg x st ps) (S:FnScope N ps (defScope st)) (len:∀vs H Q E,sp vs H Q E→vs.length=ps.length)
    (hbody:∀(f:Addr) (cdv:Value) (A:Around) (outer:List Env) (s:Shared) (H:Hp) (E:XK) (ds:List D) (S:Hp3) (Q:K3) (W:X3),Room k (A.deeper (envOfC x (defScope st) s.heap.objs.size f cdv))→sp ds S Q W →
      ∃t Q' W',PSs3 (cxOf (CX1 P w) P w K mg base N x (defScope st) f cdv A outer s H E) (fun _=>W') (defBody st) t∧t {nx:=fun _ S'=>Q' .non S',rt:=Q'} (start3 N ds) S∧(∀d S',Q' d S'→Q d S')∧∀C a S',W' C a S'→W C a S'):Cal3 P w K mg base (k+1) x ps sp:=by
  obtain ⟨f,fd,F,b,m⟩:=h.ex
  obtain ⟨oc,od,kV,doc,pm,an,cdv,ct,osl,rfl,lk,hcd⟩:=F.ex
  refine ⟨f,_,zmi lk hcd S (fun vs H Q E z_1=>by obtain ⟨Z,ds,S,Q3,E3,h1,_,h3,_,_⟩:=z_1;rw [←h1.len];exact len _ _ _ _ h3) fun A outer s H vs Q E hr ⟨Z,ds,S3,Q3,E3,h1,h2,h3,h4,h5⟩=>?_,b,F.kp,m⟩
  obtain ⟨t,Q',W',ht,q,hw,hx⟩:=hbody f cdv A outer s H E ds S3 Q3 E3 hr h3
  refine ⟨_,ht (zxE Z W' h2.old fun C a S' H' kk l ha z=>h5 C a S' H' kk l ha (hx _ _ _ z)),_,start3 N ds,S3,?_,h2.into,q,⟨?_,?_,?_,?_⟩⟩
  · unfold start3 L2.start
    rw [h1.len]
    exact zbe (SR.ofRps h1) (SR.nones _)
  · intro σ S' τ H' kk _ l q'
    exact h4 .non S' .non H' (kk.unhide fun _ z=>z) .non (l.out h2 kk) (hw _ _ q')
  · exact fun _ _ _ _ _ _ _ z=>z
  · exact fun _ _ _ _ _ _ _ z=>z
  · exact fun d S' v H' kk r l q'=>h4 d S' v H' (kk.unhide fun _ z=>z) r (l.out h2 kk) (hw _ _ q')
def vX (A:List D→(D→Prop)→(Addr→Prop)→Prop):Sp3:=fun ds S Q W=>A ds (fun d=>Q d S) fun C=>∀a,W C a S
theorem _root_.EE.Has.valX {A:List D→(D→Prop)→(Addr→Prop)→Prop} (h:Has K mg x st ps) (S:FnScope N ps (defScope st)) (len:∀ds q qx,A ds q qx→ds.length=ps.length)
    (hbody:∀(f:Addr) (cdv:Value) (Ar:Around) (outer:List Env) (s:Shared) (H:Hp) (E:XK) (ds:List D) (q:D→Prop) (qx:Addr→Prop),Room k (Ar.deeper (envOfC x (defScope st) s.heap.objs.size f cdv))→A ds q qx →
      ∃t,PSs3 (cxOf (CX1 P w) P w K mg base N x (defScope st) f cdv Ar outer s H E) (fun _ C _ _=>qx C) (defBody st) t∧t {nx:=fun _ _=>q .non,rt:=fun d _=>q d} (start3 N ds) emp):Cal3 P w K mg base (k+1) x ps (vX A):=by
  have C:Cal3 P w K mg base (k+1) x ps (fun ds S Q E=>S=emp∧∃q qx,A ds q qx∧(∀d S',q d→Q d S')∧∀C a S',qx C→E C a S'):=by
    refine h.cal3x S (fun vs H Q E z_2=>by obtain ⟨_,q,qx,z,_⟩:=z_2;exact len _ _ _ z) fun f cdv Ar outer s H E ds S3 Q E3 hr z=>?_
    obtain ⟨rfl,q,qx,z,hq,hx⟩:=z
    obtain ⟨t,h1,h2⟩:=hbody f cdv Ar outer s H E ds _ _ hr z
    exact ⟨t,fun d _=>q d,fun C _ _=>qx C,h1,h2,hq,hx⟩
  exact C.frame.imp fun ds S Q E z=>⟨emp,S,zgt S,rfl,_,_,z,fun d S1 hq=>⟨emp,zgr _,fun S' h=>zdf h▸hq⟩,fun C a S1 hx=>⟨emp,zgr _,fun S' h=>zdf h▸hx a⟩⟩
theorem pown {qual:Str} {scope:Scope} {f:Addr} {cd:Value} {A:Around} {outer:List Env} {s:Shared} {H:Hp} {E:XK} :
    PassesOwn (model P w) (cxOf (CX1 P w) P w K mg base N qual scope f cd A outer s H E).A (cxOf (CX1 P w) P w K mg base N qual scope f cd A outer s H E).env (cxOf (CX1 P w) P w K mg base N qual scope f cd A outer s H E).xe:=PassesOwn.leaving
end
end E3
namespace E3
open PySem PySem.Spec PyProof.Rows L2 EE
noncomputable abbrev bmVE:List Value:=[.type "ValueError",.type "Exception",.type "BaseException",.type "object"]
theorem zp9 {K:PySem.W.Frag} {h:Heap} {C:Addr} {bmB:List Value} {newId:String} (X:K.In h) (q:PySem.W.excIn K C bmB newId=true) :
    ∃bm N nm qn bs hdct sn sub ab col dd q0 q1 q2 q3 q5 mN,h.get? C=some (excClassObj nm qn C N bs bm hdct sn sub ab col dd q0 q1 q2 q3 q5 newId)∧h.Ns N mN∧mN "__init__"=none∧OwnTail h bmB bm:=by
  unfold PySem.W.excIn at q
  split at q
  · rename_i dd cd sl ho
    split at q
    · rename_i Ca bm q0 q1 q2 q3 n q5 hmr hsz
      simp only [Bool.and_eq_true,beq_iff_eq,Bool.not_eq_true'] at q
      obtain ⟨⟨⟨⟨⟨rfl,rfl⟩,hde⟩,ht⟩,hns⟩,hin⟩:=q
      obtain ⟨nm,bs,mro,ns,qn,hd,sn,sub,ab,col,del⟩:=cd
      dsimp only at hmr hde hns hin
      subst hmr hde
      have hsa:sl=#[q0,q1,q2,q3,some (.builtin n),q5]:=by
        obtain ⟨l⟩:=sl
        simp only at hsz
        rw [hsz]
      subst hsa
      exact ⟨bm,ns,nm,qn,bs,hd,sn,sub,ab,col,dd,q0,q1,q2,q3,q5,_,X _ _ ho,.of_isNs (PySem.W.isNs_of_in X hns),PySem.W.nsMap_none_of_in X hns hin,PySem.W.tail_of_in X ht⟩
    · cases q
  · cases q
section
variable {X:Cx} {x:Str} {C:Addr} {np cpos pos:Pos} {e:Expr} {es:List Expr}
theorem znn {ta:TA} {E:L2.St→XK} (hm:X.mg x=some (.ref C)) (q:PySem.W.excIn X.K C bmVE "ValueError.__new__"=true) (hc:X.calm=true) (hg:Gl X x) (rz:∀τ,RaisesAt X (E τ) τ) (ha:PA X (e::es) ta)
    (hd:(x==("__debug__":Str))=false:=by decide) (he:starEach (e::es) X.env=(false,eval e X.env)::starEach es X.env:=by rfl) (hpl:(backTo cpos (starEach es X.env)).any (·.1)=false:=by rfl) :
    PS X (.Raise (some (.Call (.Name x np) (e::es) [] cpos)) none pos) (fun _ τ H=>ta τ H fun vs H1=>vs.length≤sizeLine∧∀a,H1 a=none→E τ (.ref C) (some a) H1):=by
  intro pins s σ H D I h
  obtain ⟨bm,N,nm,qn,bs,hdct,sn,sub,ab,col,dd,k0,k1,k2,k3,k5,mN,hC,hN,hni,T⟩:=zp9 I.mod.kin q
  refine wpAny_Raise_call_subT (C:=C) (nm:=nm) (q:=qn) (N:=N) (bs:=bs) (bm:=bm) (hdct:=hdct) (sn:=sn) (sub:=sub) (ab:=ab) (col:=col) (dd:=dd) (k0:=k0) (k1:=k1) (k2:=k2) (k3:=k3) (k5:=k5)
    PySem.F.excBase_ValueError (mN:=mN) (T.hasType PySem.F.excBase_ValueError.hasBase) (I.ok.hd hc) (by rw [he];show (false||(backTo cpos (starEach es X.env)).any (·.1))=false;rw [hpl];rfl) hni (zfu I hg hm ⟨rfl,?_⟩ hd)
  have h1:=ha cpos pins s σ H _ I h
  rw [he] at h1 ⊢
  refine Calls.evalArgs_plain (wpAny_mono h1 (fun us s1 ⟨vs,H1,I1,r,hl,z⟩=>?_) fun _ _ y=>y)
  have keep:∀b o,X.base.get? b=some o→s1.heap.get? b=some o:=I1.bk
  refine ⟨rfl,by show us.length≤sizeLine;rw [←r.length];exact hl,keep _ _ hC,hN.keeps keep,T.keeps keep,fun h' a hx=>?_⟩
  exact rz σ pins H1 s1 _ a C us I1 hx rfl rfl (z a (ze9 I1.hok hx.new))
def raise3 (W3:W3T) (C:Addr) (ta:TA3):TS3:=fun _ σ S=>ta σ S fun ds S1=>ds.length≤sizeLine∧∀a,W3 σ C a S1
variable {W3:W3T}
theorem zed {ta:TA3} (hm:X.mg x=some (.ref C)) (q:PySem.W.excIn X.K C bmVE "ValueError.__new__"=true) (hc:X.calm=true) (hg:Gl X x) (ha:PA3 X W3 (e::es) ta)
    (hd:(x==("__debug__":Str))=false:=by decide) (he:starEach (e::es) X.env=(false,eval e X.env)::starEach es X.env:=by rfl) (hpl:(backTo cpos (starEach es X.env)).any (·.1)=false:=by rfl) :
    PS3 X W3 (.Raise (some (.Call (.Name x np) (e::es) [] cpos)) none pos) (raise3 W3 C ta):=fun Z=>PS.imp (znn hm q hc hg Z.rz (ha Z) hd he hpl) fun D τ H z_1=>by obtain ⟨D3,σ,S,hs,hr,ht,hcd⟩:=z_1;exact 
  ⟨σ,S,_,hs,hr,ht,fun ds S1 vs H1 k1 r1 l1 q1=>⟨by rw [←r1.len];exact q1.1,fun a ha=>Z.ce σ τ C a S1 H1 (hs.mono k1) l1 ha (q1.2 a)⟩⟩
def Fmt:D→Str→Prop
  | .str y,z=>z=y∧y.length≤sizeLine
  | .int a,z=>z=toString a∧a.natAbs.log2<1920
  | _,_=>False
def fmt3 (te:TE3):TE3:=fun σ S Q=>te σ S fun d S1=>∃y,Fmt d y∧Q (.str y) S1
theorem e_fmt {te:TE3} (he:PE3 X W3 e te):PE3 X W3 (.FormattedValue e (-1) none pos) (fmt3 te):=by
  rintro Z pins s τ H Q I ⟨σ,S,Q3,hs,hr,ht,hc⟩
  refine wpAny_FormattedValue_plain (wpAny_mono (he Z pins s τ H (fun v H1=>∃y,(v=.str y∧y.length≤sizeLine∨∃a:Int,v=.int a∧y=toString a∧a.natAbs.log2<1920)∧Q (.str y) H1) I ⟨σ,S,_,hs,hr,ht,fun d S1 v H1 k1 r1 l1 q1=>?_⟩) (fun u s1 z=>?_) fun _ _ y=>y)
  · obtain ⟨y,f,q⟩:=q1
    cases r1 with
    | str x=>obtain ⟨rfl,hl⟩:=f;exact ⟨_,.inl ⟨rfl,hl⟩,hc _ S1 _ H1 k1 (.str _) l1 q⟩
    | int a=>obtain ⟨rfl,hl⟩:=f;exact ⟨_,.inr ⟨a,rfl,rfl,hl⟩,hc _ S1 _ H1 k1 (.str _) l1 q⟩
    | _=>exact f.elim
  · obtain ⟨v,H1,I1,r,y,hv,q⟩:=z
    rcases hv with ⟨rfl,hl⟩|⟨a,rfl,rfl,hl⟩
    · obtain ⟨t,rfl⟩:=r
      exact wpAny_formatField_str ⟨.str y,H1,I1,⟨_,rfl⟩,q⟩ ⟨.str y,H1,I1.tok _,⟨_,rfl⟩,q⟩ hl
    · obtain ⟨t,rfl⟩:=r
      exact wpAny_formatField_int hl ⟨.str _,H1,I1.tok _,⟨_,rfl⟩,q⟩
def PF3 (X:Cx) (W3:W3T) (es:List Expr) (t:Str→TE3):Prop:=∀(Z:ZX X W3) (pins:List (Addr×Obj)) (s:Shared) (τ:L2.St) (H:Hp) (Q:VK) (acc:Str),Inv X pins τ H s→lE X.K Z.z (t acc) τ H Q →
  Joins (model X.prog X.w) X.A X.xe (evalEach es X.env) acc (fun out s1=>out.length≤sizeLine∧∃H1,Inv X pins τ H1 s1∧Q (.str out) H1) s
def fnil3 (acc:Str):TE3:=fun _ S Q=>acc.length≤sizeLine∧Q (.str acc) S
def fcons3 (te:TE3) (t:Str→TE3) (acc:Str):TE3:=fun σ S Q=>te σ S fun d S1=>∃y,d=.str y∧(acc++y).length≤sizeLine∧t (acc++y) σ S1 Q
theorem f_nil:PF3 X W3 [] fnil3:=fun Z pins s τ H Q acc I z_2=>by obtain ⟨σ,S,Q3,hs,hr,ht,hc⟩:=z_2;exact ⟨ht.1,H,I,hc _ S _ H (Kp.refl _ _) (.str _) hr ht.2⟩
theorem zh9 {te:TE3} {t:Str→TE3} (he:PE3 X W3 e te) (ht:PF3 X W3 es t):PF3 X W3 (e::es) (fcons3 te t):=by
  rintro Z pins s τ H Q acc I ⟨σ,S,Q3,hs,hr,h,hc⟩
  refine wpAny_mono (he Z pins s τ H (fun v H1=>∃y,v=.str y∧(acc++y).length≤sizeLine∧lE X.K Z.z (t (acc++y)) τ H1 Q) I ⟨σ,S,_,hs,hr,h,fun d S1 v H1 k1 r1 l1 q1=>?_⟩) (fun u s1 z=>?_) fun _ _ y=>y
  · obtain ⟨y,rfl,hl,q⟩:=q1
    cases r1
    exact ⟨y,rfl,hl,σ,S1,Q3,hs.mono k1,l1,q,hc.mono k1⟩
  · obtain ⟨v,H1,I1,r,y,rfl,hl,q⟩:=z
    obtain ⟨t',rfl⟩:=r
    exact ⟨y,t',rfl,hl,ht Z pins s1 τ H1 Q _ I1 q⟩
theorem zo1 {e2:Expr} {t:Str→TE3} (h:PF3 X W3 (e::e2::es) t):PE3 X W3 (.JoinedStr (e::e2::es) pos) (t Str.empty):=by
  intro Z pins s τ H Q I hq
  have j:=h Z pins s τ H Q _ I hq
  refine wpAny_JoinedStr ?_
  have mono:∀(l:List (Sem Value)) (acc:Str) (s:Shared) {R R':Str→Shared→Prop},(∀o s,R o s→R' o s)→Joins (model X.prog X.w) X.A X.xe l acc R s→Joins (model X.prog X.w) X.A X.xe l acc R' s:=by
    intro l
    induction l with
    | nil=>exact fun acc s R R' f q=>f _ _ q
    | cons a l ih=>exact fun acc s R R' f q=>wpAny_mono q (fun v s1 z_3=>by obtain ⟨y,t,e,hl,z⟩:=z_3;exact ⟨y,t,e,hl,ih _ _ f z⟩) fun _ _ z=>z
  exact mono _ _ _ (fun o s1 z_4=>by obtain ⟨hl,H1,I1,q⟩:=z_4;exact ⟨hl,.str o,H1,I1.tok _,⟨_,rfl⟩,q⟩) j
end
section
variable {σ:St3} {S:Hp3} {Q:K3} {te:TE3} {al:TA3} {n b c:St3→Hp3→Prop} {rt:K3} {W3:W3T} {C:Addr}
theorem j_raise (h:al σ S fun ds S1=>ds.length≤sizeLine∧∀a,W3 σ C a S1):raise3 W3 C al ⟨n,rt,b,c⟩ σ S:=h
theorem j_fmt (h:te σ S fun d S1=>∃y,Fmt d y∧Q (.str y) S1):fmt3 te σ S Q:=h
theorem j_fmtS {y:Str} {P:Str→Prop} (hl:y.length≤sizeLine) (q:P y):∃z,Fmt (.str y) z∧P z:=⟨y,⟨rfl,hl⟩,q⟩
theorem j_fnil {acc:Str} (hl:acc.length≤sizeLine) (q:Q (.str acc) S):fnil3 acc σ S Q:=⟨hl,q⟩
theorem j_fcons {t:Str→TE3} {acc:Str} (h:te σ S fun d S1=>∃y,d=.str y∧(acc++y).length≤sizeLine∧t (acc++y) σ S1 Q):fcons3 te t acc σ S Q:=h
end
end E3
namespace E3
open PySem PySem.Spec PyProof.Rows L2 EE
noncomputable abbrev _root_.L2.Cx.caught (X:Cx) (v:Value):Cx:={X with A:=X.A.mark (some v),calm:=false,xe:=fun _ _=>False}
noncomputable abbrev _root_.L2.Cx.tried (X:Cx) (xe:Value→Shared→Prop) (pn:List (Addr×Obj)):Cx:={X with xe:=xe,pn:=pn}
section
variable {X:Cx} {pins pn:List (Addr×Obj)} {τ:L2.St} {H H1:Hp} {s s1:Shared} {a C:Addr} {v:Value} {xe:Value→Shared→Prop}
theorem zlt (ok:X.Ok):(X.caught v).Ok:=⟨ok.mod,ok.kind,ok.glob,ok.blt,ok.above,ok.inj,ok.has,ok.cab,(fun z=>nomatch z),ok.frames,ok.stk,ok.exf,ok.bs,ok.bsz,ok.noex,ok.exfs,ok.funs,ok.frf⟩
theorem zn5 (ok:X.Ok):(X.tried xe pn).Ok:=⟨ok.mod,ok.kind,ok.glob,ok.blt,ok.above,ok.inj,ok.has,ok.cab,ok.hd,ok.frames,ok.stk,ok.exf,ok.bs,ok.bsz,ok.noex,ok.exfs,ok.funs,ok.frf⟩
theorem zgj (I:Inv X pins τ H s):Inv (X.caught v) pins τ H s:=⟨zlt I.ok,I.os,I.bare,I.base,I.loc,I.cell,I.free,I.freeC,I.pin,I.hok,I.len⟩
theorem zcn (ok:X.Ok) (I:Inv (X.caught v) pins τ H s):Inv X pins τ H s:=⟨ok,I.os,I.bare,I.base,I.loc,I.cell,I.free,I.freeC,I.pin,I.hok,I.len⟩
theorem zl9 (I:Inv X pins τ H s):Inv (X.tried xe (X.pn++pins)) [] τ H s:=⟨zn5 I.ok,I.os,I.bare,I.base,I.loc,I.cell,I.free,I.freeC,fun p hp=>I.pin p (by simpa using hp),I.hok,I.len⟩
theorem zb7 {pins':List (Addr×Obj)} (ok:X.Ok) (I:Inv (X.tried xe (X.pn++pins)) pins' τ H s):Inv X pins τ H s:=⟨ok,I.os,I.bare,I.base,I.loc,I.cell,I.free,I.freeC,fun p hp=>I.pin p (List.mem_append_left _ hp),I.hok,I.len⟩
theorem zj9 {D:Ends} {f:Flow} (ok:X.Ok) (h:SP (X.tried xe (X.pn++pins)) [] D f s):SP X pins D f s:=by
  cases f with
  | next=>obtain ⟨σ',H',I,q⟩:=h;exact ⟨σ',H',zb7 ok I,q⟩
  | brk=>obtain ⟨σ',H',I,q⟩:=h;exact ⟨σ',H',zb7 ok I,q⟩
  | cont=>obtain ⟨σ',H',I,q⟩:=h;exact ⟨σ',H',zb7 ok I,q⟩
  | ret u=>obtain ⟨v,σ',H',I,r,q⟩:=h;exact ⟨v,σ',H',zb7 ok I,r,q⟩
structure Hld (X:Cx) (pins:List (Addr×Obj)) (τ:L2.St) (H:Hp) (a C:Addr) (s:Shared):Prop where
  ex:∃(s1:Shared) (H1:Hp) (g:Heap) (hold:List Addr) (a0:Value),Inv X pins τ H1 s1∧Un (frs X.stack) [] H1 H s1.heap g∧HOk X.prog X.w H g∧(∀b∈hold,H b=none∧s1.heap.get? b=none)∧(H a=none∧s1.heap.get? a=none) ∧
    Heap.FlyingW (PySem.W.hideAll g (hold++frs X.stack)) X.stack a (.ref C) a0 s.heap∧g.UpToSlots s.heap∧s.os=s1.os∧AllBare s.gens
theorem Hld.exc (h:Hld X pins τ H a C s):∃o vs,s.heap.get? a=some o∧o.cls=.ref C∧o.data=.fields vs:=by
  obtain ⟨s1,H1,g,hold,a0,I,u,ok,hh,na,fl,us,ho,hb⟩:=h.ex
  obtain ⟨oe,vs,h1,h2,h3,h4⟩:=fl.first
  exact ⟨oe,vs,h1,h2,h3⟩
theorem Hld.no (h:Hld X pins τ H a C s):H a=none:=by
  obtain ⟨s1,H1,g,hold,a0,I,u,ok,hh,na,fl,us,ho,hb⟩:=h.ex
  exact na.1
theorem Hld.un (h:Hld X pins τ H a C s) (o:Option HO) (hO:∀q,o=some q→ObjOk X.prog X.w (upd H a q) s.heap a q):Inv X pins τ (match o with|some q=>upd H a q|none=>H) s:=by
  obtain ⟨s1,H1,g,hold,a0,I,u,ok,hh,na,fl,us,ho,hb⟩:=h.ex
  have I':s.heap=s.heap:=rfl
  have fr:∀b∈frs X.stack,H b=none∧∃o,g.get? b=some o∧∀vs,o.data≠.fields vs:=by
    intro b hb
    obtain ⟨o,e,hn⟩:=(I.stack.mem hb).2
    obtain ⟨sl,e'⟩:=u.slot b o e (I.stkFree b hb) hb (by exact List.not_mem_nil)
    exact ⟨u.free b o e (I.stkFree b hb) (by exact List.not_mem_nil),_,e',hn⟩
  have keep:∀b o,g.get? b=some o→b∉hold→b∉frs X.stack→s.heap.get? b=some o:=fun b o e n1 n2=>fl.1 b o (PySem.W.hideAll_get _ e fun z=>(List.mem_append.mp z).elim n1 n2)
  have slot:∀b o,g.get? b=some o→b∈frs X.stack→∃sl,s.heap.get? b=some {o with slots:=sl}:=fun b o e hb=>by
    obtain ⟨_,o',e',hn⟩:=fr b hb
    rw [e] at e'
    cases e'
    exact us b o e hn
  have nold:∀b o,s1.heap.get? b=some o→b∉hold:=fun b o e z=>by rw [(hh b z).2] at e;cases e
  have na':∀b o,s1.heap.get? b=some o→b≠a:=fun b o e z=>by rw [z,na.2] at e;cases e
  have un:Un (frs X.stack) [] H1 H s1.heap s.heap:=by
    refine ⟨fun b o e n hf hx=>?_,fun b o e n hf hx=>?_,u.free,fun b o e hx=>?_,u.tups,u.frzs,u.tbls⟩
    · exact keep b o (u.keep b o e n hf hx) (nold b o e) hf
    · obtain ⟨sl,e1⟩:=u.slot b o e n hf hx
      obtain ⟨sl',e2⟩:=slot b _ e1 hf
      exact ⟨sl',e2⟩
    · obtain ⟨o',e1⟩:=u.there b o e hx
      by_cases hb:b∈frs X.stack
      · obtain ⟨sl,e2⟩:=slot b _ e1 hb
        exact ⟨_,e2⟩
      · exact ⟨_,keep b _ e1 (nold b o e) hb⟩
  have hok:HOk X.prog X.w H s.heap:=by
    intro b o e
    refine (ok b o e).stay (fun c u hc q=>?_) (fun _ q=>q) fun _ _ q=>q
    have hcH:H c≠Option.none:=by
      rcases hc with rfl|z
      · rw [e];simp
      · rw [z];simp
    exact keep c u q (fun z=>hcH (hh c z).1) fun z=>hcH (fr c z).1
  cases o with
  | none=>exact I.call' ho un hok hb fun _ z=>nomatch z
  | some q =>
    have n1:∀b o,H b=some o→b≠a:=fun b o e z=>by rw [z,na.1] at e;cases e
    refine I.call' ho ⟨un.keep,un.slot,fun b o e n hx=>?_,un.there,fun b xs e=>?_,fun b o u e=>?_,fun b ps e=>?_⟩ (fun b o e=>?_) hb fun _ z=>nomatch z
    · show upd H a q b=Option.none
      rw [zan (na' b o e)]
      exact un.free b o e n hx
    · show upd H a q b=_
      rw [zan (n1 b _ (un.tups b xs e))]
      exact un.tups b xs e
    · show upd H a q b=_
      rw [zan (n1 b _ (un.frzs b o u e))]
      exact un.frzs b o u e
    · obtain ⟨more,e1⟩:=un.tbls b ps e
      refine ⟨more,?_⟩
      show upd H a q b=_
      rw [zan (n1 b _ e1)]
      exact e1
    · have e:upd H a q b=some o:=e
      by_cases hb:b=a
      · subst hb
        rw [za6] at e
        cases e
        exact hO _ rfl
      · rw [zan hb] at e
        refine (hok b o e).stay (fun c u hc q=>q) (fun c z=>?_) fun c xs z=>?_
        · show upd H a q c=_
          rw [zan (n1 c _ z)]
          exact z
        · show upd H a q c=_
          rw [zan (n1 c _ z)]
          exact z
theorem Hld.inv (h:Hld X pins τ H a C s):Inv X pins τ H s:=h.un none fun _ z=>nomatch z
theorem Hld.as (h:Hld X pins τ H a C s):Inv X pins τ (upd H a (.ext (ExcOf a C))) s:=by
  obtain ⟨o,vs,h1,h2,h3⟩:=h.exc
  refine h.un (some _) fun q e=>?_
  cases e
  refine ⟨⟨o,h1,h2,vs,_,h3,rfl⟩,⟨o,h1⟩,fun h1 h2 z_1 k=>by obtain ⟨o,e,c,vs,n,d,hn⟩:=z_1;exact ⟨o,k o e,c,vs,n,d,hn⟩⟩
theorem Hld.lands {M:Model} {A:Around} {E:Value→Shared→Prop} {Q:Unit→Shared→Prop} (h:Hld X pins τ H a C s) (k:∀s',Hld X pins τ H a C s'→Q () s'):wpAny M A (setFlight (.ref a) none) Q E s:=by
  obtain ⟨s1,H1,g,hold,a0,I,u,ok,hh,na,fl,us,ho,hb⟩:=h.ex
  exact lands_againW fl fun h' fl' us'=>k _ ⟨s1,H1,g,hold,a0,I,u,ok,hh,na,fl',us.trans us',ho,hb⟩
theorem zl2 {E:XK} {e:Value} {s':Shared} {M:Model} {Ex:Value→Shared→Prop} {Q:Unit→Shared→Prop} (hst:X.stack=X.env::X.outer) (hf:X.env.frame=some X.env.locals) (I:Inv X pins τ H1 s1) (cx:CX1 X.prog X.w X.stack H1 s1 E e s')
    (k:∀a C H s5,e=.ref a→E (.ref C) (some a) H→Hld X pins τ H a C s5→Q () s5) :
    wpAny M X.A (noteFrame e X.env) (fun _ s2=>wpAny M X.A (setFlight e none) Q Ex s2) Ex s':=by
  obtain ⟨a,C,T,H',he,hos,hb,u,hok,fly,ha,hT,na,nT,z⟩:=cx
  subst he
  have I':=I.call' hos u hok hb fun _ z=>nomatch z
  have all:=I'.stack
  obtain ⟨oe,vs,a0,e1,e2,e3,e4,e5⟩:=fly.exc
  obtain ⟨oT,ts,t1,t2,t3⟩:=fly.tb
  have hl:∀env∈X.stack,∀b,env.frame=some b→b∈[a,T]++frs X.stack:=fun env he b hb=>List.mem_append_right _ (List.mem_filterMap.mpr ⟨env,he,hb⟩)
  have fl:Heap.FlyingW (PySem.W.hideAll s'.heap ([a,T]++frs X.stack)) X.stack a (.ref C) a0 s'.heap:=⟨fun b o q=>PySem.W.of_hideAll _ q,PySem.W.hideAll_none _ (by simp),PySem.W.funFrames_hide all hl,
    oe,vs,T,oT,ts,e1,⟨e2,e4⟩,e3,e5,PySem.W.hideAll_none _ (by simp),fly.ne,t1,t2,t3⟩
  have fl':=fl
  rw [hst] at fl'
  refine wpAny_looks_onW (by rw [I.ok.frames,hst]) hf fl' fun h4 held us4=>?_
  refine wpAny_landsW held fun h5 fl5 us5=>?_
  rw [←hst] at fl5
  refine k a C H' _ rfl z ⟨s1,H1,s'.heap,[a,T],a0,I,u,hok,fun b hb=>?_,⟨ha,na⟩,fl5,us4.trans us5,hos,hb⟩
  rcases List.mem_cons.mp hb with rfl|hb
  · exact ⟨ha,na⟩
  · rcases List.mem_cons.mp hb with rfl|hb
    · exact ⟨hT,nT⟩
    · cases hb
theorem zkj {args:List Value} {s3:Shared} {M:Model} {Ex:Value→Shared→Prop} {Q:Unit→Shared→Prop} (hst:X.stack=X.env::X.outer) (hf:X.env.frame=some X.env.locals) (I:Inv X pins τ H1 s1) (hx:Heap.MadeExcOf s1.heap s3.heap a (.ref C) args)
    (ho:s3.os=s1.os) (hg:s3.gens=s1.gens) (k:∀s5,Hld X pins τ H1 a C s5→Q () s5) :
    wpAny M X.A (noteFrame (.ref a) X.env) (fun _ s2=>wpAny M X.A (setFlight (.ref a) none) Q Ex s2) Ex s3:=by
  obtain ⟨t,he,htn,ht⟩:=hx.there
  have all:=I.stack
  have hl:∀env∈X.stack,∀b,env.frame=some b→b∈[]++frs X.stack:=fun env he b hb=>List.mem_append_right _ (List.mem_filterMap.mpr ⟨env,he,hb⟩)
  have ff:=PySem.W.funFrames_hide (as:=[]++frs X.stack) all hl
  have fresh:∀b,s1.heap.get? b=none→(PySem.W.hideAll s1.heap ([]++frs X.stack)).get? b=none:=fun b hb=>by
    cases q:(PySem.W.hideAll s1.heap ([]++frs X.stack)).get? b with
    | none=>rfl
    | some o=>have:=PySem.W.of_hideAll _ q;rw [hb] at this;cases this
  have ff':=ff
  rw [hst] at ff'
  unfold noteFrame
  simp only [hf]
  refine wpAny_bind (wpAny_field he rfl (x:=.none) rfl ?_)
  rw [if_neg (by decide)]
  refine wpAny_entryW (base:=PySem.W.hideAll s1.heap ([]++frs (X.env::X.outer))) (outer:=X.outer) (by rw [I.ok.frames,hst]) ?_ hf he (fun b o hb=>?_) ?_ rfl (by simp) (a0:=.ref t) rfl fun h4 ⟨n1,n2,n3,n4⟩=>?_
  · rw [←hst]
    exact ff.of_keeps fun b o hb _=>⟨o,hx.keeps b o hb,rfl⟩
  · rw [←hst] at hb
    exact hx.keeps b o (PySem.W.of_hideAll _ hb)
  · rw [←hst]
    exact fresh a hx.new
  · refine wpAny_landsW (base:=PySem.W.hideAll s1.heap ([]++frs (X.env::X.outer))) (l:=X.env::X.outer) (L:=X.env.locals) (cls:=.ref C) (a0:=.ref t) ⟨n1,by rw [←hst];exact fresh a hx.new,n2,n3⟩ fun h5 fl5 us5=>?_
    rw [←hst] at fl5
    have hbare:AllBare s3.gens:=by rw [hg];exact I.bare
    have hno:∀b∈([]:List Addr),H1 b=Option.none∧s1.heap.get? b=Option.none:=fun b hb=>absurd hb List.not_mem_nil
    exact k _ ⟨s1,H1,s1.heap,[],.ref t,I,Un.refl,I.hok,hno,⟨ze9 I.hok hx.new,hx.new⟩,fl5,((Heap.UpToSlots.of_keeps hx.keeps).trans n4).trans us5,ho,hbare⟩
end
end E3
namespace E3
open PySem PySem.Spec PyProof.Rows L2 EE
theorem ziz {K:PySem.W.Frag} {M:Model} {A:Around} {E:Value→Shared→Prop} {s:Shared} {a C Dc:Addr} {o:Obj} {b:Bool} {Q:Bool→Shared→Prop} (X:K.In s.heap) (h1:s.heap.get? a=some o) (h2:o.cls=.ref C) (hk:PySem.W.kitCls K (.ref C) (.ref Dc)=some b)
    (hb:PySem.W.kitCls K (.ref Dc) (.type "BaseException")=some true) (q:Q b s):wpAny M A (excMatches (.ref a) (.ref Dc)) Q E s:=by
  obtain ⟨t1,t2,t3⟩:=PySem.W.kit_cls (M:=M) X hk
  obtain ⟨_,_,t4⟩:=PySem.W.kit_cls (M:=M) X hb
  have LI:PySem.W.Looks M s.heap (isInstance (.ref Dc) (.type "tuple")) false:=t1.andThen (PySem.W.Looks.of_pure tc_notTuple)
  have LE:PySem.W.Looks M s.heap (isExcClass (.ref Dc)) true:=t2.andThen (by simpa using t4)
  have LT:PySem.W.Looks M s.heap (typeOf (.ref a)) (.ref C):=h2▸(PySem.W.Looks.ld h1).andThen .now
  unfold excMatches
  refine wpAny_bind (LI.here ?_)
  rw [if_neg (by decide)]
  refine wpAny_bind (wpAny_pure ?_)
  dsimp only
  rw [List.forIn_cons]
  refine wpAny_bind (wpAny_bind (wpAny_bind (LE.here ?_)))
  rw [if_neg (by decide)]
  refine wpAny_pure ?_
  dsimp only
  rw [List.forIn_nil]
  refine wpAny_pure (wpAny_bind (LT.here ?_))
  rw [List.forIn_cons]
  refine wpAny_bind (wpAny_bind (wpAny_bind (t3.here ?_)))
  cases b
  · rw [if_neg (by decide)]
    refine wpAny_pure ?_
    dsimp only
    rw [List.forIn_nil]
    exact wpAny_pure (wpAny_pure q)
  · rw [if_pos rfl]
    exact wpAny_pure (wpAny_pure (wpAny_pure q))
section
variable {X:Cx} {W3:W3T} {pins:List (Addr×Obj)} {τ:L2.St} {H:Hp} {s:Shared}
theorem SR.setNone {K:PySem.W.Frag} {H:Hp}:∀{σ:St3} {τ:L2.St} (i:Nat),SR K H σ τ→SR K H (σ.set i none) (τ.set i none)
  | _,_,_,.nil=>.nil
  | _,_,0,.cons _ t=>.cons (fun e he=>by cases he) t
  | _,_,i+1,.cons q t=>.cons q (SR.setNone i t)
theorem name_goes {M:Model} {A:Around} {E:Value→Shared→Prop} {i:Nat} {x:Str} {pos:Pos} {Q:Unit→Shared→Prop} (I:Inv X pins τ H s) (hN:X.N.Nodup) (hi:X.N[i]?=some x) (hk:X.env.scope.names.lookup x=some .local) (h:∀s',Inv X pins (τ.set i none) H s'→Q () s') :
    wpAny M A (do bindName X.env x .none;unbindBehindTheSuite X.env x pos) Q E s:=by
  obtain ⟨m,hn,hl⟩:=id I.loc
  have hcls:(X.env.scope.kind == .class||(X.env.scope.kind == .module&&X.env.locals != X.env.globals))=false:=by rw [I.ok.kind];rfl
  obtain ⟨oL,_,_,hoL,_⟩:=id hn
  refine wpAny_nameGoes_keeps hk hn hcls fun h' v hn' hs=>h _ ?_
  have ne:∀b o,X.s₀.heap.get? b=some o→b≠X.env.locals:=fun b o e=>Nat.ne_of_lt (Nat.lt_of_lt_of_le (Heap.lt_size e) I.ok.above)
  refine ⟨I.ok,I.os,I.bare,⟨fun b o e n hb hx=>?_,fun b o e n hb hx=>?_,I.base.free,fun b o e hx=>?_,I.base.tups,I.base.frzs,I.base.tbls⟩,⟨_,hn',fun j y v' e1 e2 e3=>?_⟩,fun y c e=>?_,I.free,I.freeC,fun p hp=>?_,fun b ob e=>?_,by simpa using I.len⟩
  · exact (hs.2 b (ne b o e)).trans (I.base.keep b o e n hb hx)
  · obtain ⟨sl,e1⟩:=I.base.slot b o e n hb hx
    exact ⟨sl,(hs.2 b (ne b o e)).trans e1⟩
  · obtain ⟨o',e1⟩:=I.base.there b o e hx
    exact ⟨o',(hs.2 b (ne b o e)).trans e1⟩
  · by_cases hj:j=i
    · subst hj
      rw [List.getElem?_set] at e2
      simp at e2
    · rw [List.getElem?_set_ne (Ne.symm hj)] at e2
      obtain ⟨u',r',q⟩:=hl j y v' e1 e2 e3
      refine ⟨u',r',?_⟩
      rcases q with ⟨k,e⟩|⟨k,c,e,z⟩
      · refine .inl ⟨k,?_⟩
        have:y≠x:=fun e=>hj (zg8 hN e1 (e▸hi))
        simp [this,e]
      · exact .inr ⟨k,c,e,z.sameBut hs (I.cne y c e)⟩
  · obtain ⟨w',z⟩:=I.cell y c e
    exact ⟨w',z.sameBut hs (I.cne y c e)⟩
  · obtain ⟨e,n,ne,nf,d⟩:=I.pin p hp
    exact ⟨(hs.2 p.1 ne).trans e,n,ne,nf,d⟩
  · refine (I.hok b ob e).stay (fun c w' hc q=>(hs.2 c ?_).trans q) (fun _ q=>q) fun _ _ q=>q
    rintro rfl
    have hfree:=I.free
    rcases hc with rfl|hc
    · rw [hfree] at e;cases e
    · rw [hfree] at hc;cases hc
def PH3 (X:Cx) (hs:List ExceptHandler) (r:Ends3→W3T):Prop:=∀(z:Zt) (pins:List (Addr×Obj)) (s:Shared) (τ:L2.St) (σ:St3) (H:Hp) (S:Hp3) (D:Ends) (D3:Ends3) (a C:Addr),Hld X pins τ H a C s→SR X.K H σ τ→Rl X.K z S H→CD X.K z H D3 D→r D3 σ C a S →
  wpAny (model X.prog X.w) X.A (handleBy (.ref a) X.env hs) (SP X pins D) X.xe s
theorem h_nil:PH3 X [] (fun _ _ _ _ _=>False):=fun _ _ _ _ _ _ _ _ _ _ _ _ _ _ _ h=>h.elim
def hAs (K:PySem.W.Frag) (Dc:Addr) (i:Nat) (t:TS3) (r:Ends3→W3T):Ends3→W3T:=fun D3 σ C a S=>∃b,PySem.W.kitCls K (.ref C) (.ref Dc)=some b ∧
  if b=true then S a=none→t {nx:=fun σ' S'=>D3.nx (σ'.set i none) S',rt:=D3.rt,bk:=fun σ' S'=>D3.bk (σ'.set i none) S',ct:=fun σ' S'=>D3.ct (σ'.set i none) S'} (σ.set i (some (.ref a))) (up S a (.exc C)) else r D3 σ C a S
variable {x n:Str} {Dc:Addr} {i:Nat} {np pos:Pos} {b0:Stmt} {suite:List Stmt} {rest:List ExceptHandler} {t:TS3} {r:Ends3→W3T}
theorem h_as (hm:X.mg x=some (.ref Dc)) (hb:PySem.W.kitCls X.K (.ref Dc) (.type "BaseException")=some true) (hg:Gl X x) (hN:X.N.Nodup) (hi:X.N[i]?=some n) (hl:X.env.scope.names.lookup n=some .local)
    (ht:∀v,PSs3 (X.caught v) NoX (b0::suite) t) (hr:PH3 X rest r) (hd:(x==("__debug__":Str))=false:=by decide):PH3 X (.ExceptHandler (some (.Name x np)) (some n) (b0::suite) pos::rest) (hAs X.K Dc i t r):=by
  intro z pins s τ σ H S D D3 a C hld hs l cd h
  obtain ⟨b,hk,h⟩:=h
  have I:=hld.inv
  obtain ⟨o,vs,h1,h2,h3⟩:=hld.exc
  refine wpAny_handleBy_cons (codeAny_handlers_test (zfu (X:=X.caught (.ref a)) (zgj I) hg hm (ziz I.kIn h1 h2 hk hb ?_) hd)) (by intro q;cases q)
  cases b with
  | false=>exact hr z pins s τ σ H S D D3 a C hld hs l cd h
  | true =>
    have hn:=hld.no
    have hS:S a=none:=(l.fresh hn).1
    have hz:¬z a:=(l.fresh hn).2
    have h:=h hS
    have kp:Kp z H (upd H a (.ext (ExcOf a C))):=Kp.new hn hz
    refine codeAny_handlers_suite_as (hld.lands fun s6 h6=>?_)
    refine zgs (X:=X.caught (.ref a)) (v:=.ref a) (zgj h6.as) hN hi (.inl hl) rfl (fun s7 I7=>?_) (.inr hl)
    have go:=ht (.ref a) (ZX.no _ z) pins s7 _ _ {nx:=fun τ' H'=>D.nx (τ'.set i none) H',rt:=D.rt,bk:=fun τ' H'=>D.bk (τ'.set i none) H',ct:=fun τ' H'=>D.ct (τ'.set i none) H'} I7
      ⟨_,_,_,(hs.mono kp).set (.ref a) i,l.put (o:=.exc C) kp hz (show upd H a (.ext (ExcOf a C)) a=some (.ext (ExcOf a C)) from za6),h,
        ⟨fun σ' S' τ' H' k' s' l' q'=>cd.nx _ S' _ H' (kp.trans k') (s'.setNone i) l' q',fun σ' S' τ' H' k' s' l' q'=>cd.bk _ S' _ H' (kp.trans k') (s'.setNone i) l' q',
          fun σ' S' τ' H' k' s' l' q'=>cd.ct _ S' _ H' (kp.trans k') (s'.setNone i) l' q',fun d S' v H' k' r' l' q'=>cd.rt d S' v H' (kp.trans k') r' l' q'⟩⟩
    refine wpAny_mono go (fun f s8 q=>?_) fun _ _ z=>z.elim
    cases f with
    | next=>obtain ⟨τ',H',I8,q⟩:=q;exact name_goes (zcn I.ok I8) hN hi hl fun s9 I9=>⟨_,H',I9,q⟩
    | brk=>obtain ⟨τ',H',I8,q⟩:=q;exact name_goes (zcn I.ok I8) hN hi hl fun s9 I9=>⟨_,H',I9,q⟩
    | cont=>obtain ⟨τ',H',I8,q⟩:=q;exact name_goes (zcn I.ok I8) hN hi hl fun s9 I9=>⟨_,H',I9,q⟩
    | ret u=>obtain ⟨v,τ',H',I8,rv,q⟩:=q;exact name_goes (zcn I.ok I8) hN hi hl fun s9 I9=>⟨v,_,H',I9,rv,q⟩
def try3 (tb:W3T→TS3) (r:Ends3→W3T):TS3:=fun D3 σ S=>tb (r D3) D3 σ S
theorem zm4 {K:PySem.W.Frag} {Z:Zt} {S S':Hp3} {H H':Hp} {D3:Ends3} {D:Ends} (l:Rl K Z S H) (hc:CD K Z H D3 D) (l':Rl K (Z.at H) S' H'):CD K (Z.at H) H' D3 D:=by
  have k0:Kp Z H H':=l'.old.unhide fun _ z=>z
  have out:∀{S2:Hp3} {H2:Hp},Kp (Z.at H) H' H2→Rl K (Z.at H) S2 H2→Kp Z H H2∧Rl K Z S2 H2:=fun k l2=>⟨k0.trans (k.unhide fun _ z=>z),l2.out l (l'.old.trans k)⟩
  exact ⟨fun σ' S2 τ' H2 k s2 l2 q=>hc.nx _ _ _ _ (out k l2).1 s2 (out k l2).2 q,fun σ' S2 τ' H2 k s2 l2 q=>hc.bk _ _ _ _ (out k l2).1 s2 (out k l2).2 q,fun σ' S2 τ' H2 k s2 l2 q=>hc.ct _ _ _ _ (out k l2).1 s2 (out k l2).2 q,
    fun d S2 v H2 k r l2 q=>hc.rt _ _ _ _ (out k l2).1 r (out k l2).2 q⟩
theorem s_try {body:List Stmt} {h0:ExceptHandler} {hs:List ExceptHandler} {tb:W3T→TS3} (hst:X.stack=X.env::X.outer) (hf:X.env.frame=some X.env.locals)
    (hb:∀xe pn (W:W3T),PSs3 (X.tried xe pn) W body (tb W)) (hh:PH3 X (h0::hs) r):PS3 X W3 (.Try body (h0::hs) [] [] pos) (try3 tb r):=by
  rintro Z pins s τ H D I ⟨D3,σ,S,hsr,l,ht,hc⟩
  refine wpAny_Try_except ?_
  have main:∀τ' a C H' s5 σ' S',Hld X pins τ' H' a C s5→SR X.K H' σ' τ'→Rl X.K (Z.z.at H) S' H'→r D3 σ' C a S'→wpAny (model X.prog X.w) X.A (handleBy (.ref a) X.env (h0::hs)) (SP X pins D) X.xe s5 :=
    fun τ' a C H' s5 σ' S' hld sr l' w=>hh (Z.z.at H) pins s5 τ' σ' H' S' D D3 a C hld sr l' (zm4 l hc l') w
  let xe':Value→Shared→Prop:=fun e s1=>wpAny (model X.prog X.w) X.A (noteFrame e X.env) (fun _ s2=>wpAny (model X.prog X.w) X.A (setFlight e none) (fun _ s3=>wpAny (model X.prog X.w) X.A (handleBy e X.env (h0::hs)) (SP X pins D) X.xe s3) X.xe s2) X.xe s1
  let zx:ZX (X.tried xe' (X.pn++pins)) (r D3):={
    z:=Z.z.at H
    E:=fun τ cv oa H'=>∃C a σ S,cv=.ref C∧oa=some a∧SR X.K H' σ τ∧Rl X.K (Z.z.at H) S H'∧r D3 σ C a S
    pass:=fun τ' pins' H1 s1 e s' I1 cx=>zl2 hst hf (zb7 I.ok I1) cx fun a C H' s5 he hE hld=>by
      subst he
      obtain ⟨C',a',σ',S',e1,e2,sr,l',w⟩:=hE
      cases e1
      cases e2
      exact main τ' a C H' s5 σ' S' hld sr l' w
    rz:=fun τ' pins' H1 s1 s3 a C args I1 hx ho hg hE=>zkj hst hf (zb7 I.ok I1) hx ho hg fun s5 hld=>by
      obtain ⟨C',a',σ',S',e1,e2,sr,l',w⟩:=hE
      cases e1
      cases e2
      exact main τ' a C H1 s5 σ' S' hld sr l' w
    ce:=fun σ τ C a S H' sr l' _ w=>⟨C,a,σ,S,rfl,rfl,sr,l',w⟩}
  refine wpAny_mono (hb xe' (X.pn++pins) (r D3) zx [] s τ H D (zl9 I) ⟨D3,σ,S,hsr,l.into,ht,zm4 l hc l.into⟩) (fun f s1 q=>?_) fun _ _ z=>z
  have q:=zj9 I.ok q
  cases f with
  | next=>exact wpAny_execs_nil q
  | brk=>exact q
  | cont=>exact q
  | ret u=>exact q
end
section
variable {σ:St3} {S:Hp3} {n b c:St3→Hp3→Prop} {rt:K3} {K:PySem.W.Frag} {C Dc a:Addr} {i:Nat} {t:TS3} {r:Ends3→W3T}
theorem j_try {tb:W3T→TS3} (h:tb (r ⟨n,rt,b,c⟩) ⟨n,rt,b,c⟩ σ S):try3 tb r ⟨n,rt,b,c⟩ σ S:=h
theorem j_hit (hk:PySem.W.kitCls K (.ref C) (.ref Dc)=some true) (h:S a=none→t ⟨fun σ' S'=>n (σ'.set i none) S',rt,fun σ' S'=>b (σ'.set i none) S',fun σ' S'=>c (σ'.set i none) S'⟩ (σ.set i (some (.ref a))) (up S a (.exc C))):hAs K Dc i t r ⟨n,rt,b,c⟩ σ C a S:=⟨true,hk,by rw [if_pos rfl];exact h⟩
end
end E3
namespace E3
section
open PySem PySem.Spec PyProof.Rows L2 EE PySem.W Builtin Builtin.ObjectAttr Builtin.Getset_descriptor
theorem zmk {K:PySem.W.Frag} {prog:Program} {w:World} {A:Around} {E:Value→Shared→Prop} {s:Shared} {a C:Addr} {o:Obj} {Q:Option Value→Shared→Prop} (X:K.In s.heap) (h1:s.heap.get? a=some o) (h2:o.cls=.ref C)
    (hga:findIn K (.ref C) "__getattribute__"=some (some (.builtin "BaseException.__getattribute__"))) (hgt:findIn K (.ref C) "__getattr__"=some none) (ha:findIn K (.ref C) "__class__"=some (some (.builtin "object.__class__")))
    (hn:specialIn K (.builtin "object.__class__") "__get__"=some (some (.builtin "getset_descriptor.__get__"))) (htk:takesIn K (.builtin "object.__class__")=some true) (hm:mroIn K C (.type "object")=some true) (hmB:mroIn K C (.type "BaseException")=some true)
    (h:Q (some (.ref C)) {s with toks:=s.toks+1}):wpAny (model prog w) A (getAttr? (.ref a) "__class__") Q E s:=by
  obtain ⟨hh,g,d,t,os⟩:=s
  have L0:Looks (model prog w) hh (typeOf (.ref a)) (.ref C):=h2▸(Looks.ld h1).andThen .now
  have L1:=looks_findIn (M:=model prog w) X hga;have L2:=looks_findIn (M:=model prog w) X hgt
  have LF:Looks (model prog w) hh (Builtin.ObjectAttr.find (.ref a) (.ref C) "__class__") (.bind (.builtin "getset_descriptor.__get__") (.builtin "object.__class__")) :=
    by
    have d1:Looks (model prog w) hh (Builtin.ObjectAttr.dataDescriptor? (some (.builtin "object.__class__")) (some (.builtin "getset_descriptor.__get__"))) (some (.builtin "getset_descriptor.__get__",.builtin "object.__class__")):=by
      have d0:=looks_takesIn (M:=model prog w) X htk
      intro A' Q' E' s' k q
      refine wpAny_bind (d0 A' _ E' s' k ?_)
      rw [if_pos rfl]
      exact wpAny_pure q
    exact (looks_findIn X ha).andThen ((looks_specialIn X hn).andThen (d1.andThen (Looks.tag .now)))
  have Lm:Looks (model prog w) hh (isSubtype (.ref C) (.type "BaseException")) true:=looks_mroIn X hmB
  have Lo:Looks (model prog w) hh (isSubtype (.ref C) (.type "object")) true:=looks_mroIn X hm
  unfold getAttr? getAttrBy? getAttrBy;refine wpAny_bind (wpAny_mkText (wpAny_bind (wpAny_attempt (wpAny_holding (wpAny_bind (L0.at (wpAny_bind (L1.at ?_))))))))
  show wpAny _ _ (getAttrByItsOwn _ _ _ _ _ _) _ _ _
  unfold getAttrByItsOwn
  refine wpAny_bind (L2.at ?_)
  refine wpAny_bind (wpAny_attempt (wpAny_holding ?_))
  show wpAny _ _ (boundAndCalled _ _ _) _ _ _
  unfold boundAndCalled
  rw [F.excAttr_ValueError.ga.bind]
  refine wpAny_bind (wpAny_pure ?_)
  refine wpAny_call (codeAny_call_builtin F.excAttr_ValueError.ga.plain F.entry_bexc_ga ?_)
  have hk:builtinKind "BaseException.__getattribute__"=some .slot:=by decide +kernel
  have hs:splitId "BaseException.__getattribute__"=some ("BaseException","__getattribute__"):=by decide +kernel
  simp only [checkBuiltinCall,hk,hs]
  have LI:Looks (model prog w) hh (isInstance (.ref a) (.type "BaseException")) true:=L0.andThen Lm
  refine wpAny_bind (LI.at ?_)
  simp only [Bool.not_true,Bool.false_eq_true,if_false]
  have fin:∀s1:Shared,s1=⟨hh,g,d,t+1,os⟩→wpAny (model prog w) A (handedOut (.ref C)) (fun a s'=>wpAny (model prog w) A (pure (some a)) Q E s') E s1:=fun s1 e=>by
    subst e
    exact wpAny_pure (wpAny_pure h)
  have get:∀{R:Result→Shared→Prop} {A:Around},R (.ok (.ret (.ref C))) ⟨hh,g,d,t+1,os⟩→codeAny (model prog w) A (.call (.builtin "getset_descriptor.__get__") ⟨[.builtin "object.__class__",.ref a,.ref C],[]⟩) R ⟨hh,g,d,t+1,os⟩:=by
    intro R A hR;refine codeAny_call_builtin KF.slot_gs.plain KF.entry_gs (KF.slot_gs.check _ _ _ _ _ _ _ _ KF.type_class (KF.args_gs _ _ _) ?_);unfold Builtin.«getset_descriptor.__get__» descrGet
    rw [dga_obj]
    refine wpAny_bind (wpAny_pure ?_)
    unfold descrGetter descrCheckInstance descrNameAndClass isInstance;simp only [KF.owner_class];(repeat lk);refine ⟨Code.quiet_builtin _ (by decide +kernel),codeAny_builtin KF.entry_class ?_⟩;unfold Builtin.«object.__class__» shownTypeOf
    repeat lk
    exact hR
  have body:∀{A:Around} {Q:Fin→Shared→Prop} {E:Value→Shared→Prop},Q (.done (.ret (.ref C))) ⟨hh,g,d,t+1,os⟩→wpAny (model prog w) A (Builtin.«object.__getattribute__» ⟨[.ref a,.str "__class__" t],[]⟩) Q E ⟨hh,g,d,t+1,os⟩:=by
    intro A Q E hQ
    unfold Builtin.«object.__getattribute__» slotArgs
    repeat (first|with_reducible refine Looks.at (by assumption) ?_|wp_step)
    exact get (wpAny_pure hQ)
  cases hsig:Manifest.signature? "BaseException.__getattribute__" with
  | none =>
    refine wpAny_pure (body ?_)
    exact wpAny_pure (wpAny_pure h)
  | some sig =>
    have ha:=F.args_bexc_ga (.ref a) (.str "__class__" t)
    simp only [argsOk,hsig] at ha
    have h2:Bind.checkArgs "BaseException.__getattribute__" sig ⟨[.ref a,.str "__class__" t],[]⟩=pure ():=ha
    show wpAny _ _ (Bind.checkArgs "BaseException.__getattribute__" sig ⟨[.ref a,.str "__class__" t],[]⟩) _ _ _
    rw [h2]
    refine wpAny_pure (body ?_)
    exact wpAny_pure (wpAny_pure h)
end
open PySem PySem.Spec PyProof.Rows L2 EE
noncomputable def rfOne (K:PySem.W.Frag) (C:Addr):Bool:=PySem.W.excIn K C bmVE "ValueError.__new__"&&PySem.W.findIn K (.ref C) "__getattribute__"==some (some (.builtin "BaseException.__getattribute__"))&&PySem.W.findIn K (.ref C) "__getattr__"==some none &&
  PySem.W.findIn K (.ref C) "__class__"==some (some (.builtin "object.__class__"))&&PySem.W.specialIn K (.builtin "object.__class__") "__get__"==some (some (.builtin "getset_descriptor.__get__"))&&PySem.W.takesIn K (.builtin "object.__class__")==some true &&
  PySem.W.mroIn K C (.type "object")==some true&&PySem.W.mroIn K C (.type "BaseException")==some true&&PySem.W.kitCls K (.ref C) (.type "BaseException")==some true&&PySem.W.kitCls K (.ref C) (.type "ValueError")==some true&&(PySem.W.clsIn K C).isSome
def AtX (a C:Addr) (h:Heap):Prop:=∃o,h.get? a=some o∧o.cls=.ref C
theorem zha {K:PySem.W.Frag} {a C:Addr} (e:rfOne K C=true):PySem.W.KitX K (.ref a) (.ref C) (AtX a C):=by
  unfold rfOne at e
  simp only [Bool.and_eq_true,beq_iff_eq] at e
  obtain ⟨⟨⟨⟨⟨⟨⟨⟨⟨⟨_,e1⟩,e2⟩,e3⟩,e4⟩,e5⟩,e6⟩,e7⟩,_⟩,_⟩,e8⟩:=e
  obtain ⟨cd,e8⟩:=Option.isSome_iff_exists.mp e8
  unfold PySem.W.clsIn at e8
  split at e8
  · rename_i c' d' cd' sl' ho
    refine ⟨fun M h X p=>?_,fun M h X p=>?_,fun h tp dd its n sl X htp=>?_,fun X p k=>?_⟩
    · obtain ⟨o,h1,h2⟩:=p
      exact h2▸(PySem.W.Looks.ld h1).andThen .now
    · intro A' Q' E' s' k q
      unfold isType loadHead
      exact wpAny_bind (wpAny_loadPart (k _ _ (X _ _ ho)) (wpAny_pure q))
    · refine Bool.eq_false_iff.mpr fun q=>?_
      have e:C=tp:=Value.ref.inj (beq_iff_eq.mp q)
      subst e
      cases (X _ _ ho).symm.trans htp
    · obtain ⟨o,h1,h2⟩:=p
      exact zmk X h1 h2 e1 e2 e3 e4 e5 e6 e7 k
  · cases e8
section
variable {X:Cx}
theorem zhm:∀{cs:List Addr} {us:List Value},Vals (cs.map V.ref) us→us=cs.map Value.ref
  | [],_,.nil=>rfl
  | _::cs,_,.cons r t=>by rw [zhm t,show _=Value.ref _ from r];rfl
def isEV (K:PySem.W.Frag):List V→Hp→VK→Prop:=fun xs H Q=>∃(a C:Addr) (c:V) (b:Bool),xs=[.ref a,c]∧H a=some (.ext (ExcOf a C))∧rfOne K C=true∧Q (.bl b) H ∧
  ((∃Dc,c=.ref Dc∧PySem.W.kitOne K (.ref C) (.ref Dc)=some b)∨(∃n,c=.ty n∧PySem.W.kitOne K (.ref C) (.type n)=some b)∨∃(t:Addr) (cs:List Addr),c=.ref t∧SqT K H t (cs.map V.ref)∧PySem.W.kitAny K (.ref C) (cs.map Value.ref)=some b)
theorem zhi:CallR X (.builtin "isinstance") (isEV X.K):=by
  intro pins s σ H xs us Q I r h
  obtain ⟨a,C,c,b,rfl,hH,e,q,h⟩:=h
  obtain ⟨u,v,rfl,ru,rv⟩:=vals2 r
  cases (show u=Value.ref a from ru)
  have p:AtX a C s.heap:=by
    obtain ⟨⟨o,h1,h2,_⟩,_⟩:=I.hok a _ hH
    exact ⟨o,h1,h2⟩
  rcases h with ⟨Dc,rfl,hk⟩|⟨n,rfl,hk⟩|⟨t,cs,rfl,ht,hk⟩
  · cases (show v=Value.ref Dc from rv)
    exact PySem.W.kia_one (zha e) I.kIn p hk (fun z=>nomatch z) fun tk=>⟨.bl b,H,I.tok _,rfl,q⟩
  · cases (show v=Value.type n from rv)
    exact PySem.W.kia_one (zha e) I.kIn p hk (fun z=>nomatch z) fun tk=>⟨.bl b,H,I.tok _,rfl,q⟩
  · cases (show v=Value.ref t from rv)
    obtain ⟨its,rs,⟨o,h1,h2,n,h3⟩,_⟩:=I.tuple ht
    cases zhm rs
    obtain ⟨oc,od,dt,sl⟩:=o
    cases h2
    cases h3
    exact PySem.W.kia_tup (zha e) I.kIn p h1 hk (fun z=>nomatch z) fun tk=>⟨.bl b,H,I.tok _,rfl,q⟩
end
inductive Rf where
  | err|text|twice|such|count|apart|many|way
  deriving DecidableEq
noncomputable def Rf.nm:Rf→Str
  | .err=>"ErrandError" | .text=>"BadText" | .twice=>"Twice" | .such=>"NoSuch" | .count=>"WrongCount" | .apart=>"Apart" | .many=>"TooMany" | .way=>"NoWay"
noncomputable def Rf.sub (i j:Rf):Bool:=decide (i=j)||decide (j=.err)
structure Rfs (K:PySem.W.Frag) (mg:Str→Option Value) (es:List Rf) (adr:Rf→Addr):Prop where
  bound:∀i∈es,mg i.nm=some (.ref (adr i))
  one:∀i∈es,rfOne K (adr i)=true
  two:∀i∈es,∀j∈es,PySem.W.kitCls K (.ref (adr i)) (.ref (adr j))=some (i.sub j)
section
variable {K:PySem.W.Frag} {mg:Str→Option Value} {es:List Rf} {adr:Rf→Addr} (R:Rfs K mg es adr) {i j:Rf}
include R
theorem Rfs.exc (hi:i∈es):PySem.W.excIn K (adr i) bmVE "ValueError.__new__"=true:=by
  have e:=R.one i hi
  unfold rfOne at e
  simp only [Bool.and_eq_true] at e
  exact e.1.1.1.1.1.1.1.1.1.1
theorem Rfs.base (hi:i∈es):PySem.W.kitCls K (.ref (adr i)) (.type "BaseException")=some true:=by
  have e:=R.one i hi
  unfold rfOne at e
  simp only [Bool.and_eq_true,beq_iff_eq] at e
  exact e.1.1.2
theorem Rfs.val (hi:i∈es):PySem.W.kitOne K (.ref (adr i)) (.type "ValueError")=some true:=by
  have e:=R.one i hi
  unfold rfOne at e
  simp only [Bool.and_eq_true,beq_iff_eq] at e
  unfold PySem.W.kitOne
  rw [if_neg (by intro z;cases beq_iff_eq.mp z)]
  exact e.1.2
theorem Rfs.is (hi:i∈es) (hj:j∈es):PySem.W.kitOne K (.ref (adr i)) (.ref (adr j))=some (i.sub j):=by
  unfold PySem.W.kitOne
  have h:=R.two i hi j hj
  split
  · rename_i z
    have e:adr i=adr j:=Value.ref.inj (beq_iff_eq.mp z)
    rw [←e,R.two i hi i hi] at h
    rw [←h]
    unfold Rf.sub
    simp
  · exact h
theorem Rfs.any (hi:i∈es):∀{js:List Rf},(∀j∈js,j∈es)→PySem.W.kitAny K (.ref (adr i)) ((js.map adr).map Value.ref)=some (js.any fun j=>i.sub j)
  | [],_=>rfl
  | j::js,h=>by
    have hr:=Rfs.any hi (js:=js) fun k hk=>h k (.tail _ hk)
    simp only [List.map_cons,PySem.W.kitAny,R.is hi (h j (.head _)),List.any_cons]
    cases i.sub j
    · exact hr
    · rfl
end
def isE3 (es:List Rf) (adr:Rf→Addr):List D→Hp3→K3→Prop:=fun xs S Q=>∃a i c b,xs=[.ref a,c]∧S a=some (.exc (adr i))∧i∈es∧Q (.bl b) S ∧
  ((∃j∈es,c=.ref (adr j)∧b=i.sub j)∨(c=.ty "ValueError"∧b=true)∨∃js:List Rf,(∀j∈js,j∈es)∧c=.tup (js.map fun j=>.ref (adr j))∧b=js.any fun j=>i.sub j)
theorem zjs {K:PySem.W.Frag} {H:Hp} {adr:Rf→Addr}:∀{js:List Rf} {vs:List V},Rps K H (js.map fun j=>D.ref (adr j)) vs→vs=(js.map adr).map V.ref
  | [],_,.nil=>rfl
  | _::js,_,.cons (.ref _) q=>by rw [zjs q];rfl
theorem zmt {K:PySem.W.Frag} {mg:Str→Option Value} {es:List Rf} {adr:Rf→Addr} (R:Rfs K mg es adr):DnC K (isE3 es adr) (isEV K):=by
  intro Z ds S Q3 vs H Q r l h c
  obtain ⟨a,i,x,b,rfl,hS,hi,q,h⟩:=h
  cases r with
  | cons r rr =>
    cases rr with
    | cons r2 rr =>
      cases rr
      cases r
      refine ⟨a,adr i,_,b,rfl,l.obj a _ hS,R.one i hi,c _ S _ H (Kp.refl _ _) (.bl _) l q,?_⟩
      rcases h with ⟨j,hj,rfl,rfl⟩|⟨rfl,rfl⟩|⟨js,hj,rfl,rfl⟩
      · cases r2
        exact .inl ⟨_,rfl,R.is hi hj⟩
      · cases r2
        exact .inr (.inl ⟨_,rfl,R.val hi⟩)
      · cases r2 with
        | tup h1 h2 =>
          cases zjs h2
          exact .inr (.inr ⟨_,js.map adr,rfl,h1,R.any hi hj⟩)
section
variable {S:Hp3} {Q:K3} {es:List Rf} {adr:Rf→Addr} {a:Addr} {i j:Rf}
theorem j_isE (hS:S a=some (.exc (adr i))) (hi:i∈es) (hj:j∈es) (q:Q (.bl (i.sub j)) S):isE3 es adr [.ref a,.ref (adr j)] S Q:=⟨a,i,_,_,rfl,hS,hi,q,.inl ⟨j,hj,rfl,rfl⟩⟩
theorem j_isEV (hS:S a=some (.exc (adr i))) (hi:i∈es) (q:Q (.bl true) S):isE3 es adr [.ref a,.ty "ValueError"] S Q:=⟨a,i,_,_,rfl,hS,hi,q,.inr (.inl ⟨rfl,rfl⟩)⟩
theorem j_isET (js:List Rf) (hS:S a=some (.exc (adr i))) (hi:i∈es) (hj:∀j∈js,j∈es) (q:Q (.bl (js.any fun j=>i.sub j)) S):isE3 es adr [.ref a,.tup (js.map fun j=>.ref (adr j))] S Q:=⟨a,i,_,_,rfl,hS,hi,q,.inr (.inr ⟨js,hj,rfl,rfl⟩)⟩
end
noncomputable def rfAll (K:PySem.W.Frag) (l:List (Rf×Addr)):Bool:=l.all fun p=>rfOne K p.2&&l.all fun q=>PySem.W.kitCls K (.ref p.2) (.ref q.2)==some (p.1.sub q.1)
noncomputable def adrOf (l:List (Rf×Addr)) (i:Rf):Addr:=(l.lookup i).getD 0
theorem lookup_mem {i:Rf}:∀{l:List (Rf×Addr)},i∈l.map (·.1)→(i,adrOf l i)∈l
  | (j,b)::l,h=>by
    unfold adrOf
    by_cases e:i=j
    · subst e
      simp [List.lookup]
    · have:(i==j)=false:=by simpa using e
      rw [List.lookup,this]
      rcases List.mem_cons.mp h with z|z
      · exact absurd z e
      · exact .tail _ (lookup_mem (l:=l) z)
theorem rfs_mk {K:PySem.W.Frag} {mg:Str→Option Value} {l:List (Rf×Addr)} (h:rfAll K l=true) (hm:∀i∈l.map (·.1),mg i.nm=some (.ref (adrOf l i))):Rfs K mg (l.map (·.1)) (adrOf l):=by
  unfold rfAll at h
  simp only [List.all_eq_true,Bool.and_eq_true,beq_iff_eq] at h
  exact ⟨hm,fun i hi=>(h _ (lookup_mem hi)).1,fun i hi j hj=>(h _ (lookup_mem hi)).2 _ (lookup_mem hj)⟩
end E3
namespace E3
open PySem PySem.Spec PyProof.Rows L2 EE
section
variable {P:Program} {w:World} {K:PySem.W.Frag} {mg:Str→Option Value} {base:Heap} {x:Str} {st:Stmt} {N ps:List Str} {k:Nat}
theorem Cal3.dropX {sp:Sp3} (C:Cal3 P w K mg base k x ps sp):Cal3 P w K mg base k x ps (fun ds S Q E=>sp ds S (fun d S1=>∃S2,Sub S2 S1∧Q d S2) fun C a S1=>∃S2,Sub S2 S1∧E C a S2):=by
  obtain ⟨f,fd,F0,r⟩:=C.ex
  refine ⟨f,fd,F0.imp fun vs H Q E ⟨Z,ds,S,Q3,E3,h1,l,h3,cq,ce⟩=>⟨Z,ds,S,_,_,h1,l,h3,?_,?_⟩,r⟩
  · rintro d S1 v H' k1 r1 l1 ⟨S2,hsub,q⟩
    exact cq d S2 v H' k1 r1 (l1.sub hsub) q
  · rintro C a S1 H' k1 l1 ha ⟨S2,hsub,q⟩
    exact ce C a S2 H' k1 (l1.sub hsub) ha q
def rdX (A:List D→Hp3→(D→Prop)→(Addr→Prop)→Prop):Sp3:=fun ds S Q W=>A ds S (fun d=>Q d S) fun C=>∀a,W C a S
theorem _root_.EE.Has.rdX {A:List D→Hp3→(D→Prop)→(Addr→Prop)→Prop} (h:Has K mg x st ps) (S:FnScope N ps (defScope st)) (len:∀ds S q qx,A ds S q qx→ds.length=ps.length)
    (hbody:∀(f:Addr) (cdv:Value) (Ar:Around) (outer:List Env) (s:Shared) (H:Hp) (E:XK) (ds:List D) (S:Hp3) (q:D→Prop) (qx:Addr→Prop),Room k (Ar.deeper (envOfC x (defScope st) s.heap.objs.size f cdv))→A ds S q qx →
      ∃t,PSs3 (cxOf (CX1 P w) P w K mg base N x (defScope st) f cdv Ar outer s H E) (fun _ C _ S'=>Sub S S'∧qx C) (defBody st) t∧t {nx:=fun _ S'=>Sub S S'∧q .non,rt:=fun d S'=>Sub S S'∧q d} (start3 N ds) S):Cal3 P w K mg base (k+1) x ps (rdX A):=by
  have C:Cal3 P w K mg base (k+1) x ps (fun ds S Q E=>∃q qx,A ds S q qx∧(∀d S',Sub S S'∧q d→Q d S')∧∀C a S',Sub S S'∧qx C→E C a S'):=by
    refine h.cal3x S (fun vs H Q E z_1=>by obtain ⟨q,qx,z,_⟩:=z_1;exact len _ _ _ _ z) fun f cdv Ar outer s H E ds S3 Q E3 hr ⟨q,qx,z,hq,hx⟩=>?_
    obtain ⟨t,h1,h2⟩:=hbody f cdv Ar outer s H E ds S3 _ _ hr z
    exact ⟨t,fun d S'=>Sub S3 S'∧q d,fun C _ S'=>Sub S3 S'∧qx C,h1,h2,hq,hx⟩
  exact C.dropX.imp fun ds S Q E z=>⟨_,_,z,fun d S1 hq=>⟨S,hq.1,hq.2⟩,fun C a S1 hx=>⟨S,hx.1,hx.2 a⟩⟩
end
end E3
namespace E3
open PySem PySem.Spec PyProof.Rows L2 EE
end E3
namespace E3
open PySem PySem.Spec PyProof.Rows L2 EE
section
variable {X:Cx} {W3:W3T}
def notinA (Q:K3) (x y:D) (S:Hp3):Prop:=(∃a kvs k,x=.ref a∧S a=some (.dic kvs)∧y=kD k∧Q (.bl (!(valD kvs k).isSome)) S)∨∃ds,x=.tup ds∧flatD y=true∧ds.all flatD=true∧Q (.bl (!memD y ds)) S
def notin3 (ty td:TE3):TE3:=fun σ S Q=>ty σ S fun y S1=>td σ S1 fun x S2=>notinA Q x y S2
theorem iteBt {b:Bool} {A B:Prop} (h:b=true) (q:A):if b=true then A else B:=by rw [if_pos h];exact q
theorem iteBf {b:Bool} {A B:Prop} (h:b=false) (q:B):if b=true then A else B:=by rw [if_neg (by rw [h];exact Bool.false_ne_true)];exact q
end
end E3
namespace E3
open PySem PySem.Spec PyProof.Rows L2 EE
theorem zag {n:Nat} (h:n≤1000000):n≤sizeLine:=Nat.le_trans h (by decide)
theorem zd4 {n:Nat} (h:n≤1000000):n<sizeLine:=Nat.lt_of_le_of_lt h (by decide)
theorem zm7 {α:Type} {xs:List α} {i:Int} {v:α} (h0:0≤i) (h:xs[i.toNat]?=some v):atI xs i=some v:=by
  have e:i=((i.toNat:Nat):Int):=by omega
  rw [e]
  exact zc5 h
theorem atI_0 {α:Type} {x:α} {xs:List α}:atI (x::xs) 0=some x:=zc5 (j:=0) rfl
theorem atI_1 {α:Type} {x y:α} {xs:List α}:atI (x::y::xs) 1=some y:=zc5 (j:=1) rfl
theorem ixN_of {n:Nat} {i:Int} {j:Nat} (h:i=(j:Int)) (hj:j<n):ixN n i=some j:=by
  subst h
  unfold ixN
  rw [if_pos (by omega),if_pos (by omega)]
  simp
theorem ixN_0 {α:Type} {x:α} {xs:List α}:ixN (x::xs).length 0=some 0:=ixN_of rfl (by simp)
theorem zi4 {xs:List D} {p:Int} (h0:0≤p):cutD xs none (some p)=xs.take p.toNat:=by
  unfold cutD
  have e:p=((p.toNat:Nat):Int):=by omega
  rw [e,HT.ze7,HT.zg0,List.drop_zero,Nat.sub_zero,←e]
  by_cases h:p.toNat≤xs.length
  · rw [Nat.min_eq_left h]
  · rw [Nat.min_eq_right (by omega),List.take_of_length_le (by omega),List.take_of_length_le (by omega)]
theorem zcv {xs:List D} {p:Int} (h0:0≤p):cutD xs (some p) none=xs.drop p.toNat:=by
  unfold cutD
  have e:p=((p.toNat:Nat):Int):=by omega
  rw [e,HT.ze7,HT.zg0,←e]
  by_cases h:p.toNat≤xs.length
  · rw [Nat.min_eq_left h,List.take_of_length_le (by rw [List.length_drop];omega)]
  · rw [Nat.min_eq_right (by omega),List.drop_eq_nil_of_le (Nat.le_refl _),List.drop_eq_nil_of_le (by omega)]
    simp
theorem zf3 {cs:List Nat} {p:Int} (h0:0≤p):cutT cs none (some p)=cs.take p.toNat:=by
  unfold cutT
  have e:p=((p.toNat:Nat):Int):=by omega
  rw [e,HT.ze7,HT.zg0,List.drop_zero,Nat.sub_zero,←e]
  by_cases h:p.toNat≤cs.length
  · rw [Nat.min_eq_left h]
  · rw [Nat.min_eq_right (by omega),List.take_of_length_le (by omega),List.take_of_length_le (by omega)]
theorem zf4 {cs:List Nat} {p:Int} (h0:0≤p):cutT cs (some p) none=cs.drop p.toNat:=by
  unfold cutT
  have e:p=((p.toNat:Nat):Int):=by omega
  rw [e,HT.ze7,HT.zg0,←e]
  by_cases h:p.toNat≤cs.length
  · rw [Nat.min_eq_left h,List.take_of_length_le (by rw [List.length_drop];omega)]
  · rw [Nat.min_eq_right (by omega),List.drop_eq_nil_of_le (Nat.le_refl _),List.drop_eq_nil_of_le (by omega)]
    simp
def NameOk (x:Str):Prop:=∃cs:List Nat,x=textOf cs∧1≤cs.length∧cs.length≤8∧∀c∈cs,97≤c∧c≤122
theorem zat {a b:List Nat} (h:textOf a=textOf b):a=b:=by
  have:=congrArg (fun x:Str=>x.cps.toList) h
  simpa [textOf] using this
theorem zad (cs:List Nat):(textOf cs).cps.toList=cs:=by simp [textOf]
theorem zlb:("abcdefghijklmnopqrstuvwxyz":Str)=textOf (List.range' 97 26):=by decide +kernel
theorem zht:("abcdefghijkl":Str)=textOf (List.range' 97 12):=by decide +kernel
theorem zjr:("abcd":Str)=textOf [97,98,99,100]:=by decide +kernel
theorem zj4 {n:Nat} {i:Int} (h0:0≤i) (h1:i<n):atI (List.range' 97 n) i=some (97+i.toNat):=by
  refine zm7 h0 ?_
  rw [List.getElem?_range' (by omega)]
  simp
noncomputable def nm1 (cs:List Nat) (p k:Nat):List Nat:=(cs.take p++[97+k])++cs.drop p
noncomputable def nm2 (cs:List Nat) (k:Nat):List Nat:=cs.take 4++[97,98,99,100].take (k+1)
noncomputable def nm3 (cs:List Nat) (k:Nat):List Nat:=[97,98,99,100].drop (3-k)++cs.take 4
def Letters (cs:List Nat):Prop:=∀c∈cs,97≤c∧c≤122
structure Row (n:Nat) (xs:List Str):Prop where
  len:xs.length=n
  nd:xs.Nodup
  ok:∀x∈xs,NameOk x
theorem zle {n:Nat} {f:Nat→List Nat} (inj:∀i j,i<n→j<n→f i=f j→i=j) (ok:∀i,i<n→NameOk (textOf (f i))):Row n ((List.range n).map fun k=>textOf (f k)):=by
  refine ⟨by simp,?_,fun x hx=>?_⟩
  · rw [List.nodup_iff_pairwise_ne,List.pairwise_map]
    have:=List.nodup_range (n:=n)
    rw [List.nodup_iff_pairwise_ne] at this
    refine List.Pairwise.imp_of_mem (fun {a b} ha hb hab e=>hab ?_) this
    exact inj a b (List.mem_range.mp ha) (List.mem_range.mp hb) (zat e)
  · obtain ⟨k,hk,rfl⟩:=List.mem_map.mp hx
    exact ok k (List.mem_range.mp hk)
theorem row1 {n p:Nat} {cs:List Nat} (hl:Letters cs) (h7:cs.length≤7) (hn:n≤12):Row n ((List.range n).map fun k=>textOf (nm1 cs p k)):=by
  refine zle (fun i j hi hj e=>?_) fun i hi=>⟨_,rfl,?_,?_,?_⟩
  · unfold nm1 at e
    have e2:=List.append_inj_left' e rfl
    have e3:=List.append_inj_right e2 rfl
    simp at e3
    exact e3
  · simp [nm1];omega
  · simp only [nm1,List.length_append,List.length_take,List.length_cons,List.length_nil,List.length_drop];omega
  · intro c hc
    simp only [nm1,List.mem_append,List.mem_singleton] at hc
    rcases hc with (hc|rfl)|hc
    · exact hl c (List.mem_of_mem_take hc)
    · omega
    · exact hl c (List.mem_of_mem_drop hc)
theorem row2 {n:Nat} {cs:List Nat} (hl:Letters cs) (hn:n≤4):Row n ((List.range n).map fun k=>textOf (nm2 cs k)):=by
  refine zle (fun i j hi hj e=>?_) fun i hi=>⟨_,rfl,?_,?_,?_⟩
  · have:=congrArg List.length e
    simp only [nm2,List.length_append,List.length_take,List.length_cons,List.length_nil] at this
    omega
  · simp only [nm2,List.length_append,List.length_take,List.length_cons,List.length_nil];omega
  · simp only [nm2,List.length_append,List.length_take,List.length_cons,List.length_nil];omega
  · intro c hc
    simp only [nm2,List.mem_append] at hc
    rcases hc with hc|hc
    · exact hl c (List.mem_of_mem_take hc)
    · have:=List.mem_of_mem_take hc
      simp only [List.mem_cons,List.not_mem_nil,or_false] at this
      omega
theorem row3 {n:Nat} {cs:List Nat} (hl:Letters cs) (hn:n≤4):Row n ((List.range n).map fun k=>textOf (nm3 cs k)):=by
  refine zle (fun i j hi hj e=>?_) fun i hi=>⟨_,rfl,?_,?_,?_⟩
  · have:=congrArg List.length e
    simp only [nm3,List.length_append,List.length_take,List.length_drop,List.length_cons,List.length_nil] at this
    omega
  · simp only [nm3,List.length_append,List.length_take,List.length_drop,List.length_cons,List.length_nil];omega
  · simp only [nm3,List.length_append,List.length_take,List.length_drop,List.length_cons,List.length_nil];omega
  · intro c hc
    simp only [nm3,List.mem_append] at hc
    rcases hc with hc|hc
    · have:=List.mem_of_mem_drop hc
      simp only [List.mem_cons,List.not_mem_nil,or_false] at this
      omega
    · exact hl c (List.mem_of_mem_take hc)
theorem Row.turn {n t:Nat} {xs:List Str} (r:Row n xs):Row n (xs.drop t++xs.take t):=by
  have e:=List.take_append_drop t xs
  have pm:(xs.drop t++xs.take t).Perm xs:=by
    have:=List.perm_append_comm (l₁:=xs.drop t) (l₂:=xs.take t)
    rw [e] at this
    exact this
  exact ⟨pm.length_eq.trans r.len,pm.nodup_iff.mpr r.nd,fun x hx=>r.ok x (pm.mem_iff.mp hx)⟩
inductive Sy where
  | name (x:Str)|bud|pair (a b:Sy)|left (a:Sy)|right (a:Sy)|fork (a b c:Sy)|send (x:Str) (as:List Sy)
mutual
noncomputable def Sy.d:Sy→D
  | .name x=>.tup [.str "name",.str x]
  | .bud=>.tup [.str "bud"]
  | .pair a b=>.tup [.str "pair",a.d,b.d]
  | .left a=>.tup [.str "left",a.d]
  | .right a=>.tup [.str "right",a.d]
  | .fork a b c=>.tup [.str "fork",a.d,b.d,c.d]
  | .send x as=>.tup [.str "send",.str x,.tup (Sy.ds as)]
noncomputable def Sy.ds:List Sy→List D
  | []=>[]
  | a::as=>a.d::Sy.ds as
end
mutual
noncomputable def Sy.deep:Sy→Nat
  | .name _=>1
  | .bud=>1
  | .pair a b=>max a.deep b.deep+1
  | .left a=>a.deep+1
  | .right a=>a.deep+1
  | .fork a b c=>max a.deep (max b.deep c.deep)+1
  | .send _ as=>Sy.deeps as+1
noncomputable def Sy.deeps:List Sy→Nat
  | []=>0
  | a::as=>max a.deep (Sy.deeps as)
end
noncomputable def Sy.parts:Sy→List Sy
  | .name _=>[]
  | .bud=>[]
  | .pair a b=>[a,b]
  | .left a=>[a]
  | .right a=>[a]
  | .fork a b c=>[a,b,c]
  | .send _ as=>as
mutual
noncomputable def Sy.pre:Sy→List Sy
  | .name x=>[.name x]
  | .bud=>[.bud]
  | .pair a b=>.pair a b::(a.pre++b.pre)
  | .left a=>.left a::a.pre
  | .right a=>.right a::a.pre
  | .fork a b c=>.fork a b c::(a.pre++(b.pre++c.pre))
  | .send x as=>.send x as::Sy.pres as
noncomputable def Sy.pres:List Sy→List Sy
  | []=>[]
  | a::as=>a.pre++Sy.pres as
end
theorem Sy.ds_map:∀as:List Sy,Sy.ds as=as.map Sy.d
  | []=>rfl
  | a::as=>by simp only [Sy.ds,List.map_cons,Sy.ds_map as]
theorem Sy.pres_append:∀as bs:List Sy,Sy.pres (as++bs)=Sy.pres as++Sy.pres bs
  | [],bs=>by simp [Sy.pres]
  | a::as,bs=>by simp [Sy.pres,Sy.pres_append as bs]
mutual
def Sy.wf (ar:Str→Option Nat) (ps:List Str):Sy→Prop
  | .name x=>x∈ps
  | .bud=>True
  | .pair a b=>a.wf ar ps∧b.wf ar ps
  | .left a=>a.wf ar ps
  | .right a=>a.wf ar ps
  | .fork a b c=>a.wf ar ps∧b.wf ar ps∧c.wf ar ps
  | .send x as=>ar x=some as.length∧1≤as.length∧as.length≤4∧Sy.wfs ar ps as
def Sy.wfs (ar:Str→Option Nat) (ps:List Str):List Sy→Prop
  | []=>True
  | a::as=>a.wf ar ps∧Sy.wfs ar ps as
end
theorem Sy.wfs_iff {ar:Str→Option Nat} {ps:List Str}:∀{as:List Sy},Sy.wfs ar ps as↔∀a∈as,a.wf ar ps
  | []=>by simp [Sy.wfs]
  | a::as=>by simp [Sy.wfs,Sy.wfs_iff (as:=as)]
theorem Sy.deeps_le:∀{as:List Sy} {n:Nat},(∀a∈as,a.deep≤n)→Sy.deeps as≤n
  | [],_,_=>Nat.zero_le _
  | a::as,n,h=>by
    simp only [Sy.deeps]
    have h1:=h a List.mem_cons_self
    have h2:=Sy.deeps_le (as:=as) (n:=n) fun b hb=>h b (List.mem_cons_of_mem _ hb)
    omega
noncomputable def Sy.sends (s:Sy):Nat:=(s.pre.filter fun a=>match a with | .send _ _=>true|_=>false).length
noncomputable def Sy.sendss (as:List Sy):Nat:=((Sy.pres as).filter fun a=>match a with | .send _ _=>true|_=>false).length
theorem Sy.sendss_cons (a:Sy) (as:List Sy):Sy.sendss (a::as)=a.sends+Sy.sendss as:=by simp [Sy.sendss,Sy.sends,Sy.pres]
theorem Sy.sendss_append (as bs:List Sy):Sy.sendss (as++bs)=Sy.sendss as+Sy.sendss bs:=by simp [Sy.sendss,Sy.pres_append]
noncomputable def arOf:List Str→List Nat→Str→Option Nat
  | x::xs,n::ns,y=>if y=x then some n else arOf xs ns y
  | _,_,_=>none
theorem zm8:∀{xs:List Str} {ns:List Nat} {i:Nat} {x:Str} {n:Nat},xs.Nodup→xs[i]?=some x→ns[i]?=some n→arOf xs ns x=some n
  | [],_,_,_,_,_,h,_=>by simp at h
  | _::_,[],_,_,_,_,_,h=>by simp at h
  | y::xs,m::ns,0,x,n,_,h1,h2=>by
    simp at h1 h2
    subst h1 h2
    simp [arOf]
  | y::xs,m::ns,i+1,x,n,nd,h1,h2=>by
    have hx:x∈xs:=List.mem_of_getElem? (by simpa using h1)
    have hne:x≠y:=fun z=>(List.nodup_cons.mp nd).1 (z▸hx)
    rw [arOf,if_neg hne]
    exact zm8 (List.nodup_cons.mp nd).2 (by simpa using h1) (by simpa using h2)
structure Er where
  name:Str
  ps:List Str
  body:Sy
noncomputable def Er.d (e:Er):D:=.tup [.str e.name,.tup (e.ps.map D.str),e.body.d]
end E3
namespace E3
open PySem PySem.Spec PyProof.Rows L2 EE
theorem at_mod {α:Type} {xs:List α} (c:Int) (h:0<xs.length):∃(j:Nat) (v:α),c%(xs.length:Int)=(j:Int)∧j<xs.length∧xs[j]?=some v:=by
  have h0:=Int.emod_nonneg c (show (xs.length:Int)≠0 by omega)
  have h1:=Int.emod_lt_of_pos c (show (0:Int)<xs.length by omega)
  have hj:(c%(xs.length:Int)).toNat<xs.length:=by omega
  exact ⟨(c%(xs.length:Int)).toNat,xs[(c%(xs.length:Int)).toNat],by omega,hj,List.getElem?_eq_getElem hj⟩
theorem zi9 {α:Type} {f:α→D} {xs:List α} (c:Int) (h:0<xs.length):∃(j:Nat) (v:α),c%((xs.map f).length:Int)=(j:Int)∧xs[j]?=some v∧atI (xs.map f) (c%((xs.map f).length:Int))=some (f v):=by
  obtain ⟨j,v,e,hj,hv⟩:=at_mod (xs:=xs) c h
  have e':c%((xs.map f).length:Int)=(j:Int):=by rw [List.length_map];exact e
  refine ⟨j,v,e',hv,?_⟩
  rw [e']
  refine zc5 ?_
  rw [List.getElem?_map,hv]
  rfl
theorem zdz {σ:St3} {js:List Nat} {te:TE3} {Q:K3} {S:Hp3} {sp:Addr} {m:Nat} {i b:Int} {Al:Hp3→Prop} (good:Sy→Prop) (hm:m≤1000) (hA:∀S,Al S)
    (h:∀(d:D) (i1 b1:Int),i≤i1→0≤b1→∀P:K3,(∀(s:Sy) (i2 b2:Int),good s→i1≤i2→0≤b2→(s.sends:Int)+b2≤b1→P s.d (up S sp (.lst [.int i2,.int b2])))→te (some d::pick3 σ js) (up S sp (.lst [.int i1,.int b1])) P)
    (hb:0≤b) (q:∀(ss:List Sy) (i2 b2:Int),ss.length=m→(∀s∈ss,good s)→i≤i2→0≤b2→(Sy.sendss ss:Int)+b2≤b→newL (up S sp (.lst [.int i2,.int b2])) (ss.map Sy.d) Q) :
    ∃W:Nat→List D→Hp3→Prop,W 0 [] (up S sp (.lst [.int i,.int b]))∧(∀i ys S,W i ys S→Al S∧ys.length<sizeLine) ∧
  (∀i d ys S,(nums 0 m)[i]?=some d→W i ys S→te (some d::pick3 σ js) S fun y S'=>W (i+1) (ys++[y]) S')∧∀ys S,W (nums 0 m).length ys S→newL S ys Q:=by
  refine ⟨fun j ys S'=>j≤m∧∃(ss:List Sy) (i1 b1:Int),ys=ss.map Sy.d∧ss.length=j∧(∀s∈ss,good s)∧i≤i1∧0≤b1∧(Sy.sendss ss:Int)+b1≤b∧S'=up S sp (.lst [.int i1,.int b1]),
    ⟨Nat.zero_le _,[],i,b,rfl,rfl,by simp,Int.le_refl _,hb,by simp [Sy.sendss,Sy.pres],rfl⟩,?_,?_,?_⟩
  · rintro j ys S' ⟨hj,ss,i1,b1,rfl,hl,_⟩
    refine ⟨hA _,?_⟩
    rw [List.length_map]
    exact zd4 (by omega)
  · rintro j d ys S' hd ⟨hj,ss,i1,b1,rfl,hl,hg,hi,hb1,hs,rfl⟩
    obtain ⟨hlt,rfl⟩:=zc1 hd
    refine h _ i1 b1 hi hb1 _ fun s i2 b2 gs h2 hb2 hs2=>⟨hlt,ss++[s],i2,b2,by simp,by simp [hl],?_,by omega,hb2,?_,rfl⟩
    · intro s' hs'
      rcases List.mem_append.mp hs' with h|h
      · exact hg s' h
      · rw [List.mem_singleton.mp h];exact gs
    · rw [Sy.sendss_append,Sy.sendss_cons]
      simp only [Sy.sendss,Sy.pres,List.filter_nil,List.length_nil] at hs ⊢
      omega
  · rintro ys S' ⟨_,ss,i1,b1,rfl,hl,hg,hi,hb1,hs,rfl⟩
    rw [zbk] at hl
    exact q ss i1 b1 hl hg hi hb1 hs
theorem Sy.sends_parts (s:Sy):s.sends=(match s with | .send _ _=>1|_=>0)+Sy.sendss s.parts:=by
  cases s<;>simp [Sy.sends,Sy.sendss,Sy.pre,Sy.parts,Sy.pres]<;>omega
noncomputable def arP (prog:List Er):Str→Option Nat:=arOf (prog.map Er.name) (prog.map fun e=>e.ps.length)
structure Good (prog:List Er) (most deep b:Nat):Prop where
  len1:1≤prog.length
  len:prog.length≤most
  nd:(prog.map Er.name).Nodup
  nm:∀e∈prog,NameOk e.name
  ps:∀e∈prog,1≤e.ps.length∧e.ps.length≤4∧e.ps.Nodup∧∀x∈e.ps,NameOk x
  wf:∀e∈prog,e.body.wf (arP prog) e.ps∧e.body.deep≤deep
  sends:(prog.map fun e=>e.body.sends).sum≤b
theorem arP_eq {ers:List Er} {names:List Str} {counts:List Nat} (h1:ers.map Er.name=names) (h2:(ers.map fun e=>e.ps.length)=counts):arP ers=arOf names counts:=by
  unfold arP;rw [h1,h2]
theorem ps_ok {n c:Nat} {xs:List Str} (r:Row n xs) (hc:c≤n):(xs.take c).length=c∧(xs.take c).Nodup∧∀x∈xs.take c,NameOk x:=by
  refine ⟨by rw [List.length_take,r.len];omega,r.nd.sublist (List.take_sublist _ _),fun x hx=>r.ok x (List.mem_of_mem_take hx)⟩
structure ErOk (ar:Str→Option Nat) (deep:Nat) (e:Er):Prop where
  l1:1≤e.ps.length
  l4:e.ps.length≤4
  nd:e.ps.Nodup
  ok:∀x∈e.ps,NameOk x
  wf:e.body.wf ar e.ps
  dp:e.body.deep≤deep
theorem zp7 {ers:List Er} {names:List Str} {counts:List Nat} {n most deep b:Nat} (Rn:Row n names) (h1:ers.map Er.name=names) (h2:(ers.map fun e=>e.ps.length)=counts) (hn1:1≤n) (hn:n≤most)
    (hk:∀e∈ers,ErOk (arOf names counts) deep e) (hs:(ers.map fun e=>e.body.sends).sum≤b):Good ers most deep b:=by
  have hl:ers.length=n:=by rw [←Rn.len,←h1,List.length_map]
  refine ⟨by omega,by omega,by rw [h1];exact Rn.nd,fun e he=>Rn.ok _ (by rw [←h1];exact List.mem_map_of_mem he),fun e he=>⟨(hk e he).l1,(hk e he).l4,(hk e he).nd,(hk e he).ok⟩,fun e he=>⟨?_,(hk e he).dp⟩,hs⟩
  rw [arP_eq h1 h2]
  exact (hk e he).wf
end E3
namespace E3
open PySem PySem.Spec PyProof.Rows L2 EE
noncomputable def Sy.nm:Sy→Option Str
  | .send x _=>some x
  | _=>none
noncomputable def Sy.sent (s:Sy):List Str:=s.pre.filterMap Sy.nm
noncomputable def sendsOf (prog:List Er):List (Str×Str):=(prog.map fun e=>e.body.sent.map fun to=>(e.name,to)).flatten
mutual
theorem Sy.d_pure:∀s:Sy,s.d.pure=true
  | .name x=>rfl
  | .bud=>rfl
  | .pair a b=>by simp only [Sy.d,D.pure,D.pures,a.d_pure,b.d_pure,Bool.and_self]
  | .left a=>by simp only [Sy.d,D.pure,D.pures,a.d_pure,Bool.and_self]
  | .right a=>by simp only [Sy.d,D.pure,D.pures,a.d_pure,Bool.and_self]
  | .fork a b c=>by simp only [Sy.d,D.pure,D.pures,a.d_pure,b.d_pure,c.d_pure,Bool.and_self]
  | .send x as=>by simp only [Sy.d,D.pure,D.pures,Sy.ds_pure as,Bool.and_self]
theorem Sy.ds_pure:∀as:List Sy,D.pures (Sy.ds as)=true
  | []=>rfl
  | a::as=>by simp only [Sy.ds,D.pures,a.d_pure,Sy.ds_pure as,Bool.and_self]
end
mutual
theorem Sy.d_deep:∀s:Sy,deepD s.d.dt≤2*s.deep
  | .name x=>by simp [Sy.d,D.dt,D.dts,deepD,deepDs,Sy.deep]
  | .bud=>by simp [Sy.d,D.dt,D.dts,deepD,deepDs,Sy.deep]
  | .pair a b=>by
    have h1:=a.d_deep
    have h2:=b.d_deep
    simp only [Sy.d,D.dt,D.dts,deepD,deepDs,Sy.deep];omega
  | .left a=>by
    have h1:=a.d_deep
    simp only [Sy.d,D.dt,D.dts,deepD,deepDs,Sy.deep];omega
  | .right a=>by
    have h1:=a.d_deep
    simp only [Sy.d,D.dt,D.dts,deepD,deepDs,Sy.deep];omega
  | .fork a b c=>by
    have h1:=a.d_deep
    have h2:=b.d_deep
    have h3:=c.d_deep
    simp only [Sy.d,D.dt,D.dts,deepD,deepDs,Sy.deep];omega
  | .send x as=>by
    have h1:=Sy.ds_deep as
    simp only [Sy.d,D.dt,D.dts,deepD,deepDs,Sy.deep];omega
theorem Sy.ds_deep:∀as:List Sy,deepDs (D.dts (Sy.ds as))≤2*Sy.deeps as
  | []=>by simp [Sy.ds,D.dts,deepDs]
  | a::as=>by
    have h1:=a.d_deep
    have h2:=Sy.ds_deep as
    simp only [Sy.ds,D.dts,deepDs,Sy.deeps];omega
end
theorem D.strs_pure (xs:List Str):D.pures (xs.map D.str)=true:=D.pures_iff.mpr fun d hd=>by
  obtain ⟨x,_,rfl⟩:=List.mem_map.mp hd
  rfl
theorem zie {ds:List Dt} {n:Nat} (h:∀d∈ds,deepD d≤n):deepDs ds≤n:=by
  induction ds with
  | nil=>simp [deepDs]
  | cons d r ih =>
    simp only [deepDs]
    have h1:=h d List.mem_cons_self
    have h2:=ih fun e he=>h e (List.mem_cons_of_mem _ he)
    omega
theorem D.strs_deep (xs:List Str):deepDs (D.dts (xs.map D.str))≤0:=by
  rw [D.dts_map]
  refine zie fun d hd=>?_
  obtain ⟨x,hx,rfl⟩:=List.mem_map.mp hd
  obtain ⟨y,_,rfl⟩:=List.mem_map.mp hx
  simp [D.dt,deepD]
theorem Er.d_pure (e:Er):e.d.pure=true:=by simp only [Er.d,D.pure,D.pures,D.strs_pure,e.body.d_pure,Bool.and_self]
theorem Er.d_deep (e:Er):deepD e.d.dt≤2*e.body.deep+2:=by
  have h1:=e.body.d_deep
  have h2:=D.strs_deep e.ps
  simp only [Er.d,D.dt,D.dts,deepD,deepDs]
  omega
end E3
namespace EE
open PySem PySem.Spec PyProof.Rows L2
structure CompScG (osc:Scope) (O M:List Str) (scope:Scope):Prop where
  kind:scope.kind=.function
  nocell:∀y∈scope.names,y.2≠.cell
  names:∀y∈scope.names,y.2=.local→scope.names.lookup y.1=some .local
  own:∀y∈O,scope.names.lookup y=some .local
  free:∀y∈scope.names,y.2=.free→osc.names.lookup y.1=some .cell
  nd:(O++M).Nodup
  mine:∀y∈M,scope.names.lookup y=some .free
section
variable {X:Cx} {pins:List (Addr×Obj)} {σ:L2.St} {H:Hp} {s:Shared} {scope:Scope} {O M:List Str} {js:List Nat} {C:Addr} {fp:List Addr}
theorem CompScG.cells (S:CompScG X.env.scope O M scope) (I:Inv X pins σ H s):∀y∈scope.names,y.2=.free→∃c,X.env.cells.lookup y.1=some c:=fun y hy hk=>I.ok.has y.1 (.inl (S.free y hy hk))
theorem CompScG.sub (S:CompScG X.env.scope O M scope) (I:Inv X pins σ H s) {y:Str} {c:Addr} (e:(clOf scope X.env).lookup y=some c):X.env.cells.lookup y=some c :=
  zm3 scope.names [] (S.cells I) (fun _ _ h=>by simp at h) y c e
theorem zmb {s1:Shared} {m:Str→Option Value} (S:CompScG X.env.scope O M scope) (hc:X.calm=true) (I:Inv X pins σ H s) (hjs:∀(k:Nat) (y:Str),M[k]?=some y→∃j:Nat,js[k]?=some j∧X.N[j]?=some y) (hlen:js.length=M.length)
    (hf:∀b∈fp,FpOk X pins H b) (hfl:∀b∈fp,b<s.heap.objs.size) (hC:s.heap.objs.size≤C) (hn:s1.heap.Ns C m) (hk:∀b o,s.heap.get? b=some o→s1.heap.get? b=some o) (hos:s1.os=s.os) (hg:AllBare s1.gens) :
    Inv (cxComp X scope C (O++M) fp pins s H) [] (List.replicate O.length none++pick σ js) H s1:=by
  have nst:∀b∈fp,b∉frs X.stack:=fun b hb z=>by
    obtain ⟨f0,f1,f2,_⟩:=hf b hb
    rcases List.mem_cons.mp (I.stkSub b z) with e|e
    · exact f1 e
    · exact f2 e
  have cellK:∀(c:Addr) (v:Option Value),s.heap.IsCell c v→s1.heap.IsCell c v:=fun c v z_1=>by obtain ⟨o,e,d⟩:=z_1;exact ⟨o,hk c o e,d⟩
  refine ⟨⟨I.ok.mod,S.kind,I.ok.glob,I.ok.blt,hC,fun y z c h1 h2=>I.ok.inj y z c (S.sub I h1) (S.sub I h2),fun y hy=>?_,fun y c h _=>(by cases (show false=true from h)),fun _=>I.ok.hd hc,I.ok.frames,.inl rfl,fun b hb=>?_,I.bs,
    Nat.le_trans I.ok.bsz I.sz,fun b o e hb=>?_,nst,I.stack,I.stkFree⟩,hos,hg,Un.kept hk,⟨m,hn,fun i y v h1 h2 h3=>?_⟩,fun y c e=>?_,I.hok.fresh hC,fun y c e=>I.freeC y c (S.sub I e),fun p hp=>?_,I.hok.kept hk,?_⟩
  · have hy':(relabel scope X.env).names.lookup y=some .cell∨(relabel scope X.env).names.lookup y=some .free:=hy
    have fr:(y,NameKind.free)∈scope.names:=by
      rcases hy' with h|h
      · obtain ⟨k',mm,e|e⟩:=zc0 h
        · exact absurd e.symm (S.nocell _ mm)
        · rw [e.1] at mm;exact mm
      · obtain ⟨k',mm,e|e⟩:=zc0 h
        · rw [←e] at mm;exact mm
        · exact absurd e.2 (by intro z;cases z)
    exact zii scope.names [] y (.inl fr)
  · obtain ⟨f0,f1,f2,f3,f4,f5⟩:=hf b hb
    exact ⟨Nat.ne_of_lt (Nat.lt_of_lt_of_le (hfl b hb) hC),fun y c e=>f4 y c (S.sub I e)⟩
  · obtain ⟨f0,f1,f2,f3,f4,f5⟩:=hf b hb
    rcases f3 with f3|f3
    · exact I.ok.noex b o e f3
    · exact absurd (Heap.lt_size e) (Nat.not_lt.mpr (Nat.le_trans I.ok.bsz f3))
  · have h1c:(O++M)[i]?=some y:=h1
    by_cases hi:i<O.length
    · rw [List.getElem?_append_left (by simpa using hi),List.getElem?_replicate,if_pos hi] at h2
      have h2':(none:Option V)=some v:=Option.some.inj h2
      cases h2'
    · have hge:O.length≤i:=Nat.le_of_not_lt hi
      rw [List.getElem?_append_right hge] at h1c
      rw [List.getElem?_append_right (by simpa using hge),List.length_replicate] at h2
      obtain ⟨j,ej,eN⟩:=hjs _ y h1c
      have eσ:σ[j]?=some (some v):=by
        unfold pick at h2
        rw [List.getElem?_map,ej] at h2
        have z:(σ[j]?).getD none=some v:=by simpa using h2
        cases q:σ[j]? with
        | none=>rw [q] at z;cases z
        | some o=>rw [q] at z;rw [show o=some v from z]
      have hfree:=S.mine y (List.mem_of_getElem? h1c)
      have hcell:X.env.kindOf y=some .cell:=S.free (y,.free) (PySem.mem_of_lookup hfree) rfl
      obtain ⟨m0,_,hl0⟩:=I.loc
      obtain ⟨u,r,l⟩:=hl0 j y v eN eσ (.inr (.inl hcell))
      refine ⟨u,r,.inr ⟨.inl (zes I.ok.kind hcell hfree),?_⟩⟩
      obtain ⟨c',e'⟩:=zii (env:=X.env) scope.names [] y (.inl (PySem.mem_of_lookup hfree))
      have e2:=S.sub I (show (clOf scope X.env).lookup y=some c' from e')
      rcases l with ⟨z,_⟩|⟨_,c,hcc,hic⟩
      · rw [hcell] at z;cases z
      · rw [hcc] at e2
        have:c=c':=Option.some.inj e2
        subst this
        exact ⟨c,e',cellK c _ hic⟩
  · obtain ⟨v,h⟩:=I.cell y c (S.sub I e)
    exact ⟨v,cellK c v h⟩
  · have hp':p∈X.pn++pins:=by simpa [cxComp] using hp
    obtain ⟨e,n,ne,nf,d⟩:=I.pin p hp'
    refine ⟨hk _ _ e,n,Nat.ne_of_lt (Nat.lt_of_lt_of_le (Heap.lt_size e) hC),fun z=>?_,d⟩
    rcases List.mem_cons.mp (I.stkSub p.1 z) with q|q
    · exact ne q
    · exact nf q
  · show (List.replicate O.length none++pick σ js).length=(O++M).length
    simp [pick,hlen]
end
def PTs (X:Cx) (ifs:List Expr) (t:TT):Prop :=
  ∀(pins:List (Addr×Obj)) (s:Shared) (σ:L2.St) (H:Hp) (Q:Bool→Hp→Prop),Inv X pins σ H s→t σ H Q →
    wpAny (model X.prog X.w) X.A (forIn ifs true fun c r=>if r=true then do let ok ←isTrue c X.env (eval c X.env);pure (ForInStep.yield ok) else pure (ForInStep.yield r)) (TP X pins σ Q) X.xe s
theorem zpi {X:Cx} {c:Expr} {t:TT} (h:PT X c t):PTs X [c] t:=fun pins s σ H Q I q=>wpAny_tests_one (h pins s σ H Q I q)
def tCompG (wi:TI) (g:TG) (tt:TT) (te:TE) (n:Nat) (js:List Nat):TE:=fun σ H Q=>wi σ H fun J H1=>∀D,H1 D=none→∃W:Nat→Nat→L2.St→Hp→Prop,(∃m,W 0 m (List.replicate n none++pick σ js) (upd H1 D (.lst []))) ∧
  ∀i m τ H2,W i m τ H2→(J.stop i H2∧Q (.ref D) H2)∨(J.go i H2∧∃N:L2.St→Hp→Prop,(∀τ' H',N τ' H'→∃m',m'<m∧W (i+1) m' τ' H')∧∀v H',J.yld i H2 v H' →
    g v τ H' fun τ' H3=>tt τ' H3 fun b H4=>if b=true then te τ' H4 fun y H5=>∃ys,H5 D=some (.lst ys)∧ys.length<sizeLine∧N τ' (upd H5 D (.lst (ys++[y]))) else N τ' H4)
section
variable {X:Cx} {elt iter tg:Expr} {ifs:List Expr} {pos:Pos} {scope:Scope} {O M:List Str} {js:List Nat} {wi:TI} {g:TG} {tt:TT} {te:TE}
theorem zi6 {prog:Program} {w:World} {A:Around} {R:Result→Shared→Prop} {s:Shared} {it acc:Value} {env:Env} (I:Nat→Shared→Prop)
    (turn:∀n s,I n s→wpAny (model prog w) A (pyNext it) (fun r s₁=>match r with
      | none=>R (.ok .next) s₁
      | some v=>wpAny (model prog w) A (letOwnedTupleGo tg it v) (fun _ s₂=>wpAny (model prog w) A (assign tg env v) (fun _ s₃ =>
          wpAny (model prog w) A (forIn ifs true fun c r=>if r=true then do let ok ←isTrue c env (eval c env);pure (ForInStep.yield ok) else pure (ForInStep.yield r)) (fun ok s₄ =>
            if ok=true then wpAny (model prog w) A (eval elt env) (fun y s₅=>wpAny (model prog w) A (call (.builtin "list.append") [acc,y]) (fun _ s₆=>∃m,m<n∧I m s₆) (fun _ _=>False) s₅) (fun _ _=>False) s₄
            else ∃m,m<n∧I m s₄) (fun _ _=>False) s₃) (fun _ _=>False) s₂) (fun _ _=>False) s₁) (fun _ _=>False) s)
    (n:Nat) (h:I n s):codeAny (model prog w) A (.compLoop (.ListComp elt [⟨tg,iter,ifs,0⟩] scope pos) 0 it acc env) R s:=by
  refine codeAny_loop rfl I (fun n s hI=>?_) n h
  show wpAny _ _ ((compTurn (.ListComp elt [⟨tg,iter,ifs,0⟩] scope pos) 0 it acc env).onRaise (fun x=>do noteFrame x env;theTreesLotGoes x)) _ _ s
  refine wpAny_noted ?_
  rw [compTurn_list]
  refine wpAny_bind (wpAny_standAt (wpAny_bind (wpAny_mono (turn n s hI) (fun r s₁ h₁=>?_) fun _ _ z=>z.elim)))
  cases r with
  | none=>exact wpAny_pure h₁
  | some v =>
    refine wpAny_bind (wpAny_mono h₁ (fun _ s₂ h₂=>wpAny_bind (wpAny_mono h₂ (fun _ s₃ h₃=>wpAny_bind (wpAny_mono h₃ (fun ok s₄ h₄=>?_) fun _ _ z=>z.elim)) fun _ _ z=>z.elim)) fun _ _ z=>z.elim)
    cases ok with
    | false=>exact wpAny_pure ⟨rfl,h₄⟩
    | true=>exact wpAny_bind (wpAny_bind (wpAny_mono h₄ (fun y s₅ h₅=>wpAny_bind (wpAny_mono h₅ (fun _ s₆ h₆=>wpAny_pure (wpAny_pure ⟨rfl,h₆⟩)) fun _ _ z=>z.elim)) fun _ _ z=>z.elim))
theorem zi5 {pins:List (Addr×Obj)} {σ:L2.St} {H2:Hp} {s2:Shared} {it D:Addr} {fp:List Addr} {tn:Nat→Heap→Prop} {J:It} {W:Nat→Nat→L2.St→Hp→Prop} {Qe:Hp→Prop} {R:Addr→Result→Shared→Prop} {E:Value→Shared→Prop} {m0:Nat}
    (S:CompScG X.env.scope O M scope) (hc:X.calm=true) (hjs:∀(k:Nat) (y:Str),M[k]?=some y→∃j:Nat,js[k]?=some j∧X.N[j]?=some y) (hlen:js.length=M.length)
    (hg:∀(C:Addr) (fp:List Addr) (pins:List (Addr×Obj)) (s:Shared) (H:Hp),PG (cxComp X scope C (O++M) fp pins s H) tg g)
    (ht:∀(C:Addr) (fp:List Addr) (pins:List (Addr×Obj)) (s:Shared) (H:Hp),PTs (cxComp X scope C (O++M) fp pins s H) ifs tt)
    (he:∀(C:Addr) (fp:List Addr) (pins:List (Addr×Obj)) (s:Shared) (H:Hp),PE (cxComp X scope C (O++M) fp pins s H) elt te)
    (I:Inv X pins σ H2 s2) (T:Turn X.prog X.w X.K tg J fp it tn) (st:tn 0 s2.heap) (hf:∀b∈fp,FpOk X pins H2 b) (w0:W 0 m0 (List.replicate O.length none++pick σ js) H2)
    (turn:∀i m τ H3,W i m τ H3→(J.stop i H3∧Qe H3)∨(J.go i H3∧∃N:L2.St→Hp→Prop,(∀τ' H',N τ' H'→∃m',m'<m∧W (i+1) m' τ' H')∧∀v H',J.yld i H3 v H' →
      g v τ H' fun τ' H4=>tt τ' H4 fun b H5=>if b=true then te τ' H5 fun y H6=>∃ys,H6 D=some (.lst ys)∧ys.length<sizeLine∧N τ' (upd H6 D (.lst (ys++[y]))) else N τ' H5))
    (fin:∀(C:Addr) (s':Shared) (H':Hp) (pins':List (Addr×Obj)) (σ':L2.St),s2.heap.objs.size≤C→Inv (cxComp X scope C (O++M) fp pins s2 H2) pins' σ' H' s'→Qe H'→R C (.ok .next) s') :
    wpAny (model X.prog X.w) X.A (newFunctionEnv scope X.env.globals (clOf scope X.env) [] X.env.qual none .none (some X.env)) (fun cenv s4 =>
      codeAny (model X.prog X.w) X.A (.compStart (.ListComp elt [⟨tg,iter,ifs,0⟩] scope pos) 0 (.ref it) (.ref D) {cenv with scope:=relabel scope X.env}) (R cenv.locals) s4) E s2:=by
  refine wpAny_newFunctionEnv S.nocell (by intro y hy;simp at hy) (fun h1 hns hsb=>?_) S.kind
  have hfl:∀b∈fp,b<s2.heap.objs.size:=fun b hb=>by
    obtain ⟨o,e,_⟩:=T.obj 0 _ st b hb
    exact Heap.lt_size e
  have old:∀b o,s2.heap.get? b=some o→h1.get? b=some o:=fun b o e=>(hsb.2 b (Nat.ne_of_lt (Heap.lt_size e))).trans (Heap.get?_push_of_some _ e)
  have I4:Inv (cxComp X scope s2.heap.objs.size (O++M) fp pins s2 H2) [] (List.replicate O.length none++pick σ js) H2 {s2 with heap:=h1,toks:=s2.toks+([]:List (Str×Value)).length} :=
    zmb S hc I hjs hlen hf hfl (Nat.le_refl _) hns old rfl I.bare
  have st4:tn 0 h1:=T.keep _ _ _ st fun b hb o e=>old b o e
  have stat:∀{H':Hp},(∀b∈fp,H' b=none)→∀b∈fp,FpOk (cxComp X scope s2.heap.objs.size (O++M) fp pins s2 H2) [] H' b:=fun {H'} hn b hb=>by
    obtain ⟨f0,f1,f2,f3,f4,f5⟩:=hf b hb
    refine ⟨hn b hb,Nat.ne_of_lt (hfl b hb),I4.ok.exfs b hb,.inl hb,fun y c e=>f4 y c (S.sub I e),fun p hp=>f5 p ?_⟩
    simpa [cxComp] using hp
  have loop:∀s3:Shared,s3={s2 with heap:=h1,toks:=s2.toks+([]:List (Str×Value)).length} →
      codeAny (model X.prog X.w) X.A (.compLoop (.ListComp elt [⟨tg,iter,ifs,0⟩] scope pos) 0 (.ref it) (.ref D) (compEnvC scope (clOf scope X.env) s2.heap.objs.size X.env)) (R s2.heap.objs.size) s3:=by
    rintro s3 rfl
    refine zi6 (fun n s'=>∃(i:Nat) (τ:L2.St) (H':Hp),Inv (cxComp X scope s2.heap.objs.size (O++M) fp pins s2 H2) [] τ H' s'∧tn i s'.heap∧(∀b∈fp,H' b=none)∧W i n τ H') ?_ m0
      ⟨0,_,H2,I4,st4,fun b hb=>(hf b hb).1,w0⟩
    rintro n s5 ⟨i,τ,H5,I5,st5,fr5,w5⟩
    rcases turn i n τ H5 w5 with ⟨stop,qe⟩|⟨go,N,hN,step⟩
    · refine thn (T.done (cxComp X scope s2.heap.objs.size (O++M) fp pins s2 H2) rfl rfl rfl rfl i [] s5 _ H5 (fun _ _=>False) I5 (stat fr5) st5 stop) fun r s6 ⟨hr,I6⟩=>?_
      subst hr
      exact fin _ s6 H5 [] _ (Nat.le_refl _) I6 qe
    · refine thn (T.item (cxComp X scope s2.heap.objs.size (O++M) fp pins s2 H2) rfl rfl rfl rfl i [] s5 _ H5 (fun _ _=>False) I5 (stat fr5) st5 go) fun r s6 ⟨u,hr,h6⟩=>?_
      subst hr
      refine thn h6 fun _ s7 ⟨v,H7,I7,r7,y7,st7,fr7⟩=>?_
      have I7':=I7.pinned (stat fr7) (T.obj _ _ st7)
      have back:∀{σ9:L2.St} {H9:Hp} {s9:Shared},Inv (cxComp X scope s2.heap.objs.size (O++M) fp pins s2 H2) ([]++pinsAt fp s7.heap) σ9 H9 s9→N σ9 H9 →
          ∃m,m<n∧∃(i:Nat) (τ:L2.St) (H':Hp),Inv (cxComp X scope s2.heap.objs.size (O++M) fp pins s2 H2) [] τ H' s9∧tn i s9.heap∧(∀b∈fp,H' b=none)∧W i m τ H':=by
        intro σ9 H9 s9 I9 n9
        obtain ⟨m',hm,w10⟩:=hN σ9 H9 n9
        refine ⟨m',hm,i+1,σ9,H9,I9.unpinned,T.keep _ _ _ st7 fun b hb o e=>(I9.pin (b,o) (List.mem_append_right _ (List.mem_append_right _ (zcj hb e)))).1,fun b hb=>?_,w10⟩
        obtain ⟨o,e,d⟩:=T.obj _ _ st7 b hb
        exact (I9.pin (b,o) (List.mem_append_right _ (List.mem_append_right _ (zcj hb e)))).2.1
      refine thn (hg s2.heap.objs.size fp pins s2 H2 _ s7 _ H7 v u _ I7' r7 (step v H7 y7)) fun _ s8 ⟨σ8,H8,I8,q8⟩=>?_
      refine thn (ht s2.heap.objs.size fp pins s2 H2 _ s8 _ H8 _ I8 q8) fun ok s9 ⟨H9,I9,q9⟩=>?_
      cases ok with
      | false=>exact back I9 q9
      | true =>
        refine thn (he s2.heap.objs.size fp pins s2 H2 _ s9 _ H9 _ I9 q9) fun yv s10 ⟨y,H10,I10,r10,ys,hD,hz,n10⟩=>?_
        refine thn (zdd (X:=cxComp X scope s2.heap.objs.size (O++M) fp pins s2 H2) _ s10 _ H10 (.ref D) [y] (.ref D) [yv] (fun _ H'=>N σ8 H') I10 rfl (.cons r10 .nil) ⟨D,ys,y,rfl,rfl,hD,hz,n10⟩) fun _ s11 ⟨_,H11,I11,_,n11⟩=>?_
        exact back I11 n11
  exact codeAny_compStart_list (loop _ rfl) (wpAny_mono (T.self X.A 0 _ _ _ st4 (loop _ rfl)) (fun _ _ z=>z) fun _ _ z=>z)
theorem znp {i:Nat} {y:Str} {py spos:Pos} (S:CompScG X.env.scope O M scope) (hc:X.calm=true) (hjs:∀(k:Nat) (y:Str),M[k]?=some y→∃j:Nat,js[k]?=some j∧X.N[j]?=some y) (hlen:js.length=M.length) (hi:PI X tg iter wi)
    (hg:∀(C:Addr) (fp:List Addr) (pins:List (Addr×Obj)) (s:Shared) (H:Hp),PG (cxComp X scope C (O++M) fp pins s H) tg g)
    (ht:∀(C:Addr) (fp:List Addr) (pins:List (Addr×Obj)) (s:Shared) (H:Hp),PTs (cxComp X scope C (O++M) fp pins s H) ifs tt)
    (he:∀(C:Addr) (fp:List Addr) (pins:List (Addr×Obj)) (s:Shared) (H:Hp),PE (cxComp X scope C (O++M) fp pins s H) elt te)
    (hN:X.N.Nodup) (hy:X.N[i]?=some y) (hl:X.env.scope.names.lookup y=some .local)
    (hsw:swapsWith (.ListComp elt [⟨tg,iter,ifs,0⟩] scope pos) (some (.Name y py)) spos.line X.env=pure true:=by rfl) (hs:∀v,foldedSetIterable iter X.env v=pure v:=by intro _;rfl) :
    PS X (.Assign [.Name y py] (.ListComp elt [⟨tg,iter,ifs,0⟩] scope pos) spos) (tAsg (tCompG wi g tt te O.length js) (gName i)):=by
  intro pins s σ H D0 I h
  rw [exec_Assign_Name_used _ _ _ _ hsw]
  refine wpAny_bind (wpAny_standAt (wpAny_bind ?_))
  show wpAny _ X.A (do let _ ←comprehension (.ListComp elt [⟨tg,iter,ifs,0⟩] scope pos) scope X.env _ (newList []) false (eval iter X.env) (some (assign (.Name y py) X.env))) _ _ s
  refine wpAny_bind (wpAny_mono (wpAny_comprehension_free (use:=some (assign (.Name y py) X.env)) (Q:=fun _ s'=>SP X pins D0 .next s') rfl hs (zi7 (S.cells I)) S.kind S.names
    (thn (hi pins s σ H _ I h) fun xv s1 h1=>thn h1 fun itv s2 h2=>?_)) (fun _ s' hq=>wpAny_pure (wpAny_pure hq)) fun _ _ e=>e)
  obtain ⟨it,fp,tn,J,H1,rfl,I2,T,st2,f2,q⟩:=h2
  refine wpAny_newObj_type ?_ (by show 0≤sizeLine;decide)
  have hD:H1 s2.heap.objs.size=none:=I2.hok.fresh (Nat.le_refl _)
  obtain ⟨W,⟨m0,w0⟩,turn⟩:=q _ hD
  have I3:Inv X pins σ (upd H1 s2.heap.objs.size (.lst [])) {s2 with heap:=s2.heap.push {cls:=.type "list",data:=.seq ([]:List Value).toArray}}:=I2.lnew (t':=s2.toks) .nil (Nat.zero_le _)
  have fr3:∀b∈fp,FpOk X pins (upd H1 s2.heap.objs.size (.lst [])) b:=fun b hb=>by
    obtain ⟨f0,f⟩:=f2 b hb
    obtain ⟨o,e,_⟩:=T.obj 0 _ st2 b hb
    exact ⟨by rw [zan (Nat.ne_of_lt (Heap.lt_size e))];exact f0,f⟩
  refine zi5 (Qe:=fun H'=>gName i (.ref s2.heap.objs.size) σ H' D0.nx) (R:=fun C=>compPost (model X.prog X.w) X.A X.xe (some (assign (.Name y py) X.env)) (fun _ s'=>SP X pins D0 .next s') (.ref s2.heap.objs.size) C) S hc hjs hlen hg ht he I3 T
    (T.keep _ _ _ st2 fun b hb o e=>Heap.get?_push_of_some _ e) fr3 w0 turn ?_
  intro C s' H' pins' σ' hC Jv qe
  have Ie:Inv X pins σ H' s':=zhh I3 fr3 Jv hC (Heap.SameBut.refl ..)
  obtain ⟨m,hn,_⟩:=Jv.loc
  have fC:=I3.fpOk (H':=H') hC Jv.free
  obtain ⟨c0,c1,c2,c3,c4,c5⟩:=fC
  show wpAny _ X.A (assign (.Name y py) X.env (.ref s2.heap.objs.size)) (fun _ s''=>∃m,s''.heap.Ns C m∧∀h',Heap.SameBut C s''.heap h'→SP X pins D0 .next {s'' with heap:=h'}) X.xe s'
  refine wpAny_assign_Name (zff Ie hN hy (.inl hl) (show RelV (.ref s2.heap.objs.size) (.ref s2.heap.objs.size) from rfl) (fun s'' I'' ⟨a,hsb,ha⟩=>?_) (.inr hl))
  have hCa:C≠a:=by
    rcases ha with rfl|ha
    · exact c1
    · exact Ne.symm (c4 _ _ ha)
  exact ⟨m,hn.sameBut hsb hCa,fun h' hs'=>⟨_,H',I''.turned (t':=s''.toks) (fun b o hb e=>(hs'.2 b hb).trans e) c0 c1 c3 c4 c5,qe⟩⟩
end
end EE
namespace EE
open PySem PySem.Spec PyProof.Rows L2
end EE
namespace E3
open PySem PySem.Spec PyProof.Rows L2 EE
def exG (K:PySem.W.Frag) (g:TG3):TG:=fun v τ H Q=>∃Z:Zt,lG K Z g v τ H Q
def exT (K:PySem.W.Frag) (t:TT3):TT:=fun τ H Q=>∃Z:Zt,lT K Z t τ H Q
theorem PG3.ex {X:Cx} {e:Expr} {g:TG3} (h:PG3 X NoX e g):PG X e (exG X.K g):=fun pins s σ H v u Q I r z_1=>by obtain ⟨Z,q⟩:=z_1;exact h (ZX.no X Z) pins s σ H v u Q I r q
theorem PT3.ex {X:Cx} {e:Expr} {t:TT3} (h:PT3 X NoX e t):PT X e (exT X.K t):=fun pins s σ H Q I z_2=>by obtain ⟨Z,q⟩:=z_2;exact h (ZX.no X Z) pins s σ H Q I q
def PTs3 (X:Cx) (ifs:List Expr) (t:TT3):Prop:=PTs X ifs (exT X.K t)
theorem PTs3.ex {X:Cx} {ifs:List Expr} {t:TT3} (h:PTs3 X ifs t):PTs X ifs (exT X.K t):=h
theorem ts_one {X:Cx} {c:Expr} {t:TT3} (h:PT3 X NoX c t):PTs3 X [c] t:=zpi h.ex
def ShG (n:Nat) (g:TG3) (Sh:D→St3→Prop):Prop:=∀d ρ,Sh d ρ→ρ.length=n∧∀σ1 S Q,Q (ρ++σ1) S→g d (List.replicate n none++σ1) S Q
def Sh1:D→St3→Prop:=fun d ρ=>ρ=[some d]
theorem sh1:ShG 1 (name3 0) Sh1:=fun d ρ h=>by
  cases h
  exact ⟨rfl,fun σ1 S Q q=>q⟩
def compS3 (wi:TI3) (Sh:D→St3→Prop) (tt:TT3) (te:TE3) (js:List Nat):TE3:=fun σ S Q=>wi σ S fun ds Al S1=>∃W:Nat→List D→Hp3→Prop,W 0 [] S1∧(∀i ys S,W i ys S→Al S∧ys.length<sizeLine) ∧
  (∀i d ys S,ds[i]?=some d→W i ys S→∃ρ,Sh d ρ∧tt (ρ++pick3 σ js) S fun b S2=>if b=true then te (ρ++pick3 σ js) S2 fun y S3=>W (i+1) (ys++[y]) S3 else W (i+1) ys S2)∧∀ys S,W ds.length ys S→newL S ys Q
theorem SR.blank {K:PySem.W.Frag} {H:Hp} {r:St3}:∀{ρ:St3} {τ:L2.St},SR K H (ρ++r) τ→SR K H (List.replicate ρ.length none++r) τ
  | [],_,h=>h
  | _::ρ,_,.cons _ t=>.cons (fun d e=>by cases e) (SR.blank (ρ:=ρ) t)
theorem zkp {K:PySem.W.Frag} {Z:Zt} {wi:TI3} {Sh:D→St3→Prop} {g:TG3} {tt:TT3} {te:TE3} {n:Nat} {js:List Nat} {τ:L2.St} {H:Hp} {Q:VK} (hsh:ShG n g Sh) (h:lE K Z (compS3 wi Sh tt te js) τ H Q) :
    tCompG (lI K Z wi) (exG K g) (exT K tt) (exZ K te) n js τ H Q:=by
  obtain ⟨σ,S,Q3,hs,hr,ht,hc⟩:=h
  refine ⟨σ,S,_,hs,hr,ht,fun ds Al S1 J H1 k1 l1 q1 wk=>?_⟩
  intro p hp
  obtain ⟨W,w0,al,turn,done⟩:=q1
  obtain ⟨hsp,hzp⟩:=l1.fresh hp
  have kp:Kp Z H1 (upd H1 p (.lst [])):=Kp.new hp hzp
  have sr0:SR K (upd H1 p (.lst [])) (List.replicate n none++pick3 σ js) (List.replicate n none++pick τ js):=zbe (SR.nones n) ((hs.mono (k1.trans kp)).picks js)
  refine ⟨fun i m τ' H'=>m=ds.length-i∧i≤ds.length∧SR K H' (List.replicate n none++pick3 σ js) τ'∧∃ys vs S',Kp Z H1 H'∧H' p=some (.lst vs)∧Rps K H' ys vs∧S' p=none∧Rl K Z S' H'∧W i ys S',
    ⟨ds.length,by simp,Nat.zero_le _,sr0,[],[],S1,kp,za6,.nil,hsp,l1.lay hp,w0⟩,?_⟩
  rintro i m τ' H2 ⟨rfl,hi,sr2,ys,vs,S2,k2,hp2,ry,hs2,l2,w2⟩
  obtain ⟨al2,hz⟩:=al _ _ _ w2
  by_cases hlt:i<ds.length
  · have hd:ds[i]?=some ds[i]:=List.getElem?_eq_getElem hlt
    obtain ⟨go,yl⟩:=wk.go i _ S2 H2 k2 l2 al2 hd
    refine .inr ⟨go,fun τ' H'=>i<ds.length∧SR K H' (List.replicate n none++pick3 σ js) τ'∧∃ys vs S',Kp Z H1 H'∧H' p=some (.lst vs)∧Rps K H' ys vs∧S' p=none∧Rl K Z S' H'∧W (i+1) ys S',
      fun τ' H' z=>⟨ds.length-(i+1),by omega,rfl,z.1,z.2⟩,fun v H3 y=>?_⟩
    obtain ⟨k3,rv,l3,o3⟩:=yl v H3 y
    have hp3:H3 p=some (.lst vs):=(o3 p (by rw [hp2];simp)).trans hp2
    obtain ⟨ρ,hρ,step⟩:=turn i _ ys S2 hd w2
    obtain ⟨hn,hg⟩:=hsh _ ρ hρ
    refine ⟨Z.hide H3 p,ds[i],_,S2,fun σ' S'=>σ'=ρ++pick3 σ js∧S'=S2,rv,sr2.mono k3,(l3 _ l2).hide hs2 (by rw [hp3];simp),hg _ _ _ ⟨rfl,rfl⟩,?_⟩
    rintro σ4 S4 τ4 H4 k4 sr4 l4 ⟨rfl,rfl⟩
    refine ⟨Z.hide H3 p,_,_,_,sr4,l4,step,?_⟩
    intro b S5 H5 k5 l5 q5
    have at5:∀{S6:Hp3} {H6:Hp},Kp (Z.hide H3 p) H4 H6→Rl K (Z.hide H3 p) S6 H6→H6 p=some (.lst vs)∧Kp Z H3 H6∧Rl K Z S6 H6∧S6 p=none:=fun {S6 H6} k6 l6=>by
      have kk:=(k4.trans k6).unhide (Z:=Z) fun a z=>.inl z
      exact ⟨((k4.trans k6).hid p (.inr rfl)).trans hp3,kk,l6.unhide (Z:=Z) (fun a z=>.inl z) ((l3 _ l2).old.trans kk),(l6.hid p (.inr rfl)).1⟩
    have bl:∀{H6:Hp},SR K H6 (ρ++pick3 σ js) τ4→SR K H6 (List.replicate n none++pick3 σ js) τ4:=fun {H6} z=>by
      have:=SR.blank z
      rw [hn] at this
      exact this
    cases b with
    | false =>
      rw [if_neg Bool.false_ne_true]
      obtain ⟨hp5,kk,l5',sp5⟩:=at5 k5 l5
      exact ⟨hlt,bl (sr4.mono k5),ys,vs,S5,k2.trans (k3.trans kk),hp5,ry.mono (k3.trans kk),sp5,l5',q5⟩
    | true =>
      rw [if_pos rfl]
      refine ⟨Z.hide H3 p,_,S5,_,sr4.mono k5,l5,q5,?_⟩
      intro d S6 w H6 k6 r6 l6 q6
      obtain ⟨hp6,k6',l6',sp6⟩:=at5 (k5.trans k6) l6
      have kk:Kp Z H6 (upd H6 p (.lst (vs++[w]))):=by
        refine ⟨fun b xs e=>?_,fun b q u e=>?_,fun b z=>?_⟩
        · rw [zan];exact e
          rintro rfl;rw [hp6] at e;cases e
        · rw [zan];exact e
          rintro rfl;rw [hp6] at e;cases e
        · rw [zan];rintro rfl;exact hzp z
      have hlen:ys.length=vs.length:=ry.len
      refine ⟨vs,hp6,by omega,hlt,bl ((sr4.mono (k5.trans k6)).mono kk),ys++[d],vs++[w],S6,k2.trans (k3.trans (k6'.trans kk)),za6,(ry.mono (k3.trans (k6'.trans kk))).append (.cons (r6.mono kk) .nil),sp6,
        ⟨fun b u e=>(l6'.obj b u e).keep kk (zan (ne3 e sp6)),fun b z=>?_,l6'.old.trans kk⟩,q6⟩
      have hb:b≠p:=fun e=>hzp (e▸z)
      rw [zan hb]
      exact l6'.hid b z
  · have e:i=ds.length:=by omega
    subst e
    refine .inl ⟨wk.stop S2 H2 k2 l2 al2,?_⟩
    refine hc (.ref p) (up S2 p (.lst ys)) (.ref p) H2 (k1.trans k2) (.ref p) ⟨fun b u e=>?_,fun b z=>?_,l2.old⟩ (done ys S2 w2 p hs2)
    · by_cases hb:b=p
      · subst hb
        rw [zaf] at e
        cases e
        exact ⟨vs,hp2,ry⟩
      · rw [zb9 hb] at e
        exact l2.obj b u e
    · have hb:b≠p:=fun e=>hzp (e▸z)
      rw [zb9 hb]
      exact l2.hid b z
section
variable {X:Cx} {W3:W3T} {elt iter tg:Expr} {ifs:List Expr} {x x':Str} {px px' pos tp:Pos} {kt:Nat} {scope osc:Scope} {O M N:List Str} {js:List Nat} {wi:TI3} {g:TG3} {Sh:D→St3→Prop} {tt:TT3} {te:TE3}
theorem zpf {i:Nat} {y:Str} {py spos:Pos} (S:CompScG osc O M scope) (hjs:M.map some=js.map fun j=>N[j]?) (hc:X.calm=true) (hsh:ShG O.length g Sh) (hi:PI3 X W3 tg iter wi)
    (hg:∀(C:Addr) (fp:List Addr) (pins:List (Addr×Obj)) (s:Shared) (H:Hp),PG3 (cxComp X scope C (O++M) fp pins s H) NoX tg g)
    (ht:∀(C:Addr) (fp:List Addr) (pins:List (Addr×Obj)) (s:Shared) (H:Hp),PTs3 (cxComp X scope C (O++M) fp pins s H) ifs tt)
    (he:∀(C:Addr) (fp:List Addr) (pins:List (Addr×Obj)) (s:Shared) (H:Hp),PE3 (cxComp X scope C (O++M) fp pins s H) NoX elt te)
    (hNd:X.N.Nodup) (hy:X.N[i]?=some y) (hl:X.env.scope.names.lookup y=some .local) (hosc:X.env.scope=osc) (hN:X.N=N)
    (hsw:swapsWith (.ListComp elt [⟨tg,iter,ifs,0⟩] scope pos) (some (.Name y py)) spos.line X.env=pure true) (hs:∀v,foldedSetIterable iter X.env v=pure v) :
    PS3 X W3 (.Assign [.Name y py] (.ListComp elt [⟨tg,iter,ifs,0⟩] scope pos) spos) (set3 i (compS3 wi Sh tt te js)):=fun Z=>by
  subst hosc hN
  exact PS.imp (znp S hc (zkk hjs).1 (zkk hjs).2 (hi Z) (fun C fp pins s H=>(hg C fp pins s H).ex) (fun C fp pins s H=>(ht C fp pins s H).ex) (fun C fp pins s H=>(he C fp pins s H).ex) hNd hy hl hsw hs) fun D τ H ⟨D3,σ,S,hs,hr,ht,hc⟩ =>
    zkp hsh ⟨σ,S,_,hs,hr,ht,fun d S' v H' k r l q=>hc.nx _ S' _ H' k ((hs.mono k).set r i) l q⟩
theorem own1 (S:CompScG osc [x] M scope) (C:Addr) (fp:List Addr) (pins:List (Addr×Obj)) (s:Shared) (H:Hp):PG3 (cxComp X scope C ([x]++M) fp pins s H) NoX (.Name x px) (name3 0) :=
  zh7 (i:=0) S.nd rfl (.inl (lookup_relabel_local (S.own x List.mem_cons_self))) (.inr (lookup_relabel_local (S.own x List.mem_cons_self)))
theorem zpg {i:Nat} {y:Str} {py spos:Pos} (S:CompScG osc [x] M scope) (hjs:M.map some=js.map fun j=>N[j]?) (hc:X.calm=true) (hi:PI3 X W3 (.Name x px) iter wi)
    (ht:∀(C:Addr) (fp:List Addr) (pins:List (Addr×Obj)) (s:Shared) (H:Hp),PTs3 (cxComp X scope C ([x]++M) fp pins s H) ifs tt)
    (he:∀(C:Addr) (fp:List Addr) (pins:List (Addr×Obj)) (s:Shared) (H:Hp),PE3 (cxComp X scope C ([x]++M) fp pins s H) NoX elt te)
    (hNd:X.N.Nodup) (hy:X.N[i]?=some y) (hl:X.env.scope.names.lookup y=some .local) (hosc:X.env.scope=osc:=by rfl) (hN:X.N=N:=by rfl)
    (hsw:swapsWith (.ListComp elt [⟨.Name x px,iter,ifs,0⟩] scope pos) (some (.Name y py)) spos.line X.env=pure true:=by rfl) (hs:∀v,foldedSetIterable iter X.env v=pure v:=by intro _;rfl) :
    PS3 X W3 (.Assign [.Name y py] (.ListComp elt [⟨.Name x px,iter,ifs,0⟩] scope pos) spos) (set3 i (compS3 wi Sh1 tt te js)):=zpf S hjs hc sh1 hi (own1 S) ht he hNd hy hl hosc hN hsw hs
end
section
variable {σ:St3} {S:Hp3} {Q:K3} {wi:TI3} {js:List Nat} {tt:TT3} {te:TE3} {Sh:D→St3→Prop}
theorem j_compS (h:wi σ S fun ds Al S1=>∃W:Nat→List D→Hp3→Prop,W 0 [] S1∧(∀i ys S,W i ys S→Al S∧ys.length<sizeLine) ∧
  (∀i d ys S,ds[i]?=some d→W i ys S→∃ρ,Sh d ρ∧tt (ρ++pick3 σ js) S fun b S2=>if b=true then te (ρ++pick3 σ js) S2 fun y S3=>W (i+1) (ys++[y]) S3 else W (i+1) ys S2)∧∀ys S,W ds.length ys S→newL S ys Q):compS3 wi Sh tt te js σ S Q:=h
theorem zoo {ds:List D} {Al:Hp3→Prop} {S1:Hp3} (p:Nat→Bool) (f:Nat→D) (hz:ds.length≤100000) (hA:Al S1)
    (h:∀i d,ds[i]?=some d→∃ρ,Sh d ρ∧(∀P:Bool→Hp3→Prop,P (p i) S1→tt (ρ++pick3 σ js) S1 P)∧(p i=true→∀P:K3,P (f i) S1→te (ρ++pick3 σ js) S1 P)) (q:newL S1 (((List.range ds.length).filter p).map f) Q) :
    ∃W:Nat→List D→Hp3→Prop,W 0 [] S1∧(∀i ys S,W i ys S→Al S∧ys.length<sizeLine) ∧
  (∀i d ys S,ds[i]?=some d→W i ys S→∃ρ,Sh d ρ∧tt (ρ++pick3 σ js) S fun b S2=>if b=true then te (ρ++pick3 σ js) S2 fun y S3=>W (i+1) (ys++[y]) S3 else W (i+1) ys S2)∧∀ys S,W ds.length ys S→newL S ys Q:=by
  refine ⟨fun i ys S=>i≤ds.length∧ys=((List.range i).filter p).map f∧S=S1,⟨Nat.zero_le _,rfl,rfl⟩,?_,?_,?_⟩
  · rintro i ys S ⟨hi,rfl,rfl⟩
    refine ⟨hA,?_⟩
    rw [List.length_map]
    have:=List.length_filter_le p (List.range i)
    rw [List.length_range] at this
    exact zd4 (Nat.le_trans this (Nat.le_trans hi (Nat.le_trans hz (by decide))))
  · rintro i d ys S hd ⟨hi,rfl,rfl⟩
    obtain ⟨ρ,hρ,h1,h2⟩:=h i d hd
    have hi':=(List.getElem?_eq_some_iff.mp hd).1
    refine ⟨ρ,hρ,h1 _ ?_⟩
    cases c:p i with
    | true =>
      rw [if_pos rfl]
      refine h2 c _ ⟨hi',?_,rfl⟩
      rw [List.range_succ,List.filter_append,List.map_append]
      simp [c]
    | false =>
      rw [if_neg (by decide)]
      refine ⟨hi',?_,rfl⟩
      rw [List.range_succ,List.filter_append,List.map_append]
      simp [c]
  · rintro ys S ⟨_,rfl,rfl⟩
    exact q
theorem j_sh1 {d:D} {P:St3→Prop} (h:P [some d]):∃ρ,Sh1 d ρ∧P ρ:=⟨_,rfl,h⟩
end
end E3
namespace E3
open PySem PySem.Spec PyProof.Rows L2 EE
end E3
namespace E3
open PySem PySem.Spec PyProof.Rows L2 EE
end E3
namespace EE
open PySem PySem.Spec PyProof.Rows L2
theorem zd2:∀{ns:List Int} {us:List Value},Vals (ns.map V.int) us→∃ps:List (Int×Tok),us=ps.map (fun p=>.int p.1 p.2)∧ps.map (·.1)=ns
  | [],_,.nil=>⟨[],rfl,rfl⟩
  | n::ns,_,.cons r t=>by
    obtain ⟨tk,rfl⟩:=r
    obtain ⟨ps,rfl,e⟩:=zd2 t
    exact ⟨(n,tk)::ps,rfl,by rw [List.map_cons,e]⟩
theorem zjk:∀{bs:List Bool} {us:List Value},Vals (bs.map V.bl) us→us=bs.map Value.bool
  | [],_,.nil=>rfl
  | b::bs,_,.cons r t=>by
    cases r
    rw [zjk t]
    rfl
section
variable {X:Cx}
theorem range_all (bs:List Bool):((List.range bs.length).all fun i=>bs.getD i true)=bs.all id:=by
  rw [Bool.eq_iff_iff,List.all_eq_true,List.all_eq_true]
  constructor
  · intro h b hb
    obtain ⟨j,hj,rfl⟩:=List.getElem_of_mem hb
    have:=h j (List.mem_range.mpr hj)
    rw [List.getD_eq_getElem?_getD,List.getElem?_eq_getElem hj] at this
    exact this
  · intro h j hj
    have hj':=List.mem_range.mp hj
    rw [List.getD_eq_getElem?_getD,List.getElem?_eq_getElem hj']
    exact h _ (List.getElem_mem hj')
theorem zm6 {prog:Program} {w:World} {A:Around} {bs:List Bool}:TruthOf prog w A (fun i v=>(bs.map Value.bool).toArray[i]?=some v) (fun i=>bs.getD i true):=by
  intro i v s Q E hP hQ
  rw [List.getElem?_toArray,List.getElem?_map] at hP
  obtain ⟨b,hb,rfl⟩:=Option.map_eq_some_iff.mp hP
  dsimp only at hQ
  rw [List.getD_eq_getElem?_getD,hb] at hQ
  exact wpAny_truthy_bool hQ
theorem zec (hc:X.calm=true):CallR X (.builtin "all") (fun xs H Q=>∃(a:Addr) (bs:List Bool),xs=[.ref a]∧SqL X.K H a (bs.map V.bl)∧Q (.bl (bs.all id)) H):=by
  intro pins s σ H xs us Q I r h
  obtain ⟨a,bs,rfl,hq,q⟩:=h
  obtain ⟨u,rfl,r1⟩:=vals1 r
  cases r1
  obtain ⟨its,rv,p,hz⟩:=I.list hq
  obtain rfl:=zjk rv
  have pl:=p.isList
  have hlt:a<s.heap.objs.size:=by
    obtain ⟨_,e,_⟩:=pl
    exact Heap.lt_size e
  refine call_all_walk (wpAny_pyIter_list pl ⟨_,_,_,_,_,_,_,rfl,Walks.list (A:=X.A.in1) (I.ok.hd hc) s.heap.objs.size a (Nat.ne_of_lt hlt) (bs.map Value.bool).toArray,⟨⟨_,Heap.get?_push_size _ rfl,rfl,rfl⟩,pl.push _⟩,zm6,fun h' tk hk=>?_⟩)
  have hz:(bs.map Value.bool).toArray.size=bs.length:=by simp
  rw [hz,range_all]
  refine ⟨.bl _,H,I.kept fun b o e=>hk b o (fun hm=>?_) (Heap.get?_push_of_some _ e),rfl,q⟩
  have e1:b=s.heap.objs.size:=by simpa using hm
  exact absurd (Heap.lt_size e) (by rw [e1];exact Nat.lt_irrefl _)
end
end EE
namespace E3
open PySem PySem.Spec PyProof.Rows L2 EE
section
variable {K:PySem.W.Frag}
theorem zop {H:Hp} {bs:List Bool} {vs:List V} (h:Rps K H (bs.map D.bl) vs):vs=bs.map V.bl:=by
  induction bs generalizing vs with
  | nil=>cases h;rfl
  | cons n ns ih =>
    rw [List.map_cons] at h
    cases h with
    | cons h t=>cases h;rw [ih t];rfl
def all3 (f:List Bool→Bool):List D→Hp3→K3→Prop:=fun xs S Q=>∃(x:D) (bs:List Bool),xs=[x]∧IsL S x (bs.map D.bl)∧Q (.bl (f bs)) S
theorem zj1 {f:List Bool→Bool}:DnC K (all3 f) (fun xs H Q=>∃(a:Addr) (bs:List Bool),xs=[.ref a]∧SqL K H a (bs.map V.bl)∧Q (.bl (f bs)) H):=by
  intro Z ds S Q3 vs H Q r l h c
  obtain ⟨x,bs,rfl,hx,q⟩:=h
  cases r with
  | cons r rr =>
    cases rr
    obtain ⟨a,ws,rfl,h1,h2⟩:=hx.down r l
    rw [zop h2] at h1
    exact ⟨a,bs,rfl,h1,c _ S _ H (Kp.refl _ _) (.bl _) l q⟩
def chain3 (r r':R3) (ta tb tc:TE3):TE3:=fun σ S Q=>ta σ S fun x S1=>tb σ S1 fun y S2=>r x y S2 fun z S3=>∃k,z=.bl k∧(if k=true then tc σ S3 fun u S4=>r' y u S4 Q else Q (.bl false) S3)
theorem zgn {Z:Zt} {r r':R2} {r3 r3':R3} {ta tb tc:TE3} {τ:L2.St} {H:Hp} {Q:VK} (hd:Dn2 K r3 r) (hd':Dn2 K r3' r') (h:lE K Z (chain3 r3 r3' ta tb tc) τ H Q):tChain r r' (lE K Z ta) (lE K Z tb) (lE K Z tc) τ H Q:=by
  obtain ⟨σ,S,Q3,hs,hr,ht,hc⟩:=h
  refine ⟨σ,S,_,hs,hr,ht,fun x S1 v H1 k1 r1 l1 q1=>⟨σ,S1,_,hs.mono k1,l1,q1,fun y S2 w H2 k2 r2 l2 q2=>?_⟩⟩
  refine hd Z x y S2 _ v w H2 _ (r1.mono k2) r2 l2 q2 fun z S3 u H3 k3 r3 l3 q3=>?_
  obtain ⟨k,rfl,q3⟩:=q3
  cases r3
  refine ⟨k,rfl,?_⟩
  cases k with
  | false =>
    rw [if_neg Bool.false_ne_true] at q3 ⊢
    exact hc (.bl false) S3 _ H3 (k1.trans (k2.trans k3)) (.bl false) l3 q3
  | true =>
    rw [if_pos rfl] at q3 ⊢
    exact ⟨σ,S3,_,hs.mono (k1.trans (k2.trans k3)),l3,q3,fun u S4 u' H4 k4 r4 l4 q4=>hd' Z y u S4 _ w u' H4 _ (r2.mono (k3.trans k4)) r4 l4 q4 (hc.mono (k1.trans (k2.trans (k3.trans k4))))⟩
end
section
variable {X:Cx} {W3:W3T} {a b c:Expr} {ta tb tc:TE3} {pos:Pos} {op op':CmpOp} {r r':R2} {r3 r3':R3}
theorem zqb (ho:OpR X (compareOp op) r) (hd:Dn2 X.K r3 r) (ho':OpR X (compareOp op') r') (hd':Dn2 X.K r3' r') (ha:PE3 X W3 a ta) (hb:PE3 X W3 b tb) (hc:PE3 X W3 c tc) (hm:lastMarks [op,op'] [b,c]=false:=by with_unfolding_all rfl) :
    PE3 X W3 (.Compare a [op,op'] [b,c] pos) (chain3 r3 r3' ta tb tc):=fun Z=>PE.imp (zny ho ho' (ha Z) (hb Z) (hc Z) hm) fun _ _ _ h=>zgn hd hd' h
theorem zio (ho:OpR X (compareOp op) r) (hd:Dn2 X.K r3 r) (ho':OpR X (compareOp op') r') (hd':Dn2 X.K r3' r') (ha:PE3 X W3 a ta) (hb:PE3 X W3 b tb) (hc:PE3 X W3 c tc) (hm:lastMarks [op,op'] [b,c]=false:=by with_unfolding_all rfl) :
    PT3 X W3 (.Compare a [op,op'] [b,c] pos) (test3 (chain3 r3 r3' ta tb tc)):=fun Z=>PT.imp (znk ho ho' (ha Z) (hb Z) (hc Z) hm) fun _ _ _ h=>zfc (fun _ _ _ h=>zgn hd hd' h) h
end
section
variable {σ:St3} {S:Hp3} {Q:K3} {ta tb tc:TE3} {r r':R3}
theorem j_chain (h:ta σ S fun x S1=>tb σ S1 fun y S2=>r x y S2 fun z S3=>∃k,z=.bl k∧(if k=true then tc σ S3 fun u S4=>r' y u S4 Q else Q (.bl false) S3)):chain3 r r' ta tb tc σ S Q:=h
theorem j_all {f:List Bool→Bool} {a:Addr} {bs:List Bool} (hS:S a=some (.lst (bs.map D.bl))) (q:Q (.bl (f bs)) S):all3 f [.ref a] S Q:=⟨_,bs,rfl,.inl ⟨a,rfl,hS⟩,q⟩
end
def ifm3 (c:TT3) (t u:TS3):TS3:=ifs3 c t u
theorem s_ifm {X:Cx} {W3:W3T} {c:Expr} {a b:List Stmt} {tc:TT3} {t u:TS3} {pos:Pos} (hc:PT3 X W3 c tc) (ha:PSs3 X W3 a t) (hb:PSs3 X W3 b u):PS3 X W3 (.If c a b pos) (ifm3 tc t u):=s_if hc ha hb
theorem j_ifm {tc:TT3} {t u:TS3} {n:St3→Hp3→Prop} {rt:K3} {bk ct:St3→Hp3→Prop} {σ:St3} {S:Hp3} (Mid:St3→Hp3→Prop) (h1:∀n':St3→Hp3→Prop,(∀σ S,Mid σ S→n' σ S)→ifs3 tc t u ⟨n',rt,bk,ct⟩ σ S)
    (h2:∀σ S,Mid σ S→n σ S):ifm3 tc t u ⟨n,rt,bk,ct⟩ σ S:=h1 n h2
end E3
namespace E3
open PySem PySem.Spec PyProof.Rows L2 EE
noncomputable abbrev Mat:=List (List Int)
structure Mt (m n:Nat) (A:Mat):Prop where
  len:A.length=m
  row:∀r∈A,r.length=n
  num:∀r∈A,∀x∈r,0≤x∧x≤2
theorem zml {S:Hp3} {d:D} {n:Nat} {Q:K3} (hp:d.pure=true) (hd:deepD d.dt≤n) (q:Q (.bl true) S):eqD3 n d d S Q:=⟨d.dt,d.dt,Dn.of hp,Dn.of hp,hd,by rw [zfa];exact q⟩
end E3
namespace E3
open PySem PySem.Spec PyProof.Rows L2 EE
end E3
namespace E3
open PySem PySem.Spec PyProof.Rows L2 EE
open Classical in
theorem zg7 {α:Type} [DecidableEq α]:∀{ks ns:List α},ks.Nodup→(∀x∈ks,x∈ns)→ks.length≤ns.length
  | [],_,_,_=>Nat.zero_le _
  | k::ks,ns,h,hs=>by
    have hk:=hs k List.mem_cons_self
    have h1:=List.length_erase_of_mem hk
    have h2:0<ns.length:=List.length_pos_of_mem hk
    have h3:=zg7 (ks:=ks) (ns:=ns.erase k) (List.nodup_cons.mp h).2 fun x hx=>by
      have hne:x≠k:=fun e=>(List.nodup_cons.mp h).1 (e▸hx)
      exact (List.mem_erase_of_ne hne).mpr (hs x (List.mem_cons_of_mem _ hx))
    simp only [List.length_cons]
    omega
end E3
namespace EE
open PySem PySem.Spec PyProof.Rows L2
end EE
namespace E3
open PySem PySem.Spec PyProof.Rows L2 EE
end E3
namespace EE
open PySem PySem.Spec PyProof.Rows L2
noncomputable def stS (σ:List Str) (v:Str):List Str:=if v∈σ then σ else σ++[v]
noncomputable def met (vs:List Str):List Str:=vs.foldl stS []
end EE
namespace EE
open PySem PySem.Spec PyProof.Rows L2
end EE
namespace E3
open PySem PySem.Spec PyProof.Rows L2 EE
end E3
namespace EE
open PySem PySem.Spec PyProof.Rows L2
end EE
namespace E3
open PySem PySem.Spec PyProof.Rows L2 EE
end E3
namespace EE
open PySem PySem.Spec PyProof.Rows L2
end EE
namespace E3
open PySem PySem.Spec PyProof.Rows L2 EE
end E3
namespace EE
open PySem PySem.Spec PyProof.Rows L2
end EE
namespace E3
open PySem PySem.Spec PyProof.Rows L2 EE
section
variable {K:PySem.W.Frag} {S:Hp3} {Q:K3}
theorem j_notinTS {xs:List Str} {z:Str} (q:Q (.bl (!decide (z∈xs))) S):in3 true (.str z) (.tup (xs.map D.str)) S Q :=
  ⟨_,.inr rfl,rfl,zmj xs,by rw [zlz,if_pos rfl];exact q⟩
end
end E3
namespace E3
open PySem PySem.Spec PyProof.Rows L2 EE
end E3
namespace E3
open PySem PySem.Spec PyProof.Rows L2 EE
theorem eq_nil {S:Hp3} {a b:Addr} {ds:List D} {n:Nat} {Q:K3} (ha:S a=some (.lst ds)) (hb:S b=some (.lst [])) (hp:∀d∈ds,d.pure=true) (hd:∀d∈ds,deepD d.dt+1≤n) (h1:1≤n) (q:Q (.bl ds.isEmpty) S):eqD3 n (.ref a) (.ref b) S Q:=by
  refine ⟨.lst (D.dts ds),.lst [],.ref ha (Dns.of (D.pures_iff.mpr hp)),.ref hb .nil,?_,?_⟩
  · simp only [deepD]
    have:deepDs (D.dts ds)≤n-1:=by
      rw [D.dts_map]
      refine zie fun d hd'=>?_
      obtain ⟨x,hx,rfl⟩:=List.mem_map.mp hd'
      have:=hd x hx
      omega
    omega
  · have e:eqD (.lst (D.dts ds)) (.lst [])=ds.isEmpty:=by cases ds<;>simp [eqD,eqDs,D.dts]
    rw [e]
    exact q
end E3
namespace E3
open PySem PySem.Spec PyProof.Rows L2 EE
end E3
namespace CL
section
variable {α:Type} [DecidableEq α]
variable {fit:α→α→Bool} {cmp:α→α→α}
theorem zg7 {β:Type} [DecidableEq β]:∀{l c:List β},l.Nodup→(∀x∈l,x∈c)→l.length≤c.length
  | [],_,_,_=>Nat.zero_le _
  | x::l,c,h,hs=>by
    have hx:=hs x List.mem_cons_self
    have h1:=zg7 (l:=l) (c:=c.erase x) (List.nodup_cons.mp h).2 fun y hy=>by
      refine (List.mem_erase_of_ne ?_).mpr (hs y (List.mem_cons_of_mem _ hy))
      rintro rfl
      exact (List.nodup_cons.mp h).1 hy
    rw [List.length_erase_of_mem hx] at h1
    have:0<c.length:=List.length_pos_of_mem hx
    rw [List.length_cons]
    omega
section
variable {β:Type} [DecidableEq β] {φ:α→β} {Gd:α→Prop} {C:List β} (inj:∀a b,Gd a→Gd b→φ a=φ b→a=b)
include inj
end
end
end CL
namespace EE
open PySem PySem.Spec PyProof.Rows L2
end EE
namespace EE
open PySem PySem.Spec PyProof.Rows L2
namespace FE
end FE
end EE
namespace E3
open PySem PySem.Spec PyProof.Rows L2 EE
end E3
namespace EE
open PySem PySem.Spec PyProof.Rows L2
end EE
namespace E3
open PySem PySem.Spec PyProof.Rows L2 EE
noncomputable abbrev Gr:=Str×Str×Mat
structure Gd (ar:Str→Option Nat) (g:Gr):Prop where
  ex:∃m n,ar g.1=some m∧ar g.2.1=some n∧1≤m∧1≤n∧m≤4∧n≤4∧Mt m n g.2.2
end E3
namespace E3
open PySem PySem.Spec PyProof.Rows L2 EE
end E3
namespace E3
open PySem PySem.Spec PyProof.Rows L2 EE
end E3
namespace E3
noncomputable abbrev cD (counts:List Nat):List D:=counts.map fun c:Nat=>D.int (c:Int)
end E3
namespace E3
open PySem PySem.Spec PyProof.Rows L2 EE
end E3
namespace E3
open PySem PySem.Spec PyProof.Rows L2 EE
noncomputable def tb (xs ys:List Str) (x:Str):Str:=ys.getD (xs.idxOf x) ""
end E3
namespace CL
end CL
namespace E3
open PySem PySem.Spec PyProof.Rows L2 EE
noncomputable def putI (f:Str) (d:D):List (Str×D)→List (Str×D)
  | []=>[(f,d)]
  | (k,x)::r=>if k=f then (k,d)::r else (k,x)::putI f d r
abbrev FP (K:PySem.W.Frag) (H:Hp) (fs:List (Str×D)) (ws:List (Str×V)):Prop:=Paired (fun (p:Str×D) (q:Str×V)=>p.1=q.1∧Rp K H p.2 q.2) fs ws
section
variable {K:PySem.W.Frag} {H:Hp}
theorem FP.look {f:Str} {d:D}:∀{fs:List (Str×D)} {ws:List (Str×V)},FP K H fs ws→fs.lookup f=some d→∃v,ws.lookup f=some v∧Rp K H d v
  | _,_,.nil,e=>by simp at e
  | (k,x)::fs,(k',y)::ws,.cons ⟨h1,h2⟩ t,e=>by
    have h1:k=k':=h1
    subst h1
    by_cases hb:(f==k)=true
    · simp only [List.lookup,hb] at e ⊢
      cases e
      exact ⟨_,rfl,h2⟩
    · have hb:(f==k)=false:=by simpa using hb
      simp only [List.lookup,hb] at e ⊢
      exact FP.look t e
theorem FP.none {f:Str}:∀{fs:List (Str×D)} {ws:List (Str×V)},FP K H fs ws→fs.lookup f=none→ws.lookup f=none
  | _,_,.nil,_=>rfl
  | (k,x)::fs,(k',y)::ws,.cons ⟨h1,h2⟩ t,e=>by
    have h1:k=k':=h1
    subst h1
    by_cases hb:(f==k)=true
    · simp only [List.lookup,hb] at e
      cases e
    · have hb:(f==k)=false:=by simpa using hb
      simp only [List.lookup,hb] at e ⊢
      exact FP.none t e
theorem FP.put {f:Str} {d:D} {v:V} (r:Rp K H d v):∀{fs:List (Str×D)} {ws:List (Str×V)},FP K H fs ws→FP K H (putI f d fs) (putF f v ws)
  | _,_,.nil=>.cons ⟨rfl,r⟩ .nil
  | (k,x)::fs,(k',y)::ws,.cons ⟨h1,h2⟩ t=>by
    have h1:k=k':=h1
    subst h1
    rw [show putF f v ((k,y)::ws)=(if k=f then (k,v)::ws else (k,y)::putF f v ws) from rfl,putI]
    by_cases hk:k=f
    · rw [if_pos hk,if_pos hk];exact .cons ⟨rfl,r⟩ t
    · rw [if_neg hk,if_neg hk];exact .cons ⟨rfl,h2⟩ (FP.put r t)
theorem FP.len:∀{fs:List (Str×D)} {ws:List (Str×V)},FP K H fs ws→fs.length=ws.length
  | _,_,.nil=>rfl
  | _,_,.cons _ t=>by simp [FP.len t]
theorem FP.mono {Z:Zt} {H':Hp} {fs:List (Str×D)} {ws:List (Str×V)} (k:Kp Z H H') (h:FP K H fs ws):FP K H' fs ws:=Paired.mapP h fun _ _ z=>⟨z.1,z.2.mono k⟩
end
def fldR (C:Addr) (f:Str):D→Hp3→K3→Prop:=fun x S Q=>∃a fs d,x=.ref a∧S a=some (.ins C fs)∧fs.lookup f=some d∧Q d S
def fld3 (C:Addr) (t:TE3) (f:Str):TE3:=fun σ S Q=>t σ S fun x S1=>fldR C f x S1 Q
def putR (C:Addr) (f:Str):D→D→Hp3→(Hp3→Prop)→Prop:=fun x y S q=>∃a fs,x=.ref a∧S a=some (.ins C fs)∧fs.length<1000∧q (up S a (.ins C (putI f y fs)))
def sfld3 (C:Addr) (ta tv:TE3) (f:Str):TS3:=fun D3 σ S=>tv σ S fun y S1=>ta σ S1 fun x S2=>putR C f x y S2 (D3.nx σ)
def methR (C:Addr) (m:Str) (k:Addr→Prop) (x:D) (S:Hp3):Prop:=∃a fs,x=.ref a∧S a=some (.ins C fs)∧fs.lookup m=none∧k a
def meth3 (C:Addr) (m:Str) (sp:Sp3) (W3:W3T) (ta:TE3) (t:TA3):TE3:=fun σ S Q=>ta σ S fun x S1=>methR C m (fun a=>t σ S1 fun ds S2=>sp (.ref a::ds) S2 Q (W3 σ)) x S1
def meth03 (C:Addr) (m:Str) (sp:Sp3) (W3:W3T) (ta:TE3):TE3:=fun σ S Q=>ta σ S fun x S1=>methR C m (fun a=>sp [.ref a] S1 Q (W3 σ)) x S1
def make3 (C:Addr) (sp:Sp3) (W3:W3T) (t:TA3):TE3:=fun σ S Q=>t σ S fun ds S1=>∀a,S1 a=none→sp (.ref a::ds) (up S1 a (.ins C [])) (fun d S2=>d=.non∧Q (.ref a) S2) (W3 σ)
section
variable {X:Cx} {W3:W3T} {o e value:Expr} {f:Str} {pos pos':Pos} {ta tv t:TE3} {C:Addr}
theorem zia (c:Cls X.K C) (n:NoAttr X.K C f) (he:PE3 X W3 e t) (hb:attributeBase e f X.env (eval e X.env)=eval e X.env):PE3 X W3 (.Attribute e f pos) (fld3 C t f):=by
  refine fun Z=>PE.imp (pe_fld (he Z) hb) fun τ H Q ⟨σ,S,Q3,hs,hr,ht,hc⟩=>?_
  refine ⟨σ,S,_,hs,hr,ht,fun d S1 v H1 k1 r1 l1 ⟨a,fs,d',e1,e2,e3,q⟩=>?_⟩
  subst e1
  cases r1
  obtain ⟨dx,ws,h1,h2⟩:=l1.obj a _ e2
  obtain ⟨v',h3,h4⟩:=FP.look h2 e3
  exact ⟨a,C,dx,ws,v',rfl,h1,c,n,h3,hc d' S1 v' H1 k1 h4 l1 q⟩
theorem s_fld (c:Cls X.K C) (n:NoAttr X.K C f) (ha:PE3 X W3 o ta) (hv:PE3 X W3 value tv) (hs:swapsWith value (some (.Attribute o f pos')) pos.line X.env=pure false):PS3 X W3 (.Assign [.Attribute o f pos'] value pos) (sfld3 C ta tv f):=by
  refine fun Z=>PS.imp (ps_fld (ha Z) (hv Z) hs) fun D τ H ⟨D3,σ,S,hs,hr,ht,hc⟩=>?_
  refine ⟨σ,S,_,hs,hr,ht,fun y S1 vy H1 k1 ry l1 q1=>⟨σ,S1,_,hs.mono k1,l1,q1,fun x S2 vx H2 k2 rx l2 ⟨a,fs,e1,e2,hl,q⟩=>?_⟩⟩
  subst e1
  cases rx
  obtain ⟨dx,ws,h1,h2⟩:=l2.obj a _ e2
  have k3:Kp Z.z H2 (upd H2 a (.ins C dx (putF f vy ws))):=Kp.at l2 e2
  refine ⟨a,C,dx,ws,rfl,h1,c,n,by rw [←FP.len h2];exact hl,hc.nx σ _ τ _ ((k1.trans k2).trans k3) (hs.mono ((k1.trans k2).trans k3)) (l2.put (o:=.ins C (putI f y fs)) k3 (l2.notZ e2) ⟨dx,_,za6,?_⟩) q⟩
  exact FP.put ((ry.mono k2).mono k3) (FP.mono k3 h2)
end
structure HasM (K:PySem.W.Frag) (C:Addr) (m q:Str) (st:Stmt) (ps:List Str):Prop where
  ex:∃f fd,Fun K m q st f fd∧Binds K fd ps []∧Meth K C m f
structure Met3 (P:Program) (w:World) (K:PySem.W.Frag) (mg:Str→Option Value) (base:Heap) (k:Nat) (C:Addr) (m:Str) (ps:List Str) (sp:Sp3):Prop where
  ex:∃f fd,FnOk P w K mg base (CX1 P w) k f fd ps (lSp K sp)∧Binds K fd ps []∧Meth K C m f
section
variable {P:Program} {w:World} {K:PySem.W.Frag} {mg:Str→Option Value} {base:Heap} {m q:Str} {C:Addr} {st:Stmt} {N ps:List Str} {k:Nat}
theorem Met3.mono {j k:Nat} {sp:Sp3} (M:Met3 P w K mg base j C m ps sp) (h:j≤k):Met3 P w K mg base k C m ps sp:=by
  obtain ⟨f,fd,F,r⟩:=M.ex
  exact ⟨f,fd,F.mono h,r⟩
theorem zdw {f:Addr} {oc:Value} {od an:Option Addr} {osl:Array (Option Value)} {kV doc pm cdv ct:Value}
    (a:PySem.W.findIn K (.ref C) m=some (some (.ref f))) (i:PySem.W.isFn K (.ref f)=true) (l:K.lookup f=some ⟨oc,od,.func (PySem.W.fnOf m q (defArgs st) (defBody st) (defScope st) .none kV doc pm an cdv ct),osl⟩)
    (c:PySem.W.codeIn K cdv q=true) (k:PySem.W.keepIn K (.ref f)=true)
    (hb:∀(kV doc pm:Value) (an:Option Addr) (cdv ct:Value) (us:List Value),us.length=ps.length→bindArgs (PySem.W.fnOf m q (defArgs st) (defBody st) (defScope st) .none kV doc pm an cdv ct) ⟨us,[]⟩=pure (ps.zip us)):HasM K C m q st ps:=by
  have F:=zmh (st:=st) l c k
  exact ⟨f,_,F,F.binds hb,a,i,k⟩
theorem HasM.met3 {sp:Sp3} (h:HasM K C m q st ps) (S:FnScope N ps (defScope st)) (len:∀vs H Q E,sp vs H Q E→vs.length=ps.length)
    (hbody:∀(f:Addr) (cdv:Value) (A:Around) (outer:List Env) (s:Shared) (H:Hp) (E:XK) (ds:List D) (S:Hp3) (Q:K3) (E3:X3),Room k (A.deeper (envOfC q (defScope st) s.heap.objs.size f cdv))→sp ds S Q E3 →
      ∃t,PSs3 (cxOf (CX1 P w) P w K mg base N q (defScope st) f cdv A outer s H E).nox NoX (defBody st) t∧t {nx:=fun _ S'=>Q .non S',rt:=Q} (start3 N ds) S):Met3 P w K mg base (k+1) C m ps sp:=by
  obtain ⟨f,fd,F,b,mt⟩:=h.ex
  obtain ⟨oc,od,kV,doc,pm,an,cdv,ct,osl,rfl,lk,hcd⟩:=F.ex
  refine ⟨f,_,zmi lk hcd S (fun vs H Q E z_1=>by obtain ⟨Z,ds,S,Q3,E3,h1,_,h3,_,_⟩:=z_1;rw [←h1.len];exact len _ _ _ _ h3) fun A outer s H vs Q E hr ⟨Z,ds,S3,Q3,E3,h1,h2,h3,h4,_⟩=>?_,b,mt⟩
  obtain ⟨t,ht,q⟩:=hbody f cdv A outer s H E ds S3 Q3 E3 hr h3
  refine ⟨_,(ht (zx0 Z H)).nox,_,start3 N ds,S3,?_,h2.into,q,⟨?_,?_,?_,?_⟩⟩
  · unfold start3 L2.start
    rw [h1.len]
    exact zbe (SR.ofRps h1) (SR.nones _)
  · intro σ S' τ H' kk _ l q'
    exact h4 .non S' .non H' (kk.unhide fun _ z=>z) .non (l.out h2 kk) q'
  · exact fun _ _ _ _ _ _ _ z=>z
  · exact fun _ _ _ _ _ _ _ z=>z
  · exact fun d S' v H' kk r l q'=>h4 d S' v H' (kk.unhide fun _ z=>z) r (l.out h2 kk) q'
theorem HasM.none3 {sp:Sp3} (h:HasM K C m q st ps) (no:∀ds S Q E,¬sp ds S Q E) (j:Nat):Met3 P w K mg base j C m ps sp:=by
  obtain ⟨f,fd,F,b,mt⟩:=h.ex
  exact ⟨f,fd,⟨fun vs H Q E z_2=>by obtain ⟨_,_,_,_,_,_,_,z,_,_⟩:=z_2;exact absurd z (no _ _ _ _),fun A outer s H args us vs Q E _ _ _ _ z_3=>by obtain ⟨_,_,_,_,_,_,_,z,_,_⟩:=z_3;exact absurd z (no _ _ _ _)⟩,b,mt⟩
end
section
variable {X:Cx} {CX:CXT} {k:Nat} {f C:Addr} {fd:FuncData} {ps:List Str} {sp:Sp} {E:L2.St→XK} {x m:Str} {p pos apos:Pos} {e o:Expr} {es:List Expr} {ta:TE} {t:TA}
theorem zld {pins:List (Addr×Obj)} {σ:L2.St} {H:Hp} {s:Shared} {Q:VK} {us:List Value} {vs:List V} (F:FnOk X.prog X.w X.K X.mg X.base CX k f fd ps sp) (hr:Room k X.A) (hb:Binds X.K fd ps []) (hx:∀τ,PassesAt CX X (E τ) τ)
    (I:Inv X pins σ H s) (r:Vals vs us) (h:sp vs H Q (E σ)):wpAny (model X.prog X.w) X.A (call (.ref f) us) (EP X pins σ Q) X.xe s:=by
  have hl:us.length=ps.length:=by rw [←r.length];exact F.len _ _ _ _ h
  have hb':=hb s us I.kIn (by rw [List.append_nil];exact hl)
  rw [List.append_nil] at hb'
  refine wpAny_call (codeAny_mono (F.run X.A X.stack s H ⟨us,[]⟩ us vs Q (E σ) hr I.env0 hb' r h) fun r s' hq=>?_)
  cases r with
  | error e=>exact hx σ pins H s e s' I hq
  | ok fl =>
    cases fl with
    | ret u=>exact I.after hq
    | next=>exact False.elim hq
    | brk=>exact False.elim hq
    | cont=>exact False.elim hq
theorem znt {pl:Sem Bool} (he:PE X o ta) (c:Cls X.K C) (hm:Meth X.K C m f) (F:FnOk X.prog X.w X.K X.mg X.base CX k f fd ps sp) (hr:Room k X.A) (hb:Binds X.K fd ps []) (hx:∀τ,PassesAt CX X (E τ) τ) (ha:PA X (e::es) t)
    (hst:starEach (e::es) X.env=(false,eval e X.env)::starEach es X.env) (hpl:(backTo pos (starEach es X.env)).any (·.1)=false)
    (ht:eval (.Call (.Attribute o m apos) (e::es) [] pos) X.env=(do
      let ov ←eval o X.env
      standAt apos.atName
      let (f,first) ←holding [ov] (getMethod ov m pl)
      callWith pos f first (backTo pos (starEach (e::es) X.env)) (backToKw pos (keywordEach [] X.env)))) :
    PE X (.Call (.Attribute o m apos) (e::es) [] pos) (fun τ H Q=>ta τ H fun x H1=>∃a dx fs,x=.ref a∧H1 a=some (.ins C dx fs)∧fs.lookup m=none∧t τ H1 fun vs H2=>sp (.ref a::vs) H2 Q (E τ)):=by
  intro pins s σ H Q I h
  refine PySem.W.methodCall_KW (pl:=pl) (thn (he pins s σ H _ I h) fun u s1 ⟨x,H1,I1,rx,a,dx,fs,ex,ea,l,q⟩=>?_) ht
  subst ex
  obtain rfl:u=Value.ref a:=rx
  refine zgk I1 ea c hm l ?_
  refine PySem.W.callWith_K (first:=[.ref a]) (h₀:=X.base) I.ok.mod.kin hm.kp (thn (ha pos pins s1 σ H1 _ I1 q) fun us s2 ⟨vs,H2,I2,r,q2⟩=>⟨I2.kIn,?_⟩) hst hpl
  exact zld (us:=.ref a::us) (vs:=.ref a::vs) F hr hb hx I2 (.cons rfl r) q2
theorem zlm {pl:Sem Bool} (he:PE X o ta) (c:Cls X.K C) (hm:Meth X.K C m f) (F:FnOk X.prog X.w X.K X.mg X.base CX k f fd ps sp) (hr:Room k X.A) (hb:Binds X.K fd ps []) (hx:∀τ,PassesAt CX X (E τ) τ)
    (ht:eval (.Call (.Attribute o m apos) [] [] pos) X.env=(do
      let ov ←eval o X.env
      standAt apos.atName
      let (f,first) ←holding [ov] (getMethod ov m pl)
      callWith pos f first (backTo pos (starEach [] X.env)) (backToKw pos (keywordEach [] X.env)))) :
    PE X (.Call (.Attribute o m apos) [] [] pos) (fun τ H Q=>ta τ H fun x H1=>∃a dx fs,x=.ref a∧H1 a=some (.ins C dx fs)∧fs.lookup m=none∧sp [.ref a] H1 Q (E τ)):=by
  intro pins s σ H Q I h
  refine PySem.W.methodCall_KW (pl:=pl) (thn (he pins s σ H _ I h) fun u s1 ⟨x,H1,I1,rx,a,dx,fs,ex,ea,l,q⟩=>?_) ht
  subst ex
  obtain rfl:u=Value.ref a:=rx
  refine zgk I1 ea c hm l ?_
  exact PySem.W.callWith_K0 (first:=[.ref a]) I1.kIn hm.kp (zld (us:=[.ref a]) (vs:=[.ref a]) F hr hb hx I1 (.cons rfl .nil) q)
theorem znu (M:Mk X.K C f) (F:FnOk X.prog X.w X.K X.mg X.base CX k f fd ps sp) (hr:Room (k+1) X.A) (hg:Gl X x) (hm:X.mg x=some (.ref C)) (hb:Binds X.K fd ps []) (hx:∀τ,PassesAt CX X (E τ) τ)
    (ha:PA X (e::es) t) (hdb:(x==("__debug__":Str))=false) (he:starEach (e::es) X.env=(false,eval e X.env)::starEach es X.env) (hpl:(backTo pos (starEach es X.env)).any (·.1)=false) :
    PE X (.Call (.Name x p) (e::es) [] pos) (fun τ H Q=>t τ H fun vs H1=>∀x dx,H1 x=none→H1 dx=none→dx≠x →
      sp (.ref x::vs) (upd (upd H1 dx (.own x)) x (.ins C dx [])) (fun v H2=>v=.non∧Q (.ref x) H2) (E τ)):=by
  intro pins s σ H Q I h
  refine wpAny_Call_Name_kw (zfu I hg hm ?_ hdb)
  refine PySem.W.callWith_K (h₀:=X.base) I.ok.mod.kin M.kp (thn (ha pos pins s σ H _ I h) fun us s1 ⟨vs,H1,I1,r,q⟩=>⟨I1.kIn,?_⟩) he hpl
  have hq:=q (s1.heap.objs.size+1) s1.heap.objs.size (I1.hok.fresh (Nat.le_succ _)) (I1.hok.fresh (Nat.le_refl _)) (Nat.ne_of_lt (Nat.lt_succ_self _))
  have I2:=Inv.made (C:=C) I1
  have r2:Vals (V.ref (s1.heap.objs.size+1)::vs) (Value.ref (s1.heap.objs.size+1)::us):=.cons rfl r
  have hl:(Value.ref (s1.heap.objs.size+1)::us).length=ps.length:=by
    have e:=r2.length
    rw [F.len _ _ _ _ hq] at e
    exact e.symm
  have hb':=hb _ (Value.ref (s1.heap.objs.size+1)::us) I2.kIn (by rw [List.append_nil];exact hl)
  rw [List.append_nil] at hb'
  refine wpAny_call (zod (f:=f) I1.kIn M.makes M.init (beq_iff_eq.mp M.fn) (codeAny_mono (F.run _ X.stack _ _ ⟨Value.ref (s1.heap.objs.size+1)::us,[]⟩ (Value.ref (s1.heap.objs.size+1)::us) _ _ (E σ) (hr.make C us [])
    (I2.env0.make C us []) hb' r2 hq) fun r s' hq'=>?_))
  cases r with
  | error e=>exact hx σ pins _ _ e s' I2 hq'
  | ok fl =>
    cases fl with
    | ret u =>
      obtain ⟨v,H',I3,rv,ev,q3⟩:=I2.after hq'
      subst ev
      exact ⟨rv,⟨V.ref (s1.heap.objs.size+1),H',I3,rfl,q3⟩⟩
    | next=>exact False.elim hq'
    | brk=>exact False.elim hq'
    | cont=>exact False.elim hq'
end
section
variable {X:Cx} {W3:W3T} {k:Nat} {C:Addr} {m y:Str} {ps:List Str} {sp:Sp3} {pos apos p:Pos} {o e:Expr} {es:List Expr} {ta:TE3} {t:TA3}
theorem zd9 {pl:Sem Bool} (M:Met3 X.prog X.w X.K X.mg X.base k C m ps sp) (c:Cls X.K C) (hr:Room k X.A) (he:PE3 X W3 o ta) (ha:PA3 X W3 (e::es) t)
    (hst:starEach (e::es) X.env=(false,eval e X.env)::starEach es X.env:=by rfl) (hpl:(backTo pos (starEach es X.env)).any (·.1)=false:=by rfl)
    (ht:eval (.Call (.Attribute o m apos) (e::es) [] pos) X.env=(do
      let ov ←eval o X.env
      standAt apos.atName
      let (f,first) ←holding [ov] (getMethod ov m pl)
      callWith pos f first (backTo pos (starEach (e::es) X.env)) (backToKw pos (keywordEach [] X.env))):=by rfl) :
    PE3 X W3 (.Call (.Attribute o m apos) (e::es) [] pos) (meth3 C m sp W3 ta t):=by
  obtain ⟨f,fd,F,b,mt⟩:=M.ex
  refine fun Z=>PE.imp (znt (he Z) c mt F hr b Z.pass (ha Z) hst hpl ht) fun τ H Q ⟨σ,S,Q3,hs,hl,ht,hc⟩=>?_
  refine ⟨σ,S,_,hs,hl,ht,fun d S1 v H1 k1 r1 l1 ⟨a,fs,e1,e2,e3,q⟩=>?_⟩
  subst e1
  cases r1
  obtain ⟨dx,ws,h1,h2⟩:=l1.obj a _ e2
  refine ⟨a,dx,ws,rfl,h1,FP.none h2 e3,σ,S1,_,hs.mono k1,l1,q,fun ds S2 vs H2 k2 r2 l2 q2=>?_⟩
  exact ⟨Z.z,.ref a::ds,S2,Q3,W3 σ,.cons (.ref a) r2,l2,q2,hc.mono (k1.trans k2),fun C' a' S3 H3 k3 l3 ha z=>Z.ce σ τ C' a' S3 H3 (hs.mono ((k1.trans k2).trans k3)) l3 ha z⟩
theorem zdx {pl:Sem Bool} (M:Met3 X.prog X.w X.K X.mg X.base k C m ps sp) (c:Cls X.K C) (hr:Room k X.A) (he:PE3 X W3 o ta)
    (ht:eval (.Call (.Attribute o m apos) [] [] pos) X.env=(do
      let ov ←eval o X.env
      standAt apos.atName
      let (f,first) ←holding [ov] (getMethod ov m pl)
      callWith pos f first (backTo pos (starEach [] X.env)) (backToKw pos (keywordEach [] X.env))):=by rfl) :
    PE3 X W3 (.Call (.Attribute o m apos) [] [] pos) (meth03 C m sp W3 ta):=by
  obtain ⟨f,fd,F,b,mt⟩:=M.ex
  refine fun Z=>PE.imp (zlm (he Z) c mt F hr b Z.pass ht) fun τ H Q ⟨σ,S,Q3,hs,hl,ht,hc⟩=>?_
  refine ⟨σ,S,_,hs,hl,ht,fun d S1 v H1 k1 r1 l1 ⟨a,fs,e1,e2,e3,q⟩=>?_⟩
  subst e1
  cases r1
  obtain ⟨dx,ws,h1,h2⟩:=l1.obj a _ e2
  exact ⟨a,dx,ws,rfl,h1,FP.none h2 e3,Z.z,[.ref a],S1,Q3,W3 σ,.cons (.ref a) .nil,l1,q,hc.mono k1,fun C' a' S3 H3 k3 l3 ha z=>Z.ce σ τ C' a' S3 H3 (hs.mono (k1.trans k3)) l3 ha z⟩
theorem e_make (M:Met3 X.prog X.w X.K X.mg X.base k C "__init__" ps sp) (mk:PySem.W.makesIn X.K C=true) (kp:PySem.W.keepIn X.K (.ref C)=true) (hr:Room (k+1) X.A) (hg:Gl X y) (hm:X.mg y=some (.ref C)) (ha:PA3 X W3 (e::es) t)
    (hdb:(y==("__debug__":Str))=false:=by decide) (he:starEach (e::es) X.env=(false,eval e X.env)::starEach es X.env:=by rfl) (hpl:(backTo pos (starEach es X.env)).any (·.1)=false:=by rfl) :
    PE3 X W3 (.Call (.Name y p) (e::es) [] pos) (make3 C sp W3 t):=by
  obtain ⟨f,fd,F,b,mt⟩:=M.ex
  refine fun Z=>PE.imp (znu ⟨mk,mt.at_,mt.fn,kp⟩ F hr hg hm b Z.pass (ha Z) hdb he hpl) fun τ H Q ⟨σ,S,Q3,hs,hl,ht,hc⟩=>?_
  refine ⟨σ,S,_,hs,hl,ht,fun ds S1 vs H1 k1 r1 l1 q1 x dx hx hd hne=>?_⟩
  have l2:Rl X.K Z.z S1 (upd H1 dx (.own x)):=l1.lay hd
  have k2:Kp Z.z H1 (upd H1 dx (.own x)):=Kp.new hd (l1.fresh hd).2
  have hx2:upd H1 dx (.own x) x=none:=by rw [zan (Ne.symm hne)];exact hx
  have k3:Kp Z.z (upd H1 dx (.own x)) (upd (upd H1 dx (.own x)) x (.ins C dx [])):=Kp.new hx2 (l2.fresh hx2).2
  refine ⟨Z.z,.ref x::ds,up S1 x (.ins C []),_,W3 σ,.cons (.ref x) ((r1.mono k2).mono k3),l2.put (o:=.ins C []) k3 (l2.fresh hx2).2 ⟨dx,[],za6,.nil⟩,q1 x (l1.fresh hx).1,?_,fun C' a' S3 H3 k4 l3 ha z=>Z.ce σ τ C' a' S3 H3 (hs.mono (((k1.trans k2).trans k3).trans k4)) l3 ha z⟩
  rintro d S2 v H2 k4 r2 l4 ⟨ed,q2⟩
  subst ed
  cases r2
  exact ⟨rfl,hc (.ref x) S2 _ H2 (((k1.trans k2).trans k3).trans k4) (.ref x) l4 q2⟩
end
section
variable {K:PySem.W.Frag} {S:Hp3} {Q:K3} {σ:St3} {f m:Str} {a C:Addr} {fs:List (Str×D)} {d y:D} {t ta tv:TE3} {W3:W3T} {sp:Sp3}
theorem j_fld (q:t σ S fun x S1=>fldR C f x S1 Q):fld3 C t f σ S Q:=q
theorem j_fldR (hS:S a=some (.ins C fs)) (hl:fs.lookup f=some d) (q:Q d S):fldR C f (.ref a) S Q:=⟨a,fs,d,rfl,hS,hl,q⟩
theorem j_meth {t:TA3} (q:ta σ S fun x S1=>methR C m (fun a=>t σ S1 fun ds S2=>sp (.ref a::ds) S2 Q (W3 σ)) x S1):meth3 C m sp W3 ta t σ S Q:=q
theorem j_meth0 (q:ta σ S fun x S1=>methR C m (fun a=>sp [.ref a] S1 Q (W3 σ)) x S1):meth03 C m sp W3 ta σ S Q:=q
theorem j_make {t:TA3} (q:t σ S fun ds S1=>∀a,S1 a=none→sp (.ref a::ds) (up S1 a (.ins C [])) (fun d S2=>d=.non∧Q (.ref a) S2) (W3 σ)):make3 C sp W3 t σ S Q:=q
theorem j_sfld {n b c:St3→Hp3→Prop} {rt:K3} (q:tv σ S fun y S1=>ta σ S1 fun x S2=>putR C f x y S2 (n σ)):sfld3 C ta tv f ⟨n,rt,b,c⟩ σ S:=q
theorem j_putR {q:Hp3→Prop} (hS:S a=some (.ins C fs)) (hl:fs.length<1000) (h:q (up S a (.ins C (putI f y fs)))):putR C f (.ref a) y S q:=⟨a,fs,rfl,hS,hl,h⟩
end
end E3
namespace EE
open PySem PySem.Spec PyProof.Rows L2
end EE
namespace E3
open PySem PySem.Spec PyProof.Rows L2 EE
end E3
namespace E3
open PySem PySem.Spec PyProof.Rows L2 EE
section
variable {σ:St3} {S:Hp3} {Q:K3} {QT:Bool→Hp3→Prop} {QA:List D→Hp3→Prop} {ta tb te:TE3} {tA:TT3} {t u u':TS3} {al:TA3} {r:R3} {n b c:St3→Hp3→Prop} {rt:K3} {i i' i'':Nat} {d e d2 d3:D} {D3:Ends3} {sp:Sp3} {W3:W3T} {f:List D→Hp3→K3→Prop} {ds:List D} {k:Int} {a:Addr}
theorem j_qset (h:te σ S fun x S1=>u D3 (σ.set i (some x)) S1):seq3 (set3 i te) u D3 σ S:=h
theorem j_qdrop (h:te σ S fun _ S1=>u D3 σ S1):seq3 (drop3 te) u D3 σ S:=h
theorem j_qifs (h:tA σ S fun b' S1=>if b'=true then t ⟨u' ⟨n,rt,b,c⟩,rt,b,c⟩ σ S1 else u ⟨u' ⟨n,rt,b,c⟩,rt,b,c⟩ σ S1):seq3 (ifs3 tA t u) u' ⟨n,rt,b,c⟩ σ S:=h
theorem j_qapp (h:σ[i]?=some (some (.ref a))) (hS:S a=some (.lst ds)) (q:te σ S fun y S1=>append3 (.ref a) [y] S1 fun _ S2=>u D3 σ S2):seq3 (drop3 (bm3 "list" append3 (v3 i) (cons3 te nil3))) u D3 σ S :=
  ⟨_,h,.inr (.inl ⟨rfl,ds,.inl ⟨a,rfl,hS⟩⟩),q⟩
theorem j_ixTv (h:σ[i]?=some (some (.tup ds))) (hd:atI ds k=some d) (q:Q d S):o3 ixT3 (v3 i) (c3 (.int k)) σ S Q:=⟨_,h,ds,k,d,rfl,rfl,hd,q⟩
theorem j_tixS {x z:Str} (h:σ[i]?=some (some (.tup ds))) (hx:atI ds k=some (.str x)) (q:QT (decide (x=z)) S):test3 (o3 eqS3 (o3 ixT3 (v3 i) (c3 (.int k))) (c3 (.str z))) σ S QT:=⟨_,h,ds,k,_,rfl,rfl,hx,x,z,rfl,rfl,_,rfl,q⟩
theorem j_tovc (h:σ[i]?=some (some d)) (q:r d e S fun z S'=>∃k,z=.bl k∧QT k S'):test3 (o3 r (v3 i) (c3 e)) σ S QT:=⟨d,h,q⟩
theorem j_tovv (h:σ[i]?=some (some d)) (h':σ[i']?=some (some e)) (q:r d e S fun z S'=>∃k,z=.bl k∧QT k S'):test3 (o3 r (v3 i) (v3 i')) σ S QT:=⟨d,h,e,h',q⟩
theorem j_txc (q:ta σ S fun x S1=>r x e S1 fun z S'=>∃k,z=.bl k∧QT k S'):test3 (o3 r ta (c3 e)) σ S QT:=q
theorem j_txo (q:ta σ S fun x S1=>tb σ S1 fun y S2=>r x y S2 fun z S'=>∃k,z=.bl k∧QT k S'):test3 (o3 r ta tb) σ S QT:=q
theorem j_ovc (h:σ[i]?=some (some d)) (q:r d e S Q):o3 r (v3 i) (c3 e) σ S Q:=⟨d,h,q⟩
theorem j_ovv (h:σ[i]?=some (some d)) (h':σ[i']?=some (some e)) (q:r d e S Q):o3 r (v3 i) (v3 i') σ S Q:=⟨d,h,e,h',q⟩
theorem j_ov (h:σ[i]?=some (some d)) (q:tb σ S fun y S2=>r d y S2 Q):o3 r (v3 i) tb σ S Q:=⟨d,h,q⟩
theorem j_oc (q:tb σ S fun y S2=>r d y S2 Q):o3 r (c3 d) tb σ S Q:=q
theorem j_xc (q:ta σ S fun x S1=>r x e S1 Q):o3 r ta (c3 e) σ S Q:=q
theorem j_kv1 (h:σ[i]?=some (some d)) (q:f [d] S Q):cb3 f (cons3 (v3 i) nil3) σ S Q:=⟨d,h,q⟩
theorem j_ke1 (q:te σ S fun x S1=>f [x] S1 Q):cb3 f (cons3 te nil3) σ S Q:=q
theorem j_fv1 (h:σ[i]?=some (some d)) (q:sp [d] S Q (W3 σ)):call3 sp W3 (cons3 (v3 i) nil3) σ S Q:=⟨d,h,q⟩
theorem j_fe1 (q:te σ S fun x S1=>sp [x] S1 Q (W3 σ)):call3 sp W3 (cons3 te nil3) σ S Q:=q
theorem j_fv2 (h:σ[i]?=some (some d)) (h2:σ[i']?=some (some d2)) (q:sp [d,d2] S Q (W3 σ)):call3 sp W3 (cons3 (v3 i) (cons3 (v3 i') nil3)) σ S Q:=⟨d,h,d2,h2,q⟩
theorem j_fv3 (h:σ[i]?=some (some d)) (h2:σ[i']?=some (some d2)) (h3:σ[i'']?=some (some d3)) (q:sp [d,d2,d3] S Q (W3 σ)):call3 sp W3 (cons3 (v3 i) (cons3 (v3 i') (cons3 (v3 i'') nil3))) σ S Q:=⟨d,h,d2,h2,d3,h3,q⟩
theorem j_cvn (h:σ[i]?=some (some d)) (q:QA [d] S):cons3 (v3 i) nil3 σ S QA:=⟨d,h,q⟩
theorem j_cv (h:σ[i]?=some (some d)) (q:al σ S fun xs S2=>QA (d::xs) S2):cons3 (v3 i) al σ S QA:=⟨d,h,q⟩
theorem j_ccn (q:QA [d] S):cons3 (c3 d) nil3 σ S QA:=q
theorem j_cc (q:al σ S fun xs S2=>QA (d::xs) S2):cons3 (c3 d) al σ S QA:=q
theorem j_cen (q:te σ S fun x S1=>QA [x] S1):cons3 te nil3 σ S QA:=q
end
end E3
namespace EE
open PySem PySem.Spec PyProof.Rows L2
end EE
namespace E3
open PySem PySem.Spec PyProof.Rows L2 EE
end E3
namespace EE
open PySem PySem.Spec PyProof.Rows L2
end EE
namespace E3
open PySem PySem.Spec PyProof.Rows L2 EE
end E3
namespace EE
open PySem PySem.Spec PyProof.Rows L2 Builtin Builtin.Str
section
variable {X:Cx}
noncomputable def partS (a b:Str):List Str:=match occurrences a b 0 a.length 1 with
  | i::_=>[strSub a 0 i,b,strSub a (i+b.length) a.length]
  | []=>[a,Str.empty,Str.empty]
def rPart:V→List V→Hp→VK→Prop:=fun x vs H Q=>∃a b,x=.str a∧vs=[.str b]∧(b.length==0)=false∧a.length≤sizeLine∧∀T,H T=none→Q (.ref T) (upd H T (.tup ((partS a b).map V.str)))
theorem zfp:MtR X "str.partition" rPart:=by
  intro pins s σ H x vs v us Q I rx rv h
  obtain ⟨a,b,rfl,rfl,hb,ha,q⟩:=h
  obtain ⟨t,rfl⟩:=rx
  obtain ⟨u,rfl,ru⟩:=rv.one
  obtain ⟨t',rfl⟩:=ru
  refine call_meets PySem.F.slot_str_partition (typeIs_str _ _ _) PySem.F.entry_str_partition (PySem.F.args_str_partition_2 _ _) (meets_str_partition a b t t' hb ha) ?_
  have fr:=q _ (I.hok.fresh (Nat.le_refl _))
  have mk:∀(xs:List Str) (us:List Value) (tk:Nat),xs.length≤3→Vals (xs.map V.str) us→partS a b=xs→EP X pins σ Q (.ref s.heap.objs.size) {s with toks:=tk,heap:=s.heap.push {cls:=.type "tuple",data:=.seq us.toArray}}:=by
    intro xs us tk hl r e
    rw [e] at fr
    exact ⟨.ref s.heap.objs.size,_,I.laid (t':=tk) (fun b o e=>Heap.get?_push_of_some _ e) (Nat.le_refl _) (show ObjOk X.prog X.w _ _ _ (.tup (xs.map V.str)) from ⟨by rw [List.length_map];exact Nat.le_trans hl (by decide),us,r,IsTup.new _ _,fun o q=>by rw [Heap.get?_push_size _ rfl] at q;cases q;rfl⟩),rfl,fr⟩
  show wants _ _ (.ok (.ret (.ref s.heap.objs.size))) _
  cases ho:occurrences a b 0 a.length 1 with
  | nil =>
    refine mk [a,Str.empty,Str.empty] _ _ (show 3≤3 by decide) ?_ (by unfold partS;rw [ho])
    exact .cons ⟨_,rfl⟩ (.cons ⟨_,rfl⟩ (.cons ⟨_,rfl⟩ .nil))
  | cons i r =>
    refine mk [strSub a 0 i,b,strSub a (i+b.length) a.length] _ _ (show 3≤3 by decide) ?_ (by unfold partS;rw [ho])
    exact .cons ⟨_,rfl⟩ (.cons ⟨_,rfl⟩ (.cons ⟨_,rfl⟩ .nil))
def rSplit:V→List V→Hp→VK→Prop:=fun x vs H Q=>∃a b,x=.str a∧vs=[.str b]∧(b.length==0)=false∧a.length≤sizeLine∧(partsBetween a (occurrences a b 0 a.length (a.length+1)) b.length).length≤sizeLine∧(Txt.split a b).length≤sizeLine∧∀T,H T=none→Q (.ref T) (upd H T (.lst ((Txt.split a b).map V.str)))
theorem zd1:∀(xs:List Str) (tk:Nat),Vals (xs.map V.str) (strsFrom tk xs)
  | [],_=>.nil
  | x::r,tk=>.cons ⟨tk,rfl⟩ (zd1 r (tk+1))
theorem zex:MtR X "str.split" rSplit:=by
  intro pins s σ H x vs v us Q I rx rv h
  obtain ⟨a,b,rfl,rfl,hb,ha,hn,hz,q⟩:=h
  obtain ⟨t,rfl⟩:=rx
  obtain ⟨u,rfl,ru⟩:=rv.one
  obtain ⟨t',rfl⟩:=ru
  have fr:=q _ (I.hok.fresh (Nat.le_refl _))
  have mk:∀(xs:List Str) (us:List Value) (tk:Nat),Vals (xs.map V.str) us→Txt.split a b=xs→EP X pins σ Q (.ref s.heap.objs.size) {s with toks:=tk,heap:=s.heap.push {cls:=.type "list",data:=.seq us.toArray}}:=by
    intro xs us tk r e
    rw [e] at fr hz
    exact ⟨.ref s.heap.objs.size,_,I.laid (t':=tk) (fun b o e=>Heap.get?_push_of_some _ e) (Nat.le_refl _) (show ObjOk X.prog X.w _ _ _ (.lst (xs.map V.str)) from ⟨by rw [List.length_map];exact hz,us,0,r,Heap.get?_push_size _ rfl⟩),rfl,fr⟩
  cases h1:(decide (a.length<b.length)||decide (strKind a<strKind b)) with
  | false =>
    cases hf:(occurrences a b 0 a.length (a.length+1)).isEmpty with
    | false =>
      refine call_meets PySem.F.slot_str_split (typeIs_str _ _ _) PySem.F.entry_str_split (PySem.F.args_str_split_2 _ _) (meets_str_split_sep a b t t' h1 hb hf ha hn) ?_
      exact mk _ _ _ (zd1 _ _) ((if_neg (ne_true_of_eq_false h1)).trans (if_neg (ne_true_of_eq_false hf)))
    | true =>
      refine call_meets PySem.F.slot_str_split (typeIs_str _ _ _) PySem.F.entry_str_split (PySem.F.args_str_split_2 _ _) (meets_str_split_not_found a b t t' h1 hb hf) ?_
      exact mk [a] _ _ (.cons ⟨_,rfl⟩ .nil) ((if_neg (ne_true_of_eq_false h1)).trans (if_pos hf))
  | true =>
    refine call_meets PySem.F.slot_str_split (typeIs_str _ _ _) PySem.F.entry_str_split (PySem.F.args_str_split_2 _ _) (meets_str_split_cannot_occur a b t t' h1) ?_
    exact mk [a] _ _ (.cons ⟨_,rfl⟩ .nil) (if_pos h1)
def rStrip:V→List V→Hp→VK→Prop:=fun x vs H Q=>∃a,x=.str a∧vs=[]∧a.length≤sizeLine∧Q (.str (Txt.strip a)) H
theorem zh3:MtR X "str.strip" rStrip:=by
  intro pins s σ H x vs v us Q I rx rv h
  obtain ⟨a,rfl,rfl,ha,q⟩:=h
  obtain ⟨t,rfl⟩:=rx
  cases rv
  exact SC.strip (fun t' k=>⟨.str _,H,I.tok _,⟨_,rfl⟩,q⟩) ha
theorem zhx:OpR X (compareOp .LtE) (fun x y H Q=>∃i j,x=.str i∧y=.str j∧Q (.bl (!decide (j.cps.toList<i.cps.toList))) H):=by
  intro pins s σ H x y v u Q I rx ry h
  obtain ⟨i,j,rfl,rfl,q⟩:=h
  obtain ⟨t,rfl⟩:=rx
  obtain ⟨t',rfl⟩:=ry
  exact PySem.P.le_str (za4 I q rfl)
end
end EE
namespace E3
open PySem PySem.Spec PyProof.Rows L2 EE
section
variable {K:PySem.W.Frag} {S:Hp3} {Q:K3}
theorem zg1 {H:Hp}:∀xs:List Str,Rps K H (xs.map D.str) (xs.map V.str)
  | []=>.nil
  | x::xs=>.cons (.str x) (zg1 xs)
def partT3:D→List D→Hp3→K3→Prop:=fun x ys S Q=>∃a b,x=.str a∧ys=[.str b]∧(b.length==0)=false∧a.length≤sizeLine∧Q (.tup ((partS a b).map D.str)) S
theorem zmr:DnM K partT3 rPart:=by
  intro Z x ds S Q3 v vs H Q rx r l h c
  obtain ⟨a,b,rfl,rfl,hb,ha,q⟩:=h
  cases rx
  cases r with
  | cons r rr =>
    cases rr
    cases r
    exact ⟨a,b,rfl,rfl,hb,ha,tup.down q (zg1 _) l c⟩
def split3:D→List D→Hp3→K3→Prop:=fun x ys S Q=>∃a b,x=.str a∧ys=[.str b]∧(b.length==0)=false∧a.length≤sizeLine∧(Builtin.Str.partsBetween a (Builtin.Str.occurrences a b 0 a.length (a.length+1)) b.length).length≤sizeLine∧(Txt.split a b).length≤sizeLine∧newL S ((Txt.split a b).map D.str) Q
theorem zj0:DnM K split3 rSplit:=by
  intro Z x ds S Q3 v vs H Q rx r l h c
  obtain ⟨a,b,rfl,rfl,hb,ha,hn,hz,q⟩:=h
  cases rx
  cases r with
  | cons r rr =>
    cases rr
    cases r
    exact ⟨a,b,rfl,rfl,hb,ha,hn,hz,newL.down q (zg1 _) l c⟩
def strip3:D→List D→Hp3→K3→Prop:=fun x ys S Q=>∃a,x=.str a∧ys=[]∧a.length≤sizeLine∧Q (.str (Txt.strip a)) S
theorem zok:DnM K strip3 rStrip:=by
  intro Z x ds S Q3 v vs H Q rx r l h c
  obtain ⟨a,rfl,rfl,ha,q⟩:=h
  cases rx
  cases r
  exact ⟨a,rfl,rfl,ha,c _ S _ H (Kp.refl _ _) (.str _) l q⟩
def leS3:R3:=fun x y S Q=>∃i j,x=.str i∧y=.str j∧Q (.bl (!decide (j.cps.toList<i.cps.toList))) S
theorem zo3:Dn2 K leS3 (fun x y H Q=>∃i j,x=.str i∧y=.str j∧Q (.bl (!decide (j.cps.toList<i.cps.toList))) H):=by
  intro Z x y S Q3 v w H Q rx ry l h c
  obtain ⟨i,j,rfl,rfl,q⟩:=h
  cases rx
  cases ry
  exact ⟨i,j,rfl,rfl,c _ S _ H (Kp.refl _ _) (.bl _) l q⟩
theorem j_partS {a b:Str} (hb:(b.length==0)=false) (ha:a.length≤sizeLine) (q:Q (.tup ((partS a b).map D.str)) S):partT3 (.str a) [.str b] S Q:=⟨a,b,rfl,rfl,hb,ha,q⟩
theorem j_strip {a:Str} (ha:a.length≤sizeLine) (q:Q (.str (Txt.strip a)) S):strip3 (.str a) [] S Q:=⟨a,rfl,rfl,ha,q⟩
theorem j_leS {i j:Str} (q:Q (.bl (!decide (j.cps.toList<i.cps.toList))) S):leS3 (.str i) (.str j) S Q:=⟨i,j,rfl,rfl,q⟩
end
section
variable {X:Cx} {W3:W3T} {C:Addr} {f:Str} {o value:Expr} {ta tv:TE3} {pos tpos:Pos} {σ:St3} {S:Hp3}
def faug3 (C:Addr) (ta tv:TE3) (f:Str):TS3:=fun D3 σ S=>ta σ S fun x S1=>∃a fs i,x=.ref a∧S1 a=some (.ins C fs)∧fs.lookup f=some (.int i)∧tv σ S1 fun y S2=>∃j fs',y=.int j∧S2 a=some (.ins C fs')∧fs'.length<1000∧D3.nx σ (up S2 a (.ins C (putI f (.int (i+j)) fs')))
theorem zhs (c:Cls X.K C) (n:NoAttr X.K C f) (ha:PE3 X W3 o ta) (hv:PE3 X W3 value tv):PS3 X W3 (.AugAssign (.Attribute o f tpos) .Add value pos) (faug3 C ta tv f):=by
  refine fun Z=>PS.imp (zlg (ha Z) (hv Z) in_add) fun D τ H ⟨D3,σ,S,hs,hr,ht,hc⟩=>?_
  refine ⟨σ,S,_,hs,hr,ht,fun x S1 vx H1 k1 rx l1 ⟨a,fs,i,e1,e2,e3,q⟩=>?_⟩
  subst e1
  cases rx
  obtain ⟨dx,ws,h1,h2⟩:=l1.obj a _ e2
  obtain ⟨v,hv1,rv⟩:=FP.look h2 e3
  cases rv
  refine ⟨a,C,dx,ws,_,rfl,h1,c,n,hv1,σ,S1,_,hs.mono k1,l1,q,fun y S2 vy H2 k2 ry l2 ⟨j,fs',e4,e5,hl,q2⟩=>?_⟩
  subst e4
  cases ry
  obtain ⟨dx',ws',h3,h4⟩:=l2.obj a _ e5
  have k3:Kp Z.z H2 (upd H2 a (.ins C dx' (putF f (.int (i+j)) ws'))):=Kp.at l2 e5
  refine ⟨i,j,rfl,rfl,dx',ws',h3,by rw [←FP.len h4];exact hl,hc.nx σ _ τ _ ((k1.trans k2).trans k3) (hs.mono ((k1.trans k2).trans k3)) (l2.put (o:=.ins C (putI f (.int (i+j)) fs')) k3 (l2.notZ e5) ⟨dx',_,za6,?_⟩) q2⟩
  exact FP.put (.int _) (FP.mono k3 h4)
def faugA (C:Addr) (tv:TE3) (f:Str) (n:St3→Hp3→Prop) (σ:St3) (x:D) (S:Hp3):Prop:=∃a fs i,x=.ref a∧S a=some (.ins C fs)∧fs.lookup f=some (.int i)∧tv σ S fun y S2=>∃j fs',y=.int j∧S2 a=some (.ins C fs')∧fs'.length<1000∧n σ (up S2 a (.ins C (putI f (.int (i+j)) fs')))
theorem j_faug {n b c:St3→Hp3→Prop} {rt:K3} (q:ta σ S fun x S1=>faugA C tv f n σ x S1):faug3 C ta tv f ⟨n,rt,b,c⟩ σ S:=q
theorem j_faugA {n:St3→Hp3→Prop} {a:Addr} {fs:List (Str×D)} {i j:Int} (hS:S a=some (.ins C fs)) (hf:fs.lookup f=some (.int i)) (hl:fs.length<1000) (q:n σ (up S a (.ins C (putI f (.int (i+j)) fs)))):faugA C (c3 (.int j)) f n σ (.ref a) S:=⟨a,fs,i,rfl,hS,hf,j,fs,rfl,hS,hl,q⟩
end
noncomputable def tcs (kvs:List (Str×Str)):List (TE×TE):=kvs.map fun kv=>(tC (.str kv.1),tC (.str kv.2))
theorem zhv:∀(kvs:List (Str×Str)) (τ:L2.St) (H:Hp) (Q:List (V×V)→Hp→Prop),Q (kvs.map fun kv=>(V.str kv.1,V.str kv.2)) H→tPairs (tcs kvs) τ H Q
  | [],_,_,_,h=>h
  | _::kvs,τ,H,Q,h=>zhv kvs τ H _ h
noncomputable def dicV (kvs:List (Str×Str)):List (Key×V):=kvs.map fun kv=>(.inr kv.1,.str kv.2)
noncomputable def dicD (kvs:List (Str×Str)):List (Key×D):=kvs.map fun kv=>(.inr kv.1,.str kv.2)
def dispC3 (kvs:List (Str×Str)):TE3:=fun _ S Q=>∀p,S p=none→Q (.ref p) (up S p (.dic (dicD kvs)))
theorem zj2 {K:PySem.W.Frag} {H:Hp}:∀kvs:List (Str×Str),KR K H (dicD kvs) (dicV kvs)
  | []=>.nil
  | _::kvs=>.cons ⟨rfl,.str _⟩ (zj2 kvs)
theorem zh5:∀(kvs:List (Str×Str)) (acc:List (Key×V)),(∀kv∈kvs,valV acc (Sum.inr kv.1)=none)→(kvs.map Prod.fst).Nodup→mergeK acc (dicV kvs)=acc++dicV kvs
  | [],acc,_,_=>by simp [mergeK,dicV]
  | kv::kvs,acc,h,nd=>by
    have e:mergeK acc (dicV (kv::kvs))=mergeK (putK acc (Sum.inr kv.1) (V.str kv.2)) (dicV kvs):=rfl
    rw [e,znj _ (h kv List.mem_cons_self),zh5 kvs _ _ (List.nodup_cons.mp nd).2]
    · simp [dicV]
    · intro x hx
      have hne:x.1≠kv.1:=fun z=>(List.nodup_cons.mp nd).1 (z▸List.mem_map_of_mem hx)
      have h1:=h x (List.mem_cons_of_mem _ hx)
      unfold valV at h1 ⊢
      rw [Option.map_eq_none_iff,List.find?_eq_none] at h1 ⊢
      intro y hy
      rcases List.mem_append.mp hy with hy|hy
      · exact h1 y hy
      · rw [List.mem_singleton.mp hy]
        intro z
        have z:=of_decide_eq_true z
        exact hne (Sum.inr.inj z).symm
theorem zko {K:PySem.W.Frag} {Z:Zt} {kvs:List (Str×Str)} (nd:(kvs.map Prod.fst).Nodup) (h15:kvs.length≤15) {τ:L2.St} {H:Hp} {Q:VK} (h:lE K Z (dispC3 kvs) τ H Q):tDisp (tcs kvs) τ H Q:=by
  obtain ⟨σ,S,Q3,hs,hr,ht,hc⟩:=h
  intro p hp
  obtain ⟨hsp,hzp⟩:=hr.fresh hp
  refine zhv kvs τ _ _ ⟨za6,dicV kvs,?_,by unfold dicV;rw [List.length_map];exact h15,?_⟩
  · unfold dicV;rw [List.map_map];rfl
  rw [zh5 kvs [] (fun _ _=>rfl) nd,List.nil_append]
  have kp:Kp Z H (upd H p (.dK [])):=Kp.new hp hzp
  have hp2:upd H p (HO.dK []) p=some (.dK []):=za6
  have kw:Kp Z (upd H p (.dK [])) (upd (upd H p (.dK [])) p (.dK (dicV kvs))):=by
    refine ⟨fun b xs e=>?_,fun b q u e=>?_,fun b z=>?_⟩
    · by_cases c:b=p
      · subst c;rw [hp2] at e;cases e
      · rw [zan c];exact e
    · by_cases c:b=p
      · subst c;rw [hp2] at e;cases e
      · rw [zan c];exact e
    · rw [zan];rintro rfl;exact hzp z
  have l0:Rl K Z S (upd H p (.dK [])):=hr.lay hp
  exact hc (.ref p) (up S p (.dic (dicD kvs))) (.ref p) _ (kp.trans kw) (.ref p) (l0.put kw hzp ⟨_,za6,zj2 kvs⟩) (ht p hsp)
theorem zi0 {X:Cx} {W3:W3T} {ks:List (Option Expr)} {vs:List Expr} {pos:Pos} {kvs:List (Str×Str)} (h:PPs X pos ks vs (tcs kvs)) (nd:(kvs.map Prod.fst).Nodup) (h15:kvs.length≤15) (hall:ks.all (·.isSome)=true) (hl:ks.length=vs.length) (h0:ks≠[]) (hk:ks.length≤15):PE3 X W3 (.Dict ks vs pos) (dispC3 kvs):=fun _ =>
  PE.imp (zps h hall hl h0 hk) fun _ _ _ h=>zko nd h15 h
theorem zm0 {X:Cx} {pos:Pos}:PPs X pos [] [] (tcs []):=zpo
theorem zc4 {X:Cx} {pos p1 p2:Pos} {k v:Str} {j1 j2} {ks:List (Option Expr)} {vs:List Expr} {kvs:List (Str×Str)} (h:PPs X pos ks vs (tcs kvs)):PPs X pos (some (.Constant (.str k) j1 p1)::ks) (.Constant (.str v) j2 p2::vs) (tcs ((k,v)::kvs)):=znq zll zll h
theorem j_dispC {σ:St3} {S:Hp3} {Q:K3} {kvs:List (Str×Str)} (h:∀p,S p=none→Q (.ref p) (up S p (.dic (dicD kvs)))):dispC3 kvs σ S Q:=h
end E3
namespace EE
open PySem PySem.Spec PyProof.Rows L2
theorem zov {X:Cx}:OpR X (compareOp .Is) (fun x y H Q=>∃a b,x=.bl a∧y=.bl b∧Q (.bl (a==b)) H):=by
  intro pins s σ H x y v u Q I rx ry h
  obtain ⟨a,b,rfl,rfl,q⟩:=h
  cases rx
  cases ry
  exact is_bool (za4 I q rfl)
def rJoinT (K:PySem.W.Frag):V→List V→Hp→VK→Prop:=fun x vs H Q=>∃sep l ys,x=.str sep∧vs=[.ref l]∧SqT K H l (ys.map V.str)∧(ys.map (·.length)).sum+ys.length*sep.length≤16777216∧Q (.str (Txt.join sep ys)) H
theorem zh4 {X:Cx}:MtR X "str.join" (rJoinT X.K):=by
  intro pins s σ H x vs v us Q I rx rv h
  obtain ⟨sep,l,ys,rfl,rfl,hl,hz,q⟩:=h
  obtain ⟨t,rfl⟩:=rx
  obtain ⟨u,rfl,ru⟩:=rv.one
  cases ru
  obtain ⟨its,r,pl,hn⟩:=I.tuple hl
  exact join_tuple pl (by simpa using zf9 r) hz fun t' k=>⟨.str _,H,I.tok _,⟨_,rfl⟩,q⟩
end EE
namespace E3
open PySem PySem.Spec PyProof.Rows L2 EE
section
variable {K:PySem.W.Frag} {S:Hp3} {Q:K3}
def isTF3:R3:=fun x y S Q=>∃a b,x=.bl a∧y=.bl b∧Q (.bl (a==b)) S
theorem zmu:Dn2 K isTF3 (fun x y H Q=>∃a b,x=.bl a∧y=.bl b∧Q (.bl (a==b)) H):=by
  intro Z x y S Q3 v w H Q rx ry l h c
  obtain ⟨a,b,rfl,rfl,q⟩:=h
  cases rx
  cases ry
  exact ⟨a,b,rfl,rfl,c _ S _ H (Kp.refl _ _) (.bl _) l q⟩
theorem j_isB2 {a b:Bool} (q:Q (.bl (a==b)) S):isTF3 (.bl a) (.bl b) S Q:=⟨a,b,rfl,rfl,q⟩
def joinT3:D→List D→Hp3→K3→Prop:=fun x ys S Q=>∃sep xs,x=.str sep∧ys=[.tup (xs.map D.str)]∧(xs.map (·.length)).sum+xs.length*sep.length≤16777216∧Q (.str (Txt.join sep xs)) S
theorem zfi {H:Hp}:∀{xs:List Str} {vs:List V},Rps K H (xs.map D.str) vs→vs=xs.map V.str
  | [],_,h=>by cases h;rfl
  | x::xs,_,h=>by
    cases h with
    | cons r rr =>
      cases r
      rw [zfi rr]
      rfl
theorem zol:DnM K joinT3 (rJoinT K):=by
  intro Z x ds S Q3 v vs H Q rx r l h c
  obtain ⟨sep,xs,rfl,rfl,hz,q⟩:=h
  cases rx
  cases r with
  | cons r rr =>
    cases rr
    cases r with
    | tup h1 h2 =>
      rw [zfi h2] at h1
      exact ⟨sep,_,xs,rfl,rfl,h1,hz,c _ S _ H (Kp.refl _ _) (.str _) l q⟩
def inS3:R3:=fun x y S Q=>∃i j,x=.str i∧y=.str j∧Q (.bl (!(Builtin.Str.occurrences j i 0 j.length 1).isEmpty)) S
theorem zmv:Dn2 K inS3 (fun x y H Q=>∃i j,x=.str i∧y=.str j∧Q (.bl (!(Builtin.Str.occurrences j i 0 j.length 1).isEmpty)) H):=by
  intro Z x y S Q3 v w H Q rx ry l h c
  obtain ⟨i,j,rfl,rfl,q⟩:=h
  cases rx
  cases ry
  exact ⟨i,j,rfl,rfl,c _ S _ H (Kp.refl _ _) (.bl _) l q⟩
theorem j_inS {i j:Str} (q:Q (.bl (!(Builtin.Str.occurrences j i 0 j.length 1).isEmpty)) S):inS3 (.str i) (.str j) S Q:=⟨i,j,rfl,rfl,q⟩
end
section
variable {X:Cx} {W3:W3T} {e:Expr} {pos:Pos}
def fmtR3 (te:TE3):TE3:=fun σ S Q=>te σ S fun d S1=>∃x,d=.str x∧(PySem.reprText x).length≤sizeLine∧Q (.str (PySem.reprText x)) S1
theorem e_fmtR {te:TE3} (he:PE3 X W3 e te):PE3 X W3 (.FormattedValue e 114 none pos) (fmtR3 te):=by
  rintro Z pins s τ H Q I ⟨σ,S,Q3,hs,hr,ht,hc⟩
  refine wpAny_FormattedValue_repr (wpAny_mono (he Z pins s τ H (fun v H1=>∃x,v=.str x∧(PySem.reprText x).length≤sizeLine∧Q (.str (PySem.reprText x)) H1) I ⟨σ,S,_,hs,hr,ht,fun d S1 v H1 k1 r1 l1 q1=>?_⟩) (fun u s1 z=>?_) fun _ _ y=>y)
  · obtain ⟨x,rfl,hl,q⟩:=q1
    cases r1
    exact ⟨x,rfl,hl,hc _ S1 _ H1 k1 (.str _) l1 q⟩
  · obtain ⟨v,H1,I1,r,x,rfl,hl,q⟩:=z
    obtain ⟨t,rfl⟩:=r
    exact wpAny_pyReprObj_str (wpAny_formatField_str ⟨.str _,H1,I1.tok _,⟨_,rfl⟩,q⟩ ⟨.str _,H1,(I1.tok _).tok _,⟨_,rfl⟩,q⟩ hl) hl
theorem j_fmtR {σ:St3} {S:Hp3} {Q:K3} {te:TE3} (h:te σ S fun d S1=>∃x,d=.str x∧(PySem.reprText x).length≤sizeLine∧Q (.str (PySem.reprText x)) S1):fmtR3 te σ S Q:=h
end
section
variable {P:Program} {w:World} {K:PySem.W.Frag} {mg:Str→Option Value} {base:Heap} {m q:Str} {C:Addr} {st:Stmt} {N ps:List Str} {k:Nat}
theorem HasM.met3x {sp:Sp3} (h:HasM K C m q st ps) (S:FnScope N ps (defScope st)) (len:∀vs H Q E,sp vs H Q E→vs.length=ps.length)
    (hbody:∀(f:Addr) (cdv:Value) (A:Around) (outer:List Env) (s:Shared) (H:Hp) (E:XK) (ds:List D) (S:Hp3) (Q:K3) (W:X3),Room k (A.deeper (envOfC q (defScope st) s.heap.objs.size f cdv))→sp ds S Q W →
      ∃t,PSs3 (cxOf (CX1 P w) P w K mg base N q (defScope st) f cdv A outer s H E) (fun _=>W) (defBody st) t∧t {nx:=fun _ S'=>Q .non S',rt:=Q} (start3 N ds) S):Met3 P w K mg base (k+1) C m ps sp:=by
  obtain ⟨f,fd,F,b,mt⟩:=h.ex
  obtain ⟨oc,od,kV,doc,pm,an,cdv,ct,osl,rfl,lk,hcd⟩:=F.ex
  refine ⟨f,_,zmi lk hcd S (fun vs H Q E z_1=>by obtain ⟨Z,ds,S,Q3,E3,h1,_,h3,_,_⟩:=z_1;rw [←h1.len];exact len _ _ _ _ h3) fun A outer s H vs Q E hr ⟨Z,ds,S3,Q3,E3,h1,h2,h3,h4,h5⟩=>?_,b,mt⟩
  obtain ⟨t,ht,q⟩:=hbody f cdv A outer s H E ds S3 Q3 E3 hr h3
  refine ⟨_,ht (zxE Z E3 h2.old h5),_,start3 N ds,S3,?_,h2.into,q,⟨?_,?_,?_,?_⟩⟩
  · unfold start3 L2.start
    rw [h1.len]
    exact zbe (SR.ofRps h1) (SR.nones _)
  · intro σ S' τ H' kk _ l q'
    exact h4 .non S' .non H' (kk.unhide fun _ z=>z) .non (l.out h2 kk) q'
  · exact fun _ _ _ _ _ _ _ z=>z
  · exact fun _ _ _ _ _ _ _ z=>z
  · exact fun d S' v H' kk r l q'=>h4 d S' v H' (kk.unhide fun _ z=>z) r (l.out h2 kk) q'
end
end E3
set_option maxHeartbeats 4000000
namespace LW
open PySem PySem.Spec PyProof.Rows L2 EE E3
section
variable {CR:Addr}
noncomputable abbrev rdFs (t:Str) (p:Int):List (Str×D):=[("text",.str t),("place",.int p)]
theorem zpa {S:Hp3} {a b:Addr} {o u:O} (h:S b=some u) (n:b≠a):up S a o b=some u:=(zb9 n).trans h
theorem zlf {t:Str} {p q:Int}:putI "place" (.int q) (rdFs t p)=rdFs t q:=by
  simp only [putI,rdFs]
  rfl
section
variable {S:Hp3} {a:Addr} {t:Str} {p:Int} {Q:K3}
theorem j_Rtext (h:S a=some (.ins CR (rdFs t p))) (q:Q (.str t) S):fldR CR "text" (.ref a) S Q:=j_fldR h rfl q
theorem j_Rplace (h:S a=some (.ins CR (rdFs t p))) (q:Q (.int p) S):fldR CR "place" (.ref a) S Q:=j_fldR h rfl q
theorem j_Rm {m:Str} {k:Addr→Prop} (h:S a=some (.ins CR (rdFs t p))) (hm:∀t p,(rdFs t p).lookup m=none) (q:k a):methR CR m k (.ref a) S:=⟨a,_,rfl,h,hm _ _,q⟩
theorem j_Rstep {σ:St3} {n:St3→Hp3→Prop} (h:S a=some (.ins CR (rdFs t p))) (q:n σ (up S a (.ins CR (rdFs t (p+1))))):faugA CR (c3 (.int 1)) "place" n σ (.ref a) S:=j_faugA h rfl (show 2<1000 by decide) (by rw [zlf];exact q)
end
noncomputable def ltr (c:Nat):Bool:=decide (97≤c∧c≤122)
noncomputable def sgAt (cs:List Nat) (p:Nat):List Nat:=(cs.drop p).take 1
theorem zat {a b:List Nat} (h:textOf a=textOf b):a=b:=by
  have:=congrArg (fun z:Str=>z.cps.toList) h
  simpa [textOf] using this
theorem zhg {cs:List Nat} {p q:Nat} (h:p≤q):cutT cs (some (p:Int)) (some (q:Int))=(cs.drop p).take (q-p):=by
  have h1:cutT cs none (some (q:Int))=cs.take q:=by rw [zf3 (by omega)];rfl
  have h2:cutT cs (some (p:Int)) none=cs.drop p:=by rw [zf4 (by omega)];rfl
  unfold cutT at h1 h2 ⊢
  have e1:HT.sIx cs.length 0 (some (p:Int))=min p cs.length:=by
    have:=congrArg List.length h2
    simp only [List.length_take,List.length_drop] at this
    have e:HT.sIx cs.length cs.length none=cs.length:=rfl
    rw [e] at this
    have hle:HT.sIx cs.length 0 (some (p:Int))≤cs.length:=by
      simp only [HT.sIx]
      (repeat split)<;>omega
    omega
  have e2:HT.sIx cs.length cs.length (some (q:Int))=min q cs.length:=by
    have:=congrArg List.length h1
    simp only [List.length_take,List.length_drop] at this
    have e:HT.sIx cs.length 0 none=0:=rfl
    rw [e] at this
    have hle:HT.sIx cs.length cs.length (some (q:Int))≤cs.length:=by
      simp only [HT.sIx]
      (repeat split)<;>omega
    omega
  rw [e1,e2]
  by_cases c:p≤cs.length
  · rw [show min p cs.length=p by omega]
    apply List.ext_getElem?
    intro i
    rw [List.getElem?_take,List.getElem?_take]
    by_cases ci:i<q-p
    · rw [if_pos ci]
      by_cases cj:i<min q cs.length-p
      · rw [if_pos cj]
      · rw [if_neg cj,List.getElem?_drop,List.getElem?_eq_none (by omega)]
    · rw [if_neg ci,if_neg (by omega)]
  · rw [List.drop_eq_nil_of_le (by omega),List.drop_eq_nil_of_le (by omega)]
    simp
theorem sg_get (cs:List Nat) (p:Nat):sgAt cs p=(cs[p]?).toList:=by
  unfold sgAt
  cases e:cs[p]? with
  | none=>rw [List.drop_eq_nil_of_le (by simpa using e)];rfl
  | some c =>
    have h:=List.getElem?_eq_some_iff.mp e
    rw [List.drop_eq_getElem_cons h.1,h.2]
    rfl
theorem zah (cs:List Nat):(textOf cs).length=cs.length:=by show (textOf cs).cps.size=_;simp [textOf]
end
seal PE3 PT3 PW3 PA3 PS3 PSs3 PO3 PG3 PI3 PF3
local macro_rules|`(tactic| nofun)=>do let w:=fun (s:String)=>(s.splitOn " ").toArray.map fun x=>Lean.mkIdent (.mkStr (.mkSimple "E3") x);let at_ ← `(tactic| (first|exact rfl|exact atI_0|exact atI_1|exact atI_2|exact atI_3));let v0 ←(w "j_tovc j_ovc j_kv1 j_fv1 j_cvn").mapM fun n=>`(Lean.Parser.Tactic.tacticSeq| apply $n);let v1 ←(w "j_tovv j_ovv j_fv2").mapM fun n=>`(Lean.Parser.Tactic.tacticSeq| apply $n);let v3 ←(w "j_ov j_cv j_v").mapM fun n=>`(Lean.Parser.Tactic.tacticSeq| apply $n);let a1 ←(w "j_qset j_qdrop j_qifs j_txc j_txo j_oc j_xc j_ke1 j_fe1 j_ccn j_cc j_cen j_seq j_set j_c j_o j_i3 j_cons j_nil j_ifs j_test j_eb j_ei j_ret j_drop j_next j_asg j_name j_eqI j_neI j_eqS j_neS j_isN j_neg j_and j_or j_not j_andv j_notv j_ifx j_tup j_lst j_cb j_call j_bm j_bm0 j_tyS j_lenT j_lenR j_sl j_nopart j_part j_slT j_comp j_compS j_notinTS j_chain j_for j_iList j_iTup j_iStr j_eS j_iR1 j_iT j_iS j_raise j_fmt j_fcons j_try j_dget j_setL j_fld j_sfld j_meth j_meth0 j_make j_faug j_dispC j_fmtR").mapM fun n=>`(Lean.Parser.Tactic.tacticSeq| apply $n);let a2 ←(w "j_tyL j_lenL j_toTupL j_slL j_iL").mapM fun n=>`(Lean.Parser.Tactic.tacticSeq| refine $n (by assumption) ?_);let a3 ←(w "j_tyL j_lenL j_toTupL j_slL j_iL").mapM fun n=>`(Lean.Parser.Tactic.tacticSeq| refine $n zaf ?_);let al:=a1++a2++a3;`(tactic| repeat (first|((with_reducible apply j_qapp);(exact rfl);(first|assumption|exact zaf))|((with_reducible apply j_tixS);(exact rfl);$at_)|((with_reducible apply j_ixTv);(exact rfl);$at_)|((with_reducible first $[| $v0]*);(exact rfl))|((with_reducible first $[| $v1]*);(exact rfl);(exact rfl))|((with_reducible apply j_fv3);(exact rfl);(exact rfl);(exact rfl))|((with_reducible first $[| $v3]*);(exact rfl))|(with_reducible first $[| $al]*)|(with_reducible first|refine iteD rfl ?_|refine iteNS rfl ?_|refine iteT ?_|refine iteF ?_|refine iteD (by assumption) ?_|refine iteDN (by assumption) ?_|refine iteN (by assumption) ?_|refine iteNS (by assumption) ?_|refine j_Rtext (by assumption) ?_|refine j_Rplace (by assumption) ?_)|((with_reducible refine j_mod ?_ ?_);(first|decide|omega))|((with_reducible refine j_div ?_ ?_);(first|exact ⟨by decide,by decide⟩|omega))|((with_reducible refine j_pow ?_ ?_);exact ⟨by decide,by decide,by decide⟩)|((with_reducible refine j_mul ?_ ?_);(first|exact .inl ⟨by decide,by decide⟩|exact .inr ⟨by decide,by decide⟩))|((with_reducible refine j_sz ?_ ?_);exact zag (Nat.le_of_ble_eq_true rfl))|((with_reducible apply j_ixT);$at_)|((with_reducible apply j_ixL (by assumption));$at_)|((with_reducible apply j_ixL zaf);$at_)|((with_reducible apply j_ixR);exact rfl)|((with_reducible apply j_isB);(exact rfl);(exact rfl))|((with_reducible apply j_esL (by assumption));(first|exact rfl|exact ixN_0|exact ixN_1))|((with_reducible apply j_esL zaf);(first|exact rfl|exact ixN_0|exact ixN_1))|((with_reducible refine iteBt ?_ ?_);exact rfl)|((with_reducible refine iteBf ?_ ?_);exact rfl)|((with_reducible refine j_rng ?_ ?_);(first|exact ⟨by decide,by decide⟩|exact ⟨by omega,by omega⟩))|((with_reducible refine j_lenS ?_ ?_);assumption)|(with_reducible first|refine iteBt (by decide +kernel) ?_|refine iteBf (by decide +kernel) ?_|refine iteD (by omega) ?_|refine iteDN (by omega) ?_|refine iteN (by omega) ?_|refine iteNS (by omega) ?_)))
noncomputable def top (i:Nat):Stmt:=PySem.Challenge.pw_errandend_k29_lines_changed.main.body.getD i (.Pass ⟨0,0,0,0⟩)
noncomputable abbrev zb4:Stmt:=top 13
theorem zbm:FnScope ["text","halves","words","word","params","reader","body"] ["text"] (defScope zb4):=⟨rfl,rfl,rfl,by decide +kernel,rfl,by decide +kernel,by decide +kernel⟩
noncomputable abbrev zav:Stmt:=top 14
theorem zce:FnScope ["word","fit"] ["word"] (defScope zav):=⟨rfl,rfl,rfl,by decide +kernel,rfl,by decide +kernel,by decide +kernel⟩
noncomputable abbrev zb5:Stmt:=top 15
theorem zhq:FnScope ["sign"] ["sign"] (defScope zb5):=⟨rfl,rfl,rfl,by decide +kernel,rfl,by decide +kernel,by decide +kernel⟩
noncomputable abbrev zaz:Stmt:=top 16
theorem zda:FnScope ["row","least","most"] ["row","least","most"] (defScope zaz):=⟨rfl,rfl,rfl,by decide +kernel,rfl,by decide +kernel,by decide +kernel⟩
noncomputable abbrev zcu:Stmt:=top 19
theorem zka:FnScope ["script","k"] ["script","k"] (defScope zcu):=⟨rfl,rfl,rfl,by decide +kernel,rfl,by decide +kernel,by decide +kernel⟩
noncomputable abbrev zcz:Stmt:=top 20
theorem zb1:FnScope ["cell","many","base","left","k","place","found","turn"] ["cell","many"] (defScope zcz):=⟨rfl,rfl,rfl,by decide +kernel,rfl,by decide +kernel,by decide +kernel⟩
noncomputable abbrev zgg:Stmt:=top 21
theorem zpe:FnScope ["script","spot"] ["script","spot"] (defScope zgg):=⟨rfl,rfl,rfl,by decide +kernel,rfl,by decide +kernel,by decide +kernel⟩
noncomputable abbrev zcy:Stmt:=top 22
theorem zca:FnScope ["script","spot","names","counts","params","deep","cell","kind","parts","to","row"] ["script","spot","names","counts","params","deep"] (defScope zcy):=⟨rfl,rfl,rfl,by decide +kernel,rfl,by decide +kernel,by decide +kernel⟩
noncomputable abbrev zdu:Stmt:=top 23
theorem zch:FnScope ["script","spot","most","deep","head","many","names","params","counts","program","k","mine"] ["script","spot","most","deep"] (defScope zdu):=⟨rfl,rfl,rfl,by decide +kernel,rfl,by decide +kernel,by decide +kernel⟩
noncomputable abbrev zeq:Stmt:=top 24
theorem zis:FnScope ["saying","inner","marks"] ["saying"] (defScope zeq):=⟨rfl,rfl,rfl,by decide +kernel,rfl,by decide +kernel,by decide +kernel⟩
noncomputable abbrev zbn:Stmt:=top 25
theorem zhp:FnScope ["found"] ["found"] (defScope zbn):=⟨rfl,rfl,rfl,by decide +kernel,rfl,by decide +kernel,by decide +kernel⟩
noncomputable abbrev zbw:Stmt:=top 26
theorem zhr:FnScope ["found"] ["found"] (defScope zbw):=⟨rfl,rfl,rfl,by decide +kernel,rfl,by decide +kernel,by decide +kernel⟩
noncomputable abbrev zgf:Stmt:=top 27
theorem zgx:FnScope ["text","at","word"] ["text","at"] (defScope zgf):=⟨rfl,rfl,rfl,by decide +kernel,rfl,by decide +kernel,by decide +kernel⟩
noncomputable abbrev s_row:Stmt:=top 28
theorem zgd:FnScope ["text","at","end","deep","found","sign","got"] ["text","at","end","deep"] (defScope s_row):=⟨rfl,rfl,rfl,by decide +kernel,rfl,by decide +kernel,by decide +kernel⟩
noncomputable abbrev s_at:Stmt:=top 29
theorem zit:FnScope ["text","at","deep","sign","got","word","begin"] ["text","at","deep"] (defScope s_at):=⟨rfl,rfl,rfl,by decide +kernel,rfl,by decide +kernel,by decide +kernel⟩
noncomputable abbrev zgh:Stmt:=top 30
theorem zfh:FnScope ["text","head","words","word","got"] ["text"] (defScope zgh):=⟨rfl,rfl,rfl,by decide +kernel,rfl,by decide +kernel,by decide +kernel⟩
noncomputable abbrev zcl:Stmt:=top 31
theorem zct:FnScope ["text","way","cell","at","sign","ends"] ["text","way","cell"] (defScope zcl):=⟨rfl,rfl,rfl,by decide +kernel,rfl,by decide +kernel,by decide +kernel⟩
noncomputable abbrev zee:Stmt:=top 32
theorem zdh:FnScope ["text","told","e"] ["text"] (defScope zee):=⟨rfl,rfl,rfl,by decide +kernel,rfl,by decide +kernel,by decide +kernel⟩
noncomputable abbrev zgz:Stmt:=top 33
theorem zge:FnScope ["script","errand","text","due","found"] ["script"] (defScope zgz):=⟨rfl,rfl,rfl,by decide +kernel,rfl,by decide +kernel,by decide +kernel⟩
noncomputable abbrev zdi:Stmt:=inClass (top 17) 0
theorem zk8:FnScope ["self","text"] ["self","text"] (defScope zdi):=⟨rfl,rfl,rfl,by decide +kernel,rfl,by decide +kernel,by decide +kernel⟩
noncomputable abbrev zbp:Stmt:=inClass (top 17) 1
theorem zf6:FnScope ["self"] ["self"] (defScope zbp):=⟨rfl,rfl,rfl,by decide +kernel,rfl,by decide +kernel,by decide +kernel⟩
noncomputable abbrev za8:Stmt:=inClass (top 17) 2
theorem zc7:FnScope ["self","level","sign"] ["self","level"] (defScope za8):=⟨rfl,rfl,rfl,by decide +kernel,rfl,by decide +kernel,by decide +kernel⟩
noncomputable abbrev zbc:Stmt:=inClass (top 17) 3
theorem zdb:FnScope ["self","level","word"] ["self","level"] (defScope zbc):=⟨rfl,rfl,rfl,by decide +kernel,rfl,by decide +kernel,by decide +kernel⟩
noncomputable abbrev zbq:Stmt:=inClass (top 17) 4
theorem zcr:FnScope ["self","first","word"] ["self"] (defScope zbq):=⟨rfl,rfl,rfl,by decide +kernel,rfl,by decide +kernel,by decide +kernel⟩
noncomputable abbrev zbo:Stmt:=inClass (top 17) 5
theorem zd6:FnScope ["self","closing","least","most","level","found"] ["self","closing","least","most","level"] (defScope zbo):=⟨rfl,rfl,rfl,by decide +kernel,rfl,by decide +kernel,by decide +kernel⟩
noncomputable abbrev zbd:Stmt:=inClass (top 17) 6
theorem ze0:FnScope ["self"] ["self"] (defScope zbd):=⟨rfl,rfl,rfl,by decide +kernel,rfl,by decide +kernel,by decide +kernel⟩
inductive Ex2 {α0 α1:Type} (p:α0→α1→Prop):Prop where
  | mk (a0:α0) (a1:α1) (h:p a0 a1)
inductive Ex3 {α0 α1 α2:Type} (p:α0→α1→α2→Prop):Prop where
  | mk (a0:α0) (a1:α1) (a2:α2) (h:p a0 a1 a2)
inductive Ex4 {α0 α1 α2 α3:Type} (p:α0→α1→α2→α3→Prop):Prop where
  | mk (a0:α0) (a1:α1) (a2:α2) (a3:α3) (h:p a0 a1 a2 a3)
inductive Ex5 {α0 α1 α2 α3 α4:Type} (p:α0→α1→α2→α3→α4→Prop):Prop where
  | mk (a0:α0) (a1:α1) (a2:α2) (a3:α3) (a4:α4) (h:p a0 a1 a2 a3 a4)
theorem lnS {us:List Value} {n:Nat} (h:us.length=n+1):∃a t,us=a::t∧t.length=n:=by
  cases us with
  | nil=>cases h
  | cons a t=>exact ⟨a,t,rfl,Nat.succ.inj h⟩
theorem ln0 {us:List Value} (h:us.length=0):us=[]:=List.eq_nil_of_length_eq_zero h
theorem ln1 {us:List Value} (h:us.length=1):∃a0,us=[a0]:=by
  obtain ⟨a0,t,rfl,g⟩:=lnS h
  obtain rfl:=ln0 g
  exact ⟨a0,rfl⟩
theorem ln2 {us:List Value} (h:us.length=2):∃a0 a1,us=[a0,a1]:=by
  obtain ⟨a0,t,rfl,g⟩:=lnS h
  obtain ⟨a1,rfl⟩:=ln1 g
  exact ⟨a0,a1,rfl⟩
theorem ln3 {us:List Value} (h:us.length=3):∃a0 a1 a2,us=[a0,a1,a2]:=by
  obtain ⟨a0,t,rfl,g⟩:=lnS h
  obtain ⟨a1,a2,rfl⟩:=ln2 g
  exact ⟨a0,a1,a2,rfl⟩
theorem ln4 {us:List Value} (h:us.length=4):∃a0 a1 a2 a3,us=[a0,a1,a2,a3]:=by
  obtain ⟨a0,t,rfl,g⟩:=lnS h
  obtain ⟨a1,a2,a3,rfl⟩:=ln3 g
  exact ⟨a0,a1,a2,a3,rfl⟩
theorem ln5 {us:List Value} (h:us.length=5):∃a0 a1 a2 a3 a4,us=[a0,a1,a2,a3,a4]:=by
  obtain ⟨a0,t,rfl,g⟩:=lnS h
  obtain ⟨a1,a2,a3,a4,rfl⟩:=ln4 g
  exact ⟨a0,a1,a2,a3,a4,rfl⟩
theorem ln6 {us:List Value} (h:us.length=6):∃a0 a1 a2 a3 a4 a5,us=[a0,a1,a2,a3,a4,a5]:=by
  obtain ⟨a0,t,rfl,g⟩:=lnS h
  obtain ⟨a1,a2,a3,a4,a5,rfl⟩:=ln5 g
  exact ⟨a0,a1,a2,a3,a4,a5,rfl⟩
structure Gs (K:PySem.W.Frag) (mg:Str→Option Value):Prop where
  len:mg "len"=none
  range:mg "range"=none
  isinstance:mg "isinstance"=none
  str:mg "str"=none
  tuple:mg "tuple"=none
  list:mg "list"=none
  all:mg "all"=none
  ValueError:mg "ValueError"=none
  MOST_LETTERS:∃t,mg "MOST_LETTERS"=some (.int 8 t)
  MOST_IN_ROW:∃t,mg "MOST_IN_ROW"=some (.int 4 t)
  MOST_DEEP:∃t,mg "MOST_DEEP"=some (.int 12 t)
structure RunT (K:PySem.W.Frag) (mg:Str→Option Value) (CR:Addr):Prop where
  cl:Cls K CR
  mks:PySem.W.makesIn K CR=true
  kc:PySem.W.keepIn K (.ref CR)=true
  at_:mg "SayingReader"=some (.ref CR)
  n_text:NoAttr K CR "text"
  n_place:NoAttr K CR "place"
noncomputable abbrev ES:List Rf:=[.err,.text,.twice,.such,.count,.apart,.many,.way]
section
variable {P:Program} {w:World} {K:PySem.W.Frag} {mg:Str→Option Value} {base:Heap} {adr:Rf→Addr} {CR:Addr}
noncomputable def ltrs:List Nat→Bool
  | [c]=>ltr c
  | _=>false
theorem s_a:("a":Str)=textOf [97]:=by decide +kernel
theorem s_z:("z":Str)=textOf [122]:=by decide +kernel
inductive zjh  (ds:List D) (q:D→Prop):Prop where
  | mk (cs:List Nat) (_:cs.length≤1) (_:ds=[.str (textOf cs)]) (_:q (.bl (ltrs cs)))
def zc9 :Sp3:=vS zjh
theorem zh1 {k:Nat} (h:Has K mg "is_letter" zb5 ["sign"]) (G:Gs K mg):Cal3 P w K mg base (k+1) "is_letter" ["sign"] zc9:=by
  refine h.val zhq (by rintro ds q ⟨_,_,e,_⟩;rw [e];rfl) fun f cdv A outer s0 H E ds q hr hA=>?_
  obtain ⟨cs,hl,rfl,hq⟩:=hA
  refine ⟨_,(zak (zau (zqb zhx zo3 zhx zo3 zai (e_v 0) zai))),?_⟩
  nofun
  refine j_leS ?_
  rw [s_a,zad,zad]
  match cs,hl with
  | [],_ =>
    have e:(!decide (([]:List Nat)<[97]))=false:=by decide
    rw [e]
    nofun
    exact hq
  | [c],_ =>
    have lt:∀x y:Nat,(([x]:List Nat)<[y])↔x<y:=fun x y=>by simp [List.cons_lt_cons_iff]
    by_cases c1:97≤c
    · have e:(!decide (([c]:List Nat)<[97]))=true:=by rw [decide_eq_false (by rw [lt];omega)];rfl
      rw [e]
      nofun
      refine j_leS ?_
      rw [s_z,zad,zad]
      by_cases c2:c≤122
      · have e2:(!decide (([122]:List Nat)<[c]))=true:=by rw [decide_eq_false (by rw [lt];omega)];rfl
        have e3:ltrs [c]=true:=decide_eq_true ⟨c1,c2⟩
        rw [e2]
        rw [e3] at hq
        exact hq
      · have e2:(!decide (([122]:List Nat)<[c]))=false:=by rw [decide_eq_true (by rw [lt];omega)];rfl
        have e3:ltrs [c]=false:=decide_eq_false (by omega)
        rw [e2]
        rw [e3] at hq
        exact hq
    · have e:(!decide (([c]:List Nat)<[97]))=false:=by rw [decide_eq_true (by rw [lt];omega)];rfl
      have e3:ltrs [c]=false:=decide_eq_false (by omega)
      rw [e]
      rw [e3] at hq
      nofun
      exact hq
  | _::_::_,hl=>simp at hl
mutual
noncomputable def tx:Sy→List Nat
  | .name x=>x.cps.toList
  | .bud=>[45]
  | .left a=>60::tx a
  | .right a=>62::tx a
  | .pair a b=>91::((tx a++(32::(tx b++[])))++[93])
  | .fork a b c=>123::((tx a++(32::(tx b++(32::(tx c++[])))))++[125])
  | .send x []=>x.cps.toList++40::[41]
  | .send x (a::as)=>x.cps.toList++40::((tx a++txt as)++[41])
noncomputable def txt:List Sy→List Nat
  | []=>[]
  | a::as=>32::(tx a++txt as)
end
mutual
def okS:Sy→Prop
  | .name x=>NameOk x
  | .bud=>True
  | .left a=>okS a
  | .right a=>okS a
  | .pair a b=>okS a∧okS b
  | .fork a b c=>okS a∧okS b∧okS c
  | .send x as=>NameOk x∧1≤as.length∧as.length≤4∧okSs as
def okSs:List Sy→Prop
  | []=>True
  | a::as=>okS a∧okSs as
end
theorem ze8:∀{as:List Sy},okSs as→∀a∈as,okS a
  | b::as,h,a,ha=>by
    rcases List.mem_cons.mp ha with rfl|ha
    · exact h.1
    · exact ze8 h.2 a ha
theorem zjt {α β:Type} (l:List α) (z:α) (f:α→β):(List.range l.length).map (fun i=>f (l.getD i z))=l.map f:=by
  apply List.ext_getElem
  · simp
  · intro i h1 h2
    have:i<l.length:=by simpa using h2
    rw [List.getElem_map,List.getElem_map,List.getElem_range,List.getD_eq_getElem?_getD,List.getElem?_eq_getElem this]
    rfl
open PySem.Builtin.Str PySem.StrLaws in
theorem zjv (s sub:Str) (hi limit:Nat):∀(l:List Nat) (st:Array Nat×Nat),limit≤st.fst.size→(forIn l st (occBody s sub hi limit)).run.fst=st.fst
  | [],st,h=>rfl
  | a::l,st,h=>by
    rw [List.forIn_cons]
    unfold occBody
    rw [if_neg (fun z=>by omega)]
    exact zjv s sub hi limit l st h
open PySem.Builtin.Str PySem.StrLaws in
theorem zg6 (s sub:Str) (hi limit:Nat):∀(l l':List Nat) (st:Array Nat×Nat),(∀i∈l,¬(i+sub.length≤hi∧subAt s sub i=true))→(forIn (l++l') st (occBody s sub hi limit)).run.fst=(forIn l' st (occBody s sub hi limit)).run.fst
  | [],l',st,h=>rfl
  | a::l,l',st,h=>by
    rw [List.cons_append,List.forIn_cons]
    unfold occBody
    rw [if_neg (fun z=>h a List.mem_cons_self ⟨z.1.2,z.2⟩)]
    exact zg6 s sub hi limit l l' st fun i hi'=>h i (List.mem_cons_of_mem _ hi')
open PySem.Builtin.Str PySem.StrLaws in
theorem occ_first {s sub:Str} {p:Nat} (h1:p+sub.length≤s.length) (h2:subAt s sub p=true) (h3:∀i,i<p→subAt s sub i=false):occurrences s sub 0 s.length 1=[p]:=by
  rw [occ_eq]
  have er:List.range' 0 (s.length+1-0)=List.range' 0 p++p::List.range' (p+1) (s.length-p):=by
    rw [show s.length+1-0=p+(1+(s.length-p)) by omega,←List.range'_append_1,Nat.zero_add,show 1+(s.length-p)=(s.length-p)+1 by omega,List.range'_succ]
  rw [er,zg6 _ _ _ _ _ _ _ (fun i hi z=>by rw [List.mem_range'_1] at hi;rw [h3 i (by omega)] at z;cases z.2),List.forIn_cons]
  unfold occBody
  rw [if_pos ⟨⟨⟨show (#[]:Array Nat).size<1 by simp,Nat.zero_le _⟩,h1⟩,h2⟩]
  have hf:=zjv s sub s.length 1 (List.range' (p+1) (s.length-p)) (#[].push p,p+sub.length) (by simp)
  unfold occBody at hf
  exact congrArg Array.toList hf
open PySem.Builtin.Str PySem.StrLaws in
open PySem.Builtin.Str PySem.StrLaws in
open PySem.Builtin.Str PySem.StrLaws in
theorem zfe (cs:List Nat) (i j:Nat):strSub (EE.textOf cs) i j=EE.textOf ((cs.drop i).take (j-i)):=by
  exact PyProof.Rows.strSub_mk _ _ _ |>.trans (by rw [E3.zad];rfl)
open PySem.Builtin.Str PySem.StrLaws in
noncomputable def glue (c:Nat):List Nat→List (List Nat)→List Nat
  | w,[]=>w
  | w,v::r=>w++c::glue c v r
open PySem.Builtin.Str PySem.StrLaws in
structure Wd5 (w:List Nat):Prop where
  l1:1≤w.length
  l8:w.length≤8
  ok:∀c∈w,ltr c=true
inductive zd0 (adr:Rf→Addr) (ds:List D) (q:D→Prop) (qx:Addr→Prop):Prop where
  | mk (w:List Nat) (_:ds=[.str (textOf w)]) (_:w.length≤5000) (_:(∀c∈w,c<256)) (_:(Wd5 w→q .non)) (_:(¬Wd5 w→qx (adr .text)))
def zbv (adr:Rf→Addr):Sp3:=vX (zd0 adr)
theorem zdj {k:Nat} (h:Has K mg "refuse_unfit_name" zav ["word"]) (G:Gs K mg) (R:Rfs K mg ES adr) (C_is_letter:Cal3 P w K mg base k "is_letter" ["sign"] zc9):Cal3 P w K mg base (k+1) "refuse_unfit_name" ["word"] (zbv adr):=by
  refine h.valX zce (by rintro ds q qx ⟨_,e,_⟩;rw [e];rfl) fun f cdv A outer s0 H E ds q qx hr hA=>?_
  obtain ⟨w,rfl,hl,h256,hq,hx⟩:=hA
  refine ⟨_,(zab (zay (i:=1) zce.nd rfl (Or.inl rfl) (zaj (zec rfl) (zj1 (f:=fun bs=>bs.all id)) rfl G.all boot_all (zaa (zfy (osc:=defScope zav) (N:=["word","fit"]) (M:=[]) (js:=[]) ⟨rfl,by decide +kernel,by decide +kernel,rfl,by decide +kernel,by decide +kernel,by decide +kernel⟩ (by decide +kernel) rfl (i_str (e_v 0)) (fun _ _ _ _ _=>(za0 C_is_letter hr rfl (zaa (e_v 0) zae)))) zae)))
 (zak (s_if (PW3.pt (w_or (zez (zf5 (e_v 1))) (w_or (zao ze1 zba (zaj zap zby rfl G.len PySem.boot_len (zaa (e_v 0) zae)) zac (nomark _)) (zds (zao zkc zba (zaj zap zby rfl G.len PySem.boot_len (zaa (e_v 0) zae)) (zhf G.MOST_LETTERS rfl) (nomark _)))))) (zak (zed (C:=adr .text) (R.bound .text (by decide)) (R.exc (by decide)) rfl rfl (zaa (zo1 (zh9 (e_fmtR (e_v 0)) (zh9 zai f_nil))) zae))) za5))),?_⟩
  nofun
  have es:E3.signs (textOf w)=w.map fun c=>D.str (textOf [c]):=by unfold E3.signs;rw [zad];rfl
  rw [es]
  refine zb8 (fun i=>.bl (ltr (w.getD i 0))) (by rw [List.length_map];omega) trivial ?_ ?_
  · intro i d hd P hP
    rw [List.getElem?_map] at hd
    obtain ⟨c,hc,rfl⟩:=Option.map_eq_some_iff.mp hd
    nofun
    refine ⟨[c],by simp,rfl,?_⟩
    have e:w.getD i 0=c:=by rw [List.getD_eq_getElem?_getD,hc];rfl
    rw [e] at hP
    exact hP
  have eb:((List.range (w.map fun c=>D.str (textOf [c])).length).map fun i=>D.bl (ltr (w.getD i 0)))=(w.map ltr).map D.bl:=by
    rw [List.length_map,zjt w 0 fun c=>D.bl (ltr c),List.map_map]
    rfl
  rw [eb]
  intro pl hpl
  nofun
  refine j_all zaf ?_
  have el:((textOf w).length:Int)=(w.length:Nat):=by rw [zah]
  have el2:(textOf w).length≤sizeLine:=by rw [zah];exact zag (by omega)
  have er:=PySem.StrLaws.reprText_len (textOf w) fun c hc=>by rw [zad] at hc;have:=h256 c hc;exact Nat.lt_trans this (by decide)
  rw [zah] at er
  have e2:(" is no name":Str).length=11:=by decide +kernel
  have e0:Str.empty.length=0:=by decide +kernel
  have hall:(w.map ltr).all id=true↔∀c∈w,ltr c=true:=by simp
  cases hb:(w.map ltr).all id with
  | false =>
    nofun
    refine ⟨zag (by omega),?_⟩
    nofun
    refine ⟨by rw [strLen_append,e0];exact zag (by omega),?_⟩
    nofun
    refine ⟨by rw [strLen_append,strLen_append,e0,e2];exact zag (by omega),?_⟩
    refine j_fnil (by rw [strLen_append,strLen_append,e0,e2];exact zag (by omega)) ?_
    nofun
    exact fun _=>hx fun z=>by rw [hall.mpr z.ok] at hb;cases hb
  | true =>
    have hok:=hall.mp hb
    by_cases c1:((textOf w).length:Int)<1
    · nofun
      refine ⟨zag (by omega),?_⟩
      nofun
      refine ⟨by rw [strLen_append,e0];exact zag (by omega),?_⟩
      nofun
      refine ⟨by rw [strLen_append,strLen_append,e0,e2];exact zag (by omega),?_⟩
      refine j_fnil (by rw [strLen_append,strLen_append,e0,e2];exact zag (by omega)) ?_
      nofun
      exact fun _=>hx fun z=>by have:=z.l1;omega
    · by_cases c2:8<((textOf w).length:Int)
      · nofun
        refine ⟨zag (by omega),?_⟩
        nofun
        refine ⟨by rw [strLen_append,e0];exact zag (by omega),?_⟩
        nofun
        refine ⟨by rw [strLen_append,strLen_append,e0,e2];exact zag (by omega),?_⟩
        refine j_fnil (by rw [strLen_append,strLen_append,e0,e2];exact zag (by omega)) ?_
        nofun
        exact fun _=>hx fun z=>by have:=z.l8;omega
      · nofun
        exact hq ⟨by omega,by omega,hok⟩
inductive zdl (adr:Rf→Addr) (ds:List D) (S:Hp3) (q:D→Prop) (qx:Addr→Prop):Prop where
  | mk (x:D) (xs:List D) (l m:Int) (_:ds=[x,.int l,.int m]) (_:(x=.tup xs∨∃a,x=.ref a∧S a=some (.lst xs))) (_:(l≤xs.length→(xs.length:Int)≤m→q .non)) (_:(¬(l≤xs.length∧(xs.length:Int)≤m)→qx (adr .text)))
def zbb (adr:Rf→Addr):Sp3:=rdX (zdl adr)
theorem zdc {k:Nat} (h:Has K mg "refuse_unfit_count" zaz ["row","least","most"]) (G:Gs K mg) (R:Rfs K mg ES adr):Cal3 P w K mg base (k+1) "refuse_unfit_count" ["row","least","most"] (zbb adr):=by
  refine h.rdX zda (by rintro ds S q qx ⟨_,_,_,_,e,_⟩;rw [e];rfl) fun f cdv A outer s0 H E ds S q qx hr hA=>?_
  obtain ⟨x,xs,l,m,rfl,hx,hq,hqx⟩:=hA
  refine ⟨_,(zak (s_if (PW3.pt (w_or (zao ze1 zba (zaj zas zcp rfl G.len PySem.boot_len (zaa (e_v 0) zae)) (e_v 1) (nomark _)) (zds (zao zkc zba (zaj zas zcp rfl G.len PySem.boot_len (zaa (e_v 0) zae)) (e_v 2) (nomark _))))) (zak (zed (C:=adr .text) (R.bound .text (by decide)) (R.exc (by decide)) rfl rfl (zaa zai zae))) za5)),?_⟩
  by_cases c1:(xs.length:Int)<l
  · rcases hx with rfl|⟨a,rfl,hS⟩
    · nofun
      exact fun a=>⟨Sub.refl _,hqx (by omega)⟩
    · nofun
      exact fun a=>⟨Sub.refl _,hqx (by omega)⟩
  · by_cases c2:m<(xs.length:Int)
    · rcases hx with rfl|⟨a,rfl,hS⟩
      · nofun
        exact fun a=>⟨Sub.refl _,hqx (by omega)⟩
      · nofun
        exact fun a=>⟨Sub.refl _,hqx (by omega)⟩
    · rcases hx with rfl|⟨a,rfl,hS⟩
      · nofun
        exact ⟨Sub.refl _,hq (by omega) (by omega)⟩
      · nofun
        exact ⟨Sub.refl _,hq (by omega) (by omega)⟩
theorem zdv {x:Str} (h:NameOk x):x=textOf x.cps.toList∧Wd5 x.cps.toList:=by
  obtain ⟨cs,rfl,h1,h8,h⟩:=h
  rw [zad]
  exact ⟨rfl,h1,h8,fun c hc=>decide_eq_true (h c hc)⟩
theorem zfd (css:List (List Nat)):((css.map textOf).map (·.length)).sum=css.flatten.length:=by
  induction css with
  | nil=>rfl
  | cons c r ih=>rw [List.map_cons,List.map_cons,List.sum_cons,ih,zah,List.flatten_cons,List.length_append]
theorem zh6 (w:List Nat) (ws:List (List Nat)):Txt.join (textOf [32]) ((w::ws).map textOf)=textOf (glue 32 w ws):=by
  have aux:∀(ws:List (List Nat)) (w:List Nat),(ws.map textOf).foldl (fun a (p:Str)=>a++(textOf [32]).cps++p.cps) w.toArray=(glue 32 w ws).toArray:=by
    intro ws
    induction ws with
    | nil=>intro w;rfl
    | cons v r ih =>
      intro w
      rw [List.map_cons,List.foldl_cons]
      have e:w.toArray++(textOf [32]).cps++(textOf v).cps=(w++32::v).toArray:=by simp [textOf]
      rw [e,ih (w++32::v),glue]
      congr 1
      cases r with
      | nil=>simp [glue]
      | cons u r=>simp [glue]
  show Builtin.Str.glued (textOf [32]) ((w::ws).map textOf)=textOf (glue 32 w ws)
  unfold Builtin.Str.glued
  rw [List.map_cons,List.drop_one,List.tail_cons]
  exact congrArg Str.mk (aux ws w)
theorem zcw (a b:List Nat):textOf a++textOf b=textOf (a++b):=by
  show (⟨(textOf a).cps++(textOf b).cps⟩:Str)=_
  simp [textOf]
theorem zhd:∀(ws:List (List Nat)) (w:List Nat),(w::ws).flatten.length≤(glue 32 w ws).length
  | [],w=>by simp [glue]
  | v::r,w=>by
    have:=zhd r v
    rw [glue,List.flatten_cons,List.length_append,List.length_append,List.length_cons]
    omega
inductive P_init (CR:Addr) (ds:List D) (S:Hp3) (Q:K3) (_:X3):Prop where
  | mk (a:Addr) (t:Str) (_:ds=[.ref a,.str t]) (_:S a=some (.ins CR [])) (_:∀S',Px a S S'→S' a=some (.ins CR (rdFs t 0))→Q .non S')
def zk3 (CR:Addr):Sp3:= (P_init CR)
theorem zlu {k:Nat} (h:HasM K CR "__init__" "SayingReader.__init__" zdi ["self","text"]) (G:Gs K mg) (T:RunT K mg CR):Met3 P w K mg base (k+1) CR "__init__" ["self","text"] (zk3 CR):=by
  refine h.met3 zk8 (by rintro ds S Q E ⟨_,_,e,_⟩;rw [e];rfl) fun f cdv A0 outer s0 H E ds S Q W hr hA=>?_
  obtain ⟨a,t,rfl,ha,hq⟩:=hA
  refine ⟨_,(zab (s_fld T.cl T.n_text (e_v 0) (e_v 1) rfl)
 (zak (s_fld T.cl T.n_place (e_v 0) zac rfl))),?_⟩
  have put:∀(gs:List (Str×D)) (S:Hp3) (fs:List (Str×D)) (f:Str) (d:D) (n:Hp3→Prop),S a=some (.ins CR fs)→fs.length<1000→putI f d fs=gs→n (up S a (.ins CR gs))→putR CR f (.ref a) d S n:=fun gs S fs f d n hS hl e q=>j_putR hS hl (by rw [e];exact q)
  nofun
  refine put [("text",.str t)] _ _ _ _ _ ha (by decide) rfl ?_
  nofun
  refine put [("text",.str t),("place",.int 0)] _ _ _ _ _ zaf (show 1<1000 by decide) rfl ?_
  nofun
  rw [zo9]
  exact hq _ (Px.refl a S).at zaf
inductive zjd (CR:Addr) (ds:List D) (S:Hp3) (Q:K3) (_:X3):Prop where
  | mk (a:Addr) (cs:List Nat) (p:Nat) (_:ds=[.ref a]) (_:S a=some (.ins CR (rdFs (textOf cs) p))) (_:cs.length≤100000) (_:Q (.str (textOf (sgAt cs p))) S)
def zbz (CR:Addr):Sp3:= (zjd CR)
theorem zf7 {k:Nat} (h:HasM K CR "sign_here" "SayingReader.sign_here" zbp ["self"]) (G:Gs K mg) (T:RunT K mg CR):Met3 P w K mg base (k+1) CR "sign_here" ["self"] (zbz CR):=by
  refine h.met3 zf6 (by rintro ds S Q E ⟨_,_,_,e,_⟩;rw [e];rfl) fun f cdv A0 outer s0 H E ds S Q W hr hA=>?_
  obtain ⟨a,cs,p,rfl,hS,hl,hq⟩:=hA
  refine ⟨_,(zak (zau (zaw zbs zbu (zia T.cl T.n_text (e_v 0) rfl) (za1 (zia T.cl T.n_place (e_v 0) rfl)) (za1 (e_op za9 za2 (zia T.cl T.n_place (e_v 0) rfl) zac))))),?_⟩
  nofun
  refine j_slS (zag (by show (textOf cs).cps.size≤_;simp only [textOf,List.size_toArray];omega)) ?_
  rw [zad,show (p:Int)+1=((p+1:Nat):Int) by omega,zhg (by omega),show p+1-p=1 by omega]
  exact hq
noncomputable def pMany (p:List Nat→Option (Sy×List Nat)):Nat→List Nat→Option (List Sy×List Nat)
  | 0,_=>none
  | n+1,r=>(p r).bind fun x=>if x.2.head?=some 32 then (pMany p n x.2.tail).map fun y=>(x.1::y.1,y.2) else some ([x.1],x.2)
noncomputable def pRow (p:List Nat→Option (Sy×List Nat)) (cl lo hi:Nat) (r:List Nat):Option (List Sy×List Nat) :=
  (pMany p (r.length+1) r).bind fun x=>if x.2.head?=some cl∧lo≤x.1.length∧x.1.length≤hi then some (x.1,x.2.tail) else none
def pWd (w:List Nat):Prop:=1≤w.length∧w.length≤8
instance (w:List Nat):Decidable (pWd w):=inferInstanceAs (Decidable (_∧_))
noncomputable def mkPair (as:List Sy):Sy:=.pair (as.getD 0 .bud) (as.getD 1 .bud)
noncomputable def mkFork (as:List Sy):Sy:=.fork (as.getD 0 .bud) (as.getD 1 .bud) (as.getD 2 .bud)
noncomputable def pNm (p:List Nat→Option (Sy×List Nat)) (r:List Nat):Option (Sy×List Nat) :=
  if pWd (r.takeWhile ltr) then
    if (r.dropWhile ltr).head?=some 40 then (pRow p 41 1 4 (r.dropWhile ltr).tail).map fun x=>(.send (textOf (r.takeWhile ltr)) x.1,x.2)
    else some (.name (textOf (r.takeWhile ltr)),r.dropWhile ltr)
  else none
noncomputable def pS:Nat→List Nat→Option (Sy×List Nat)
  | 0,_=>none
  | d+1,r =>
    if r.head?=some 45 then some (.bud,r.tail)
    else if r.head?=some 60 then (pS d r.tail).map fun x=>(.left x.1,x.2)
    else if r.head?=some 62 then (pS d r.tail).map fun x=>(.right x.1,x.2)
    else if r.head?=some 91 then (pRow (pS d) 93 2 2 r.tail).map fun x=>(mkPair x.1,x.2)
    else if r.head?=some 123 then (pRow (pS d) 125 3 3 r.tail).map fun x=>(mkFork x.1,x.2)
    else pNm (pS d) r
def Shr (p:List Nat→Option (Sy×List Nat)):Prop:=∀r s r',p r=some (s,r')→r' <:+ r∧r'.length<r.length
theorem zcx (r:List Nat):r.tail <:+ r:=List.tail_suffix r
theorem zbr {r:List Nat} {c:Nat} (h:r.head?=some c):r.tail.length+1=r.length:=by cases r<;>simp at h ⊢
theorem zfj {p:List Nat→Option (Sy×List Nat)} (hp:Shr p):∀(n:Nat) (r:List Nat) (as:List Sy) (r':List Nat),pMany p n r=some (as,r')→r' <:+ r∧r'.length<r.length∧1≤as.length∧as.length≤r.length
  | 0,_,_,_,h=>by cases h
  | n+1,r,as,r',h=>by
    rw [pMany] at h
    cases e:p r with
    | none=>rw [e] at h;cases h
    | some x =>
      obtain ⟨s,r1⟩:=x
      obtain ⟨h1,h2⟩:=hp r s r1 e
      rw [e,Option.bind_some] at h
      by_cases c:r1.head?=some 32
      · rw [if_pos c] at h
        obtain ⟨⟨bs,r2⟩,e2,e3⟩:=Option.map_eq_some_iff.mp h
        obtain ⟨h3,h4,h5,h6⟩:=zfj hp n _ _ _ e2
        cases e3
        have:=zbr c
        dsimp only at *
        exact ⟨(h3.trans (zcx _)).trans h1,by omega,by simp,by simp only [List.length_cons];omega⟩
      · rw [if_neg c] at h
        cases h
        exact ⟨h1,h2,by simp,by simp only [List.length_cons,List.length_nil];omega⟩
theorem zcm {p:List Nat→Option (Sy×List Nat)} (hp:Shr p) {cl lo hi:Nat} {r:List Nat} {as:List Sy} {r':List Nat} (h:pRow p cl lo hi r=some (as,r')):r' <:+ r∧r'.length<r.length∧lo≤as.length∧as.length≤hi:=by
  obtain ⟨⟨bs,r2⟩,e,h⟩:=Option.bind_eq_some_iff.mp h
  obtain ⟨h1,h2,_⟩:=zfj hp _ _ _ _ e
  by_cases c:r2.head?=some cl∧lo≤bs.length∧bs.length≤hi
  · rw [if_pos c] at h
    cases h
    have:=zbr c.1
    dsimp only at *
    exact ⟨(zcx _).trans h1,by omega,c.2⟩
  · rw [if_neg c] at h;cases h
theorem zpz {p:List Nat→Option (Sy×List Nat)} (hp:Shr p):Shr (pNm p):=fun r s r' h=>by
  unfold pNm at h
  have hd:r.dropWhile ltr <:+ r:=List.dropWhile_suffix ltr
  have hl:(r.takeWhile ltr).length+(r.dropWhile ltr).length=r.length:=by rw [←List.length_append,List.takeWhile_append_dropWhile]
  by_cases c:pWd (r.takeWhile ltr)
  · rw [if_pos c] at h
    have:=c.1
    by_cases c2:(r.dropWhile ltr).head?=some 40
    · rw [if_pos c2] at h
      obtain ⟨⟨as,r2⟩,e,e2⟩:=Option.map_eq_some_iff.mp h
      cases e2
      obtain ⟨h1,h2,_⟩:=zcm hp e
      have:=zbr c2
      dsimp only at *
      exact ⟨(h1.trans (zcx _)).trans hd,by omega⟩
    · rw [if_neg c2] at h
      cases h
      exact ⟨hd,by omega⟩
  · rw [if_neg c] at h;cases h
theorem zet:∀d,Shr (pS d)
  | 0=>fun r s r' h=>by cases h
  | d+1=>fun r s r' h=>by
    have ih:=zet d
    rw [pS] at h
    have tl:∀{c:Nat} {r1:List Nat},r.head?=some c→r1 <:+ r.tail∧r1.length<r.tail.length→r1 <:+ r∧r1.length<r.length:=fun hc h1=>by
      have:=zbr hc
      exact ⟨h1.1.trans (zcx _),by omega⟩
    by_cases c1:r.head?=some 45
    · rw [if_pos c1] at h
      cases h
      have:=zbr c1
      exact ⟨zcx _,by omega⟩
    rw [if_neg c1] at h
    by_cases c2:r.head?=some 60
    · rw [if_pos c2] at h
      obtain ⟨⟨a,r1⟩,e,e2⟩:=Option.map_eq_some_iff.mp h
      cases e2
      exact tl c2 (ih _ _ _ e)
    rw [if_neg c2] at h
    by_cases c3:r.head?=some 62
    · rw [if_pos c3] at h
      obtain ⟨⟨a,r1⟩,e,e2⟩:=Option.map_eq_some_iff.mp h
      cases e2
      exact tl c3 (ih _ _ _ e)
    rw [if_neg c3] at h
    by_cases c4:r.head?=some 91
    · rw [if_pos c4] at h
      obtain ⟨⟨a,r1⟩,e,e2⟩:=Option.map_eq_some_iff.mp h
      cases e2
      obtain ⟨h1,h2,_⟩:=zcm ih e
      exact tl c4 ⟨h1,h2⟩
    rw [if_neg c4] at h
    by_cases c5:r.head?=some 123
    · rw [if_pos c5] at h
      obtain ⟨⟨a,r1⟩,e,e2⟩:=Option.map_eq_some_iff.mp h
      cases e2
      obtain ⟨h1,h2,_⟩:=zcm ih e
      exact tl c5 ⟨h1,h2⟩
    rw [if_neg c5] at h
    exact zpz ih _ _ _ h
theorem zgi {p:List Nat→Option (Sy×List Nat)} (hp:Shr p):∀(n m:Nat) (r:List Nat),r.length<n→r.length<m→pMany p n r=pMany p m r
  | 0,_,_,h,_=>by omega
  | _+1,0,_,_,h=>by omega
  | n+1,m+1,r,hn,hm=>by
    rw [pMany,pMany]
    cases e:p r with
    | none=>rfl
    | some x =>
      obtain ⟨s,r1⟩:=x
      obtain ⟨_,h2⟩:=hp r s r1 e
      rw [Option.bind_some,Option.bind_some]
      by_cases c:r1.head?=some 32
      · have:=zbr c
        rw [if_pos c,if_pos c,zgi hp n m _ (by show r1.tail.length<n;omega) (by show r1.tail.length<m;omega)]
      · rw [if_neg c,if_neg c]
def Snd (d:Nat) (p:List Nat→Option (Sy×List Nat)):Prop:=∀r s r',p r=some (s,r')→okS s∧s.deep≤d
theorem zhw {d:Nat} {p:List Nat→Option (Sy×List Nat)} (hp:Snd d p):∀(n:Nat) (r:List Nat) (as:List Sy) (r':List Nat),pMany p n r=some (as,r')→∀a∈as,okS a∧a.deep≤d
  | 0,_,_,_,h=>by cases h
  | n+1,r,as,r',h=>by
    rw [pMany] at h
    cases e:p r with
    | none=>rw [e] at h;cases h
    | some x =>
      obtain ⟨s,r1⟩:=x
      have h1:=hp r s r1 e
      rw [e,Option.bind_some] at h
      by_cases c:r1.head?=some 32
      · rw [if_pos c] at h
        obtain ⟨⟨bs,r2⟩,e2,e3⟩:=Option.map_eq_some_iff.mp h
        have ih:=zhw hp n _ _ _ e2
        cases e3
        intro a ha
        rcases List.mem_cons.mp ha with rfl|ha
        · exact h1
        · exact ih a ha
      · rw [if_neg c] at h
        cases h
        intro a ha
        rw [List.mem_singleton.mp ha]
        exact h1
theorem zg2 {d:Nat} {p:List Nat→Option (Sy×List Nat)} (hp:Snd d p) {cl lo hi:Nat} {r:List Nat} {as:List Sy} {r':List Nat} (h:pRow p cl lo hi r=some (as,r')):∀a∈as,okS a∧a.deep≤d:=by
  obtain ⟨⟨bs,r2⟩,e,h⟩:=Option.bind_eq_some_iff.mp h
  by_cases c:r2.head?=some cl∧lo≤bs.length∧bs.length≤hi
  · rw [if_pos c] at h
    cases h
    exact zhw hp _ _ _ _ e
  · rw [if_neg c] at h;cases h
theorem zju:∀{as:List Sy},(∀a∈as,okS a)→okSs as
  | [],_=>trivial
  | a::as,h=>⟨h a List.mem_cons_self,zju fun b hb=>h b (List.mem_cons_of_mem _ hb)⟩
theorem zid {d:Nat}:∀{as:List Sy},(∀a∈as,a.deep≤d)→Sy.deeps as≤d
  | [],_=>Nat.zero_le _
  | a::as,h=>by
    have h1:=h a List.mem_cons_self
    have h2:=zid fun b hb=>h b (List.mem_cons_of_mem _ hb)
    rw [Sy.deeps]
    omega
theorem ze6 {r:List Nat}:∀c∈r.takeWhile ltr,ltr c=true:=fun c hc=>by
  have:=List.all_takeWhile (p:=ltr) (l:=r)
  rw [List.all_eq_true] at this
  exact this c hc
theorem nm_of {r:List Nat} (h:pWd (r.takeWhile ltr)):NameOk (textOf (r.takeWhile ltr)):=⟨_,rfl,h.1,h.2,fun c hc=>of_decide_eq_true (ze6 c hc)⟩
theorem zkw {as:List Sy} (h:2≤as.length∧as.length≤2):∃a b,as=[a,b]:=by
  match as,h with
  | [a,b],_=>exact ⟨a,b,rfl⟩
  | [],h=>simp at h
  | [_],h=>simp at h
  | _::_::_::_,h=>simp at h
theorem zgq {as:List Sy} (h:3≤as.length∧as.length≤3):∃a b c,as=[a,b,c]:=by
  match as,h with
  | [a,b,c],_=>exact ⟨a,b,c,rfl⟩
  | [],h=>simp at h
  | [_],h=>simp at h
  | [_,_],h=>simp at h
  | _::_::_::_::_,h=>simp at h
theorem zou:∀d,Snd d (pS d)
  | 0=>fun r s r' h=>by cases h
  | d+1=>fun r s r' h=>by
    have ih:=zou d
    have sh:=zet d
    rw [pS] at h
    by_cases c1:r.head?=some 45
    · rw [if_pos c1] at h
      cases h
      exact ⟨trivial,by simp [Sy.deep]⟩
    rw [if_neg c1] at h
    by_cases c2:r.head?=some 60
    · rw [if_pos c2] at h
      obtain ⟨⟨a,r1⟩,e,e2⟩:=Option.map_eq_some_iff.mp h
      cases e2
      have:=ih _ _ _ e
      exact ⟨this.1,by show a.deep+1≤d+1;omega⟩
    rw [if_neg c2] at h
    by_cases c3:r.head?=some 62
    · rw [if_pos c3] at h
      obtain ⟨⟨a,r1⟩,e,e2⟩:=Option.map_eq_some_iff.mp h
      cases e2
      have:=ih _ _ _ e
      exact ⟨this.1,by show a.deep+1≤d+1;omega⟩
    rw [if_neg c3] at h
    by_cases c4:r.head?=some 91
    · rw [if_pos c4] at h
      obtain ⟨⟨as,r1⟩,e,e2⟩:=Option.map_eq_some_iff.mp h
      cases e2
      have hs:=zg2 ih e
      obtain ⟨a,b,rfl⟩:=zkw (zcm sh e).2.2
      have ha:=hs a (by simp)
      have hb:=hs b (by simp)
      exact ⟨⟨ha.1,hb.1⟩,by show max a.deep b.deep+1≤d+1;omega⟩
    rw [if_neg c4] at h
    by_cases c5:r.head?=some 123
    · rw [if_pos c5] at h
      obtain ⟨⟨as,r1⟩,e,e2⟩:=Option.map_eq_some_iff.mp h
      cases e2
      have hs:=zg2 ih e
      obtain ⟨a,b,c,rfl⟩:=zgq (zcm sh e).2.2
      have ha:=hs a (by simp)
      have hb:=hs b (by simp)
      have hc:=hs c (by simp)
      exact ⟨⟨ha.1,hb.1,hc.1⟩,by show max a.deep (max b.deep c.deep)+1≤d+1;omega⟩
    rw [if_neg c5] at h
    unfold pNm at h
    by_cases c:pWd (r.takeWhile ltr)
    · rw [if_pos c] at h
      by_cases c6:(r.dropWhile ltr).head?=some 40
      · rw [if_pos c6] at h
        obtain ⟨⟨as,r2⟩,e,e2⟩:=Option.map_eq_some_iff.mp h
        cases e2
        have hs:=zg2 ih e
        obtain ⟨_,_,h3,h4⟩:=zcm sh e
        have hdd:Sy.deeps as≤d:=zid fun a ha=>(hs a ha).2
        refine ⟨⟨nm_of c,h3,h4,zju fun a ha=>(hs a ha).1⟩,?_⟩
        show Sy.deeps as+1≤d+1
        omega
      · rw [if_neg c6] at h
        cases h
        exact ⟨nm_of c,by rw [Sy.deep];omega⟩
    · rw [if_neg c] at h;cases h
structure At6 (CR:Addr) (S:Hp3) (a:Addr) (cs r:List Nat):Prop where
  at_:S a=some (.ins CR (rdFs (textOf cs) ((cs.length-r.length:Nat):Int)))
  suf:r <:+ cs
  len:cs.length≤5000
  low:∀c∈cs,c<256
theorem At6.sg {CR:Addr} {S:Hp3} {a:Addr} {cs r:List Nat} (h:At6 CR S a cs r):sgAt cs (cs.length-r.length)=r.head?.toList:=by
  obtain ⟨pre,e⟩:=h.suf
  unfold sgAt
  rw [←e,List.length_append,Nat.add_sub_cancel,List.drop_left]
  cases r<;>rfl
theorem At6.step {CR:Addr} {S:Hp3} {a:Addr} {cs r:List Nat} (h:At6 CR S a cs r) {c:Nat} (hc:r.head?=some c):At6 CR (up S a (.ins CR (rdFs (textOf cs) (((cs.length-r.length:Nat):Int)+1)))) a cs r.tail:=by
  refine ⟨?_,(zcx r).trans h.suf,h.len,h.low⟩
  have h1:=zbr hc
  have h2:=h.suf.length_le
  rw [zaf,show ((cs.length-r.length:Nat):Int)+1=((cs.length-r.tail.length:Nat):Int) by omega]
theorem zfb:∀(r:List Nat) (c:Nat) (r':List Nat),r.dropWhile ltr=c::r'→ltr c=false
  | [],_,_,h=>by cases h
  | x::r,c,r',h=>by
    rw [List.dropWhile_cons] at h
    by_cases hx:ltr x=true
    · rw [if_pos hx] at h;exact zfb r c r' h
    · rw [if_neg hx] at h
      cases h
      simpa using hx
inductive zje (CR:Addr) (adr:Rf→Addr) (ds:List D) (S:Hp3) (Q:K3) (W:X3):Prop where
  | mk (a:Addr) (cs r:List Nat) (_:ds=[.ref a]) (_:At6 CR S a cs r) (_:(pWd (r.takeWhile ltr)→∀S',Px a S S'→At6 CR S' a cs (r.dropWhile ltr)→Q (.str (textOf (r.takeWhile ltr))) S')) (_:(¬pWd (r.takeWhile ltr)→∀x S',W (adr .text) x S'))
def zc8 (CR:Addr) (adr:Rf→Addr):Sp3:= (zje CR adr)
inductive zhl (CR:Addr) (adr:Rf→Addr) (n:Nat) (ds:List D) (S:Hp3) (Q:K3) (W:X3):Prop where
  | mk (a:Addr) (lv:Int) (d:Nat) (cs r:List Nat) (_:ds=[.ref a,.int lv]) (_:lv+(d:Int)=13) (_:d≤12) (_:3*d+6≤n) (_:At6 CR S a cs r) (_:(∀s r',pS d r=some (s,r')→∀S',Px a S S'→At6 CR S' a cs r'→Q s.d S')) (_:(pS d r=none→∀x S',W (adr .text) x S'))
def zbj (CR:Addr) (adr:Rf→Addr) (n:Nat):Sp3:= (zhl CR adr n)
inductive zin (CR:Addr) (adr:Rf→Addr) (n:Nat) (ds:List D) (S:Hp3) (Q:K3) (W:X3):Prop where
  | mk (a:Addr) (lv:Int) (d:Nat) (cs r:List Nat) (_:ds=[.ref a,.int lv]) (_:lv+(d:Int)=12) (_:d≤11) (_:3*d+8≤n) (_:At6 CR S a cs r) (_:(∀s r',pNm (pS d) r=some (s,r')→∀S',Px a S S'→At6 CR S' a cs r'→Q s.d S')) (_:(pNm (pS d) r=none→∀x S',W (adr .text) x S'))
def zcg (CR:Addr) (adr:Rf→Addr) (n:Nat):Sp3:= (zin CR adr n)
inductive zkr (CR:Addr) (adr:Rf→Addr) (n:Nat) (ds:List D) (S:Hp3) (Q:K3) (W:X3):Prop where
  | mk (a:Addr) (cl:Nat) (lo hi:Nat) (lv:Int) (d:Nat) (cs r:List Nat) (_:ds=[.ref a,.str (textOf [cl]),.int lo,.int hi,.int lv]) (_:lv+(d:Int)=13) (_:d≤11) (_:3*d+7≤n) (_:cl≠32) (_:cl<256) (_:At6 CR S a cs r) (_:(∀as r',pRow (pS d) cl lo hi r=some (as,r')→∀S',Px a S S'→At6 CR S' a cs r'→Q (.tup (as.map Sy.d)) S')) (_:(pRow (pS d) cl lo hi r=none→∀x S',W (adr .text) x S'))
def zck (CR:Addr) (adr:Rf→Addr) (n:Nat):Sp3:= (zkr CR adr n)
theorem t_45:textOf [45]="-":=by decide +kernel
theorem t_60:textOf [60]="<":=by decide +kernel
theorem t_62:textOf [62]=">":=by decide +kernel
theorem t_91:textOf [91]="[":=by decide +kernel
theorem znf:textOf [123]="{":=by decide +kernel
theorem t_93:textOf [93]="]":=by decide +kernel
theorem t_125:textOf [125]="}":=by decide +kernel
theorem t_41:textOf [41]=")":=by decide +kernel
theorem t_40:textOf [40]="(":=by decide +kernel
theorem t_32:textOf [32]=" ":=by decide +kernel
theorem t_0:textOf []="":=by decide +kernel
theorem _root_.E3.Px.trans {st:Addr} {A B C:Hp3} (h:Px st A B) (h':Px st B C):Px st A C:=fun a u n e=>h' a u n (h a u n e)
noncomputable abbrev marks5:List Str:=["-","<",">","[","{"]
theorem zfr {x:Str} (h:x="-"∨x="<"∨x=">"∨x="["∨x="{"):decide (x∈marks5)=true:=by
  rcases h with rfl|rfl|rfl|rfl|rfl<;>decide +kernel
theorem zoc {cs:List Nat} (h:cs≠[45]∧cs≠[60]∧cs≠[62]∧cs≠[91]∧cs≠[123]):decide (textOf cs∈marks5)=false:=by
  refine decide_eq_false fun z=>?_
  simp only [marks5,List.mem_cons,List.not_mem_nil,or_false] at z
  rcases z with z|z|z|z|z
  · exact h.1 (zat (z.trans t_45.symm))
  · exact h.2.1 (zat (z.trans t_60.symm))
  · exact h.2.2.1 (zat (z.trans t_62.symm))
  · exact h.2.2.2.1 (zat (z.trans t_91.symm))
  · exact h.2.2.2.2 (zat (z.trans znf.symm))
theorem j_marks {S:Hp3} {Q:K3} {x:Str} (q:Q (.bl (!decide (x∈marks5))) S):in3 true (.str x) (.tup [.str "-",.str "<",.str ">",.str "[",.str "{"]) S Q:=j_notinTS (xs:=marks5) q
theorem zf8 {k:Nat} (h:HasM K CR "read_word" "SayingReader.read_word" zbq ["self"]) (G:Gs K mg) (T:RunT K mg CR) (R:Rfs K mg ES adr) (M_sign_here:Met3 P w K mg base k CR "sign_here" ["self"] (zbz CR)) (C_is_letter:Cal3 P w K mg base k "is_letter" ["sign"] zc9) (C_refuse_unfit_name:Cal3 P w K mg base k "refuse_unfit_name" ["word"] (zbv adr)):Met3 P w K mg base (k+1) CR "read_word" ["self"] (zc8 CR adr):=by
  refine h.met3x zcr (by rintro ds S Q E ⟨_,_,_,e,_⟩;rw [e];rfl) fun f cdv A0 outer s0 H E ds S Q W hr hA=>?_
  obtain ⟨a,cs,r,rfl,hA,hq,hx⟩:=hA
  obtain ⟨pre,hcs⟩:=hA.suf
  have hS:=hA.at_
  have hno:=zfb r
  have hwl:=ze6 (r:=r)
  have hwp:=List.takeWhile_append_dropWhile (p:=ltr) (l:=r)
  generalize r.takeWhile ltr=w at hq hx hwl hwp
  generalize r.dropWhile ltr=post at hq hno hwp
  subst hwp
  have hl:=hA.len
  have hlow:=hA.low
  have hsuf:=hA.suf
  subst hcs
  have e0:(pre++(w++post)).length-(w++post).length=pre.length:=by rw [List.length_append];omega
  rw [e0] at hS
  refine ⟨_,(zab (zay (i:=1) zcr.nd rfl (Or.inl rfl) (zia T.cl T.n_place (e_v 0) rfl))
 (zab (zgy pown (zf5 (za0 C_is_letter hr rfl (zaa (zdx M_sign_here T.cl hr (e_v 0)) zae))) (zak (zhs T.cl T.n_place (e_v 0) zac)))
 (zab (zay (i:=2) zcr.nd rfl (Or.inl rfl) (zaw zbs zbu (zia T.cl T.n_text (e_v 0) rfl) (za1 (e_v 1)) (za1 (zia T.cl T.n_place (e_v 0) rfl))))
 (zab (zer (za0 C_refuse_unfit_name hr rfl (zaa (e_v 2) zae)))
 (zak (zau (e_v 2))))))),?_⟩
  nofun
  refine j_while (fun m σ S'=>Ex2 fun (i:Nat) (x2:Option D)=>i+m=w.length∧σ=[some (.ref a),some (.int pre.length),x2]∧Px a S S'∧S' a=some (.ins CR (rdFs (textOf (pre++(w++post))) (pre.length+i:Nat)))) w.length ⟨0,none,by omega,rfl,Px.refl _ _,hS⟩ ?_
  rintro m σ S1 ⟨i,x2,him,rfl,px,h1⟩
  nofun
  refine j_Rm h1 (fun _ _=>rfl) ?_
  refine ⟨a,_,_,rfl,h1,by omega,?_⟩
  nofun
  rw [sg_get]
  by_cases ci:i<w.length
  · have e:(pre++(w++post))[pre.length+i]?=some w[i]:=by
      rw [List.getElem?_append_right (by omega),show pre.length+i-pre.length=i by omega,List.getElem?_append_left ci,List.getElem?_eq_getElem ci]
    rw [e]
    refine ⟨[w[i]],by simp,rfl,?_⟩
    rw [show ltrs [w[i]]=ltr w[i] from rfl,hwl _ (List.getElem_mem ci)]
    nofun
    refine j_Rstep h1 ?_
    refine ⟨m-1,by omega,i+1,_,by omega,rfl,px.at,?_⟩
    rw [zaf,show ((pre.length+i:Nat):Int)+1=((pre.length+(i+1):Nat):Int) by omega]
  · have ei:i=w.length:=by omega
    have e:(pre++(w++post))[pre.length+i]?=post.head?:=by
      rw [List.getElem?_append_right (by omega),List.getElem?_append_right (by omega),show pre.length+i-pre.length-w.length=0 by omega]
      cases post<;>rfl
    rw [e]
    have hn:ltrs post.head?.toList=false:=by
      cases post with
      | nil=>rfl
      | cons c r=>exact hno c r rfl
    refine ⟨_,by cases post<;>simp,rfl,?_⟩
    rw [hn]
    have hw8:w.length≤5000:=by simp only [List.length_append] at hl;omega
    nofun
    refine j_slS (zag (by rw [zah];omega)) ?_
    rw [zad,zhg (by omega),show pre.length+i-pre.length=w.length by omega,List.drop_left,List.take_left]
    nofun
    refine ⟨w,rfl,hw8,fun c hc=>hlow c (by simp [hc]),fun hw=>?_,fun hw=>?_⟩
    · nofun
      refine hq ⟨hw.l1,hw.l8⟩ S1 px ⟨?_,(List.suffix_append w post).trans hsuf,hl,hlow⟩
      rw [h1,show (pre++(w++post)).length-post.length=pre.length+i by simp only [List.length_append];omega]
    · exact fun x=>hx (fun z=>hw ⟨z.1,z.2,hwl⟩) x S1
theorem ze3 {n:Nat} (hn0:1≤n) (h:HasM K CR "read_saying" "SayingReader.read_saying" za8 ["self","level"]) (G:Gs K mg) (T:RunT K mg CR) (R:Rfs K mg ES adr) (M_sign_here:Met3 P w K mg base n CR "sign_here" ["self"] (zbz CR)) (M_read_named:Met3 P w K mg base n CR "read_named" ["self","level"] (zcg CR adr n))
    (M_read_saying:Met3 P w K mg base n CR "read_saying" ["self","level"] (zbj CR adr n)) (M_read_row:Met3 P w K mg base n CR "read_row" ["self","closing","least","most","level"] (zck CR adr n)):Met3 P w K mg base (n+1) CR "read_saying" ["self","level"] (zbj CR adr (n+1)):=by
  refine h.met3x zc7 (by rintro ds S Q E ⟨_,_,_,_,_,e,_⟩;rw [e];rfl) fun f cdv A0 outer s0 H E ds S Q W hr hA=>?_
  obtain ⟨a,lv,d,cs,r,rfl,hlv,hd,hn,hA,hq,hx⟩:=hA
  have hS:=hA.at_
  have hl:=hA.len
  refine ⟨_,(zab (s_if (zao zkc zba (e_v 1) (zhf G.MOST_DEEP rfl) (nomark _)) (zak (zed (C:=adr .text) (R.bound .text (by decide)) (R.exc (by decide)) rfl rfl (zaa zai zae))) za5)
 (zab (zay (i:=2) zc7.nd rfl (Or.inl rfl) (zdx M_sign_here T.cl hr (e_v 0)))
 (zab (s_if (zao zeu dn_in (e_v 2) (zbx (zaa zai (zaa zai (zaa zai (zaa zai (zaa zai zae)))))) (by with_unfolding_all rfl)) (zak (zau (zd9 M_read_named T.cl hr (e_v 0) (zaa (e_v 1) zae)))) za5)
 (zab (zhs T.cl T.n_place (e_v 0) zac)
 (zab (s_if (zao zbl zb0 (e_v 2) zai (nomark _)) (zak (zau (zbx (zaa zai zae)))) za5)
 (zab (s_if (zao zbl zb0 (e_v 2) zai (nomark _)) (zak (zau (zbx (zaa zai (zaa (zd9 M_read_saying T.cl hr (e_v 0) (zaa (e_op za9 za2 (e_v 1) zac) zae)) zae))))) za5)
 (zab (s_if (zao zbl zb0 (e_v 2) zai (nomark _)) (zak (zau (zbx (zaa zai (zaa (zd9 M_read_saying T.cl hr (e_v 0) (zaa (e_op za9 za2 (e_v 1) zac) zae)) zae))))) za5)
 (zab (s_if (zao zbl zb0 (e_v 2) zai (nomark _)) (zak (zau (e_op zfn zf0 (zbx (zaa zai zae)) (zd9 M_read_row T.cl hr (e_v 0) (zaa zai (zaa zac (zaa zac (zaa (e_op za9 za2 (e_v 1) zac) zae)))))))) za5)
 (zak (zau (e_op zfn zf0 (zbx (zaa zai zae)) (zd9 M_read_row T.cl hr (e_v 0) (zaa zai (zaa zac (zaa zac (zaa (e_op za9 za2 (e_v 1) zac) zae)))))))))))))))),?_⟩
  cases d with
  | zero =>
    have c0:(12:Int)<lv:=by omega
    nofun
    exact fun x=>hx rfl x S
  | succ d =>
  have c0:¬(12:Int)<lv:=by omega
  have c1:lv+((d+1:Nat):Int)=13:=hlv
  nofun
  refine j_Rm hS (fun _ _=>rfl) ?_
  refine ⟨a,_,_,rfl,hS,by omega,?_⟩
  rw [hA.sg]
  nofun
  have named:(r.head?≠some 45∧r.head?≠some 60∧r.head?≠some 62∧r.head?≠some 91∧r.head?≠some 123)→decide (textOf r.head?.toList∈marks5)=false∧pS (d+1) r=pNm (pS d) r:=fun hz=>by
    refine ⟨zoc ?_,?_⟩
    · cases r with
      | nil=>simp
      | cons c r=>simpa using hz
    · rw [pS,if_neg hz.1,if_neg hz.2.1,if_neg hz.2.2.1,if_neg hz.2.2.2.1,if_neg hz.2.2.2.2]
  have px:=(Px.refl a S).at (o:=.ins CR (rdFs (textOf cs) (((cs.length-r.length:Nat):Int)+1)))
  by_cases k1:r.head?=some 45
  · have h1:=hA.step k1
    rw [k1,Option.toList_some,t_45]
    refine j_marks ?_
    rw [zfr (.inl rfl)]
    nofun
    refine j_Rstep hS ?_
    nofun
    exact hq .bud r.tail (by rw [pS,if_pos k1]) _ px h1
  by_cases k2:r.head?=some 60
  · have h1:=hA.step k2
    rw [k2,Option.toList_some,t_60]
    have e:pS (d+1) r=(pS d r.tail).map fun x=>(.left x.1,x.2):=by rw [pS,if_neg k1,if_pos k2]
    refine j_marks ?_
    rw [zfr (.inr (.inl rfl))]
    nofun
    refine j_Rstep hS ?_
    generalize up S a (.ins CR (rdFs (textOf cs) (((cs.length-r.length:Nat):Int)+1)))=S1 at h1 px ⊢
    nofun
    refine j_Rm h1.at_ (fun _ _=>rfl) ?_
    nofun
    refine ⟨a,lv+1,d,cs,r.tail,rfl,by omega,by omega,by omega,h1,fun s r' hs S2 p2 h2=>?_,fun hs=>hx (by rw [e,hs];rfl)⟩
    nofun
    exact hq (.left s) r' (by rw [e,hs];rfl) S2 (px.trans p2) h2
  by_cases k3:r.head?=some 62
  · have h1:=hA.step k3
    rw [k3,Option.toList_some,t_62]
    have e:pS (d+1) r=(pS d r.tail).map fun x=>(.right x.1,x.2):=by rw [pS,if_neg k1,if_neg k2,if_pos k3]
    refine j_marks ?_
    rw [zfr (.inr (.inr (.inl rfl)))]
    nofun
    refine j_Rstep hS ?_
    generalize up S a (.ins CR (rdFs (textOf cs) (((cs.length-r.length:Nat):Int)+1)))=S1 at h1 px ⊢
    nofun
    refine j_Rm h1.at_ (fun _ _=>rfl) ?_
    nofun
    refine ⟨a,lv+1,d,cs,r.tail,rfl,by omega,by omega,by omega,h1,fun s r' hs S2 p2 h2=>?_,fun hs=>hx (by rw [e,hs];rfl)⟩
    nofun
    exact hq (.right s) r' (by rw [e,hs];rfl) S2 (px.trans p2) h2
  by_cases k4:r.head?=some 91
  · have h1:=hA.step k4
    rw [k4,Option.toList_some,t_91]
    have e:pS (d+1) r=(pRow (pS d) 93 2 2 r.tail).map fun x=>(mkPair x.1,x.2):=by rw [pS,if_neg k1,if_neg k2,if_neg k3,if_pos k4]
    refine j_marks ?_
    rw [zfr (.inr (.inr (.inr (.inl rfl))))]
    nofun
    refine j_Rstep hS ?_
    generalize up S a (.ins CR (rdFs (textOf cs) (((cs.length-r.length:Nat):Int)+1)))=S1 at h1 px ⊢
    nofun
    refine j_Rm h1.at_ (fun _ _=>rfl) ?_
    nofun
    refine ⟨a,93,2,2,lv+1,d,cs,r.tail,by rw [t_93];rfl,by omega,by omega,by omega,by decide,by decide,h1,fun as r' hs S2 p2 h2=>?_,fun hs=>hx (by rw [e,hs];rfl)⟩
    obtain ⟨x,y,rfl⟩:=zkw (zcm (zet d) hs).2.2
    nofun
    refine j_catT (by simp) (zag (by simp)) ?_
    exact hq (mkPair [x,y]) r' (by rw [e,hs];rfl) S2 (px.trans p2) h2
  by_cases k5:r.head?=some 123
  · have h1:=hA.step k5
    rw [k5,Option.toList_some,znf]
    have e:pS (d+1) r=(pRow (pS d) 125 3 3 r.tail).map fun x=>(mkFork x.1,x.2):=by rw [pS,if_neg k1,if_neg k2,if_neg k3,if_neg k4,if_pos k5]
    refine j_marks ?_
    rw [zfr (.inr (.inr (.inr (.inr rfl))))]
    nofun
    refine j_Rstep hS ?_
    generalize up S a (.ins CR (rdFs (textOf cs) (((cs.length-r.length:Nat):Int)+1)))=S1 at h1 px ⊢
    nofun
    refine j_Rm h1.at_ (fun _ _=>rfl) ?_
    nofun
    refine ⟨a,125,3,3,lv+1,d,cs,r.tail,by rw [t_125];rfl,by omega,by omega,by omega,by decide,by decide,h1,fun as r' hs S2 p2 h2=>?_,fun hs=>hx (by rw [e,hs];rfl)⟩
    obtain ⟨x,y,z,rfl⟩:=zgq (zcm (zet d) hs).2.2
    nofun
    refine j_catT (by simp) (zag (by simp)) ?_
    exact hq (mkFork [x,y,z]) r' (by rw [e,hs];rfl) S2 (px.trans p2) h2
  obtain ⟨e1,e2⟩:=named ⟨k1,k2,k3,k4,k5⟩
  refine j_marks ?_
  rw [e1]
  nofun
  refine j_Rm hS (fun _ _=>rfl) ?_
  nofun
  exact ⟨a,lv,d,cs,r,rfl,by omega,by omega,by omega,hA,fun s r' hs S2 p2 h2=>hq s r' (by rw [e2,hs]) S2 p2 h2,fun hs=>hx (by rw [e2,hs])⟩
theorem zfo {n:Nat} (hn1:1≤n) (h:HasM K CR "read_named" "SayingReader.read_named" zbc ["self","level"]) (G:Gs K mg) (T:RunT K mg CR) (R:Rfs K mg ES adr) (M_sign_here:Met3 P w K mg base n CR "sign_here" ["self"] (zbz CR)) (M_read_word:Met3 P w K mg base n CR "read_word" ["self"] (zc8 CR adr))
    (M_read_row:Met3 P w K mg base n CR "read_row" ["self","closing","least","most","level"] (zck CR adr n)):Met3 P w K mg base (n+1) CR "read_named" ["self","level"] (zcg CR adr (n+1)):=by
  refine h.met3x zdb (by rintro ds S Q E ⟨_,_,_,_,_,e,_⟩;rw [e];rfl) fun f cdv A0 outer s0 H E ds S Q W hr hA=>?_
  obtain ⟨a,lv,d,cs,r,rfl,hlv,hd,hn,hA,hq,hx⟩:=hA
  have hS:=hA.at_
  have hl:=hA.len
  refine ⟨_,(zab (zay (i:=2) zdb.nd rfl (Or.inl rfl) (zdx M_read_word T.cl hr (e_v 0)))
 (zab (s_if (zao zeg zey (zdx M_sign_here T.cl hr (e_v 0)) zai (nomark _)) (zak (zau (zbx (zaa zai (zaa (e_v 2) zae))))) za5)
 (zab (zhs T.cl T.n_place (e_v 0) zac)
 (zak (zau (zbx (zaa zai (zaa (e_v 2) (zaa (zd9 M_read_row T.cl hr (e_v 0) (zaa zai (zaa zac (zaa (zhf G.MOST_IN_ROW rfl) (zaa (e_op za9 za2 (e_v 1) zac) zae))))) zae))))))))),?_⟩
  nofun
  refine j_Rm hS (fun _ _=>rfl) ?_
  by_cases hw:pWd (r.takeWhile ltr)
  · refine ⟨a,cs,r,rfl,hA,fun _ S1 px h1=>?_,fun z=>absurd hw z⟩
    nofun
    refine j_Rm h1.at_ (fun _ _=>rfl) ?_
    refine ⟨a,_,_,rfl,h1.at_,by omega,?_⟩
    rw [h1.sg]
    by_cases k:(r.dropWhile ltr).head?=some 40
    · have e:pNm (pS d) r=(pRow (pS d) 41 1 4 (r.dropWhile ltr).tail).map fun x=>(.send (textOf (r.takeWhile ltr)) x.1,x.2):=by unfold pNm;rw [if_pos hw,if_pos k]
      have h2:=h1.step k
      rw [k,Option.toList_some,t_40]
      nofun
      refine j_Rstep h1.at_ ?_
      have px2:=px.at (o:=.ins CR (rdFs (textOf cs) (((cs.length-(r.dropWhile ltr).length:Nat):Int)+1)))
      generalize up S1 a (.ins CR (rdFs (textOf cs) (((cs.length-(r.dropWhile ltr).length:Nat):Int)+1)))=S2 at h2 px2 ⊢
      nofun
      refine j_Rm h2.at_ (fun _ _=>rfl) ?_
      nofun
      refine ⟨a,41,1,4,lv+1,d,cs,(r.dropWhile ltr).tail,by rw [t_41];rfl,by omega,by omega,by omega,by decide,by decide,h2,fun as r' hs S3 p3 h3=>?_,fun hs=>hx (by rw [e,hs];rfl)⟩
      nofun
      have eres:Sy.d (.send (textOf (r.takeWhile ltr)) as)=.tup [.str "send",.str (textOf (r.takeWhile ltr)),.tup (as.map Sy.d)]:=by rw [Sy.d,Sy.ds_map]
      rw [←eres]
      exact hq _ r' (by rw [e,hs];rfl) S3 (px2.trans p3) h3
    · have e:pNm (pS d) r=some (.name (textOf (r.takeWhile ltr)),r.dropWhile ltr):=by unfold pNm;rw [if_pos hw,if_neg k]
      have hne:textOf (r.dropWhile ltr).head?.toList≠("(":Str):=by
        rw [←t_40]
        intro z
        have:=zat z
        cases q:(r.dropWhile ltr).head? with
        | none=>rw [q] at this;simp at this
        | some c=>rw [q] at this k;simp at this;exact k (by rw [this])
      nofun
      exact hq _ _ e S1 px h1
  · exact ⟨a,cs,r,rfl,hA,fun z=>absurd z hw,fun _=>hx (by unfold pNm;rw [if_neg hw])⟩
noncomputable def pGo (p:List Nat→Option (Sy×List Nat)) (dn:List Sy) (r:List Nat):Option (List Sy×List Nat) :=
  if r.head?=some 32 then (pMany p (r.tail.length+1) r.tail).map fun y=>(dn++y.1,y.2) else some (dn,r)
theorem zfk {p:List Nat→Option (Sy×List Nat)} (hp:Shr p) {r r1:List Nat} {s:Sy} (h:p r=some (s,r1)):pMany p (r.length+1) r=pGo p [s] r1:=by
  have h2:=(hp r s r1 h).2
  rw [pMany,h,Option.bind_some]
  unfold pGo
  by_cases c:r1.head?=some 32
  · have:=zbr c
    show (if r1.head?=some 32 then (pMany p r.length r1.tail).map fun y=>(s::y.1,y.2) else some ([s],r1))=_
    rw [if_pos c,if_pos c,zgi hp r.length (r1.tail.length+1) _ (by omega) (by omega)]
    rfl
  · show (if r1.head?=some 32 then (pMany p r.length r1.tail).map fun y=>(s::y.1,y.2) else some ([s],r1))=_
    rw [if_neg c,if_neg c]
theorem zn1 {p:List Nat→Option (Sy×List Nat)} (hp:Shr p) {r r2:List Nat} {b:Sy} {dn:List Sy} (c:r.head?=some 32) (h:p r.tail=some (b,r2)):pGo p dn r=pGo p (dn++[b]) r2:=by
  have e:pGo p dn r=(pMany p (r.tail.length+1) r.tail).map fun y=>(dn++y.1,y.2):=by unfold pGo;rw [if_pos c]
  rw [e,zfk hp h]
  unfold pGo
  by_cases c2:r2.head?=some 32
  · rw [if_pos c2,if_pos c2,Option.map_map]
    congr 1
    funext y
    simp
  · rw [if_neg c2,if_neg c2]
    rfl
theorem zn2 {p:List Nat→Option (Sy×List Nat)} {r:List Nat} {dn:List Sy} (c:r.head?=some 32) (h:p r.tail=none):pGo p dn r=none:=by
  unfold pGo
  rw [if_pos c,pMany,h]
  rfl
theorem zg5 {n:Nat} (hn0:1≤n) (h:HasM K CR "read_row" "SayingReader.read_row" zbo ["self","closing","least","most","level"]) (G:Gs K mg) (T:RunT K mg CR) (R:Rfs K mg ES adr) (M_sign_here:Met3 P w K mg base n CR "sign_here" ["self"] (zbz CR)) (M_read_saying:Met3 P w K mg base n CR "read_saying" ["self","level"] (zbj CR adr n))
    (C_refuse_unfit_count:Cal3 P w K mg base n "refuse_unfit_count" ["row","least","most"] (zbb adr)):Met3 P w K mg base (n+1) CR "read_row" ["self","closing","least","most","level"] (zck CR adr (n+1)):=by
  refine h.met3x zd6 (by rintro ds S Q E ⟨_,_,_,_,_,_,_,_,e,_⟩;rw [e];rfl) fun f cdv A0 outer s0 H E ds S Q W hr hA=>?_
  obtain ⟨a,cl,lo,hi,lv,d,cs,r,rfl,hlv,hd,hn,hcl,hc256,hA,hq,hx⟩:=hA
  have hS:=hA.at_
  have hl:=hA.len
  have sh:=zet d
  refine ⟨_,(zab (zay (i:=5) zd6.nd rfl (Or.inl rfl) (zkm (zaa (zd9 M_read_saying T.cl hr (e_v 0) (zaa (e_v 4) zae)) zae)))
 (zab (zgy pown (zao zbl zb0 (zdx M_sign_here T.cl hr (e_v 0)) zai (nomark _)) (zab (zhs T.cl T.n_place (e_v 0) zac)
 (zak (zer (e_bm PySem.F.plainAttrs_list PySem.F.slot_list_append PySem.F.type_list_append zdd zf1 (e_v 5) (zaa (zd9 M_read_saying T.cl hr (e_v 0) (zaa (e_v 4) zae)) zae))))))
 (zab (s_if (zao zeg zey (zdx M_sign_here T.cl hr (e_v 0)) (e_v 1) (nomark _)) (zak (zed (C:=adr .text) (R.bound .text (by decide)) (R.exc (by decide)) rfl rfl (zaa (zo1 (zh9 zai (zh9 (e_fmt (e_v 1)) (zh9 zai f_nil)))) zae))) za5)
 (zab (zhs T.cl T.n_place (e_v 0) zac)
 (zab (zer (za0 C_refuse_unfit_count hr rfl (zaa (e_v 5) (zaa (e_v 2) (zaa (e_v 3) zae)))))
 (zak (zau (zc2 zbh zc3 rfl G.tuple boot_tuple (zaa (e_v 5) zae))))))))),?_⟩
  nofun
  refine j_Rm hS (fun _ _=>rfl) ?_
  nofun
  refine ⟨a,lv,d,cs,r,rfl,by omega,by omega,by omega,hA,fun s r1 hs S1 px h1=>?_,fun hs=>hx (by unfold pRow;rw [pMany,hs];rfl)⟩
  have hgo:=zfk sh hs
  have hlt:=(sh _ _ _ hs).2
  have hrl:=hA.suf.length_le
  nofun
  intro pl hpl
  have np:pl≠a:=fun e=>by rw [e,h1.at_] at hpl;cases hpl
  have fpl:S pl=none:=px.free hpl np
  have a1:=zax (o:=.lst [s.d]) h1.at_ hpl
  have a2:up S1 pl (.lst [s.d]) pl=some (.lst [s.d]):=zaf
  have p1:Px a S (up S1 pl (.lst [s.d])):=px.new hpl
  generalize up S1 pl (.lst [s.d])=S2 at a1 a2 p1 ⊢
  nofun
  refine j_while (fun m σ S'=>Ex2 fun (dn:List Sy) (r2:List Nat)=>m=r2.length∧dn.length+r2.length≤5000∧σ=[some (.ref a),some (.str (textOf [cl])),some (.int lo),some (.int hi),some (.int lv),some (.ref pl)]∧Px a S S'∧S' pl=some (.lst (dn.map Sy.d))∧At6 CR S' a cs r2∧pMany (pS d) (r.length+1) r=pGo (pS d) dn r2) r1.length
    ⟨[s],r1,rfl,by simp only [List.length_cons,List.length_nil];omega,rfl,p1,a2,⟨a1,h1.suf,h1.len,h1.low⟩,hgo⟩ ?_
  rintro m σ S3 ⟨dn,r2,rfl,hdl,rfl,p3,k2,h3,hg⟩
  nofun
  refine j_Rm h3.at_ (fun _ _=>rfl) ?_
  refine ⟨a,_,_,rfl,h3.at_,by omega,?_⟩
  rw [h3.sg]
  by_cases c32:r2.head?=some 32
  · rw [c32,Option.toList_some,t_32]
    have h4:=h3.step c32
    have hlt2:=zbr c32
    nofun
    refine j_Rstep h3.at_ ?_
    have p4:=p3.at (o:=.ins CR (rdFs (textOf cs) (((cs.length-r2.length:Nat):Int)+1)))
    have k4:up S3 a (.ins CR (rdFs (textOf cs) (((cs.length-r2.length:Nat):Int)+1))) pl=some (.lst (dn.map Sy.d)):=zpa k2 np
    generalize up S3 a (.ins CR (rdFs (textOf cs) (((cs.length-r2.length:Nat):Int)+1)))=S4 at h4 p4 k4 ⊢
    nofun
    refine j_Rm h4.at_ (fun _ _=>rfl) ?_
    nofun
    refine ⟨a,lv,d,cs,r2.tail,rfl,by omega,by omega,by omega,h4,fun b r3 hb S5 p5 h5=>?_,fun hb=>hx (by unfold pRow;rw [hg,zn2 c32 hb];rfl)⟩
    have k6:=p5 pl _ np k4
    have hlt3:=(sh _ _ _ hb).2
    nofun
    refine j_append k6 (zd4 (by rw [List.length_map];omega)) ?_
    nofun
    refine ⟨_,by omega,dn++[b],r3,rfl,by simp only [List.length_append,List.length_cons,List.length_nil];omega,rfl,(p4.trans p5).fresh fpl,?_,⟨by rw [zpa h5.at_ (Ne.symm np)],h5.suf,h5.len,h5.low⟩,by rw [hg];exact zn1 sh c32 hb⟩
    rw [zaf]
    simp
  · have hne:textOf r2.head?.toList≠(" ":Str):=by
      rw [←t_32]
      intro z
      have:=zat z
      cases q:r2.head? with
      | none=>rw [q] at this;simp at this
      | some c=>rw [q] at this c32;simp at this;exact c32 (by rw [this])
    have eg:pGo (pS d) dn r2=some (dn,r2):=by unfold pGo;rw [if_neg c32]
    rw [eg] at hg
    have erow:pRow (pS d) cl lo hi r=if r2.head?=some cl∧lo≤dn.length∧dn.length≤hi then some (dn,r2.tail) else none:=by unfold pRow;rw [hg];rfl
    nofun
    refine j_Rm h3.at_ (fun _ _=>rfl) ?_
    refine ⟨a,_,_,rfl,h3.at_,by omega,?_⟩
    rw [h3.sg]
    by_cases ccl:r2.head?=some cl
    · rw [ccl,Option.toList_some]
      have h4:=h3.step ccl
      nofun
      refine j_Rstep h3.at_ ?_
      have p4:=p3.at (o:=.ins CR (rdFs (textOf cs) (((cs.length-r2.length:Nat):Int)+1)))
      have k4:up S3 a (.ins CR (rdFs (textOf cs) (((cs.length-r2.length:Nat):Int)+1))) pl=some (.lst (dn.map Sy.d)):=zpa k2 np
      generalize up S3 a (.ins CR (rdFs (textOf cs) (((cs.length-r2.length:Nat):Int)+1)))=S4 at h4 p4 k4 ⊢
      nofun
      refine ⟨_,dn.map Sy.d,lo,hi,rfl,.inr ⟨pl,rfl,k4⟩,fun l1 l2=>?_,fun ln x=>hx (by rw [erow,if_neg];rw [List.length_map] at ln;omega) x _⟩
      rw [List.length_map] at l1 l2
      nofun
      exact hq dn r2.tail (by rw [erow,if_pos ⟨ccl,by omega,by omega⟩]) S4 p4 h4
    · have hne2:textOf r2.head?.toList≠textOf [cl]:=by
        intro z
        have:=zat z
        cases q:r2.head? with
        | none=>rw [q] at this;simp at this
        | some c=>rw [q] at this ccl;simp at this;exact ccl (by rw [this])
      have hxx:=hx (by rw [erow,if_neg fun z=>ccl z.1])
      have e1:(Str.empty++("no ":Str)).length=3:=by decide +kernel
      have e2:(" where a row of sayings ends":Str).length=28:=by decide +kernel
      have e3:(textOf [cl]).length=1:=by rw [zah];rfl
      nofun
      refine ⟨by rw [e1];decide,?_⟩
      nofun
      refine j_fmtS (by rw [e3];decide) ?_
      nofun
      refine ⟨by rw [strLen_append,e1,e3];decide,?_⟩
      nofun
      refine ⟨by rw [strLen_append,strLen_append,e1,e2,e3];decide,?_⟩
      refine j_fnil (by rw [strLen_append,strLen_append,e1,e2,e3];decide) ?_
      nofun
      exact fun x=>hxx x _
inductive zhk (CR:Addr) (adr:Rf→Addr) (ds:List D) (S:Hp3) (Q:K3) (W:X3):Prop where
  | mk (a:Addr) (cs r:List Nat) (_:ds=[.ref a]) (_:At6 CR S a cs r) (_:(r=[]→Q .non S)) (_:(r≠[]→∀x S',W (adr .text) x S'))
def zdn (CR:Addr) (adr:Rf→Addr):Sp3:= (zhk CR adr)
theorem ze2 {k:Nat} (h:HasM K CR "refuse_rest" "SayingReader.refuse_rest" zbd ["self"]) (G:Gs K mg) (T:RunT K mg CR) (R:Rfs K mg ES adr):Met3 P w K mg base (k+1) CR "refuse_rest" ["self"] (zdn CR adr):=by
  refine h.met3x ze0 (by rintro ds S Q E ⟨_,_,_,e,_⟩;rw [e];rfl) fun f cdv A0 outer s0 H E ds S Q W hr hA=>?_
  obtain ⟨a,cs,r,rfl,hA,hq,hx⟩:=hA
  have hS:=hA.at_
  have hl:=hA.len
  have hr:=hA.suf.length_le
  have el:((textOf cs).length:Int)=(cs.length:Nat):=by rw [zah]
  have el2:(textOf cs).length≤sizeLine:=by rw [zah];exact zag (by omega)
  refine ⟨_,(zak (s_if (zao ze1 zba (zia T.cl T.n_place (e_v 0) rfl) (zaj zap zby rfl G.len PySem.boot_len (zaa (zia T.cl T.n_text (e_v 0) rfl) zae)) (nomark _)) (zak (zed (C:=adr .text) (R.bound .text (by decide)) (R.exc (by decide)) rfl rfl (zaa zai zae))) za5)),?_⟩
  cases r with
  | nil =>
    have c:¬((cs.length-([]:List Nat).length:Nat):Int)<((textOf cs).length:Int):=by rw [el];simp
    nofun
    exact hq rfl
  | cons x r =>
    have c:((cs.length-(x::r).length:Nat):Int)<((textOf cs).length:Int):=by rw [el];simp only [List.length_cons] at hr ⊢;omega
    nofun
    exact fun z=>hx (by simp) z S
theorem rd_all (h1:HasM K CR "read_saying" "SayingReader.read_saying" za8 ["self","level"]) (h2:HasM K CR "read_named" "SayingReader.read_named" zbc ["self","level"]) (h3:HasM K CR "read_row" "SayingReader.read_row" zbo ["self","closing","least","most","level"]) (G:Gs K mg) (T:RunT K mg CR) (R:Rfs K mg ES adr)
    (M_sign:Met3 P w K mg base 1 CR "sign_here" ["self"] (zbz CR)) (M_word:Met3 P w K mg base 3 CR "read_word" ["self"] (zc8 CR adr)) (C_count:Cal3 P w K mg base 1 "refuse_unfit_count" ["row","least","most"] (zbb adr)) :
    ∀n,Met3 P w K mg base n CR "read_saying" ["self","level"] (zbj CR adr n)∧Met3 P w K mg base n CR "read_named" ["self","level"] (zcg CR adr n)∧Met3 P w K mg base n CR "read_row" ["self","closing","least","most","level"] (zck CR adr n):=by
  have none:∀n,n≤5→Met3 P w K mg base n CR "read_saying" ["self","level"] (zbj CR adr n)∧Met3 P w K mg base n CR "read_named" ["self","level"] (zcg CR adr n)∧Met3 P w K mg base n CR "read_row" ["self","closing","least","most","level"] (zck CR adr n):=fun n hn =>
    ⟨h1.none3 (by rintro ds S Q E ⟨_,_,_,_,_,_,_,_,z,_⟩;omega) n,h2.none3 (by rintro ds S Q E ⟨_,_,_,_,_,_,_,_,z,_⟩;omega) n,
      h3.none3 (by rintro ds S Q E ⟨_,_,_,_,_,_,_,_,_,_,_,z,_⟩;omega) n⟩
  intro n
  induction n with
  | zero=>exact none 0 (by decide)
  | succ n ih =>
    by_cases c:n+1≤5
    · exact none _ c
    · exact ⟨ze3 (by omega) h1 G T R (M_sign.mono (by omega)) ih.2.1 ih.1 ih.2.2,zfo (by omega) h2 G T R (M_sign.mono (by omega)) (M_word.mono (by omega)) ih.2.2,zg5 (by omega) h3 G T R (M_sign.mono (by omega)) ih.1 (C_count.mono (by omega))⟩
theorem zcb (x:Str):textOf x.cps.toList=x:=by
  cases x with
  | mk c=>simp [textOf]
theorem ziq {a:Str} {i j c:Nat} (h:c∈(Builtin.Str.strSub a i j).cps.toList):c∈a.cps.toList:=by
  rw [←zcb a,zfe,zad] at h
  exact List.mem_of_mem_drop (List.mem_of_mem_take h)
theorem sub_len (a:Str) (i j:Nat):(Builtin.Str.strSub a i j).length≤a.length:=by
  rw [←zcb a,zfe,zah,zah,List.length_take,List.length_drop]
  omega
noncomputable def hv0 (cs:List Nat):Str:=(partS (textOf cs) ": ").getD 0 Str.empty
noncomputable def hv1 (cs:List Nat):Str:=(partS (textOf cs) ": ").getD 1 Str.empty
noncomputable def hv2 (cs:List Nat):Str:=(partS (textOf cs) ": ").getD 2 Str.empty
theorem hv_eq (cs:List Nat):partS (textOf cs) ": "=[hv0 cs,hv1 cs,hv2 cs]:=by
  unfold hv0 hv1 hv2 partS
  split<;>rfl
theorem hv_in (cs:List Nat):((hv0 cs).length≤cs.length∧∀c∈(hv0 cs).cps.toList,c∈cs)∧(hv2 cs).length≤cs.length∧∀c∈(hv2 cs).cps.toList,c∈cs:=by
  unfold hv0 hv2 partS
  split
  · refine ⟨⟨?_,fun c hc=>?_⟩,?_,fun c hc=>?_⟩
    · exact Nat.le_trans (sub_len _ _ _) (by rw [zah];exact Nat.le_refl _)
    · have:=ziq (show c∈(Builtin.Str.strSub (textOf cs) 0 _).cps.toList from hc)
      rwa [zad] at this
    · exact Nat.le_trans (sub_len _ _ _) (by rw [zah];exact Nat.le_refl _)
    · have:=ziq (show c∈(Builtin.Str.strSub (textOf cs) _ _).cps.toList from hc)
      rwa [zad] at this
  · refine ⟨⟨?_,fun c hc=>?_⟩,?_,fun c hc=>?_⟩
    · show (textOf cs).length≤_
      rw [zah]
      exact Nat.le_refl _
    · have hc:c∈(textOf cs).cps.toList:=hc
      rwa [zad] at hc
    · exact Nat.zero_le _
    · exact absurd hc (by show c∉(Str.empty).cps.toList;simp [Str.empty])
noncomputable def wsOf (cs:List Nat):List Str:=Txt.split (hv0 cs) " "
theorem zjn (x y:Str):(∀v∈Txt.split x y,v.length≤x.length∧∀c∈v.cps.toList,c∈x.cps.toList)∧1≤(Txt.split x y).length∧(Txt.split x y).length≤(Builtin.Str.partsBetween x (Builtin.Str.occurrences x y 0 x.length (x.length+1)) y.length).length:=by
  have hl:1≤(Builtin.Str.partsBetween x (Builtin.Str.occurrences x y 0 x.length (x.length+1)) y.length).length:=by
    unfold Builtin.Str.partsBetween
    simp only [List.length_map,List.length_zip,List.length_cons,List.length_append,List.length_nil]
    omega
  have one:(∀v∈[x],v.length≤x.length∧∀c∈v.cps.toList,c∈x.cps.toList)∧1≤[x].length∧[x].length≤(Builtin.Str.partsBetween x (Builtin.Str.occurrences x y 0 x.length (x.length+1)) y.length).length:=by
    refine ⟨fun v hv=>?_,by simp,by simpa using hl⟩
    rw [List.mem_singleton.mp hv]
    exact ⟨Nat.le_refl _,fun c hc=>hc⟩
  unfold Txt.split
  split
  · exact one
  split
  · exact one
  refine ⟨fun v hv=>?_,hl,Nat.le_refl _⟩
  unfold Builtin.Str.partsBetween at hv
  obtain ⟨⟨i,j⟩,_,rfl⟩:=List.mem_map.mp hv
  exact ⟨sub_len _ _ _,fun c hc=>ziq hc⟩
theorem zhu (x:Str):(Builtin.Str.partsBetween x (Builtin.Str.occurrences x " " 0 x.length (x.length+1)) (" ":Str).length).length≤x.length+2:=by
  have h1:=PySem.StrLaws.occ_length_le x " " 0 x.length (x.length+1)
  unfold Builtin.Str.partsBetween
  simp only [List.length_map,List.length_zip,List.length_cons,List.length_append,List.length_nil]
  omega
noncomputable def wdB (w:List Nat):Bool:=decide (1≤w.length)&&(decide (w.length≤8)&&w.all ltr)
theorem zgp {w:List Nat}:wdB w=true↔Wd5 w:=by
  unfold wdB
  simp only [Bool.and_eq_true,decide_eq_true_eq,List.all_eq_true]
  exact ⟨fun ⟨h1,h2,h3⟩=>⟨h1,h2,h3⟩,fun h=>⟨h.l1,h.l8,h.ok⟩⟩
noncomputable def hdOk (cs:List Nat):Bool:=(wsOf cs).all (fun x=>wdB x.cps.toList)&&(decide (2≤(wsOf cs).length)&&decide ((wsOf cs).length≤5))
noncomputable def pLine (cs:List Nat):Option Er :=
  if hv1 cs="" then none else if hdOk cs=true then (pS 12 (hv2 cs).cps.toList).bind fun x=>if x.2=[] then some ⟨(wsOf cs).headD "",(wsOf cs).tail,x.1⟩ else none else none
inductive zjf (adr:Rf→Addr) (ds:List D) (q:D→Prop) (qx:Addr→Prop):Prop where
  | mk (cs:List Nat) (_:ds=[.str (textOf cs)]) (_:cs.length≤5000) (_:(∀c∈cs,c<256)) (_:(∀e,pLine cs=some e→q e.d)) (_:(pLine cs=none→qx (adr .text)))
def zen (adr:Rf→Addr):Sp3:=vX (zjf adr)
theorem zh0 {k n:Nat} (hn:42≤n) (hk:n≤k) (h:Has K mg "read_line" zb4 ["text"]) (G:Gs K mg) (T:RunT K mg CR) (R:Rfs K mg ES adr) (C_refuse_unfit_name:Cal3 P w K mg base (k+1) "refuse_unfit_name" ["word"] (zbv adr)) (C_refuse_unfit_count:Cal3 P w K mg base (k+1) "refuse_unfit_count" ["row","least","most"] (zbb adr))
    (M_init:Met3 P w K mg base k CR "__init__" ["self","text"] (zk3 CR)) (M_read_saying:Met3 P w K mg base (k+1) CR "read_saying" ["self","level"] (zbj CR adr n)) (M_refuse_rest:Met3 P w K mg base (k+1) CR "refuse_rest" ["self"] (zdn CR adr)):Cal3 P w K mg base (k+1+1) "read_line" ["text"] (zen adr):=by
  refine h.valX zbm (by rintro ds q qx ⟨_,e,_⟩;rw [e];rfl) fun f cdv A outer s0 H E ds q qx hr hA=>?_
  obtain ⟨cs,rfl,hl,h256,hq,hx⟩:=hA
  have hll:(textOf cs).length≤sizeLine:=by rw [zah];exact zag (by omega)
  obtain ⟨⟨h0l,h0c⟩,h2l,h2c⟩:=hv_in cs
  obtain ⟨hwi,hw1,hwl⟩:=zjn (hv0 cs) " "
  have hpl:=zhu (hv0 cs)
  refine ⟨_,(zab (zay (i:=1) zbm.nd rfl (Or.inl rfl) (e_bm PySem.F.plainAttrs_str PySem.F.slot_str_partition PySem.F.type_str_partition zfp zmr (e_v 0) (zaa zai zae)))
 (zab (s_if (zao zbl zb0 (e_ix zaq zar (e_v 1) zac (fun _ _=>rfl)) zai (nomark _)) (zak (zed (C:=adr .text) (R.bound .text (by decide)) (R.exc (by decide)) rfl rfl (zaa zai zae))) za5)
 (zab (zay (i:=2) zbm.nd rfl (Or.inl rfl) (e_bm PySem.F.plainAttrs_str PySem.F.slot_str_split PySem.F.type_str_split zex zj0 (e_ix zaq zar (e_v 1) zac (fun _ _=>rfl)) (zaa zai zae)))
 (zab (znh pown rfl (zoz (e_v 2)) (zh7 (i:=3) zbm.nd rfl (Or.inl rfl)) (zak (zer (za0 C_refuse_unfit_name hr rfl (zaa (e_v 3) zae)))))
 (zab (zay (i:=4) zbm.nd rfl (Or.inl rfl) (zc2 zbh zc3 rfl G.tuple boot_tuple (zaa (zaw zdt zfz (e_v 2) (za1 zac) zbi) zae)))
 (zab (zer (za0 C_refuse_unfit_count hr rfl (zaa (e_v 4) (zaa zac (zaa (zhf G.MOST_IN_ROW rfl) zae)))))
 (zab (zay (i:=5) zbm.nd rfl (Or.inl rfl) (e_make M_init T.mks T.kc hr rfl T.at_ (zaa (e_ix zaq zar (e_v 1) zac (fun _ _=>rfl)) zae)))
 (zab (zay (i:=6) zbm.nd rfl (Or.inl rfl) (zd9 M_read_saying T.cl hr (e_v 5) (zaa zac zae)))
 (zab (zer (zdx M_refuse_rest T.cl hr (e_v 5)))
 (zak (zau (zbx (zaa (e_ix zb2 zcq (e_v 2) zac (fun _ _=>rfl)) (zaa (e_v 4) (zaa (e_v 6) zae))))))))))))))),?_⟩
  nofun
  refine j_partS (by decide +kernel) hll ?_
  rw [hv_eq]
  simp only [List.map_cons,List.map_nil]
  by_cases c1:hv1 cs=""
  · nofun
    exact fun _=>hx (by unfold pLine;rw [if_pos c1])
  nofun
  refine ⟨_,_,rfl,rfl,by decide +kernel,zag (by omega),zag (by omega),zag (by omega),?_⟩
  have hws:wsOf cs=Txt.split (hv0 cs) " ":=rfl
  rw [←hws] at hwi hw1 hwl ⊢
  intro pw hpw
  have a1:up emp pw (.lst ((wsOf cs).map D.str)) pw=some (.lst ((wsOf cs).map D.str)):=zaf
  generalize up emp pw (.lst ((wsOf cs).map D.str))=S1 at a1 ⊢
  nofun
  refine ⟨fun i σ S'=>∃x3,σ=[some (.str (textOf cs)),some (.tup [.str (hv0 cs),.str (hv1 cs),.str (hv2 cs)]),some (.ref pw),x3,none,none,none]∧S'=S1∧∀x∈(wsOf cs).take i,Wd5 x.cps.toList,⟨none,rfl,rfl,by simp⟩,fun _ _ _ ⟨_,_,z,_⟩=>by rw [z];exact a1,?_,?_⟩
  · rintro i d σ S' hd ⟨x3,rfl,rfl,hd8⟩
    rw [List.getElem?_map] at hd
    obtain ⟨x,hxi,rfl⟩:=Option.map_eq_some_iff.mp hd
    have hxm:=List.mem_of_getElem? hxi
    obtain ⟨hxl,hxc⟩:=hwi x hxm
    nofun
    refine ⟨x.cps.toList,by rw [zcb],?_,fun c hc=>h256 c (h0c c (hxc c hc)),fun hwd=>?_,fun hwd _=>?_⟩
    · have:x.cps.toList.length=x.length:=by rw [←zah,zcb]
      omega
    · nofun
      refine ⟨_,rfl,rfl,fun y hy=>?_⟩
      rw [List.take_succ,hxi] at hy
      rcases List.mem_append.mp hy with h|h
      · exact hd8 y h
      · obtain rfl:y=x:=by simpa using h
        exact hwd
    · refine hx ?_
      unfold pLine
      rw [if_neg c1,if_neg]
      intro z
      unfold hdOk at z
      rw [Bool.and_eq_true,List.all_eq_true] at z
      exact hwd (zgp.mp (z.1 x hxm))
  rintro σ S' ⟨x3,rfl,rfl,hall⟩
  rw [List.length_map,List.take_length] at hall
  have hallB:(wsOf cs).all (fun x=>wdB x.cps.toList)=true:=by
    rw [List.all_eq_true]
    exact fun x hx=>zgp.mpr (hall x hx)
  nofun
  rw [zcv (by decide)]
  have ec:((wsOf cs).map D.str).drop (Int.toNat 1)=(wsOf cs).tail.map D.str:=by rw [show Int.toNat 1=1 from rfl,←List.map_drop,List.drop_one]
  rw [ec]
  intro pc hpc
  have a2:=zax (o:=.lst ((wsOf cs).tail.map D.str)) a1 hpc
  have a3:up S' pc (.lst ((wsOf cs).tail.map D.str)) pc=some (.lst ((wsOf cs).tail.map D.str)):=zaf
  generalize up S' pc (.lst ((wsOf cs).tail.map D.str))=S2 at a2 a3 ⊢
  nofun
  have htl:((wsOf cs).tail.map D.str).length+1=(wsOf cs).length:=by rw [List.length_map,List.length_tail];omega
  refine ⟨_,(wsOf cs).tail.map D.str,1,4,rfl,.inl rfl,fun l1 l2=>?_,fun ln _=>?_⟩
  rotate_left
  · refine hx ?_
    unfold pLine
    rw [if_neg c1,if_neg]
    intro z
    unfold hdOk at z
    rw [hallB,Bool.true_and,Bool.and_eq_true,decide_eq_true_eq,decide_eq_true_eq] at z
    exact ln ⟨by omega,by omega⟩
  have hok:hdOk cs=true:=by
    unfold hdOk
    rw [hallB,Bool.true_and,Bool.and_eq_true,decide_eq_true_eq,decide_eq_true_eq]
    exact ⟨by omega,by omega⟩
  have epl:pLine cs=(pS 12 (hv2 cs).cps.toList).bind fun x=>if x.2=[] then some ⟨(wsOf cs).headD "",(wsOf cs).tail,x.1⟩ else none:=by unfold pLine;rw [if_neg c1,if_pos hok]
  nofun
  intro a ha
  have b2:=zax (o:=.ins CR []) a2 ha
  refine ⟨a,_,rfl,zaf,fun S3 p3 e3=>⟨rfl,?_⟩⟩
  have npa:pw≠a:=ne3 a2 ha
  have c2:=p3 pw _ npa b2
  have ebl:(hv2 cs).cps.toList.length=(hv2 cs).length:=by rw [←zah,zcb]
  have hH:At6 CR S3 a (hv2 cs).cps.toList (hv2 cs).cps.toList:=⟨by rw [e3,zcb,Nat.sub_self];rfl,List.suffix_refl _,by omega,fun c hc=>h256 c (h2c c hc)⟩
  nofun
  refine j_Rm e3 (fun _ _=>rfl) ?_
  nofun
  refine ⟨a,1,12,(hv2 cs).cps.toList,(hv2 cs).cps.toList,rfl,by decide,by decide,by omega,hH,fun s r' hs S4 p4 h4=>?_,fun hs _ _=>hx (by rw [epl,hs];rfl)⟩
  have c3:=p4 pw _ npa c2
  nofun
  refine j_Rm h4.at_ (fun _ _=>rfl) ?_
  refine ⟨a,_,r',rfl,h4,fun er=>?_,fun er _ _=>hx (by rw [epl,hs];show (if r'=[] then _ else none)=none;rw [if_neg er])⟩
  have heq:pLine cs=some ⟨(wsOf cs).headD "",(wsOf cs).tail,s⟩:=by rw [epl,hs];show (if r'=[] then _ else none)=_;rw [if_pos er]
  have hfin:=hq _ heq
  obtain ⟨w0,wr,ew⟩:∃w0 wr,wsOf cs=w0::wr:=List.exists_cons_of_length_pos hw1
  rw [ew] at c3 hfin ⊢
  nofun
  exact hfin
noncomputable def cellAt (ns:List Int) (k:Int):Int:=ns.getD k.toNat 0
inductive znc  (ds:List D) (q:D→Prop):Prop where
  | mk (ns:List Int) (k:Int) (_:ds=[.rol (ns.map D.int),.int k]) (_:0≤k) (_:q (.int (cellAt ns k)))
def zdg :Sp3:=vS znc
theorem zke {k:Nat} (h:Has K mg "_law_cell_at" zcu ["script","k"]) (G:Gs K mg):Cal3 P w K mg base (k+1) "_law_cell_at" ["script","k"] zdg:=by
  refine h.val zka (by rintro ds q ⟨ns,k,e,_⟩;rw [e];rfl) fun f cdv A outer s H E ds q hr ⟨ns,k,e,h0,hq⟩=>?_
  subst e
  refine ⟨_,(zab (s_if (zao ze1 zba (e_v 1) (zaj zas zcp rfl G.len PySem.boot_len (zaa (e_v 0) zae)) (nomark _)) (zak (zau (e_ix zb2 zcq (e_v 0) (e_v 1) (fun _ _=>rfl)))) za5)
 (zak (zau zac))),?_⟩
  nofun
  have hl:(ns.map D.int).length=ns.length:=List.length_map _
  refine iteD2 (fun c=>?_) (fun c=>?_)
  · rw [hl] at c
    have hk:k.toNat<ns.length:=by omega
    nofun
    refine j_ixR (zm7 h0 (v:=.int (cellAt ns k)) ?_) hq
    rw [List.getElem?_map,List.getElem?_eq_getElem hk]
    simp [cellAt,List.getD_eq_getElem?_getD,List.getElem?_eq_getElem hk]
  · rw [hl] at c
    have hk:ns.length≤k.toNat:=by omega
    nofun
    have e:cellAt ns k=0:=by simp [cellAt,List.getD_eq_getElem?_getD,List.getElem?_eq_none hk]
    rw [e] at hq
    exact hq
inductive zqg  (ds:List D) (q:List D→Prop):Prop where
  | mk (c n:Int) (_:ds=[.int c,.int n]) (_:0≤c) (_:1≤n) (_:n≤12) (_:∀xs:List Str,Row n.toNat xs→q (xs.map D.str))
def zjo :Sp3:=lSt zqg
theorem zn6 {k:Nat} (h:Has K mg "_law_names" zcz ["cell","many"]) (G:Gs K mg):Cal3 P w K mg base (k+1) "_law_names" ["cell","many"] zjo:=by
  refine h.lst zb1 (by rintro ds q ⟨c,n,e,_⟩;rw [e];rfl) fun f cdv A outer s H E ds q hr ⟨c,n,e,hc,hn1,hn2,hq⟩=>?_
  subst e
  refine ⟨_,(zab (zay (i:=2) zb1.nd rfl (Or.inr rfl) zai)
 (zab (zay (i:=3) zb1.nd rfl (Or.inl rfl) (e_op zcc zam (e_v 0) zac))
 (zab (znh PassesOwn.never rfl (zco rfl G.range (zaa (e_op zbt zam (e_v 0) zac) zae)) (zh7 (i:=4) zb1.nd rfl (Or.inl rfl)) (zab (zay (i:=2) zb1.nd rfl (Or.inr rfl) (e_op zal za7 (e_v 2) (e_ix zdp zdr zai (e_op zbt zam (e_v 3) zac) (fun _ _=>rfl))))
 (zak (zay (i:=3) zb1.nd rfl (Or.inl rfl) (e_op zcc zam (e_v 3) zac)))))
 (zab (zay (i:=5) zb1.nd rfl (Or.inr rfl) (e_op zbt zam (e_op zcc zam (e_v 0) zac) (e_op za9 za2 (zaj zap zby rfl G.len PySem.boot_len (zaa (e_v 2) zae)) zac)))
 (zab (zjq (i:=6) (osc:=defScope zcz) (N:=["cell","many","base","left","k","place","found","turn"]) (M:=["base","place"]) (js:=[2,5]) ⟨rfl,by decide +kernel,by decide +kernel,rfl,by decide +kernel,by decide +kernel,by decide +kernel⟩ (by decide +kernel) rfl (zco rfl G.range (zaa (e_v 1) zae)) (fun _ _ _ _ _=>(e_op zal za7 (e_op zal za7 (zaw zbs zbu (e_v 1) zbi (za1 (e_v 2))) (e_ix zdp zdr zai (e_v 0) (fun _ _=>rfl))) (zaw zbs zbu (e_v 1) (za1 (e_v 2)) zbi))) zb1.nd rfl rfl)
 (zab (s_ifm (PW3.pt (w_and (zao ze1 zba (e_v 1) zac (nomark _)) (zem (zao zbl zcf (e_op zbt zam (e_op zcc zam (e_v 0) zac) zac) zac (nomark _))))) (zak (zjq (i:=6) (osc:=defScope zcz) (N:=["cell","many","base","left","k","place","found","turn"]) (M:=["base"]) (js:=[2]) ⟨rfl,by decide +kernel,by decide +kernel,rfl,by decide +kernel,by decide +kernel,by decide +kernel⟩ (by decide +kernel) rfl (zco rfl G.range (zaa (e_v 1) zae)) (fun _ _ _ _ _=>(e_op zal za7 (zaw zbs zbu (e_v 1) zbi (za1 zac)) (zaw zbs zbu zai zbi (za1 (e_op za9 za2 (e_v 0) zac))))) zb1.nd rfl rfl)) za5)
 (zab (s_ifm (PW3.pt (w_and (zao ze1 zba (e_v 1) zac (nomark _)) (zem (zao zbl zcf (e_op zbt zam (e_op zcc zam (e_v 0) zac) zac) zac (nomark _))))) (zak (zjq (i:=6) (osc:=defScope zcz) (N:=["cell","many","base","left","k","place","found","turn"]) (M:=["base"]) (js:=[2]) ⟨rfl,by decide +kernel,by decide +kernel,rfl,by decide +kernel,by decide +kernel,by decide +kernel⟩ (by decide +kernel) rfl (zco rfl G.range (zaa (e_v 1) zae)) (fun _ _ _ _ _=>(e_op zal za7 (zaw zbs zbu zai (za1 (e_op zfl za2 zac (e_v 0))) zbi) (zaw zbs zbu (e_v 1) zbi (za1 zac)))) zb1.nd rfl rfl)) za5)
 (zab (zay (i:=7) zb1.nd rfl (Or.inl rfl) (e_op zbt zam (e_op zcc zam (e_v 0) zac) (e_v 1)))
 (zak (zau (e_op zow zmx (zaw zdt zfz (e_v 6) (za1 (e_v 7)) zbi) (zaw zdt zfz (e_v 6) zbi (za1 (e_v 7)))))))))))))),?_⟩
  nofun
  refine ⟨fun i σ S=>Ex3 fun (lf:Int) (cs:List Nat) (x4:Option D)=>σ=[some (.int c),some (.int n),some (.str (textOf cs)),some (.int lf),x4,none,none,none]∧cs.length=i∧Letters cs∧S=emp,
    ⟨_,[],none,rfl,rfl,fun c hc=>by simp at hc,rfl⟩,fun _ _ _ _=>trivial,?turn,?done⟩
  case turn =>
    rintro i d σ S hd ⟨lf,cs,x4,rfl,hl,hL,rfl⟩
    obtain ⟨hi,rfl⟩:=zc1 hd
    have m26:=Int.emod_lt_of_pos lf (show (0:Int)<26 by decide)
    have n26:=Int.emod_nonneg lf (show (26:Int)≠0 by decide)
    nofun
    refine j_ixS (cp:=97+(lf%26).toNat) ?_ ?_ ?_
    · rw [zlb,za3];decide
    · rw [zlb,zad]
      exact zj4 n26 m26
    refine j_addS (y:=textOf [97+(lf%26).toNat]) ?_ ?_
    · rw [za3,za3]
      refine zag ?_
      simp only [List.length_cons,List.length_nil]
      omega
    rw [zcs]
    nofun
    refine ⟨_,cs++[97+(lf%26).toNat],_,rfl,by simp [hl],fun d hd=>?_,rfl⟩
    rcases List.mem_append.mp hd with hd|hd
    · exact hL d hd
    · simp at hd
      omega
  rintro σ S ⟨lf,cs,x4,rfl,hl,hL,rfl⟩
  rw [zbk] at hl
  have hl7:cs.length≤7:=by omega
  have lz:∀ds:List Nat,ds.length≤100→(textOf ds).length≤sizeLine:=fun ds h=>by rw [za3];exact zag (by omega)
  have hz:=lz cs (by omega)
  nofun
  rw [za3]
  have p0:=Int.emod_nonneg (c/11) (show ((cs.length:Int)+1)≠0 by omega)
  obtain ⟨pl,epl⟩:∃pl,(c/11)%((cs.length:Int)+1)=pl:=⟨_,rfl⟩
  rw [epl] at p0 ⊢
  refine zb8 (fun k=>.str (textOf (nm1 cs pl.toNat k))) (by rw [zbk];exact Nat.le_trans (show n.toNat≤12 by omega) (by decide)) trivial ?e1 ?_
  case e1 =>
    intro i d hd P hP
    obtain ⟨hi,rfl⟩:=zc1 hd
    nofun
    refine j_slS hz ?_
    rw [zad,zf3 p0]
    nofun
    refine j_ixS (cp:=97+i) ?_ ?_ ?_
    · rw [zht,za3];decide
    · rw [zht,zad,zj4 (by omega) (by omega)]
      simp
    refine j_addS (y:=textOf [97+i]) ?_ ?_
    · rw [za3,za3,List.length_take]
      exact zag (by simp only [List.length_cons,List.length_nil];omega)
    rw [zcs]
    nofun
    refine j_slS hz ?_
    rw [zad,zf4 p0]
    refine j_addS ?_ ?_
    · rw [za3,za3,List.length_append,List.length_take,List.length_drop]
      exact zag (by simp only [List.length_cons,List.length_nil];omega)
    rw [zcs]
    exact hP
  rw [zbk]
  intro D1 hD1
  have e26:n.toNat≤12:=by omega
  have m1:∀f:Nat→List Nat,((List.range n.toNat).map fun k=>D.str (textOf (f k)))=((List.range n.toNat).map fun k=>textOf (f k)).map D.str:=fun f=>by rw [List.map_map];rfl
  rw [m1]
  have R1:Row n.toNat ((List.range n.toNat).map fun k=>textOf (nm1 cs pl.toNat k)):=row1 hL hl7 (by omega)
  nofun
  refine j_ifm (fun σ T=>Ex2 fun (r:Addr) (xs:List Str)=>σ=[some (.int c),some (.int n),some (.str (textOf cs)),some (.int lf),x4,some (.int pl),some (.ref r),none]∧T r=some (.lst (xs.map D.str))∧Row n.toNat xs) ?_ ?_
  · intro n' hn'
    by_cases h5:n<5
    case neg =>
      nofun
      exact hn' _ _ ⟨D1,_,rfl,zaf,R1⟩
    by_cases e1:c/17%3=1
    case neg =>
      nofun
      exact hn' _ _ ⟨D1,_,rfl,zaf,R1⟩
    nofun
    refine zb8 (fun k=>.str (textOf (nm2 cs k))) (by rw [zbk];exact Nat.le_trans e26 (by decide)) trivial ?e2 ?_
    case e2 =>
      intro i d hd P hP
      obtain ⟨hi,rfl⟩:=zc1 hd
      nofun
      refine j_slS hz ?_
      rw [zad,zf3 (by decide)]
      nofun
      refine j_slS (by rw [zjr];exact lz _ (by decide)) ?_
      rw [zjr,zad,zf3 (by omega)]
      have ei:((0:Int)+(i:Int)+1).toNat=i+1:=by omega
      rw [ei]
      refine j_addS ?_ ?_
      · rw [za3,za3,List.length_take,List.length_take]
        exact zag (by omega)
      rw [zcs]
      exact hP
    rw [zbk]
    intro D2 hD2
    rw [m1]
    nofun
    exact hn' _ _ ⟨D2,_,rfl,zaf,row2 hL (by omega)⟩
  clear R1
  rintro σ T ⟨r,xs,rfl,hr1,R⟩
  nofun
  refine j_ifm (fun σ T=>Ex2 fun (r:Addr) (xs:List Str)=>σ=[some (.int c),some (.int n),some (.str (textOf cs)),some (.int lf),x4,some (.int pl),some (.ref r),none]∧T r=some (.lst (xs.map D.str))∧Row n.toNat xs) ?_ ?_
  · intro n' hn'
    by_cases h5:n<5
    case neg =>
      nofun
      exact hn' _ _ ⟨r,xs,rfl,hr1,R⟩
    by_cases e2:c/17%3=2
    case neg =>
      nofun
      exact hn' _ _ ⟨r,xs,rfl,hr1,R⟩
    nofun
    refine zb8 (fun k=>.str (textOf (nm3 cs k))) (by rw [zbk];exact Nat.le_trans e26 (by decide)) trivial ?e3 ?_
    case e3 =>
      intro i d hd P hP
      obtain ⟨hi,rfl⟩:=zc1 hd
      nofun
      refine j_slS (by rw [zjr];exact lz _ (by decide)) ?_
      rw [zjr,zad,zf4 (by omega)]
      have ei:((3:Int)-(0+(i:Int))).toNat=3-i:=by omega
      rw [ei]
      nofun
      refine j_slS hz ?_
      rw [zad,zf3 (by decide)]
      refine j_addS ?_ ?_
      · rw [za3,za3,List.length_take,List.length_drop]
        exact zag (by simp only [List.length_cons,List.length_nil];omega)
      rw [zcs]
      exact hP
    rw [zbk]
    intro D2 hD2
    rw [m1]
    nofun
    exact hn' _ _ ⟨D2,_,rfl,zaf,row3 hL (by omega)⟩
  rintro σ T' ⟨r,xs,rfl,hr1,R⟩
  have t0:=Int.emod_nonneg (c/13) (show n≠0 by omega)
  nofun
  rw [zcv t0]
  intro p1 hp1
  have hD4:=zax (o:=.lst ((xs.map D.str).drop (c/13%n).toNat)) hr1 hp1
  nofun
  rw [zi4 t0]
  intro p2 hp2
  have hxl:=R.len
  refine j_catL (zax zaf hp2) zaf ?_ ?_
  · rw [List.length_drop,List.length_take,List.length_map]
    exact zag (by omega)
  intro r hr'
  refine ⟨r,_,rfl,zaf,?_⟩
  have:=hq _ (R.turn (t:=(c/13%n).toNat))
  rw [List.map_append,List.map_drop,List.map_take] at this
  exact this
inductive P_next  (ds:List D) (S:Hp3) (q:D→Addr→O→Prop):Prop where
  | mk (ns:List Int) (sp:Addr) (i:Int) (rs:List D) (_:ds=[.rol (ns.map D.int),.ref sp]) (_:S sp=some (.lst (.int i::rs))) (_:0≤i) (_:q (.int (cellAt ns i)) sp (.lst (.int (i+1)::rs)))
def zir :Sp3:=wrV P_next
theorem zp1 {k:Nat} (h:Has K mg "_law_next" zgg ["script","spot"]) (C_cell_at:Cal3 P w K mg base k "_law_cell_at" ["script","k"] zdg):Cal3 P w K mg base (k+1) "_law_next" ["script","spot"] zir:=by
  refine h.wrV zpe (by rintro ds S q ⟨ns,sp,i,rs,e,_⟩;rw [e];rfl) fun f cdv A outer s H E ds S q hr ⟨ns,sp,i,rs,e,hS,hi,hq⟩=>?_
  subst e
  refine ⟨_,(zab (s_asg (e_op za9 za2 (e_ix zb2 zcq (e_v 1) zac (fun _ _=>rfl)) zac) (g_sub (e_v 1) zac))
 (zak (zau (za0 C_cell_at hr rfl (zaa (e_v 0) (zaa (e_op zfl za2 (e_ix zb2 zcq (e_v 1) zac (fun _ _=>rfl)) zac) zae)))))),?_⟩
  nofun
  refine ⟨ns,i+1-1,rfl,by omega,sp,_,Sub.refl _,?_⟩
  have e:i+1-1=i:=by omega
  rw [e]
  exact hq
inductive zor (n:Nat) (ds:List D) (S:Hp3) (q:D→Addr→O→Prop):Prop where
  | mk (ns:List Int) (sp nm ct:Addr) (i b deep:Int) (names ps:List Str) (counts:List Nat) (_:ds=[.rol (ns.map D.int),.ref sp,.ref nm,.ref ct,.tup (ps.map D.str),.int deep]) (_:S sp=some (.lst [.int i,.int b])) (_:S nm=some (.lst (names.map D.str))) (_:S ct=some (.lst (cD counts))) (_:sp≠nm) (_:sp≠ct) (_:0≤i) (_:0≤b) (_:1≤deep) (_:deep≤n) (_:1≤ps.length) (_:ps.length≤4) (_:1≤names.length) (_:names.Nodup) (_:names.length=counts.length) (_:(∀c∈counts,1≤c∧c≤4)) (_:∀(s:Sy) (i2 b2:Int),s.wf (arOf names counts) ps→(s.deep:Int)≤deep→i≤i2→0≤b2→(s.sends:Int)+b2≤b→q s.d sp (.lst [.int i2,.int b2]))
def zfg (n:Nat):Sp3:=wrV (zor n)
theorem zhz (h:Has K mg "_law_saying" zcy ["script","spot","names","counts","params","deep"]) (G:Gs K mg) (C0:Cal3 P w K mg base 2 "_law_next" ["script","spot"] zir) :
    ∀n:Nat,Cal3 P w K mg base (n+3) "_law_saying" ["script","spot","names","counts","params","deep"] (zfg n)
  | 0=>h.none3 (by rintro ds S Q E ⟨ns,sp,nm,ct,i,b,deep,names,ps,counts,_,_,_,_,_,_,_,_,h1,h2,_⟩;omega) _
  | n+1=>by
    have C_saying:=zhz h G C0 n
    have C_next:=C0.mono (show 2≤n+3 by omega)
    refine h.wrV zca (by rintro ds S q ⟨ns,sp,nm,ct,i,b,deep,names,ps,counts,e,_⟩;rw [e];rfl) fun f cdv A outer s H E ds S q hr hA=>?_
    obtain ⟨ns,sp,nm,ct,i,b,deep,names,ps,counts,rfl,hsp,hnm,hct,n1,n2,hi,hb,d1,dn,p1,p4,m1,nd,hlc,hc4,hq⟩:=hA
    refine ⟨_,(zab (zay (i:=6) zca.nd rfl (Or.inl rfl) (za0 C_next hr rfl (zaa (e_v 0) (zaa (e_v 1) zae))))
 (zab (zay (i:=7) zca.nd rfl (Or.inl rfl) (e_op zbt zam (e_v 6) zac))
 (zab (s_if (PW3.pt (w_or (zao ze1 zba (e_v 5) zac (nomark _)) (zds (zao zbl zcf (e_v 7) zac (nomark _))))) (zak (zau (zbx (zaa zai (zaa (e_ix zaq zar (e_v 4) (e_op zbt zam (e_op zcc zam (e_v 6) zac) (zaj zas zcp rfl G.len PySem.boot_len (zaa (e_v 4) zae))) (fun _ _=>rfl)) zae))))) za5)
 (zab (s_if (zao zbl zcf (e_v 7) zac (nomark _)) (zak (zau (zbx (zaa zai zae)))) za5)
 (zab (s_if (PW3.pt (w_or (zao zbl zcf (e_v 7) zac (nomark _)) (zds (zao zbl zcf (e_v 7) zac (nomark _))))) (zak (zau (zbx (zaa (e_ix zb2 zcq (zkm (zaa zai (zaa zai zae))) (e_op zfl za2 (e_v 7) zac) (fun _ _=>rfl)) (zaa (za0 C_saying hr rfl (zaa (e_v 0) (zaa (e_v 1) (zaa (e_v 2) (zaa (e_v 3) (zaa (e_v 4) (zaa (e_op zfl za2 (e_v 5) zac) zae))))))) zae))))) za5)
 (zab (zay (i:=8) zca.nd rfl (Or.inl rfl) zac)
 (zab (s_if (PW3.pt (w_or (zao zbl zcf (e_v 7) zac (nomark _)) (zds (zao zbl zcf (e_v 7) zac (nomark _))))) (zak (zay (i:=8) zca.nd rfl (Or.inl rfl) zac)) za5)
 (zab (zay (i:=9) zca.nd rfl (Or.inl rfl) (e_op zbt zam (e_op zcc zam (e_v 6) zac) (zaj zas zcp rfl G.len PySem.boot_len (zaa (e_v 2) zae))))
 (zab (s_if (zao zkc zba (e_v 7) zac (nomark _)) (zab (s_if (zao zbl zcf (e_ix zb2 zcq (e_v 1) zac (fun _ _=>rfl)) zac (nomark _)) (zak (zau (zbx (zaa zai zae)))) za5)
 (zab (s_asg (e_op zfl za2 (e_ix zb2 zcq (e_v 1) zac (fun _ _=>rfl)) zac) (g_sub (e_v 1) zac))
 (zak (zay (i:=8) zca.nd rfl (Or.inl rfl) (e_ix zb2 zcq (e_v 3) (e_v 9) (fun _ _=>rfl)))))) za5)
 (zab (zay (i:=10) zca.nd rfl (Or.inl rfl) (zc2 zbh zc3 rfl G.tuple boot_tuple (zaa (zfy (osc:=defScope zcy) (N:=["script","spot","names","counts","params","deep","cell","kind","parts","to","row"]) (M:=["script","spot","names","counts","params","deep"]) (js:=[0,1,2,3,4,5]) ⟨rfl,by decide +kernel,by decide +kernel,rfl,by decide +kernel,by decide +kernel,by decide +kernel⟩ (by decide +kernel) rfl (zco rfl G.range (zaa (e_v 8) zae)) (fun _ _ _ _ _=>(za0 C_saying hr rfl (zaa (e_v 1) (zaa (e_v 2) (zaa (e_v 3) (zaa (e_v 4) (zaa (e_v 5) (zaa (e_op zfl za2 (e_v 6) zac) zae))))))))) zae)))
 (zab (s_if (zao zbl zcf (e_v 7) zac (nomark _)) (zak (zau (e_op zfn zf0 (zbx (zaa zai zae)) (e_v 10)))) za5)
 (zab (s_if (zao ze1 zba (e_v 7) zac (nomark _)) (zak (zau (e_op zfn zf0 (zbx (zaa zai zae)) (e_v 10)))) za5)
 (zak (zau (zbx (zaa zai (zaa (e_ix zb2 zcq (e_v 2) (e_v 9) (fun _ _=>rfl)) (zaa (e_v 10) zae)))))))))))))))))),?_⟩
    nofun
    refine ⟨ns,sp,i,[.int b],rfl,hsp,hi,?_⟩
    generalize hcell:cellAt ns i=cell
    have k0:=Int.emod_nonneg cell (show (9:Int)≠0 by decide)
    have k9:=Int.emod_lt_of_pos cell (show (0:Int)<9 by decide)
    have sp1:up S sp (.lst [.int (i+1),.int b]) sp=some (.lst [.int (i+1),.int b]):=zaf
    have nm1:∀o,up S sp o nm=some (.lst (names.map D.str)):=fun o=>by rw [zb9 (Ne.symm n1)];exact hnm
    have ct1:∀o,up S sp o ct=some (.lst (cD counts)):=fun o=>by rw [zb9 (Ne.symm n2)];exact hct
    have nm2:=nm1 (.lst [.int (i+1),.int b])
    have fin:∀(s:Sy),s.wf (arOf names counts) ps→(s.deep:Int)≤deep→s.sends=0→∃a o,Sub (up S a o) (up S sp (.lst [.int (i+1),.int b]))∧q s.d a o:=fun s h1 h2 h3 =>
      ⟨sp,_,Sub.refl _,hq s (i+1) b h1 h2 (by omega) hb (by omega)⟩
    obtain ⟨jp,vp,ejp,hvp,hap⟩:=zi9 (f:=D.str) (cell/9) (show 0<ps.length by omega)
    have hpl:(0:Int)<((ps.map D.str).length:Int):=by rw [List.length_map];omega
    have hnl:(0:Int)<((names.map D.str).length:Int):=by rw [List.length_map];omega
    have vpm:vp∈ps:=List.mem_of_getElem? hvp
    by_cases hd:deep<2
    · nofun
      refine j_ixT hap ?_
      nofun
      exact fin (.name vp) vpm (by simp only [Sy.deep];omega) (by simp [Sy.sends,Sy.pre])
    by_cases h0:cell%9=0
    · nofun
      refine j_ixT hap ?_
      nofun
      exact fin (.name vp) vpm (by simp only [Sy.deep];omega) (by simp [Sy.sends,Sy.pre])
    by_cases h1:cell%9=1
    · nofun
      exact fin .bud trivial (by simp only [Sy.deep];omega) (by simp [Sy.sends,Sy.pre])
    by_cases h2:cell%9=2
    · nofun
      intro p hp
      nofun
      refine j_ixL zaf (d:=.str "left") (by rw [h2];rfl) ?_
      nofun
      refine ⟨ns,sp,nm,ct,i+1,b,deep-1,names,ps,counts,rfl,zax zaf hp,zax (nm1 _) hp,zax (ct1 _) hp,n1,n2,by omega,hb,by omega,by omega,p1,p4,m1,nd,hlc,hc4,fun s i2 b2 hw hdp hi2 hb2 hs2=>?_⟩
      nofun
      refine ⟨sp,_,((Px.refl sp S).at.new hp).at.sub zaf,hq (.left s) i2 b2 hw (by simp only [Sy.deep];omega) (by omega) hb2 ?_⟩
      rw [Sy.sends_parts]
      simp only [Sy.parts,Sy.sendss_cons]
      simp [Sy.sendss,Sy.pres]
      omega
    by_cases h3:cell%9=3
    · nofun
      intro p hp
      nofun
      refine j_ixL zaf (d:=.str "right") (by rw [h3];rfl) ?_
      nofun
      refine ⟨ns,sp,nm,ct,i+1,b,deep-1,names,ps,counts,rfl,zax zaf hp,zax (nm1 _) hp,zax (ct1 _) hp,n1,n2,by omega,hb,by omega,by omega,p1,p4,m1,nd,hlc,hc4,fun s i2 b2 hw hdp hi2 hb2 hs2=>?_⟩
      nofun
      refine ⟨sp,_,((Px.refl sp S).at.new hp).at.sub zaf,hq (.right s) i2 b2 hw (by simp only [Sy.deep];omega) (by omega) hb2 ?_⟩
      rw [Sy.sends_parts]
      simp only [Sy.parts,Sy.sendss_cons]
      simp [Sy.sendss,Sy.pres]
      omega
    obtain ⟨jt,vt,ejt,hvt,hat⟩:=zi9 (f:=D.str) (cell/9) (show 0<names.length by omega)
    have hct':jt<counts.length:=by rw [←hlc];exact (List.getElem?_eq_some_iff.mp hvt).1
    obtain ⟨cn,hcn⟩:∃cn,counts[jt]?=some cn:=⟨_,List.getElem?_eq_getElem hct'⟩
    have hcn4:=hc4 cn (List.mem_of_getElem? hcn)
    have har:arOf names counts vt=some cn:=zm8 nd hvt hcn
    have elt:∀(d:D) (x6:Option D) (i0 b0 i1 b1:Int),0≤i1→0≤b1→∀P:K3,
        (∀(s:Sy) (i2 b2:Int),(s.wf (arOf names counts) ps∧(s.deep:Int)≤deep-1)→i1≤i2→0≤b2→(s.sends:Int)+b2≤b1→P s.d (up S sp (.lst [.int i2,.int b2]))) →
        zfg n [.rol (ns.map D.int),.ref sp,.ref nm,.ref ct,.tup (ps.map D.str),.int (deep-1)] (up S sp (.lst [.int i1,.int b1])) P (fun _ _ _=>False):=fun d x6 i0 b0 i1 b1 hi1 hb1 P hP =>
      ⟨ns,sp,nm,ct,i1,b1,deep-1,names,ps,counts,rfl,zaf,nm1 _,ct1 _,n1,n2,hi1,hb1,by omega,by omega,p1,p4,m1,nd,hlc,hc4,fun s i2 b2 hw hdp hi2 hb2 hs2=>by
        show P s.d (up (up S sp (.lst [.int i1,.int b1])) sp (.lst [.int i2,.int b2]))
        rw [zo9]
        exact hP s i2 b2 ⟨hw,hdp⟩ hi2 hb2 hs2⟩
    have hk:cell%9=4∨(cell%9=5∨cell%9=6)∨(cell%9=7∨cell%9=8):=by omega
    rcases hk with h4|h56|h78
    · nofun
      refine zdz (m:=2) (fun s=>s.wf (arOf names counts) ps∧(s.deep:Int)≤deep-1) (by omega) (fun _=>trivial) (fun d i1 b1 hi1 hb1 P hP=>?_) hb fun ss i2 b2 hl hg hi2 hb2 hs2=>?_
      · nofun
        exact elt d none 0 0 i1 b1 (by omega) hb1 P hP
      · intro p hp
        match ss,hl with
        | [a,c],_ =>
          obtain ⟨wa,da⟩:=hg a (by simp)
          obtain ⟨wc,dc⟩:=hg c (by simp)
          nofun
          refine j_catT (by simp) (zag (by simp)) ?_
          refine ⟨sp,_,((Px.refl sp S).at.new hp).sub (zax zaf hp),hq (.pair a c) i2 b2 ⟨wa,wc⟩ (by simp only [Sy.deep];omega) (by omega) hb2 ?_⟩
          rw [Sy.sends_parts]
          simpa [Sy.parts] using hs2
    · have n4:¬cell%9=4:=by omega
      rcases h56 with h5|h6
      all_goals
        nofun
        refine zdz (m:=3) (fun s=>s.wf (arOf names counts) ps∧(s.deep:Int)≤deep-1) (by omega) (fun _=>trivial) (fun d i1 b1 hi1 hb1 P hP=>?_) hb fun ss i2 b2 hl hg hi2 hb2 hs2=>?_
        · nofun
          exact elt d none 0 0 i1 b1 (by omega) hb1 P hP
        · intro p hp
          match ss,hl with
          | [a,c,e],_ =>
            obtain ⟨wa,da⟩:=hg a (by simp)
            obtain ⟨wc,dc⟩:=hg c (by simp)
            obtain ⟨we,de⟩:=hg e (by simp)
            nofun
            refine j_catT (by simp) (zag (by simp)) ?_
            refine ⟨sp,_,((Px.refl sp S).at.new hp).sub (zax zaf hp),hq (.fork a c e) i2 b2 ⟨wa,wc,we⟩ (by simp only [Sy.deep];omega) (by omega) hb2 ?_⟩
            rw [Sy.sends_parts]
            simpa [Sy.parts] using hs2
    · by_cases hb0:b=0
      · rcases h78 with h7|h8
        all_goals
          nofun
          exact fin .bud trivial (by simp only [Sy.deep];omega) (by simp [Sy.sends,Sy.pre])
      · rcases h78 with h7|h8
        all_goals
          nofun
          have es:([D.int (i+1),D.int b].set (Int.toNat 1) (D.int (b-1)))=[D.int (i+1),D.int (b-1)]:=rfl
          rw [es,zo9]
          refine j_ixL (ct1 _) (d:=.int cn) (by rw [ejt];refine zc5 ?_;rw [List.getElem?_map,hcn];rfl) ?_
          nofun
          rw [Int.toNat_natCast]
          refine zdz (m:=cn) (fun s=>s.wf (arOf names counts) ps∧(s.deep:Int)≤deep-1) (by omega) (fun _=>trivial) (fun d i1 b1 hi1 hb1 P hP=>?_) (show 0≤b-1 by omega) fun ss i2 b2 hl hg hi2 hb2 hs2=>?_
          · nofun
            exact elt d none 0 0 i1 b1 (by omega) hb1 P hP
          · intro p hp
            have nm3:=zax (o:=.lst (ss.map Sy.d)) (nm1 (.lst [.int i2,.int b2])) hp
            nofun
            refine j_ixL nm3 hat ?_
            nofun
            have hdd:Sy.deeps ss≤(deep-1).toNat:=Sy.deeps_le fun a ha=>by
              have:=(hg a ha).2
              omega
            have:=hq (.send vt ss) i2 b2 ⟨by rw [hl];exact har,by omega,by omega,Sy.wfs_iff.mpr fun a ha=>(hg a ha).1⟩ (by simp only [Sy.deep];omega) (by omega) hb2 (by
              rw [Sy.sends_parts]
              simp only [Sy.parts]
              omega)
            rw [Sy.d,Sy.ds_map] at this
            exact ⟨sp,_,((Px.refl sp S).at.new hp).sub (zax zaf hp),this⟩
inductive zqh (n:Nat) (ds:List D) (S:Hp3) (q:List D→Addr→O→Prop):Prop where
  | mk (ns:List Int) (sp:Addr) (i b most deep:Int) (_:ds=[.rol (ns.map D.int),.ref sp,.int most,.int deep]) (_:S sp=some (.lst [.int i,.int b])) (_:0≤i) (_:0≤b) (_:1≤most) (_:most≤12) (_:1≤deep) (_:deep≤n) (_:∀(prog:List Er) (i2 b2:Int),Good prog most.toNat deep.toNat b.toNat→q (prog.map Er.d) sp (.lst [.int i2,.int b2]))
def zjp (n:Nat):Sp3:=wrL (zqh n)
theorem zn7 {n:Nat} (h:Has K mg "_law_drawn" zdu ["script","spot","most","deep"]) (G:Gs K mg) (C0:Cal3 P w K mg base 2 "_law_next" ["script","spot"] zir) (C1:Cal3 P w K mg base 1 "_law_names" ["cell","many"] zjo)
    (C_saying:Cal3 P w K mg base (n+3) "_law_saying" ["script","spot","names","counts","params","deep"] (zfg n)):Cal3 P w K mg base (n+4) "_law_drawn" ["script","spot","most","deep"] (zjp n):=by
  have C_next:=C0.mono (show 2≤n+3 by omega)
  have C_names:=C1.mono (show 1≤n+3 by omega)
  refine h.wrL zch (by rintro ds S q ⟨ns,sp,i,b,most,deep,e,_⟩;rw [e];rfl) fun f cdv A outer s H E ds S q hr hA=>?_
  obtain ⟨ns,sp,i,b,most,deep,rfl,hsp,hi,hb,m1,m12,d1,dn,hq⟩:=hA
  refine ⟨_,(zab (zay (i:=4) zch.nd rfl (Or.inr rfl) (za0 C_next hr rfl (zaa (e_v 0) (zaa (e_v 1) zae))))
 (zab (zay (i:=5) zch.nd rfl (Or.inl rfl) (e_op za9 za2 zac (e_op zbt zam (e_v 4) (e_v 2))))
 (zab (zay (i:=6) zch.nd rfl (Or.inl rfl) (za0 C_names hr rfl (zaa (e_op zbt zam (e_op zcc zam (e_v 4) (e_v 2)) (e_op zlq zam zac zac)) (zaa (e_v 5) zae))))
 (zab (zay (i:=7) zch.nd rfl (Or.inl rfl) (za0 C_names hr rfl (zaa (e_op zbt zam (za0 C_next hr rfl (zaa (e_v 0) (zaa (e_v 1) zae))) (e_op zlq zam zac zac)) (zaa zac zae))))
 (zab (zjq (i:=8) (osc:=defScope zdu) (N:=["script","spot","most","deep","head","many","names","params","counts","program","k","mine"]) (M:=["head"]) (js:=[4]) ⟨rfl,by decide +kernel,by decide +kernel,rfl,by decide +kernel,by decide +kernel,by decide +kernel⟩ (by decide +kernel) rfl (zco rfl G.range (zaa (e_v 5) zae)) (fun _ _ _ _ _=>(e_op za9 za2 zac (e_op zbt zam (e_op zcc zam (e_v 1) (e_op op_mul zam zac (e_op za9 za2 (e_v 0) zac))) zac))) zch.nd rfl rfl)
 (zab (zay (i:=9) zch.nd rfl (Or.inl rfl) (zkm zae))
 (zab (znh PassesOwn.never rfl (zco rfl G.range (zaa (e_v 5) zae)) (zh7 (i:=10) zch.nd rfl (Or.inl rfl)) (zab (zay (i:=11) zch.nd rfl (Or.inl rfl) (zc2 zbh zc3 rfl G.tuple boot_tuple (zaa (zaw zdt zfz (e_op zow zmx (zaw zdt zfz (e_v 7) (za1 (e_op zbt zam (e_v 10) zac)) zbi) (zaw zdt zfz (e_v 7) zbi (za1 (e_op zbt zam (e_v 10) zac)))) zbi (za1 (e_ix zb2 zcq (e_v 8) (e_v 10) (fun _ _=>rfl)))) zae)))
 (zak (zer (e_bm PySem.F.plainAttrs_list PySem.F.slot_list_append PySem.F.type_list_append zdd zf1 (e_v 9) (zaa (zbx (zaa (e_ix zb2 zcq (e_v 6) (e_v 10) (fun _ _=>rfl)) (zaa (e_v 11) (zaa (za0 C_saying hr rfl (zaa (e_v 0) (zaa (e_v 1) (zaa (e_v 6) (zaa (e_v 8) (zaa (e_v 11) (zaa (e_v 3) zae))))))) zae)))) zae))))))
 (zak (zau (e_v 9)))))))))),?_⟩
  nofun
  refine ⟨ns,sp,i,[.int b],rfl,hsp,hi,?_⟩
  generalize cellAt ns i=head
  have hm0:=Int.emod_nonneg head (show most≠0 by omega)
  have hm1:=Int.emod_lt_of_pos head (show 0<most by omega)
  have t14:(0:Int)<10^(Int.toNat 14):=by decide
  nofun
  refine ⟨_,_,rfl,Int.emod_nonneg _ (by decide),by omega,by omega,fun names Rn=>?_⟩
  intro nm hnm
  have n1:sp≠nm:=ne3 zaf hnm
  nofun
  refine ⟨ns,sp,i+1,[.int b],rfl,zax zaf hnm,by omega,?_⟩
  generalize cellAt ns (i+1)=c2
  nofun
  refine ⟨_,4,rfl,Int.emod_nonneg _ (by decide),by omega,by omega,fun pp Rp=>?_⟩
  intro pm hpm
  nofun
  generalize hmany:1+head%most=many
  have h1m:1≤many:=by omega
  have h12:many≤most:=by omega
  obtain ⟨cnt,hcnt⟩:∃cnt:Nat→Nat,∀k:Nat,1+head/(7*(0+(k:Int)+1))%4=(cnt k:Int)∧1≤cnt k∧cnt k≤4:=⟨fun k=>(1+head/(7*(0+(k:Int)+1))%4).toNat,fun k=>by
    dsimp only
    generalize head/(7*(0+(k:Int)+1))=x
    omega⟩
  refine zb8 (fun k=>.int (cnt k)) (by rw [zbk];omega) trivial ?_ ?_
  · intro j d hd P hP
    obtain ⟨hj,rfl⟩:=zc1 hd
    nofun
    rw [(hcnt j).1]
    exact hP
  rw [zbk]
  obtain ⟨counts,hcounts⟩:∃counts,counts=(List.range many.toNat).map cnt:=⟨_,rfl⟩
  have ecd:((List.range many.toNat).map fun k=>D.int (cnt k:Int))=cD counts:=by rw [hcounts,cD,List.map_map];rfl
  rw [ecd]
  have hc4:∀c∈counts,1≤c∧c≤4:=fun c hc=>by
    rw [hcounts] at hc
    obtain ⟨k,_,rfl⟩:=List.mem_map.mp hc
    exact (hcnt k).2
  have hlc:counts.length=many.toNat:=by rw [hcounts];simp
  intro ct hct
  nofun
  intro pr hpr
  have hnl:=Rn.len
  rw [hmany] at Rn hnl
  have g_sp:up (up (up (up (up (up S sp (.lst [.int (i+1),.int b])) nm (.lst (names.map D.str))) sp (.lst [.int (i+1+1),.int b])) pm (.lst (pp.map D.str))) ct (.lst (cD counts))) pr (.lst []) sp=some (.lst [.int (i+1+1),.int b]) :=
    zax (zax (zax zaf hpm) hct) hpr
  have g_nm:up (up (up (up (up (up S sp (.lst [.int (i+1),.int b])) nm (.lst (names.map D.str))) sp (.lst [.int (i+1+1),.int b])) pm (.lst (pp.map D.str))) ct (.lst (cD counts))) pr (.lst []) nm=some (.lst (names.map D.str)) :=
    zax (zax (zax (by rw [zb9 (Ne.symm n1)];exact zaf) hpm) hct) hpr
  have g_pm:up (up (up (up (up (up S sp (.lst [.int (i+1),.int b])) nm (.lst (names.map D.str))) sp (.lst [.int (i+1+1),.int b])) pm (.lst (pp.map D.str))) ct (.lst (cD counts))) pr (.lst []) pm=some (.lst (pp.map D.str)) :=
    zax (zax zaf hct) hpr
  have g_ct:up (up (up (up (up (up S sp (.lst [.int (i+1),.int b])) nm (.lst (names.map D.str))) sp (.lst [.int (i+1+1),.int b])) pm (.lst (pp.map D.str))) ct (.lst (cD counts))) pr (.lst []) ct=some (.lst (cD counts)) :=
    zax zaf hpr
  have g_pr:up (up (up (up (up (up S sp (.lst [.int (i+1),.int b])) nm (.lst (names.map D.str))) sp (.lst [.int (i+1+1),.int b])) pm (.lst (pp.map D.str))) ct (.lst (cD counts))) pr (.lst []) pr=some (.lst []):=zaf
  have g_px:Px sp S (up (up (up (up (up (up S sp (.lst [.int (i+1),.int b])) nm (.lst (names.map D.str))) sp (.lst [.int (i+1+1),.int b])) pm (.lst (pp.map D.str))) ct (.lst (cD counts))) pr (.lst [])) :=
    ((((Px.refl sp S).at.new hnm).at.new hpm).new hct).new hpr
  have q_nm:sp≠nm:=n1
  have q_pm:sp≠pm:=ne3 zaf hpm
  have q_ct:sp≠ct:=ne3 (zax zaf hpm) hct
  have q_pr:sp≠pr:=ne3 (zax (zax zaf hpm) hct) hpr
  have r_nm:nm≠pr:=ne3 (zax (zax (by rw [zb9 (Ne.symm n1)];exact zaf) hpm) hct) hpr
  have r_pm:pm≠pr:=ne3 (zax zaf hct) hpr
  have r_ct:ct≠pr:=ne3 zaf hpr
  have f_pr:S pr=none:=((((Px.refl sp S).at.new hnm).at.new hpm).new hct).free hpr (Ne.symm q_pr)
  generalize up (up (up (up (up (up S sp (.lst [.int (i+1),.int b])) nm (.lst (names.map D.str))) sp (.lst [.int (i+1+1),.int b])) pm (.lst (pp.map D.str))) ct (.lst (cD counts))) pr (.lst [])=S6 at *
  nofun
  refine ⟨fun j σ S'=>Ex5 fun (ers:List Er) (i1 b1:Int) (x10 x11:Option D)=>σ=[some (.rol (ns.map D.int)),some (.ref sp),some (.int most),some (.int deep),some (.int head),some (.int many),some (.ref nm),some (.ref pm),some (.ref ct),some (.ref pr),x10,x11] ∧
    S' sp=some (.lst [.int i1,.int b1])∧S' nm=some (.lst (names.map D.str))∧S' pm=some (.lst (pp.map D.str))∧S' ct=some (.lst (cD counts))∧S' pr=some (.lst (ers.map Er.d))∧Px sp S S' ∧
    ers.length=j∧0≤i1∧0≤b1∧ers.map Er.name=names.take j∧(ers.map fun e=>e.ps.length)=counts.take j∧(∀e∈ers,ErOk (arOf names counts) deep.toNat e)∧(((ers.map fun e=>e.body.sends).sum:Nat):Int)+b1≤b,
    ⟨[],i+1+1,b,none,none,rfl,g_sp,g_nm,g_pm,g_ct,g_pr,g_px,rfl,by omega,hb,rfl,rfl,by simp,by simp⟩,fun _ _ _ _=>trivial,?turn,?done⟩
  case turn =>
    clear g_sp g_nm g_pm g_ct g_pr g_px
    rintro j d σ S' hd ⟨ers,i1,b1,x10,x11,rfl,g_sp,g_nm,g_pm,g_ct,g_pr,g_px,hl,hi1,hb1,en,ec,hk,hs⟩
    obtain ⟨hj,rfl⟩:=zc1 hd
    have c0:=Int.emod_nonneg (0+(j:Int)) (show (4:Int)≠0 by decide)
    have ap:∀{α:Type} {f:α→D} {xs:List α} {v:α},xs[j]?=some v→atI (xs.map f) (0+(j:Int))=some (f v):=fun {α f xs v} hv=>by
      have e:(0:Int)+(j:Int)=((j:Nat):Int):=by omega
      rw [e]
      refine zc5 ?_
      rw [List.getElem?_map,hv]
      rfl
    obtain ⟨cn,hcn⟩:∃cn,counts[j]?=some cn:=⟨_,List.getElem?_eq_getElem (by omega)⟩
    obtain ⟨nj,hnj⟩:∃nj,names[j]?=some nj:=⟨_,List.getElem?_eq_getElem (by omega)⟩
    have hcn4:=hc4 cn (List.mem_of_getElem? hcn)
    nofun
    rw [zcv c0]
    intro p1 hp1
    have g1:=zax (o:=.lst ((pp.map D.str).drop ((0+(j:Int))%4).toNat)) g_pm hp1
    nofun
    rw [zi4 c0]
    intro p2 hp2
    have hpl:=Rp.len
    refine j_catL (zax zaf hp2) zaf ?_ ?_
    · rw [List.length_drop,List.length_take,List.length_map]
      exact zag (by omega)
    intro p3 hp3
    nofun
    refine j_ixL (zax (zax (zax g_ct hp1) hp2) hp3) (ap hcn) ?_
    nofun
    rw [zi4 (by omega),Int.toNat_natCast]
    intro p4 hp4
    nofun
    obtain ⟨mine,hmine⟩:∃mine,mine=(pp.drop ((0+(j:Int))%4).toNat++pp.take ((0+(j:Int))%4).toNat).take cn:=⟨_,rfl⟩
    have em:((pp.map D.str).drop ((0+(j:Int))%4).toNat++(pp.map D.str).take ((0+(j:Int))%4).toNat).take cn=mine.map D.str:=by
      rw [hmine,←List.map_drop,←List.map_take,←List.map_append,←List.map_take]
    rw [em]
    have hmo:mine.length=cn∧mine.Nodup∧∀x∈mine,NameOk x:=by
      rw [hmine]
      exact ps_ok Rp.turn (by show cn≤4;omega)
    have hsub:=((((Sub.refl S').up (o:=.lst ((pp.map D.str).drop ((0+(j:Int))%4).toNat)) hp1).up (o:=.lst ((pp.map D.str).take ((0+(j:Int))%4).toNat)) hp2).up
      (o:=.lst ((pp.map D.str).drop ((0+(j:Int))%4).toNat++(pp.map D.str).take ((0+(j:Int))%4).toNat)) hp3).up (o:=.lst (mine.map D.str)) hp4
    generalize up (up (up (up S' p1 _) p2 _) p3 _) p4 _=S5 at hsub ⊢
    replace g_sp:=hsub _ _ g_sp
    replace g_nm:=hsub _ _ g_nm
    replace g_pm:=hsub _ _ g_pm
    replace g_ct:=hsub _ _ g_ct
    replace g_pr:=hsub _ _ g_pr
    replace g_px:=g_px.ext hsub
    nofun
    refine j_ixL g_nm (ap hnj) ?_
    nofun
    refine ⟨ns,sp,nm,ct,i1,b1,deep,names,mine,counts,rfl,g_sp,g_nm,g_ct,q_nm,q_ct,hi1,hb1,d1,dn,by omega,by omega,by omega,Rn.nd,by omega,hc4,fun s i2 b2 hw hdp hi2 hb2 hs2=>?_⟩
    nofun
    have h_pr:up S5 sp (.lst [.int i2,.int b2]) pr=some (.lst (ers.map Er.d)):=by rw [zb9 (Ne.symm q_pr)];exact g_pr
    refine j_append h_pr (by rw [List.length_map];exact zd4 (by omega)) ?_
    have ee:ers.map Er.d++[D.tup [D.str nj,D.tup (mine.map D.str),s.d]]=(ers++[(⟨nj,mine,s⟩:Er)]).map Er.d:=by simp [Er.d]
    rw [ee]
    refine ⟨ers++[(⟨nj,mine,s⟩:Er)],i2,b2,_,_,rfl,?_,?_,?_,?_,zaf,(g_px.at).fresh f_pr,by simp [hl],by omega,hb2,?_,?_,?_,?_⟩
    · rw [zb9 q_pr];exact zaf
    · rw [zb9 r_nm,zb9 (Ne.symm q_nm)];exact g_nm
    · rw [zb9 r_pm,zb9 (Ne.symm q_pm)];exact g_pm
    · rw [zb9 r_ct,zb9 (Ne.symm q_ct)];exact g_ct
    · rw [List.take_succ,hnj,List.map_append,en];rfl
    · rw [List.take_succ,hcn,List.map_append,ec]
      show counts.take j++[mine.length]=_
      rw [hmo.1]
      rfl
    · intro e he
      rcases List.mem_append.mp he with he|he
      · exact hk e he
      · rw [List.mem_singleton.mp he]
        exact ⟨by show 1≤mine.length;omega,by show mine.length≤4;omega,hmo.2.1,hmo.2.2,hw,by show s.deep≤_;omega⟩
    · rw [List.map_append,List.sum_append]
      simp only [List.map_cons,List.map_nil,List.sum_cons,List.sum_nil]
      omega
  rintro σ S' ⟨ers,i1,b1,x10,x11,rfl,g_sp,g_nm,g_pm,g_ct,g_pr,g_px,hl,hi1,hb1,en,ec,hk,hs⟩
  rw [zbk] at hl en ec
  rw [List.take_of_length_le (by omega)] at en ec
  nofun
  refine ⟨pr,_,sp,_,rfl,f_pr,by rw [hsp];simp,g_px.sub g_sp,g_pr,hq ers i1 b1 (zp7 Rn en ec (by omega) (by omega) hk (by omega))⟩
structure Mkd (s:Sy) (kw mk:Str) (a:Sy) (as:List Sy) (c1 c2:Nat) (cl:List Nat):Prop where
  d:s.d=.tup (.str kw::(a::as).map Sy.d)
  n1:¬kw="name"
  n2:¬kw="bud"
  n3:¬kw="send"
  val:valD (dicD [("left","< "),("right","> "),("pair","[]"),("fork","{}")]) (.inr kw)=some (.str mk)
  mk_:mk=textOf [c1,c2]
  cl_:Txt.strip (textOf [c2])=textOf cl
  cl1:cl.length≤1
  t:tx s=c1::((tx a++txt as)++cl)
  len:as.length≤2
  deep:∀x∈a::as,x.deep<s.deep
theorem zjm:Txt.strip (textOf [32])=textOf []:=by decide +kernel
theorem zng:Txt.strip (textOf [93])=textOf [93]:=by decide +kernel
theorem zkz:Txt.strip (textOf [125])=textOf [125]:=by decide +kernel
theorem zoa (a:Sy):Mkd (.left a) "left" "< " a [] 60 32 []:=by
  refine ⟨rfl,by decide +kernel,by decide +kernel,by decide +kernel,by kernel_rfl,by decide +kernel,zjm,by decide,by simp [tx,txt],by simp,fun x hx=>?_⟩
  rw [List.mem_singleton.mp hx,Sy.deep];omega
theorem zly (a:Sy):Mkd (.right a) "right" "> " a [] 62 32 []:=by
  refine ⟨rfl,by decide +kernel,by decide +kernel,by decide +kernel,by kernel_rfl,by decide +kernel,zjm,by decide,by simp [tx,txt],by simp,fun x hx=>?_⟩
  rw [List.mem_singleton.mp hx,Sy.deep];omega
theorem zn9 (a b:Sy):Mkd (.pair a b) "pair" "[]" a [b] 91 93 [93]:=by
  refine ⟨rfl,by decide +kernel,by decide +kernel,by decide +kernel,by kernel_rfl,by decide +kernel,zng,by decide,by simp [tx,txt],by simp,fun x hx=>?_⟩
  simp only [List.mem_cons,List.not_mem_nil,or_false] at hx
  rcases hx with rfl|rfl<;>rw [Sy.deep]<;>omega
theorem zob (a b c:Sy):Mkd (.fork a b c) "fork" "{}" a [b,c] 123 125 [125]:=by
  refine ⟨rfl,by decide +kernel,by decide +kernel,by decide +kernel,by kernel_rfl,by decide +kernel,zkz,by decide,by simp [tx,txt],by simp,fun x hx=>?_⟩
  simp only [List.mem_cons,List.not_mem_nil,or_false] at hx
  rcases hx with rfl|rfl|rfl<;>rw [Sy.deep]<;>omega
theorem zhc:∀(as:List Sy) (a:Sy),glue 32 (tx a) (as.map tx)=tx a++txt as
  | [],a=>by simp [glue,txt]
  | b::as,a=>by rw [List.map_cons,glue,zhc as b,txt]
theorem zeb:∀{as:List Sy} {a:Sy},a∈as→a.deep≤Sy.deeps as
  | b::as,a,h=>by
    rw [Sy.deeps]
    rcases List.mem_cons.mp h with rfl|h
    · omega
    · have:=zeb h;omega
theorem zku:∀{as:List Sy} {a:Sy},a∈as→(tx a).length≤(txt as).length
  | b::as,a,h=>by
    rw [txt,List.length_cons,List.length_append]
    rcases List.mem_cons.mp h with rfl|h
    · omega
    · have:=zku h;omega
theorem zna {a:Sy} {as:List Sy} {x:Sy} (h:x∈a::as):(tx x).length≤(tx a++txt as).length:=by
  rw [List.length_append]
  rcases List.mem_cons.mp h with rfl|h
  · omega
  · have:=zku h;omega
inductive P_text (n:Nat) (ds:List D) (q:D→Prop):Prop where
  | mk (s:Sy) (_:ds=[s.d]) (_:okS s) (_:s.deep≤n) (_:(tx s).length≤100000) (_:q (.str (textOf (tx s))))
def zk0 (n:Nat):Sp3:=vS (P_text n)
theorem zls (h:Has K mg "_law_text" zeq ["saying"]) (G:Gs K mg):∀n:Nat,Cal3 P w K mg base n "_law_text" ["saying"] (zk0 n)
  | 0=>h.none3 (by rintro ds S Q E ⟨s,_,_,z,_⟩;cases s<;>simp [Sy.deep] at z) 0
  | n+1=>by
    have C_text:=zls h G n
    refine h.val zis (by rintro ds q ⟨t,e,_⟩;rw [e];rfl) fun f cdv A outer s0 H E ds q hr hA=>?_
    have hu:=hu_of hr
    obtain ⟨s,rfl,ok,hd,hl,hq⟩:=hA
    refine ⟨_,(zab (s_if (zao zbl zb0 (e_ix zaq zar (e_v 0) zac (fun _ _=>rfl)) zai (nomark _)) (zak (zau (e_ix zaq zar (e_v 0) zac (fun _ _=>rfl)))) za5)
 (zab (s_if (zao zbl zb0 (e_ix zaq zar (e_v 0) zac (fun _ _=>rfl)) zai (nomark _)) (zak (zau zai)) za5)
 (zab (s_if (zao zbl zb0 (e_ix zaq zar (e_v 0) zac (fun _ _=>rfl)) zai (nomark _)) (zak (zau (e_op zal za7 (e_op zal za7 (e_op zal za7 (e_ix zaq zar (e_v 0) zac (fun _ _=>rfl)) zai) (e_bm PySem.F.plainAttrs_str PySem.F.slot_str_join PySem.F.type_str_join zfq zms zai (zaa (zfy (osc:=defScope zeq) (N:=["saying","inner","marks"]) (M:=[]) (js:=[]) ⟨rfl,by decide +kernel,by decide +kernel,rfl,by decide +kernel,by decide +kernel,by decide +kernel⟩ (by decide +kernel) rfl (zmd (e_ix zaq zar (e_v 0) zac (fun _ _=>rfl))) (fun _ _ _ _ _=>(za0 C_text hr rfl (zaa (e_v 0) zae)))) zae))) zai))) za5)
 (zab (zay (i:=1) zis.nd rfl (Or.inl rfl) (e_bm PySem.F.plainAttrs_str PySem.F.slot_str_join PySem.F.type_str_join zfq zms zai (zaa (zfy (osc:=defScope zeq) (N:=["saying","inner","marks"]) (M:=[]) (js:=[]) ⟨rfl,by decide +kernel,by decide +kernel,rfl,by decide +kernel,by decide +kernel,by decide +kernel⟩ (by decide +kernel) rfl (zmd (zaw zk6 zo2 (e_v 0) (za1 zac) zbi)) (fun _ _ _ _ _=>(za0 C_text hr rfl (zaa (e_v 0) zae)))) zae)))
 (zab (zay (i:=2) zis.nd rfl (Or.inl rfl) (zmo hu (zi0 (zc4 (zc4 (zc4 (zc4 zm0)))) (by decide +kernel) (by decide) rfl rfl (fun z=>nomatch z) (by decide)) (e_ix zaq zar (e_v 0) zac (fun _ _=>rfl)) (fun _ _=>rfl)))
 (zak (zau (e_op zal za7 (e_op zal za7 (e_ix zdp zdr (e_v 2) zac (fun _ _=>rfl)) (e_v 1)) (e_bm0 PySem.F.plainAttrs_str PySem.F.slot_str_strip PySem.F.type_str_strip zh3 zok (e_ix zdp zdr (e_v 2) zac (fun _ _=>rfl))))))))))),?_⟩
    have h32:(textOf [32]).length=1:=by rw [zah];rfl
    have row:∀(a:Sy) (as:List Sy),Txt.join (textOf [32]) (((a::as).map tx).map textOf)=textOf (tx a++txt as):=fun a as=>by
      rw [List.map_cons,←zhc]
      exact zh6 _ _
    have big:∀(a:Sy) (as:List Sy),(((a::as).map tx).flatten).length≤(tx a++txt as).length:=fun a as=>by
      rw [←zhc,List.map_cons]
      exact zhd _ _
    have texts:∀as:List Sy,((List.range (as.map Sy.d).length).map fun i=>D.str (textOf (tx (as.getD i .bud))))=((as.map tx).map textOf).map D.str:=fun as=>by
      rw [List.length_map,zjt as .bud fun x=>D.str (textOf (tx x)),List.map_map,List.map_map]
      rfl
    have cs:(∃x,s=.name x)∨s=.bud∨(∃x as,s=.send x as)∨∃(kw mk:Str) (a:Sy) (as:List Sy) (c1 c2:Nat) (cl:List Nat),Mkd s kw mk a as c1 c2 cl∧∀x∈a::as,okS x:=by
      cases s with
      | name x=>exact .inl ⟨x,rfl⟩
      | bud=>exact .inr (.inl rfl)
      | send x as=>exact .inr (.inr (.inl ⟨x,as,rfl⟩))
      | left a=>exact .inr (.inr (.inr ⟨_,_,_,_,_,_,_,zoa a,fun x hx=>by rw [List.mem_singleton.mp hx];exact ok⟩))
      | right a=>exact .inr (.inr (.inr ⟨_,_,_,_,_,_,_,zly a,fun x hx=>by rw [List.mem_singleton.mp hx];exact ok⟩))
      | pair a b =>
        refine .inr (.inr (.inr ⟨_,_,_,_,_,_,_,zn9 a b,fun x hx=>?_⟩))
        simp only [List.mem_cons,List.not_mem_nil,or_false] at hx
        rcases hx with rfl|rfl
        · exact ok.1
        · exact ok.2
      | fork a b c =>
        refine .inr (.inr (.inr ⟨_,_,_,_,_,_,_,zob a b c,fun x hx=>?_⟩))
        simp only [List.mem_cons,List.not_mem_nil,or_false] at hx
        rcases hx with rfl|rfl|rfl
        · exact ok.1
        · exact ok.2.1
        · exact ok.2.2
    rcases cs with ⟨x,rfl⟩|rfl|⟨x,as,rfl⟩|⟨kw,mk,a,as,c1,c2,cl,hm,hk⟩
    · simp only [Sy.d]
      rw [tx,←(zdv ok).1] at hq
      nofun
      exact hq
    · simp only [Sy.d]
      rw [tx,t_45] at hq
      nofun
      exact hq
    · obtain ⟨okx,l1,l4,oks⟩:=ok
      obtain ⟨ex,hw⟩:=zdv okx
      have hxl:x.length≤8:=by rw [ex,zah];exact hw.l8
      cases as with
      | nil=>simp at l1
      | cons a as =>
      rw [tx] at hl hq
      simp only [List.length_append,List.length_cons,List.length_nil] at hl
      have hb:=big a as
      have hda:∀y∈a::as,y.deep≤n:=fun y hy=>by have:=zeb hy;rw [Sy.deep] at hd;omega
      obtain ⟨cx,ecx⟩:∃cx,cx=x.cps.toList:=⟨_,rfl⟩
      rw [←ecx] at ex hw hl hq
      subst ex
      have hcx:=hw.l8
      simp only [Sy.d,Sy.ds_map]
      nofun
      rw [←t_40]
      refine j_addS (Nat.le_trans (show _+_≤100 by rw [zah,zah];simp only [List.length_cons,List.length_nil];omega) (by decide)) ?_
      rw [zcw]
      nofun
      refine zb8 (fun i=>.str (textOf (tx ((a::as).getD i .bud)))) (by rw [List.length_map];omega) trivial ?_ ?_
      · intro i d hd2 P hP
        rw [List.getElem?_map] at hd2
        obtain ⟨y,hy,rfl⟩:=Option.map_eq_some_iff.mp hd2
        have hym:=List.mem_of_getElem? hy
        have ey:(a::as).getD i .bud=y:=by rw [List.getD_eq_getElem?_getD,hy];rfl
        rw [ey] at hP
        have hyl:=zna hym
        rw [List.length_append] at hyl
        nofun
        exact ⟨y,rfl,ze8 oks y hym,hda y hym,by omega,hP⟩
      rw [texts]
      intro pl hpl
      rw [List.length_append] at hb
      refine ⟨textOf [32],_,_,congrArg D.str t_32.symm,rfl,.inl ⟨pl,rfl,zaf⟩,?_,?_⟩
      · rw [zfd,h32]
        simp only [List.length_map,List.length_cons] at l4 ⊢
        omega
      rw [row]
      refine j_addS (Nat.le_trans (show _+_≤200000 by rw [zah,zah];simp only [List.length_append,List.length_cons,List.length_nil];omega) (by decide)) ?_
      rw [zcw,←t_41]
      refine j_addS (Nat.le_trans (show _+_≤200000 by rw [zah,zah];simp only [List.length_append,List.length_cons,List.length_nil];omega) (by decide)) ?_
      rw [zcw]
      have el:cx++[40]++(tx a++txt as)++[41]=cx++40::(tx a++txt as++[41]):=by simp only [List.append_assoc,List.cons_append,List.nil_append]
      rw [el]
      exact hq
    · have hdd:=hm.d
      have n1:=hm.n1
      have n2:=hm.n2
      have n3:=hm.n3
      have hb:=big a as
      have hcl:=hm.cl1
      have hlen:=hm.len
      rw [hm.t] at hl hq
      simp only [List.length_append,List.length_cons,List.length_nil] at hl
      rw [hdd]
      nofun
      rw [zcv (by decide),show (D.str kw::(a::as).map Sy.d).drop (Int.toNat 1)=(a::as).map Sy.d from rfl]
      refine zb8 (fun i=>.str (textOf (tx ((a::as).getD i .bud)))) (by rw [List.length_map,List.length_cons];omega) trivial ?_ ?_
      · intro i d hd2 P hP
        rw [List.getElem?_map] at hd2
        obtain ⟨y,hy,rfl⟩:=Option.map_eq_some_iff.mp hd2
        have hym:=List.mem_of_getElem? hy
        have ey:(a::as).getD i .bud=y:=by rw [List.getD_eq_getElem?_getD,hy];rfl
        rw [ey] at hP
        have hyl:=zna hym
        have hyd:=hm.deep y hym
        rw [List.length_append] at hyl
        nofun
        exact ⟨y,rfl,hk y hym,by omega,by omega,hP⟩
      rw [texts]
      intro pl hpl
      rw [List.length_append] at hb
      refine ⟨textOf [32],_,_,congrArg D.str t_32.symm,rfl,.inl ⟨pl,rfl,zaf⟩,?_,?_⟩
      · rw [zfd,h32]
        simp only [List.length_map,List.length_cons]
        omega
      rw [row]
      have hmk:=hm.mk_
      subst hmk
      have hst:=hm.cl_
      nofun
      intro pd hpd
      nofun
      refine j_dgetS zaf hm.val ?_
      nofun
      have e0:atI (textOf [c1,c2]).cps.toList 0=some c1:=by rw [zad];exact atI_0
      have e1:atI (textOf [c1,c2]).cps.toList 1=some c2:=by rw [zad];exact atI_1
      have ez:(textOf [c1,c2]).length≤sizeLine:=by rw [zah];exact zag (by simp)
      refine j_ixS ez e0 ?_
      rw [show (⟨#[c1]⟩:Str)=textOf [c1] from rfl]
      nofun
      refine j_addS (Nat.le_trans (show _+_≤200000 by rw [zah,zah];simp only [List.length_append,List.length_cons,List.length_nil];omega) (by decide)) ?_
      rw [zcw]
      nofun
      refine j_ixS ez e1 ?_
      rw [show (⟨#[c2]⟩:Str)=textOf [c2] from rfl]
      nofun
      refine j_strip (by rw [zah];exact zag (by simp)) ?_
      rw [hst]
      refine j_addS (Nat.le_trans (show _+_≤200000 by rw [zah,zah];simp only [List.length_append,List.length_cons,List.length_nil];omega) (by decide)) ?_
      rw [zcw]
      have el:[c1]++(tx a++txt as)++cl=c1::(tx a++txt as++cl):=by simp only [List.append_assoc,List.cons_append,List.nil_append]
      rw [el]
      exact hq
inductive zjg (n:Nat) (ds:List D) (q:D→Prop):Prop where
  | mk (s:Sy) (_:ds=[s.d]) (_:s.deep≤n) (_:okS s) (_:q (.bl true))
def zeo (n:Nat):Sp3:=vS (zjg n)
theorem zjc (n:Nat):((List.range n).map fun _=>D.bl true)=((List.range n).map fun _=>true).map D.bl:=by rw [List.map_map];rfl
theorem zhj (n:Nat):(((List.range n).map fun _=>true).all id)=true:=by
  rw [List.all_eq_true]
  intro x hx
  obtain ⟨_,_,rfl⟩:=List.mem_map.mp hx
  rfl
theorem zk9 {s:Sy} (ok:okS s):(∃x,s=.name x)∨(∃x as,s=.send x as)∨∃(kw:Str) (as:List Sy),s.d=.tup (.str kw::as.map Sy.d)∧¬kw="name"∧¬kw="send"∧as.length≤3∧∀a∈as,okS a∧a.deep<s.deep:=by
  have two:∀(kw:Str) (as:List Sy),kw="bud"∨kw="left"∨kw="right"∨kw="pair"∨kw="fork"→¬kw="name"∧¬kw="send":=fun kw as h=>by
    rcases h with rfl|rfl|rfl|rfl|rfl<;>exact ⟨by decide +kernel,by decide +kernel⟩
  cases s with
  | name x=>exact .inl ⟨x,rfl⟩
  | send x as=>exact .inr (.inl ⟨x,as,rfl⟩)
  | bud =>
    obtain ⟨h1,h2⟩:=two "bud" [] (by simp)
    exact .inr (.inr ⟨_,[],rfl,h1,h2,by simp,fun a ha=>nomatch ha⟩)
  | left a =>
    obtain ⟨h1,h2⟩:=two "left" [] (by simp)
    refine .inr (.inr ⟨_,[a],rfl,h1,h2,by simp,fun x hx=>?_⟩)
    rw [List.mem_singleton.mp hx,Sy.deep]
    exact ⟨ok,by omega⟩
  | right a =>
    obtain ⟨h1,h2⟩:=two "right" [] (by simp)
    refine .inr (.inr ⟨_,[a],rfl,h1,h2,by simp,fun x hx=>?_⟩)
    rw [List.mem_singleton.mp hx,Sy.deep]
    exact ⟨ok,by omega⟩
  | pair a b =>
    obtain ⟨h1,h2⟩:=two "pair" [] (by simp)
    refine .inr (.inr ⟨_,[a,b],rfl,h1,h2,by simp,fun x hx=>?_⟩)
    simp only [List.mem_cons,List.not_mem_nil,or_false] at hx
    rcases hx with rfl|rfl<;>rw [Sy.deep]
    · exact ⟨ok.1,by omega⟩
    · exact ⟨ok.2,by omega⟩
  | fork a b c =>
    obtain ⟨h1,h2⟩:=two "fork" [] (by simp)
    refine .inr (.inr ⟨_,[a,b,c],rfl,h1,h2,by simp,fun x hx=>?_⟩)
    simp only [List.mem_cons,List.not_mem_nil,or_false] at hx
    rcases hx with rfl|rfl|rfl<;>rw [Sy.deep]
    · exact ⟨ok.1,by omega⟩
    · exact ⟨ok.2.1,by omega⟩
    · exact ⟨ok.2.2,by omega⟩
theorem zew (h:Has K mg "_law_is_saying" zbn ["found"]) (G:Gs K mg):∀n:Nat,Cal3 P w K mg base n "_law_is_saying" ["found"] (zeo n)
  | 0=>h.none3 (by rintro ds S Q E ⟨s,_,z,_⟩;cases s<;>simp [Sy.deep] at z) 0
  | n+1=>by
    have C_is_saying:=zew h G n
    refine h.val zhp (by rintro ds q ⟨t,e,_⟩;rw [e];rfl) fun f cdv A outer s0 H E ds q hr hA=>?_
    obtain ⟨s,rfl,hd,ok,hq⟩:=hA
    refine ⟨_,(zab (s_if (PW3.pt (w_or (zez (zf5 (zaj zci zea rfl G.isinstance boot_isinstance (zaa (e_v 0) (zaa (zdq (n:="tuple") rfl G.tuple boot_tuple) zae))))) (w_or (zao zbl zcf (zaj zas zcp rfl G.len PySem.boot_len (zaa (e_v 0) zae)) zac (nomark _)) (zds (zez (zf5 (zaj zci zea rfl G.isinstance boot_isinstance (zaa (e_ix zaq zar (e_v 0) zac (fun _ _=>rfl)) (zaa (zdq (n:="str") rfl G.str boot_str) zae))))))))) (zak (zau e_bl)) za5)
 (zab (s_if (zao zbl zb0 (e_ix zaq zar (e_v 0) zac (fun _ _=>rfl)) zai (nomark _)) (zak (zau (zkn (zmp zbl zcf (zaj zas zcp rfl G.len PySem.boot_len (zaa (e_v 0) zae)) zac (nomark _)) (zmm (zaj zci zea rfl G.isinstance boot_isinstance (zaa (e_ix zaq zar (e_v 0) zac (fun _ _=>rfl)) (zaa (zdq (n:="str") rfl G.str boot_str) zae))))))) za5)
 (zab (s_if (zao zbl zb0 (e_ix zaq zar (e_v 0) zac (fun _ _=>rfl)) zai (nomark _)) (zab (s_if (PW3.pt (w_or (zao zeg zib (zaj zas zcp rfl G.len PySem.boot_len (zaa (e_v 0) zae)) zac (nomark _)) (w_or (zez (zf5 (zaj zci zea rfl G.isinstance boot_isinstance (zaa (e_ix zaq zar (e_v 0) zac (fun _ _=>rfl)) (zaa (zdq (n:="str") rfl G.str boot_str) zae))))) (zds (zez (zf5 (zaj zci zea rfl G.isinstance boot_isinstance (zaa (e_ix zaq zar (e_v 0) zac (fun _ _=>rfl)) (zaa (zdq (n:="tuple") rfl G.tuple boot_tuple) zae))))))))) (zak (zau e_bl)) za5)
 (zak (zau (zaj (zec rfl) (zj1 (f:=fun bs=>bs.all id)) rfl G.all boot_all (zaa (zfy (osc:=defScope zbn) (N:=["found"]) (M:=[]) (js:=[]) ⟨rfl,by decide +kernel,by decide +kernel,rfl,by decide +kernel,by decide +kernel,by decide +kernel⟩ (by decide +kernel) rfl (zmd (e_ix zaq zar (e_v 0) zac (fun _ _=>rfl))) (fun _ _ _ _ _=>(za0 C_is_saying hr rfl (zaa (e_v 0) zae)))) zae))))) za5)
 (zak (zau (zaj (zec rfl) (zj1 (f:=fun bs=>bs.all id)) rfl G.all boot_all (zaa (zfy (osc:=defScope zbn) (N:=["found"]) (M:=[]) (js:=[]) ⟨rfl,by decide +kernel,by decide +kernel,rfl,by decide +kernel,by decide +kernel,by decide +kernel⟩ (by decide +kernel) rfl (zmd (zaw zk6 zo2 (e_v 0) (za1 zac) zbi)) (fun _ _ _ _ _=>(za0 C_is_saying hr rfl (zaa (e_v 0) zae)))) zae))))))),?_⟩
    rcases zk9 ok with ⟨x,rfl⟩|⟨x,as,rfl⟩|⟨kw,as,e,n1,n2,hl,hk⟩
    · simp only [Sy.d]
      nofun
      exact hq
    · obtain ⟨okx,l1,l4,oks⟩:=ok
      simp only [Sy.d,Sy.ds_map]
      nofun
      refine zb8 (fun _=>.bl true) (by rw [List.length_map];omega) trivial ?_ ?_
      · intro i d hd2 P hP
        rw [List.getElem?_map] at hd2
        obtain ⟨a,ha,rfl⟩:=Option.map_eq_some_iff.mp hd2
        have ha:=List.mem_of_getElem? ha
        nofun
        refine ⟨a,rfl,?_,ze8 oks a ha,hP⟩
        have:=zeb ha
        rw [Sy.deep] at hd
        omega
      intro pl hpl
      nofun
      rw [zjc]
      refine j_all zaf ?_
      rw [zhj]
      nofun
      exact hq
    · rw [e]
      nofun
      rw [zcv (by decide),show (D.str kw::as.map Sy.d).drop (Int.toNat 1)=as.map Sy.d from rfl]
      nofun
      refine zb8 (fun _=>.bl true) (by rw [List.length_map];omega) trivial ?_ ?_
      · intro i d hd2 P hP
        rw [List.getElem?_map] at hd2
        obtain ⟨a,ha,rfl⟩:=Option.map_eq_some_iff.mp hd2
        have ha:=hk a (List.mem_of_getElem? ha)
        nofun
        exact ⟨a,rfl,by omega,ha.1,hP⟩
      intro pl hpl
      nofun
      rw [zjc]
      refine j_all zaf ?_
      rw [zhj]
      nofun
      exact hq
inductive zji  (ds:List D) (q:D→Prop):Prop where
  | mk (e:Er) (_:ds=[e.d]) (_:okS e.body) (_:e.body.deep≤12) (_:e.ps.length≤100) (_:q (.bl true))
def zep :Sp3:=vS zji
theorem zh2 {k:Nat} (hk:12≤k) (h:Has K mg "_law_is_errand" zbw ["found"]) (G:Gs K mg) (C0:Cal3 P w K mg base 12 "_law_is_saying" ["found"] (zeo 12)):Cal3 P w K mg base (k+1) "_law_is_errand" ["found"] zep:=by
  have C_is_saying:=C0.mono hk
  refine h.val zhr (by rintro ds q ⟨t,e,_⟩;rw [e];rfl) fun f cdv A outer s0 H E ds q hr hA=>?_
  obtain ⟨e,rfl,hok,hdeep,l4,hq⟩:=hA
  refine ⟨_,(zab (s_if (PW3.pt (w_or (zez (zf5 (zaj zci zea rfl G.isinstance boot_isinstance (zaa (e_v 0) (zaa (zdq (n:="tuple") rfl G.tuple boot_tuple) zae))))) (w_or (zao zeg zib (zaj zas zcp rfl G.len PySem.boot_len (zaa (e_v 0) zae)) zac (nomark _)) (zds (zez (zf5 (zaj zci zea rfl G.isinstance boot_isinstance (zaa (e_ix zaq zar (e_v 0) zac (fun _ _=>rfl)) (zaa (zdq (n:="tuple") rfl G.tuple boot_tuple) zae))))))))) (zak (zau e_bl)) za5)
 (zab (s_if (PW3.pt (w_or (zez (zf5 (zaj zci zea rfl G.isinstance boot_isinstance (zaa (e_ix zaq zar (e_v 0) zac (fun _ _=>rfl)) (zaa (zdq (n:="str") rfl G.str boot_str) zae))))) (zds (zez (zf5 (zaj (zec rfl) (zj1 (f:=fun bs=>bs.all id)) rfl G.all boot_all (zaa (zfy (osc:=defScope zbw) (N:=["found"]) (M:=[]) (js:=[]) ⟨rfl,by decide +kernel,by decide +kernel,rfl,by decide +kernel,by decide +kernel,by decide +kernel⟩ (by decide +kernel) rfl (zmd (e_ix zaq zar (e_v 0) zac (fun _ _=>rfl))) (fun _ _ _ _ _=>(zaj zci zea rfl G.isinstance boot_isinstance (zaa (e_v 0) (zaa (zdq (n:="str") rfl G.str boot_str) zae))))) zae))))))) (zak (zau e_bl)) za5)
 (zak (zau (za0 C_is_saying hr rfl (zaa (e_ix zaq zar (e_v 0) zac (fun _ _=>rfl)) zae)))))),?_⟩
  unfold Er.d
  nofun
  refine zb8 (fun _=>.bl true) (by rw [List.length_map];omega) trivial ?_ ?_
  · intro i d hd2 P hP
    rw [List.getElem?_map] at hd2
    obtain ⟨a,ha,rfl⟩:=Option.map_eq_some_iff.mp hd2
    nofun
    exact hP
  intro pl hpl
  nofun
  rw [zjc]
  refine j_all zaf ?_
  rw [zhj]
  nofun
  exact ⟨e.body,rfl,hdeep,hok,hq⟩
theorem s_alph:("abcdefghijklmnopqrstuvwxyz":Str)=textOf (List.range' 97 26):=by decide +kernel
theorem zlr (js:List Nat) (c:Nat):(!(Builtin.Str.occurrences (textOf js) (textOf [c]) 0 (textOf js).length 1).isEmpty)=decide (c∈js):=by
  by_cases h:c∈js
  · have hlt:=List.idxOf_lt_length_of_mem h
    have hat:js[js.idxOf c]?=some c:=by rw [List.getElem?_eq_getElem hlt,List.getElem_idxOf hlt]
    have h1:=(PySem.StrLaws.subAt_one (textOf js) c (js.idxOf c)).mpr (by rw [zad];exact hat)
    have h3:∀i,i<js.idxOf c→Builtin.Str.subAt (textOf js) ⟨#[c]⟩ i=false:=fun i hi=>by
      cases q:Builtin.Str.subAt (textOf js) ⟨#[c]⟩ i with
      | false=>rfl
      | true =>
        have h2:=(PySem.StrLaws.subAt_one (textOf js) c i).mp ⟨by rw [zah];show i+1≤_;omega,q⟩
        rw [zad] at h2
        have h4:=List.not_of_lt_findIdx (p:=(·==c)) hi
        rw [List.getElem?_eq_getElem (by omega)] at h2
        simp only [Option.some.injEq] at h2
        simp [h2] at h4
    rw [show (textOf [c])=(⟨#[c]⟩:Str) from rfl,occ_first h1.1 h1.2 h3,decide_eq_true h]
    rfl
  · have hz:Builtin.Str.occurrences (textOf js) (textOf [c]) 0 (textOf js).length 1=[]:=by
      rw [PySem.StrLaws.occ_eq,←List.append_nil (List.range' _ _),zg6 _ _ _ _ _ _ _ (fun i _ z=>?_)]
      · rfl
      · have h2:=(PySem.StrLaws.subAt_one (textOf js) c i).mp z
        rw [zad] at h2
        exact h (List.mem_of_getElem? h2)
    rw [hz,decide_eq_false h]
    rfl
theorem zmc (c:Nat):(!(Builtin.Str.occurrences ("abcdefghijklmnopqrstuvwxyz":Str) (textOf [c]) 0 ("abcdefghijklmnopqrstuvwxyz":Str).length 1).isEmpty)=ltr c:=by
  rw [s_alph,zlr]
  unfold ltr
  rw [decide_eq_decide,List.mem_range'_1]
  omega
inductive P_word  (ds:List D) (q:D→Prop):Prop where
  | mk (cs:List Nat) (p:Nat) (_:ds=[.str (textOf cs),.int p]) (_:p≤cs.length) (_:cs.length≤5000) (_:q (.str (textOf ((cs.drop p).takeWhile ltr))))
def zgu :Sp3:=vS P_word
theorem zp0 {k:Nat} (h:Has K mg "_law_word" zgf ["text","at"]) (G:Gs K mg):Cal3 P w K mg base (k+1) "_law_word" ["text","at"] zgu:=by
  refine h.val zgx (by rintro ds q ⟨_,_,e,_⟩;rw [e];rfl) fun f cdv A outer s0 H E ds q hr hA=>?_
  obtain ⟨cs,p,rfl,hp,hl,hq⟩:=hA
  have hno:=zfb (cs.drop p)
  have hwl:=ze6 (r:=cs.drop p)
  have hwp:=List.takeWhile_append_dropWhile (p:=ltr) (l:=cs.drop p)
  have hcs:cs=cs.take p++cs.drop p:=(List.take_append_drop p cs).symm
  have hpl:(cs.take p).length=p:=by rw [List.length_take];omega
  generalize (cs.drop p).takeWhile ltr=w at hq hwl hwp
  generalize (cs.drop p).dropWhile ltr=post at hno hwp
  rw [←hwp] at hcs
  generalize cs.take p=pre at hcs hpl
  subst hpl
  subst hcs
  have hll:(textOf (pre++(w++post))).length≤sizeLine:=by rw [zah];exact zag (by omega)
  have hlI:((textOf (pre++(w++post))).length:Int)=((pre.length+w.length+post.length:Nat):Int):=by rw [zah];simp only [List.length_append];omega
  simp only [List.length_append] at hl
  refine ⟨_,(zab (zay (i:=2) zgx.nd rfl (Or.inl rfl) zai)
 (zab (zgy PassesOwn.never (PW3.pt (w_and (zao ze1 zba (e_v 1) (zaj zap zby rfl G.len PySem.boot_len (zaa (e_v 0) zae)) (nomark _)) (zem (zao zfm zmv (e_ix zdp zdr (e_v 0) (e_v 1) (fun _ _=>rfl)) zai (by with_unfolding_all rfl))))) (zab (zay (i:=2) zgx.nd rfl (Or.inl rfl) (e_op zal za7 (e_v 2) (e_ix zdp zdr (e_v 0) (e_v 1) (fun _ _=>rfl))))
 (zak (zay (i:=1) zgx.nd rfl (Or.inl rfl) (e_op za9 za2 (e_v 1) zac)))))
 (zak (zau (e_v 2))))),?_⟩
  nofun
  refine j_while (fun m σ S'=>∃(i:Nat),i+m=w.length∧σ=[some (.str (textOf (pre++(w++post)))),some (.int ((pre.length+i:Nat):Int)),some (.str (textOf (w.take i)))]) w.length ⟨0,by omega,by rw [List.take_zero,t_0];rfl⟩ ?_
  rintro m σ S1 ⟨i,him,rfl⟩
  by_cases ci:i<w.length
  · have c1:((pre.length+i:Nat):Int)<((textOf (pre++(w++post))).length:Int):=by rw [hlI];omega
    have e:(pre++(w++post))[pre.length+i]?=some w[i]:=by
      rw [List.getElem?_append_right (by omega),show pre.length+i-pre.length=i by omega,List.getElem?_append_left ci,List.getElem?_eq_getElem ci]
    have e2:atI (textOf (pre++(w++post))).cps.toList ((pre.length+i:Nat):Int)=some w[i]:=by rw [zad];exact zc5 e
    nofun
    refine j_ixS hll e2 ?_
    nofun
    refine j_inS ?_
    rw [show (⟨#[w[i]]⟩:Str)=textOf [w[i]] from rfl,zmc,hwl _ (List.getElem_mem ci)]
    nofun
    refine j_ixS hll e2 ?_
    refine j_addS (Nat.le_trans (show _+_≤6000 by rw [zah,List.length_take];show _+1≤6000;omega) (by decide)) ?_
    nofun
    refine ⟨m-1,by omega,i+1,by omega,?_⟩
    rw [show (⟨#[w[i]]⟩:Str)=textOf [w[i]] from rfl,zcw,List.take_succ,List.getElem?_eq_getElem ci]
    congr 3
  · have ei:i=w.length:=by omega
    subst ei
    rw [List.take_length]
    cases post with
    | nil =>
      have c1:¬((pre.length+w.length:Nat):Int)<((textOf (pre++(w++[]))).length:Int):=by rw [hlI];simp
      nofun
      exact hq
    | cons c r =>
      have c1:((pre.length+w.length:Nat):Int)<((textOf (pre++(w++c::r))).length:Int):=by rw [hlI];simp only [List.length_cons];omega
      have e2:atI (textOf (pre++(w++c::r))).cps.toList ((pre.length+w.length:Nat):Int)=some c:=by
        rw [zad]
        refine zc5 ?_
        rw [List.getElem?_append_right (by omega),List.getElem?_append_right (by omega),show pre.length+w.length-pre.length-w.length=0 by omega]
        rfl
      nofun
      refine j_ixS hll e2 ?_
      nofun
      refine j_inS ?_
      rw [show (⟨#[c]⟩:Str)=textOf [c] from rfl,zmc,hno c r rfl]
      nofun
      exact hq
noncomputable def pRowX (p:List Nat→Option (Sy×List Nat)) (cl:Nat) (r:List Nat):Option (List Sy×List Nat):=(pMany p (r.length+1) r).bind fun x=>if x.2.head?=some cl then some (x.1,x.2.tail) else none
theorem zef (p:List Nat→Option (Sy×List Nat)) (cl lo hi:Nat) (r:List Nat):pRow p cl lo hi r=(pRowX p cl r).bind fun x=>if lo≤x.1.length∧x.1.length≤hi then some x else none:=by
  unfold pRow pRowX
  cases pMany p (r.length+1) r with
  | none=>rfl
  | some x =>
    simp only [Option.bind_some]
    by_cases c:x.2.head?=some cl
    · rw [if_pos c,Option.bind_some]
      by_cases c2:lo≤x.1.length∧x.1.length≤hi
      · rw [if_pos ⟨c,c2⟩]
        exact (if_pos c2).symm
      · rw [if_neg fun z=>c2 z.2]
        exact (if_neg c2).symm
    · rw [if_neg c,if_neg fun z=>c z.1]
      rfl
theorem zlp {p:List Nat→Option (Sy×List Nat)} (hp:Shr p) {cl:Nat} {r:List Nat} {as:List Sy} {r':List Nat} (h:pRowX p cl r=some (as,r')):r' <:+ r∧r'.length<r.length∧1≤as.length∧as.length≤r.length:=by
  obtain ⟨⟨bs,r2⟩,e,h⟩:=Option.bind_eq_some_iff.mp h
  obtain ⟨h1,h2,h3,h4⟩:=zfj hp _ _ _ _ e
  by_cases c:r2.head?=some cl
  · rw [if_pos c] at h
    cases h
    have:=zbr c
    dsimp only at *
    exact ⟨(zcx _).trans h1,by omega,h3,h4⟩
  · rw [if_neg c] at h;cases h
noncomputable def atD (cs:List Nat):Option (Sy×List Nat)→D
  | none=>.non
  | some x=>.tup [x.1.d,.int ((cs.length-x.2.length:Nat):Int)]
inductive P_at (n:Nat) (ds:List D) (q:D→Prop):Prop where
  | mk (cs:List Nat) (p:Nat) (lv:Int) (d:Nat) (_:ds=[.str (textOf cs),.int p,.int lv]) (_:lv+(d:Int)=13) (_:d≤12) (_:p≤cs.length) (_:cs.length≤5000) (_:2*d+2≤n) (_:q (atD cs (pS d (cs.drop p))))
def zk4 (n:Nat):Sp3:=vS (P_at n)
inductive P_row (n:Nat) (ds:List D) (S:Hp3) (Q:K3) (_:X3):Prop where
  | mk (cs:List Nat) (p:Nat) (cl:Nat) (lv:Int) (d:Nat) (_:ds=[.str (textOf cs),.int p,.str (textOf [cl]),.int lv]) (_:lv+(d:Int)=13) (_:d≤12) (_:p≤cs.length) (_:cs.length≤5000) (_:2*d+3≤n) (_:cl≠32) (_:(pRowX (pS d) cl (cs.drop p)=none→∀S',Sub S S'→Q .non S')) (_:∀as r',pRowX (pS d) cl (cs.drop p)=some (as,r')→∀(S':Hp3) (pl:Addr),Sub S S'→S' pl=some (.lst (as.map Sy.d))→Q (.tup [.ref pl,.int ((cs.length-r'.length:Nat):Int)]) S')
def zk1 (n:Nat):Sp3:= (P_row n)
theorem zd5 {cs:List Nat} {p:Nat}:cutT cs (some (p:Int)) (some ((p:Int)+1))=(cs.drop p).head?.toList:=by
  rw [show (p:Int)+1=((p+1:Nat):Int) by omega,zhg (by omega),show p+1-p=1 by omega]
  cases cs.drop p<;>rfl
theorem zjz {cs r:List Nat} (h:r <:+ cs):cs.drop (cs.length-r.length)=r:=by
  obtain ⟨pre,e⟩:=h
  rw [←e,List.length_append,Nat.add_sub_cancel,List.drop_left]
theorem ziy {r:List Nat} {c:Nat} (h:r.head?≠some c):textOf r.head?.toList≠textOf [c]:=fun z=>by
  have:=zat z
  cases q:r.head? with
  | none=>rw [q] at this;simp at this
  | some x=>rw [q] at this h;simp at this;exact h (by rw [this])
theorem ok_row {n:Nat} (h:Has K mg "_law_row" s_row ["text","at","end","deep"]) (G:Gs K mg) (C_at:Cal3 P w K mg base n "_law_at" ["text","at","deep"] (zk4 n)):Cal3 P w K mg base (n+1) "_law_row" ["text","at","end","deep"] (zk1 (n+1)):=by
  refine h.cal3 zgd (by rintro ds S Q E ⟨_,_,_,_,_,e,_⟩;rw [e];rfl) fun f cdv A outer s0 H E ds S Q W hr hA=>?_
  obtain ⟨cs,p,cl,lv,d,rfl,hlv,hd,hp,hl,hn,hcl,hq0,hq⟩:=hA
  have sh:=zet d
  have hll:(textOf cs).length≤sizeLine:=by rw [zah];exact zag (by omega)
  refine ⟨_,Q,(zab (zay (i:=4) zgd.nd rfl (Or.inl rfl) (zkm zae))
 (zab (zay (i:=5) zgd.nd rfl (Or.inl rfl) zai)
 (zab (zgy PassesOwn.never (zao zbl zb0 (e_v 5) zai (nomark _)) (zab (zay (i:=6) zgd.nd rfl (Or.inl rfl) (za0 C_at hr rfl (zaa (e_v 0) (zaa (e_v 1) (zaa (e_v 3) zae)))))
 (zab (s_if (zao zhy zic (e_v 6) zdk (nomark _)) (zak (zau zdk)) za5)
 (zab (zer (e_bm PySem.F.plainAttrs_list PySem.F.slot_list_append PySem.F.type_list_append zdd zf1 (e_v 4) (zaa (e_ix zaq zar (e_v 6) zac (fun _ _=>rfl)) zae)))
 (zab (zay (i:=5) zgd.nd rfl (Or.inl rfl) (zaw zbs zbu (e_v 0) (za1 (e_ix zaq zar (e_v 6) zac (fun _ _=>rfl))) (za1 (e_op za9 za2 (e_ix zaq zar (e_v 6) zac (fun _ _=>rfl)) zac))))
 (zak (zay (i:=1) zgd.nd rfl (Or.inl rfl) (e_op za9 za2 (e_ix zaq zar (e_v 6) zac (fun _ _=>rfl)) zac))))))))
 (zab (s_if (zao zeg zey (e_v 5) (e_v 2) (nomark _)) (zak (zau zdk)) za5)
 (zak (zau (zbx (zaa (e_v 4) (zaa (e_v 1) zae))))))))),?_,fun _ _ z=>z⟩
  nofun
  intro pl hpl
  have a1:up S pl (.lst []) pl=some (.lst []):=zaf
  have sb1:Sub S (up S pl (.lst [])):=(Sub.refl S).up hpl
  generalize up S pl (.lst [])=S1 at a1 sb1
  nofun
  refine j_while (fun m σ S'=>Ex4 fun (dn:List Sy) (at_:Nat) (sg:List Nat) (x6:Option D)=>σ=[some (.str (textOf cs)),some (.int (at_:Int)),some (.str (textOf [cl])),some (.int lv),some (.ref pl),some (.str (textOf sg)),x6]∧S' pl=some (.lst (dn.map Sy.d))∧Sub S S'∧dn.length≤at_∧at_≤cs.length+1∧m=cs.length+1-at_ ∧
    ((sg=[32]∧at_≤cs.length∧pMany (pS d) ((cs.drop p).length+1) (cs.drop p)=(pMany (pS d) ((cs.drop at_).length+1) (cs.drop at_)).map fun y=>(dn++y.1,y.2)) ∨
      ∃r2:List Nat,sg=r2.head?.toList∧r2.head?≠some 32∧r2 <:+ cs∧at_=cs.length-r2.length+1∧pMany (pS d) ((cs.drop p).length+1) (cs.drop p)=some (dn,r2))) (cs.length+1-p)
    ⟨[],p,[32],none,by rw [t_32];rfl,a1,sb1,by simp,by omega,rfl,.inl ⟨rfl,hp,by simp⟩⟩ ?_
  rintro m σ S2 ⟨dn,at_,sg,x6,rfl,a2,sb2,hdn,hat,hm,hcase⟩
  have hfresh:∀S3:Hp3,True:=fun _=>trivial
  rcases hcase with ⟨rfl,hatl,hg⟩|⟨r2,rfl,h32,hsuf,hat2,hg⟩
  · rw [t_32]
    nofun
    refine ⟨cs,at_,lv,d,rfl,hlv,hd,hatl,hl,by omega,?_⟩
    cases e:pS d (cs.drop at_) with
    | none =>
      simp only [atD]
      have e2:pRowX (pS d) cl (cs.drop p)=none:=by unfold pRowX;rw [hg,pMany,e];rfl
      nofun
      exact hq0 e2 S2 sb2
    | some x =>
      obtain ⟨s,r1⟩:=x
      obtain ⟨h1,h2⟩:=sh _ _ _ e
      rw [List.length_drop] at h2
      have hr1:r1 <:+ cs:=h1.trans (List.drop_suffix _ _)
      have hr1l:=hr1.length_le
      simp only [atD]
      nofun
      refine j_append a2 (zd4 (by rw [List.length_map];omega)) ?_
      have a3:up S2 pl (.lst (dn.map Sy.d++[s.d])) pl=some (.lst ((dn++[s]).map Sy.d)):=by rw [zaf];simp
      have sb3:Sub S (up S2 pl (.lst (dn.map Sy.d++[s.d]))):=fun b u hb=>by rw [zb9 (ne3 hb hpl)];exact sb2 b u hb
      generalize up S2 pl (.lst (dn.map Sy.d++[s.d]))=S3 at a3 sb3 ⊢
      nofun
      refine j_slS hll ?_
      rw [zad,zd5,zjz hr1]
      nofun
      have hg2:=zfk sh e
      rw [hg2] at hg
      refine ⟨_,?_,dn++[s],cs.length-r1.length+1,r1.head?.toList,_,rfl,a3,sb3,?_,by omega,rfl,?_⟩
      · omega
      · simp only [List.length_append,List.length_cons,List.length_nil];omega
      by_cases c32:r1.head?=some 32
      · have hl1:=zbr c32
        refine .inl ⟨by rw [c32];rfl,by omega,?_⟩
        have ed:cs.drop (cs.length-r1.length+1)=r1.tail:=by rw [←List.drop_drop,zjz hr1,List.drop_one]
        rw [ed,hg]
        unfold pGo
        rw [if_pos c32,Option.map_map]
        congr 1
        funext y
        simp
      · refine .inr ⟨r1,rfl,c32,hr1,rfl,?_⟩
        rw [hg]
        unfold pGo
        rw [if_neg c32]
        rfl
  · have hne:=ziy h32
    rw [t_32] at hne
    have erow:pRowX (pS d) cl (cs.drop p)=if r2.head?=some cl then some (dn,r2.tail) else none:=by unfold pRowX;rw [hg];rfl
    by_cases ccl:r2.head?=some cl
    · rw [if_pos ccl] at erow
      have hl1:=zbr ccl
      have hl2:=hsuf.length_le
      have:=hq dn r2.tail erow S2 pl sb2 a2
      rw [show cs.length-r2.tail.length=at_ by omega] at this
      rw [ccl,Option.toList_some] at hne ⊢
      nofun
      exact this
    · rw [if_neg ccl] at erow
      have hne2:=ziy ccl
      nofun
      exact hq0 erow S2 sb2
theorem s_lr:("<>":Str)=textOf [60,62]:=by decide +kernel
noncomputable abbrev opens5:List Str:=["[","{","("]
theorem zn3 {cs:List Nat} (h:cs≠[91]∧cs≠[123]∧cs≠[40]):decide (textOf cs∈opens5)=false:=by
  refine decide_eq_false fun z=>?_
  simp only [opens5,List.mem_cons,List.not_mem_nil,or_false] at z
  rcases z with z|z|z
  · exact h.1 (zat (z.trans t_91.symm))
  · exact h.2.1 (zat (z.trans znf.symm))
  · exact h.2.2 (zat (z.trans t_40.symm))
theorem zg3 {x:Str} (h:x="["∨x="{"∨x="("):decide (x∈opens5)=true:=by
  rcases h with rfl|rfl|rfl<;>decide +kernel
theorem j_opens {S:Hp3} {Q:K3} {x:Str} (q:Q (.bl (!decide (x∈opens5))) S):in3 true (.str x) (.tup [.str "[",.str "{",.str "("]) S Q:=j_notinTS (xs:=opens5) q
theorem zmq {cs r:List Nat} {p c:Nat} (h:cs.drop p=c::r):cs.drop (p+1)=r:=by rw [←List.drop_drop,h];rfl
theorem zox {c x:Nat} (h:c≠x):textOf [c]≠textOf [x]:=fun z=>h (by have:=zat z;simpa using this)
theorem val_91:valD (dicD [("[","]"),("{","}"),("(",")")]) (.inr "[")=some (.str (textOf [93])):=by kernel_rfl
theorem zo8:valD (dicD [("[","]"),("{","}"),("(",")")]) (.inr "{")=some (.str (textOf [125])):=by kernel_rfl
theorem val_40:valD (dicD [("[","]"),("{","}"),("(",")")]) (.inr "(")=some (.str (textOf [41])):=by kernel_rfl
theorem znd:valD (dicD [("[","pair"),("{","fork")]) (.inr "[")=some (.str "pair"):=by kernel_rfl
theorem zne:valD (dicD [("[","pair"),("{","fork")]) (.inr "{")=some (.str "fork"):=by kernel_rfl
theorem ok_at {n:Nat} (hn1:1≤n) (h:Has K mg "_law_at" s_at ["text","at","deep"]) (G:Gs K mg) (C0:Cal3 P w K mg base 1 "_law_word" ["text","at"] zgu) (C_at:Cal3 P w K mg base n "_law_at" ["text","at","deep"] (zk4 n)) (C_row:Cal3 P w K mg base n "_law_row" ["text","at","end","deep"] (zk1 n)):Cal3 P w K mg base (n+1) "_law_at" ["text","at","deep"] (zk4 (n+1)):=by
  have C_word:=C0.mono hn1
  refine h.val zit (by rintro ds q ⟨_,_,_,_,e,_⟩;rw [e];rfl) fun f cdv A outer s0 H E ds q hr hA=>?_
  have hu:=hu_of hr
  obtain ⟨cs,p,lv,d,rfl,hlv,hd,hp,hl,hn,hq⟩:=hA
  have hll:(textOf cs).length≤sizeLine:=by rw [zah];exact zag (by omega)
  refine ⟨_,(zab (zay (i:=3) zit.nd rfl (Or.inl rfl) (zaw zbs zbu (e_v 0) (za1 (e_v 1)) (za1 (e_op za9 za2 (e_v 1) zac))))
 (zab (s_if (PW3.pt (w_or (zao zkc zba (e_v 2) zac (nomark _)) (zds (zao zbl zb0 (e_v 3) zai (nomark _))))) (zak (zau zdk)) za5)
 (zab (s_if (zao zbl zb0 (e_v 3) zai (nomark _)) (zak (zau (zbx (zaa (zbx (zaa zai zae)) (zaa (e_op za9 za2 (e_v 1) zac) zae))))) za5)
 (zab (s_if (zao zfm zmv (e_v 3) zai (by with_unfolding_all rfl)) (zab (zay (i:=4) zit.nd rfl (Or.inl rfl) (za0 C_at hr rfl (zaa (e_v 0) (zaa (e_op za9 za2 (e_v 1) zac) (zaa (e_op za9 za2 (e_v 2) zac) zae)))))
 (zab (s_if (zao zhy zic (e_v 4) zdk (nomark _)) (zak (zau zdk)) za5)
 (zak (zau (zbx (zaa (zbx (zaa (zmn (zao zbl zb0 (e_v 3) zai (nomark _)) zai zai) (zaa (e_ix zaq zar (e_v 4) zac (fun _ _=>rfl)) zae))) (zaa (e_ix zaq zar (e_v 4) zac (fun _ _=>rfl)) zae))))))) za5)
 (zab (zay (i:=5) zit.nd rfl (Or.inl rfl) (za0 C_word hr rfl (zaa (e_v 0) (zaa (e_v 1) zae))))
 (zab (s_if (PW3.pt (w_and (zao zeg zey (e_v 5) zai (nomark _)) (zem (zao zeg zey (zaw zbs zbu (e_v 0) (za1 (e_op za9 za2 (e_v 1) (zaj zap zby rfl G.len PySem.boot_len (zaa (e_v 5) zae)))) (za1 (e_op za9 za2 (e_op za9 za2 (e_v 1) (zaj zap zby rfl G.len PySem.boot_len (zaa (e_v 5) zae))) zac))) zai (nomark _))))) (zak (zau (zmn (zao ze1 zba (zaj zap zby rfl G.len PySem.boot_len (zaa (e_v 5) zae)) zac (nomark _)) (zbx (zaa (zbx (zaa zai (zaa (e_v 5) zae))) (zaa (e_op za9 za2 (e_v 1) (zaj zap zby rfl G.len PySem.boot_len (zaa (e_v 5) zae))) zae))) zdk))) za5)
 (zab (zay (i:=6) zit.nd rfl (Or.inl rfl) (e_op za9 za2 (e_op za9 za2 (e_v 1) (zaj zap zby rfl G.len PySem.boot_len (zaa (e_v 5) zae))) zac))
 (zab (zay (i:=3) zit.nd rfl (Or.inl rfl) (zaw zbs zbu (e_v 0) (za1 (e_op zfl za2 (e_v 6) zac)) (za1 (e_v 6))))
 (zab (s_if (PW3.pt (w_or (zao zeu dn_in (e_v 3) (zbx (zaa zai (zaa zai (zaa zai zae)))) (by with_unfolding_all rfl)) (w_or (PW3.pt (w_and (zao zeg zey (e_v 3) zai (nomark _)) (zem (zao zeg zey (e_v 5) zai (nomark _))))) (zds (PW3.pt (w_and (zao zbl zb0 (e_v 3) zai (nomark _)) (zem (zez (zio ze1 zba ze1 zba zac (zaj zap zby rfl G.len PySem.boot_len (zaa (e_v 5) zae)) zac))))))))) (zak (zau zdk)) za5)
 (zab (zay (i:=4) zit.nd rfl (Or.inl rfl) (za0 C_row hr rfl (zaa (e_v 0) (zaa (e_v 6) (zaa (zmo hu (zi0 (zc4 (zc4 (zc4 zm0))) (by decide +kernel) (by decide) rfl rfl (fun z=>nomatch z) (by decide)) (e_v 3) (fun _ _=>rfl)) (zaa (e_op za9 za2 (e_v 2) zac) zae))))))
 (zab (s_if (PW3.pt (w_or (zao zhy zic (e_v 4) zdk (nomark _)) (w_or (PW3.pt (w_and (zao zbl zb0 (e_v 3) zai (nomark _)) (zem (zao zeg zib (zaj zas zcp rfl G.len PySem.boot_len (zaa (e_ix zaq zar (e_v 4) zac (fun _ _=>rfl)) zae)) zac (nomark _))))) (w_or (PW3.pt (w_and (zao zbl zb0 (e_v 3) zai (nomark _)) (zem (zao zeg zib (zaj zas zcp rfl G.len PySem.boot_len (zaa (e_ix zaq zar (e_v 4) zac (fun _ _=>rfl)) zae)) zac (nomark _))))) (zds (zao zkc zba (zaj zas zcp rfl G.len PySem.boot_len (zaa (e_ix zaq zar (e_v 4) zac (fun _ _=>rfl)) zae)) zac (nomark _))))))) (zak (zau zdk)) za5)
 (zab (s_if (zao zbl zb0 (e_v 3) zai (nomark _)) (zak (zau (zbx (zaa (zbx (zaa zai (zaa (e_v 5) (zaa (zc2 zbh zc3 rfl G.tuple boot_tuple (zaa (e_ix zaq zar (e_v 4) zac (fun _ _=>rfl)) zae)) zae)))) (zaa (e_ix zaq zar (e_v 4) zac (fun _ _=>rfl)) zae))))) za5)
 (zak (zau (zbx (zaa (e_op zfn zf0 (zbx (zaa (zmo hu (zi0 (zc4 (zc4 zm0)) (by decide +kernel) (by decide) rfl rfl (fun z=>nomatch z) (by decide)) (e_v 3) (fun _ _=>rfl)) zae)) (zc2 zbh zc3 rfl G.tuple boot_tuple (zaa (e_ix zaq zar (e_v 4) zac (fun _ _=>rfl)) zae))) (zaa (e_ix zaq zar (e_v 4) zac (fun _ _=>rfl)) zae))))))))))))))))),?_⟩
  nofun
  refine j_slS hll ?_
  rw [zad,zd5]
  have hdl:(cs.drop p).length=cs.length-p:=List.length_drop
  cases d with
  | zero =>
    have c0:(12:Int)<lv:=by omega
    nofun
    exact hq
  | succ d =>
  have c0:¬(12:Int)<lv:=by omega
  have c1:lv+1+(d:Int)=13:=by omega
  have sh:=zet d
  cases er:cs.drop p with
  | nil =>
    have e0:pS (d+1) []=none:=by simp [pS,pNm,pWd]
    rw [er,e0] at hq
    rw [show ([]:List Nat).head?.toList=[] from rfl,t_0]
    nofun
    exact hq
  | cons c r =>
  rw [er] at hq hdl
  rw [List.length_cons] at hdl
  have hrl:cs.length-r.length=p+1:=by omega
  have er1:=zmq er
  have hc0:textOf [c]≠("":Str):=by
    rw [←t_0]
    intro z
    have:=zat z
    simp at this
  rw [show (c::r).head?.toList=[c] from rfl]
  have p1:((p+1:Nat):Int)=(p:Int)+1:=by omega
  by_cases k1:c=45
  · subst k1
    have e0:pS (d+1) (45::r)=some (.bud,r):=by rw [pS];rfl
    rw [e0] at hq
    simp only [atD] at hq
    rw [hrl,p1] at hq
    rw [t_45] at hc0 ⊢
    nofun
    exact hq
  have k1':=zox k1
  rw [t_45] at k1'
  nofun
  refine j_inS ?_
  rw [s_lr,zlr]
  by_cases k23:c=60∨c=62
  · have hin:decide (c∈[60,62])=true:=decide_eq_true (by simpa using k23)
    rw [hin]
    nofun
    refine ⟨cs,p+1,lv+1,d,by rw [p1],c1,by omega,by omega,hl,by omega,?_⟩
    rw [er1]
    cases e:pS d r with
    | none =>
      have e0:pS (d+1) (c::r)=none:=by
        rw [pS,List.head?_cons,List.tail_cons,e]
        rcases k23 with rfl|rfl<;>rfl
      rw [e0] at hq
      simp only [atD]
      nofun
      exact hq
    | some x =>
      obtain ⟨s,r'⟩:=x
      simp only [atD]
      rcases k23 with rfl|rfl
      · have e0:pS (d+1) (60::r)=some (.left s,r'):=by rw [pS,List.head?_cons,List.tail_cons,e];rfl
        rw [e0] at hq
        simp only [atD] at hq
        rw [t_60]
        nofun
        exact hq
      · have e0:pS (d+1) (62::r)=some (.right s,r'):=by rw [pS,List.head?_cons,List.tail_cons,e];rfl
        rw [e0] at hq
        simp only [atD] at hq
        have hne:textOf [62]≠("<":Str):=by rw [←t_60];exact zox (by decide)
        nofun
        exact hq
  have k2:c≠60:=fun z=>k23 (.inl z)
  have k3:c≠62:=fun z=>k23 (.inr z)
  have hin:decide (c∈[60,62])=false:=decide_eq_false (by simp [k2,k3])
  rw [hin]
  nofun
  refine ⟨cs,p,rfl,hp,hl,?_⟩
  rw [er]
  have hwl:=ze6 (r:=c::r)
  have hno:=zfb (c::r)
  have hwp:=List.takeWhile_append_dropWhile (p:=ltr) (l:=c::r)
  have hpS:c≠91→c≠123→pS (d+1) (c::r)=pNm (pS d) (c::r):=fun a b=>by rw [pS,List.head?_cons,if_neg (by simpa using k1),if_neg (by simpa using k2),if_neg (by simpa using k3),if_neg (by simpa using a),if_neg (by simpa using b)]
  by_cases hcl:ltr c=true
  · have h91:c≠91:=fun z=>by rw [z] at hcl;revert hcl;decide
    have h123:c≠123:=fun z=>by rw [z] at hcl;revert hcl;decide
    have epS:=hpS h91 h123
    have hw1:1≤((c::r).takeWhile ltr).length:=by rw [List.takeWhile_cons,if_pos hcl];simp
    unfold pNm at epS
    generalize (c::r).takeWhile ltr=w at *
    generalize (c::r).dropWhile ltr=post at *
    have hwl5:w.length+post.length=r.length+1:=by rw [←List.length_append,hwp];rfl
    have edp:cs.drop (p+w.length)=post:=by rw [←List.drop_drop,er,←hwp,List.drop_left]
    have hw0:textOf w≠("":Str):=by
      rw [←t_0]
      intro z
      rw [zat z] at hw1
      simp at hw1
    have hwz:(textOf w).length≤sizeLine:=by rw [zah];exact zag (by omega)
    have hwI:((textOf w).length:Int)=(w.length:Nat):=by rw [zah]
    have pw:((p+w.length:Nat):Int)=(p:Int)+(w.length:Nat):=by omega
    nofun
    rw [hwI,←pw]
    refine j_slS hll ?_
    rw [zad,zd5,edp]
    by_cases c40:post.head?=some 40
    · rw [if_pos c40] at epS
      rw [c40,Option.toList_some,t_40]
      have hl1:=zbr c40
      nofun
      rw [hwI,←pw,show ((p+w.length:Nat):Int)+1-1=((p+w.length:Nat):Int) by omega]
      refine j_slS hll ?_
      rw [zad,zd5,edp,c40,Option.toList_some,t_40]
      nofun
      refine j_opens ?_
      rw [zg3 (.inr (.inr rfl))]
      by_cases c9:((textOf w).length:Int)<9
      · rw [if_pos ⟨hw1,by omega⟩] at epS
        have c10:(0:Int)<((textOf w).length:Int):=by omega
        nofun
        intro pd hpd
        nofun
        refine j_dgetS zaf val_40 ?_
        nofun
        have edp1:cs.drop (p+w.length+1)=post.tail:=by rw [←List.drop_drop,edp,List.drop_one]
        refine ⟨cs,p+w.length+1,41,lv+1,d,by rw [show ((p+w.length+1:Nat):Int)=((p+w.length:Nat):Int)+1 by omega],c1,by omega,by omega,hl,by omega,by decide,fun hs S' sb=>?_,fun as r' hs S' pl sb hpl=>?_⟩
        · rw [edp1] at hs
          rw [epS,zef,hs] at hq
          nofun
          exact hq
        · rw [edp1] at hs
          have h1:=(zlp sh hs).2.2.1
          have hml:((as.map Sy.d).length:Int)=(as.length:Nat):=by rw [List.length_map]
          rw [epS,zef,hs] at hq
          by_cases c4:4<((as.map Sy.d).length:Int)
          · rw [Option.bind_some,if_neg fun z=>by have h2:as.length≤4:=z.2;omega] at hq
            nofun
            exact hq
          · rw [Option.bind_some,if_pos ⟨h1,by show as.length≤4;omega⟩] at hq
            have hq:q (.tup [Sy.d (.send (textOf w) as),.int ((cs.length-r'.length:Nat):Int)]):=hq
            rw [Sy.d,Sy.ds_map] at hq
            nofun
            exact hq
      · rw [if_neg fun z=>c9 (by have:=z.2;omega)] at epS
        rw [epS] at hq
        have c10:(0:Int)<((textOf w).length:Int):=by omega
        nofun
        exact hq
    · rw [if_neg c40] at epS
      have hne:=ziy c40
      rw [t_40] at hne
      nofun
      by_cases c9:((textOf w).length:Int)<9
      · rw [if_pos ⟨hw1,by omega⟩] at epS
        rw [epS] at hq
        simp only [atD] at hq
        rw [show cs.length-post.length=p+w.length by omega,pw] at hq
        nofun
        rw [hwI]
        exact hq
      · rw [if_neg fun z=>c9 (by have:=z.2;omega)] at epS
        rw [epS] at hq
        nofun
        exact hq
  · have hw0:(c::r).takeWhile ltr=[]:=by rw [List.takeWhile_cons,if_neg hcl]
    rw [hw0,t_0]
    have hz0:(("":Str).length:Int)=0:=by decide +kernel
    have hz1:("":Str).length≤sizeLine:=by decide +kernel
    nofun
    rw [hz0,Int.add_zero,show (p:Int)+1-1=(p:Int) by omega]
    refine j_slS hll ?_
    rw [zad,zd5,er,show (c::r).head?.toList=[c] from rfl]
    nofun
    refine j_opens ?_
    by_cases h91:c=91
    · subst h91
      have epS:pS (d+1) (91::r)=(pRow (pS d) 93 2 2 r).map fun x=>(mkPair x.1,x.2):=by rw [pS,List.head?_cons,List.tail_cons];rfl
      rw [t_91,zg3 (.inl rfl)]
      nofun
      intro pd hpd
      nofun
      refine j_dgetS zaf val_91 ?_
      nofun
      refine ⟨cs,p+1,93,lv+1,d,by rw [p1],c1,by omega,by omega,hl,by omega,by decide,fun hs S' sb=>?_,fun as r' hs S' pl sb hpl=>?_⟩
      · rw [er1] at hs
        rw [epS,zef,hs] at hq
        nofun
        exact hq
      · rw [er1] at hs
        have hml:((as.map Sy.d).length:Int)=(as.length:Nat):=by rw [List.length_map]
        rw [epS,zef,hs] at hq
        by_cases c2:((as.map Sy.d).length:Int)=2
        · have c4:¬4<((as.map Sy.d).length:Int):=by omega
          rw [Option.bind_some,if_pos ⟨by show 2≤as.length;omega,by show as.length≤2;omega⟩] at hq
          obtain ⟨x,y,rfl⟩:=zkw (as:=as) ⟨by omega,by omega⟩
          nofun
          intro pd2 hpd2
          have hpl2:=zax (o:=.dic (dicD [("[","pair"),("{","fork")])) hpl hpd2
          nofun
          refine j_dgetS zaf znd ?_
          nofun
          refine j_catT (by simp) (zag (by simp)) ?_
          nofun
          exact hq
        · rw [Option.bind_some,if_neg fun z=>c2 (by have h1:2≤as.length:=z.1;have h2:as.length≤2:=z.2;omega)] at hq
          nofun
          exact hq
    by_cases h123:c=123
    · subst h123
      have epS:pS (d+1) (123::r)=(pRow (pS d) 125 3 3 r).map fun x=>(mkFork x.1,x.2):=by rw [pS,List.head?_cons,List.tail_cons];rfl
      rw [znf,zg3 (.inr (.inl rfl))]
      nofun
      intro pd hpd
      nofun
      refine j_dgetS zaf zo8 ?_
      nofun
      refine ⟨cs,p+1,125,lv+1,d,by rw [p1],c1,by omega,by omega,hl,by omega,by decide,fun hs S' sb=>?_,fun as r' hs S' pl sb hpl=>?_⟩
      · rw [er1] at hs
        rw [epS,zef,hs] at hq
        nofun
        exact hq
      · rw [er1] at hs
        have hml:((as.map Sy.d).length:Int)=(as.length:Nat):=by rw [List.length_map]
        rw [epS,zef,hs] at hq
        by_cases c2:((as.map Sy.d).length:Int)=3
        · have c4:¬4<((as.map Sy.d).length:Int):=by omega
          rw [Option.bind_some,if_pos ⟨by show 3≤as.length;omega,by show as.length≤3;omega⟩] at hq
          obtain ⟨x,y,z,rfl⟩:=zgq (as:=as) ⟨by omega,by omega⟩
          nofun
          intro pd2 hpd2
          have hpl2:=zax (o:=.dic (dicD [("[","pair"),("{","fork")])) hpl hpd2
          nofun
          refine j_dgetS zaf zne ?_
          nofun
          refine j_catT (by simp) (zag (by simp)) ?_
          nofun
          exact hq
        · rw [Option.bind_some,if_neg fun z=>c2 (by have h1:3≤as.length:=z.1;have h2:as.length≤3:=z.2;omega)] at hq
          nofun
          exact hq
    have epS:=hpS h91 h123
    have enm:pNm (pS d) (c::r)=none:=by unfold pNm;rw [hw0,if_neg (by simp [pWd])]
    rw [epS,enm] at hq
    by_cases h40:c=40
    · subst h40
      rw [t_40,zg3 (.inr (.inr rfl))]
      have hz2:¬(0:Int)<(("":Str).length:Int):=by rw [hz0];decide
      nofun
      exact hq
    · rw [zn3 (by simp [h91,h123,h40])]
      nofun
      exact hq
theorem at_all (h1:Has K mg "_law_at" s_at ["text","at","deep"]) (h2:Has K mg "_law_row" s_row ["text","at","end","deep"]) (G:Gs K mg) (C_word:Cal3 P w K mg base 1 "_law_word" ["text","at"] zgu) :
    ∀n,Cal3 P w K mg base n "_law_at" ["text","at","deep"] (zk4 n)∧Cal3 P w K mg base n "_law_row" ["text","at","end","deep"] (zk1 n):=by
  intro n
  induction n with
  | zero=>exact ⟨h1.none3 (by rintro ds S Q E ⟨_,_,_,_,_,_,_,_,_,z,_⟩;omega) 0,h2.none3 (by rintro ds S Q E ⟨_,_,_,_,_,_,_,_,_,_,z,_⟩;omega) 0⟩
  | succ n ih =>
    by_cases c:1≤n
    · exact ⟨ok_at c h1 G C_word ih.1 ih.2,ok_row h2 G ih.1⟩
    · exact ⟨h1.none3 (by rintro ds S Q E ⟨_,_,_,_,_,_,_,_,_,z,_⟩;omega) _,h2.none3 (by rintro ds S Q E ⟨_,_,_,_,_,_,_,_,_,_,z,_⟩;omega) _⟩
noncomputable def lineD:Option Er→D
  | none=>.non
  | some e=>e.d
inductive P_line  (ds:List D) (q:D→Prop):Prop where
  | mk (cs:List Nat) (_:ds=[.str (textOf cs)]) (_:cs.length≤5000) (_:q (lineD (pLine cs)))
def zk2 :Sp3:=vS P_line
theorem zjj {w:List Nat}:w.takeWhile ltr=w↔∀c∈w,ltr c=true:=by
  induction w with
  | nil=>simp
  | cons c r ih =>
    rw [List.takeWhile_cons]
    by_cases h:ltr c=true
    · rw [if_pos h];simp [ih,h]
    · rw [if_neg h];simp [h]
theorem zp2 {k n:Nat} (hn:26≤n) (h:Has K mg "_law_line" zgh ["text"]) (G:Gs K mg) (C_word:Cal3 P w K mg base k "_law_word" ["text","at"] zgu) (C_at:Cal3 P w K mg base k "_law_at" ["text","at","deep"] (zk4 n)):Cal3 P w K mg base (k+1) "_law_line" ["text"] zk2:=by
  refine h.val zfh (by rintro ds q ⟨_,e,_⟩;rw [e];rfl) fun f cdv A outer s0 H E ds q hr hA=>?_
  obtain ⟨cs,rfl,hl,hq⟩:=hA
  have hll:(textOf cs).length≤sizeLine:=by rw [zah];exact zag (by omega)
  obtain ⟨⟨h0l,h0c⟩,h2l,h2c⟩:=hv_in cs
  obtain ⟨hwi,hw1,hwl⟩:=zjn (hv0 cs) " "
  have hpl:=zhu (hv0 cs)
  refine ⟨_,(zab (zay (i:=1) zfh.nd rfl (Or.inl rfl) (e_bm PySem.F.plainAttrs_str PySem.F.slot_str_partition PySem.F.type_str_partition zfp zmr (e_v 0) (zaa zai zae)))
 (zab (zay (i:=2) zfh.nd rfl (Or.inl rfl) (e_bm PySem.F.plainAttrs_str PySem.F.slot_str_split PySem.F.type_str_split zex zj0 (e_ix zaq zar (e_v 1) zac (fun _ _=>rfl)) (zaa zai zae)))
 (zab (s_if (PW3.pt (w_or (zez (zio zn4 zba zn4 zba zac (zaj zas zcp rfl G.len PySem.boot_len (zaa (e_v 2) zae)) zac)) (zds (zao zbl zb0 (e_ix zaq zar (e_v 1) zac (fun _ _=>rfl)) zai (nomark _))))) (zak (zau zdk)) za5)
 (zab (znh PassesOwn.never rfl (zoz (e_v 2)) (zh7 (i:=3) zfh.nd rfl (Or.inl rfl)) (zak (s_if (PW3.pt (w_or (zez (zio zn4 zba zn4 zba zac (zaj zap zby rfl G.len PySem.boot_len (zaa (e_v 3) zae)) zac)) (zds (zao zeg zey (za0 C_word hr rfl (zaa (e_v 3) (zaa zac zae))) (e_v 3) (nomark _))))) (zak (zau zdk)) za5)))
 (zab (zay (i:=4) zfh.nd rfl (Or.inl rfl) (za0 C_at hr rfl (zaa (e_ix zaq zar (e_v 1) zac (fun _ _=>rfl)) (zaa zac (zaa zac zae)))))
 (zab (s_if (PW3.pt (w_or (zao zhy zic (e_v 4) zdk (nomark _)) (zds (zao zeg zib (e_ix zaq zar (e_v 4) zac (fun _ _=>rfl)) (zaj zap zby rfl G.len PySem.boot_len (zaa (e_ix zaq zar (e_v 1) zac (fun _ _=>rfl)) zae)) (nomark _))))) (zak (zau zdk)) za5)
 (zak (zau (zbx (zaa (e_ix zb2 zcq (e_v 2) zac (fun _ _=>rfl)) (zaa (zc2 zbh zc3 rfl G.tuple boot_tuple (zaa (zaw zdt zfz (e_v 2) (za1 zac) zbi) zae)) (zaa (e_ix zaq zar (e_v 4) zac (fun _ _=>rfl)) zae)))))))))))),?_⟩
  nofun
  refine j_partS (by decide +kernel) hll ?_
  rw [hv_eq]
  simp only [List.map_cons,List.map_nil]
  nofun
  refine ⟨_,_,rfl,rfl,by decide +kernel,zag (by omega),zag (by omega),zag (by omega),?_⟩
  have hws:wsOf cs=Txt.split (hv0 cs) " ":=rfl
  rw [←hws] at hwi hw1 hwl ⊢
  intro pw hpw
  have a1:up emp pw (.lst ((wsOf cs).map D.str)) pw=some (.lst ((wsOf cs).map D.str)):=zaf
  generalize up emp pw (.lst ((wsOf cs).map D.str))=S1 at a1 ⊢
  have hml:(((wsOf cs).map D.str).length:Int)=((wsOf cs).length:Nat):=by rw [List.length_map]
  have none_of:hdOk cs=false∨hv1 cs=""→pLine cs=none:=fun h=>by
    unfold pLine
    by_cases c1:hv1 cs=""
    · rw [if_pos c1]
    · rw [if_neg c1,if_neg]
      rcases h with h|h
      · rw [h];simp
      · exact absurd h c1
  have hd2:¬(2≤(wsOf cs).length∧(wsOf cs).length≤5)→hdOk cs=false:=fun h=>by
    unfold hdOk
    cases q:(wsOf cs).all (fun x=>wdB x.cps.toList)&&(decide (2≤(wsOf cs).length)&&decide ((wsOf cs).length≤5)) with
    | false=>rfl
    | true =>
      simp only [Bool.and_eq_true,decide_eq_true_eq] at q
      exact absurd q.2 h
  by_cases l2:2≤(((wsOf cs).map D.str).length:Int)
  rotate_left
  · rw [none_of (.inl (hd2 (by omega)))] at hq
    nofun
    exact hq
  by_cases l5:(((wsOf cs).map D.str).length:Int)≤5
  rotate_left
  · rw [none_of (.inl (hd2 (by omega)))] at hq
    nofun
    exact hq
  by_cases c1:hv1 cs=""
  · rw [none_of (.inr c1)] at hq
    nofun
    exact hq
  nofun
  refine ⟨fun i σ S'=>∃x3,σ=[some (.str (textOf cs)),some (.tup [.str (hv0 cs),.str (hv1 cs),.str (hv2 cs)]),some (.ref pw),x3,none]∧S'=S1∧∀x∈(wsOf cs).take i,Wd5 x.cps.toList,⟨none,rfl,rfl,by simp⟩,fun _ _ _ ⟨_,_,z,_⟩=>by rw [z];exact a1,?_,?_⟩
  · rintro i d σ S' hd ⟨x3,rfl,rfl,hd8⟩
    rw [List.getElem?_map] at hd
    obtain ⟨x,hxi,rfl⟩:=Option.map_eq_some_iff.mp hd
    have hxm:=List.mem_of_getElem? hxi
    obtain ⟨hxl,hxc⟩:=hwi x hxm
    have hxI:x.cps.toList.length=x.length:=by rw [←zah,zcb]
    have hxz:x.length≤sizeLine:=zag (by omega)
    have bad:¬Wd5 x.cps.toList→pLine cs=none:=fun hwd=>none_of (.inl (by
      unfold hdOk
      have:(wsOf cs).all (fun x=>wdB x.cps.toList)=false:=by
        cases q:(wsOf cs).all (fun x=>wdB x.cps.toList) with
        | false=>rfl
        | true =>
          rw [List.all_eq_true] at q
          exact absurd (zgp.mp (q x hxm)) hwd
      rw [this]
      rfl))
    by_cases m1:1≤(x.length:Int)
    rotate_left
    · rw [bad fun z=>by have:=z.l1;omega] at hq
      nofun
      exact hq
    by_cases m8:(x.length:Int)≤8
    rotate_left
    · rw [bad fun z=>by have:=z.l8;omega] at hq
      nofun
      exact hq
    nofun
    refine ⟨x.cps.toList,0,by rw [zcb];rfl,Nat.zero_le _,by omega,?_⟩
    rw [List.drop_zero]
    by_cases ha:∀c∈x.cps.toList,ltr c=true
    · rw [zjj.mpr ha,zcb]
      nofun
      refine ⟨_,rfl,rfl,fun y hy=>?_⟩
      rw [List.take_succ,hxi] at hy
      rcases List.mem_append.mp hy with h|h
      · exact hd8 y h
      · obtain rfl:y=x:=by simpa using h
        exact ⟨by omega,by omega,ha⟩
    · have hne:textOf (x.cps.toList.takeWhile ltr)≠x:=fun z=>ha (zjj.mp (by
        rw [←zcb x] at z
        have:=zat z
        rw [zad] at this
        exact this))
      rw [bad fun z=>ha z.ok] at hq
      nofun
      exact hq
  rintro σ S' ⟨x3,rfl,rfl,hall⟩
  rw [List.length_map,List.take_length] at hall
  have hallB:(wsOf cs).all (fun x=>wdB x.cps.toList)=true:=by
    rw [List.all_eq_true]
    exact fun x hx=>zgp.mpr (hall x hx)
  have hok:hdOk cs=true:=by
    unfold hdOk
    rw [hallB,Bool.true_and,Bool.and_eq_true,decide_eq_true_eq,decide_eq_true_eq]
    exact ⟨by omega,by omega⟩
  have epl:pLine cs=(pS 12 (hv2 cs).cps.toList).bind fun x=>if x.2=[] then some ⟨(wsOf cs).headD "",(wsOf cs).tail,x.1⟩ else none:=by unfold pLine;rw [if_neg c1,if_pos hok]
  have ebl:(hv2 cs).cps.toList.length=(hv2 cs).length:=by rw [←zah,zcb]
  have h2z:(hv2 cs).length≤sizeLine:=zag (by omega)
  nofun
  refine ⟨(hv2 cs).cps.toList,0,1,12,by rw [zcb];rfl,by decide,by decide,Nat.zero_le _,by omega,by omega,?_⟩
  rw [List.drop_zero]
  cases e:pS 12 (hv2 cs).cps.toList with
  | none =>
    rw [epl,e] at hq
    simp only [atD]
    nofun
    exact hq
  | some x =>
    obtain ⟨s,r'⟩:=x
    have hr':=(zet 12 _ _ _ e).2
    rw [epl,e,Option.bind_some] at hq
    simp only [atD]
    rw [ebl]
    by_cases er:r'=[]
    · subst er
      rw [if_pos rfl] at hq
      have hz:(((hv2 cs).length-([]:List Nat).length:Nat):Int)=((hv2 cs).length:Int):=by simp
      rw [hz]
      obtain ⟨w0,wr,ew⟩:∃w0 wr,wsOf cs=w0::wr:=List.exists_cons_of_length_pos hw1
      rw [ew] at a1 hq
      nofun
      rw [zcv (by decide),show ((w0::wr).map D.str).drop (Int.toNat 1)=wr.map D.str from rfl]
      intro pc hpc
      nofun
      exact hq
    · rw [if_neg er] at hq
      have hpos:1≤r'.length:=Nat.one_le_iff_ne_zero.mpr fun z=>er (List.eq_nil_of_length_eq_zero z)
      have hz:¬(((hv2 cs).length-r'.length:Nat):Int)=((hv2 cs).length:Int):=by omega
      nofun
      exact hq
structure Lw (n:Nat) (cs:List Nat):Prop where
  len:cs.length≤n
  low:∀c∈cs,c<256
theorem Lw.cut {n:Nat} {cs:List Nat} (h:Lw n cs) (lo hi:Option Int):Lw n (cutT cs lo hi):=by
  unfold cutT
  refine ⟨?_,fun c hc=>h.low c (List.mem_of_mem_drop (List.mem_of_mem_take hc))⟩
  have:=h.len
  rw [List.length_take,List.length_drop]
  omega
theorem Lw.app {n m:Nat} {a b:List Nat} (h:Lw n a) (h':Lw m b):Lw (n+m) (a++b):=by
  have:=h.len
  have:=h'.len
  refine ⟨by rw [List.length_append];omega,fun c hc=>?_⟩
  rcases List.mem_append.mp hc with hc|hc
  · exact h.low c hc
  · exact h'.low c hc
theorem Lw.mono {n m:Nat} {a:List Nat} (h:Lw n a) (e:n≤m):Lw m a:=⟨Nat.le_trans h.len e,h.low⟩
theorem Lw.sz {n:Nat} {a:List Nat} (h:Lw n a) (e:n≤100000):(textOf a).length≤sizeLine:=by
  have:=h.len
  rw [zah]
  exact zag (by omega)
theorem Lw.add {n m:Nat} {a b:List Nat} (h:Lw n a) (h':Lw m b) (e:n+m≤100000):(textOf a).length+(textOf b).length≤sizeLine:=by
  have:=h.len
  have:=h'.len
  rw [zah,zah]
  exact zag (by omega)
theorem j_slT5 {S:Hp3} {Q:K3} {n:Nat} {cs:List Nat} {lo hi:Option Int} (h:Lw n cs) (e:n≤100000) (q:∀cs',Lw n cs'→Q (.str (textOf cs')) S):slS3 (.str (textOf cs)) lo hi S Q:=j_slS (h.sz e) (by rw [zad];exact q _ (h.cut lo hi))
theorem j_add5 {S:Hp3} {Q:K3} {n m:Nat} {a b:List Nat} (h:Lw n a) (h':Lw m b) (e:n+m≤100000) (q:∀cs',Lw (n+m) cs'→Q (.str (textOf cs')) S):addS3 (.str (textOf a)) (.str (textOf b)) S Q:=j_addS (h.add h' e) (by rw [zcw];exact q _ (h.app h'))
theorem j_pick5 {S:Hp3} {Q:K3} {x:Str} {n:Nat} {cs:List Nat} {i:Int} (e:x=textOf cs) (h:Lw n cs) (hn:n≤100000) (h0:0≤i) (h1:i<cs.length) (q:∀cs',Lw 1 cs'→Q (.str (textOf cs')) S):ixS3 (.str x) (.int i) S Q:=by
  subst e
  have hi:i.toNat<cs.length:=by omega
  refine j_ixS (h.sz hn) (by rw [zad];exact zm7 h0 (List.getElem?_eq_getElem hi)) (q [cs[i.toNat]] ⟨by simp,fun c hc=>?_⟩)
  rw [List.mem_singleton.mp hc]
  exact h.low _ (List.getElem_mem hi)
noncomputable abbrev sgs:List Nat:=[32,58,91,93,123,125,40,41,60,62,45,97,98,49,65,9,10,44]
theorem s_sgs:(" :[]{}()<>-ab1A\t\n,":Str)=textOf sgs:=by decide +kernel
theorem zla:("]})":Str)=textOf [93,125,41]:=by decide +kernel
theorem s_mid:("[- -":Str)=textOf [91,45,32,45]:=by decide +kernel
theorem lw_sgs:Lw 18 sgs:=⟨by decide,by decide⟩
theorem zl0:Lw 3 [93,125,41]:=⟨by decide,by decide⟩
theorem lw_mid:Lw 4 [91,45,32,45]:=⟨by decide,by decide⟩
inductive znb  (ds:List D) (q:D→Prop):Prop where
  | mk (cs:List Nat) (way cell:Int) (_:ds=[.str (textOf cs),.int way,.int cell]) (_:0≤way) (_:way<5) (_:0≤cell) (_:Lw 2000 cs) (_:∀cs':List Nat,Lw 4500 cs'→q (.str (textOf cs')))
def zga :Sp3:=vS znb
theorem zkd {k:Nat} (h:Has K mg "_law_changed" zcl ["text","way","cell"]) (G:Gs K mg):Cal3 P w K mg base (k+1) "_law_changed" ["text","way","cell"] zga:=by
  refine h.val zct (by rintro ds q ⟨_,_,_,e,_⟩;rw [e];rfl) fun f cdv A outer s0 H E ds q hr hA=>?_
  obtain ⟨cs,way,cell,rfl,w0,w5,hc0,hL,hq⟩:=hA
  have hlen:(textOf cs).length≤sizeLine:=hL.sz (by decide)
  have hlI:((textOf cs).length:Int)=(cs.length:Nat):=by rw [zah]
  have hcl:=hL.len
  have t0:0≤cell/512%18:=Int.emod_nonneg _ (by decide)
  have t1:cell/512%18<18:=Int.emod_lt_of_pos _ (by decide)
  have u0:0≤cell%3:=Int.emod_nonneg _ (by decide)
  have u1:cell%3<3:=Int.emod_lt_of_pos _ (by decide)
  have v0:0≤cell/64%3:=Int.emod_nonneg _ (by decide)
  have v1:cell/64%3<3:=Int.emod_lt_of_pos _ (by decide)
  have fin:∀{n:Nat} {cs':List Nat},Lw n cs'→n≤4500→q (.str (textOf cs')):=fun h e=>hq _ (h.mono e)
  refine ⟨_,(zab (zay (i:=3) zct.nd rfl (Or.inl rfl) (e_op zbt zam (e_v 2) (e_op za9 za2 (zaj zap zby rfl G.len PySem.boot_len (zaa (e_v 0) zae)) zac)))
 (zab (zay (i:=4) zct.nd rfl (Or.inl rfl) (e_ix zdp zdr zai (e_op zbt zam (e_op zcc zam (e_v 2) zac) zac) (fun _ _=>rfl)))
 (zab (s_if (zao zbl zcf (e_v 1) zac (nomark _)) (zak (zau (e_op zal za7 (zaw zbs zbu (e_v 0) zbi (za1 (e_v 3))) (zaw zbs zbu (e_v 0) (za1 (e_op za9 za2 (e_v 3) zac)) zbi)))) za5)
 (zab (s_if (zao zbl zcf (e_v 1) zac (nomark _)) (zak (zau (e_op zal za7 (e_op zal za7 (zaw zbs zbu (e_v 0) zbi (za1 (e_v 3))) (e_v 4)) (zaw zbs zbu (e_v 0) (za1 (e_v 3)) zbi)))) za5)
 (zab (s_if (zao zbl zcf (e_v 1) zac (nomark _)) (zak (zau (e_op zal za7 (e_op zal za7 (zaw zbs zbu (e_v 0) zbi (za1 (e_v 3))) (e_v 4)) (zaw zbs zbu (e_v 0) (za1 (e_op za9 za2 (e_v 3) zac)) zbi)))) za5)
 (zab (s_if (zao zbl zcf (e_v 1) zac (nomark _)) (zak (zau (zaw zbs zbu (e_v 0) zbi (za1 (e_v 3))))) za5)
 (zab (zpg (i:=5) (osc:=defScope zcl) (N:=["text","way","cell","at","sign","ends"]) (M:=["text"]) (js:=[0]) ⟨rfl,by decide +kernel,by decide +kernel,by decide +kernel,by decide +kernel,by decide +kernel,by decide +kernel⟩ (by decide +kernel) rfl (zco rfl G.range (zaa (zaj zap zby rfl G.len PySem.boot_len (zaa (e_v 0) zae)) zae)) (fun _ _ _ _ _=>(ts_one (zao zfm zmv (e_ix zdp zdr (e_v 1) (e_v 0) (fun _ _=>rfl)) zai (by with_unfolding_all rfl)))) (fun _ _ _ _ _=>(e_v 0)) zct.nd rfl rfl)
 (zab (s_if (zao (zeh (zix hr)) zmw (e_v 5) (zkm zae) (nomark _)) (zak (zau (e_op zal za7 (e_op zal za7 (zaw zbs zbu (e_v 0) zbi (za1 (e_neg zac))) zai) (e_ix zdp zdr zai (e_op zbt zam (e_v 2) zac) (fun _ _=>rfl))))) za5)
 (zab (zay (i:=3) zct.nd rfl (Or.inl rfl) (e_ix zb2 zcq (e_v 5) (e_op zbt zam (e_v 2) (zaj zas zcp rfl G.len PySem.boot_len (zaa (e_v 5) zae))) (fun _ _=>rfl)))
 (zak (zau (e_op zal za7 (e_op zal za7 (zaw zbs zbu (e_v 0) zbi (za1 (e_v 3))) (e_ix zdp zdr zai (e_op zbt zam (e_op zcc zam (e_v 2) zac) zac) (fun _ _=>rfl))) (zaw zbs zbu (e_v 0) (za1 (e_op za9 za2 (e_v 3) zac)) zbi))))))))))))),?_⟩
  nofun
  refine j_pick5 s_sgs lw_sgs (by decide) t0 t1 fun sg hsg=>?_
  nofun
  by_cases k0:way=0
  · nofun
    refine j_slT5 hL (by decide) fun a ha=>?_
    nofun
    refine j_slT5 hL (by decide) fun b hb=>?_
    refine j_add5 ha hb (by decide) fun c hc=>?_
    exact fin hc (by decide)
  by_cases k1:way=1
  · nofun
    refine j_slT5 hL (by decide) fun a ha=>?_
    nofun
    refine j_add5 ha hsg (by decide) fun b hb=>?_
    nofun
    refine j_slT5 hL (by decide) fun c hc=>?_
    refine j_add5 hb hc (by decide) fun d hd=>?_
    exact fin hd (by decide)
  by_cases k2:way=2
  · nofun
    refine j_slT5 hL (by decide) fun a ha=>?_
    nofun
    refine j_add5 ha hsg (by decide) fun b hb=>?_
    nofun
    refine j_slT5 hL (by decide) fun c hc=>?_
    refine j_add5 hb hc (by decide) fun d hd=>?_
    exact fin hd (by decide)
  by_cases k3:way=3
  · nofun
    refine j_slT5 hL (by decide) fun a ha=>?_
    exact fin ha (by decide)
  nofun
  rw [hlI,Int.toNat_natCast]
  refine zoo (fun i=>decide (cs.getD i 0∈[93,125,41])) (fun i=>.int (i:Int)) (by rw [zbk];omega) trivial ?_ ?_
  · intro i d hd
    obtain ⟨hi,rfl⟩:=zc1 hd
    have hat:atI (textOf cs).cps.toList (0+(i:Int))=some (cs.getD i 0):=by
      rw [zad,Int.zero_add]
      refine zc5 ?_
      rw [List.getElem?_eq_getElem hi,List.getD_eq_getElem?_getD,List.getElem?_eq_getElem hi]
      rfl
    refine j_sh1 ⟨fun P hP=>?_,fun _ P hP=>?_⟩
    · nofun
      refine j_ixS hlen hat ?_
      refine j_inS ?_
      rw [show (⟨#[cs.getD i 0]⟩:Str)=textOf [cs.getD i 0] from rfl,zla,zlr]
      exact ⟨_,rfl,hP⟩
    · nofun
      rw [Int.zero_add]
      exact hP
  rw [zbk]
  have hel:((List.range cs.length).filter fun i=>decide (cs.getD i 0∈[93,125,41])).length≤cs.length:=by
    have:=List.length_filter_le (fun i=>decide (cs.getD i 0∈[93,125,41])) (List.range cs.length)
    rwa [List.length_range] at this
  generalize (List.range cs.length).filter (fun i=>decide (cs.getD i 0∈[93,125,41]))=es at hel ⊢
  intro pe hpe
  have a1:up emp pe (.lst (es.map fun i:Nat=>D.int (i:Int))) pe=some (.lst (es.map fun i:Nat=>D.int (i:Int))):=zaf
  generalize up emp pe (.lst (es.map fun i:Nat=>D.int (i:Int)))=S1 at a1 ⊢
  nofun
  intro p2 hp2
  have a2:=zax (o:=.lst []) a1 hp2
  have a3:up S1 p2 (.lst []) p2=some (.lst []):=zaf
  generalize up S1 p2 (.lst [])=S2 at a2 a3 ⊢
  refine eq_nil a2 a3 (fun d hd=>?_) (fun d hd=>?_) (by decide) ?_
  · obtain ⟨i,_,rfl⟩:=List.mem_map.mp hd
    rfl
  · obtain ⟨i,_,rfl⟩:=List.mem_map.mp hd
    show deepD (Dt.int _)+1≤200
    simp [deepD]
  cases es with
  | nil =>
    have ez:(([]:List Nat).map fun i:Nat=>D.int (i:Int)).isEmpty=true:=rfl
    rw [ez]
    nofun
    refine j_slT5 hL (by decide) fun a ha=>?_
    nofun
    rw [s_mid]
    refine j_add5 ha lw_mid (by decide) fun b hb=>?_
    nofun
    refine j_pick5 zla zl0 (by decide) u0 u1 fun c hc=>?_
    refine j_add5 hb hc (by decide) fun d hd=>?_
    exact fin hd (by decide)
  | cons e0 es =>
    have ez:((e0::es).map fun i:Nat=>D.int (i:Int)).isEmpty=false:=rfl
    rw [ez]
    have hne:(0:Int)<(((e0::es).map fun i:Nat=>D.int (i:Int)).length:Int):=by rw [List.length_map,List.length_cons];omega
    obtain ⟨j,v,ej,hv,hat⟩:=zi9 (f:=fun i:Nat=>D.int (i:Int)) (xs:=e0::es) cell (by simp)
    nofun
    refine j_ixL a2 hat ?_
    nofun
    refine j_slT5 hL (by decide) fun a ha=>?_
    nofun
    refine j_pick5 zla zl0 (by decide) v0 v1 fun b hb=>?_
    refine j_add5 ha hb (by decide) fun c hc=>?_
    nofun
    refine j_slT5 hL (by decide) fun d hd=>?_
    refine j_add5 hc hd (by decide) fun g hg=>?_
    exact fin hg (by decide)
noncomputable def askD:Option Er→D
  | none=>.bl true
  | some e=>e.d
inductive zqi  (ds:List D) (q:D→Prop):Prop where
  | mk (cs:List Nat) (_:ds=[.str (textOf cs)]) (_:cs.length≤5000) (_:(∀c∈cs,c<256)) (_:q (askD (pLine cs)))
def zgv :Sp3:=vS zqi
theorem zn8 {k:Nat} (h:Has K mg "_law_asked" zee ["text"]) (G:Gs K mg) (R:Rfs K mg ES adr) (C_read_line:Cal3 P w K mg base k "read_line" ["text"] (zen adr)):Cal3 P w K mg base (k+1) "_law_asked" ["text"] zgv:=by
  refine h.val zdh (by rintro ds q ⟨cs,e,_⟩;rw [e];rfl) fun f cdv A outer s0 H E ds q hr hA=>?_
  obtain ⟨cs,rfl,hl,h256,hq⟩:=hA
  refine ⟨_,(zab (zay (i:=1) zdh.nd rfl (Or.inl rfl) zdk)
 (zab (s_try rfl rfl (fun _ _ _=>(zak (zay (i:=1) zdh.nd rfl (Or.inl rfl) (za0 C_read_line hr rfl (zaa (e_v 0) zae))))) (h_as (i:=2) (R.bound .err (by decide)) (R.base (i:=.err) (by decide)) rfl zdh.nd rfl rfl (fun _=>(zab (zay (i:=1) zdh.nd rfl (Or.inl rfl) (zkn (zaj zhi (zmt R) rfl G.isinstance boot_isinstance (zaa (e_v 2) (zaa (zdy (R.bound .text (by decide)) rfl) zae))) (zmm (zaj zhi (zmt R) rfl G.isinstance boot_isinstance (zaa (e_v 2) (zaa (zdq (n:="ValueError") rfl G.ValueError PyProof.Rows.Boot.«ValueError») zae))))))
 (zak (zay (i:=1) zdh.nd rfl (Or.inl rfl) (zkn (e_v 1) (zmm (e_not (zaj zhi (zmt R) rfl G.isinstance boot_isinstance (zaa (e_v 2) (zaa (zbx (zaa (zdy (R.bound .apart (by decide)) rfl) (zaa (zdy (R.bound .such (by decide)) rfl) (zaa (zdy (R.bound .way (by decide)) rfl) (zaa (zdy (R.bound .many (by decide)) rfl) (zaa (zdy (R.bound .twice (by decide)) rfl) (zaa (zdy (R.bound .count (by decide)) rfl) zae))))))) zae)))))))))) h_nil))
 (zak (zau (e_v 1))))),?_⟩
  nofun
  refine ⟨cs,rfl,hl,h256,fun e he=>?_,fun he a=>?_⟩
  · rw [he] at hq
    nofun
    exact hq
  · rw [he] at hq
    refine j_hit (R.two .text (by decide) .err (by decide)) fun ha=>?_
    nofun
    refine j_isE (i:=.text) (j:=.text) zaf (by decide) (by decide) ?_
    nofun
    refine j_isEV (i:=.text) zaf (by decide) ?_
    nofun
    refine j_isET [.apart,.such,.way,.many,.twice,.count] (i:=.text) zaf (by decide) (by decide) ?_
    nofun
    exact hq
theorem zj5:∀{xs:List Str} {ns:List Nat} {x:Str} {n:Nat},arOf xs ns x=some n→x∈xs
  | [],_,_,_,h=>by simp [arOf] at h
  | _::_,[],_,_,h=>by simp [arOf] at h
  | y::xs,m::ns,x,n,h=>by
    rw [arOf] at h
    by_cases c:x=y
    · rw [c];exact List.mem_cons_self
    · rw [if_neg c] at h;exact List.mem_cons_of_mem _ (zj5 h)
theorem zlx {x:Str} (h:NameOk x):x.cps.toList.length≤8:=(zdv h).2.l8
mutual
theorem zd7 {ar:Str→Option Nat} {ps:List Str} (ha:∀x n,ar x=some n→NameOk x) (hp:∀p∈ps,NameOk p):∀s:Sy,s.wf ar ps→okS s
  | .name x,h=>hp x h
  | .bud,_=>trivial
  | .left a,h=>zd7 ha hp a h
  | .right a,h=>zd7 ha hp a h
  | .pair a b,h=>⟨zd7 ha hp a h.1,zd7 ha hp b h.2⟩
  | .fork a b c,h=>⟨zd7 ha hp a h.1,zd7 ha hp b h.2.1,zd7 ha hp c h.2.2⟩
  | .send x as,h=>⟨ha x _ h.1,h.2.1,h.2.2.1,zlv ha hp as h.2.2.2⟩
theorem zlv {ar:Str→Option Nat} {ps:List Str} (ha:∀x n,ar x=some n→NameOk x) (hp:∀p∈ps,NameOk p):∀as:List Sy,Sy.wfs ar ps as→okSs as
  | [],_=>trivial
  | a::as,h=>⟨zd7 ha hp a h.1,zlv ha hp as h.2⟩
end
noncomputable def Bt:Nat→Nat
  | 0=>0
  | n+1=>4*Bt n+13
noncomputable def Bp:Nat→Nat
  | 0=>0
  | n+1=>4*Bp n+1
theorem zot {b:Nat}:∀{as:List Sy},(∀a∈as,(tx a).length≤b)→(txt as).length≤as.length*(b+1)
  | [],_=>by simp [txt]
  | a::as,h=>by
    have h1:=h a List.mem_cons_self
    have h2:=zot fun x hx=>h x (List.mem_cons_of_mem _ hx)
    rw [txt,List.length_cons,List.length_append,List.length_cons,Nat.succ_mul]
    omega
theorem zlh {b:Nat}:∀{as:List Sy},(∀a∈as,a.pre.length≤b)→(Sy.pres as).length≤as.length*b
  | [],_=>by simp [Sy.pres]
  | a::as,h=>by
    have h1:=h a List.mem_cons_self
    have h2:=zlh fun x hx=>h x (List.mem_cons_of_mem _ hx)
    rw [Sy.pres,List.length_append,List.length_cons,Nat.succ_mul]
    omega
theorem zd3:∀(n:Nat) (s:Sy),okS s→s.deep≤n→(tx s).length≤Bt n∧s.pre.length≤Bp n
  | 0,s,_,hd=>by cases s<;>simp [Sy.deep] at hd
  | n+1,.name x,h,_=>by
    have:=zlx h
    rw [tx,Bt,Bp,Sy.pre,List.length_cons,List.length_nil]
    omega
  | n+1,.bud,_,_=>by rw [tx,Bt,Bp];simp [Sy.pre]
  | n+1,.left a,h,hd=>by
    rw [Sy.deep] at hd
    have:=zd3 n a h (by omega)
    rw [tx,Sy.pre,Bt,Bp]
    simp only [List.length_cons]
    omega
  | n+1,.right a,h,hd=>by
    rw [Sy.deep] at hd
    have:=zd3 n a h (by omega)
    rw [tx,Sy.pre,Bt,Bp]
    simp only [List.length_cons]
    omega
  | n+1,.pair a b,h,hd=>by
    rw [Sy.deep] at hd
    have:=zd3 n a h.1 (by omega)
    have:=zd3 n b h.2 (by omega)
    rw [tx,Sy.pre,Bt,Bp]
    simp only [List.length_cons,List.length_append,List.length_nil]
    omega
  | n+1,.fork a b c,h,hd=>by
    rw [Sy.deep] at hd
    have:=zd3 n a h.1 (by omega)
    have:=zd3 n b h.2.1 (by omega)
    have:=zd3 n c h.2.2 (by omega)
    rw [tx,Sy.pre,Bt,Bp]
    simp only [List.length_cons,List.length_append,List.length_nil]
    omega
  | n+1,.send x as,h,hd=>by
    obtain ⟨hx,l1,l4,hs⟩:=h
    rw [Sy.deep] at hd
    have hm:∀a∈as,(tx a).length≤Bt n∧a.pre.length≤Bp n:=fun a ha=>zd3 n a (ze8 hs a ha) (by have:=zeb ha;omega)
    have h2:=zlh fun a ha=>(hm a ha).2
    have h3:=Nat.mul_le_mul_right (Bp n) l4
    have:=zlx hx
    cases as with
    | nil=>simp at l1
    | cons a as =>
      have h4:=(hm a List.mem_cons_self).1
      have h5:=zot fun b hb=>(hm b (List.mem_cons_of_mem _ hb)).1
      rw [List.length_cons] at l4
      have h6:=Nat.mul_le_mul_right (Bt n+1) (show as.length≤3 by omega)
      rw [tx,Sy.pre,Bt,Bp]
      simp only [List.length_cons,List.length_append,List.length_nil] at h2 h3 ⊢
      omega
theorem zcd {a b:List Nat} (h:∀c∈a,c<256) (h':∀c∈b,c<256):∀c∈a++b,c<256:=fun c hc=>(List.mem_append.mp hc).elim (h c) (h' c)
theorem zbf {x:Nat} {b:List Nat} (h:x<256) (h':∀c∈b,c<256):∀c∈x::b,c<256:=fun c hc=>(List.mem_cons.mp hc).elim (fun e=>e▸h) (h' c)
theorem zde:∀c∈([]:List Nat),c<256:=fun c hc=>nomatch hc
theorem zl1 {x:Str} (h:NameOk x):∀c∈x.cps.toList,c<256:=fun c hc=>by
  have:=of_decide_eq_true ((zdv h).2.ok c hc)
  omega
mutual
theorem zdm:∀s:Sy,okS s→∀c∈tx s,c<256
  | .name x,h=>by rw [tx];exact zl1 h
  | .bud,_=>by rw [tx];exact zbf (by decide) zde
  | .left a,h=>by rw [tx];exact zbf (by decide) (zdm a h)
  | .right a,h=>by rw [tx];exact zbf (by decide) (zdm a h)
  | .pair a b,h=>by rw [tx];exact zbf (by decide) (zcd (zcd (zdm a h.1) (zbf (by decide) (zcd (zdm b h.2) zde))) (zbf (by decide) zde))
  | .fork a b c,h=>by rw [tx];exact zbf (by decide) (zcd (zcd (zdm a h.1) (zbf (by decide) (zcd (zdm b h.2.1) (zbf (by decide) (zcd (zdm c h.2.2) zde))))) (zbf (by decide) zde))
  | .send x [],h=>by rw [tx];exact zcd (zl1 h.1) (zbf (by decide) (zbf (by decide) zde))
  | .send x (a::as),h=>by rw [tx];exact zcd (zl1 h.1) (zbf (by decide) (zcd (zcd (zdm a h.2.2.2.1) (zkv as h.2.2.2.2)) (zbf (by decide) zde)))
theorem zkv:∀as:List Sy,okSs as→∀c∈txt as,c<256
  | [],_=>by rw [txt];exact zde
  | a::as,h=>by rw [txt];exact zbf (by decide) (zcd (zdm a h.1) (zkv as h.2))
end
theorem zjx {c:Nat}:∀{ws:List (List Nat)} {w:List Nat} {d:Nat},d∈glue c w ws→d=c∨∃v∈w::ws,d∈v
  | [],w,d,h=>.inr ⟨w,List.mem_cons_self,h⟩
  | v::ws,w,d,h=>by
    rw [glue] at h
    rcases List.mem_append.mp h with h|h
    · exact .inr ⟨w,List.mem_cons_self,h⟩
    · rcases List.mem_cons.mp h with h|h
      · exact .inl h
      · rcases zjx h with h|⟨u,hu,hd⟩
        · exact .inl h
        · exact .inr ⟨u,List.mem_cons_of_mem _ hu,hd⟩
theorem t_58:textOf [58,32]=": ":=by decide +kernel
theorem zmg {b:Nat}:∀(ws:List (List Nat)) (w:List Nat),(∀v∈w::ws,v.length≤b)→(glue 32 w ws).length≤(ws.length+1)*(b+1)
  | [],w,h=>by
    have:=h w List.mem_cons_self
    simp only [glue,List.length_nil]
    omega
  | v::ws,w,h=>by
    have h1:=h w List.mem_cons_self
    have h2:=zmg ws v fun u hu=>h u (List.mem_cons_of_mem _ hu)
    rw [glue,List.length_append,List.length_cons,List.length_cons,Nat.succ_mul (ws.length+1)]
    omega
theorem ok_law {f:Addr} {fd:FuncData} (F:Fun K "law" "law" zgz f fd) (G:Gs K mg) (C_cell_at:Cal3 P w K mg base 99 "_law_cell_at" ["script","k"] zdg) (C_drawn:Cal3 P w K mg base 99 "_law_drawn" ["script","spot","most","deep"] (zjp 4)) (C_text:Cal3 P w K mg base 99 "_law_text" ["saying"] (zk0 4)) (C_changed:Cal3 P w K mg base 99 "_law_changed" ["text","way","cell"] zga)
    (C_line:Cal3 P w K mg base 99 "_law_line" ["text"] zk2) (C_asked:Cal3 P w K mg base 99 "_law_asked" ["text"] zgv) (C_is_errand:Cal3 P w K mg base 99 "_law_is_errand" ["found"] zep):FnOk P w K mg base (CX1 P w) 100 f fd ["script"] (lSp K lawS):=by
  refine zl4 F zge fun cdv A outer s H E ns hr h63=>?_
  refine ⟨_,(zab (zay (i:=1) zge.nd rfl (Or.inl rfl) (e_ix zb2 zcq (za0 C_drawn hr rfl (zaa (e_v 0) (zaa (zkm (zaa zac (zaa zac zae))) (zaa zac (zaa zac zae))))) zac (fun _ _=>rfl)))
 (zab (zay (i:=2) zge.nd rfl (Or.inl rfl) (e_op zal za7 (e_op zal za7 (e_op zal za7 (e_op zal za7 (e_ix zaq zar (e_v 1) zac (fun _ _=>rfl)) zai) (e_bm PySem.F.plainAttrs_str PySem.F.slot_str_join PySem.F.type_str_join zh4 zol zai (zaa (e_ix zaq zar (e_v 1) zac (fun _ _=>rfl)) zae))) zai) (za0 C_text hr rfl (zaa (e_ix zaq zar (e_v 1) zac (fun _ _=>rfl)) zae))))
 (zab (zay (i:=2) zge.nd rfl (Or.inl rfl) (za0 C_changed hr rfl (zaa (e_v 2) (zaa (e_op zbt zam (za0 C_cell_at hr rfl (zaa (e_v 0) (zaa zac zae))) zac) (zaa (e_op zbt zam (za0 C_cell_at hr rfl (zaa (e_v 0) (zaa zac zae))) (e_op zlq zam zac zac)) zae)))))
 (zab (zay (i:=3) zge.nd rfl (Or.inl rfl) (za0 C_line hr rfl (zaa (e_v 2) zae)))
 (zab (s_if (zao zhy zic (e_v 3) zdk (nomark _)) (zak (zau (zkn (zmp zov zmu (za0 C_asked hr rfl (zaa (e_v 2) zae)) e_bl (nomark _)) (zmm (zmp zov zmu (za0 C_asked hr rfl (zaa (e_v 2) zae)) e_bl (nomark _)))))) za5)
 (zab (zay (i:=4) zge.nd rfl (Or.inl rfl) (za0 C_asked hr rfl (zaa (e_v 2) zae)))
 (zak (zau (zkn (za0 C_is_errand hr rfl (zaa (e_v 4) zae)) (zkn (zmp (zeh (zix hr)) zmw (e_v 4) (e_v 3) (nomark _)) (zmm (zmp (zeh (zix hr)) zmw (za0 C_asked hr rfl (zaa (e_v 2) zae)) (e_v 3) (nomark _))))))))))))),?_⟩
  have cell:∀{k:Int} {S:Hp3} {Q:K3} {W:X3},0≤k→Q (.int (cellAt ns k)) S→zdg [.rol (ns.map D.int),.int k] S Q W:=fun h0 q=>⟨ns,_,rfl,h0,q⟩
  nofun
  intro sp hsp
  nofun
  refine ⟨ns,sp,2,8,2,4,rfl,zaf,by decide,by decide,by decide,by decide,by decide,by decide,fun prog i2 b2 hg=>?_⟩
  intro pr hpr
  generalize hS1:up _ pr (.lst (prog.map Er.d))=S1
  have h1:S1 pr=some (.lst (prog.map Er.d)):=by rw [←hS1];exact zaf
  clear hS1
  have hlen1:=hg.len1
  match prog,hlen1,h1,hg with
  | e::r,_,h1,hg =>
  have h1:S1 pr=some (.lst (e.d::r.map Er.d)):=h1
  have hed:e.d=.tup [.str e.name,.tup (e.ps.map D.str),e.body.d]:=rfl
  have he:=List.mem_cons_self (a:=e) (l:=r)
  obtain ⟨hw,hd⟩:=hg.wf e he
  obtain ⟨p1,p4,_,pk⟩:=hg.ps e he
  have hnm:=hg.nm e he
  have ok:okS e.body:=zd7 (fun x n hn=>by
    obtain ⟨e2,he2,rfl⟩:=List.mem_map.mp (zj5 hn)
    exact hg.nm e2 he2) pk _ hw
  obtain ⟨t1,t2⟩:=zd3 4 _ ok hd
  have eb:Bt 4=1105:=by decide
  nofun
  rw [hed]
  nofun
  obtain ⟨enm,hwn⟩:=zdv hnm
  have lown:∀{x:Str},NameOk x→Lw 8 x.cps.toList:=fun {x} hx=>⟨zlx hx,fun c hc=>by
    obtain ⟨_,hw⟩:=zdv hx
    have:=of_decide_eq_true (hw.ok c hc)
    omega⟩
  have lnm:=lown hnm
  have l32:Lw 1 [32]:=⟨by decide,by decide⟩
  have l58:Lw 2 [58,32]:=⟨by decide,by decide⟩
  have h32:(textOf [32]).length=1:=by rw [zah];rfl
  rw [enm,←t_32]
  refine j_add5 lnm l32 (by decide) fun c1 lc1=>?_
  nofun
  have hps:e.ps=(e.ps.map fun p=>p.cps.toList).map textOf:=by
    rw [List.map_map]
    conv=>lhs;rw [←List.map_id e.ps]
    exact List.map_congr_left fun p hp=>(zdv (pk p hp)).1
  have lps:∀v∈e.ps.map fun p=>p.cps.toList,Lw 8 v:=fun v hv=>by
    obtain ⟨p,hp,rfl⟩:=List.mem_map.mp hv
    exact lown (pk p hp)
  have lnps:(e.ps.map fun p=>p.cps.toList).length≤4:=by rw [List.length_map];exact p4
  have lnps1:1≤(e.ps.map fun p=>p.cps.toList).length:=by rw [List.length_map];exact p1
  generalize (e.ps.map fun p=>p.cps.toList)=ws at hps lps lnps lnps1
  obtain ⟨v0,wr,rfl⟩:∃v0 wr,ws=v0::wr:=List.exists_cons_of_length_pos (by omega)
  have lg:Lw 45 (glue 32 v0 wr):=by
    refine ⟨?_,fun c hc=>?_⟩
    · have h1:=zmg (b:=8) wr v0 fun v hv=>(lps v hv).len
      rw [List.length_cons] at lnps
      have h2:=Nat.mul_le_mul_right (8+1) (show wr.length+1≤4 by omega)
      omega
    · rcases zjx hc with rfl|⟨v,hv,hd⟩
      · decide
      · exact (lps v hv).low c hd
  have hgl:=zhd wr v0
  have hgl2:=lg.len
  refine ⟨textOf [32],(v0::wr).map textOf,rfl,by rw [←hps],?_,?_⟩
  · rw [zfd,h32]
    simp only [List.length_map,List.length_cons] at lnps hgl ⊢
    omega
  rw [zh6]
  refine j_add5 lc1 lg (by decide) fun c2 lc2=>?_
  rw [←t_58]
  refine j_add5 lc2 l58 (by decide) fun c3 lc3=>?_
  nofun
  have lbd:Lw 1105 (tx e.body):=⟨by omega,zdm _ ok⟩
  refine ⟨e.body,rfl,ok,hd,by omega,?_⟩
  refine j_add5 lc3 lbd (by decide) fun c4 lc4=>?_
  nofun
  refine cell (by decide) ?_
  nofun
  refine cell (by decide) ?_
  nofun
  have t9:(0:Int)<10^(Int.toNat 9):=by decide
  refine ⟨c4,_,_,rfl,Int.emod_nonneg _ (by decide),Int.emod_lt_of_pos _ (by decide),Int.emod_nonneg _ (by decide),lc4.mono (by decide),fun c5 lc5=>?_⟩
  have l5:=lc5.len
  nofun
  refine ⟨c5,rfl,by omega,?_⟩
  have ask:∀{S:Hp3} {Q:K3} {W:X3},Q (askD (pLine c5)) S→zgv [.str (textOf c5)] S Q W:=fun q=>⟨c5,rfl,by omega,lc5.low,q⟩
  cases epl:pLine c5 with
  | none =>
    simp only [lineD]
    nofun
    refine ask ?_
    rw [epl]
    simp only [askD]
    refine j_isB2 ?_
    nofun
    refine ask ?_
    rw [epl]
    simp only [askD]
    exact j_isB2 rfl
  | some er =>
    obtain ⟨x,hx1,hx2⟩:∃x,pS 12 (hv2 c5).cps.toList=some x∧er=⟨(wsOf c5).headD "",(wsOf c5).tail,x.1⟩∧hdOk c5=true:=by
      unfold pLine at epl
      by_cases k1:hv1 c5=""
      · rw [if_pos k1] at epl;cases epl
      · rw [if_neg k1] at epl
        by_cases k2:hdOk c5=true
        · rw [if_pos k2] at epl
          obtain ⟨x,e1,e2⟩:=Option.bind_eq_some_iff.mp epl
          by_cases k3:x.2=[]
          · rw [if_pos k3] at e2
            cases e2
            exact ⟨x,e1,rfl,k2⟩
          · rw [if_neg k3] at e2;cases e2
        · rw [if_neg k2] at epl;cases epl
    obtain ⟨hx2,hx3⟩:=hx2
    have hsnd:=zou 12 _ _ _ (show pS 12 (hv2 c5).cps.toList=some (x.1,x.2) from hx1)
    have hps2:er.ps.length≤100:=by
      rw [hx2]
      unfold hdOk at hx3
      simp only [Bool.and_eq_true,decide_eq_true_eq] at hx3
      show (wsOf c5).tail.length≤100
      rw [List.length_tail]
      omega
    have hbd:er.body=x.1:=by rw [hx2]
    have hpu:=Er.d_pure er
    have hde:deepD er.d.dt≤200:=Nat.le_trans (Er.d_deep er) (by rw [hbd];have:=hsnd.2;omega)
    simp only [lineD]
    have hnn:isNon er.d=false:=rfl
    nofun
    refine ask ?_
    rw [epl]
    simp only [askD]
    nofun
    refine ⟨er,rfl,by rw [hbd];exact hsnd.1,by rw [hbd];exact hsnd.2,hps2,?_⟩
    nofun
    refine zml hpu hde ?_
    nofun
    refine ask ?_
    rw [epl]
    simp only [askD]
    nofun
    refine zml hpu hde ?_
    rfl
end
theorem all_mk {l:PySem.W.OpenLaw} {w:World} {K:PySem.W.Frag} {h:Heap} {mg:Str→Option Value} {fa f_read_line f_refuse_unfit_name f_is_letter f_refuse_unfit_count f_cell_at f_names f_next f_saying f_drawn f_text f_is_saying f_is_errand f_word f_row f_at f_line f_changed f_asked f_R_init f_R_sign_here f_R_read_saying f_R_read_named f_R_read_word f_R_read_row f_R_refuse_rest f_law:Addr}
    (X:K.In h) (G:h.Ns mainGlobals mg) (hfa:mg "law"=some (.ref fa))
    {od_read_line an_read_line od_refuse_unfit_name an_refuse_unfit_name od_is_letter an_is_letter od_refuse_unfit_count an_refuse_unfit_count od_cell_at an_cell_at od_names an_names od_next an_next od_saying an_saying od_drawn an_drawn od_text an_text od_is_saying an_is_saying od_is_errand an_is_errand od_word an_word od_row an_row od_at an_at od_line an_line od_changed an_changed od_asked an_asked od_R_init an_R_init od_R_sign_here an_R_sign_here od_R_read_saying an_R_read_saying od_R_read_named an_R_read_named od_R_read_word an_R_read_word od_R_read_row an_R_read_row od_R_refuse_rest an_R_refuse_rest od_law an_law:Option Addr}
    {sl_read_line sl_refuse_unfit_name sl_is_letter sl_refuse_unfit_count sl_cell_at sl_names sl_next sl_saying sl_drawn sl_text sl_is_saying sl_is_errand sl_word sl_row sl_at sl_line sl_changed sl_asked sl_R_init sl_R_sign_here sl_R_read_saying sl_R_read_named sl_R_read_word sl_R_read_row sl_R_refuse_rest sl_law:Array (Option Value)}
    {oc_read_line kV_read_line dc_read_line pm_read_line cd_read_line ct_read_line oc_refuse_unfit_name kV_refuse_unfit_name dc_refuse_unfit_name pm_refuse_unfit_name cd_refuse_unfit_name ct_refuse_unfit_name oc_is_letter kV_is_letter dc_is_letter pm_is_letter cd_is_letter ct_is_letter oc_refuse_unfit_count kV_refuse_unfit_count dc_refuse_unfit_count pm_refuse_unfit_count cd_refuse_unfit_count ct_refuse_unfit_count oc_cell_at kV_cell_at dc_cell_at pm_cell_at cd_cell_at ct_cell_at oc_names kV_names dc_names pm_names cd_names ct_names oc_next kV_next dc_next pm_next cd_next ct_next oc_saying kV_saying dc_saying pm_saying cd_saying ct_saying oc_drawn kV_drawn dc_drawn pm_drawn cd_drawn ct_drawn oc_text kV_text dc_text pm_text cd_text ct_text oc_is_saying kV_is_saying dc_is_saying pm_is_saying cd_is_saying ct_is_saying oc_is_errand kV_is_errand dc_is_errand pm_is_errand cd_is_errand ct_is_errand oc_word kV_word dc_word pm_word cd_word ct_word oc_row kV_row dc_row pm_row cd_row ct_row oc_at kV_at dc_at pm_at zm4 ct_at oc_line kV_line dc_line pm_line cd_line ct_line oc_changed kV_changed dc_changed pm_changed cd_changed ct_changed oc_asked kV_asked dc_asked pm_asked cd_asked ct_asked oc_R_init kV_R_init dc_R_init pm_R_init cd_R_init ct_R_init oc_R_sign_here kV_R_sign_here dc_R_sign_here pm_R_sign_here cd_R_sign_here ct_R_sign_here oc_R_read_saying kV_R_read_saying dc_R_read_saying pm_R_read_saying cd_R_read_saying ct_R_read_saying oc_R_read_named kV_R_read_named dc_R_read_named pm_R_read_named cd_R_read_named ct_R_read_named oc_R_read_word kV_R_read_word dc_R_read_word pm_R_read_word cd_R_read_word ct_R_read_word oc_R_read_row kV_R_read_row dc_R_read_row pm_R_read_row cd_R_read_row ct_R_read_row oc_R_refuse_rest kV_R_refuse_rest dc_R_refuse_rest pm_R_refuse_rest cd_R_refuse_rest ct_R_refuse_rest oc_law kV_law dc_law pm_law cd_law ct_law:Value}
    {tk_MOST_LETTERS tk_MOST_IN_ROW tk_MOST_DEEP:Tok}
    {CR:Addr}
    (aC:PySem.W.nsIn K mainGlobals "SayingReader"=some (some (.ref CR)))
    (a_read_line:PySem.W.nsIn K mainGlobals "read_line"=some (some (.ref f_read_line)))
    (l_read_line:K.lookup f_read_line=some ⟨oc_read_line,od_read_line,.func (PySem.W.fnOf "read_line" "read_line" (defArgs zb4) (defBody zb4) (defScope zb4) .none kV_read_line dc_read_line pm_read_line an_read_line cd_read_line ct_read_line),sl_read_line⟩)
    (c_read_line:PySem.W.codeIn K cd_read_line "read_line"=true) (k_read_line:PySem.W.keepIn K (.ref f_read_line)=true)
    (a_refuse_unfit_name:PySem.W.nsIn K mainGlobals "refuse_unfit_name"=some (some (.ref f_refuse_unfit_name)))
    (l_refuse_unfit_name:K.lookup f_refuse_unfit_name=some ⟨oc_refuse_unfit_name,od_refuse_unfit_name,.func (PySem.W.fnOf "refuse_unfit_name" "refuse_unfit_name" (defArgs zav) (defBody zav) (defScope zav) .none kV_refuse_unfit_name dc_refuse_unfit_name pm_refuse_unfit_name an_refuse_unfit_name cd_refuse_unfit_name ct_refuse_unfit_name),sl_refuse_unfit_name⟩)
    (c_refuse_unfit_name:PySem.W.codeIn K cd_refuse_unfit_name "refuse_unfit_name"=true) (k_refuse_unfit_name:PySem.W.keepIn K (.ref f_refuse_unfit_name)=true)
    (a_is_letter:PySem.W.nsIn K mainGlobals "is_letter"=some (some (.ref f_is_letter)))
    (l_is_letter:K.lookup f_is_letter=some ⟨oc_is_letter,od_is_letter,.func (PySem.W.fnOf "is_letter" "is_letter" (defArgs zb5) (defBody zb5) (defScope zb5) .none kV_is_letter dc_is_letter pm_is_letter an_is_letter cd_is_letter ct_is_letter),sl_is_letter⟩)
    (c_is_letter:PySem.W.codeIn K cd_is_letter "is_letter"=true) (k_is_letter:PySem.W.keepIn K (.ref f_is_letter)=true)
    (a_refuse_unfit_count:PySem.W.nsIn K mainGlobals "refuse_unfit_count"=some (some (.ref f_refuse_unfit_count)))
    (l_refuse_unfit_count:K.lookup f_refuse_unfit_count=some ⟨oc_refuse_unfit_count,od_refuse_unfit_count,.func (PySem.W.fnOf "refuse_unfit_count" "refuse_unfit_count" (defArgs zaz) (defBody zaz) (defScope zaz) .none kV_refuse_unfit_count dc_refuse_unfit_count pm_refuse_unfit_count an_refuse_unfit_count cd_refuse_unfit_count ct_refuse_unfit_count),sl_refuse_unfit_count⟩)
    (c_refuse_unfit_count:PySem.W.codeIn K cd_refuse_unfit_count "refuse_unfit_count"=true) (k_refuse_unfit_count:PySem.W.keepIn K (.ref f_refuse_unfit_count)=true)
    (a_cell_at:PySem.W.nsIn K mainGlobals "_law_cell_at"=some (some (.ref f_cell_at)))
    (l_cell_at:K.lookup f_cell_at=some ⟨oc_cell_at,od_cell_at,.func (PySem.W.fnOf "_law_cell_at" "_law_cell_at" (defArgs zcu) (defBody zcu) (defScope zcu) .none kV_cell_at dc_cell_at pm_cell_at an_cell_at cd_cell_at ct_cell_at),sl_cell_at⟩)
    (c_cell_at:PySem.W.codeIn K cd_cell_at "_law_cell_at"=true) (k_cell_at:PySem.W.keepIn K (.ref f_cell_at)=true)
    (a_names:PySem.W.nsIn K mainGlobals "_law_names"=some (some (.ref f_names)))
    (l_names:K.lookup f_names=some ⟨oc_names,od_names,.func (PySem.W.fnOf "_law_names" "_law_names" (defArgs zcz) (defBody zcz) (defScope zcz) .none kV_names dc_names pm_names an_names cd_names ct_names),sl_names⟩)
    (c_names:PySem.W.codeIn K cd_names "_law_names"=true) (k_names:PySem.W.keepIn K (.ref f_names)=true)
    (a_next:PySem.W.nsIn K mainGlobals "_law_next"=some (some (.ref f_next)))
    (l_next:K.lookup f_next=some ⟨oc_next,od_next,.func (PySem.W.fnOf "_law_next" "_law_next" (defArgs zgg) (defBody zgg) (defScope zgg) .none kV_next dc_next pm_next an_next cd_next ct_next),sl_next⟩)
    (c_next:PySem.W.codeIn K cd_next "_law_next"=true) (k_next:PySem.W.keepIn K (.ref f_next)=true)
    (a_saying:PySem.W.nsIn K mainGlobals "_law_saying"=some (some (.ref f_saying)))
    (l_saying:K.lookup f_saying=some ⟨oc_saying,od_saying,.func (PySem.W.fnOf "_law_saying" "_law_saying" (defArgs zcy) (defBody zcy) (defScope zcy) .none kV_saying dc_saying pm_saying an_saying cd_saying ct_saying),sl_saying⟩)
    (c_saying:PySem.W.codeIn K cd_saying "_law_saying"=true) (k_saying:PySem.W.keepIn K (.ref f_saying)=true)
    (a_drawn:PySem.W.nsIn K mainGlobals "_law_drawn"=some (some (.ref f_drawn)))
    (l_drawn:K.lookup f_drawn=some ⟨oc_drawn,od_drawn,.func (PySem.W.fnOf "_law_drawn" "_law_drawn" (defArgs zdu) (defBody zdu) (defScope zdu) .none kV_drawn dc_drawn pm_drawn an_drawn cd_drawn ct_drawn),sl_drawn⟩)
    (c_drawn:PySem.W.codeIn K cd_drawn "_law_drawn"=true) (k_drawn:PySem.W.keepIn K (.ref f_drawn)=true)
    (a_text:PySem.W.nsIn K mainGlobals "_law_text"=some (some (.ref f_text)))
    (l_text:K.lookup f_text=some ⟨oc_text,od_text,.func (PySem.W.fnOf "_law_text" "_law_text" (defArgs zeq) (defBody zeq) (defScope zeq) .none kV_text dc_text pm_text an_text cd_text ct_text),sl_text⟩)
    (c_text:PySem.W.codeIn K cd_text "_law_text"=true) (k_text:PySem.W.keepIn K (.ref f_text)=true)
    (a_is_saying:PySem.W.nsIn K mainGlobals "_law_is_saying"=some (some (.ref f_is_saying)))
    (l_is_saying:K.lookup f_is_saying=some ⟨oc_is_saying,od_is_saying,.func (PySem.W.fnOf "_law_is_saying" "_law_is_saying" (defArgs zbn) (defBody zbn) (defScope zbn) .none kV_is_saying dc_is_saying pm_is_saying an_is_saying cd_is_saying ct_is_saying),sl_is_saying⟩)
    (c_is_saying:PySem.W.codeIn K cd_is_saying "_law_is_saying"=true) (k_is_saying:PySem.W.keepIn K (.ref f_is_saying)=true)
    (a_is_errand:PySem.W.nsIn K mainGlobals "_law_is_errand"=some (some (.ref f_is_errand)))
    (l_is_errand:K.lookup f_is_errand=some ⟨oc_is_errand,od_is_errand,.func (PySem.W.fnOf "_law_is_errand" "_law_is_errand" (defArgs zbw) (defBody zbw) (defScope zbw) .none kV_is_errand dc_is_errand pm_is_errand an_is_errand cd_is_errand ct_is_errand),sl_is_errand⟩)
    (c_is_errand:PySem.W.codeIn K cd_is_errand "_law_is_errand"=true) (k_is_errand:PySem.W.keepIn K (.ref f_is_errand)=true)
    (a_word:PySem.W.nsIn K mainGlobals "_law_word"=some (some (.ref f_word)))
    (l_word:K.lookup f_word=some ⟨oc_word,od_word,.func (PySem.W.fnOf "_law_word" "_law_word" (defArgs zgf) (defBody zgf) (defScope zgf) .none kV_word dc_word pm_word an_word cd_word ct_word),sl_word⟩)
    (c_word:PySem.W.codeIn K cd_word "_law_word"=true) (k_word:PySem.W.keepIn K (.ref f_word)=true)
    (a_row:PySem.W.nsIn K mainGlobals "_law_row"=some (some (.ref f_row)))
    (l_row:K.lookup f_row=some ⟨oc_row,od_row,.func (PySem.W.fnOf "_law_row" "_law_row" (defArgs s_row) (defBody s_row) (defScope s_row) .none kV_row dc_row pm_row an_row cd_row ct_row),sl_row⟩)
    (c_row:PySem.W.codeIn K cd_row "_law_row"=true) (k_row:PySem.W.keepIn K (.ref f_row)=true)
    (a_at:PySem.W.nsIn K mainGlobals "_law_at"=some (some (.ref f_at)))
    (l_at:K.lookup f_at=some ⟨oc_at,od_at,.func (PySem.W.fnOf "_law_at" "_law_at" (defArgs s_at) (defBody s_at) (defScope s_at) .none kV_at dc_at pm_at an_at zm4 ct_at),sl_at⟩)
    (c_at:PySem.W.codeIn K zm4 "_law_at"=true) (k_at:PySem.W.keepIn K (.ref f_at)=true)
    (a_line:PySem.W.nsIn K mainGlobals "_law_line"=some (some (.ref f_line)))
    (l_line:K.lookup f_line=some ⟨oc_line,od_line,.func (PySem.W.fnOf "_law_line" "_law_line" (defArgs zgh) (defBody zgh) (defScope zgh) .none kV_line dc_line pm_line an_line cd_line ct_line),sl_line⟩)
    (c_line:PySem.W.codeIn K cd_line "_law_line"=true) (k_line:PySem.W.keepIn K (.ref f_line)=true)
    (a_changed:PySem.W.nsIn K mainGlobals "_law_changed"=some (some (.ref f_changed)))
    (l_changed:K.lookup f_changed=some ⟨oc_changed,od_changed,.func (PySem.W.fnOf "_law_changed" "_law_changed" (defArgs zcl) (defBody zcl) (defScope zcl) .none kV_changed dc_changed pm_changed an_changed cd_changed ct_changed),sl_changed⟩)
    (c_changed:PySem.W.codeIn K cd_changed "_law_changed"=true) (k_changed:PySem.W.keepIn K (.ref f_changed)=true)
    (a_asked:PySem.W.nsIn K mainGlobals "_law_asked"=some (some (.ref f_asked)))
    (l_asked:K.lookup f_asked=some ⟨oc_asked,od_asked,.func (PySem.W.fnOf "_law_asked" "_law_asked" (defArgs zee) (defBody zee) (defScope zee) .none kV_asked dc_asked pm_asked an_asked cd_asked ct_asked),sl_asked⟩)
    (c_asked:PySem.W.codeIn K cd_asked "_law_asked"=true) (k_asked:PySem.W.keepIn K (.ref f_asked)=true)
    (a_R_init:PySem.W.findIn K (.ref CR) "__init__"=some (some (.ref f_R_init))) (i_R_init:PySem.W.isFn K (.ref f_R_init)=true)
    (l_R_init:K.lookup f_R_init=some ⟨oc_R_init,od_R_init,.func (PySem.W.fnOf "__init__" "SayingReader.__init__" (defArgs zdi) (defBody zdi) (defScope zdi) .none kV_R_init dc_R_init pm_R_init an_R_init cd_R_init ct_R_init),sl_R_init⟩)
    (c_R_init:PySem.W.codeIn K cd_R_init "SayingReader.__init__"=true) (k_R_init:PySem.W.keepIn K (.ref f_R_init)=true)
    (a_R_sign_here:PySem.W.findIn K (.ref CR) "sign_here"=some (some (.ref f_R_sign_here))) (i_R_sign_here:PySem.W.isFn K (.ref f_R_sign_here)=true)
    (l_R_sign_here:K.lookup f_R_sign_here=some ⟨oc_R_sign_here,od_R_sign_here,.func (PySem.W.fnOf "sign_here" "SayingReader.sign_here" (defArgs zbp) (defBody zbp) (defScope zbp) .none kV_R_sign_here dc_R_sign_here pm_R_sign_here an_R_sign_here cd_R_sign_here ct_R_sign_here),sl_R_sign_here⟩)
    (c_R_sign_here:PySem.W.codeIn K cd_R_sign_here "SayingReader.sign_here"=true) (k_R_sign_here:PySem.W.keepIn K (.ref f_R_sign_here)=true)
    (a_R_read_saying:PySem.W.findIn K (.ref CR) "read_saying"=some (some (.ref f_R_read_saying))) (i_R_read_saying:PySem.W.isFn K (.ref f_R_read_saying)=true)
    (l_R_read_saying:K.lookup f_R_read_saying=some ⟨oc_R_read_saying,od_R_read_saying,.func (PySem.W.fnOf "read_saying" "SayingReader.read_saying" (defArgs za8) (defBody za8) (defScope za8) .none kV_R_read_saying dc_R_read_saying pm_R_read_saying an_R_read_saying cd_R_read_saying ct_R_read_saying),sl_R_read_saying⟩)
    (c_R_read_saying:PySem.W.codeIn K cd_R_read_saying "SayingReader.read_saying"=true) (k_R_read_saying:PySem.W.keepIn K (.ref f_R_read_saying)=true)
    (a_R_read_named:PySem.W.findIn K (.ref CR) "read_named"=some (some (.ref f_R_read_named))) (i_R_read_named:PySem.W.isFn K (.ref f_R_read_named)=true)
    (l_R_read_named:K.lookup f_R_read_named=some ⟨oc_R_read_named,od_R_read_named,.func (PySem.W.fnOf "read_named" "SayingReader.read_named" (defArgs zbc) (defBody zbc) (defScope zbc) .none kV_R_read_named dc_R_read_named pm_R_read_named an_R_read_named cd_R_read_named ct_R_read_named),sl_R_read_named⟩)
    (c_R_read_named:PySem.W.codeIn K cd_R_read_named "SayingReader.read_named"=true) (k_R_read_named:PySem.W.keepIn K (.ref f_R_read_named)=true)
    (a_R_read_word:PySem.W.findIn K (.ref CR) "read_word"=some (some (.ref f_R_read_word))) (i_R_read_word:PySem.W.isFn K (.ref f_R_read_word)=true)
    (l_R_read_word:K.lookup f_R_read_word=some ⟨oc_R_read_word,od_R_read_word,.func (PySem.W.fnOf "read_word" "SayingReader.read_word" (defArgs zbq) (defBody zbq) (defScope zbq) .none kV_R_read_word dc_R_read_word pm_R_read_word an_R_read_word cd_R_read_word ct_R_read_word),sl_R_read_word⟩)
    (c_R_read_word:PySem.W.codeIn K cd_R_read_word "SayingReader.read_word"=true) (k_R_read_word:PySem.W.keepIn K (.ref f_R_read_word)=true)
    (a_R_read_row:PySem.W.findIn K (.ref CR) "read_row"=some (some (.ref f_R_read_row))) (i_R_read_row:PySem.W.isFn K (.ref f_R_read_row)=true)
    (l_R_read_row:K.lookup f_R_read_row=some ⟨oc_R_read_row,od_R_read_row,.func (PySem.W.fnOf "read_row" "SayingReader.read_row" (defArgs zbo) (defBody zbo) (defScope zbo) .none kV_R_read_row dc_R_read_row pm_R_read_row an_R_read_row cd_R_read_row ct_R_read_row),sl_R_read_row⟩)
    (c_R_read_row:PySem.W.codeIn K cd_R_read_row "SayingReader.read_row"=true) (k_R_read_row:PySem.W.keepIn K (.ref f_R_read_row)=true)
    (a_R_refuse_rest:PySem.W.findIn K (.ref CR) "refuse_rest"=some (some (.ref f_R_refuse_rest))) (i_R_refuse_rest:PySem.W.isFn K (.ref f_R_refuse_rest)=true)
    (l_R_refuse_rest:K.lookup f_R_refuse_rest=some ⟨oc_R_refuse_rest,od_R_refuse_rest,.func (PySem.W.fnOf "refuse_rest" "SayingReader.refuse_rest" (defArgs zbd) (defBody zbd) (defScope zbd) .none kV_R_refuse_rest dc_R_refuse_rest pm_R_refuse_rest an_R_refuse_rest cd_R_refuse_rest ct_R_refuse_rest),sl_R_refuse_rest⟩)
    (c_R_refuse_rest:PySem.W.codeIn K cd_R_refuse_rest "SayingReader.refuse_rest"=true) (k_R_refuse_rest:PySem.W.keepIn K (.ref f_R_refuse_rest)=true)
    (a_law:PySem.W.nsIn K mainGlobals "law"=some (some (.ref f_law)))
    (l_law:K.lookup f_law=some ⟨oc_law,od_law,.func (PySem.W.fnOf "law" "law" (defArgs zgz) (defBody zgz) (defScope zgz) .none kV_law dc_law pm_law an_law cd_law ct_law),sl_law⟩)
    (c_law:PySem.W.codeIn K cd_law "law"=true) (k_law:PySem.W.keepIn K (.ref f_law)=true)
    (z_len:PySem.W.nsIn K mainGlobals "len"=some none)
    (z_range:PySem.W.nsIn K mainGlobals "range"=some none)
    (z_isinstance:PySem.W.nsIn K mainGlobals "isinstance"=some none)
    (z_str:PySem.W.nsIn K mainGlobals "str"=some none)
    (z_tuple:PySem.W.nsIn K mainGlobals "tuple"=some none)
    (z_list:PySem.W.nsIn K mainGlobals "list"=some none)
    (z_all:PySem.W.nsIn K mainGlobals "all"=some none)
    (z_ValueError:PySem.W.nsIn K mainGlobals "ValueError"=some none)
    (z_MOST_LETTERS:PySem.W.nsIn K mainGlobals "MOST_LETTERS"=some (some (.int 8 tk_MOST_LETTERS)))
    (z_MOST_IN_ROW:PySem.W.nsIn K mainGlobals "MOST_IN_ROW"=some (some (.int 4 tk_MOST_IN_ROW)))
    (z_MOST_DEEP:PySem.W.nsIn K mainGlobals "MOST_DEEP"=some (some (.int 12 tk_MOST_DEEP)))
    {ad_err ad_text ad_twice ad_such ad_count ad_apart ad_many ad_way:Addr}
    (x_err:PySem.W.nsIn K mainGlobals "ErrandError"=some (some (.ref ad_err)))
    (x_text:PySem.W.nsIn K mainGlobals "BadText"=some (some (.ref ad_text)))
    (x_twice:PySem.W.nsIn K mainGlobals "Twice"=some (some (.ref ad_twice)))
    (x_such:PySem.W.nsIn K mainGlobals "NoSuch"=some (some (.ref ad_such)))
    (x_count:PySem.W.nsIn K mainGlobals "WrongCount"=some (some (.ref ad_count)))
    (x_apart:PySem.W.nsIn K mainGlobals "Apart"=some (some (.ref ad_apart)))
    (x_many:PySem.W.nsIn K mainGlobals "TooMany"=some (some (.ref ad_many)))
    (x_way:PySem.W.nsIn K mainGlobals "NoWay"=some (some (.ref ad_way)))
    (x_all:rfAll K [(.err,ad_err),(.text,ad_text),(.twice,ad_twice),(.such,ad_such),(.count,ad_count),(.apart,ad_apart),(.many,ad_many),(.way,ad_way)]=true)
    (pgC:PySem.W.plainGet K CR Str.empty=true) (hdC:PySem.W.hasDictIn K CR=true) (poC:PySem.W.plainOver K CR=true) (saC:PySem.W.findIn K (.ref CR) "__setattr__"=some (some (.builtin "object.__setattr__"))) (mkC:PySem.W.makesIn K CR=true) (kcC:PySem.W.keepIn K (.ref CR)=true)
    (n_text:PySem.W.findIn K (.ref CR) "text"=some none)
    (n_place:PySem.W.findIn K (.ref CR) "place"=some none) :
    ∃fd:FuncData,(∀(s:Shared) (v:Value),BindsTo s fd ⟨[v],[]⟩ [("script",v)])∧∀base:Heap,K.In base→base.Ns mainGlobals mg→FnOk l.prog w K mg base (CX1 l.prog w) 100 fa fd ["script"] (lSp K lawS):=by
  have e:=hfa.symm.trans (PySem.W.mg_of X G a_law)
  cases e
  have H_read_line:Has K mg "read_line" zb4 ["text"]:=zb3 X G a_read_line l_read_line c_read_line k_read_line fun _ _ _ _ _ _ us hl=>by obtain ⟨_,rfl⟩:=ln1 hl;rfl
  have H_refuse_unfit_name:Has K mg "refuse_unfit_name" zav ["word"]:=zb3 X G a_refuse_unfit_name l_refuse_unfit_name c_refuse_unfit_name k_refuse_unfit_name fun _ _ _ _ _ _ us hl=>by obtain ⟨_,rfl⟩:=ln1 hl;rfl
  have H_is_letter:Has K mg "is_letter" zb5 ["sign"]:=zb3 X G a_is_letter l_is_letter c_is_letter k_is_letter fun _ _ _ _ _ _ us hl=>by obtain ⟨_,rfl⟩:=ln1 hl;rfl
  have H_refuse_unfit_count:Has K mg "refuse_unfit_count" zaz ["row","least","most"]:=zb3 X G a_refuse_unfit_count l_refuse_unfit_count c_refuse_unfit_count k_refuse_unfit_count fun _ _ _ _ _ _ us hl=>by obtain ⟨_,_,_,rfl⟩:=ln3 hl;rfl
  have H_cell_at:Has K mg "_law_cell_at" zcu ["script","k"]:=zb3 X G a_cell_at l_cell_at c_cell_at k_cell_at fun _ _ _ _ _ _ us hl=>by obtain ⟨_,_,rfl⟩:=ln2 hl;rfl
  have H_names:Has K mg "_law_names" zcz ["cell","many"]:=zb3 X G a_names l_names c_names k_names fun _ _ _ _ _ _ us hl=>by obtain ⟨_,_,rfl⟩:=ln2 hl;rfl
  have H_next:Has K mg "_law_next" zgg ["script","spot"]:=zb3 X G a_next l_next c_next k_next fun _ _ _ _ _ _ us hl=>by obtain ⟨_,_,rfl⟩:=ln2 hl;rfl
  have H_saying:Has K mg "_law_saying" zcy ["script","spot","names","counts","params","deep"]:=zb3 X G a_saying l_saying c_saying k_saying fun _ _ _ _ _ _ us hl=>by obtain ⟨_,_,_,_,_,_,rfl⟩:=ln6 hl;rfl
  have H_drawn:Has K mg "_law_drawn" zdu ["script","spot","most","deep"]:=zb3 X G a_drawn l_drawn c_drawn k_drawn fun _ _ _ _ _ _ us hl=>by obtain ⟨_,_,_,_,rfl⟩:=ln4 hl;rfl
  have H_text:Has K mg "_law_text" zeq ["saying"]:=zb3 X G a_text l_text c_text k_text fun _ _ _ _ _ _ us hl=>by obtain ⟨_,rfl⟩:=ln1 hl;rfl
  have H_is_saying:Has K mg "_law_is_saying" zbn ["found"]:=zb3 X G a_is_saying l_is_saying c_is_saying k_is_saying fun _ _ _ _ _ _ us hl=>by obtain ⟨_,rfl⟩:=ln1 hl;rfl
  have H_is_errand:Has K mg "_law_is_errand" zbw ["found"]:=zb3 X G a_is_errand l_is_errand c_is_errand k_is_errand fun _ _ _ _ _ _ us hl=>by obtain ⟨_,rfl⟩:=ln1 hl;rfl
  have H_word:Has K mg "_law_word" zgf ["text","at"]:=zb3 X G a_word l_word c_word k_word fun _ _ _ _ _ _ us hl=>by obtain ⟨_,_,rfl⟩:=ln2 hl;rfl
  have H_row:Has K mg "_law_row" s_row ["text","at","end","deep"]:=zb3 X G a_row l_row c_row k_row fun _ _ _ _ _ _ us hl=>by obtain ⟨_,_,_,_,rfl⟩:=ln4 hl;rfl
  have H_at:Has K mg "_law_at" s_at ["text","at","deep"]:=zb3 X G a_at l_at c_at k_at fun _ _ _ _ _ _ us hl=>by obtain ⟨_,_,_,rfl⟩:=ln3 hl;rfl
  have H_line:Has K mg "_law_line" zgh ["text"]:=zb3 X G a_line l_line c_line k_line fun _ _ _ _ _ _ us hl=>by obtain ⟨_,rfl⟩:=ln1 hl;rfl
  have H_changed:Has K mg "_law_changed" zcl ["text","way","cell"]:=zb3 X G a_changed l_changed c_changed k_changed fun _ _ _ _ _ _ us hl=>by obtain ⟨_,_,_,rfl⟩:=ln3 hl;rfl
  have H_asked:Has K mg "_law_asked" zee ["text"]:=zb3 X G a_asked l_asked c_asked k_asked fun _ _ _ _ _ _ us hl=>by obtain ⟨_,rfl⟩:=ln1 hl;rfl
  have H_R_init:HasM K CR "__init__" "SayingReader.__init__" zdi ["self","text"]:=zdw a_R_init i_R_init l_R_init c_R_init k_R_init fun _ _ _ _ _ _ us hl=>by obtain ⟨_,_,rfl⟩:=ln2 hl;rfl
  have H_R_sign_here:HasM K CR "sign_here" "SayingReader.sign_here" zbp ["self"]:=zdw a_R_sign_here i_R_sign_here l_R_sign_here c_R_sign_here k_R_sign_here fun _ _ _ _ _ _ us hl=>by obtain ⟨_,rfl⟩:=ln1 hl;rfl
  have H_R_read_saying:HasM K CR "read_saying" "SayingReader.read_saying" za8 ["self","level"]:=zdw a_R_read_saying i_R_read_saying l_R_read_saying c_R_read_saying k_R_read_saying fun _ _ _ _ _ _ us hl=>by obtain ⟨_,_,rfl⟩:=ln2 hl;rfl
  have H_R_read_named:HasM K CR "read_named" "SayingReader.read_named" zbc ["self","level"]:=zdw a_R_read_named i_R_read_named l_R_read_named c_R_read_named k_R_read_named fun _ _ _ _ _ _ us hl=>by obtain ⟨_,_,rfl⟩:=ln2 hl;rfl
  have H_R_read_word:HasM K CR "read_word" "SayingReader.read_word" zbq ["self"]:=zdw a_R_read_word i_R_read_word l_R_read_word c_R_read_word k_R_read_word fun _ _ _ _ _ _ us hl=>by obtain ⟨_,rfl⟩:=ln1 hl;rfl
  have H_R_read_row:HasM K CR "read_row" "SayingReader.read_row" zbo ["self","closing","least","most","level"]:=zdw a_R_read_row i_R_read_row l_R_read_row c_R_read_row k_R_read_row fun _ _ _ _ _ _ us hl=>by obtain ⟨_,_,_,_,_,rfl⟩:=ln5 hl;rfl
  have H_R_refuse_rest:HasM K CR "refuse_rest" "SayingReader.refuse_rest" zbd ["self"]:=zdw a_R_refuse_rest i_R_refuse_rest l_R_refuse_rest c_R_refuse_rest k_R_refuse_rest fun _ _ _ _ _ _ us hl=>by obtain ⟨_,rfl⟩:=ln1 hl;rfl
  have Gx:Gs K mg:=⟨PySem.W.mg_none_of X G z_len,PySem.W.mg_none_of X G z_range,PySem.W.mg_none_of X G z_isinstance,PySem.W.mg_none_of X G z_str,PySem.W.mg_none_of X G z_tuple,PySem.W.mg_none_of X G z_list,PySem.W.mg_none_of X G z_all,PySem.W.mg_none_of X G z_ValueError,⟨_,PySem.W.mg_of X G z_MOST_LETTERS⟩,⟨_,PySem.W.mg_of X G z_MOST_IN_ROW⟩,⟨_,PySem.W.mg_of X G z_MOST_DEEP⟩⟩
  have Rx:Rfs K mg ES (adrOf [(Rf.err,ad_err),(Rf.text,ad_text),(Rf.twice,ad_twice),(Rf.such,ad_such),(Rf.count,ad_count),(Rf.apart,ad_apart),(Rf.many,ad_many),(Rf.way,ad_way)]):=rfs_mk x_all fun i hi=>by
    rcases (by simpa using hi:i=Rf.err∨i=Rf.text∨i=Rf.twice∨i=Rf.such∨i=Rf.count∨i=Rf.apart∨i=Rf.many∨i=Rf.way) with rfl|rfl|rfl|rfl|rfl|rfl|rfl|rfl
    · exact PySem.W.mg_of X G x_err
    · exact PySem.W.mg_of X G x_text
    · exact PySem.W.mg_of X G x_twice
    · exact PySem.W.mg_of X G x_such
    · exact PySem.W.mg_of X G x_count
    · exact PySem.W.mg_of X G x_apart
    · exact PySem.W.mg_of X G x_many
    · exact PySem.W.mg_of X G x_way
  have Tx:RunT K mg CR:=⟨⟨pgC,hdC,poC,saC⟩,mkC,kcC,PySem.W.mg_of X G aC,n_text,n_place⟩
  have F_law:=zmh (st:=zgz) l_law c_law k_law
  refine ⟨PySem.W.fnOf "law" "law" (defArgs zgz) (defBody zgz) (defScope zgz) .none kV_law dc_law pm_law an_law cd_law ct_law,fun s v=>.of_eq rfl,fun base _ _=>?_⟩
  have C_cell_at:=zke (P:=l.prog) (w:=w) (base:=base) (k:=0) H_cell_at Gx
  have C_next:=zp1 (P:=l.prog) (w:=w) (base:=base) (k:=1) H_next C_cell_at
  have C_names:=zn6 (P:=l.prog) (w:=w) (base:=base) (k:=0) H_names Gx
  have C_is_letter:=zh1 (P:=l.prog) (w:=w) (base:=base) (k:=0) H_is_letter Gx
  have C_unfit:=zdj (k:=1) H_refuse_unfit_name Gx Rx C_is_letter
  have C_count:=zdc (P:=l.prog) (w:=w) (base:=base) (k:=0) H_refuse_unfit_count Gx Rx
  have M_sign:=zf7 (P:=l.prog) (w:=w) (base:=base) (k:=0) H_R_sign_here Gx Tx
  have M_word:=zf8 (k:=2) H_R_read_word Gx Tx Rx (M_sign.mono (by decide)) (C_is_letter.mono (by decide)) C_unfit
  have M_all:=rd_all H_R_read_saying H_R_read_named H_R_read_row Gx Tx Rx M_sign M_word C_count 42
  have C_read_line:=zh0 (k:=42) (n:=42) (by decide) (by decide) H_read_line Gx Tx Rx (C_unfit.mono (by decide)) (C_count.mono (by decide)) ((zlu (k:=0) H_R_init Gx Tx).mono (by decide)) (M_all.1.mono (by decide)) ((ze2 (k:=0) H_R_refuse_rest Gx Tx Rx).mono (by decide))
  have C_is_errand:=zh2 (k:=12) (by decide) H_is_errand Gx (zew (P:=l.prog) (w:=w) (base:=base) H_is_saying Gx 12)
  have C_drawn:=zn7 (n:=4) H_drawn Gx C_next C_names (zhz H_saying Gx C_next 4)
  have C_word:=zp0 (P:=l.prog) (w:=w) (base:=base) (k:=0) H_word Gx
  have C_all:=at_all H_at H_row Gx C_word 26
  have C_line:=zp2 (k:=26) (n:=26) (by decide) H_line Gx (C_word.mono (by decide)) C_all.1
  have C_asked:=zn8 (k:=44) H_asked Gx Rx C_read_line
  exact ok_law F_law Gx (C_cell_at.mono (by decide)) (C_drawn.mono (by decide)) ((zls H_text Gx 4).mono (by decide)) ((zkd (k:=0) H_changed Gx).mono (by decide)) (C_line.mono (by decide)) (C_asked.mono (by decide)) (C_is_errand.mono (by decide))
theorem walk {l:PySem.W.OpenLaw} {q:Program} {loose:List Str} {XP:(Str→Option Value)→Heap→Prop} {YP:World→Heap→Prop} {d:DefRec} {K:Params→PySem.W.Frag} (hn:l.most=some 63) (hdf:d.params.defaults=[])
    (hY:∀(w:World) (h:Heap),YP w h→(K w.params).In h)
    (F:∀(w:World) (mg:Str→Option Value) (fa:Addr) (h:Heap),(K w.params).In h→h.Ns mainGlobals mg→mg d.name=some (.ref fa) →
      ∃fd:FuncData,(∀(s:Shared) (u:Value),BindsTo s fd ⟨[u],[]⟩ [("script",u)])∧∀base:Heap,(K w.params).In base→base.Ns mainGlobals mg→FnOk l.prog w (K w.params) mg base (CX1 l.prog w) 100 fa fd ["script"] (lSp (K w.params) lawS)) :
    PySem.W.WalkO q loose XP YP l.row.toRowW d [] (fun f vs=>PySem.call f vs) :=
  L2.zks (n:=63) (k:=100) (x:="script") (CX:=fun w=>CX1 l.prog w) (sp:=fun w=>lSp (K w.params) lawS) hn (by decide) hdf ⟨rfl,by decide,by decide⟩ hY F (fun _ _ a ns hl hO hS=>law_sp hl hO hS) fun _ _ _ _ _ z=>by
    obtain ⟨a,C,T,H',_,_,_,_,_,_,_,_,_,_,z⟩:=z
    exact z
end LW
namespace PySem.W.Fast
theorem tw17511341909422492946:True:=trivial
theorem tw3210565214354153718:True:=trivial
theorem tw12765958058130420699:True:=trivial
theorem tw16188754191343887032:True:=trivial
theorem tw11618829105762232269:True:=trivial
theorem tw1844063103363663922:True:=trivial
theorem tw6034287058616871230:True:=trivial
theorem tw9979501682105204832:True:=trivial
theorem tw2567998932788728345:True:=trivial
theorem tw18263961841998625973:True:=trivial
theorem tw94768481546692553:True:=trivial
theorem tw1615388293845556825:True:=trivial
theorem tw4143568154285425910:True:=trivial
theorem tw14488045114391098266:True:=trivial
theorem tw15392247020953491252:True:=trivial
theorem tw15731182318241229594:True:=trivial
theorem tw3867526667221416734:True:=trivial
theorem tw17121844669395489928:True:=trivial
theorem tw6092838627613603747:True:=trivial
theorem tw3242066756155051103:True:=trivial
theorem tw8169281917474308934:True:=trivial
theorem tw13794727375177344635:True:=trivial
theorem tw53710885909075898:True:=trivial
theorem tw10967751090804040614:True:=trivial
theorem tw2703904480270640895:True:=trivial
theorem tw5959100814669248325:True:=trivial
theorem tw9243954705335062018:True:=trivial
theorem tw15176747202621957154:True:=trivial
theorem tw11385819480637102035:True:=trivial
theorem tw7011218289443137940:True:=trivial
theorem tw14952747985135510975:True:=trivial
theorem tw8149013096771211137:True:=trivial
theorem tw16996021264935924180:True:=trivial
theorem tw13086193922212770222:True:=trivial
theorem tw15986785687317248674:True:=trivial
theorem tw1330260785150176767:True:=trivial
theorem tw5462880006838149244:True:=trivial
theorem tw12972402593161119882:True:=trivial
theorem tw7718740592416470543:True:=trivial
theorem tw2893535114326784697:True:=trivial
theorem tw5649734362855521301:True:=trivial
theorem tw9300804523899226423:True:=trivial
theorem tw12078016755689511439:True:=trivial
theorem tw7661250117659860321:True:=trivial
theorem tw397407029194359467:True:=trivial
theorem tw5364245917433897800:True:=trivial
theorem tw432673509168911814:True:=trivial
theorem tw1882907109012526541:True:=trivial
theorem tw13858673841348299950:True:=trivial
theorem tw2259069563645079385:True:=trivial
theorem tw5471492971315889857:True:=trivial
theorem tw916856892229273788:True:=trivial
theorem tw3464562286852361511:True:=trivial
theorem tw9482303774884110176:True:=trivial
theorem tw10933806791594644982:True:=trivial
theorem tw9215071628380801011:True:=trivial
theorem tw12043449432538265670:True:=trivial
theorem tw17405298337903252599:True:=trivial
theorem tw16119451695036072310:True:=trivial
theorem tw4178503337893923310:True:=trivial
theorem tw4263718522666850439:True:=trivial
theorem tw8872865085625298958:True:=trivial
theorem tw11767954717670903454:True:=trivial
theorem tw4627876684876002064:True:=trivial
theorem tw3846199885995593968:True:=trivial
theorem tw610670934864171596:True:=trivial
theorem tw10594553895334410265:True:=trivial
theorem tw2841660699688141209:True:=trivial
theorem tw17804551843830855890:True:=trivial
theorem tw6600612183051562483:True:=trivial
theorem tw10166969948088370565:True:=trivial
theorem tw4973273758739096058:True:=trivial
theorem tw16606978955870071153:True:=trivial
theorem tw14381269174185546276:True:=trivial
theorem tw16777469815632772976:True:=trivial
theorem tw3770427843738963287:True:=trivial
theorem tw1195689637269755659:True:=trivial
theorem tw4797884839327436652:True:=trivial
theorem tw15187303101241646851:True:=trivial
theorem tw6175388821498086230:True:=trivial
theorem tw15823339295926757524:True:=trivial
theorem tw7902943294584469593:True:=trivial
theorem tw3486033951576264822:True:=trivial
theorem tw677219487647498777:True:=trivial
theorem tw14435341676132432362:True:=trivial
theorem tw4405979167638326003:True:=trivial
theorem tw1932949671462838222:True:=trivial
theorem tw13022838272303474256:True:=trivial
theorem tw11360466382595683751:True:=trivial
theorem tw9853091557470365619:True:=trivial
theorem tw13148890185537071205:True:=trivial
theorem tw1520402813948818441:True:=trivial
theorem tw16565881699392498607:True:=trivial
theorem tw6295190470432772805:True:=trivial
theorem tw7562510872343468765:True:=trivial
theorem tw8557554417519667692:True:=trivial
theorem tw3924793348887938495:True:=trivial
theorem tw6683155644894987488:True:=trivial
theorem tw1321388163893746850:True:=trivial
theorem tw10134566706873521390:True:=trivial
theorem tw1751963844551547713:True:=trivial
theorem tw5866099541565049070:True:=trivial
theorem tw13447456675353124607:True:=trivial
theorem tw9308508089259891322:True:=trivial
theorem tw11083313067847158131:True:=trivial
theorem tw15902481279147216605:True:=trivial
theorem tw5287568105990246449:True:=trivial
theorem tw14694653719673157802:True:=trivial
theorem tw16891480051926968550:True:=trivial
theorem tw11134430773370766460:True:=trivial
theorem tw684373122426332938:True:=trivial
theorem tw1751131539799236350:True:=trivial
theorem tw9651908142795389721:True:=trivial
theorem tw1130697197154242378:True:=trivial
theorem tw16802894617035549965:True:=trivial
theorem tw13034450186466129145:True:=trivial
theorem tw15395390707825373404:True:=trivial
theorem tw11977323733743118932:True:=trivial
theorem tw3593276607994822071:True:=trivial
theorem tw5172715910494226297:True:=trivial
theorem tw2838405941352521496:True:=trivial
theorem tw5155622870911853101:True:=trivial
theorem tw17627301409972668420:True:=trivial
theorem tw9681175048353216243:True:=trivial
theorem tw2883226947252626707:True:=trivial
theorem tw11619159034568116724:True:=trivial
theorem tw9099017318917607872:True:=trivial
theorem tw10814785660712478286:True:=trivial
theorem tw1888944741871659773:True:=trivial
theorem tw17999018938531376326:True:=trivial
theorem tw16287290678215148776:True:=trivial
theorem tw11553223613146003846:True:=trivial
theorem tw9759099663909384399:True:=trivial
theorem tw9662238053277564460:True:=trivial
theorem tw408622605779538269:True:=trivial
theorem tw1409371466052461796:True:=trivial
theorem tw6422522817145171778:True:=trivial
theorem tw4360539093353365773:True:=trivial
theorem tw551474804810347463:True:=trivial
theorem tw15137321269113944041:True:=trivial
theorem tw16417389543045501876:True:=trivial
theorem tw16201563616503829940:True:=trivial
theorem tw5578116284346523729:True:=trivial
theorem tw10506325914691447653:True:=trivial
theorem tw9628918716955831509:True:=trivial
theorem tw2299743435061595946:True:=trivial
theorem tw5350312998942594453:True:=trivial
theorem tw17309878045264305909:True:=trivial
theorem tw18291049066053224326:True:=trivial
theorem tw16876617757410997483:True:=trivial
theorem tw947557959250517977:True:=trivial
theorem tw1154101943182887486:True:=trivial
theorem tw5585699328241366019:True:=trivial
theorem tw16208633150872745593:True:=trivial
theorem tw8434130234945990112:True:=trivial
theorem tw12132729127404644093:True:=trivial
theorem tw6654884833818108250:True:=trivial
theorem tw551463122483861706:True:=trivial
theorem tw2904094319982268639:True:=trivial
theorem tw14476795912644465999:True:=trivial
end PySem.W.Fast
open PySem PySem.W PyProof.Rows
set_option maxRecDepth 100000 in
set_option maxHeartbeats 0 in
theorem PySem.Challenge.cw_errandend_k29_lines_changed_holds : PySem.Challenge.rw_errandend_k29_lines_changed.Holds := by
  w_on; o_law; k_head; (case hw => w_witness2)
  k_fill
  refine LW.walk (l := PySem.Challenge.rw_errandend_k29_lines_changed) rfl rfl (fun w h Y => PySem.W.kIn_of Y) ?F
  case F =>
    intro w mg fa h KX G hmg
    refine' LW.all_mk KX G hmg ?aC ?a_read_line ?l_read_line ?c_read_line ?k_read_line ?a_refuse_unfit_name ?l_refuse_unfit_name ?c_refuse_unfit_name ?k_refuse_unfit_name ?a_is_letter ?l_is_letter ?c_is_letter ?k_is_letter ?a_refuse_unfit_count ?l_refuse_unfit_count ?c_refuse_unfit_count ?k_refuse_unfit_count ?a_cell_at ?l_cell_at ?c_cell_at ?k_cell_at ?a_names ?l_names ?c_names ?k_names ?a_next ?l_next ?c_next ?k_next ?a_saying ?l_saying ?c_saying ?k_saying ?a_drawn ?l_drawn ?c_drawn ?k_drawn ?a_text ?l_text ?c_text ?k_text ?a_is_saying ?l_is_saying ?c_is_saying ?k_is_saying ?a_is_errand ?l_is_errand ?c_is_errand ?k_is_errand ?a_word ?l_word ?c_word ?k_word ?a_row ?l_row ?c_row ?k_row ?a_at ?l_at ?c_at ?k_at ?a_line ?l_line ?c_line ?k_line ?a_changed ?l_changed ?c_changed ?k_changed ?a_asked ?l_asked ?c_asked ?k_asked ?a_R_init ?i_R_init ?l_R_init ?c_R_init ?k_R_init ?a_R_sign_here ?i_R_sign_here ?l_R_sign_here ?c_R_sign_here ?k_R_sign_here ?a_R_read_saying ?i_R_read_saying ?l_R_read_saying ?c_R_read_saying ?k_R_read_saying ?a_R_read_named ?i_R_read_named ?l_R_read_named ?c_R_read_named ?k_R_read_named ?a_R_read_word ?i_R_read_word ?l_R_read_word ?c_R_read_word ?k_R_read_word ?a_R_read_row ?i_R_read_row ?l_R_read_row ?c_R_read_row ?k_R_read_row ?a_R_refuse_rest ?i_R_refuse_rest ?l_R_refuse_rest ?c_R_refuse_rest ?k_R_refuse_rest ?a_law ?l_law ?c_law ?k_law ?z_len ?z_range ?z_isinstance ?z_str ?z_tuple ?z_list ?z_all ?z_ValueError ?z_MOST_LETTERS ?z_MOST_IN_ROW ?z_MOST_DEEP ?x_err ?x_text ?x_twice ?x_such ?x_count ?x_apart ?x_many ?x_way ?x_all ?pgC ?hdC ?poC ?saC ?mkC ?kcC ?n_text ?n_place
    (case aC => k_is)
    (case a_read_line => k_is)
    (case l_read_line => k_is)
    (case c_read_line => k_is)
    (case k_read_line => k_is)
    (case a_refuse_unfit_name => k_is)
    (case l_refuse_unfit_name => k_is)
    (case c_refuse_unfit_name => k_is)
    (case k_refuse_unfit_name => k_is)
    (case a_is_letter => k_is)
    (case l_is_letter => k_is)
    (case c_is_letter => k_is)
    (case k_is_letter => k_is)
    (case a_refuse_unfit_count => k_is)
    (case l_refuse_unfit_count => k_is)
    (case c_refuse_unfit_count => k_is)
    (case k_refuse_unfit_count => k_is)
    (case a_cell_at => k_is)
    (case l_cell_at => k_is)
    (case c_cell_at => k_is)
    (case k_cell_at => k_is)
    (case a_names => k_is)
    (case l_names => k_is)
    (case c_names => k_is)
    (case k_names => k_is)
    (case a_next => k_is)
    (case l_next => k_is)
    (case c_next => k_is)
    (case k_next => k_is)
    (case a_saying => k_is)
    (case l_saying => k_is)
    (case c_saying => k_is)
    (case k_saying => k_is)
    (case a_drawn => k_is)
    (case l_drawn => k_is)
    (case c_drawn => k_is)
    (case k_drawn => k_is)
    (case a_text => k_is)
    (case l_text => k_is)
    (case c_text => k_is)
    (case k_text => k_is)
    (case a_is_saying => k_is)
    (case l_is_saying => k_is)
    (case c_is_saying => k_is)
    (case k_is_saying => k_is)
    (case a_is_errand => k_is)
    (case l_is_errand => k_is)
    (case c_is_errand => k_is)
    (case k_is_errand => k_is)
    (case a_word => k_is)
    (case l_word => k_is)
    (case c_word => k_is)
    (case k_word => k_is)
    (case a_row => k_is)
    (case l_row => k_is)
    (case c_row => k_is)
    (case k_row => k_is)
    (case a_at => k_is)
    (case l_at => k_is)
    (case c_at => k_is)
    (case k_at => k_is)
    (case a_line => k_is)
    (case l_line => k_is)
    (case c_line => k_is)
    (case k_line => k_is)
    (case a_changed => k_is)
    (case l_changed => k_is)
    (case c_changed => k_is)
    (case k_changed => k_is)
    (case a_asked => k_is)
    (case l_asked => k_is)
    (case c_asked => k_is)
    (case k_asked => k_is)
    (case a_R_init => k_is)
    (case i_R_init => k_is)
    (case l_R_init => k_is)
    (case c_R_init => k_is)
    (case k_R_init => k_is)
    (case a_R_sign_here => k_is)
    (case i_R_sign_here => k_is)
    (case l_R_sign_here => k_is)
    (case c_R_sign_here => k_is)
    (case k_R_sign_here => k_is)
    (case a_R_read_saying => k_is)
    (case i_R_read_saying => k_is)
    (case l_R_read_saying => k_is)
    (case c_R_read_saying => k_is)
    (case k_R_read_saying => k_is)
    (case a_R_read_named => k_is)
    (case i_R_read_named => k_is)
    (case l_R_read_named => k_is)
    (case c_R_read_named => k_is)
    (case k_R_read_named => k_is)
    (case a_R_read_word => k_is)
    (case i_R_read_word => k_is)
    (case l_R_read_word => k_is)
    (case c_R_read_word => k_is)
    (case k_R_read_word => k_is)
    (case a_R_read_row => k_is)
    (case i_R_read_row => k_is)
    (case l_R_read_row => k_is)
    (case c_R_read_row => k_is)
    (case k_R_read_row => k_is)
    (case a_R_refuse_rest => k_is)
    (case i_R_refuse_rest => k_is)
    (case l_R_refuse_rest => k_is)
    (case c_R_refuse_rest => k_is)
    (case k_R_refuse_rest => k_is)
    (case a_law => k_is)
    (case l_law => k_is)
    (case c_law => k_is)
    (case k_law => k_is)
    (case z_len => k_is)
    (case z_range => k_is)
    (case z_isinstance => k_is)
    (case z_str => k_is)
    (case z_tuple => k_is)
    (case z_list => k_is)
    (case z_all => k_is)
    (case z_ValueError => k_is)
    (case z_MOST_LETTERS => k_is)
    (case z_MOST_IN_ROW => k_is)
    (case z_MOST_DEEP => k_is)
    (case x_err => k_is)
    (case x_text => k_is)
    (case x_twice => k_is)
    (case x_such => k_is)
    (case x_count => k_is)
    (case x_apart => k_is)
    (case x_many => k_is)
    (case x_way => k_is)
    (case x_all => kernel_rfl)
    (case pgC => k_is)
    (case hdC => k_is)
    (case poC => k_is)
    (case saC => k_is)
    (case mkC => k_is)
    (case kcC => k_is)
    (case n_text => k_is)
    (case n_place => k_is)
#print axioms PySem.Challenge.cw_errandend_k29_lines_changed_holds
