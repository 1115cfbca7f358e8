import PyProof.Rows.All
import Wide.All
import OpenK.AllK
import Wide.FinOn
import Lean
import PyProof.EqAt
import PyProof.EqKinds
import PyProof.TupleCall
import PySem.Challenge.RW_errandend_k06_lines_refused
set_option Elab.async false
set_option linter.all false
set_option maxRecDepth 100000
namespace L2
open PySem PySem.Spec PyProof.Rows
noncomputable abbrev Key:=Sum Int Str
noncomputable def keyIs:Key→Value→Bool
  | .inl k,v=>Value.isInt k v
  | .inr x,v=>Value.isStrOf x v
noncomputable def keyH (w:World):Key→Int
  | .inl k=>hashInt k
  | .inr x=>hashStr w x
theorem zbf:∀{k:Key} {v:Value},keyIs k v=true→(∃i t,k=Sum.inl i∧v=Value.int i t)∨(∃x t,k=Sum.inr x∧v=Value.str x t)
  | .inl i,v,h=>by
    obtain ⟨t,e⟩:=Value.isInt_shape (k:=i) (v:=v) h
    exact .inl ⟨i,t,rfl,e⟩
  | .inr x,v,h=>by
    obtain ⟨t,e⟩:=Value.isStrOf_shape (x:=x) (v:=v) h
    exact .inr ⟨x,t,rfl,e⟩
theorem zmt (i:Int) (t:Tok):keyIs (.inl i) (.int i t)=true:=by simp [keyIs,Value.isInt]
theorem zms (x:Str) (t:Tok):keyIs (.inr x) (.str x t)=true:=by simp [keyIs,Value.isStrOf]
theorem key_ll (a b:Int):decide ((Sum.inl a:Key)=Sum.inl b)=(a==b):=by
  by_cases e:a=b
  · subst e;simp
  · have h:¬(Sum.inl a:Key)=Sum.inl b:=fun q=>e (Sum.inl.inj q)
    rw [decide_eq_false h]
    exact (beq_eq_false_iff_ne.mpr e).symm
theorem key_rr (a b:Str):decide ((Sum.inr a:Key)=Sum.inr b)=decide (a=b):=by
  by_cases e:a=b
  · subst e;simp
  · have h:¬(Sum.inr a:Key)=Sum.inr b:=fun q=>e (Sum.inr.inj q)
    rw [decide_eq_false h,decide_eq_false e]
theorem key_lr (a:Int) (b:Str):decide ((Sum.inl a:Key)=Sum.inr b)=false:=decide_eq_false (fun q=>nomatch q)
theorem key_rl (a:Str) (b:Int):decide ((Sum.inr a:Key)=Sum.inl b)=false:=decide_eq_false (fun q=>nomatch q)
noncomputable def mixKind (prog:Program) (w:World):PySem.KeyKind prog w Key where
  is:=keyIs
  hash:=keyH w
  inj:=fun v a b ha hb=>by
    rcases zbf ha with ⟨i,t,rfl,rfl⟩|⟨x,t,rfl,rfl⟩
    · rcases zbf hb with ⟨j,u,rfl,e⟩|⟨y,u,rfl,e⟩
      · injection e with e1 _;rw [e1]
      · exact nomatch e
    · rcases zbf hb with ⟨j,u,rfl,e⟩|⟨y,u,rfl,e⟩
      · exact nomatch e
      · injection e with e1 _;rw [e1]
  byValue:=fun k v h=>by
    rcases zbf h with ⟨i,t,rfl,rfl⟩|⟨x,t,rfl,rfl⟩<;>rfl
  pyHash:=fun hv h=>by
    rcases zbf hv with ⟨i,t,rfl,rfl⟩|⟨x,t,rfl,rfl⟩
    · exact wpAny_pyHash_int h
    · exact wpAny_pyHash_str h
  eqBool:=fun hu hv h=>by
    rcases zbf hu with ⟨i,t,rfl,rfl⟩|⟨x,t,rfl,rfl⟩
    · rcases zbf hv with ⟨j,u,rfl,rfl⟩|⟨y,u,rfl,rfl⟩
      · rw [key_ll] at h;exact wpAny_eqBool_int h
      · rw [key_lr] at h;exact SeqAt.EqAt.int_str i t y u _ _ _ _ h
    · rcases zbf hv with ⟨j,u,rfl,rfl⟩|⟨y,u,rfl,rfl⟩
      · rw [key_rl] at h;exact SeqAt.EqAt.str_int x t j u _ _ _ _ h
      · rw [key_rr] at h;exact wpAny_eqBool_str h
  «strs»:=fun k x t v h=>by
    rcases zbf h with ⟨i,u,rfl,e⟩|⟨y,u,rfl,e⟩
    · exact nomatch e
    · injection e with e1 _
      subst e1
      cases v<;>rfl
theorem zjk (prog:Program) (w:World) (i:Int) (t:Tok):(mixKind prog w).is (.inl i) (.int i t)=true:=zmt i t
theorem zjj (prog:Program) (w:World) (x:Str) (t:Tok):(mixKind prog w).is (.inr x) (.str x t)=true:=zms x t
end L2
namespace L2
open PySem PySem.Spec PyProof.Rows
inductive V where
  | non|bl (b:Bool)|int (i:Int)|str (x:Str)|byt (b:Array UInt8)|flt (b:UInt64)|ref (a:Addr)|ty (n:String)
  deriving DecidableEq
def RelV:V→Value→Prop
  | .non,u=>u=Value.none
  | .bl b,u=>u=Value.bool b
  | .int i,u=>∃t,u=Value.int i t
  | .str x,u=>∃t,u=Value.str x t
  | .byt b,u=>∃t,u=Value.bytes b t
  | .flt b,u=>∃t,u=Value.float b t
  | .ref a,u=>u=Value.ref a
  | .ty n,u=>u=Value.type n
abbrev Vals:List V→List Value→Prop:=Paired RelV
theorem Vals.length {xs:List V} {us:List Value} (r:Vals xs us):xs.length=us.length:=Paired.length r
theorem Vals.get:∀{xs:List V} {us:List Value} {i:Nat} {x:V},Vals xs us→xs[i]?=some x→∃u,us[i]?=some u∧RelV x u
  | _,_,_,_,.nil,e=>by simp at e
  | _,_,0,_,.cons r _,e=>by simp at e;subst e;exact ⟨_,rfl,r⟩
  | _,_,i+1,x,.cons _ t,e=>by
    obtain ⟨u,h1,h2⟩:=Vals.get (i:=i) (x:=x) t (by simpa using e)
    exact ⟨u,by simpa using h1,h2⟩
theorem Vals.set {x:V} {u:Value} (r:RelV x u):∀{xs:List V} {us:List Value} (i:Nat),Vals xs us→Vals (xs.set i x) (us.set i u)
  | _,_,_,.nil=>.nil
  | _,_,0,.cons _ t=>.cons r t
  | _,_,i+1,.cons q t=>.cons q (Vals.set r i t)
theorem Vals.append:∀{xs ys:List V} {us ws:List Value},Vals xs us→Vals ys ws→Vals (xs++ys) (us++ws)
  | _,_,_,_,.nil,s=>s
  | _,_,_,_,.cons r t,s=>.cons r (Vals.append t s)
theorem Vals.take:∀{xs:List V} {us:List Value} (n:Nat),Vals xs us→Vals (xs.take n) (us.take n)
  | _,_,0,_=>.nil
  | _,_,_+1,.nil=>.nil
  | _,_,n+1,.cons r t=>.cons r (Vals.take n t)
theorem Vals.drop:∀{xs:List V} {us:List Value} (n:Nat),Vals xs us→Vals (xs.drop n) (us.drop n)
  | _,_,0,r=>r
  | _,_,_+1,.nil=>.nil
  | _,_,n+1,.cons _ t=>Vals.drop n t
def RelO:Option V→Option Value→Prop
  | some v,some u=>RelV v u
  | none,none=>True
  | _,_=>False
def KV {κ:Type}:List (κ×V)→List (κ×Value)→Prop:=Paired fun (p:κ×V) (q:κ×Value)=>p.1=q.1∧RelV p.2 q.2
noncomputable def kV:Key→V
  | .inl i=>.int i
  | .inr x=>.str x
inductive HO where
  | lst (xs:List V)
  | tup (xs:List V)
  | dK (kvs:List (Key×V))|dT (kvs:List (List Key×V))
  | set (S:Int→Bool) (n:Nat)
  | ins (C dx:Addr) (fs:List (Str×V))
  | own (x:Addr)
  | xd (fs:List (Str×V))
  | met (f x:Addr)
  | rng (lo hi:Int)
  | frz (o:Obj) (u:HO)
  | tbl (ps:Array Value)
  | ext (φ:Heap→Prop)
noncomputable abbrev Hp:=Addr→Option HO
noncomputable def upd (H:Hp) (a:Addr) (o:HO):Hp:=fun b=>if b=a then some o else H b
theorem za9 {H:Hp} {a:Addr} {o:HO}:upd H a o a=some o:=by unfold upd;rw [if_pos rfl]
theorem zar {H:Hp} {a b:Addr} {o:HO} (h:b≠a):upd H a o b=H b:=by unfold upd;rw [if_neg h]
theorem zb8 {H:Hp} {a b:Addr} {o:HO} (h:H a=some o) (h':H b=none):a≠b:=by
  intro e;subst e;rw [h] at h';cases h'
section
variable (P:Program) (w:World)
def ObjOk (H:Hp) (h:Heap) (a:Addr):HO→Prop
  | .lst xs=>xs.length≤sizeLine∧∃(its:List Value) (n:Nat),Vals xs its∧h.get? a=some {cls:=.type "list",data:=.seq its.toArray n}
  | .tup xs=>xs.length≤sizeLine∧∃its:List Value,Vals xs its∧IsTup h a its.toArray∧∀o,h.get? a=some o→o.dict=none
  | .dK kvs=>kvs.length≤sizeLine∧(a==sysModules)=false∧∃vs,KV kvs vs∧h.DictOf (mixKind P w) a vs
  | .dT kvs=>kvs.length≤sizeLine∧(a==sysModules)=false∧∃xs:List (List Key×Addr×Value),
      Paired (fun (p:List Key×V) (q:List Key×Addr×Value)=>p.1=q.1∧H q.2.1=some (.tup (p.1.map kV))∧RelV p.2 q.2.2) kvs xs ∧
      ∃o es ep,h.get? a=some o∧o.ExactDict∧o.data=.dict es ep∧es.toList=xs.map (entryOfKey (tupleKind (mixKind P w)))∧(xs.map (·.1)).Nodup
  | .set S n=>h.SetOf (intKind P w) a S n
  | .ins C dx fs=>H dx=some (.own a)∧fs.length≤1000∧dx≠a∧h.get? a=some (PySem.W.instObj C dx) ∧
      ∃mA,h.Ns1 dx mA∧(∀f,RelO (fs.lookup f) (mA f))∧PySem.Within mA (fs.map (·.1))
  | .own _=>∃o,h.get? a=some o
  | .xd fs=>∃mA,h.Ns1 a mA∧∀f,RelO (fs.lookup f) (mA f)
  | .rng lo hi=>∃t u v,h.get? a=some {cls:=.type "range",data:=.fields #[.int lo t,.int hi u,.int 1 v]}
  | .frz o u=>h.get? a=some o∧ObjOk H h a u
  | .tbl ps=>h.get? a=some {cls:=.none,data:=.fields ps}
  | .met f x=>h.get? a=some (PySem.W.methodObj (.ref f) (.ref x))
  | .ext φ=>φ h∧(∃o,h.get? a=some o)∧∀h1 h2:Heap,φ h1→(∀o,h1.get? a=some o→h2.get? a=some o)→φ h2
def HOk (H:Hp) (h:Heap):Prop:=∀a o,H a=some o→ObjOk P w H h a o
end
section
variable {P:Program} {w:World} {H H':Hp} {h h':Heap} {a:Addr} {o:HO}
theorem ObjOk.lt (x:ObjOk P w H h a o):a<h.objs.size:=by
  cases o with
  | lst xs=>obtain ⟨_,_,_,_,e⟩:=x;exact Heap.lt_size e
  | tup xs=>obtain ⟨_,_,_,p,_⟩:=x;exact p.lt
  | dK kvs=>obtain ⟨_,_,_,_,o,_,_,e,_⟩:=x;exact Heap.lt_size e
  | dT kvs=>obtain ⟨_,_,_,_,o,_,_,e,_⟩:=x;exact Heap.lt_size e
  | set S n=>obtain ⟨o,_,_,_,e,_⟩:=x;exact Heap.lt_size e
  | ins C dx fs=>obtain ⟨_,_,_,e,_⟩:=x;exact Heap.lt_size e
  | own y=>obtain ⟨_,e⟩:=x;exact Heap.lt_size e
  | xd fs=>obtain ⟨_,⟨_,_,_,e,_⟩,_⟩:=x;exact Heap.lt_size e
  | rng lo hi=>obtain ⟨_,_,_,e⟩:=x;exact Heap.lt_size e
  | frz ob u=>obtain ⟨e,_⟩:=x;exact Heap.lt_size e
  | tbl ps=>exact Heap.lt_size (show h.get? a=some _ from x)
  | met f y=>exact Heap.lt_size (show h.get? a=some _ from x)
  | ext φ=>obtain ⟨_,⟨_,e⟩,_⟩:=x;exact Heap.lt_size e
theorem Paired.mapP {α β:Type} {F G:α→β→Prop}:∀{l₁:List α} {l₂:List β},Paired F l₁ l₂→(∀a b,F a b→G a b)→Paired G l₁ l₂
  | _,_,.nil,_=>.nil
  | _,_,.cons r t,f=>.cons (f _ _ r) (Paired.mapP t f)
theorem ObjOk.stay (x:ObjOk P w H h a o) (k:∀b u,(b=a∨H b=some (.own a))→h.get? b=some u→h'.get? b=some u)
    (ho:∀b,H b=some (.own a)→H' b=some (.own a)) (ht:∀b xs,H b=some (.tup xs)→H' b=some (.tup xs)):ObjOk P w H' h' a o:=by
  induction o with
  | lst xs=>obtain ⟨z,its,n,r,e⟩:=x;exact ⟨z,its,n,r,k _ _ (.inl rfl) e⟩
  | tup xs=>obtain ⟨z,its,r,⟨ob,e,c⟩,nd⟩:=x;exact ⟨z,its,r,⟨ob,k _ _ (.inl rfl) e,c⟩,fun o q=>by rw [k _ _ (.inl rfl) e] at q;cases q;exact nd _ e⟩
  | dK kvs=>obtain ⟨z,y,vs,r,ob,es,ep,e,c⟩:=x;exact ⟨z,y,vs,r,ob,es,ep,k _ _ (.inl rfl) e,c⟩
  | dT kvs =>
    obtain ⟨z,y,xs,r,ob,es,ep,e,c⟩:=x
    exact ⟨z,y,xs,Paired.mapP r fun p q z=>⟨z.1,ht _ _ z.2.1,z.2.2⟩,ob,es,ep,k _ _ (.inl rfl) e,c⟩
  | set S n=>obtain ⟨ob,es,ep,t,e,c⟩:=x;exact ⟨ob,es,ep,t,k _ _ (.inl rfl) e,c⟩
  | ins C dx fs =>
    obtain ⟨d,z,ne,e,mA,⟨od,es,ep,e2,c⟩,r⟩:=x
    exact ⟨ho _ d,z,ne,k _ _ (.inl rfl) e,mA,⟨od,es,ep,k _ _ (.inr d) e2,c⟩,r⟩
  | own y=>obtain ⟨ob,e⟩:=x;exact ⟨ob,k _ _ (.inl rfl) e⟩
  | xd fs=>obtain ⟨mA,⟨od,es,ep,e,c⟩,r⟩:=x;exact ⟨mA,⟨od,es,ep,k _ _ (.inl rfl) e,c⟩,r⟩
  | rng lo hi=>obtain ⟨t,u,v,e⟩:=x;exact ⟨t,u,v,k _ _ (.inl rfl) e⟩
  | frz ob u ih=>obtain ⟨e,q⟩:=x;exact ⟨k _ _ (.inl rfl) e,ih q⟩
  | tbl ps =>
    have e:h.get? a=some {cls:=.none,data:=.fields ps}:=x
    show h'.get? a=some {cls:=.none,data:=.fields ps}
    exact k a _ (.inl rfl) e
  | met f y =>
    have e:h.get? a=some (PySem.W.methodObj (.ref f) (.ref y)):=x
    show h'.get? a=some (PySem.W.methodObj (.ref f) (.ref y))
    exact k a _ (.inl rfl) e
  | ext φ=>obtain ⟨p,⟨o,e⟩,st⟩:=x;exact ⟨st _ _ p fun o q=>k _ _ (.inl rfl) q,⟨o,k _ _ (.inl rfl) e⟩,st⟩
theorem HOk.lt (x:HOk P w H h) (e:H a=some o):a<h.objs.size:=(x a o e).lt
theorem HOk.fresh (x:HOk P w H h) (e:h.objs.size≤a):H a=none:=by
  cases q:H a with
  | none=>rfl
  | some u=>exact absurd (Nat.lt_of_lt_of_le (x.lt q) e) (Nat.lt_irrefl _)
theorem HOk.kept (x:HOk P w H h) (k:∀b u,h.get? b=some u→h'.get? b=some u):HOk P w H h':=fun a o e =>
  (x a o e).stay (fun b u _ q=>k b u q) (fun _ q=>q) fun _ _ q=>q
theorem HOk.laid (x:HOk P w H h) (k:∀b u,h.get? b=some u→h'.get? b=some u) (hp:h.objs.size≤a) (new:ObjOk P w (upd H a o) h' a o):HOk P w (upd H a o) h':=fun b u e=>by
  have hn:=x.fresh hp
  by_cases hb:b=a
  · subst hb;rw [za9] at e;cases e;exact new
  · rw [zar hb] at e
    exact (x b u e).stay (fun c v _ q=>k c v q) (fun c q=>by rw [zar (zb8 q hn)];exact q) fun c xs q=>by rw [zar (zb8 q hn)];exact q
end
def Rd (H:Hp) (a:Addr) (u:HO):Prop:=H a=some u∨∃o,H a=some (.frz o u)
theorem Rd.ok {P:Program} {w:World} {H:Hp} {h:Heap} {a:Addr} {u:HO} (r:Rd H a u) (x:HOk P w H h):ObjOk P w H h a u:=by
  rcases r with r|⟨o,r⟩
  · exact x a u r
  · obtain ⟨_,q⟩:=x a _ r
    exact q
def Mut:Option HO→Prop
  | some (.lst _)=>True
  | some (.dK _)=>True
  | some (.dT _)=>True
  | some (.set _ _)=>True
  | some (.ins _ _ _)=>True
  | some (.ext _)=>True
  | _=>False
section
variable {P:Program} {w:World} {H:Hp} {h h':Heap} {x e:Addr} {o':HO}
theorem HOk.write (ok:HOk P w H h) (mu:Mut (H x)) (he:e=x∨H e=some (.own x)) (k:∀b u,b≠e→h.get? b=some u→h'.get? b=some u) (heo:∃u,h'.get? e=some u)
    (new:ObjOk P w (upd H x o') h' x o'):HOk P w (upd H x o') h':=fun b u q=>by
  have nown:∀c y,H c=some (.own y)→c≠x:=fun c y r z=>by subst z;rw [r] at mu;exact mu
  have ntup:∀c xs,H c=some (.tup xs)→c≠x:=fun c xs r z=>by subst z;rw [r] at mu;exact mu
  by_cases hb:b=x
  · subst hb;rw [za9] at q;cases q;exact new
  · rw [zar hb] at q
    by_cases hbe:b=e
    · have q':H b=some (.own x):=by
        rcases he with z|z
        · exact absurd (hbe.trans z) hb
        · rw [hbe];exact z
      rw [q] at q';cases q'
      obtain ⟨v,hv⟩:=heo
      exact ⟨v,by rw [hbe];exact hv⟩
    · refine (ok b u q).stay (fun c v hc r=>k c v ?_ r) (fun c r=>by rw [zar (nown c b r)];exact r) fun c xs r=>by rw [zar (ntup c xs r)];exact r
      rcases hc with rfl|hc
      · exact hbe
      · rintro rfl
        rcases he with z|z
        · exact nown c b hc z
        · rw [hc] at z;cases z;exact hb rfl
end
structure Un (fs ex:List Addr) (H H':Hp) (h h':Heap):Prop where
  keep:∀b o,h.get? b=some o→H b=none→b∉fs→b∉ex→h'.get? b=some o
  slot:∀b o,h.get? b=some o→H b=none→b∈fs→b∉ex→∃sl,h'.get? b=some {o with slots:=sl}
  free:∀b o,h.get? b=some o→H b=none→b∉ex→H' b=none
  there:∀b o,h.get? b=some o→b∉ex→∃o',h'.get? b=some o'
  tups:∀b xs,H b=some (.tup xs)→H' b=some (.tup xs)
  frzs:∀b o u,H b=some (.frz o u)→H' b=some (.frz o u)
  tbls:∀b ps,H b=some (.tbl ps)→∃more,H' b=some (.tbl (ps++more))
section
variable {fs fs' ex ex':List Addr} {H H1 H2:Hp} {h h1 h2 h':Heap} {a x e:Addr} {o:HO}
theorem Un.any (u:Un fs ex H H1 h h1) {b:Addr} {ob:Obj} (q:h.get? b=some ob) (n:H b=none) (hx:b∉ex):∃sl,h1.get? b=some {ob with slots:=sl}:=by
  by_cases hb:b∈fs
  · exact u.slot b ob q n hb hx
  · exact ⟨ob.slots,u.keep b ob q n hb hx⟩
theorem Un.kept (k:∀b u,h.get? b=some u→h'.get? b=some u):Un fs ex H H h h' :=
  ⟨fun b ob q _ _ _=>k b ob q,fun b ob q _ _ _=>⟨ob.slots,k b ob q⟩,fun _ _ _ n _=>n,fun b ob q _=>⟨ob,k b ob q⟩,fun _ _ q=>q,fun _ _ _ q=>q,fun _ ps q=>⟨#[],by rw [q];simp⟩⟩
theorem Un.refl:Un fs ex H H h h:=Un.kept fun _ _ q=>q
theorem Un.laid (k:∀b u,h.get? b=some u→h'.get? b=some u) (hp:h.objs.size≤a) (hn:H a=none):Un fs ex H (upd H a o) h h' where
  keep:=fun b u q _ _ _=>k b u q
  slot:=fun b u q _ _ _=>⟨u.slots,k b u q⟩
  free:=fun b u q n _=>by rw [zar (Nat.ne_of_lt (Nat.lt_of_lt_of_le (Heap.lt_size q) hp))];exact n
  there:=fun b u q _=>⟨u,k b u q⟩
  tups:=fun b xs q=>by rw [zar (zb8 q hn)];exact q
  frzs:=fun b u xs q=>by rw [zar (zb8 q hn)];exact q
  tbls:=fun b ps q=>⟨#[],by rw [zar (zb8 q hn),q];simp⟩
theorem Un.write (mu:Mut (H x)) (he:e=x∨H e=some (.own x)) (k:∀b u,b≠e→h.get? b=some u→h'.get? b=some u) (heo:∃u,h'.get? e=some u):Un fs ex H (upd H x o) h h':=by
  have hx:∀b,H b=none→b≠x:=fun b n z=>by subst z;rw [n] at mu;exact mu
  have hb:∀b,H b=none→b≠e:=fun b n z=>by
    subst z
    rcases he with r|r
    · exact hx b n r
    · rw [n] at r;cases r
  have hm:∀b u,H b=some u→¬Mut (some u)→b≠x:=fun b u q nm z=>by subst z;rw [q] at mu;exact nm mu
  refine ⟨fun b u q n _ _=>k b u (hb b n) q,fun b u q n _ _=>⟨u.slots,k b u (hb b n) q⟩,fun b u q n _=>by rw [zar (hx b n)];exact n,fun b u q _=>?_,
    fun b xs q=>by rw [zar (hm b _ q fun z=>z)];exact q,fun b u xs q=>by rw [zar (hm b _ q fun z=>z)];exact q,fun b ps q=>⟨#[],by rw [zar (hm b _ q fun z=>z),q];simp⟩⟩
  by_cases hbe:b=e
  · subst hbe;exact heo
  · exact ⟨u,k b u hbe q⟩
end
noncomputable def trk (h:Heap) (H:Hp):List Addr:=(List.range h.objs.size).filter fun a=>(H a).isSome
noncomputable def hidT (h:Heap) (H:Hp):Heap:=PySem.W.hideAll h (trk h H)
theorem zmz (h:Heap) (H:Hp):(hidT h H).objs.size=h.objs.size:=PySem.W.hideAll_size _ _
theorem zoq {h:Heap} {H:Hp} {b:Addr} {o:Obj} (e:h.get? b=some o) (n:H b=none):(hidT h H).get? b=some o :=
  PySem.W.hideAll_get _ e fun hm=>by
    have q:(H b).isSome=true:=(List.mem_filter.mp hm).2
    rw [n] at q;simp at q
theorem zqe {h:Heap} {H:Hp} {b:Addr} {o:Obj} (e:(hidT h H).get? b=some o):h.get? b=some o∧H b=none:=by
  have e':h.get? b=some o:=PySem.W.of_hideAll (trk h H) e
  refine ⟨e',?_⟩
  cases q:H b with
  | none=>rfl
  | some x =>
    have hm:b∈trk h H:=List.mem_filter.mpr ⟨List.mem_range.mpr (Heap.lt_size e'),by simp [q]⟩
    have z:(hidT h H).get? b=none:=PySem.W.hideAll_none (trk h H) hm
    rw [z] at e;cases e
noncomputable def allNews (g h:Heap) (L:Addr):List (Addr×Obj):=(List.range h.objs.size).filterMap fun a=>if a=L∨(g.get? a).isSome=true then none else (h.get? a).map fun o=>(a,o)
noncomputable def rest (g h:Heap) (L d:Addr):List (Addr×Obj):=(allNews g h L).filter fun p=>decide (p.1≠d)
end L2
namespace L2
open PySem PySem.Spec PyProof.Rows
structure Mod (K:PySem.W.Frag) (mg:Str→Option Value) (base:Heap):Prop where
  kin:K.In base
  glob:base.Ns mainGlobals mg
  blt:∃mb,base.Ns builtinsNs mb∧∀x:Str,x≠"__name__"→mb x=bootBuiltins x
  nolimit:base.NoLimit
structure Cx where
  prog:Program
  w:World
  K:PySem.W.Frag
  mg:Str→Option Value
  base:Heap
  A:Around
  N:List Str
  s₀:Shared
  H₀:Hp
  env:Env
  outer:List Env
  stack:List Env
  ex:List Addr
  fn:Str→Bool
  calm:Bool
  pn:List (Addr×Obj)
  xe:Value→Shared→Prop
noncomputable def frs (l:List Env):List Addr:=l.filterMap (·.frame)
noncomputable abbrev Cx.fs (X:Cx):List Addr:=frs X.outer
def Vis (sc:Scope) (x:Str):Prop:=sc.names.lookup x=some .local∨sc.names.lookup x=some .cell∨sc.names.lookup x=some .free
def Loc (sc:Scope) (x:Str):Prop:=sc.names.lookup x=some .local∨sc.names.lookup x=some .cell
def Look (env:Env) (h:Heap) (m:Str→Option Value) (x:Str) (u:Value):Prop :=
  (env.kindOf x=some .local∧m x=some u)∨((env.kindOf x=some .cell∨env.kindOf x=some .free)∧∃c,env.cells.lookup x=some c∧h.IsCell c (some u))
structure Cx.Ok (X:Cx):Prop where
  mod:Mod X.K X.mg X.base
  kind:X.env.scope.kind=.function
  glob:X.env.globals=mainGlobals
  blt:X.env.builtins=builtinsNs
  above:X.s₀.heap.objs.size≤X.env.locals
  inj:∀x y c,X.env.cells.lookup x=some c→X.env.cells.lookup y=some c→x=y
  has:∀x,(X.env.kindOf x=some .cell∨X.env.kindOf x=some .free)→∃c,X.env.cells.lookup x=some c
  cab:∀x c,X.fn x=true→X.env.cells.lookup x=some c→X.s₀.heap.objs.size≤c
  hd:X.calm=true→X.A.handled=none
  frames:X.A.frames=some X.stack
  stk:X.stack=X.outer∨(X.stack=X.env::X.outer∧X.env.frame=some X.env.locals)
  exf:∀b∈X.ex,b≠X.env.locals∧∀x c,X.env.cells.lookup x=some c→c≠b
  bs:∀b o,X.base.get? b=some o→X.s₀.heap.get? b=some o∧X.H₀ b=none
  bsz:X.base.objs.size≤X.s₀.heap.objs.size
  noex:∀b o,X.base.get? b=some o→b∉X.ex
  exfs:∀b∈X.ex,b∉X.fs
  funs:X.s₀.heap.FunFrames X.base X.outer
  frf:∀b∈X.fs,X.H₀ b=none
structure Inv (X:Cx) (pins:List (Addr×Obj)) (σ:List (Option V)) (H:Hp) (s:Shared):Prop where
  ok:X.Ok
  os:s.os=X.s₀.os
  bare:AllBare s.gens
  base:Un X.fs X.ex X.H₀ H X.s₀.heap s.heap
  loc:∃m,s.heap.Ns X.env.locals m∧∀(i:Nat) (x:Str) (v:V),X.N[i]?=some x→σ[i]?=some (some v)→Vis X.env.scope x→∃u,RelV v u∧Look X.env s.heap m x u
  cell:∀x c,X.env.cells.lookup x=some c→∃v,s.heap.IsCell c v
  free:H X.env.locals=none
  freeC:∀x c,X.env.cells.lookup x=some c→H c=none
  pin:∀p∈X.pn++pins,s.heap.get? p.1=some p.2∧H p.1=none∧p.1≠X.env.locals∧p.1∉X.fs∧∀v,p.2.data≠.cell v
  hok:HOk X.prog X.w H s.heap
  len:σ.length=X.N.length
section
variable {X:Cx} {pins:List (Addr×Obj)} {σ:List (Option V)} {H H':Hp} {s:Shared} {h':Heap}
theorem Cx.Ok.nofr (ok:X.Ok) {b:Addr} {o:Obj} (e:X.base.get? b=some o):b∉X.fs:=fun hb=>by
  have:=(ok.funs.mem hb).1
  rw [e] at this;cases this
theorem Inv.bs (I:Inv X pins σ H s):∀b o,X.base.get? b=some o→s.heap.get? b=some o∧H b=none:=fun b o e =>
  ⟨I.base.keep b o (I.ok.bs b o e).1 (I.ok.bs b o e).2 (I.ok.nofr e) (I.ok.noex b o e),I.base.free b o (I.ok.bs b o e).1 (I.ok.bs b o e).2 (I.ok.noex b o e)⟩
theorem Inv.bk (I:Inv X pins σ H s):∀b o,X.base.get? b=some o→s.heap.get? b=some o:=fun b o e=>(I.bs b o e).1
theorem Inv.mod (I:Inv X pins σ H s):Mod X.K X.mg X.base:=I.ok.mod
theorem Inv.kIn (I:Inv X pins σ H s):X.K.In s.heap:=I.ok.mod.kin.keeps I.bk
theorem Inv.lt (I:Inv X pins σ H s):X.env.locals<s.heap.objs.size:=let ⟨_,hn,_⟩:=I.loc;hn.lt
theorem Inv.sz (I:Inv X pins σ H s):X.s₀.heap.objs.size≤s.heap.objs.size:=Nat.le_trans I.ok.above (Nat.le_of_lt I.lt)
theorem Inv.nofs (I:Inv X pins σ H s) {a:Addr} (h:s.heap.objs.size≤a):a∉X.fs:=fun hb=>by
  obtain ⟨_,o,ho,_⟩:=I.ok.funs.mem hb
  exact absurd (Nat.lt_of_lt_of_le (Heap.lt_size ho) (Nat.le_trans I.sz h)) (Nat.lt_irrefl _)
theorem Inv.cne (I:Inv X pins σ H s):∀x c,X.env.cells.lookup x=some c→c≠X.env.locals:=fun x c e z=>by
  obtain ⟨v,o,ho,hd⟩:=I.cell x c e
  obtain ⟨m,⟨o',es,ep,ho',hd',_⟩,_⟩:=I.loc
  rw [z,ho'] at ho;cases ho;rw [hd'] at hd;cases hd
theorem Inv.funs (I:Inv X pins σ H s):s.heap.FunFrames X.base X.outer:=by
  have all:∀(l:List Env),(∀b∈frs l,b∈X.fs)→X.s₀.heap.FunFrames X.base l→s.heap.FunFrames X.base l:=by
    intro l
    induction l with
    | nil=>intro _ _;trivial
    | cons env r ih =>
      intro hs hl
      obtain ⟨hk,⟨L,o,hf,hn,ho,hd⟩,hr⟩:=hl
      have hL:L∈X.fs:=hs L (by unfold frs;rw [List.filterMap_cons,hf];exact List.mem_cons_self)
      obtain ⟨sl,e⟩:=I.base.slot L o ho (I.ok.frf L hL) hL fun z=>I.ok.exfs L z hL
      exact ⟨hk,⟨L,_,hf,hn,e,hd⟩,ih (fun b hb=>hs b (by unfold frs;rw [List.filterMap_cons,hf];exact List.mem_cons_of_mem _ hb)) hr⟩
  exact all X.outer (fun _ hb=>hb) I.ok.funs
theorem Inv.stack (I:Inv X pins σ H s):s.heap.FunFrames X.base X.stack:=by
  rcases I.ok.stk with e|⟨e,hf⟩
  · rw [e];exact I.funs
  · rw [e]
    obtain ⟨m,hn,_⟩:=I.loc
    refine .cons (by rw [I.ok.kind];decide) hf hn ?_ I.funs
    exact Heap.get?_none_of_le (Nat.le_trans I.ok.bsz I.ok.above)
theorem Inv.stkSub (I:Inv X pins σ H s):∀b∈frs X.stack,b∈X.env.locals::X.fs:=fun b hb=>by
  rcases I.ok.stk with e|⟨e,hf⟩
  · rw [e] at hb;exact List.mem_cons_of_mem _ hb
  · rw [e] at hb
    unfold frs at hb
    rw [List.filterMap_cons,hf] at hb
    exact hb
theorem Inv.stkFree (I:Inv X pins σ H s):∀b∈frs X.stack,H b=none:=fun b hb=>by
  rcases List.mem_cons.mp (I.stkSub b hb) with e|hb
  · rw [e];exact I.free
  · obtain ⟨_,o,ho,_⟩:=I.ok.funs.mem hb
    exact I.base.free b o ho (I.ok.frf b hb) fun z=>I.ok.exfs b z hb
theorem Inv.step {g':Array GenState} {t':Nat} {d':Drawn} {ch:List Addr} (I:Inv X pins σ H s)
    (hch:∀b∈ch,(b∈X.ex∨X.s₀.heap.objs.size≤b)∧b≠X.env.locals∧(∀x c,X.env.cells.lookup x=some c→c≠b)∧∀p∈X.pn++pins,p.1≠b)
    (keep:∀b o,b≠X.env.locals→b∉X.fs→b∉ch→s.heap.get? b=some o→H b=none→h'.get? b=some o)
    (slot:∀b o,b≠X.env.locals→b∈X.fs→b∉ch→s.heap.get? b=some o→H b=none→∃sl,h'.get? b=some {o with slots:=sl}) (free:∀b o,b∉ch→s.heap.get? b=some o→H b=none→H' b=none)
    (there:∀b o,b∉ch→s.heap.get? b=some o→∃o',h'.get? b=some o')
    (tups:∀b xs,H b=some (.tup xs)→H' b=some (.tup xs)) (frzs:∀b o u,H b=some (.frz o u)→H' b=some (.frz o u)) (tbls:∀b ps,H b=some (.tbl ps)→∃more,H' b=some (.tbl (ps++more)))
    (ns:∀m,s.heap.Ns X.env.locals m→h'.Ns X.env.locals m) (hok:HOk X.prog X.w H' h') (hg:AllBare g') :
    Inv X pins σ H' {s with heap:=h',gens:=g',drawn:=d',toks:=t'}:=by
  have neL:∀b o,X.s₀.heap.get? b=some o→b≠X.env.locals:=fun b o e=>Nat.ne_of_lt (Nat.lt_of_lt_of_le (Heap.lt_size e) I.ok.above)
  have neC:∀b o,X.s₀.heap.get? b=some o→b∉X.ex→b∉ch:=fun b o e hx hb=>by
    rcases (hch b hb).1 with z|z
    · exact hx z
    · exact absurd (Nat.lt_of_lt_of_le (Heap.lt_size e) z) (Nat.lt_irrefl _)
  have cellK:∀x c,X.env.cells.lookup x=some c→∀v,s.heap.IsCell c v→h'.IsCell c v:=fun x c e v z_1=>by
    obtain ⟨o,ho,hd⟩:=z_1
    have nch:c∉ch:=fun z=>(hch c z).2.2.1 x c e rfl
    by_cases hc:c∈X.fs
    · obtain ⟨sl,q⟩:=slot c o (I.cne x c e) hc nch ho (I.freeC x c e)
      exact ⟨_,q,hd⟩
    · exact ⟨o,keep c o (I.cne x c e) hc nch ho (I.freeC x c e),hd⟩
  refine ⟨I.ok,I.os,hg,⟨fun b o e n hb hx=>?_,fun b o e n hb hx=>?_,fun b o e n hx=>?_,fun b o e hx=>?_,fun b xs e=>tups b xs (I.base.tups b xs e),fun b o xs e=>frzs b o xs (I.base.frzs b o xs e),fun b ps e=>?_⟩,?_,fun x c e=>?_,?_,fun x c e=>?_,fun p hp=>?_,hok,I.len⟩
  · exact keep b o (neL b o e) hb (neC b o e hx) (I.base.keep b o e n hb hx) (I.base.free b o e n hx)
  · obtain ⟨sl,e1⟩:=I.base.slot b o e n hb hx
    obtain ⟨sl',e2⟩:=slot b _ (neL b o e) hb (neC b o e hx) e1 (I.base.free b o e n hx)
    exact ⟨sl',e2⟩
  · obtain ⟨o',e1⟩:=I.base.there b o e hx
    exact free b o' (neC b o e hx) e1 (I.base.free b o e n hx)
  · obtain ⟨o',e1⟩:=I.base.there b o e hx
    exact there b o' (neC b o e hx) e1
  · obtain ⟨m1,e1⟩:=I.base.tbls b ps e
    obtain ⟨m2,e2⟩:=tbls b _ e1
    exact ⟨m1++m2,by rw [e2,Array.append_assoc]⟩
  · obtain ⟨m,hn,hl⟩:=I.loc
    refine ⟨m,ns m hn,fun i x v e1 e2 e3=>?_⟩
    obtain ⟨u,r,l⟩:=hl i x v e1 e2 e3
    refine ⟨u,r,?_⟩
    rcases l with l|⟨k,c,e,z⟩
    · exact .inl l
    · exact .inr ⟨k,c,e,cellK x c e _ z⟩
  · obtain ⟨v,z⟩:=I.cell x c e
    exact ⟨v,cellK x c e v z⟩
  · obtain ⟨m,⟨o,_,_,ho,_⟩,_⟩:=I.loc
    exact free _ o (fun z=>(hch _ z).2.1 rfl) ho I.free
  · obtain ⟨v,o,ho,hd⟩:=I.cell x c e
    exact free c o (fun z=>(hch c z).2.2.1 x c e rfl) ho (I.freeC x c e)
  · obtain ⟨e,n,ne,nf,d⟩:=I.pin p hp
    have nch:p.1∉ch:=fun z=>(hch p.1 z).2.2.2 p hp rfl
    exact ⟨keep p.1 p.2 ne nf nch e n,free p.1 p.2 nch e n,ne,nf,d⟩
theorem Inv.un {t':Nat} (I:Inv X pins σ H s) (u:Un X.fs [] H H' s.heap h') (hok:HOk X.prog X.w H' h'):Inv X pins σ H' {s with heap:=h',toks:=t'}:=by
  obtain ⟨m,⟨o,es,ep,ho,r⟩,_⟩:=id I.loc
  obtain ⟨sl,hL⟩:=u.any ho I.free (by simp)
  exact I.step (g':=s.gens) (d':=s.drawn) (ch:=[]) (fun _ z=>nomatch z) (fun b o _ hb _ e n=>u.keep b o e n hb (by simp)) (fun b o _ hb _ e n=>u.slot b o e n hb (by simp)) (fun b o _ e n=>u.free b o e n (by simp)) (fun b o _ e=>u.there b o e (by simp)) u.tups u.frzs u.tbls (fun m' hm=>by
    obtain ⟨o',es',ep',ho',r'⟩:=hm
    rw [ho] at ho';cases ho'
    exact ⟨_,es',ep',hL,r'⟩) hok I.bare
theorem Inv.call {g':Array GenState} {t':Nat} {d':Drawn} {ch:List Addr} (I:Inv X pins σ H s) (u:Un (frs X.stack) ch H H' s.heap h') (hok:HOk X.prog X.w H' h') (hg:AllBare g')
    (hch:∀b∈ch,(b∈X.ex∨X.s₀.heap.objs.size≤b)∧b≠X.env.locals∧(∀x c,X.env.cells.lookup x=some c→c≠b)∧∀p∈X.pn++pins,p.1≠b) :
    Inv X pins σ H' {s with heap:=h',gens:=g',drawn:=d',toks:=t'}:=by
  obtain ⟨m,⟨o,es,ep,ho,r⟩,_⟩:=id I.loc
  obtain ⟨sl,hL⟩:=u.any ho I.free fun z=>(hch _ z).2.1 rfl
  exact I.step (ch:=ch) hch (fun b o hL hb hc e n=>u.keep b o e n (fun z=>(List.mem_cons.mp (I.stkSub b z)).elim hL hb) hc) (fun b o _ _ hc e n=>u.any e n hc) (fun b o hc e n=>u.free b o e n hc) (fun b o hc e=>u.there b o e hc) u.tups u.frzs u.tbls (fun m' hm=>by
    obtain ⟨o',es',ep',ho',r'⟩:=hm
    rw [ho] at ho';cases ho'
    exact ⟨_,es',ep',hL,r'⟩) hok hg
theorem Inv.turned {t':Nat} {it:Addr} (I:Inv X pins σ H s) (k:∀b o,b≠it→s.heap.get? b=some o→h'.get? b=some o) (hn:H it=none) (hL:it≠X.env.locals)
    (h1:it∈X.ex∨X.s₀.heap.objs.size≤it) (h2:∀x c,X.env.cells.lookup x=some c→c≠it) (h3:∀p∈X.pn++pins,p.1≠it):Inv X pins σ H {s with heap:=h',toks:=t'}:=by
  have nit:∀b u,H b=some u→b≠it:=fun b u e z=>by rw [z,hn] at e;cases e
  refine I.step (g':=s.gens) (d':=s.drawn) (ch:=[it]) (fun b hb=>?_) (fun b o _ _ hc e _=>k b o (fun z=>hc (by simp [z])) e) (fun b o _ _ hc e _=>⟨o.slots,k b o (fun z=>hc (by simp [z])) e⟩) (fun _ _ _ _ n=>n)
    (fun b o hc e=>⟨o,k b o (fun z=>hc (by simp [z])) e⟩) (fun _ _ e=>e) (fun _ _ _ e=>e) (fun b ps e=>⟨#[],by rw [e];simp⟩) (fun m hm=>?_) (fun b u e=>?_) I.bare
  · have e:b=it:=by simpa using hb
    subst e
    exact ⟨h1,hL,h2,h3⟩
  · obtain ⟨o,es,ep,ho,r⟩:=hm
    exact ⟨o,es,ep,k _ o (Ne.symm hL) ho,r⟩
  · refine (I.hok b u e).stay (fun c v hc q=>k c v ?_ q) (fun _ q=>q) fun _ _ q=>q
    rcases hc with z|z
    · rw [z];exact nit b u e
    · exact nit c _ z
theorem Inv.tok (I:Inv X pins σ H s) (t:Nat):Inv X pins σ H {s with toks:=t}:=I.un (h':=s.heap) (t':=t) Un.refl I.hok
theorem Inv.kept {t':Nat} (I:Inv X pins σ H s) (k:∀b u,s.heap.get? b=some u→h'.get? b=some u):Inv X pins σ H {s with heap:=h',toks:=t'}:=I.un (Un.kept k) (I.hok.kept k)
theorem Inv.laid {a:Addr} {o:HO} {t':Nat} (I:Inv X pins σ H s) (k:∀b u,s.heap.get? b=some u→h'.get? b=some u) (hp:s.heap.objs.size≤a) (new:ObjOk X.prog X.w (upd H a o) h' a o) :
    Inv X pins σ (upd H a o) {s with heap:=h',toks:=t'}:=I.un (Un.laid k hp (I.hok.fresh hp)) (I.hok.laid k hp new)
theorem Inv.write {x e:Addr} {o:HO} {t':Nat} (I:Inv X pins σ H s) (mu:Mut (H x)) (he:e=x∨H e=some (.own x)) (k:∀b u,b≠e→s.heap.get? b=some u→h'.get? b=some u) (heo:∃u,h'.get? e=some u)
    (new:ObjOk X.prog X.w (upd H x o) h' x o):Inv X pins σ (upd H x o) {s with heap:=h',toks:=t'}:=I.un (Un.write mu he k heo) (I.hok.write mu he k heo new)
theorem Inv.pins_of {pins':List (Addr×Obj)} (I:Inv X pins σ H s) (h:∀p∈pins',s.heap.get? p.1=some p.2∧H p.1=none∧p.1≠X.env.locals∧p.1∉X.fs∧∀v,p.2.data≠.cell v):Inv X pins' σ H s :=
  ⟨I.ok,I.os,I.bare,I.base,I.loc,I.cell,I.free,I.freeC,fun p hp=>(List.mem_append.mp hp).elim (fun z=>I.pin p (List.mem_append_left _ z)) (h p),I.hok,I.len⟩
theorem zhj {N:List Str} (hN:N.Nodup) {i j:Nat} {x:Str} (a:N[i]?=some x) (b:N[j]?=some x):i=j:=by
  obtain ⟨h1,e1⟩:=List.getElem?_eq_some_iff.mp a
  obtain ⟨h2,e2⟩:=List.getElem?_eq_some_iff.mp b
  exact (List.getElem_inj hN).mp (e1.trans e2.symm)
theorem zh3 {M:Model} {A:Around} {E:Value→Shared→Prop} {i:Nat} {x:Str} {v:V} {u:Value} {Q:Unit→Shared→Prop} (I:Inv X pins σ H s) (hN:X.N.Nodup) (hi:X.N[i]?=some x) (hx:Loc X.env.scope x) (r:RelV v u)
    (h:∀s',Inv X pins (σ.set i (some v)) H s'→(∃a,Heap.SameBut a s.heap s'.heap∧(a=X.env.locals∨X.env.cells.lookup x=some a))→Q () s') (hf:X.fn x=true∨X.env.scope.names.lookup x=some .local:=by first|exact .inl rfl|exact .inr rfl|assumption):wpAny M A (storeName X.env x u) Q E s:=by
  obtain ⟨m,hn,hl⟩:=id I.loc
  have hcls:(X.env.scope.kind == .class||(X.env.scope.kind == .module&&X.env.locals != X.env.globals))=false:=by rw [I.ok.kind];rfl
  have hiσ:i<σ.length:=by rw [I.len];exact (List.getElem?_eq_some_iff.mp hi).1
  have cne:=I.cne
  have tracked:∀{a:Addr} {h':Heap},(∃o,s.heap.get? a=some o∧H a=none)→Heap.SameBut a s.heap h'→HOk X.prog X.w H h':=fun {a h'} ha hs b ob e=>by
    obtain ⟨_,_,hfree⟩:=ha
    refine (I.hok b ob e).stay (fun c w' hc q=>(hs.2 c ?_).trans q) (fun _ q=>q) fun _ _ q=>q
    rintro rfl
    rcases hc with rfl|hc
    · rw [hfree] at e;cases e
    · rw [hfree] at hc;cases hc
  rcases hx with hk|hk
  · refine wpAny_storeName_local hk hn (fun h' hn' hs=>?_) hcls
    obtain ⟨oL,_,_,hoL,_⟩:=id hn
    refine h _ ⟨I.ok,I.os,I.bare,⟨fun b o e n hb hx=>?_,fun b o e n hb hx=>?_,I.base.free,fun b o e hx=>?_,I.base.tups,I.base.frzs,I.base.tbls⟩,⟨_,hn',fun j y v' e1 e2 e3=>?_⟩,fun y c e=>?_,I.free,I.freeC,fun p hp=>?_,tracked ⟨oL,hoL,I.free⟩ hs,by simpa using I.len⟩ ⟨_,hs,.inl rfl⟩
    · exact (hs.2 b (Nat.ne_of_lt (Nat.lt_of_lt_of_le (Heap.lt_size e) I.ok.above))).trans (I.base.keep b o e n hb hx)
    · obtain ⟨sl,e1⟩:=I.base.slot b o e n hb hx
      exact ⟨sl,(hs.2 b (Nat.ne_of_lt (Nat.lt_of_lt_of_le (Heap.lt_size e) I.ok.above))).trans e1⟩
    · obtain ⟨o',e1⟩:=I.base.there b o e hx
      exact ⟨o',(hs.2 b (Nat.ne_of_lt (Nat.lt_of_lt_of_le (Heap.lt_size e) I.ok.above))).trans e1⟩
    · by_cases hj:j=i
      · subst hj
        rw [hi] at e1;cases e1
        rw [List.getElem?_set_self hiσ] at e2
        cases e2
        exact ⟨u,r,.inl ⟨hk,by simp⟩⟩
      · rw [List.getElem?_set_ne (Ne.symm hj)] at e2
        obtain ⟨u',r',q⟩:=hl j y v' e1 e2 e3
        refine ⟨u',r',?_⟩
        rcases q with ⟨k,e⟩|⟨k,c,e,z⟩
        · refine .inl ⟨k,?_⟩
          have:y≠x:=fun e=>hj (zhj hN e1 (e▸hi))
          simp [this,e]
        · exact .inr ⟨k,c,e,z.sameBut hs (cne y c e)⟩
    · obtain ⟨w',z⟩:=I.cell y c e
      exact ⟨w',z.sameBut hs (cne y c e)⟩
    · obtain ⟨e,n,ne,nf,d⟩:=I.pin p hp
      exact ⟨(hs.2 p.1 ne).trans e,n,ne,nf,d⟩
  · have hfn:X.fn x=true:=by
      rcases hf with z|z
      · exact z
      · rw [z] at hk;cases hk
    obtain ⟨c,hc⟩:=I.ok.has x (.inl hk)
    obtain ⟨w',z⟩:=I.cell x c hc
    refine wpAny_storeName_cell I.ok.kind hk hc z (fun h' hc' hs=>?_)
    obtain ⟨oc,hoc,hocd⟩:=id z
    refine h {s with heap:=h'} ⟨I.ok,I.os,I.bare,⟨fun b o e n hb hx=>?_,fun b o e n hb hx=>?_,I.base.free,fun b o e hx=>?_,I.base.tups,I.base.frzs,I.base.tbls⟩,⟨m,hn.sameBut hs (Ne.symm (cne x c hc)),fun j y v' e1 e2 e3=>?_⟩,fun y c' e=>?_,I.free,I.freeC,fun p hp=>?_,tracked ⟨oc,hoc,I.freeC x c hc⟩ hs,by simpa using I.len⟩ ⟨c,hs,.inr hc⟩
    · exact (hs.2 b (Nat.ne_of_lt (Nat.lt_of_lt_of_le (Heap.lt_size e) (I.ok.cab x c hfn hc)))).trans (I.base.keep b o e n hb hx)
    · obtain ⟨sl,e1⟩:=I.base.slot b o e n hb hx
      exact ⟨sl,(hs.2 b (Nat.ne_of_lt (Nat.lt_of_lt_of_le (Heap.lt_size e) (I.ok.cab x c hfn hc)))).trans e1⟩
    · obtain ⟨o',e1⟩:=I.base.there b o e hx
      exact ⟨o',(hs.2 b (Nat.ne_of_lt (Nat.lt_of_lt_of_le (Heap.lt_size e) (I.ok.cab x c hfn hc)))).trans e1⟩
    · by_cases hj:j=i
      · subst hj
        rw [hi] at e1;cases e1
        rw [List.getElem?_set_self hiσ] at e2
        cases e2
        exact ⟨u,r,.inr ⟨.inl hk,c,hc,hc'⟩⟩
      · rw [List.getElem?_set_ne (Ne.symm hj)] at e2
        obtain ⟨u',r',q⟩:=hl j y v' e1 e2 e3
        refine ⟨u',r',?_⟩
        rcases q with q|⟨k,c',e,z'⟩
        · exact .inl q
        · refine .inr ⟨k,c',e,z'.sameBut hs ?_⟩
          rintro rfl
          exact hj (zhj hN e1 (I.ok.inj _ _ _ e hc▸hi))
    · by_cases hcc:c'=c
      · subst hcc;exact ⟨_,hc'⟩
      · obtain ⟨w2,z2⟩:=I.cell y c' e
        exact ⟨w2,z2.sameBut hs hcc⟩
    · obtain ⟨e,n,ne,nf,d⟩:=I.pin p hp
      refine ⟨(hs.2 p.1 ?_).trans e,n,ne,nf,d⟩
      intro q
      rw [q,hoc] at e
      have q':oc=p.2:=Option.some.inj e
      exact d w' (by rw [←q'];exact hocd)
theorem zgz {M:Model} {A:Around} {E:Value→Shared→Prop} {i:Nat} {x:Str} {v:V} {u:Value} {Q:Unit→Shared→Prop} (I:Inv X pins σ H s) (hN:X.N.Nodup) (hi:X.N[i]?=some x) (hx:Loc X.env.scope x) (r:RelV v u)
    (h:∀s',Inv X pins (σ.set i (some v)) H s'→Q () s') (hf:X.fn x=true∨X.env.scope.names.lookup x=some .local:=by first|exact .inl rfl|exact .inr rfl|assumption):wpAny M A (storeName X.env x u) Q E s :=
  zh3 I hN hi hx r (fun s' I' _=>h s' I') hf
theorem Inv.call' {s':Shared} {ch:List Addr} (I:Inv X pins σ H s) (ho:s'.os=s.os) (u:Un (frs X.stack) ch H H' s.heap s'.heap) (hok:HOk X.prog X.w H' s'.heap) (hg:AllBare s'.gens)
    (hch:∀b∈ch,(b∈X.ex∨X.s₀.heap.objs.size≤b)∧b≠X.env.locals∧(∀x c,X.env.cells.lookup x=some c→c≠b)∧∀p∈X.pn++pins,p.1≠b):Inv X pins σ H' s':=by
  obtain ⟨h',g',d',t',o'⟩:=s'
  have e:o'=s.os:=ho
  subst e
  exact I.call (g':=g') (t':=t') (d':=d') u hok hg hch
end
noncomputable abbrev XK:=Value→Option Addr→Hp→Prop
noncomputable abbrev St:=List (Option V)
noncomputable abbrev VK:=V→Hp→Prop
noncomputable abbrev TE:=St→Hp→VK→Prop
noncomputable abbrev TT:=St→Hp→(Bool→Hp→Prop)→Prop
noncomputable abbrev TA:=St→Hp→(List V→Hp→Prop)→Prop
structure Ends where
  nx:St→Hp→Prop
  rt:VK
  bk:St→Hp→Prop:=fun _ _=>False
  ct:St→Hp→Prop:=fun _ _=>False
noncomputable abbrev TS:=Ends→St→Hp→Prop
inductive EP (X:Cx) (pins:List (Addr×Obj)) (σ:St) (Q:VK) (u:Value) (s':Shared):Prop where
  | mk (v:V) (H':Hp) (I:Inv X pins σ H' s') (r:RelV v u) (q:Q v H')
def TP (X:Cx) (pins:List (Addr×Obj)) (σ:St) (Q:Bool→Hp→Prop) (b:Bool) (s':Shared):Prop:=∃H',Inv X pins σ H' s'∧Q b H'
inductive AP (X:Cx) (pins:List (Addr×Obj)) (σ:St) (Q:List V→Hp→Prop) (us:List Value) (s':Shared):Prop where
  | mk (vs:List V) (H':Hp) (I:Inv X pins σ H' s') (r:Vals vs us) (q:Q vs H')
def SP (X:Cx) (pins:List (Addr×Obj)) (D:Ends) (f:Flow) (s':Shared):Prop :=
  match f with
  | .next=>∃σ' H',Inv X pins σ' H' s'∧D.nx σ' H'
  | .brk=>∃σ' H',Inv X pins σ' H' s'∧D.bk σ' H'
  | .cont=>∃σ' H',Inv X pins σ' H' s'∧D.ct σ' H'
  | .ret u=>∃v σ' H',Inv X pins σ' H' s'∧RelV v u∧D.rt v H'
def PE (X:Cx) (e:Expr) (t:TE):Prop :=
  ∀(pins:List (Addr×Obj)) (s:Shared) (σ:St) (H:Hp) (Q:VK),Inv X pins σ H s→t σ H Q→wpAny (model X.prog X.w) X.A (eval e X.env) (EP X pins σ Q) X.xe s
def PT (X:Cx) (e:Expr) (t:TT):Prop :=
  ∀(pins:List (Addr×Obj)) (s:Shared) (σ:St) (H:Hp) (Q:Bool→Hp→Prop),Inv X pins σ H s→t σ H Q→wpAny (model X.prog X.w) X.A (isTrue e X.env (eval e X.env)) (TP X pins σ Q) X.xe s
def PW (X:Cx) (e:Expr) (t:TT):Prop :=
  ∀(whole:Sem Value) (pins:List (Addr×Obj)) (s:Shared) (σ:St) (H:Hp) (Q:Bool→Hp→Prop),Inv X pins σ H s→t σ H Q→wpAny (model X.prog X.w) X.A (isTrue e X.env whole) (TP X pins σ Q) X.xe s
theorem PW.pt {X:Cx} {e:Expr} {t:TT} (h:PW X e t):PT X e t:=h _
def PA (X:Cx) (es:List Expr) (t:TA):Prop :=
  ∀(pos:Pos) (pins:List (Addr×Obj)) (s:Shared) (σ:St) (H:Hp) (Q:List V→Hp→Prop),Inv X pins σ H s→t σ H Q→wpAny (model X.prog X.w) X.A (spliced (backTo pos (starEach es X.env))) (AP X pins σ Q) X.xe s
def PS (X:Cx) (st:Stmt) (t:TS):Prop :=
  ∀(pins:List (Addr×Obj)) (s:Shared) (σ:St) (H:Hp) (D:Ends),Inv X pins σ H s→t D σ H→wpAny (model X.prog X.w) X.A (exec st X.env) (SP X pins D) X.xe s
def PSs (X:Cx) (st:List Stmt) (t:TS):Prop :=
  ∀(pins:List (Addr×Obj)) (s:Shared) (σ:St) (H:Hp) (D:Ends),Inv X pins σ H s→t D σ H→wpAny (model X.prog X.w) X.A (execs st X.env) (SP X pins D) X.xe s
theorem thn {α:Type} {t:Sem α} {Q Q':α→Shared→Prop} {M:Model} {A:Around} {E:Value→Shared→Prop} {s:Shared} (h:wpAny M A t Q E s) (hQ:∀a s,Q a s→Q' a s):wpAny M A t Q' E s:=wpAny_mono h hQ fun _ _ x=>x
end L2
namespace L2
open PySem PySem.Spec PyProof.Rows
section
variable {X:Cx}
def tVar (i:Nat):TE:=fun σ H Q=>∃v,σ[i]?=some (some v)∧Q v H
def tC (v:V):TE:=fun _ H Q=>Q v H
theorem pe_var {i:Nat} {x:Str} {pos:Pos} (hN:X.N[i]?=some x) (hv:Vis X.env.scope x) (hd:(x==("__debug__":Str))=false:=by decide) (hcd:(x==("__classdict__":Str))=false:=by decide):PE X (.Name x pos) (tVar i):=by
  intro pins s σ H Q I h
  obtain ⟨v,e,h⟩:=h
  obtain ⟨m,hn,hl⟩:=I.loc
  obtain ⟨u,r,l⟩:=hl i x v hN e hv
  have fin:EP X pins σ Q u s:=⟨v,H,I,r,h⟩
  rcases l with ⟨hk,hm⟩|⟨hk,c,hc,hcell⟩
  · exact wpAny_Name (wpAny_loadName_local I.ok.kind hk hn hm fin) hd
  · rcases hk with hk|hk
    · exact wpAny_Name (wpAny_loadName_cell I.ok.kind hk hc hcell fin) hd
    · exact wpAny_Name (wpAny_loadName_free I.ok.kind hk hc hcell fin hcd) hd
theorem pe_int {i j pos}:PE X (.Constant (.int i) j pos) (tC (.int i)):=fun _ _ _ H _ I h=>wpAny_Constant_int ⟨.int i,H,I.tok _,⟨_,rfl⟩,h⟩
theorem pe_bl {b j pos}:PE X (.Constant (.bool b) j pos) (tC (.bl b)):=fun _ _ _ H _ I h=>Constant_bool ⟨.bl b,H,I,rfl,h⟩
theorem zl9 {x j pos}:PE X (.Constant (.str x) j pos) (tC (.str x)):=fun _ _ _ H _ I h=>Calls.Constant_str ⟨.str x,H,I.tok _,⟨_,rfl⟩,h⟩
def Gl (X:Cx) (x:Str):Prop:=X.env.kindOf x=some .globalImplicit
theorem zf3 {E:Value→Shared→Prop} {pins:List (Addr×Obj)} {s:Shared} {σ:St} {H:Hp} {x:Str} {u:Value} {pos:Pos} {Q:Value→Shared→Prop} (I:Inv X pins σ H s) (hg:Gl X x) (hm:X.mg x=some u) (h:Q u s)
    (hd:(x==("__debug__":Str))=false:=by decide):wpAny (model X.prog X.w) X.A (eval (.Name x pos) X.env) Q E s :=
  Calls.Name_function_global I.ok.kind hg (Calls.loadGlobal_global (by rw [I.ok.glob];exact I.mod.glob.keeps I.bk) hm h) hd
theorem zkj {E:Value→Shared→Prop} {pins:List (Addr×Obj)} {s:Shared} {σ:St} {H:Hp} {x:Str} {u:Value} {pos:Pos} {Q:Value→Shared→Prop} (I:Inv X pins σ H s) (hg:Gl X x) (hm:X.mg x=none) (hv:bootBuiltins x=some u) (h:Q u s)
    (hn:x≠"__name__":=by decide) (hd:(x==("__debug__":Str))=false:=by decide):wpAny (model X.prog X.w) X.A (eval (.Name x pos) X.env) Q E s:=by
  obtain ⟨mb,h1,h2⟩:=I.mod.blt
  exact Calls.Name_function_global I.ok.kind hg (Calls.loadGlobal_builtin (by rw [I.ok.glob];exact I.mod.glob.keeps I.bk) hm (by rw [I.ok.blt];exact h1.keeps I.bk) ((h2 x hn).trans hv) h) hd
theorem zmb {x:Str} {v:V} {u:Value} {pos:Pos} (hg:Gl X x) (hm:X.mg x=some u) (r:RelV v u) (hd:(x==("__debug__":Str))=false:=by decide):PE X (.Name x pos) (tC v) :=
  fun _ _ _ H _ I h=>zf3 I hg hm ⟨v,H,I,r,h⟩ hd
theorem zp8 {x:Str} {v:V} {u:Value} {pos:Pos} (hg:Gl X x) (hm:X.mg x=none) (hv:bootBuiltins x=some u) (r:RelV v u) (hn:x≠"__name__":=by decide) (hd:(x==("__debug__":Str))=false:=by decide):PE X (.Name x pos) (tC v) :=
  fun _ _ _ H _ I h=>zkj I hg hm hv ⟨v,H,I,r,h⟩ hn hd
variable {a b:Expr} {ta tb:TE} {pos:Pos}
def tB (t:TE):TT:=fun σ H Q=>t σ H fun x H1=>∃c,x=.bl c∧Q c H1
theorem pt_val {e:Expr} {t:TE} (h:PE X e t) (he:∀whole,isTrue e X.env whole=(do let v ←whole;standAt e.pos;holding [v] (truthy v)):=by intro _;rfl):PT X e (tB t):=by
  intro pins s σ H Q I hw
  refine isTrue_plain (thn (h pins s σ H _ I hw) fun v s1 ⟨x,H1,I1,r1,q1⟩=>?_) (he _)
  obtain ⟨d,rfl,q⟩:=q1
  cases r1
  exact wpAny_truthy_bool ⟨H1,I1,q⟩
variable {tA tB':TT} {rest:List Expr}
def tAnd (t u:TT):TT:=fun σ H Q=>t σ H fun c H1=>if c=true then u σ H1 Q else Q false H1
def tOr (t u:TT):TT:=fun σ H Q=>t σ H fun c H1=>if c=true then Q true H1 else u σ H1 Q
def tNot (t:TT):TT:=fun σ H Q=>t σ H fun c H1=>Q (!c) H1
theorem zpu (ha:PT X a tA):PW X (.BoolOp .And [a] pos) tA:=by
  intro wh pins s σ H Q I h
  refine isTrue_and (thn (ha pins s σ H Q I h) fun c s1 e=>?_)
  cases c with
  | true=>exact isTrue_and_nil e
  | false=>exact e
theorem pw_or1 (ha:PT X a tA):PW X (.BoolOp .Or [a] pos) tA:=by
  intro wh pins s σ H Q I h
  refine isTrue_or (thn (ha pins s σ H Q I h) fun c s1 e=>?_)
  cases c with
  | false=>exact isTrue_or_nil e
  | true=>exact e
theorem pw_and (ha:PT X a tA) (hb:PW X (.BoolOp .And (b::rest) pos) tB'):PW X (.BoolOp .And (a::b::rest) pos) (tAnd tA tB'):=by
  intro wh pins s σ H Q I h
  refine isTrue_and (thn (ha pins s σ H _ I h) fun c s1 ⟨H1,I1,q1⟩=>?_)
  cases c with
  | true=>exact hb wh pins s1 σ H1 Q I1 q1
  | false=>exact ⟨H1,I1,q1⟩
theorem pw_or (ha:PT X a tA) (hb:PW X (.BoolOp .Or (b::rest) pos) tB'):PW X (.BoolOp .Or (a::b::rest) pos) (tOr tA tB'):=by
  intro wh pins s σ H Q I h
  refine isTrue_or (thn (ha pins s σ H _ I h) fun c s1 ⟨H1,I1,q1⟩=>?_)
  cases c with
  | true=>exact ⟨H1,I1,q1⟩
  | false=>exact hb wh pins s1 σ H1 Q I1 q1
theorem pt_not (ha:PT X a tA):PT X (.UnaryOp .Not a pos) (tNot tA):=by
  intro pins s σ H Q I h
  exact isTrue_not (ha pins s σ H (fun c H1=>Q (!c) H1) I h)
def tAndV (ta tb:TE):TE:=fun σ H Q=>ta σ H fun x H1=>∃c,x=.bl c∧if c=true then tb σ H1 Q else Q (.bl false) H1
def tNotV (ta:TE):TE:=fun σ H Q=>ta σ H fun x H1=>∃c,x=.bl c∧Q (.bl (!c)) H1
theorem pe_one {op} {t:TE} (h:PE X a t):PE X (.BoolOp op [a] pos) t:=fun pins s σ H Q I hw=>BoolOp_one (h pins s σ H Q I hw)
theorem pe_and (ha:PE X a ta) (hb:PE X (.BoolOp .And (b::rest) pos) tb):PE X (.BoolOp .And (a::b::rest) pos) (tAndV ta tb):=by
  intro pins s σ H Q I h
  refine BoolOp_and (thn (ha pins s σ H _ I h) fun v s1 ⟨x,H1,I1,r1,q1⟩=>?_)
  obtain ⟨c,rfl,q1⟩:=q1
  cases r1
  refine wpAny_truthy_bool ?_
  cases c with
  | true=>exact hb pins s1 σ H1 Q I1 q1
  | false=>exact ⟨.bl false,H1,I1,rfl,q1⟩
theorem pe_not (ha:PE X a ta):PE X (.UnaryOp .Not a pos) (tNotV ta):=by
  intro pins s σ H Q I h
  refine UnaryOp_ (thn (ha pins s σ H _ I h) fun v s1 ⟨x,H1,I1,r1,q1⟩=>?_)
  obtain ⟨c,rfl,q1⟩:=q1
  cases r1
  exact not_of (wpAny_truthy_bool ⟨.bl (!c),H1,I1,rfl,q1⟩)
end
end L2
namespace L2
open PySem PySem.Spec PyProof.Rows
def SqL (K:PySem.W.Frag) (H:Hp) (a:Addr) (xs:List V):Prop :=
  Rd H a (.lst xs) ∨
    ∃(o:Obj) (its:Array Value) (n:Nat),K.lookup a=some o∧o.cls=.type "list"∧o.dict=none∧o.data=.seq its n∧its.size≤sizeLine∧Vals xs its.toList
def SqT (K:PySem.W.Frag) (H:Hp) (a:Addr) (xs:List V):Prop :=
  Rd H a (.tup xs) ∨
    ∃(o:Obj) (its:Array Value) (n:Nat),K.lookup a=some o∧o.cls=.type "tuple"∧o.dict=none∧o.data=.seq its n∧its.size≤sizeLine∧Vals xs its.toList
noncomputable def absV:Value→Option V
  | .none=>some .non
  | .bool b=>some (.bl b)
  | .int i _=>some (.int i)
  | .str x _=>some (.str x)
  | .bytes b _=>some (.byt b)
  | .float b _=>some (.flt b)
  | .ref a=>some (.ref a)
  | .type n=>some (.ty n)
  | _=>none
theorem RelV.abs {x:V} {u:Value} (r:RelV x u):absV u=some x:=by
  cases x with
  | non=>cases r;rfl
  | bl _=>cases r;rfl
  | int _=>obtain ⟨t,rfl⟩:=r;rfl
  | str _=>obtain ⟨t,rfl⟩:=r;rfl
  | byt _=>obtain ⟨t,rfl⟩:=r;rfl
  | flt _=>obtain ⟨t,rfl⟩:=r;rfl
  | ref _=>cases r;rfl
  | ty _=>cases r;rfl
theorem RelV.inj {x y:V} {u:Value} (r:RelV x u) (q:RelV y u):x=y:=Option.some.inj (r.abs.symm.trans q.abs)
theorem Vals.inj:∀{xs ys:List V} {us:List Value},Vals xs us→Vals ys us→xs=ys
  | _,_,_,.nil,.nil=>rfl
  | _,_,_,.cons r t,.cons r' t'=>by rw [r.inj r',Vals.inj t t']
section
variable {X:Cx} {pins:List (Addr×Obj)} {σ:St} {H:Hp} {s:Shared} {a:Addr} {xs ys:List V}
theorem SqL.of {K:PySem.W.Frag} (h:H a=some (.lst xs)):SqL K H a xs:=.inl (.inl h)
theorem SqT.of {K:PySem.W.Frag} (h:H a=some (.tup xs)):SqT K H a xs:=.inl (.inl h)
theorem Inv.list (I:Inv X pins σ H s) (h:SqL X.K H a xs):∃its:List Value,Vals xs its∧PlainL s.heap a its.toArray∧xs.length≤sizeLine:=by
  rcases h with h|⟨o,its,n,hk,hc,hd,hs,hz,r⟩
  · obtain ⟨z,its,n,r,e⟩:=h.ok I.hok
    exact ⟨its,r,⟨_,n,e,rfl,rfl,rfl⟩,z⟩
  · refine ⟨its.toList,r,⟨o,n,I.kIn a o hk,hc,hd,by simpa using hs⟩,?_⟩
    have e:=r.length
    simp only [Array.length_toList] at e
    omega
theorem Inv.tuple (I:Inv X pins σ H s) (h:SqT X.K H a xs):∃its:List Value,Vals xs its∧IsTup s.heap a its.toArray∧xs.length≤sizeLine:=by
  rcases h with h|⟨o,its,n,hk,hc,_,hs,hz,r⟩
  · obtain ⟨z,its,r,p,_⟩:=h.ok I.hok
    exact ⟨its,r,p,z⟩
  · refine ⟨its.toList,r,⟨o,I.kIn a o hk,hc,n,by simpa using hs⟩,?_⟩
    have e:=r.length
    simp only [Array.length_toList] at e
    omega
theorem Inv.list_inj (I:Inv X pins σ H s) (h:SqL X.K H a xs) (h':SqL X.K H a ys):xs=ys:=by
  obtain ⟨its,r,⟨o,n,e,_,_,d⟩,_⟩:=I.list h
  obtain ⟨its',r',⟨o',n',e',_,_,d'⟩,_⟩:=I.list h'
  rw [e] at e';cases e'
  rw [d] at d'
  injection d' with d1 _
  have:its=its':=by simpa using congrArg Array.toList d1
  subst this
  exact r.inj r'
theorem Inv.tuple_inj (I:Inv X pins σ H s) (h:SqT X.K H a xs) (h':SqT X.K H a ys):xs=ys:=by
  obtain ⟨its,r,⟨o,e,_,n,d⟩,_⟩:=I.tuple h
  obtain ⟨its',r',⟨o',e',_,n',d'⟩,_⟩:=I.tuple h'
  rw [e] at e';cases e'
  rw [d] at d'
  injection d' with d1 _
  have:its=its':=by simpa using congrArg Array.toList d1
  subst this
  exact r.inj r'
end
noncomputable abbrev Cx.wish (X:Cx) (E:Value→Shared→Prop):Cx:={X with xe:=E}
noncomputable abbrev Cx.nox (X:Cx):Cx:=X.wish fun _ _=>False
theorem Cx.Ok.wish {X:Cx} (ok:X.Ok) (E:Value→Shared→Prop):(X.wish E).Ok :=
  ⟨ok.mod,ok.kind,ok.glob,ok.blt,ok.above,ok.inj,ok.has,ok.cab,ok.hd,ok.frames,ok.stk,ok.exf,ok.bs,ok.bsz,ok.noex,ok.exfs,ok.funs,ok.frf⟩
theorem Cx.Ok.unwish {X:Cx} {E:Value→Shared→Prop} (ok:(X.wish E).Ok):X.Ok :=
  ⟨ok.mod,ok.kind,ok.glob,ok.blt,ok.above,ok.inj,ok.has,ok.cab,ok.hd,ok.frames,ok.stk,ok.exf,ok.bs,ok.bsz,ok.noex,ok.exfs,ok.funs,ok.frf⟩
section
variable {X:Cx} {pins:List (Addr×Obj)} {σ:St} {H:Hp} {s:Shared} {E:Value→Shared→Prop}
theorem Inv.wish (I:Inv X pins σ H s) (E:Value→Shared→Prop):Inv (X.wish E) pins σ H s:=⟨I.ok.wish E,I.os,I.bare,I.base,I.loc,I.cell,I.free,I.freeC,I.pin,I.hok,I.len⟩
theorem Inv.unwish (I:Inv (X.wish E) pins σ H s):Inv X pins σ H s:=⟨I.ok.unwish,I.os,I.bare,I.base,I.loc,I.cell,I.free,I.freeC,I.pin,I.hok,I.len⟩
theorem SP.unwish {D:Ends} {f:Flow} {s':Shared} (h:SP (X.wish E) pins D f s'):SP X pins D f s':=by
  cases f with
  | next=>obtain ⟨σ',H',I,q⟩:=h;exact ⟨σ',H',I.unwish,q⟩
  | brk=>obtain ⟨σ',H',I,q⟩:=h;exact ⟨σ',H',I.unwish,q⟩
  | cont=>obtain ⟨σ',H',I,q⟩:=h;exact ⟨σ',H',I.unwish,q⟩
  | ret u=>obtain ⟨v,σ',H',I,r,q⟩:=h;exact ⟨v,σ',H',I.unwish,r,q⟩
theorem PSs.nox {st:List Stmt} {t:TS} (h:PSs X.nox st t):PSs X st t:=fun pins s σ H D I hw =>
  wpAny_mono (h pins s σ H D (I.wish _) hw) (fun _ _ q=>q.unwish) fun _ _ z=>False.elim z
end
section
variable {X:Cx} {st:Stmt} {rest:List Stmt} {t u:TS} {e:Expr} {te:TE} {pos:Pos}
def tNext:TS:=fun D σ H=>D.nx σ H
def tSeq (t u:TS):TS:=fun D σ H=>t {D with nx:=u D} σ H
theorem zpx:PSs X [] tNext:=fun _ _ σ H _ I h=>wpAny_execs_nil ⟨σ,H,I,h⟩
theorem znv (h1:PS X st t) (h2:PSs X rest u):PSs X (st::rest) (tSeq t u):=by
  intro pins s σ H D I h
  refine wpAny_execs_cons (thn (h1 pins s σ H {D with nx:=u D} I h) fun f s1 q=>?_)
  cases f with
  | next =>
    obtain ⟨σ',H',I',q⟩:=q
    exact h2 pins s1 σ' H' D I' q
  | ret v=>exact q
  | brk=>exact q
  | cont=>exact q
theorem zpw (h1:PS X st t):PSs X [st] t:=by
  intro pins s σ H D I h
  refine wpAny_execs_cons (thn (h1 pins s σ H D I h) fun f s1 q=>?_)
  cases f with
  | next=>exact wpAny_execs_nil q
  | ret v=>exact q
  | brk=>exact q
  | cont=>exact q
theorem Inv.quiet {pins:List (Addr×Obj)} {σ:St} {H:Hp} {s:Shared} (I:Inv X pins σ H s):interactive X.env=false:=by simp [interactive,I.ok.kind]
def tDrop (te:TE):TS:=fun D σ H=>te σ H fun _ H1=>D.nx σ H1
theorem zpy (he:PE X e te) (hs:swapsWith e none pos.line X.env=pure false:=by rfl):PS X (.Expr e pos) (tDrop te):=by
  intro pins s σ H D I h
  exact wpAny_Expr_any (thn (he pins s σ H _ I h) fun v s1 z_4=>by obtain ⟨x,H1,I1,r1,q1⟩:=z_4;exact ⟨σ,H1,I1,q1⟩) I.quiet hs
def tRet (te:TE):TS:=fun D σ H=>te σ H D.rt
theorem ps_ret (he:PE X e te):PS X (.Return (some e) pos) (tRet te):=by
  intro pins s σ H D I h
  exact wpAny_Return_some (thn (he pins s σ H _ I h) fun v s1 z_5=>by obtain ⟨x,H1,I1,r1,q1⟩:=z_5;exact ⟨x,σ,H1,I1,r1,q1⟩)
def tIfS (c:TT) (t u:TS):TS:=fun D σ H=>c σ H fun b H1=>if b=true then t D σ H1 else u D σ H1
theorem ps_if {c:Expr} {a b:List Stmt} {tc:TT} (hc:PT X c tc) (ha:PSs X a t) (hb:PSs X b u):PS X (.If c a b pos) (tIfS tc t u):=by
  intro pins s σ H D I h
  refine wpAny_If (thn (hc pins s σ H _ I h) fun d s1 ⟨H1,I1,q1⟩=>?_)
  cases d with
  | true=>exact ha pins s1 σ H1 D I1 q1
  | false=>exact hb pins s1 σ H1 D I1 q1
end
noncomputable abbrev TG:=V→St→Hp→(St→Hp→Prop)→Prop
def PG (X:Cx) (target:Expr) (t:TG):Prop :=
  ∀(pins:List (Addr×Obj)) (s:Shared) (σ:St) (H:Hp) (v:V) (u:Value) (Q:St→Hp→Prop),Inv X pins σ H s→RelV v u→t v σ H Q →
    wpAny (model X.prog X.w) X.A (assign target X.env u) (fun _ s'=>∃σ' H',Inv X pins σ' H' s'∧Q σ' H') X.xe s
noncomputable abbrev TSet:=V→V→V→Hp→(Hp→Prop)→Prop
def PSet (X:Cx) (t:TSet):Prop :=
  ∀(pins:List (Addr×Obj)) (s:Shared) (σ:St) (H:Hp) (o i v:V) (ov iv u:Value) (Q:Hp→Prop),Inv X pins σ H s→RelV o ov→RelV i iv→RelV v u→t o i v H Q →
    wpAny (model X.prog X.w) X.A (setItem ov iv u) (fun _ s'=>∃H',Inv X pins σ H' s'∧Q H') X.xe s
section
variable {X:Cx} {pos:Pos}
def gName (i:Nat):TG:=fun v σ H Q=>Q (σ.set i (some v)) H
theorem zl8 {i:Nat} {x:Str} (hN:X.N.Nodup) (hi:X.N[i]?=some x) (hx:Loc X.env.scope x) (hf:X.fn x=true∨X.env.scope.names.lookup x=some .local:=by first|exact .inl rfl|exact .inr rfl|assumption):PG X (.Name x pos) (gName i):=by
  intro pins s σ H v u Q I r h
  exact wpAny_assign_Name (zgz I hN hi hx r (fun s' I'=>⟨_,H,I',h⟩) hf)
def gSub (to ti:TE) (t:TSet):TG:=fun v σ H Q=>to σ H fun o H1=>ti σ H1 fun i H2=>t o i v H2 fun H3=>Q σ H3
theorem pg_sub {o i:Expr} {to ti:TE} {t:TSet} (ho:PE X o to) (hi:PE X i ti) (hs:PSet X t)
    (ha:∀v,assign (.Subscript o i pos) X.env v=(do
      let ov ←holding [v] (eval o X.env)
      let iv ←holding [v,ov] (eval i X.env)
      standAt pos
      holding [v,ov,iv] (setItem ov iv v)
      release [v,ov,iv] []):=by intro _;rfl):PG X (.Subscript o i pos) (gSub to ti t):=by
  intro pins s σ H v u Q I r h
  rw [ha]
  refine wpAny_bind (wpAny_holding (thn (ho pins s σ H _ I h) fun ov s1 ⟨x,H1,I1,r1,q1⟩=>?_))
  refine wpAny_bind (wpAny_holding (thn (hi pins s1 σ H1 _ I1 q1) fun iv s2 ⟨y,H2,I2,r2,q2⟩=>?_))
  refine wpAny_bind (wpAny_standAt (wpAny_bind (wpAny_holding (thn (hs pins s2 σ H2 x y v ov iv u _ I2 r1 r2 r q2) fun _ s3 ⟨H3,I3,q3⟩=>?_))))
  exact wpAny_release ⟨σ,H3,I3,q3⟩
def tAsg (te:TE) (g:TG):TS:=fun D σ H=>te σ H fun x H1=>g x σ H1 D.nx
theorem ps_asg {tg e:Expr} {te:TE} {g:TG} (he:PE X e te) (hg:PG X tg g) (hs:swapsWithSole [tg] e pos.line X.env=pure false:=by rfl) (hw:swappedStores [tg] e X.env=pure none:=by rfl)
    (h1:(assignEach [tg] X.env).map (·.2)=[assign tg X.env]:=by rfl):PS X (.Assign [tg] e pos) (tAsg te g):=by
  intro pins s σ H D I h
  refine wpAny_Assign_stores (thn (he pins s σ H _ I h) fun v s1 ⟨x,H1,I1,r1,q1⟩=>?_) hs hw
  rw [h1]
  exact thn (hg pins s1 σ H1 x v _ I1 r1 q1) fun _ s2 q=>q
theorem ps_set {i:Nat} {x:Str} {e:Expr} {te:TE} {pos':Pos} (hN:X.N.Nodup) (hi:X.N[i]?=some x) (hx:Loc X.env.scope x) (he:PE X e te) (hs:swapsWith e (some (.Name x pos')) pos.line X.env=pure false:=by rfl) (hf:X.fn x=true∨X.env.scope.names.lookup x=some .local:=by first|exact .inl rfl|exact .inr rfl|assumption) :
    PS X (.Assign [.Name x pos'] e pos) (tAsg te (gName i)):=by
  intro pins s σ H D I h
  refine wpAny_Assign_Name (thn (he pins s σ H _ I h) fun v s1 ⟨y,H1,I1,r1,q1⟩=>?_) hs
  exact zgz I1 hN hi hx r1 (fun s2 I2=>⟨_,H1,I2,q1⟩) hf
end
section
variable {X:Cx} {pos:Pos}
def tWhile (c:TT) (tb:TS):TS:=fun D σ H=>∃W:Nat→St→Hp→Prop,(∃m,W m σ H)∧∀m σ H,W m σ H →
  c σ H fun b H1=>if b=true then ∃N:St→Hp→Prop,(∀σ' H',N σ' H'→∃m',m'<m∧W m' σ' H')∧tb {D with nx:=N,ct:=N,bk:=D.nx} σ H1 else D.nx σ H1
theorem znw {c:Expr} {body:List Stmt} {tc:TT} {tb:TS} (hp:PassesOwn (model X.prog X.w) X.A X.env X.xe) (hc:PT X c tc) (hb:PSs X body tb):PS X (.While c body [] pos) (tWhile tc tb):=by
  intro pins s σ H D I h
  obtain ⟨W,⟨m0,w0⟩,turn⟩:=h
  refine wpAny_While (codeAny_whileLoop (fun n s'=>∃σ' H',Inv X pins σ' H' s'∧W n σ' H') ?_ m0 ⟨σ,H,I,w0⟩)
  rintro n s1 ⟨σ1,H1,I1,w1⟩
  refine wpAny_passesOwn hp (thn (hc pins s1 σ1 H1 _ I1 (turn n σ1 H1 w1)) fun b s2 ⟨H2,I2,q2⟩=>?_)
  cases b with
  | true =>
    obtain ⟨N,hN,q2⟩:=q2
    rw [if_pos rfl]
    refine wpAny_passesOwn hp (thn (hb pins s2 σ1 H2 _ I2 q2) fun f s3 q3=>?_)
    cases f with
    | next =>
      obtain ⟨σ3,H3,I3,n3⟩:=q3
      obtain ⟨m',hm,w3⟩:=hN σ3 H3 n3
      exact ⟨m',hm,σ3,H3,I3,w3⟩
    | cont =>
      obtain ⟨σ3,H3,I3,n3⟩:=q3
      obtain ⟨m',hm,w3⟩:=hN σ3 H3 n3
      exact ⟨m',hm,σ3,H3,I3,w3⟩
    | brk=>exact q3
    | ret v=>exact q3
  | false =>
    rw [if_neg Bool.false_ne_true]
    exact wpAny_execs_nil ⟨σ1,H2,I2,q2⟩
end
structure It where
  go:Nat→Hp→Prop
  yld:Nat→Hp→V→Hp→Prop
  stop:Nat→Hp→Prop
def FpOk (X:Cx) (pins:List (Addr×Obj)) (H:Hp) (b:Addr):Prop :=
  H b=none∧b≠X.env.locals∧b∉X.fs∧(b∈X.ex∨X.s₀.heap.objs.size≤b)∧(∀x c,X.env.cells.lookup x=some c→c≠b)∧∀p∈X.pn++pins,p.1≠b
theorem Inv.fpOk {X:Cx} {pins:List (Addr×Obj)} {σ:St} {H H':Hp} {s:Shared} {b:Addr} (I:Inv X pins σ H s) (hb:s.heap.objs.size≤b) (hn:H' b=none):FpOk X pins H' b:=by
  refine ⟨hn,Nat.ne_of_gt (Nat.lt_of_lt_of_le I.lt hb),I.nofs hb,.inr (Nat.le_trans I.sz hb),fun x c e z=>?_,fun p hp z=>?_⟩
  · obtain ⟨v,q⟩:=I.cell x c e
    exact absurd (Nat.lt_of_lt_of_le q.lt (by rw [z];exact hb)) (Nat.lt_irrefl _)
  · exact absurd (Nat.lt_of_lt_of_le (Heap.lt_size (I.pin p hp).1) (by rw [z];exact hb)) (Nat.lt_irrefl _)
structure Turn (P:Program) (w:World) (K:PySem.W.Frag) (tg:Expr) (J:It) (fp:List Addr) (it:Addr) (tn:Nat→Heap→Prop):Prop where
  mem:it∈fp
  obj:∀i h,tn i h→∀b∈fp,∃o,h.get? b=some o∧∀v,o.data≠.cell v
  keep:∀i h h',tn i h→(∀b∈fp,∀o,h.get? b=some o→h'.get? b=some o)→tn i h'
  item:∀(X:Cx),X.prog=P→X.w=w→X.K=K→X.calm=true→∀(i:Nat) (pins:List (Addr×Obj)) (s:Shared) (σ:St) (H:Hp) (E:Value→Shared→Prop),Inv X pins σ H s→(∀b∈fp,FpOk X pins H b)→tn i s.heap→J.go i H →
    wpAny (model P w) X.A (pyNext (.ref it)) (fun r s1=>∃u,r=some u ∧
      wpAny (model P w) X.A (letOwnedTupleGo tg (.ref it) u) (fun _ s2=>∃x H',Inv X pins σ H' s2∧RelV x u∧J.yld i H x H'∧tn (i+1) s2.heap∧∀b∈fp,H' b=none) E s1) E s
  done:∀(X:Cx),X.prog=P→X.w=w→X.K=K→X.calm=true→∀(i:Nat) (pins:List (Addr×Obj)) (s:Shared) (σ:St) (H:Hp) (E:Value→Shared→Prop),Inv X pins σ H s→(∀b∈fp,FpOk X pins H b)→tn i s.heap→J.stop i H →
    wpAny (model P w) X.A (pyNext (.ref it)) (fun r s1=>r=none∧Inv X pins σ H s1) E s
  self:∀(A:Around) (i:Nat) (s:Shared) (Q:Value→Shared→Prop) (E:Value→Shared→Prop),tn i s.heap→Q (.ref it) s→wpAny (model P w) A (pyIter (.ref it)) Q E s
noncomputable abbrev TI:=St→Hp→(It→Hp→Prop)→Prop
def PIE (X:Cx) (pins:List (Addr×Obj)) (σ:St) (tg:Expr) (R:It→Hp→Prop) (itv:Value) (s2:Shared):Prop :=
  ∃(it:Addr) (fp:List Addr) (tn:Nat→Heap→Prop) (J:It) (H':Hp),itv=.ref it∧Inv X pins σ H' s2∧Turn X.prog X.w X.K tg J fp it tn∧tn 0 s2.heap∧(∀b∈fp,FpOk X pins H' b)∧R J H'
def PI (X:Cx) (tg iter:Expr) (wi:TI):Prop :=
  ∀(pins:List (Addr×Obj)) (s:Shared) (σ:St) (H:Hp) (R:It→Hp→Prop),Inv X pins σ H s→wi σ H R →
    wpAny (model X.prog X.w) X.A (eval iter X.env) (fun v s1=>wpAny (model X.prog X.w) X.A (pyIter v) (PIE X pins σ tg R) X.xe s1) X.xe s
theorem zor {M:Model} {A:Around} {E:Value→Shared→Prop} {s:Shared} {tg:Expr} {it:Addr} {u:Value} {o:Obj} {n:String} {vs:Array Value} {Q:Unit→Shared→Prop} (ho:s.heap.get? it=some o) (hc:o.cls=.type n) (hd:o.data=.fields vs)
    (hn:["enumerate","zip","dict_itemiterator","dict_reverseitemiterator","odict_iterator","itertools.zip_longest","itertools.pairwise"].contains n=false) (hQ:Q () s):wpAny M A (letOwnedTupleGo tg (.ref it) u) Q E s:=by
  unfold letOwnedTupleGo
  cases tg<;>first
    | exact wpAny_pure hQ
    | (cases u<;>first
        | exact wpAny_pure hQ
        | (refine wpAny_bind (wpAny_load ho ?_)
           rw [hc,hd]
           show wpAny M A (if (["enumerate","zip","dict_itemiterator","dict_reverseitemiterator","odict_iterator","itertools.zip_longest","itertools.pairwise"].contains n&&vs[0]?==some (rawInt _))=true then _ else _) Q E s
           rw [if_neg (by intro h;rw [hn,Bool.false_and] at h;cases h)]
           exact wpAny_pure hQ))
noncomputable def Itl (K:PySem.W.Frag) (a:Addr):It :=
  ⟨fun i H=>∃xs x,SqL K H a xs∧xs[i]?=some x,fun i H x H'=>H'=H∧∀xs,SqL K H a xs→xs[i]?=some x,fun i H=>∃xs,SqL K H a xs∧xs.length≤i⟩
noncomputable def Itt (K:PySem.W.Frag) (a:Addr):It :=
  ⟨fun i H=>∃xs x,SqT K H a xs∧xs[i]?=some x,fun i H x H'=>H'=H∧∀xs,SqT K H a xs→xs[i]?=some x,fun i H=>∃xs,SqT K H a xs∧xs.length≤i⟩
noncomputable def Itr (lo:Int) (n:Nat):It:=⟨fun i _=>i<n,fun i H x H'=>H'=H∧x=.int (lo+i),fun i _=>n≤i⟩
theorem zlp {P:Program} {w:World} {K:PySem.W.Frag} {tg:Expr} (a it:Addr):Turn P w K tg (Itl K a) [it] it (fun i h=>h.IsListIter it a i) where
  mem:=by simp
  obj:=fun i h st b hb=>by
    have e:b=it:=by simpa using hb
    subst e
    obtain ⟨o,e,c,d⟩:=st
    exact ⟨o,e,fun v z=>by rw [d] at z;cases z⟩
  keep:=fun i h h' st k=>st.at fun o e=>k it (by simp) o e
  item:=by
    intro X hP hw hK hc i pins s σ H E I hf st hg
    subst hP hw hK
    obtain ⟨xs,x,hq,hx⟩:=hg
    obtain ⟨its,rv,p,hz⟩:=I.list hq
    obtain ⟨u,hu,ru⟩:=rv.get hx
    obtain ⟨f0,f1,f2,f3,f4,f5⟩:=hf it (by simp)
    refine wpAny_pyNext_list_item st p.isList (x:=u) (by simpa using hu) fun h' st' sb=>?_
    have I1:Inv X pins σ H {s with heap:=h'}:=I.turned (t':=s.toks) (fun b o hb e=>(sb.2 b hb).trans e) f0 f1 f3 f4 f5
    obtain ⟨o,e,c,d⟩:=id st'
    exact ⟨u,rfl,zor (s:={s with heap:=h'}) e c d (by decide) ⟨x,H,I1,ru,⟨rfl,fun ys hy=>by rw [I.list_inj hy hq];exact hx⟩,st',fun b hb=>(hf b hb).1⟩⟩
  done:=by
    intro X hP hw hK hc i pins s σ H E I hf st hg
    subst hP hw hK
    obtain ⟨xs,hq,hx⟩:=hg
    obtain ⟨its,rv,p,hz⟩:=I.list hq
    obtain ⟨f0,f1,f2,f3,f4,f5⟩:=hf it (by simp)
    have hl:=rv.length
    exact wpAny_pyNext_list_end (I.ok.hd hc) st p.isList (by simp;omega) fun h' eb=>⟨rfl,I.turned (t':=s.toks) (fun b o hb e=>eb b o hb e) f0 f1 f3 f4 f5⟩
  self:=fun _ _ _ _ _ st h=>wpAny_pyIter_listiter st h
theorem zky {P:Program} {w:World} {K:PySem.W.Frag} {tg:Expr} (a it:Addr):Turn P w K tg (Itt K a) [it] it (fun i h=>h.IsTupleIter it a i) where
  mem:=by simp
  obj:=fun i h st b hb=>by
    have e:b=it:=by simpa using hb
    subst e
    obtain ⟨o,e,c,d⟩:=st
    exact ⟨o,e,fun v z=>by rw [d] at z;cases z⟩
  keep:=fun i h h' st k=>st.at fun o e=>k it (by simp) o e
  item:=by
    intro X hP hw hK hc i pins s σ H E I hf st hg
    subst hP hw hK
    obtain ⟨xs,x,hq,hx⟩:=hg
    obtain ⟨its,rv,p,hz⟩:=I.tuple hq
    obtain ⟨u,hu,ru⟩:=rv.get hx
    obtain ⟨f0,f1,f2,f3,f4,f5⟩:=hf it (by simp)
    refine wpAny_pyNext_tuple_item st (show s.heap.IsTuple a its.toArray from p) (x:=u) (by simpa using hu) fun h' st' sb=>?_
    have I1:Inv X pins σ H {s with heap:=h'}:=I.turned (t':=s.toks) (fun b o hb e=>(sb.2 b hb).trans e) f0 f1 f3 f4 f5
    obtain ⟨o,e,c,d⟩:=id st'
    exact ⟨u,rfl,zor (s:={s with heap:=h'}) e c d (by decide) ⟨x,H,I1,ru,⟨rfl,fun ys hy=>by rw [I.tuple_inj hy hq];exact hx⟩,st',fun b hb=>(hf b hb).1⟩⟩
  done:=by
    intro X hP hw hK hc i pins s σ H E I hf st hg
    subst hP hw hK
    obtain ⟨xs,hq,hx⟩:=hg
    obtain ⟨its,rv,p,hz⟩:=I.tuple hq
    obtain ⟨f0,f1,f2,f3,f4,f5⟩:=hf it (by simp)
    have hl:=rv.length
    exact wpAny_pyNext_tuple_end (I.ok.hd hc) st (show s.heap.IsTuple a its.toArray from p) (by simp;omega) fun h' eb=>⟨rfl,I.turned (t':=s.toks) (fun b o hb e=>eb b o hb e) f0 f1 f3 f4 f5⟩
  self:=fun _ _ _ _ _ st h=>wpAny_pyIter_tupleiter st h
theorem zkz {P:Program} {w:World} {K:PySem.W.Frag} {tg:Expr} (it:Addr) (lo:Int) (n:Nat):Turn P w K tg (Itr lo n) [it] it (fun i h=>IsRangeIter h it (lo+(i:Nat)*1) ((n:Int)-(i:Nat)) 1) where
  mem:=by simp
  obj:=fun i h st b hb=>by
    have e:b=it:=by simpa using hb
    subst e
    exact ⟨_,st,fun v z=>by
      have z':Data.fields _=Data.cell v:=z
      cases z'⟩
  keep:=fun i h h' st k=>k it (by simp) _ st
  item:=by
    intro X hP hw hK hc i pins s σ H E I hf st hg
    subst hP hw hK
    obtain ⟨f0,f1,f2,f3,f4,f5⟩:=hf it (by simp)
    have W:=Walks.range (prog:=X.prog) (w:=X.w) (I.ok.hd hc) it lo 1 n
    refine W.item i s _ _ hg st fun v h' tk hv st' kk=>?_
    obtain ⟨t,rfl⟩:=hv
    have I1:Inv X pins σ H {s with heap:=h',toks:=tk}:=I.turned (fun b o hb e=>kk b o (by simpa using hb) e) f0 f1 f3 f4 f5
    refine ⟨_,rfl,zor (s:={s with heap:=h',toks:=tk}) (n:="range_iterator") st' rfl rfl (by decide) ⟨.int (lo+i),H,I1,⟨t,?_⟩,⟨rfl,rfl⟩,st',fun b hb=>(hf b hb).1⟩⟩
    rw [Int.mul_one]
  done:=by
    intro X hP hw hK hc i pins s σ H E I hf st hg
    subst hP hw hK
    obtain ⟨f0,f1,f2,f3,f4,f5⟩:=hf it (by simp)
    exact wpAny_pyNext_range_end (I.ok.hd hc) st (by have:n≤i:=hg;omega) fun h' eb=>⟨rfl,I.turned (t':=s.toks) (fun b o hb e=>eb b o hb e) f0 f1 f3 f4 f5⟩
  self:=fun _ _ _ _ _ st h=>wpAny_pyIter_rangeiter st h
end L2
namespace L2
open PySem PySem.Spec PyProof.Rows
section
variable {X:Cx} {tg:Expr}
def iList (K:PySem.W.Frag) (tl:TE):TI:=fun σ H R=>tl σ H fun x H1=>∃a,x=.ref a∧(∃xs,SqL K H1 a xs)∧R (Itl K a) H1
def iTup (K:PySem.W.Frag) (tl:TE):TI:=fun σ H R=>tl σ H fun x H1=>∃a,x=.ref a∧(∃xs,SqT K H1 a xs)∧R (Itt K a) H1
theorem zp3 {l:Expr} {tl:TE} (hl:PE X l tl):PI X tg l (iList X.K tl):=by
  intro pins s σ H R I h
  refine thn (hl pins s σ H _ I h) fun v s1 ⟨x,H1,I1,r1,q1⟩=>?_
  obtain ⟨a,e,⟨xs,hq⟩,q⟩:=q1
  subst e
  cases r1
  obtain ⟨its,rv,p,hz⟩:=I1.list hq
  refine wpAny_pyIter_list p.isList ?_
  refine ⟨s1.heap.objs.size,[s1.heap.objs.size],_,_,H1,rfl,I1.kept (t':=s1.toks) fun b o e=>Heap.get?_push_of_some _ e,zlp a _,⟨_,Heap.get?_push_size _ rfl,rfl,rfl⟩,fun b hb=>?_,q⟩
  have e:b=s1.heap.objs.size:=by simpa using hb
  subst e
  exact I1.fpOk (Nat.le_refl _) (I1.hok.fresh (Nat.le_refl _))
theorem pi_tup {l:Expr} {tl:TE} (hl:PE X l tl):PI X tg l (iTup X.K tl):=by
  intro pins s σ H R I h
  refine thn (hl pins s σ H _ I h) fun v s1 ⟨x,H1,I1,r1,q1⟩=>?_
  obtain ⟨a,e,⟨xs,hq⟩,q⟩:=q1
  subst e
  cases r1
  obtain ⟨its,rv,p,hz⟩:=I1.tuple hq
  refine wpAny_pyIter_tuple (show s1.heap.IsTuple a its.toArray from p) ?_
  refine ⟨s1.heap.objs.size,[s1.heap.objs.size],_,_,H1,rfl,I1.kept (t':=s1.toks) fun b o e=>Heap.get?_push_of_some _ e,zky a _,⟨_,Heap.get?_push_size _ rfl,rfl,rfl⟩,fun b hb=>?_,q⟩
  have e:b=s1.heap.objs.size:=by simpa using hb
  subst e
  exact I1.fpOk (Nat.le_refl _) (I1.hok.fresh (Nat.le_refl _))
theorem zns {pins:List (Addr×Obj)} {σ:St} {H:Hp} {s:Shared} {R:It→Hp→Prop} {E:Value→Shared→Prop} {lo hi:Int} {t u v:Tok} {tk:Nat} (I:Inv X pins σ H s) (h1:-(2^62)≤lo) (h2:lo<2^62) (h3:-(2^62)≤hi) (h4:hi<2^62)
    (q:R (Itr lo (hi-lo).toNat) H):wpAny (model X.prog X.w) X.A (pyIter (.ref s.heap.objs.size)) (PIE X pins σ tg R) E {s with heap:=s.heap.push {cls:=.type "range",data:=.fields #[.int lo t,.int hi u,.int 1 v]},toks:=tk}:=by
  refine wpAny_pyIter_range (IsRange.new ..) (small_one h1 h2 h3 h4) ?_
  have I1:Inv X pins σ H {s with heap:=s.heap.push {cls:=.type "range",data:=.fields #[.int lo t,.int hi u,.int 1 v]},toks:=tk}:=I.kept fun b o e=>Heap.get?_push_of_some _ e
  refine ⟨(s.heap.push {cls:=.type "range",data:=.fields #[.int lo t,.int hi u,.int 1 v]}).objs.size,[(s.heap.push {cls:=.type "range",data:=.fields #[.int lo t,.int hi u,.int 1 v]}).objs.size],_,_,H,rfl,
    I1.kept (t':=tk) fun b o e=>Heap.get?_push_of_some _ e,zkz _ lo (hi-lo).toNat,?_,fun b hb=>?_,q⟩
  · have e1:lo+((0:Nat):Int)*1=lo:=by simp
    have e2:(((hi-lo).toNat:Nat):Int)-((0:Nat):Int)=Builtin.Range.rangeSize lo hi 1:=by rw [rangeSize_one];split<;>omega
    show IsRangeIter _ _ (lo+((0:Nat):Int)*1) ((((hi-lo).toNat:Nat):Int)-((0:Nat):Int)) 1
    rw [e1,e2]
    exact Heap.get?_push_size _ rfl
  · have e:b=(s.heap.push {cls:=.type "range",data:=.fields #[.int lo t,.int hi u,.int 1 v]}).objs.size:=by simpa using hb
    subst e
    exact I1.fpOk (Nat.le_refl _) (I1.hok.fresh (Nat.le_refl _))
def iRng1 (ta:TA):TI:=fun σ H R=>ta σ H fun vs H1=>∃j:Int,vs=[.int j]∧-(2^62)≤j∧j<2^62∧R (Itr 0 j.toNat) H1
theorem zl7 {a:Expr} {ta:TA} {p pos:Pos} (hg:Gl X "range") (hm:X.mg "range"=none) (ha:PA X [a] ta) (hs:starEach [a] X.env=[(false,eval a X.env)]:=by rfl):PI X tg (.Call (.Name "range" p) [a] [] pos) (iRng1 ta):=by
  intro pins s σ H R I h
  refine Call_ (zkj I hg hm boot_range (PyProof.Rows.callWith_type1 (thn (ha pos pins s σ H _ I h) fun us s1 ⟨vs,H1,I1,r1,q1⟩=>?_) hs rfl))
  obtain ⟨j,e,q1,q2,q⟩:=q1
  subst e
  cases r1 with
  | cons r rr =>
    cases rr
    obtain ⟨t,rfl⟩:=r
    exact call_range_1 (zns I1 (by omega) (by omega) q1 q2 (by simpa using q))
def tFor (wi:TI) (g:TG) (tb:TS):TS:=fun D σ H=>wi σ H fun J H1=>∃W:Nat→Nat→St→Hp→Prop,(∃m,W 0 m σ H1)∧∀i m σ H,W i m σ H →
  (J.stop i H∧D.nx σ H)∨(J.go i H∧∃N:St→Hp→Prop,(∀σ' H',N σ' H'→∃m',m'<m∧W (i+1) m' σ' H')∧∀x H',J.yld i H x H'→g x σ H' fun σ2 H2=>tb {D with nx:=N,ct:=N,bk:=D.nx} σ2 H2)
noncomputable def pinsAt (fp:List Addr) (h:Heap):List (Addr×Obj):=fp.filterMap fun b=>(h.get? b).map fun o=>(b,o)
theorem zdv {fp:List Addr} {h:Heap} {b:Addr} {o:Obj} (hb:b∈fp) (e:h.get? b=some o):(b,o)∈pinsAt fp h:=List.mem_filterMap.mpr ⟨b,hb,by rw [e];rfl⟩
theorem zml {fp:List Addr} {h:Heap} {p:Addr×Obj} (hp:p∈pinsAt fp h):p.1∈fp∧h.get? p.1=some p.2:=by
  obtain ⟨b,hb,e⟩:=List.mem_filterMap.mp hp
  cases q:h.get? b with
  | none=>rw [q] at e;cases e
  | some o =>
    rw [q] at e
    have e':(b,o)=p:=Option.some.inj e
    subst e'
    exact ⟨hb,q⟩
theorem Inv.pinned {pins:List (Addr×Obj)} {σ:St} {H:Hp} {s:Shared} {fp:List Addr} (I:Inv X pins σ H s) (hf:∀b∈fp,FpOk X pins H b) (ho:∀b∈fp,∃o,s.heap.get? b=some o∧∀v,o.data≠.cell v):Inv X (pins++pinsAt fp s.heap) σ H s :=
  I.pins_of fun p hp=>(List.mem_append.mp hp).elim (fun z=>I.pin p (List.mem_append_right _ z)) fun z=>by
    obtain ⟨hb,e⟩:=zml z
    obtain ⟨f0,f1,f2,_⟩:=hf p.1 hb
    obtain ⟨o,e',d⟩:=ho p.1 hb
    rw [e] at e';cases e'
    exact ⟨e,f0,f1,f2,d⟩
theorem Inv.unpinned {pins pl:List (Addr×Obj)} {σ:St} {H:Hp} {s:Shared} (I:Inv X (pins++pl) σ H s):Inv X pins σ H s:=I.pins_of fun p hp=>I.pin p (List.mem_append_right _ (List.mem_append_left _ hp))
theorem ps_for {iter:Expr} {body:List Stmt} {wi:TI} {g:TG} {tb:TS} {pos:Pos} (hp:PassesOwn (model X.prog X.w) X.A X.env X.xe) (hc:X.calm=true) (hi:PI X tg iter wi) (hg:PG X tg g) (hb:PSs X body tb)
    (hs:∀x,foldedSetIterable iter X.env x=pure x:=by intro _;rfl):PS X (.For tg iter body [] pos) (tFor wi g tb):=by
  intro pins s σ H D I h
  refine wpAny_For (thn (hi pins s σ H _ I h) fun v s1 h1=>thn h1 fun itv s2 h2=>?_) hs
  obtain ⟨it,fp,tn,J,H2,e,I2,T,st2,f2,W,⟨m0,w0⟩,turn⟩:=h2
  subst e
  have stat:∀{H':Hp},(∀b∈fp,H' b=none)→∀b∈fp,FpOk X pins H' b:=fun hn b hb=>⟨hn b hb,(f2 b hb).2⟩
  refine codeAny_forLoop_any (fun n s'=>∃i σ' H',Inv X pins σ' H' s'∧tn i s'.heap∧(∀b∈fp,H' b=none)∧W i n σ' H') ?_ m0 ⟨0,σ,H2,I2,st2,fun b hb=>(f2 b hb).1,w0⟩
  rintro n s3 ⟨i,σ3,H3,I3,st3,fr3,w3⟩
  rcases turn i n σ3 H3 w3 with ⟨stop,qn⟩|⟨go,N,hN,step⟩
  · refine wpAny_passesOwn hp (thn (T.done X rfl rfl rfl hc i pins s3 σ3 H3 X.xe I3 (stat fr3) st3 stop) fun r s4 ⟨hr,I4⟩=>?_)
    subst hr
    exact wpAny_execs_nil ⟨σ3,H3,I4,qn⟩
  · refine wpAny_passesOwn hp (thn (T.item X rfl rfl rfl hc i pins s3 σ3 H3 X.xe I3 (stat fr3) st3 go) fun r s4 ⟨u,hr,h4⟩=>?_)
    subst hr
    refine wpAny_passesOwn hp (thn h4 fun _ s5 ⟨x,H5,I5,r5,y5,st5,fr5⟩=>?_)
    have I5':=I5.pinned (stat fr5) (T.obj _ _ st5)
    refine wpAny_passesOwn hp (thn (hg _ s5 σ3 H5 x u _ I5' r5 (step x H5 y5)) fun _ s6 ⟨σ6,H6,I6,q6⟩=>?_)
    refine wpAny_passesOwn hp (thn (hb _ s6 σ6 H6 _ I6 q6) fun f s7 q7=>?_)
    have again:∀{σ7:St} {H7:Hp},Inv X (pins++pinsAt fp s5.heap) σ7 H7 s7→N σ7 H7→∃m,m<n∧∃i σ' H',Inv X pins σ' H' s7∧tn i s7.heap∧(∀b∈fp,H' b=none)∧W i m σ' H':=fun {σ7 H7} I7 n7=>by
      obtain ⟨m',hm,w7⟩:=hN σ7 H7 n7
      refine ⟨m',hm,i+1,σ7,H7,I7.unpinned,T.keep _ _ _ st5 fun b hb o e=>(I7.pin (b,o) (List.mem_append_right _ (List.mem_append_right _ (zdv hb e)))).1,fun b hb=>?_,w7⟩
      obtain ⟨o,e,d⟩:=T.obj _ _ st5 b hb
      exact (I7.pin (b,o) (List.mem_append_right _ (List.mem_append_right _ (zdv hb e)))).2.1
    cases f with
    | next=>obtain ⟨σ7,H7,I7,n7⟩:=q7;exact again I7 n7
    | cont=>obtain ⟨σ7,H7,I7,n7⟩:=q7;exact again I7 n7
    | brk=>obtain ⟨σ7,H7,I7,q7⟩:=q7;exact ⟨σ7,H7,I7.unpinned,q7⟩
    | ret v=>obtain ⟨x7,σ7,H7,I7,r7,q7⟩:=q7;exact ⟨x7,σ7,H7,I7.unpinned,r7,q7⟩
end
end L2
namespace L2
open PySem PySem.Spec PyProof.Rows
noncomputable abbrev R2:=V→V→Hp→VK→Prop
def OpR (X:Cx) (f:Value→Value→Sem Value) (r:R2):Prop :=
  ∀(pins:List (Addr×Obj)) (s:Shared) (σ:St) (H:Hp) (x y:V) (v u:Value) (Q:VK),Inv X pins σ H s→RelV x v→RelV y u→r x y H Q →
    wpAny (model X.prog X.w) X.A (f v u) (EP X pins σ Q) X.xe s
def UnR (X:Cx) (f:Value→Sem Value) (r:V→Hp→VK→Prop):Prop :=
  ∀(pins:List (Addr×Obj)) (s:Shared) (σ:St) (H:Hp) (x:V) (v:Value) (Q:VK),Inv X pins σ H s→RelV x v→r x H Q →
    wpAny (model X.prog X.w) X.A (f v) (EP X pins σ Q) X.xe s
def CallR (X:Cx) (f:Value) (r:List V→Hp→VK→Prop):Prop :=
  ∀(pins:List (Addr×Obj)) (s:Shared) (σ:St) (H:Hp) (xs:List V) (us:List Value) (Q:VK),Inv X pins σ H s→Vals xs us→r xs H Q →
    wpAny (model X.prog X.w) X.A (call f us) (EP X pins σ Q) X.xe s
def tOp (r:R2) (ta tb:TE):TE:=fun σ H Q=>ta σ H fun x H1=>tb σ H1 fun y H2=>r x y H2 Q
def tUn (r:V→Hp→VK→Prop) (ta:TE):TE:=fun σ H Q=>ta σ H fun x H1=>r x H1 Q
def rI (C:Int→Int→Prop) (g:Int→Int→V):R2:=fun x y H Q=>∃i j,x=.int i∧y=.int j∧C i j∧Q (g i j) H
def rI0 (g:Int→Int→V):R2:=fun x y H Q=>∃i j,x=.int i∧y=.int j∧Q (g i j) H
def rU (g:Int→V):V→Hp→VK→Prop:=fun x H Q=>∃i,x=.int i∧Q (g i) H
section
variable {X:Cx} {a b c:Expr} {ta tb tc:TE} {pos:Pos}
theorem binT (ha:PE X a ta) (hb:PE X b tb) {pins:List (Addr×Obj)} {s:Shared} {σ:St} {H:Hp} {R:V→V→Hp→Prop} (I:Inv X pins σ H s)
    (h:ta σ H fun x H1=>tb σ H1 fun y H2=>R x y H2) {Q:Value→Shared→Prop} {f:Value→Value→Sem Value}
    (hf:∀v u s2 x y H2,Inv X pins σ H2 s2→RelV x v→RelV y u→R x y H2→wpAny (model X.prog X.w) X.A (f v u) Q X.xe s2) :
    wpAny (model X.prog X.w) X.A (eval a X.env) (fun v s₁=>wpAny (model X.prog X.w) X.A (eval b X.env) (fun u s₂=>wpAny (model X.prog X.w) X.A (f v u) Q X.xe s₂) X.xe s₁) X.xe s:=by
  refine thn (ha pins s σ H _ I h) fun v s1 ⟨x,H1,I1,r1,q1⟩=>?_
  refine thn (hb pins s1 σ H1 _ I1 q1) fun u s2 ⟨y,H2,I2,r2,q2⟩=>?_
  exact hf v u s2 x y H2 I2 r1 r2 q2
theorem pe_op {op:Operator} {r:R2} (ho:OpR X (binaryOp op) r) (ha:PE X a ta) (hb:PE X b tb):PE X (.BinOp a op b pos) (tOp r ta tb):=by
  intro pins s σ H Q I h
  exact wpAny_BinOp (binT ha hb I h fun v u s2 x y H2 I2 rx ry q=>ho pins s2 σ H2 x y v u Q I2 rx ry q)
theorem pe_un {op:UnaryOp} {r:V→Hp→VK→Prop} (ho:UnR X (unaryOp op) r) (ha:PE X a ta):PE X (.UnaryOp op a pos) (tUn r ta):=by
  intro pins s σ H Q I h
  exact UnaryOp_ (thn (ha pins s σ H _ I h) fun v s1 z_8=>by obtain ⟨x,H1,I1,r1,q1⟩:=z_8;exact ho pins s1 σ H1 x v Q I1 r1 q1)
theorem opI {f:Value→Value→Sem Value} {C:Int→Int→Prop} {g:Int→Int→Int}
    (rule:∀(i j:Int) (t u:Tok) (s:Shared) (Q:Value→Shared→Prop) (E:Value→Shared→Prop),C i j→Q (.int (g i j) s.toks) {s with toks:=s.toks+1}→wpAny (model X.prog X.w) X.A (f (.int i t) (.int j u)) Q E s) :
    OpR X f (rI C fun i j=>.int (g i j)):=by
  intro pins s σ H x y v u Q I rx ry h
  obtain ⟨i,j,rfl,rfl,hc,q⟩:=h
  obtain ⟨t,rfl⟩:=rx
  obtain ⟨t',rfl⟩:=ry
  exact rule i j t t' s _ _ hc ⟨.int (g i j),H,I.tok _,⟨_,rfl⟩,q⟩
theorem opI0 {f:Value→Value→Sem Value} {g:Int→Int→Int}
    (rule:∀(i j:Int) (t u:Tok) (s:Shared) (Q:Value→Shared→Prop) (E:Value→Shared→Prop),Q (.int (g i j) s.toks) {s with toks:=s.toks+1}→wpAny (model X.prog X.w) X.A (f (.int i t) (.int j u)) Q E s) :
    OpR X f (rI0 fun i j=>.int (g i j)):=by
  intro pins s σ H x y v u Q I rx ry h
  obtain ⟨i,j,rfl,rfl,q⟩:=h
  obtain ⟨t,rfl⟩:=rx
  obtain ⟨t',rfl⟩:=ry
  exact rule i j t t' s _ _ ⟨.int (g i j),H,I.tok _,⟨_,rfl⟩,q⟩
theorem opB0 {f:Value→Value→Sem Value} {g:Int→Int→Bool}
    (rule:∀(i j:Int) (t u:Tok) (s:Shared) (Q:Value→Shared→Prop) (E:Value→Shared→Prop),Q (.bool (g i j)) s→wpAny (model X.prog X.w) X.A (f (.int i t) (.int j u)) Q E s) :
    OpR X f (rI0 fun i j=>.bl (g i j)):=by
  intro pins s σ H x y v u Q I rx ry h
  obtain ⟨i,j,rfl,rfl,q⟩:=h
  obtain ⟨t,rfl⟩:=rx
  obtain ⟨t',rfl⟩:=ry
  exact rule i j t t' s _ _ ⟨.bl (g i j),H,I,rfl,q⟩
def CDiv (i j:Int):Prop:=0<j∧j<1073741824
def CPow (i j:Int):Prop:=0≤j∧j≤1000000∧i.natAbs<2^64
def CMul (i j:Int):Prop:=(-(2^64)<i∧i<2^64)∨(-(2^64)<j∧j<2^64)
theorem CMul.ok {i j:Int} (h:CMul i j):IntMulOk i j:=by
  rcases h with ⟨h1,h2⟩|⟨h1,h2⟩
  · exact .of_left (intBits_le_64 h1 h2)
  · exact .of_right (intBits_le_64 h1 h2)
theorem zcx:OpR X (binaryOp .Add) (rI0 fun i j=>.int (i+j)):=opI0 fun _ _ _ _ _ _ _ q=>add_int q
theorem zfx:OpR X (binaryOp .Sub) (rI0 fun i j=>.int (i-j)):=opI0 fun _ _ _ _ _ _ _ q=>sub_int q
theorem op_mul:OpR X (binaryOp .Mult) (rI CMul fun i j=>.int (i*j)):=opI fun _ _ _ _ _ _ _ hc q=>mul_int q hc.ok
theorem zb3:OpR X (binaryOp .FloorDiv) (rI CDiv fun i j=>.int (i/j)):=opI fun i j _ _ _ _ _ hc q=>by
  have h1:(0:Int)<j:=hc.1
  have h2:j<1073741824:=hc.2
  exact floordiv_int (by omega) (by rw [Int.fdiv_eq_ediv_of_nonneg i (by omega)];exact q) (.inl (PyProof.noPylong_small (by omega)))
theorem zbj:OpR X (binaryOp .Mod) (rI (fun _ j=>0<j) fun i j=>.int (i%j)):=opI fun i j _ _ _ _ _ hc q=>by
  have h1:(0:Int)<j:=hc
  exact mod_int' (by omega) (by rw [Int.fmod_eq_emod_of_nonneg i (by omega)];exact q)
theorem zmf:OpR X (binaryOp .Pow) (rI CPow fun i j=>.int (i^j.toNat)):=opI fun _ _ _ _ _ _ _ hc q=>pow_int_small hc.1 hc.2.1 hc.2.2 q
theorem unI {f:Value→Sem Value} {g:Int→Int}
    (rule:∀(i:Int) (t:Tok) (s:Shared) (Q:Value→Shared→Prop) (E:Value→Shared→Prop),Q (.int (g i) s.toks) {s with toks:=s.toks+1}→wpAny (model X.prog X.w) X.A (f (.int i t)) Q E s) :
    UnR X f (rU fun i=>.int (g i)):=by
  intro pins s σ H x v Q I rx h
  obtain ⟨i,rfl,q⟩:=h
  obtain ⟨t,rfl⟩:=rx
  exact rule i t s _ _ ⟨.int (g i),H,I.tok _,⟨_,rfl⟩,q⟩
theorem un_neg:UnR X (unaryOp .USub) (rU fun i=>.int (-i)):=unI fun _ _ _ _ _ q=>neg_int q
end
noncomputable def scal:V→V→Bool
  | .non,.non=>true | .non,.int _=>true | .int _,.non=>true | .non,.bl _=>true | .bl _,.non=>true | .non,.str _=>true | .str _,.non=>true
  | .int _,.int _=>true | .bl _,.bl _=>true | .str _,.str _=>true | .byt _,.byt _=>true
  | .int _,.str _=>true | .str _,.int _=>true | .bl _,.str _=>true | .str _,.bl _=>true
  | _,_=>false
def rEq:R2:=fun x y H Q=>scal x y=true∧Q (.bl (decide (x=y))) H
def rNe:R2:=fun x y H Q=>scal x y=true∧Q (.bl (!decide (x=y))) H
theorem zjp {i j:Int}:decide (V.int i=V.int j)=(i==j):=by
  rw [Bool.eq_iff_iff]
  simp
theorem zph {i j:Bool}:decide (V.bl i=V.bl j)=(i==j):=by
  rw [Bool.eq_iff_iff]
  simp
theorem zna {i j:Str}:decide (V.str i=V.str j)=(i==j):=by
  rw [Bool.eq_iff_iff]
  simp
theorem znb {i j:Array UInt8}:decide (V.byt i=V.byt j)=(i.toList==j.toList):=by
  rw [Bool.eq_iff_iff]
  cases i
  cases j
  simp
section
variable {X:Cx} {a b c:Expr} {ta tb tc:TE} {pos:Pos}
theorem za7 {pins:List (Addr×Obj)} {σ:St} {H:Hp} {s:Shared} {Q:VK} {k k':Bool} (I:Inv X pins σ H s) (q:Q (.bl k) H) (e:k=k'):EP X pins σ Q (.bool k') s:=by
  subst e
  exact ⟨.bl k,H,I,rfl,q⟩
theorem za3:OpR X (compareOp .Eq) rEq:=by
  intro pins s σ H x y v u Q I rx ry h
  obtain ⟨hs,q⟩:=h
  cases x with
  | non =>
    cases rx
    cases y with
    | non=>cases ry;exact PySem.EqNone.eq_none_none (za7 I q (by simp))
    | bl j=>cases ry;exact PySem.EqNone.eq_none_bool (za7 I q (by simp))
    | int j=>obtain ⟨t',rfl⟩:=ry;exact PySem.EqNone.eq_none_int (za7 I q (by simp))
    | str j=>obtain ⟨t',rfl⟩:=ry;exact PySem.EqNone.eq_none_str (za7 I q (by simp))
    | _=>exact absurd (show false=true from hs) Bool.false_ne_true
  | bl i =>
    cases rx
    cases y with
    | non=>cases ry;exact PySem.EqNone.eq_bool_none (za7 I q (by simp))
    | bl j=>cases ry;exact eq_bool (za7 I q zph)
    | str j=>obtain ⟨t',rfl⟩:=ry;exact PySem.EqMixed.eq_bool_str (za7 I q (by simp))
    | _=>exact absurd (show false=true from hs) Bool.false_ne_true
  | int i =>
    obtain ⟨t,rfl⟩:=rx
    cases y with
    | non=>cases ry;exact PySem.EqNone.eq_int_none (za7 I q (by simp))
    | int j=>obtain ⟨t',rfl⟩:=ry;exact eq_int (za7 I q zjp)
    | str j=>obtain ⟨t',rfl⟩:=ry;exact PySem.EqMixed.eq_int_str (za7 I q (by simp))
    | _=>exact absurd (show false=true from hs) Bool.false_ne_true
  | str i =>
    obtain ⟨t,rfl⟩:=rx
    cases y with
    | non=>cases ry;exact PySem.EqNone.eq_str_none (za7 I q (by simp))
    | bl j=>cases ry;exact PySem.EqMixed.eq_str_bool (za7 I q (by simp))
    | int j=>obtain ⟨t',rfl⟩:=ry;exact PySem.EqMixed.eq_str_int (za7 I q (by simp))
    | str j=>obtain ⟨t',rfl⟩:=ry;exact eq_str (za7 I q zna)
    | _=>exact absurd (show false=true from hs) Bool.false_ne_true
  | byt i =>
    obtain ⟨t,rfl⟩:=rx
    cases y with
    | byt j=>obtain ⟨t',rfl⟩:=ry;exact PySem.W.eq_bytes (za7 I q znb)
    | _=>exact absurd (show false=true from hs) Bool.false_ne_true
  | _=>cases y<;>exact absurd (show false=true from hs) Bool.false_ne_true
theorem zoc:OpR X (compareOp .NotEq) rNe:=by
  intro pins s σ H x y v u Q I rx ry h
  obtain ⟨hs,q⟩:=h
  cases x with
  | non =>
    cases rx
    cases y with
    | non=>cases ry;exact PySem.EqNone.ne_none_none (za7 I q (by simp))
    | bl j=>cases ry;exact PySem.EqNone.ne_none_bool (za7 I q (by simp))
    | int j=>obtain ⟨t',rfl⟩:=ry;exact PySem.EqNone.ne_none_int (za7 I q (by simp))
    | str j=>obtain ⟨t',rfl⟩:=ry;exact PySem.EqNone.ne_none_str (za7 I q (by simp))
    | _=>exact absurd (show false=true from hs) Bool.false_ne_true
  | bl i =>
    cases rx
    cases y with
    | non=>cases ry;exact PySem.EqNone.ne_bool_none (za7 I q (by simp))
    | bl j=>cases ry;exact ne_bool (za7 I q (congrArg not zph))
    | str j=>obtain ⟨t',rfl⟩:=ry;exact PySem.EqMixed.ne_bool_str (za7 I q (by simp))
    | _=>exact absurd (show false=true from hs) Bool.false_ne_true
  | int i =>
    obtain ⟨t,rfl⟩:=rx
    cases y with
    | non=>cases ry;exact PySem.EqNone.ne_int_none (za7 I q (by simp))
    | int j=>obtain ⟨t',rfl⟩:=ry;exact ne_int (za7 I q (congrArg not zjp))
    | str j=>obtain ⟨t',rfl⟩:=ry;exact PySem.EqMixed.ne_int_str (za7 I q (by simp))
    | _=>exact absurd (show false=true from hs) Bool.false_ne_true
  | str i =>
    obtain ⟨t,rfl⟩:=rx
    cases y with
    | non=>cases ry;exact PySem.EqNone.ne_str_none (za7 I q (by simp))
    | bl j=>cases ry;exact PySem.EqMixed.ne_str_bool (za7 I q (by simp))
    | int j=>obtain ⟨t',rfl⟩:=ry;exact PySem.EqMixed.ne_str_int (za7 I q (by simp))
    | str j=>obtain ⟨t',rfl⟩:=ry;exact ne_str (za7 I q (congrArg not zna))
    | _=>exact absurd (show false=true from hs) Bool.false_ne_true
  | byt i =>
    obtain ⟨t,rfl⟩:=rx
    cases y with
    | byt j=>obtain ⟨t',rfl⟩:=ry;exact PySem.W.ne_bytes (za7 I q (congrArg not znb))
    | _=>exact absurd (show false=true from hs) Bool.false_ne_true
  | _=>cases y<;>exact absurd (show false=true from hs) Bool.false_ne_true
theorem zhb:OpR X (compareOp .Lt) (rI0 fun i j=>.bl (decide (i<j))):=opB0 fun _ _ _ _ _ _ _ q=>lt_int q
theorem zk6:OpR X (compareOp .LtE) (rI0 fun i j=>.bl (decide (i≤j))):=opB0 fun _ _ _ _ _ _ _ q=>le_int q
theorem zmg:OpR X (compareOp .Gt) (rI0 fun i j=>.bl (decide (j<i))):=opB0 fun _ _ _ _ _ _ _ q=>gt_int q
theorem nomark (b:Expr) {op:CmpOp} (h:op≠.In:=by decide) (h2:op≠.NotIn:=by decide):behindInMarks op b=false:=by
  have e1:(op==CmpOp.In)=false:=by cases op<;>first|rfl|exact absurd rfl h
  have e2:(op==CmpOp.NotIn)=false:=by cases op<;>first|rfl|exact absurd rfl h2
  cases b<;>simp [behindInMarks,e1,e2]
theorem zp7 {op:CmpOp} {r:R2} (ho:OpR X (compareOp op) r) (ha:PE X a ta) (hb:PE X b tb) (hm:behindInMarks op b=false):PE X (.Compare a [op] [b] pos) (tOp r ta tb):=by
  intro pins s σ H Q I h
  exact wpAny_Compare1 (binT ha hb I h fun v u s2 x y H2 I2 rx ry q=>ho pins s2 σ H2 x y v u Q I2 rx ry q) hm
def tTest (t:TE):TT:=fun σ H Q=>t σ H fun x H'=>∃k,x=.bl k∧Q k H'
theorem zpv {op:CmpOp} {r:R2} (ho:OpR X (compareOp op) r) (ha:PE X a ta) (hb:PE X b tb) (hm:behindInMarks op b=false):PT X (.Compare a [op] [b] pos) (tTest (tOp r ta tb)):=by
  intro pins s σ H Q I h
  refine wpAny_isTrue_Compare1 (thn (ha pins s σ H _ I h) fun v s1 ⟨x,H1,I1,r1,q1⟩=>thn (hb pins s1 σ H1 _ I1 q1) fun u s2 ⟨y,H2,I2,r2,q2⟩ =>
    thn (ho pins s2 σ H2 x y v u _ I2 r1 r2 q2) fun c s3 ⟨z,H3,I3,r3,k,e,q3⟩=>?_) hm
  subst e
  cases r3
  exact wpAny_truthy_bool ⟨H3,I3,q3⟩
def tChain (r r':R2) (ta tb tc:TE):TE:=fun σ H Q=>ta σ H fun x H1=>tb σ H1 fun y H2=>r x y H2 fun z H3=>∃k,z=.bl k ∧
  (if k=true then tc σ H3 fun w' H4=>r' y w' H4 Q else Q (.bl false) H3)
theorem zn6 {op op':CmpOp} {r r':R2} (ho:OpR X (compareOp op) r) (ho':OpR X (compareOp op') r') (ha:PE X a ta) (hb:PE X b tb) (hc:PE X c tc)
    (hm:lastMarks [op,op'] [b,c]=false:=by with_unfolding_all rfl):PE X (.Compare a [op,op'] [b,c] pos) (tChain r r' ta tb tc):=by
  intro pins s σ H Q I h
  refine Compare_chain (thn (ha pins s σ H _ I h) fun v s1 ⟨x,H1,I1,r1,q1⟩=>chain_link (thn (hb pins s1 σ H1 _ I1 q1) fun u s2 ⟨y,H2,I2,r2,q2⟩ =>
    thn (ho pins s2 σ H2 x y v u _ I2 r1 r2 q2) fun d s3 ⟨z,H3,I3,r3,k,e,q3⟩=>?_)) hm
  subst e
  cases r3
  refine wpAny_truthy_bool ?_
  cases k with
  | false=>exact ite_ff ⟨.bl false,H3,I3,rfl,q3⟩
  | true=>exact ite_tt (chain_last (thn (hc pins s3 σ H3 _ I3 q3) fun w' s4 z_9=>by obtain ⟨z',H4,I4,r4,q4⟩:=z_9;exact ho' pins s4 σ H4 y z' u w' Q I4 r2 r4 q4))
theorem znu {op op':CmpOp} {r r':R2} (ho:OpR X (compareOp op) r) (ho':OpR X (compareOp op') r') (ha:PE X a ta) (hb:PE X b tb) (hc:PE X c tc)
    (hm:lastMarks [op,op'] [b,c]=false:=by with_unfolding_all rfl):PT X (.Compare a [op,op'] [b,c] pos) (tTest (tChain r r' ta tb tc)):=by
  intro pins s σ H Q I h
  refine isTrue_chain (thn (ha pins s σ H _ I h) fun v s1 ⟨x,H1,I1,r1,q1⟩=>test_link (thn (hb pins s1 σ H1 _ I1 q1) fun u s2 ⟨y,H2,I2,r2,q2⟩ =>
    thn (ho pins s2 σ H2 x y v u _ I2 r1 r2 q2) fun d s3 ⟨z,H3,I3,r3,k,e,q3⟩=>?_)) hm
  subst e
  cases r3
  refine wpAny_truthy_bool ?_
  cases k with
  | false =>
    obtain ⟨k',e',q'⟩:=q3
    cases e'
    exact ite_ff ⟨H3,I3,q'⟩
  | true =>
    refine ite_tt (test_last (thn (hc pins s3 σ H3 _ I3 q3) fun w' s4 ⟨z',H4,I4,r4,q4⟩=>thn (ho' pins s4 σ H4 y z' u w' _ I4 r2 r4 q4) fun d' s5 ⟨z2,H5,I5,r5,k2,e2,q5⟩=>?_))
    subst e2
    cases r5
    exact wpAny_truthy_bool ⟨H5,I5,q5⟩
theorem line63:(sizeLine:Nat)<2^63:=by rw [sizeLine_eq];decide
theorem zab:OpR X (binaryOp .Add) (fun x y H Q=>∃i j,x=.str i∧y=.str j∧i.length+j.length≤sizeLine∧Q (.str (i++j)) H):=by
  intro pins s σ H x y v u Q I rx ry h
  obtain ⟨i,j,rfl,rfl,hz,q⟩:=h
  obtain ⟨t,rfl⟩:=rx
  obtain ⟨t',rfl⟩:=ry
  exact add_str (fun t' tk=>⟨.str (i++j),H,I.tok _,⟨_,rfl⟩,q⟩) hz
theorem vals1 {x:V} {us:List Value} (r:Vals [x] us):∃u,us=[u]∧RelV x u:=by
  cases r with
  | cons r1 r2=>cases r2;exact ⟨_,rfl,r1⟩
theorem vals2 {x y:V} {us:List Value} (r:Vals [x,y] us):∃u w',us=[u,w']∧RelV x u∧RelV y w':=by
  cases r with
  | cons r1 r2 =>
    cases r2 with
    | cons r3 r4=>cases r4;exact ⟨_,_,rfl,r1,r3⟩
end
end L2
namespace L2
open PySem PySem.Spec PyProof.Rows
structure ObjM (h:Heap) (x dx C:Addr) (mA:Str→Option Value):Prop where
  obj:h.get? x=some (PySem.W.instObj C dx)
  ns:h.Ns1 dx mA
  ne:dx≠x
theorem zmq {h:Heap} {dx:Addr} {mA:Str→Option Value} (n:h.Ns1 dx mA):∃od,h.get? dx=some od∧∀name,PySem.W.lookIn name od=some (mA name):=by
  obtain ⟨o,es,ep,ho,hd,hk,_,hm⟩:=n
  refine ⟨o,ho,fun name=>?_⟩
  have e:=hm name
  unfold nsFind findBy at e
  rw [←Array.find?_toList] at e
  unfold PySem.W.lookIn
  rw [hd]
  dsimp only
  split
  · rename_i y q
    rw [q] at e
    exact congrArg some e
  · rename_i q
    rw [q] at e
    have a:es.toList.any (·.refKey)=false:=by
      rw [List.any_eq_false]
      intro y hy
      obtain ⟨z,t,hkey⟩:=hk y (Array.mem_toList_iff.mp hy)
      simp [DictEntry.refKey,hkey]
    have a':¬es.toList.any (·.refKey)=true:=by rw [a];exact Bool.false_ne_true
    rw [if_neg a']
    exact congrArg some e
theorem ObjM.look {h:Heap} {x dx C:Addr} {mA:Str→Option Value} (I:ObjM h x dx C mA):∃od,PySem.W.InstAt h x (PySem.W.instObj C dx) C (some od)∧∀name,PySem.W.lookIn name od=some (mA name) :=
  let ⟨od,ho,hl⟩:=zmq I.ns
  ⟨od,⟨I.obj,rfl,rfl,ho⟩,hl⟩
section
variable {prog:Program} {w:World} {A:Around} {E:Value→Shared→Prop} {s:Shared} {K:PySem.W.Frag} {x dx C f:Addr} {mA:Str→Option Value} {name:Str} {v:Value}
theorem zql {expr:Bool} {Q:Value→Shared→Prop} (X:K.In s.heap) (I:ObjM s.heap x dx C mA) (hg:PySem.W.plainGet K C name=true) (hh:PySem.W.hasDictIn K C=true)
    (ha:PySem.W.findIn K (.ref C) name=some none) (hv:mA name=some v) (hv':PySem.W.handedIn v=true) (h:Q v {s with toks:=s.toks+1}) :
    wpAny (model prog w) A (getAttr (.ref x) name expr) Q E s:=by
  obtain ⟨od,J,hl⟩:=I.look
  exact PySem.W.get_value X J (PySem.W.plainGet_of hg).1 (PySem.W.findObj_own hh ha rfl (by rw [hl,hv])) hv' h
theorem zos {pl:Sem Bool} {Q:Value×List Value→Shared→Prop} (X:K.In s.heap) (I:ObjM s.heap x dx C mA) (hg:PySem.W.plainGet K C name=true)
    (hf:PySem.W.findIn K (.ref C) name=some (some (.ref f))) (ht:PySem.W.isFn K (.ref f)=true) (hv:mA name=none) (h:Q (.ref f,[.ref x]) s) :
    wpAny (model prog w) A (getMethod (.ref x) name pl) Q E s:=by
  obtain ⟨od,J,hl⟩:=I.look
  exact PySem.W.method_fn X J (PySem.W.plainGet_of hg).1 (PySem.W.plainGet_of hg).2 hf (beq_iff_eq.mp ht) (by show (PySem.W.lookIn name od).map (·.isSome)=some false;rw [hl,hv];rfl) h
theorem zps {ns:List Str} {Q:Unit→Shared→Prop} (X:K.In s.heap) (I:ObjM s.heap x dx C mA)
    (hs:PySem.W.findIn K (.ref C) "__setattr__"=some (some (.builtin "object.__setattr__"))) (hp:PySem.W.plainOver K C=true) (ht:PySem.W.takerIn K C name=some none) (hh:PySem.W.hasDictIn K C=true)
    (hw:PySem.Within mA ns) (hsz:ns.length≤sizeLine)
    (h:∀h',ObjM h' x dx C (fun y=>if y=name then some v else mA y)→Heap.SameBut dx s.heap h'→Q () {s with heap:=h',toks:=s.toks+2}) :
    wpAny (model prog w) A (setAttr (.ref x) name v) Q E s:=by
  obtain ⟨od,J,hl⟩:=I.look
  refine PySem.W.set_plain X J hs (PySem.W.osa_open (s:={s with toks:=s.toks+1}) (r:=none) X J hp ht fun b=>?_)
  obtain ⟨cd,hc,hd'⟩:=PySem.W.any_some hh
  have hx:s.heap.get? x=some ⟨.ref C,some dx,.plain,#[]⟩:=I.obj
  refine wpAny_bind (wpAny_pure (wpAny_bind (wpAny_bind (wpAny_loadPart hx (wpAny_bind (PySem.W.Looks.here (s:={s with toks:=s.toks+1}) (PySem.W.looks_clsIn X hc) ?_))))))
  rw [hd']
  refine wpAny_pure (a:=some dx) (wpAny_bind (wpAny_pure (wpAny_bind ?_)))
  refine wpAny_nsSet1 (s:={s with toks:=s.toks+1}) I.ns fun h' hn2 hs2=>?_
  obtain ⟨oD,esD,epD,hoD,hdD,hcD⟩:=hn2.count (PySem.Within.cons name v hw)
  refine wpAny_bind (wpAny_lookBehind hoD (by rw [hdD];exact pastItsLine_dict (Nat.le_trans hcD (by rw [List.length_cons];omega))) ?_)
  exact wpAny_pure (h _ ⟨(hs2.2 _ (Ne.symm I.ne)).trans I.obj,hn2,I.ne⟩ hs2)
theorem zol {R:Result→Shared→Prop} {vs:List Value} {kw:List (Str×Value)} (X:K.In s.heap) (hm:PySem.W.makesIn K C=true)
    (hi:PySem.W.findIn K (.ref C) "__init__"=some (some (.ref f))) (hf:PySem.W.typeIn K (.ref f)=some (.type "function"))
    (h:codeAny (model prog w) (A.under (.builtin "type.__call__" ⟨.ref C::vs,kw⟩)) (.call (.ref f) ⟨.ref (s.heap.objs.size+1)::vs,kw⟩) (PySem.W.InitBack (s.heap.objs.size+1) R)
      {s with heap:=(s.heap.push PySem.W.emptyDict).push (PySem.W.instObj C s.heap.objs.size)}) :
    codeAny (model prog w) A (.call (.ref C) ⟨vs,kw⟩) R s:=by
  obtain ⟨hh,g,d,t,os⟩:=s
  exact PySem.W.make_core (PySem.W.makes_of X hm) (PySem.W.looks_findIn X hi) (fun self=>PySem.W.bind_fn X self hf) (.inl rfl) h
end
noncomputable def putF (f:Str) (v:V):List (Str×V)→List (Str×V)
  | []=>[(f,v)]
  | (g,x)::r=>if g=f then (g,v)::r else (g,x)::putF f v r
theorem zf1 (f g:Str) (v:V):∀fs:List (Str×V),(putF f v fs).lookup g=if g=f then some v else fs.lookup g
  | []=>by
    show List.lookup g [(f,v)]=_
    by_cases h:g=f
    · have hb:(g==f)=true:=beq_iff_eq.mpr h
      simp only [List.lookup,hb,if_pos h]
    · have hb:(g==f)=false:=beq_eq_false_iff_ne.mpr h
      simp only [List.lookup,hb,if_neg h]
  | (k,x)::r=>by
    have ih:=zf1 f g v r
    rw [show putF f v ((k,x)::r)=(if k=f then (k,v)::r else (k,x)::putF f v r) from rfl]
    by_cases hk:k=f
    · rw [if_pos hk]
      by_cases h:g=k
      · have hb:(g==k)=true:=beq_iff_eq.mpr h
        simp only [List.lookup,hb,if_pos (h.trans hk)]
      · have hb:(g==k)=false:=beq_eq_false_iff_ne.mpr h
        simp only [List.lookup,hb,if_neg (fun e:g=f=>h (e.trans hk.symm))]
    · rw [if_neg hk]
      by_cases h:g=k
      · have hb:(g==k)=true:=beq_iff_eq.mpr h
        simp only [List.lookup,hb,if_neg (fun e:g=f=>hk (h.symm.trans e))]
      · have hb:(g==k)=false:=beq_eq_false_iff_ne.mpr h
        simp only [List.lookup,hb]
        exact ih
theorem zf4 (f:Str) (v:V):∀fs:List (Str×V),f∈(putF f v fs).map (·.1)∧∀g,g∈fs.map (·.1)→g∈(putF f v fs).map (·.1)
  | []=>⟨by simp [putF],fun g h=>by simp at h⟩
  | (k,x)::r=>by
    obtain ⟨i1,i2⟩:=zf4 f v r
    rw [show putF f v ((k,x)::r)=(if k=f then (k,v)::r else (k,x)::putF f v r) from rfl]
    by_cases hk:k=f
    · rw [if_pos hk]
      subst hk
      exact ⟨by simp,fun g h=>by simpa using h⟩
    · rw [if_neg hk]
      refine ⟨?_,fun g h=>?_⟩
      · rw [List.map_cons]
        exact List.mem_cons_of_mem _ i1
      · rw [List.map_cons] at h ⊢
        rcases List.mem_cons.mp h with e|e
        · exact List.mem_cons.mpr (.inl e)
        · exact List.mem_cons_of_mem _ (i2 g e)
theorem zf2 (f:Str) (v:V):∀fs:List (Str×V),(putF f v fs).length≤fs.length+1
  | []=>by simp [putF]
  | (k,x)::r=>by
    have ih:=zf2 f v r
    rw [show putF f v ((k,x)::r)=(if k=f then (k,v)::r else (k,x)::putF f v r) from rfl]
    by_cases hk:k=f
    · rw [if_pos hk,List.length_cons,List.length_cons];omega
    · rw [if_neg hk,List.length_cons,List.length_cons];omega
theorem RelO.some_of {v:V} {o:Option Value} (r:RelO (some v) o):∃u,o=some u∧RelV v u:=by
  cases o with
  | none=>exact (show False from r).elim
  | some u=>exact ⟨u,rfl,r⟩
theorem RelO.none_of {o:Option Value} (r:RelO none o):o=none:=by
  cases o with
  | none=>rfl
  | some u=>exact (show False from r).elim
theorem zm1 {v:V} {u:Value} (r:RelV v u):PySem.W.handedIn u=true:=by
  cases v with
  | non=>cases (show u=Value.none from r);rfl
  | bl b=>cases (show u=Value.bool b from r);rfl
  | int i=>obtain ⟨t,e⟩:=(show ∃t,u=Value.int i t from r);cases e;rfl
  | str x=>obtain ⟨t,e⟩:=(show ∃t,u=Value.str x t from r);cases e;rfl
  | byt b=>obtain ⟨t,e⟩:=(show ∃t,u=Value.bytes b t from r);cases e;rfl
  | flt b=>obtain ⟨t,e⟩:=(show ∃t,u=Value.float b t from r);cases e;rfl
  | ref a=>cases (show u=Value.ref a from r);rfl
  | ty n=>cases (show u=Value.type n from r);rfl
section
variable {P:Program} {w:World} {H H':Hp} {h h':Heap} {a C dx:Addr} {fs fs':List (Str×V)}
theorem zhn (hok:HOk P w H h) (e:H a=some (.ins C dx fs)):∃mA,ObjM h a dx C mA∧(∀f,RelO (fs.lookup f) (mA f))∧PySem.Within mA (fs.map (·.1))∧fs.length≤1000∧H dx=some (.own a):=by
  obtain ⟨d,z,ne,ob,mA,n,r,q⟩:=(show ObjOk P w H h a (.ins C dx fs) from hok a _ e)
  exact ⟨mA,⟨ob,n,ne⟩,r,q,z,d⟩
end
structure Cls (K:PySem.W.Frag) (C:Addr):Prop where
  pg:PySem.W.plainGet K C Str.empty=true
  hd:PySem.W.hasDictIn K C=true
  po:PySem.W.plainOver K C=true
  sa:PySem.W.findIn K (.ref C) "__setattr__"=some (some (.builtin "object.__setattr__"))
theorem Cls.get {K:PySem.W.Frag} {C:Addr} (c:Cls K C) (f:Str):PySem.W.plainGet K C f=true:=c.pg
def NoAttr (K:PySem.W.Frag) (C:Addr) (f:Str):Prop:=PySem.W.findIn K (.ref C) f=some none
theorem NoAttr.taker {K:PySem.W.Frag} {C:Addr} {f:Str} (n:NoAttr K C f):PySem.W.takerIn K C f=some none:=by
  unfold PySem.W.takerIn
  rw [show PySem.W.findIn K (.ref C) f=some none from n]
  rfl
structure Meth (K:PySem.W.Frag) (C:Addr) (m:Str) (f:Addr):Prop where
  at_:PySem.W.findIn K (.ref C) m=some (some (.ref f))
  fn:PySem.W.isFn K (.ref f)=true
  kp:PySem.W.keepIn K (.ref f)=true
section
variable {X:Cx} {pins:List (Addr×Obj)} {σ:St} {H:Hp} {s:Shared} {a C dx:Addr} {fs:List (Str×V)} {f:Str} {v:V} {A:Around} {E:Value→Shared→Prop}
theorem zgq {b:Bool} {Q:Value→Shared→Prop} (I:Inv X pins σ H s) (e:H a=some (.ins C dx fs)) (c:Cls X.K C) (n:NoAttr X.K C f) (l:fs.lookup f=some v)
    (h:∀u s',Inv X pins σ H s'→RelV v u→Q u s'):wpAny (model X.prog X.w) A (getAttr (.ref a) f b) Q E s:=by
  obtain ⟨mA,O,r,_,_,_⟩:=zhn I.hok e
  obtain ⟨u,hu,ru⟩:=RelO.some_of (v:=v) (o:=mA f) (by rw [←l];exact r f)
  exact zql I.kIn O (c.get f) c.hd n hu (zm1 ru) (h u _ (I.tok _) ru)
theorem zgp {m:Str} {g:Addr} {pl:Sem Bool} {Q:Value×List Value→Shared→Prop} (I:Inv X pins σ H s) (e:H a=some (.ins C dx fs)) (c:Cls X.K C) (k:Meth X.K C m g) (l:fs.lookup m=none)
    (h:Q (.ref g,[.ref a]) s):wpAny (model X.prog X.w) A (getMethod (.ref a) m pl) Q E s:=by
  obtain ⟨mA,O,r,_,_,_⟩:=zhn I.hok e
  have hn:mA m=none:=RelO.none_of (by rw [←l];exact r m)
  exact zos I.kIn O (c.get m) k.at_ k.fn hn h
theorem zgk {y:V} {u:Value} {Q:Unit→Shared→Prop} (I:Inv X pins σ H s) (e:H a=some (.ins C dx fs)) (c:Cls X.K C) (n:NoAttr X.K C f) (hl:fs.length<1000) (ry:RelV y u)
    (h:∀s',Inv X pins σ (upd H a (.ins C dx (putF f y fs))) s'→Q () s'):wpAny (model X.prog X.w) A (setAttr (.ref a) f u) Q E s:=by
  obtain ⟨mA,O,r,wi,_,ho⟩:=zhn I.hok e
  have hz:(fs.map (·.1)).length≤sizeLine:=by rw [List.length_map,sizeLine_eq];omega
  refine zps I.kIn O c.sa c.po n.taker c.hd wi hz fun h' O' sb=>h _ ?_
  have hd:∃o,h'.get? dx=some o:=let ⟨o,_,_,e',_⟩:=O'.ns;⟨o,e'⟩
  refine I.write (x:=a) (e:=dx) (by rw [e];exact True.intro) (.inr ho) (fun b q hb z=>(sb.2 b hb).trans z) hd ?_
  refine ⟨by rw [zar O.ne];exact ho,?_,O.ne,O'.obj,_,O'.ns,fun g=>?_,fun g hg=>?_⟩
  · have:=zf2 f y fs;omega
  · show RelO ((putF f y fs).lookup g) (if g=f then some u else mA g)
    rw [zf1]
    by_cases q:g=f
    · rw [if_pos q,if_pos q];exact ry
    · rw [if_neg q,if_neg q];exact r g
  · by_cases q:g=f
    · rw [q];exact (zf4 f y fs).1
    · refine (zf4 f y fs).2 g (wi g fun z=>hg ?_)
      show (if g=f then some u else mA g)=none
      rw [if_neg q];exact z
theorem Inv.made (I:Inv X pins σ H s):Inv X pins σ (upd (upd H s.heap.objs.size (.own (s.heap.objs.size+1))) (s.heap.objs.size+1) (.ins C s.heap.objs.size []))
    {s with heap:=(s.heap.push PySem.W.emptyDict).push (PySem.W.instObj C s.heap.objs.size)}:=by
  have e1:(s.heap.push PySem.W.emptyDict).get? s.heap.objs.size=some PySem.W.emptyDict:=Heap.get?_push_size s.heap rfl
  have e2:((s.heap.push PySem.W.emptyDict).push (PySem.W.instObj C s.heap.objs.size)).get? (s.heap.objs.size+1)=some (PySem.W.instObj C s.heap.objs.size):=by
    have:=Heap.get?_push_size (s.heap.push PySem.W.emptyDict) (o:=PySem.W.instObj C s.heap.objs.size) rfl
    rwa [Heap.size_push] at this
  have e3:(s.heap.push PySem.W.emptyDict).Ns s.heap.objs.size (fun _=>none):=⟨PySem.W.emptyDict,#[],_,e1,rfl,(fun e he=>absurd he (by simp)),fun _=>rfl⟩
  have I1:=I.laid (a:=s.heap.objs.size) (o:=.own (s.heap.objs.size+1)) (h':=s.heap.push PySem.W.emptyDict) (t':=s.toks) (fun b u q=>Heap.get?_push_of_some _ q) (Nat.le_refl _) ⟨_,e1⟩
  refine I1.laid (a:=s.heap.objs.size+1) (o:=.ins C s.heap.objs.size []) (t':=s.toks) (fun b u q=>Heap.get?_push_of_some _ q) (Nat.le_of_eq (Heap.size_push _ _)) ?_
  have ne:s.heap.objs.size≠s.heap.objs.size+1:=Nat.ne_of_lt (Nat.lt_succ_self _)
  refine ⟨by rw [zar ne,za9],Nat.zero_le _,ne,e2,fun _=>none,(Heap.Ns1.of_empty e3).at fun o q=>Heap.get?_push_of_some _ q,fun _=>True.intro,fun y hy=>absurd rfl hy⟩
theorem zqx {prog:Program} {w:World} {env:Env} {e:Expr} {f:Str} {pos:Pos} {s:Shared} {Q:Value→Shared→Prop} (hb:attributeBase e f env (eval e env)=eval e env)
    (h:wpAny (model prog w) A (eval e env) (fun o s₁=>wpAny (model prog w) A (getAttr o f true) Q E s₁) E s):wpAny (model prog w) A (eval (.Attribute e f pos) env) Q E s :=
  Attribute_any_ h (by rw [arm_eval_Attribute,hb])
end
def tFld (K:PySem.W.Frag) (ta:TE) (f:Str):TE:=fun σ H Q=>ta σ H fun x H1=>∃a C dx fs v,x=.ref a∧H1 a=some (.ins C dx fs)∧Cls K C∧NoAttr K C f∧fs.lookup f=some v∧Q v H1
def sFld (K:PySem.W.Frag) (ta tv:TE) (f:Str):TS:=fun D σ H=>tv σ H fun y H1=>ta σ H1 fun x H2=>∃a C dx fs,x=.ref a∧H2 a=some (.ins C dx fs)∧Cls K C∧NoAttr K C f∧fs.length<1000 ∧
  D.nx σ (upd H2 a (.ins C dx (putF f y fs)))
def InOp (X:Cx) (op:Operator) (rd:V→V→Hp→VK→Prop):Prop :=
  ∀(pins:List (Addr×Obj)) (s:Shared) (σ:St) (H:Hp) (x y:V) (u v:Value) (Q:VK),Inv X pins σ H s→RelV x u→RelV y v→rd x y H Q→wpAny (model X.prog X.w) X.A (inplaceOp op u v) (EP X pins σ Q) X.xe s
def sFldAug (K:PySem.W.Frag) (ta tv:TE) (rd:V→V→Hp→VK→Prop) (f:Str):TS:=fun D σ H=>ta σ H fun x H1=>∃a C dx fs v,x=.ref a∧H1 a=some (.ins C dx fs)∧Cls K C∧NoAttr K C f∧fs.lookup f=some v ∧
  tv σ H1 fun y H2=>rd v y H2 fun z H3=>∃dx' fs',H3 a=some (.ins C dx' fs')∧fs'.length<1000∧D.nx σ (upd H3 a (.ins C dx' (putF f z fs')))
section
variable {X:Cx} {o e value:Expr} {f:Str} {pos pos' tpos:Pos} {ta tv:TE}
theorem pe_fld (he:PE X e ta) (hb:attributeBase e f X.env (eval e X.env)=eval e X.env):PE X (.Attribute e f pos) (tFld X.K ta f):=by
  intro pins s σ H Q I h
  refine zqx hb (thn (he pins s σ H _ I h) fun u s1 ⟨x,H1,I1,rx,a,C,dx,fs,v,ex,ea,c,n,l,q⟩=>?_)
  subst ex
  obtain rfl:u=Value.ref a:=rx
  exact zgq I1 ea c n l fun u' s2 I2 ru=>⟨v,H1,I2,ru,q⟩
theorem ps_fld (ha:PE X o ta) (hv:PE X value tv) (hs:swapsWith value (some (.Attribute o f pos')) pos.line X.env=pure false):PS X (.Assign [.Attribute o f pos'] value pos) (sFld X.K ta tv f):=by
  intro pins s σ H D I h
  refine plainObj_wpAny_Assign_Attribute (thn (hv pins s σ H _ I h) fun u s1 ⟨y,H1,I1,ry,q⟩=>thn (ha pins s1 σ H1 _ I1 q) fun ov s2 ⟨x,H2,I2,rx,a,C,dx,fs,ex,ea,c,n,l,q2⟩=>?_) hs
  subst ex
  obtain rfl:ov=Value.ref a:=rx
  exact zgk I2 ea c n l ry fun s3 I3=>⟨σ,_,I3,q2⟩
theorem zl4 {op:Operator} {rd:V→V→Hp→VK→Prop} (ha:PE X o ta) (hv:PE X value tv) (hop:InOp X op rd):PS X (.AugAssign (.Attribute o f tpos) op value pos) (sFldAug X.K ta tv rd f):=by
  intro pins s σ H D I h
  refine wpAny_AugAssign_AttributeAny (thn (ha pins s σ H _ I h) fun ov s1 ⟨x,H1,I1,rx,a,C,dx,fs,v,ex,ea,c,n,l,q⟩=>?_)
  subst ex
  obtain rfl:ov=Value.ref a:=rx
  refine zgq I1 ea c n l fun u s2 I2 ru=>thn (hv pins s2 σ H1 _ I2 q) fun w3 s3 ⟨y,H2,I3,ry,q3⟩=>thn (hop pins s3 σ H2 v y u w3 _ I3 ru ry q3) fun w4 s4 ⟨z,H3,I4,rz,dx',fs',ea',l',q4⟩=>?_
  exact zgk I4 ea' c n l' rz fun s5 I5=>⟨σ,_,I5,q4⟩
def rAdd:V→V→Hp→VK→Prop:=fun x y H Q=>∃i j,x=.int i∧y=.int j∧Q (.int (i+j)) H
theorem in_add:InOp X .Add rAdd:=by
  rintro pins s σ H x y u v Q I rx ry ⟨i,j,rfl,rfl,q⟩
  obtain ⟨t,rfl⟩:=(show ∃t,u=Value.int i t from rx)
  obtain ⟨t',rfl⟩:=(show ∃t',v=Value.int j t' from ry)
  exact PyProof.Rows.iadd_int ⟨.int (i+j),H,I.tok _,⟨_,rfl⟩,q⟩
end
section
variable {X:Cx} {pins:List (Addr×Obj)} {σ:St} {H:Hp} {s:Shared} {A:Around} {E:Value→Shared→Prop} {Q:Value→Shared→Prop} {c:Value} {b:Bool}
inductive TyOf (K:PySem.W.Frag) (H:Hp):V→Value→Prop where
  | non:TyOf K H .non (.type "NoneType")
  | bl (x:Bool):TyOf K H (.bl x) (.type "bool")
  | int (i:Int):TyOf K H (.int i) (.type "int")
  | str (x:Str):TyOf K H (.str x) (.type "str")
  | flt (x:UInt64):TyOf K H (.flt x) (.type "float")
  | lst {a:Addr} {xs:List V} (e:H a=some (.lst xs)):TyOf K H (.ref a) (.type "list")
  | frz {a:Addr} {o:Obj} {xs:List V} (e:H a=some (.frz o (.lst xs))):TyOf K H (.ref a) (.type "list")
  | tup {a:Addr} {xs:List V} (e:H a=some (.tup xs)):TyOf K H (.ref a) (.type "tuple")
  | dK {a:Addr} {kvs:List (Key×V)} (e:H a=some (.dK kvs)):TyOf K H (.ref a) (.type "dict")
  | dT {a:Addr} {kvs:List (List Key×V)} (e:H a=some (.dT kvs)):TyOf K H (.ref a) (.type "dict")
  | ins {a C dx:Addr} {fs:List (Str×V)} (e:H a=some (.ins C dx fs)) (cl:Cls K C) (ha:PySem.W.findIn K (.ref C) "__class__"=some (some (.builtin "object.__class__")))
      (hn:PySem.W.specialIn K (.builtin "object.__class__") "__get__"=some (some (.builtin "getset_descriptor.__get__"))) (htk:PySem.W.takesIn K (.builtin "object.__class__")=some true)
      (hm:PySem.W.mroIn K C (.type "object")=some true):TyOf K H (.ref a) (.ref C)
theorem zmv {x:V} {u t:Value} (I:Inv X pins σ H s) (rx:RelV x u) (ty:TyOf X.K H x t) (e:PySem.W.kitOne X.K t c=some b) (h:∀tk,Q (.bool b) {s with toks:=tk}) :
    wpAny (model X.prog X.w) A (call (.builtin "isinstance") [u,c]) Q E s:=by
  cases ty with
  | non=>cases (show u=Value.none from rx);exact PySem.W.kia_one PySem.W.kitx_none I.kIn True.intro e (fun z=>nomatch z) h
  | bl y=>cases (show u=Value.bool y from rx);exact PySem.W.kia_one PySem.W.kitx_bool I.kIn True.intro e (fun z=>nomatch z) h
  | int i=>obtain ⟨t,q⟩:=(show ∃t,u=Value.int i t from rx);cases q;exact PySem.W.kia_one PySem.W.kitx_int I.kIn True.intro e (fun z=>nomatch z) h
  | str y=>obtain ⟨t,q⟩:=(show ∃t,u=Value.str y t from rx);cases q;exact PySem.W.kia_one PySem.W.kitx_str I.kIn True.intro e (fun z=>nomatch z) h
  | flt y=>obtain ⟨t,q⟩:=(show ∃t,u=Value.float y t from rx);cases q;exact PySem.W.kia_one PySem.W.kitx_float I.kIn True.intro e (fun z=>nomatch z) h
  | @lst a xs ea =>
    cases (show u=Value.ref a from rx)
    obtain ⟨_,_,n,_,h1⟩:=(show ObjOk X.prog X.w H s.heap a (.lst xs) from I.hok a _ ea)
    exact PySem.W.kia_one PySem.W.kitx_list I.kIn ⟨_,h1,rfl⟩ e (fun z=>nomatch z) h
  | @frz a ob xs ea =>
    cases (show u=Value.ref a from rx)
    obtain ⟨_,_,_,n,_,h1⟩:=(show ObjOk X.prog X.w H s.heap a (.frz ob (.lst xs)) from I.hok a _ ea)
    exact PySem.W.kia_one PySem.W.kitx_list I.kIn ⟨_,h1,rfl⟩ e (fun z=>nomatch z) h
  | @tup a xs ea =>
    cases (show u=Value.ref a from rx)
    obtain ⟨_,_,_,p,_⟩:=(show ObjOk X.prog X.w H s.heap a (.tup xs) from I.hok a _ ea)
    obtain ⟨o,h1,h2,_⟩:=p
    exact PySem.W.kia_one PySem.W.kitx_tuple I.kIn ⟨o,h1,h2⟩ e (fun z=>nomatch z) h
  | @dK a kvs ea =>
    cases (show u=Value.ref a from rx)
    obtain ⟨_,_,vs,_,p⟩:=(show ObjOk X.prog X.w H s.heap a (.dK kvs) from I.hok a _ ea)
    obtain ⟨o,es,ep,h1,h2,_⟩:=p
    exact PySem.W.kia_one PySem.W.kitx_dict I.kIn ⟨o,h1,h2.1⟩ e (fun z=>nomatch z) h
  | @dT a kvs ea =>
    cases (show u=Value.ref a from rx)
    obtain ⟨_,_,xs,_,o,es,ep,h1,h2,_⟩:=(show ObjOk X.prog X.w H s.heap a (.dT kvs) from I.hok a _ ea)
    exact PySem.W.kia_one PySem.W.kitx_dict I.kIn ⟨o,h1,h2.1⟩ e (fun z=>nomatch z) h
  | @ins a C dx fs ea cl ha hn htk hm =>
    cases (show u=Value.ref a from rx)
    obtain ⟨mA,O,_⟩:=zhn I.hok ea
    obtain ⟨od,J,_⟩:=O.look
    exact PySem.W.kia_one (PySem.W.kitx_own (cl.get _) cl.hd ha hn htk hm) I.kIn J e (fun z=>nomatch z) h
end
end L2
namespace L2
open PySem PySem.Spec PyProof.Rows
structure Room (k:Nat) (A:Around):Prop where
  hd:A.handled=none
  dp:A.depth+3*k+5<recursionLimit
  un:A.units+16*k+200<cLine
theorem Room.mono {j k:Nat} {A:Around} (r:Room k A) (h:j≤k):Room j A:=⟨r.hd,by have:=r.dp;omega,by have:=r.un;omega⟩
theorem Room.deeper {k:Nat} {A:Around} (r:Room (k+1) A) (env:Env):Room k (A.deeper env) :=
  ⟨r.hd,by have:=r.dp;show A.depth+1+3*k+5<_;omega,by have:=r.un;show A.units+3+16*k+200<_;omega⟩
theorem zld {A:Around} {C:Addr} {us:List Value} {kw:List (Str×Value)}:(A.under (.builtin "type.__call__" ⟨.ref C::us,kw⟩)).depth=A.depth+1:=by
  first|rfl|simp [Around.under,Code.weight,Code.isCreation,Code.isGuard,Code.isCaller,Code.frames,Code.isFrame,guardIds]
theorem zlc {A:Around} {C:Addr} {us:List Value} {kw:List (Str×Value)}:(A.under (.builtin "type.__call__" ⟨.ref C::us,kw⟩)).units=A.units+1:=by
  first|rfl|simp [Around.under,Code.cUnits,Code.frames,Code.isFrame]
theorem Room.make {k:Nat} {A:Around} (r:Room (k+1) A) (C:Addr) (us:List Value) (kw:List (Str×Value)):Room k (A.under (.builtin "type.__call__" ⟨.ref C::us,kw⟩)) :=
  ⟨r.hd,by have:=r.dp;rw [zld];omega,by have:=r.un;rw [zlc];omega⟩
theorem Room.depth {k:Nat} {A:Around} (r:Room k A):A.depth<recursionLimit:=by have:=r.dp;omega
theorem Room.units {k:Nat} {A:Around} (r:Room k A):A.units+64<cLine:=by have:=r.un;omega
def tNil:TA:=fun _ H Q=>Q [] H
def tCons (ta:TE) (tr:TA):TA:=fun σ H Q=>ta σ H fun x H1=>tr σ H1 fun xs H2=>Q (x::xs) H2
section
variable {X:Cx} {e:Expr} {es:List Expr} {te:TE} {t:TA} {pos:Pos}
theorem pa_nil:PA X [] tNil:=fun _ _ _ _ H Q I h=>Calls.spliced_nil ⟨[],H,I,.nil,h⟩
theorem zqa (ha:PE X e te) (hr:PA X es t) (hs:starEach (e::es) X.env=(false,eval e X.env)::starEach es X.env:=by rfl):PA X (e::es) (tCons te t):=by
  intro pos pins s σ H Q I h
  rw [hs]
  show wpAny _ _ (spliced ((false,eval e X.env)::backTo pos (starEach es X.env))) _ _ s
  refine Calls.spliced_cons (thn (ha pins s σ H _ I h) fun u s1 ⟨x,H1,I1,r1,q1⟩=>?_)
  exact thn (hr pos pins s1 σ H1 _ I1 q1) fun us s2 z_11=>by obtain ⟨xs,H2,I2,r2,q2⟩:=z_11;exact ⟨x::xs,H2,I2,.cons r1 r2,q2⟩
def tTup (t:TA):TE:=fun σ H Q=>t σ H fun xs H1=>xs.length≤sizeLine∧∀p,H1 p=none→Q (.ref p) (upd H1 p (.tup xs))
def tLst (t:TA):TE:=fun σ H Q=>t σ H fun xs H1=>xs.length≤sizeLine∧∀p,H1 p=none→Q (.ref p) (upd H1 p (.lst xs))
theorem pe_tup {x1} (h:PA X es t):PE X (.Tuple es x1 pos) (tTup t):=by
  intro pins s σ H Q I hq
  refine wpAny_Tuple_spliced (thn (h pos pins s σ H _ I hq) fun us s1 ⟨xs,H1,I1,r,z,q⟩=>⟨by rw [←r.length];exact z,?_⟩)
  have hf:H1 s1.heap.objs.size=none:=I1.hok.fresh (Nat.le_refl _)
  refine ⟨.ref s1.heap.objs.size,upd H1 s1.heap.objs.size (.tup xs),I1.laid (t':=s1.toks) (fun b u e=>Heap.get?_push_of_some _ e) (Nat.le_refl _) ?_,rfl,q _ hf⟩
  exact ⟨z,us,r,⟨_,Heap.get?_push_size _ rfl,rfl,_,rfl⟩,fun o q=>by rw [Heap.get?_push_size _ rfl] at q;cases q;rfl⟩
theorem pe_lst (h:PA X es t):PE X (.List es pos) (tLst t):=by
  intro pins s σ H Q I hq
  refine wpAny_List_spliced (thn (h pos pins s σ H _ I hq) fun us s1 ⟨xs,H1,I1,r,z,q⟩=>⟨by rw [←r.length];exact z,?_⟩)
  have hf:H1 s1.heap.objs.size=none:=I1.hok.fresh (Nat.le_refl _)
  refine ⟨.ref s1.heap.objs.size,upd H1 s1.heap.objs.size (.lst xs),I1.laid (t':=s1.toks) (fun b u e=>Heap.get?_push_of_some _ e) (Nat.le_refl _) ?_,rfl,q _ hf⟩
  exact ⟨z,us,0,r,Heap.get?_push_size _ rfl⟩
end
noncomputable abbrev Sp:=List V→Hp→VK→XK→Prop
noncomputable abbrev CXT:=List Env→Hp→Shared→XK→Value→Shared→Prop
structure Env0 (P:Program) (w:World) (K:PySem.W.Frag) (mg:Str→Option Value) (base:Heap) (A:Around) (outer:List Env) (s:Shared) (H:Hp):Prop where
  frames:A.frames=some outer
  mod:Mod K mg base
  bs:∀b o,base.get? b=some o→s.heap.get? b=some o∧H b=none
  bsz:base.objs.size≤s.heap.objs.size
  funs:s.heap.FunFrames base outer
  frf:∀b∈frs outer,H b=none
  hok:HOk P w H s.heap
  bare:AllBare s.gens
def CE (outer:List Env) (P:Program) (w:World) (H:Hp) (s:Shared) (Q:VK) (u:Value) (s':Shared):Prop :=
  ∃v H',s'.os=s.os∧AllBare s'.gens∧Un (frs outer) [] H H' s.heap s'.heap∧HOk P w H' s'.heap∧RelV v u∧Q v H'
def CR (CX:CXT) (outer:List Env) (P:Program) (w:World) (H:Hp) (s:Shared) (Q:VK) (E:XK) (r:Result) (s':Shared):Prop :=
  match r with
  | .ok (.ret u)=>CE outer P w H s Q u s'
  | .ok _=>False
  | .error e=>CX outer H s E e s'
structure FnOk (P:Program) (w:World) (K:PySem.W.Frag) (mg:Str→Option Value) (base:Heap) (CX:CXT) (k:Nat) (f:Addr) (fd:FuncData) (ps:List Str) (sp:Sp):Prop where
  len:∀vs H Q E,sp vs H Q E→vs.length=ps.length
  run:∀(A:Around) (outer:List Env) (s:Shared) (H:Hp) (args:Args) (us:List Value) (vs:List V) (Q:VK) (E:XK),Room k A→Env0 P w K mg base A outer s H→BindsTo s fd args (ps.zip us)→Vals vs us→sp vs H Q E →
    codeAny (model P w) A (.call (.ref f) args) (CR CX outer P w H s Q E) s
theorem FnOk.mono {P:Program} {w:World} {K:PySem.W.Frag} {mg:Str→Option Value} {base:Heap} {CX:CXT} {j k:Nat} {f:Addr} {fd:FuncData} {ps:List Str} {sp:Sp} (F:FnOk P w K mg base CX j f fd ps sp) (h:j≤k) :
    FnOk P w K mg base CX k f fd ps sp:=⟨F.len,fun A outer s H args us vs Q E hr=>F.run A outer s H args us vs Q E (hr.mono h)⟩
theorem FnOk.imp {P:Program} {w:World} {K:PySem.W.Frag} {mg:Str→Option Value} {base:Heap} {CX:CXT} {k:Nat} {f:Addr} {fd:FuncData} {ps:List Str} {sp sp':Sp} (F:FnOk P w K mg base CX k f fd ps sp)
    (h:∀vs H Q E,sp' vs H Q E→sp vs H Q E):FnOk P w K mg base CX k f fd ps sp' :=
  ⟨fun vs H Q E q=>F.len vs H Q E (h _ _ _ _ q),fun A outer s H args us vs Q E hr he hb hv hs=>F.run A outer s H args us vs Q E hr he hb hv (h _ _ _ _ hs)⟩
theorem Env0.make {P:Program} {w:World} {K:PySem.W.Frag} {mg:Str→Option Value} {base:Heap} {A:Around} {outer:List Env} {s:Shared} {H:Hp} (e:Env0 P w K mg base A outer s H) (C:Addr) (us:List Value) (kw:List (Str×Value)) :
    Env0 P w K mg base (A.under (.builtin "type.__call__" ⟨.ref C::us,kw⟩)) outer s H:=⟨by first|exact e.frames|(simpa [Around.under,Code.envs,Code.isFrame,pushEnvs] using e.frames),e.mod,e.bs,e.bsz,e.funs,e.frf,e.hok,e.bare⟩
section
variable {X:Cx} {pins:List (Addr×Obj)} {σ:St} {H:Hp} {s s':Shared}
theorem Inv.env0 (I:Inv X pins σ H s):Env0 X.prog X.w X.K X.mg X.base X.A X.stack s H :=
  ⟨I.ok.frames,I.ok.mod,I.bs,Nat.le_trans I.ok.bsz I.sz,I.stack,I.stkFree,I.hok,I.bare⟩
theorem Inv.after {Q:VK} {u:Value} (I:Inv X pins σ H s) (h:CE X.stack X.prog X.w H s Q u s'):EP X pins σ Q u s':=by
  obtain ⟨v,H',os,bare,un,hok,r,q⟩:=h
  obtain ⟨hh,g,d,t,os'⟩:=s'
  obtain rfl:os'=s.os:=os
  exact ⟨v,H',I.call (h':=hh) (g':=g) (d':=d) (t':=t) (ch:=[]) un hok bare (fun b z=>absurd z (by simp)),r,q⟩
end
def Binds (K:PySem.W.Frag) (fd:FuncData) (ps:List Str) (ds:List Value):Prop :=
  ∀(s:Shared) (us:List Value),K.In s.heap→(us++ds).length=ps.length→BindsTo s fd ⟨us,[]⟩ (ps.zip (us++ds))
theorem Binds.all {K:PySem.W.Frag} {fd:FuncData} {ps:List Str} (h:∀us:List Value,us.length=ps.length→bindArgs fd ⟨us,[]⟩=pure (ps.zip us)):Binds K fd ps []:=fun s us _ hl=>by
  rw [List.append_nil] at hl ⊢
  exact .of_eq (h us hl)
def Passes (CX:CXT) (X:Cx) (E:XK):Prop:=∀(pins:List (Addr×Obj)) (σ:St) (H:Hp) (s:Shared) (e:Value) (s':Shared),Inv X pins σ H s→CX X.stack H s E e s'→X.xe e s'
section
variable {X:Cx} {CX:CXT} {k:Nat} {f C:Addr} {fd:FuncData} {ps:List Str} {sp:Sp} {dvs:List V} {ds:List Value} {E:XK} {x m:Str} {p pos apos:Pos} {e o:Expr} {es:List Expr} {ta:TE} {t:TA}
structure Mk (K:PySem.W.Frag) (C f:Addr):Prop where
  makes:PySem.W.makesIn K C=true
  init:PySem.W.findIn K (.ref C) "__init__"=some (some (.ref f))
  fn:PySem.W.isFn K (.ref f)=true
  kp:PySem.W.keepIn K (.ref C)=true
end
structure FnScope (N P:List Str) (sc:Scope):Prop where
  kind:sc.kind=.function
  co:sc.isCoroutine=false
  gen:sc.isGenerator=false
  nd:N.Nodup
  pre:N.take P.length=P
  par:∀x∈P,sc.names.lookup x=some .local∨sc.names.lookup x=some .cell
  nofree:∀y∈sc.names,y.2≠.free
theorem zi3 {kindOf:Str→Option NameKind} {x:Str}:∀{binds:List (Str×Value)} {m:Str→Option Value},(∀v,(x,v)∉binds)→bindL kindOf binds m x=m x
  | [],_,_=>rfl
  | (n,v)::r,m,h=>by
    unfold bindL
    rw [zi3 fun w hw=>h w (List.mem_cons_of_mem _ hw)]
    split
    · have:x≠n:=by rintro rfl;exact h v List.mem_cons_self
      simp [this]
    · rfl
theorem zi5 {kindOf:Str→Option NameKind} {x:Str}:∀{binds:List (Str×Value)} {m:Str→Option Value},(∀v,(x,v)∉binds)→bindC kindOf binds m x=m x
  | [],_,_=>rfl
  | (n,v)::r,m,h=>by
    unfold bindC
    rw [zi5 fun w hw=>h w (List.mem_cons_of_mem _ hw)]
    split
    · rfl
    · have:x≠n:=by rintro rfl;exact h v List.mem_cons_self
      simp [this]
theorem zi4 {kindOf:Str→Option NameKind} {x:Str} {v:Value}:∀{P:List Str} {vs:List Value} {i:Nat} {m:Str→Option Value},P.Nodup→P[i]?=some x→vs[i]?=some v→kindOf x=some .local →
    bindL kindOf (P.zip vs) m x=some v
  | [],_,_,_,_,h,_,_=>by simp at h
  | _::_,[],_,_,_,_,h,_=>by simp at h
  | p::P,w::vs,0,m,nd,h1,h2,hk=>by
    simp at h1 h2;subst h1;subst h2
    show bindL kindOf ((p,w)::P.zip vs) m p=_
    unfold bindL
    rw [zi3 fun v hv=>(List.nodup_cons.mp nd).1 (List.of_mem_zip hv).1,if_pos hk]
    simp
  | p::P,w::vs,i+1,m,nd,h1,h2,hk=>by
    show bindL kindOf ((p,w)::P.zip vs) m x=_
    unfold bindL
    exact zi4 (i:=i) (List.nodup_cons.mp nd).2 (by simpa using h1) (by simpa using h2) hk
theorem zi6 {kindOf:Str→Option NameKind} {x:Str} {v:Value}:∀{P:List Str} {vs:List Value} {i:Nat} {m:Str→Option Value},P.Nodup→P[i]?=some x→vs[i]?=some v→kindOf x≠some .local →
    bindC kindOf (P.zip vs) m x=some v
  | [],_,_,_,_,h,_,_=>by simp at h
  | _::_,[],_,_,_,_,h,_=>by simp at h
  | p::P,w::vs,0,m,nd,h1,h2,hk=>by
    simp at h1 h2;subst h1;subst h2
    show bindC kindOf ((p,w)::P.zip vs) m p=_
    unfold bindC
    rw [zi5 fun v hv=>(List.nodup_cons.mp nd).1 (List.of_mem_zip hv).1,if_neg hk]
    simp
  | p::P,w::vs,i+1,m,nd,h1,h2,hk=>by
    show bindC kindOf ((p,w)::P.zip vs) m x=_
    unfold bindC
    exact zi6 (i:=i) (List.nodup_cons.mp nd).2 (by simpa using h1) (by simpa using h2) hk
noncomputable def start (N:List Str) (vs:List V):St:=vs.map some++List.replicate (N.length-vs.length) none
noncomputable def cxOf (CX:CXT) (P:Program) (w:World) (K:PySem.W.Frag) (mg:Str→Option Value) (base:Heap) (N:List Str) (qual:Str) (scope:Scope) (f:Addr) (cd:Value) (A:Around) (outer:List Env) (s:Shared) (H:Hp) (E:XK):Cx where
  prog:=P
  w:=w
  K:=K
  mg:=mg
  base:=base
  A:=A.deeper (envOfC qual scope s.heap.objs.size f cd)
  N:=N
  s₀:=s
  H₀:=H
  env:=envOfC qual scope s.heap.objs.size f cd
  outer:=outer
  stack:=envOfC qual scope s.heap.objs.size f cd::outer
  ex:=[]
  calm:=true
  fn:=fun _=>true
  pn:=[]
  xe:=fun e s'=>wpAny (model P w) (A.deeper (envOfC qual scope s.heap.objs.size f cd)) (leaving (envOfC qual scope s.heap.objs.size f cd) e) (fun _ s''=>CX outer H s E e s'') (fun e' s''=>CX outer H s E e' s'') s'
theorem zku {sc:Scope} {n:Nat} {x:Str} (h:sc.names.lookup x=some .cell):∃c,(cellsFrom n sc.names []).lookup x=some c:=by
  have q:=PySem.W.cellsFrom_some sc.names n [] (.inl h)
  exact Option.isSome_iff_exists.mp q
theorem zmx {CX:CXT} {P:Program} {w:World} {K:PySem.W.Frag} {mg:Str→Option Value} {base:Heap} {N ps:List Str} {qual:Str} {scope:Scope} {f:Addr} {cd:Value} {A:Around} {outer:List Env} {s s1:Shared} {H:Hp} {E:XK} {us:List Value} {vs:List V}
    (S:FnScope N ps scope) (hd:A.handled=none) (e0:Env0 P w K mg base A outer s H) (hl:vs.length=ps.length) (r:Vals vs us)
    (x:InCallC s s.heap.objs.size (bindL (envOfC qual scope s.heap.objs.size f cd).kindOf (ps.zip us) fun _=>none) (cellsFrom (s.heap.objs.size+1) scope.names []) (bindC (envOfC qual scope s.heap.objs.size f cd).kindOf (ps.zip us) fun _=>none) s1) :
    Inv (cxOf CX P w K mg base N qual scope f cd A outer s H E) [] (start N vs) H s1:=by
  have hpl:ps.length≤N.length:=by have:=congrArg List.length S.pre;rw [List.length_take] at this;omega
  obtain ⟨h1,tk,rfl,hk⟩:=x.done
  have noA:∀b:Addr,b∉(cxOf CX P w K mg base N qual scope f cd A outer s H E).ex:=fun b z=>absurd (show b∈([]:List Addr) from z) (by simp)
  refine ⟨⟨e0.mod,S.kind,rfl,rfl,Nat.le_refl _,fun y z c h1 h2=>?_,fun y hy=>?_,fun y c _ h=>?_,fun _=>hd,Around.frames_deeper e0.frames,.inr ⟨rfl,rfl⟩,fun b z=>absurd z (noA b),e0.bs,e0.bsz,fun b _ _=>noA b,fun b z=>absurd z (noA b),e0.funs,e0.frf⟩,
    rfl,e0.bare,Un.kept hk,⟨_,x.toInCall.ns,fun i y v h1 h2 h3=>?_⟩,fun y c h=>⟨_,x.cell y c h⟩,e0.hok.fresh (Nat.le_refl _),fun y c h=>?_,fun p hp=>absurd (show p∈([]:List (Addr×Obj)) from hp) (by simp),e0.hok.kept hk,?_⟩
  · exact name_of_addr x.apart (PySem.mem_of_lookup h1) (PySem.mem_of_lookup h2)
  · have hy:scope.names.lookup y=some .cell∨scope.names.lookup y=some .free:=hy
    rcases hy with hy|hy
    · exact zku hy
    · exact absurd rfl (S.nofree _ (PySem.mem_of_lookup hy))
  · exact Nat.le_of_lt (x.above y c (PySem.mem_of_lookup h))
  · have hi:i<vs.length:=by
      unfold start at h2
      by_cases hi:i<vs.length
      · exact hi
      · rw [List.getElem?_append_right (by simpa using hi)] at h2
        rw [List.getElem?_replicate] at h2
        split at h2<;>cases h2
    have ha:vs[i]?=some v:=by
      unfold start at h2
      rw [List.getElem?_append_left (by simpa using hi),List.getElem?_map] at h2
      cases e:vs[i]? with
      | none=>rw [e] at h2;cases h2
      | some a=>rw [e] at h2;cases h2;rfl
    obtain ⟨u,hu,rv⟩:=r.get ha
    have hp:ps[i]?=some y:=by
      rw [←S.pre,List.getElem?_take_of_lt (by omega)];exact h1
    have ndP:ps.Nodup:=by rw [←S.pre];exact S.nd.sublist (List.take_sublist _ _)
    refine ⟨u,rv,?_⟩
    rcases S.par y (List.mem_of_getElem? hp) with k|k
    · exact .inl ⟨k,zi4 ndP hp hu k⟩
    · obtain ⟨c,e⟩:=zku (n:=s.heap.objs.size+1) k
      refine .inr ⟨.inl k,c,e,?_⟩
      have q:=x.cell y c e
      rw [zi6 ndP hp hu (by show scope.names.lookup y≠_;rw [k];decide)] at q
      exact q
  · exact e0.hok.fresh (Nat.le_of_lt (x.above y c (PySem.mem_of_lookup h)))
  · unfold start
    show _=N.length
    rw [List.length_append,List.length_map,List.length_replicate]
    omega
theorem zm3 {CX:CXT} {P:Program} {w:World} {K:PySem.W.Frag} {mg:Str→Option Value} {base:Heap} {k:Nat} {f:Addr} {name qual:Str} {params:Arguments} {body:List Stmt} {scope:Scope} {dV kV doc pm cdv ct oc:Value} {an od:Option Addr}
    {osl:Array (Option Value)} {N ps:List Str} {sp:Sp} (lk:K.lookup f=some ⟨oc,od,.func (PySem.W.fnOf name qual params body scope dV kV doc pm an cdv ct),osl⟩) (hcd:PySem.W.codeIn K cdv qual=true) (S:FnScope N ps scope)
    (len:∀vs H Q E,sp vs H Q E→vs.length=ps.length)
    (hbody:∀(A:Around) (outer:List Env) (s:Shared) (H:Hp) (vs:List V) (Q:VK) (E:XK),Room k (A.deeper (envOfC qual scope s.heap.objs.size f cdv))→sp vs H Q E →
      ∃t,PSs (cxOf CX P w K mg base N qual scope f cdv A outer s H E) body t∧t {nx:=fun _ H'=>Q .non H',rt:=Q} (start N vs) H) :
    FnOk P w K mg base CX (k+1) f (PySem.W.fnOf name qual params body scope dV kV doc pm an cdv ct) ps sp:=by
  refine ⟨len,fun A outer s H args us vs Q E hr e0 hb r hsp=>?_⟩
  have hl:=len _ _ _ _ hsp
  have KX:K.In s.heap:=e0.mod.kin.keeps fun b o e=>(e0.bs b o e).1
  have lim:s.heap.NoLimit:=e0.mod.nolimit.keeps fun b o e=>(e0.bs b o e).1
  have hkind:∀y∈ps.zip us,scope.names.lookup y.1=some .local∨(scope.names.lookup y.1=some .cell∧((cellsFrom (s.heap.objs.size+1) scope.names []).lookup y.1).isSome=true):=fun z_13 hy=>by
    obtain ⟨n,v⟩:=z_13
    rcases S.par n (List.of_mem_zip hy).1 with q|q
    · exact .inl q
    · exact .inr ⟨q,PySem.W.cellsFrom_some _ _ _ (.inl q)⟩
  refine codeAny_call_function hr.depth (KX _ _ lk) rfl S.co S.gen rfl (PySem.W.codeRec_of KX hcd) (hb _ _ _ _ ?_)
  refine wpAny_newFunctionEnv_cells S.kind hkind fun env he s1 x=>?_
  subst he
  refine ⟨lim.keeps x.toInCall.keep,codeAny_func ?_⟩
  obtain ⟨t,ht,hq⟩:=hbody A outer s H vs Q E (hr.deeper _) hsp
  have I:Inv (cxOf CX P w K mg base N qual scope f cdv A outer s H E) [] (start N vs) H s1:=zmx S hr.hd e0 hl r x
  refine wpAny_mono (ht [] s1 (start N vs) H _ I hq) (fun fl s' hs=>?_) fun e s' hs=>hs
  have fin:∀{σ':St} {H':Hp} {v:V} {u:Value},Inv (cxOf CX P w K mg base N qual scope f cdv A outer s H E) [] σ' H' s'→RelV v u→Q v H'→CE outer P w H s Q u s' :=
    fun {σ' H' v u} J rv q=>⟨v,H',J.os,J.bare,J.base,J.hok,rv,q⟩
  cases fl with
  | ret u =>
    obtain ⟨v,σ',H',J,rv,q⟩:=hs
    exact fin J rv q
  | next =>
    obtain ⟨σ',H',J,q⟩:=hs
    exact fin (v:=V.non) (u:=Value.none) J rfl q
  | brk =>
    obtain ⟨_,_,_,q⟩:=hs
    exact False.elim q
  | cont =>
    obtain ⟨_,_,_,q⟩:=hs
    exact False.elim q
end L2
namespace L2
open PySem PySem.Spec PyProof.Rows
section
variable {X:Cx} {x:Str} {p pos:Pos} {e:Expr} {es:List Expr} {t:TA} {id T:String} {r:List V→Hp→VK→Prop}
def tCB (r:List V→Hp→VK→Prop) (t:TA):TE:=fun σ H Q=>t σ H fun vs H1=>r vs H1 Q
theorem zn7 (hc:CallR X (.builtin id) r) (hg:Gl X x) (hm:X.mg x=none) (hv:bootBuiltins x=some (.builtin id)) (ha:PA X (e::es) t) (hn:x≠"__name__":=by decide) (hdb:(x==("__debug__":Str))=false:=by decide)
    (he:starEach (e::es) X.env=(false,eval e X.env)::starEach es X.env:=by rfl) (hpl:(backTo pos (starEach es X.env)).any (·.1)=false:=by rfl):PE X (.Call (.Name x p) (e::es) [] pos) (tCB r t):=by
  intro pins s σ H Q I h
  refine wpAny_Call_Name_kw (zkj I hg hm hv ?_ hn hdb)
  exact PyProof.Rows.callWith_builtin1 (thn (ha pos pins s σ H _ I h) fun us s1 z_14=>by obtain ⟨vs,H1,I1,r1,q1⟩:=z_14;exact hc pins s1 σ H1 vs us Q I1 r1 q1) he hpl
theorem zmc (hc:CallR X (.type T) r) (hg:Gl X x) (hm:X.mg x=none) (hv:bootBuiltins x=some (.type T)) (ha:PA X (e::es) t) (hn:x≠"__name__":=by decide) (hdb:(x==("__debug__":Str))=false:=by decide)
    (he:starEach (e::es) X.env=(false,eval e X.env)::starEach es X.env:=by rfl) (hpl:(backTo pos (starEach es X.env)).any (·.1)=false:=by rfl):PE X (.Call (.Name x p) (e::es) [] pos) (tCB r t):=by
  intro pins s σ H Q I h
  refine wpAny_Call_Name_kw (zkj I hg hm hv ?_ hn hdb)
  exact PyProof.Rows.callWith_type1 (thn (ha pos pins s σ H _ I h) fun us s1 z_15=>by obtain ⟨vs,H1,I1,r1,q1⟩:=z_15;exact hc pins s1 σ H1 vs us Q I1 r1 q1) he hpl
end
end L2
namespace HT
open PySem PyProof.Rows
section
open PySem.SeqAt
open PySem.AutoSeq1 (wpAny_loadPart')
open PySem.MeetsSeq PySem.MeetsSeq2 PySem.MeetsSeq3
end
section
variable {prog:Program} {w:World} {A:Around} {E:Value→Shared→Prop} {s:Shared}
theorem zqv {t b:Addr} {vs ws:List Value} {Q:Value→Shared→Prop} (ht:IsTup s.heap t vs.toArray) (hb:IsTup s.heap b ws.toArray) (hv:vs≠[])
    (h1:ws=[]→Q (.ref t) s) (h2:ws≠[]→Q (.ref s.heap.objs.size) {s with heap:=s.heap.push {cls:=.type "tuple",data:=.seq (vs++ws).toArray}})
    (hsz:vs.length+ws.length≤sizeLine):wpAny (model prog w) A (binaryOp .Add (.ref t) (.ref b)) Q E s:=by
  obtain ⟨⟨cls,dd,data,sl⟩,ho,hc,n,hd⟩:=id ht
  obtain ⟨⟨cls2,dd2,data2,sl2⟩,ho2,hc2,n2,hd2⟩:=id hb
  simp only at hc hd hc2 hd2
  subst hc hd hc2 hd2
  have e:vs.toArray++ws.toArray=(vs++ws).toArray:=by simp
  by_cases hw:ws=[]
  · exact concat_meets ⟨_,ho,rfl⟩ ⟨_,ho2,rfl⟩ noFill_tuple_add seq_tuple_add PySem.F.slot_tuple_add PySem.F.entry_tuple_add (PySem.F.args_tuple_add_2 _ _)
      (tuple_addW1 t b vs.toArray ws.toArray n n2 dd dd2 sl sl2 (by simpa using hv) (by simp [hw])) ⟨ho,ho2,h1 hw⟩
  · refine concat_meets ⟨_,ho,rfl⟩ ⟨_,ho2,rfl⟩ noFill_tuple_add seq_tuple_add PySem.F.slot_tuple_add PySem.F.entry_tuple_add (PySem.F.args_tuple_add_2 _ _)
      (tuple_addW2 t b vs.toArray ws.toArray n n2 dd dd2 sl sl2 (by simpa using hv) (by simpa using hw) (by rw [List.size_toArray,List.size_toArray];exact hsz)) ⟨ho,ho2,?_⟩
    rw [e]
    exact h2 hw
noncomputable def sIx (n d:Nat):Option Int→Nat
  | none=>d
  | some v=>if v<0 then (v+(n:Int)).toNat else min v.toNat n
theorem zfl (n d:Nat):sIx n d none=d:=rfl
theorem zg6 (n d k:Nat):sIx n d (some (k:Int))=min k n:=by
  show (if (k:Int)<0 then ((k:Int)+(n:Int)).toNat else min (k:Int).toNat n)=min k n
  rw [if_neg (by omega),Int.toNat_natCast]
theorem zl0 (n d:Nat) (hd:d≤n) (o:Option Int):sIx n d o≤n:=by
  cases o with
  | none=>exact hd
  | some v =>
    show (if v<0 then (v+(n:Int)).toNat else min v.toNat n)≤n
    by_cases hv:v<0
    · rw [if_pos hv];omega
    · rw [if_neg hv];exact Nat.min_le_right _ _
theorem zne (v:Int) (n d:Nat):(if v<0 then max (v+(n:Int)) 0 else min v (n:Int))=((sIx n d (some v):Nat):Int):=by
  show (if v<0 then max (v+(n:Int)) 0 else min v (n:Int))=(((if v<0 then (v+(n:Int)).toNat else min v.toNat n):Nat):Int)
  by_cases hv:v<0
  · simp only [if_pos hv];omega
  · simp only [if_neg hv];omega
theorem zlh (lo hi:Option Int) (n:Nat):Builtin.Slice.sliceAdjust lo hi 1 (n:Int)=(((sIx n 0 lo:Nat):Int),((sIx n n hi:Nat):Int)):=by
  have h1:¬((1:Int)<0):=by omega
  unfold Builtin.Slice.sliceAdjust
  simp only [h1,if_false]
  refine Prod.ext ?_ ?_
  · cases lo with
    | none=>rfl
    | some v=>exact zne v n 0
  · cases hi with
    | none=>rfl
    | some v=>exact zne v n n
theorem zk4 (i j:Nat):Builtin.Slice.slicePlaces (i:Int) (j:Int) 1=j-i:=by
  unfold Builtin.Slice.slicePlaces
  have h1:(1:Int)>0:=by omega
  simp only [h1,if_true,Int.ediv_one]
  split<;>omega
theorem zgj {v:Value} {o:Option Int} {Q:Option Int→Shared→Prop} (p:IsPart v o) (h:Q o s):wpAny (model prog w) A (Builtin.Slice.slicePartIndex v) Q E s:=by
  cases p with
  | none=>exact slicePart_none h
  | int i t=>exact slicePart_int h
theorem zdd {sl:Addr} {vl vu:Value} {lo hi:Option Int} {n:Nat} {Q:Int×Int×Nat→Shared→Prop} (hs:s.heap.IsSliceOf sl vl vu .none) (pl:IsPart vl lo) (pu:IsPart vu hi)
    (h:Q (((sIx n 0 lo:Nat):Int),1,sIx n n hi-sIx n 0 lo) s):wpAny (model prog w) A (Builtin.Slice.sliceApplied (.ref sl) (pure (n:Int))) Q E s:=by
  obtain ⟨os,hos,hcs,hds⟩:=id hs
  unfold Builtin.Slice.sliceApplied Builtin.Slice.sliceFields
  refine wpAny_bind (wpAny_bind (wpAny_field hos hds (x:=vl) rfl (wpAny_bind (wpAny_field hos hds (x:=vu) rfl (wpAny_bind (wpAny_field hos hds (x:=.none) rfl (wpAny_pure ?_)))))))
  refine wpAny_bind (slicePart_none ?_)
  show wpAny _ _ (if ((1:Int)==0)=true then _ else _) _ _ s
  rw [if_neg (by decide)]
  refine wpAny_bind (zgj pl (wpAny_bind (zgj pu (wpAny_bind (wpAny_pure ?_)))))
  show wpAny _ _ (match Builtin.Slice.sliceAdjust lo hi 1 (n:Int) with|(lo,hi)=>pure (lo,(1:Int),Builtin.Slice.slicePlaces lo hi 1)) _ _ s
  rw [zlh lo hi n]
  show wpAny _ _ (pure (((sIx n 0 lo:Nat):Int),(1:Int),Builtin.Slice.slicePlaces ((sIx n 0 lo:Nat):Int) ((sIx n n hi:Nat):Int) 1)) _ _ s
  rw [zk4]
  exact wpAny_pure h
theorem zn0 (xs:Array Value) (i k:Nat):((List.range k).filterMap fun (m:Nat)=>xs[((i:Int)+(m:Int)*1).toNat]?).toArray=((xs.toList.drop i).take k).toArray:=by
  have e:(fun (m:Nat)=>xs[((i:Int)+(m:Int)*1).toNat]?)=fun m=>xs[i+m]?:=by
    funext m
    have:((i:Int)+(m:Int)*1).toNat=i+m:=by omega
    rw [this]
  rw [e]
  have:=pick_run xs i k
  rw [List.filterMap_map] at this
  have e2:((fun x=>xs[x]?) ∘ fun x=>i+x)=fun m=>xs[i+m]?:=rfl
  rw [e2] at this
  rw [this]
theorem ze1 {t sl:Addr} {items:Array Value} {vl vu:Value} {lo hi:Option Int} {Q:Value→Shared→Prop} (ht:IsTup s.heap t items) (hs:s.heap.IsSliceOf sl vl vu .none) (pl:IsPart vl lo) (pu:IsPart vu hi)
    (hw:¬(sIx items.size 0 lo=0∧sIx items.size items.size hi=items.size))
    (h:Q (.ref s.heap.objs.size) {s with heap:=s.heap.push {cls:=.type "tuple",data:=.seq ((items.toList.drop (sIx items.size 0 lo)).take (sIx items.size items.size hi-sIx items.size 0 lo)).toArray}})
    (hsz:items.size≤sizeLine):wpAny (model prog w) A (getItem (.ref t) (.ref sl)) Q E s:=by
  have htake:sizeOk (.seq ((items.toList.drop (sIx items.size 0 lo)).take (sIx items.size items.size hi-sIx items.size 0 lo)).toArray):=by
    show ((items.toList.drop (sIx items.size 0 lo)).take (sIx items.size items.size hi-sIx items.size 0 lo)).toArray.size≤sizeLine
    rw [List.size_toArray,List.length_take,List.length_drop,Array.length_toList]
    omega
  have hj:sIx items.size items.size hi≤items.size:=zl0 _ _ (Nat.le_refl _) hi
  obtain ⟨os,hos,hcs,hds⟩:=id hs
  have hTs:s.TypeIs (.ref sl) "slice":=⟨os,hos,hcs⟩
  unfold getItem
  try with_reducible refine wpAny_holding ?_
  first|refine wpAny_bind (wpAny_pure ?_)|skip
  refine wpAny_bind (wpAny_sequenceKey ht.typeIs (by decide) ?_)
  refine wpAny_bind (wpAny_callSpecial?_slot (name:=Str.ofString "__getitem__") ht.typeIs PyProof.Rows.slot_tuple_getitem
    (wpAny_call_entry PyProof.Rows.slot_tuple_getitem ht.typeIs entry_tuple_getitem ?_ (args_tuple_getitem _ _)))
  show wpAny _ _ (Builtin.Tuple.tupleItemsOf (.ref t) >>= _) _ _ s
  refine wpAny_bind (tupleItemsOf_ ht ?_)
  refine wpAny_bind (wpAny_typeOf hTs ?_)
  rw [if_pos (by decide)]
  refine wpAny_bind (zdd hs pl pu ?_)
  have hno:¬((((sIx items.size 0 lo:Nat):Int)==0&&(1:Int)==1&&(sIx items.size items.size hi-sIx items.size 0 lo)==items.size)=true):=by
    intro q
    rw [Bool.and_eq_true,Bool.and_eq_true] at q
    have q1:((sIx items.size 0 lo:Nat):Int)=0:=eq_of_beq q.1.1
    have q2:sIx items.size items.size hi-sIx items.size 0 lo=items.size:=eq_of_beq q.2
    exact hw ⟨by omega,by omega⟩
  show wpAny _ _ (if (((sIx items.size 0 lo:Nat):Int)==0&&(1:Int)==1&&(sIx items.size items.size hi-sIx items.size 0 lo)==items.size)=true then _ else _) _ _ s
  rw [if_neg hno,zn0]
  first
    | exact wpAny_bind (m:=Builtin.Tuple.tupleExact _) (wpAny_newObj_type (wpAny_pure ⟨_,rfl,wpAny_pure h⟩) htake)
    | exact wpAny_bind (m:=Builtin.Tuple.tupleExact _) (wpAny_newObj_type (wpAny_bind (wpAny_pure (wpAny_pure ⟨_,rfl,wpAny_pure h⟩))) htake)
    | exact wpAny_bind (wpAny_bind (m:=Builtin.Tuple.tupleExact _) (wpAny_newObj_type (wpAny_pure (wpAny_pure ⟨_,rfl,wpAny_pure h⟩)) htake))
    | exact wpAny_bind (wpAny_bind (m:=Builtin.Tuple.tupleExact _) (wpAny_newObj_type (wpAny_pure ⟨_,rfl,wpAny_pure h⟩) htake))
end
end HT
namespace L2
open PySem PySem.Spec PyProof.Rows
noncomputable abbrev TO:=St→Hp→(Option Int→Hp→Prop)→Prop
def PO (X:Cx) (e:Option Expr) (t:TO):Prop :=
  ∀(pins:List (Addr×Obj)) (s:Shared) (σ:St) (H:Hp) (Q:Option Int→Hp→Prop),Inv X pins σ H s→t σ H Q →
    wpAny (model X.prog X.w) X.A (evalPart e X.env) (fun u s'=>∃o H',Inv X pins σ H' s'∧IsPart u o∧Q o H') X.xe s
noncomputable def tNoPart:TO:=fun _ H Q=>Q none H
noncomputable def tPart (t:TE):TO:=fun σ H Q=>t σ H fun x H1=>∃i,x=.int i∧Q (some i) H1
section
variable {X:Cx} {e:Expr} {te:TE} {lo hi:Option Expr} {tl th:TO} {pos p2:Pos}
theorem zp2:PO X none tNoPart:=by
  intro pins s σ H Q I h
  rw [evalPart_none]
  exact wpAny_pure ⟨none,H,I,.none,h⟩
theorem zp1 (h:PE X e te):PO X (some e) (tPart te):=by
  intro pins s σ H Q I hw
  rw [evalPart_some]
  refine thn (h pins s σ H _ I hw) fun u s1 ⟨x,H1,I1,r1,q1⟩=>?_
  obtain ⟨i,rfl,q⟩:=q1
  obtain ⟨t,rfl⟩:=r1
  exact ⟨some i,H1,I1,.int i t,q⟩
def SlR (X:Cx) (r:V→Option Int→Option Int→Hp→VK→Prop):Prop :=
  ∀(pins:List (Addr×Obj)) (s:Shared) (σ:St) (H:Hp) (x:V) (v vl vu:Value) (lo hi:Option Int) (sl:Addr) (Q:VK),Inv X pins σ H s→RelV x v→s.heap.IsSliceOf sl vl vu .none→IsPart vl lo→IsPart vu hi→r x lo hi H Q →
    ∃T id,typeLookup (.type T) "__getitem__"=pure (some (.builtin id))∧s.TypeIs v T∧wpAny (model X.prog X.w) X.A (getItem v (.ref sl)) (EP X pins σ Q) X.xe s
def tSl (r:V→Option Int→Option Int→Hp→VK→Prop) (te:TE) (tl th:TO):TE:=fun σ H Q=>te σ H fun x H1=>tl σ H1 fun l H2=>th σ H2 fun u H3=>r x l u H3 Q
theorem zn1 {r:V→Option Int→Option Int→Hp→VK→Prop} (hr:SlR X r) (he:PE X e te) (hl:PO X lo tl) (hu:PO X hi th):PE X (.Subscript e (.Slice lo hi none p2) pos) (tSl r te tl th):=by
  intro pins s σ H Q I h
  refine Subscript_ (thn (he pins s σ H _ I h) fun v s1 ⟨x,H1,I1,r1,q1⟩=>?_)
  refine wpAny_Slice (thn (hl pins s1 σ H1 _ I1 q1) fun vl s2 ⟨l,H2,I2,pl,q2⟩=>thn (hu pins s2 σ H2 _ I2 q2) fun vu s3 ⟨u,H3,I3,pu,q3⟩=>?_)
  rw [evalPart_none]
  refine wpAny_pure ?_
  have I4:Inv X pins σ H3 {s3 with heap:=s3.heap.push {cls:=.type "slice",data:=.fields #[vl,vu,.none]}}:=I3.kept (t':=s3.toks) fun b ob q=>Heap.get?_push_of_some _ q
  obtain ⟨T,id,hT,ht,hg⟩:=hr pins {s3 with heap:=s3.heap.push {cls:=.type "slice",data:=.fields #[vl,vu,.none]}} σ H3 x v vl vu l u s3.heap.objs.size Q I4 r1 (Heap.IsSliceOf.new ..) pl pu q3
  show wpAny (model X.prog X.w) X.A (subscriptTail e (.Slice lo hi none p2) v (.ref s3.heap.objs.size)) (EP X pins σ Q) X.xe {s3 with heap:=s3.heap.push {cls:=.type "slice",data:=.fields #[vl,vu,.none]}}
  exact tail_any (ops:=[.ref s3.heap.objs.size,v]) ht hT hg (by with_unfolding_all rfl)
noncomputable def cutV (xs:List V) (lo hi:Option Int):List V:=(xs.drop (HT.sIx xs.length 0 lo)).take (HT.sIx xs.length xs.length hi-HT.sIx xs.length 0 lo)
theorem zga (xs:List V) (lo hi:Option Int):(cutV xs lo hi).length≤xs.length:=by
  unfold cutV
  rw [List.length_take,List.length_drop]
  omega
def rSlT (K:PySem.W.Frag):V→Option Int→Option Int→Hp→VK→Prop:=fun x lo hi H Q=>∃a xs,x=.ref a∧SqT K H a xs ∧
  ¬(HT.sIx xs.length 0 lo=0∧HT.sIx xs.length xs.length hi=xs.length)∧∀p,H p=none→Q (.ref p) (upd H p (.tup (cutV xs lo hi)))
theorem sl_tup:SlR X (rSlT X.K):=by
  intro pins s σ H x v vl vu lo hi sl Q I rx hs pl pu h
  obtain ⟨a,xs,rfl,hx,hw,q⟩:=h
  cases rx
  obtain ⟨its,r,ht,hz⟩:=I.tuple hx
  have hlen:its.toArray.size=xs.length:=by rw [List.size_toArray];exact r.length.symm
  refine ⟨"tuple",_,PyProof.Rows.slot_tuple_getitem.lookup,ht.typeIs,?_⟩
  refine HT.ze1 ht hs pl pu (by rw [hlen];exact hw) ?_ (by rw [hlen];exact hz)
  rw [hlen]
  refine ⟨.ref s.heap.objs.size,_,I.laid (t':=s.toks) (o:=.tup (cutV xs lo hi)) (fun b ob q=>Heap.get?_push_of_some _ q) (Nat.le_refl _) ?_,rfl,q _ (I.hok.fresh (Nat.le_refl _))⟩
  exact ⟨Nat.le_trans (zga xs lo hi) hz,_,(r.drop (HT.sIx xs.length 0 lo)).take (HT.sIx xs.length xs.length hi-HT.sIx xs.length 0 lo),IsTup.new _ _,fun o q=>by rw [Heap.get?_push_size _ rfl] at q;cases q;rfl⟩
def rCatT (K:PySem.W.Frag):R2:=fun x y H Q=>∃a b xs ys,x=.ref a∧y=.ref b∧SqT K H a xs∧SqT K H b ys∧xs≠[]∧xs.length+ys.length≤sizeLine ∧
  (ys=[]→Q (.ref a) H)∧(ys≠[]→∀p,H p=none→Q (.ref p) (upd H p (.tup (xs++ys))))
theorem Vals.nil_iff {xs:List V} {us:List Value} (r:Vals xs us):us=[]↔xs=[]:=by
  cases r with
  | nil=>simp
  | cons _ _=>simp
theorem zez:OpR X (binaryOp .Add) (rCatT X.K):=by
  intro pins s σ H x y v u Q I rx ry h
  obtain ⟨a,b,xs,ys,rfl,rfl,ha,hb,hx,hz,q1,q2⟩:=h
  cases rx
  cases ry
  obtain ⟨its,r1,p1,_⟩:=I.tuple ha
  obtain ⟨its2,r2,p2,_⟩:=I.tuple hb
  refine HT.zqv p1 p2 (fun z=>hx (r1.nil_iff.mp z)) (fun z=>⟨.ref a,H,I,rfl,q1 (r2.nil_iff.mp z)⟩) (fun z=>?_) (by rw [←r1.length,←r2.length];exact hz)
  refine ⟨.ref s.heap.objs.size,_,I.laid (t':=s.toks) (o:=.tup (xs++ys)) (fun b ob q=>Heap.get?_push_of_some _ q) (Nat.le_refl _) ?_,rfl,q2 (fun w=>z (r2.nil_iff.mpr w)) _ (I.hok.fresh (Nat.le_refl _))⟩
  exact ⟨by rw [List.length_append];exact hz,_,r1.append r2,IsTup.new _ _,fun o q=>by rw [Heap.get?_push_size _ rfl] at q;cases q;rfl⟩
end
end L2
namespace L2
open PySem PySem.Spec PyProof.Rows
noncomputable def ixN (n:Nat) (i:Int):Option Nat:=if 0≤i then (if i<n then some i.toNat else none) else if -(n:Int)≤i then some (i+n).toNat else none
noncomputable def atI {α:Type} (xs:List α) (i:Int):Option α:=(ixN xs.length i).bind fun j=>xs[j]?
theorem zmu {n:Nat} {i:Int} {j:Nat} (h:ixN n i=some j):seqIndex? i n=some j∧j<n∧-(n:Int)≤i∧i<n:=by
  unfold ixN at h
  by_cases h0:0≤i
  · rw [if_pos h0] at h
    by_cases h1:i<n
    · rw [if_pos h1] at h
      have e:i.toNat=j:=Option.some.inj h
      exact ⟨by rw [seqIndex_of h0 h1,e],by omega,by omega,h1⟩
    · rw [if_neg h1] at h;cases h
  · rw [if_neg h0] at h
    by_cases h1:-(n:Int)≤i
    · rw [if_pos h1] at h
      have e:(i+n).toNat=j:=Option.some.inj h
      exact ⟨by rw [seqIndex_neg (by omega) h1,e],by omega,h1,by omega⟩
    · rw [if_neg h1] at h;cases h
theorem zjt {α:Type} {xs:List α} {i:Int} {v:α} (h:atI xs i=some v):∃j,seqIndex? i xs.length=some j∧xs[j]?=some v∧j<xs.length∧-(xs.length:Int)≤i∧i<xs.length:=by
  unfold atI at h
  cases e:ixN xs.length i with
  | none=>rw [e] at h;cases h
  | some j =>
    rw [e] at h
    obtain ⟨h1,h2,h3,h4⟩:=zmu e
    exact ⟨j,h1,h,h2,h3,h4⟩
theorem ze6 {α:Type} {xs:List α} {j:Nat} {v:α} (h:xs[j]?=some v):atI xs (j:Int)=some v:=by
  have hj:j<xs.length:=(List.getElem?_eq_some_iff.mp h).1
  have e:ixN xs.length (j:Int)=some j:=by
    unfold ixN
    rw [if_pos (by omega),if_pos (by omega)];simp
  unfold atI;rw [e];exact h
theorem zo0 {α:Type} (xs:List α) (v:α):atI (xs++[v]) (-1)=some v:=by
  have hl:(xs++[v]).length=xs.length+1:=by simp
  have e:ixN (xs++[v]).length (-1)=some xs.length:=by
    unfold ixN
    rw [hl,if_neg (by decide),if_pos (by omega)]
    congr 1
    omega
  unfold atI
  rw [e]
  show (xs++[v])[xs.length]?=some v
  simp
def PlainIx (b:Expr):Prop:=∀o i,subscripted b false o i=operate [o,i] (getItem o i)
def IxR (X:Cx) (r:R2):Prop :=
  ∀(value slice:Expr) (pins:List (Addr×Obj)) (s:Shared) (σ:St) (H:Hp) (x y:V) (v u:Value) (Q:VK),Inv X pins σ H s→RelV x v→RelV y u→r x y H Q →
    subscripted slice false v u=operate [v,u] (getItem v u)→wpAny (model X.prog X.w) X.A (subscriptTail value slice v u) (EP X pins σ Q) X.xe s
def MtR (X:Cx) (id:String) (r:V→List V→Hp→VK→Prop):Prop :=
  ∀(pins:List (Addr×Obj)) (s:Shared) (σ:St) (H:Hp) (x:V) (xs:List V) (v:Value) (us:List Value) (Q:VK),Inv X pins σ H s→RelV x v→Vals xs us→r x xs H Q →
    wpAny (model X.prog X.w) X.A (call (.builtin id) (v::us)) (EP X pins σ Q) X.xe s
section
variable {X:Cx} {a b:Expr} {ta tb:TE} {pos:Pos}
theorem pe_ix {r:R2} (hr:IxR X r) (ha:PE X a ta) (hb:PE X b tb) (hs:PlainIx b):PE X (.Subscript a b pos) (tOp r ta tb):=by
  intro pins s σ H Q I h
  exact Subscript_ (binT ha hb I h fun v u s2 x y H2 I2 rx ry q=>hr a b pins s2 σ H2 x y v u Q I2 rx ry q (hs _ _))
def rIxL (K:PySem.W.Frag):R2:=fun x y H Q=>∃p xs i v,x=.ref p∧y=.int i∧SqL K H p xs∧atI xs i=some v∧Q v H
def rIxT (K:PySem.W.Frag):R2:=fun x y H Q=>∃p xs i v,x=.ref p∧y=.int i∧SqT K H p xs∧atI xs i=some v∧Q v H
def rIxS:R2:=fun x y H Q=>∃z i c,x=.str z∧y=.int i∧z.length≤sizeLine∧atI z.cps.toList i=some c∧Q (.str ⟨#[c]⟩) H
theorem zb4:IxR X (rIxL X.K):=by
  intro value slice pins s σ H x y v u Q I rx ry h hs
  obtain ⟨p,xs,i,z,rfl,rfl,hq,he,q⟩:=h
  cases rx
  obtain ⟨t,rfl⟩:=ry
  obtain ⟨its,r,pl,hz⟩:=I.list hq
  obtain ⟨j,h1,h2,h3,h4,h5⟩:=zjt he
  obtain ⟨w,ew,rw'⟩:=r.get h2
  have hl:=r.length
  have hn:=line63
  have fin:EP X pins σ Q w s:=⟨z,H,I,rw',q⟩
  by_cases h0:0≤i
  · have hj:i.toNat=j:=by
      rw [seqIndex_of h0 h5] at h1
      exact Option.some.inj h1
    exact item_listR pl.isList h0 (by omega) (by rw [hj];simpa using ew) fin hs
  · have hj:(i+(its.toArray.size:Int)).toNat=j:=by
      rw [seqIndex_neg (by omega) h4] at h1
      rw [List.size_toArray,←hl]
      exact Option.some.inj h1
    exact subscriptTail_builtinR (x:=w) pl.isList.typeIs slot_list_getitem.lookup
      (wpAny_getItem_list_neg (Q:=fun r s'=>r=w∧EP X pins σ Q r s') pl.isList (by omega) (by rw [List.size_toArray]<;>omega) (by omega) (by rw [hj];simpa using ew) ⟨rfl,fin⟩) hs
theorem za0:IxR X (rIxT X.K):=by
  intro value slice pins s σ H x y v u Q I rx ry h hs
  obtain ⟨p,xs,i,z,rfl,rfl,hq,he,q⟩:=h
  cases rx
  obtain ⟨t,rfl⟩:=ry
  obtain ⟨its,r,pl,hz⟩:=I.tuple hq
  obtain ⟨j,h1,h2,h3,h4,h5⟩:=zjt he
  obtain ⟨w,ew,rw'⟩:=r.get h2
  have hl:=r.length
  have hn:=line63
  have fin:EP X pins σ Q w s:=⟨z,H,I,rw',q⟩
  exact subscriptTail_builtinR (x:=w) pl.typeIs slot_tuple_getitem.lookup
    (getItem_tuple (j:=j) (Q:=fun r s'=>r=w∧EP X pins σ Q r s') pl (by omega) (by omega) (by rw [List.size_toArray,←hl];exact h1) (by simpa using ew) ⟨rfl,fin⟩) hs
theorem zkk:IxR X rIxS:=by
  intro value slice pins s σ H x y v u Q I rx ry h hs
  obtain ⟨z,i,c,rfl,rfl,hz,he,q⟩:=h
  obtain ⟨t,rfl⟩:=rx
  obtain ⟨t',rfl⟩:=ry
  obtain ⟨j,h1,h2,h3,h4,h5⟩:=zjt he
  have hl:z.cps.toList.length=z.length:=by simp [Str.length]
  rw [hl] at h1 h4 h5
  have hn:=line63
  exact tail_any (typeIs_str s z t) slot_str_getitem.lookup (getItem_str (c:=c) (by
    have e1:decide (i < -(2^63:Int))=false:=decide_eq_false (by omega)
    have e2:decide (i≥2^63)=false:=decide_eq_false (by omega)
    rw [e1,e2,Bool.or_false]) (by rw [h1];simpa using h2) ⟨.str ⟨#[c]⟩,H,I.tok _,⟨_,rfl⟩,q⟩) hs
theorem zlb (its:List Value) (n j:Nat) (u:Value):Obj.mapSeq (·.setIfInBounds j u) {cls:=.type "list",data:=.seq its.toArray n}={cls:=.type "list",data:=.seq (its.set j u).toArray n}:=by
  simp [Obj.mapSeq]
theorem Inv.lst {pins:List (Addr×Obj)} {σ:St} {H:Hp} {s:Shared} {p:Addr} {xs:List V} (I:Inv X pins σ H s) (h:H p=some (.lst xs)) :
    ∃(its:List Value) (n:Nat),Vals xs its∧s.heap.get? p=some {cls:=.type "list",data:=.seq its.toArray n}∧xs.length≤sizeLine:=by
  obtain ⟨z,its,n,r,e⟩:=I.hok p _ h
  exact ⟨its,n,r,e,z⟩
theorem Inv.lstUpd {pins:List (Addr×Obj)} {σ:St} {H:Hp} {s:Shared} {p:Addr} {xs ys:List V} {its its':List Value} {n n':Nat} {f:Obj→Obj} (I:Inv X pins σ H s) (h:H p=some (.lst xs))
    (ho:s.heap.get? p=some {cls:=.type "list",data:=.seq its.toArray n}) (hf:f {cls:=.type "list",data:=.seq its.toArray n}={cls:=.type "list",data:=.seq its'.toArray n'}) (r:Vals ys its') (hz:ys.length≤sizeLine) (t:Nat) :
    Inv X pins σ (upd H p (.lst ys)) {s with heap:=s.heap.update p f,toks:=t}:=by
  have e:(s.heap.update p f).get? p=some {cls:=.type "list",data:=.seq its'.toArray n'}:=by
    rw [Heap.get?_update_self f ho (by rw [hf]<;>rfl),hf]
  refine I.write (x:=p) (e:=p) (by rw [h];trivial) (.inl rfl) (fun b u hb q=>(Heap.get?_update_other _ _ (Ne.symm hb)).trans q) ⟨_,e⟩ ?_
  exact ⟨hz,its',n',r,e⟩
def rSetL:V→V→V→Hp→(Hp→Prop)→Prop:=fun o i v H Q=>∃p xs k j,o=.ref p∧i=.int k∧H p=some (.lst xs)∧ixN xs.length k=some j∧Q (upd H p (.lst (xs.set j v)))
theorem set_list:PSet X rSetL:=by
  intro pins s σ H o i v ov iv u Q I ro ri rv h
  obtain ⟨p,xs,k,j,rfl,rfl,hp,hj,q⟩:=h
  cases ro
  obtain ⟨t,rfl⟩:=ri
  obtain ⟨its,n,r,ho,hz⟩:=I.lst hp
  obtain ⟨h1,h2,h3,h4⟩:=zmu hj
  have hl:=r.length
  have hn:=line63
  have I':Inv X pins σ (upd H p (.lst (xs.set j v))) {s with heap:=s.heap.update p (Obj.mapSeq (·.setIfInBounds j u))} :=
    I.lstUpd hp ho (zlb its n j u) (r.set rv j) (by rw [List.length_set];exact hz) s.toks
  by_cases h0:0≤k
  · have hk:k.toNat=j:=by
      rw [seqIndex_of h0 h4] at h1
      exact Option.some.inj h1
    exact PySem.W.ki_setAt ho h0 (by omega) (by rw [List.size_toArray,←hl];exact h4) (by rw [hk];exact ⟨_,I',q⟩)
  · have hk:(k+(its.toArray.size:Int)).toNat=j:=by
      rw [seqIndex_neg (by omega) h3] at h1
      rw [List.size_toArray,←hl]
      exact Option.some.inj h1
    exact PySem.W.ki_setBack ho (by omega) (by rw [List.size_toArray,←hl];exact h3) (by omega) (by rw [hk];exact ⟨_,I',q⟩)
theorem zh4 (lo hi:Option Int) (n:Nat):(sliceBounds lo hi none n).1=((HT.sIx n 0 lo:Nat):Int)∧(sliceBounds lo hi none n).2.1=((HT.sIx n n hi:Nat):Int)∧(sliceBounds lo hi none n).2.2=1:=by
  refine ⟨?_,?_,rfl⟩
  · cases lo with
    | none=>simp [sliceBounds,HT.sIx]
    | some i =>
      simp only [sliceBounds,HT.sIx,Option.getD_none,show (1:Int)>0 by decide,if_true]
      by_cases h:i<0
      · simp only [h,if_true]<;>omega
      · simp only [h,if_false]<;>omega
  · cases hi with
    | none=>simp [sliceBounds,HT.sIx]
    | some i =>
      simp only [sliceBounds,HT.sIx,Option.getD_none,show (1:Int)>0 by decide,if_true]
      by_cases h:i<0
      · simp only [h,if_true]<;>omega
      · simp only [h,if_false]<;>omega
theorem zg3 (its:List Value) (lo hi:Option Int):slicePick its.toArray lo hi none=((its.drop (HT.sIx its.length 0 lo)).take (HT.sIx its.length its.length hi-HT.sIx its.length 0 lo)).toArray:=by
  obtain ⟨h1,h2,h3⟩:=zh4 lo hi its.toArray.size
  unfold slicePick
  rw [h1,h2,h3]
  simp only [sliceRange_one,pick_run,List.size_toArray]<;>rfl
def rSlL (K:PySem.W.Frag):V→Option Int→Option Int→Hp→VK→Prop:=fun x lo hi H Q=>∃a xs,x=.ref a∧SqL K H a xs∧∀p,H p=none→Q (.ref p) (upd H p (.lst (cutV xs lo hi)))
theorem zex:SlR X (rSlL X.K):=by
  intro pins s σ H x v vl vu lo hi sl Q I rx hs pl pu h
  obtain ⟨a,xs,rfl,hx,q⟩:=h
  cases rx
  obtain ⟨its,r,ht,hz⟩:=I.list hx
  have hlen:=r.length
  refine ⟨"list",_,slot_list_getitem.lookup,ht.isList.typeIs,?_⟩
  refine wpAny_getItem_list_slice ht.isList hs pl pu .none (by simp) ?_ (by rw [List.size_toArray]<;>omega)
  rw [zg3,←hlen]
  refine ⟨.ref s.heap.objs.size,_,I.laid (t':=s.toks) (o:=.lst (cutV xs lo hi)) (fun b ob q=>Heap.get?_push_of_some _ q) (Nat.le_refl _) ?_,rfl,q _ (I.hok.fresh (Nat.le_refl _))⟩
  exact ⟨Nat.le_trans (zga xs lo hi) hz,_,0,(r.drop (HT.sIx xs.length 0 lo)).take (HT.sIx xs.length xs.length hi-HT.sIx xs.length 0 lo),Heap.get?_push_size _ rfl⟩
noncomputable def flatV:V→Bool
  | .non=>true
  | .bl _=>true
  | .int _=>true
  | .str _=>true
  | _=>false
noncomputable def eqV:V→V→Bool
  | .non,.non=>true
  | .bl a,.bl b=>a==b
  | .bl a,.int b=>(if a then 1 else 0)==b
  | .int a,.bl b=>a==(if b then 1 else 0)
  | .int a,.int b=>a==b
  | .str a,.str b=>a==b
  | _,_=>false
theorem eqAt_V {A:Around} {s:Shared} {y x:V} {u v:Value} (ry:RelV y u) (rx:RelV x v) (fy:flatV y=true) (fx:flatV x=true):SeqAt.EqAt A s u v (eqV y x):=by
  cases y with
  | non =>
    cases ry
    cases x with
    | non=>cases rx;exact SeqAt.EqAt.same _
    | bl b=>cases rx;exact SeqAt.EqAt.none_bool b
    | int b=>obtain ⟨t,rfl⟩:=rx;exact SeqAt.EqAt.none_int b t
    | str b=>obtain ⟨t,rfl⟩:=rx;exact SeqAt.EqAt.none_str b t
    | _=>exact absurd (show false=true from fx) Bool.false_ne_true
  | bl a =>
    cases ry
    cases x with
    | non=>cases rx;exact SeqAt.EqAt.bool_none a
    | bl b=>cases rx;exact SeqAt.EqAt.bool_bool a b
    | int b=>obtain ⟨t,rfl⟩:=rx;exact SeqAt.EqAt.bool_int a b t
    | str b=>obtain ⟨t,rfl⟩:=rx;exact SeqAt.EqAt.bool_str a b t
    | _=>exact absurd (show false=true from fx) Bool.false_ne_true
  | int a =>
    obtain ⟨t',rfl⟩:=ry
    cases x with
    | non=>cases rx;exact SeqAt.EqAt.int_none a t'
    | bl b=>cases rx;exact SeqAt.EqAt.int_bool a t' b
    | int b=>obtain ⟨t,rfl⟩:=rx;exact SeqAt.EqAt.int_int a t' b t
    | str b=>obtain ⟨t,rfl⟩:=rx;exact SeqAt.EqAt.int_str a t' b t
    | _=>exact absurd (show false=true from fx) Bool.false_ne_true
  | str a =>
    obtain ⟨t',rfl⟩:=ry
    cases x with
    | non=>cases rx;exact SeqAt.EqAt.str_none a t'
    | bl b=>cases rx;exact SeqAt.EqAt.str_bool a t' b
    | int b=>obtain ⟨t,rfl⟩:=rx;exact SeqAt.EqAt.str_int a t' b t
    | str b=>obtain ⟨t,rfl⟩:=rx;exact SeqAt.EqAt.str_str a t' b t
    | _=>exact absurd (show false=true from fx) Bool.false_ne_true
  | _=>exact absurd (show false=true from fy) Bool.false_ne_true
noncomputable def eqU (x:V) (u:Value):Bool:=match u with
  | .none=>eqV .non x
  | .bool b=>eqV (.bl b) x
  | .int i _=>eqV (.int i) x
  | .str z _=>eqV (.str z) x
  | _=>false
theorem zpc {x y:V} {u:Value} (r:RelV y u) (f:flatV y=true):eqU x u=eqV y x:=by
  cases y with
  | non=>cases r;rfl
  | bl b=>cases r;rfl
  | int i=>obtain ⟨t,rfl⟩:=r;rfl
  | str z=>obtain ⟨t,rfl⟩:=r;rfl
  | _=>exact absurd (show false=true from f) Bool.false_ne_true
theorem zju {x:V}:∀{xs:List V} {us:List Value},Vals xs us→xs.all flatV=true→us.any (eqU x)=xs.any fun y=>eqV y x
  | _,_,.nil,_=>rfl
  | y::xs,u::us,.cons r t,f=>by
    rw [List.all_cons,Bool.and_eq_true] at f
    rw [List.any_cons,List.any_cons,zpc r f.1,zju t f.2]
theorem zhl {A:Around} {s:Shared} {x:V} {v:Value} (rx:RelV x v) (fx:flatV x=true):∀{xs:List V} {us:List Value},Vals xs us→xs.all flatV=true→∀u∈us,SeqAt.EqAt A s u v (eqU x u)
  | _,_,.nil,_=>fun u hu=>by cases hu
  | y::xs,u::us,.cons r t,f=>fun u' hu=>by
    rw [List.all_cons,Bool.and_eq_true] at f
    rcases List.mem_cons.mp hu with rfl|hu
    · rw [zpc r f.1];exact eqAt_V r rx f.1 fx
    · exact zhl rx fx t f.2 u' hu
noncomputable def inV (x:V) (xs:List V):Bool:=xs.any fun y=>eqV y x
def rIn (K:PySem.W.Frag) (neg:Bool):R2:=fun x y H Q=>∃p xs,y=.ref p∧(SqL K H p xs∨SqT K H p xs)∧flatV x=true∧xs.all flatV=true∧Q (.bl (if neg then !inV x xs else inV x xs)) H
theorem zii:OpR X (compareOp .NotIn) (rIn X.K true):=by
  intro pins s σ H x y v u Q I rx ry h
  obtain ⟨p,xs,rfl,hq,fx,fs,q⟩:=h
  cases ry
  rcases hq with hq|hq
  · obtain ⟨its,r,pl,hz⟩:=I.list hq
    refine SeqAt.notIn_listAt (eqU x) pl.isList (fun w hw=>zhl rx fx r fs w (by simpa using hw)) ⟨.bl _,H,I,rfl,?_⟩
    rw [show its.toArray.any (eqU x)=its.any (eqU x) by simp,zju r fs]
    exact q
  · obtain ⟨its,r,pl,hz⟩:=I.tuple hq
    refine SeqAt.notIn_tupleAt (eqU x) pl (fun w hw=>zhl rx fx r fs w (by simpa using hw)) ⟨.bl _,H,I,rfl,?_⟩
    rw [show its.toArray.any (eqU x)=its.any (eqU x) by simp,zju r fs]
    exact q
theorem za4:CallR X (.builtin "len") (fun xs H Q=>∃p ys,xs=[.ref p]∧(SqL X.K H p ys∨SqT X.K H p ys)∧Q (.int ys.length) H):=by
  intro pins s σ H xs us Q I r h
  obtain ⟨p,ys,rfl,hq,q⟩:=h
  obtain ⟨u,rfl,rx⟩:=vals1 r
  cases rx
  have hn:=line63
  rcases hq with hq|hq
  · obtain ⟨its,r',pl,hz⟩:=I.list hq
    have hlen:=r'.length
    exact Calls.call_len_list pl.isList (by simp only [List.size_toArray]<;>omega) ⟨.int ys.length,H,I.tok _,⟨s.toks+1,by rw [List.size_toArray,hlen]⟩,q⟩
  · obtain ⟨its,r',pl,hz⟩:=I.tuple hq
    have hlen:=r'.length
    exact len_tuple pl (by simp only [List.size_toArray]<;>omega) ⟨.int ys.length,H,I.tok _,⟨s.toks+1,by rw [List.size_toArray,hlen]⟩,q⟩
theorem zc1:CallR X (.builtin "len") (fun xs H Q=>∃z,xs=[.str z]∧z.length≤sizeLine∧Q (.int z.length) H):=by
  intro pins s σ H xs us Q I r h
  obtain ⟨z,rfl,hz,q⟩:=h
  obtain ⟨u,rfl,t,rfl⟩:=vals1 r
  have hn:=line63
  exact len_str (by omega) ⟨.int z.length,H,I.tok _,⟨_,rfl⟩,q⟩
theorem zdp:CallR X (.type "list") (fun xs H Q=>∃p ys,xs=[.ref p]∧(SqL X.K H p ys∨SqT X.K H p ys)∧∀l,H l=none→Q (.ref l) (upd H l (.lst ys))):=by
  intro pins s σ H xs us Q I r h
  obtain ⟨p,ys,rfl,hq,q⟩:=h
  obtain ⟨u,rfl,rx⟩:=vals1 r
  cases rx
  have fin:∀(its:List Value),Vals ys its→ys.length≤sizeLine→∀(h':Heap) (c':Nat),(∀b o',s.heap.get? b=some o'→h'.get? b=some o') →
      h'.get? s.heap.objs.size=some {cls:=.type "list",dict:=none,data:=.seq its.toArray c',slots:=#[]}→EP X pins σ Q (.ref s.heap.objs.size) {s with heap:=h'}:=fun its r' hz h' c' kp e =>
    ⟨.ref s.heap.objs.size,_,I.laid (t':=s.toks) kp (Nat.le_refl _) (show ObjOk X.prog X.w _ h' _ (.lst ys) from ⟨hz,its,c',r',e⟩),rfl,q _ (I.hok.fresh (Nat.le_refl _))⟩
  rcases hq with hq|hq
  · obtain ⟨its,r',pl,hz⟩:=I.list hq
    have hlen:=r'.length
    obtain ⟨o,ho,hc,n,hd⟩:=pl.isList
    exact call_list_seq p (.inl rfl) ho hc hd (fun h' c' kp e=>fin its r' hz h' c' kp e) (by simp only [List.size_toArray]<;>omega)
  · obtain ⟨its,r',pl,hz⟩:=I.tuple hq
    have hlen:=r'.length
    obtain ⟨o,ho,hc,n,hd⟩:=pl
    exact call_list_seq p (.inr rfl) ho hc hd (fun h' c' kp e=>fin its r' hz h' c' kp e) (by simp only [List.size_toArray]<;>omega)
theorem zck:CallR X (.type "tuple") (fun xs H Q=>∃p ys,xs=[.ref p]∧((SqL X.K H p ys∧∀l,H l=none→Q (.ref l) (upd H l (.tup ys)))∨(SqT X.K H p ys∧Q (.ref p) H))):=by
  intro pins s σ H xs us Q I r h
  obtain ⟨p,ys,rfl,h⟩:=h
  obtain ⟨u,rfl,rx⟩:=vals1 r
  cases rx
  rcases h with ⟨hq,q⟩|⟨hq,q⟩
  · obtain ⟨its,r',pl,hz⟩:=I.list hq
    have hlen:=r'.length
    refine call_tuple_list pl.isList (fun h' kp=>?_) (by simp only [List.size_toArray]<;>omega)
    have I1:Inv X pins σ H {s with heap:=h'}:=I.kept (t':=s.toks) kp
    have I2:Inv X pins σ (upd H h'.objs.size (.tup ys)) {s with heap:=h'.push {cls:=.type "tuple",data:=.seq its.toArray}} :=
      I1.laid (t':=s.toks) (fun b o e=>Heap.get?_push_of_some _ e) (Nat.le_refl _) (show ObjOk X.prog X.w _ _ _ (.tup ys) from ⟨hz,its,r',IsTup.new _ _,fun o q=>by rw [Heap.get?_push_size _ rfl] at q;cases q;rfl⟩)
    exact ⟨.ref h'.objs.size,_,I2,rfl,q _ (I1.hok.fresh (Nat.le_refl _))⟩
  · obtain ⟨its,r',pl,hz⟩:=I.tuple hq
    exact call_tuple_same pl ⟨.ref p,H,I,rfl,q⟩
def tyV (K:PySem.W.Frag) (T:String) (x:V) (H:Hp):Prop:=match x with
  | .str _=>T="str"
  | .int _=>T="int"
  | .ref p=>(T="list"∧∃xs,SqL K H p xs)∨(T="tuple"∧∃o,K.lookup p=some o∧o.cls=.type "tuple"∧o.dict=none) ∨
      (T="dict"∧((∃kvs,H p=some (.dK kvs))∨∃kvs,H p=some (.dT kvs)))∨(T="set"∧∃S n,H p=some (.set S n))
  | _=>False
theorem zo4 {pins:List (Addr×Obj)} {σ:St} {H:Hp} {s:Shared} {T:String} {x:V} {v:Value} (I:Inv X pins σ H s) (r:RelV x v) (ty:tyV X.K T x H) :
    s.TypeIs v T∧∀a,v=.ref a→∃ob,s.heap.get? a=some ob∧ob.dict=none:=by
  cases x with
  | str z =>
    obtain ⟨t,rfl⟩:=r
    cases (show T="str" from ty)
    exact ⟨typeIs_str s z t,fun _ e=>nomatch e⟩
  | int i =>
    obtain ⟨t,rfl⟩:=r
    cases (show T="int" from ty)
    exact ⟨typeIs_int s i t,fun _ e=>nomatch e⟩
  | ref p =>
    cases r
    rcases ty with ⟨rfl,xs,hq⟩|⟨rfl,o,hk,hc,hd⟩|⟨rfl,hk⟩|⟨rfl,S,n,hk⟩
    · obtain ⟨its,_,pl,_⟩:=I.list hq
      refine ⟨pl.isList.typeIs,fun a e=>?_⟩
      cases e
      obtain ⟨o,n,e,c,hd,_⟩:=pl
      exact ⟨o,e,hd⟩
    · refine ⟨⟨o,I.kIn p o hk,hc⟩,fun a e=>?_⟩
      cases e
      exact ⟨o,I.kIn _ o hk,hd⟩
    · have z:∃o,s.heap.get? p=some o∧o.ExactDict:=by
        rcases hk with ⟨kvs,hk⟩|⟨kvs,hk⟩
        · obtain ⟨_,_,_,_,o,_,_,e,ex,_⟩:=I.hok p _ hk
          exact ⟨o,e,ex⟩
        · obtain ⟨_,_,_,_,o,_,_,e,ex,_⟩:=I.hok p _ hk
          exact ⟨o,e,ex⟩
      obtain ⟨o,e,ex⟩:=z
      refine ⟨⟨o,e,ex.1⟩,fun a e2=>?_⟩
      cases e2
      exact ⟨o,e,ex.2.1⟩
    · obtain ⟨o,_,_,_,e,ex,_⟩:=I.hok p _ hk
      refine ⟨⟨o,e,ex.1⟩,fun a e2=>?_⟩
      cases e2
      exact ⟨o,e,ex.2.1⟩
  | _=>exact False.elim ty
def tBM0 (K:PySem.W.Frag) (T:String) (r:V→List V→Hp→VK→Prop) (to:TE):TE:=fun σ H Q=>to σ H fun x H1=>tyV K T x H1∧r x [] H1 Q
def tBM (K:PySem.W.Frag) (T:String) (r:V→List V→Hp→VK→Prop) (to:TE) (t:TA):TE:=fun σ H Q=>to σ H fun x H1=>tyV K T x H1∧t σ H1 fun xs H2=>r x xs H2 Q
variable {o e:Expr} {es:List Expr} {to:TE} {t:TA} {name:Str} {apos cpos:Pos} {T id:String} {r:V→List V→Hp→VK→Prop}
theorem pe_bm0 (pa:PlainAttrs T) (slot:Slot T name id) (hty:typeOf (.builtin id)=pure (.type "method_descriptor")) (hm:MtR X id r) (ho:PE X o to)
    (hbase:attributeBase o name X.env (eval o X.env)=eval o X.env:=by rfl) (hline:(apos.endLine==cpos.line)=true:=by rfl):PE X (.Call (.Attribute o name apos) [] [] cpos) (tBM0 X.K T r to):=by
  intro pins s σ H Q I h
  refine wpAny_Call_method0_late hbase hline (thn (ho pins s σ H _ I h) fun v s1 ⟨x,H1,I1,r1,ty,q1⟩=>?_)
  obtain ⟨h1,h2⟩:=zo4 I1 r1 ty
  exact ⟨T,id,pa,slot,hty,h1,h2,Calls.callWith_builtin rfl (PySem.evalArgs_none (hm pins s1 σ H1 x [] v [] Q I1 r1 .nil q1))⟩
theorem pe_bm (pa:PlainAttrs T) (slot:Slot T name id) (hty:typeOf (.builtin id)=pure (.type "method_descriptor")) (hm:MtR X id r) (ho:PE X o to) (ha:PA X (e::es) t)
    (hbase:attributeBase o name X.env (eval o X.env)=eval o X.env:=by rfl)
    (hfew:((backTo cpos (starEach (e::es) X.env)).all (fun x=>!x.1)&&(backToKw cpos (keywordEach [] X.env)).all (fun x=>x.1.isSome)
      && decide ((e::es).length+([]:List Keyword).length+(if ([]:List Keyword).isEmpty then 0 else 1)<30))=true:=by rfl)
    (hline:(apos.endLine==cpos.line)=true:=by rfl) (hs:starEach (e::es) X.env=(false,eval e X.env)::starEach es X.env:=by rfl) (hplain:(backTo cpos (starEach es X.env)).any (·.1)=false:=by rfl) :
    PE X (.Call (.Attribute o name apos) (e::es) [] cpos) (tBM X.K T r to t):=by
  intro pins s σ H Q I h
  refine wpAny_Call_method_late hbase hfew hline rfl (thn (ho pins s σ H _ I h) fun v s1 ⟨x,H1,I1,r1,ty,q1⟩=>?_)
  obtain ⟨h1,h2⟩:=zo4 I1 r1 ty
  refine ⟨T,id,pa,slot,hty,h1,h2,?_⟩
  have hA:=ha cpos pins s1 σ H1 _ I1 q1
  rw [hs] at hA ⊢
  refine Calls.callWith_builtin (by show (false||(backTo cpos (starEach es X.env)).any (·.1))=false;rw [hplain]<;>rfl) (Calls.evalArgs_plain ?_)
  exact thn hA fun us s2 z_16=>by obtain ⟨vs,H2,I2,r2,q2⟩:=z_16;exact hm pins s2 σ H2 x vs v us Q I2 r1 r2 q2
/- xs.append(e),list.index on a module's tuple .. are MtR facts of 06m -/
end
end L2
namespace L2
open PySem PySem.Spec PyProof.Rows
def MtM (X:Cx) (id:String) (r:V→List V→Hp→VK→Prop):Prop :=
  ∀(pins:List (Addr×Obj)) (s:Shared) (σ:St) (H:Hp) (x:V) (xs:List V) (v:Value) (us:List Value) (Q:VK),Inv X pins σ H s→RelV x v→Vals xs us→r x xs H Q →
    wpAny (model X.prog X.w) X.A (call (.builtin id) (v::us)) (EP X pins σ Q) X.xe s
theorem Vals.one:∀{x:V} {us:List Value},Vals [x] us→∃u,us=[u]∧RelV x u
  | _,_,.cons r .nil=>⟨_,rfl,r⟩
section
variable {X:Cx} {pins:List (Addr×Obj)} {σ:St} {H:Hp} {s:Shared} {l b:Addr} {xs ys zs:List V}
theorem Inv.lset {its its':List Value} {n:Nat} {f:Array Value→Array Value} {t':Nat} (I:Inv X pins σ H s) (hH:H l=some (.lst xs))
    (e:s.heap.get? l=some {cls:=.type "list",data:=.seq its.toArray n}) (hf:f its.toArray=its'.toArray) (hv:Vals ys its') (hz:ys.length≤sizeLine) :
    Inv X pins σ (upd H l (.lst ys)) {s with heap:=s.heap.update l (Obj.mapSeq f),toks:=t'}:=by
  have q:=PySem.IsL.update e f
  rw [hf] at q
  refine I.write (x:=l) (e:=l) (by rw [hH];exact trivial) (.inl rfl) (fun b' u hb hu=>(Heap.get?_update_other s.heap (Obj.mapSeq f) (Ne.symm hb)).trans hu) ⟨_,q⟩ ?_
  exact ⟨hz,its',_,hv,q⟩
theorem Inv.lnew {its:List Value} {t':Nat} (I:Inv X pins σ H s) (hv:Vals ys its) (hz:ys.length≤sizeLine) :
    Inv X pins σ (upd H s.heap.objs.size (.lst ys)) {s with heap:=s.heap.push {cls:=.type "list",data:=.seq its.toArray},toks:=t'} :=
  I.laid (fun _ _ q=>Heap.get?_push_of_some _ q) (Nat.le_refl _) ⟨hz,its,0,hv,Heap.get?_push_size _ rfl⟩
theorem Inv.fresh (I:Inv X pins σ H s):H s.heap.objs.size=none:=I.hok.fresh (Nat.le_refl _)
theorem Inv.lstM (I:Inv X pins σ H s) (hH:H l=some (.lst xs)):xs.length≤sizeLine∧∃(its:List Value) (n:Nat),Vals xs its∧xs.length=its.length∧s.heap.get? l=some {cls:=.type "list",data:=.seq its.toArray n}:=by
  obtain ⟨z,its,n,r,e⟩:=I.hok l _ hH
  exact ⟨z,its,n,r,r.length,e⟩
end
section
variable {X:Cx}
def rAppend:V→List V→Hp→VK→Prop:=fun x vs H Q=>∃l xs y,x=.ref l∧vs=[y]∧H l=some (.lst xs)∧xs.length<sizeLine∧Q .non (upd H l (.lst (xs++[y])))
theorem zfz:MtM X "list.append" rAppend:=by
  intro pins s σ H x vs v us Q I rx rv h
  obtain ⟨l,xs,y,rfl,rfl,hH,hz,q⟩:=h
  cases rx
  obtain ⟨u,rfl,ru⟩:=rv.one
  obtain ⟨z,its,n,r,hl,e⟩:=I.lstM hH
  refine call_meets F.slot_list_append ⟨_,e,rfl⟩ F.entry_list_append (F.args_list_append_2 _ _) (PySem.list_append l its.toArray n u (by rw [List.size_toArray];omega)) ⟨e,?_⟩
  refine ⟨.non,_,I.lset (its':=its++[u]) hH e (by simp) (r.append (.cons ru .nil)) ?_,rfl,q⟩
  rw [List.length_append,List.length_singleton]
  omega
def rCat:R2:=fun x y H Q=>∃l b xs zs,x=.ref l∧y=.ref b∧H l=some (.lst xs)∧H b=some (.lst zs)∧xs.length+zs.length≤sizeLine∧∀p,H p=none→Q (.ref p) (upd H p (.lst (xs++zs)))
theorem zik:OpR X (binaryOp .Add) rCat:=by
  intro pins s σ H x y v u Q I rx ry h
  obtain ⟨l,b,xs,zs,rfl,rfl,hH,hB,hz,q⟩:=h
  cases rx
  cases ry
  obtain ⟨z,its,n,r,hl,e⟩:=I.lstM hH
  obtain ⟨z2,its2,n2,r2,hl2,e2⟩:=I.lstM hB
  refine PySem.P.add_list e e2 ?_ (by rw [List.size_toArray,List.size_toArray];omega)
  have ea:its.toArray++its2.toArray=(its++its2).toArray:=by simp
  rw [ea]
  exact ⟨.ref _,_,I.lnew (t':=s.toks) (r.append r2) (by rw [List.length_append];omega),rfl,q _ I.fresh⟩
end
end L2
namespace Att
open PySem PySem.W PySem.Calls PyProof.Rows
theorem zf5 {P:Params} {h:Heap}:∀(ns:List Int) (vs:List Value),WellAll P h vs (ns.map WData.int)→IntsAre vs ns:=by
  intro ns
  induction ns with
  | nil =>
    intro vs w
    rw [List.map_nil] at w
    cases w
    exact .nil
  | cons n ns ih =>
    intro vs w
    rw [List.map_cons] at w
    cases w with
    | cons a b =>
      cases a
      exact .cons _ _ (ih _ b)
theorem zlv {l:OpenLaw} {n:Nat} (hn:l.most=some n) {P:Params} {h:Heap} {args:List WData} {vals:List Value}
    (hpre:l.row.toRowW.claim.pre args=true) (hwl:WellAll P h vals args) :
    ∃a vs ns,vals=[Value.ref a]∧args=[WData.list (ns.map WData.int)]∧h.get? a=some {cls:=.type "list",data:=.seq vs.toArray}∧IntsAre vs ns∧ns.length≤n:=by
  have hsh:WShape.hasAll [] args [.list .int]=true:=(pre_splitW hpre).1
  have hc:l.pre.holds [] {args:=args}=true:=(pre_splitW hpre).2
  obtain ⟨d,r,rfl,h1,h2⟩:=hasAllW_cons hsh
  obtain rfl:=hasAllW_nil h2
  obtain ⟨xs,rfl,h3⟩:=hasW_list h1
  obtain ⟨ns,rfl⟩:=items_int h3
  have hlen:ns.length≤n:=by
    unfold OpenLaw.pre at hc
    have h4:(WTm.not (.lt (.lit (.int (n:Int))) (.len (.arg 0)))).holds [] {args:=[.list (ns.map .int)]}=true:=by
      have h4:=(holds_andW hc).1
      rw [hn] at h4
      exact h4
    have h5:=condW_of h4 (w_not (w_lt w_lit (w_len_list (w_arg rfl))))
    rw [List.length_map] at h5
    refine Nat.le_of_not_lt fun q=>?_
    have q':(n:Int)<((ns.length:Nat):Int):=by omega
    first
      | (rw [decide_eq_true q'] at h5;exact absurd h5 (by decide))
      | (simp at h5;omega)
  cases hwl with
  | cons w1 w2 =>
    cases w2
    cases w1 with
    | list ho hall=>exact ⟨_,_,ns,rfl,rfl,ho,zf5 ns _ hall,hlen⟩
theorem zl6 (l:OpenLaw) (args:List WData):l.row.toRowW.claim.post args (.bool true) args=true :=
  postW_of (r:=l.row.toRowW) (X:=(true==true))
    (show WShape.has [] (.bool true) .bool=true by first|rfl|decide|simp [WShape.has,WShape.arms,WShape.armsAll])
    (show (WTm.eq .res (.lit (.bool true))).value [] {args:=args,res:=some (.bool true),after:=args}=some (.bool (true==true)) from w_eq_bool (w_res rfl) w_lit) rfl
theorem zjr {l:OpenLaw} {n:Nat} {q:Program} {loose:List Str} {XP:(Str→Option Value)→Heap→Prop} {YP:World→Heap→Prop} {d:DefRec}
    (hn:l.most=some n) (hdf:d.params.defaults=[])
    (call:∀(w:World) (s₀ s₁:Shared) (mg mb:Str→Option Value) (fa:Addr) (o:Obj) (pm cd doc:Value) (a:Addr) (vs:List Value) (ns:List Int),
      Ground q loose [] XP w s₀ mg mb s₁.heap→YP w s₁.heap →
      s₁.heap.get? fa=some o→o.data=.func (docDef d.name d.params d.body d.scope pm cd doc)→s₁.heap.CodeRec cd d.name→mg d.name=some (.ref fa) →
      s₁.heap.get? a=some {cls:=.type "list",data:=.seq vs.toArray}→IntsAre vs ns→ns.length≤n→s₁.gens=#[] →
      codeAny (model l.prog w) callerA (.call (.ref fa) ⟨[.ref a],[]⟩) (fun r s'=>r=.ok (.ret (.bool true))∧OldK s₁.heap s'.heap∧s'.os=s₁.os∧AllBare s'.gens) s₁) :
    WalkO q loose XP YP l.row.toRowW d [] (fun f vs=>PySem.call f vs):=by
  intro w s₀ s₁ mg mb G Y fa o pm cd doc dV kV ho hd hcd hD hmg hg args vals as hpre hlay hrd hwl hlo
  obtain rfl:dV=.none:=Dflts.none hD hdf
  obtain rfl:kV=.none:=Dflts.noKw hD
  obtain ⟨a,vs,ns,rfl,rfl,hobj,hints,hlen⟩:=zlv hn hpre hwl
  refine enter_call (codeAny_mono (call w s₀ s₁ mg mb fa o pm cd doc a vs ns G Y ho (fd_plain hd) hcd hmg hobj hints hlen hg) fun r s' hq=>?_)
  obtain ⟨rfl,h2,h3,h4⟩:=hq
  exact ⟨.inl ⟨.bool true,.bool true,[],rfl,fun _=>rfl,.bool true,zl6 l _,fun _=>⟨List.Pairwise.nil,fun _ hm=>(nomatch hm)⟩⟩,h2,h3,h4⟩
end Att
namespace L2
open PySem PySem.Spec PyProof.Rows
theorem zec:∀{vs:List Value} {ns:List Int},IntsAre vs ns→Vals (ns.map V.int) vs
  | _,_,.nil=>.nil
  | _,_,.cons n t h=>.cons ⟨t,rfl⟩ (zec h)
def Only (H:Hp):Prop:=∀b,H b=none∨∃o xs,H b=some (.frz o (.lst xs))
theorem zom {P:Program} {w:World} {K:PySem.W.Frag} {mg mb:Str→Option Value} {CX:CXT} {k:Nat} {fa a:Addr} {fd:FuncData} {x:Str} {sp:Sp} {s₁:Shared} {vs:List Value} {ns:List Int}
    (KX:K.In s₁.heap) (hns:s₁.heap.Ns mainGlobals mg) (hb:s₁.heap.Ns builtinsNs mb) (hbb:∀x:Str,x≠"__name__"→mb x=bootBuiltins x) (hlim:s₁.heap.NoLimit) (hg:s₁.gens=#[])
    (ha:s₁.heap.get? a=some {cls:=.type "list",data:=.seq vs.toArray}) (hi:IntsAre vs ns) (hl:ns.length≤sizeLine) (hr:Room k callerA)
    (F:∀base:Heap,K.In base→base.Ns mainGlobals mg→FnOk P w K mg base CX k fa fd [x] sp) (hbind:∀(s:Shared) (u:Value),BindsTo s fd ⟨[u],[]⟩ [(x,u)])
    (hsp:∀H:Hp,Only H→SqL K H a (ns.map V.int)→sp [.ref a] H (fun v _=>v=.bl true) fun _ _ _=>False)
    (hCX:∀H e s',CX [] H s₁ (fun _ _ _=>False) e s'→False) :
    codeAny (model P w) callerA (.call (.ref fa) ⟨[.ref a],[]⟩) (fun r s'=>r=.ok (.ret (.bool true))∧OldK s₁.heap s'.heap∧s'.os=s₁.os∧AllBare s'.gens) s₁:=by
  have rv:=zec hi
  have lenV:=hi.length
  have core:∀H:Hp,Only H→SqL K H a (ns.map V.int)→HOk P w H s₁.heap→(∀b,H b≠none→b=a)→(H a≠none→K.lookup a=none) →
      codeAny (model P w) callerA (.call (.ref fa) ⟨[.ref a],[]⟩) (fun r s'=>r=.ok (.ret (.bool true))∧OldK s₁.heap s'.heap∧s'.os=s₁.os∧AllBare s'.gens) s₁:=by
    intro H hO hS hok hA hK
    have base_of:∀{b:Addr} {o:Obj},s₁.heap.get? b=some o→H b=none→(hidT s₁.heap H).get? b=some o:=fun e n=>zoq e n
    have noA:∀{b:Addr} {o:Obj} {es:Array DictEntry} {ep:Nat},s₁.heap.get? b=some o→o.data=.dict es ep→H b=none:=fun {b o es ep} e d=>by
      cases q:H b with
      | none=>rfl
      | some u =>
        have e':b=a:=hA b (by rw [q];simp)
        subst e'
        rw [ha] at e;cases e
        have d':Data.seq vs.toArray _=Data.dict es ep:=d
        cases d'
    have nsK:∀{b:Addr} {m:Str→Option Value},s₁.heap.Ns b m→(hidT s₁.heap H).Ns b m:=fun {b m} z_19=>by obtain ⟨o,es,ep,e,d,r⟩:=z_19;exact ⟨o,es,ep,base_of e (noA e d),d,r⟩
    have hKb:K.In (hidT s₁.heap H):=fun b o e=>base_of (KX b o e) (by
      cases q:H b with
      | none=>rfl
      | some u =>
        have e':b=a:=hA b (by rw [q];simp)
        subst e'
        rw [hK (by rw [q];simp)] at e;cases e)
    have hM:Mod K mg (hidT s₁.heap H):=⟨hKb,nsK hns,⟨mb,nsK hb,hbb⟩,let ⟨mc,h1,h2⟩:=hlim;⟨mc,nsK h1,h2⟩⟩
    have e0:Env0 P w K mg (hidT s₁.heap H) callerA [] s₁ H:=⟨rfl,hM,fun b o e=>zqe e,Nat.le_of_eq (zmz _ _),trivial,fun b hb=>absurd (show b∈([]:List Addr) from hb) (by simp),hok,.of_eq hg⟩
    refine codeAny_mono ((F _ hKb (nsK hns)).run callerA [] s₁ H ⟨[.ref a],[]⟩ [.ref a] [.ref a] _ _ hr e0 (hbind s₁ (.ref a)) (.cons rfl .nil) (hsp H hO hS)) fun r s' h=>?_
    cases r with
    | error e=>exact (hCX H e s' h).elim
    | ok fl =>
      cases fl with
      | next=>exact False.elim h
      | brk=>exact False.elim h
      | cont=>exact False.elim h
      | ret u =>
        obtain ⟨v,H',os,bare,un,hok',r',q⟩:=h
        have q':v=.bl true:=q
        subst q'
        obtain rfl:u=Value.bool true:=r'
        refine ⟨rfl,OldK.of_keep fun b o e=>?_,os,bare⟩
        cases q:H b with
        | none=>exact un.keep b o e q (by intro z;exact absurd (show b∈([]:List Addr) from z) (by simp)) (by simp)
        | some u =>
          rcases hO b with z|⟨ob,xs,z⟩
          · rw [q] at z;cases z
          · have z2:=un.frzs b ob _ z
            obtain ⟨e1,_⟩:=hok b _ z
            obtain ⟨e2,_⟩:=hok' b _ z2
            rw [e] at e1;cases e1
            exact e2
  cases hk:K.lookup a with
  | some o =>
    have e:=KX a o hk
    rw [ha] at e
    cases e
    refine core (fun _=>none) (fun _=>.inl rfl) (.inr ⟨_,vs.toArray,_,hk,rfl,rfl,rfl,by rw [List.size_toArray,lenV];exact hl,by simpa using rv⟩) (fun b u z=>by have z':(none:Option HO)=some u:=z;cases z') (fun b z=>absurd rfl z) fun z=>absurd rfl z
  | none =>
    refine core (fun b=>if b=a then some (.frz {cls:=.type "list",data:=.seq vs.toArray} (.lst (ns.map V.int))) else none) (fun b=>?_) (.inl (.inr ⟨{cls:=.type "list",data:=.seq vs.toArray},if_pos rfl⟩)) (fun b u z=>?_) (fun b z=>?_) fun _=>hk
    · by_cases hb:b=a
      · exact .inr ⟨_,_,if_pos hb⟩
      · exact .inl (if_neg hb)
    · by_cases hb:b=a
      · have z':=(if_pos hb).symm.trans z
        cases z'
        subst hb
        exact ⟨ha,by rw [List.length_map];exact hl,vs,_,rv,ha⟩
      · have z':=(if_neg hb).symm.trans z
        cases z'
    · by_cases hb:b=a
      · exact hb
      · exact absurd (if_neg hb) z
end L2
namespace L2
open PySem PySem.Spec PyProof.Rows
theorem zlk {l:PySem.W.OpenLaw} {n k:Nat} {q:Program} {loose:List Str} {XP:(Str→Option Value)→Heap→Prop} {YP:World→Heap→Prop} {d:DefRec} {K:Params→PySem.W.Frag} {CX:World→CXT} {sp:World→Sp} {x:Str}
    (hn:l.most=some n) (hn2:n≤sizeLine) (hdf:d.params.defaults=[]) (hr:Room k callerA)
    (hY:∀(w:World) (h:Heap),YP w h→(K w.params).In h)
    (F:∀(w:World) (mg:Str→Option Value) (fa:Addr) (h:Heap),(K w.params).In h→h.Ns mainGlobals mg→mg d.name=some (.ref fa) →
      ∃fd:FuncData,(∀(s:Shared) (u:Value),BindsTo s fd ⟨[u],[]⟩ [(x,u)]) ∧
        ∀base:Heap,(K w.params).In base→base.Ns mainGlobals mg→FnOk l.prog w (K w.params) mg base (CX w) k fa fd [x] (sp w))
    (hsp:∀(w:World) (H:Hp) (a:Addr) (ns:List Int),ns.length≤n→Only H→SqL (K w.params) H a (ns.map V.int)→sp w [.ref a] H (fun v _=>v=.bl true) fun _ _ _=>False)
    (hCX:∀(w:World) (H:Hp) (s:Shared) (e:Value) (s':Shared),CX w [] H s (fun _ _ _=>False) e s'→False) :
    PySem.W.WalkO q loose XP YP l.row.toRowW d [] (fun f vs=>PySem.call f vs):=by
  refine Att.zjr hn hdf fun w s₀ s₁ mg mb fa o pm cd doc a vs ns G Y ho hd hcd hmg hobj hints hlen hg=>?_
  have KX:=hY w _ Y
  obtain ⟨fd,hb,hF⟩:=F w mg fa _ KX G.T.g hmg
  exact zom KX G.T.g G.T.b G.T.builtins G.T.nolimit hg hobj hints (Nat.le_trans hlen hn2) hr hF hb (fun H hO hS=>hsp w H a ns hlen hO hS) fun H e s'=>hCX w H s₁ e s'
end L2
/- THE LAST THEOREM (shape;LID,My.* are yours):
   My.Adr: a structure of the addresses that your layer names (classes,functions);My.Txt K t: a structure (Prop) of the equations over K;
   My.txt_mk:{K} {implicit addresses ..} (e1:nsIn K mainGlobals "law"=some (some (.ref f))) (e2:K.lookup f=some ⟨oc,od,.func (fnOf "law" "law" params body scope dV kV doc pm an cdv ct),sl⟩) (e3:codeIn K cdv "law"=true) ..:∃t,My.Txt K t
set_option maxRecDepth 100000 in
set_option maxHeartbeats 0 in
theorem PySem.Challenge.cw_LID_holds:PySem.Challenge.rw_LID.Holds:=by
  w_on;o_law;k_head;(case hw=>w_witness2)
  k_fill
  refine L2.zlk (l:=PySem.Challenge.rw_LID) (n:=63) (k:=40) (x:="script") (CX:=fun w=>..) (sp:=fun _=>My.sp_law) rfl (by decide) rfl ⟨rfl,by decide,by decide⟩ (fun w h Y=>PySem.W.kIn_of Y) ?F ?S ?C
  case F =>
    intro w mg fa h KX G hmg
    have T:∃t,My.Txt (L2.KOf KX) t:=by
      dsimp only [L2.KOf]                          -- K must stand as «<heap const> w.params» for k_is
      refine' My.txt_mk ?e1 ?e2 ?e3 ..
      (case e1=>PySem.W.k_is)                    -- in the order: a name -> its address -> its object -> its parts
      (case e2=>PySem.W.k_is)
      ..
    obtain ⟨t,T⟩:=T
    have e0:=hmg.symm.trans (PySem.W.mg_of KX G T.law)
    cases e0                                       -- fa is the law's own address
    exact ⟨_,fun s u=>.of_eq rfl,fun base kb nb=>My.zmr T kb nb⟩     -- if «.of_eq rfl» comes too early: refine' ⟨_,?b,fun base kb nb=>My.zmr T kb nb⟩;exact fun s u=>.of_eq rfl
  case S=>exact fun w H a ns hl hO hS=>..
  case C=>exact ..
(the tactic k_is has no namespace: write k_is) -/
namespace L2
open PySem PySem.Spec PyProof.Rows
noncomputable def inClass (s:Stmt) (j:Nat):Stmt:=match s with
  | .ClassDef _ _ _ body _ _ _ _ _ _ _=>body.getD j (.Pass ⟨0,0,0,0⟩)
  | _=>.Pass ⟨0,0,0,0⟩
noncomputable def defArgs (s:Stmt):Arguments:=match s with
  | .FunctionDef _ a _ _ _ _ _ _ _ _=>a
  | _=>{posonlyargs:=[],args:=[],vararg:=none,kwonlyargs:=[],kw_defaults:=[],kwarg:=none,defaults:=[]}
noncomputable def defBody (s:Stmt):List Stmt:=match s with
  | .FunctionDef _ _ b _ _ _ _ _ _ _=>b
  | _=>[]
noncomputable def defScope (s:Stmt):Scope:=match s with
  | .FunctionDef _ _ _ _ _ _ sc _ _ _=>sc
  | _=>{kind:=.function,names:=[],isGenerator:=false,isCoroutine:=false}
abbrev E0:XK:=fun _ _ _=>False
structure Fun (K:PySem.W.Frag) (x qual:Str) (st:Stmt) (f:Addr) (fd:FuncData):Prop where
  ex:∃(oc:Value) (od:Option Addr) (kV doc pm:Value) (an:Option Addr) (cdv ct:Value) (osl:Array (Option Value)),
    fd=PySem.W.fnOf x qual (defArgs st) (defBody st) (defScope st) .none kV doc pm an cdv ct∧K.lookup f=some ⟨oc,od,.func fd,osl⟩∧PySem.W.codeIn K cdv qual=true
  kp:PySem.W.keepIn K (.ref f)=true
section
variable {P:Program} {w:World} {K:PySem.W.Frag} {mg:Str→Option Value} {base:Heap}
theorem Fun.binds {x qual:Str} {st:Stmt} {f:Addr} {fd:FuncData} {ps:List Str} (F:Fun K x qual st f fd)
    (h:∀(kV doc pm:Value) (an:Option Addr) (cdv ct:Value) (us:List Value),us.length=ps.length→bindArgs (PySem.W.fnOf x qual (defArgs st) (defBody st) (defScope st) .none kV doc pm an cdv ct) ⟨us,[]⟩=pure (ps.zip us)):Binds K fd ps []:=by
  obtain ⟨oc,od,kV,doc,pm,an,cdv,ct,osl,rfl,lk,hcd⟩:=F.ex
  exact .all (h kV doc pm an cdv ct)
theorem zm2 {x qual:Str} {st:Stmt} {f:Addr} {oc:Value} {od an:Option Addr} {osl:Array (Option Value)} {kV doc pm cdv ct:Value} (l:K.lookup f=some ⟨oc,od,.func (PySem.W.fnOf x qual (defArgs st) (defBody st) (defScope st) .none kV doc pm an cdv ct),osl⟩)
    (c:PySem.W.codeIn K cdv qual=true) (k:PySem.W.keepIn K (.ref f)=true):Fun K x qual st f (PySem.W.fnOf x qual (defArgs st) (defBody st) (defScope st) .none kV doc pm an cdv ct):=⟨⟨oc,od,kV,doc,pm,an,cdv,ct,osl,rfl,l,c⟩,k⟩
end
theorem hu_of {A:Around} {k:Nat} (hr:Room k A):A.units+1<cLine:=Nat.lt_of_le_of_lt (Nat.add_le_add_left (by decide:1≤64) _) hr.units
theorem iteF {A B:Prop} (h:B):if false=true then A else B:=by
  rw [if_neg Bool.false_ne_true]
  exact h
theorem iteT {A B:Prop} (h:A):if true=true then A else B:=by
  rw [if_pos rfl]
  exact h
theorem iteNS {c A B:Prop} [Decidable c] (hc:c) (h:B):if (!decide c)=true then A else B:=by
  rw [decide_eq_true hc]
  exact iteF h
end L2
namespace L2
open PySem PySem.Spec PyProof.Rows
section
variable {κ:Type} [DecidableEq κ]
noncomputable def valV (kvs:List (κ×V)) (k:κ):Option V:=(kvs.find? fun kv=>decide (kv.1=k)).map (·.2)
noncomputable def putK (kvs:List (κ×V)) (k:κ) (v:V):List (κ×V) :=
  if (kvs.any fun kv=>decide (kv.1=k))=true then kvs.map (fun kv=>if kv.1=k then (kv.1,v) else kv) else kvs++[(k,v)]
theorem zfj {p:κ×V} {r:List (κ×V)} {k:κ} (e:p.1=k):valV (p::r) k=some p.2:=by simp [valV,List.find?_cons,e]
theorem zfk {p:κ×V} {r:List (κ×V)} {k:κ} (e:¬p.1=k):valV (p::r) k=valV r k:=by simp [valV,List.find?_cons,e]
theorem zj3 (k:κ):∀kvs:List (κ×V),(kvs.any fun kv=>decide (kv.1=k))=(valV kvs k).isSome
  | []=>rfl
  | p::r=>by
    rw [List.any_cons]
    by_cases e:p.1=k
    · simp only [zfj e,decide_eq_true e,Bool.true_or,Option.isSome_some]
    · rw [zfk e,decide_eq_false e,Bool.false_or];exact zj3 k r
theorem zjm (kvs:List (κ×V)) (k:κ) (v:V):(putK kvs k v).length≤kvs.length+1:=by
  unfold putK
  split
  · rw [List.length_map];omega
  · rw [List.length_append,List.length_cons,List.length_nil];omega
theorem znt {kvs:List (κ×V)} {k:κ} (v:V) (h:valV kvs k=none):putK kvs k v=kvs++[(k,v)]:=by
  unfold putK
  rw [zj3,h]
  exact if_neg (by decide)
theorem KV.val {kvs:List (κ×V)} {vs:List (κ×Value)} (r:KV kvs vs) (k:κ):RelO (valV kvs k) (valueAt vs k):=by
  unfold KV at r
  induction r with
  | nil=>exact True.intro
  | @cons p q ps qs h t ih =>
    obtain ⟨h1,h2⟩:=h
    by_cases e:p.1=k
    · have e':q.1=k:=h1.symm.trans e
      have b:valueAt (q::qs) k=some q.2:=by simp [valueAt,List.find?_cons,e']
      rw [zfj e,b];exact h2
    · have e':¬q.1=k:=fun z=>e (h1.trans z)
      have b:valueAt (q::qs) k=valueAt qs k:=by simp [valueAt,List.find?_cons,e']
      rw [zfk e,b];exact ih
theorem KV.any {kvs:List (κ×V)} {vs:List (κ×Value)} (r:KV kvs vs) (k:κ):(kvs.any fun kv=>decide (kv.1=k))=vs.any fun kv=>decide (kv.1=k):=by
  unfold KV at r
  induction r with
  | nil=>rfl
  | cons h t ih=>rw [List.any_cons,List.any_cons,ih,h.1]
theorem KV.repl {kvs:List (κ×V)} {vs:List (κ×Value)} (r:KV kvs vs) (k:κ) {y:V} {u:Value} (ry:RelV y u) :
    KV (kvs.map fun kv=>if kv.1=k then (kv.1,y) else kv) (vs.map fun kv=>if kv.1=k then (kv.1,u) else kv):=by
  unfold KV at r ⊢
  induction r with
  | nil=>exact .nil
  | @cons p q ps qs h t ih =>
    rw [List.map_cons,List.map_cons]
    refine .cons ?_ ih
    obtain ⟨h1,h2⟩:=h
    by_cases e:p.1=k
    · rw [if_pos e,if_pos (h1.symm.trans e)];exact ⟨h1,ry⟩
    · rw [if_neg e,if_neg (fun z=>e (h1.trans z))];exact ⟨h1,h2⟩
theorem KV.put {kvs:List (κ×V)} {vs:List (κ×Value)} (r:KV kvs vs) (k:κ) {y:V} {u:Value} (ry:RelV y u):KV (putK kvs k y) (stored vs k u):=by
  unfold putK stored
  rw [r.any k]
  by_cases e:(vs.any fun kv=>decide (kv.1=k))=true
  · rw [if_pos e,if_pos e];exact r.repl k ry
  · rw [if_neg e,if_neg e];exact Paired.snoc r ⟨rfl,ry⟩
end
theorem zqf {P:Program} {w:World} {k:Key} {u:Value} (r:RelV (kV k) u):(mixKind P w).is k u=true:=by
  cases k with
  | inl i=>obtain ⟨t,e⟩:=(show ∃t,u=Value.int i t from r);subst e;exact zjk P w i t
  | inr x=>obtain ⟨t,e⟩:=(show ∃t,u=Value.str x t from r);subst e;exact zjj P w x t
theorem items_are {P:Program} {w:World}:∀{ks:List Key} {us:List Value},Vals (ks.map kV) us→ItemsAre (mixKind P w) ks us
  | [],_,r=>by rw [List.map_nil] at r;cases r;exact .nil
  | k::ks,_,r=>by
    rw [List.map_cons] at r
    cases r with
    | cons h t=>exact .cons (zqf h) (items_are t)
abbrev KT (H:Hp):List (List Key×V)→List (List Key×Addr×Value)→Prop:=Paired fun p q=>p.1=q.1∧H q.2.1=some (.tup (p.1.map kV))∧RelV p.2 q.2.2
theorem KT.val {H:Hp} {kvs:List (List Key×V)} {xs:List (List Key×Addr×Value)} (r:KT H kvs xs) (k:List Key):RelO (valV kvs k) ((atKey xs k).map (·.2)):=by
  induction r with
  | nil=>exact True.intro
  | @cons p q ps qs h t ih =>
    obtain ⟨h1,_,h2⟩:=h
    by_cases e:p.1=k
    · have e':q.1=k:=h1.symm.trans e
      have b:atKey (q::qs) k=some q.2:=by simp [atKey,List.find?_cons,e']
      rw [zfj e,b];exact h2
    · have e':¬q.1=k:=fun z=>e (h1.trans z)
      have b:atKey (q::qs) k=atKey qs k:=by simp [atKey,List.find?_cons,e']
      rw [zfk e,b];exact ih
section
variable {P:Program} {w:World} {H:Hp} {h:Heap} {a:Addr}
theorem zib {u:HO} (ok:HOk P w H h) (e:Rd H a u):ObjOk P w H h a u:=e.ok ok
theorem zqt {kvs:List (Key×V)} (ok:HOk P w H h) (e:Rd H a (.dK kvs)):kvs.length≤sizeLine∧(a==sysModules)=false∧∃vs,KV kvs vs∧h.DictOf (mixKind P w) a vs :=
  show ObjOk P w H h a (.dK kvs) from zib ok e
theorem dk_of {kvs:List (Key×V)} (ok:HOk P w H h) (e:H a=some (.dK kvs)):kvs.length≤sizeLine∧(a==sysModules)=false∧∃vs,KV kvs vs∧h.DictOf (mixKind P w) a vs:=zqt ok (.inl e)
theorem zpb {ks:List Key} (ok:HOk P w H h) (e:H a=some (.tup (ks.map kV))):(tupleKind (mixKind P w)).is h ks a:=by
  obtain ⟨_,its,r,⟨o,h1,h2,n,h3⟩,_⟩:=(show ObjOk P w H h a (.tup (ks.map kV)) from ok a _ e)
  exact ⟨o,its.toArray,n,h1,h2,h3,by simpa using items_are r⟩
theorem dt_rd {kvs:List (List Key×V)} (ok:HOk P w H h) (e:Rd H a (.dT kvs)):kvs.length≤sizeLine∧(a==sysModules)=false ∧
    ∃xs,KT H kvs xs∧h.DictOfH (tupleKind (mixKind P w)) a xs:=by
  obtain ⟨z,y,xs,r,o,es,ep,h1,h2,h3,h4,h5⟩:=(show ObjOk P w H h a (.dT kvs) from zib ok e)
  refine ⟨z,y,xs,r,o,es,ep,h1,h2,h3,h4,fun x hx=>?_,h5⟩
  have all:∀{l:List (List Key×V)} {m:List (List Key×Addr×Value)},KT H l m→∀x∈m,(tupleKind (mixKind P w)).is h x.1 x.2.1:=by
    intro l m q
    induction q with
    | nil=>intro x hx;exact nomatch hx
    | @cons p q ps qs hq t ih =>
      intro x hx
      rcases List.mem_cons.mp hx with e|hx
      · subst e
        exact zpb ok (by rw [←hq.1];exact hq.2.1)
      · exact ih x hx
  exact all r x hx
end
def DGet (H:Hp) (a:Addr) (y:V) (r:Option V):Prop :=
  (∃kvs k,Rd H a (.dK kvs)∧y=kV k∧r=valV kvs k)∨∃kvs k b,Rd H a (.dT kvs)∧y=.ref b∧H b=some (.tup (k.map kV))∧r=valV kvs k
theorem DGet.k {H:Hp} {a:Addr} {kvs:List (Key×V)} {k:Key} (e:H a=some (.dK kvs)):DGet H a (kV k) (valV kvs k):=.inl ⟨kvs,k,.inl e,rfl,rfl⟩
section
variable {X:Cx} {pins:List (Addr×Obj)} {σ:St} {H:Hp} {s:Shared} {a:Addr} {y v:V} {u r:Value} {o:Option V} {A:Around} {E:Value→Shared→Prop}
theorem Inv.big (I:Inv X pins σ H s):sysModules<s.heap.objs.size:=by
  have h:mainGlobals<s.heap.objs.size:=(I.mod.glob.keeps I.bk).lt
  exact Nat.lt_trans (by decide) h
theorem znc {Q:Value→Shared→Prop} (hu:A.units+1<cLine) (I:Inv X pins σ H s) (g:DGet H a y (some v)) (ry:RelV y u) (h:∀w' s',Inv X pins σ H s'→RelV v w'→Q w' s') :
    wpAny (model X.prog X.w) A (getItem (.ref a) u) Q E s:=by
  rcases g with ⟨kvs,k,e,ey,l⟩|⟨kvs,k,b,e,ey,eb,l⟩
  · subst ey
    obtain ⟨z,hd,vs,rel,dd⟩:=zqt I.hok e
    obtain ⟨w',hw,rw'⟩:=RelO.some_of (v:=v) (o:=valueAt vs k) (by rw [l];exact rel.val k)
    exact wpAny_getItem_of (zqf ry) dd.mapOf hw (h w' _ (I.tok _) rw')
  · subst ey
    cases (show u=Value.ref b from ry)
    obtain ⟨z,hd,xs,rel,dd⟩:=dt_rd I.hok e
    obtain ⟨w',hw,rw'⟩:=RelO.some_of (v:=v) (o:=(atKey xs k).map (·.2)) (by rw [l];exact rel.val k)
    obtain ⟨p,hp,hp2⟩:=Option.map_eq_some_iff.mp hw
    refine wpAny_getItem_heap (tupleKind_room_in1 hu) (zpb I.hok eb) dd hp ?_
    rw [hp2]
    exact h w' _ (I.tok _) rw'
theorem zqu {h':Heap} {t':Nat} {ob:HO} (I:Inv X pins σ H s) (mu:Mut (H a)) (hs:Heap.SameBut a s.heap h') (he:∃q,h'.get? a=some q) (new:ObjOk X.prog X.w (upd H a ob) h' a ob) :
    Inv X pins σ (upd H a ob) {s with heap:=h',toks:=t'} :=
  I.write (x:=a) (e:=a) mu (.inl rfl) (fun b q hb z=>(hs.2 b hb).trans z) he new
theorem dk_new {P:Program} {w:World} {H':Hp} {h':Heap} {kvs:List (Key×V)} {vs:List (Key×Value)} (z:kvs.length≤sizeLine) (hd:(a==sysModules)=false) (rel:KV kvs vs) (dd:h'.DictOf (mixKind P w) a vs) :
    ObjOk P w H' h' a (.dK kvs):=⟨z,hd,vs,rel,dd⟩
end
def NoSl (i:Expr):Prop:=∀ov iv,subscripted i false ov iv=operate [ov,iv] (getItem ov iv)
theorem zpq {prog:Program} {w:World} {A:Around} {E:Value→Shared→Prop} {s:Shared} {env:Env} {value slice:Expr} {pos:Pos} {T id:String} {Q:Value→Shared→Prop}
    (hl:typeLookup (.type T) "__getitem__"=pure (some (.builtin id))) (hs:NoSl slice)
    (h:wpAny (model prog w) A (eval value env) (fun o s₁=>wpAny (model prog w) A (eval slice env) (fun i s₂=>s₂.TypeIs o T∧wpAny (model prog w) A (getItem o i) Q E s₂) E s₁) E s) :
    wpAny (model prog w) A (eval (.Subscript value slice pos) env) Q E s:=by
  refine Subscript_ (wpAny_mono h (fun o s₁ h₁=>wpAny_mono h₁ (fun i s₂ h₂=>?_) fun _ _ x=>x) fun _ _ x=>x)
  obtain ⟨hT,h₂⟩:=h₂
  unfold subscriptTail
  refine wpAny_bind ?_
  rw [getitemInPython_of_ne hT.not_modules]
  refine wpAny_bind (wpAny_specialOf hT hl ?_)
  have fin:wpAny (model prog w) A (subscripted slice false o i) (fun r s₃=>wpAny (model prog w) A (letTemporaryGo value o r >>= fun _=>pure r) Q E s₃) E s₂:=by
    rw [hs o i]
    exact wpAny_operating (wpAny_mono h₂ (fun r s₃ h₃=>wpAny_bind (wpAny_letTemporaryGo (wpAny_pure h₃))) fun _ _ x=>x)
  first
    | exact wpAny_pure (wpAny_bind fin)
    | exact wpAny_bind (wpAny_pure (wpAny_bind fin))
    | exact wpAny_bind fin
theorem zjo {X:Cx} {pins:List (Addr×Obj)} {σ:St} {H:Hp} {s:Shared} {a:Addr} {y:V} {o:Option V} (I:Inv X pins σ H s) (g:DGet H a y o):s.TypeIs (.ref a) "dict":=by
  rcases g with ⟨kvs,k,e,_,_⟩|⟨kvs,k,b,e,_,_,_⟩
  · obtain ⟨_,_,vs,_,dd⟩:=zqt I.hok e
    exact dd.typeIs
  · obtain ⟨_,_,xs,_,dd⟩:=dt_rd I.hok e
    exact dd.typeIs
def tDGet (td ty:TE):TE:=fun σ H Q=>td σ H fun x H1=>ty σ H1 fun y H2=>∃a v,x=.ref a∧DGet H2 a y (some v)∧Q v H2
section
variable {X:Cx} {o i e value:Expr} {pos pos' tpos:Pos} {td ty tv:TE}
theorem zp5 (hu:X.A.units+1<cLine) (ho:PE X o td) (hi:PE X i ty) (hs:NoSl i):PE X (.Subscript o i pos) (tDGet td ty):=by
  intro pins s σ H Q I h
  refine zpq PySem.F.slot_dict_getitem.lookup hs (thn (ho pins s σ H _ I h) fun u s1 ⟨x,H1,I1,rx,q1⟩=>thn (hi pins s1 σ H1 _ I1 q1) fun iv s2 ⟨y,H2,I2,ry,a,v,ex,g,q2⟩=>?_)
  subst ex
  obtain rfl:u=Value.ref a:=rx
  exact ⟨zjo I2 g,znc hu I2 g ry fun w' s3 I3 rw'=>⟨v,H2,I3,rw',q2⟩⟩
end
theorem zov {P:Program} {w:World} {H:Hp} (h:Heap) (hb:sysModules<h.objs.size):ObjOk P w H (h.push {cls:=.type "dict",data:=.dict #[]}) h.objs.size (.dK []) :=
  ⟨Nat.zero_le _,beq_eq_false_iff_ne.mpr (Ne.symm (Nat.ne_of_lt hb)),[],.nil,Heap.DictOf.new h⟩
def tPairs:List (TE×TE)→St→Hp→(List (V×V)→Hp→Prop)→Prop
  | [],_,H,Q=>Q [] H
  | (tk,tv)::r,σ,H,Q=>tk σ H fun x H1=>tv σ H1 fun y H2=>tPairs r σ H2 fun ps H3=>Q ((x,y)::ps) H3
abbrev VV:List (V×V)→List (Value×Value)→Prop:=Paired fun p q=>RelV p.1 q.1∧RelV p.2 q.2
def PPs (X:Cx) (pos:Pos) (keys:List (Option Expr)) (values:List Expr) (trs:List (TE×TE)):Prop :=
  ∀(pins:List (Addr×Obj)) (s:Shared) (σ:St) (H:Hp) (Q:List (V×V)→Hp→Prop),Inv X pins σ H s→tPairs trs σ H Q →
    wpAny (model X.prog X.w) X.A (evalPairs (pairTrees keys values X.env pos)) (fun vs s'=>∃ps H',Inv X pins σ H' s'∧VV ps vs∧Q ps H') X.xe s
theorem zp0 {X:Cx} {pos:Pos}:PPs X pos [] [] []:=fun pins s σ H Q I h=>pairTrees_nil_walk ⟨[],H,I,.nil,h⟩
theorem znz {X:Cx} {pos:Pos} {k v:Expr} {ks:List (Option Expr)} {vs:List Expr} {tk tv:TE} {trs:List (TE×TE)} (hk:PE X k tk) (hv:PE X v tv) (hr:PPs X pos ks vs trs) :
    PPs X pos (some k::ks) (v::vs) ((tk,tv)::trs):=fun pins s σ H Q I h =>
  pairTrees_cons_walk (thn (hk pins s σ H _ I h) fun u s1 ⟨x,H1,I1,rx,q1⟩=>thn (hv pins s1 σ H1 _ I1 q1) fun w2 s2 ⟨y,H2,I2,ry,q2⟩ =>
    thn (hr pins s2 σ H2 _ I2 q2) fun ws s3 z_1=>by obtain ⟨ps,H3,I3,rel,q3⟩:=z_1;exact ⟨(x,y)::ps,H3,I3,.cons ⟨rx,ry⟩ rel,q3⟩)
noncomputable def mergeK (kvs more:List (Key×V)):List (Key×V):=more.foldl (fun acc kv=>putK acc kv.1 kv.2) kvs
theorem KV.merge:∀{more:List (Key×V)} {rs:List (Key×Value)} {kvs:List (Key×V)} {vs:List (Key×Value)},KV more rs→KV kvs vs→KV (mergeK kvs more) (merged vs rs):=by
  intro more rs kvs vs r
  unfold KV at r
  induction r generalizing kvs vs with
  | nil=>intro q;exact q
  | @cons p q ps qs h t ih =>
    intro r0
    have e:KV (putK kvs p.1 p.2) (stored vs q.1 q.2):=by
      have:=r0.put p.1 h.2
      rw [←h.1];exact this
    exact ih e
theorem zeo:∀(more kvs:List (Key×V)),(mergeK kvs more).length≤kvs.length+more.length
  | [],kvs=>by show kvs.length≤kvs.length+0;omega
  | p::r,kvs=>by
    have h1:=zeo r (putK kvs p.1 p.2)
    have h2:=zjm kvs p.1 p.2
    show (mergeK (putK kvs p.1 p.2) r).length≤_
    rw [List.length_cons];omega
theorem zgu {P:Program} {w:World}:∀{kvs:List (Key×V)} {ws:List (Value×Value)},VV (kvs.map fun kv=>(kV kv.1,kv.2)) ws→∃rs,Carries (mixKind P w) ws rs∧KV kvs rs
  | [],_,r=>by rw [List.map_nil] at r;cases r;exact ⟨[],True.intro,.nil⟩
  | p::kvs,_,r=>by
    rw [List.map_cons] at r
    cases r with
    | @cons a b as bs h t =>
      obtain ⟨rs,c,q⟩:=zgu (P:=P) (w:=w) t
      obtain ⟨b1,b2⟩:=b
      exact ⟨(p.1,b2)::rs,⟨zqf h.1,rfl,c⟩,.cons ⟨rfl,h.2⟩ q⟩
def tDisp (trs:List (TE×TE)):TE:=fun σ H Q=>∀p,H p=none→tPairs trs σ (upd H p (.dK [])) fun ps H2=>H2 p=some (.dK [])∧∃kvs:List (Key×V),ps=kvs.map (fun kv=>(kV kv.1,kv.2))∧kvs.length≤15∧Q (.ref p) (upd H2 p (.dK (mergeK [] kvs)))
theorem zp4 {X:Cx} {pos:Pos} {keys:List (Option Expr)} {values:List Expr} {trs:List (TE×TE)} (h:PPs X pos keys values trs) (hall:keys.all (·.isSome)=true) (hl:keys.length=values.length) (h0:keys≠[])
    (h15:keys.length≤15):PE X (.Dict keys values pos) (tDisp trs):=by
  intro pins s σ H Q I q
  have hn:=I.hok.fresh (Nat.le_refl s.heap.objs.size)
  have I1:=I.laid (a:=s.heap.objs.size) (o:=.dK []) (h':=s.heap.push {cls:=.type "dict",data:=.dict #[]}) (t':=s.toks) (fun _ _ q=>Heap.get?_push_of_some _ q) (Nat.le_refl _) (zov s.heap I.big)
  refine wpAny_Dict_walk (knd:=mixKind X.prog X.w) hall hl h0 h15 (thn (h pins _ σ _ _ I1 (q _ hn)) fun ws s2 ⟨ps,H2,I2,rel,e,kvs,ep,lk,q2⟩=>?_)
  subst ep
  obtain ⟨rs,c,rk⟩:=zgu (P:=X.prog) (w:=X.w) rel
  obtain ⟨z,hd,vs0,r0,dd⟩:=dk_of I2.hok e
  cases r0
  refine ⟨rs,c,dd,fun h' dd' hs=>⟨.ref s.heap.objs.size,_,?_,rfl,q2⟩⟩
  have hz:(mergeK [] kvs).length≤sizeLine:=by
    have h1:=zeo kvs []
    rw [List.length_nil] at h1
    rw [sizeLine_eq];omega
  have he:∃q,h'.get? s.heap.objs.size=some q:=let ⟨q,_,_,hq,_⟩:=dd';⟨q,hq⟩
  exact zqu I2 (by rw [e];exact True.intro) hs he (dk_new hz hd (rk.merge .nil) dd')
end L2
namespace L2
open PySem PySem.Spec PyProof.Rows
end L2
namespace EE
open PySem PySem.Spec PyProof.Rows L2
structure Has (K:PySem.W.Frag) (mg:Str→Option Value) (x:Str) (st:Stmt) (ps:List Str):Prop where
  ex:∃f fd,Fun K x x st f fd∧Binds K fd ps []∧mg x=some (.ref f)
section
variable {P:Program} {w:World} {K:PySem.W.Frag} {mg:Str→Option Value} {base:Heap}
theorem zce {h:Heap} {x:Str} {st:Stmt} {ps:List Str} {f:Addr} {oc:Value} {od an:Option Addr} {osl:Array (Option Value)} {kV doc pm cdv ct:Value} (X:K.In h) (G:h.Ns mainGlobals mg)
    (a:PySem.W.nsIn K mainGlobals x=some (some (.ref f))) (l:K.lookup f=some ⟨oc,od,.func (PySem.W.fnOf x x (defArgs st) (defBody st) (defScope st) .none kV doc pm an cdv ct),osl⟩)
    (c:PySem.W.codeIn K cdv x=true) (k:PySem.W.keepIn K (.ref f)=true)
    (hb:∀(kV doc pm:Value) (an:Option Addr) (cdv ct:Value) (us:List Value),us.length=ps.length→bindArgs (PySem.W.fnOf x x (defArgs st) (defBody st) (defScope st) .none kV doc pm an cdv ct) ⟨us,[]⟩=pure (ps.zip us)):Has K mg x st ps:=by
  have F:=zm2 (st:=st) l c k
  exact ⟨f,_,F,F.binds hb,PySem.W.mg_of X G a⟩
end
section
variable {X:Cx} {k:Nat} {ps:List Str} {sp:Sp} {x:Str} {p pos:Pos} {e:Expr} {es:List Expr} {t:TA}
theorem zn4 {i:Int} (h:∃t,X.mg x=some (.int i t)) (hg:Gl X x) (hd:(x==("__debug__":Str))=false:=by decide):PE X (.Name x pos) (tC (.int i)):=by
  obtain ⟨t,e⟩:=h
  exact zmb (v:=.int i) hg e ⟨t,rfl⟩ hd
theorem zon (K:PySem.W.Frag) (n:String):PySem.W.kitOne K (.type n) (.type n)=some true:=by
  unfold PySem.W.kitOne
  rw [if_pos (by simp)]
end
theorem iteN {c A B:Prop} [Decidable c] (hc:¬c) (h:A):if (!decide c)=true then A else B:=by
  rw [decide_eq_false hc]
  exact iteT h
theorem iteD {c A B:Prop} [Decidable c] (hc:c) (h:A):if decide c=true then A else B:=by
  rw [decide_eq_true hc]
  exact iteT h
theorem iteDN {c A B:Prop} [Decidable c] (hc:¬c) (h:B):if decide c=true then A else B:=by
  rw [decide_eq_false hc]
  exact iteF h
theorem iteD2 {c A B:Prop} [Decidable c] (h1:c→A) (h2:¬c→B):if decide c=true then A else B:=by
  by_cases h:c
  · exact iteD h (h1 h)
  · exact iteDN h (h2 h)
end EE
namespace EE
open PySem PySem.Spec PyProof.Rows L2
noncomputable def Its (x:Str):It:=⟨fun i _=>i<x.cps.size,fun i H v H'=>H'=H∧∃c,x.cps[i]?=some c∧v=.str ⟨#[c]⟩,fun i _=>x.cps.size≤i⟩
theorem zh2 {P:Program} {w:World} {K:PySem.W.Frag} {tg:Expr} {nm:String} (it:Addr) (x:Str) (t:Tok)
    (hn:["enumerate","zip","dict_itemiterator","dict_reverseitemiterator","odict_iterator","itertools.zip_longest","itertools.pairwise"].contains nm=false)
    (W:∀A:Around,A.handled=none→Walks P w A it [it] [it] x.cps.size (SignAt x) (fun i h=>h.IsStrIter it nm x t i))
    (stop:∀(A:Around) (s:Shared) (i:Nat) (Q:Option Value→Shared→Prop) (E:Value→Shared→Prop),A.handled=none→s.heap.IsStrIter it nm x t i→x.cps[i]?=none →
      (∀h',Heap.ExtBut it s.heap h'→Q none {s with heap:=h'})→wpAny (model P w) A (pyNext (.ref it)) Q E s)
    (self:∀(A:Around) (i:Nat) (s:Shared) (Q:Value→Shared→Prop) (E:Value→Shared→Prop),s.heap.IsStrIter it nm x t i→Q (.ref it) s→wpAny (model P w) A (pyIter (.ref it)) Q E s) :
    Turn P w K tg (Its x) [it] it (fun i h=>h.IsStrIter it nm x t i) where
  mem:=by simp
  obj:=fun i h st b hb=>by
    have e:b=it:=by simpa using hb
    subst e
    obtain ⟨o,e,c,d⟩:=st
    exact ⟨o,e,fun v z=>by rw [d] at z;cases z⟩
  keep:=fun i h h' st k=>let ⟨o,ho,r⟩:=st;⟨o,k it (by simp) o ho,r⟩
  item:=by
    intro X hP hw hK hc i pins s σ H E I hf st hg
    subst hP hw hK
    obtain ⟨f0,f1,f2,f3,f4,f5⟩:=hf it (by simp)
    refine (W X.A (I.ok.hd hc)).item i s _ _ hg st fun v h' tk hv st' kk=>?_
    obtain ⟨c,u,hcc,rfl⟩:=hv
    have I1:Inv X pins σ H {s with heap:=h',toks:=tk}:=I.turned (fun b o hb e=>kk b o (by simpa using hb) e) f0 f1 f3 f4 f5
    obtain ⟨o,e,cl,d⟩:=id st'
    exact ⟨_,rfl,zor (s:={s with heap:=h',toks:=tk}) e cl d hn ⟨.str ⟨#[c]⟩,H,I1,⟨u,rfl⟩,⟨rfl,c,hcc,rfl⟩,st',fun b hb=>(hf b hb).1⟩⟩
  done:=by
    intro X hP hw hK hc i pins s σ H E I hf st hg
    subst hP hw hK
    obtain ⟨f0,f1,f2,f3,f4,f5⟩:=hf it (by simp)
    exact stop X.A s i _ E (I.ok.hd hc) st (Array.getElem?_eq_none hg) fun h' eb=>⟨rfl,I.turned (t':=s.toks) (fun b o hb e=>eb b o hb e) f0 f1 f3 f4 f5⟩
  self:=self
theorem zk0 {P:Program} {w:World} {K:PySem.W.Frag} {tg:Expr} (it:Addr) (x:Str) (t:Tok):Turn P w K tg (Its x) [it] it (fun i h=>h.IsStrIter it "str_ascii_iterator" x t i) :=
  zh2 it x t (by decide) (fun A hA=>Walks.strAscii hA it x t) (fun A s i Q E hh st e h=>wpAny_pyNext_ascii_end hh st e h) fun A i s Q E st h=>wpAny_pyIter_striter_ascii st h
theorem zlo {P:Program} {w:World} {K:PySem.W.Frag} {tg:Expr} (it:Addr) (x:Str) (t:Tok):Turn P w K tg (Its x) [it] it (fun i h=>h.IsStrIter it "str_iterator" x t i) :=
  zh2 it x t (by decide) (fun A hA=>Walks.strWide hA it x t) (fun A s i Q E hh st e h=>wpAny_pyNext_wide_end hh st e h) fun A i s Q E st h=>wpAny_pyIter_striter_wide st h
def iStr (tl:TE):TI:=fun σ H R=>tl σ H fun v H1=>∃x,v=.str x∧R (Its x) H1
theorem pi_str {X:Cx} {tg l:Expr} {tl:TE} (hl:PE X l tl):PI X tg l (iStr tl):=by
  intro pins s σ H R I h
  refine thn (hl pins s σ H _ I h) fun v s1 ⟨y,H1,I1,r1,q1⟩=>?_
  obtain ⟨x,rfl,q⟩:=q1
  obtain ⟨t,rfl⟩:=r1
  have fin:∀(o:Obj) (tn:Nat→Heap→Prop),Turn X.prog X.w X.K tg (Its x) [s1.heap.objs.size] s1.heap.objs.size tn→tn 0 (s1.heap.push o)→PIE X pins σ tg R (.ref s1.heap.objs.size) {s1 with heap:=s1.heap.push o}:=fun o tn T st=>by
    refine ⟨s1.heap.objs.size,[s1.heap.objs.size],_,_,H1,rfl,I1.kept (t':=s1.toks) fun b o e=>Heap.get?_push_of_some _ e,T,st,fun b hb=>?_,q⟩
    have e:b=s1.heap.objs.size:=by simpa using hb
    subst e
    exact I1.fpOk (Nat.le_refl _) (I1.hok.fresh (Nat.le_refl _))
  cases ha:x.cps.all (·<128)
  · exact wpAny_pyIter_wide ha (fin _ _ (zlo _ x t) ⟨_,Heap.get?_push_size _ rfl,rfl,rfl⟩)
  · exact wpAny_pyIter_ascii ha (fin _ _ (zk0 _ x t) ⟨_,Heap.get?_push_size _ rfl,rfl,rfl⟩)
section
variable {X:Cx}
theorem zgi {xs:List Str}:∀{us:List Value},Vals (xs.map V.str) us→StrsAre us xs:=by
  induction xs with
  | nil=>intro us r;rw [List.map_nil] at r;cases r;exact .nil
  | cons n ns ih =>
    intro us r
    rw [List.map_cons] at r
    cases r with
    | cons r1 r2 =>
      obtain ⟨t,e⟩:=r1
      subst e
      exact .cons n t (ih r2)
def rJoin (K:PySem.W.Frag):V→List V→Hp→VK→Prop:=fun x vs H Q=>∃sep l ys,x=.str sep∧vs=[.ref l]∧SqL K H l (ys.map V.str)∧(ys.map (·.length)).sum+ys.length*sep.length≤16777216∧Q (.str (Txt.join sep ys)) H
theorem zda:MtR X "str.join" (rJoin X.K):=by
  intro pins s σ H x vs v us Q I rx rv h
  obtain ⟨sep,l,ys,rfl,rfl,hl,hz,q⟩:=h
  obtain ⟨t,rfl⟩:=rx
  obtain ⟨u,rfl,ru⟩:=rv.one
  cases ru
  obtain ⟨its,r,pl,hn⟩:=I.list hl
  exact join_list pl.isList (by simpa using zgi r) hz fun t' k=>⟨.str _,H,I.tok _,⟨_,rfl⟩,q⟩
end
end EE
namespace EE
open PySem PySem.Spec PyProof.Rows L2 SeqAt
inductive Dt where
  | non|bl (b:Bool)|int (i:Int)|str (x:Str)|tup (xs:List Dt)|lst (xs:List Dt)
mutual
noncomputable def eqD:Dt→Dt→Bool
  | .non,.non=>true
  | .bl a,.bl b=>a==b
  | .bl a,.int b=>(if a then 1 else 0)==b
  | .int a,.bl b=>a==(if b then 1 else 0)
  | .int a,.int b=>a==b
  | .str a,.str b=>a==b
  | .tup xs,.tup ys=>eqDs xs ys
  | .lst xs,.lst ys=>eqDs xs ys
  | _,_=>false
noncomputable def eqDs:List Dt→List Dt→Bool
  | [],[]=>true
  | x::xs,y::ys=>eqD x y&&eqDs xs ys
  | _,_=>false
end
mutual
noncomputable def deepD:Dt→Nat
  | .tup xs=>deepDs xs+1
  | .lst xs=>deepDs xs+1
  | _=>0
noncomputable def deepDs:List Dt→Nat
  | []=>0
  | x::xs=>max (deepD x) (deepDs xs)
end
mutual
theorem zfo:∀d:Dt,eqD d d=true
  | .non=>rfl
  | .bl b=>by simp [eqD]
  | .int i=>by simp [eqD]
  | .str x=>by simp [eqD]
  | .tup xs=>by simp only [eqD];exact zf6 xs
  | .lst xs=>by simp only [eqD];exact zf6 xs
theorem zf6:∀ds:List Dt,eqDs ds ds=true
  | []=>rfl
  | d::ds=>by simp only [eqDs,zfo d,zf6 ds,Bool.and_self]
end
mutual
inductive DR (K:PySem.W.Frag) (H:Hp):Dt→V→Prop where
  | non:DR K H .non .non
  | bl (b:Bool):DR K H (.bl b) (.bl b)
  | int (i:Int):DR K H (.int i) (.int i)
  | str (x:Str):DR K H (.str x) (.str x)
  | tup {a:Addr} {xs:List V} {ds:List Dt}:SqT K H a xs→DRs K H ds xs→DR K H (.tup ds) (.ref a)
  | lst {a:Addr} {xs:List V} {ds:List Dt}:SqL K H a xs→DRs K H ds xs→DR K H (.lst ds) (.ref a)
inductive DRs (K:PySem.W.Frag) (H:Hp):List Dt→List V→Prop where
  | nil:DRs K H [] []
  | cons {d:Dt} {v:V} {ds:List Dt} {vs:List V}:DR K H d v→DRs K H ds vs→DRs K H (d::ds) (v::vs)
end
section
variable {X:Cx} {pins:List (Addr×Obj)} {σ:L2.St} {H:Hp} {s:Shared}
theorem zdz {a:Addr} {xs ys:List V} (I:Inv X pins σ H s) (h:SqL X.K H a xs) (h':SqT X.K H a ys):False:=by
  obtain ⟨its,_,p,_⟩:=I.list h
  obtain ⟨its',_,q,_⟩:=I.tuple h'
  exact ne_of_list_tuple p.isList (show s.heap.IsTuple a its'.toArray from q) rfl
mutual
theorem DR.inj (I:Inv X pins σ H s):∀{d e:Dt} {v:V},DR X.K H d v→DR X.K H e v→d=e
  | _,_,_,.non,h=>by cases h;rfl
  | _,_,_,.bl _,h=>by cases h;rfl
  | _,_,_,.int _,h=>by cases h;rfl
  | _,_,_,.str _,h=>by cases h;rfl
  | _,_,_,.tup p q,h=>by
    cases h with
    | tup p' q' =>
      have e:=I.tuple_inj p p'
      subst e
      rw [DRs.inj I q q']
    | lst p' q'=>exact (zdz I p' p).elim
  | _,_,_,.lst p q,h=>by
    cases h with
    | lst p' q' =>
      have e:=I.list_inj p p'
      subst e
      rw [DRs.inj I q q']
    | tup p' q'=>exact (zdz I p p').elim
theorem DRs.inj (I:Inv X pins σ H s):∀{ds es:List Dt} {vs:List V},DRs X.K H ds vs→DRs X.K H es vs→ds=es
  | _,_,_,.nil,h=>by cases h;rfl
  | _,_,_,.cons p q,h=>by
    cases h with
    | cons p' q'=>rw [DR.inj I p p',DRs.inj I q q']
end
theorem DRs.len:∀{ds:List Dt} {vs:List V},DRs X.K H ds vs→ds.length=vs.length
  | _,_,.nil=>rfl
  | _,_,.cons _ q=>by simp [DRs.len q]
theorem DRs.at:∀{ds:List Dt} {vs:List V} {i:Nat} {v:V},DRs X.K H ds vs→vs[i]?=some v→∃d,ds[i]?=some d∧DR X.K H d v
  | _,_,_,_,.nil,e=>by simp at e
  | _,_,0,_,.cons r _,e=>by simp at e;subst e;exact ⟨_,rfl,r⟩
  | _,_,i+1,v,.cons _ q,e=>by
    obtain ⟨d,h1,h2⟩:=DRs.at (i:=i) (v:=v) q (by simpa using e)
    exact ⟨d,by simpa using h1,h2⟩
noncomputable def eqAtI (ds es:List Dt) (i:Nat):Bool:=match ds[i]?,es[i]? with
  | some d,some e=>eqD d e
  | _,_=>true
theorem znk (ds es:List Dt) (d e:Dt) (n:Nat):(List.range (n+1)).all (eqAtI (d::ds) (e::es))=(eqD d e&&(List.range n).all (eqAtI ds es)):=by
  rw [List.range_succ_eq_map,List.all_cons,List.all_map]
  rfl
theorem zhq:∀ds es:List Dt,eqDs ds es=((List.range (min ds.length es.length)).all (eqAtI ds es)&&ds.length==es.length)
  | [],[]=>rfl
  | [],_::_=>by simp [eqDs]
  | _::_,[]=>by simp [eqDs]
  | d::ds,e::es=>by
    have ih:=zhq ds es
    simp only [eqDs,List.length_cons]
    rw [Nat.succ_min_succ,znk,ih,Bool.and_assoc]
    congr 2
    rw [Bool.eq_iff_iff]
    simp
theorem zi0:∀{ds:List Dt} {i:Nat} {d:Dt},ds[i]?=some d→deepD d≤deepDs ds
  | [],_,_,e=>by simp at e
  | x::xs,0,_,e=>by simp at e;subst e;simp only [deepDs];omega
  | x::xs,i+1,d,e=>by
    have:=zi0 (ds:=xs) (i:=i) (d:=d) (by simpa using e)
    simp only [deepDs]
    omega
theorem zll {xs:List V} {us:List Value} {j:Nat} (r:Vals xs us) (h:j<us.toArray.size):∃x,xs[j]?=some x∧RelV x us.toArray[j]:=by
  have hl:=r.length
  have hj:j<xs.length:=by simpa [hl] using h
  have e:xs[j]?=some xs[j]:=List.getElem?_eq_getElem hj
  obtain ⟨u,hu,ru⟩:=r.get e
  refine ⟨_,e,?_⟩
  have:us.toArray[j]=u:=by
    have z:us[j]?=some us[j]:=List.getElem?_eq_getElem (by simpa using h)
    rw [z] at hu
    simpa using Option.some.inj hu
  rw [this]
  exact ru
theorem units_in1 {A:Around}:A.in1.units=A.units+1:=rfl
theorem zqo (I:Inv X pins σ H s):∀(n:Nat) (A:Around) (d e:Dt) (v v':V) (u u':Value),deepD d≤n→A.units+n<cLine→DR X.K H d v→DR X.K H e v'→RelV v u→RelV v' u' →
    RcAt A s u u' (eqD d e)∧EqAt A s u u' (eqD d e):=by
  intro n
  induction n with
  | zero =>
    intro A d e v v' u u' hn hu hd he r r'
    have hu':A.units<cLine:=by omega
    cases hd with
    | non =>
      cases r
      cases he with
      | non=>cases r';exact ⟨RcAt.none_none,EqAt.same _⟩
      | bl b=>cases r';exact ⟨RcAt.none_bool b,EqAt.none_bool b⟩
      | int b=>obtain ⟨t,rfl⟩:=r';exact ⟨RcAt.none_int b t,EqAt.none_int b t⟩
      | str b=>obtain ⟨t,rfl⟩:=r';exact ⟨RcAt.none_str b t,EqAt.none_str b t⟩
      | tup p q =>
        cases r'
        obtain ⟨its,_,ht,_⟩:=I.tuple p
        exact ⟨RcAt.none_tuple ht hu',EqAt.none_tuple ht hu'⟩
      | lst p q =>
        cases r'
        obtain ⟨its,_,ht,_⟩:=I.list p
        exact ⟨RcAt.none_list ht.isList hu',EqAt.none_list ht.isList hu'⟩
    | bl a =>
      cases r
      cases he with
      | non=>cases r';exact ⟨RcAt.bool_none a,EqAt.bool_none a⟩
      | bl b=>cases r';exact ⟨RcAt.bool_bool a b,EqAt.bool_bool a b⟩
      | int b=>obtain ⟨t,rfl⟩:=r';exact ⟨RcAt.bool_int a b t,EqAt.bool_int a b t⟩
      | str b=>obtain ⟨t,rfl⟩:=r';exact ⟨RcAt.bool_str a b t,EqAt.bool_str a b t⟩
      | tup p q =>
        cases r'
        obtain ⟨its,_,ht,_⟩:=I.tuple p
        exact ⟨RcAt.bool_tuple a ht hu',EqAt.bool_tuple a ht hu'⟩
      | lst p q =>
        cases r'
        obtain ⟨its,_,ht,_⟩:=I.list p
        exact ⟨RcAt.bool_list a ht.isList hu',EqAt.bool_list a ht.isList hu'⟩
    | int a =>
      obtain ⟨t0,rfl⟩:=r
      cases he with
      | non=>cases r';exact ⟨RcAt.int_none a t0,EqAt.int_none a t0⟩
      | bl b=>cases r';exact ⟨RcAt.int_bool a t0 b,EqAt.int_bool a t0 b⟩
      | int b=>obtain ⟨t,rfl⟩:=r';exact ⟨RcAt.int_int a t0 b t,EqAt.int_int a t0 b t⟩
      | str b=>obtain ⟨t,rfl⟩:=r';exact ⟨RcAt.int_str a t0 b t,EqAt.int_str a t0 b t⟩
      | tup p q =>
        cases r'
        obtain ⟨its,_,ht,_⟩:=I.tuple p
        exact ⟨RcAt.int_tuple a t0 ht hu',EqAt.int_tuple a t0 ht hu'⟩
      | lst p q =>
        cases r'
        obtain ⟨its,_,ht,_⟩:=I.list p
        exact ⟨RcAt.int_list a t0 ht.isList hu',EqAt.int_list a t0 ht.isList hu'⟩
    | str a =>
      obtain ⟨t0,rfl⟩:=r
      cases he with
      | non=>cases r';exact ⟨RcAt.str_none a t0,EqAt.str_none a t0⟩
      | bl b=>cases r';exact ⟨RcAt.str_bool a t0 b,EqAt.str_bool a t0 b⟩
      | int b=>obtain ⟨t,rfl⟩:=r';exact ⟨RcAt.str_int a t0 b t,EqAt.str_int a t0 b t⟩
      | str b=>obtain ⟨t,rfl⟩:=r';exact ⟨RcAt.str_str a t0 b t,EqAt.str_str a t0 b t⟩
      | tup p q =>
        cases r'
        obtain ⟨its,_,ht,_⟩:=I.tuple p
        exact ⟨RcAt.str_tuple a t0 ht hu',EqAt.str_tuple a t0 ht hu'⟩
      | lst p q =>
        cases r'
        obtain ⟨its,_,ht,_⟩:=I.list p
        exact ⟨RcAt.str_list a t0 ht.isList hu',EqAt.str_list a t0 ht.isList hu'⟩
    | tup p q=>simp [deepD] at hn
    | lst p q=>simp [deepD] at hn
  | succ n ih =>
    intro A d e v v' u u' hn hu hd he r r'
    by_cases h0:deepD d≤n
    · exact ih A d e v v' u u' h0 (by omega) hd he r r'
    have hu':A.units<cLine:=by omega
    have items:∀{xs ys:List V} {ds es:List Dt} {its its2:List Value},deepDs ds≤n→DRs X.K H ds xs→DRs X.K H es ys→Vals xs its→Vals ys its2 →
        ∀j (h1:j<its.toArray.size) (h2:j<its2.toArray.size),EqAt A.in1 s its.toArray[j] its2.toArray[j] (eqAtI ds es j):=fun {xs ys ds es its its2} hdd q q' rv rv' j h1 h2=>by
      obtain ⟨x,hx,rx⟩:=zll rv h1
      obtain ⟨y,hy,ry⟩:=zll rv' h2
      obtain ⟨dx,edx,rdx⟩:=q.at hx
      obtain ⟨dy,edy,rdy⟩:=q'.at hy
      have hdeep:=zi0 edx
      have:=(ih A.in1 dx dy x y _ _ (by omega) (by rw [units_in1];omega) rdx rdy rx ry).2
      unfold eqAtI
      rw [edx,edy]
      exact this
    cases hd with
    | non=>exact absurd (Nat.zero_le _) h0
    | bl _=>exact absurd (Nat.zero_le _) h0
    | int _=>exact absurd (Nat.zero_le _) h0
    | str _=>exact absurd (Nat.zero_le _) h0
    | @tup a xs ds p q =>
      cases r
      obtain ⟨its,rv,ht,_⟩:=I.tuple p
      cases he with
      | non=>cases r';exact ⟨RcAt.tuple_none ht hu',EqAt.tuple_none ht hu'⟩
      | bl b=>cases r';exact ⟨RcAt.tuple_bool b ht hu',EqAt.tuple_bool b ht hu'⟩
      | int b=>obtain ⟨t,rfl⟩:=r';exact ⟨RcAt.tuple_int b t ht hu',EqAt.tuple_int b t ht hu'⟩
      | str b=>obtain ⟨t,rfl⟩:=r';exact ⟨RcAt.tuple_str b t ht hu',EqAt.tuple_str b t ht hu'⟩
      | @tup b ys es p' q' =>
        cases r'
        obtain ⟨its2,rv2,ht2,_⟩:=I.tuple p'
        have hdd:deepDs ds≤n:=by simp only [deepD] at hn;omega
        have e:((List.range (min its.toArray.size its2.toArray.size)).all (eqAtI ds es)&&its.toArray.size==its2.toArray.size)=eqD (.tup ds) (.tup es):=by
          simp only [eqD]
          rw [zhq,q.len,q'.len,rv.length,rv2.length]
          simp
        have rc:RcAt A s (.ref a) (.ref b) (eqD (.tup ds) (.tup es)):=by
          rw [←e]
          exact RcAt.tuples ht ht2 hu' (items hdd q q' rv rv2)
        refine ⟨rc,?_⟩
        by_cases hab:a=b
        · subst hab
          have ed:Dt.tup ds=Dt.tup es:=DR.inj I (.tup p q) (.tup p' q')
          rw [←ed,zfo]
          exact EqAt.same _
        · exact EqAt.of_refs hab rc
      | @lst b ys es p' q' =>
        cases r'
        obtain ⟨its2,_,ht2,_⟩:=I.list p'
        exact ⟨RcAt.tuple_list ht ht2.isList hu',EqAt.tuple_list ht ht2.isList hu'⟩
    | @lst a xs ds p q =>
      cases r
      obtain ⟨its,rv,ht,_⟩:=I.list p
      cases he with
      | non=>cases r';exact ⟨RcAt.list_none ht.isList hu',EqAt.list_none ht.isList hu'⟩
      | bl b=>cases r';exact ⟨RcAt.list_bool b ht.isList hu',EqAt.list_bool b ht.isList hu'⟩
      | int b=>obtain ⟨t,rfl⟩:=r';exact ⟨RcAt.list_int b t ht.isList hu',EqAt.list_int b t ht.isList hu'⟩
      | str b=>obtain ⟨t,rfl⟩:=r';exact ⟨RcAt.list_str b t ht.isList hu',EqAt.list_str b t ht.isList hu'⟩
      | @tup b ys es p' q' =>
        cases r'
        obtain ⟨its2,_,ht2,_⟩:=I.tuple p'
        exact ⟨RcAt.list_tuple ht.isList ht2 hu',EqAt.list_tuple ht.isList ht2 hu'⟩
      | @lst b ys es p' q' =>
        cases r'
        obtain ⟨its2,rv2,ht2,_⟩:=I.list p'
        have hdd:deepDs ds≤n:=by simp only [deepD] at hn;omega
        have rc:RcAt A s (.ref a) (.ref b) (eqD (.lst ds) (.lst es)):=by
          simp only [eqD]
          rw [zhq,q.len,q'.len,rv.length,rv2.length]
          by_cases hsz:its.length=its2.length
          · have e:((List.range (min its.length its2.length)).all (eqAtI ds es)&&its.length==its2.length)=(List.range its.toArray.size).all (eqAtI ds es):=by
              simp [hsz]
            rw [e]
            exact RcAt.lists ht.isList ht2.isList (by simpa using hsz) hu' (items hdd q q' rv rv2)
          · have e:((List.range (min its.length its2.length)).all (eqAtI ds es)&&its.length==its2.length)=false:=by
              rw [beq_eq_false_iff_ne.mpr hsz,Bool.and_false]
            rw [e]
            exact RcAt.lists_lengths ht.isList ht2.isList (by simpa using hsz) hu'
        refine ⟨rc,?_⟩
        by_cases hab:a=b
        · subst hab
          have ed:Dt.lst ds=Dt.lst es:=DR.inj I (.lst p q) (.lst p' q')
          rw [←ed,zfo]
          exact EqAt.same _
        · exact EqAt.of_refs hab rc
theorem zk7 {n:Nat} (hu:X.A.units+n<cLine):OpR X (compareOp .Eq) (fun x y H Q=>∃d e,DR X.K H d x∧DR X.K H e y∧deepD d≤n∧Q (.bl (eqD d e)) H):=by
  intro pins s σ H x y v u Q I rx ry h
  obtain ⟨d,e,hd,he,hn,q⟩:=h
  exact (zqo I n X.A d e x y v u hn hu hd he rx ry).1 X.prog X.w X.xe _ ⟨.bl (eqD d e),H,I,rfl,q⟩
end
end EE
namespace EE
open PySem PySem.Spec PyProof.Rows L2
end EE
namespace EE
open PySem PySem.Spec PyProof.Rows L2
noncomputable def textOf (cs:List Nat):Str:=⟨cs.toArray⟩
theorem za2 (cs:List Nat):(textOf cs).length=cs.length:=by simp [textOf,Str.length]
theorem zc3 (a b:List Nat):textOf a++textOf b=textOf (a++b):=by
  show Str.append (textOf a) (textOf b)=textOf (a++b)
  simp [textOf,Str.append]
end EE
namespace EE
open PySem PySem.Spec PyProof.Rows L2
noncomputable def cutT (cs:List Nat) (lo hi:Option Int):List Nat:=(cs.drop (HT.sIx cs.length 0 lo)).take (HT.sIx cs.length cs.length hi-HT.sIx cs.length 0 lo)
theorem zqh (lo hi:Option Int) (n:Nat):Builtin.Str.strSliceIndices lo hi 1 n=sliceRange ((HT.sIx n 0 lo:Nat):Int) ((HT.sIx n n hi:Nat):Int) 1:=by
  have a:∀(i:Int) (d:Nat),max 0 (min (if i<0 then i+(n:Int) else i) (n:Int))=((HT.sIx n d (some i):Nat):Int):=by
    intro i d
    simp only [HT.sIx]
    by_cases h:i<0
    · simp only [h,if_true];omega
    · simp only [h,if_false];omega
  unfold Builtin.Str.strSliceIndices
  cases lo with
  | none =>
    cases hi with
    | none=>rfl
    | some j =>
      show sliceRange (0:Int) (max 0 (min (if j<0 then j+(n:Int) else j) (n:Int))) 1=_
      rw [a j n]
      rfl
  | some i =>
    cases hi with
    | none =>
      show sliceRange (max 0 (min (if i<0 then i+(n:Int) else i) (n:Int))) (n:Int) 1=_
      rw [a i 0]
      rfl
    | some j =>
      show sliceRange (max 0 (min (if i<0 then i+(n:Int) else i) (n:Int))) (max 0 (min (if j<0 then j+(n:Int) else j) (n:Int))) 1=_
      rw [a i 0,a j n]
theorem zlu (x:Str) (lo hi:Option Int):Txt.slice x lo hi=textOf (cutT x.cps.toList lo hi):=by
  have hl:x.cps.toList.length=x.length:=by simp [Str.length]
  have l1:HT.sIx x.length 0 lo≤x.length:=HT.zl0 _ _ (Nat.zero_le _) lo
  have l2:HT.sIx x.length x.length hi≤x.length:=HT.zl0 _ _ (Nat.le_refl _) hi
  unfold Txt.slice cutT
  rw [zqh,sliceRange_one,hl,pick_run]
  by_cases h:((1:Int)==1&&((List.range (HT.sIx x.length x.length hi-HT.sIx x.length 0 lo)).map (HT.sIx x.length 0 lo+·)).length==x.length)=true
  · rw [if_pos h]
    simp only [List.length_map,List.length_range,Bool.and_eq_true,beq_iff_eq] at h
    have h2:=h.2
    have e1:HT.sIx x.length 0 lo=0:=by omega
    have e2:HT.sIx x.length x.length hi=x.length:=by omega
    rw [e1,e2,List.drop_zero,Nat.sub_zero,←hl,List.take_length]
    simp [textOf]
  · rw [if_neg h]
    rfl
def rSlS:V→Option Int→Option Int→Hp→VK→Prop:=fun x lo hi H Q=>∃z,x=.str z∧z.length≤sizeLine∧Q (.str (textOf (cutT z.cps.toList lo hi))) H
theorem ze9 {X:Cx}:SlR X rSlS:=by
  intro pins s σ H x v vl vu lo hi sl Q I rx hs pl pu h
  obtain ⟨z,rfl,hz,q⟩:=h
  obtain ⟨t,rfl⟩:=rx
  refine ⟨"str",_,slot_str_getitem.lookup,typeIs_str s z t,?_⟩
  have fin:∀t' k,EP X pins σ Q (.str (Txt.slice z lo hi) t') {s with toks:=k}:=fun t' k=>⟨.str _,H,I.tok _,⟨_,rfl⟩,by rw [zlu];exact q⟩
  have len:(Txt.slice z lo hi).length≤sizeLine:=Nat.le_trans (Txt.slice_le z lo hi) hz
  obtain ⟨o,ho,hc,hd⟩:=hs
  cases pl with
  | none =>
    cases pu with
    | none=>exact wpAny_getItem_str_slice (l:=none) (u:=none) (st:=none) ⟨o,ho,hc,hd⟩ rfl (post_val_or_str ⟨len,fin⟩)
    | int j tj=>exact wpAny_getItem_str_slice (l:=none) (u:=some (j,tj)) (st:=none) ⟨o,ho,hc,hd⟩ rfl (post_val_or_str ⟨len,fin⟩)
  | int i ti =>
    cases pu with
    | none=>exact wpAny_getItem_str_slice (l:=some (i,ti)) (u:=none) (st:=none) ⟨o,ho,hc,hd⟩ rfl (post_val_or_str ⟨len,fin⟩)
    | int j tj=>exact wpAny_getItem_str_slice (l:=some (i,ti)) (u:=some (j,tj)) (st:=none) ⟨o,ho,hc,hd⟩ rfl (post_val_or_str ⟨len,fin⟩)
end EE
namespace EE
open PySem PySem.Spec PyProof.Rows L2
theorem zkm {α β:Type} (f:α→β→Sem (ForInStep β)) (g:β→α→β):∀(l:List α) (b:β),(∀x∈l,∀b,f x b=pure (.yield (g b x)))→forIn l b f=pure (l.foldl g b)
  | [],b,_=>rfl
  | x::l,b,h=>by
    rw [List.forIn_cons,h x List.mem_cons_self b]
    exact zkm f g l (g b x) fun y hy=>h y (List.mem_cons_of_mem _ hy)
noncomputable def clGo (env:Env) (acc:List (Str×Addr)) (y:Str×NameKind):List (Str×Addr):=if y.2 == .free then (y.1,(env.cells.lookup y.1).getD 0)::acc else acc
noncomputable def clOf (scope:Scope) (env:Env):List (Str×Addr):=scope.names.foldl (clGo env) []
theorem znd {scope:Scope} {env:Env} (h:∀y∈scope.names,y.2=.free→∃c,env.cells.lookup y.1=some c):closureFor scope env=pure (clOf scope env):=by
  simp only [closureFor]
  rw [zkm _ (clGo env) scope.names [] (fun y hy b=>?_)]
  · rfl
  · obtain ⟨n,k⟩:=y
    by_cases hk:k=.free
    · subst hk
      obtain ⟨c,e⟩:=h _ hy rfl
      have e':env.cells.lookup n=some c:=e
      simp only [clGo,beq_self_eq_true,if_true,cellOf,e',Option.getD_some]
      rfl
    · have:(k==NameKind.free)=false:=by simpa using hk
      simp only [clGo,this,Bool.false_eq_true,if_false]
theorem zpl {env:Env}:∀(names:List (Str×NameKind)) (acc:List (Str×Addr)),(∀y∈names,y.2=.free→∃c,env.cells.lookup y.1=some c)→(∀y c,acc.lookup y=some c→env.cells.lookup y=some c) →
    ∀y c,(names.foldl (clGo env) acc).lookup y=some c→env.cells.lookup y=some c
  | [],acc,_,h,y,c,e=>h y c e
  | (n,k)::r,acc,hf,h,y,c,e=>by
    rw [List.foldl_cons] at e
    refine zpl r _ (fun z hz=>hf z (List.mem_cons_of_mem _ hz)) (fun y c e=>?_) y c e
    unfold clGo at e
    by_cases hk:k=.free
    · subst hk
      obtain ⟨c0,e0⟩:=hf _ List.mem_cons_self rfl
      have e0':env.cells.lookup n=some c0:=e0
      simp only [beq_self_eq_true,if_true,e0',Option.getD_some,List.lookup_cons] at e
      by_cases hy:y=n
      · subst hy
        simp at e
        rw [←e];exact e0'
      · have hb:(y==n)=false:=by simpa using hy
        simp only [hb] at e
        exact h y c e
    · have hb:(k==NameKind.free)=false:=by simpa using hk
      simp only [hb,Bool.false_eq_true,if_false] at e
      exact h y c e
theorem znf {env:Env}:∀(names:List (Str×NameKind)) (acc:List (Str×Addr)) (y:Str),(y,NameKind.free)∈names∨(∃c,acc.lookup y=some c)→∃c,(names.foldl (clGo env) acc).lookup y=some c
  | [],acc,y,h=>by
    rcases h with h|h
    · simp at h
    · exact h
  | (n,k)::r,acc,y,h=>by
    rw [List.foldl_cons]
    refine znf r _ y ?_
    rcases h with h|⟨c,h⟩
    · rcases List.mem_cons.mp h with h|h
      · cases h
        exact .inr ⟨(env.cells.lookup n).getD 0,by simp [clGo]⟩
      · exact .inl h
    · refine .inr ?_
      unfold clGo
      by_cases hk:k=.free
      · subst hk
        simp only [beq_self_eq_true,if_true,List.lookup_cons]
        by_cases hy:y=n
        · subst hy;simp
        · have hb:(y==n)=false:=by simpa using hy
          simp only [hb]
          exact ⟨c,h⟩
      · have hb:(k==NameKind.free)=false:=by simpa using hk
        simp only [hb,Bool.false_eq_true,if_false]
        exact ⟨c,h⟩
theorem zfv {scope:Scope} {env:Env} {y:Str} {k:NameKind} (h:(relabel scope env).names.lookup y=some k):∃k',(y,k')∈scope.names∧(k=k'∨(k'=.free∧k=.cell)):=by
  have go:∀(l:List (Str×NameKind)),(l.map fun (n,k)=>if (k == .free&&env.scope.kind == .function&&env.kindOf n==some .cell) then (n,NameKind.cell) else (n,k)).lookup y=some k→∃k',(y,k')∈l∧(k=k'∨(k'=.free∧k=.cell)):=by
    intro l
    induction l with
    | nil=>intro h;simp at h
    | cons a r ih =>
      obtain ⟨n,k0⟩:=a
      intro h
      rw [List.map_cons] at h
      by_cases hc:(k0==NameKind.free&&env.scope.kind == .function&&env.kindOf n==some .cell)=true
      · simp only [hc,if_true,List.lookup_cons] at h
        by_cases hy:y=n
        · subst hy
          simp only [beq_self_eq_true] at h
          refine ⟨k0,List.mem_cons_self,.inr ⟨?_,by simpa using h.symm⟩⟩
          simp only [Bool.and_eq_true] at hc
          simpa using hc.1.1
        · have hb:(y==n)=false:=by simpa using hy
          simp only [hb] at h
          obtain ⟨k',m,q⟩:=ih h
          exact ⟨k',List.mem_cons_of_mem _ m,q⟩
      · dsimp only at h
        rw [if_neg hc] at h
        by_cases hy:y=n
        · subst hy
          simp at h
          exact ⟨k0,List.mem_cons_self,.inl h.symm⟩
        · have hb:(y==n)=false:=by simpa using hy
          simp only [List.lookup_cons,hb] at h
          obtain ⟨k',m,q⟩:=ih h
          exact ⟨k',List.mem_cons_of_mem _ m,q⟩
  exact go scope.names h
theorem zia {scope:Scope} {env:Env} {y:Str} (hk:env.scope.kind=.function) (hc:env.kindOf y=some .cell) (h:scope.names.lookup y=some .free):(relabel scope env).names.lookup y=some .cell:=by
  have go:∀(l:List (Str×NameKind)),l.lookup y=some .free→(l.map fun (n,k)=>if (k == .free&&env.scope.kind == .function&&env.kindOf n==some .cell) then (n,NameKind.cell) else (n,k)).lookup y=some .cell:=by
    intro l
    induction l with
    | nil=>intro h;simp at h
    | cons a r ih =>
      obtain ⟨n,k0⟩:=a
      intro h
      rw [List.map_cons]
      by_cases hy:y=n
      · subst hy
        simp only [List.lookup_cons,beq_self_eq_true,Option.some.injEq] at h
        subst h
        simp [hk,hc]
      · have hb:(y==n)=false:=by simpa using hy
        simp only [List.lookup_cons,hb] at h
        by_cases hcc:(k0==NameKind.free&&env.scope.kind == .function&&env.kindOf n==some .cell)=true
        · simp only [hcc,if_true,List.lookup_cons,hb]
          exact ih h
        · dsimp only
          rw [if_neg hcc]
          simp only [List.lookup_cons,hb]
          exact ih h
  exact go scope.names h
structure CompScope (osc:Scope) (x:Str) (M:List Str) (scope:Scope):Prop where
  kind:scope.kind=.function
  nocell:∀y∈scope.names,y.2≠.cell
  names:∀y∈scope.names,y.2=.local→scope.names.lookup y.1=some .local
  own:scope.names.lookup x=some .local
  free:∀y∈scope.names,y.2=.free→osc.names.lookup y.1=some .cell
  nd:(x::M).Nodup
  mine:∀y∈M,scope.names.lookup y=some .free
noncomputable def cxComp (X:Cx) (scope:Scope) (C:Addr) (N:List Str) (fp:List Addr) (pins:List (Addr×Obj)) (s:Shared) (H:Hp):Cx where
  prog:=X.prog
  w:=X.w
  K:=X.K
  mg:=X.mg
  base:=X.base
  A:=X.A
  N:=N
  s₀:=s
  H₀:=H
  env:=compEnvC scope (clOf scope X.env) C X.env
  outer:=X.stack
  stack:=X.stack
  ex:=fp
  fn:=fun _=>false
  calm:=true
  pn:=X.pn++pins
  xe:=fun _ _=>False
noncomputable def pick (σ:L2.St) (js:List Nat):L2.St:=js.map fun j=>(σ[j]?).getD none
section
variable {X:Cx} {pins:List (Addr×Obj)} {σ:L2.St} {H:Hp} {s:Shared} {scope:Scope} {x:Str} {M:List Str} {js:List Nat} {C:Addr} {fp:List Addr}
theorem CompScope.cells (S:CompScope X.env.scope x M scope) (I:Inv X pins σ H s):∀y∈scope.names,y.2=.free→∃c,X.env.cells.lookup y.1=some c:=fun y hy hk=>I.ok.has y.1 (.inl (S.free y hy hk))
theorem CompScope.sub (S:CompScope X.env.scope x M scope) (I:Inv X pins σ H s) {y:Str} {c:Addr} (e:(clOf scope X.env).lookup y=some c):X.env.cells.lookup y=some c :=
  zpl scope.names [] (S.cells I) (fun _ _ h=>by simp at h) y c e
theorem zop {s1:Shared} {m:Str→Option Value} (S:CompScope X.env.scope x M scope) (hc:X.calm=true) (I:Inv X pins σ H s) (hjs:∀(k:Nat) (y:Str),M[k]?=some y→∃j:Nat,js[k]?=some j∧X.N[j]?=some y) (hlen:js.length=M.length)
    (hf:∀b∈fp,FpOk X pins H b) (hfl:∀b∈fp,b<s.heap.objs.size) (hC:s.heap.objs.size≤C) (hn:s1.heap.Ns C m) (hk:∀b o,s.heap.get? b=some o→s1.heap.get? b=some o) (hos:s1.os=s.os) (hg:AllBare s1.gens) :
    Inv (cxComp X scope C (x::M) fp pins s H) [] (none::pick σ js) H s1:=by
  have nst:∀b∈fp,b∉frs X.stack:=fun b hb z=>by
    obtain ⟨f0,f1,f2,_⟩:=hf b hb
    rcases List.mem_cons.mp (I.stkSub b z) with e|e
    · exact f1 e
    · exact f2 e
  have cellK:∀(c:Addr) (v:Option Value),s.heap.IsCell c v→s1.heap.IsCell c v:=fun c v z_1=>by obtain ⟨o,e,d⟩:=z_1;exact ⟨o,hk c o e,d⟩
  refine ⟨⟨I.ok.mod,S.kind,I.ok.glob,I.ok.blt,hC,fun y z c h1 h2=>I.ok.inj y z c (S.sub I h1) (S.sub I h2),fun y hy=>?_,fun y c h _=>(by cases (show false=true from h)),fun _=>I.ok.hd hc,I.ok.frames,.inl rfl,fun b hb=>?_,I.bs,
    Nat.le_trans I.ok.bsz I.sz,fun b o e hb=>?_,nst,I.stack,I.stkFree⟩,hos,hg,Un.kept hk,⟨m,hn,fun i y v h1 h2 h3=>?_⟩,fun y c e=>?_,I.hok.fresh hC,fun y c e=>I.freeC y c (S.sub I e),fun p hp=>?_,I.hok.kept hk,?_⟩
  · have hy':(relabel scope X.env).names.lookup y=some .cell∨(relabel scope X.env).names.lookup y=some .free:=hy
    have fr:(y,NameKind.free)∈scope.names:=by
      rcases hy' with h|h
      · obtain ⟨k',mm,e|e⟩:=zfv h
        · exact absurd e.symm (S.nocell _ mm)
        · rw [e.1] at mm;exact mm
      · obtain ⟨k',mm,e|e⟩:=zfv h
        · rw [←e] at mm;exact mm
        · exact absurd e.2 (by intro z;cases z)
    exact znf scope.names [] y (.inl fr)
  · obtain ⟨f0,f1,f2,f3,f4,f5⟩:=hf b hb
    exact ⟨Nat.ne_of_lt (Nat.lt_of_lt_of_le (hfl b hb) hC),fun y c e=>f4 y c (S.sub I e)⟩
  · obtain ⟨f0,f1,f2,f3,f4,f5⟩:=hf b hb
    rcases f3 with f3|f3
    · exact I.ok.noex b o e f3
    · exact absurd (Heap.lt_size e) (Nat.not_lt.mpr (Nat.le_trans I.ok.bsz f3))
  · cases i with
    | zero =>
      have h2':(none:Option V)=some v:=by simpa using h2
      cases h2'
    | succ k =>
      have h1':M[k]?=some y:=by
        have z:(x::M)[k+1]?=some y:=h1
        simpa using z
      have h2':(pick σ js)[k]?=some (some v):=by simpa using h2
      obtain ⟨j,ej,eN⟩:=hjs k y h1'
      have eσ:σ[j]?=some (some v):=by
        unfold pick at h2'
        rw [List.getElem?_map,ej] at h2'
        have z:(σ[j]?).getD none=some v:=by simpa using h2'
        cases q:σ[j]? with
        | none=>rw [q] at z;cases z
        | some o=>rw [q] at z;rw [show o=some v from z]
      have hfree:=S.mine y (List.mem_of_getElem? h1')
      have hcell:X.env.kindOf y=some .cell:=S.free (y,.free) (PySem.mem_of_lookup hfree) rfl
      obtain ⟨m0,_,hl0⟩:=I.loc
      obtain ⟨u,r,l⟩:=hl0 j y v eN eσ (.inr (.inl hcell))
      refine ⟨u,r,.inr ⟨.inl (zia I.ok.kind hcell hfree),?_⟩⟩
      obtain ⟨c',e'⟩:=znf (env:=X.env) scope.names [] y (.inl (PySem.mem_of_lookup hfree))
      have e2:=S.sub I (show (clOf scope X.env).lookup y=some c' from e')
      rcases l with ⟨z,_⟩|⟨_,c,hcc,hic⟩
      · rw [hcell] at z;cases z
      · rw [hcc] at e2
        have:c=c':=Option.some.inj e2
        subst this
        exact ⟨c,e',cellK c _ hic⟩
  · obtain ⟨v,h⟩:=I.cell y c (S.sub I e)
    exact ⟨v,cellK c v h⟩
  · have hp':p∈X.pn++pins:=by simpa [cxComp] using hp
    obtain ⟨e,n,ne,nf,d⟩:=I.pin p hp'
    refine ⟨hk _ _ e,n,Nat.ne_of_lt (Nat.lt_of_lt_of_le (Heap.lt_size e) hC),fun z=>?_,d⟩
    rcases List.mem_cons.mp (I.stkSub p.1 z) with q|q
    · exact ne q
    · exact nf q
  · show (none::pick σ js).length=(x::M).length
    simp [pick,hlen]
theorem zkt {N:List Str} {pins':List (Addr×Obj)} {σ':L2.St} {H':Hp} {s':Shared} {h':Heap} (I:Inv X pins σ H s) (hf:∀b∈fp,FpOk X pins H b) (J:Inv (cxComp X scope C N fp pins s H) pins' σ' H' s')
    (hC:s.heap.objs.size≤C) (hs:Heap.SameBut C s'.heap h'):Inv X pins σ H' {s' with heap:=h'}:=by
  have u0:Un (frs X.stack) fp H H' s.heap s'.heap:=J.base
  have nC:∀b o,s.heap.get? b=some o→b≠C:=fun b o e z=>absurd (Heap.lt_size e) (by rw [z];exact Nat.not_lt.mpr hC)
  have u:Un (frs X.stack) fp H H' s.heap h':=⟨fun b o e n hb hx=>(hs.2 b (nC b o e)).trans (u0.keep b o e n hb hx),fun b o e n hb hx=>let ⟨sl,q⟩:=u0.slot b o e n hb hx;⟨sl,(hs.2 b (nC b o e)).trans q⟩,u0.free,
    fun b o e hx=>let ⟨o',q⟩:=u0.there b o e hx;⟨o',(hs.2 b (nC b o e)).trans q⟩,u0.tups,u0.frzs,u0.tbls⟩
  have fC:H' C=none:=J.free
  have hok:HOk X.prog X.w H' h':=fun b ob e=>(J.hok b ob e).stay (fun c w hc q=>(hs.2 c (fun z=>by
    subst z
    rcases hc with z|z
    · rw [←z,fC] at e;cases e
    · rw [fC] at z;cases z)).trans q) (fun _ q=>q) fun _ _ q=>q
  exact I.call' (s':={s' with heap:=h'}) (ch:=fp) J.os u hok J.bare fun b hb=>by
    obtain ⟨f0,f1,f2,f3,f4,f5⟩:=hf b hb
    exact ⟨f3,f1,f4,f5⟩
end
def tComp (wi:TI) (te:TE) (js:List Nat):TE:=fun σ H Q=>wi σ H fun J H1=>∀D,H1 D=none→∃W:Nat→Nat→Hp→Prop,(∃m,W 0 m (upd H1 D (.lst [])))∧∀i m H2,W i m H2 →
  (J.stop i H2∧Q (.ref D) H2)∨(J.go i H2∧∃N:Hp→Prop,(∀H',N H'→∃m',m'<m∧W (i+1) m' H')∧∀v H',J.yld i H2 v H' →
    te (some v::pick σ js) H' fun y H3=>∃ys,H3 D=some (.lst ys)∧ys.length<sizeLine∧N (upd H3 D (.lst (ys++[y]))))
section
variable {X:Cx} {elt iter:Expr} {x:Str} {px pos:Pos} {scope:Scope} {M:List Str} {js:List Nat} {wi:TI} {te:TE}
theorem zi2 {prog:Program} {w:World} {A:Around} {R:Result→Shared→Prop} {s:Shared} {target:Expr} {it acc:Value} {env:Env} (I:Nat→Shared→Prop)
    (turn:∀n s,I n s→wpAny (model prog w) A (pyNext it) (fun r s₁=>match r with
      | none=>R (.ok .next) s₁
      | some v=>wpAny (model prog w) A (letOwnedTupleGo target it v) (fun _ s₂=>wpAny (model prog w) A (assign target env v) (fun _ s₃=>wpAny (model prog w) A (eval elt env) (fun y s₄ =>
          wpAny (model prog w) A (call (.builtin "list.append") [acc,y]) (fun _ s₅=>∃m,m<n∧I m s₅) (fun _ _=>False) s₄) (fun _ _=>False) s₃) (fun _ _=>False) s₂) (fun _ _=>False) s₁) (fun _ _=>False) s)
    (n:Nat) (h:I n s):codeAny (model prog w) A (.compLoop (.ListComp elt [⟨target,iter,[],0⟩] scope pos) 0 it acc env) R s:=by
  refine codeAny_loop rfl I (fun n s hI=>?_) n h
  show wpAny _ _ ((compTurn (.ListComp elt [⟨target,iter,[],0⟩] scope pos) 0 it acc env).onRaise (fun x=>do noteFrame x env;theTreesLotGoes x)) _ _ s
  refine wpAny_noted ?_
  rw [compTurn_list1]
  refine wpAny_bind (wpAny_standAt (wpAny_bind (wpAny_mono (turn n s hI) (fun r s₁ h₁=>?_) fun _ _ z=>z.elim)))
  cases r with
  | none=>exact wpAny_pure h₁
  | some v =>
    exact wpAny_bind (wpAny_mono h₁ (fun _ s₂ h₂=>wpAny_bind (wpAny_mono h₂ (fun _ s₃ h₃=>wpAny_bind (wpAny_bind (wpAny_mono h₃ (fun y s₄ h₄=>wpAny_bind (wpAny_mono h₄
      (fun _ s₅ h₅=>wpAny_pure (wpAny_pure ⟨rfl,h₅⟩)) fun _ _ z=>z.elim)) fun _ _ z=>z.elim))) fun _ _ z=>z.elim)) fun _ _ z=>z.elim)
theorem zgs {pins:List (Addr×Obj)} {σ:L2.St} {H2:Hp} {s2:Shared} {it D:Addr} {fp:List Addr} {tn:Nat→Heap→Prop} {J:It} {W:Nat→Nat→Hp→Prop} {Qe:Hp→Prop} {R:Addr→Result→Shared→Prop} {E:Value→Shared→Prop} {m0:Nat}
    (S:CompScope X.env.scope x M scope) (hc:X.calm=true) (hjs:∀(k:Nat) (y:Str),M[k]?=some y→∃j:Nat,js[k]?=some j∧X.N[j]?=some y) (hlen:js.length=M.length)
    (he:∀(C:Addr) (fp:List Addr) (pins:List (Addr×Obj)) (s:Shared) (H:Hp),PE (cxComp X scope C (x::M) fp pins s H) elt te)
    (I:Inv X pins σ H2 s2) (T:Turn X.prog X.w X.K (.Name x px) J fp it tn) (st:tn 0 s2.heap) (hf:∀b∈fp,FpOk X pins H2 b) (w0:W 0 m0 H2)
    (turn:∀i m H3,W i m H3→(J.stop i H3∧Qe H3)∨(J.go i H3∧∃N:Hp→Prop,(∀H',N H'→∃m',m'<m∧W (i+1) m' H')∧∀v H',J.yld i H3 v H' →
      te (some v::pick σ js) H' fun y H4=>∃ys,H4 D=some (.lst ys)∧ys.length<sizeLine∧N (upd H4 D (.lst (ys++[y])))))
    (fin:∀(C:Addr) (s':Shared) (H':Hp) (pins':List (Addr×Obj)) (σ':L2.St),s2.heap.objs.size≤C→Inv (cxComp X scope C (x::M) fp pins s2 H2) pins' σ' H' s'→Qe H'→R C (.ok .next) s') :
    wpAny (model X.prog X.w) X.A (newFunctionEnv scope X.env.globals (clOf scope X.env) [] X.env.qual none .none (some X.env)) (fun cenv s4 =>
      codeAny (model X.prog X.w) X.A (.compStart (.ListComp elt [⟨.Name x px,iter,[],0⟩] scope pos) 0 (.ref it) (.ref D) {cenv with scope:=relabel scope X.env}) (R cenv.locals) s4) E s2:=by
  refine wpAny_newFunctionEnv S.nocell (by intro y hy;simp at hy) (fun h1 hns hsb=>?_) S.kind
  have hfl:∀b∈fp,b<s2.heap.objs.size:=fun b hb=>by
    obtain ⟨o,e,_⟩:=T.obj 0 _ st b hb
    exact Heap.lt_size e
  have old:∀b o,s2.heap.get? b=some o→h1.get? b=some o:=fun b o e=>(hsb.2 b (Nat.ne_of_lt (Heap.lt_size e))).trans (Heap.get?_push_of_some _ e)
  have I4:Inv (cxComp X scope s2.heap.objs.size (x::M) fp pins s2 H2) [] (none::pick σ js) H2 {s2 with heap:=h1,toks:=s2.toks+([]:List (Str×Value)).length} :=
    zop S hc I hjs hlen hf hfl (Nat.le_refl _) hns old rfl I.bare
  have st4:tn 0 h1:=T.keep _ _ _ st fun b hb o e=>old b o e
  have stat:∀{H':Hp},(∀b∈fp,H' b=none)→∀b∈fp,FpOk (cxComp X scope s2.heap.objs.size (x::M) fp pins s2 H2) [] H' b:=fun {H'} hn b hb=>by
    obtain ⟨f0,f1,f2,f3,f4,f5⟩:=hf b hb
    refine ⟨hn b hb,Nat.ne_of_lt (hfl b hb),I4.ok.exfs b hb,.inl hb,fun y c e=>f4 y c (S.sub I e),fun p hp=>f5 p ?_⟩
    simpa [cxComp] using hp
  have loop:∀s3:Shared,s3={s2 with heap:=h1,toks:=s2.toks+([]:List (Str×Value)).length} →
      codeAny (model X.prog X.w) X.A (.compLoop (.ListComp elt [⟨.Name x px,iter,[],0⟩] scope pos) 0 (.ref it) (.ref D) (compEnvC scope (clOf scope X.env) s2.heap.objs.size X.env)) (R s2.heap.objs.size) s3:=by
    rintro s3 rfl
    refine zi2 (fun n s'=>∃i x0 H',Inv (cxComp X scope s2.heap.objs.size (x::M) fp pins s2 H2) [] (x0::pick σ js) H' s'∧tn i s'.heap∧(∀b∈fp,H' b=none)∧W i n H') ?_ m0 ⟨0,none,H2,I4,st4,fun b hb=>(hf b hb).1,w0⟩
    rintro n s5 ⟨i,x0,H5,I5,st5,fr5,w5⟩
    rcases turn i n H5 w5 with ⟨stop,qe⟩|⟨go,N,hN,step⟩
    · refine thn (T.done (cxComp X scope s2.heap.objs.size (x::M) fp pins s2 H2) rfl rfl rfl rfl i [] s5 _ H5 (fun _ _=>False) I5 (stat fr5) st5 stop) fun r s6 ⟨hr,I6⟩=>?_
      subst hr
      exact fin _ s6 H5 [] _ (Nat.le_refl _) I6 qe
    · refine thn (T.item (cxComp X scope s2.heap.objs.size (x::M) fp pins s2 H2) rfl rfl rfl rfl i [] s5 _ H5 (fun _ _=>False) I5 (stat fr5) st5 go) fun r s6 ⟨u,hr,h6⟩=>?_
      subst hr
      refine thn h6 fun _ s7 ⟨v,H7,I7,r7,y7,st7,fr7⟩=>?_
      have I7':=I7.pinned (stat fr7) (T.obj _ _ st7)
      have hg:PG (cxComp X scope s2.heap.objs.size (x::M) fp pins s2 H2) (.Name x px) (gName 0):=zl8 (i:=0) S.nd rfl (.inl (lookup_relabel_local S.own)) (.inr (lookup_relabel_local S.own))
      refine thn (hg _ s7 _ H7 v u (fun σ' H'=>σ'=some v::pick σ js∧H'=H7) I7' r7 ⟨rfl,rfl⟩) fun _ s8 ⟨σ8,H8,I8,e8,e8'⟩=>?_
      subst e8 e8'
      refine thn (he s2.heap.objs.size fp pins s2 H2 _ s8 _ H8 _ I8 (step v H8 y7)) fun yv s9 ⟨y,H9,I9,r9,ys,hD,hz,n9⟩=>?_
      refine thn (zfz (X:=cxComp X scope s2.heap.objs.size (x::M) fp pins s2 H2) _ s9 _ H9 (.ref D) [y] (.ref D) [yv] (fun _ H'=>N H') I9 rfl (.cons r9 .nil) ⟨D,ys,y,rfl,rfl,hD,hz,n9⟩) fun _ s10 ⟨_,H10,I10,_,n10⟩=>?_
      obtain ⟨m',hm,w10⟩:=hN H10 n10
      refine ⟨m',hm,i+1,_,H10,I10.unpinned,T.keep _ _ _ st7 fun b hb o e=>(I10.pin (b,o) (List.mem_append_right _ (List.mem_append_right _ (zdv hb e)))).1,fun b hb=>?_,w10⟩
      obtain ⟨o,e,d⟩:=T.obj _ _ st7 b hb
      exact (I10.pin (b,o) (List.mem_append_right _ (List.mem_append_right _ (zdv hb e)))).2.1
  exact codeAny_compStart_list (loop _ rfl) (wpAny_mono (T.self X.A 0 _ _ _ st4 (loop _ rfl)) (fun _ _ z=>z) fun _ _ z=>z)
theorem zp6 (S:CompScope X.env.scope x M scope) (hc:X.calm=true) (hjs:∀(k:Nat) (y:Str),M[k]?=some y→∃j:Nat,js[k]?=some j∧X.N[j]?=some y) (hlen:js.length=M.length) (hi:PI X (.Name x px) iter wi)
    (he:∀(C:Addr) (fp:List Addr) (pins:List (Addr×Obj)) (s:Shared) (H:Hp),PE (cxComp X scope C (x::M) fp pins s H) elt te) (hs:∀v,foldedSetIterable iter X.env v=pure v:=by intro _;rfl) :
    PE X (.ListComp elt [⟨.Name x px,iter,[],0⟩] scope pos) (tComp wi te js):=by
  intro pins s σ H Q I h
  rw [eval_ListComp]
  refine wpAny_comprehension_free (use:=none) rfl hs (znd (S.cells I)) S.kind S.names (thn (hi pins s σ H _ I h) fun xv s1 h1=>thn h1 fun itv s2 h2=>?_)
  obtain ⟨it,fp,tn,J,H1,rfl,I2,T,st2,f2,q⟩:=h2
  refine wpAny_newObj_type ?_ (by show 0≤sizeLine;decide)
  have hD:H1 s2.heap.objs.size=none:=I2.hok.fresh (Nat.le_refl _)
  obtain ⟨W,⟨m0,w0⟩,turn⟩:=q _ hD
  have I3:Inv X pins σ (upd H1 s2.heap.objs.size (.lst [])) {s2 with heap:=s2.heap.push {cls:=.type "list",data:=.seq ([]:List Value).toArray}}:=I2.lnew (t':=s2.toks) .nil (Nat.zero_le _)
  have fr3:∀b∈fp,FpOk X pins (upd H1 s2.heap.objs.size (.lst [])) b:=fun b hb=>by
    obtain ⟨f0,f⟩:=f2 b hb
    obtain ⟨o,e,_⟩:=T.obj 0 _ st2 b hb
    exact ⟨by rw [zar (Nat.ne_of_lt (Heap.lt_size e))];exact f0,f⟩
  refine zgs (Qe:=fun H'=>Q (.ref s2.heap.objs.size) H') (R:=fun C=>compPost (model X.prog X.w) X.A X.xe none (EP X pins σ Q) (.ref s2.heap.objs.size) C) S hc hjs hlen he I3 T (T.keep _ _ _ st2 fun b hb o e=>Heap.get?_push_of_some _ e) fr3 w0 turn ?_
  intro C s' H' pins' σ' hC Jv qe
  obtain ⟨m,hn,_⟩:=Jv.loc
  exact ⟨m,hn,fun h' hs'=>⟨.ref _,H',zkt I3 fr3 Jv hC hs',rfl,qe⟩⟩
theorem zpz {i:Nat} {y:Str} {py spos:Pos} (S:CompScope X.env.scope x M scope) (hc:X.calm=true) (hjs:∀(k:Nat) (y:Str),M[k]?=some y→∃j:Nat,js[k]?=some j∧X.N[j]?=some y) (hlen:js.length=M.length) (hi:PI X (.Name x px) iter wi)
    (he:∀(C:Addr) (fp:List Addr) (pins:List (Addr×Obj)) (s:Shared) (H:Hp),PE (cxComp X scope C (x::M) fp pins s H) elt te)
    (hN:X.N.Nodup) (hy:X.N[i]?=some y) (hl:X.env.scope.names.lookup y=some .local)
    (hsw:swapsWith (.ListComp elt [⟨.Name x px,iter,[],0⟩] scope pos) (some (.Name y py)) spos.line X.env=pure true:=by rfl) (hs:∀v,foldedSetIterable iter X.env v=pure v:=by intro _;rfl) :
    PS X (.Assign [.Name y py] (.ListComp elt [⟨.Name x px,iter,[],0⟩] scope pos) spos) (tAsg (tComp wi te js) (gName i)):=by
  intro pins s σ H D0 I h
  rw [exec_Assign_Name_used _ _ _ _ hsw]
  refine wpAny_bind (wpAny_standAt (wpAny_bind ?_))
  show wpAny _ X.A (do let _ ←comprehension (.ListComp elt [⟨.Name x px,iter,[],0⟩] scope pos) scope X.env _ (newList []) false (eval iter X.env) (some (assign (.Name y py) X.env))) _ _ s
  refine wpAny_bind (wpAny_mono (wpAny_comprehension_free (use:=some (assign (.Name y py) X.env)) (Q:=fun _ s'=>SP X pins D0 .next s') rfl hs (znd (S.cells I)) S.kind S.names
    (thn (hi pins s σ H _ I h) fun xv s1 h1=>thn h1 fun itv s2 h2=>?_)) (fun _ s' hq=>wpAny_pure (wpAny_pure hq)) fun _ _ e=>e)
  obtain ⟨it,fp,tn,J,H1,rfl,I2,T,st2,f2,q⟩:=h2
  refine wpAny_newObj_type ?_ (by show 0≤sizeLine;decide)
  have hD:H1 s2.heap.objs.size=none:=I2.hok.fresh (Nat.le_refl _)
  obtain ⟨W,⟨m0,w0⟩,turn⟩:=q _ hD
  have I3:Inv X pins σ (upd H1 s2.heap.objs.size (.lst [])) {s2 with heap:=s2.heap.push {cls:=.type "list",data:=.seq ([]:List Value).toArray}}:=I2.lnew (t':=s2.toks) .nil (Nat.zero_le _)
  have fr3:∀b∈fp,FpOk X pins (upd H1 s2.heap.objs.size (.lst [])) b:=fun b hb=>by
    obtain ⟨f0,f⟩:=f2 b hb
    obtain ⟨o,e,_⟩:=T.obj 0 _ st2 b hb
    exact ⟨by rw [zar (Nat.ne_of_lt (Heap.lt_size e))];exact f0,f⟩
  refine zgs (Qe:=fun H'=>gName i (.ref s2.heap.objs.size) σ H' D0.nx) (R:=fun C=>compPost (model X.prog X.w) X.A X.xe (some (assign (.Name y py) X.env)) (fun _ s'=>SP X pins D0 .next s') (.ref s2.heap.objs.size) C) S hc hjs hlen he I3 T
    (T.keep _ _ _ st2 fun b hb o e=>Heap.get?_push_of_some _ e) fr3 w0 turn ?_
  intro C s' H' pins' σ' hC Jv qe
  have Ie:Inv X pins σ H' s':=zkt I3 fr3 Jv hC (Heap.SameBut.refl ..)
  obtain ⟨m,hn,_⟩:=Jv.loc
  have fC:=I3.fpOk (H':=H') hC Jv.free
  obtain ⟨c0,c1,c2,c3,c4,c5⟩:=fC
  show wpAny _ X.A (assign (.Name y py) X.env (.ref s2.heap.objs.size)) (fun _ s''=>∃m,s''.heap.Ns C m∧∀h',Heap.SameBut C s''.heap h'→SP X pins D0 .next {s'' with heap:=h'}) X.xe s'
  refine wpAny_assign_Name (zh3 Ie hN hy (.inl hl) (show RelV (.ref s2.heap.objs.size) (.ref s2.heap.objs.size) from rfl) (fun s'' I'' ⟨a,hsb,ha⟩=>?_) (.inr hl))
  have hCa:C≠a:=by
    rcases ha with rfl|ha
    · exact c1
    · exact Ne.symm (c4 _ _ ha)
  exact ⟨m,hn.sameBut hsb hCa,fun h' hs'=>⟨_,H',I''.turned (t':=s''.toks) (fun b o hb e=>(hs'.2 b hb).trans e) c0 c1 c3 c4 c5,qe⟩⟩
end
end EE
namespace EE
open PySem PySem.Spec PyProof.Rows L2
section
variable {X:Cx} {elt iter:Expr} {x:Str} {px pos:Pos} {scope osc:Scope} {M N:List Str} {js:List Nat} {wi:TI} {te:TE}
theorem zoo (hjs:M.map some=js.map fun j=>N[j]?):(∀(k:Nat) (y:Str),M[k]?=some y→∃j:Nat,js[k]?=some j∧N[j]?=some y)∧js.length=M.length:=by
  constructor
  · intro k y h
    have e:(M.map some)[k]?=some (some y):=by rw [List.getElem?_map,h];rfl
    rw [hjs,List.getElem?_map] at e
    cases q:js[k]? with
    | none=>rw [q] at e;cases e
    | some j =>
      rw [q] at e
      exact ⟨j,rfl,by simpa using e⟩
  · have:=congrArg List.length hjs
    simpa using this.symm
theorem zn5 (S:CompScope osc x M scope) (hjs:M.map some=js.map fun j=>N[j]?) (hc:X.calm=true) (hi:PI X (.Name x px) iter wi)
    (he:∀(C:Addr) (fp:List Addr) (pins:List (Addr×Obj)) (s:Shared) (H:Hp),PE (cxComp X scope C (x::M) fp pins s H) elt te)
    (hosc:X.env.scope=osc:=by rfl) (hN:X.N=N:=by rfl) (hs:∀v,foldedSetIterable iter X.env v=pure v:=by intro _;rfl) :
    PE X (.ListComp elt [⟨.Name x px,iter,[],0⟩] scope pos) (tComp wi te js):=by
  subst hosc hN
  exact zp6 S hc (zoo hjs).1 (zoo hjs).2 hi he hs
theorem zny {i:Nat} {y:Str} {py spos:Pos} (S:CompScope osc x M scope) (hjs:M.map some=js.map fun j=>N[j]?) (hc:X.calm=true) (hi:PI X (.Name x px) iter wi)
    (he:∀(C:Addr) (fp:List Addr) (pins:List (Addr×Obj)) (s:Shared) (H:Hp),PE (cxComp X scope C (x::M) fp pins s H) elt te)
    (hNd:X.N.Nodup) (hy:X.N[i]?=some y) (hl:X.env.scope.names.lookup y=some .local)
    (hosc:X.env.scope=osc:=by rfl) (hN:X.N=N:=by rfl)
    (hsw:swapsWith (.ListComp elt [⟨.Name x px,iter,[],0⟩] scope pos) (some (.Name y py)) spos.line X.env=pure true:=by rfl) (hs:∀v,foldedSetIterable iter X.env v=pure v:=by intro _;rfl) :
    PS X (.Assign [.Name y py] (.ListComp elt [⟨.Name x px,iter,[],0⟩] scope pos) spos) (tAsg (tComp wi te js) (gName i)):=by
  subst hosc hN
  exact zpz S hc (zoo hjs).1 (zoo hjs).2 hi he hNd hy hl hsw hs
end
def ScR (K:PySem.W.Frag) (H:Hp) (a:Addr) (xs:List V):Prop:=(∃o,H a=some (.frz o (.lst xs))) ∨
    ∃(o:Obj) (its:Array Value) (n:Nat),K.lookup a=some o∧o.cls=.type "list"∧o.dict=none∧o.data=.seq its n∧its.size≤sizeLine∧Vals xs its.toList
theorem ScR.sq {K:PySem.W.Frag} {H:Hp} {a:Addr} {xs:List V} (h:ScR K H a xs):SqL K H a xs:=by
  rcases h with ⟨o,h⟩|h
  · exact .inl (.inr ⟨o,h⟩)
  · exact .inr h
theorem ScR.of {K:PySem.W.Frag} {H:Hp} {a:Addr} {xs:List V} (h:SqL K H a xs) (o:Only H):ScR K H a xs:=by
  rcases h with (h|h)|h
  · rcases o a with e|⟨ob,ys,e⟩
    · rw [e] at h;cases h
    · rw [e] at h;cases h
  · exact .inl h
  · exact .inr h
end EE
namespace EE
open PySem PySem.Spec PyProof.Rows L2
end EE
namespace E3
open PySem PySem.Spec PyProof.Rows L2 EE
inductive D where
  | non|bl (b:Bool)|int (i:Int)|str (x:Str)|tup (xs:List D)|rol (xs:List D)|ref (a:Addr)|ty (n:String)
inductive O where
  | lst (xs:List D)|dic (kvs:List (Key×D))|exc (C:Addr)|ins (C:Addr) (fs:List (Str×D))
noncomputable abbrev Hp3:=Addr→Option O
noncomputable abbrev St3:=List (Option D)
noncomputable abbrev K3:=D→Hp3→Prop
noncomputable abbrev X3:=Addr→Addr→Hp3→Prop
noncomputable abbrev W3T:=St3→X3
noncomputable def up (S:Hp3) (a:Addr) (o:O):Hp3:=fun b=>if b=a then some o else S b
noncomputable def emp:Hp3:=fun _=>none
theorem zag {S:Hp3} {a:Addr} {o:O}:up S a o a=some o:=if_pos rfl
theorem zcn {S:Hp3} {a b:Addr} {o:O} (h:b≠a):up S a o b=S b:=if_neg h
theorem zpn {S:Hp3} {a:Addr} {o u:O}:up (up S a o) a u=up S a u:=by
  funext b;unfold up;split<;>rfl
theorem ne3 {S:Hp3} {a b:Addr} {o:O} (h:S a=some o) (h':S b=none):a≠b:=by
  intro e;subst e;rw [h] at h';cases h'
theorem zau {S:Hp3} {a b:Addr} {o u:O} (h:S b=some u) (h':S a=none):up S a o b=some u:=by rw [zcn (ne3 h h')];exact h
structure Zt where
  p:Addr→Prop
  base:Hp
instance:CoeFun Zt (fun _=>Addr→Prop):=⟨Zt.p⟩
def ExcOf (a C:Addr):Heap→Prop:=fun h=>∃o,h.get? a=some o∧o.cls=.ref C∧∃xs n,o.data=.fields xs∧n=xs.size
mutual
inductive Rp (K:PySem.W.Frag) (H:Hp):D→V→Prop where
  | non:Rp K H .non .non
  | bl (b:Bool):Rp K H (.bl b) (.bl b)
  | int (i:Int):Rp K H (.int i) (.int i)
  | str (x:Str):Rp K H (.str x) (.str x)
  | ref (a:Addr):Rp K H (.ref a) (.ref a)
  | ty (n:String):Rp K H (.ty n) (.ty n)
  | tup {a:Addr} {xs:List V} {ds:List D}:SqT K H a xs→Rps K H ds xs→Rp K H (.tup ds) (.ref a)
  | rol {a:Addr} {xs:List V} {ds:List D}:ScR K H a xs→Rps K H ds xs→Rp K H (.rol ds) (.ref a)
inductive Rps (K:PySem.W.Frag) (H:Hp):List D→List V→Prop where
  | nil:Rps K H [] []
  | cons {d:D} {v:V} {ds:List D} {vs:List V}:Rp K H d v→Rps K H ds vs→Rps K H (d::ds) (v::vs)
end
structure Kp (Z:Zt) (H H':Hp):Prop where
  tup:∀b xs,H b=some (.tup xs)→H' b=some (.tup xs)
  frz:∀b o u,H b=some (.frz o u)→H' b=some (.frz o u)
  hid:∀b,Z b→H' b=H b
theorem Kp.refl (Z:Zt) (H:Hp):Kp Z H H:=⟨fun _ _ h=>h,fun _ _ _ h=>h,fun _ _=>rfl⟩
theorem Kp.trans {Z:Zt} {H H1 H2:Hp} (a:Kp Z H H1) (b:Kp Z H1 H2):Kp Z H H2 :=
  ⟨fun c xs h=>b.tup _ _ (a.tup _ _ h),fun c o u h=>b.frz _ _ _ (a.frz _ _ _ h),fun c z=>(b.hid c z).trans (a.hid c z)⟩
theorem Kp.sqT {K:PySem.W.Frag} {Z:Zt} {H H':Hp} {a:Addr} {xs:List V} (k:Kp Z H H') (h:SqT K H a xs):SqT K H' a xs:=by
  rcases h with (h|⟨o,h⟩)|h
  · exact .inl (.inl (k.tup _ _ h))
  · exact .inl (.inr ⟨o,k.frz _ _ _ h⟩)
  · exact .inr h
theorem Kp.scR {K:PySem.W.Frag} {Z:Zt} {H H':Hp} {a:Addr} {xs:List V} (k:Kp Z H H') (h:ScR K H a xs):ScR K H' a xs:=by
  rcases h with ⟨o,h⟩|h
  · exact .inl ⟨o,k.frz _ _ _ h⟩
  · exact .inr h
mutual
theorem Rp.mono {K:PySem.W.Frag} {Z:Zt} {H H':Hp} (k:Kp Z H H'):∀{d:D} {v:V},Rp K H d v→Rp K H' d v
  | _,_,.non=>.non
  | _,_,.bl b=>.bl b
  | _,_,.int i=>.int i
  | _,_,.str x=>.str x
  | _,_,.ref a=>.ref a
  | _,_,.ty n=>.ty n
  | _,_,.tup h r=>.tup (k.sqT h) (Rps.mono k r)
  | _,_,.rol h r=>.rol (k.scR h) (Rps.mono k r)
theorem Rps.mono {K:PySem.W.Frag} {Z:Zt} {H H':Hp} (k:Kp Z H H'):∀{ds:List D} {vs:List V},Rps K H ds vs→Rps K H' ds vs
  | _,_,.nil=>.nil
  | _,_,.cons h r=>.cons (Rp.mono k h) (Rps.mono k r)
end
section
variable {K:PySem.W.Frag} {H:Hp}
theorem Rps.len:∀{ds:List D} {vs:List V},Rps K H ds vs→ds.length=vs.length
  | _,_,.nil=>rfl
  | _,_,.cons _ r=>by simp [Rps.len r]
theorem Rps.at:∀{ds:List D} {vs:List V} {i:Nat} {d:D},Rps K H ds vs→ds[i]?=some d→∃v,vs[i]?=some v∧Rp K H d v
  | _,_,_,_,.nil,e=>by simp at e
  | _,_,0,_,.cons r _,e=>by simp at e;subst e;exact ⟨_,rfl,r⟩
  | _,_,i+1,d,.cons _ q,e=>by
    obtain ⟨v,h1,h2⟩:=Rps.at (i:=i) (d:=d) q (by simpa using e)
    exact ⟨v,by simpa using h1,h2⟩
theorem Rps.append:∀{ds es:List D} {vs ws:List V},Rps K H ds vs→Rps K H es ws→Rps K H (ds++es) (vs++ws)
  | _,_,_,_,.nil,s=>s
  | _,_,_,_,.cons r t,s=>.cons r (Rps.append t s)
theorem Rps.take:∀{ds:List D} {vs:List V} (n:Nat),Rps K H ds vs→Rps K H (ds.take n) (vs.take n)
  | _,_,0,_=>.nil
  | _,_,_+1,.nil=>.nil
  | _,_,n+1,.cons r t=>.cons r (Rps.take n t)
theorem Rps.drop:∀{ds:List D} {vs:List V} (n:Nat),Rps K H ds vs→Rps K H (ds.drop n) (vs.drop n)
  | _,_,0,r=>r
  | _,_,_+1,.nil=>.nil
  | _,_,n+1,.cons _ t=>Rps.drop n t
theorem Rps.set {d:D} {v:V} (r:Rp K H d v):∀{ds:List D} {vs:List V} (i:Nat),Rps K H ds vs→Rps K H (ds.set i d) (vs.set i v)
  | _,_,_,.nil=>.nil
  | _,_,0,.cons _ t=>.cons r t
  | _,_,i+1,.cons q t=>.cons q (Rps.set r i t)
theorem Rps.ints:∀(ns:List Int),Rps K H (ns.map D.int) (ns.map V.int)
  | []=>.nil
  | n::ns=>.cons (.int n) (Rps.ints ns)
theorem Rps.strs:∀{xs:List Str} {vs:List V},Rps K H (xs.map D.str) vs→vs=xs.map V.str
  | [],_,.nil=>rfl
  | _::xs,_,.cons (.str _) q=>by rw [Rps.strs q];rfl
end
def OR (K:PySem.W.Frag) (H:Hp) (a:Addr):O→Prop
  | .lst ds=>∃vs,H a=some (.lst vs)∧Rps K H ds vs
  | .dic kvs=>∃ws,H a=some (.dK ws)∧Paired (fun (p:Key×D) (q:Key×V)=>p.1=q.1∧Rp K H p.2 q.2) kvs ws
  | .exc C=>H a=some (.ext (ExcOf a C))
  | .ins C fs=>∃dx ws,H a=some (.ins C dx ws)∧Paired (fun (p:Str×D) (q:Str×V)=>p.1=q.1∧Rp K H p.2 q.2) fs ws
structure Rl (K:PySem.W.Frag) (Z:Zt) (S:Hp3) (H:Hp):Prop where
  obj:∀a o,S a=some o→OR K H a o
  hid:∀a,Z a→S a=none∧H a≠none
  old:Kp Z Z.base H
theorem OR.there {K:PySem.W.Frag} {H:Hp} {a:Addr} {o:O} (h:OR K H a o):H a≠none:=by
  cases o with
  | lst ds=>obtain ⟨vs,e,_⟩:=h;rw [e];simp
  | dic ds=>obtain ⟨vs,e,_⟩:=h;rw [e];simp
  | exc C=>have e:H a=_:=h;rw [e];simp
  | ins C fs=>obtain ⟨dx,vs,e,_⟩:=h;rw [e];simp
theorem OR.nofrz {K:PySem.W.Frag} {H:Hp} {a:Addr} {o:O} (h:OR K H a o):(∀xs,H a≠some (.tup xs))∧∀q u,H a≠some (.frz q u):=by
  cases o with
  | lst ds=>obtain ⟨vs,e,_⟩:=h;rw [e];exact ⟨fun _ z=>(nomatch z),fun _ _ z=>(nomatch z)⟩
  | dic ds=>obtain ⟨vs,e,_⟩:=h;rw [e];exact ⟨fun _ z=>(nomatch z),fun _ _ z=>(nomatch z)⟩
  | exc C=>have e:H a=_:=h;rw [e];exact ⟨fun _ z=>(nomatch z),fun _ _ z=>(nomatch z)⟩
  | ins C fs=>obtain ⟨dx,vs,e,_⟩:=h;rw [e];exact ⟨fun _ z=>(nomatch z),fun _ _ z=>(nomatch z)⟩
theorem Rl.fresh {K:PySem.W.Frag} {Z:Zt} {S:Hp3} {H:Hp} {p:Addr} (r:Rl K Z S H) (h:H p=none):S p=none∧¬Z p:=by
  constructor
  · cases e:S p with
    | none=>rfl
    | some o=>exact absurd h (r.obj p o e).there
  · exact fun z=>(r.hid p z).2 h
theorem Kp.new {Z:Zt} {H:Hp} {p:Addr} {o:HO} (h:H p=none) (hz:¬Z p):Kp Z H (upd H p o) :=
  ⟨fun b xs e=>by rw [zar (zb8 e h)];exact e,fun b q u e=>by rw [zar (zb8 e h)];exact e,fun b z=>zar fun e=>hz (e▸z)⟩
theorem Kp.at {K:PySem.W.Frag} {Z:Zt} {S:Hp3} {H:Hp} {p:Addr} {o:O} {q:HO} (r:Rl K Z S H) (h:S p=some o):Kp Z H (upd H p q):=by
  have n:=(r.obj p o h).nofrz
  refine ⟨fun b xs e=>?_,fun b q u e=>?_,fun b z=>?_⟩
  · rw [zar];exact e
    rintro rfl;exact n.1 _ e
  · rw [zar];exact e
    rintro rfl;exact n.2 _ _ e
  · rw [zar]
    rintro rfl
    rw [(r.hid _ z).1] at h
    cases h
theorem OR.keep {K:PySem.W.Frag} {Z:Zt} {H H':Hp} {a:Addr} {o:O} (h:OR K H a o) (k:Kp Z H H') (e:H' a=H a):OR K H' a o:=by
  cases o with
  | lst ds=>obtain ⟨vs,h1,h2⟩:=h;exact ⟨vs,e.trans h1,h2.mono k⟩
  | dic ds=>obtain ⟨vs,h1,h2⟩:=h;exact ⟨vs,e.trans h1,Paired.mapP h2 fun p q z=>⟨z.1,z.2.mono k⟩⟩
  | exc C=>exact e.trans h
  | ins C fs=>obtain ⟨dx,vs,h1,h2⟩:=h;exact ⟨dx,vs,e.trans h1,Paired.mapP h2 fun p q z=>⟨z.1,z.2.mono k⟩⟩
theorem Rl.put {K:PySem.W.Frag} {Z:Zt} {S:Hp3} {H:Hp} {p:Addr} {o:O} {q:HO} (r:Rl K Z S H) (k:Kp Z H (upd H p q)) (hz:¬Z p) (h:OR K (upd H p q) p o):Rl K Z (up S p o) (upd H p q):=by
  refine ⟨fun b u e=>?_,fun b z=>?_,r.old.trans k⟩
  · by_cases hb:b=p
    · subst hb
      rw [zag] at e
      cases e
      exact h
    · rw [zcn hb] at e
      exact (r.obj b u e).keep k (zar hb)
  · have hb:b≠p:=fun e=>hz (e▸z)
    rw [zcn hb,zar hb]
    exact r.hid b z
theorem Rl.notZ {K:PySem.W.Frag} {Z:Zt} {S:Hp3} {H:Hp} {p:Addr} {o:O} (r:Rl K Z S H) (h:S p=some o):¬Z p:=fun z=>by
  rw [(r.hid _ z).1] at h
  cases h
theorem Rl.lay {K:PySem.W.Frag} {Z:Zt} {S:Hp3} {H:Hp} {p:Addr} {q:HO} (r:Rl K Z S H) (h:H p=none):Rl K Z S (upd H p q):=by
  obtain ⟨hs,hz⟩:=r.fresh h
  refine ⟨fun b u e=>(r.obj b u e).keep (Kp.new h hz) (zar (ne3 e hs)),fun b z=>?_,r.old.trans (Kp.new h hz)⟩
  have hb:b≠p:=fun e=>hz (e▸z)
  rw [zar hb]
  exact r.hid b z
def RO (K:PySem.W.Frag) (H:Hp) (o:Option D) (p:Option V):Prop:=∀d,o=some d→∃v,p=some v∧Rp K H d v
abbrev SR (K:PySem.W.Frag) (H:Hp):St3→L2.St→Prop:=Paired (RO K H)
theorem RO.mono {K:PySem.W.Frag} {Z:Zt} {H H':Hp} (k:Kp Z H H') {o:Option D} {p:Option V} (h:RO K H o p):RO K H' o p:=fun d e=>by
  obtain ⟨v,h1,h2⟩:=h d e
  exact ⟨v,h1,h2.mono k⟩
theorem SR.mono {K:PySem.W.Frag} {Z:Zt} {H H':Hp} (k:Kp Z H H') {σ:St3} {τ:L2.St} (h:SR K H σ τ):SR K H' σ τ:=Paired.mapP h fun _ _ q=>q.mono k
theorem SR.at {K:PySem.W.Frag} {H:Hp}:∀{σ:St3} {τ:L2.St} {i:Nat} {d:D},SR K H σ τ→σ[i]?=some (some d)→∃v,τ[i]?=some (some v)∧Rp K H d v
  | _,_,_,_,.nil,e=>by simp at e
  | _,_,0,_,.cons r _,e=>by
    simp at e
    obtain ⟨v,h1,h2⟩:=r _ e
    exact ⟨v,by simp [h1],h2⟩
  | _,_,i+1,d,.cons _ q,e=>by
    obtain ⟨v,h1,h2⟩:=SR.at (i:=i) (d:=d) q (by simpa using e)
    exact ⟨v,by simpa using h1,h2⟩
theorem SR.set {K:PySem.W.Frag} {H:Hp} {d:D} {v:V} (r:Rp K H d v):∀{σ:St3} {τ:L2.St} (i:Nat),SR K H σ τ→SR K H (σ.set i (some d)) (τ.set i (some v))
  | _,_,_,.nil=>.nil
  | _,_,0,.cons _ t=>.cons (fun e he=>by cases he;exact ⟨v,rfl,r⟩) t
  | _,_,i+1,.cons q t=>.cons q (SR.set r i t)
theorem SR.ofRps {K:PySem.W.Frag} {H:Hp}:∀{ds:List D} {vs:List V},Rps K H ds vs→SR K H (ds.map some) (vs.map some)
  | _,_,.nil=>.nil
  | _,_,.cons r t=>.cons (fun e he=>by cases he;exact ⟨_,rfl,r⟩) (SR.ofRps t)
theorem SR.nones {K:PySem.W.Frag} {H:Hp}:∀n:Nat,SR K H (List.replicate n none) (List.replicate n none)
  | 0=>.nil
  | n+1=>.cons (fun d e=>by cases e) (SR.nones n)
theorem zbq {α β:Type} {F:α→β→Prop}:∀{a b:List α} {c d:List β},Paired F a c→Paired F b d→Paired F (a++b) (c++d)
  | _,_,_,_,.nil,s=>s
  | _,_,_,_,.cons r t,s=>.cons r (zbq t s)
noncomputable abbrev TE3:=St3→Hp3→K3→Prop
noncomputable abbrev TT3:=St3→Hp3→(Bool→Hp3→Prop)→Prop
noncomputable abbrev TA3:=St3→Hp3→(List D→Hp3→Prop)→Prop
structure Ends3 where
  nx:St3→Hp3→Prop
  rt:K3
  bk:St3→Hp3→Prop:=fun _ _=>False
  ct:St3→Hp3→Prop:=fun _ _=>False
noncomputable abbrev TS3:=Ends3→St3→Hp3→Prop
section
variable (K:PySem.W.Frag) (Z:Zt)
def CK (H:Hp) (Q3:K3) (Q:VK):Prop:=∀d S v H',Kp Z H H'→Rp K H' d v→Rl K Z S H'→Q3 d S→Q v H'
def CT (H:Hp) (Q3:Bool→Hp3→Prop) (Q:Bool→Hp→Prop):Prop:=∀b S H',Kp Z H H'→Rl K Z S H'→Q3 b S→Q b H'
def CA (H:Hp) (Q3:List D→Hp3→Prop) (Q:List V→Hp→Prop):Prop:=∀ds S vs H',Kp Z H H'→Rps K H' ds vs→Rl K Z S H'→Q3 ds S→Q vs H'
def CS (H:Hp) (Q3:St3→Hp3→Prop) (Q:L2.St→Hp→Prop):Prop:=∀σ S τ H',Kp Z H H'→SR K H' σ τ→Rl K Z S H'→Q3 σ S→Q τ H'
structure CD (H:Hp) (D3:Ends3) (D:Ends):Prop where
  nx:CS K Z H D3.nx D.nx
  bk:CS K Z H D3.bk D.bk
  ct:CS K Z H D3.ct D.ct
  rt:CK K Z H D3.rt D.rt
inductive lE (t:TE3) (τ:L2.St) (H:Hp) (Q:VK):Prop where
  | mk (σ:St3) (S:Hp3) (Q3:K3) (hs:SR K H σ τ) (hr:Rl K Z S H) (ht:t σ S Q3) (hc:CK K Z H Q3 Q)
inductive lT (t:TT3) (τ:L2.St) (H:Hp) (Q:Bool→Hp→Prop):Prop where
  | mk (σ:St3) (S:Hp3) (Q3:Bool→Hp3→Prop) (hs:SR K H σ τ) (hr:Rl K Z S H) (ht:t σ S Q3) (hc:CT K Z H Q3 Q)
inductive lA (t:TA3) (τ:L2.St) (H:Hp) (Q:List V→Hp→Prop):Prop where
  | mk (σ:St3) (S:Hp3) (Q3:List D→Hp3→Prop) (hs:SR K H σ τ) (hr:Rl K Z S H) (ht:t σ S Q3) (hc:CA K Z H Q3 Q)
inductive lS (t:TS3) (D:Ends) (τ:L2.St) (H:Hp):Prop where
  | mk (D3:Ends3) (σ:St3) (S:Hp3) (hs:SR K H σ τ) (hr:Rl K Z S H) (ht:t D3 σ S) (hc:CD K Z H D3 D)
end
variable {K:PySem.W.Frag} {Z:Zt}
theorem CK.mono {H H':Hp} {Q3:K3} {Q:VK} (k:Kp Z H H') (h:CK K Z H Q3 Q):CK K Z H' Q3 Q:=fun d S v H2 k2=>h d S v H2 (k.trans k2)
theorem CT.mono {H H':Hp} {Q3:Bool→Hp3→Prop} {Q:Bool→Hp→Prop} (k:Kp Z H H') (h:CT K Z H Q3 Q):CT K Z H' Q3 Q:=fun d S H2 k2=>h d S H2 (k.trans k2)
theorem CS.mono {H H':Hp} {Q3:St3→Hp3→Prop} {Q:L2.St→Hp→Prop} (k:Kp Z H H') (h:CS K Z H Q3 Q):CS K Z H' Q3 Q:=fun d S v H2 k2=>h d S v H2 (k.trans k2)
theorem CD.mono {H H':Hp} {D3:Ends3} {D:Ends} (k:Kp Z H H') (h:CD K Z H D3 D):CD K Z H' D3 D:=⟨h.nx.mono k,h.bk.mono k,h.ct.mono k,h.rt.mono k⟩
structure FlyT (h:Heap) (a C T:Addr):Prop where
  ne:T≠a
  exc:∃oe vs a0,h.get? a=some oe∧oe.cls=.ref C∧oe.data=.fields vs∧vs[0]?=some a0∧vs[1]?=some (.ref T)
  tb:∃oT ts,h.get? T=some oT∧oT.data=.fields ts∧ts[3]?=some .none
noncomputable def CX1 (P:Program) (w:World):CXT:=fun outer H s E e s'=>∃(a C T:Addr) (H':Hp),e=.ref a∧s'.os=s.os∧AllBare s'.gens∧Un (frs outer) [] H H' s.heap s'.heap∧HOk P w H' s'.heap ∧
  FlyT s'.heap a C T∧H' a=none∧H' T=none∧s.heap.get? a=none∧s.heap.get? T=none∧E (.ref C) (some a) H'
def PassesAt (CX:CXT) (X:Cx) (E:XK) (τ:L2.St):Prop:=∀(pins:List (Addr×Obj)) (H:Hp) (s:Shared) (e:Value) (s':Shared),Inv X pins τ H s→CX X.stack H s E e s'→X.xe e s'
def RaisesAt (X:Cx) (E:XK) (τ:L2.St):Prop:=∀(pins:List (Addr×Obj)) (H:Hp) (s s3:Shared) (e C:Addr) (args:List Value),Inv X pins τ H s→Heap.MadeExcOf s.heap s3.heap e (.ref C) args→s3.os=s.os→s3.gens=s.gens→E (.ref C) (some e) H→X.xe (.ref e) s3
theorem pass1 {P:Program} {w:World} {X:Cx} {τ:L2.St}:PassesAt (CX1 P w) X E0 τ:=fun _ _ _ _ _ _ h=>by
  obtain ⟨a,C,T,H',_,_,_,_,_,_,_,_,_,_,z⟩:=h
  exact z.elim
abbrev NoX:W3T:=fun _ _ _ _=>False
def CE3 (K:PySem.W.Frag) (Z:Zt) (H:Hp) (W3:X3) (E:XK):Prop:=∀C a S H',Kp Z H H'→Rl K Z S H'→H' a=none→W3 C a S→E (.ref C) (some a) H'
structure ZX (X:Cx) (W3:W3T) where
  z:Zt
  E:L2.St→XK
  pass:∀τ,PassesAt (CX1 X.prog X.w) X (E τ) τ
  rz:∀τ,RaisesAt X (E τ) τ
  ce:∀σ τ C a S H,SR X.K H σ τ→Rl X.K z S H→H a=none→W3 σ C a S→E τ (.ref C) (some a) H
noncomputable def ZX.no (X:Cx) (z:Zt):ZX X NoX:=⟨z,fun _=>E0,fun _=>pass1,fun _ _ _ _ _ _ _ _ _ _ _ _ z=>z.elim,fun _ _ _ _ _ _ _ _ _ z=>z.elim⟩
def PE3 (X:Cx) (W3:W3T) (e:Expr) (t:TE3):Prop:=∀Z:ZX X W3,PE X e (lE X.K Z.z t)
def PT3 (X:Cx) (W3:W3T) (e:Expr) (t:TT3):Prop:=∀Z:ZX X W3,PT X e (lT X.K Z.z t)
def PW3 (X:Cx) (W3:W3T) (e:Expr) (t:TT3):Prop:=∀Z:ZX X W3,PW X e (lT X.K Z.z t)
def PA3 (X:Cx) (W3:W3T) (es:List Expr) (t:TA3):Prop:=∀Z:ZX X W3,PA X es (lA X.K Z.z t)
def PS3 (X:Cx) (W3:W3T) (st:Stmt) (t:TS3):Prop:=∀Z:ZX X W3,PS X st (lS X.K Z.z t)
def PSs3 (X:Cx) (W3:W3T) (st:List Stmt) (t:TS3):Prop:=∀Z:ZX X W3,PSs X st (lS X.K Z.z t)
theorem PE.imp {X:Cx} {e:Expr} {t u:TE} (h:PE X e t) (f:∀σ H Q,u σ H Q→t σ H Q):PE X e u:=fun pins s σ H Q I q=>h pins s σ H Q I (f _ _ _ q)
theorem PT.imp {X:Cx} {e:Expr} {t u:TT} (h:PT X e t) (f:∀σ H Q,u σ H Q→t σ H Q):PT X e u:=fun pins s σ H Q I q=>h pins s σ H Q I (f _ _ _ q)
theorem PW.imp {X:Cx} {e:Expr} {t u:TT} (h:PW X e t) (f:∀σ H Q,u σ H Q→t σ H Q):PW X e u:=fun w pins s σ H Q I q=>h w pins s σ H Q I (f _ _ _ q)
theorem PA.imp {X:Cx} {e:List Expr} {t u:TA} (h:PA X e t) (f:∀σ H Q,u σ H Q→t σ H Q):PA X e u:=fun p pins s σ H Q I q=>h p pins s σ H Q I (f _ _ _ q)
theorem PS.imp {X:Cx} {st:Stmt} {t u:TS} (h:PS X st t) (f:∀D σ H,u D σ H→t D σ H):PS X st u:=fun pins s σ H D I q=>h pins s σ H D I (f _ _ _ q)
theorem PSs.imp {X:Cx} {st:List Stmt} {t u:TS} (h:PSs X st t) (f:∀D σ H,u D σ H→t D σ H):PSs X st u:=fun pins s σ H D I q=>h pins s σ H D I (f _ _ _ q)
end E3
namespace E3
open PySem PySem.Spec PyProof.Rows L2 EE
section
variable {X:Cx} {W3:W3T} {a b c e:Expr} {es:List Expr} {pos:Pos}
def v3 (i:Nat):TE3:=fun σ S Q=>∃d,σ[i]?=some (some d)∧Q d S
def c3 (d:D):TE3:=fun _ S Q=>Q d S
theorem e_var {i:Nat} (h:PE X e (tVar i)):PE3 X W3 e (v3 i):=fun Z=>PE.imp h fun τ H Q z_1=>by
  obtain ⟨σ,S,Q3,hs,hr,⟨d,e,q⟩,c⟩:=z_1
  obtain ⟨v,h1,h2⟩:=hs.at e
  exact ⟨v,h1,c d S v H (Kp.refl _ _) h2 hr q⟩
theorem e_v (i:Nat) {x:Str} {pos:Pos} (hN:X.N[i]?=some x:=by rfl) (hv:Vis X.env.scope x:=by first|exact Or.inl rfl|exact Or.inr (Or.inl rfl)|exact Or.inr (Or.inr rfl)) (hd:(x==("__debug__":Str))=false:=by decide)
    (hcd:(x==("__classdict__":Str))=false:=by decide):PE3 X W3 (.Name x pos) (v3 i):=e_var (pe_var hN hv hd hcd)
theorem zlf {v:V} {d:D} (h:PE X e (tC v)) (r:∀H,Rp X.K H d v):PE3 X W3 e (c3 d):=fun Z=>PE.imp h fun τ H Q z_2=>by obtain ⟨σ,S,Q3,hs,hr,q,c⟩:=z_2;exact c d S v H (Kp.refl _ _) (r H) hr q
theorem zad {i j}:PE3 X W3 (.Constant (.int i) j pos) (c3 (.int i)):=zlf pe_int fun _=>.int _
theorem e_bl {b j}:PE3 X W3 (.Constant (.bool b) j pos) (c3 (.bl b)):=zlf pe_bl fun _=>.bl _
theorem zaj {x j}:PE3 X W3 (.Constant (.str x) j pos) (c3 (.str x)):=zlf zl9 fun _=>.str _
theorem zd0 {x:Str} {n:String} (hg:Gl X x) (hm:X.mg x=none) (hv:bootBuiltins x=some (.type n)) (hn:x≠"__name__":=by decide) (hd:(x==("__debug__":Str))=false:=by decide):PE3 X W3 (.Name x pos) (c3 (.ty n)) :=
  zlf (zp8 (v:=.ty n) hg hm hv rfl hn hd) fun _=>.ty _
theorem zhr {x:Str} {i:Int} (h:∃t,X.mg x=some (.int i t)) (hg:Gl X x) (hd:(x==("__debug__":Str))=false:=by decide):PE3 X W3 (.Name x pos) (c3 (.int i)) :=
  zlf (zn4 h hg hd) fun _=>.int _
theorem zd7 {x:Str} {C:Addr} (h:X.mg x=some (.ref C)) (hg:Gl X x) (hd:(x==("__debug__":Str))=false:=by decide):PE3 X W3 (.Name x pos) (c3 (.ref C)) :=
  zlf (zmb (v:=.ref C) hg h rfl hd) fun _=>.ref _
noncomputable abbrev R3:=D→D→Hp3→K3→Prop
def Dn2 (K:PySem.W.Frag) (r3:R3) (r:R2):Prop:=∀(Z:Zt) x y S Q3 v w H Q,Rp K H x v→Rp K H y w→Rl K Z S H→r3 x y S Q3→CK K Z H Q3 Q→r v w H Q
def o3 (r:R3) (ta tb:TE3):TE3:=fun σ S Q=>ta σ S fun x S1=>tb σ S1 fun y S2=>r x y S2 Q
def test3 (t:TE3):TT3:=fun σ S Q=>t σ S fun x S'=>∃k,x=.bl k∧Q k S'
variable {ta tb tc:TE3} {tA tB:TT3} {t:TA3}
theorem zhc {K:PySem.W.Frag} {Z:Zt} {r3:R3} {r:R2} (hd:Dn2 K r3 r) {τ:L2.St} {H:Hp} {Q:VK} (h:lE K Z (o3 r3 ta tb) τ H Q):tOp r (lE K Z ta) (lE K Z tb) τ H Q:=by
  obtain ⟨σ,S,Q3,hs,hr,ht,hc⟩:=h
  refine ⟨σ,S,_,hs,hr,ht,fun x S1 v H1 k1 r1 l1 q1=>?_⟩
  refine ⟨σ,S1,_,hs.mono k1,l1,q1,fun y S2 w H2 k2 r2 l2 q2=>?_⟩
  exact hd Z x y S2 Q3 v w H2 Q (r1.mono k2) r2 l2 q2 (hc.mono (k1.trans k2))
theorem e_op {op:Operator} {r3:R3} {r:R2} (ho:OpR X (binaryOp op) r) (hd:Dn2 X.K r3 r) (ha:PE3 X W3 a ta) (hb:PE3 X W3 b tb):PE3 X W3 (.BinOp a op b pos) (o3 r3 ta tb) :=
  fun Z=>PE.imp (pe_op ho (ha Z) (hb Z)) fun _ _ _ h=>zhc hd h
theorem e_cmp {op:CmpOp} {r3:R3} {r:R2} (ho:OpR X (compareOp op) r) (hd:Dn2 X.K r3 r) (ha:PE3 X W3 a ta) (hb:PE3 X W3 b tb) (hm:behindInMarks op b=false):PE3 X W3 (.Compare a [op] [b] pos) (o3 r3 ta tb) :=
  fun Z=>PE.imp (zp7 ho (ha Z) (hb Z) hm) fun _ _ _ h=>zhc hd h
theorem zfq {K:PySem.W.Frag} {Z:Zt} {t3:TE3} {t2:TE} (hd:∀τ H Q,lE K Z t3 τ H Q→t2 τ H Q) {τ:L2.St} {H:Hp} {Q:Bool→Hp→Prop} (h:lT K Z (test3 t3) τ H Q):tTest t2 τ H Q:=by
  obtain ⟨σ,S,Q3,hs,hr,ht,hc⟩:=h
  refine hd τ H _ ⟨σ,S,_,hs,hr,ht,fun x S1 v H1 k1 r1 l1 q1=>?_⟩
  obtain ⟨k,rfl,q⟩:=q1
  cases r1
  exact ⟨k,rfl,hc k S1 H1 k1 l1 q⟩
theorem zap {op:CmpOp} {r3:R3} {r:R2} (ho:OpR X (compareOp op) r) (hd:Dn2 X.K r3 r) (ha:PE3 X W3 a ta) (hb:PE3 X W3 b tb) (hm:behindInMarks op b=false):PT3 X W3 (.Compare a [op] [b] pos) (test3 (o3 r3 ta tb)) :=
  fun Z=>PT.imp (zpv ho (ha Z) (hb Z) hm) fun _ _ _ h=>zfq (fun _ _ _ h=>zhc hd h) h
theorem e_ix {r3:R3} {r:R2} (ho:IxR X r) (hd:Dn2 X.K r3 r) (ha:PE3 X W3 a ta) (hb:PE3 X W3 b tb) (hs:PlainIx b):PE3 X W3 (.Subscript a b pos) (o3 r3 ta tb) :=
  fun Z=>PE.imp (pe_ix ho (ha Z) (hb Z) hs) fun _ _ _ h=>zhc hd h
theorem zge (h:PE3 X W3 e ta) (he:∀whole,isTrue e X.env whole=(do let v ←whole;standAt e.pos;holding [v] (truthy v)):=by intro _;rfl):PT3 X W3 e (test3 ta) :=
  fun Z=>PT.imp (pt_val (h Z) he) fun _ _ _ q=>zfq (t2:=lE X.K Z.z ta) (fun _ _ _ z=>z) q
def u3 (r:D→Hp3→K3→Prop) (ta:TE3):TE3:=fun σ S Q=>ta σ S fun x S1=>r x S1 Q
theorem e_neg (ha:PE3 X W3 a ta):PE3 X W3 (.UnaryOp .USub a pos) (u3 (fun x S Q=>∃i,x=.int i∧Q (.int (-i)) S) ta):=fun Z=>PE.imp (pe_un un_neg (ha Z)) fun τ H Q z_3=>by
  obtain ⟨σ,S,Q3,hs,hr,ht,hc⟩:=z_3
  refine ⟨σ,S,_,hs,hr,ht,fun x S1 v H1 k1 r1 l1 q1=>?_⟩
  obtain ⟨i,rfl,q⟩:=q1
  cases r1
  exact ⟨i,rfl,hc _ S1 _ H1 k1 (.int _) l1 q⟩
def and3 (t u:TT3):TT3:=fun σ S Q=>t σ S fun c S1=>if c=true then u σ S1 Q else Q false S1
def or3 (t u:TT3):TT3:=fun σ S Q=>t σ S fun c S1=>if c=true then Q true S1 else u σ S1 Q
def not3 (t:TT3):TT3:=fun σ S Q=>t σ S fun c S1=>Q (!c) S1
def andv3 (ta tb:TE3):TE3:=fun σ S Q=>ta σ S fun x S1=>∃c,x=.bl c∧if c=true then tb σ S1 Q else Q (.bl false) S1
def notv3 (ta:TE3):TE3:=fun σ S Q=>ta σ S fun x S1=>∃c,x=.bl c∧Q (.bl (!c)) S1
variable {rest:List Expr}
theorem zo3 (ha:PT3 X W3 a tA):PW3 X W3 (.BoolOp .And [a] pos) tA:=fun Z=>zpu (ha Z)
theorem zgv (ha:PT3 X W3 a tA):PW3 X W3 (.BoolOp .Or [a] pos) tA:=fun Z=>pw_or1 (ha Z)
theorem w_and (ha:PT3 X W3 a tA) (hb:PW3 X W3 (.BoolOp .And (b::rest) pos) tB):PW3 X W3 (.BoolOp .And (a::b::rest) pos) (and3 tA tB):=fun Z=>PW.imp (pw_and (ha Z) (hb Z)) fun τ H Q z_4=>by
  obtain ⟨σ,S,Q3,hs,hr,ht,hc⟩:=z_4
  refine ⟨σ,S,_,hs,hr,ht,fun c S1 H1 k1 l1 q1=>?_⟩
  cases c with
  | true=>exact ⟨σ,S1,Q3,hs.mono k1,l1,q1,hc.mono k1⟩
  | false=>exact hc false S1 H1 k1 l1 q1
theorem w_or (ha:PT3 X W3 a tA) (hb:PW3 X W3 (.BoolOp .Or (b::rest) pos) tB):PW3 X W3 (.BoolOp .Or (a::b::rest) pos) (or3 tA tB):=fun Z=>PW.imp (pw_or (ha Z) (hb Z)) fun τ H Q z_5=>by
  obtain ⟨σ,S,Q3,hs,hr,ht,hc⟩:=z_5
  refine ⟨σ,S,_,hs,hr,ht,fun c S1 H1 k1 l1 q1=>?_⟩
  cases c with
  | true=>exact hc true S1 H1 k1 l1 q1
  | false=>exact ⟨σ,S1,Q3,hs.mono k1,l1,q1,hc.mono k1⟩
theorem PW3.pt (h:PW3 X W3 e tA):PT3 X W3 e tA:=fun Z=>(h Z).pt
theorem zgx (ha:PT3 X W3 a tA):PT3 X W3 (.UnaryOp .Not a pos) (not3 tA):=fun Z=>PT.imp (pt_not (ha Z)) fun τ H Q z_6=>by obtain ⟨σ,S,Q3,hs,hr,ht,hc⟩:=z_6;exact ⟨σ,S,_,hs,hr,ht,fun c S1 H1 k1 l1 q1=>hc (!c) S1 H1 k1 l1 q1⟩
theorem zm6 {op} (h:PE3 X W3 a ta):PE3 X W3 (.BoolOp op [a] pos) ta:=fun Z=>pe_one (h Z)
theorem zm7 (ha:PE3 X W3 a ta) (hb:PE3 X W3 (.BoolOp .And (b::rest) pos) tb):PE3 X W3 (.BoolOp .And (a::b::rest) pos) (andv3 ta tb):=fun Z=>PE.imp (pe_and (ha Z) (hb Z)) fun τ H Q z_7=>by
  obtain ⟨σ,S,Q3,hs,hr,ht,hc⟩:=z_7
  refine ⟨σ,S,_,hs,hr,ht,fun x S1 v H1 k1 r1 l1 q1=>?_⟩
  obtain ⟨c,rfl,q1⟩:=q1
  cases r1
  refine ⟨c,rfl,?_⟩
  cases c with
  | true=>exact ⟨σ,S1,Q3,hs.mono k1,l1,q1,hc.mono k1⟩
  | false=>exact hc _ S1 _ H1 k1 (.bl _) l1 q1
theorem e_not (ha:PE3 X W3 a ta):PE3 X W3 (.UnaryOp .Not a pos) (notv3 ta):=fun Z=>PE.imp (pe_not (ha Z)) fun τ H Q z_9=>by
  obtain ⟨σ,S,Q3,hs,hr,ht,hc⟩:=z_9
  refine ⟨σ,S,_,hs,hr,ht,fun x S1 v H1 k1 r1 l1 q1=>?_⟩
  obtain ⟨c,rfl,q1⟩:=q1
  cases r1
  exact ⟨c,rfl,hc _ S1 _ H1 k1 (.bl _) l1 q1⟩
def IsL (S:Hp3) (x:D) (ds:List D):Prop:=(∃a,x=.ref a∧S a=some (.lst ds))∨x=.rol ds
theorem IsL.down {K:PySem.W.Frag} {Z:Zt} {S:Hp3} {H:Hp} {x:D} {ds:List D} {v:V} (h:IsL S x ds) (r:Rp K H x v) (l:Rl K Z S H):∃a vs,v=.ref a∧SqL K H a vs∧Rps K H ds vs:=by
  rcases h with ⟨a,rfl,e⟩|rfl
  · cases r
    obtain ⟨vs,h1,h2⟩:=l.obj a _ e
    exact ⟨a,vs,rfl,SqL.of h1,h2⟩
  · cases r with
    | rol h1 h2=>exact ⟨_,_,rfl,h1.sq,h2⟩
def nil3:TA3:=fun _ S Q=>Q [] S
def cons3 (ta:TE3) (tr:TA3):TA3:=fun σ S Q=>ta σ S fun x S1=>tr σ S1 fun xs S2=>Q (x::xs) S2
theorem zaf:PA3 X W3 [] nil3:=fun Z=>PA.imp pa_nil fun τ H Q z_12=>by obtain ⟨σ,S,Q3,hs,hr,ht,hc⟩:=z_12;exact hc [] S [] H (Kp.refl _ _) .nil hr ht
theorem zaa (ha:PE3 X W3 e ta) (hr:PA3 X W3 es t) (hs:starEach (e::es) X.env=(false,eval e X.env)::starEach es X.env:=by rfl):PA3 X W3 (e::es) (cons3 ta t):=fun Z=>PA.imp (zqa (ha Z) (hr Z) hs) fun τ H Q z_13=>by
  obtain ⟨σ,S,Q3,hs,hr,ht,hc⟩:=z_13
  refine ⟨σ,S,_,hs,hr,ht,fun x S1 v H1 k1 r1 l1 q1=>?_⟩
  exact ⟨σ,S1,_,hs.mono k1,l1,q1,fun xs S2 vs H2 k2 r2 l2 q2=>hc (x::xs) S2 (v::vs) H2 (k1.trans k2) (.cons (r1.mono k2) r2) l2 q2⟩
def newL (S:Hp3) (ds:List D) (Q:K3):Prop:=∀p,S p=none→Q (.ref p) (up S p (.lst ds))
theorem newL.down {K:PySem.W.Frag} {Z:Zt} {S:Hp3} {H:Hp} {ds:List D} {vs:List V} {Q3:K3} {Q:VK} (h:newL S ds Q3) (r:Rps K H ds vs) (l:Rl K Z S H) (c:CK K Z H Q3 Q):∀p,H p=none→Q (.ref p) (upd H p (.lst vs)):=fun p hp=>by
  obtain ⟨hs,hz⟩:=l.fresh hp
  have k:=Kp.new (o:=HO.lst vs) hp hz
  exact c _ _ _ _ k (.ref p) (l.put (o:=.lst ds) k hz ⟨vs,za9,r.mono k⟩) (h p hs)
theorem tup.down {K:PySem.W.Frag} {Z:Zt} {S:Hp3} {H:Hp} {ds:List D} {vs:List V} {Q3:K3} {Q:VK} (h:Q3 (.tup ds) S) (r:Rps K H ds vs) (l:Rl K Z S H) (c:CK K Z H Q3 Q):∀p,H p=none→Q (.ref p) (upd H p (.tup vs)):=fun p hp=>by
  obtain ⟨hs,hz⟩:=l.fresh hp
  have k:=Kp.new (o:=HO.tup vs) hp hz
  exact c _ _ _ _ k (.tup (SqT.of za9) (r.mono k)) (l.lay hp) h
def tup3 (t:TA3):TE3:=fun σ S Q=>t σ S fun xs S1=>xs.length≤sizeLine∧Q (.tup xs) S1
def lst3 (t:TA3):TE3:=fun σ S Q=>t σ S fun xs S1=>xs.length≤sizeLine∧newL S1 xs Q
theorem zbc {x1} (h:PA3 X W3 es t):PE3 X W3 (.Tuple es x1 pos) (tup3 t):=fun Z=>PE.imp (pe_tup (h Z)) fun τ H Q ⟨σ,S,Q3,hs,hr,ht,hc⟩ =>
  ⟨σ,S,_,hs,hr,ht,fun xs S1 vs H1 k1 r1 l1 z_14=>by obtain ⟨z,q⟩:=z_14;exact ⟨by rw [←r1.len];exact z,tup.down q r1 l1 (hc.mono k1)⟩⟩
theorem ziw (h:PA3 X W3 es t):PE3 X W3 (.List es pos) (lst3 t):=fun Z=>PE.imp (pe_lst (h Z)) fun τ H Q ⟨σ,S,Q3,hs,hr,ht,hc⟩ =>
  ⟨σ,S,_,hs,hr,ht,fun xs S1 vs H1 k1 r1 l1 z_15=>by obtain ⟨z,q⟩:=z_15;exact ⟨by rw [←r1.len];exact z,newL.down q r1 l1 (hc.mono k1)⟩⟩
def DnC (K:PySem.W.Frag) (r3:List D→Hp3→K3→Prop) (r:List V→Hp→VK→Prop):Prop:=∀(Z:Zt) ds S Q3 vs H Q,Rps K H ds vs→Rl K Z S H→r3 ds S Q3→CK K Z H Q3 Q→r vs H Q
def cb3 (r:List D→Hp3→K3→Prop) (t:TA3):TE3:=fun σ S Q=>t σ S fun vs S1=>r vs S1 Q
variable {x:Str} {p:Pos} {id T:String} {r3:List D→Hp3→K3→Prop} {r:List V→Hp→VK→Prop}
theorem zng {K:PySem.W.Frag} {Z:Zt} (hd:DnC K r3 r) {τ:L2.St} {H:Hp} {Q:VK} (h:lE K Z (cb3 r3 t) τ H Q):tCB r (lA K Z t) τ H Q:=by
  obtain ⟨σ,S,Q3,hs,hr,ht,hc⟩:=h
  exact ⟨σ,S,_,hs,hr,ht,fun ds S1 vs H1 k1 r1 l1 q1=>hd Z ds S1 Q3 vs H1 Q r1 l1 q1 (hc.mono k1)⟩
theorem zav (hc:CallR X (.builtin id) r) (hd:DnC X.K r3 r) (hg:Gl X x) (hm:X.mg x=none) (hv:bootBuiltins x=some (.builtin id)) (ha:PA3 X W3 (e::es) t) (hn:x≠"__name__":=by decide) (hdb:(x==("__debug__":Str))=false:=by decide)
    (he:starEach (e::es) X.env=(false,eval e X.env)::starEach es X.env:=by rfl) (hpl:(backTo pos (starEach es X.env)).any (·.1)=false:=by rfl):PE3 X W3 (.Call (.Name x p) (e::es) [] pos) (cb3 r3 t) :=
  fun Z=>PE.imp (zn7 hc hg hm hv (ha Z) hn hdb he hpl) fun _ _ _ h=>zng hd h
theorem zdb (hc:CallR X (.type T) r) (hd:DnC X.K r3 r) (hg:Gl X x) (hm:X.mg x=none) (hv:bootBuiltins x=some (.type T)) (ha:PA3 X W3 (e::es) t) (hn:x≠"__name__":=by decide) (hdb:(x==("__debug__":Str))=false:=by decide)
    (he:starEach (e::es) X.env=(false,eval e X.env)::starEach es X.env:=by rfl) (hpl:(backTo pos (starEach es X.env)).any (·.1)=false:=by rfl):PE3 X W3 (.Call (.Name x p) (e::es) [] pos) (cb3 r3 t) :=
  fun Z=>PE.imp (zmc hc hg hm hv (ha Z) hn hdb he hpl) fun _ _ _ h=>zng hd h
def DnM (K:PySem.W.Frag) (r3:D→List D→Hp3→K3→Prop) (r:V→List V→Hp→VK→Prop):Prop:=∀(Z:Zt) x ds S Q3 v vs H Q,Rp K H x v→Rps K H ds vs→Rl K Z S H→r3 x ds S Q3→CK K Z H Q3 Q→r v vs H Q
def TyD (T:String) (x:D) (S:Hp3):Prop:=(T="str"∧∃z,x=.str z)∨(T="list"∧∃ds,IsL S x ds)∨(T="dict"∧∃a kvs,x=.ref a∧S a=some (.dic kvs))
theorem TyD.down {K:PySem.W.Frag} {Z:Zt} {S:Hp3} {H:Hp} {T:String} {x:D} {v:V} (h:TyD T x S) (r:Rp K H x v) (l:Rl K Z S H):tyV K T v H:=by
  rcases h with ⟨rfl,z,rfl⟩|⟨rfl,ds,h⟩|⟨rfl,a,kvs,rfl,e⟩
  · cases r;rfl
  · obtain ⟨a,vs,rfl,h1,_⟩:=h.down r l
    exact .inl ⟨rfl,vs,h1⟩
  · cases r
    obtain ⟨ws,h1,_⟩:=l.obj a _ e
    exact .inr (.inr (.inl ⟨rfl,.inl ⟨ws,h1⟩⟩))
def bm03 (T:String) (r:D→List D→Hp3→K3→Prop) (to:TE3):TE3:=fun σ S Q=>to σ S fun x S1=>TyD T x S1∧r x [] S1 Q
def bm3 (T:String) (r:D→List D→Hp3→K3→Prop) (to:TE3) (t:TA3):TE3:=fun σ S Q=>to σ S fun x S1=>TyD T x S1∧t σ S1 fun xs S2=>r x xs S2 Q
variable {o:Expr} {to:TE3} {name:Str} {apos cpos:Pos} {m3:D→List D→Hp3→K3→Prop} {m:V→List V→Hp→VK→Prop}
theorem e_bm0 (pa:PlainAttrs T) (slot:Slot T name id) (hty:typeOf (.builtin id)=pure (.type "method_descriptor")) (hm:MtR X id m) (hd:DnM X.K m3 m) (ho:PE3 X W3 o to)
    (hbase:attributeBase o name X.env (eval o X.env)=eval o X.env:=by rfl) (hline:(apos.endLine==cpos.line)=true:=by rfl):PE3 X W3 (.Call (.Attribute o name apos) [] [] cpos) (bm03 T m3 to) :=
  fun Z=>PE.imp (pe_bm0 pa slot hty hm (ho Z) hbase hline) fun τ H Q ⟨σ,S,Q3,hs,hr,ht,hc⟩ =>
    ⟨σ,S,_,hs,hr,ht,fun x S1 v H1 k1 r1 l1 z_16=>by obtain ⟨ty,q⟩:=z_16;exact ⟨ty.down r1 l1,hd Z.z x [] S1 Q3 v [] H1 Q r1 .nil l1 q (hc.mono k1)⟩⟩
theorem e_bm (pa:PlainAttrs T) (slot:Slot T name id) (hty:typeOf (.builtin id)=pure (.type "method_descriptor")) (hm:MtR X id m) (hd:DnM X.K m3 m) (ho:PE3 X W3 o to) (ha:PA3 X W3 (e::es) t)
    (hbase:attributeBase o name X.env (eval o X.env)=eval o X.env:=by rfl)
    (hfew:((backTo cpos (starEach (e::es) X.env)).all (fun x=>!x.1)&&(backToKw cpos (keywordEach [] X.env)).all (fun x=>x.1.isSome)
      && decide ((e::es).length+([]:List Keyword).length+(if ([]:List Keyword).isEmpty then 0 else 1)<30))=true:=by rfl)
    (hline:(apos.endLine==cpos.line)=true:=by rfl) (hs:starEach (e::es) X.env=(false,eval e X.env)::starEach es X.env:=by rfl) (hplain:(backTo cpos (starEach es X.env)).any (·.1)=false:=by rfl) :
    PE3 X W3 (.Call (.Attribute o name apos) (e::es) [] cpos) (bm3 T m3 to t) :=
  fun Z=>PE.imp (pe_bm pa slot hty hm (ho Z) (ha Z) hbase hfew hline hs hplain) fun τ H Q ⟨σ,S,Q3,hs,hr,ht,hc⟩ =>
    ⟨σ,S,_,hs,hr,ht,fun x S1 v H1 k1 r1 l1 z_17=>by obtain ⟨ty,q⟩:=z_17;exact ⟨ty.down r1 l1,σ,S1,_,hs.mono k1,l1,q,fun ds S2 vs H2 k2 r2 l2 q2=>hd Z.z x ds S2 Q3 v vs H2 Q (r1.mono k2) r2 l2 q2 (hc.mono (k1.trans k2))⟩⟩
noncomputable abbrev TO3:=St3→Hp3→(Option Int→Hp3→Prop)→Prop
def CO (K:PySem.W.Frag) (Z:Zt) (H:Hp) (Q3:Option Int→Hp3→Prop) (Q:Option Int→Hp→Prop):Prop:=∀d S H',Kp Z H H'→Rl K Z S H'→Q3 d S→Q d H'
noncomputable def lO (K:PySem.W.Frag) (Z:Zt) (t:TO3):TO:=fun τ H Q=>∃σ S Q3,SR K H σ τ∧Rl K Z S H∧t σ S Q3∧CO K Z H Q3 Q
def PO3 (X:Cx) (W3:W3T) (e:Option Expr) (t:TO3):Prop:=∀Z:ZX X W3,PO X e (lO X.K Z.z t)
def nopart3:TO3:=fun _ S Q=>Q none S
def part3 (t:TE3):TO3:=fun σ S Q=>t σ S fun x S1=>∃i,x=.int i∧Q (some i) S1
theorem PO.imp {X:Cx} {e:Option Expr} {t u:TO} (h:PO X e t) (f:∀σ H Q,u σ H Q→t σ H Q):PO X e u:=fun pins s σ H Q I q=>h pins s σ H Q I (f _ _ _ q)
theorem zbz:PO3 X W3 none nopart3:=fun Z=>PO.imp zp2 fun τ H Q z_18=>by obtain ⟨σ,S,Q3,hs,hr,ht,hc⟩:=z_18;exact hc none S H (Kp.refl _ _) hr ht
theorem zbi (h:PE3 X W3 e ta):PO3 X W3 (some e) (part3 ta):=fun Z=>PO.imp (zp1 (h Z)) fun τ H Q z_19=>by
  obtain ⟨σ,S,Q3,hs,hr,ht,hc⟩:=z_19
  refine ⟨σ,S,_,hs,hr,ht,fun x S1 v H1 k1 r1 l1 q1=>?_⟩
  obtain ⟨i,rfl,q⟩:=q1
  cases r1
  exact ⟨i,rfl,hc _ S1 H1 k1 l1 q⟩
def DnS (K:PySem.W.Frag) (r3:D→Option Int→Option Int→Hp3→K3→Prop) (r:V→Option Int→Option Int→Hp→VK→Prop):Prop:=∀(Z:Zt) x lo hi S Q3 v H Q,Rp K H x v→Rl K Z S H→r3 x lo hi S Q3→CK K Z H Q3 Q→r v lo hi H Q
def sl3 (r:D→Option Int→Option Int→Hp3→K3→Prop) (te:TE3) (tl th:TO3):TE3:=fun σ S Q=>te σ S fun x S1=>tl σ S1 fun l S2=>th σ S2 fun u S3=>r x l u S3 Q
theorem za8 {lo hi:Option Expr} {tl th:TO3} {p2:Pos} {s3:D→Option Int→Option Int→Hp3→K3→Prop} {s2:V→Option Int→Option Int→Hp→VK→Prop} (hr:SlR X s2) (hd:DnS X.K s3 s2) (he:PE3 X W3 e ta) (hl:PO3 X W3 lo tl) (hu:PO3 X W3 hi th) :
    PE3 X W3 (.Subscript e (.Slice lo hi none p2) pos) (sl3 s3 ta tl th):=fun Z=>PE.imp (zn1 hr (he Z) (hl Z) (hu Z)) fun τ H Q z_20=>by obtain ⟨σ,S,Q3,hs,hr,ht,hc⟩:=z_20;exact 
  ⟨σ,S,_,hs,hr,ht,fun x S1 v H1 k1 r1 l1 q1=>⟨σ,S1,_,hs.mono k1,l1,q1,fun l S2 H2 k2 l2 q2=>⟨σ,S2,_,hs.mono (k1.trans k2),l2,q2,fun u S3 H3 k3 l3 q3 =>
    hd Z.z x l u S3 Q3 v H3 Q (r1.mono (k2.trans k3)) l3 q3 (hc.mono (k1.trans (k2.trans k3)))⟩⟩⟩
noncomputable def kD:Key→D
  | .inl i=>.int i
  | .inr x=>.str x
noncomputable def valD (kvs:List (Key×D)) (k:Key):Option D:=(kvs.find? fun kv=>decide (kv.1=k)).map (·.2)
def dget3 (td ty:TE3):TE3:=fun σ S Q=>td σ S fun x S1=>ty σ S1 fun y S2=>∃a kvs k v,x=.ref a∧S2 a=some (.dic kvs)∧y=kD k∧valD kvs k=some v∧Q v S2
theorem zqg {K:PySem.W.Frag} {H:Hp} {k:Key} {v:V} (r:Rp K H (kD k) v):v=kV k:=by
  cases k with
  | inl i=>cases r;rfl
  | inr x=>cases r;rfl
noncomputable abbrev KR (K:PySem.W.Frag) (H:Hp):=Paired (fun (p:Key×D) (q:Key×V)=>p.1=q.1∧Rp K H p.2 q.2)
theorem KR.val {K:PySem.W.Frag} {H:Hp} {kvs:List (Key×D)} {ws:List (Key×V)} (r:KR K H kvs ws) (k:Key):RO K H (valD kvs k) (valV ws k)∧(valD kvs k).isSome=(valV ws k).isSome:=by
  induction r with
  | nil=>exact ⟨fun d e=>(nomatch e),rfl⟩
  | @cons p q ps qs h t ih =>
    obtain ⟨h1,h2⟩:=h
    by_cases e:p.1=k
    · have e2:q.1=k:=h1▸e
      have a:valD (p::ps) k=some p.2:=by simp [valD,List.find?_cons,e]
      rw [a,zfj e2]
      exact ⟨fun d z=>by cases z;exact ⟨_,rfl,h2⟩,rfl⟩
    · have e2:¬q.1=k:=h1▸e
      have a:valD (p::ps) k=valD ps k:=by simp [valD,List.find?_cons,e]
      rw [a,zfk e2]
      exact ih
theorem DGet.down {K:PySem.W.Frag} {Z:Zt} {S:Hp3} {H:Hp} {a:Addr} {kvs:List (Key×D)} {k:Key} {v:V} (l:Rl K Z S H) (e:S a=some (.dic kvs)) (r:Rp K H (kD k) v):∃ws,DGet H a v (valV ws k)∧KR K H kvs ws:=by
  obtain ⟨ws,h1,h2⟩:=l.obj a _ e
  rw [zqg r]
  exact ⟨ws,DGet.k h1,h2⟩
theorem e_dget {i:Expr} {td ty:TE3} (hu:X.A.units+1<cLine) (ho:PE3 X W3 o td) (hi:PE3 X W3 i ty) (hs:NoSl i):PE3 X W3 (.Subscript o i pos) (dget3 td ty):=fun Z=>PE.imp (zp5 hu (ho Z) (hi Z) hs) fun τ H Q z_21=>by
  obtain ⟨σ,S,Q3,hs,hr,ht,hc⟩:=z_21
  refine ⟨σ,S,_,hs,hr,ht,fun x S1 v H1 k1 r1 l1 q1=>⟨σ,S1,_,hs.mono k1,l1,q1,fun y S2 w H2 k2 r2 l2 q2=>?_⟩⟩
  obtain ⟨a,kvs,k,d,rfl,e,rfl,ev,q⟩:=q2
  cases r1
  obtain ⟨ws,g,kr⟩:=DGet.down l2 e r2
  obtain ⟨u,eu,ru⟩:=(kr.val k).1 d ev
  rw [eu] at g
  exact ⟨a,u,rfl,g,hc d S2 u H2 (k1.trans k2) ru l2 q⟩
end
end E3
namespace E3
open PySem PySem.Spec PyProof.Rows L2 EE
section
variable {X:Cx} {W3:W3T} {st:Stmt} {rest:List Stmt} {t u:TS3} {e:Expr} {te:TE3} {pos:Pos}
def next3:TS3:=fun D σ S=>D.nx σ S
def seq3 (t u:TS3):TS3:=fun D σ S=>t {D with nx:=u D} σ S
theorem zax:PSs3 X W3 [] next3:=fun Z=>PSs.imp zpx fun D τ H z_1=>by obtain ⟨D3,σ,S,hs,hr,ht,hc⟩:=z_1;exact hc.nx σ S τ H (Kp.refl _ _) hs hr ht
theorem zac (h1:PS3 X W3 st t) (h2:PSs3 X W3 rest u):PSs3 X W3 (st::rest) (seq3 t u):=fun Z=>PSs.imp (znv (h1 Z) (h2 Z)) fun D τ H ⟨D3,σ,S,hs,hr,ht,hc⟩ =>
  ⟨_,σ,S,hs,hr,ht,⟨fun σ' S' τ' H' k r l q=>⟨D3,σ',S',r,l,q,hc.mono k⟩,hc.bk,hc.ct,hc.rt⟩⟩
theorem zam (h1:PS3 X W3 st t):PSs3 X W3 [st] t:=fun Z=>zpw (h1 Z)
def drop3 (te:TE3):TS3:=fun D σ S=>te σ S fun _ S1=>D.nx σ S1
theorem zfb (he:PE3 X W3 e te) (hs:swapsWith e none pos.line X.env=pure false:=by rfl):PS3 X W3 (.Expr e pos) (drop3 te):=fun Z=>PS.imp (zpy (he Z) hs) fun D τ H ⟨D3,σ,S,hs,hr,ht,hc⟩ =>
  ⟨σ,S,_,hs,hr,ht,fun d S' v H' k r l q=>hc.nx σ S' τ H' k (hs.mono k) l q⟩
def ret3 (te:TE3):TS3:=fun D σ S=>te σ S D.rt
theorem zaq (he:PE3 X W3 e te):PS3 X W3 (.Return (some e) pos) (ret3 te):=fun Z=>PS.imp (ps_ret (he Z)) fun D τ H z_6=>by obtain ⟨D3,σ,S,hs,hr,ht,hc⟩:=z_6;exact ⟨σ,S,_,hs,hr,ht,hc.rt⟩
def ifs3 (c:TT3) (t u:TS3):TS3:=fun D σ S=>c σ S fun b S1=>if b=true then t D σ S1 else u D σ S1
theorem s_if {c:Expr} {a b:List Stmt} {tc:TT3} (hc:PT3 X W3 c tc) (ha:PSs3 X W3 a t) (hb:PSs3 X W3 b u):PS3 X W3 (.If c a b pos) (ifs3 tc t u):=fun Z=>PS.imp (ps_if (hc Z) (ha Z) (hb Z)) fun D τ H z_8=>by
  obtain ⟨D3,σ,S,hs,hr,ht,hc⟩:=z_8
  refine ⟨σ,S,_,hs,hr,ht,fun b S' H' k l q=>?_⟩
  cases b with
  | true=>exact ⟨D3,σ,S',hs.mono k,l,q,hc.mono k⟩
  | false=>exact ⟨D3,σ,S',hs.mono k,l,q,hc.mono k⟩
noncomputable abbrev TG3:=D→St3→Hp3→(St3→Hp3→Prop)→Prop
def lG (K:PySem.W.Frag) (Z:Zt) (t:TG3):TG:=fun v τ H Q=>∃d σ S Q3,Rp K H d v∧SR K H σ τ∧Rl K Z S H∧t d σ S Q3∧CS K Z H Q3 Q
def PG3 (X:Cx) (W3:W3T) (tg:Expr) (t:TG3):Prop:=∀Z:ZX X W3,PG X tg (lG X.K Z.z t)
theorem PG.imp {X:Cx} {e:Expr} {t u:TG} (h:PG X e t) (f:∀v σ H Q,u v σ H Q→t v σ H Q):PG X e u:=fun pins s σ H v w Q I r q=>h pins s σ H v w Q I r (f _ _ _ _ q)
def name3 (i:Nat):TG3:=fun v σ S Q=>Q (σ.set i (some v)) S
theorem zkl {i:Nat} {x:Str} (hN:X.N.Nodup) (hi:X.N[i]?=some x) (hx:Loc X.env.scope x) (hf:X.fn x=true∨X.env.scope.names.lookup x=some .local:=by first|exact .inl rfl|exact .inr rfl|assumption):PG3 X W3 (.Name x pos) (name3 i) :=
  fun Z=>PG.imp (zl8 hN hi hx hf) fun v τ H Q z_11=>by obtain ⟨d,σ,S,Q3,r,hs,hr,ht,hc⟩:=z_11;exact hc _ S _ H (Kp.refl _ _) (hs.set r i) hr ht
def asg3 (te:TE3) (g:TG3):TS3:=fun D σ S=>te σ S fun x S1=>g x σ S1 D.nx
theorem zo1 {K:PySem.W.Frag} {Z:Zt} {g:TG3} {D:Ends} {τ:L2.St} {H:Hp} (h:lS K Z (asg3 te g) D τ H):tAsg (lE K Z te) (lG K Z g) D τ H:=by
  obtain ⟨D3,σ,S,hs,hr,ht,hc⟩:=h
  exact ⟨σ,S,_,hs,hr,ht,fun d S' v H' k r l q=>⟨d,σ,S',_,r,hs.mono k,l,q,hc.nx.mono k⟩⟩
theorem s_asg {tg:Expr} {g:TG3} (he:PE3 X W3 e te) (hg:PG3 X W3 tg g) (hs:swapsWithSole [tg] e pos.line X.env=pure false:=by rfl) (hw:swappedStores [tg] e X.env=pure none:=by rfl)
    (h1:(assignEach [tg] X.env).map (·.2)=[assign tg X.env]:=by rfl):PS3 X W3 (.Assign [tg] e pos) (asg3 te g):=fun Z=>PS.imp (ps_asg (he Z) (hg Z) hs hw h1) fun D τ H h=>zo1 h
def set3 (i:Nat) (te:TE3):TS3:=fun D σ S=>te σ S fun x S1=>D.nx (σ.set i (some x)) S1
theorem zas {i:Nat} {x:Str} {pos':Pos} (hN:X.N.Nodup) (hi:X.N[i]?=some x) (hx:Loc X.env.scope x) (he:PE3 X W3 e te) (hs:swapsWith e (some (.Name x pos')) pos.line X.env=pure false:=by rfl) (hf:X.fn x=true∨X.env.scope.names.lookup x=some .local:=by first|exact .inl rfl|exact .inr rfl|assumption) :
    PS3 X W3 (.Assign [.Name x pos'] e pos) (set3 i te):=fun Z=>PS.imp (ps_set hN hi hx (he Z) hs hf) fun D τ H z_15=>by obtain ⟨D3,σ,S,hs,hr,ht,hc⟩:=z_15;exact 
  ⟨σ,S,_,hs,hr,ht,fun d S' v H' k r l q=>hc.nx _ S' _ H' k ((hs.mono k).set r i) l q⟩
def setL3 (to ti:TE3):TG3:=fun v σ S Q=>to σ S fun o S1=>ti σ S1 fun i S2=>∃p xs k j,o=.ref p∧i=.int k∧S2 p=some (.lst xs)∧ixN xs.length k=some j∧Q σ (up S2 p (.lst (xs.set j v)))
theorem g_sub {o i:Expr} {to ti:TE3} (ho:PE3 X W3 o to) (hi:PE3 X W3 i ti)
    (ha:∀v,assign (.Subscript o i pos) X.env v=(do
      let ov ←holding [v] (eval o X.env)
      let iv ←holding [v,ov] (eval i X.env)
      standAt pos
      holding [v,ov,iv] (setItem ov iv v)
      release [v,ov,iv] []):=by intro _;rfl):PG3 X W3 (.Subscript o i pos) (setL3 to ti):=fun Z=>PG.imp (pg_sub (ho Z) (hi Z) set_list ha) fun v τ H Q z_16=>by
  obtain ⟨d,σ,S,Q3,r,hs,hr,ht,hc⟩:=z_16
  refine ⟨σ,S,_,hs,hr,ht,fun x1 S1 v1 H1 k1 r1 l1 q1=>⟨σ,S1,_,hs.mono k1,l1,q1,fun x2 S2 v2 H2 k2 r2 l2 q2=>?_⟩⟩
  obtain ⟨p,xs,k,j,rfl,rfl,e,hj,q⟩:=q2
  cases r1
  cases r2
  obtain ⟨vs,h1,h2⟩:=l2.obj p _ e
  have kk:Kp Z.z H2 (upd H2 p (.lst (vs.set j v))):=Kp.at l2 e
  refine ⟨p,vs,k,j,rfl,rfl,h1,by rw [←h2.len];exact hj,?_⟩
  have k12:=k1.trans (k2.trans kk)
  exact hc σ _ τ _ k12 (hs.mono k12) (l2.put (o:=.lst (xs.set j d)) kk (l2.notZ e) ⟨_,za9,(h2.mono kk).set (r.mono k12) j⟩) q
def while3 (c:TT3) (tb:TS3):TS3:=fun D σ S=>∃W:Nat→St3→Hp3→Prop,(∃m,W m σ S)∧∀m σ S,W m σ S →
  c σ S fun b S1=>if b=true then tb {D with nx:=fun σ' S'=>∃m',m'<m∧W m' σ' S',ct:=fun σ' S'=>∃m',m'<m∧W m' σ' S',bk:=D.nx} σ S1 else D.nx σ S1
theorem zly {c:Expr} {body:List Stmt} {tc:TT3} {tb:TS3} (hp:PassesOwn (model X.prog X.w) X.A X.env X.xe) (hc:PT3 X W3 c tc) (hb:PSs3 X W3 body tb):PS3 X W3 (.While c body [] pos) (while3 tc tb):=fun Z=>PS.imp (znw hp (hc Z) (hb Z)) fun D τ H z_19=>by
  obtain ⟨D3,σ,S,hs,hr,⟨W,⟨m0,w0⟩,turn⟩,hc⟩:=z_19
  refine ⟨fun m τ' H'=>∃σ' S',Kp Z.z H H'∧SR X.K H' σ' τ'∧Rl X.K Z.z S' H'∧W m σ' S',⟨m0,σ,S,Kp.refl _ _,hs,hr,w0⟩,?_⟩
  rintro m τ1 H1 ⟨σ1,S1,k1,s1,l1,w1⟩
  refine ⟨σ1,S1,_,s1,l1,turn m σ1 S1 w1,fun b S2 H2 k2 l2 q2=>?_⟩
  cases b with
  | true =>
    rw [if_pos rfl] at q2 ⊢
    refine ⟨fun τ' H'=>∃m',m'<m∧∃σ' S',Kp Z.z H H'∧SR X.K H' σ' τ'∧Rl X.K Z.z S' H'∧W m' σ' S',fun τ' H' z=>z,_,σ1,S2,s1.mono k2,l2,q2,⟨?_,?_,?_,?_⟩⟩
    · exact fun σ' S' τ' H' k r l z_20=>by obtain ⟨m',hm,w⟩:=z_20;exact ⟨m',hm,σ',S',k1.trans (k2.trans k),r,l,w⟩
    · exact hc.nx.mono (k1.trans k2)
    · exact fun σ' S' τ' H' k r l z_21=>by obtain ⟨m',hm,w⟩:=z_21;exact ⟨m',hm,σ',S',k1.trans (k2.trans k),r,l,w⟩
    · exact hc.rt.mono (k1.trans k2)
  | false =>
    rw [if_neg Bool.false_ne_true] at q2 ⊢
    exact hc.nx σ1 S2 τ1 H2 (k1.trans k2) (s1.mono k2) l2 q2
end
noncomputable abbrev TI3:=St3→Hp3→(List D→(Hp3→Prop)→Hp3→Prop)→Prop
structure Wk (K:PySem.W.Frag) (Z:Zt) (J:It) (ds:List D) (Al:Hp3→Prop) (H0:Hp):Prop where
  go:∀i d S H,Kp Z H0 H→Rl K Z S H→Al S→ds[i]?=some d→J.go i H∧∀v H',J.yld i H v H'→Kp Z H H'∧Rp K H' d v∧(∀S',Rl K Z S' H→Rl K Z S' H')∧∀b,H b≠none→H' b=H b
  stop:∀S H,Kp Z H0 H→Rl K Z S H→Al S→J.stop ds.length H
def lI (K:PySem.W.Frag) (Z:Zt) (t:TI3):TI:=fun τ H R=>∃σ S R3,SR K H σ τ∧Rl K Z S H∧t σ S R3∧∀ds Al S' J H',Kp Z H H'→Rl K Z S' H'→R3 ds Al S'→Wk K Z J ds Al H'→R J H'
def PI3 (X:Cx) (W3:W3T) (tg iter:Expr) (t:TI3):Prop:=∀Z:ZX X W3,PI X tg iter (lI X.K Z.z t)
theorem PI.imp {X:Cx} {tg e:Expr} {t u:TI} (h:PI X tg e t) (f:∀σ H R,u σ H R→t σ H R):PI X tg e u:=fun pins s σ H Q I q=>h pins s σ H Q I (f _ _ _ q)
section
variable {X:Cx} {W3:W3T} {tg l:Expr} {tl:TE3} {pos:Pos}
def iL3 (tl:TE3):TI3:=fun σ S R=>tl σ S fun x S1=>(∃a ds,x=.ref a∧S1 a=some (.lst ds)∧R ds (fun S=>S a=some (.lst ds)) S1)∨∃ds,x=.rol ds∧R ds (fun _=>True) S1
theorem i_list (hl:PE3 X W3 l tl):PI3 X W3 tg l (iL3 tl):=fun Z=>PI.imp (zp3 (hl Z)) fun τ H R z_22=>by
  obtain ⟨σ,S,R3,hs,hr,ht,hc⟩:=z_22
  refine ⟨σ,S,_,hs,hr,ht,fun x S1 v H1 k1 r1 l1 q1=>?_⟩
  rcases q1 with ⟨a,ds,rfl,e,q⟩|⟨ds,rfl,q⟩
  · cases r1
    obtain ⟨vs,h1,h2⟩:=l1.obj a _ e
    refine ⟨a,rfl,⟨vs,SqL.of h1⟩,hc ds _ S1 _ H1 k1 l1 q ⟨fun i d S2 H2 k2 l2 al hd=>?_,fun S2 H2 k2 l2 al=>?_⟩⟩
    · obtain ⟨ws,h3,h4⟩:=l2.obj a _ al
      obtain ⟨v,hv,rv⟩:=h4.at hd
      refine ⟨⟨ws,v,SqL.of h3,hv⟩,fun v' H' y=>?_⟩
      obtain ⟨rfl,y⟩:=y
      have:=y ws (SqL.of h3)
      rw [hv] at this
      cases this
      exact ⟨Kp.refl _ _,rv,fun _ z=>z,fun _ _=>rfl⟩
    · obtain ⟨ws,h3,h4⟩:=l2.obj a _ al
      exact ⟨ws,SqL.of h3,by rw [h4.len];exact Nat.le_refl _⟩
  · cases r1 with
    | @rol a vs _ h1 h2 =>
      refine ⟨a,rfl,⟨vs,h1.sq⟩,hc ds _ S1 _ H1 k1 l1 q ⟨fun i d S2 H2 k2 l2 al hd=>?_,fun S2 H2 k2 l2 al=>?_⟩⟩
      · obtain ⟨v,hv,rv⟩:=h2.at hd
        have h3:=(k2.scR h1).sq
        refine ⟨⟨vs,v,h3,hv⟩,fun v' H' y=>?_⟩
        obtain ⟨rfl,y⟩:=y
        have:=y vs h3
        rw [hv] at this
        cases this
        exact ⟨Kp.refl _ _,rv.mono k2,fun _ z=>z,fun _ _=>rfl⟩
      · exact ⟨vs,(k2.scR h1).sq,by rw [h2.len];exact Nat.le_refl _⟩
def iT3 (tl:TE3):TI3:=fun σ S R=>tl σ S fun x S1=>∃ds,x=.tup ds∧R ds (fun _=>True) S1
theorem zmy (hl:PE3 X W3 l tl):PI3 X W3 tg l (iT3 tl):=fun Z=>PI.imp (pi_tup (hl Z)) fun τ H R z_23=>by
  obtain ⟨σ,S,R3,hs,hr,ht,hc⟩:=z_23
  refine ⟨σ,S,_,hs,hr,ht,fun x S1 v H1 k1 r1 l1 q1=>?_⟩
  obtain ⟨ds,rfl,q⟩:=q1
  cases r1 with
  | @tup a vs _ h1 h2 =>
    refine ⟨a,rfl,⟨vs,h1⟩,hc ds _ S1 _ H1 k1 l1 q ⟨fun i d S2 H2 k2 l2 al hd=>?_,fun S2 H2 k2 l2 al=>?_⟩⟩
    · obtain ⟨v,hv,rv⟩:=h2.at hd
      have h3:=k2.sqT h1
      refine ⟨⟨vs,v,h3,hv⟩,fun v' H' y=>?_⟩
      obtain ⟨rfl,y⟩:=y
      have:=y vs h3
      rw [hv] at this
      cases this
      exact ⟨Kp.refl _ _,rv.mono k2,fun _ z=>z,fun _ _=>rfl⟩
    · exact ⟨vs,k2.sqT h1,by rw [h2.len];exact Nat.le_refl _⟩
noncomputable def signs (x:Str):List D:=x.cps.toList.map fun c=>.str ⟨#[c]⟩
def iS3 (tl:TE3):TI3:=fun σ S R=>tl σ S fun x S1=>∃z,x=.str z∧R (signs z) (fun _=>True) S1
theorem i_str (hl:PE3 X W3 l tl):PI3 X W3 tg l (iS3 tl):=fun Z=>PI.imp (pi_str (hl Z)) fun τ H R z_25=>by
  obtain ⟨σ,S,R3,hs,hr,ht,hc⟩:=z_25
  refine ⟨σ,S,_,hs,hr,ht,fun x S1 v H1 k1 r1 l1 q1=>?_⟩
  obtain ⟨z,rfl,q⟩:=q1
  cases r1
  refine ⟨z,rfl,hc _ _ S1 _ H1 k1 l1 q ⟨fun i d S2 H2 k2 l2 al hd=>?_,fun S2 H2 k2 l2 al=>?_⟩⟩
  · unfold signs at hd
    rw [List.getElem?_map] at hd
    cases e:z.cps.toList[i]? with
    | none=>rw [e] at hd;cases hd
    | some c =>
      rw [e] at hd
      cases hd
      have hi:=(List.getElem?_eq_some_iff.mp e).1
      have e':z.cps[i]?=some c:=by simpa using e
      refine ⟨by show i<z.cps.size;simpa using hi,fun v' H' y=>?_⟩
      obtain ⟨rfl,c',hc',rfl⟩:=y
      rw [e'] at hc'
      cases hc'
      exact ⟨Kp.refl _ _,.str _,fun _ z=>z,fun _ _=>rfl⟩
  · show z.cps.size≤(signs z).length
    simp [signs]
noncomputable def nums (lo:Int) (n:Nat):List D:=(List.range n).map fun i:Nat=>.int (lo+(i:Int))
theorem zc9 {lo:Int} {n i:Nat} {d:D} (h:(nums lo n)[i]?=some d):i<n∧d=.int (lo+(i:Int)):=by
  unfold nums at h
  rw [List.getElem?_map] at h
  cases e:(List.range n)[i]? with
  | none=>rw [e] at h;cases h
  | some c =>
    rw [e] at h
    cases h
    obtain ⟨h1,h2⟩:=List.getElem?_eq_some_iff.mp e
    rw [List.getElem_range] at h2
    subst h2
    exact ⟨by simpa using h1,rfl⟩
theorem zbr {lo:Int} {n:Nat}:(nums lo n).length=n:=by simp [nums]
def iR1 (ta:TA3):TI3:=fun σ S R=>ta σ S fun vs S1=>∃j:Int,vs=[.int j]∧-(2^62)≤j∧j<2^62∧R (nums 0 j.toNat) (fun _=>True) S1
theorem wk_rng {K:PySem.W.Frag} {Z:Zt} {lo:Int} {n:Nat} {H:Hp}:Wk K Z (Itr lo n) (nums lo n) (fun _=>True) H:=by
  refine ⟨fun i d S2 H2 k2 l2 al hd=>?_,fun S2 H2 k2 l2 al=>?_⟩
  · obtain ⟨hi,rfl⟩:=zc9 hd
    refine ⟨hi,fun v' H' y=>?_⟩
    obtain ⟨rfl,rfl⟩:=y
    exact ⟨Kp.refl _ _,.int _,fun _ z=>z,fun _ _=>rfl⟩
  · show n≤(nums lo n).length
    rw [zbr]
    exact Nat.le_refl _
theorem zcz {a:Expr} {ta:TA3} {p:Pos} (hg:Gl X "range") (hm:X.mg "range"=none) (ha:PA3 X W3 [a] ta) (hs:starEach [a] X.env=[(false,eval a X.env)]:=by rfl):PI3 X W3 tg (.Call (.Name "range" p) [a] [] pos) (iR1 ta) :=
  fun Z=>PI.imp (zl7 hg hm (ha Z) hs) fun τ H R z_26=>by
  obtain ⟨σ,S,R3,hs,hr,ht,hc⟩:=z_26
  refine ⟨σ,S,_,hs,hr,ht,fun xs S1 vs0 H1 k1 r1 l1 q1=>?_⟩
  obtain ⟨j,rfl,h1,h2,q⟩:=q1
  cases r1 with
  | cons r1 rr =>
    cases rr
    cases r1
    exact ⟨j,rfl,h1,h2,hc _ _ S1 _ H1 k1 l1 q wk_rng⟩
def for3 (wi:TI3) (g:TG3) (tb:TS3):TS3:=fun D σ S=>wi σ S fun ds Al S1=>∃W:Nat→St3→Hp3→Prop,W 0 σ S1∧(∀i σ S,W i σ S→Al S) ∧
  (∀i d σ S,ds[i]?=some d→W i σ S→g d σ S fun σ2 S2=>tb {D with nx:=W (i+1),ct:=W (i+1),bk:=D.nx} σ2 S2)∧∀σ S,W ds.length σ S→D.nx σ S
theorem znr {iter:Expr} {body:List Stmt} {wi:TI3} {g:TG3} {tb:TS3} (hp:PassesOwn (model X.prog X.w) X.A X.env X.xe) (hc:X.calm=true) (hi:PI3 X W3 tg iter wi) (hg:PG3 X W3 tg g) (hb:PSs3 X W3 body tb)
    (hs:∀x,foldedSetIterable iter X.env x=pure x:=by intro _;rfl):PS3 X W3 (.For tg iter body [] pos) (for3 wi g tb):=fun Z=>PS.imp (ps_for hp hc (hi Z) (hg Z) (hb Z) hs) fun D τ H z_28=>by
  obtain ⟨D3,σ,S,hs,hr,ht,hc⟩:=z_28
  refine ⟨σ,S,_,hs,hr,ht,fun ds Al S1 J H1 k1 l1 q1 wk=>?_⟩
  obtain ⟨W,w0,al,turn,done⟩:=q1
  refine ⟨fun i m τ' H'=>m=ds.length-i∧i≤ds.length∧∃σ' S',Kp Z.z H1 H'∧SR X.K H' σ' τ'∧Rl X.K Z.z S' H'∧W i σ' S',⟨ds.length,by simp,Nat.zero_le _,σ,S1,Kp.refl _ _,hs.mono k1,l1,w0⟩,?_⟩
  rintro i m τ2 H2 ⟨rfl,hi,σ2,S2,k2,s2,l2,w2⟩
  by_cases hlt:i<ds.length
  · have hd:ds[i]?=some ds[i]:=List.getElem?_eq_getElem hlt
    obtain ⟨go,yl⟩:=wk.go i _ S2 H2 k2 l2 (al _ _ _ w2) hd
    refine .inr ⟨go,fun τ' H'=>i<ds.length∧∃σ' S',Kp Z.z H1 H'∧SR X.K H' σ' τ'∧Rl X.K Z.z S' H'∧W (i+1) σ' S',fun τ' H' z=>⟨ds.length-(i+1),by omega,rfl,z.1,z.2⟩,fun v H3 y=>?_⟩
    obtain ⟨k3,rv,l3,_⟩:=yl v H3 y
    refine ⟨_,σ2,S2,_,rv,s2.mono k3,l3 _ l2,turn i _ σ2 S2 hd w2,fun σ4 S4 τ4 H4 k4 s4 l4 q4=>?_⟩
    have k14:=k2.trans (k3.trans k4)
    refine ⟨_,σ4,S4,s4,l4,q4,⟨?_,?_,?_,?_⟩⟩
    · exact fun σ' S' τ' H' k r l w=>⟨hlt,σ',S',k14.trans k,r,l,w⟩
    · exact hc.nx.mono (k1.trans k14)
    · exact fun σ' S' τ' H' k r l w=>⟨hlt,σ',S',k14.trans k,r,l,w⟩
    · exact hc.rt.mono (k1.trans k14)
  · have e:i=ds.length:=by omega
    subst e
    exact .inl ⟨wk.stop S2 H2 k2 l2 (al _ _ _ w2),hc.nx σ2 S2 τ2 H2 (k1.trans k2) s2 l2 (done σ2 S2 w2)⟩
noncomputable def pick3 (σ:St3) (js:List Nat):St3:=js.map fun j=>(σ[j]?).getD none
theorem SR.picks {K:PySem.W.Frag} {H:Hp} {σ:St3} {τ:L2.St} (h:SR K H σ τ) (js:List Nat):SR K H (pick3 σ js) (pick τ js):=by
  unfold pick3 pick
  induction js with
  | nil=>exact .nil
  | cons j js ih =>
    refine .cons (fun d e=>?_) ih
    dsimp only at e ⊢
    cases q:σ[j]? with
    | none=>rw [q] at e;cases e
    | some o =>
      rw [q] at e
      have e:o=some d:=e
      subst e
      obtain ⟨v,h1,h2⟩:=h.at q
      exact ⟨v,by rw [h1];rfl,h2⟩
def comp3 (wi:TI3) (te:TE3) (js:List Nat):TE3:=fun σ S Q=>wi σ S fun ds Al S1=>∃W:Nat→List D→Hp3→Prop,W 0 [] S1∧(∀i ys S,W i ys S→Al S∧ys.length<sizeLine) ∧
  (∀i d ys S,ds[i]?=some d→W i ys S→te (some d::pick3 σ js) S fun y S'=>W (i+1) (ys++[y]) S')∧∀ys S,W ds.length ys S→newL S ys Q
def exZ (K:PySem.W.Frag) (te:TE3):TE:=fun τ H Q=>∃Z:Zt,lE K Z te τ H Q
theorem PE3.ex {X:Cx} {e:Expr} {te:TE3} (h:PE3 X NoX e te):PE X e (exZ X.K te):=fun pins s σ H Q I z_29=>by obtain ⟨Z,q⟩:=z_29;exact h (ZX.no X Z) pins s σ H Q I q
noncomputable abbrev Zt.hide (Z:Zt) (H:Hp) (p:Addr):Zt:=⟨fun a=>Z a∨a=p,H⟩
theorem Rl.hide {K:PySem.W.Frag} {Z:Zt} {S:Hp3} {H:Hp} {p:Addr} (l:Rl K Z S H) (hs:S p=none) (hh:H p≠none):Rl K (Z.hide H p) S H :=
  ⟨l.obj,fun a z=>z.elim (l.hid a) fun e=>e▸⟨hs,hh⟩,Kp.refl _ _⟩
theorem Rl.unhide {K:PySem.W.Frag} {Z Z':Zt} {S:Hp3} {H:Hp} (l:Rl K Z' S H) (h:∀a,Z a→Z' a) (o:Kp Z Z.base H):Rl K Z S H:=⟨l.obj,fun a z=>l.hid a (h a z),o⟩
theorem Kp.unhide {Z Z':Zt} {H H':Hp} (k:Kp Z' H H') (h:∀a,Z a→Z' a):Kp Z H H':=⟨k.tup,k.frz,fun a z=>k.hid a (h a z)⟩
theorem zi1 {K:PySem.W.Frag} {Z:Zt} {wi:TI3} {te:TE3} {js:List Nat} {τ:L2.St} {H:Hp} {Q:VK} (h:lE K Z (comp3 wi te js) τ H Q):tComp (lI K Z wi) (exZ K te) js τ H Q:=by
  obtain ⟨σ,S,Q3,hs,hr,ht,hc⟩:=h
  refine ⟨σ,S,_,hs,hr,ht,fun ds Al S1 J H1 k1 l1 q1 wk=>?_⟩
  intro p hp
  obtain ⟨W,w0,al,turn,done⟩:=q1
  obtain ⟨hsp,hzp⟩:=l1.fresh hp
  have kp:Kp Z H1 (upd H1 p (.lst [])):=Kp.new hp hzp
  refine ⟨fun i m H'=>m=ds.length-i∧i≤ds.length∧∃ys vs S',Kp Z H1 H'∧H' p=some (.lst vs)∧Rps K H' ys vs∧S' p=none∧Rl K Z S' H'∧W i ys S',⟨ds.length,by simp,Nat.zero_le _,[],[],S1,kp,za9,.nil,hsp,l1.lay hp,w0⟩,?_⟩
  rintro i m H2 ⟨rfl,hi,ys,vs,S2,k2,hp2,ry,hs2,l2,w2⟩
  obtain ⟨al2,hz⟩:=al _ _ _ w2
  by_cases hlt:i<ds.length
  · have hd:ds[i]?=some ds[i]:=List.getElem?_eq_getElem hlt
    obtain ⟨go,yl⟩:=wk.go i _ S2 H2 k2 l2 al2 hd
    refine .inr ⟨go,fun H'=>i<ds.length∧∃ys vs S',Kp Z H1 H'∧H' p=some (.lst vs)∧Rps K H' ys vs∧S' p=none∧Rl K Z S' H'∧W (i+1) ys S',fun H' z=>⟨ds.length-(i+1),by omega,rfl,z.1,z.2⟩,fun v H3 y=>?_⟩
    obtain ⟨k3,rv,l3,o3⟩:=yl v H3 y
    have hp3:H3 p=some (.lst vs):=(o3 p (by rw [hp2];simp)).trans hp2
    refine ⟨Z.hide H3 p,_,S2,_,.cons (fun d e=>by cases e;exact ⟨v,rfl,rv⟩) (((hs.mono (k1.trans (k2.trans k3)))).picks js),(l3 _ l2).hide hs2 (by rw [hp3];simp),turn i _ ys S2 hd w2,?_⟩
    intro d S4 w H4 k4 r4 l4 q4
    have hp4:H4 p=some (.lst vs):=(k4.hid p (.inr rfl)).trans hp3
    have k4':=k4.unhide (Z:=Z) fun a z=>.inl z
    have l4':=l4.unhide (Z:=Z) (fun a z=>.inl z) ((l3 _ l2).old.trans k4')
    have kk:Kp Z H4 (upd H4 p (.lst (vs++[w]))):=by
      refine ⟨fun b xs e=>?_,fun b q u e=>?_,fun b z=>?_⟩
      · rw [zar];exact e
        rintro rfl;rw [hp4] at e;cases e
      · rw [zar];exact e
        rintro rfl;rw [hp4] at e;cases e
      · rw [zar];rintro rfl;exact hzp z
    have sp4:S4 p=none:=(l4.hid p (.inr rfl)).1
    have hlen:ys.length=vs.length:=ry.len
    refine ⟨vs,hp4,by omega,hlt,ys++[d],vs++[w],S4,k2.trans (k3.trans (k4'.trans kk)),za9,((ry.mono (k3.trans (k4'.trans kk)))).append (.cons (r4.mono kk) .nil),sp4,⟨fun b u e=>(l4'.obj b u e).keep kk (zar (ne3 e sp4)),fun b z=>?_,l4'.old.trans kk⟩,q4⟩
    have hb:b≠p:=fun e=>hzp (e▸z)
    rw [zar hb]
    exact l4'.hid b z
  · have e:i=ds.length:=by omega
    subst e
    refine .inl ⟨wk.stop S2 H2 k2 l2 al2,?_⟩
    refine hc (.ref p) (up S2 p (.lst ys)) (.ref p) H2 (k1.trans k2) (.ref p) ⟨fun b u e=>?_,fun b z=>?_,l2.old⟩ (done ys S2 w2 p hs2)
    · by_cases hb:b=p
      · subst hb
        rw [zag] at e
        cases e
        exact ⟨vs,hp2,ry⟩
      · rw [zcn hb] at e
        exact l2.obj b u e
    · have hb:b≠p:=fun e=>hzp (e▸z)
      rw [zcn hb]
      exact l2.hid b z
variable {elt iter:Expr} {x:Str} {px:Pos} {scope osc:Scope} {M N:List Str} {js:List Nat} {wi:TI3} {te:TE3}
theorem zf7 (S:CompScope osc x M scope) (hjs:M.map some=js.map fun j=>N[j]?) (hc:X.calm=true) (hi:PI3 X W3 (.Name x px) iter wi)
    (he:∀(C:Addr) (fp:List Addr) (pins:List (Addr×Obj)) (s:Shared) (H:Hp),PE3 (cxComp X scope C (x::M) fp pins s H) NoX elt te)
    (hosc:X.env.scope=osc:=by rfl) (hN:X.N=N:=by rfl) (hs:∀v,foldedSetIterable iter X.env v=pure v:=by intro _;rfl) :
    PE3 X W3 (.ListComp elt [⟨.Name x px,iter,[],0⟩] scope pos) (comp3 wi te js):=fun Z =>
  PE.imp (zn5 S hjs hc (hi Z) (fun C fp pins s H=>(he C fp pins s H).ex) hosc hN hs) fun _ _ _ h=>zi1 h
theorem zka {i:Nat} {y:Str} {py spos:Pos} (S:CompScope osc x M scope) (hjs:M.map some=js.map fun j=>N[j]?) (hc:X.calm=true) (hi:PI3 X W3 (.Name x px) iter wi)
    (he:∀(C:Addr) (fp:List Addr) (pins:List (Addr×Obj)) (s:Shared) (H:Hp),PE3 (cxComp X scope C (x::M) fp pins s H) NoX elt te)
    (hNd:X.N.Nodup) (hy:X.N[i]?=some y) (hl:X.env.scope.names.lookup y=some .local)
    (hosc:X.env.scope=osc:=by rfl) (hN:X.N=N:=by rfl)
    (hsw:swapsWith (.ListComp elt [⟨.Name x px,iter,[],0⟩] scope pos) (some (.Name y py)) spos.line X.env=pure true:=by rfl) (hs:∀v,foldedSetIterable iter X.env v=pure v:=by intro _;rfl) :
    PS3 X W3 (.Assign [.Name y py] (.ListComp elt [⟨.Name x px,iter,[],0⟩] scope pos) spos) (set3 i (comp3 wi te js)):=fun Z =>
  PS.imp (zny S hjs hc (hi Z) (fun C fp pins s H=>(he C fp pins s H).ex) hNd hy hl hosc hN hsw hs) fun D τ H ⟨D3,σ,S,hs,hr,ht,hc⟩ =>
    zi1 ⟨σ,S,_,hs,hr,ht,fun d S' v H' k r l q=>hc.nx _ S' _ H' k ((hs.mono k).set r i) l q⟩
end
end E3
namespace E3
open PySem PySem.Spec PyProof.Rows L2 EE
section
variable {K:PySem.W.Frag}
def i3 (g:Int→Int→D):R3:=fun x y S Q=>∃i j,x=.int i∧y=.int j∧Q (g i j) S
def ic3 (C:Int→Int→Prop) (g:Int→Int→D):R3:=fun x y S Q=>∃i j,x=.int i∧y=.int j∧C i j∧Q (g i j) S
theorem zbt {g:Int→Int→Int}:Dn2 K (i3 fun i j=>.int (g i j)) (rI0 fun i j=>.int (g i j)):=by
  intro Z x y S Q3 v w H Q rx ry l h c
  obtain ⟨i,j,rfl,rfl,q⟩:=h
  cases rx
  cases ry
  exact ⟨i,j,rfl,rfl,c _ S _ H (Kp.refl _ _) (.int _) l q⟩
theorem zbe {g:Int→Int→Bool}:Dn2 K (i3 fun i j=>.bl (g i j)) (rI0 fun i j=>.bl (g i j)):=by
  intro Z x y S Q3 v w H Q rx ry l h c
  obtain ⟨i,j,rfl,rfl,q⟩:=h
  cases rx
  cases ry
  exact ⟨i,j,rfl,rfl,c _ S _ H (Kp.refl _ _) (.bl _) l q⟩
theorem zao {C:Int→Int→Prop} {g:Int→Int→Int}:Dn2 K (ic3 C fun i j=>.int (g i j)) (rI C fun i j=>.int (g i j)):=by
  intro Z x y S Q3 v w H Q rx ry l h c
  obtain ⟨i,j,rfl,rfl,h,q⟩:=h
  cases rx
  cases ry
  exact ⟨i,j,rfl,rfl,h,c _ S _ H (Kp.refl _ _) (.int _) l q⟩
def addS3:R3:=fun x y S Q=>∃i j,x=.str i∧y=.str j∧i.length+j.length≤sizeLine∧Q (.str (i++j)) S
theorem zae:Dn2 K addS3 (fun x y H Q=>∃i j,x=.str i∧y=.str j∧i.length+j.length≤sizeLine∧Q (.str (i++j)) H):=by
  intro Z x y S Q3 v w H Q rx ry l h c
  obtain ⟨i,j,rfl,rfl,h,q⟩:=h
  cases rx
  cases ry
  exact ⟨i,j,rfl,rfl,h,c _ S _ H (Kp.refl _ _) (.str _) l q⟩
def eqI3:R3:=i3 fun i j=>.bl (decide (i=j))
def neI3:R3:=i3 fun i j=>.bl (!decide (i=j))
def eqS3:R3:=fun x y S Q=>∃i j,x=.str i∧y=.str j∧Q (.bl (decide (i=j))) S
def neS3:R3:=fun x y S Q=>∃i j,x=.str i∧y=.str j∧Q (.bl (!decide (i=j))) S
theorem zpj {i j:Int}:decide (V.int i=V.int j)=decide (i=j):=by rw [zjp];rfl
theorem zpi {i j:Str}:decide (V.str i=V.str j)=decide (i=j):=by
  by_cases h:i=j
  · subst h;simp
  · have:V.str i≠V.str j:=fun e=>h (V.str.inj e)
    simp [h]
theorem zaw:Dn2 K eqI3 rEq:=by
  intro Z x y S Q3 v w H Q rx ry l h c
  obtain ⟨i,j,rfl,rfl,q⟩:=h
  cases rx
  cases ry
  refine ⟨rfl,?_⟩
  rw [zpj]
  exact c _ S _ H (Kp.refl _ _) (.bl _) l q
theorem zpf:Dn2 K neI3 rNe:=by
  intro Z x y S Q3 v w H Q rx ry l h c
  obtain ⟨i,j,rfl,rfl,q⟩:=h
  cases rx
  cases ry
  refine ⟨rfl,?_⟩
  rw [zpj]
  exact c _ S _ H (Kp.refl _ _) (.bl _) l q
theorem zdo:Dn2 K eqS3 rEq:=by
  intro Z x y S Q3 v w H Q rx ry l h c
  obtain ⟨i,j,rfl,rfl,q⟩:=h
  cases rx
  cases ry
  refine ⟨rfl,?_⟩
  rw [zpi]
  exact c _ S _ H (Kp.refl _ _) (.bl _) l q
theorem zpe:Dn2 K neS3 rNe:=by
  intro Z x y S Q3 v w H Q rx ry l h c
  obtain ⟨i,j,rfl,rfl,q⟩:=h
  cases rx
  cases ry
  refine ⟨rfl,?_⟩
  rw [zpi]
  exact c _ S _ H (Kp.refl _ _) (.bl _) l q
mutual
inductive Dn (S:Hp3):D→Dt→Prop where
  | non:Dn S .non .non
  | bl (b:Bool):Dn S (.bl b) (.bl b)
  | int (i:Int):Dn S (.int i) (.int i)
  | str (x:Str):Dn S (.str x) (.str x)
  | tup {ds:List D} {es:List Dt}:Dns S ds es→Dn S (.tup ds) (.tup es)
  | rol {ds:List D} {es:List Dt}:Dns S ds es→Dn S (.rol ds) (.lst es)
  | ref {a:Addr} {ds:List D} {es:List Dt}:S a=some (.lst ds)→Dns S ds es→Dn S (.ref a) (.lst es)
inductive Dns (S:Hp3):List D→List Dt→Prop where
  | nil:Dns S [] []
  | cons {d:D} {e:Dt} {ds:List D} {es:List Dt}:Dn S d e→Dns S ds es→Dns S (d::ds) (e::es)
end
mutual
theorem Dn.down {Z:Zt} {S:Hp3} {H:Hp} (l:Rl K Z S H):∀{d:D} {e:Dt} {v:V},Dn S d e→Rp K H d v→DR K H e v
  | _,_,_,.non,r=>by cases r;exact .non
  | _,_,_,.bl _,r=>by cases r;exact .bl _
  | _,_,_,.int _,r=>by cases r;exact .int _
  | _,_,_,.str _,r=>by cases r;exact .str _
  | _,_,_,.tup h,r=>by cases r with|tup p q=>exact .tup p (Dns.down l h q)
  | _,_,_,.rol h,r=>by cases r with|rol p q=>exact .lst p.sq (Dns.down l h q)
  | _,_,_,.ref e h,r=>by
    cases r
    obtain ⟨vs,h1,h2⟩:=l.obj _ _ e
    exact .lst (SqL.of h1) (Dns.down l h h2)
theorem Dns.down {Z:Zt} {S:Hp3} {H:Hp} (l:Rl K Z S H):∀{ds:List D} {es:List Dt} {vs:List V},Dns S ds es→Rps K H ds vs→DRs K H es vs
  | _,_,_,.nil,r=>by cases r;exact .nil
  | _,_,_,.cons h t,r=>by cases r with|cons p q=>exact .cons (Dn.down l h p) (Dns.down l t q)
end
mutual
noncomputable def D.dt:D→Dt
  | .non=>.non
  | .bl b=>.bl b
  | .int i=>.int i
  | .str x=>.str x
  | .tup ds=>.tup (D.dts ds)
  | .rol ds=>.lst (D.dts ds)
  | .ref _=>.non
  | .ty _=>.non
noncomputable def D.dts:List D→List Dt
  | []=>[]
  | d::ds=>d.dt::D.dts ds
end
mutual
noncomputable def D.pure:D→Bool
  | .tup ds=>D.pures ds
  | .rol ds=>D.pures ds
  | .ref _=>false
  | .ty _=>false
  | _=>true
noncomputable def D.pures:List D→Bool
  | []=>true
  | d::ds=>d.pure&&D.pures ds
end
mutual
theorem Dn.of {S:Hp3}:∀{d:D},d.pure=true→Dn S d d.dt
  | .non,_=>.non
  | .bl _,_=>.bl _
  | .int _,_=>.int _
  | .str _,_=>.str _
  | .tup ds,h=>by simp only [D.pure] at h;simp only [D.dt];exact .tup (Dns.of h)
  | .rol ds,h=>by simp only [D.pure] at h;simp only [D.dt];exact .rol (Dns.of h)
  | .ref _,h=>by simp [D.pure] at h
  | .ty _,h=>by simp [D.pure] at h
theorem Dns.of {S:Hp3}:∀{ds:List D},D.pures ds=true→Dns S ds (D.dts ds)
  | [],_=>.nil
  | d::ds,h=>by
    simp only [D.pures,Bool.and_eq_true] at h
    simp only [D.dts]
    exact .cons (Dn.of h.1) (Dns.of h.2)
end
theorem D.pures_iff:∀{ds:List D},D.pures ds=true↔∀d∈ds,d.pure=true
  | []=>by simp [D.pures]
  | d::ds=>by simp [D.pures,D.pures_iff (ds:=ds)]
theorem D.dts_map:∀ds:List D,D.dts ds=ds.map D.dt
  | []=>rfl
  | d::ds=>by simp only [D.dts,List.map_cons,D.dts_map ds]
def eqD3 (n:Nat):R3:=fun x y S Q=>∃d e,Dn S x d∧Dn S y e∧deepD d≤n∧Q (.bl (eqD d e)) S
theorem dn_eqD {n:Nat}:Dn2 K (eqD3 n) (fun x y H Q=>∃d e,DR K H d x∧DR K H e y∧deepD d≤n∧Q (.bl (eqD d e)) H):=by
  intro Z x y S Q3 v w H Q rx ry l h c
  obtain ⟨d,e,h1,h2,hn,q⟩:=h
  exact ⟨d,e,h1.down l rx,h2.down l ry,hn,c _ S _ H (Kp.refl _ _) (.bl _) l q⟩
noncomputable def flatD:D→Bool
  | .non=>true
  | .bl _=>true
  | .int _=>true
  | .str _=>true
  | _=>false
noncomputable def vD:D→V
  | .non=>.non
  | .bl b=>.bl b
  | .int i=>.int i
  | .str x=>.str x
  | _=>.non
theorem ziu {H:Hp} {x:D} {v:V} (r:Rp K H x v) (h:flatD x=true):v=vD x∧flatV v=true:=by
  cases r<;>first|exact ⟨rfl,rfl⟩|(simp [flatD] at h)
theorem ze4 {H:Hp}:∀{ds:List D} {vs:List V},Rps K H ds vs→ds.all flatD=true→vs=ds.map vD∧vs.all flatV=true
  | _,_,.nil,_=>⟨rfl,rfl⟩
  | _,_,.cons r t,h=>by
    simp only [List.all_cons,Bool.and_eq_true] at h
    obtain ⟨e1,f1⟩:=ziu r h.1
    obtain ⟨e2,f2⟩:=ze4 t h.2
    subst e1
    subst e2
    exact ⟨rfl,by simp only [List.all_cons,f1,f2,Bool.and_self]⟩
noncomputable def memD (x:D) (ds:List D):Bool:=inV (vD x) (ds.map vD)
def in3 (neg:Bool):R3:=fun x y S Q=>∃ds,(IsL S y ds∨y=.tup ds)∧flatD x=true∧ds.all flatD=true∧Q (.bl (if neg then !memD x ds else memD x ds)) S
theorem dn_in {neg:Bool}:Dn2 K (in3 neg) (rIn K neg):=by
  intro Z x y S Q3 v w H Q rx ry l h c
  obtain ⟨ds,hy,fx,fd,q⟩:=h
  obtain ⟨e1,f1⟩:=ziu rx fx
  subst e1
  rcases hy with hy|rfl
  · obtain ⟨a,vs,rfl,h1,h2⟩:=hy.down ry l
    obtain ⟨e2,f2⟩:=ze4 h2 fd
    subst e2
    exact ⟨a,_,rfl,.inl h1,f1,f2,c _ S _ H (Kp.refl _ _) (.bl _) l q⟩
  · cases ry with
    | tup h1 h2 =>
      obtain ⟨e2,f2⟩:=ze4 h2 fd
      subst e2
      exact ⟨_,_,rfl,.inr h1,f1,f2,c _ S _ H (Kp.refl _ _) (.bl _) l q⟩
theorem zmo (x:Str) (xs:List Str):memD (.str x) (xs.map D.str)=decide (x∈xs):=by
  unfold memD inV
  induction xs with
  | nil=>rfl
  | cons y ys ih =>
    simp only [List.map_cons,List.any_cons,List.mem_cons]
    rw [ih]
    by_cases h:y=x
    · subst h;simp [eqV,vD]
    · have h':¬x=y:=fun z=>h z.symm
      simp [eqV,vD,h,h']
theorem zm4 (xs:List Str):(xs.map D.str).all flatD=true:=by
  induction xs with
  | nil=>rfl
  | cons y ys ih=>simp only [List.map_cons,List.all_cons,ih];rfl
def ixL3:R3:=fun x y S Q=>∃ds i d,IsL S x ds∧y=.int i∧atI ds i=some d∧Q d S
def ixT3:R3:=fun x y S Q=>∃ds i d,x=.tup ds∧y=.int i∧atI ds i=some d∧Q d S
def ixS3:R3:=fun x y S Q=>∃z i c,x=.str z∧y=.int i∧z.length≤sizeLine∧atI z.cps.toList i=some c∧Q (.str ⟨#[c]⟩) S
theorem Rps.atI {H:Hp} {ds:List D} {vs:List V} {i:Int} {d:D} (r:Rps K H ds vs) (h:L2.atI ds i=some d):∃v,L2.atI vs i=some v∧Rp K H d v:=by
  unfold L2.atI at h ⊢
  rw [r.len] at h
  cases e:ixN vs.length i with
  | none=>rw [e] at h;cases h
  | some j =>
    rw [e] at h
    exact r.at h
theorem zc0:Dn2 K ixL3 (rIxL K):=by
  intro Z x y S Q3 v w H Q rx ry l h c
  obtain ⟨ds,i,d,h1,rfl,h2,q⟩:=h
  cases ry
  obtain ⟨a,vs,rfl,h3,h4⟩:=h1.down rx l
  obtain ⟨u,h5,h6⟩:=h4.atI h2
  exact ⟨a,vs,i,u,rfl,rfl,h3,h5,c d S u H (Kp.refl _ _) h6 l q⟩
theorem za1:Dn2 K ixT3 (rIxT K):=by
  intro Z x y S Q3 v w H Q rx ry l h c
  obtain ⟨ds,i,d,rfl,rfl,h2,q⟩:=h
  cases ry
  cases rx with
  | tup h3 h4 =>
    obtain ⟨u,h5,h6⟩:=h4.atI h2
    exact ⟨_,_,i,u,rfl,rfl,h3,h5,c d S u H (Kp.refl _ _) h6 l q⟩
theorem zko:Dn2 K ixS3 rIxS:=by
  intro Z x y S Q3 v w H Q rx ry l h c
  obtain ⟨z,i,k,rfl,rfl,hz,h2,q⟩:=h
  cases ry
  cases rx
  exact ⟨z,i,k,rfl,rfl,hz,h2,c _ S _ H (Kp.refl _ _) (.str _) l q⟩
noncomputable def cutD (xs:List D) (lo hi:Option Int):List D:=(xs.drop (HT.sIx xs.length 0 lo)).take (HT.sIx xs.length xs.length hi-HT.sIx xs.length 0 lo)
theorem Rps.cut {H:Hp} {ds:List D} {vs:List V} (r:Rps K H ds vs) (lo hi:Option Int):Rps K H (cutD ds lo hi) (cutV vs lo hi):=by
  unfold cutD cutV
  rw [r.len]
  exact (r.drop _).take _
def slL3:D→Option Int→Option Int→Hp3→K3→Prop:=fun x lo hi S Q=>∃ds,IsL S x ds∧newL S (cutD ds lo hi) Q
def slT3:D→Option Int→Option Int→Hp3→K3→Prop:=fun x lo hi S Q=>∃ds,x=.tup ds∧Q (.tup (cutD ds lo hi)) S
def slS3:D→Option Int→Option Int→Hp3→K3→Prop:=fun x lo hi S Q=>∃z,x=.str z∧z.length≤sizeLine∧Q (.str (textOf (cutT z.cps.toList lo hi))) S
theorem zgr:DnS K slL3 (rSlL K):=by
  intro Z x lo hi S Q3 v H Q rx l h c
  obtain ⟨ds,h1,q⟩:=h
  obtain ⟨a,vs,rfl,h3,h4⟩:=h1.down rx l
  exact ⟨a,vs,rfl,h3,newL.down q (h4.cut lo hi) l c⟩
theorem zff:DnS K slS3 rSlS:=by
  intro Z x lo hi S Q3 v H Q rx l h c
  obtain ⟨z,rfl,hz,q⟩:=h
  cases rx
  exact ⟨z,rfl,hz,c _ S _ H (Kp.refl _ _) (.str _) l q⟩
def catL3:R3:=fun x y S Q=>∃a b ds es,x=.ref a∧y=.ref b∧S a=some (.lst ds)∧S b=some (.lst es)∧ds.length+es.length≤sizeLine∧newL S (ds++es) Q
theorem zf9:Dn2 K catL3 rCat:=by
  intro Z x y S Q3 v w H Q rx ry l h c
  obtain ⟨a,b,ds,es,rfl,rfl,h1,h2,hz,q⟩:=h
  cases rx
  cases ry
  obtain ⟨vs,h3,h4⟩:=l.obj a _ h1
  obtain ⟨ws,h5,h6⟩:=l.obj b _ h2
  exact ⟨a,b,vs,ws,rfl,rfl,h3,h5,by rw [←h4.len,←h6.len];exact hz,newL.down q (h4.append h6) l c⟩
def catT3:R3:=fun x y S Q=>∃ds es,x=.tup ds∧y=.tup es∧ds≠[]∧ds.length+es.length≤sizeLine∧Q (.tup (ds++es)) S
def len3:List D→Hp3→K3→Prop:=fun xs S Q=>∃x ds,xs=[x]∧(IsL S x ds∨x=.tup ds)∧Q (.int ds.length) S
theorem zd1:DnC K len3 (fun xs H Q=>∃p ys,xs=[.ref p]∧(SqL K H p ys∨SqT K H p ys)∧Q (.int ys.length) H):=by
  intro Z ds S Q3 vs H Q r l h c
  obtain ⟨x,es,rfl,hx,q⟩:=h
  cases r with
  | cons r rr =>
    cases rr
    rcases hx with hx|rfl
    · obtain ⟨a,ws,rfl,h3,h4⟩:=hx.down r l
      refine ⟨a,ws,rfl,.inl h3,?_⟩
      rw [←h4.len]
      exact c _ S _ H (Kp.refl _ _) (.int _) l q
    · cases r with
      | tup h3 h4 =>
        refine ⟨_,_,rfl,.inr h3,?_⟩
        rw [←h4.len]
        exact c _ S _ H (Kp.refl _ _) (.int _) l q
def lenS3:List D→Hp3→K3→Prop:=fun xs S Q=>∃z,xs=[.str z]∧z.length≤sizeLine∧Q (.int z.length) S
theorem zhs:DnC K lenS3 (fun xs H Q=>∃z,xs=[.str z]∧z.length≤sizeLine∧Q (.int z.length) H):=by
  intro Z ds S Q3 vs H Q r l h c
  obtain ⟨z,rfl,hz,q⟩:=h
  cases r with
  | cons r rr =>
    cases rr
    cases r
    exact ⟨z,rfl,hz,c _ S _ H (Kp.refl _ _) (.int _) l q⟩
def toList3:List D→Hp3→K3→Prop:=fun xs S Q=>∃x ds,xs=[x]∧(IsL S x ds∨x=.tup ds)∧newL S ds Q
theorem zf8:DnC K toList3 (fun xs H Q=>∃p ys,xs=[.ref p]∧(SqL K H p ys∨SqT K H p ys)∧∀l,H l=none→Q (.ref l) (upd H l (.lst ys))):=by
  intro Z ds S Q3 vs H Q r l h c
  obtain ⟨x,es,rfl,hx,q⟩:=h
  cases r with
  | cons r rr =>
    cases rr
    rcases hx with hx|rfl
    · obtain ⟨a,ws,rfl,h3,h4⟩:=hx.down r l
      exact ⟨a,ws,rfl,.inl h3,newL.down q h4 l c⟩
    · cases r with
      | tup h3 h4=>exact ⟨_,_,rfl,.inr h3,newL.down q h4 l c⟩
def toTup3:List D→Hp3→K3→Prop:=fun xs S Q=>∃x ds,xs=[x]∧(IsL S x ds∨x=.tup ds)∧Q (.tup ds) S
theorem zfp:DnC K toTup3 (fun xs H Q=>∃p ys,xs=[.ref p]∧((SqL K H p ys∧∀l,H l=none→Q (.ref l) (upd H l (.tup ys)))∨(SqT K H p ys∧Q (.ref p) H))):=by
  intro Z ds S Q3 vs H Q r l h c
  obtain ⟨x,es,rfl,hx,q⟩:=h
  cases r with
  | cons r rr =>
    cases rr
    rcases hx with hx|rfl
    · obtain ⟨a,ws,rfl,h3,h4⟩:=hx.down r l
      exact ⟨a,ws,rfl,.inl ⟨h3,tup.down q h4 l c⟩⟩
    · cases r with
      | tup h3 h4=>exact ⟨_,_,rfl,.inr ⟨h3,c _ S _ H (Kp.refl _ _) (.tup h3 h4) l q⟩⟩
def append3:D→List D→Hp3→K3→Prop:=fun x ys S Q=>∃a ds y,x=.ref a∧ys=[y]∧S a=some (.lst ds)∧ds.length<sizeLine∧Q .non (up S a (.lst (ds++[y])))
theorem ziy:DnM K append3 rAppend:=by
  intro Z x ds S Q3 v vs H Q rx r l h c
  obtain ⟨a,es,y,rfl,rfl,e,hz,q⟩:=h
  cases rx
  cases r with
  | @cons _ w _ _ r rr =>
    cases rr
    obtain ⟨ws,h1,h2⟩:=l.obj a _ e
    have kk:Kp Z H (upd H a (.lst (ws++[w]))):=Kp.at l e
    exact ⟨a,ws,w,rfl,rfl,h1,by rw [←h2.len];exact hz,c _ _ _ _ kk .non (l.put (o:=.lst (es++[y])) kk (l.notZ e) ⟨_,za9,(h2.mono kk).append (.cons (r.mono kk) .nil)⟩) q⟩
def join3:D→List D→Hp3→K3→Prop:=fun x ys S Q=>∃sep y xs,x=.str sep∧ys=[y]∧IsL S y (xs.map D.str)∧(xs.map (·.length)).sum+xs.length*sep.length≤16777216∧Q (.str (Txt.join sep xs)) S
theorem zht:DnM K join3 (rJoin K):=by
  intro Z x ds S Q3 v vs H Q rx r l h c
  obtain ⟨sep,y,xs,rfl,rfl,e,hz,q⟩:=h
  cases rx
  cases r with
  | cons r rr =>
    cases rr
    obtain ⟨a,ws,rfl,h3,h4⟩:=e.down r l
    have:=h4.strs
    subst this
    exact ⟨sep,a,xs,rfl,rfl,h3,hz,c _ S _ H (Kp.refl _ _) (.str _) l q⟩
end
end E3
namespace E3
open PySem PySem.Spec PyProof.Rows L2 EE
section
variable {prog:Program} {w:World} {A:Around} {E:Value→Shared→Prop} {s:Shared}
theorem ze2 {t sl:Addr} {items:Array Value} {vl vu:Value} {lo hi:Option Int} {Q:Value→Shared→Prop} (ht:IsTup s.heap t items) (hs:s.heap.IsSliceOf sl vl vu .none) (pl:IsPart vl lo) (pu:IsPart vu hi)
    (hw:HT.sIx items.size 0 lo=0∧HT.sIx items.size items.size hi=items.size) (h:Q (.ref t) s):wpAny (model prog w) A (getItem (.ref t) (.ref sl)) Q E s:=by
  obtain ⟨os,hos,hcs,hds⟩:=id hs
  have hTs:s.TypeIs (.ref sl) "slice":=⟨os,hos,hcs⟩
  obtain ⟨o,ho,hc,hd⟩:=id ht
  unfold getItem
  try with_reducible refine wpAny_holding ?_
  first|refine wpAny_bind (wpAny_pure ?_)|skip
  refine wpAny_bind (wpAny_sequenceKey ht.typeIs (by decide) ?_)
  refine wpAny_bind (wpAny_callSpecial?_slot (name:=Str.ofString "__getitem__") ht.typeIs PyProof.Rows.slot_tuple_getitem
    (wpAny_call_entry PyProof.Rows.slot_tuple_getitem ht.typeIs entry_tuple_getitem ?_ (args_tuple_getitem _ _)))
  show wpAny _ _ (Builtin.Tuple.tupleItemsOf (.ref t) >>= _) _ _ s
  refine wpAny_bind (tupleItemsOf_ ht ?_)
  refine wpAny_bind (wpAny_typeOf hTs ?_)
  rw [if_pos (by decide)]
  refine wpAny_bind (HT.zdd hs pl pu ?_)
  have hyes:(((HT.sIx items.size 0 lo:Nat):Int)==0&&(1:Int)==1&&(HT.sIx items.size items.size hi-HT.sIx items.size 0 lo)==items.size)=true:=by
    rw [hw.1,hw.2]
    simp
  show wpAny _ _ (if (((HT.sIx items.size 0 lo:Nat):Int)==0&&(1:Int)==1&&(HT.sIx items.size items.size hi-HT.sIx items.size 0 lo)==items.size)=true then _ else _) _ _ s
  rw [if_pos hyes]
  refine wpAny_bind (m:=Builtin.Tuple.tupleIsExact (Value.ref t)) ?_
  unfold Builtin.Tuple.tupleIsExact
  first
    | refine wpAny_bind (wpAny_typeOf ht.typeIs (wpAny_pure ?_))
    | exact wpAny_bind (wpAny_typeOf ht.typeIs (wpAny_pure ?_))
  rw [if_pos (by decide)]
  exact wpAny_bind (wpAny_rule (wpAny_pure ⟨_,rfl,wpAny_pure h⟩))
end
section
variable {X:Cx}
def rSlTA (K:PySem.W.Frag):V→Option Int→Option Int→Hp→VK→Prop:=fun x lo hi H Q=>∃a xs,x=.ref a∧SqT K H a xs ∧
  ((HT.sIx xs.length 0 lo=0∧HT.sIx xs.length xs.length hi=xs.length)→Q (.ref a) H)∧(¬(HT.sIx xs.length 0 lo=0∧HT.sIx xs.length xs.length hi=xs.length)→∀p,H p=none→Q (.ref p) (upd H p (.tup (cutV xs lo hi))))
theorem zdk:SlR X (rSlTA X.K):=by
  intro pins s σ H x v vl vu lo hi sl Q I rx hs pl pu h
  obtain ⟨a,xs,rfl,hx,h1,h2⟩:=h
  by_cases hw:HT.sIx xs.length 0 lo=0∧HT.sIx xs.length xs.length hi=xs.length
  · cases rx
    obtain ⟨its,r,ht,hz⟩:=I.tuple hx
    have hlen:its.toArray.size=xs.length:=by rw [List.size_toArray];exact r.length.symm
    refine ⟨"tuple",_,PyProof.Rows.slot_tuple_getitem.lookup,ht.typeIs,?_⟩
    refine ze2 ht hs pl pu (by rw [hlen];exact hw) ?_
    exact ⟨.ref a,H,I,rfl,h1 hw⟩
  · exact sl_tup pins s σ H _ v vl vu lo hi sl Q I rx hs pl pu ⟨a,xs,rfl,hx,hw,h2 hw⟩
theorem zox {xs:List D} {lo hi:Option Int} (h:HT.sIx xs.length 0 lo=0∧HT.sIx xs.length xs.length hi=xs.length):cutD xs lo hi=xs:=by
  unfold cutD
  rw [h.1,h.2,List.drop_zero,Nat.sub_zero,List.take_length]
theorem zfe {K:PySem.W.Frag}:DnS K slT3 (rSlTA K):=by
  intro Z x lo hi S Q3 v H Q rx l h c
  obtain ⟨ds,rfl,q⟩:=h
  cases rx with
  | @tup a vs _ h3 h4 =>
    refine ⟨a,vs,rfl,h3,fun e=>?_,fun _=>tup.down q (h4.cut lo hi) l c⟩
    rw [←h4.len] at e
    rw [zox e] at q
    exact c _ S _ H (Kp.refl _ _) (.tup h3 h4) l q
theorem ze5 {K:PySem.W.Frag}:Dn2 K catT3 (rCatT K):=by
  intro Z x y S Q3 v w H Q rx ry l h c
  obtain ⟨ds,es,rfl,rfl,hn,hz,q⟩:=h
  cases rx with
  | @tup a vs _ h1 h2 =>
    cases ry with
    | @tup b ws _ h3 h4 =>
      refine ⟨a,b,vs,ws,rfl,rfl,h1,h3,?_,by rw [←h2.len,←h4.len];exact hz,fun e=>?_,fun _=>tup.down q (h2.append h4) l c⟩
      · rintro rfl
        cases h2
        exact hn rfl
      · subst e
        cases h4
        rw [List.append_nil] at q
        exact c _ S _ H (Kp.refl _ _) (.tup h1 h2) l q
def TyN (S:Hp3):D→String→Prop
  | .non,n=>n="NoneType"
  | .bl _,n=>n="bool"
  | .int _,n=>n="int"
  | .str _,n=>n="str"
  | .tup _,n=>n="tuple"
  | .rol _,n=>n="list"
  | .ref a,n=>(n="list"∧∃ds,S a=some (.lst ds))∨(n="dict"∧∃kvs,S a=some (.dic kvs))
  | .ty _,_=>False
inductive TyB (K:PySem.W.Frag) (H:Hp):V→String→Prop where
  | of {x:V} {n:String}:TyOf K H x (.type n)→TyB K H x n
  | tup {a:Addr} {xs:List V}:SqT K H a xs→TyB K H (.ref a) "tuple"
  | lst {a:Addr} {xs:List V}:SqL K H a xs→TyB K H (.ref a) "list"
theorem zcl:CallR X (.builtin "isinstance") (fun xs H Q=>∃x n m b,xs=[x,.ty n]∧TyB X.K H x m∧PySem.W.kitOne X.K (.type m) (.type n)=some b∧Q (.bl b) H):=by
  intro pins s σ H xs us Q I r h
  obtain ⟨x,n,m,b,rfl,ty,e,q⟩:=h
  obtain ⟨u,c,rfl,rx,rc⟩:=vals2 r
  obtain rfl:c=Value.type n:=rc
  cases ty with
  | of t=>exact zmv I rx t e fun tk=>⟨.bl b,H,I.tok _,rfl,q⟩
  | @tup a xs ht =>
    cases (show u=Value.ref a from rx)
    obtain ⟨_,_,⟨o,h1,h2,_⟩,_⟩:=I.tuple ht
    exact PySem.W.kia_one PySem.W.kitx_tuple I.kIn ⟨o,h1,h2⟩ e (fun z=>nomatch z) fun tk=>⟨.bl b,H,I.tok _,rfl,q⟩
  | @lst a xs ht =>
    cases (show u=Value.ref a from rx)
    obtain ⟨_,_,⟨o,n,h1,h2,_⟩,_⟩:=I.list ht
    exact PySem.W.kia_one PySem.W.kitx_list I.kIn ⟨o,h1,h2⟩ e (fun z=>nomatch z) fun tk=>⟨.bl b,H,I.tok _,rfl,q⟩
theorem TyN.down {K:PySem.W.Frag} {Z:Zt} {S:Hp3} {H:Hp} {x:D} {v:V} {n:String} (h:TyN S x n) (r:Rp K H x v) (l:Rl K Z S H):TyB K H v n:=by
  cases r with
  | non=>cases h;exact .of .non
  | bl b=>cases h;exact .of (.bl b)
  | int i=>cases h;exact .of (.int i)
  | str x=>cases h;exact .of (.str x)
  | tup h1 h2=>cases h;exact .tup h1
  | rol h1 h2=>cases h;exact .lst h1.sq
  | ty n=>exact h.elim
  | ref a =>
    rcases h with ⟨rfl,ds,e⟩|⟨rfl,kvs,e⟩
    · obtain ⟨vs,h1,_⟩:=l.obj a _ e
      exact .lst (SqL.of h1)
    · obtain ⟨vs,h1,_⟩:=l.obj a _ e
      exact .of (.dK h1)
noncomputable def kin (m n:String):Option Bool:=if m=n then some true else if m="bool"∧n="int" then some true else
  if m∈["NoneType","bool","int","str","tuple","list","dict"]∧n∈["bool","int","str","tuple","list","dict"] then some false else none
theorem kin_ok {K:PySem.W.Frag} {m n:String} {b:Bool} (h:kin m n=some b):PySem.W.kitOne K (.type m) (.type n)=some b:=by
  by_cases e:m=n
  · subst e
    rw [kin,if_pos rfl] at h
    cases h
    exact zon K m
  rw [kin,if_neg e] at h
  by_cases e2:m="bool"∧n="int"
  · rw [if_pos e2] at h
    cases h
    obtain ⟨rfl,rfl⟩:=e2
    unfold PySem.W.kitOne PySem.W.kitCls PySem.W.subIn
    dsimp only
    decide +kernel
  rw [if_neg e2] at h
  by_cases e3:m∈["NoneType","bool","int","str","tuple","list","dict"]∧n∈["bool","int","str","tuple","list","dict"]
  · rw [if_pos e3] at h
    cases h
    obtain ⟨h1,h2⟩:=e3
    simp only [List.mem_cons,List.not_mem_nil,or_false] at h1 h2
    unfold PySem.W.kitOne PySem.W.kitCls PySem.W.subIn
    dsimp only
    rcases h1 with rfl|rfl|rfl|rfl|rfl|rfl|rfl<;>rcases h2 with rfl|rfl|rfl|rfl|rfl|rfl<;>first|exact absurd rfl e|exact absurd ⟨rfl,rfl⟩ e2|decide +kernel
  · rw [if_neg e3] at h
    cases h
def isB3:List D→Hp3→K3→Prop:=fun xs S Q=>∃x n m b,xs=[x,.ty n]∧TyN S x m∧kin m n=some b∧Q (.bl b) S
theorem zes {K:PySem.W.Frag}:DnC K isB3 (fun xs H Q=>∃x n m b,xs=[x,.ty n]∧TyB K H x m∧PySem.W.kitOne K (.type m) (.type n)=some b∧Q (.bl b) H):=by
  intro Z ds S Q3 vs H Q r l h c
  obtain ⟨x,n,m,b,rfl,ty,e,q⟩:=h
  cases r with
  | cons r rr =>
    cases rr with
    | cons r2 rr =>
      cases rr
      cases r2
      exact ⟨_,n,m,b,rfl,ty.down r l,kin_ok e,c _ S _ H (Kp.refl _ _) (.bl _) l q⟩
end
noncomputable abbrev Sp3:=List D→Hp3→K3→X3→Prop
inductive lSp (K:PySem.W.Frag) (sp:Sp3) (vs:List V) (H:Hp) (Q:VK) (E:XK):Prop where
  | mk (Z:Zt) (ds:List D) (S:Hp3) (Q3:K3) (E3:X3) (h1:Rps K H ds vs) (h2:Rl K Z S H) (h3:sp ds S Q3 E3) (h4:CK K Z H Q3 Q) (h5:CE3 K Z H E3 E)
structure Cal3 (P:Program) (w:World) (K:PySem.W.Frag) (mg:Str→Option Value) (base:Heap) (k:Nat) (x:Str) (ps:List Str) (sp:Sp3):Prop where
  ex:∃f fd,FnOk P w K mg base (CX1 P w) k f fd ps (lSp K sp)∧Binds K fd ps []∧PySem.W.keepIn K (.ref f)=true∧mg x=some (.ref f)
noncomputable def start3 (N:List Str) (ds:List D):St3:=ds.map some++List.replicate (N.length-ds.length) none
section
variable {P:Program} {w:World} {K:PySem.W.Frag} {mg:Str→Option Value} {base:Heap}
theorem Cal3.mono {j k:Nat} {x:Str} {ps:List Str} {sp:Sp3} (C:Cal3 P w K mg base j x ps sp) (h:j≤k):Cal3 P w K mg base k x ps sp:=by
  obtain ⟨f,fd,F,r⟩:=C.ex
  exact ⟨f,fd,F.mono h,r⟩
theorem Cal3.imp {k:Nat} {x:Str} {ps:List Str} {sp sp':Sp3} (C:Cal3 P w K mg base k x ps sp) (h:∀ds S Q E,sp' ds S Q E→sp ds S Q E):Cal3 P w K mg base k x ps sp':=by
  obtain ⟨f,fd,F,r⟩:=C.ex
  refine ⟨f,fd,F.imp fun vs H Q E z_1=>by obtain ⟨Z,ds,S,Q3,E3,h1,h2,h3,h4,h5⟩:=z_1;exact ⟨Z,ds,S,Q3,E3,h1,h2,h _ _ _ _ h3,h4,h5⟩,r⟩
def Spl (S A B:Hp3):Prop:=∀a,(S a=A a∧B a=none)∨(A a=none∧S a=B a)
def Sub (A B:Hp3):Prop:=∀a o,A a=some o→B a=some o
def fr (sp:Sp3):Sp3:=fun ds S Q E=>∃S0 F,Spl S S0 F∧sp ds S0 (fun d S1=>∃S2,Sub S2 S1∧∀S',Spl S' S2 F→Q d S') (fun C a S1=>∃S2,Sub S2 S1∧∀S',Spl S' S2 F→E C a S')
theorem Rl.sub {Z:Zt} {S S':Hp3} {H:Hp} (l:Rl K Z S H) (h:Sub S' S):Rl K Z S' H:=by
  refine ⟨fun a o e=>l.obj a o (h a o e),fun a z=>⟨?_,(l.hid a z).2⟩,l.old⟩
  cases e:S' a with
  | none=>rfl
  | some o =>
    have:=h a o e
    rw [(l.hid a z).1] at this
    cases this
noncomputable def join (A B:Hp3):Hp3:=fun a=>match A a with
  | some o=>some o
  | none=>B a
noncomputable abbrev Zt.with (Z:Zt) (H:Hp) (F:Hp3):Zt:=⟨fun a=>Z a∨F a≠none,H⟩
theorem Rl.frame {Z:Zt} {S S0 F S1 S2:Hp3} {H H':Hp} (l:Rl K Z S H) (hs:Spl S S0 F) (k:Kp (Z.with H F) H H') (l1:Rl K (Z.with H F) S1 H') (h2:Sub S2 S1) :
    Spl (join S2 F) S2 F∧Rl K Z (join S2 F) H':=by
  have l2:=l1.sub h2
  have dis:∀a,F a≠none→S2 a=none:=fun a z=>(l2.hid a (.inr z)).1
  refine ⟨fun a=>?_,fun a o e=>?_,fun a z=>?_,l.old.trans (k.unhide fun a z=>.inl z)⟩
  · cases e:F a with
    | none =>
      refine .inl ⟨?_,rfl⟩
      unfold join
      cases e2:S2 a with
      | none=>exact e
      | some o=>rfl
    | some o =>
      have:=dis a (by rw [e];simp)
      refine .inr ⟨this,?_⟩
      unfold join
      rw [this]
      exact e
  · unfold join at e
    cases e2:S2 a with
    | some q =>
      rw [e2] at e
      cases e
      exact l2.obj a _ e2
    | none =>
      rw [e2] at e
      have e:F a=some o:=e
      have hne:F a≠none:=by rw [e];simp
      have hS:S a=some o:=by
        rcases hs a with ⟨_,z⟩|⟨_,z⟩
        · exact absurd z hne
        · rw [z];exact e
      exact (l.obj a o hS).keep k (k.hid a (.inr hne))
  · have z1:=l2.hid a (.inl z)
    have z2:=(l.hid a z).1
    refine ⟨?_,z1.2⟩
    unfold join
    rw [z1.1]
    show F a=none
    rcases hs a with ⟨_,q⟩|⟨_,q⟩
    · exact q
    · rw [←q];exact z2
theorem Cal3.frame {k:Nat} {x:Str} {ps:List Str} {sp:Sp3} (C:Cal3 P w K mg base k x ps sp):Cal3 P w K mg base k x ps (fr sp):=by
  obtain ⟨f,fd,F0,r⟩:=C.ex
  refine ⟨f,fd,F0.imp fun vs H Q E ⟨Z,ds,S,Q3,E3,h1,l,⟨S0,F,hs,h3⟩,cq,ce⟩=>?_,r⟩
  refine ⟨Z.with H F,ds,S0,_,_,h1,⟨fun a o e=>?_,fun a z=>?_,Kp.refl _ _⟩,h3,?_,?_⟩
  · refine l.obj a o ?_
    rcases hs a with ⟨q,_⟩|⟨q,_⟩
    · rw [q];exact e
    · rw [q] at e;cases e
  · rcases z with z|z
    · have z2:=l.hid a z
      refine ⟨?_,z2.2⟩
      rcases hs a with ⟨q,_⟩|⟨q,_⟩
      · rw [←q];exact z2.1
      · exact q
    · rcases hs a with ⟨_,q⟩|⟨q,q2⟩
      · exact absurd q z
      · refine ⟨q,?_⟩
        cases e:F a with
        | none=>exact absurd e z
        | some o=>exact (l.obj a o (q2.trans e)).there
  · rintro d S1 v H' k1 r1 l1 ⟨S2,hsub,q⟩
    obtain ⟨sp',l'⟩:=l.frame hs k1 l1 hsub
    exact cq d _ v H' (k1.unhide fun a z=>.inl z) r1 l' (q _ sp')
  · rintro C a S1 H' k1 l1 ha ⟨S2,hsub,q⟩
    obtain ⟨sp',l'⟩:=l.frame hs k1 l1 hsub
    exact ce C a _ H' (k1.unhide fun a z=>.inl z) l' ha (q _ sp')
theorem zg1 (S:Hp3):Spl S emp S:=fun _=>.inr ⟨rfl,rfl⟩
theorem zds {S F:Hp3} (h:Spl S emp F):S=F:=by
  funext a
  rcases h a with ⟨q,z⟩|⟨_,q⟩
  · rw [q,z];rfl
  · exact q
theorem zgy (S:Hp3):Sub emp S:=fun a o e=>(nomatch e)
noncomputable def one (p:Addr) (o:O):Hp3:=fun a=>if a=p then some o else none
theorem zpr {S F:Hp3} {p:Addr} {o:O} (h:Spl S (one p o) F):F p=none∧S=up F p o:=by
  have hp:F p=none:=by
    rcases h p with ⟨_,z⟩|⟨q,_⟩
    · exact z
    · simp [one] at q
  refine ⟨hp,funext fun a=>?_⟩
  by_cases e:a=p
  · subst e
    rw [zag]
    rcases h a with ⟨q,_⟩|⟨q,_⟩
    · rw [q];simp [one]
    · simp [one] at q
  · rw [zcn e]
    rcases h a with ⟨q,z⟩|⟨_,q⟩
    · rw [q,z];simp [one,e]
    · exact q
theorem sub_one {S:Hp3} {p:Addr} {o:O} (h:S p=some o):Sub (one p o) S:=fun a u e=>by
  unfold one at e
  split at e
  · subst a;cases e;exact h
  · cases e
def vS (A:List D→(D→Prop)→Prop):Sp3:=fun ds S Q _=>A ds fun d=>Q d S
def lSt (A:List D→(List D→Prop)→Prop):Sp3:=fun ds S Q _=>A ds fun ys=>newL S ys Q
variable {x:Str} {st:Stmt} {N ps:List Str} {k:Nat}
noncomputable abbrev Zt.at (Z:Zt) (H:Hp):Zt:=⟨Z.p,H⟩
theorem Rl.into {Z:Zt} {S:Hp3} {H:Hp} (l:Rl K Z S H):Rl K (Z.at H) S H:=⟨l.obj,l.hid,Kp.refl _ _⟩
theorem Rl.out {Z:Zt} {S S':Hp3} {H H':Hp} (l':Rl K (Z.at H) S' H') (l:Rl K Z S H) (k:Kp (Z.at H) H H'):Rl K Z S' H':=⟨l'.obj,l'.hid,l.old.trans (k.unhide fun _ z=>z)⟩
noncomputable def zx0 {X:Cx} (Z:Zt) (H:Hp):ZX X NoX:=ZX.no X (Z.at H)
theorem _root_.EE.Has.cal3 {sp:Sp3} (h:Has K mg x st ps) (S:FnScope N ps (defScope st)) (len:∀vs H Q E,sp vs H Q E→vs.length=ps.length)
    (hbody:∀(f:Addr) (cdv:Value) (A:Around) (outer:List Env) (s:Shared) (H:Hp) (E:XK) (ds:List D) (S:Hp3) (Q:K3) (E3:X3),Room k (A.deeper (envOfC x (defScope st) s.heap.objs.size f cdv))→sp ds S Q E3 →
      ∃t Q',PSs3 (cxOf (CX1 P w) P w K mg base N x (defScope st) f cdv A outer s H E).nox NoX (defBody st) t∧t {nx:=fun _ S'=>Q' .non S',rt:=Q'} (start3 N ds) S∧∀d S',Q' d S'→Q d S'):Cal3 P w K mg base (k+1) x ps sp:=by
  obtain ⟨f,fd,F,b,m⟩:=h.ex
  obtain ⟨oc,od,kV,doc,pm,an,cdv,ct,osl,rfl,lk,hcd⟩:=F.ex
  refine ⟨f,_,zm3 lk hcd S (fun vs H Q E z_2=>by obtain ⟨Z,ds,S,Q3,E3,h1,_,h3,_,_⟩:=z_2;rw [←h1.len];exact len _ _ _ _ h3) fun A outer s H vs Q E hr ⟨Z,ds,S3,Q3,E3,h1,h2,h3,h4,_⟩=>?_,b,F.kp,m⟩
  obtain ⟨t,Q',ht,q,hw⟩:=hbody f cdv A outer s H E ds S3 Q3 E3 hr h3
  refine ⟨_,(ht (zx0 Z H)).nox,_,start3 N ds,S3,?_,h2.into,q,⟨?_,?_,?_,?_⟩⟩
  · unfold start3 L2.start
    rw [h1.len]
    exact zbq (SR.ofRps h1) (SR.nones _)
  · intro σ S' τ H' kk _ l q'
    exact h4 .non S' .non H' (kk.unhide fun _ z=>z) .non (l.out h2 kk) (hw _ _ q')
  · exact fun _ _ _ _ _ _ _ z=>z
  · exact fun _ _ _ _ _ _ _ z=>z
  · exact fun d S' v H' kk r l q'=>h4 d S' v H' (kk.unhide fun _ z=>z) r (l.out h2 kk) (hw _ _ q')
theorem _root_.EE.Has.val {A:List D→(D→Prop)→Prop} (h:Has K mg x st ps) (S:FnScope N ps (defScope st)) (len:∀ds q,A ds q→ds.length=ps.length)
    (hbody:∀(f:Addr) (cdv:Value) (Ar:Around) (outer:List Env) (s:Shared) (H:Hp) (E:XK) (ds:List D) (q:D→Prop),Room k (Ar.deeper (envOfC x (defScope st) s.heap.objs.size f cdv))→A ds q →
      ∃t,PSs3 (cxOf (CX1 P w) P w K mg base N x (defScope st) f cdv Ar outer s H E).nox NoX (defBody st) t∧t {nx:=fun _ _=>q .non,rt:=fun d _=>q d} (start3 N ds) emp):Cal3 P w K mg base (k+1) x ps (vS A):=by
  have C:Cal3 P w K mg base (k+1) x ps (fun ds S Q E=>S=emp∧∃q,A ds q∧∀d S',q d→Q d S'):=by
    refine h.cal3 S (fun vs H Q E z_3=>by obtain ⟨_,q,z,_⟩:=z_3;exact len _ _ z) fun f cdv Ar outer s H E ds S3 Q E3 hr z=>?_
    obtain ⟨rfl,q,z,hq⟩:=z
    obtain ⟨t,h1,h2⟩:=hbody f cdv Ar outer s H E ds _ hr z
    exact ⟨t,fun d _=>q d,h1,h2,hq⟩
  exact C.frame.imp fun ds S Q E z=>⟨emp,S,zg1 S,rfl,_,z,fun d S1 hq=>⟨emp,zgy _,fun S' h=>zds h▸hq⟩⟩
theorem _root_.EE.Has.lst {A:List D→(List D→Prop)→Prop} (h:Has K mg x st ps) (S:FnScope N ps (defScope st)) (len:∀ds q,A ds q→ds.length=ps.length)
    (hbody:∀(f:Addr) (cdv:Value) (Ar:Around) (outer:List Env) (s:Shared) (H:Hp) (E:XK) (ds:List D) (q:List D→Prop),Room k (Ar.deeper (envOfC x (defScope st) s.heap.objs.size f cdv))→A ds q →
      ∃t,PSs3 (cxOf (CX1 P w) P w K mg base N x (defScope st) f cdv Ar outer s H E).nox NoX (defBody st) t∧t {nx:=fun _ _=>False,rt:=fun d S'=>∃p ys,d=.ref p∧S' p=some (.lst ys)∧q ys} (start3 N ds) emp):Cal3 P w K mg base (k+1) x ps (lSt A):=by
  have C:Cal3 P w K mg base (k+1) x ps (fun ds S Q E=>S=emp∧∃q,A ds q∧∀d S',(∃p ys,d=.ref p∧S' p=some (.lst ys)∧q ys)→Q d S'):=by
    refine h.cal3 S (fun vs H Q E z_4=>by obtain ⟨_,q,z,_⟩:=z_4;exact len _ _ z) fun f cdv Ar outer s H E ds S3 Q E3 hr z=>?_
    obtain ⟨rfl,q,z,hq⟩:=z
    obtain ⟨t,h1,h2⟩:=hbody f cdv Ar outer s H E ds _ hr z
    refine ⟨t,fun d S'=>∃p ys,d=.ref p∧S' p=some (.lst ys)∧q ys,h1,?_,hq⟩
    have e:(fun (_:St3) (_:Hp3)=>False)=fun (_:St3) (S':Hp3)=>∃p ys,D.non=.ref p∧S' p=some (.lst ys)∧q ys:=by
      funext _ S'
      refine propext ⟨False.elim,fun z=>?_⟩
      obtain ⟨p,ys,z,_⟩:=z
      cases z
    rw [←e]
    exact h2
  refine C.frame.imp fun ds S Q E z=>⟨emp,S,zg1 S,rfl,_,z,fun d S1 ⟨p,ys,e,hp,hq⟩=>⟨one p (.lst ys),sub_one hp,fun S' h=>?_⟩⟩
  obtain ⟨h1,rfl⟩:=zpr h
  subst e
  exact hq p h1
section
variable {X:Cx} {CX:CXT} {k:Nat} {f C:Addr} {fd:FuncData} {ps:List Str} {sp:Sp} {dvs:List V} {ds:List Value} {E:L2.St→XK} {x:Str} {p pos:Pos} {e:Expr} {es:List Expr} {t:TA}
theorem zn8 (F:FnOk X.prog X.w X.K X.mg X.base CX k f fd ps sp) (hr:Room k X.A) (hg:Gl X x) (hm:X.mg x=some (.ref f)) (hk:PySem.W.keepIn X.K (.ref f)=true) (hb:Binds X.K fd ps ds) (hd:Vals dvs ds) (hx:∀τ,PassesAt CX X (E τ) τ)
    (ha:PA X (e::es) t) (hdb:(x==("__debug__":Str))=false:=by decide) (he:starEach (e::es) X.env=(false,eval e X.env)::starEach es X.env:=by rfl) (hpl:(backTo pos (starEach es X.env)).any (·.1)=false:=by rfl) :
    PE X (.Call (.Name x p) (e::es) [] pos) (fun τ H Q=>t τ H fun vs H1=>sp (vs++dvs) H1 Q (E τ)):=by
  intro pins s σ H Q I h
  refine wpAny_Call_Name_kw (zf3 I hg hm ?_ hdb)
  refine PySem.W.callWith_K (h₀:=X.base) I.ok.mod.kin hk (thn (ha pos pins s σ H _ I h) fun us s1 ⟨vs,H1,I1,r,q⟩=>⟨I1.kIn,?_⟩) he hpl
  have r2:Vals (vs++dvs) (us++ds):=r.append hd
  have hl:(us++ds).length=ps.length:=by rw [←r2.length];exact F.len _ _ _ _ q
  refine wpAny_call (codeAny_mono (F.run X.A X.stack s1 H1 ⟨us,[]⟩ (us++ds) (vs++dvs) Q (E σ) hr I1.env0 (hb s1 us I1.kIn hl) r2 q) fun r s' hq=>?_)
  cases r with
  | error e=>exact hx σ pins H1 s1 e s' I1 hq
  | ok fl =>
    cases fl with
    | ret u=>exact I1.after hq
    | next=>exact False.elim hq
    | brk=>exact False.elim hq
    | cont=>exact False.elim hq
end
def call3 (sp:Sp3) (W3:W3T) (t:TA3):TE3:=fun σ S Q=>t σ S fun ds S1=>sp ds S1 Q (W3 σ)
variable {X:Cx} {W3:W3T} {y:Str} {pos p:Pos} {e:Expr} {es:List Expr} {t:TA3} {sp:Sp3}
theorem zay (C:Cal3 X.prog X.w X.K X.mg X.base k y ps sp) (hr:Room k X.A) (hg:Gl X y) (ha:PA3 X W3 (e::es) t)
    (hdb:(y==("__debug__":Str))=false:=by decide) (he:starEach (e::es) X.env=(false,eval e X.env)::starEach es X.env:=by rfl) (hpl:(backTo pos (starEach es X.env)).any (·.1)=false:=by rfl) :
    PE3 X W3 (.Call (.Name y p) (e::es) [] pos) (call3 sp W3 t):=by
  obtain ⟨f,fd,F,b,kp,m⟩:=C.ex
  refine fun Z=>PE.imp (zn8 F hr hg m kp b .nil Z.pass (ha Z) hdb he hpl) fun τ H Q ⟨σ,S,Q3,hs,hr,ht,hc⟩=>?_
  refine ⟨σ,S,_,hs,hr,ht,fun ds S1 vs H1 k1 r1 l1 q1=>?_⟩
  exact ⟨Z.z,ds,S1,Q3,W3 σ,by rw [List.append_nil];exact r1,l1,q1,hc.mono k1,fun C a S2 H2 k2 l2 ha z=>Z.ce σ τ C a S2 H2 (hs.mono (k1.trans k2)) l2 ha z⟩
end
end E3
namespace E3
open PySem PySem.Spec PyProof.Rows L2 EE
section
variable {σ:St3} {S:Hp3} {Q:K3} {QT:Bool→Hp3→Prop} {QA:List D→Hp3→Prop} {QO:Option Int→Hp3→Prop} {ta tb te:TE3} {tA tB:TT3} {t u:TS3} {al:TA3} {r:R3} {n b c:St3→Hp3→Prop} {rt:K3} {i:Nat}
theorem j_seq (h:t ⟨u ⟨n,rt,b,c⟩,rt,b,c⟩ σ S):seq3 t u ⟨n,rt,b,c⟩ σ S:=h
theorem j_next (h:n σ S):next3 ⟨n,rt,b,c⟩ σ S:=h
theorem j_drop (h:te σ S fun _ S1=>n σ S1):drop3 te ⟨n,rt,b,c⟩ σ S:=h
theorem j_ret (h:te σ S rt):ret3 te ⟨n,rt,b,c⟩ σ S:=h
theorem j_set (h:te σ S fun x S1=>n (σ.set i (some x)) S1):set3 i te ⟨n,rt,b,c⟩ σ S:=h
theorem j_asg {g:TG3} (h:te σ S fun x S1=>g x σ S1 n):asg3 te g ⟨n,rt,b,c⟩ σ S:=h
theorem j_ei {k:Int} {P:Int→Prop} (h:P k):∃b,D.int k=.int b∧P b:=⟨k,rfl,h⟩
theorem j_ifs (h:tA σ S fun b' S1=>if b'=true then t ⟨n,rt,b,c⟩ σ S1 else u ⟨n,rt,b,c⟩ σ S1):ifs3 tA t u ⟨n,rt,b,c⟩ σ S:=h
theorem j_name {v:D} {Qs:St3→Hp3→Prop} (h:Qs (σ.set i (some v)) S):name3 i v σ S Qs:=h
theorem j_v {d:D} (h:σ[i]?=some (some d)) (q:Q d S):v3 i σ S Q:=⟨d,h,q⟩
theorem j_c {d:D} (q:Q d S):c3 d σ S Q:=q
theorem j_o (h:ta σ S fun x S1=>tb σ S1 fun y S2=>r x y S2 Q):o3 r ta tb σ S Q:=h
theorem j_i3 {g:Int→Int→D} {k j:Int} (q:Q (g k j) S):i3 g (.int k) (.int j) S Q:=⟨k,j,rfl,rfl,q⟩
theorem j_mod {g:Int→Int→D} {k j:Int} (h:0<j) (q:Q (g k j) S):ic3 (fun _ j=>0<j) g (.int k) (.int j) S Q:=⟨k,j,rfl,rfl,h,q⟩
theorem j_div {g:Int→Int→D} {k j:Int} (h:0<j∧j<1073741824) (q:Q (g k j) S):ic3 CDiv g (.int k) (.int j) S Q:=⟨k,j,rfl,rfl,h,q⟩
theorem j_addS {x y:Str} (h:x.length+y.length≤sizeLine) (q:Q (.str (x++y)) S):addS3 (.str x) (.str y) S Q:=⟨x,y,rfl,rfl,h,q⟩
theorem j_eqI {k j:Int} (q:Q (.bl (decide (k=j))) S):eqI3 (.int k) (.int j) S Q:=⟨k,j,rfl,rfl,q⟩
theorem j_neI {k j:Int} (q:Q (.bl (!decide (k=j))) S):neI3 (.int k) (.int j) S Q:=⟨k,j,rfl,rfl,q⟩
theorem j_eqS {k j:Str} (q:Q (.bl (decide (k=j))) S):eqS3 (.str k) (.str j) S Q:=⟨k,j,rfl,rfl,q⟩
theorem j_neS {k j:Str} (q:Q (.bl (!decide (k=j))) S):neS3 (.str k) (.str j) S Q:=⟨k,j,rfl,rfl,q⟩
theorem j_test (h:te σ S fun x S'=>∃k,x=.bl k∧QT k S'):test3 te σ S QT:=h
theorem j_eb {k:Bool} {P:Bool→Prop} (h:P k):∃b,D.bl k=.bl b∧P b:=⟨k,rfl,h⟩
theorem j_and (h:tA σ S fun c' S1=>if c'=true then tB σ S1 QT else QT false S1):and3 tA tB σ S QT:=h
theorem j_or (h:tA σ S fun c' S1=>if c'=true then QT true S1 else tB σ S1 QT):or3 tA tB σ S QT:=h
theorem j_not (h:tA σ S fun c' S1=>QT (!c') S1):not3 tA σ S QT:=h
theorem j_andv (h:ta σ S fun x S1=>∃c',x=.bl c'∧if c'=true then tb σ S1 Q else Q (.bl false) S1):andv3 ta tb σ S Q:=h
theorem j_notv (h:ta σ S fun x S1=>∃c',x=.bl c'∧Q (.bl (!c')) S1):notv3 ta σ S Q:=h
theorem j_nil (h:QA [] S):nil3 σ S QA:=h
theorem j_cons (h:te σ S fun x S1=>al σ S1 fun xs S2=>QA (x::xs) S2):cons3 te al σ S QA:=h
theorem j_tup (h:al σ S fun xs S1=>xs.length≤sizeLine∧Q (.tup xs) S1):tup3 al σ S Q:=h
theorem j_lst (h:al σ S fun xs S1=>xs.length≤sizeLine∧newL S1 xs Q):lst3 al σ S Q:=h
theorem j_sz {α:Type} {xs:List α} {P:Prop} (h:xs.length≤sizeLine) (q:P):xs.length≤sizeLine∧P:=⟨h,q⟩
theorem j_cb {f:List D→Hp3→K3→Prop} (h:al σ S fun vs S1=>f vs S1 Q):cb3 f al σ S Q:=h
theorem j_call {sp:Sp3} {W3:W3T} (h:al σ S fun ds S1=>sp ds S1 Q (W3 σ)):call3 sp W3 al σ S Q:=h
theorem j_bm {T:String} {m:D→List D→Hp3→K3→Prop} (h:te σ S fun x S1=>TyD T x S1∧al σ S1 fun xs S2=>m x xs S2 Q):bm3 T m te al σ S Q:=h
theorem j_bm0 {T:String} {m:D→List D→Hp3→K3→Prop} (h:te σ S fun x S1=>TyD T x S1∧m x [] S1 Q):bm03 T m te σ S Q:=h
theorem j_tyL {a:Addr} {ds:List D} {P:Prop} (h:S a=some (.lst ds)) (q:P):TyD "list" (.ref a) S∧P:=⟨.inr (.inl ⟨rfl,ds,.inl ⟨a,rfl,h⟩⟩),q⟩
theorem j_tyS {z:Str} {P:Prop} (q:P):TyD "str" (.str z) S∧P:=⟨.inl ⟨rfl,z,rfl⟩,q⟩
theorem j_append {a:Addr} {ds:List D} {y:D} (h:S a=some (.lst ds)) (hz:ds.length<sizeLine) (q:Q .non (up S a (.lst (ds++[y])))):append3 (.ref a) [y] S Q:=⟨a,ds,y,rfl,rfl,h,hz,q⟩
theorem j_ixT {ds:List D} {k:Int} {d:D} (h:atI ds k=some d) (q:Q d S):ixT3 (.tup ds) (.int k) S Q:=⟨ds,k,d,rfl,rfl,h,q⟩
theorem j_ixL {a:Addr} {ds:List D} {k:Int} {d:D} (hS:S a=some (.lst ds)) (h:atI ds k=some d) (q:Q d S):ixL3 (.ref a) (.int k) S Q:=⟨ds,k,d,.inl ⟨a,rfl,hS⟩,rfl,h,q⟩
theorem j_ixR {ds:List D} {k:Int} {d:D} (h:atI ds k=some d) (q:Q d S):ixL3 (.rol ds) (.int k) S Q:=⟨ds,k,d,.inr rfl,rfl,h,q⟩
theorem j_ixS {z:Str} {k:Int} {cp:Nat} (hz:z.length≤sizeLine) (h:atI z.cps.toList k=some cp) (q:Q (.str ⟨#[cp]⟩) S):ixS3 (.str z) (.int k) S Q:=⟨z,k,cp,rfl,rfl,hz,h,q⟩
theorem j_lenL {a:Addr} {ds:List D} (hS:S a=some (.lst ds)) (q:Q (.int ds.length) S):len3 [.ref a] S Q:=⟨_,ds,rfl,.inl (.inl ⟨a,rfl,hS⟩),q⟩
theorem j_lenR {ds:List D} (q:Q (.int ds.length) S):len3 [.rol ds] S Q:=⟨_,ds,rfl,.inl (.inr rfl),q⟩
theorem j_lenT {ds:List D} (q:Q (.int ds.length) S):len3 [.tup ds] S Q:=⟨_,ds,rfl,.inr rfl,q⟩
theorem j_lenS {z:Str} (hz:z.length≤sizeLine) (q:Q (.int z.length) S):lenS3 [.str z] S Q:=⟨z,rfl,hz,q⟩
theorem j_toListT {ds:List D} (q:newL S ds Q):toList3 [.tup ds] S Q:=⟨_,ds,rfl,.inr rfl,q⟩
theorem j_toTupL {a:Addr} {ds:List D} (hS:S a=some (.lst ds)) (q:Q (.tup ds) S):toTup3 [.ref a] S Q:=⟨_,ds,rfl,.inl (.inl ⟨a,rfl,hS⟩),q⟩
theorem j_isB {x:D} {m k:String} {b':Bool} (h:TyN S x m) (hk:kin m k=some b') (q:Q (.bl b') S):isB3 [x,.ty k] S Q:=⟨x,k,m,b',rfl,h,hk,q⟩
theorem j_sl {f:D→Option Int→Option Int→Hp3→K3→Prop} {tl th:TO3} (h:te σ S fun x S1=>tl σ S1 fun l S2=>th σ S2 fun u' S3=>f x l u' S3 Q):sl3 f te tl th σ S Q:=h
theorem j_nopart (h:QO none S):nopart3 σ S QO:=h
theorem j_part (h:te σ S fun x S1=>∃k,x=.int k∧QO (some k) S1):part3 te σ S QO:=h
theorem j_slL {a:Addr} {ds:List D} {lo hi:Option Int} (hS:S a=some (.lst ds)) (q:newL S (cutD ds lo hi) Q):slL3 (.ref a) lo hi S Q:=⟨ds,.inl ⟨a,rfl,hS⟩,q⟩
theorem j_slT {ds:List D} {lo hi:Option Int} (q:Q (.tup (cutD ds lo hi)) S):slT3 (.tup ds) lo hi S Q:=⟨ds,rfl,q⟩
theorem j_slS {z:Str} {lo hi:Option Int} (hz:z.length≤sizeLine) (q:Q (.str (textOf (cutT z.cps.toList lo hi))) S):slS3 (.str z) lo hi S Q:=⟨z,rfl,hz,q⟩
theorem j_catL {a a':Addr} {ds es:List D} (h:S a=some (.lst ds)) (h':S a'=some (.lst es)) (hz:ds.length+es.length≤sizeLine) (q:newL S (ds++es) Q):catL3 (.ref a) (.ref a') S Q:=⟨a,a',ds,es,rfl,rfl,h,h',hz,q⟩
theorem j_catT {ds es:List D} (hn:ds≠[]) (hz:ds.length+es.length≤sizeLine) (q:Q (.tup (ds++es)) S):catT3 (.tup ds) (.tup es) S Q:=⟨ds,es,rfl,rfl,hn,hz,q⟩
theorem j_comp {wi:TI3} {js:List Nat} (h:wi σ S fun ds Al S1=>∃W:Nat→List D→Hp3→Prop,W 0 [] S1∧(∀i ys S,W i ys S→Al S∧ys.length<sizeLine) ∧
  (∀i d ys S,ds[i]?=some d→W i ys S→te (some d::pick3 σ js) S fun y S'=>W (i+1) (ys++[y]) S')∧∀ys S,W ds.length ys S→newL S ys Q):comp3 wi te js σ S Q:=h
theorem zcc {js:List Nat} {ds:List D} {Al:Hp3→Prop} {S1:Hp3} (f:Nat→D) (hz:ds.length≤10000) (hA:Al S1)
    (h:∀i d,ds[i]?=some d→∀P:K3,P (f i) S1→te (some d::pick3 σ js) S1 P) (q:newL S1 ((List.range ds.length).map f) Q) :
    ∃W:Nat→List D→Hp3→Prop,W 0 [] S1∧(∀i ys S,W i ys S→Al S∧ys.length<sizeLine) ∧
  (∀i d ys S,ds[i]?=some d→W i ys S→te (some d::pick3 σ js) S fun y S'=>W (i+1) (ys++[y]) S')∧∀ys S,W ds.length ys S→newL S ys Q:=by
  refine ⟨fun i ys S=>i≤ds.length∧ys=(List.range i).map f∧S=S1,⟨Nat.zero_le _,rfl,rfl⟩,?_,?_,?_⟩
  · rintro i ys S ⟨hi,rfl,rfl⟩
    refine ⟨hA,?_⟩
    rw [List.length_map,List.length_range]
    exact Nat.lt_of_le_of_lt (Nat.le_trans hi hz) (by decide)
  · rintro i d ys S hd ⟨hi,rfl,rfl⟩
    refine h i d hd _ ⟨(List.getElem?_eq_some_iff.mp hd).1,?_,rfl⟩
    rw [List.range_succ,List.map_append]
    rfl
  · rintro ys S ⟨_,rfl,rfl⟩
    exact q
theorem j_for {wi:TI3} {g:TG3} (h:wi σ S fun ds Al S1=>∃W:Nat→St3→Hp3→Prop,W 0 σ S1∧(∀i σ S,W i σ S→Al S) ∧
  (∀i d σ S,ds[i]?=some d→W i σ S→g d σ S fun σ2 S2=>t ⟨W (i+1),rt,n,W (i+1)⟩ σ2 S2)∧∀σ S,W ds.length σ S→n σ S):for3 wi g t ⟨n,rt,b,c⟩ σ S:=h
theorem j_while (W:Nat→St3→Hp3→Prop) (m:Nat) (h0:W m σ S) (h:∀m σ S,W m σ S→tA σ S fun b S1=>if b=true then t ⟨fun σ' S'=>∃m',m'<m∧W m' σ' S',rt,n,fun σ' S'=>∃m',m'<m∧W m' σ' S'⟩ σ S1 else n σ S1) :
    while3 tA t ⟨n,rt,b,c⟩ σ S:=⟨W,⟨m,h0⟩,h⟩
noncomputable abbrev RI:=List D→(Hp3→Prop)→Hp3→Prop
variable {R:RI}
def litA (R:RI) (x:D) (S:Hp3):Prop:=(∃a ds,x=.ref a∧S a=some (.lst ds)∧R ds (fun S=>S a=some (.lst ds)) S)∨∃ds,x=.rol ds∧R ds (fun _=>True) S
theorem j_iList (h:te σ S fun x S1=>litA R x S1):iL3 te σ S R:=h
theorem j_iL {a:Addr} {ds:List D} (hS:S a=some (.lst ds)) (q:R ds (fun S=>S a=some (.lst ds)) S):litA R (.ref a) S:=.inl ⟨a,ds,rfl,hS,q⟩
def titA (R:RI) (x:D) (S:Hp3):Prop:=∃ds,x=.tup ds∧R ds (fun _=>True) S
theorem j_iTup (h:te σ S fun x S1=>titA R x S1):iT3 te σ S R:=h
theorem j_iT {ds:List D} (q:R ds (fun _=>True) S):titA R (.tup ds) S:=⟨ds,rfl,q⟩
def sitA (R:RI) (x:D) (S:Hp3):Prop:=∃z,x=.str z∧R (signs z) (fun _=>True) S
theorem j_iStr (h:te σ S fun x S1=>sitA R x S1):iS3 te σ S R:=h
theorem j_iS {z:Str} (q:R (signs z) (fun _=>True) S):sitA R (.str z) S:=⟨z,rfl,q⟩
theorem j_eS {z:Str} {P:Str→Prop} (h:P z):∃y,D.str z=.str y∧P y:=⟨z,rfl,h⟩
def rngA (R:RI) (vs:List D) (S:Hp3):Prop:=∃j:Int,vs=[.int j]∧-(2^62)≤j∧j<2^62∧R (nums 0 j.toNat) (fun _=>True) S
theorem j_iR1 (h:al σ S fun vs S1=>rngA R vs S1):iR1 al σ S R:=h
theorem j_rng {j:Int} (h1:-(2^62)≤j∧j<2^62) (q:R (nums 0 j.toNat) (fun _=>True) S):rngA R [.int j] S:=⟨j,rfl,h1.1,h1.2,q⟩
def setA (v:D) (Qs:St3→Hp3→Prop) (σ:St3) (o i:D) (S:Hp3):Prop:=∃p xs k j,o=.ref p∧i=.int k∧S p=some (.lst xs)∧ixN xs.length k=some j∧Qs σ (up S p (.lst (xs.set j v)))
theorem j_setL {v:D} {Qs:St3→Hp3→Prop} (h:te σ S fun o S1=>ta σ S1 fun i S2=>setA v Qs σ o i S2):setL3 te ta v σ S Qs:=h
theorem j_esL {a:Addr} {xs:List D} {k:Int} {j:Nat} {v:D} {Qs:St3→Hp3→Prop} (hS:S a=some (.lst xs)) (hj:ixN xs.length k=some j) (q:Qs σ (up S a (.lst (xs.set j v)))):setA v Qs σ (.ref a) (.int k) S:=⟨a,xs,k,j,rfl,rfl,hS,hj,q⟩
def dgetA (Q:K3) (x y:D) (S:Hp3):Prop:=∃a kvs k v,x=.ref a∧S a=some (.dic kvs)∧y=kD k∧valD kvs k=some v∧Q v S
theorem j_dget (h:te σ S fun x S1=>ta σ S1 fun y S2=>dgetA Q x y S2):dget3 te ta σ S Q:=h
theorem j_dgetS {a:Addr} {kvs:List (Key×D)} {z:Str} {v:D} (hS:S a=some (.dic kvs)) (hv:valD kvs (.inr z)=some v) (q:Q v S):dgetA Q (.ref a) (.str z) S:=⟨a,kvs,.inr z,v,rfl,hS,rfl,hv,q⟩
end
theorem FnOk.frame {P:Program} {w:World} {K:PySem.W.Frag} {mg:Str→Option Value} {base:Heap} {k:Nat} {f:Addr} {fd:FuncData} {ps:List Str} {sp:Sp3} (F:FnOk P w K mg base (CX1 P w) k f fd ps (lSp K sp)):FnOk P w K mg base (CX1 P w) k f fd ps (lSp K (fr sp)):=by
  refine L2.FnOk.imp F fun vs H Q E ⟨Z,ds,S,Q3,E3,h1,l,⟨S0,F,hs,h3⟩,cq,ce⟩=>?_
  refine ⟨Z.with H F,ds,S0,_,_,h1,⟨fun a o e=>?_,fun a z=>?_,Kp.refl _ _⟩,h3,?_,?_⟩
  · refine l.obj a o ?_
    rcases hs a with ⟨q,_⟩|⟨q,_⟩
    · rw [q];exact e
    · rw [q] at e;cases e
  · rcases z with z|z
    · have z2:=l.hid a z
      refine ⟨?_,z2.2⟩
      rcases hs a with ⟨q,_⟩|⟨q,_⟩
      · rw [←q];exact z2.1
      · exact q
    · rcases hs a with ⟨_,q⟩|⟨q,q2⟩
      · exact absurd q z
      · refine ⟨q,?_⟩
        cases e:F a with
        | none=>exact absurd e z
        | some o=>exact (l.obj a o (q2.trans e)).there
  · rintro d S1 v H' k1 r1 l1 ⟨S2,hsub,q⟩
    obtain ⟨sp',l'⟩:=l.frame hs k1 l1 hsub
    exact cq d _ v H' (k1.unhide fun a z=>.inl z) r1 l' (q _ sp')
  · rintro C a S1 H' k1 l1 ha ⟨S2,hsub,q⟩
    obtain ⟨sp',l'⟩:=l.frame hs k1 l1 hsub
    exact ce C a _ H' (k1.unhide fun a z=>.inl z) l' ha (q _ sp')
def lawS:Sp3:=vS fun ds q=>∃ns:List Int,ds=[.rol (ns.map D.int)]∧ns.length≤63∧q (.bl true)
theorem zmr {P:Program} {w:World} {K:PySem.W.Frag} {mg:Str→Option Value} {base:Heap} {k:Nat} {st:Stmt} {f:Addr} {fd:FuncData} {N:List Str} (F:Fun K "law" "law" st f fd) (S:FnScope N ["script"] (defScope st))
    (hbody:∀(cdv:Value) (A:Around) (outer:List Env) (s:Shared) (H:Hp) (E:XK) (ns:List Int),Room k (A.deeper (envOfC "law" (defScope st) s.heap.objs.size f cdv))→ns.length≤63 →
      ∃t,PSs3 (cxOf (CX1 P w) P w K mg base N "law" (defScope st) f cdv A outer s H E).nox NoX (defBody st) t∧t {nx:=fun _ _=>False,rt:=fun d _=>d=.bl true} (start3 N [.rol (ns.map D.int)]) emp) :
    FnOk P w K mg base (CX1 P w) (k+1) f fd ["script"] (lSp K lawS):=by
  obtain ⟨oc,od,kV,doc,pm,an,cdv,ct,osl,rfl,lk,hcd⟩:=F.ex
  refine L2.FnOk.imp (sp:=lSp K (fr fun ds S Q E=>S=emp∧∃ns:List Int,ds=[.rol (ns.map D.int)]∧ns.length≤63∧∀S',Q (.bl true) S')) (FnOk.frame ?_) fun vs H Q E z_1=>by obtain ⟨Z,ds,S,Q3,E3,h1,l,⟨ns,e,h63,q⟩,h,h'⟩:=z_1;exact ⟨Z,ds,S,Q3,E3,h1,l,⟨emp,S,zg1 S,rfl,ns,e,h63,fun S1=>⟨emp,zgy _,fun S' hS=>zds hS▸q⟩⟩,h,h'⟩
  refine zm3 lk hcd S (fun vs H Q E z_2=>by obtain ⟨Z,ds,S,Q3,E3,h1,_,⟨_,ns,z,_⟩,_,_⟩:=z_2;rw [←h1.len,z];rfl) fun A outer s H vs Q E hr ⟨Z,ds,S3,Q3,E3,h1,h2,⟨e1,ns,e2,h63,hq⟩,h4,_⟩=>?_
  subst e1 e2
  obtain ⟨t,ht,q⟩:=hbody cdv A outer s H E ns hr h63
  refine ⟨_,(ht (zx0 Z H)).nox,_,start3 N [.rol (ns.map D.int)],emp,?_,h2.into,q,⟨?_,?_,?_,?_⟩⟩
  · unfold start3 L2.start
    rw [h1.len]
    exact zbq (SR.ofRps h1) (SR.nones _)
  · exact fun _ _ _ _ _ _ _ z=>z.elim
  · exact fun _ _ _ _ _ _ _ z=>z
  · exact fun _ _ _ _ _ _ _ z=>z
  · intro d S' v H' kk r l e
    have e:d=.bl true:=e
    subst e
    exact h4 _ S' v H' (kk.unhide fun _ z=>z) r (l.out h2 kk) (hq S')
theorem law_sp {K:PySem.W.Frag} {H:Hp} {a:Addr} {ns:List Int} (hl:ns.length≤63) (hO:Only H) (h:SqL K H a (ns.map V.int)):lSp K lawS [.ref a] H (fun v _=>v=.bl true) fun _ _ _=>False:=by
  refine ⟨⟨fun _=>False,H⟩,[.rol (ns.map D.int)],emp,fun d _=>d=.bl true,fun _ _ _=>False,.cons (.rol (ScR.of h hO) (Rps.ints ns)) .nil,⟨fun a o e=>(nomatch e),fun a z=>z.elim,Kp.refl _ _⟩,⟨ns,rfl,hl,rfl⟩,?_,fun _ _ _ _ _ _ _ z=>z⟩
  intro d S v H' _ r _ e
  have e:d=.bl true:=e
  subst e
  cases r
  rfl
theorem zqj {A:Around} {k:Nat} (hr:Room k A):A.units+200<cLine:=by have:=hr.un;omega
end E3
namespace E3
open PySem PySem.Spec PyProof.Rows L2 EE
theorem Sub.refl (S:Hp3):Sub S S:=fun _ _ h=>h
theorem Sub.up {A B:Hp3} {p:Addr} {o:O} (h:Sub A B) (hp:B p=none):Sub A (up B p o):=fun a u e=>zau (h a u e) hp
section
variable {P:Program} {w:World} {K:PySem.W.Frag} {mg:Str→Option Value} {base:Heap} {x:Str} {st:Stmt} {N ps:List Str} {k:Nat}
theorem Cal3.drop {sp:Sp3} (C:Cal3 P w K mg base k x ps sp):Cal3 P w K mg base k x ps (fun ds S Q E=>sp ds S (fun d S1=>∃S2,Sub S2 S1∧Q d S2) E):=by
  obtain ⟨f,fd,F0,r⟩:=C.ex
  refine ⟨f,fd,F0.imp fun vs H Q E ⟨Z,ds,S,Q3,E3,h1,l,h3,cq,ce⟩=>⟨Z,ds,S,_,E3,h1,l,h3,?_,ce⟩,r⟩
  rintro d S1 v H' k1 r1 l1 ⟨S2,hsub,q⟩
  exact cq d S2 v H' k1 r1 (l1.sub hsub) q
def wrV (A:List D→Hp3→(D→Addr→O→Prop)→Prop):Sp3:=fun ds S Q _=>A ds S fun d a o=>Q d (up S a o)
theorem _root_.EE.Has.wrV {A:List D→Hp3→(D→Addr→O→Prop)→Prop} (h:Has K mg x st ps) (S:FnScope N ps (defScope st)) (len:∀ds S q,A ds S q→ds.length=ps.length)
    (hbody:∀(f:Addr) (cdv:Value) (Ar:Around) (outer:List Env) (s:Shared) (H:Hp) (E:XK) (ds:List D) (S:Hp3) (q:D→Addr→O→Prop),Room k (Ar.deeper (envOfC x (defScope st) s.heap.objs.size f cdv))→A ds S q →
      ∃t,PSs3 (cxOf (CX1 P w) P w K mg base N x (defScope st) f cdv Ar outer s H E).nox NoX (defBody st) t∧t {nx:=fun _ S'=>∃a o,Sub (up S a o) S'∧q .non a o,rt:=fun d S'=>∃a o,Sub (up S a o) S'∧q d a o} (start3 N ds) S):Cal3 P w K mg base (k+1) x ps (wrV A):=by
  have C:Cal3 P w K mg base (k+1) x ps (fun ds S Q E=>∃q,A ds S q∧∀d S',(∃a o,Sub (up S a o) S'∧q d a o)→Q d S'):=by
    refine h.cal3 S (fun vs H Q E z_3=>by obtain ⟨q,z,_⟩:=z_3;exact len _ _ _ z) fun f cdv Ar outer s H E ds S3 Q E3 hr ⟨q,z,hq⟩=>?_
    obtain ⟨t,h1,h2⟩:=hbody f cdv Ar outer s H E ds S3 _ hr z
    exact ⟨t,fun d S'=>∃a o,Sub (up S3 a o) S'∧q d a o,h1,h2,hq⟩
  exact C.drop.imp fun ds S Q E z=>⟨_,z,fun d S1 z_4=>by obtain ⟨a,o,hs,hq⟩:=z_4;exact ⟨_,hs,hq⟩⟩
theorem _root_.EE.Has.none3 {sp:Sp3} (h:Has K mg x st ps) (no:∀ds S Q E,¬sp ds S Q E) (j:Nat):Cal3 P w K mg base j x ps sp:=by
  obtain ⟨f,fd,F,b,m⟩:=h.ex
  have no':∀vs H Q E,¬lSp K sp vs H Q E:=fun vs H Q E z_5=>by obtain ⟨Z,ds,S,Q3,E3,_,_,z,_,_⟩:=z_5;exact no _ _ _ _ z
  exact ⟨f,fd,⟨fun vs H Q E h=>absurd h (no' vs H Q E),fun A outer s H args us vs Q E _ _ _ _ h=>absurd h (no' vs H Q E)⟩,b,F.kp,m⟩
end
end E3
namespace E3
open PySem PySem.Spec PyProof.Rows L2 EE
section
variable {P:Program} {w:World} {K:PySem.W.Frag} {mg:Str→Option Value} {base:Heap} {x:Str} {st:Stmt} {N ps:List Str} {k:Nat}
def wrL (A:List D→Hp3→(List D→Addr→O→Prop)→Prop):Sp3:=fun ds S Q _=>A ds S fun ys a o=>∀p,S p=none→Q (.ref p) (up (up S a o) p (.lst ys))
theorem _root_.EE.Has.wrL {A:List D→Hp3→(List D→Addr→O→Prop)→Prop} (h:Has K mg x st ps) (S:FnScope N ps (defScope st)) (len:∀ds S q,A ds S q→ds.length=ps.length)
    (hbody:∀(f:Addr) (cdv:Value) (Ar:Around) (outer:List Env) (s:Shared) (H:Hp) (E:XK) (ds:List D) (S:Hp3) (q:List D→Addr→O→Prop),Room k (Ar.deeper (envOfC x (defScope st) s.heap.objs.size f cdv))→A ds S q →
      ∃t,PSs3 (cxOf (CX1 P w) P w K mg base N x (defScope st) f cdv Ar outer s H E).nox NoX (defBody st) t ∧
        t {nx:=fun _ _=>False,rt:=fun d S'=>∃p ys a o,d=.ref p∧S p=none∧S a≠none∧Sub (up S a o) S'∧S' p=some (.lst ys)∧q ys a o} (start3 N ds) S):Cal3 P w K mg base (k+1) x ps (wrL A):=by
  have C:Cal3 P w K mg base (k+1) x ps (fun ds S Q E=>∃q,A ds S q∧∀d S',(∃p ys a o,d=.ref p∧S p=none∧S a≠none∧Sub (up S a o) S'∧S' p=some (.lst ys)∧q ys a o)→Q d S'):=by
    refine h.cal3 S (fun vs H Q E z_6=>by obtain ⟨q,z,_⟩:=z_6;exact len _ _ _ z) fun f cdv Ar outer s H E ds S3 Q E3 hr ⟨q,z,hq⟩=>?_
    obtain ⟨t,h1,h2⟩:=hbody f cdv Ar outer s H E ds S3 _ hr z
    refine ⟨t,fun d S'=>∃p ys a o,d=.ref p∧S3 p=none∧S3 a≠none∧Sub (up S3 a o) S'∧S' p=some (.lst ys)∧q ys a o,h1,?_,hq⟩
    have e:(fun (_:St3) (_:Hp3)=>False)=fun (_:St3) (S':Hp3)=>∃p ys a o,D.non=.ref p∧S3 p=none∧S3 a≠none∧Sub (up S3 a o) S'∧S' p=some (.lst ys)∧q ys a o:=by
      funext _ S'
      refine propext ⟨False.elim,fun z=>?_⟩
      obtain ⟨p,ys,_,_,z,_⟩:=z
      cases z
    rw [←e]
    exact h2
  refine C.drop.imp fun ds S Q E z=>⟨_,z,fun d S1 ⟨p,ys,a,o,e,hp,ha,hs,hp1,hq⟩=>⟨up (up S a o) p (.lst ys),?_,?_⟩⟩
  · intro b u hb
    by_cases c:b=p
    · subst c;rw [zag] at hb;cases hb;exact hp1
    · rw [zcn c] at hb;exact hs b u hb
  · subst e
    exact hq p hp
end
section
variable {σ:St3} {S:Hp3} {Q:K3}
theorem j_pow {g:Int→Int→D} {k j:Int} (h:CPow k j) (q:Q (g k j) S):ic3 CPow g (.int k) (.int j) S Q:=⟨k,j,rfl,rfl,h,q⟩
theorem j_mul {g:Int→Int→D} {k j:Int} (h:CMul k j) (q:Q (g k j) S):ic3 CMul g (.int k) (.int j) S Q:=⟨k,j,rfl,rfl,h,q⟩
theorem j_neg {σ:St3} {te:TE3} (h:te σ S fun x S1=>∃i,x=.int i∧Q (.int (-i)) S1):u3 (fun x S Q=>∃i,x=.int i∧Q (.int (-i)) S) te σ S Q:=h
end
end E3
namespace E3
def Px (sp:PySem.Addr) (S X:Hp3):Prop:=∀a u,a≠sp→S a=some u→X a=some u
theorem Px.refl (sp:PySem.Addr) (S:Hp3):Px sp S S:=fun _ _ _ h=>h
theorem Px.at {sp:PySem.Addr} {S X:Hp3} {o:O} (h:Px sp S X):Px sp S (up X sp o):=fun a u n e=>by rw [zcn n];exact h a u n e
theorem Px.new {sp p:PySem.Addr} {S X:Hp3} {o:O} (h:Px sp S X) (hp:X p=none):Px sp S (up X p o):=fun a u n e=>zau (h a u n e) hp
theorem Px.sub {sp:PySem.Addr} {S X:Hp3} {o:O} (h:Px sp S X) (hx:X sp=some o):Sub (up S sp o) X:=fun a u e=>by
  by_cases c:a=sp
  · subst c;rw [zag] at e;rw [hx];exact e
  · rw [zcn c] at e;exact h a u c e
end E3
namespace E3
theorem Px.fresh {sp p:PySem.Addr} {S X:Hp3} {o:O} (h:Px sp S X) (hp:S p=none):Px sp S (up X p o):=fun a u n e=>by rw [zcn (ne3 e hp)];exact h a u n e
theorem Px.free {sp p:PySem.Addr} {S X:Hp3} (h:Px sp S X) (hp:X p=none) (n:p≠sp):S p=none:=by
  cases e:S p with
  | none=>rfl
  | some o=>rw [h p o n e] at hp;cases hp
end E3
namespace E3
theorem Px.ext {sp:PySem.Addr} {S X Y:Hp3} (h:Px sp S X) (h':Sub X Y):Px sp S Y:=fun a u n e=>h' a u (h a u n e)
end E3
namespace E3
open PySem PySem.Spec PyProof.Rows L2 EE
theorem zla {P:Program} {w:World} {H:Hp} {h:Heap} {a:Addr} {o:HO} (x:ObjOk P w H h a o):∃u,h.get? a=some u:=by
  cases o with
  | lst xs=>obtain ⟨_,_,_,_,e⟩:=x;exact ⟨_,e⟩
  | tup xs=>obtain ⟨_,_,_,⟨o,e,_⟩,_⟩:=x;exact ⟨_,e⟩
  | dK kvs=>obtain ⟨_,_,_,_,o,_,_,e,_⟩:=x;exact ⟨_,e⟩
  | dT kvs=>obtain ⟨_,_,_,_,o,_,_,e,_⟩:=x;exact ⟨_,e⟩
  | set S n=>obtain ⟨o,_,_,_,e,_⟩:=x;exact ⟨_,e⟩
  | ins C dx fs=>obtain ⟨_,_,_,e,_⟩:=x;exact ⟨_,e⟩
  | own y=>exact x
  | xd fs=>obtain ⟨_,⟨_,_,_,e,_⟩,_⟩:=x;exact ⟨_,e⟩
  | rng lo hi=>obtain ⟨_,_,_,e⟩:=x;exact ⟨_,e⟩
  | frz ob u=>obtain ⟨e,_⟩:=x;exact ⟨_,e⟩
  | tbl ps=>exact ⟨_,show h.get? a=some _ from x⟩
  | met f y=>exact ⟨_,show h.get? a=some _ from x⟩
  | ext φ=>exact x.2.1
theorem zfm {P:Program} {w:World} {H:Hp} {h:Heap} {a:Addr} (x:HOk P w H h) (e:h.get? a=none):H a=none:=by
  cases q:H a with
  | none=>rfl
  | some o=>obtain ⟨u,z⟩:=zla (x a o q);rw [e] at z;cases z
section
variable {P:Program} {w:World} {K:PySem.W.Frag} {mg:Str→Option Value} {base:Heap} {N:List Str} {qual:Str} {scope:Scope} {f:Addr} {cd:Value} {A:Around} {outer:List Env} {s s2:Shared} {H H1:Hp} {E:XK}
  {pins:List (Addr×Obj)} {σ:L2.St} {a C:Addr}
theorem ze3 (I:Inv (cxOf (CX1 P w) P w K mg base N qual scope f cd A outer s H E) pins σ H1 s2):s2.heap.FunFrames base (envOfC qual scope s.heap.objs.size f cd::outer):=by
  obtain ⟨m,⟨o,es,ep,ho,hd,_⟩,_⟩:=I.loc
  have hk:scope.kind=.function:=I.ok.kind
  refine ⟨?_,⟨s.heap.objs.size,o,rfl,?_,ho,fun vs z=>?_⟩,I.funs⟩
  · show scope.kind≠.module
    rw [hk]
    intro z
    cases z
  · cases q:base.get? s.heap.objs.size with
    | none=>rfl
    | some u=>exact absurd (Nat.lt_of_lt_of_le (Heap.lt_size q) I.ok.bsz) (Nat.lt_irrefl _)
  · rw [hd] at z
    cases z
theorem zpk {a0:Value} {h':Heap} (hold:List Addr) (I:Inv (cxOf (CX1 P w) P w K mg base N qual scope f cd A outer s H E) pins σ H1 s2) (hh:∀b∈hold,H1 b=none∧s.heap.get? b=none) (na:H1 a=none∧s.heap.get? a=none)
    (fl:Heap.FlyingW (PySem.W.hideAll s2.heap (hold++frs (envOfC qual scope s.heap.objs.size f cd::outer))) outer a (.ref C) a0 h') (us:s2.heap.UpToSlots h') (q:E (.ref C) (some a) H1) {s3:Shared} (h3:s3.heap=h') (ho:s3.os=s2.os) (hg:s3.gens=s2.gens) :
    CX1 P w outer H s E (.ref a) s3:=by
  have all:=ze3 I
  have frL:frs (envOfC qual scope s.heap.objs.size f cd::outer)=s.heap.objs.size::frs outer:=rfl
  have hL:s.heap.get? s.heap.objs.size=none:=by
    cases q:s.heap.get? s.heap.objs.size with
    | none=>rfl
    | some u=>exact absurd (Heap.lt_size q) (Nat.lt_irrefl _)
  have frame:∀b,b∈frs (envOfC qual scope s.heap.objs.size f cd::outer)→H1 b=none∧∃o,s2.heap.get? b=some o∧∀vs,o.data≠.fields vs:=by
    intro b hb
    refine ⟨?_,(all.mem hb).2⟩
    rw [frL] at hb
    rcases List.mem_cons.mp hb with rfl|hb
    · exact I.free
    · obtain ⟨_,o,e,_⟩:=I.ok.funs.mem hb
      exact I.base.free b o e (I.ok.frf b hb) (by exact List.not_mem_nil)
  have keep:∀b o,s2.heap.get? b=some o→b∉hold→b∉frs (envOfC qual scope s.heap.objs.size f cd::outer)→h'.get? b=some o:=fun b o e n1 n2 =>
    fl.1 b o (PySem.W.hideAll_get _ e fun z=>(List.mem_append.mp z).elim n1 n2)
  have slot:∀b o,s2.heap.get? b=some o→b∈frs (envOfC qual scope s.heap.objs.size f cd::outer)→∃sl,h'.get? b=some {o with slots:=sl}:=fun b o e hb=>by
    obtain ⟨_,o',e',hn⟩:=frame b hb
    rw [e] at e'
    cases e'
    exact us b o e hn
  have nold:∀b o,s.heap.get? b=some o→b∉hold:=fun b o e z=>by rw [(hh b z).2] at e;cases e
  have nL:∀b o,s.heap.get? b=some o→b∉frs outer→b∉frs (envOfC qual scope s.heap.objs.size f cd::outer):=fun b o e n z=>by
    rw [frL] at z
    rcases List.mem_cons.mp z with rfl|z
    · rw [hL] at e;cases e
    · exact n z
  obtain ⟨f1,f2,f3,oe,vs,T,oT,ts,he,⟨hc,h0⟩,hd,h1,hnT,hTe,hT,hdT,h3T⟩:=fl
  have hTfr:T∉frs (envOfC qual scope s.heap.objs.size f cd::outer):=fun z=>by
    obtain ⟨_,o',e',hn⟩:=frame T z
    obtain ⟨sl,e2⟩:=us T o' e' hn
    rw [hT] at e2
    cases e2
    exact hn _ hdT
  have tT:H1 T=none∧s.heap.get? T=none:=by
    by_cases hz:T∈hold
    · exact hh T hz
    · have n2:s2.heap.get? T=none:=by
        cases q:s2.heap.get? T with
        | none=>rfl
        | some o =>
          rw [PySem.W.hideAll_get _ q fun z=>(List.mem_append.mp z).elim hz hTfr] at hnT
          cases hnT
      refine ⟨zfm I.hok n2,?_⟩
      cases q:s.heap.get? T with
      | none=>rfl
      | some o =>
        obtain ⟨o',e'⟩:=I.base.there T o q (by exact List.not_mem_nil)
        rw [n2] at e'
        cases e'
  refine ⟨a,C,T,H1,rfl,ho.trans I.os,?_,?_,?_,?_,na.1,tT.1,na.2,tT.2,q⟩
  · rw [hg];exact I.bare
  · rw [h3]
    refine ⟨fun b o e n hf hx=>?_,fun b o e n hf hx=>?_,fun b o e n hx=>I.base.free b o e n (by exact List.not_mem_nil),fun b o e hx=>?_,I.base.tups,I.base.frzs,I.base.tbls⟩
    · exact keep b o (I.base.keep b o e n hf (by exact List.not_mem_nil)) (nold b o e) (nL b o e hf)
    · obtain ⟨sl,e1⟩:=I.base.slot b o e n hf (by exact List.not_mem_nil)
      obtain ⟨sl',e2⟩:=slot b _ e1 (by rw [frL];exact .tail _ hf)
      exact ⟨sl',e2⟩
    · obtain ⟨o',e1⟩:=I.base.there b o e (by exact List.not_mem_nil)
      by_cases hb:b∈frs (envOfC qual scope s.heap.objs.size f cd::outer)
      · obtain ⟨sl,e2⟩:=slot b _ e1 hb
        exact ⟨_,e2⟩
      · exact ⟨_,keep b _ e1 (nold b o e) hb⟩
  · rw [h3]
    intro b o e
    refine (I.hok b o e).stay (fun c u hc q=>?_) (fun _ q=>q) fun _ _ q=>q
    have hcH:H1 c≠none:=by
      rcases hc with rfl|z
      · rw [e];simp
      · rw [z];simp
    exact keep c u q (fun z=>hcH (hh c z).1) fun z=>hcH (frame c z).1
  · rw [h3]
    exact ⟨hTe,⟨oe,vs,a0,he,hc,hd,h0,h1⟩,⟨oT,ts,hT,hdT,h3T⟩⟩
theorem zp9:Passes (CX1 P w) (cxOf (CX1 P w) P w K mg base N qual scope f cd A outer s H E) E:=by
  rintro pins σ H1 s1 e s' I ⟨a,C,T,H',he,hos,hb,u,hok,fly,ha,hT,na,nT,z⟩
  subst he
  have I':=I.call' hos u hok hb fun _ z=>nomatch z
  have all:=ze3 I'
  have old:∀b,s1.heap.get? b=none→s.heap.get? b=none:=fun b e=>by
    cases q:s.heap.get? b with
    | none=>rfl
    | some o =>
      obtain ⟨o',e'⟩:=I.base.there b o q (by exact List.not_mem_nil)
      rw [e] at e'
      cases e'
  obtain ⟨oe,vs,a0,e1,e2,e3,e4,e5⟩:=fly.exc
  obtain ⟨oT,ts,t1,t2,t3⟩:=fly.tb
  have hl:∀env∈(envOfC qual scope s.heap.objs.size f cd::outer),∀b,env.frame=some b→b∈[a,T]++frs (envOfC qual scope s.heap.objs.size f cd::outer):=fun env he b hb=>List.mem_append_right _ (List.mem_filterMap.mpr ⟨env,he,hb⟩)
  show wpAny _ _ (leaving (envOfC qual scope s.heap.objs.size f cd) (.ref a)) _ _ s'
  refine wpAny_leaves_onW (base:=PySem.W.hideAll s'.heap ([a,T]++frs (envOfC qual scope s.heap.objs.size f cd::outer))) I'.ok.frames rfl ⟨fun b o q=>PySem.W.of_hideAll _ q,PySem.W.hideAll_none _ (by simp),PySem.W.funFrames_hide all hl,
    oe,vs,T,oT,ts,e1,⟨e2,e4⟩,e3,e5,PySem.W.hideAll_none _ (by simp),fly.ne,t1,t2,t3⟩ fun h' x1 x2=>?_
  refine zpk [a,T] I' (fun b hb=>?_) ⟨ha,old a na⟩ x1 x2 z rfl rfl rfl
  rcases List.mem_cons.mp hb with rfl|hb
  · exact ⟨ha,old b na⟩
  · rcases List.mem_cons.mp hb with rfl|hb
    · exact ⟨hT,old b nT⟩
    · cases hb
theorem leave_new {args:List Value} {s3:Shared} {e:Addr} (I:Inv (cxOf (CX1 P w) P w K mg base N qual scope f cd A outer s H E) pins σ H1 s2) (hx:Heap.MadeExcOf s2.heap s3.heap e (.ref C) args) (ho:s3.os=s2.os) (hg:s3.gens=s2.gens) (q:E (.ref C) (some e) H1) :
    (cxOf (CX1 P w) P w K mg base N qual scope f cd A outer s H E).xe (.ref e) s3:=by
  have all:=ze3 I
  have hl:∀env∈(envOfC qual scope s.heap.objs.size f cd::outer),∀b,env.frame=some b→b∈[]++frs (envOfC qual scope s.heap.objs.size f cd::outer):=fun env he b hb=>List.mem_append_right _ (List.mem_filterMap.mpr ⟨env,he,hb⟩)
  show wpAny _ _ (leaving (envOfC qual scope s.heap.objs.size f cd) (.ref e)) _ _ s3
  refine wpAny_leaves_madeW (base:=PySem.W.hideAll s2.heap ([]++frs (envOfC qual scope s.heap.objs.size f cd::outer))) (h:=s2.heap) I.ok.frames rfl (fun b o q=>PySem.W.of_hideAll _ q) (PySem.W.funFrames_hide all hl) hx fun h' t x1 _ _ x4=>?_
  refine zpk [] I (fun b hb=>nomatch hb) ⟨zfm I.hok hx.new,?_⟩ x1 ((Heap.UpToSlots.of_keeps hx.keeps).trans x4) q rfl ho hg
  cases q:s.heap.get? e with
  | none=>rfl
  | some o =>
    obtain ⟨o',e'⟩:=I.base.there e o q (by exact List.not_mem_nil)
    rw [hx.new] at e'
    cases e'
end
end E3
namespace E3
open PySem PySem.Spec PyProof.Rows L2 EE
section
variable {P:Program} {w:World} {K:PySem.W.Frag} {mg:Str→Option Value} {base:Heap} {x:Str} {st:Stmt} {N ps:List Str} {k:Nat}
noncomputable def zxE {f:Addr} {cdv:Value} {A:Around} {outer:List Env} {s:Shared} {H:Hp} {E:XK} {scope:Scope} (Z:Zt) (W:X3) (o:Kp Z Z.base H) (ce:CE3 K Z H W E):ZX (cxOf (CX1 P w) P w K mg base N x scope f cdv A outer s H E) (fun _=>W) where
  z:=Z.at H
  E:=fun _=>E
  pass:=fun τ pins H s e s' I q=>zp9 pins τ H s e s' I q
  rz:=fun _ _ _ _ _ _ _ _ I hx ho hg q=>leave_new I hx ho hg q
  ce:=fun _ _ C a S H' _ l ha q=>ce C a S H' (l.old.unhide fun _ z=>z) ⟨l.obj,l.hid,o.trans (l.old.unhide fun _ z=>z)⟩ ha q
theorem _root_.EE.Has.cal3x {sp:Sp3} (h:Has K mg x st ps) (S:FnScope N ps (defScope st)) (len:∀vs H Q E,sp vs H Q E→vs.length=ps.length)
    (hbody:∀(f:Addr) (cdv:Value) (A:Around) (outer:List Env) (s:Shared) (H:Hp) (E:XK) (ds:List D) (S:Hp3) (Q:K3) (W:X3),Room k (A.deeper (envOfC x (defScope st) s.heap.objs.size f cdv))→sp ds S Q W →
      ∃t Q' W',PSs3 (cxOf (CX1 P w) P w K mg base N x (defScope st) f cdv A outer s H E) (fun _=>W') (defBody st) t∧t {nx:=fun _ S'=>Q' .non S',rt:=Q'} (start3 N ds) S∧(∀d S',Q' d S'→Q d S')∧∀C a S',W' C a S'→W C a S'):Cal3 P w K mg base (k+1) x ps sp:=by
  obtain ⟨f,fd,F,b,m⟩:=h.ex
  obtain ⟨oc,od,kV,doc,pm,an,cdv,ct,osl,rfl,lk,hcd⟩:=F.ex
  refine ⟨f,_,zm3 lk hcd S (fun vs H Q E z_1=>by obtain ⟨Z,ds,S,Q3,E3,h1,_,h3,_,_⟩:=z_1;rw [←h1.len];exact len _ _ _ _ h3) fun A outer s H vs Q E hr ⟨Z,ds,S3,Q3,E3,h1,h2,h3,h4,h5⟩=>?_,b,F.kp,m⟩
  obtain ⟨t,Q',W',ht,q,hw,hx⟩:=hbody f cdv A outer s H E ds S3 Q3 E3 hr h3
  refine ⟨_,ht (zxE Z W' h2.old fun C a S' H' kk l ha z=>h5 C a S' H' kk l ha (hx _ _ _ z)),_,start3 N ds,S3,?_,h2.into,q,⟨?_,?_,?_,?_⟩⟩
  · unfold start3 L2.start
    rw [h1.len]
    exact zbq (SR.ofRps h1) (SR.nones _)
  · intro σ S' τ H' kk _ l q'
    exact h4 .non S' .non H' (kk.unhide fun _ z=>z) .non (l.out h2 kk) (hw _ _ q')
  · exact fun _ _ _ _ _ _ _ z=>z
  · exact fun _ _ _ _ _ _ _ z=>z
  · exact fun d S' v H' kk r l q'=>h4 d S' v H' (kk.unhide fun _ z=>z) r (l.out h2 kk) (hw _ _ q')
def vX (A:List D→(D→Prop)→(Addr→Prop)→Prop):Sp3:=fun ds S Q W=>A ds (fun d=>Q d S) fun C=>∀a,W C a S
theorem _root_.EE.Has.valX {A:List D→(D→Prop)→(Addr→Prop)→Prop} (h:Has K mg x st ps) (S:FnScope N ps (defScope st)) (len:∀ds q qx,A ds q qx→ds.length=ps.length)
    (hbody:∀(f:Addr) (cdv:Value) (Ar:Around) (outer:List Env) (s:Shared) (H:Hp) (E:XK) (ds:List D) (q:D→Prop) (qx:Addr→Prop),Room k (Ar.deeper (envOfC x (defScope st) s.heap.objs.size f cdv))→A ds q qx →
      ∃t,PSs3 (cxOf (CX1 P w) P w K mg base N x (defScope st) f cdv Ar outer s H E) (fun _ C _ _=>qx C) (defBody st) t∧t {nx:=fun _ _=>q .non,rt:=fun d _=>q d} (start3 N ds) emp):Cal3 P w K mg base (k+1) x ps (vX A):=by
  have C:Cal3 P w K mg base (k+1) x ps (fun ds S Q E=>S=emp∧∃q qx,A ds q qx∧(∀d S',q d→Q d S')∧∀C a S',qx C→E C a S'):=by
    refine h.cal3x S (fun vs H Q E z_2=>by obtain ⟨_,q,qx,z,_⟩:=z_2;exact len _ _ _ z) fun f cdv Ar outer s H E ds S3 Q E3 hr z=>?_
    obtain ⟨rfl,q,qx,z,hq,hx⟩:=z
    obtain ⟨t,h1,h2⟩:=hbody f cdv Ar outer s H E ds _ _ hr z
    exact ⟨t,fun d _=>q d,fun C _ _=>qx C,h1,h2,hq,hx⟩
  exact C.frame.imp fun ds S Q E z=>⟨emp,S,zg1 S,rfl,_,_,z,fun d S1 hq=>⟨emp,zgy _,fun S' h=>zds h▸hq⟩,fun C a S1 hx=>⟨emp,zgy _,fun S' h=>zds h▸hx a⟩⟩
theorem pown {qual:Str} {scope:Scope} {f:Addr} {cd:Value} {A:Around} {outer:List Env} {s:Shared} {H:Hp} {E:XK} :
    PassesOwn (model P w) (cxOf (CX1 P w) P w K mg base N qual scope f cd A outer s H E).A (cxOf (CX1 P w) P w K mg base N qual scope f cd A outer s H E).env (cxOf (CX1 P w) P w K mg base N qual scope f cd A outer s H E).xe:=PassesOwn.leaving
end
end E3
namespace E3
open PySem PySem.Spec PyProof.Rows L2 EE
noncomputable abbrev bmVE:List Value:=[.type "ValueError",.type "Exception",.type "BaseException",.type "object"]
theorem zqm {K:PySem.W.Frag} {h:Heap} {C:Addr} {bmB:List Value} {newId:String} (X:K.In h) (q:PySem.W.excIn K C bmB newId=true) :
    ∃bm N nm qn bs hdct sn sub ab col dd q0 q1 q2 q3 q5 mN,h.get? C=some (excClassObj nm qn C N bs bm hdct sn sub ab col dd q0 q1 q2 q3 q5 newId)∧h.Ns N mN∧mN "__init__"=none∧OwnTail h bmB bm:=by
  unfold PySem.W.excIn at q
  split at q
  · rename_i dd cd sl ho
    split at q
    · rename_i Ca bm q0 q1 q2 q3 n q5 hmr hsz
      simp only [Bool.and_eq_true,beq_iff_eq,Bool.not_eq_true'] at q
      obtain ⟨⟨⟨⟨⟨rfl,rfl⟩,hde⟩,ht⟩,hns⟩,hin⟩:=q
      obtain ⟨nm,bs,mro,ns,qn,hd,sn,sub,ab,col,del⟩:=cd
      dsimp only at hmr hde hns hin
      subst hmr hde
      have hsa:sl=#[q0,q1,q2,q3,some (.builtin n),q5]:=by
        obtain ⟨l⟩:=sl
        simp only at hsz
        rw [hsz]
      subst hsa
      exact ⟨bm,ns,nm,qn,bs,hd,sn,sub,ab,col,dd,q0,q1,q2,q3,q5,_,X _ _ ho,.of_isNs (PySem.W.isNs_of_in X hns),PySem.W.nsMap_none_of_in X hns hin,PySem.W.tail_of_in X ht⟩
    · cases q
  · cases q
section
variable {X:Cx} {x:Str} {C:Addr} {np cpos pos:Pos} {e:Expr} {es:List Expr}
theorem znx {ta:TA} {E:L2.St→XK} (hm:X.mg x=some (.ref C)) (q:PySem.W.excIn X.K C bmVE "ValueError.__new__"=true) (hc:X.calm=true) (hg:Gl X x) (rz:∀τ,RaisesAt X (E τ) τ) (ha:PA X (e::es) ta)
    (hd:(x==("__debug__":Str))=false:=by decide) (he:starEach (e::es) X.env=(false,eval e X.env)::starEach es X.env:=by rfl) (hpl:(backTo cpos (starEach es X.env)).any (·.1)=false:=by rfl) :
    PS X (.Raise (some (.Call (.Name x np) (e::es) [] cpos)) none pos) (fun _ τ H=>ta τ H fun vs H1=>vs.length≤sizeLine∧∀a,H1 a=none→E τ (.ref C) (some a) H1):=by
  intro pins s σ H D I h
  obtain ⟨bm,N,nm,qn,bs,hdct,sn,sub,ab,col,dd,k0,k1,k2,k3,k5,mN,hC,hN,hni,T⟩:=zqm I.mod.kin q
  refine wpAny_Raise_call_subT (C:=C) (nm:=nm) (q:=qn) (N:=N) (bs:=bs) (bm:=bm) (hdct:=hdct) (sn:=sn) (sub:=sub) (ab:=ab) (col:=col) (dd:=dd) (k0:=k0) (k1:=k1) (k2:=k2) (k3:=k3) (k5:=k5)
    PySem.F.excBase_ValueError (mN:=mN) (T.hasType PySem.F.excBase_ValueError.hasBase) (I.ok.hd hc) (by rw [he];show (false||(backTo cpos (starEach es X.env)).any (·.1))=false;rw [hpl];rfl) hni (zf3 I hg hm ⟨rfl,?_⟩ hd)
  have h1:=ha cpos pins s σ H _ I h
  rw [he] at h1 ⊢
  refine Calls.evalArgs_plain (wpAny_mono h1 (fun us s1 ⟨vs,H1,I1,r,hl,z⟩=>?_) fun _ _ y=>y)
  have keep:∀b o,X.base.get? b=some o→s1.heap.get? b=some o:=I1.bk
  refine ⟨rfl,by show us.length≤sizeLine;rw [←r.length];exact hl,keep _ _ hC,hN.keeps keep,T.keeps keep,fun h' a hx=>?_⟩
  exact rz σ pins H1 s1 _ a C us I1 hx rfl rfl (z a (zfm I1.hok hx.new))
def raise3 (W3:W3T) (C:Addr) (ta:TA3):TS3:=fun _ σ S=>ta σ S fun ds S1=>ds.length≤sizeLine∧∀a,W3 σ C a S1
variable {W3:W3T}
theorem zey {ta:TA3} (hm:X.mg x=some (.ref C)) (q:PySem.W.excIn X.K C bmVE "ValueError.__new__"=true) (hc:X.calm=true) (hg:Gl X x) (ha:PA3 X W3 (e::es) ta)
    (hd:(x==("__debug__":Str))=false:=by decide) (he:starEach (e::es) X.env=(false,eval e X.env)::starEach es X.env:=by rfl) (hpl:(backTo cpos (starEach es X.env)).any (·.1)=false:=by rfl) :
    PS3 X W3 (.Raise (some (.Call (.Name x np) (e::es) [] cpos)) none pos) (raise3 W3 C ta):=fun Z=>PS.imp (znx hm q hc hg Z.rz (ha Z) hd he hpl) fun D τ H z_1=>by obtain ⟨D3,σ,S,hs,hr,ht,hcd⟩:=z_1;exact 
  ⟨σ,S,_,hs,hr,ht,fun ds S1 vs H1 k1 r1 l1 q1=>⟨by rw [←r1.len];exact q1.1,fun a ha=>Z.ce σ τ C a S1 H1 (hs.mono k1) l1 ha (q1.2 a)⟩⟩
def Fmt:D→Str→Prop
  | .str y,z=>z=y∧y.length≤sizeLine
  | .int a,z=>z=toString a∧a.natAbs.log2<1920
  | _,_=>False
def fmt3 (te:TE3):TE3:=fun σ S Q=>te σ S fun d S1=>∃y,Fmt d y∧Q (.str y) S1
theorem e_fmt {te:TE3} (he:PE3 X W3 e te):PE3 X W3 (.FormattedValue e (-1) none pos) (fmt3 te):=by
  rintro Z pins s τ H Q I ⟨σ,S,Q3,hs,hr,ht,hc⟩
  refine wpAny_FormattedValue_plain (wpAny_mono (he Z pins s τ H (fun v H1=>∃y,(v=.str y∧y.length≤sizeLine∨∃a:Int,v=.int a∧y=toString a∧a.natAbs.log2<1920)∧Q (.str y) H1) I ⟨σ,S,_,hs,hr,ht,fun d S1 v H1 k1 r1 l1 q1=>?_⟩) (fun u s1 z=>?_) fun _ _ y=>y)
  · obtain ⟨y,f,q⟩:=q1
    cases r1 with
    | str x=>obtain ⟨rfl,hl⟩:=f;exact ⟨_,.inl ⟨rfl,hl⟩,hc _ S1 _ H1 k1 (.str _) l1 q⟩
    | int a=>obtain ⟨rfl,hl⟩:=f;exact ⟨_,.inr ⟨a,rfl,rfl,hl⟩,hc _ S1 _ H1 k1 (.str _) l1 q⟩
    | _=>exact f.elim
  · obtain ⟨v,H1,I1,r,y,hv,q⟩:=z
    rcases hv with ⟨rfl,hl⟩|⟨a,rfl,rfl,hl⟩
    · obtain ⟨t,rfl⟩:=r
      exact wpAny_formatField_str ⟨.str y,H1,I1,⟨_,rfl⟩,q⟩ ⟨.str y,H1,I1.tok _,⟨_,rfl⟩,q⟩ hl
    · obtain ⟨t,rfl⟩:=r
      exact wpAny_formatField_int hl ⟨.str _,H1,I1.tok _,⟨_,rfl⟩,q⟩
def PF3 (X:Cx) (W3:W3T) (es:List Expr) (t:Str→TE3):Prop:=∀(Z:ZX X W3) (pins:List (Addr×Obj)) (s:Shared) (τ:L2.St) (H:Hp) (Q:VK) (acc:Str),Inv X pins τ H s→lE X.K Z.z (t acc) τ H Q →
  Joins (model X.prog X.w) X.A X.xe (evalEach es X.env) acc (fun out s1=>out.length≤sizeLine∧∃H1,Inv X pins τ H1 s1∧Q (.str out) H1) s
def fnil3 (acc:Str):TE3:=fun _ S Q=>acc.length≤sizeLine∧Q (.str acc) S
def fcons3 (te:TE3) (t:Str→TE3) (acc:Str):TE3:=fun σ S Q=>te σ S fun d S1=>∃y,d=.str y∧(acc++y).length≤sizeLine∧t (acc++y) σ S1 Q
theorem f_nil:PF3 X W3 [] fnil3:=fun Z pins s τ H Q acc I z_2=>by obtain ⟨σ,S,Q3,hs,hr,ht,hc⟩:=z_2;exact ⟨ht.1,H,I,hc _ S _ H (Kp.refl _ _) (.str _) hr ht.2⟩
theorem ziv {te:TE3} {t:Str→TE3} (he:PE3 X W3 e te) (ht:PF3 X W3 es t):PF3 X W3 (e::es) (fcons3 te t):=by
  rintro Z pins s τ H Q acc I ⟨σ,S,Q3,hs,hr,h,hc⟩
  refine wpAny_mono (he Z pins s τ H (fun v H1=>∃y,v=.str y∧(acc++y).length≤sizeLine∧lE X.K Z.z (t (acc++y)) τ H1 Q) I ⟨σ,S,_,hs,hr,h,fun d S1 v H1 k1 r1 l1 q1=>?_⟩) (fun u s1 z=>?_) fun _ _ y=>y
  · obtain ⟨y,rfl,hl,q⟩:=q1
    cases r1
    exact ⟨y,rfl,hl,σ,S1,Q3,hs.mono k1,l1,q,hc.mono k1⟩
  · obtain ⟨v,H1,I1,r,y,rfl,hl,q⟩:=z
    obtain ⟨t',rfl⟩:=r
    exact ⟨y,t',rfl,hl,ht Z pins s1 τ H1 Q _ I1 q⟩
theorem zpd {e2:Expr} {t:Str→TE3} (h:PF3 X W3 (e::e2::es) t):PE3 X W3 (.JoinedStr (e::e2::es) pos) (t Str.empty):=by
  intro Z pins s τ H Q I hq
  have j:=h Z pins s τ H Q _ I hq
  refine wpAny_JoinedStr ?_
  have mono:∀(l:List (Sem Value)) (acc:Str) (s:Shared) {R R':Str→Shared→Prop},(∀o s,R o s→R' o s)→Joins (model X.prog X.w) X.A X.xe l acc R s→Joins (model X.prog X.w) X.A X.xe l acc R' s:=by
    intro l
    induction l with
    | nil=>exact fun acc s R R' f q=>f _ _ q
    | cons a l ih=>exact fun acc s R R' f q=>wpAny_mono q (fun v s1 z_3=>by obtain ⟨y,t,e,hl,z⟩:=z_3;exact ⟨y,t,e,hl,ih _ _ f z⟩) fun _ _ z=>z
  exact mono _ _ _ (fun o s1 z_4=>by obtain ⟨hl,H1,I1,q⟩:=z_4;exact ⟨hl,.str o,H1,I1.tok _,⟨_,rfl⟩,q⟩) j
end
section
variable {σ:St3} {S:Hp3} {Q:K3} {te:TE3} {al:TA3} {n b c:St3→Hp3→Prop} {rt:K3} {W3:W3T} {C:Addr}
theorem j_raise (h:al σ S fun ds S1=>ds.length≤sizeLine∧∀a,W3 σ C a S1):raise3 W3 C al ⟨n,rt,b,c⟩ σ S:=h
theorem j_fmt (h:te σ S fun d S1=>∃y,Fmt d y∧Q (.str y) S1):fmt3 te σ S Q:=h
theorem j_fmtS {y:Str} {P:Str→Prop} (hl:y.length≤sizeLine) (q:P y):∃z,Fmt (.str y) z∧P z:=⟨y,⟨rfl,hl⟩,q⟩
theorem j_fnil {acc:Str} (hl:acc.length≤sizeLine) (q:Q (.str acc) S):fnil3 acc σ S Q:=⟨hl,q⟩
theorem j_fcons {t:Str→TE3} {acc:Str} (h:te σ S fun d S1=>∃y,d=.str y∧(acc++y).length≤sizeLine∧t (acc++y) σ S1 Q):fcons3 te t acc σ S Q:=h
end
end E3
namespace E3
open PySem PySem.Spec PyProof.Rows L2 EE
noncomputable abbrev _root_.L2.Cx.caught (X:Cx) (v:Value):Cx:={X with A:=X.A.mark (some v),calm:=false,xe:=fun _ _=>False}
noncomputable abbrev _root_.L2.Cx.tried (X:Cx) (xe:Value→Shared→Prop) (pn:List (Addr×Obj)):Cx:={X with xe:=xe,pn:=pn}
section
variable {X:Cx} {pins pn:List (Addr×Obj)} {τ:L2.St} {H H1:Hp} {s s1:Shared} {a C:Addr} {v:Value} {xe:Value→Shared→Prop}
theorem zmi (ok:X.Ok):(X.caught v).Ok:=⟨ok.mod,ok.kind,ok.glob,ok.blt,ok.above,ok.inj,ok.has,ok.cab,(fun z=>nomatch z),ok.frames,ok.stk,ok.exf,ok.bs,ok.bsz,ok.noex,ok.exfs,ok.funs,ok.frf⟩
theorem zod (ok:X.Ok):(X.tried xe pn).Ok:=⟨ok.mod,ok.kind,ok.glob,ok.blt,ok.above,ok.inj,ok.has,ok.cab,ok.hd,ok.frames,ok.stk,ok.exf,ok.bs,ok.bsz,ok.noex,ok.exfs,ok.funs,ok.frf⟩
theorem zgo (I:Inv X pins τ H s):Inv (X.caught v) pins τ H s:=⟨zmi I.ok,I.os,I.bare,I.base,I.loc,I.cell,I.free,I.freeC,I.pin,I.hok,I.len⟩
theorem zcy (ok:X.Ok) (I:Inv (X.caught v) pins τ H s):Inv X pins τ H s:=⟨ok,I.os,I.bare,I.base,I.loc,I.cell,I.free,I.freeC,I.pin,I.hok,I.len⟩
theorem zmw (I:Inv X pins τ H s):Inv (X.tried xe (X.pn++pins)) [] τ H s:=⟨zod I.ok,I.os,I.bare,I.base,I.loc,I.cell,I.free,I.freeC,fun p hp=>I.pin p (by simpa using hp),I.hok,I.len⟩
theorem zb9 {pins':List (Addr×Obj)} (ok:X.Ok) (I:Inv (X.tried xe (X.pn++pins)) pins' τ H s):Inv X pins τ H s:=⟨ok,I.os,I.bare,I.base,I.loc,I.cell,I.free,I.freeC,fun p hp=>I.pin p (List.mem_append_left _ hp),I.hok,I.len⟩
theorem zk2 {D:Ends} {f:Flow} (ok:X.Ok) (h:SP (X.tried xe (X.pn++pins)) [] D f s):SP X pins D f s:=by
  cases f with
  | next=>obtain ⟨σ',H',I,q⟩:=h;exact ⟨σ',H',zb9 ok I,q⟩
  | brk=>obtain ⟨σ',H',I,q⟩:=h;exact ⟨σ',H',zb9 ok I,q⟩
  | cont=>obtain ⟨σ',H',I,q⟩:=h;exact ⟨σ',H',zb9 ok I,q⟩
  | ret u=>obtain ⟨v,σ',H',I,r,q⟩:=h;exact ⟨v,σ',H',zb9 ok I,r,q⟩
structure Hld (X:Cx) (pins:List (Addr×Obj)) (τ:L2.St) (H:Hp) (a C:Addr) (s:Shared):Prop where
  ex:∃(s1:Shared) (H1:Hp) (g:Heap) (hold:List Addr) (a0:Value),Inv X pins τ H1 s1∧Un (frs X.stack) [] H1 H s1.heap g∧HOk X.prog X.w H g∧(∀b∈hold,H b=none∧s1.heap.get? b=none)∧(H a=none∧s1.heap.get? a=none) ∧
    Heap.FlyingW (PySem.W.hideAll g (hold++frs X.stack)) X.stack a (.ref C) a0 s.heap∧g.UpToSlots s.heap∧s.os=s1.os∧AllBare s.gens
theorem Hld.exc (h:Hld X pins τ H a C s):∃o vs,s.heap.get? a=some o∧o.cls=.ref C∧o.data=.fields vs:=by
  obtain ⟨s1,H1,g,hold,a0,I,u,ok,hh,na,fl,us,ho,hb⟩:=h.ex
  obtain ⟨oe,vs,h1,h2,h3,h4⟩:=fl.first
  exact ⟨oe,vs,h1,h2,h3⟩
theorem Hld.no (h:Hld X pins τ H a C s):H a=none:=by
  obtain ⟨s1,H1,g,hold,a0,I,u,ok,hh,na,fl,us,ho,hb⟩:=h.ex
  exact na.1
theorem Hld.un (h:Hld X pins τ H a C s) (o:Option HO) (hO:∀q,o=some q→ObjOk X.prog X.w (upd H a q) s.heap a q):Inv X pins τ (match o with|some q=>upd H a q|none=>H) s:=by
  obtain ⟨s1,H1,g,hold,a0,I,u,ok,hh,na,fl,us,ho,hb⟩:=h.ex
  have I':s.heap=s.heap:=rfl
  have fr:∀b∈frs X.stack,H b=none∧∃o,g.get? b=some o∧∀vs,o.data≠.fields vs:=by
    intro b hb
    obtain ⟨o,e,hn⟩:=(I.stack.mem hb).2
    obtain ⟨sl,e'⟩:=u.slot b o e (I.stkFree b hb) hb (by exact List.not_mem_nil)
    exact ⟨u.free b o e (I.stkFree b hb) (by exact List.not_mem_nil),_,e',hn⟩
  have keep:∀b o,g.get? b=some o→b∉hold→b∉frs X.stack→s.heap.get? b=some o:=fun b o e n1 n2=>fl.1 b o (PySem.W.hideAll_get _ e fun z=>(List.mem_append.mp z).elim n1 n2)
  have slot:∀b o,g.get? b=some o→b∈frs X.stack→∃sl,s.heap.get? b=some {o with slots:=sl}:=fun b o e hb=>by
    obtain ⟨_,o',e',hn⟩:=fr b hb
    rw [e] at e'
    cases e'
    exact us b o e hn
  have nold:∀b o,s1.heap.get? b=some o→b∉hold:=fun b o e z=>by rw [(hh b z).2] at e;cases e
  have na':∀b o,s1.heap.get? b=some o→b≠a:=fun b o e z=>by rw [z,na.2] at e;cases e
  have un:Un (frs X.stack) [] H1 H s1.heap s.heap:=by
    refine ⟨fun b o e n hf hx=>?_,fun b o e n hf hx=>?_,u.free,fun b o e hx=>?_,u.tups,u.frzs,u.tbls⟩
    · exact keep b o (u.keep b o e n hf hx) (nold b o e) hf
    · obtain ⟨sl,e1⟩:=u.slot b o e n hf hx
      obtain ⟨sl',e2⟩:=slot b _ e1 hf
      exact ⟨sl',e2⟩
    · obtain ⟨o',e1⟩:=u.there b o e hx
      by_cases hb:b∈frs X.stack
      · obtain ⟨sl,e2⟩:=slot b _ e1 hb
        exact ⟨_,e2⟩
      · exact ⟨_,keep b _ e1 (nold b o e) hb⟩
  have hok:HOk X.prog X.w H s.heap:=by
    intro b o e
    refine (ok b o e).stay (fun c u hc q=>?_) (fun _ q=>q) fun _ _ q=>q
    have hcH:H c≠Option.none:=by
      rcases hc with rfl|z
      · rw [e];simp
      · rw [z];simp
    exact keep c u q (fun z=>hcH (hh c z).1) fun z=>hcH (fr c z).1
  cases o with
  | none=>exact I.call' ho un hok hb fun _ z=>nomatch z
  | some q =>
    have n1:∀b o,H b=some o→b≠a:=fun b o e z=>by rw [z,na.1] at e;cases e
    refine I.call' ho ⟨un.keep,un.slot,fun b o e n hx=>?_,un.there,fun b xs e=>?_,fun b o u e=>?_,fun b ps e=>?_⟩ (fun b o e=>?_) hb fun _ z=>nomatch z
    · show upd H a q b=Option.none
      rw [zar (na' b o e)]
      exact un.free b o e n hx
    · show upd H a q b=_
      rw [zar (n1 b _ (un.tups b xs e))]
      exact un.tups b xs e
    · show upd H a q b=_
      rw [zar (n1 b _ (un.frzs b o u e))]
      exact un.frzs b o u e
    · obtain ⟨more,e1⟩:=un.tbls b ps e
      refine ⟨more,?_⟩
      show upd H a q b=_
      rw [zar (n1 b _ e1)]
      exact e1
    · have e:upd H a q b=some o:=e
      by_cases hb:b=a
      · subst hb
        rw [za9] at e
        cases e
        exact hO _ rfl
      · rw [zar hb] at e
        refine (hok b o e).stay (fun c u hc q=>q) (fun c z=>?_) fun c xs z=>?_
        · show upd H a q c=_
          rw [zar (n1 c _ z)]
          exact z
        · show upd H a q c=_
          rw [zar (n1 c _ z)]
          exact z
theorem Hld.inv (h:Hld X pins τ H a C s):Inv X pins τ H s:=h.un none fun _ z=>nomatch z
theorem Hld.as (h:Hld X pins τ H a C s):Inv X pins τ (upd H a (.ext (ExcOf a C))) s:=by
  obtain ⟨o,vs,h1,h2,h3⟩:=h.exc
  refine h.un (some _) fun q e=>?_
  cases e
  refine ⟨⟨o,h1,h2,vs,_,h3,rfl⟩,⟨o,h1⟩,fun h1 h2 z_1 k=>by obtain ⟨o,e,c,vs,n,d,hn⟩:=z_1;exact ⟨o,k o e,c,vs,n,d,hn⟩⟩
theorem Hld.lands {M:Model} {A:Around} {E:Value→Shared→Prop} {Q:Unit→Shared→Prop} (h:Hld X pins τ H a C s) (k:∀s',Hld X pins τ H a C s'→Q () s'):wpAny M A (setFlight (.ref a) none) Q E s:=by
  obtain ⟨s1,H1,g,hold,a0,I,u,ok,hh,na,fl,us,ho,hb⟩:=h.ex
  exact lands_againW fl fun h' fl' us'=>k _ ⟨s1,H1,g,hold,a0,I,u,ok,hh,na,fl',us.trans us',ho,hb⟩
theorem zmp {E:XK} {e:Value} {s':Shared} {M:Model} {Ex:Value→Shared→Prop} {Q:Unit→Shared→Prop} (hst:X.stack=X.env::X.outer) (hf:X.env.frame=some X.env.locals) (I:Inv X pins τ H1 s1) (cx:CX1 X.prog X.w X.stack H1 s1 E e s')
    (k:∀a C H s5,e=.ref a→E (.ref C) (some a) H→Hld X pins τ H a C s5→Q () s5) :
    wpAny M X.A (noteFrame e X.env) (fun _ s2=>wpAny M X.A (setFlight e none) Q Ex s2) Ex s':=by
  obtain ⟨a,C,T,H',he,hos,hb,u,hok,fly,ha,hT,na,nT,z⟩:=cx
  subst he
  have I':=I.call' hos u hok hb fun _ z=>nomatch z
  have all:=I'.stack
  obtain ⟨oe,vs,a0,e1,e2,e3,e4,e5⟩:=fly.exc
  obtain ⟨oT,ts,t1,t2,t3⟩:=fly.tb
  have hl:∀env∈X.stack,∀b,env.frame=some b→b∈[a,T]++frs X.stack:=fun env he b hb=>List.mem_append_right _ (List.mem_filterMap.mpr ⟨env,he,hb⟩)
  have fl:Heap.FlyingW (PySem.W.hideAll s'.heap ([a,T]++frs X.stack)) X.stack a (.ref C) a0 s'.heap:=⟨fun b o q=>PySem.W.of_hideAll _ q,PySem.W.hideAll_none _ (by simp),PySem.W.funFrames_hide all hl,
    oe,vs,T,oT,ts,e1,⟨e2,e4⟩,e3,e5,PySem.W.hideAll_none _ (by simp),fly.ne,t1,t2,t3⟩
  have fl':=fl
  rw [hst] at fl'
  refine wpAny_looks_onW (by rw [I.ok.frames,hst]) hf fl' fun h4 held us4=>?_
  refine wpAny_landsW held fun h5 fl5 us5=>?_
  rw [←hst] at fl5
  refine k a C H' _ rfl z ⟨s1,H1,s'.heap,[a,T],a0,I,u,hok,fun b hb=>?_,⟨ha,na⟩,fl5,us4.trans us5,hos,hb⟩
  rcases List.mem_cons.mp hb with rfl|hb
  · exact ⟨ha,na⟩
  · rcases List.mem_cons.mp hb with rfl|hb
    · exact ⟨hT,nT⟩
    · cases hb
theorem zle {args:List Value} {s3:Shared} {M:Model} {Ex:Value→Shared→Prop} {Q:Unit→Shared→Prop} (hst:X.stack=X.env::X.outer) (hf:X.env.frame=some X.env.locals) (I:Inv X pins τ H1 s1) (hx:Heap.MadeExcOf s1.heap s3.heap a (.ref C) args)
    (ho:s3.os=s1.os) (hg:s3.gens=s1.gens) (k:∀s5,Hld X pins τ H1 a C s5→Q () s5) :
    wpAny M X.A (noteFrame (.ref a) X.env) (fun _ s2=>wpAny M X.A (setFlight (.ref a) none) Q Ex s2) Ex s3:=by
  obtain ⟨t,he,htn,ht⟩:=hx.there
  have all:=I.stack
  have hl:∀env∈X.stack,∀b,env.frame=some b→b∈[]++frs X.stack:=fun env he b hb=>List.mem_append_right _ (List.mem_filterMap.mpr ⟨env,he,hb⟩)
  have ff:=PySem.W.funFrames_hide (as:=[]++frs X.stack) all hl
  have fresh:∀b,s1.heap.get? b=none→(PySem.W.hideAll s1.heap ([]++frs X.stack)).get? b=none:=fun b hb=>by
    cases q:(PySem.W.hideAll s1.heap ([]++frs X.stack)).get? b with
    | none=>rfl
    | some o=>have:=PySem.W.of_hideAll _ q;rw [hb] at this;cases this
  have ff':=ff
  rw [hst] at ff'
  unfold noteFrame
  simp only [hf]
  refine wpAny_bind (wpAny_field he rfl (x:=.none) rfl ?_)
  rw [if_neg (by decide)]
  refine wpAny_entryW (base:=PySem.W.hideAll s1.heap ([]++frs (X.env::X.outer))) (outer:=X.outer) (by rw [I.ok.frames,hst]) ?_ hf he (fun b o hb=>?_) ?_ rfl (by simp) (a0:=.ref t) rfl fun h4 ⟨n1,n2,n3,n4⟩=>?_
  · rw [←hst]
    exact ff.of_keeps fun b o hb _=>⟨o,hx.keeps b o hb,rfl⟩
  · rw [←hst] at hb
    exact hx.keeps b o (PySem.W.of_hideAll _ hb)
  · rw [←hst]
    exact fresh a hx.new
  · refine wpAny_landsW (base:=PySem.W.hideAll s1.heap ([]++frs (X.env::X.outer))) (l:=X.env::X.outer) (L:=X.env.locals) (cls:=.ref C) (a0:=.ref t) ⟨n1,by rw [←hst];exact fresh a hx.new,n2,n3⟩ fun h5 fl5 us5=>?_
    rw [←hst] at fl5
    have hbare:AllBare s3.gens:=by rw [hg];exact I.bare
    have hno:∀b∈([]:List Addr),H1 b=Option.none∧s1.heap.get? b=Option.none:=fun b hb=>absurd hb List.not_mem_nil
    exact k _ ⟨s1,H1,s1.heap,[],.ref t,I,Un.refl,I.hok,hno,⟨zfm I.hok hx.new,hx.new⟩,fl5,((Heap.UpToSlots.of_keeps hx.keeps).trans n4).trans us5,ho,hbare⟩
end
end E3
namespace E3
open PySem PySem.Spec PyProof.Rows L2 EE
theorem zjn {K:PySem.W.Frag} {M:Model} {A:Around} {E:Value→Shared→Prop} {s:Shared} {a C Dc:Addr} {o:Obj} {b:Bool} {Q:Bool→Shared→Prop} (X:K.In s.heap) (h1:s.heap.get? a=some o) (h2:o.cls=.ref C) (hk:PySem.W.kitCls K (.ref C) (.ref Dc)=some b)
    (hb:PySem.W.kitCls K (.ref Dc) (.type "BaseException")=some true) (q:Q b s):wpAny M A (excMatches (.ref a) (.ref Dc)) Q E s:=by
  obtain ⟨t1,t2,t3⟩:=PySem.W.kit_cls (M:=M) X hk
  obtain ⟨_,_,t4⟩:=PySem.W.kit_cls (M:=M) X hb
  have LI:PySem.W.Looks M s.heap (isInstance (.ref Dc) (.type "tuple")) false:=t1.andThen (PySem.W.Looks.of_pure tc_notTuple)
  have LE:PySem.W.Looks M s.heap (isExcClass (.ref Dc)) true:=t2.andThen (by simpa using t4)
  have LT:PySem.W.Looks M s.heap (typeOf (.ref a)) (.ref C):=h2▸(PySem.W.Looks.ld h1).andThen .now
  unfold excMatches
  refine wpAny_bind (LI.here ?_)
  rw [if_neg (by decide)]
  refine wpAny_bind (wpAny_pure ?_)
  dsimp only
  rw [List.forIn_cons]
  refine wpAny_bind (wpAny_bind (wpAny_bind (LE.here ?_)))
  rw [if_neg (by decide)]
  refine wpAny_pure ?_
  dsimp only
  rw [List.forIn_nil]
  refine wpAny_pure (wpAny_bind (LT.here ?_))
  rw [List.forIn_cons]
  refine wpAny_bind (wpAny_bind (wpAny_bind (t3.here ?_)))
  cases b
  · rw [if_neg (by decide)]
    refine wpAny_pure ?_
    dsimp only
    rw [List.forIn_nil]
    exact wpAny_pure (wpAny_pure q)
  · rw [if_pos rfl]
    exact wpAny_pure (wpAny_pure (wpAny_pure q))
section
variable {X:Cx} {W3:W3T} {pins:List (Addr×Obj)} {τ:L2.St} {H:Hp} {s:Shared}
theorem SR.setNone {K:PySem.W.Frag} {H:Hp}:∀{σ:St3} {τ:L2.St} (i:Nat),SR K H σ τ→SR K H (σ.set i none) (τ.set i none)
  | _,_,_,.nil=>.nil
  | _,_,0,.cons _ t=>.cons (fun e he=>by cases he) t
  | _,_,i+1,.cons q t=>.cons q (SR.setNone i t)
theorem name_goes {M:Model} {A:Around} {E:Value→Shared→Prop} {i:Nat} {x:Str} {pos:Pos} {Q:Unit→Shared→Prop} (I:Inv X pins τ H s) (hN:X.N.Nodup) (hi:X.N[i]?=some x) (hk:X.env.scope.names.lookup x=some .local) (h:∀s',Inv X pins (τ.set i none) H s'→Q () s') :
    wpAny M A (do bindName X.env x .none;unbindBehindTheSuite X.env x pos) Q E s:=by
  obtain ⟨m,hn,hl⟩:=id I.loc
  have hcls:(X.env.scope.kind == .class||(X.env.scope.kind == .module&&X.env.locals != X.env.globals))=false:=by rw [I.ok.kind];rfl
  obtain ⟨oL,_,_,hoL,_⟩:=id hn
  refine wpAny_nameGoes_keeps hk hn hcls fun h' v hn' hs=>h _ ?_
  have ne:∀b o,X.s₀.heap.get? b=some o→b≠X.env.locals:=fun b o e=>Nat.ne_of_lt (Nat.lt_of_lt_of_le (Heap.lt_size e) I.ok.above)
  refine ⟨I.ok,I.os,I.bare,⟨fun b o e n hb hx=>?_,fun b o e n hb hx=>?_,I.base.free,fun b o e hx=>?_,I.base.tups,I.base.frzs,I.base.tbls⟩,⟨_,hn',fun j y v' e1 e2 e3=>?_⟩,fun y c e=>?_,I.free,I.freeC,fun p hp=>?_,fun b ob e=>?_,by simpa using I.len⟩
  · exact (hs.2 b (ne b o e)).trans (I.base.keep b o e n hb hx)
  · obtain ⟨sl,e1⟩:=I.base.slot b o e n hb hx
    exact ⟨sl,(hs.2 b (ne b o e)).trans e1⟩
  · obtain ⟨o',e1⟩:=I.base.there b o e hx
    exact ⟨o',(hs.2 b (ne b o e)).trans e1⟩
  · by_cases hj:j=i
    · subst hj
      rw [List.getElem?_set] at e2
      simp at e2
    · rw [List.getElem?_set_ne (Ne.symm hj)] at e2
      obtain ⟨u',r',q⟩:=hl j y v' e1 e2 e3
      refine ⟨u',r',?_⟩
      rcases q with ⟨k,e⟩|⟨k,c,e,z⟩
      · refine .inl ⟨k,?_⟩
        have:y≠x:=fun e=>hj (zhj hN e1 (e▸hi))
        simp [this,e]
      · exact .inr ⟨k,c,e,z.sameBut hs (I.cne y c e)⟩
  · obtain ⟨w',z⟩:=I.cell y c e
    exact ⟨w',z.sameBut hs (I.cne y c e)⟩
  · obtain ⟨e,n,ne,nf,d⟩:=I.pin p hp
    exact ⟨(hs.2 p.1 ne).trans e,n,ne,nf,d⟩
  · refine (I.hok b ob e).stay (fun c w' hc q=>(hs.2 c ?_).trans q) (fun _ q=>q) fun _ _ q=>q
    rintro rfl
    have hfree:=I.free
    rcases hc with rfl|hc
    · rw [hfree] at e;cases e
    · rw [hfree] at hc;cases hc
def PH3 (X:Cx) (hs:List ExceptHandler) (r:Ends3→W3T):Prop:=∀(z:Zt) (pins:List (Addr×Obj)) (s:Shared) (τ:L2.St) (σ:St3) (H:Hp) (S:Hp3) (D:Ends) (D3:Ends3) (a C:Addr),Hld X pins τ H a C s→SR X.K H σ τ→Rl X.K z S H→CD X.K z H D3 D→r D3 σ C a S →
  wpAny (model X.prog X.w) X.A (handleBy (.ref a) X.env hs) (SP X pins D) X.xe s
theorem h_nil:PH3 X [] (fun _ _ _ _ _=>False):=fun _ _ _ _ _ _ _ _ _ _ _ _ _ _ _ h=>h.elim
def hAs (K:PySem.W.Frag) (Dc:Addr) (i:Nat) (t:TS3) (r:Ends3→W3T):Ends3→W3T:=fun D3 σ C a S=>∃b,PySem.W.kitCls K (.ref C) (.ref Dc)=some b ∧
  if b=true then S a=none→t {nx:=fun σ' S'=>D3.nx (σ'.set i none) S',rt:=D3.rt,bk:=fun σ' S'=>D3.bk (σ'.set i none) S',ct:=fun σ' S'=>D3.ct (σ'.set i none) S'} (σ.set i (some (.ref a))) (up S a (.exc C)) else r D3 σ C a S
variable {x n:Str} {Dc:Addr} {i:Nat} {np pos:Pos} {b0:Stmt} {suite:List Stmt} {rest:List ExceptHandler} {t:TS3} {r:Ends3→W3T}
theorem h_as (hm:X.mg x=some (.ref Dc)) (hb:PySem.W.kitCls X.K (.ref Dc) (.type "BaseException")=some true) (hg:Gl X x) (hN:X.N.Nodup) (hi:X.N[i]?=some n) (hl:X.env.scope.names.lookup n=some .local)
    (ht:∀v,PSs3 (X.caught v) NoX (b0::suite) t) (hr:PH3 X rest r) (hd:(x==("__debug__":Str))=false:=by decide):PH3 X (.ExceptHandler (some (.Name x np)) (some n) (b0::suite) pos::rest) (hAs X.K Dc i t r):=by
  intro z pins s τ σ H S D D3 a C hld hs l cd h
  obtain ⟨b,hk,h⟩:=h
  have I:=hld.inv
  obtain ⟨o,vs,h1,h2,h3⟩:=hld.exc
  refine wpAny_handleBy_cons (codeAny_handlers_test (zf3 (X:=X.caught (.ref a)) (zgo I) hg hm (zjn I.kIn h1 h2 hk hb ?_) hd)) (by intro q;cases q)
  cases b with
  | false=>exact hr z pins s τ σ H S D D3 a C hld hs l cd h
  | true =>
    have hn:=hld.no
    have hS:S a=none:=(l.fresh hn).1
    have hz:¬z a:=(l.fresh hn).2
    have h:=h hS
    have kp:Kp z H (upd H a (.ext (ExcOf a C))):=Kp.new hn hz
    refine codeAny_handlers_suite_as (hld.lands fun s6 h6=>?_)
    refine zgz (X:=X.caught (.ref a)) (v:=.ref a) (zgo h6.as) hN hi (.inl hl) rfl (fun s7 I7=>?_) (.inr hl)
    have go:=ht (.ref a) (ZX.no _ z) pins s7 _ _ {nx:=fun τ' H'=>D.nx (τ'.set i none) H',rt:=D.rt,bk:=fun τ' H'=>D.bk (τ'.set i none) H',ct:=fun τ' H'=>D.ct (τ'.set i none) H'} I7
      ⟨_,_,_,(hs.mono kp).set (.ref a) i,l.put (o:=.exc C) kp hz (show upd H a (.ext (ExcOf a C)) a=some (.ext (ExcOf a C)) from za9),h,
        ⟨fun σ' S' τ' H' k' s' l' q'=>cd.nx _ S' _ H' (kp.trans k') (s'.setNone i) l' q',fun σ' S' τ' H' k' s' l' q'=>cd.bk _ S' _ H' (kp.trans k') (s'.setNone i) l' q',
          fun σ' S' τ' H' k' s' l' q'=>cd.ct _ S' _ H' (kp.trans k') (s'.setNone i) l' q',fun d S' v H' k' r' l' q'=>cd.rt d S' v H' (kp.trans k') r' l' q'⟩⟩
    refine wpAny_mono go (fun f s8 q=>?_) fun _ _ z=>z.elim
    cases f with
    | next=>obtain ⟨τ',H',I8,q⟩:=q;exact name_goes (zcy I.ok I8) hN hi hl fun s9 I9=>⟨_,H',I9,q⟩
    | brk=>obtain ⟨τ',H',I8,q⟩:=q;exact name_goes (zcy I.ok I8) hN hi hl fun s9 I9=>⟨_,H',I9,q⟩
    | cont=>obtain ⟨τ',H',I8,q⟩:=q;exact name_goes (zcy I.ok I8) hN hi hl fun s9 I9=>⟨_,H',I9,q⟩
    | ret u=>obtain ⟨v,τ',H',I8,rv,q⟩:=q;exact name_goes (zcy I.ok I8) hN hi hl fun s9 I9=>⟨v,_,H',I9,rv,q⟩
def try3 (tb:W3T→TS3) (r:Ends3→W3T):TS3:=fun D3 σ S=>tb (r D3) D3 σ S
theorem cd_at {K:PySem.W.Frag} {Z:Zt} {S S':Hp3} {H H':Hp} {D3:Ends3} {D:Ends} (l:Rl K Z S H) (hc:CD K Z H D3 D) (l':Rl K (Z.at H) S' H'):CD K (Z.at H) H' D3 D:=by
  have k0:Kp Z H H':=l'.old.unhide fun _ z=>z
  have out:∀{S2:Hp3} {H2:Hp},Kp (Z.at H) H' H2→Rl K (Z.at H) S2 H2→Kp Z H H2∧Rl K Z S2 H2:=fun k l2=>⟨k0.trans (k.unhide fun _ z=>z),l2.out l (l'.old.trans k)⟩
  exact ⟨fun σ' S2 τ' H2 k s2 l2 q=>hc.nx _ _ _ _ (out k l2).1 s2 (out k l2).2 q,fun σ' S2 τ' H2 k s2 l2 q=>hc.bk _ _ _ _ (out k l2).1 s2 (out k l2).2 q,fun σ' S2 τ' H2 k s2 l2 q=>hc.ct _ _ _ _ (out k l2).1 s2 (out k l2).2 q,
    fun d S2 v H2 k r l2 q=>hc.rt _ _ _ _ (out k l2).1 r (out k l2).2 q⟩
theorem s_try {body:List Stmt} {h0:ExceptHandler} {hs:List ExceptHandler} {tb:W3T→TS3} (hst:X.stack=X.env::X.outer) (hf:X.env.frame=some X.env.locals)
    (hb:∀xe pn (W:W3T),PSs3 (X.tried xe pn) W body (tb W)) (hh:PH3 X (h0::hs) r):PS3 X W3 (.Try body (h0::hs) [] [] pos) (try3 tb r):=by
  rintro Z pins s τ H D I ⟨D3,σ,S,hsr,l,ht,hc⟩
  refine wpAny_Try_except ?_
  have main:∀τ' a C H' s5 σ' S',Hld X pins τ' H' a C s5→SR X.K H' σ' τ'→Rl X.K (Z.z.at H) S' H'→r D3 σ' C a S'→wpAny (model X.prog X.w) X.A (handleBy (.ref a) X.env (h0::hs)) (SP X pins D) X.xe s5 :=
    fun τ' a C H' s5 σ' S' hld sr l' w=>hh (Z.z.at H) pins s5 τ' σ' H' S' D D3 a C hld sr l' (cd_at l hc l') w
  let xe':Value→Shared→Prop:=fun e s1=>wpAny (model X.prog X.w) X.A (noteFrame e X.env) (fun _ s2=>wpAny (model X.prog X.w) X.A (setFlight e none) (fun _ s3=>wpAny (model X.prog X.w) X.A (handleBy e X.env (h0::hs)) (SP X pins D) X.xe s3) X.xe s2) X.xe s1
  let zx:ZX (X.tried xe' (X.pn++pins)) (r D3):={
    z:=Z.z.at H
    E:=fun τ cv oa H'=>∃C a σ S,cv=.ref C∧oa=some a∧SR X.K H' σ τ∧Rl X.K (Z.z.at H) S H'∧r D3 σ C a S
    pass:=fun τ' pins' H1 s1 e s' I1 cx=>zmp hst hf (zb9 I.ok I1) cx fun a C H' s5 he hE hld=>by
      subst he
      obtain ⟨C',a',σ',S',e1,e2,sr,l',w⟩:=hE
      cases e1
      cases e2
      exact main τ' a C H' s5 σ' S' hld sr l' w
    rz:=fun τ' pins' H1 s1 s3 a C args I1 hx ho hg hE=>zle hst hf (zb9 I.ok I1) hx ho hg fun s5 hld=>by
      obtain ⟨C',a',σ',S',e1,e2,sr,l',w⟩:=hE
      cases e1
      cases e2
      exact main τ' a C H1 s5 σ' S' hld sr l' w
    ce:=fun σ τ C a S H' sr l' _ w=>⟨C,a,σ,S,rfl,rfl,sr,l',w⟩}
  refine wpAny_mono (hb xe' (X.pn++pins) (r D3) zx [] s τ H D (zmw I) ⟨D3,σ,S,hsr,l.into,ht,cd_at l hc l.into⟩) (fun f s1 q=>?_) fun _ _ z=>z
  have q:=zk2 I.ok q
  cases f with
  | next=>exact wpAny_execs_nil q
  | brk=>exact q
  | cont=>exact q
  | ret u=>exact q
end
section
variable {σ:St3} {S:Hp3} {n b c:St3→Hp3→Prop} {rt:K3} {K:PySem.W.Frag} {C Dc a:Addr} {i:Nat} {t:TS3} {r:Ends3→W3T}
theorem j_try {tb:W3T→TS3} (h:tb (r ⟨n,rt,b,c⟩) ⟨n,rt,b,c⟩ σ S):try3 tb r ⟨n,rt,b,c⟩ σ S:=h
theorem j_hit (hk:PySem.W.kitCls K (.ref C) (.ref Dc)=some true) (h:S a=none→t ⟨fun σ' S'=>n (σ'.set i none) S',rt,fun σ' S'=>b (σ'.set i none) S',fun σ' S'=>c (σ'.set i none) S'⟩ (σ.set i (some (.ref a))) (up S a (.exc C))):hAs K Dc i t r ⟨n,rt,b,c⟩ σ C a S:=⟨true,hk,by rw [if_pos rfl];exact h⟩
end
end E3
namespace E3
section
open PySem PySem.Spec PyProof.Rows L2 EE PySem.W Builtin Builtin.ObjectAttr Builtin.Getset_descriptor
theorem zm5 {K:PySem.W.Frag} {prog:Program} {w:World} {A:Around} {E:Value→Shared→Prop} {s:Shared} {a C:Addr} {o:Obj} {Q:Option Value→Shared→Prop} (X:K.In s.heap) (h1:s.heap.get? a=some o) (h2:o.cls=.ref C)
    (hga:findIn K (.ref C) "__getattribute__"=some (some (.builtin "BaseException.__getattribute__"))) (hgt:findIn K (.ref C) "__getattr__"=some none) (ha:findIn K (.ref C) "__class__"=some (some (.builtin "object.__class__")))
    (hn:specialIn K (.builtin "object.__class__") "__get__"=some (some (.builtin "getset_descriptor.__get__"))) (htk:takesIn K (.builtin "object.__class__")=some true) (hm:mroIn K C (.type "object")=some true) (hmB:mroIn K C (.type "BaseException")=some true)
    (h:Q (some (.ref C)) {s with toks:=s.toks+1}):wpAny (model prog w) A (getAttr? (.ref a) "__class__") Q E s:=by
  obtain ⟨hh,g,d,t,os⟩:=s
  have L0:Looks (model prog w) hh (typeOf (.ref a)) (.ref C):=h2▸(Looks.ld h1).andThen .now
  have L1:=looks_findIn (M:=model prog w) X hga;have L2:=looks_findIn (M:=model prog w) X hgt
  have LF:Looks (model prog w) hh (Builtin.ObjectAttr.find (.ref a) (.ref C) "__class__") (.bind (.builtin "getset_descriptor.__get__") (.builtin "object.__class__")) :=
    by
    have d1:Looks (model prog w) hh (Builtin.ObjectAttr.dataDescriptor? (some (.builtin "object.__class__")) (some (.builtin "getset_descriptor.__get__"))) (some (.builtin "getset_descriptor.__get__",.builtin "object.__class__")):=by
      have d0:=looks_takesIn (M:=model prog w) X htk
      intro A' Q' E' s' k q
      refine wpAny_bind (d0 A' _ E' s' k ?_)
      rw [if_pos rfl]
      exact wpAny_pure q
    exact (looks_findIn X ha).andThen ((looks_specialIn X hn).andThen (d1.andThen (Looks.tag .now)))
  have Lm:Looks (model prog w) hh (isSubtype (.ref C) (.type "BaseException")) true:=looks_mroIn X hmB
  have Lo:Looks (model prog w) hh (isSubtype (.ref C) (.type "object")) true:=looks_mroIn X hm
  unfold getAttr? getAttrBy? getAttrBy;refine wpAny_bind (wpAny_mkText (wpAny_bind (wpAny_attempt (wpAny_holding (wpAny_bind (L0.at (wpAny_bind (L1.at ?_))))))))
  show wpAny _ _ (getAttrByItsOwn _ _ _ _ _ _) _ _ _
  unfold getAttrByItsOwn
  refine wpAny_bind (L2.at ?_)
  refine wpAny_bind (wpAny_attempt (wpAny_holding ?_))
  show wpAny _ _ (boundAndCalled _ _ _) _ _ _
  unfold boundAndCalled
  rw [F.excAttr_ValueError.ga.bind]
  refine wpAny_bind (wpAny_pure ?_)
  refine wpAny_call (codeAny_call_builtin F.excAttr_ValueError.ga.plain F.entry_bexc_ga ?_)
  have hk:builtinKind "BaseException.__getattribute__"=some .slot:=by decide +kernel
  have hs:splitId "BaseException.__getattribute__"=some ("BaseException","__getattribute__"):=by decide +kernel
  simp only [checkBuiltinCall,hk,hs]
  have LI:Looks (model prog w) hh (isInstance (.ref a) (.type "BaseException")) true:=L0.andThen Lm
  refine wpAny_bind (LI.at ?_)
  simp only [Bool.not_true,Bool.false_eq_true,if_false]
  have fin:∀s1:Shared,s1=⟨hh,g,d,t+1,os⟩→wpAny (model prog w) A (handedOut (.ref C)) (fun a s'=>wpAny (model prog w) A (pure (some a)) Q E s') E s1:=fun s1 e=>by
    subst e
    exact wpAny_pure (wpAny_pure h)
  have get:∀{R:Result→Shared→Prop} {A:Around},R (.ok (.ret (.ref C))) ⟨hh,g,d,t+1,os⟩→codeAny (model prog w) A (.call (.builtin "getset_descriptor.__get__") ⟨[.builtin "object.__class__",.ref a,.ref C],[]⟩) R ⟨hh,g,d,t+1,os⟩:=by
    intro R A hR;refine codeAny_call_builtin KF.slot_gs.plain KF.entry_gs (KF.slot_gs.check _ _ _ _ _ _ _ _ KF.type_class (KF.args_gs _ _ _) ?_);unfold Builtin.«getset_descriptor.__get__» descrGet
    rw [dga_obj]
    refine wpAny_bind (wpAny_pure ?_)
    unfold descrGetter descrCheckInstance descrNameAndClass isInstance;simp only [KF.owner_class];(repeat lk);refine ⟨Code.quiet_builtin _ (by decide +kernel),codeAny_builtin KF.entry_class ?_⟩;unfold Builtin.«object.__class__» shownTypeOf
    repeat lk
    exact hR
  have body:∀{A:Around} {Q:Fin→Shared→Prop} {E:Value→Shared→Prop},Q (.done (.ret (.ref C))) ⟨hh,g,d,t+1,os⟩→wpAny (model prog w) A (Builtin.«object.__getattribute__» ⟨[.ref a,.str "__class__" t],[]⟩) Q E ⟨hh,g,d,t+1,os⟩:=by
    intro A Q E hQ
    unfold Builtin.«object.__getattribute__» slotArgs
    repeat (first|with_reducible refine Looks.at (by assumption) ?_|wp_step)
    exact get (wpAny_pure hQ)
  cases hsig:Manifest.signature? "BaseException.__getattribute__" with
  | none =>
    refine wpAny_pure (body ?_)
    exact wpAny_pure (wpAny_pure h)
  | some sig =>
    have ha:=F.args_bexc_ga (.ref a) (.str "__class__" t)
    simp only [argsOk,hsig] at ha
    have h2:Bind.checkArgs "BaseException.__getattribute__" sig ⟨[.ref a,.str "__class__" t],[]⟩=pure ():=ha
    show wpAny _ _ (Bind.checkArgs "BaseException.__getattribute__" sig ⟨[.ref a,.str "__class__" t],[]⟩) _ _ _
    rw [h2]
    refine wpAny_pure (body ?_)
    exact wpAny_pure (wpAny_pure h)
end
open PySem PySem.Spec PyProof.Rows L2 EE
noncomputable def rfOne (K:PySem.W.Frag) (C:Addr):Bool:=PySem.W.excIn K C bmVE "ValueError.__new__"&&PySem.W.findIn K (.ref C) "__getattribute__"==some (some (.builtin "BaseException.__getattribute__"))&&PySem.W.findIn K (.ref C) "__getattr__"==some none &&
  PySem.W.findIn K (.ref C) "__class__"==some (some (.builtin "object.__class__"))&&PySem.W.specialIn K (.builtin "object.__class__") "__get__"==some (some (.builtin "getset_descriptor.__get__"))&&PySem.W.takesIn K (.builtin "object.__class__")==some true &&
  PySem.W.mroIn K C (.type "object")==some true&&PySem.W.mroIn K C (.type "BaseException")==some true&&PySem.W.kitCls K (.ref C) (.type "BaseException")==some true&&PySem.W.kitCls K (.ref C) (.type "ValueError")==some true&&(PySem.W.clsIn K C).isSome
def AtX (a C:Addr) (h:Heap):Prop:=∃o,h.get? a=some o∧o.cls=.ref C
theorem zhm {K:PySem.W.Frag} {a C:Addr} (e:rfOne K C=true):PySem.W.KitX K (.ref a) (.ref C) (AtX a C):=by
  unfold rfOne at e
  simp only [Bool.and_eq_true,beq_iff_eq] at e
  obtain ⟨⟨⟨⟨⟨⟨⟨⟨⟨⟨_,e1⟩,e2⟩,e3⟩,e4⟩,e5⟩,e6⟩,e7⟩,_⟩,_⟩,e8⟩:=e
  obtain ⟨cd,e8⟩:=Option.isSome_iff_exists.mp e8
  unfold PySem.W.clsIn at e8
  split at e8
  · rename_i c' d' cd' sl' ho
    refine ⟨fun M h X p=>?_,fun M h X p=>?_,fun h tp dd its n sl X htp=>?_,fun X p k=>?_⟩
    · obtain ⟨o,h1,h2⟩:=p
      exact h2▸(PySem.W.Looks.ld h1).andThen .now
    · intro A' Q' E' s' k q
      unfold isType loadHead
      exact wpAny_bind (wpAny_loadPart (k _ _ (X _ _ ho)) (wpAny_pure q))
    · refine Bool.eq_false_iff.mpr fun q=>?_
      have e:C=tp:=Value.ref.inj (beq_iff_eq.mp q)
      subst e
      cases (X _ _ ho).symm.trans htp
    · obtain ⟨o,h1,h2⟩:=p
      exact zm5 X h1 h2 e1 e2 e3 e4 e5 e6 e7 k
  · cases e8
section
variable {X:Cx}
theorem zh0:∀{cs:List Addr} {us:List Value},Vals (cs.map V.ref) us→us=cs.map Value.ref
  | [],_,.nil=>rfl
  | _::cs,_,.cons r t=>by rw [zh0 t,show _=Value.ref _ from r];rfl
def isEV (K:PySem.W.Frag):List V→Hp→VK→Prop:=fun xs H Q=>∃(a C:Addr) (c:V) (b:Bool),xs=[.ref a,c]∧H a=some (.ext (ExcOf a C))∧rfOne K C=true∧Q (.bl b) H ∧
  ((∃Dc,c=.ref Dc∧PySem.W.kitOne K (.ref C) (.ref Dc)=some b)∨(∃n,c=.ty n∧PySem.W.kitOne K (.ref C) (.type n)=some b)∨∃(t:Addr) (cs:List Addr),c=.ref t∧SqT K H t (cs.map V.ref)∧PySem.W.kitAny K (.ref C) (cs.map Value.ref)=some b)
theorem zhv:CallR X (.builtin "isinstance") (isEV X.K):=by
  intro pins s σ H xs us Q I r h
  obtain ⟨a,C,c,b,rfl,hH,e,q,h⟩:=h
  obtain ⟨u,v,rfl,ru,rv⟩:=vals2 r
  cases (show u=Value.ref a from ru)
  have p:AtX a C s.heap:=by
    obtain ⟨⟨o,h1,h2,_⟩,_⟩:=I.hok a _ hH
    exact ⟨o,h1,h2⟩
  rcases h with ⟨Dc,rfl,hk⟩|⟨n,rfl,hk⟩|⟨t,cs,rfl,ht,hk⟩
  · cases (show v=Value.ref Dc from rv)
    exact PySem.W.kia_one (zhm e) I.kIn p hk (fun z=>nomatch z) fun tk=>⟨.bl b,H,I.tok _,rfl,q⟩
  · cases (show v=Value.type n from rv)
    exact PySem.W.kia_one (zhm e) I.kIn p hk (fun z=>nomatch z) fun tk=>⟨.bl b,H,I.tok _,rfl,q⟩
  · cases (show v=Value.ref t from rv)
    obtain ⟨its,rs,⟨o,h1,h2,n,h3⟩,_⟩:=I.tuple ht
    cases zh0 rs
    obtain ⟨oc,od,dt,sl⟩:=o
    cases h2
    cases h3
    exact PySem.W.kia_tup (zhm e) I.kIn p h1 hk (fun z=>nomatch z) fun tk=>⟨.bl b,H,I.tok _,rfl,q⟩
end
inductive Rf where
  | err|text|twice|such|count|apart|many|way
  deriving DecidableEq
noncomputable def Rf.nm:Rf→Str
  | .err=>"ErrandError" | .text=>"BadText" | .twice=>"Twice" | .such=>"NoSuch" | .count=>"WrongCount" | .apart=>"Apart" | .many=>"TooMany" | .way=>"NoWay"
noncomputable def Rf.sub (i j:Rf):Bool:=decide (i=j)||decide (j=.err)
structure Rfs (K:PySem.W.Frag) (mg:Str→Option Value) (es:List Rf) (adr:Rf→Addr):Prop where
  bound:∀i∈es,mg i.nm=some (.ref (adr i))
  one:∀i∈es,rfOne K (adr i)=true
  two:∀i∈es,∀j∈es,PySem.W.kitCls K (.ref (adr i)) (.ref (adr j))=some (i.sub j)
section
variable {K:PySem.W.Frag} {mg:Str→Option Value} {es:List Rf} {adr:Rf→Addr} (R:Rfs K mg es adr) {i j:Rf}
include R
theorem Rfs.exc (hi:i∈es):PySem.W.excIn K (adr i) bmVE "ValueError.__new__"=true:=by
  have e:=R.one i hi
  unfold rfOne at e
  simp only [Bool.and_eq_true] at e
  exact e.1.1.1.1.1.1.1.1.1.1
theorem Rfs.base (hi:i∈es):PySem.W.kitCls K (.ref (adr i)) (.type "BaseException")=some true:=by
  have e:=R.one i hi
  unfold rfOne at e
  simp only [Bool.and_eq_true,beq_iff_eq] at e
  exact e.1.1.2
theorem Rfs.val (hi:i∈es):PySem.W.kitOne K (.ref (adr i)) (.type "ValueError")=some true:=by
  have e:=R.one i hi
  unfold rfOne at e
  simp only [Bool.and_eq_true,beq_iff_eq] at e
  unfold PySem.W.kitOne
  rw [if_neg (by intro z;cases beq_iff_eq.mp z)]
  exact e.1.2
theorem Rfs.is (hi:i∈es) (hj:j∈es):PySem.W.kitOne K (.ref (adr i)) (.ref (adr j))=some (i.sub j):=by
  unfold PySem.W.kitOne
  have h:=R.two i hi j hj
  split
  · rename_i z
    have e:adr i=adr j:=Value.ref.inj (beq_iff_eq.mp z)
    rw [←e,R.two i hi i hi] at h
    rw [←h]
    unfold Rf.sub
    simp
  · exact h
theorem Rfs.any (hi:i∈es):∀{js:List Rf},(∀j∈js,j∈es)→PySem.W.kitAny K (.ref (adr i)) ((js.map adr).map Value.ref)=some (js.any fun j=>i.sub j)
  | [],_=>rfl
  | j::js,h=>by
    have hr:=Rfs.any hi (js:=js) fun k hk=>h k (.tail _ hk)
    simp only [List.map_cons,PySem.W.kitAny,R.is hi (h j (.head _)),List.any_cons]
    cases i.sub j
    · exact hr
    · rfl
end
def isE3 (es:List Rf) (adr:Rf→Addr):List D→Hp3→K3→Prop:=fun xs S Q=>∃a i c b,xs=[.ref a,c]∧S a=some (.exc (adr i))∧i∈es∧Q (.bl b) S ∧
  ((∃j∈es,c=.ref (adr j)∧b=i.sub j)∨(c=.ty "ValueError"∧b=true)∨∃js:List Rf,(∀j∈js,j∈es)∧c=.tup (js.map fun j=>.ref (adr j))∧b=js.any fun j=>i.sub j)
theorem zkc {K:PySem.W.Frag} {H:Hp} {adr:Rf→Addr}:∀{js:List Rf} {vs:List V},Rps K H (js.map fun j=>D.ref (adr j)) vs→vs=(js.map adr).map V.ref
  | [],_,.nil=>rfl
  | _::js,_,.cons (.ref _) q=>by rw [zkc q];rfl
theorem zm8 {K:PySem.W.Frag} {mg:Str→Option Value} {es:List Rf} {adr:Rf→Addr} (R:Rfs K mg es adr):DnC K (isE3 es adr) (isEV K):=by
  intro Z ds S Q3 vs H Q r l h c
  obtain ⟨a,i,x,b,rfl,hS,hi,q,h⟩:=h
  cases r with
  | cons r rr =>
    cases rr with
    | cons r2 rr =>
      cases rr
      cases r
      refine ⟨a,adr i,_,b,rfl,l.obj a _ hS,R.one i hi,c _ S _ H (Kp.refl _ _) (.bl _) l q,?_⟩
      rcases h with ⟨j,hj,rfl,rfl⟩|⟨rfl,rfl⟩|⟨js,hj,rfl,rfl⟩
      · cases r2
        exact .inl ⟨_,rfl,R.is hi hj⟩
      · cases r2
        exact .inr (.inl ⟨_,rfl,R.val hi⟩)
      · cases r2 with
        | tup h1 h2 =>
          cases zkc h2
          exact .inr (.inr ⟨_,js.map adr,rfl,h1,R.any hi hj⟩)
section
variable {S:Hp3} {Q:K3} {es:List Rf} {adr:Rf→Addr} {a:Addr} {i j:Rf}
theorem j_isE (hS:S a=some (.exc (adr i))) (hi:i∈es) (hj:j∈es) (q:Q (.bl (i.sub j)) S):isE3 es adr [.ref a,.ref (adr j)] S Q:=⟨a,i,_,_,rfl,hS,hi,q,.inl ⟨j,hj,rfl,rfl⟩⟩
theorem j_isEV (hS:S a=some (.exc (adr i))) (hi:i∈es) (q:Q (.bl true) S):isE3 es adr [.ref a,.ty "ValueError"] S Q:=⟨a,i,_,_,rfl,hS,hi,q,.inr (.inl ⟨rfl,rfl⟩)⟩
theorem j_isET (js:List Rf) (hS:S a=some (.exc (adr i))) (hi:i∈es) (hj:∀j∈js,j∈es) (q:Q (.bl (js.any fun j=>i.sub j)) S):isE3 es adr [.ref a,.tup (js.map fun j=>.ref (adr j))] S Q:=⟨a,i,_,_,rfl,hS,hi,q,.inr (.inr ⟨js,hj,rfl,rfl⟩)⟩
end
noncomputable def rfAll (K:PySem.W.Frag) (l:List (Rf×Addr)):Bool:=l.all fun p=>rfOne K p.2&&l.all fun q=>PySem.W.kitCls K (.ref p.2) (.ref q.2)==some (p.1.sub q.1)
noncomputable def adrOf (l:List (Rf×Addr)) (i:Rf):Addr:=(l.lookup i).getD 0
theorem lookup_mem {i:Rf}:∀{l:List (Rf×Addr)},i∈l.map (·.1)→(i,adrOf l i)∈l
  | (j,b)::l,h=>by
    unfold adrOf
    by_cases e:i=j
    · subst e
      simp [List.lookup]
    · have:(i==j)=false:=by simpa using e
      rw [List.lookup,this]
      rcases List.mem_cons.mp h with z|z
      · exact absurd z e
      · exact .tail _ (lookup_mem (l:=l) z)
theorem rfs_mk {K:PySem.W.Frag} {mg:Str→Option Value} {l:List (Rf×Addr)} (h:rfAll K l=true) (hm:∀i∈l.map (·.1),mg i.nm=some (.ref (adrOf l i))):Rfs K mg (l.map (·.1)) (adrOf l):=by
  unfold rfAll at h
  simp only [List.all_eq_true,Bool.and_eq_true,beq_iff_eq] at h
  exact ⟨hm,fun i hi=>(h _ (lookup_mem hi)).1,fun i hi j hj=>(h _ (lookup_mem hi)).2 _ (lookup_mem hj)⟩
end E3
namespace E3
open PySem PySem.Spec PyProof.Rows L2 EE
section
variable {P:Program} {w:World} {K:PySem.W.Frag} {mg:Str→Option Value} {base:Heap} {x:Str} {st:Stmt} {N ps:List Str} {k:Nat}
theorem Cal3.dropX {sp:Sp3} (C:Cal3 P w K mg base k x ps sp):Cal3 P w K mg base k x ps (fun ds S Q E=>sp ds S (fun d S1=>∃S2,Sub S2 S1∧Q d S2) fun C a S1=>∃S2,Sub S2 S1∧E C a S2):=by
  obtain ⟨f,fd,F0,r⟩:=C.ex
  refine ⟨f,fd,F0.imp fun vs H Q E ⟨Z,ds,S,Q3,E3,h1,l,h3,cq,ce⟩=>⟨Z,ds,S,_,_,h1,l,h3,?_,?_⟩,r⟩
  · rintro d S1 v H' k1 r1 l1 ⟨S2,hsub,q⟩
    exact cq d S2 v H' k1 r1 (l1.sub hsub) q
  · rintro C a S1 H' k1 l1 ha ⟨S2,hsub,q⟩
    exact ce C a S2 H' k1 (l1.sub hsub) ha q
def rdX (A:List D→Hp3→(D→Prop)→(Addr→Prop)→Prop):Sp3:=fun ds S Q W=>A ds S (fun d=>Q d S) fun C=>∀a,W C a S
theorem _root_.EE.Has.rdX {A:List D→Hp3→(D→Prop)→(Addr→Prop)→Prop} (h:Has K mg x st ps) (S:FnScope N ps (defScope st)) (len:∀ds S q qx,A ds S q qx→ds.length=ps.length)
    (hbody:∀(f:Addr) (cdv:Value) (Ar:Around) (outer:List Env) (s:Shared) (H:Hp) (E:XK) (ds:List D) (S:Hp3) (q:D→Prop) (qx:Addr→Prop),Room k (Ar.deeper (envOfC x (defScope st) s.heap.objs.size f cdv))→A ds S q qx →
      ∃t,PSs3 (cxOf (CX1 P w) P w K mg base N x (defScope st) f cdv Ar outer s H E) (fun _ C _ S'=>Sub S S'∧qx C) (defBody st) t∧t {nx:=fun _ S'=>Sub S S'∧q .non,rt:=fun d S'=>Sub S S'∧q d} (start3 N ds) S):Cal3 P w K mg base (k+1) x ps (rdX A):=by
  have C:Cal3 P w K mg base (k+1) x ps (fun ds S Q E=>∃q qx,A ds S q qx∧(∀d S',Sub S S'∧q d→Q d S')∧∀C a S',Sub S S'∧qx C→E C a S'):=by
    refine h.cal3x S (fun vs H Q E z_1=>by obtain ⟨q,qx,z,_⟩:=z_1;exact len _ _ _ _ z) fun f cdv Ar outer s H E ds S3 Q E3 hr ⟨q,qx,z,hq,hx⟩=>?_
    obtain ⟨t,h1,h2⟩:=hbody f cdv Ar outer s H E ds S3 _ _ hr z
    exact ⟨t,fun d S'=>Sub S3 S'∧q d,fun C _ S'=>Sub S3 S'∧qx C,h1,h2,hq,hx⟩
  exact C.dropX.imp fun ds S Q E z=>⟨_,_,z,fun d S1 hq=>⟨S,hq.1,hq.2⟩,fun C a S1 hx=>⟨S,hx.1,hx.2 a⟩⟩
end
end E3
namespace E3
open PySem PySem.Spec PyProof.Rows L2 EE
end E3
namespace E3
open PySem PySem.Spec PyProof.Rows L2 EE
section
variable {X:Cx} {W3:W3T}
def notinA (Q:K3) (x y:D) (S:Hp3):Prop:=(∃a kvs k,x=.ref a∧S a=some (.dic kvs)∧y=kD k∧Q (.bl (!(valD kvs k).isSome)) S)∨∃ds,x=.tup ds∧flatD y=true∧ds.all flatD=true∧Q (.bl (!memD y ds)) S
def notin3 (ty td:TE3):TE3:=fun σ S Q=>ty σ S fun y S1=>td σ S1 fun x S2=>notinA Q x y S2
theorem iteBt {b:Bool} {A B:Prop} (h:b=true) (q:A):if b=true then A else B:=by rw [if_pos h];exact q
theorem iteBf {b:Bool} {A B:Prop} (h:b=false) (q:B):if b=true then A else B:=by rw [if_neg (by rw [h];exact Bool.false_ne_true)];exact q
end
end E3
namespace E3
open PySem PySem.Spec PyProof.Rows L2 EE
theorem zal {n:Nat} (h:n≤1000000):n≤sizeLine:=Nat.le_trans h (by decide)
theorem zg2 {n:Nat} (h:n≤1000000):n<sizeLine:=Nat.lt_of_le_of_lt h (by decide)
theorem zpm {α:Type} {xs:List α} {i:Int} {v:α} (h0:0≤i) (h:xs[i.toNat]?=some v):atI xs i=some v:=by
  have e:i=((i.toNat:Nat):Int):=by omega
  rw [e]
  exact ze6 h
theorem atI_0 {α:Type} {x:α} {xs:List α}:atI (x::xs) 0=some x:=ze6 (j:=0) rfl
theorem atI_1 {α:Type} {x y:α} {xs:List α}:atI (x::y::xs) 1=some y:=ze6 (j:=1) rfl
theorem ixN_of {n:Nat} {i:Int} {j:Nat} (h:i=(j:Int)) (hj:j<n):ixN n i=some j:=by
  subst h
  unfold ixN
  rw [if_pos (by omega),if_pos (by omega)]
  simp
theorem ixN_0 {α:Type} {x:α} {xs:List α}:ixN (x::xs).length 0=some 0:=ixN_of rfl (by simp)
theorem zd8 {xs:List D} {p:Int} (h0:0≤p):cutD xs none (some p)=xs.take p.toNat:=by
  unfold cutD
  have e:p=((p.toNat:Nat):Int):=by omega
  rw [e,HT.zfl,HT.zg6,List.drop_zero,Nat.sub_zero,←e]
  by_cases h:p.toNat≤xs.length
  · rw [Nat.min_eq_left h]
  · rw [Nat.min_eq_right (by omega),List.take_of_length_le (by omega),List.take_of_length_le (by omega)]
theorem zcu {xs:List D} {p:Int} (h0:0≤p):cutD xs (some p) none=xs.drop p.toNat:=by
  unfold cutD
  have e:p=((p.toNat:Nat):Int):=by omega
  rw [e,HT.zfl,HT.zg6,←e]
  by_cases h:p.toNat≤xs.length
  · rw [Nat.min_eq_left h,List.take_of_length_le (by rw [List.length_drop];omega)]
  · rw [Nat.min_eq_right (by omega),List.drop_eq_nil_of_le (Nat.le_refl _),List.drop_eq_nil_of_le (by omega)]
    simp
theorem zgb {cs:List Nat} {p:Int} (h0:0≤p):cutT cs none (some p)=cs.take p.toNat:=by
  unfold cutT
  have e:p=((p.toNat:Nat):Int):=by omega
  rw [e,HT.zfl,HT.zg6,List.drop_zero,Nat.sub_zero,←e]
  by_cases h:p.toNat≤cs.length
  · rw [Nat.min_eq_left h]
  · rw [Nat.min_eq_right (by omega),List.take_of_length_le (by omega),List.take_of_length_le (by omega)]
theorem zgc {cs:List Nat} {p:Int} (h0:0≤p):cutT cs (some p) none=cs.drop p.toNat:=by
  unfold cutT
  have e:p=((p.toNat:Nat):Int):=by omega
  rw [e,HT.zfl,HT.zg6,←e]
  by_cases h:p.toNat≤cs.length
  · rw [Nat.min_eq_left h,List.take_of_length_le (by rw [List.length_drop];omega)]
  · rw [Nat.min_eq_right (by omega),List.drop_eq_nil_of_le (Nat.le_refl _),List.drop_eq_nil_of_le (by omega)]
    simp
def NameOk (x:Str):Prop:=∃cs:List Nat,x=textOf cs∧1≤cs.length∧cs.length≤8∧∀c∈cs,97≤c∧c≤122
theorem zbg {a b:List Nat} (h:textOf a=textOf b):a=b:=by
  have:=congrArg (fun x:Str=>x.cps.toList) h
  simpa [textOf] using this
theorem zah (cs:List Nat):(textOf cs).cps.toList=cs:=by simp [textOf]
theorem zlz:("abcdefghijklmnopqrstuvwxyz":Str)=textOf (List.range' 97 26):=by decide +kernel
theorem zh9:("abcdefghijkl":Str)=textOf (List.range' 97 12):=by decide +kernel
theorem zkb:("abcd":Str)=textOf [97,98,99,100]:=by decide +kernel
theorem zkw {n:Nat} {i:Int} (h0:0≤i) (h1:i<n):atI (List.range' 97 n) i=some (97+i.toNat):=by
  refine zpm h0 ?_
  rw [List.getElem?_range' (by omega)]
  simp
noncomputable def nm1 (cs:List Nat) (p k:Nat):List Nat:=(cs.take p++[97+k])++cs.drop p
noncomputable def nm2 (cs:List Nat) (k:Nat):List Nat:=cs.take 4++[97,98,99,100].take (k+1)
noncomputable def nm3 (cs:List Nat) (k:Nat):List Nat:=[97,98,99,100].drop (3-k)++cs.take 4
def Letters (cs:List Nat):Prop:=∀c∈cs,97≤c∧c≤122
structure Row (n:Nat) (xs:List Str):Prop where
  len:xs.length=n
  nd:xs.Nodup
  ok:∀x∈xs,NameOk x
theorem zl2 {n:Nat} {f:Nat→List Nat} (inj:∀i j,i<n→j<n→f i=f j→i=j) (ok:∀i,i<n→NameOk (textOf (f i))):Row n ((List.range n).map fun k=>textOf (f k)):=by
  refine ⟨by simp,?_,fun x hx=>?_⟩
  · rw [List.nodup_iff_pairwise_ne,List.pairwise_map]
    have:=List.nodup_range (n:=n)
    rw [List.nodup_iff_pairwise_ne] at this
    refine List.Pairwise.imp_of_mem (fun {a b} ha hb hab e=>hab ?_) this
    exact inj a b (List.mem_range.mp ha) (List.mem_range.mp hb) (zbg e)
  · obtain ⟨k,hk,rfl⟩:=List.mem_map.mp hx
    exact ok k (List.mem_range.mp hk)
theorem row1 {n p:Nat} {cs:List Nat} (hl:Letters cs) (h7:cs.length≤7) (hn:n≤12):Row n ((List.range n).map fun k=>textOf (nm1 cs p k)):=by
  refine zl2 (fun i j hi hj e=>?_) fun i hi=>⟨_,rfl,?_,?_,?_⟩
  · unfold nm1 at e
    have e2:=List.append_inj_left' e rfl
    have e3:=List.append_inj_right e2 rfl
    simp at e3
    exact e3
  · simp [nm1];omega
  · simp only [nm1,List.length_append,List.length_take,List.length_cons,List.length_nil,List.length_drop];omega
  · intro c hc
    simp only [nm1,List.mem_append,List.mem_singleton] at hc
    rcases hc with (hc|rfl)|hc
    · exact hl c (List.mem_of_mem_take hc)
    · omega
    · exact hl c (List.mem_of_mem_drop hc)
theorem row2 {n:Nat} {cs:List Nat} (hl:Letters cs) (hn:n≤4):Row n ((List.range n).map fun k=>textOf (nm2 cs k)):=by
  refine zl2 (fun i j hi hj e=>?_) fun i hi=>⟨_,rfl,?_,?_,?_⟩
  · have:=congrArg List.length e
    simp only [nm2,List.length_append,List.length_take,List.length_cons,List.length_nil] at this
    omega
  · simp only [nm2,List.length_append,List.length_take,List.length_cons,List.length_nil];omega
  · simp only [nm2,List.length_append,List.length_take,List.length_cons,List.length_nil];omega
  · intro c hc
    simp only [nm2,List.mem_append] at hc
    rcases hc with hc|hc
    · exact hl c (List.mem_of_mem_take hc)
    · have:=List.mem_of_mem_take hc
      simp only [List.mem_cons,List.not_mem_nil,or_false] at this
      omega
theorem row3 {n:Nat} {cs:List Nat} (hl:Letters cs) (hn:n≤4):Row n ((List.range n).map fun k=>textOf (nm3 cs k)):=by
  refine zl2 (fun i j hi hj e=>?_) fun i hi=>⟨_,rfl,?_,?_,?_⟩
  · have:=congrArg List.length e
    simp only [nm3,List.length_append,List.length_take,List.length_drop,List.length_cons,List.length_nil] at this
    omega
  · simp only [nm3,List.length_append,List.length_take,List.length_drop,List.length_cons,List.length_nil];omega
  · simp only [nm3,List.length_append,List.length_take,List.length_drop,List.length_cons,List.length_nil];omega
  · intro c hc
    simp only [nm3,List.mem_append] at hc
    rcases hc with hc|hc
    · have:=List.mem_of_mem_drop hc
      simp only [List.mem_cons,List.not_mem_nil,or_false] at this
      omega
    · exact hl c (List.mem_of_mem_take hc)
theorem Row.turn {n t:Nat} {xs:List Str} (r:Row n xs):Row n (xs.drop t++xs.take t):=by
  have e:=List.take_append_drop t xs
  have pm:(xs.drop t++xs.take t).Perm xs:=by
    have:=List.perm_append_comm (l₁:=xs.drop t) (l₂:=xs.take t)
    rw [e] at this
    exact this
  exact ⟨pm.length_eq.trans r.len,pm.nodup_iff.mpr r.nd,fun x hx=>r.ok x (pm.mem_iff.mp hx)⟩
inductive Sy where
  | name (x:Str)|bud|pair (a b:Sy)|left (a:Sy)|right (a:Sy)|fork (a b c:Sy)|send (x:Str) (as:List Sy)
mutual
noncomputable def Sy.d:Sy→D
  | .name x=>.tup [.str "name",.str x]
  | .bud=>.tup [.str "bud"]
  | .pair a b=>.tup [.str "pair",a.d,b.d]
  | .left a=>.tup [.str "left",a.d]
  | .right a=>.tup [.str "right",a.d]
  | .fork a b c=>.tup [.str "fork",a.d,b.d,c.d]
  | .send x as=>.tup [.str "send",.str x,.tup (Sy.ds as)]
noncomputable def Sy.ds:List Sy→List D
  | []=>[]
  | a::as=>a.d::Sy.ds as
end
mutual
noncomputable def Sy.deep:Sy→Nat
  | .name _=>1
  | .bud=>1
  | .pair a b=>max a.deep b.deep+1
  | .left a=>a.deep+1
  | .right a=>a.deep+1
  | .fork a b c=>max a.deep (max b.deep c.deep)+1
  | .send _ as=>Sy.deeps as+1
noncomputable def Sy.deeps:List Sy→Nat
  | []=>0
  | a::as=>max a.deep (Sy.deeps as)
end
noncomputable def Sy.parts:Sy→List Sy
  | .name _=>[]
  | .bud=>[]
  | .pair a b=>[a,b]
  | .left a=>[a]
  | .right a=>[a]
  | .fork a b c=>[a,b,c]
  | .send _ as=>as
mutual
noncomputable def Sy.pre:Sy→List Sy
  | .name x=>[.name x]
  | .bud=>[.bud]
  | .pair a b=>.pair a b::(a.pre++b.pre)
  | .left a=>.left a::a.pre
  | .right a=>.right a::a.pre
  | .fork a b c=>.fork a b c::(a.pre++(b.pre++c.pre))
  | .send x as=>.send x as::Sy.pres as
noncomputable def Sy.pres:List Sy→List Sy
  | []=>[]
  | a::as=>a.pre++Sy.pres as
end
theorem Sy.ds_map:∀as:List Sy,Sy.ds as=as.map Sy.d
  | []=>rfl
  | a::as=>by simp only [Sy.ds,List.map_cons,Sy.ds_map as]
theorem Sy.pres_append:∀as bs:List Sy,Sy.pres (as++bs)=Sy.pres as++Sy.pres bs
  | [],bs=>by simp [Sy.pres]
  | a::as,bs=>by simp [Sy.pres,Sy.pres_append as bs]
mutual
def Sy.wf (ar:Str→Option Nat) (ps:List Str):Sy→Prop
  | .name x=>x∈ps
  | .bud=>True
  | .pair a b=>a.wf ar ps∧b.wf ar ps
  | .left a=>a.wf ar ps
  | .right a=>a.wf ar ps
  | .fork a b c=>a.wf ar ps∧b.wf ar ps∧c.wf ar ps
  | .send x as=>ar x=some as.length∧1≤as.length∧as.length≤4∧Sy.wfs ar ps as
def Sy.wfs (ar:Str→Option Nat) (ps:List Str):List Sy→Prop
  | []=>True
  | a::as=>a.wf ar ps∧Sy.wfs ar ps as
end
theorem Sy.wfs_iff {ar:Str→Option Nat} {ps:List Str}:∀{as:List Sy},Sy.wfs ar ps as↔∀a∈as,a.wf ar ps
  | []=>by simp [Sy.wfs]
  | a::as=>by simp [Sy.wfs,Sy.wfs_iff (as:=as)]
theorem Sy.deeps_le:∀{as:List Sy} {n:Nat},(∀a∈as,a.deep≤n)→Sy.deeps as≤n
  | [],_,_=>Nat.zero_le _
  | a::as,n,h=>by
    simp only [Sy.deeps]
    have h1:=h a List.mem_cons_self
    have h2:=Sy.deeps_le (as:=as) (n:=n) fun b hb=>h b (List.mem_cons_of_mem _ hb)
    omega
theorem Sy.zct:∀{as:List Sy} {a:Sy},a∈as→a.deep≤Sy.deeps as
  | b::as,a,h=>by
    simp only [Sy.deeps]
    rcases List.mem_cons.mp h with rfl|h
    · omega
    · have:=Sy.zct h;omega
noncomputable def Sy.sends (s:Sy):Nat:=(s.pre.filter fun a=>match a with | .send _ _=>true|_=>false).length
noncomputable def Sy.sendss (as:List Sy):Nat:=((Sy.pres as).filter fun a=>match a with | .send _ _=>true|_=>false).length
theorem Sy.sendss_cons (a:Sy) (as:List Sy):Sy.sendss (a::as)=a.sends+Sy.sendss as:=by simp [Sy.sendss,Sy.sends,Sy.pres]
theorem Sy.sendss_append (as bs:List Sy):Sy.sendss (as++bs)=Sy.sendss as+Sy.sendss bs:=by simp [Sy.sendss,Sy.pres_append]
noncomputable def arOf:List Str→List Nat→Str→Option Nat
  | x::xs,n::ns,y=>if y=x then some n else arOf xs ns y
  | _,_,_=>none
theorem znj:∀{xs:List Str} {ns:List Nat} {i:Nat} {x:Str} {n:Nat},xs.Nodup→xs[i]?=some x→ns[i]?=some n→arOf xs ns x=some n
  | [],_,_,_,_,_,h,_=>by simp at h
  | _::_,[],_,_,_,_,_,h=>by simp at h
  | y::xs,m::ns,0,x,n,_,h1,h2=>by
    simp at h1 h2
    subst h1 h2
    simp [arOf]
  | y::xs,m::ns,i+1,x,n,nd,h1,h2=>by
    have hx:x∈xs:=List.mem_of_getElem? (by simpa using h1)
    have hne:x≠y:=fun z=>(List.nodup_cons.mp nd).1 (z▸hx)
    rw [arOf,if_neg hne]
    exact znj (List.nodup_cons.mp nd).2 (by simpa using h1) (by simpa using h2)
structure Er where
  name:Str
  ps:List Str
  body:Sy
noncomputable def Er.d (e:Er):D:=.tup [.str e.name,.tup (e.ps.map D.str),e.body.d]
end E3
namespace E3
open PySem PySem.Spec PyProof.Rows L2 EE
theorem at_mod {α:Type} {xs:List α} (c:Int) (h:0<xs.length):∃(j:Nat) (v:α),c%(xs.length:Int)=(j:Int)∧j<xs.length∧xs[j]?=some v:=by
  have h0:=Int.emod_nonneg c (show (xs.length:Int)≠0 by omega)
  have h1:=Int.emod_lt_of_pos c (show (0:Int)<xs.length by omega)
  have hj:(c%(xs.length:Int)).toNat<xs.length:=by omega
  exact ⟨(c%(xs.length:Int)).toNat,xs[(c%(xs.length:Int)).toNat],by omega,hj,List.getElem?_eq_getElem hj⟩
theorem zjs {α:Type} {f:α→D} {xs:List α} (c:Int) (h:0<xs.length):∃(j:Nat) (v:α),c%((xs.map f).length:Int)=(j:Int)∧xs[j]?=some v∧atI (xs.map f) (c%((xs.map f).length:Int))=some (f v):=by
  obtain ⟨j,v,e,hj,hv⟩:=at_mod (xs:=xs) c h
  have e':c%((xs.map f).length:Int)=(j:Int):=by rw [List.length_map];exact e
  refine ⟨j,v,e',hv,?_⟩
  rw [e']
  refine ze6 ?_
  rw [List.getElem?_map,hv]
  rfl
theorem zd9 {σ:St3} {js:List Nat} {te:TE3} {Q:K3} {S:Hp3} {sp:Addr} {m:Nat} {i b:Int} {Al:Hp3→Prop} (good:Sy→Prop) (hm:m≤1000) (hA:∀S,Al S)
    (h:∀(d:D) (i1 b1:Int),i≤i1→0≤b1→∀P:K3,(∀(s:Sy) (i2 b2:Int),good s→i1≤i2→0≤b2→(s.sends:Int)+b2≤b1→P s.d (up S sp (.lst [.int i2,.int b2])))→te (some d::pick3 σ js) (up S sp (.lst [.int i1,.int b1])) P)
    (hb:0≤b) (q:∀(ss:List Sy) (i2 b2:Int),ss.length=m→(∀s∈ss,good s)→i≤i2→0≤b2→(Sy.sendss ss:Int)+b2≤b→newL (up S sp (.lst [.int i2,.int b2])) (ss.map Sy.d) Q) :
    ∃W:Nat→List D→Hp3→Prop,W 0 [] (up S sp (.lst [.int i,.int b]))∧(∀i ys S,W i ys S→Al S∧ys.length<sizeLine) ∧
  (∀i d ys S,(nums 0 m)[i]?=some d→W i ys S→te (some d::pick3 σ js) S fun y S'=>W (i+1) (ys++[y]) S')∧∀ys S,W (nums 0 m).length ys S→newL S ys Q:=by
  refine ⟨fun j ys S'=>j≤m∧∃(ss:List Sy) (i1 b1:Int),ys=ss.map Sy.d∧ss.length=j∧(∀s∈ss,good s)∧i≤i1∧0≤b1∧(Sy.sendss ss:Int)+b1≤b∧S'=up S sp (.lst [.int i1,.int b1]),
    ⟨Nat.zero_le _,[],i,b,rfl,rfl,by simp,Int.le_refl _,hb,by simp [Sy.sendss,Sy.pres],rfl⟩,?_,?_,?_⟩
  · rintro j ys S' ⟨hj,ss,i1,b1,rfl,hl,_⟩
    refine ⟨hA _,?_⟩
    rw [List.length_map]
    exact zg2 (by omega)
  · rintro j d ys S' hd ⟨hj,ss,i1,b1,rfl,hl,hg,hi,hb1,hs,rfl⟩
    obtain ⟨hlt,rfl⟩:=zc9 hd
    refine h _ i1 b1 hi hb1 _ fun s i2 b2 gs h2 hb2 hs2=>⟨hlt,ss++[s],i2,b2,by simp,by simp [hl],?_,by omega,hb2,?_,rfl⟩
    · intro s' hs'
      rcases List.mem_append.mp hs' with h|h
      · exact hg s' h
      · rw [List.mem_singleton.mp h];exact gs
    · rw [Sy.sendss_append,Sy.sendss_cons]
      simp only [Sy.sendss,Sy.pres,List.filter_nil,List.length_nil] at hs ⊢
      omega
  · rintro ys S' ⟨_,ss,i1,b1,rfl,hl,hg,hi,hb1,hs,rfl⟩
    rw [zbr] at hl
    exact q ss i1 b1 hl hg hi hb1 hs
theorem Sy.sends_parts (s:Sy):s.sends=(match s with | .send _ _=>1|_=>0)+Sy.sendss s.parts:=by
  cases s<;>simp [Sy.sends,Sy.sendss,Sy.pre,Sy.parts,Sy.pres]<;>omega
noncomputable def arP (prog:List Er):Str→Option Nat:=arOf (prog.map Er.name) (prog.map fun e=>e.ps.length)
structure Good (prog:List Er) (most deep b:Nat):Prop where
  len1:1≤prog.length
  len:prog.length≤most
  nd:(prog.map Er.name).Nodup
  nm:∀e∈prog,NameOk e.name
  ps:∀e∈prog,1≤e.ps.length∧e.ps.length≤4∧e.ps.Nodup∧∀x∈e.ps,NameOk x
  wf:∀e∈prog,e.body.wf (arP prog) e.ps∧e.body.deep≤deep
  sends:(prog.map fun e=>e.body.sends).sum≤b
theorem arP_eq {ers:List Er} {names:List Str} {counts:List Nat} (h1:ers.map Er.name=names) (h2:(ers.map fun e=>e.ps.length)=counts):arP ers=arOf names counts:=by
  unfold arP;rw [h1,h2]
theorem ps_ok {n c:Nat} {xs:List Str} (r:Row n xs) (hc:c≤n):(xs.take c).length=c∧(xs.take c).Nodup∧∀x∈xs.take c,NameOk x:=by
  refine ⟨by rw [List.length_take,r.len];omega,r.nd.sublist (List.take_sublist _ _),fun x hx=>r.ok x (List.mem_of_mem_take hx)⟩
structure ErOk (ar:Str→Option Nat) (deep:Nat) (e:Er):Prop where
  l1:1≤e.ps.length
  l4:e.ps.length≤4
  nd:e.ps.Nodup
  ok:∀x∈e.ps,NameOk x
  wf:e.body.wf ar e.ps
  dp:e.body.deep≤deep
theorem zqk {ers:List Er} {names:List Str} {counts:List Nat} {n most deep b:Nat} (Rn:Row n names) (h1:ers.map Er.name=names) (h2:(ers.map fun e=>e.ps.length)=counts) (hn1:1≤n) (hn:n≤most)
    (hk:∀e∈ers,ErOk (arOf names counts) deep e) (hs:(ers.map fun e=>e.body.sends).sum≤b):Good ers most deep b:=by
  have hl:ers.length=n:=by rw [←Rn.len,←h1,List.length_map]
  refine ⟨by omega,by omega,by rw [h1];exact Rn.nd,fun e he=>Rn.ok _ (by rw [←h1];exact List.mem_map_of_mem he),fun e he=>⟨(hk e he).l1,(hk e he).l4,(hk e he).nd,(hk e he).ok⟩,fun e he=>⟨?_,(hk e he).dp⟩,hs⟩
  rw [arP_eq h1 h2]
  exact (hk e he).wf
end E3
namespace E3
open PySem PySem.Spec PyProof.Rows L2 EE
noncomputable def Sy.nm:Sy→Option Str
  | .send x _=>some x
  | _=>none
noncomputable def Sy.sent (s:Sy):List Str:=s.pre.filterMap Sy.nm
noncomputable def sendsOf (prog:List Er):List (Str×Str):=(prog.map fun e=>e.body.sent.map fun to=>(e.name,to)).flatten
mutual
theorem Sy.d_pure:∀s:Sy,s.d.pure=true
  | .name x=>rfl
  | .bud=>rfl
  | .pair a b=>by simp only [Sy.d,D.pure,D.pures,a.d_pure,b.d_pure,Bool.and_self]
  | .left a=>by simp only [Sy.d,D.pure,D.pures,a.d_pure,Bool.and_self]
  | .right a=>by simp only [Sy.d,D.pure,D.pures,a.d_pure,Bool.and_self]
  | .fork a b c=>by simp only [Sy.d,D.pure,D.pures,a.d_pure,b.d_pure,c.d_pure,Bool.and_self]
  | .send x as=>by simp only [Sy.d,D.pure,D.pures,Sy.ds_pure as,Bool.and_self]
theorem Sy.ds_pure:∀as:List Sy,D.pures (Sy.ds as)=true
  | []=>rfl
  | a::as=>by simp only [Sy.ds,D.pures,a.d_pure,Sy.ds_pure as,Bool.and_self]
end
mutual
theorem Sy.d_deep:∀s:Sy,deepD s.d.dt≤2*s.deep
  | .name x=>by simp [Sy.d,D.dt,D.dts,deepD,deepDs,Sy.deep]
  | .bud=>by simp [Sy.d,D.dt,D.dts,deepD,deepDs,Sy.deep]
  | .pair a b=>by
    have h1:=a.d_deep
    have h2:=b.d_deep
    simp only [Sy.d,D.dt,D.dts,deepD,deepDs,Sy.deep];omega
  | .left a=>by
    have h1:=a.d_deep
    simp only [Sy.d,D.dt,D.dts,deepD,deepDs,Sy.deep];omega
  | .right a=>by
    have h1:=a.d_deep
    simp only [Sy.d,D.dt,D.dts,deepD,deepDs,Sy.deep];omega
  | .fork a b c=>by
    have h1:=a.d_deep
    have h2:=b.d_deep
    have h3:=c.d_deep
    simp only [Sy.d,D.dt,D.dts,deepD,deepDs,Sy.deep];omega
  | .send x as=>by
    have h1:=Sy.ds_deep as
    simp only [Sy.d,D.dt,D.dts,deepD,deepDs,Sy.deep];omega
theorem Sy.ds_deep:∀as:List Sy,deepDs (D.dts (Sy.ds as))≤2*Sy.deeps as
  | []=>by simp [Sy.ds,D.dts,deepDs]
  | a::as=>by
    have h1:=a.d_deep
    have h2:=Sy.ds_deep as
    simp only [Sy.ds,D.dts,deepDs,Sy.deeps];omega
end
theorem D.strs_pure (xs:List Str):D.pures (xs.map D.str)=true:=D.pures_iff.mpr fun d hd=>by
  obtain ⟨x,_,rfl⟩:=List.mem_map.mp hd
  rfl
theorem zm9 {ds:List Dt} {n:Nat} (h:∀d∈ds,deepD d≤n):deepDs ds≤n:=by
  induction ds with
  | nil=>simp [deepDs]
  | cons d r ih =>
    simp only [deepDs]
    have h1:=h d List.mem_cons_self
    have h2:=ih fun e he=>h e (List.mem_cons_of_mem _ he)
    omega
theorem D.strs_deep (xs:List Str):deepDs (D.dts (xs.map D.str))≤0:=by
  rw [D.dts_map]
  refine zm9 fun d hd=>?_
  obtain ⟨x,hx,rfl⟩:=List.mem_map.mp hd
  obtain ⟨y,_,rfl⟩:=List.mem_map.mp hx
  simp [D.dt,deepD]
theorem Er.d_pure (e:Er):e.d.pure=true:=by simp only [Er.d,D.pure,D.pures,D.strs_pure,e.body.d_pure,Bool.and_self]
theorem Er.d_deep (e:Er):deepD e.d.dt≤2*e.body.deep+2:=by
  have h1:=e.body.d_deep
  have h2:=D.strs_deep e.ps
  simp only [Er.d,D.dt,D.dts,deepD,deepDs]
  omega
end E3
namespace EE
open PySem PySem.Spec PyProof.Rows L2
end EE
namespace EE
open PySem PySem.Spec PyProof.Rows L2
end EE
namespace E3
open PySem PySem.Spec PyProof.Rows L2 EE
end E3
namespace E3
open PySem PySem.Spec PyProof.Rows L2 EE
end E3
namespace E3
open PySem PySem.Spec PyProof.Rows L2 EE
end E3
namespace EE
open PySem PySem.Spec PyProof.Rows L2
theorem zec:∀{ns:List Int} {us:List Value},Vals (ns.map V.int) us→∃ps:List (Int×Tok),us=ps.map (fun p=>.int p.1 p.2)∧ps.map (·.1)=ns
  | [],_,.nil=>⟨[],rfl,rfl⟩
  | n::ns,_,.cons r t=>by
    obtain ⟨tk,rfl⟩:=r
    obtain ⟨ps,rfl,e⟩:=zec t
    exact ⟨(n,tk)::ps,rfl,by rw [List.map_cons,e]⟩
theorem zj2:∀{bs:List Bool} {us:List Value},Vals (bs.map V.bl) us→us=bs.map Value.bool
  | [],_,.nil=>rfl
  | b::bs,_,.cons r t=>by
    cases r
    rw [zj2 t]
    rfl
section
variable {X:Cx}
theorem range_all (bs:List Bool):((List.range bs.length).all fun i=>bs.getD i true)=bs.all id:=by
  rw [Bool.eq_iff_iff,List.all_eq_true,List.all_eq_true]
  constructor
  · intro h b hb
    obtain ⟨j,hj,rfl⟩:=List.getElem_of_mem hb
    have:=h j (List.mem_range.mpr hj)
    rw [List.getD_eq_getElem?_getD,List.getElem?_eq_getElem hj] at this
    exact this
  · intro h j hj
    have hj':=List.mem_range.mp hj
    rw [List.getD_eq_getElem?_getD,List.getElem?_eq_getElem hj']
    exact h _ (List.getElem_mem hj')
theorem znh {prog:Program} {w:World} {A:Around} {bs:List Bool}:TruthOf prog w A (fun i v=>(bs.map Value.bool).toArray[i]?=some v) (fun i=>bs.getD i true):=by
  intro i v s Q E hP hQ
  rw [List.getElem?_toArray,List.getElem?_map] at hP
  obtain ⟨b,hb,rfl⟩:=Option.map_eq_some_iff.mp hP
  dsimp only at hQ
  rw [List.getD_eq_getElem?_getD,hb] at hQ
  exact wpAny_truthy_bool hQ
theorem zet (hc:X.calm=true):CallR X (.builtin "all") (fun xs H Q=>∃(a:Addr) (bs:List Bool),xs=[.ref a]∧SqL X.K H a (bs.map V.bl)∧Q (.bl (bs.all id)) H):=by
  intro pins s σ H xs us Q I r h
  obtain ⟨a,bs,rfl,hq,q⟩:=h
  obtain ⟨u,rfl,r1⟩:=vals1 r
  cases r1
  obtain ⟨its,rv,p,hz⟩:=I.list hq
  obtain rfl:=zj2 rv
  have pl:=p.isList
  have hlt:a<s.heap.objs.size:=by
    obtain ⟨_,e,_⟩:=pl
    exact Heap.lt_size e
  refine call_all_walk (wpAny_pyIter_list pl ⟨_,_,_,_,_,_,_,rfl,Walks.list (A:=X.A.in1) (I.ok.hd hc) s.heap.objs.size a (Nat.ne_of_lt hlt) (bs.map Value.bool).toArray,⟨⟨_,Heap.get?_push_size _ rfl,rfl,rfl⟩,pl.push _⟩,znh,fun h' tk hk=>?_⟩)
  have hz:(bs.map Value.bool).toArray.size=bs.length:=by simp
  rw [hz,range_all]
  refine ⟨.bl _,H,I.kept fun b o e=>hk b o (fun hm=>?_) (Heap.get?_push_of_some _ e),rfl,q⟩
  have e1:b=s.heap.objs.size:=by simpa using hm
  exact absurd (Heap.lt_size e) (by rw [e1];exact Nat.lt_irrefl _)
end
end EE
namespace E3
open PySem PySem.Spec PyProof.Rows L2 EE
section
variable {K:PySem.W.Frag}
theorem zoy {H:Hp} {bs:List Bool} {vs:List V} (h:Rps K H (bs.map D.bl) vs):vs=bs.map V.bl:=by
  induction bs generalizing vs with
  | nil=>cases h;rfl
  | cons n ns ih =>
    rw [List.map_cons] at h
    cases h with
    | cons h t=>cases h;rw [ih t];rfl
def all3 (f:List Bool→Bool):List D→Hp3→K3→Prop:=fun xs S Q=>∃(x:D) (bs:List Bool),xs=[x]∧IsL S x (bs.map D.bl)∧Q (.bl (f bs)) S
theorem zkp {f:List Bool→Bool}:DnC K (all3 f) (fun xs H Q=>∃(a:Addr) (bs:List Bool),xs=[.ref a]∧SqL K H a (bs.map V.bl)∧Q (.bl (f bs)) H):=by
  intro Z ds S Q3 vs H Q r l h c
  obtain ⟨x,bs,rfl,hx,q⟩:=h
  cases r with
  | cons r rr =>
    cases rr
    obtain ⟨a,ws,rfl,h1,h2⟩:=hx.down r l
    rw [zoy h2] at h1
    exact ⟨a,bs,rfl,h1,c _ S _ H (Kp.refl _ _) (.bl _) l q⟩
def chain3 (r r':R3) (ta tb tc:TE3):TE3:=fun σ S Q=>ta σ S fun x S1=>tb σ S1 fun y S2=>r x y S2 fun z S3=>∃k,z=.bl k∧(if k=true then tc σ S3 fun u S4=>r' y u S4 Q else Q (.bl false) S3)
theorem zgt {Z:Zt} {r r':R2} {r3 r3':R3} {ta tb tc:TE3} {τ:L2.St} {H:Hp} {Q:VK} (hd:Dn2 K r3 r) (hd':Dn2 K r3' r') (h:lE K Z (chain3 r3 r3' ta tb tc) τ H Q):tChain r r' (lE K Z ta) (lE K Z tb) (lE K Z tc) τ H Q:=by
  obtain ⟨σ,S,Q3,hs,hr,ht,hc⟩:=h
  refine ⟨σ,S,_,hs,hr,ht,fun x S1 v H1 k1 r1 l1 q1=>⟨σ,S1,_,hs.mono k1,l1,q1,fun y S2 w H2 k2 r2 l2 q2=>?_⟩⟩
  refine hd Z x y S2 _ v w H2 _ (r1.mono k2) r2 l2 q2 fun z S3 u H3 k3 r3 l3 q3=>?_
  obtain ⟨k,rfl,q3⟩:=q3
  cases r3
  refine ⟨k,rfl,?_⟩
  cases k with
  | false =>
    rw [if_neg Bool.false_ne_true] at q3 ⊢
    exact hc (.bl false) S3 _ H3 (k1.trans (k2.trans k3)) (.bl false) l3 q3
  | true =>
    rw [if_pos rfl] at q3 ⊢
    exact ⟨σ,S3,_,hs.mono (k1.trans (k2.trans k3)),l3,q3,fun u S4 u' H4 k4 r4 l4 q4=>hd' Z y u S4 _ w u' H4 _ (r2.mono (k3.trans k4)) r4 l4 q4 (hc.mono (k1.trans (k2.trans (k3.trans k4))))⟩
end
section
variable {X:Cx} {W3:W3T} {a b c:Expr} {ta tb tc:TE3} {pos:Pos} {op op':CmpOp} {r r':R2} {r3 r3':R3}
theorem zqq (ho:OpR X (compareOp op) r) (hd:Dn2 X.K r3 r) (ho':OpR X (compareOp op') r') (hd':Dn2 X.K r3' r') (ha:PE3 X W3 a ta) (hb:PE3 X W3 b tb) (hc:PE3 X W3 c tc) (hm:lastMarks [op,op'] [b,c]=false:=by with_unfolding_all rfl) :
    PE3 X W3 (.Compare a [op,op'] [b,c] pos) (chain3 r3 r3' ta tb tc):=fun Z=>PE.imp (zn6 ho ho' (ha Z) (hb Z) (hc Z) hm) fun _ _ _ h=>zgt hd hd' h
theorem zjc (ho:OpR X (compareOp op) r) (hd:Dn2 X.K r3 r) (ho':OpR X (compareOp op') r') (hd':Dn2 X.K r3' r') (ha:PE3 X W3 a ta) (hb:PE3 X W3 b tb) (hc:PE3 X W3 c tc) (hm:lastMarks [op,op'] [b,c]=false:=by with_unfolding_all rfl) :
    PT3 X W3 (.Compare a [op,op'] [b,c] pos) (test3 (chain3 r3 r3' ta tb tc)):=fun Z=>PT.imp (znu ho ho' (ha Z) (hb Z) (hc Z) hm) fun _ _ _ h=>zfq (fun _ _ _ h=>zgt hd hd' h) h
end
section
variable {σ:St3} {S:Hp3} {Q:K3} {ta tb tc:TE3} {r r':R3}
theorem j_chain (h:ta σ S fun x S1=>tb σ S1 fun y S2=>r x y S2 fun z S3=>∃k,z=.bl k∧(if k=true then tc σ S3 fun u S4=>r' y u S4 Q else Q (.bl false) S3)):chain3 r r' ta tb tc σ S Q:=h
theorem j_all {f:List Bool→Bool} {a:Addr} {bs:List Bool} (hS:S a=some (.lst (bs.map D.bl))) (q:Q (.bl (f bs)) S):all3 f [.ref a] S Q:=⟨_,bs,rfl,.inl ⟨a,rfl,hS⟩,q⟩
end
def ifm3 (c:TT3) (t u:TS3):TS3:=ifs3 c t u
theorem zd2 {X:Cx} {W3:W3T} {c:Expr} {a b:List Stmt} {tc:TT3} {t u:TS3} {pos:Pos} (hc:PT3 X W3 c tc) (ha:PSs3 X W3 a t) (hb:PSs3 X W3 b u):PS3 X W3 (.If c a b pos) (ifm3 tc t u):=s_if hc ha hb
theorem j_ifm {tc:TT3} {t u:TS3} {n:St3→Hp3→Prop} {rt:K3} {bk ct:St3→Hp3→Prop} {σ:St3} {S:Hp3} (Mid:St3→Hp3→Prop) (h1:∀n':St3→Hp3→Prop,(∀σ S,Mid σ S→n' σ S)→ifs3 tc t u ⟨n',rt,bk,ct⟩ σ S)
    (h2:∀σ S,Mid σ S→n σ S):ifm3 tc t u ⟨n,rt,bk,ct⟩ σ S:=h1 n h2
end E3
namespace E3
open PySem PySem.Spec PyProof.Rows L2 EE
noncomputable abbrev Mat:=List (List Int)
structure Mt (m n:Nat) (A:Mat):Prop where
  len:A.length=m
  row:∀r∈A,r.length=n
  num:∀r∈A,∀x∈r,0≤x∧x≤2
theorem zqn {S:Hp3} {d:D} {n:Nat} {Q:K3} (hp:d.pure=true) (hd:deepD d.dt≤n) (q:Q (.bl true) S):eqD3 n d d S Q:=⟨d.dt,d.dt,Dn.of hp,Dn.of hp,hd,by rw [zfo];exact q⟩
end E3
namespace E3
open PySem PySem.Spec PyProof.Rows L2 EE
end E3
namespace E3
open PySem PySem.Spec PyProof.Rows L2 EE
open Classical in
theorem zhi {α:Type} [DecidableEq α]:∀{ks ns:List α},ks.Nodup→(∀x∈ks,x∈ns)→ks.length≤ns.length
  | [],_,_,_=>Nat.zero_le _
  | k::ks,ns,h,hs=>by
    have hk:=hs k List.mem_cons_self
    have h1:=List.length_erase_of_mem hk
    have h2:0<ns.length:=List.length_pos_of_mem hk
    have h3:=zhi (ks:=ks) (ns:=ns.erase k) (List.nodup_cons.mp h).2 fun x hx=>by
      have hne:x≠k:=fun e=>(List.nodup_cons.mp h).1 (e▸hx)
      exact (List.mem_erase_of_ne hne).mpr (hs x (List.mem_cons_of_mem _ hx))
    simp only [List.length_cons]
    omega
end E3
namespace EE
open PySem PySem.Spec PyProof.Rows L2
end EE
namespace E3
open PySem PySem.Spec PyProof.Rows L2 EE
end E3
namespace EE
open PySem PySem.Spec PyProof.Rows L2
noncomputable def stS (σ:List Str) (v:Str):List Str:=if v∈σ then σ else σ++[v]
noncomputable def met (vs:List Str):List Str:=vs.foldl stS []
end EE
namespace EE
open PySem PySem.Spec PyProof.Rows L2
end EE
namespace E3
open PySem PySem.Spec PyProof.Rows L2 EE
end E3
namespace EE
open PySem PySem.Spec PyProof.Rows L2
end EE
namespace E3
open PySem PySem.Spec PyProof.Rows L2 EE
end E3
namespace EE
open PySem PySem.Spec PyProof.Rows L2
end EE
namespace E3
open PySem PySem.Spec PyProof.Rows L2 EE
end E3
namespace EE
open PySem PySem.Spec PyProof.Rows L2
end EE
namespace E3
open PySem PySem.Spec PyProof.Rows L2 EE
section
variable {K:PySem.W.Frag} {S:Hp3} {Q:K3}
theorem j_notinTS {xs:List Str} {z:Str} (q:Q (.bl (!decide (z∈xs))) S):in3 true (.str z) (.tup (xs.map D.str)) S Q :=
  ⟨_,.inr rfl,rfl,zm4 xs,by rw [zmo,if_pos rfl];exact q⟩
end
end E3
namespace E3
open PySem PySem.Spec PyProof.Rows L2 EE
end E3
namespace E3
open PySem PySem.Spec PyProof.Rows L2 EE
end E3
namespace E3
open PySem PySem.Spec PyProof.Rows L2 EE
end E3
namespace CL
section
variable {α:Type} [DecidableEq α]
variable {fit:α→α→Bool} {cmp:α→α→α}
theorem zhi {β:Type} [DecidableEq β]:∀{l c:List β},l.Nodup→(∀x∈l,x∈c)→l.length≤c.length
  | [],_,_,_=>Nat.zero_le _
  | x::l,c,h,hs=>by
    have hx:=hs x List.mem_cons_self
    have h1:=zhi (l:=l) (c:=c.erase x) (List.nodup_cons.mp h).2 fun y hy=>by
      refine (List.mem_erase_of_ne ?_).mpr (hs y (List.mem_cons_of_mem _ hy))
      rintro rfl
      exact (List.nodup_cons.mp h).1 hy
    rw [List.length_erase_of_mem hx] at h1
    have:0<c.length:=List.length_pos_of_mem hx
    rw [List.length_cons]
    omega
section
variable {β:Type} [DecidableEq β] {φ:α→β} {Gd:α→Prop} {C:List β} (inj:∀a b,Gd a→Gd b→φ a=φ b→a=b)
include inj
end
end
end CL
namespace EE
open PySem PySem.Spec PyProof.Rows L2
end EE
namespace EE
open PySem PySem.Spec PyProof.Rows L2
namespace FE
end FE
end EE
namespace E3
open PySem PySem.Spec PyProof.Rows L2 EE
end E3
namespace EE
open PySem PySem.Spec PyProof.Rows L2
end EE
namespace E3
open PySem PySem.Spec PyProof.Rows L2 EE
noncomputable abbrev Gr:=Str×Str×Mat
structure Gd (ar:Str→Option Nat) (g:Gr):Prop where
  ex:∃m n,ar g.1=some m∧ar g.2.1=some n∧1≤m∧1≤n∧m≤4∧n≤4∧Mt m n g.2.2
end E3
namespace E3
open PySem PySem.Spec PyProof.Rows L2 EE
end E3
namespace E3
open PySem PySem.Spec PyProof.Rows L2 EE
end E3
namespace E3
noncomputable abbrev cD (counts:List Nat):List D:=counts.map fun c:Nat=>D.int (c:Int)
end E3
namespace E3
open PySem PySem.Spec PyProof.Rows L2 EE
end E3
namespace E3
open PySem PySem.Spec PyProof.Rows L2 EE
noncomputable def tb (xs ys:List Str) (x:Str):Str:=ys.getD (xs.idxOf x) ""
end E3
namespace CL
end CL
namespace E3
open PySem PySem.Spec PyProof.Rows L2 EE
noncomputable def putI (f:Str) (d:D):List (Str×D)→List (Str×D)
  | []=>[(f,d)]
  | (k,x)::r=>if k=f then (k,d)::r else (k,x)::putI f d r
abbrev FP (K:PySem.W.Frag) (H:Hp) (fs:List (Str×D)) (ws:List (Str×V)):Prop:=Paired (fun (p:Str×D) (q:Str×V)=>p.1=q.1∧Rp K H p.2 q.2) fs ws
section
variable {K:PySem.W.Frag} {H:Hp}
theorem FP.look {f:Str} {d:D}:∀{fs:List (Str×D)} {ws:List (Str×V)},FP K H fs ws→fs.lookup f=some d→∃v,ws.lookup f=some v∧Rp K H d v
  | _,_,.nil,e=>by simp at e
  | (k,x)::fs,(k',y)::ws,.cons ⟨h1,h2⟩ t,e=>by
    have h1:k=k':=h1
    subst h1
    by_cases hb:(f==k)=true
    · simp only [List.lookup,hb] at e ⊢
      cases e
      exact ⟨_,rfl,h2⟩
    · have hb:(f==k)=false:=by simpa using hb
      simp only [List.lookup,hb] at e ⊢
      exact FP.look t e
theorem FP.none {f:Str}:∀{fs:List (Str×D)} {ws:List (Str×V)},FP K H fs ws→fs.lookup f=none→ws.lookup f=none
  | _,_,.nil,_=>rfl
  | (k,x)::fs,(k',y)::ws,.cons ⟨h1,h2⟩ t,e=>by
    have h1:k=k':=h1
    subst h1
    by_cases hb:(f==k)=true
    · simp only [List.lookup,hb] at e
      cases e
    · have hb:(f==k)=false:=by simpa using hb
      simp only [List.lookup,hb] at e ⊢
      exact FP.none t e
theorem FP.put {f:Str} {d:D} {v:V} (r:Rp K H d v):∀{fs:List (Str×D)} {ws:List (Str×V)},FP K H fs ws→FP K H (putI f d fs) (putF f v ws)
  | _,_,.nil=>.cons ⟨rfl,r⟩ .nil
  | (k,x)::fs,(k',y)::ws,.cons ⟨h1,h2⟩ t=>by
    have h1:k=k':=h1
    subst h1
    rw [show putF f v ((k,y)::ws)=(if k=f then (k,v)::ws else (k,y)::putF f v ws) from rfl,putI]
    by_cases hk:k=f
    · rw [if_pos hk,if_pos hk];exact .cons ⟨rfl,r⟩ t
    · rw [if_neg hk,if_neg hk];exact .cons ⟨rfl,h2⟩ (FP.put r t)
theorem FP.len:∀{fs:List (Str×D)} {ws:List (Str×V)},FP K H fs ws→fs.length=ws.length
  | _,_,.nil=>rfl
  | _,_,.cons _ t=>by simp [FP.len t]
theorem FP.mono {Z:Zt} {H':Hp} {fs:List (Str×D)} {ws:List (Str×V)} (k:Kp Z H H') (h:FP K H fs ws):FP K H' fs ws:=Paired.mapP h fun _ _ z=>⟨z.1,z.2.mono k⟩
end
def fldR (C:Addr) (f:Str):D→Hp3→K3→Prop:=fun x S Q=>∃a fs d,x=.ref a∧S a=some (.ins C fs)∧fs.lookup f=some d∧Q d S
def fld3 (C:Addr) (t:TE3) (f:Str):TE3:=fun σ S Q=>t σ S fun x S1=>fldR C f x S1 Q
def putR (C:Addr) (f:Str):D→D→Hp3→(Hp3→Prop)→Prop:=fun x y S q=>∃a fs,x=.ref a∧S a=some (.ins C fs)∧fs.length<1000∧q (up S a (.ins C (putI f y fs)))
def sfld3 (C:Addr) (ta tv:TE3) (f:Str):TS3:=fun D3 σ S=>tv σ S fun y S1=>ta σ S1 fun x S2=>putR C f x y S2 (D3.nx σ)
def methR (C:Addr) (m:Str) (k:Addr→Prop) (x:D) (S:Hp3):Prop:=∃a fs,x=.ref a∧S a=some (.ins C fs)∧fs.lookup m=none∧k a
def meth3 (C:Addr) (m:Str) (sp:Sp3) (W3:W3T) (ta:TE3) (t:TA3):TE3:=fun σ S Q=>ta σ S fun x S1=>methR C m (fun a=>t σ S1 fun ds S2=>sp (.ref a::ds) S2 Q (W3 σ)) x S1
def meth03 (C:Addr) (m:Str) (sp:Sp3) (W3:W3T) (ta:TE3):TE3:=fun σ S Q=>ta σ S fun x S1=>methR C m (fun a=>sp [.ref a] S1 Q (W3 σ)) x S1
def make3 (C:Addr) (sp:Sp3) (W3:W3T) (t:TA3):TE3:=fun σ S Q=>t σ S fun ds S1=>∀a,S1 a=none→sp (.ref a::ds) (up S1 a (.ins C [])) (fun d S2=>d=.non∧Q (.ref a) S2) (W3 σ)
section
variable {X:Cx} {W3:W3T} {o e value:Expr} {f:Str} {pos pos':Pos} {ta tv t:TE3} {C:Addr}
theorem zix (c:Cls X.K C) (n:NoAttr X.K C f) (he:PE3 X W3 e t) (hb:attributeBase e f X.env (eval e X.env)=eval e X.env):PE3 X W3 (.Attribute e f pos) (fld3 C t f):=by
  refine fun Z=>PE.imp (pe_fld (he Z) hb) fun τ H Q ⟨σ,S,Q3,hs,hr,ht,hc⟩=>?_
  refine ⟨σ,S,_,hs,hr,ht,fun d S1 v H1 k1 r1 l1 ⟨a,fs,d',e1,e2,e3,q⟩=>?_⟩
  subst e1
  cases r1
  obtain ⟨dx,ws,h1,h2⟩:=l1.obj a _ e2
  obtain ⟨v',h3,h4⟩:=FP.look h2 e3
  exact ⟨a,C,dx,ws,v',rfl,h1,c,n,h3,hc d' S1 v' H1 k1 h4 l1 q⟩
theorem s_fld (c:Cls X.K C) (n:NoAttr X.K C f) (ha:PE3 X W3 o ta) (hv:PE3 X W3 value tv) (hs:swapsWith value (some (.Attribute o f pos')) pos.line X.env=pure false):PS3 X W3 (.Assign [.Attribute o f pos'] value pos) (sfld3 C ta tv f):=by
  refine fun Z=>PS.imp (ps_fld (ha Z) (hv Z) hs) fun D τ H ⟨D3,σ,S,hs,hr,ht,hc⟩=>?_
  refine ⟨σ,S,_,hs,hr,ht,fun y S1 vy H1 k1 ry l1 q1=>⟨σ,S1,_,hs.mono k1,l1,q1,fun x S2 vx H2 k2 rx l2 ⟨a,fs,e1,e2,hl,q⟩=>?_⟩⟩
  subst e1
  cases rx
  obtain ⟨dx,ws,h1,h2⟩:=l2.obj a _ e2
  have k3:Kp Z.z H2 (upd H2 a (.ins C dx (putF f vy ws))):=Kp.at l2 e2
  refine ⟨a,C,dx,ws,rfl,h1,c,n,by rw [←FP.len h2];exact hl,hc.nx σ _ τ _ ((k1.trans k2).trans k3) (hs.mono ((k1.trans k2).trans k3)) (l2.put (o:=.ins C (putI f y fs)) k3 (l2.notZ e2) ⟨dx,_,za9,?_⟩) q⟩
  exact FP.put ((ry.mono k2).mono k3) (FP.mono k3 h2)
end
structure HasM (K:PySem.W.Frag) (C:Addr) (m q:Str) (st:Stmt) (ps:List Str):Prop where
  ex:∃f fd,Fun K m q st f fd∧Binds K fd ps []∧Meth K C m f
structure Met3 (P:Program) (w:World) (K:PySem.W.Frag) (mg:Str→Option Value) (base:Heap) (k:Nat) (C:Addr) (m:Str) (ps:List Str) (sp:Sp3):Prop where
  ex:∃f fd,FnOk P w K mg base (CX1 P w) k f fd ps (lSp K sp)∧Binds K fd ps []∧Meth K C m f
section
variable {P:Program} {w:World} {K:PySem.W.Frag} {mg:Str→Option Value} {base:Heap} {m q:Str} {C:Addr} {st:Stmt} {N ps:List Str} {k:Nat}
theorem Met3.mono {j k:Nat} {sp:Sp3} (M:Met3 P w K mg base j C m ps sp) (h:j≤k):Met3 P w K mg base k C m ps sp:=by
  obtain ⟨f,fd,F,r⟩:=M.ex
  exact ⟨f,fd,F.mono h,r⟩
theorem zd5 {f:Addr} {oc:Value} {od an:Option Addr} {osl:Array (Option Value)} {kV doc pm cdv ct:Value}
    (a:PySem.W.findIn K (.ref C) m=some (some (.ref f))) (i:PySem.W.isFn K (.ref f)=true) (l:K.lookup f=some ⟨oc,od,.func (PySem.W.fnOf m q (defArgs st) (defBody st) (defScope st) .none kV doc pm an cdv ct),osl⟩)
    (c:PySem.W.codeIn K cdv q=true) (k:PySem.W.keepIn K (.ref f)=true)
    (hb:∀(kV doc pm:Value) (an:Option Addr) (cdv ct:Value) (us:List Value),us.length=ps.length→bindArgs (PySem.W.fnOf m q (defArgs st) (defBody st) (defScope st) .none kV doc pm an cdv ct) ⟨us,[]⟩=pure (ps.zip us)):HasM K C m q st ps:=by
  have F:=zm2 (st:=st) l c k
  exact ⟨f,_,F,F.binds hb,a,i,k⟩
theorem HasM.met3 {sp:Sp3} (h:HasM K C m q st ps) (S:FnScope N ps (defScope st)) (len:∀vs H Q E,sp vs H Q E→vs.length=ps.length)
    (hbody:∀(f:Addr) (cdv:Value) (A:Around) (outer:List Env) (s:Shared) (H:Hp) (E:XK) (ds:List D) (S:Hp3) (Q:K3) (E3:X3),Room k (A.deeper (envOfC q (defScope st) s.heap.objs.size f cdv))→sp ds S Q E3 →
      ∃t,PSs3 (cxOf (CX1 P w) P w K mg base N q (defScope st) f cdv A outer s H E).nox NoX (defBody st) t∧t {nx:=fun _ S'=>Q .non S',rt:=Q} (start3 N ds) S):Met3 P w K mg base (k+1) C m ps sp:=by
  obtain ⟨f,fd,F,b,mt⟩:=h.ex
  obtain ⟨oc,od,kV,doc,pm,an,cdv,ct,osl,rfl,lk,hcd⟩:=F.ex
  refine ⟨f,_,zm3 lk hcd S (fun vs H Q E z_1=>by obtain ⟨Z,ds,S,Q3,E3,h1,_,h3,_,_⟩:=z_1;rw [←h1.len];exact len _ _ _ _ h3) fun A outer s H vs Q E hr ⟨Z,ds,S3,Q3,E3,h1,h2,h3,h4,_⟩=>?_,b,mt⟩
  obtain ⟨t,ht,q⟩:=hbody f cdv A outer s H E ds S3 Q3 E3 hr h3
  refine ⟨_,(ht (zx0 Z H)).nox,_,start3 N ds,S3,?_,h2.into,q,⟨?_,?_,?_,?_⟩⟩
  · unfold start3 L2.start
    rw [h1.len]
    exact zbq (SR.ofRps h1) (SR.nones _)
  · intro σ S' τ H' kk _ l q'
    exact h4 .non S' .non H' (kk.unhide fun _ z=>z) .non (l.out h2 kk) q'
  · exact fun _ _ _ _ _ _ _ z=>z
  · exact fun _ _ _ _ _ _ _ z=>z
  · exact fun d S' v H' kk r l q'=>h4 d S' v H' (kk.unhide fun _ z=>z) r (l.out h2 kk) q'
theorem HasM.none3 {sp:Sp3} (h:HasM K C m q st ps) (no:∀ds S Q E,¬sp ds S Q E) (j:Nat):Met3 P w K mg base j C m ps sp:=by
  obtain ⟨f,fd,F,b,mt⟩:=h.ex
  exact ⟨f,fd,⟨fun vs H Q E z_2=>by obtain ⟨_,_,_,_,_,_,_,z,_,_⟩:=z_2;exact absurd z (no _ _ _ _),fun A outer s H args us vs Q E _ _ _ _ z_3=>by obtain ⟨_,_,_,_,_,_,_,z,_,_⟩:=z_3;exact absurd z (no _ _ _ _)⟩,b,mt⟩
end
section
variable {X:Cx} {CX:CXT} {k:Nat} {f C:Addr} {fd:FuncData} {ps:List Str} {sp:Sp} {E:L2.St→XK} {x m:Str} {p pos apos:Pos} {e o:Expr} {es:List Expr} {ta:TE} {t:TA}
theorem zl1 {pins:List (Addr×Obj)} {σ:L2.St} {H:Hp} {s:Shared} {Q:VK} {us:List Value} {vs:List V} (F:FnOk X.prog X.w X.K X.mg X.base CX k f fd ps sp) (hr:Room k X.A) (hb:Binds X.K fd ps []) (hx:∀τ,PassesAt CX X (E τ) τ)
    (I:Inv X pins σ H s) (r:Vals vs us) (h:sp vs H Q (E σ)):wpAny (model X.prog X.w) X.A (call (.ref f) us) (EP X pins σ Q) X.xe s:=by
  have hl:us.length=ps.length:=by rw [←r.length];exact F.len _ _ _ _ h
  have hb':=hb s us I.kIn (by rw [List.append_nil];exact hl)
  rw [List.append_nil] at hb'
  refine wpAny_call (codeAny_mono (F.run X.A X.stack s H ⟨us,[]⟩ us vs Q (E σ) hr I.env0 hb' r h) fun r s' hq=>?_)
  cases r with
  | error e=>exact hx σ pins H s e s' I hq
  | ok fl =>
    cases fl with
    | ret u=>exact I.after hq
    | next=>exact False.elim hq
    | brk=>exact False.elim hq
    | cont=>exact False.elim hq
theorem zn2 {pl:Sem Bool} (he:PE X o ta) (c:Cls X.K C) (hm:Meth X.K C m f) (F:FnOk X.prog X.w X.K X.mg X.base CX k f fd ps sp) (hr:Room k X.A) (hb:Binds X.K fd ps []) (hx:∀τ,PassesAt CX X (E τ) τ) (ha:PA X (e::es) t)
    (hst:starEach (e::es) X.env=(false,eval e X.env)::starEach es X.env) (hpl:(backTo pos (starEach es X.env)).any (·.1)=false)
    (ht:eval (.Call (.Attribute o m apos) (e::es) [] pos) X.env=(do
      let ov ←eval o X.env
      standAt apos.atName
      let (f,first) ←holding [ov] (getMethod ov m pl)
      callWith pos f first (backTo pos (starEach (e::es) X.env)) (backToKw pos (keywordEach [] X.env)))) :
    PE X (.Call (.Attribute o m apos) (e::es) [] pos) (fun τ H Q=>ta τ H fun x H1=>∃a dx fs,x=.ref a∧H1 a=some (.ins C dx fs)∧fs.lookup m=none∧t τ H1 fun vs H2=>sp (.ref a::vs) H2 Q (E τ)):=by
  intro pins s σ H Q I h
  refine PySem.W.methodCall_KW (pl:=pl) (thn (he pins s σ H _ I h) fun u s1 ⟨x,H1,I1,rx,a,dx,fs,ex,ea,l,q⟩=>?_) ht
  subst ex
  obtain rfl:u=Value.ref a:=rx
  refine zgp I1 ea c hm l ?_
  refine PySem.W.callWith_K (first:=[.ref a]) (h₀:=X.base) I.ok.mod.kin hm.kp (thn (ha pos pins s1 σ H1 _ I1 q) fun us s2 ⟨vs,H2,I2,r,q2⟩=>⟨I2.kIn,?_⟩) hst hpl
  exact zl1 (us:=.ref a::us) (vs:=.ref a::vs) F hr hb hx I2 (.cons rfl r) q2
theorem zma {pl:Sem Bool} (he:PE X o ta) (c:Cls X.K C) (hm:Meth X.K C m f) (F:FnOk X.prog X.w X.K X.mg X.base CX k f fd ps sp) (hr:Room k X.A) (hb:Binds X.K fd ps []) (hx:∀τ,PassesAt CX X (E τ) τ)
    (ht:eval (.Call (.Attribute o m apos) [] [] pos) X.env=(do
      let ov ←eval o X.env
      standAt apos.atName
      let (f,first) ←holding [ov] (getMethod ov m pl)
      callWith pos f first (backTo pos (starEach [] X.env)) (backToKw pos (keywordEach [] X.env)))) :
    PE X (.Call (.Attribute o m apos) [] [] pos) (fun τ H Q=>ta τ H fun x H1=>∃a dx fs,x=.ref a∧H1 a=some (.ins C dx fs)∧fs.lookup m=none∧sp [.ref a] H1 Q (E τ)):=by
  intro pins s σ H Q I h
  refine PySem.W.methodCall_KW (pl:=pl) (thn (he pins s σ H _ I h) fun u s1 ⟨x,H1,I1,rx,a,dx,fs,ex,ea,l,q⟩=>?_) ht
  subst ex
  obtain rfl:u=Value.ref a:=rx
  refine zgp I1 ea c hm l ?_
  exact PySem.W.callWith_K0 (first:=[.ref a]) I1.kIn hm.kp (zl1 (us:=[.ref a]) (vs:=[.ref a]) F hr hb hx I1 (.cons rfl .nil) q)
theorem zn3 (M:Mk X.K C f) (F:FnOk X.prog X.w X.K X.mg X.base CX k f fd ps sp) (hr:Room (k+1) X.A) (hg:Gl X x) (hm:X.mg x=some (.ref C)) (hb:Binds X.K fd ps []) (hx:∀τ,PassesAt CX X (E τ) τ)
    (ha:PA X (e::es) t) (hdb:(x==("__debug__":Str))=false) (he:starEach (e::es) X.env=(false,eval e X.env)::starEach es X.env) (hpl:(backTo pos (starEach es X.env)).any (·.1)=false) :
    PE X (.Call (.Name x p) (e::es) [] pos) (fun τ H Q=>t τ H fun vs H1=>∀x dx,H1 x=none→H1 dx=none→dx≠x →
      sp (.ref x::vs) (upd (upd H1 dx (.own x)) x (.ins C dx [])) (fun v H2=>v=.non∧Q (.ref x) H2) (E τ)):=by
  intro pins s σ H Q I h
  refine wpAny_Call_Name_kw (zf3 I hg hm ?_ hdb)
  refine PySem.W.callWith_K (h₀:=X.base) I.ok.mod.kin M.kp (thn (ha pos pins s σ H _ I h) fun us s1 ⟨vs,H1,I1,r,q⟩=>⟨I1.kIn,?_⟩) he hpl
  have hq:=q (s1.heap.objs.size+1) s1.heap.objs.size (I1.hok.fresh (Nat.le_succ _)) (I1.hok.fresh (Nat.le_refl _)) (Nat.ne_of_lt (Nat.lt_succ_self _))
  have I2:=Inv.made (C:=C) I1
  have r2:Vals (V.ref (s1.heap.objs.size+1)::vs) (Value.ref (s1.heap.objs.size+1)::us):=.cons rfl r
  have hl:(Value.ref (s1.heap.objs.size+1)::us).length=ps.length:=by
    have e:=r2.length
    rw [F.len _ _ _ _ hq] at e
    exact e.symm
  have hb':=hb _ (Value.ref (s1.heap.objs.size+1)::us) I2.kIn (by rw [List.append_nil];exact hl)
  rw [List.append_nil] at hb'
  refine wpAny_call (zol (f:=f) I1.kIn M.makes M.init (beq_iff_eq.mp M.fn) (codeAny_mono (F.run _ X.stack _ _ ⟨Value.ref (s1.heap.objs.size+1)::us,[]⟩ (Value.ref (s1.heap.objs.size+1)::us) _ _ (E σ) (hr.make C us [])
    (I2.env0.make C us []) hb' r2 hq) fun r s' hq'=>?_))
  cases r with
  | error e=>exact hx σ pins _ _ e s' I2 hq'
  | ok fl =>
    cases fl with
    | ret u =>
      obtain ⟨v,H',I3,rv,ev,q3⟩:=I2.after hq'
      subst ev
      exact ⟨rv,⟨V.ref (s1.heap.objs.size+1),H',I3,rfl,q3⟩⟩
    | next=>exact False.elim hq'
    | brk=>exact False.elim hq'
    | cont=>exact False.elim hq'
end
section
variable {X:Cx} {W3:W3T} {k:Nat} {C:Addr} {m y:Str} {ps:List Str} {sp:Sp3} {pos apos p:Pos} {o e:Expr} {es:List Expr} {ta:TE3} {t:TA3}
theorem zer {pl:Sem Bool} (M:Met3 X.prog X.w X.K X.mg X.base k C m ps sp) (c:Cls X.K C) (hr:Room k X.A) (he:PE3 X W3 o ta) (ha:PA3 X W3 (e::es) t)
    (hst:starEach (e::es) X.env=(false,eval e X.env)::starEach es X.env:=by rfl) (hpl:(backTo pos (starEach es X.env)).any (·.1)=false:=by rfl)
    (ht:eval (.Call (.Attribute o m apos) (e::es) [] pos) X.env=(do
      let ov ←eval o X.env
      standAt apos.atName
      let (f,first) ←holding [ov] (getMethod ov m pl)
      callWith pos f first (backTo pos (starEach (e::es) X.env)) (backToKw pos (keywordEach [] X.env))):=by rfl) :
    PE3 X W3 (.Call (.Attribute o m apos) (e::es) [] pos) (meth3 C m sp W3 ta t):=by
  obtain ⟨f,fd,F,b,mt⟩:=M.ex
  refine fun Z=>PE.imp (zn2 (he Z) c mt F hr b Z.pass (ha Z) hst hpl ht) fun τ H Q ⟨σ,S,Q3,hs,hl,ht,hc⟩=>?_
  refine ⟨σ,S,_,hs,hl,ht,fun d S1 v H1 k1 r1 l1 ⟨a,fs,e1,e2,e3,q⟩=>?_⟩
  subst e1
  cases r1
  obtain ⟨dx,ws,h1,h2⟩:=l1.obj a _ e2
  refine ⟨a,dx,ws,rfl,h1,FP.none h2 e3,σ,S1,_,hs.mono k1,l1,q,fun ds S2 vs H2 k2 r2 l2 q2=>?_⟩
  exact ⟨Z.z,.ref a::ds,S2,Q3,W3 σ,.cons (.ref a) r2,l2,q2,hc.mono (k1.trans k2),fun C' a' S3 H3 k3 l3 ha z=>Z.ce σ τ C' a' S3 H3 (hs.mono ((k1.trans k2).trans k3)) l3 ha z⟩
theorem zd6 {pl:Sem Bool} (M:Met3 X.prog X.w X.K X.mg X.base k C m ps sp) (c:Cls X.K C) (hr:Room k X.A) (he:PE3 X W3 o ta)
    (ht:eval (.Call (.Attribute o m apos) [] [] pos) X.env=(do
      let ov ←eval o X.env
      standAt apos.atName
      let (f,first) ←holding [ov] (getMethod ov m pl)
      callWith pos f first (backTo pos (starEach [] X.env)) (backToKw pos (keywordEach [] X.env))):=by rfl) :
    PE3 X W3 (.Call (.Attribute o m apos) [] [] pos) (meth03 C m sp W3 ta):=by
  obtain ⟨f,fd,F,b,mt⟩:=M.ex
  refine fun Z=>PE.imp (zma (he Z) c mt F hr b Z.pass ht) fun τ H Q ⟨σ,S,Q3,hs,hl,ht,hc⟩=>?_
  refine ⟨σ,S,_,hs,hl,ht,fun d S1 v H1 k1 r1 l1 ⟨a,fs,e1,e2,e3,q⟩=>?_⟩
  subst e1
  cases r1
  obtain ⟨dx,ws,h1,h2⟩:=l1.obj a _ e2
  exact ⟨a,dx,ws,rfl,h1,FP.none h2 e3,Z.z,[.ref a],S1,Q3,W3 σ,.cons (.ref a) .nil,l1,q,hc.mono k1,fun C' a' S3 H3 k3 l3 ha z=>Z.ce σ τ C' a' S3 H3 (hs.mono (k1.trans k3)) l3 ha z⟩
theorem e_make (M:Met3 X.prog X.w X.K X.mg X.base k C "__init__" ps sp) (mk:PySem.W.makesIn X.K C=true) (kp:PySem.W.keepIn X.K (.ref C)=true) (hr:Room (k+1) X.A) (hg:Gl X y) (hm:X.mg y=some (.ref C)) (ha:PA3 X W3 (e::es) t)
    (hdb:(y==("__debug__":Str))=false:=by decide) (he:starEach (e::es) X.env=(false,eval e X.env)::starEach es X.env:=by rfl) (hpl:(backTo pos (starEach es X.env)).any (·.1)=false:=by rfl) :
    PE3 X W3 (.Call (.Name y p) (e::es) [] pos) (make3 C sp W3 t):=by
  obtain ⟨f,fd,F,b,mt⟩:=M.ex
  refine fun Z=>PE.imp (zn3 ⟨mk,mt.at_,mt.fn,kp⟩ F hr hg hm b Z.pass (ha Z) hdb he hpl) fun τ H Q ⟨σ,S,Q3,hs,hl,ht,hc⟩=>?_
  refine ⟨σ,S,_,hs,hl,ht,fun ds S1 vs H1 k1 r1 l1 q1 x dx hx hd hne=>?_⟩
  have l2:Rl X.K Z.z S1 (upd H1 dx (.own x)):=l1.lay hd
  have k2:Kp Z.z H1 (upd H1 dx (.own x)):=Kp.new hd (l1.fresh hd).2
  have hx2:upd H1 dx (.own x) x=none:=by rw [zar (Ne.symm hne)];exact hx
  have k3:Kp Z.z (upd H1 dx (.own x)) (upd (upd H1 dx (.own x)) x (.ins C dx [])):=Kp.new hx2 (l2.fresh hx2).2
  refine ⟨Z.z,.ref x::ds,up S1 x (.ins C []),_,W3 σ,.cons (.ref x) ((r1.mono k2).mono k3),l2.put (o:=.ins C []) k3 (l2.fresh hx2).2 ⟨dx,[],za9,.nil⟩,q1 x (l1.fresh hx).1,?_,fun C' a' S3 H3 k4 l3 ha z=>Z.ce σ τ C' a' S3 H3 (hs.mono (((k1.trans k2).trans k3).trans k4)) l3 ha z⟩
  rintro d S2 v H2 k4 r2 l4 ⟨ed,q2⟩
  subst ed
  cases r2
  exact ⟨rfl,hc (.ref x) S2 _ H2 (((k1.trans k2).trans k3).trans k4) (.ref x) l4 q2⟩
end
section
variable {K:PySem.W.Frag} {S:Hp3} {Q:K3} {σ:St3} {f m:Str} {a C:Addr} {fs:List (Str×D)} {d y:D} {t ta tv:TE3} {W3:W3T} {sp:Sp3}
theorem j_fld (q:t σ S fun x S1=>fldR C f x S1 Q):fld3 C t f σ S Q:=q
theorem j_fldR (hS:S a=some (.ins C fs)) (hl:fs.lookup f=some d) (q:Q d S):fldR C f (.ref a) S Q:=⟨a,fs,d,rfl,hS,hl,q⟩
theorem j_meth {t:TA3} (q:ta σ S fun x S1=>methR C m (fun a=>t σ S1 fun ds S2=>sp (.ref a::ds) S2 Q (W3 σ)) x S1):meth3 C m sp W3 ta t σ S Q:=q
theorem j_meth0 (q:ta σ S fun x S1=>methR C m (fun a=>sp [.ref a] S1 Q (W3 σ)) x S1):meth03 C m sp W3 ta σ S Q:=q
theorem j_make {t:TA3} (q:t σ S fun ds S1=>∀a,S1 a=none→sp (.ref a::ds) (up S1 a (.ins C [])) (fun d S2=>d=.non∧Q (.ref a) S2) (W3 σ)):make3 C sp W3 t σ S Q:=q
theorem j_sfld {n b c:St3→Hp3→Prop} {rt:K3} (q:tv σ S fun y S1=>ta σ S1 fun x S2=>putR C f x y S2 (n σ)):sfld3 C ta tv f ⟨n,rt,b,c⟩ σ S:=q
theorem j_putR {q:Hp3→Prop} (hS:S a=some (.ins C fs)) (hl:fs.length<1000) (h:q (up S a (.ins C (putI f y fs)))):putR C f (.ref a) y S q:=⟨a,fs,rfl,hS,hl,h⟩
end
end E3
namespace EE
open PySem PySem.Spec PyProof.Rows L2
end EE
namespace E3
open PySem PySem.Spec PyProof.Rows L2 EE
end E3
namespace E3
open PySem PySem.Spec PyProof.Rows L2 EE
section
variable {σ:St3} {S:Hp3} {Q:K3} {QT:Bool→Hp3→Prop} {QA:List D→Hp3→Prop} {ta tb te:TE3} {tA:TT3} {t u u':TS3} {al:TA3} {r:R3} {n b c:St3→Hp3→Prop} {rt:K3} {i i' i'':Nat} {d e d2 d3:D} {D3:Ends3} {sp:Sp3} {W3:W3T} {f:List D→Hp3→K3→Prop} {ds:List D} {k:Int} {a:Addr}
theorem j_qset (h:te σ S fun x S1=>u D3 (σ.set i (some x)) S1):seq3 (set3 i te) u D3 σ S:=h
theorem j_qdrop (h:te σ S fun _ S1=>u D3 σ S1):seq3 (drop3 te) u D3 σ S:=h
theorem j_qifs (h:tA σ S fun b' S1=>if b'=true then t ⟨u' ⟨n,rt,b,c⟩,rt,b,c⟩ σ S1 else u ⟨u' ⟨n,rt,b,c⟩,rt,b,c⟩ σ S1):seq3 (ifs3 tA t u) u' ⟨n,rt,b,c⟩ σ S:=h
theorem j_ixTv (h:σ[i]?=some (some (.tup ds))) (hd:atI ds k=some d) (q:Q d S):o3 ixT3 (v3 i) (c3 (.int k)) σ S Q:=⟨_,h,ds,k,d,rfl,rfl,hd,q⟩
theorem j_tixS {x z:Str} (h:σ[i]?=some (some (.tup ds))) (hx:atI ds k=some (.str x)) (q:QT (decide (x=z)) S):test3 (o3 eqS3 (o3 ixT3 (v3 i) (c3 (.int k))) (c3 (.str z))) σ S QT:=⟨_,h,ds,k,_,rfl,rfl,hx,x,z,rfl,rfl,_,rfl,q⟩
theorem j_tovc (h:σ[i]?=some (some d)) (q:r d e S fun z S'=>∃k,z=.bl k∧QT k S'):test3 (o3 r (v3 i) (c3 e)) σ S QT:=⟨d,h,q⟩
theorem j_txc (q:ta σ S fun x S1=>r x e S1 fun z S'=>∃k,z=.bl k∧QT k S'):test3 (o3 r ta (c3 e)) σ S QT:=q
theorem j_txo (q:ta σ S fun x S1=>tb σ S1 fun y S2=>r x y S2 fun z S'=>∃k,z=.bl k∧QT k S'):test3 (o3 r ta tb) σ S QT:=q
theorem j_ovc (h:σ[i]?=some (some d)) (q:r d e S Q):o3 r (v3 i) (c3 e) σ S Q:=⟨d,h,q⟩
theorem j_ovv (h:σ[i]?=some (some d)) (h':σ[i']?=some (some e)) (q:r d e S Q):o3 r (v3 i) (v3 i') σ S Q:=⟨d,h,e,h',q⟩
theorem j_ov (h:σ[i]?=some (some d)) (q:tb σ S fun y S2=>r d y S2 Q):o3 r (v3 i) tb σ S Q:=⟨d,h,q⟩
theorem j_oc (q:tb σ S fun y S2=>r d y S2 Q):o3 r (c3 d) tb σ S Q:=q
theorem j_xc (q:ta σ S fun x S1=>r x e S1 Q):o3 r ta (c3 e) σ S Q:=q
theorem j_kv1 (h:σ[i]?=some (some d)) (q:f [d] S Q):cb3 f (cons3 (v3 i) nil3) σ S Q:=⟨d,h,q⟩
theorem j_ke1 (q:te σ S fun x S1=>f [x] S1 Q):cb3 f (cons3 te nil3) σ S Q:=q
theorem j_fv1 (h:σ[i]?=some (some d)) (q:sp [d] S Q (W3 σ)):call3 sp W3 (cons3 (v3 i) nil3) σ S Q:=⟨d,h,q⟩
theorem j_fe1 (q:te σ S fun x S1=>sp [x] S1 Q (W3 σ)):call3 sp W3 (cons3 te nil3) σ S Q:=q
theorem j_fv2 (h:σ[i]?=some (some d)) (h2:σ[i']?=some (some d2)) (q:sp [d,d2] S Q (W3 σ)):call3 sp W3 (cons3 (v3 i) (cons3 (v3 i') nil3)) σ S Q:=⟨d,h,d2,h2,q⟩
theorem j_fv3 (h:σ[i]?=some (some d)) (h2:σ[i']?=some (some d2)) (h3:σ[i'']?=some (some d3)) (q:sp [d,d2,d3] S Q (W3 σ)):call3 sp W3 (cons3 (v3 i) (cons3 (v3 i') (cons3 (v3 i'') nil3))) σ S Q:=⟨d,h,d2,h2,d3,h3,q⟩
theorem j_cvn (h:σ[i]?=some (some d)) (q:QA [d] S):cons3 (v3 i) nil3 σ S QA:=⟨d,h,q⟩
theorem j_cv (h:σ[i]?=some (some d)) (q:al σ S fun xs S2=>QA (d::xs) S2):cons3 (v3 i) al σ S QA:=⟨d,h,q⟩
theorem j_ccn (q:QA [d] S):cons3 (c3 d) nil3 σ S QA:=q
theorem j_cc (q:al σ S fun xs S2=>QA (d::xs) S2):cons3 (c3 d) al σ S QA:=q
theorem j_cen (q:te σ S fun x S1=>QA [x] S1):cons3 te nil3 σ S QA:=q
end
end E3
namespace EE
open PySem PySem.Spec PyProof.Rows L2
end EE
namespace E3
open PySem PySem.Spec PyProof.Rows L2 EE
end E3
namespace EE
open PySem PySem.Spec PyProof.Rows L2
end EE
namespace E3
open PySem PySem.Spec PyProof.Rows L2 EE
end E3
namespace EE
open PySem PySem.Spec PyProof.Rows L2 Builtin Builtin.Str
section
variable {X:Cx}
noncomputable def partS (a b:Str):List Str:=match occurrences a b 0 a.length 1 with
  | i::_=>[strSub a 0 i,b,strSub a (i+b.length) a.length]
  | []=>[a,Str.empty,Str.empty]
def rPart:V→List V→Hp→VK→Prop:=fun x vs H Q=>∃a b,x=.str a∧vs=[.str b]∧(b.length==0)=false∧a.length≤sizeLine∧∀T,H T=none→Q (.ref T) (upd H T (.tup ((partS a b).map V.str)))
theorem zji:MtR X "str.partition" rPart:=by
  intro pins s σ H x vs v us Q I rx rv h
  obtain ⟨a,b,rfl,rfl,hb,ha,q⟩:=h
  obtain ⟨t,rfl⟩:=rx
  obtain ⟨u,rfl,ru⟩:=rv.one
  obtain ⟨t',rfl⟩:=ru
  refine call_meets PySem.F.slot_str_partition (typeIs_str _ _ _) PySem.F.entry_str_partition (PySem.F.args_str_partition_2 _ _) (meets_str_partition a b t t' hb ha) ?_
  have fr:=q _ (I.hok.fresh (Nat.le_refl _))
  have mk:∀(xs:List Str) (us:List Value) (tk:Nat),xs.length≤3→Vals (xs.map V.str) us→partS a b=xs→EP X pins σ Q (.ref s.heap.objs.size) {s with toks:=tk,heap:=s.heap.push {cls:=.type "tuple",data:=.seq us.toArray}}:=by
    intro xs us tk hl r e
    rw [e] at fr
    exact ⟨.ref s.heap.objs.size,_,I.laid (t':=tk) (fun b o e=>Heap.get?_push_of_some _ e) (Nat.le_refl _) (show ObjOk X.prog X.w _ _ _ (.tup (xs.map V.str)) from ⟨by rw [List.length_map];exact Nat.le_trans hl (by decide),us,r,IsTup.new _ _,fun o q=>by rw [Heap.get?_push_size _ rfl] at q;cases q;rfl⟩),rfl,fr⟩
  show wants _ _ (.ok (.ret (.ref s.heap.objs.size))) _
  cases ho:occurrences a b 0 a.length 1 with
  | nil =>
    refine mk [a,Str.empty,Str.empty] _ _ (show 3≤3 by decide) ?_ (by unfold partS;rw [ho])
    exact .cons ⟨_,rfl⟩ (.cons ⟨_,rfl⟩ (.cons ⟨_,rfl⟩ .nil))
  | cons i r =>
    refine mk [strSub a 0 i,b,strSub a (i+b.length) a.length] _ _ (show 3≤3 by decide) ?_ (by unfold partS;rw [ho])
    exact .cons ⟨_,rfl⟩ (.cons ⟨_,rfl⟩ (.cons ⟨_,rfl⟩ .nil))
def rSplit:V→List V→Hp→VK→Prop:=fun x vs H Q=>∃a b,x=.str a∧vs=[.str b]∧(b.length==0)=false∧a.length≤sizeLine∧(partsBetween a (occurrences a b 0 a.length (a.length+1)) b.length).length≤sizeLine∧(Txt.split a b).length≤sizeLine∧∀T,H T=none→Q (.ref T) (upd H T (.lst ((Txt.split a b).map V.str)))
theorem zeb:∀(xs:List Str) (tk:Nat),Vals (xs.map V.str) (strsFrom tk xs)
  | [],_=>.nil
  | x::r,tk=>.cons ⟨tk,rfl⟩ (zeb r (tk+1))
theorem zir:MtR X "str.split" rSplit:=by
  intro pins s σ H x vs v us Q I rx rv h
  obtain ⟨a,b,rfl,rfl,hb,ha,hn,hz,q⟩:=h
  obtain ⟨t,rfl⟩:=rx
  obtain ⟨u,rfl,ru⟩:=rv.one
  obtain ⟨t',rfl⟩:=ru
  have fr:=q _ (I.hok.fresh (Nat.le_refl _))
  have mk:∀(xs:List Str) (us:List Value) (tk:Nat),Vals (xs.map V.str) us→Txt.split a b=xs→EP X pins σ Q (.ref s.heap.objs.size) {s with toks:=tk,heap:=s.heap.push {cls:=.type "list",data:=.seq us.toArray}}:=by
    intro xs us tk r e
    rw [e] at fr hz
    exact ⟨.ref s.heap.objs.size,_,I.laid (t':=tk) (fun b o e=>Heap.get?_push_of_some _ e) (Nat.le_refl _) (show ObjOk X.prog X.w _ _ _ (.lst (xs.map V.str)) from ⟨by rw [List.length_map];exact hz,us,0,r,Heap.get?_push_size _ rfl⟩),rfl,fr⟩
  cases h1:(decide (a.length<b.length)||decide (strKind a<strKind b)) with
  | false =>
    cases hf:(occurrences a b 0 a.length (a.length+1)).isEmpty with
    | false =>
      refine call_meets PySem.F.slot_str_split (typeIs_str _ _ _) PySem.F.entry_str_split (PySem.F.args_str_split_2 _ _) (meets_str_split_sep a b t t' h1 hb hf ha hn) ?_
      exact mk _ _ _ (zeb _ _) ((if_neg (ne_true_of_eq_false h1)).trans (if_neg (ne_true_of_eq_false hf)))
    | true =>
      refine call_meets PySem.F.slot_str_split (typeIs_str _ _ _) PySem.F.entry_str_split (PySem.F.args_str_split_2 _ _) (meets_str_split_not_found a b t t' h1 hb hf) ?_
      exact mk [a] _ _ (.cons ⟨_,rfl⟩ .nil) ((if_neg (ne_true_of_eq_false h1)).trans (if_pos hf))
  | true =>
    refine call_meets PySem.F.slot_str_split (typeIs_str _ _ _) PySem.F.entry_str_split (PySem.F.args_str_split_2 _ _) (meets_str_split_cannot_occur a b t t' h1) ?_
    exact mk [a] _ _ (.cons ⟨_,rfl⟩ .nil) (if_pos h1)
def rStrip:V→List V→Hp→VK→Prop:=fun x vs H Q=>∃a,x=.str a∧vs=[]∧a.length≤sizeLine∧Q (.str (Txt.strip a)) H
theorem ziq:MtR X "str.strip" rStrip:=by
  intro pins s σ H x vs v us Q I rx rv h
  obtain ⟨a,rfl,rfl,ha,q⟩:=h
  obtain ⟨t,rfl⟩:=rx
  cases rv
  exact SC.strip (fun t' k=>⟨.str _,H,I.tok _,⟨_,rfl⟩,q⟩) ha
theorem zij:OpR X (compareOp .LtE) (fun x y H Q=>∃i j,x=.str i∧y=.str j∧Q (.bl (!decide (j.cps.toList<i.cps.toList))) H):=by
  intro pins s σ H x y v u Q I rx ry h
  obtain ⟨i,j,rfl,rfl,q⟩:=h
  obtain ⟨t,rfl⟩:=rx
  obtain ⟨t',rfl⟩:=ry
  exact PySem.P.le_str (za7 I q rfl)
end
end EE
namespace E3
open PySem PySem.Spec PyProof.Rows L2 EE
section
variable {K:PySem.W.Frag} {S:Hp3} {Q:K3}
theorem zg7 {H:Hp}:∀xs:List Str,Rps K H (xs.map D.str) (xs.map V.str)
  | []=>.nil
  | x::xs=>.cons (.str x) (zg7 xs)
def partT3:D→List D→Hp3→K3→Prop:=fun x ys S Q=>∃a b,x=.str a∧ys=[.str b]∧(b.length==0)=false∧a.length≤sizeLine∧Q (.tup ((partS a b).map D.str)) S
theorem zqs:DnM K partT3 rPart:=by
  intro Z x ds S Q3 v vs H Q rx r l h c
  obtain ⟨a,b,rfl,rfl,hb,ha,q⟩:=h
  cases rx
  cases r with
  | cons r rr =>
    cases rr
    cases r
    exact ⟨a,b,rfl,rfl,hb,ha,tup.down q (zg7 _) l c⟩
def split3:D→List D→Hp3→K3→Prop:=fun x ys S Q=>∃a b,x=.str a∧ys=[.str b]∧(b.length==0)=false∧a.length≤sizeLine∧(Builtin.Str.partsBetween a (Builtin.Str.occurrences a b 0 a.length (a.length+1)) b.length).length≤sizeLine∧(Txt.split a b).length≤sizeLine∧newL S ((Txt.split a b).map D.str) Q
theorem zou:DnM K split3 rSplit:=by
  intro Z x ds S Q3 v vs H Q rx r l h c
  obtain ⟨a,b,rfl,rfl,hb,ha,hn,hz,q⟩:=h
  cases rx
  cases r with
  | cons r rr =>
    cases rr
    cases r
    exact ⟨a,b,rfl,rfl,hb,ha,hn,hz,newL.down q (zg7 _) l c⟩
def strip3:D→List D→Hp3→K3→Prop:=fun x ys S Q=>∃a,x=.str a∧ys=[]∧a.length≤sizeLine∧Q (.str (Txt.strip a)) S
theorem zot:DnM K strip3 rStrip:=by
  intro Z x ds S Q3 v vs H Q rx r l h c
  obtain ⟨a,rfl,rfl,ha,q⟩:=h
  cases rx
  cases r
  exact ⟨a,rfl,rfl,ha,c _ S _ H (Kp.refl _ _) (.str _) l q⟩
def leS3:R3:=fun x y S Q=>∃i j,x=.str i∧y=.str j∧Q (.bl (!decide (j.cps.toList<i.cps.toList))) S
theorem zpg:Dn2 K leS3 (fun x y H Q=>∃i j,x=.str i∧y=.str j∧Q (.bl (!decide (j.cps.toList<i.cps.toList))) H):=by
  intro Z x y S Q3 v w H Q rx ry l h c
  obtain ⟨i,j,rfl,rfl,q⟩:=h
  cases rx
  cases ry
  exact ⟨i,j,rfl,rfl,c _ S _ H (Kp.refl _ _) (.bl _) l q⟩
theorem j_partS {a b:Str} (hb:(b.length==0)=false) (ha:a.length≤sizeLine) (q:Q (.tup ((partS a b).map D.str)) S):partT3 (.str a) [.str b] S Q:=⟨a,b,rfl,rfl,hb,ha,q⟩
theorem j_strip {a:Str} (ha:a.length≤sizeLine) (q:Q (.str (Txt.strip a)) S):strip3 (.str a) [] S Q:=⟨a,rfl,rfl,ha,q⟩
theorem j_leS {i j:Str} (q:Q (.bl (!decide (j.cps.toList<i.cps.toList))) S):leS3 (.str i) (.str j) S Q:=⟨i,j,rfl,rfl,q⟩
end
section
variable {X:Cx} {W3:W3T} {C:Addr} {f:Str} {o value:Expr} {ta tv:TE3} {pos tpos:Pos} {σ:St3} {S:Hp3}
def faug3 (C:Addr) (ta tv:TE3) (f:Str):TS3:=fun D3 σ S=>ta σ S fun x S1=>∃a fs i,x=.ref a∧S1 a=some (.ins C fs)∧fs.lookup f=some (.int i)∧tv σ S1 fun y S2=>∃j fs',y=.int j∧S2 a=some (.ins C fs')∧fs'.length<1000∧D3.nx σ (up S2 a (.ins C (putI f (.int (i+j)) fs')))
theorem zh8 (c:Cls X.K C) (n:NoAttr X.K C f) (ha:PE3 X W3 o ta) (hv:PE3 X W3 value tv):PS3 X W3 (.AugAssign (.Attribute o f tpos) .Add value pos) (faug3 C ta tv f):=by
  refine fun Z=>PS.imp (zl4 (ha Z) (hv Z) in_add) fun D τ H ⟨D3,σ,S,hs,hr,ht,hc⟩=>?_
  refine ⟨σ,S,_,hs,hr,ht,fun x S1 vx H1 k1 rx l1 ⟨a,fs,i,e1,e2,e3,q⟩=>?_⟩
  subst e1
  cases rx
  obtain ⟨dx,ws,h1,h2⟩:=l1.obj a _ e2
  obtain ⟨v,hv1,rv⟩:=FP.look h2 e3
  cases rv
  refine ⟨a,C,dx,ws,_,rfl,h1,c,n,hv1,σ,S1,_,hs.mono k1,l1,q,fun y S2 vy H2 k2 ry l2 ⟨j,fs',e4,e5,hl,q2⟩=>?_⟩
  subst e4
  cases ry
  obtain ⟨dx',ws',h3,h4⟩:=l2.obj a _ e5
  have k3:Kp Z.z H2 (upd H2 a (.ins C dx' (putF f (.int (i+j)) ws'))):=Kp.at l2 e5
  refine ⟨i,j,rfl,rfl,dx',ws',h3,by rw [←FP.len h4];exact hl,hc.nx σ _ τ _ ((k1.trans k2).trans k3) (hs.mono ((k1.trans k2).trans k3)) (l2.put (o:=.ins C (putI f (.int (i+j)) fs')) k3 (l2.notZ e5) ⟨dx',_,za9,?_⟩) q2⟩
  exact FP.put (.int _) (FP.mono k3 h4)
def faugA (C:Addr) (tv:TE3) (f:Str) (n:St3→Hp3→Prop) (σ:St3) (x:D) (S:Hp3):Prop:=∃a fs i,x=.ref a∧S a=some (.ins C fs)∧fs.lookup f=some (.int i)∧tv σ S fun y S2=>∃j fs',y=.int j∧S2 a=some (.ins C fs')∧fs'.length<1000∧n σ (up S2 a (.ins C (putI f (.int (i+j)) fs')))
theorem j_faug {n b c:St3→Hp3→Prop} {rt:K3} (q:ta σ S fun x S1=>faugA C tv f n σ x S1):faug3 C ta tv f ⟨n,rt,b,c⟩ σ S:=q
theorem j_faugA {n:St3→Hp3→Prop} {a:Addr} {fs:List (Str×D)} {i j:Int} (hS:S a=some (.ins C fs)) (hf:fs.lookup f=some (.int i)) (hl:fs.length<1000) (q:n σ (up S a (.ins C (putI f (.int (i+j)) fs)))):faugA C (c3 (.int j)) f n σ (.ref a) S:=⟨a,fs,i,rfl,hS,hf,j,fs,rfl,hS,hl,q⟩
end
noncomputable def tcs (kvs:List (Str×Str)):List (TE×TE):=kvs.map fun kv=>(tC (.str kv.1),tC (.str kv.2))
theorem zid:∀(kvs:List (Str×Str)) (τ:L2.St) (H:Hp) (Q:List (V×V)→Hp→Prop),Q (kvs.map fun kv=>(V.str kv.1,V.str kv.2)) H→tPairs (tcs kvs) τ H Q
  | [],_,_,_,h=>h
  | _::kvs,τ,H,Q,h=>zid kvs τ H _ h
noncomputable def dicV (kvs:List (Str×Str)):List (Key×V):=kvs.map fun kv=>(.inr kv.1,.str kv.2)
noncomputable def dicD (kvs:List (Str×Str)):List (Key×D):=kvs.map fun kv=>(.inr kv.1,.str kv.2)
def dispC3 (kvs:List (Str×Str)):TE3:=fun _ S Q=>∀p,S p=none→Q (.ref p) (up S p (.dic (dicD kvs)))
theorem zkq {K:PySem.W.Frag} {H:Hp}:∀kvs:List (Str×Str),KR K H (dicD kvs) (dicV kvs)
  | []=>.nil
  | _::kvs=>.cons ⟨rfl,.str _⟩ (zkq kvs)
theorem zis:∀(kvs:List (Str×Str)) (acc:List (Key×V)),(∀kv∈kvs,valV acc (Sum.inr kv.1)=none)→(kvs.map Prod.fst).Nodup→mergeK acc (dicV kvs)=acc++dicV kvs
  | [],acc,_,_=>by simp [mergeK,dicV]
  | kv::kvs,acc,h,nd=>by
    have e:mergeK acc (dicV (kv::kvs))=mergeK (putK acc (Sum.inr kv.1) (V.str kv.2)) (dicV kvs):=rfl
    rw [e,znt _ (h kv List.mem_cons_self),zis kvs _ _ (List.nodup_cons.mp nd).2]
    · simp [dicV]
    · intro x hx
      have hne:x.1≠kv.1:=fun z=>(List.nodup_cons.mp nd).1 (z▸List.mem_map_of_mem hx)
      have h1:=h x (List.mem_cons_of_mem _ hx)
      unfold valV at h1 ⊢
      rw [Option.map_eq_none_iff,List.find?_eq_none] at h1 ⊢
      intro y hy
      rcases List.mem_append.mp hy with hy|hy
      · exact h1 y hy
      · rw [List.mem_singleton.mp hy]
        intro z
        have z:=of_decide_eq_true z
        exact hne (Sum.inr.inj z).symm
theorem zlg {K:PySem.W.Frag} {Z:Zt} {kvs:List (Str×Str)} (nd:(kvs.map Prod.fst).Nodup) (h15:kvs.length≤15) {τ:L2.St} {H:Hp} {Q:VK} (h:lE K Z (dispC3 kvs) τ H Q):tDisp (tcs kvs) τ H Q:=by
  obtain ⟨σ,S,Q3,hs,hr,ht,hc⟩:=h
  intro p hp
  obtain ⟨hsp,hzp⟩:=hr.fresh hp
  refine zid kvs τ _ _ ⟨za9,dicV kvs,?_,by unfold dicV;rw [List.length_map];exact h15,?_⟩
  · unfold dicV;rw [List.map_map];rfl
  rw [zis kvs [] (fun _ _=>rfl) nd,List.nil_append]
  have kp:Kp Z H (upd H p (.dK [])):=Kp.new hp hzp
  have hp2:upd H p (HO.dK []) p=some (.dK []):=za9
  have kw:Kp Z (upd H p (.dK [])) (upd (upd H p (.dK [])) p (.dK (dicV kvs))):=by
    refine ⟨fun b xs e=>?_,fun b q u e=>?_,fun b z=>?_⟩
    · by_cases c:b=p
      · subst c;rw [hp2] at e;cases e
      · rw [zar c];exact e
    · by_cases c:b=p
      · subst c;rw [hp2] at e;cases e
      · rw [zar c];exact e
    · rw [zar];rintro rfl;exact hzp z
  have l0:Rl K Z S (upd H p (.dK [])):=hr.lay hp
  exact hc (.ref p) (up S p (.dic (dicD kvs))) (.ref p) _ (kp.trans kw) (.ref p) (l0.put kw hzp ⟨_,za9,zkq kvs⟩) (ht p hsp)
theorem zqp {X:Cx} {W3:W3T} {ks:List (Option Expr)} {vs:List Expr} {pos:Pos} {kvs:List (Str×Str)} (h:PPs X pos ks vs (tcs kvs)) (nd:(kvs.map Prod.fst).Nodup) (h15:kvs.length≤15) (hall:ks.all (·.isSome)=true) (hl:ks.length=vs.length) (h0:ks≠[]) (hk:ks.length≤15):PE3 X W3 (.Dict ks vs pos) (dispC3 kvs):=fun _ =>
  PE.imp (zp4 h hall hl h0 hk) fun _ _ _ h=>zlg nd h15 h
theorem dc_nil {X:Cx} {pos:Pos}:PPs X pos [] [] (tcs []):=zp0
theorem zhu {X:Cx} {pos p1 p2:Pos} {k v:Str} {j1 j2} {ks:List (Option Expr)} {vs:List Expr} {kvs:List (Str×Str)} (h:PPs X pos ks vs (tcs kvs)):PPs X pos (some (.Constant (.str k) j1 p1)::ks) (.Constant (.str v) j2 p2::vs) (tcs ((k,v)::kvs)):=znz zl9 zl9 h
theorem j_dispC {σ:St3} {S:Hp3} {Q:K3} {kvs:List (Str×Str)} (h:∀p,S p=none→Q (.ref p) (up S p (.dic (dicD kvs)))):dispC3 kvs σ S Q:=h
end E3
namespace EE
open PySem PySem.Spec PyProof.Rows L2
def rJoinT (K:PySem.W.Frag):V→List V→Hp→VK→Prop:=fun x vs H Q=>∃sep l ys,x=.str sep∧vs=[.ref l]∧SqT K H l (ys.map V.str)∧(ys.map (·.length)).sum+ys.length*sep.length≤16777216∧Q (.str (Txt.join sep ys)) H
theorem zbn {X:Cx}:MtR X "str.join" (rJoinT X.K):=by
  intro pins s σ H x vs v us Q I rx rv h
  obtain ⟨sep,l,ys,rfl,rfl,hl,hz,q⟩:=h
  obtain ⟨t,rfl⟩:=rx
  obtain ⟨u,rfl,ru⟩:=rv.one
  cases ru
  obtain ⟨its,r,pl,hn⟩:=I.tuple hl
  exact join_tuple pl (by simpa using zgi r) hz fun t' k=>⟨.str _,H,I.tok _,⟨_,rfl⟩,q⟩
end EE
namespace E3
open PySem PySem.Spec PyProof.Rows L2 EE
section
variable {K:PySem.W.Frag} {S:Hp3} {Q:K3}
def joinT3:D→List D→Hp3→K3→Prop:=fun x ys S Q=>∃sep xs,x=.str sep∧ys=[.tup (xs.map D.str)]∧(xs.map (·.length)).sum+xs.length*sep.length≤16777216∧Q (.str (Txt.join sep xs)) S
theorem zfu {H:Hp}:∀{xs:List Str} {vs:List V},Rps K H (xs.map D.str) vs→vs=xs.map V.str
  | [],_,h=>by cases h;rfl
  | x::xs,_,h=>by
    cases h with
    | cons r rr =>
      cases r
      rw [zfu rr]
      rfl
theorem zdc:DnM K joinT3 (rJoinT K):=by
  intro Z x ds S Q3 v vs H Q rx r l h c
  obtain ⟨sep,xs,rfl,rfl,hz,q⟩:=h
  cases rx
  cases r with
  | cons r rr =>
    cases rr
    cases r with
    | tup h1 h2 =>
      rw [zfu h2] at h1
      exact ⟨sep,_,xs,rfl,rfl,h1,hz,c _ S _ H (Kp.refl _ _) (.str _) l q⟩
end
section
variable {X:Cx} {W3:W3T} {e:Expr} {pos:Pos}
def fmtR3 (te:TE3):TE3:=fun σ S Q=>te σ S fun d S1=>∃x,d=.str x∧(PySem.reprText x).length≤sizeLine∧Q (.str (PySem.reprText x)) S1
theorem e_fmtR {te:TE3} (he:PE3 X W3 e te):PE3 X W3 (.FormattedValue e 114 none pos) (fmtR3 te):=by
  rintro Z pins s τ H Q I ⟨σ,S,Q3,hs,hr,ht,hc⟩
  refine wpAny_FormattedValue_repr (wpAny_mono (he Z pins s τ H (fun v H1=>∃x,v=.str x∧(PySem.reprText x).length≤sizeLine∧Q (.str (PySem.reprText x)) H1) I ⟨σ,S,_,hs,hr,ht,fun d S1 v H1 k1 r1 l1 q1=>?_⟩) (fun u s1 z=>?_) fun _ _ y=>y)
  · obtain ⟨x,rfl,hl,q⟩:=q1
    cases r1
    exact ⟨x,rfl,hl,hc _ S1 _ H1 k1 (.str _) l1 q⟩
  · obtain ⟨v,H1,I1,r,x,rfl,hl,q⟩:=z
    obtain ⟨t,rfl⟩:=r
    exact wpAny_pyReprObj_str (wpAny_formatField_str ⟨.str _,H1,I1.tok _,⟨_,rfl⟩,q⟩ ⟨.str _,H1,(I1.tok _).tok _,⟨_,rfl⟩,q⟩ hl) hl
theorem j_fmtR {σ:St3} {S:Hp3} {Q:K3} {te:TE3} (h:te σ S fun d S1=>∃x,d=.str x∧(PySem.reprText x).length≤sizeLine∧Q (.str (PySem.reprText x)) S1):fmtR3 te σ S Q:=h
end
section
variable {P:Program} {w:World} {K:PySem.W.Frag} {mg:Str→Option Value} {base:Heap} {m q:Str} {C:Addr} {st:Stmt} {N ps:List Str} {k:Nat}
theorem HasM.met3x {sp:Sp3} (h:HasM K C m q st ps) (S:FnScope N ps (defScope st)) (len:∀vs H Q E,sp vs H Q E→vs.length=ps.length)
    (hbody:∀(f:Addr) (cdv:Value) (A:Around) (outer:List Env) (s:Shared) (H:Hp) (E:XK) (ds:List D) (S:Hp3) (Q:K3) (W:X3),Room k (A.deeper (envOfC q (defScope st) s.heap.objs.size f cdv))→sp ds S Q W →
      ∃t,PSs3 (cxOf (CX1 P w) P w K mg base N q (defScope st) f cdv A outer s H E) (fun _=>W) (defBody st) t∧t {nx:=fun _ S'=>Q .non S',rt:=Q} (start3 N ds) S):Met3 P w K mg base (k+1) C m ps sp:=by
  obtain ⟨f,fd,F,b,mt⟩:=h.ex
  obtain ⟨oc,od,kV,doc,pm,an,cdv,ct,osl,rfl,lk,hcd⟩:=F.ex
  refine ⟨f,_,zm3 lk hcd S (fun vs H Q E z_1=>by obtain ⟨Z,ds,S,Q3,E3,h1,_,h3,_,_⟩:=z_1;rw [←h1.len];exact len _ _ _ _ h3) fun A outer s H vs Q E hr ⟨Z,ds,S3,Q3,E3,h1,h2,h3,h4,h5⟩=>?_,b,mt⟩
  obtain ⟨t,ht,q⟩:=hbody f cdv A outer s H E ds S3 Q3 E3 hr h3
  refine ⟨_,ht (zxE Z E3 h2.old h5),_,start3 N ds,S3,?_,h2.into,q,⟨?_,?_,?_,?_⟩⟩
  · unfold start3 L2.start
    rw [h1.len]
    exact zbq (SR.ofRps h1) (SR.nones _)
  · intro σ S' τ H' kk _ l q'
    exact h4 .non S' .non H' (kk.unhide fun _ z=>z) .non (l.out h2 kk) q'
  · exact fun _ _ _ _ _ _ _ z=>z
  · exact fun _ _ _ _ _ _ _ z=>z
  · exact fun d S' v H' kk r l q'=>h4 d S' v H' (kk.unhide fun _ z=>z) r (l.out h2 kk) q'
end
end E3
set_option maxHeartbeats 4000000
namespace LW
open PySem PySem.Spec PyProof.Rows L2 EE E3
section
variable {CR:Addr}
noncomputable abbrev rdFs (t:Str) (p:Int):List (Str×D):=[("text",.str t),("place",.int p)]
theorem zpo {S:Hp3} {a b:Addr} {o u:O} (h:S b=some u) (n:b≠a):up S a o b=some u:=(zcn n).trans h
theorem zl3 {t:Str} {p q:Int}:putI "place" (.int q) (rdFs t p)=rdFs t q:=by
  simp only [putI,rdFs]
  rfl
section
variable {S:Hp3} {a:Addr} {t:Str} {p:Int} {Q:K3}
theorem j_Rtext (h:S a=some (.ins CR (rdFs t p))) (q:Q (.str t) S):fldR CR "text" (.ref a) S Q:=j_fldR h rfl q
theorem j_Rplace (h:S a=some (.ins CR (rdFs t p))) (q:Q (.int p) S):fldR CR "place" (.ref a) S Q:=j_fldR h rfl q
theorem j_Rm {m:Str} {k:Addr→Prop} (h:S a=some (.ins CR (rdFs t p))) (hm:∀t p,(rdFs t p).lookup m=none) (q:k a):methR CR m k (.ref a) S:=⟨a,_,rfl,h,hm _ _,q⟩
theorem j_Rstep {σ:St3} {n:St3→Hp3→Prop} (h:S a=some (.ins CR (rdFs t p))) (q:n σ (up S a (.ins CR (rdFs t (p+1))))):faugA CR (c3 (.int 1)) "place" n σ (.ref a) S:=j_faugA h rfl (show 2<1000 by decide) (by rw [zl3];exact q)
end
noncomputable def ltr (c:Nat):Bool:=decide (97≤c∧c≤122)
noncomputable def sgAt (cs:List Nat) (p:Nat):List Nat:=(cs.drop p).take 1
theorem zbg {a b:List Nat} (h:textOf a=textOf b):a=b:=by
  have:=congrArg (fun z:Str=>z.cps.toList) h
  simpa [textOf] using this
theorem zks {cs:List Nat} {p q:Nat} (h:p≤q):cutT cs (some (p:Int)) (some (q:Int))=(cs.drop p).take (q-p):=by
  have h1:cutT cs none (some (q:Int))=cs.take q:=by rw [zgb (by omega)];rfl
  have h2:cutT cs (some (p:Int)) none=cs.drop p:=by rw [zgc (by omega)];rfl
  unfold cutT at h1 h2 ⊢
  have e1:HT.sIx cs.length 0 (some (p:Int))=min p cs.length:=by
    have:=congrArg List.length h2
    simp only [List.length_take,List.length_drop] at this
    have e:HT.sIx cs.length cs.length none=cs.length:=rfl
    rw [e] at this
    have hle:HT.sIx cs.length 0 (some (p:Int))≤cs.length:=by
      simp only [HT.sIx]
      (repeat split)<;>omega
    omega
  have e2:HT.sIx cs.length cs.length (some (q:Int))=min q cs.length:=by
    have:=congrArg List.length h1
    simp only [List.length_take,List.length_drop] at this
    have e:HT.sIx cs.length 0 none=0:=rfl
    rw [e] at this
    have hle:HT.sIx cs.length cs.length (some (q:Int))≤cs.length:=by
      simp only [HT.sIx]
      (repeat split)<;>omega
    omega
  rw [e1,e2]
  by_cases c:p≤cs.length
  · rw [show min p cs.length=p by omega]
    apply List.ext_getElem?
    intro i
    rw [List.getElem?_take,List.getElem?_take]
    by_cases ci:i<q-p
    · rw [if_pos ci]
      by_cases cj:i<min q cs.length-p
      · rw [if_pos cj]
      · rw [if_neg cj,List.getElem?_drop,List.getElem?_eq_none (by omega)]
    · rw [if_neg ci,if_neg (by omega)]
  · rw [List.drop_eq_nil_of_le (by omega),List.drop_eq_nil_of_le (by omega)]
    simp
theorem sg_get (cs:List Nat) (p:Nat):sgAt cs p=(cs[p]?).toList:=by
  unfold sgAt
  cases e:cs[p]? with
  | none=>rw [List.drop_eq_nil_of_le (by simpa using e)];rfl
  | some c =>
    have h:=List.getElem?_eq_some_iff.mp e
    rw [List.drop_eq_getElem_cons h.1,h.2]
    rfl
theorem zak (cs:List Nat):(textOf cs).length=cs.length:=by show (textOf cs).cps.size=_;simp [textOf]
end
seal PE3 PT3 PW3 PA3 PS3 PSs3 PO3 PG3 PI3 PF3
local macro_rules|`(tactic| nofun)=>do let w:=fun (s:String)=>(s.splitOn " ").toArray.map fun x=>Lean.mkIdent (.mkStr (.mkSimple "E3") x);let at_ ← `(tactic| (first|exact rfl|exact atI_0|exact atI_1|exact atI_2|exact atI_3));let v0 ←(w "j_tovc j_ovc j_kv1 j_fv1 j_cvn").mapM fun n=>`(Lean.Parser.Tactic.tacticSeq| apply $n);let v1 ←(w "j_ovv j_fv2").mapM fun n=>`(Lean.Parser.Tactic.tacticSeq| apply $n);let v3 ←(w "j_ov j_cv j_v").mapM fun n=>`(Lean.Parser.Tactic.tacticSeq| apply $n);let a1 ←(w "j_qset j_qdrop j_qifs j_txc j_txo j_oc j_xc j_ke1 j_fe1 j_ccn j_cc j_cen j_seq j_set j_c j_o j_i3 j_cons j_nil j_ifs j_test j_eb j_ei j_ret j_drop j_next j_asg j_name j_eqI j_neI j_eqS j_neS j_neg j_and j_or j_not j_andv j_notv j_tup j_lst j_cb j_call j_bm j_bm0 j_tyS j_lenT j_lenR j_toListT j_sl j_nopart j_part j_slT j_comp j_notinTS j_chain j_for j_iList j_iTup j_iStr j_eS j_iR1 j_iT j_iS j_raise j_fmt j_fcons j_try j_dget j_setL j_fld j_sfld j_meth j_meth0 j_make j_faug j_dispC j_fmtR").mapM fun n=>`(Lean.Parser.Tactic.tacticSeq| apply $n);let a2 ←(w "j_tyL j_lenL j_toTupL j_slL j_iL").mapM fun n=>`(Lean.Parser.Tactic.tacticSeq| refine $n (by assumption) ?_);let a3 ←(w "j_tyL j_lenL j_toTupL j_slL j_iL").mapM fun n=>`(Lean.Parser.Tactic.tacticSeq| refine $n zag ?_);let al:=a1++a2++a3;`(tactic| repeat (first|((with_reducible apply j_tixS);(exact rfl);$at_)|((with_reducible apply j_ixTv);(exact rfl);$at_)|((with_reducible first $[| $v0]*);(exact rfl))|((with_reducible first $[| $v1]*);(exact rfl);(exact rfl))|((with_reducible apply j_fv3);(exact rfl);(exact rfl);(exact rfl))|((with_reducible first $[| $v3]*);(exact rfl))|(with_reducible first $[| $al]*)|(with_reducible first|refine iteD rfl ?_|refine iteNS rfl ?_|refine iteT ?_|refine iteF ?_|refine iteD (by assumption) ?_|refine iteDN (by assumption) ?_|refine iteN (by assumption) ?_|refine iteNS (by assumption) ?_|refine j_Rtext (by assumption) ?_|refine j_Rplace (by assumption) ?_)|((with_reducible refine j_mod ?_ ?_);(first|decide|omega))|((with_reducible refine j_div ?_ ?_);(first|exact ⟨by decide,by decide⟩|omega))|((with_reducible refine j_pow ?_ ?_);exact ⟨by decide,by decide,by decide⟩)|((with_reducible refine j_mul ?_ ?_);(first|exact .inl ⟨by decide,by decide⟩|exact .inr ⟨by decide,by decide⟩))|((with_reducible refine j_sz ?_ ?_);exact zal (Nat.le_of_ble_eq_true rfl))|((with_reducible apply j_ixT);$at_)|((with_reducible apply j_ixL (by assumption));$at_)|((with_reducible apply j_ixL zag);$at_)|((with_reducible apply j_ixR);exact rfl)|((with_reducible apply j_isB);(exact rfl);(exact rfl))|((with_reducible apply j_esL (by assumption));(first|exact rfl|exact ixN_0|exact ixN_1))|((with_reducible apply j_esL zag);(first|exact rfl|exact ixN_0|exact ixN_1))|((with_reducible refine iteBt ?_ ?_);exact rfl)|((with_reducible refine iteBf ?_ ?_);exact rfl)|((with_reducible refine j_rng ?_ ?_);(first|exact ⟨by decide,by decide⟩|exact ⟨by omega,by omega⟩))|((with_reducible refine j_lenS ?_ ?_);assumption)|(with_reducible first|refine iteBt (by decide +kernel) ?_|refine iteBf (by decide +kernel) ?_|refine iteD (by omega) ?_|refine iteDN (by omega) ?_|refine iteN (by omega) ?_|refine iteNS (by omega) ?_)))
noncomputable def top (i:Nat):Stmt:=PySem.Challenge.pw_errandend_k06_lines_refused.main.body.getD i (.Pass ⟨0,0,0,0⟩)
noncomputable abbrev zb6:Stmt:=top 13
theorem zbk:FnScope ["text","halves","words","word","params","reader","body"] ["text"] (defScope zb6):=⟨rfl,rfl,rfl,by decide +kernel,rfl,by decide +kernel,by decide +kernel⟩
noncomputable abbrev zat:Stmt:=top 14
theorem zcg:FnScope ["word","fit"] ["word"] (defScope zat):=⟨rfl,rfl,rfl,by decide +kernel,rfl,by decide +kernel,by decide +kernel⟩
noncomputable abbrev zb7:Stmt:=top 15
theorem zh6:FnScope ["sign"] ["sign"] (defScope zb7):=⟨rfl,rfl,rfl,by decide +kernel,rfl,by decide +kernel,by decide +kernel⟩
noncomputable abbrev zaz:Stmt:=top 16
theorem zdl:FnScope ["row","least","most"] ["row","least","most"] (defScope zaz):=⟨rfl,rfl,rfl,by decide +kernel,rfl,by decide +kernel,by decide +kernel⟩
noncomputable abbrev zc6:Stmt:=top 19
theorem zk3:FnScope ["script","k"] ["script","k"] (defScope zc6):=⟨rfl,rfl,rfl,by decide +kernel,rfl,by decide +kernel,by decide +kernel⟩
noncomputable abbrev zc8:Stmt:=top 20
theorem zb2:FnScope ["cell","many","base","left","k","place","found","turn"] ["cell","many"] (defScope zc8):=⟨rfl,rfl,rfl,by decide +kernel,rfl,by decide +kernel,by decide +kernel⟩
noncomputable abbrev zgl:Stmt:=top 21
theorem zpt:FnScope ["script","spot"] ["script","spot"] (defScope zgl):=⟨rfl,rfl,rfl,by decide +kernel,rfl,by decide +kernel,by decide +kernel⟩
noncomputable abbrev zc7:Stmt:=top 22
theorem zcd:FnScope ["script","spot","names","counts","params","deep","cell","kind","parts","to","row"] ["script","spot","names","counts","params","deep"] (defScope zc7):=⟨rfl,rfl,rfl,by decide +kernel,rfl,by decide +kernel,by decide +kernel⟩
noncomputable abbrev zd3:Stmt:=top 23
theorem zci:FnScope ["script","spot","most","deep","head","many","names","params","counts","program","k","mine"] ["script","spot","most","deep"] (defScope zd3):=⟨rfl,rfl,rfl,by decide +kernel,rfl,by decide +kernel,by decide +kernel⟩
noncomputable abbrev zfa:Stmt:=top 24
theorem zjf:FnScope ["saying","inner","marks"] ["saying"] (defScope zfa):=⟨rfl,rfl,rfl,by decide +kernel,rfl,by decide +kernel,by decide +kernel⟩
noncomputable abbrev zbl:Stmt:=top 25
theorem zh5:FnScope ["found"] ["found"] (defScope zbl):=⟨rfl,rfl,rfl,by decide +kernel,rfl,by decide +kernel,by decide +kernel⟩
noncomputable abbrev zbu:Stmt:=top 26
theorem zh7:FnScope ["found"] ["found"] (defScope zbu):=⟨rfl,rfl,rfl,by decide +kernel,rfl,by decide +kernel,by decide +kernel⟩
noncomputable abbrev zc5:Stmt:=top 27
theorem zc4:FnScope ["text","told","e"] ["text"] (defScope zc5):=⟨rfl,rfl,rfl,by decide +kernel,rfl,by decide +kernel,by decide +kernel⟩
noncomputable abbrev zbx:Stmt:=top 28
theorem zeh:FnScope ["way","name","params","body","head"] ["way","name","params","body"] (defScope zbx):=⟨rfl,rfl,rfl,by decide +kernel,rfl,by decide +kernel,by decide +kernel⟩
noncomputable abbrev zbw:Stmt:=top 29
theorem zb1:FnScope ["cell","name","params","body","word","place","at","row"] ["cell","name","params","body"] (defScope zbw):=⟨rfl,rfl,rfl,by decide +kernel,rfl,by decide +kernel,by decide +kernel⟩
noncomputable abbrev zgm:Stmt:=top 30
theorem zb5:FnScope ["cell","steps","params","name","saying","left","k","kind"] ["cell","steps","params","name"] (defScope zgm):=⟨rfl,rfl,rfl,by decide +kernel,rfl,by decide +kernel,by decide +kernel⟩
noncomputable abbrev zby:Stmt:=top 31
theorem zg4:FnScope ["way","body","name"] ["way","body","name"] (defScope zby):=⟨rfl,rfl,rfl,by decide +kernel,rfl,by decide +kernel,by decide +kernel⟩
noncomputable abbrev zg5:Stmt:=top 32
theorem zcq:FnScope ["script","spot","errand","way","body","name","text","params","saying","line","found"] ["script"] (defScope zg5):=⟨rfl,rfl,rfl,by decide +kernel,rfl,by decide +kernel,by decide +kernel⟩
noncomputable abbrev zdu:Stmt:=inClass (top 17) 0
theorem zlw:FnScope ["self","text"] ["self","text"] (defScope zdu):=⟨rfl,rfl,rfl,by decide +kernel,rfl,by decide +kernel,by decide +kernel⟩
noncomputable abbrev zbo:Stmt:=inClass (top 17) 1
theorem zgf:FnScope ["self"] ["self"] (defScope zbo):=⟨rfl,rfl,rfl,by decide +kernel,rfl,by decide +kernel,by decide +kernel⟩
noncomputable abbrev za5:Stmt:=inClass (top 17) 2
theorem zde:FnScope ["self","level","sign"] ["self","level"] (defScope za5):=⟨rfl,rfl,rfl,by decide +kernel,rfl,by decide +kernel,by decide +kernel⟩
noncomputable abbrev zbb:Stmt:=inClass (top 17) 3
theorem zdm:FnScope ["self","level","word"] ["self","level"] (defScope zbb):=⟨rfl,rfl,rfl,by decide +kernel,rfl,by decide +kernel,by decide +kernel⟩
noncomputable abbrev zbp:Stmt:=inClass (top 17) 4
theorem zc2:FnScope ["self","first","word"] ["self"] (defScope zbp):=⟨rfl,rfl,rfl,by decide +kernel,rfl,by decide +kernel,by decide +kernel⟩
noncomputable abbrev zbm:Stmt:=inClass (top 17) 5
theorem zei:FnScope ["self","closing","least","most","level","found"] ["self","closing","least","most","level"] (defScope zbm):=⟨rfl,rfl,rfl,by decide +kernel,rfl,by decide +kernel,by decide +kernel⟩
noncomputable abbrev zbd:Stmt:=inClass (top 17) 6
theorem zfg:FnScope ["self"] ["self"] (defScope zbd):=⟨rfl,rfl,rfl,by decide +kernel,rfl,by decide +kernel,by decide +kernel⟩
inductive Ex2 {α0 α1:Type} (p:α0→α1→Prop):Prop where
  | mk (a0:α0) (a1:α1) (h:p a0 a1)
inductive Ex3 {α0 α1 α2:Type} (p:α0→α1→α2→Prop):Prop where
  | mk (a0:α0) (a1:α1) (a2:α2) (h:p a0 a1 a2)
inductive Ex4 {α0 α1 α2 α3:Type} (p:α0→α1→α2→α3→Prop):Prop where
  | mk (a0:α0) (a1:α1) (a2:α2) (a3:α3) (h:p a0 a1 a2 a3)
inductive Ex5 {α0 α1 α2 α3 α4:Type} (p:α0→α1→α2→α3→α4→Prop):Prop where
  | mk (a0:α0) (a1:α1) (a2:α2) (a3:α3) (a4:α4) (h:p a0 a1 a2 a3 a4)
theorem lnS {us:List Value} {n:Nat} (h:us.length=n+1):∃a t,us=a::t∧t.length=n:=by
  cases us with
  | nil=>cases h
  | cons a t=>exact ⟨a,t,rfl,Nat.succ.inj h⟩
theorem ln0 {us:List Value} (h:us.length=0):us=[]:=List.eq_nil_of_length_eq_zero h
theorem ln1 {us:List Value} (h:us.length=1):∃a0,us=[a0]:=by
  obtain ⟨a0,t,rfl,g⟩:=lnS h
  obtain rfl:=ln0 g
  exact ⟨a0,rfl⟩
theorem ln2 {us:List Value} (h:us.length=2):∃a0 a1,us=[a0,a1]:=by
  obtain ⟨a0,t,rfl,g⟩:=lnS h
  obtain ⟨a1,rfl⟩:=ln1 g
  exact ⟨a0,a1,rfl⟩
theorem ln3 {us:List Value} (h:us.length=3):∃a0 a1 a2,us=[a0,a1,a2]:=by
  obtain ⟨a0,t,rfl,g⟩:=lnS h
  obtain ⟨a1,a2,rfl⟩:=ln2 g
  exact ⟨a0,a1,a2,rfl⟩
theorem ln4 {us:List Value} (h:us.length=4):∃a0 a1 a2 a3,us=[a0,a1,a2,a3]:=by
  obtain ⟨a0,t,rfl,g⟩:=lnS h
  obtain ⟨a1,a2,a3,rfl⟩:=ln3 g
  exact ⟨a0,a1,a2,a3,rfl⟩
theorem ln5 {us:List Value} (h:us.length=5):∃a0 a1 a2 a3 a4,us=[a0,a1,a2,a3,a4]:=by
  obtain ⟨a0,t,rfl,g⟩:=lnS h
  obtain ⟨a1,a2,a3,a4,rfl⟩:=ln4 g
  exact ⟨a0,a1,a2,a3,a4,rfl⟩
theorem ln6 {us:List Value} (h:us.length=6):∃a0 a1 a2 a3 a4 a5,us=[a0,a1,a2,a3,a4,a5]:=by
  obtain ⟨a0,t,rfl,g⟩:=lnS h
  obtain ⟨a1,a2,a3,a4,a5,rfl⟩:=ln5 g
  exact ⟨a0,a1,a2,a3,a4,a5,rfl⟩
structure Gs (K:PySem.W.Frag) (mg:Str→Option Value):Prop where
  len:mg "len"=none
  range:mg "range"=none
  isinstance:mg "isinstance"=none
  str:mg "str"=none
  tuple:mg "tuple"=none
  list:mg "list"=none
  all:mg "all"=none
  ValueError:mg "ValueError"=none
  MOST_LETTERS:∃t,mg "MOST_LETTERS"=some (.int 8 t)
  MOST_IN_ROW:∃t,mg "MOST_IN_ROW"=some (.int 4 t)
  MOST_DEEP:∃t,mg "MOST_DEEP"=some (.int 12 t)
structure RunT (K:PySem.W.Frag) (mg:Str→Option Value) (CR:Addr):Prop where
  cl:Cls K CR
  mks:PySem.W.makesIn K CR=true
  kc:PySem.W.keepIn K (.ref CR)=true
  at_:mg "SayingReader"=some (.ref CR)
  n_text:NoAttr K CR "text"
  n_place:NoAttr K CR "place"
noncomputable abbrev ES:List Rf:=[.err,.text,.twice,.such,.count,.apart,.many,.way]
section
variable {P:Program} {w:World} {K:PySem.W.Frag} {mg:Str→Option Value} {base:Heap} {adr:Rf→Addr} {CR:Addr}
noncomputable def ltrs:List Nat→Bool
  | [c]=>ltr c
  | _=>false
theorem s_a:("a":Str)=textOf [97]:=by decide +kernel
theorem s_z:("z":Str)=textOf [122]:=by decide +kernel
inductive zj0  (ds:List D) (q:D→Prop):Prop where
  | mk (cs:List Nat) (_:cs.length≤1) (_:ds=[.str (textOf cs)]) (_:q (.bl (ltrs cs)))
def zdj :Sp3:=vS zj0
theorem zin {k:Nat} (h:Has K mg "is_letter" zb7 ["sign"]) (G:Gs K mg):Cal3 P w K mg base (k+1) "is_letter" ["sign"] zdj:=by
  refine h.val zh6 (by rintro ds q ⟨_,_,e,_⟩;rw [e];rfl) fun f cdv A outer s0 H E ds q hr hA=>?_
  obtain ⟨cs,hl,rfl,hq⟩:=hA
  refine ⟨_,(zam (zaq (zqq zij zpg zij zpg zaj (e_v 0) zaj))),?_⟩
  nofun
  refine j_leS ?_
  rw [s_a,zah,zah]
  match cs,hl with
  | [],_ =>
    have e:(!decide (([]:List Nat)<[97]))=false:=by decide
    rw [e]
    nofun
    exact hq
  | [c],_ =>
    have lt:∀x y:Nat,(([x]:List Nat)<[y])↔x<y:=fun x y=>by simp [List.cons_lt_cons_iff]
    by_cases c1:97≤c
    · have e:(!decide (([c]:List Nat)<[97]))=true:=by rw [decide_eq_false (by rw [lt];omega)];rfl
      rw [e]
      nofun
      refine j_leS ?_
      rw [s_z,zah,zah]
      by_cases c2:c≤122
      · have e2:(!decide (([122]:List Nat)<[c]))=true:=by rw [decide_eq_false (by rw [lt];omega)];rfl
        have e3:ltrs [c]=true:=decide_eq_true ⟨c1,c2⟩
        rw [e2]
        rw [e3] at hq
        exact hq
      · have e2:(!decide (([122]:List Nat)<[c]))=false:=by rw [decide_eq_true (by rw [lt];omega)];rfl
        have e3:ltrs [c]=false:=decide_eq_false (by omega)
        rw [e2]
        rw [e3] at hq
        exact hq
    · have e:(!decide (([c]:List Nat)<[97]))=false:=by rw [decide_eq_true (by rw [lt];omega)];rfl
      have e3:ltrs [c]=false:=decide_eq_false (by omega)
      rw [e]
      rw [e3] at hq
      nofun
      exact hq
  | _::_::_,hl=>simp at hl
mutual
noncomputable def tx:Sy→List Nat
  | .name x=>x.cps.toList
  | .bud=>[45]
  | .left a=>60::tx a
  | .right a=>62::tx a
  | .pair a b=>91::((tx a++(32::(tx b++[])))++[93])
  | .fork a b c=>123::((tx a++(32::(tx b++(32::(tx c++[])))))++[125])
  | .send x []=>x.cps.toList++40::[41]
  | .send x (a::as)=>x.cps.toList++40::((tx a++txt as)++[41])
noncomputable def txt:List Sy→List Nat
  | []=>[]
  | a::as=>32::(tx a++txt as)
end
mutual
def okS:Sy→Prop
  | .name x=>NameOk x
  | .bud=>True
  | .left a=>okS a
  | .right a=>okS a
  | .pair a b=>okS a∧okS b
  | .fork a b c=>okS a∧okS b∧okS c
  | .send x as=>NameOk x∧1≤as.length∧as.length≤4∧okSs as
def okSs:List Sy→Prop
  | []=>True
  | a::as=>okS a∧okSs as
end
theorem zel:∀{as:List Sy},okSs as→∀a∈as,okS a
  | b::as,h,a,ha=>by
    rcases List.mem_cons.mp ha with rfl|ha
    · exact h.1
    · exact zel h.2 a ha
def Stop5 (post:List Nat):Prop:=∀c r,post=c::r→ltr c=false∧c≠40
theorem zkd {α β:Type} (l:List α) (z:α) (f:α→β):(List.range l.length).map (fun i=>f (l.getD i z))=l.map f:=by
  apply List.ext_getElem
  · simp
  · intro i h1 h2
    have:i<l.length:=by simpa using h2
    rw [List.getElem_map,List.getElem_map,List.getElem_range,List.getD_eq_getElem?_getD,List.getElem?_eq_getElem this]
    rfl
theorem zow (s:Sy):1≤s.deep:=by cases s<;>simp only [Sy.deep]<;>omega
open PySem.Builtin.Str PySem.StrLaws in
theorem zkh (s sub:Str) (hi limit:Nat):∀(l:List Nat) (st:Array Nat×Nat),limit≤st.fst.size→(forIn l st (occBody s sub hi limit)).run.fst=st.fst
  | [],st,h=>rfl
  | a::l,st,h=>by
    rw [List.forIn_cons]
    unfold occBody
    rw [if_neg (fun z=>by omega)]
    exact zkh s sub hi limit l st h
open PySem.Builtin.Str PySem.StrLaws in
theorem zhh (s sub:Str) (hi limit:Nat):∀(l l':List Nat) (st:Array Nat×Nat),(∀i∈l,¬(i+sub.length≤hi∧subAt s sub i=true))→(forIn (l++l') st (occBody s sub hi limit)).run.fst=(forIn l' st (occBody s sub hi limit)).run.fst
  | [],l',st,h=>rfl
  | a::l,l',st,h=>by
    rw [List.cons_append,List.forIn_cons]
    unfold occBody
    rw [if_neg (fun z=>h a List.mem_cons_self ⟨z.1.2,z.2⟩)]
    exact zhh s sub hi limit l l' st fun i hi'=>h i (List.mem_cons_of_mem _ hi')
open PySem.Builtin.Str PySem.StrLaws in
theorem occ_first {s sub:Str} {p:Nat} (h1:p+sub.length≤s.length) (h2:subAt s sub p=true) (h3:∀i,i<p→subAt s sub i=false):occurrences s sub 0 s.length 1=[p]:=by
  rw [occ_eq]
  have er:List.range' 0 (s.length+1-0)=List.range' 0 p++p::List.range' (p+1) (s.length-p):=by
    rw [show s.length+1-0=p+(1+(s.length-p)) by omega,←List.range'_append_1,Nat.zero_add,show 1+(s.length-p)=(s.length-p)+1 by omega,List.range'_succ]
  rw [er,zhh _ _ _ _ _ _ _ (fun i hi z=>by rw [List.mem_range'_1] at hi;rw [h3 i (by omega)] at z;cases z.2),List.forIn_cons]
  unfold occBody
  rw [if_pos ⟨⟨⟨show (#[]:Array Nat).size<1 by simp,Nat.zero_le _⟩,h1⟩,h2⟩]
  have hf:=zkh s sub s.length 1 (List.range' (p+1) (s.length-p)) (#[].push p,p+sub.length) (by simp)
  unfold occBody at hf
  exact congrArg Array.toList hf
open PySem.Builtin.Str PySem.StrLaws in
theorem zjg {s:Str} {c:Nat} (limit:Nat):∀(n lo free:Nat) (arr:Array Nat),free≤lo→arr.size≤lo→lo+n≤limit→(forIn (List.range' lo n) (arr,free) (occBody s ⟨#[c]⟩ s.length limit)).run.fst.toList=arr.toList++(List.range' lo n).filter fun i=>decide (s.cps.toList[i]?=some c)
  | 0,lo,free,arr,_,_,_=>by simp
  | n+1,lo,free,arr,h1,h2,h3=>by
    rw [List.range'_succ,List.forIn_cons]
    have hm:=subAt_one s c lo
    by_cases hc:s.cps.toList[lo]?=some c
    · have hm':=hm.mpr hc
      have e:occBody s ⟨#[c]⟩ s.length limit lo (arr,free)=pure (.yield (arr.push lo,lo+1)):=by
        unfold occBody
        rw [if_pos ⟨⟨⟨by show arr.size<limit;omega,h1⟩,hm'.1⟩,hm'.2⟩]
        rfl
      rw [e,List.filter_cons_of_pos (by simpa using hc)]
      show (forIn (List.range' (lo+1) n) (arr.push lo,lo+1) (occBody s ⟨#[c]⟩ s.length limit)).run.fst.toList=_
      rw [zjg limit n (lo+1) (lo+1) _ (Nat.le_refl _) (by rw [Array.size_push];omega) (by omega)]
      simp
    · have e:occBody s ⟨#[c]⟩ s.length limit lo (arr,free)=pure (.yield (arr,free)):=by
        unfold occBody
        rw [if_neg (fun z=>hc (hm.mp ⟨z.1.2,z.2⟩))]
      rw [e,List.filter_cons_of_neg (by simpa using hc)]
      show (forIn (List.range' (lo+1) n) (arr,free) (occBody s ⟨#[c]⟩ s.length limit)).run.fst.toList=_
      exact zjg limit n (lo+1) free arr (by omega) (by omega) (by omega)
noncomputable def spots (c:Nat):Nat→List Nat→List Nat
  | _,[]=>[]
  | o,d::r=>if d=c then o::spots c (o+1) r else spots c (o+1) r
theorem zfr (c:Nat):∀(pre cs:List Nat),(List.range' pre.length cs.length).filter (fun i=>decide ((pre++cs)[i]?=some c))=spots c pre.length cs
  | pre,[]=>rfl
  | pre,d::r=>by
    rw [List.length_cons,List.range'_succ,spots]
    have e:(pre++d::r)[pre.length]?=some d:=by simp
    have ih:=zfr c (pre++[d]) r
    rw [List.length_append,List.length_cons,List.length_nil,Nat.zero_add,List.append_assoc,List.cons_append,List.nil_append] at ih
    by_cases h:d=c
    · rw [if_pos h,List.filter_cons_of_pos (by rw [e,h];simp),ih]
    · rw [if_neg h,List.filter_cons_of_neg (by rw [e];simpa using h),ih]
open PySem.Builtin.Str PySem.StrLaws in
theorem zmm (cs:List Nat) (c:Nat):occurrences (textOf cs) ⟨#[c]⟩ 0 (textOf cs).length ((textOf cs).length+1)=spots c 0 cs:=by
  rw [occ_eq,zjg (s:=textOf cs) (c:=c) ((textOf cs).length+1) ((textOf cs).length+1-0) 0 0 #[] (Nat.le_refl _) (by simp) (by omega),zak,zah,Nat.sub_zero]
  have h:=zfr c [] cs
  rw [List.nil_append,List.length_nil] at h
  rw [←h,←List.range'_append_1 (s:=0) (m:=cs.length) (n:=1),List.filter_append]
  simp
noncomputable def cutAt (cs:List Nat):Nat→List Nat→List (List Nat)
  | o,[]=>[(cs.drop o).take (cs.length-o)]
  | o,p::r=>((cs.drop o).take (p-o))::cutAt cs (p+1) r
open PySem.Builtin.Str PySem.StrLaws in
theorem zco (cs:List Nat) (i j:Nat):strSub (EE.textOf cs) i j=EE.textOf ((cs.drop i).take (j-i)):=by
  exact PyProof.Rows.strSub_mk _ _ _ |>.trans (by rw [E3.zah];rfl)
open PySem.Builtin.Str PySem.StrLaws in
theorem zic (cs:List Nat):∀(o:Nat) (cuts:List Nat),((o::cuts.map (·+1)).zip (cuts++[cs.length])).map (fun p:Nat×Nat=>strSub (EE.textOf cs) p.1 p.2)=(cutAt cs o cuts).map EE.textOf
  | o,[]=>by simp [cutAt,zco]
  | o,p::r=>by
    have ih:=zic cs (p+1) r
    rw [List.map_cons,List.cons_append,List.zip_cons_cons,List.map_cons,ih,cutAt,List.map_cons,zco]
noncomputable def glue (c:Nat):List Nat→List (List Nat)→List Nat
  | w,[]=>w
  | w,v::r=>w++c::glue c v r
theorem zdg (c:Nat):∀(w r:List Nat) (o:Nat),(∀d∈w,d≠c)→spots c o (w++r)=spots c (o+w.length) r
  | [],r,o,_=>rfl
  | d::w,r,o,h=>by
    rw [List.cons_append,spots,if_neg (h d List.mem_cons_self),zdg c w r (o+1) fun x hx=>h x (List.mem_cons_of_mem _ hx),List.length_cons]
    congr 1
    omega
theorem zkr (c:Nat):∀(ws:List (List Nat)) (w pre:List Nat),(∀v∈w::ws,∀d∈v,d≠c)→cutAt (pre++glue c w ws) pre.length (spots c pre.length (glue c w ws))=w::ws
  | [],w,pre,h=>by
    have e:spots c pre.length w=[]:=by
      have:=zdg c w [] pre.length (h w List.mem_cons_self)
      rw [List.append_nil] at this
      rw [this]
      rfl
    rw [glue,e,cutAt,List.drop_left]
    simp
  | v::ws,w,pre,h=>by
    rw [glue,zdg c w _ pre.length (h w List.mem_cons_self),spots,if_pos rfl,cutAt]
    have e1:pre++(w++c::glue c v ws)=pre++w++[c]++glue c v ws:=by simp
    have ih:=zkr c ws v (pre++w++[c]) fun x hx=>h x (List.mem_cons_of_mem _ hx)
    rw [List.length_append,List.length_append,List.length_cons,List.length_nil,Nat.zero_add] at ih
    rw [e1,ih]
    congr 1
    rw [List.append_assoc,List.append_assoc,List.drop_left,show pre.length+w.length-pre.length=w.length by omega,List.take_left]
open PySem.Builtin.Str PySem.StrLaws in
theorem zk1 (w:List Nat) (ws:List (List Nat)) (h:∀v∈w::ws,∀d∈v,d≠32) (hk:∀d∈glue 32 w ws,d<256):Txt.split (EE.textOf (glue 32 w ws)) (EE.textOf [32])=(w::ws).map EE.textOf:=by
  have hy:EE.textOf [32]=⟨#[32]⟩:=rfl
  have hocc:=zmm (glue 32 w ws) 32
  have hk1:strKind (EE.textOf [32])=1:=by decide +kernel
  have hk2:1≤strKind (EE.textOf (glue 32 w ws)):=by
    have:∀p q:Bool,1≤(if p=true then 1 else if q=true then 2 else 4):=by decide
    exact this _ _
  have hcut:=zkr 32 ws w [] h
  rw [List.nil_append,List.length_nil] at hcut
  have hp:=zic (glue 32 w ws) 0 (spots 32 0 (glue 32 w ws))
  rw [hcut] at hp
  unfold Txt.split
  rw [zak] at hocc
  rw [hk1,zak,zak,hy,hocc]
  cases ws with
  | nil =>
    have e:spots 32 0 (glue 32 w [])=[]:=by
      have:=zdg 32 w [] 0 (h w List.mem_cons_self)
      rw [List.append_nil] at this
      rw [glue,this]
      rfl
    rw [e,glue]
    simp
  | cons v r =>
    have hl:1≤(glue 32 w (v::r)).length:=by rw [glue,List.length_append,List.length_cons];omega
    have hne:(spots 32 0 (glue 32 w (v::r))).isEmpty=false:=by
      rw [glue,zdg 32 w _ 0 (h w List.mem_cons_self),spots,if_pos rfl]
      rfl
    have hc:(decide ((glue 32 w (v::r)).length<[32].length)||decide (Builtin.Str.strKind (EE.textOf (glue 32 w (v::r)))<1))=false:=by rw [decide_eq_false (by show ¬_<1;omega),decide_eq_false (by omega)];rfl
    rw [hc,if_neg Bool.false_ne_true,if_neg (by rw [hne];exact Bool.false_ne_true)]
    unfold partsBetween
    rw [zak]
    exact hp
theorem zme {hd bd:List Nat} (h:∀d∈hd,d≠58):partS (EE.textOf (hd++58::32::bd)) (EE.textOf [58,32])=[EE.textOf hd,EE.textOf [58,32],EE.textOf bd]:=by
  have hs:∀i,Builtin.Str.subAt (EE.textOf (hd++58::32::bd)) (EE.textOf [58,32]) i=(((hd++58::32::bd).drop i).take 2==[58,32]):=fun i=>by
    rw [PySem.StrLaws.subAt_eq,E3.zah,E3.zah,zak]
    rfl
  have ho:=occ_first (s:=EE.textOf (hd++58::32::bd)) (sub:=EE.textOf [58,32]) (p:=hd.length) (by rw [zak,zak,List.length_append];simp) (by rw [hs,List.drop_left];rfl) (fun i hi=>by
    rw [hs]
    have e:((hd++58::32::bd).drop i)=hd[i]::(hd++58::32::bd).drop (i+1):=by
      rw [List.drop_eq_getElem_cons (by rw [List.length_append];omega)]
      rw [List.getElem_append_left hi]
    rw [e]
    have:=h hd[i] (List.getElem_mem hi)
    simp [List.take_succ_cons,this])
  unfold partS
  rw [ho]
  simp only [zco,zak]
  have e1:(hd++58::32::bd).drop (hd.length+[58,32].length)=bd:=by
    rw [show hd++58::32::bd=(hd++[58,32])++bd by simp,←List.length_append,List.drop_left]
  have e2:((hd++58::32::bd).drop 0).take (hd.length-0)=hd:=by simp
  have e3:bd.take ((hd++58::32::bd).length-(hd.length+[58,32].length))=bd:=List.take_of_length_le (by simp only [List.length_append,List.length_cons,List.length_nil];omega)
  rw [e2,e1,e3]
structure Wd5 (w:List Nat):Prop where
  l1:1≤w.length
  l8:w.length≤8
  ok:∀c∈w,ltr c=true
inductive zea (adr:Rf→Addr) (ds:List D) (q:D→Prop) (qx:Addr→Prop):Prop where
  | mk (w:List Nat) (_:ds=[.str (textOf w)]) (_:w.length≤5000) (_:(∀c∈w,c<256)) (_:(Wd5 w→q .non)) (_:(¬Wd5 w→qx (adr .text)))
def zbs (adr:Rf→Addr):Sp3:=vX (zea adr)
theorem zdw {k:Nat} (h:Has K mg "refuse_unfit_name" zat ["word"]) (G:Gs K mg) (R:Rfs K mg ES adr) (C_is_letter:Cal3 P w K mg base k "is_letter" ["sign"] zdj):Cal3 P w K mg base (k+1) "refuse_unfit_name" ["word"] (zbs adr):=by
  refine h.valX zcg (by rintro ds q qx ⟨_,e,_⟩;rw [e];rfl) fun f cdv A outer s0 H E ds q qx hr hA=>?_
  obtain ⟨w,rfl,hl,h256,hq,hx⟩:=hA
  refine ⟨_,(zac (zas (i:=1) zcg.nd rfl (Or.inl rfl) (zav (zet rfl) (zkp (f:=fun bs=>bs.all id)) rfl G.all boot_all (zaa (zf7 (osc:=defScope zat) (N:=["word","fit"]) (M:=[]) (js:=[]) ⟨rfl,by decide +kernel,by decide +kernel,rfl,by decide +kernel,by decide +kernel,by decide +kernel⟩ (by decide +kernel) rfl (i_str (e_v 0)) (fun _ _ _ _ _=>(zay C_is_letter hr rfl (zaa (e_v 0) zaf)))) zaf)))
 (zam (s_if (PW3.pt (w_or (zgx (zge (e_v 1))) (w_or (zap zhb zbe (zav zc1 zhs rfl G.len PySem.boot_len (zaa (e_v 0) zaf)) zad (nomark _)) (zgv (zap zmg zbe (zav zc1 zhs rfl G.len PySem.boot_len (zaa (e_v 0) zaf)) (zhr G.MOST_LETTERS rfl) (nomark _)))))) (zam (zey (C:=adr .text) (R.bound .text (by decide)) (R.exc (by decide)) rfl rfl (zaa (zpd (ziv (e_fmtR (e_v 0)) (ziv zaj f_nil))) zaf))) zax))),?_⟩
  nofun
  have es:E3.signs (textOf w)=w.map fun c=>D.str (textOf [c]):=by unfold E3.signs;rw [zah];rfl
  rw [es]
  refine zcc (fun i=>.bl (ltr (w.getD i 0))) (by rw [List.length_map];omega) trivial ?_ ?_
  · intro i d hd P hP
    rw [List.getElem?_map] at hd
    obtain ⟨c,hc,rfl⟩:=Option.map_eq_some_iff.mp hd
    nofun
    refine ⟨[c],by simp,rfl,?_⟩
    have e:w.getD i 0=c:=by rw [List.getD_eq_getElem?_getD,hc];rfl
    rw [e] at hP
    exact hP
  have eb:((List.range (w.map fun c=>D.str (textOf [c])).length).map fun i=>D.bl (ltr (w.getD i 0)))=(w.map ltr).map D.bl:=by
    rw [List.length_map,zkd w 0 fun c=>D.bl (ltr c),List.map_map]
    rfl
  rw [eb]
  intro pl hpl
  nofun
  refine j_all zag ?_
  have el:((textOf w).length:Int)=(w.length:Nat):=by rw [zak]
  have el2:(textOf w).length≤sizeLine:=by rw [zak];exact zal (by omega)
  have er:=PySem.StrLaws.reprText_len (textOf w) fun c hc=>by rw [zah] at hc;have:=h256 c hc;exact Nat.lt_trans this (by decide)
  rw [zak] at er
  have e2:(" is no name":Str).length=11:=by decide +kernel
  have e0:Str.empty.length=0:=by decide +kernel
  have hall:(w.map ltr).all id=true↔∀c∈w,ltr c=true:=by simp
  cases hb:(w.map ltr).all id with
  | false =>
    nofun
    refine ⟨zal (by omega),?_⟩
    nofun
    refine ⟨by rw [strLen_append,e0];exact zal (by omega),?_⟩
    nofun
    refine ⟨by rw [strLen_append,strLen_append,e0,e2];exact zal (by omega),?_⟩
    refine j_fnil (by rw [strLen_append,strLen_append,e0,e2];exact zal (by omega)) ?_
    nofun
    exact fun _=>hx fun z=>by rw [hall.mpr z.ok] at hb;cases hb
  | true =>
    have hok:=hall.mp hb
    by_cases c1:((textOf w).length:Int)<1
    · nofun
      refine ⟨zal (by omega),?_⟩
      nofun
      refine ⟨by rw [strLen_append,e0];exact zal (by omega),?_⟩
      nofun
      refine ⟨by rw [strLen_append,strLen_append,e0,e2];exact zal (by omega),?_⟩
      refine j_fnil (by rw [strLen_append,strLen_append,e0,e2];exact zal (by omega)) ?_
      nofun
      exact fun _=>hx fun z=>by have:=z.l1;omega
    · by_cases c2:8<((textOf w).length:Int)
      · nofun
        refine ⟨zal (by omega),?_⟩
        nofun
        refine ⟨by rw [strLen_append,e0];exact zal (by omega),?_⟩
        nofun
        refine ⟨by rw [strLen_append,strLen_append,e0,e2];exact zal (by omega),?_⟩
        refine j_fnil (by rw [strLen_append,strLen_append,e0,e2];exact zal (by omega)) ?_
        nofun
        exact fun _=>hx fun z=>by have:=z.l8;omega
      · nofun
        exact hq ⟨by omega,by omega,hok⟩
inductive zdx (adr:Rf→Addr) (ds:List D) (S:Hp3) (q:D→Prop) (qx:Addr→Prop):Prop where
  | mk (x:D) (xs:List D) (l m:Int) (_:ds=[x,.int l,.int m]) (_:(x=.tup xs∨∃a,x=.ref a∧S a=some (.lst xs))) (_:(l≤xs.length→(xs.length:Int)≤m→q .non)) (_:(¬(l≤xs.length∧(xs.length:Int)≤m)→qx (adr .text)))
def zba (adr:Rf→Addr):Sp3:=rdX (zdx adr)
theorem zdn {k:Nat} (h:Has K mg "refuse_unfit_count" zaz ["row","least","most"]) (G:Gs K mg) (R:Rfs K mg ES adr):Cal3 P w K mg base (k+1) "refuse_unfit_count" ["row","least","most"] (zba adr):=by
  refine h.rdX zdl (by rintro ds S q qx ⟨_,_,_,_,e,_⟩;rw [e];rfl) fun f cdv A outer s0 H E ds S q qx hr hA=>?_
  obtain ⟨x,xs,l,m,rfl,hx,hq,hqx⟩:=hA
  refine ⟨_,(zam (s_if (PW3.pt (w_or (zap zhb zbe (zav za4 zd1 rfl G.len PySem.boot_len (zaa (e_v 0) zaf)) (e_v 1) (nomark _)) (zgv (zap zmg zbe (zav za4 zd1 rfl G.len PySem.boot_len (zaa (e_v 0) zaf)) (e_v 2) (nomark _))))) (zam (zey (C:=adr .text) (R.bound .text (by decide)) (R.exc (by decide)) rfl rfl (zaa zaj zaf))) zax)),?_⟩
  by_cases c1:(xs.length:Int)<l
  · rcases hx with rfl|⟨a,rfl,hS⟩
    · nofun
      exact fun a=>⟨Sub.refl _,hqx (by omega)⟩
    · nofun
      exact fun a=>⟨Sub.refl _,hqx (by omega)⟩
  · by_cases c2:m<(xs.length:Int)
    · rcases hx with rfl|⟨a,rfl,hS⟩
      · nofun
        exact fun a=>⟨Sub.refl _,hqx (by omega)⟩
      · nofun
        exact fun a=>⟨Sub.refl _,hqx (by omega)⟩
    · rcases hx with rfl|⟨a,rfl,hS⟩
      · nofun
        exact ⟨Sub.refl _,hq (by omega) (by omega)⟩
      · nofun
        exact ⟨Sub.refl _,hq (by omega) (by omega)⟩
theorem zcf {x:Str} (h:NameOk x):x=textOf x.cps.toList∧Wd5 x.cps.toList:=by
  obtain ⟨cs,rfl,h1,h8,h⟩:=h
  rw [zah]
  exact ⟨rfl,h1,h8,fun c hc=>decide_eq_true (h c hc)⟩
theorem zdf (css:List (List Nat)):((css.map textOf).map (·.length)).sum=css.flatten.length:=by
  induction css with
  | nil=>rfl
  | cons c r ih=>rw [List.map_cons,List.map_cons,List.sum_cons,ih,zak,List.flatten_cons,List.length_append]
theorem zep (w:List Nat) (ws:List (List Nat)):Txt.join (textOf [32]) ((w::ws).map textOf)=textOf (glue 32 w ws):=by
  have aux:∀(ws:List (List Nat)) (w:List Nat),(ws.map textOf).foldl (fun a (p:Str)=>a++(textOf [32]).cps++p.cps) w.toArray=(glue 32 w ws).toArray:=by
    intro ws
    induction ws with
    | nil=>intro w;rfl
    | cons v r ih =>
      intro w
      rw [List.map_cons,List.foldl_cons]
      have e:w.toArray++(textOf [32]).cps++(textOf v).cps=(w++32::v).toArray:=by simp [textOf]
      rw [e,ih (w++32::v),glue]
      congr 1
      cases r with
      | nil=>simp [glue]
      | cons u r=>simp [glue]
  show Builtin.Str.glued (textOf [32]) ((w::ws).map textOf)=textOf (glue 32 w ws)
  unfold Builtin.Str.glued
  rw [List.map_cons,List.drop_one,List.tail_cons]
  exact congrArg Str.mk (aux ws w)
theorem zdq (a b:List Nat):textOf a++textOf b=textOf (a++b):=by
  show (⟨(textOf a).cps++(textOf b).cps⟩:Str)=_
  simp [textOf]
theorem zeq:∀(ws:List (List Nat)) (w:List Nat),(w::ws).flatten.length≤(glue 32 w ws).length
  | [],w=>by simp [glue]
  | v::r,w=>by
    have:=zeq r v
    rw [glue,List.flatten_cons,List.length_append,List.length_append,List.length_cons]
    omega
inductive P_init (CR:Addr) (ds:List D) (S:Hp3) (Q:K3) (_:X3):Prop where
  | mk (a:Addr) (t:Str) (_:ds=[.ref a,.str t]) (_:S a=some (.ins CR [])) (_:∀S',Px a S S'→S' a=some (.ins CR (rdFs t 0))→Q .non S')
def zls (CR:Addr):Sp3:= (P_init CR)
theorem zmj {k:Nat} (h:HasM K CR "__init__" "SayingReader.__init__" zdu ["self","text"]) (G:Gs K mg) (T:RunT K mg CR):Met3 P w K mg base (k+1) CR "__init__" ["self","text"] (zls CR):=by
  refine h.met3 zlw (by rintro ds S Q E ⟨_,_,e,_⟩;rw [e];rfl) fun f cdv A0 outer s0 H E ds S Q W hr hA=>?_
  obtain ⟨a,t,rfl,ha,hq⟩:=hA
  refine ⟨_,(zac (s_fld T.cl T.n_text (e_v 0) (e_v 1) rfl)
 (zam (s_fld T.cl T.n_place (e_v 0) zad rfl))),?_⟩
  have put:∀(gs:List (Str×D)) (S:Hp3) (fs:List (Str×D)) (f:Str) (d:D) (n:Hp3→Prop),S a=some (.ins CR fs)→fs.length<1000→putI f d fs=gs→n (up S a (.ins CR gs))→putR CR f (.ref a) d S n:=fun gs S fs f d n hS hl e q=>j_putR hS hl (by rw [e];exact q)
  nofun
  refine put [("text",.str t)] _ _ _ _ _ ha (by decide) rfl ?_
  nofun
  refine put [("text",.str t),("place",.int 0)] _ _ _ _ _ zag (show 1<1000 by decide) rfl ?_
  nofun
  rw [zpn]
  exact hq _ (Px.refl a S).at zag
inductive zjw (CR:Addr) (ds:List D) (S:Hp3) (Q:K3) (_:X3):Prop where
  | mk (a:Addr) (cs:List Nat) (p:Nat) (_:ds=[.ref a]) (_:S a=some (.ins CR (rdFs (textOf cs) p))) (_:cs.length≤100000) (_:Q (.str (textOf (sgAt cs p))) S)
def zbv (CR:Addr):Sp3:= (zjw CR)
theorem zgg {k:Nat} (h:HasM K CR "sign_here" "SayingReader.sign_here" zbo ["self"]) (G:Gs K mg) (T:RunT K mg CR):Met3 P w K mg base (k+1) CR "sign_here" ["self"] (zbv CR):=by
  refine h.met3 zgf (by rintro ds S Q E ⟨_,_,_,e,_⟩;rw [e];rfl) fun f cdv A0 outer s0 H E ds S Q W hr hA=>?_
  obtain ⟨a,cs,p,rfl,hS,hl,hq⟩:=hA
  refine ⟨_,(zam (zaq (za8 ze9 zff (zix T.cl T.n_text (e_v 0) rfl) (zbi (zix T.cl T.n_place (e_v 0) rfl)) (zbi (e_op zcx zbt (zix T.cl T.n_place (e_v 0) rfl) zad))))),?_⟩
  nofun
  refine j_slS (zal (by show (textOf cs).cps.size≤_;simp only [textOf,List.size_toArray];omega)) ?_
  rw [zah,show (p:Int)+1=((p+1:Nat):Int) by omega,zks (by omega),show p+1-p=1 by omega]
  exact hq
noncomputable def pMany (p:List Nat→Option (Sy×List Nat)):Nat→List Nat→Option (List Sy×List Nat)
  | 0,_=>none
  | n+1,r=>(p r).bind fun x=>if x.2.head?=some 32 then (pMany p n x.2.tail).map fun y=>(x.1::y.1,y.2) else some ([x.1],x.2)
noncomputable def pRow (p:List Nat→Option (Sy×List Nat)) (cl lo hi:Nat) (r:List Nat):Option (List Sy×List Nat) :=
  (pMany p (r.length+1) r).bind fun x=>if x.2.head?=some cl∧lo≤x.1.length∧x.1.length≤hi then some (x.1,x.2.tail) else none
def pWd (w:List Nat):Prop:=1≤w.length∧w.length≤8
instance (w:List Nat):Decidable (pWd w):=inferInstanceAs (Decidable (_∧_))
noncomputable def mkPair (as:List Sy):Sy:=.pair (as.getD 0 .bud) (as.getD 1 .bud)
noncomputable def mkFork (as:List Sy):Sy:=.fork (as.getD 0 .bud) (as.getD 1 .bud) (as.getD 2 .bud)
noncomputable def pNm (p:List Nat→Option (Sy×List Nat)) (r:List Nat):Option (Sy×List Nat) :=
  if pWd (r.takeWhile ltr) then
    if (r.dropWhile ltr).head?=some 40 then (pRow p 41 1 4 (r.dropWhile ltr).tail).map fun x=>(.send (textOf (r.takeWhile ltr)) x.1,x.2)
    else some (.name (textOf (r.takeWhile ltr)),r.dropWhile ltr)
  else none
noncomputable def pS:Nat→List Nat→Option (Sy×List Nat)
  | 0,_=>none
  | d+1,r =>
    if r.head?=some 45 then some (.bud,r.tail)
    else if r.head?=some 60 then (pS d r.tail).map fun x=>(.left x.1,x.2)
    else if r.head?=some 62 then (pS d r.tail).map fun x=>(.right x.1,x.2)
    else if r.head?=some 91 then (pRow (pS d) 93 2 2 r.tail).map fun x=>(mkPair x.1,x.2)
    else if r.head?=some 123 then (pRow (pS d) 125 3 3 r.tail).map fun x=>(mkFork x.1,x.2)
    else pNm (pS d) r
def Shr (p:List Nat→Option (Sy×List Nat)):Prop:=∀r s r',p r=some (s,r')→r' <:+ r∧r'.length<r.length
theorem zdr (r:List Nat):r.tail <:+ r:=List.tail_suffix r
theorem zcj {r:List Nat} {c:Nat} (h:r.head?=some c):r.tail.length+1=r.length:=by cases r<;>simp at h ⊢
theorem zig {p:List Nat→Option (Sy×List Nat)} (hp:Shr p):∀(n:Nat) (r:List Nat) (as:List Sy) (r':List Nat),pMany p n r=some (as,r')→r' <:+ r∧r'.length<r.length∧1≤as.length∧as.length≤r.length
  | 0,_,_,_,h=>by cases h
  | n+1,r,as,r',h=>by
    rw [pMany] at h
    cases e:p r with
    | none=>rw [e] at h;cases h
    | some x =>
      obtain ⟨s,r1⟩:=x
      obtain ⟨h1,h2⟩:=hp r s r1 e
      rw [e,Option.bind_some] at h
      by_cases c:r1.head?=some 32
      · rw [if_pos c] at h
        obtain ⟨⟨bs,r2⟩,e2,e3⟩:=Option.map_eq_some_iff.mp h
        obtain ⟨h3,h4,h5,h6⟩:=zig hp n _ _ _ e2
        cases e3
        have:=zcj c
        dsimp only at *
        exact ⟨(h3.trans (zdr _)).trans h1,by omega,by simp,by simp only [List.length_cons];omega⟩
      · rw [if_neg c] at h
        cases h
        exact ⟨h1,h2,by simp,by simp only [List.length_cons,List.length_nil];omega⟩
theorem zcw {p:List Nat→Option (Sy×List Nat)} (hp:Shr p) {cl lo hi:Nat} {r:List Nat} {as:List Sy} {r':List Nat} (h:pRow p cl lo hi r=some (as,r')):r' <:+ r∧r'.length<r.length∧lo≤as.length∧as.length≤hi:=by
  obtain ⟨⟨bs,r2⟩,e,h⟩:=Option.bind_eq_some_iff.mp h
  obtain ⟨h1,h2,_⟩:=zig hp _ _ _ _ e
  by_cases c:r2.head?=some cl∧lo≤bs.length∧bs.length≤hi
  · rw [if_pos c] at h
    cases h
    have:=zcj c.1
    dsimp only at *
    exact ⟨(zdr _).trans h1,by omega,c.2⟩
  · rw [if_neg c] at h;cases h
theorem zqb {p:List Nat→Option (Sy×List Nat)} (hp:Shr p):Shr (pNm p):=fun r s r' h=>by
  unfold pNm at h
  have hd:r.dropWhile ltr <:+ r:=List.dropWhile_suffix ltr
  have hl:(r.takeWhile ltr).length+(r.dropWhile ltr).length=r.length:=by rw [←List.length_append,List.takeWhile_append_dropWhile]
  by_cases c:pWd (r.takeWhile ltr)
  · rw [if_pos c] at h
    have:=c.1
    by_cases c2:(r.dropWhile ltr).head?=some 40
    · rw [if_pos c2] at h
      obtain ⟨⟨as,r2⟩,e,e2⟩:=Option.map_eq_some_iff.mp h
      cases e2
      obtain ⟨h1,h2,_⟩:=zcw hp e
      have:=zcj c2
      dsimp only at *
      exact ⟨(h1.trans (zdr _)).trans hd,by omega⟩
    · rw [if_neg c2] at h
      cases h
      exact ⟨hd,by omega⟩
  · rw [if_neg c] at h;cases h
theorem zfc:∀d,Shr (pS d)
  | 0=>fun r s r' h=>by cases h
  | d+1=>fun r s r' h=>by
    have ih:=zfc d
    rw [pS] at h
    have tl:∀{c:Nat} {r1:List Nat},r.head?=some c→r1 <:+ r.tail∧r1.length<r.tail.length→r1 <:+ r∧r1.length<r.length:=fun hc h1=>by
      have:=zcj hc
      exact ⟨h1.1.trans (zdr _),by omega⟩
    by_cases c1:r.head?=some 45
    · rw [if_pos c1] at h
      cases h
      have:=zcj c1
      exact ⟨zdr _,by omega⟩
    rw [if_neg c1] at h
    by_cases c2:r.head?=some 60
    · rw [if_pos c2] at h
      obtain ⟨⟨a,r1⟩,e,e2⟩:=Option.map_eq_some_iff.mp h
      cases e2
      exact tl c2 (ih _ _ _ e)
    rw [if_neg c2] at h
    by_cases c3:r.head?=some 62
    · rw [if_pos c3] at h
      obtain ⟨⟨a,r1⟩,e,e2⟩:=Option.map_eq_some_iff.mp h
      cases e2
      exact tl c3 (ih _ _ _ e)
    rw [if_neg c3] at h
    by_cases c4:r.head?=some 91
    · rw [if_pos c4] at h
      obtain ⟨⟨a,r1⟩,e,e2⟩:=Option.map_eq_some_iff.mp h
      cases e2
      obtain ⟨h1,h2,_⟩:=zcw ih e
      exact tl c4 ⟨h1,h2⟩
    rw [if_neg c4] at h
    by_cases c5:r.head?=some 123
    · rw [if_pos c5] at h
      obtain ⟨⟨a,r1⟩,e,e2⟩:=Option.map_eq_some_iff.mp h
      cases e2
      obtain ⟨h1,h2,_⟩:=zcw ih e
      exact tl c5 ⟨h1,h2⟩
    rw [if_neg c5] at h
    exact zqb ih _ _ _ h
theorem zgn {p:List Nat→Option (Sy×List Nat)} (hp:Shr p):∀(n m:Nat) (r:List Nat),r.length<n→r.length<m→pMany p n r=pMany p m r
  | 0,_,_,h,_=>by omega
  | _+1,0,_,_,h=>by omega
  | n+1,m+1,r,hn,hm=>by
    rw [pMany,pMany]
    cases e:p r with
    | none=>rfl
    | some x =>
      obtain ⟨s,r1⟩:=x
      obtain ⟨_,h2⟩:=hp r s r1 e
      rw [Option.bind_some,Option.bind_some]
      by_cases c:r1.head?=some 32
      · have:=zcj c
        rw [if_pos c,if_pos c,zgn hp n m _ (by show r1.tail.length<n;omega) (by show r1.tail.length<m;omega)]
      · rw [if_neg c,if_neg c]
def Snd (d:Nat) (p:List Nat→Option (Sy×List Nat)):Prop:=∀r s r',p r=some (s,r')→okS s∧s.deep≤d
theorem zif {d:Nat} {p:List Nat→Option (Sy×List Nat)} (hp:Snd d p):∀(n:Nat) (r:List Nat) (as:List Sy) (r':List Nat),pMany p n r=some (as,r')→∀a∈as,okS a∧a.deep≤d
  | 0,_,_,_,h=>by cases h
  | n+1,r,as,r',h=>by
    rw [pMany] at h
    cases e:p r with
    | none=>rw [e] at h;cases h
    | some x =>
      obtain ⟨s,r1⟩:=x
      have h1:=hp r s r1 e
      rw [e,Option.bind_some] at h
      by_cases c:r1.head?=some 32
      · rw [if_pos c] at h
        obtain ⟨⟨bs,r2⟩,e2,e3⟩:=Option.map_eq_some_iff.mp h
        have ih:=zif hp n _ _ _ e2
        cases e3
        intro a ha
        rcases List.mem_cons.mp ha with rfl|ha
        · exact h1
        · exact ih a ha
      · rw [if_neg c] at h
        cases h
        intro a ha
        rw [List.mem_singleton.mp ha]
        exact h1
theorem zg9 {d:Nat} {p:List Nat→Option (Sy×List Nat)} (hp:Snd d p) {cl lo hi:Nat} {r:List Nat} {as:List Sy} {r':List Nat} (h:pRow p cl lo hi r=some (as,r')):∀a∈as,okS a∧a.deep≤d:=by
  obtain ⟨⟨bs,r2⟩,e,h⟩:=Option.bind_eq_some_iff.mp h
  by_cases c:r2.head?=some cl∧lo≤bs.length∧bs.length≤hi
  · rw [if_pos c] at h
    cases h
    exact zif hp _ _ _ _ e
  · rw [if_neg c] at h;cases h
theorem zkg:∀{as:List Sy},(∀a∈as,okS a)→okSs as
  | [],_=>trivial
  | a::as,h=>⟨h a List.mem_cons_self,zkg fun b hb=>h b (List.mem_cons_of_mem _ hb)⟩
theorem ziz {d:Nat}:∀{as:List Sy},(∀a∈as,a.deep≤d)→Sy.deeps as≤d
  | [],_=>Nat.zero_le _
  | a::as,h=>by
    have h1:=h a List.mem_cons_self
    have h2:=ziz fun b hb=>h b (List.mem_cons_of_mem _ hb)
    rw [Sy.deeps]
    omega
theorem zj5 {r:List Nat}:∀c∈r.takeWhile ltr,ltr c=true:=fun c hc=>by
  have:=List.all_takeWhile (p:=ltr) (l:=r)
  rw [List.all_eq_true] at this
  exact this c hc
theorem nm_of {r:List Nat} (h:pWd (r.takeWhile ltr)):NameOk (textOf (r.takeWhile ltr)):=⟨_,rfl,h.1,h.2,fun c hc=>of_decide_eq_true (zj5 c hc)⟩
theorem zo7 {as:List Sy} (h:2≤as.length∧as.length≤2):∃a b,as=[a,b]:=by
  match as,h with
  | [a,b],_=>exact ⟨a,b,rfl⟩
  | [],h=>simp at h
  | [_],h=>simp at h
  | _::_::_::_,h=>simp at h
theorem zj4 {as:List Sy} (h:3≤as.length∧as.length≤3):∃a b c,as=[a,b,c]:=by
  match as,h with
  | [a,b,c],_=>exact ⟨a,b,c,rfl⟩
  | [],h=>simp at h
  | [_],h=>simp at h
  | [_,_],h=>simp at h
  | _::_::_::_::_,h=>simp at h
theorem zo8:∀d,Snd d (pS d)
  | 0=>fun r s r' h=>by cases h
  | d+1=>fun r s r' h=>by
    have ih:=zo8 d
    have sh:=zfc d
    rw [pS] at h
    by_cases c1:r.head?=some 45
    · rw [if_pos c1] at h
      cases h
      exact ⟨trivial,by simp [Sy.deep]⟩
    rw [if_neg c1] at h
    by_cases c2:r.head?=some 60
    · rw [if_pos c2] at h
      obtain ⟨⟨a,r1⟩,e,e2⟩:=Option.map_eq_some_iff.mp h
      cases e2
      have:=ih _ _ _ e
      exact ⟨this.1,by show a.deep+1≤d+1;omega⟩
    rw [if_neg c2] at h
    by_cases c3:r.head?=some 62
    · rw [if_pos c3] at h
      obtain ⟨⟨a,r1⟩,e,e2⟩:=Option.map_eq_some_iff.mp h
      cases e2
      have:=ih _ _ _ e
      exact ⟨this.1,by show a.deep+1≤d+1;omega⟩
    rw [if_neg c3] at h
    by_cases c4:r.head?=some 91
    · rw [if_pos c4] at h
      obtain ⟨⟨as,r1⟩,e,e2⟩:=Option.map_eq_some_iff.mp h
      cases e2
      have hs:=zg9 ih e
      obtain ⟨a,b,rfl⟩:=zo7 (zcw sh e).2.2
      have ha:=hs a (by simp)
      have hb:=hs b (by simp)
      exact ⟨⟨ha.1,hb.1⟩,by show max a.deep b.deep+1≤d+1;omega⟩
    rw [if_neg c4] at h
    by_cases c5:r.head?=some 123
    · rw [if_pos c5] at h
      obtain ⟨⟨as,r1⟩,e,e2⟩:=Option.map_eq_some_iff.mp h
      cases e2
      have hs:=zg9 ih e
      obtain ⟨a,b,c,rfl⟩:=zj4 (zcw sh e).2.2
      have ha:=hs a (by simp)
      have hb:=hs b (by simp)
      have hc:=hs c (by simp)
      exact ⟨⟨ha.1,hb.1,hc.1⟩,by show max a.deep (max b.deep c.deep)+1≤d+1;omega⟩
    rw [if_neg c5] at h
    unfold pNm at h
    by_cases c:pWd (r.takeWhile ltr)
    · rw [if_pos c] at h
      by_cases c6:(r.dropWhile ltr).head?=some 40
      · rw [if_pos c6] at h
        obtain ⟨⟨as,r2⟩,e,e2⟩:=Option.map_eq_some_iff.mp h
        cases e2
        have hs:=zg9 ih e
        obtain ⟨_,_,h3,h4⟩:=zcw sh e
        have hdd:Sy.deeps as≤d:=ziz fun a ha=>(hs a ha).2
        refine ⟨⟨nm_of c,h3,h4,zkg fun a ha=>(hs a ha).1⟩,?_⟩
        show Sy.deeps as+1≤d+1
        omega
      · rw [if_neg c6] at h
        cases h
        exact ⟨nm_of c,by rw [Sy.deep];omega⟩
    · rw [if_neg c] at h;cases h
structure At6 (CR:Addr) (S:Hp3) (a:Addr) (cs r:List Nat):Prop where
  at_:S a=some (.ins CR (rdFs (textOf cs) ((cs.length-r.length:Nat):Int)))
  suf:r <:+ cs
  len:cs.length≤5000
  low:∀c∈cs,c<256
theorem At6.sg {CR:Addr} {S:Hp3} {a:Addr} {cs r:List Nat} (h:At6 CR S a cs r):sgAt cs (cs.length-r.length)=r.head?.toList:=by
  obtain ⟨pre,e⟩:=h.suf
  unfold sgAt
  rw [←e,List.length_append,Nat.add_sub_cancel,List.drop_left]
  cases r<;>rfl
theorem At6.step {CR:Addr} {S:Hp3} {a:Addr} {cs r:List Nat} (h:At6 CR S a cs r) {c:Nat} (hc:r.head?=some c):At6 CR (up S a (.ins CR (rdFs (textOf cs) (((cs.length-r.length:Nat):Int)+1)))) a cs r.tail:=by
  refine ⟨?_,(zdr r).trans h.suf,h.len,h.low⟩
  have h1:=zcj hc
  have h2:=h.suf.length_le
  rw [zag,show ((cs.length-r.length:Nat):Int)+1=((cs.length-r.tail.length:Nat):Int) by omega]
theorem zkn:∀(r:List Nat) (c:Nat) (r':List Nat),r.dropWhile ltr=c::r'→ltr c=false
  | [],_,_,h=>by cases h
  | x::r,c,r',h=>by
    rw [List.dropWhile_cons] at h
    by_cases hx:ltr x=true
    · rw [if_pos hx] at h;exact zkn r c r' h
    · rw [if_neg hx] at h
      cases h
      simpa using hx
inductive zjx (CR:Addr) (adr:Rf→Addr) (ds:List D) (S:Hp3) (Q:K3) (W:X3):Prop where
  | mk (a:Addr) (cs r:List Nat) (_:ds=[.ref a]) (_:At6 CR S a cs r) (_:(pWd (r.takeWhile ltr)→∀S',Px a S S'→At6 CR S' a cs (r.dropWhile ltr)→Q (.str (textOf (r.takeWhile ltr))) S')) (_:(¬pWd (r.takeWhile ltr)→∀x S',W (adr .text) x S'))
def zdh (CR:Addr) (adr:Rf→Addr):Sp3:= (zjx CR adr)
inductive zhy (CR:Addr) (adr:Rf→Addr) (n:Nat) (ds:List D) (S:Hp3) (Q:K3) (W:X3):Prop where
  | mk (a:Addr) (lv:Int) (d:Nat) (cs r:List Nat) (_:ds=[.ref a,.int lv]) (_:lv+(d:Int)=13) (_:d≤12) (_:3*d+6≤n) (_:At6 CR S a cs r) (_:(∀s r',pS d r=some (s,r')→∀S',Px a S S'→At6 CR S' a cs r'→Q s.d S')) (_:(pS d r=none→∀x S',W (adr .text) x S'))
def zbh (CR:Addr) (adr:Rf→Addr) (n:Nat):Sp3:= (zhy CR adr n)
inductive zi8 (CR:Addr) (adr:Rf→Addr) (n:Nat) (ds:List D) (S:Hp3) (Q:K3) (W:X3):Prop where
  | mk (a:Addr) (lv:Int) (d:Nat) (cs r:List Nat) (_:ds=[.ref a,.int lv]) (_:lv+(d:Int)=12) (_:d≤11) (_:3*d+8≤n) (_:At6 CR S a cs r) (_:(∀s r',pNm (pS d) r=some (s,r')→∀S',Px a S S'→At6 CR S' a cs r'→Q s.d S')) (_:(pNm (pS d) r=none→∀x S',W (adr .text) x S'))
def zch (CR:Addr) (adr:Rf→Addr) (n:Nat):Sp3:= (zi8 CR adr n)
inductive zli (CR:Addr) (adr:Rf→Addr) (n:Nat) (ds:List D) (S:Hp3) (Q:K3) (W:X3):Prop where
  | mk (a:Addr) (cl:Nat) (lo hi:Nat) (lv:Int) (d:Nat) (cs r:List Nat) (_:ds=[.ref a,.str (textOf [cl]),.int lo,.int hi,.int lv]) (_:lv+(d:Int)=13) (_:d≤11) (_:3*d+7≤n) (_:cl≠32) (_:cl<256) (_:At6 CR S a cs r) (_:(∀as r',pRow (pS d) cl lo hi r=some (as,r')→∀S',Px a S S'→At6 CR S' a cs r'→Q (.tup (as.map Sy.d)) S')) (_:(pRow (pS d) cl lo hi r=none→∀x S',W (adr .text) x S'))
def zcp (CR:Addr) (adr:Rf→Addr) (n:Nat):Sp3:= (zli CR adr n)
theorem t_45:textOf [45]="-":=by decide +kernel
theorem t_60:textOf [60]="<":=by decide +kernel
theorem t_62:textOf [62]=">":=by decide +kernel
theorem t_91:textOf [91]="[":=by decide +kernel
theorem zpp:textOf [123]="{":=by decide +kernel
theorem t_93:textOf [93]="]":=by decide +kernel
theorem t_125:textOf [125]="}":=by decide +kernel
theorem t_41:textOf [41]=")":=by decide +kernel
theorem t_40:textOf [40]="(":=by decide +kernel
theorem t_32:textOf [32]=" ":=by decide +kernel
theorem t_0:textOf []="":=by decide +kernel
theorem _root_.E3.Px.trans {st:Addr} {A B C:Hp3} (h:Px st A B) (h':Px st B C):Px st A C:=fun a u n e=>h' a u n (h a u n e)
noncomputable abbrev marks5:List Str:=["-","<",">","[","{"]
theorem zf0 {x:Str} (h:x="-"∨x="<"∨x=">"∨x="["∨x="{"):decide (x∈marks5)=true:=by
  rcases h with rfl|rfl|rfl|rfl|rfl<;>decide +kernel
theorem zok {cs:List Nat} (h:cs≠[45]∧cs≠[60]∧cs≠[62]∧cs≠[91]∧cs≠[123]):decide (textOf cs∈marks5)=false:=by
  refine decide_eq_false fun z=>?_
  simp only [marks5,List.mem_cons,List.not_mem_nil,or_false] at z
  rcases z with z|z|z|z|z
  · exact h.1 (zbg (z.trans t_45.symm))
  · exact h.2.1 (zbg (z.trans t_60.symm))
  · exact h.2.2.1 (zbg (z.trans t_62.symm))
  · exact h.2.2.2.1 (zbg (z.trans t_91.symm))
  · exact h.2.2.2.2 (zbg (z.trans zpp.symm))
theorem j_marks {S:Hp3} {Q:K3} {x:Str} (q:Q (.bl (!decide (x∈marks5))) S):in3 true (.str x) (.tup [.str "-",.str "<",.str ">",.str "[",.str "{"]) S Q:=j_notinTS (xs:=marks5) q
theorem zgh {k:Nat} (h:HasM K CR "read_word" "SayingReader.read_word" zbp ["self"]) (G:Gs K mg) (T:RunT K mg CR) (R:Rfs K mg ES adr) (M_sign_here:Met3 P w K mg base k CR "sign_here" ["self"] (zbv CR)) (C_is_letter:Cal3 P w K mg base k "is_letter" ["sign"] zdj) (C_refuse_unfit_name:Cal3 P w K mg base k "refuse_unfit_name" ["word"] (zbs adr)):Met3 P w K mg base (k+1) CR "read_word" ["self"] (zdh CR adr):=by
  refine h.met3x zc2 (by rintro ds S Q E ⟨_,_,_,e,_⟩;rw [e];rfl) fun f cdv A0 outer s0 H E ds S Q W hr hA=>?_
  obtain ⟨a,cs,r,rfl,hA,hq,hx⟩:=hA
  obtain ⟨pre,hcs⟩:=hA.suf
  have hS:=hA.at_
  have hno:=zkn r
  have hwl:=zj5 (r:=r)
  have hwp:=List.takeWhile_append_dropWhile (p:=ltr) (l:=r)
  generalize r.takeWhile ltr=w at hq hx hwl hwp
  generalize r.dropWhile ltr=post at hq hno hwp
  subst hwp
  have hl:=hA.len
  have hlow:=hA.low
  have hsuf:=hA.suf
  subst hcs
  have e0:(pre++(w++post)).length-(w++post).length=pre.length:=by rw [List.length_append];omega
  rw [e0] at hS
  refine ⟨_,(zac (zas (i:=1) zc2.nd rfl (Or.inl rfl) (zix T.cl T.n_place (e_v 0) rfl))
 (zac (zly pown (zge (zay C_is_letter hr rfl (zaa (zd6 M_sign_here T.cl hr (e_v 0)) zaf))) (zam (zh8 T.cl T.n_place (e_v 0) zad)))
 (zac (zas (i:=2) zc2.nd rfl (Or.inl rfl) (za8 ze9 zff (zix T.cl T.n_text (e_v 0) rfl) (zbi (e_v 1)) (zbi (zix T.cl T.n_place (e_v 0) rfl))))
 (zac (zfb (zay C_refuse_unfit_name hr rfl (zaa (e_v 2) zaf)))
 (zam (zaq (e_v 2))))))),?_⟩
  nofun
  refine j_while (fun m σ S'=>Ex2 fun (i:Nat) (x2:Option D)=>i+m=w.length∧σ=[some (.ref a),some (.int pre.length),x2]∧Px a S S'∧S' a=some (.ins CR (rdFs (textOf (pre++(w++post))) (pre.length+i:Nat)))) w.length ⟨0,none,by omega,rfl,Px.refl _ _,hS⟩ ?_
  rintro m σ S1 ⟨i,x2,him,rfl,px,h1⟩
  nofun
  refine j_Rm h1 (fun _ _=>rfl) ?_
  refine ⟨a,_,_,rfl,h1,by omega,?_⟩
  nofun
  rw [sg_get]
  by_cases ci:i<w.length
  · have e:(pre++(w++post))[pre.length+i]?=some w[i]:=by
      rw [List.getElem?_append_right (by omega),show pre.length+i-pre.length=i by omega,List.getElem?_append_left ci,List.getElem?_eq_getElem ci]
    rw [e]
    refine ⟨[w[i]],by simp,rfl,?_⟩
    rw [show ltrs [w[i]]=ltr w[i] from rfl,hwl _ (List.getElem_mem ci)]
    nofun
    refine j_Rstep h1 ?_
    refine ⟨m-1,by omega,i+1,_,by omega,rfl,px.at,?_⟩
    rw [zag,show ((pre.length+i:Nat):Int)+1=((pre.length+(i+1):Nat):Int) by omega]
  · have ei:i=w.length:=by omega
    have e:(pre++(w++post))[pre.length+i]?=post.head?:=by
      rw [List.getElem?_append_right (by omega),List.getElem?_append_right (by omega),show pre.length+i-pre.length-w.length=0 by omega]
      cases post<;>rfl
    rw [e]
    have hn:ltrs post.head?.toList=false:=by
      cases post with
      | nil=>rfl
      | cons c r=>exact hno c r rfl
    refine ⟨_,by cases post<;>simp,rfl,?_⟩
    rw [hn]
    have hw8:w.length≤5000:=by simp only [List.length_append] at hl;omega
    nofun
    refine j_slS (zal (by rw [zak];omega)) ?_
    rw [zah,zks (by omega),show pre.length+i-pre.length=w.length by omega,List.drop_left,List.take_left]
    nofun
    refine ⟨w,rfl,hw8,fun c hc=>hlow c (by simp [hc]),fun hw=>?_,fun hw=>?_⟩
    · nofun
      refine hq ⟨hw.l1,hw.l8⟩ S1 px ⟨?_,(List.suffix_append w post).trans hsuf,hl,hlow⟩
      rw [h1,show (pre++(w++post)).length-post.length=pre.length+i by simp only [List.length_append];omega]
    · exact fun x=>hx (fun z=>hw ⟨z.1,z.2,hwl⟩) x S1
theorem zfi {n:Nat} (hn0:1≤n) (h:HasM K CR "read_saying" "SayingReader.read_saying" za5 ["self","level"]) (G:Gs K mg) (T:RunT K mg CR) (R:Rfs K mg ES adr) (M_sign_here:Met3 P w K mg base n CR "sign_here" ["self"] (zbv CR)) (M_read_named:Met3 P w K mg base n CR "read_named" ["self","level"] (zch CR adr n))
    (M_read_saying:Met3 P w K mg base n CR "read_saying" ["self","level"] (zbh CR adr n)) (M_read_row:Met3 P w K mg base n CR "read_row" ["self","closing","least","most","level"] (zcp CR adr n)):Met3 P w K mg base (n+1) CR "read_saying" ["self","level"] (zbh CR adr (n+1)):=by
  refine h.met3x zde (by rintro ds S Q E ⟨_,_,_,_,_,e,_⟩;rw [e];rfl) fun f cdv A0 outer s0 H E ds S Q W hr hA=>?_
  obtain ⟨a,lv,d,cs,r,rfl,hlv,hd,hn,hA,hq,hx⟩:=hA
  have hS:=hA.at_
  have hl:=hA.len
  refine ⟨_,(zac (s_if (zap zmg zbe (e_v 1) (zhr G.MOST_DEEP rfl) (nomark _)) (zam (zey (C:=adr .text) (R.bound .text (by decide)) (R.exc (by decide)) rfl rfl (zaa zaj zaf))) zax)
 (zac (zas (i:=2) zde.nd rfl (Or.inl rfl) (zd6 M_sign_here T.cl hr (e_v 0)))
 (zac (s_if (zap zii dn_in (e_v 2) (zbc (zaa zaj (zaa zaj (zaa zaj (zaa zaj (zaa zaj zaf)))))) (by with_unfolding_all rfl)) (zam (zaq (zer M_read_named T.cl hr (e_v 0) (zaa (e_v 1) zaf)))) zax)
 (zac (zh8 T.cl T.n_place (e_v 0) zad)
 (zac (s_if (zap za3 zdo (e_v 2) zaj (nomark _)) (zam (zaq (zbc (zaa zaj zaf)))) zax)
 (zac (s_if (zap za3 zdo (e_v 2) zaj (nomark _)) (zam (zaq (zbc (zaa zaj (zaa (zer M_read_saying T.cl hr (e_v 0) (zaa (e_op zcx zbt (e_v 1) zad) zaf)) zaf))))) zax)
 (zac (s_if (zap za3 zdo (e_v 2) zaj (nomark _)) (zam (zaq (zbc (zaa zaj (zaa (zer M_read_saying T.cl hr (e_v 0) (zaa (e_op zcx zbt (e_v 1) zad) zaf)) zaf))))) zax)
 (zac (s_if (zap za3 zdo (e_v 2) zaj (nomark _)) (zam (zaq (e_op zez ze5 (zbc (zaa zaj zaf)) (zer M_read_row T.cl hr (e_v 0) (zaa zaj (zaa zad (zaa zad (zaa (e_op zcx zbt (e_v 1) zad) zaf)))))))) zax)
 (zam (zaq (e_op zez ze5 (zbc (zaa zaj zaf)) (zer M_read_row T.cl hr (e_v 0) (zaa zaj (zaa zad (zaa zad (zaa (e_op zcx zbt (e_v 1) zad) zaf)))))))))))))))),?_⟩
  cases d with
  | zero =>
    have c0:(12:Int)<lv:=by omega
    nofun
    exact fun x=>hx rfl x S
  | succ d =>
  have c0:¬(12:Int)<lv:=by omega
  have c1:lv+((d+1:Nat):Int)=13:=hlv
  nofun
  refine j_Rm hS (fun _ _=>rfl) ?_
  refine ⟨a,_,_,rfl,hS,by omega,?_⟩
  rw [hA.sg]
  nofun
  have named:(r.head?≠some 45∧r.head?≠some 60∧r.head?≠some 62∧r.head?≠some 91∧r.head?≠some 123)→decide (textOf r.head?.toList∈marks5)=false∧pS (d+1) r=pNm (pS d) r:=fun hz=>by
    refine ⟨zok ?_,?_⟩
    · cases r with
      | nil=>simp
      | cons c r=>simpa using hz
    · rw [pS,if_neg hz.1,if_neg hz.2.1,if_neg hz.2.2.1,if_neg hz.2.2.2.1,if_neg hz.2.2.2.2]
  have px:=(Px.refl a S).at (o:=.ins CR (rdFs (textOf cs) (((cs.length-r.length:Nat):Int)+1)))
  by_cases k1:r.head?=some 45
  · have h1:=hA.step k1
    rw [k1,Option.toList_some,t_45]
    refine j_marks ?_
    rw [zf0 (.inl rfl)]
    nofun
    refine j_Rstep hS ?_
    nofun
    exact hq .bud r.tail (by rw [pS,if_pos k1]) _ px h1
  by_cases k2:r.head?=some 60
  · have h1:=hA.step k2
    rw [k2,Option.toList_some,t_60]
    have e:pS (d+1) r=(pS d r.tail).map fun x=>(.left x.1,x.2):=by rw [pS,if_neg k1,if_pos k2]
    refine j_marks ?_
    rw [zf0 (.inr (.inl rfl))]
    nofun
    refine j_Rstep hS ?_
    generalize up S a (.ins CR (rdFs (textOf cs) (((cs.length-r.length:Nat):Int)+1)))=S1 at h1 px ⊢
    nofun
    refine j_Rm h1.at_ (fun _ _=>rfl) ?_
    nofun
    refine ⟨a,lv+1,d,cs,r.tail,rfl,by omega,by omega,by omega,h1,fun s r' hs S2 p2 h2=>?_,fun hs=>hx (by rw [e,hs];rfl)⟩
    nofun
    exact hq (.left s) r' (by rw [e,hs];rfl) S2 (px.trans p2) h2
  by_cases k3:r.head?=some 62
  · have h1:=hA.step k3
    rw [k3,Option.toList_some,t_62]
    have e:pS (d+1) r=(pS d r.tail).map fun x=>(.right x.1,x.2):=by rw [pS,if_neg k1,if_neg k2,if_pos k3]
    refine j_marks ?_
    rw [zf0 (.inr (.inr (.inl rfl)))]
    nofun
    refine j_Rstep hS ?_
    generalize up S a (.ins CR (rdFs (textOf cs) (((cs.length-r.length:Nat):Int)+1)))=S1 at h1 px ⊢
    nofun
    refine j_Rm h1.at_ (fun _ _=>rfl) ?_
    nofun
    refine ⟨a,lv+1,d,cs,r.tail,rfl,by omega,by omega,by omega,h1,fun s r' hs S2 p2 h2=>?_,fun hs=>hx (by rw [e,hs];rfl)⟩
    nofun
    exact hq (.right s) r' (by rw [e,hs];rfl) S2 (px.trans p2) h2
  by_cases k4:r.head?=some 91
  · have h1:=hA.step k4
    rw [k4,Option.toList_some,t_91]
    have e:pS (d+1) r=(pRow (pS d) 93 2 2 r.tail).map fun x=>(mkPair x.1,x.2):=by rw [pS,if_neg k1,if_neg k2,if_neg k3,if_pos k4]
    refine j_marks ?_
    rw [zf0 (.inr (.inr (.inr (.inl rfl))))]
    nofun
    refine j_Rstep hS ?_
    generalize up S a (.ins CR (rdFs (textOf cs) (((cs.length-r.length:Nat):Int)+1)))=S1 at h1 px ⊢
    nofun
    refine j_Rm h1.at_ (fun _ _=>rfl) ?_
    nofun
    refine ⟨a,93,2,2,lv+1,d,cs,r.tail,by rw [t_93];rfl,by omega,by omega,by omega,by decide,by decide,h1,fun as r' hs S2 p2 h2=>?_,fun hs=>hx (by rw [e,hs];rfl)⟩
    obtain ⟨x,y,rfl⟩:=zo7 (zcw (zfc d) hs).2.2
    nofun
    refine j_catT (by simp) (zal (by simp)) ?_
    exact hq (mkPair [x,y]) r' (by rw [e,hs];rfl) S2 (px.trans p2) h2
  by_cases k5:r.head?=some 123
  · have h1:=hA.step k5
    rw [k5,Option.toList_some,zpp]
    have e:pS (d+1) r=(pRow (pS d) 125 3 3 r.tail).map fun x=>(mkFork x.1,x.2):=by rw [pS,if_neg k1,if_neg k2,if_neg k3,if_neg k4,if_pos k5]
    refine j_marks ?_
    rw [zf0 (.inr (.inr (.inr (.inr rfl))))]
    nofun
    refine j_Rstep hS ?_
    generalize up S a (.ins CR (rdFs (textOf cs) (((cs.length-r.length:Nat):Int)+1)))=S1 at h1 px ⊢
    nofun
    refine j_Rm h1.at_ (fun _ _=>rfl) ?_
    nofun
    refine ⟨a,125,3,3,lv+1,d,cs,r.tail,by rw [t_125];rfl,by omega,by omega,by omega,by decide,by decide,h1,fun as r' hs S2 p2 h2=>?_,fun hs=>hx (by rw [e,hs];rfl)⟩
    obtain ⟨x,y,z,rfl⟩:=zj4 (zcw (zfc d) hs).2.2
    nofun
    refine j_catT (by simp) (zal (by simp)) ?_
    exact hq (mkFork [x,y,z]) r' (by rw [e,hs];rfl) S2 (px.trans p2) h2
  obtain ⟨e1,e2⟩:=named ⟨k1,k2,k3,k4,k5⟩
  refine j_marks ?_
  rw [e1]
  nofun
  refine j_Rm hS (fun _ _=>rfl) ?_
  nofun
  exact ⟨a,lv,d,cs,r,rfl,by omega,by omega,by omega,hA,fun s r' hs S2 p2 h2=>hq s r' (by rw [e2,hs]) S2 p2 h2,fun hs=>hx (by rw [e2,hs])⟩
theorem zfy {n:Nat} (hn1:1≤n) (h:HasM K CR "read_named" "SayingReader.read_named" zbb ["self","level"]) (G:Gs K mg) (T:RunT K mg CR) (R:Rfs K mg ES adr) (M_sign_here:Met3 P w K mg base n CR "sign_here" ["self"] (zbv CR)) (M_read_word:Met3 P w K mg base n CR "read_word" ["self"] (zdh CR adr))
    (M_read_row:Met3 P w K mg base n CR "read_row" ["self","closing","least","most","level"] (zcp CR adr n)):Met3 P w K mg base (n+1) CR "read_named" ["self","level"] (zch CR adr (n+1)):=by
  refine h.met3x zdm (by rintro ds S Q E ⟨_,_,_,_,_,e,_⟩;rw [e];rfl) fun f cdv A0 outer s0 H E ds S Q W hr hA=>?_
  obtain ⟨a,lv,d,cs,r,rfl,hlv,hd,hn,hA,hq,hx⟩:=hA
  have hS:=hA.at_
  have hl:=hA.len
  refine ⟨_,(zac (zas (i:=2) zdm.nd rfl (Or.inl rfl) (zd6 M_read_word T.cl hr (e_v 0)))
 (zac (s_if (zap zoc zpe (zd6 M_sign_here T.cl hr (e_v 0)) zaj (nomark _)) (zam (zaq (zbc (zaa zaj (zaa (e_v 2) zaf))))) zax)
 (zac (zh8 T.cl T.n_place (e_v 0) zad)
 (zam (zaq (zbc (zaa zaj (zaa (e_v 2) (zaa (zer M_read_row T.cl hr (e_v 0) (zaa zaj (zaa zad (zaa (zhr G.MOST_IN_ROW rfl) (zaa (e_op zcx zbt (e_v 1) zad) zaf))))) zaf))))))))),?_⟩
  nofun
  refine j_Rm hS (fun _ _=>rfl) ?_
  by_cases hw:pWd (r.takeWhile ltr)
  · refine ⟨a,cs,r,rfl,hA,fun _ S1 px h1=>?_,fun z=>absurd hw z⟩
    nofun
    refine j_Rm h1.at_ (fun _ _=>rfl) ?_
    refine ⟨a,_,_,rfl,h1.at_,by omega,?_⟩
    rw [h1.sg]
    by_cases k:(r.dropWhile ltr).head?=some 40
    · have e:pNm (pS d) r=(pRow (pS d) 41 1 4 (r.dropWhile ltr).tail).map fun x=>(.send (textOf (r.takeWhile ltr)) x.1,x.2):=by unfold pNm;rw [if_pos hw,if_pos k]
      have h2:=h1.step k
      rw [k,Option.toList_some,t_40]
      nofun
      refine j_Rstep h1.at_ ?_
      have px2:=px.at (o:=.ins CR (rdFs (textOf cs) (((cs.length-(r.dropWhile ltr).length:Nat):Int)+1)))
      generalize up S1 a (.ins CR (rdFs (textOf cs) (((cs.length-(r.dropWhile ltr).length:Nat):Int)+1)))=S2 at h2 px2 ⊢
      nofun
      refine j_Rm h2.at_ (fun _ _=>rfl) ?_
      nofun
      refine ⟨a,41,1,4,lv+1,d,cs,(r.dropWhile ltr).tail,by rw [t_41];rfl,by omega,by omega,by omega,by decide,by decide,h2,fun as r' hs S3 p3 h3=>?_,fun hs=>hx (by rw [e,hs];rfl)⟩
      nofun
      have eres:Sy.d (.send (textOf (r.takeWhile ltr)) as)=.tup [.str "send",.str (textOf (r.takeWhile ltr)),.tup (as.map Sy.d)]:=by rw [Sy.d,Sy.ds_map]
      rw [←eres]
      exact hq _ r' (by rw [e,hs];rfl) S3 (px2.trans p3) h3
    · have e:pNm (pS d) r=some (.name (textOf (r.takeWhile ltr)),r.dropWhile ltr):=by unfold pNm;rw [if_pos hw,if_neg k]
      have hne:textOf (r.dropWhile ltr).head?.toList≠("(":Str):=by
        rw [←t_40]
        intro z
        have:=zbg z
        cases q:(r.dropWhile ltr).head? with
        | none=>rw [q] at this;simp at this
        | some c=>rw [q] at this k;simp at this;exact k (by rw [this])
      nofun
      exact hq _ _ e S1 px h1
  · exact ⟨a,cs,r,rfl,hA,fun z=>absurd z hw,fun _=>hx (by unfold pNm;rw [if_neg hw])⟩
noncomputable def pGo (p:List Nat→Option (Sy×List Nat)) (dn:List Sy) (r:List Nat):Option (List Sy×List Nat) :=
  if r.head?=some 32 then (pMany p (r.tail.length+1) r.tail).map fun y=>(dn++y.1,y.2) else some (dn,r)
theorem zek {p:List Nat→Option (Sy×List Nat)} (hp:Shr p) {r r1:List Nat} {s:Sy} (h:p r=some (s,r1)):pMany p (r.length+1) r=pGo p [s] r1:=by
  have h2:=(hp r s r1 h).2
  rw [pMany,h,Option.bind_some]
  unfold pGo
  by_cases c:r1.head?=some 32
  · have:=zcj c
    show (if r1.head?=some 32 then (pMany p r.length r1.tail).map fun y=>(s::y.1,y.2) else some ([s],r1))=_
    rw [if_pos c,if_pos c,zgn hp r.length (r1.tail.length+1) _ (by omega) (by omega)]
    rfl
  · show (if r1.head?=some 32 then (pMany p r.length r1.tail).map fun y=>(s::y.1,y.2) else some ([s],r1))=_
    rw [if_neg c,if_neg c]
theorem zke {p:List Nat→Option (Sy×List Nat)} (hp:Shr p) {r r2:List Nat} {b:Sy} {dn:List Sy} (c:r.head?=some 32) (h:p r.tail=some (b,r2)):pGo p dn r=pGo p (dn++[b]) r2:=by
  have e:pGo p dn r=(pMany p (r.tail.length+1) r.tail).map fun y=>(dn++y.1,y.2):=by unfold pGo;rw [if_pos c]
  rw [e,zek hp h]
  unfold pGo
  by_cases c2:r2.head?=some 32
  · rw [if_pos c2,if_pos c2,Option.map_map]
    congr 1
    funext y
    simp
  · rw [if_neg c2,if_neg c2]
    rfl
theorem zkf {p:List Nat→Option (Sy×List Nat)} {r:List Nat} {dn:List Sy} (c:r.head?=some 32) (h:p r.tail=none):pGo p dn r=none:=by
  unfold pGo
  rw [if_pos c,pMany,h]
  rfl
theorem zhg {n:Nat} (hn0:1≤n) (h:HasM K CR "read_row" "SayingReader.read_row" zbm ["self","closing","least","most","level"]) (G:Gs K mg) (T:RunT K mg CR) (R:Rfs K mg ES adr) (M_sign_here:Met3 P w K mg base n CR "sign_here" ["self"] (zbv CR)) (M_read_saying:Met3 P w K mg base n CR "read_saying" ["self","level"] (zbh CR adr n))
    (C_refuse_unfit_count:Cal3 P w K mg base n "refuse_unfit_count" ["row","least","most"] (zba adr)):Met3 P w K mg base (n+1) CR "read_row" ["self","closing","least","most","level"] (zcp CR adr (n+1)):=by
  refine h.met3x zei (by rintro ds S Q E ⟨_,_,_,_,_,_,_,_,e,_⟩;rw [e];rfl) fun f cdv A0 outer s0 H E ds S Q W hr hA=>?_
  obtain ⟨a,cl,lo,hi,lv,d,cs,r,rfl,hlv,hd,hn,hcl,hc256,hA,hq,hx⟩:=hA
  have hS:=hA.at_
  have hl:=hA.len
  have sh:=zfc d
  refine ⟨_,(zac (zas (i:=5) zei.nd rfl (Or.inl rfl) (ziw (zaa (zer M_read_saying T.cl hr (e_v 0) (zaa (e_v 4) zaf)) zaf)))
 (zac (zly pown (zap za3 zdo (zd6 M_sign_here T.cl hr (e_v 0)) zaj (nomark _)) (zac (zh8 T.cl T.n_place (e_v 0) zad)
 (zam (zfb (e_bm PySem.F.plainAttrs_list PySem.F.slot_list_append PySem.F.type_list_append zfz ziy (e_v 5) (zaa (zer M_read_saying T.cl hr (e_v 0) (zaa (e_v 4) zaf)) zaf))))))
 (zac (s_if (zap zoc zpe (zd6 M_sign_here T.cl hr (e_v 0)) (e_v 1) (nomark _)) (zam (zey (C:=adr .text) (R.bound .text (by decide)) (R.exc (by decide)) rfl rfl (zaa (zpd (ziv zaj (ziv (e_fmt (e_v 1)) (ziv zaj f_nil)))) zaf))) zax)
 (zac (zh8 T.cl T.n_place (e_v 0) zad)
 (zac (zfb (zay C_refuse_unfit_count hr rfl (zaa (e_v 5) (zaa (e_v 2) (zaa (e_v 3) zaf)))))
 (zam (zaq (zdb zck zfp rfl G.tuple boot_tuple (zaa (e_v 5) zaf))))))))),?_⟩
  nofun
  refine j_Rm hS (fun _ _=>rfl) ?_
  nofun
  refine ⟨a,lv,d,cs,r,rfl,by omega,by omega,by omega,hA,fun s r1 hs S1 px h1=>?_,fun hs=>hx (by unfold pRow;rw [pMany,hs];rfl)⟩
  have hgo:=zek sh hs
  have hlt:=(sh _ _ _ hs).2
  have hrl:=hA.suf.length_le
  nofun
  intro pl hpl
  have np:pl≠a:=fun e=>by rw [e,h1.at_] at hpl;cases hpl
  have fpl:S pl=none:=px.free hpl np
  have a1:=zau (o:=.lst [s.d]) h1.at_ hpl
  have a2:up S1 pl (.lst [s.d]) pl=some (.lst [s.d]):=zag
  have p1:Px a S (up S1 pl (.lst [s.d])):=px.new hpl
  generalize up S1 pl (.lst [s.d])=S2 at a1 a2 p1 ⊢
  nofun
  refine j_while (fun m σ S'=>Ex2 fun (dn:List Sy) (r2:List Nat)=>m=r2.length∧dn.length+r2.length≤5000∧σ=[some (.ref a),some (.str (textOf [cl])),some (.int lo),some (.int hi),some (.int lv),some (.ref pl)]∧Px a S S'∧S' pl=some (.lst (dn.map Sy.d))∧At6 CR S' a cs r2∧pMany (pS d) (r.length+1) r=pGo (pS d) dn r2) r1.length
    ⟨[s],r1,rfl,by simp only [List.length_cons,List.length_nil];omega,rfl,p1,a2,⟨a1,h1.suf,h1.len,h1.low⟩,hgo⟩ ?_
  rintro m σ S3 ⟨dn,r2,rfl,hdl,rfl,p3,k2,h3,hg⟩
  nofun
  refine j_Rm h3.at_ (fun _ _=>rfl) ?_
  refine ⟨a,_,_,rfl,h3.at_,by omega,?_⟩
  rw [h3.sg]
  by_cases c32:r2.head?=some 32
  · rw [c32,Option.toList_some,t_32]
    have h4:=h3.step c32
    have hlt2:=zcj c32
    nofun
    refine j_Rstep h3.at_ ?_
    have p4:=p3.at (o:=.ins CR (rdFs (textOf cs) (((cs.length-r2.length:Nat):Int)+1)))
    have k4:up S3 a (.ins CR (rdFs (textOf cs) (((cs.length-r2.length:Nat):Int)+1))) pl=some (.lst (dn.map Sy.d)):=zpo k2 np
    generalize up S3 a (.ins CR (rdFs (textOf cs) (((cs.length-r2.length:Nat):Int)+1)))=S4 at h4 p4 k4 ⊢
    nofun
    refine j_Rm h4.at_ (fun _ _=>rfl) ?_
    nofun
    refine ⟨a,lv,d,cs,r2.tail,rfl,by omega,by omega,by omega,h4,fun b r3 hb S5 p5 h5=>?_,fun hb=>hx (by unfold pRow;rw [hg,zkf c32 hb];rfl)⟩
    have k6:=p5 pl _ np k4
    have hlt3:=(sh _ _ _ hb).2
    nofun
    refine j_append k6 (zg2 (by rw [List.length_map];omega)) ?_
    nofun
    refine ⟨_,by omega,dn++[b],r3,rfl,by simp only [List.length_append,List.length_cons,List.length_nil];omega,rfl,(p4.trans p5).fresh fpl,?_,⟨by rw [zpo h5.at_ (Ne.symm np)],h5.suf,h5.len,h5.low⟩,by rw [hg];exact zke sh c32 hb⟩
    rw [zag]
    simp
  · have hne:textOf r2.head?.toList≠(" ":Str):=by
      rw [←t_32]
      intro z
      have:=zbg z
      cases q:r2.head? with
      | none=>rw [q] at this;simp at this
      | some c=>rw [q] at this c32;simp at this;exact c32 (by rw [this])
    have eg:pGo (pS d) dn r2=some (dn,r2):=by unfold pGo;rw [if_neg c32]
    rw [eg] at hg
    have erow:pRow (pS d) cl lo hi r=if r2.head?=some cl∧lo≤dn.length∧dn.length≤hi then some (dn,r2.tail) else none:=by unfold pRow;rw [hg];rfl
    nofun
    refine j_Rm h3.at_ (fun _ _=>rfl) ?_
    refine ⟨a,_,_,rfl,h3.at_,by omega,?_⟩
    rw [h3.sg]
    by_cases ccl:r2.head?=some cl
    · rw [ccl,Option.toList_some]
      have h4:=h3.step ccl
      nofun
      refine j_Rstep h3.at_ ?_
      have p4:=p3.at (o:=.ins CR (rdFs (textOf cs) (((cs.length-r2.length:Nat):Int)+1)))
      have k4:up S3 a (.ins CR (rdFs (textOf cs) (((cs.length-r2.length:Nat):Int)+1))) pl=some (.lst (dn.map Sy.d)):=zpo k2 np
      generalize up S3 a (.ins CR (rdFs (textOf cs) (((cs.length-r2.length:Nat):Int)+1)))=S4 at h4 p4 k4 ⊢
      nofun
      refine ⟨_,dn.map Sy.d,lo,hi,rfl,.inr ⟨pl,rfl,k4⟩,fun l1 l2=>?_,fun ln x=>hx (by rw [erow,if_neg];rw [List.length_map] at ln;omega) x _⟩
      rw [List.length_map] at l1 l2
      nofun
      exact hq dn r2.tail (by rw [erow,if_pos ⟨ccl,by omega,by omega⟩]) S4 p4 h4
    · have hne2:textOf r2.head?.toList≠textOf [cl]:=by
        intro z
        have:=zbg z
        cases q:r2.head? with
        | none=>rw [q] at this;simp at this
        | some c=>rw [q] at this ccl;simp at this;exact ccl (by rw [this])
      have hxx:=hx (by rw [erow,if_neg fun z=>ccl z.1])
      have e1:(Str.empty++("no ":Str)).length=3:=by decide +kernel
      have e2:(" where a row of sayings ends":Str).length=28:=by decide +kernel
      have e3:(textOf [cl]).length=1:=by rw [zak];rfl
      nofun
      refine ⟨by rw [e1];decide,?_⟩
      nofun
      refine j_fmtS (by rw [e3];decide) ?_
      nofun
      refine ⟨by rw [strLen_append,e1,e3];decide,?_⟩
      nofun
      refine ⟨by rw [strLen_append,strLen_append,e1,e2,e3];decide,?_⟩
      refine j_fnil (by rw [strLen_append,strLen_append,e1,e2,e3];decide) ?_
      nofun
      exact fun x=>hxx x _
inductive zhx (CR:Addr) (adr:Rf→Addr) (ds:List D) (S:Hp3) (Q:K3) (W:X3):Prop where
  | mk (a:Addr) (cs r:List Nat) (_:ds=[.ref a]) (_:At6 CR S a cs r) (_:(r=[]→Q .non S)) (_:(r≠[]→∀x S',W (adr .text) x S'))
def zdy (CR:Addr) (adr:Rf→Addr):Sp3:= (zhx CR adr)
theorem zfh {k:Nat} (h:HasM K CR "refuse_rest" "SayingReader.refuse_rest" zbd ["self"]) (G:Gs K mg) (T:RunT K mg CR) (R:Rfs K mg ES adr):Met3 P w K mg base (k+1) CR "refuse_rest" ["self"] (zdy CR adr):=by
  refine h.met3x zfg (by rintro ds S Q E ⟨_,_,_,e,_⟩;rw [e];rfl) fun f cdv A0 outer s0 H E ds S Q W hr hA=>?_
  obtain ⟨a,cs,r,rfl,hA,hq,hx⟩:=hA
  have hS:=hA.at_
  have hl:=hA.len
  have hr:=hA.suf.length_le
  have el:((textOf cs).length:Int)=(cs.length:Nat):=by rw [zak]
  have el2:(textOf cs).length≤sizeLine:=by rw [zak];exact zal (by omega)
  refine ⟨_,(zam (s_if (zap zhb zbe (zix T.cl T.n_place (e_v 0) rfl) (zav zc1 zhs rfl G.len PySem.boot_len (zaa (zix T.cl T.n_text (e_v 0) rfl) zaf)) (nomark _)) (zam (zey (C:=adr .text) (R.bound .text (by decide)) (R.exc (by decide)) rfl rfl (zaa zaj zaf))) zax)),?_⟩
  cases r with
  | nil =>
    have c:¬((cs.length-([]:List Nat).length:Nat):Int)<((textOf cs).length:Int):=by rw [el];simp
    nofun
    exact hq rfl
  | cons x r =>
    have c:((cs.length-(x::r).length:Nat):Int)<((textOf cs).length:Int):=by rw [el];simp only [List.length_cons] at hr ⊢;omega
    nofun
    exact fun z=>hx (by simp) z S
theorem rd_all (h1:HasM K CR "read_saying" "SayingReader.read_saying" za5 ["self","level"]) (h2:HasM K CR "read_named" "SayingReader.read_named" zbb ["self","level"]) (h3:HasM K CR "read_row" "SayingReader.read_row" zbm ["self","closing","least","most","level"]) (G:Gs K mg) (T:RunT K mg CR) (R:Rfs K mg ES adr)
    (M_sign:Met3 P w K mg base 1 CR "sign_here" ["self"] (zbv CR)) (M_word:Met3 P w K mg base 3 CR "read_word" ["self"] (zdh CR adr)) (C_count:Cal3 P w K mg base 1 "refuse_unfit_count" ["row","least","most"] (zba adr)) :
    ∀n,Met3 P w K mg base n CR "read_saying" ["self","level"] (zbh CR adr n)∧Met3 P w K mg base n CR "read_named" ["self","level"] (zch CR adr n)∧Met3 P w K mg base n CR "read_row" ["self","closing","least","most","level"] (zcp CR adr n):=by
  have none:∀n,n≤5→Met3 P w K mg base n CR "read_saying" ["self","level"] (zbh CR adr n)∧Met3 P w K mg base n CR "read_named" ["self","level"] (zch CR adr n)∧Met3 P w K mg base n CR "read_row" ["self","closing","least","most","level"] (zcp CR adr n):=fun n hn =>
    ⟨h1.none3 (by rintro ds S Q E ⟨_,_,_,_,_,_,_,_,z,_⟩;omega) n,h2.none3 (by rintro ds S Q E ⟨_,_,_,_,_,_,_,_,z,_⟩;omega) n,
      h3.none3 (by rintro ds S Q E ⟨_,_,_,_,_,_,_,_,_,_,_,z,_⟩;omega) n⟩
  intro n
  induction n with
  | zero=>exact none 0 (by decide)
  | succ n ih =>
    by_cases c:n+1≤5
    · exact none _ c
    · exact ⟨zfi (by omega) h1 G T R (M_sign.mono (by omega)) ih.2.1 ih.1 ih.2.2,zfy (by omega) h2 G T R (M_sign.mono (by omega)) (M_word.mono (by omega)) ih.2.2,zhg (by omega) h3 G T R (M_sign.mono (by omega)) ih.1 (C_count.mono (by omega))⟩
theorem zeu (x:Str):textOf x.cps.toList=x:=by
  cases x with
  | mk c=>simp [textOf]
theorem zjd {a:Str} {i j c:Nat} (h:c∈(Builtin.Str.strSub a i j).cps.toList):c∈a.cps.toList:=by
  rw [←zeu a,zco,zah] at h
  exact List.mem_of_mem_drop (List.mem_of_mem_take h)
theorem sub_len (a:Str) (i j:Nat):(Builtin.Str.strSub a i j).length≤a.length:=by
  rw [←zeu a,zco,zak,zak,List.length_take,List.length_drop]
  omega
noncomputable def hv0 (cs:List Nat):Str:=(partS (textOf cs) ": ").getD 0 Str.empty
noncomputable def hv1 (cs:List Nat):Str:=(partS (textOf cs) ": ").getD 1 Str.empty
noncomputable def hv2 (cs:List Nat):Str:=(partS (textOf cs) ": ").getD 2 Str.empty
theorem hv_eq (cs:List Nat):partS (textOf cs) ": "=[hv0 cs,hv1 cs,hv2 cs]:=by
  unfold hv0 hv1 hv2 partS
  split<;>rfl
theorem hv_in (cs:List Nat):((hv0 cs).length≤cs.length∧∀c∈(hv0 cs).cps.toList,c∈cs)∧(hv2 cs).length≤cs.length∧∀c∈(hv2 cs).cps.toList,c∈cs:=by
  unfold hv0 hv2 partS
  split
  · refine ⟨⟨?_,fun c hc=>?_⟩,?_,fun c hc=>?_⟩
    · exact Nat.le_trans (sub_len _ _ _) (by rw [zak];exact Nat.le_refl _)
    · have:=zjd (show c∈(Builtin.Str.strSub (textOf cs) 0 _).cps.toList from hc)
      rwa [zah] at this
    · exact Nat.le_trans (sub_len _ _ _) (by rw [zak];exact Nat.le_refl _)
    · have:=zjd (show c∈(Builtin.Str.strSub (textOf cs) _ _).cps.toList from hc)
      rwa [zah] at this
  · refine ⟨⟨?_,fun c hc=>?_⟩,?_,fun c hc=>?_⟩
    · show (textOf cs).length≤_
      rw [zak]
      exact Nat.le_refl _
    · have hc:c∈(textOf cs).cps.toList:=hc
      rwa [zah] at hc
    · exact Nat.zero_le _
    · exact absurd hc (by show c∉(Str.empty).cps.toList;simp [Str.empty])
noncomputable def wsOf (cs:List Nat):List Str:=Txt.split (hv0 cs) " "
theorem znq (x y:Str):(∀v∈Txt.split x y,v.length≤x.length∧∀c∈v.cps.toList,c∈x.cps.toList)∧1≤(Txt.split x y).length∧(Txt.split x y).length≤(Builtin.Str.partsBetween x (Builtin.Str.occurrences x y 0 x.length (x.length+1)) y.length).length:=by
  have hl:1≤(Builtin.Str.partsBetween x (Builtin.Str.occurrences x y 0 x.length (x.length+1)) y.length).length:=by
    unfold Builtin.Str.partsBetween
    simp only [List.length_map,List.length_zip,List.length_cons,List.length_append,List.length_nil]
    omega
  have one:(∀v∈[x],v.length≤x.length∧∀c∈v.cps.toList,c∈x.cps.toList)∧1≤[x].length∧[x].length≤(Builtin.Str.partsBetween x (Builtin.Str.occurrences x y 0 x.length (x.length+1)) y.length).length:=by
    refine ⟨fun v hv=>?_,by simp,by simpa using hl⟩
    rw [List.mem_singleton.mp hv]
    exact ⟨Nat.le_refl _,fun c hc=>hc⟩
  unfold Txt.split
  split
  · exact one
  split
  · exact one
  refine ⟨fun v hv=>?_,hl,Nat.le_refl _⟩
  unfold Builtin.Str.partsBetween at hv
  obtain ⟨⟨i,j⟩,_,rfl⟩:=List.mem_map.mp hv
  exact ⟨sub_len _ _ _,fun c hc=>zjd hc⟩
theorem zmd (x:Str):(Builtin.Str.partsBetween x (Builtin.Str.occurrences x " " 0 x.length (x.length+1)) (" ":Str).length).length≤x.length+2:=by
  have h1:=PySem.StrLaws.occ_length_le x " " 0 x.length (x.length+1)
  unfold Builtin.Str.partsBetween
  simp only [List.length_map,List.length_zip,List.length_cons,List.length_append,List.length_nil]
  omega
noncomputable def wdB (w:List Nat):Bool:=decide (1≤w.length)&&(decide (w.length≤8)&&w.all ltr)
theorem zjb {w:List Nat}:wdB w=true↔Wd5 w:=by
  unfold wdB
  simp only [Bool.and_eq_true,decide_eq_true_eq,List.all_eq_true]
  exact ⟨fun ⟨h1,h2,h3⟩=>⟨h1,h2,h3⟩,fun h=>⟨h.l1,h.l8,h.ok⟩⟩
noncomputable def hdOk (cs:List Nat):Bool:=(wsOf cs).all (fun x=>wdB x.cps.toList)&&(decide (2≤(wsOf cs).length)&&decide ((wsOf cs).length≤5))
noncomputable def pLine (cs:List Nat):Option Er :=
  if hv1 cs="" then none else if hdOk cs=true then (pS 12 (hv2 cs).cps.toList).bind fun x=>if x.2=[] then some ⟨(wsOf cs).headD "",(wsOf cs).tail,x.1⟩ else none else none
inductive zjy (adr:Rf→Addr) (ds:List D) (q:D→Prop) (qx:Addr→Prop):Prop where
  | mk (cs:List Nat) (_:ds=[.str (textOf cs)]) (_:cs.length≤5000) (_:(∀c∈cs,c<256)) (_:(∀e,pLine cs=some e→q e.d)) (_:(pLine cs=none→qx (adr .text)))
def zdi (adr:Rf→Addr):Sp3:=vX (zjy adr)
theorem zim {k n:Nat} (hn:42≤n) (hk:n≤k) (h:Has K mg "read_line" zb6 ["text"]) (G:Gs K mg) (T:RunT K mg CR) (R:Rfs K mg ES adr) (C_refuse_unfit_name:Cal3 P w K mg base (k+1) "refuse_unfit_name" ["word"] (zbs adr)) (C_refuse_unfit_count:Cal3 P w K mg base (k+1) "refuse_unfit_count" ["row","least","most"] (zba adr))
    (M_init:Met3 P w K mg base k CR "__init__" ["self","text"] (zls CR)) (M_read_saying:Met3 P w K mg base (k+1) CR "read_saying" ["self","level"] (zbh CR adr n)) (M_refuse_rest:Met3 P w K mg base (k+1) CR "refuse_rest" ["self"] (zdy CR adr)):Cal3 P w K mg base (k+1+1) "read_line" ["text"] (zdi adr):=by
  refine h.valX zbk (by rintro ds q qx ⟨_,e,_⟩;rw [e];rfl) fun f cdv A outer s0 H E ds q qx hr hA=>?_
  obtain ⟨cs,rfl,hl,h256,hq,hx⟩:=hA
  have hll:(textOf cs).length≤sizeLine:=by rw [zak];exact zal (by omega)
  obtain ⟨⟨h0l,h0c⟩,h2l,h2c⟩:=hv_in cs
  obtain ⟨hwi,hw1,hwl⟩:=znq (hv0 cs) " "
  have hpl:=zmd (hv0 cs)
  refine ⟨_,(zac (zas (i:=1) zbk.nd rfl (Or.inl rfl) (e_bm PySem.F.plainAttrs_str PySem.F.slot_str_partition PySem.F.type_str_partition zji zqs (e_v 0) (zaa zaj zaf)))
 (zac (s_if (zap za3 zdo (e_ix za0 za1 (e_v 1) zad (fun _ _=>rfl)) zaj (nomark _)) (zam (zey (C:=adr .text) (R.bound .text (by decide)) (R.exc (by decide)) rfl rfl (zaa zaj zaf))) zax)
 (zac (zas (i:=2) zbk.nd rfl (Or.inl rfl) (e_bm PySem.F.plainAttrs_str PySem.F.slot_str_split PySem.F.type_str_split zir zou (e_ix za0 za1 (e_v 1) zad (fun _ _=>rfl)) (zaa zaj zaf)))
 (zac (znr pown rfl (i_list (e_v 2)) (zkl (i:=3) zbk.nd rfl (Or.inl rfl)) (zam (zfb (zay C_refuse_unfit_name hr rfl (zaa (e_v 3) zaf)))))
 (zac (zas (i:=4) zbk.nd rfl (Or.inl rfl) (zdb zck zfp rfl G.tuple boot_tuple (zaa (za8 zex zgr (e_v 2) (zbi zad) zbz) zaf)))
 (zac (zfb (zay C_refuse_unfit_count hr rfl (zaa (e_v 4) (zaa zad (zaa (zhr G.MOST_IN_ROW rfl) zaf)))))
 (zac (zas (i:=5) zbk.nd rfl (Or.inl rfl) (e_make M_init T.mks T.kc hr rfl T.at_ (zaa (e_ix za0 za1 (e_v 1) zad (fun _ _=>rfl)) zaf)))
 (zac (zas (i:=6) zbk.nd rfl (Or.inl rfl) (zer M_read_saying T.cl hr (e_v 5) (zaa zad zaf)))
 (zac (zfb (zd6 M_refuse_rest T.cl hr (e_v 5)))
 (zam (zaq (zbc (zaa (e_ix zb4 zc0 (e_v 2) zad (fun _ _=>rfl)) (zaa (e_v 4) (zaa (e_v 6) zaf))))))))))))))),?_⟩
  nofun
  refine j_partS (by decide +kernel) hll ?_
  rw [hv_eq]
  simp only [List.map_cons,List.map_nil]
  by_cases c1:hv1 cs=""
  · nofun
    exact fun _=>hx (by unfold pLine;rw [if_pos c1])
  nofun
  refine ⟨_,_,rfl,rfl,by decide +kernel,zal (by omega),zal (by omega),zal (by omega),?_⟩
  have hws:wsOf cs=Txt.split (hv0 cs) " ":=rfl
  rw [←hws] at hwi hw1 hwl ⊢
  intro pw hpw
  have a1:up emp pw (.lst ((wsOf cs).map D.str)) pw=some (.lst ((wsOf cs).map D.str)):=zag
  generalize up emp pw (.lst ((wsOf cs).map D.str))=S1 at a1 ⊢
  nofun
  refine ⟨fun i σ S'=>∃x3,σ=[some (.str (textOf cs)),some (.tup [.str (hv0 cs),.str (hv1 cs),.str (hv2 cs)]),some (.ref pw),x3,none,none,none]∧S'=S1∧∀x∈(wsOf cs).take i,Wd5 x.cps.toList,⟨none,rfl,rfl,by simp⟩,fun _ _ _ ⟨_,_,z,_⟩=>by rw [z];exact a1,?_,?_⟩
  · rintro i d σ S' hd ⟨x3,rfl,rfl,hd8⟩
    rw [List.getElem?_map] at hd
    obtain ⟨x,hxi,rfl⟩:=Option.map_eq_some_iff.mp hd
    have hxm:=List.mem_of_getElem? hxi
    obtain ⟨hxl,hxc⟩:=hwi x hxm
    nofun
    refine ⟨x.cps.toList,by rw [zeu],?_,fun c hc=>h256 c (h0c c (hxc c hc)),fun hwd=>?_,fun hwd _=>?_⟩
    · have:x.cps.toList.length=x.length:=by rw [←zak,zeu]
      omega
    · nofun
      refine ⟨_,rfl,rfl,fun y hy=>?_⟩
      rw [List.take_succ,hxi] at hy
      rcases List.mem_append.mp hy with h|h
      · exact hd8 y h
      · obtain rfl:y=x:=by simpa using h
        exact hwd
    · refine hx ?_
      unfold pLine
      rw [if_neg c1,if_neg]
      intro z
      unfold hdOk at z
      rw [Bool.and_eq_true,List.all_eq_true] at z
      exact hwd (zjb.mp (z.1 x hxm))
  rintro σ S' ⟨x3,rfl,rfl,hall⟩
  rw [List.length_map,List.take_length] at hall
  have hallB:(wsOf cs).all (fun x=>wdB x.cps.toList)=true:=by
    rw [List.all_eq_true]
    exact fun x hx=>zjb.mpr (hall x hx)
  nofun
  rw [zcu (by decide)]
  have ec:((wsOf cs).map D.str).drop (Int.toNat 1)=(wsOf cs).tail.map D.str:=by rw [show Int.toNat 1=1 from rfl,←List.map_drop,List.drop_one]
  rw [ec]
  intro pc hpc
  have a2:=zau (o:=.lst ((wsOf cs).tail.map D.str)) a1 hpc
  have a3:up S' pc (.lst ((wsOf cs).tail.map D.str)) pc=some (.lst ((wsOf cs).tail.map D.str)):=zag
  generalize up S' pc (.lst ((wsOf cs).tail.map D.str))=S2 at a2 a3 ⊢
  nofun
  have htl:((wsOf cs).tail.map D.str).length+1=(wsOf cs).length:=by rw [List.length_map,List.length_tail];omega
  refine ⟨_,(wsOf cs).tail.map D.str,1,4,rfl,.inl rfl,fun l1 l2=>?_,fun ln _=>?_⟩
  rotate_left
  · refine hx ?_
    unfold pLine
    rw [if_neg c1,if_neg]
    intro z
    unfold hdOk at z
    rw [hallB,Bool.true_and,Bool.and_eq_true,decide_eq_true_eq,decide_eq_true_eq] at z
    exact ln ⟨by omega,by omega⟩
  have hok:hdOk cs=true:=by
    unfold hdOk
    rw [hallB,Bool.true_and,Bool.and_eq_true,decide_eq_true_eq,decide_eq_true_eq]
    exact ⟨by omega,by omega⟩
  have epl:pLine cs=(pS 12 (hv2 cs).cps.toList).bind fun x=>if x.2=[] then some ⟨(wsOf cs).headD "",(wsOf cs).tail,x.1⟩ else none:=by unfold pLine;rw [if_neg c1,if_pos hok]
  nofun
  intro a ha
  have b2:=zau (o:=.ins CR []) a2 ha
  refine ⟨a,_,rfl,zag,fun S3 p3 e3=>⟨rfl,?_⟩⟩
  have npa:pw≠a:=ne3 a2 ha
  have c2:=p3 pw _ npa b2
  have ebl:(hv2 cs).cps.toList.length=(hv2 cs).length:=by rw [←zak,zeu]
  have hH:At6 CR S3 a (hv2 cs).cps.toList (hv2 cs).cps.toList:=⟨by rw [e3,zeu,Nat.sub_self];rfl,List.suffix_refl _,by omega,fun c hc=>h256 c (h2c c hc)⟩
  nofun
  refine j_Rm e3 (fun _ _=>rfl) ?_
  nofun
  refine ⟨a,1,12,(hv2 cs).cps.toList,(hv2 cs).cps.toList,rfl,by decide,by decide,by omega,hH,fun s r' hs S4 p4 h4=>?_,fun hs _ _=>hx (by rw [epl,hs];rfl)⟩
  have c3:=p4 pw _ npa c2
  nofun
  refine j_Rm h4.at_ (fun _ _=>rfl) ?_
  refine ⟨a,_,r',rfl,h4,fun er=>?_,fun er _ _=>hx (by rw [epl,hs];show (if r'=[] then _ else none)=none;rw [if_neg er])⟩
  have heq:pLine cs=some ⟨(wsOf cs).headD "",(wsOf cs).tail,s⟩:=by rw [epl,hs];show (if r'=[] then _ else none)=_;rw [if_pos er]
  have hfin:=hq _ heq
  obtain ⟨w0,wr,ew⟩:∃w0 wr,wsOf cs=w0::wr:=List.exists_cons_of_length_pos hw1
  rw [ew] at c3 hfin ⊢
  nofun
  exact hfin
theorem zfs {w post:List Nat} (hw:∀c∈w,ltr c=true) (hp:∀c r,post=c::r→ltr c=false):(w++post).takeWhile ltr=w∧(w++post).dropWhile ltr=post:=by
  induction w with
  | nil =>
    cases post with
    | nil=>exact ⟨rfl,rfl⟩
    | cons c r=>simp [List.takeWhile_cons,List.dropWhile_cons,hp c r rfl]
  | cons c w ih =>
    obtain ⟨h1,h2⟩:=ih fun d hd=>hw d (List.mem_cons_of_mem _ hd)
    have hc:=hw c List.mem_cons_self
    simp only [List.cons_append,List.takeWhile_cons,List.dropWhile_cons,hc,if_true,h1,h2]
    exact ⟨trivial,trivial⟩
theorem zfw {p:List Nat→Option (Sy×List Nat)} {cl:Nat} {post:List Nat} (hcl:ltr cl=false) (h40:cl≠40) (h32:cl≠32) :
    ∀(as:List Sy) (a:Sy) (n:Nat),(∀x∈a::as,∀q:List Nat,Stop5 q→p (tx x++q)=some (x,q))→as.length<n→pMany p n (tx a++txt as++cl::post)=some (a::as,cl::post)
  | [],a,0,_,h=>by simp at h
  | [],a,n+1,hp,_=>by
    rw [pMany,txt,List.append_nil,hp a List.mem_cons_self _ fun c r e=>by cases e;exact ⟨hcl,h40⟩]
    simp [h32]
  | b::as,a,0,_,h=>by simp at h
  | b::as,a,n+1,hp,hn=>by
    have ih:=zfw hcl h40 h32 (post:=post) as b n (fun x hx=>hp x (List.mem_cons_of_mem _ hx)) (by simp only [List.length_cons] at hn;omega)
    have e:tx a++txt (b::as)++cl::post=tx a++32::(tx b++txt as++cl::post):=by simp only [txt,List.append_assoc,List.cons_append]
    rw [pMany,e,hp a List.mem_cons_self _ fun c r e=>by cases e;exact ⟨by decide,by decide⟩,Option.bind_some]
    refine (if_pos rfl).trans ?_
    show (pMany p n (tx b++txt as++cl::post)).map _=_
    rw [ih]
    rfl
theorem zgw:∀as:List Sy,as.length≤(txt as).length
  | []=>Nat.le_refl _
  | a::as=>by have:=zgw as;rw [txt];simp only [List.length_cons,List.length_append];omega
theorem zg8 {p:List Nat→Option (Sy×List Nat)} {cl lo hi:Nat} {post:List Nat} (hcl:ltr cl=false) (h40:cl≠40) (h32:cl≠32) {a:Sy} {as:List Sy} (hp:∀x∈a::as,∀q:List Nat,Stop5 q→p (tx x++q)=some (x,q)) (h1:lo≤as.length+1) (h2:as.length+1≤hi) :
    pRow p cl lo hi (tx a++txt as++cl::post)=some (a::as,post):=by
  have:=zgw as
  unfold pRow
  rw [zfw hcl h40 h32 as a _ hp (by simp only [List.length_append];omega),Option.bind_some]
  rw [if_pos ⟨rfl,h1,h2⟩]
  rfl
theorem zjh {x:Str} (h:NameOk x):textOf x.cps.toList=x∧1≤x.cps.toList.length∧x.cps.toList.length≤8∧∀c∈x.cps.toList,ltr c=true:=by
  obtain ⟨cs,rfl,h1,h8,h⟩:=h
  rw [zah]
  exact ⟨rfl,h1,h8,fun c hc=>decide_eq_true (h c hc)⟩
theorem zjl {c:Nat} (h:ltr c=true):97≤c∧c≤122:=of_decide_eq_true h
theorem zie {p:List Nat→Option (Sy×List Nat)} {d:Nat} {w post:List Nat} (h1:1≤w.length) (hw:∀c∈w,ltr c=true) (he:pS d=p):pS (d+1) (w++post)=pNm p (w++post):=by
  subst he
  rw [pS]
  match w,h1 with
  | c::w,_ =>
    have:=zjl (hw c List.mem_cons_self)
    have hh:(c::w++post).head?=some c:=rfl
    rw [hh,if_neg (by simp;omega),if_neg (by simp;omega),if_neg (by simp;omega),if_neg (by simp;omega),if_neg (by simp;omega)]
theorem zd4:∀(d:Nat) (s:Sy) (post:List Nat),okS s→s.deep≤d→Stop5 post→pS d (tx s++post)=some (s,post)
  | 0,s,_,_,hd,_=>by have:=zow s;omega
  | d+1,.bud,post,_,_,_=>by rw [tx,pS];rfl
  | d+1,.left a,post,ok,hd,st=>by
    rw [Sy.deep] at hd
    rw [tx,pS]
    show (pS d (tx a++post)).map _=_
    rw [zd4 d a post ok (by omega) st]
    rfl
  | d+1,.right a,post,ok,hd,st=>by
    rw [Sy.deep] at hd
    rw [tx,pS]
    show (pS d (tx a++post)).map _=_
    rw [zd4 d a post ok (by omega) st]
    rfl
  | d+1,.pair a b,post,ok,hd,st=>by
    rw [Sy.deep] at hd
    have hp:∀x∈[a,b],∀q:List Nat,Stop5 q→pS d (tx x++q)=some (x,q):=fun x hx q hq=>by
      simp only [List.mem_cons,List.not_mem_nil,or_false] at hx
      rcases hx with rfl|rfl
      · exact zd4 d _ q ok.1 (by omega) hq
      · exact zd4 d _ q ok.2 (by omega) hq
    have e:tx (.pair a b)++post=91::(tx a++txt [b]++93::post):=by simp only [tx,txt,List.append_assoc,List.cons_append,List.nil_append]
    rw [e,pS]
    show (pRow (pS d) 93 2 2 (tx a++txt [b]++93::post)).map _=_
    rw [zg8 (by decide) (by decide) (by decide) hp (by simp) (by simp)]
    rfl
  | d+1,.fork a b c,post,ok,hd,st=>by
    rw [Sy.deep] at hd
    have hp:∀x∈[a,b,c],∀q:List Nat,Stop5 q→pS d (tx x++q)=some (x,q):=fun x hx q hq=>by
      simp only [List.mem_cons,List.not_mem_nil,or_false] at hx
      rcases hx with rfl|rfl|rfl
      · exact zd4 d _ q ok.1 (by omega) hq
      · exact zd4 d _ q ok.2.1 (by omega) hq
      · exact zd4 d _ q ok.2.2 (by omega) hq
    have e:tx (.fork a b c)++post=123::(tx a++txt [b,c]++125::post):=by simp only [tx,txt,List.append_assoc,List.cons_append,List.nil_append]
    rw [e,pS]
    show (pRow (pS d) 125 3 3 (tx a++txt [b,c]++125::post)).map _=_
    rw [zg8 (by decide) (by decide) (by decide) hp (by simp) (by simp)]
    rfl
  | d+1,.name x,post,ok,_,st=>by
    obtain ⟨ex,h1,h8,hw⟩:=zjh ok
    obtain ⟨e1,e2⟩:=zfs (post:=post) hw fun c r e=>(st c r e).1
    rw [tx,zie h1 hw rfl]
    unfold pNm
    rw [e1,e2,if_pos ⟨h1,h8⟩,if_neg,ex]
    intro z
    cases post with
    | nil=>cases z
    | cons c r=>cases z;exact (st 40 r rfl).2 rfl
  | d+1,.send x [],post,ok,_,_=>by have:=ok.2.1;simp at this
  | d+1,.send x (a::as),post,ok,hd,st=>by
    obtain ⟨okx,_,l4,oks⟩:=ok
    obtain ⟨ex,h1,h8,hw⟩:=zjh okx
    rw [Sy.deep] at hd
    have hp:∀y∈a::as,∀q:List Nat,Stop5 q→pS d (tx y++q)=some (y,q):=fun y hy q hq=>by
      have hl:y.deep≤d:=by have:=Sy.zct hy;omega
      exact zd4 d y q (zel oks y hy) hl hq
    have e:tx (.send x (a::as))++post=x.cps.toList++40::(tx a++txt as++41::post):=by simp only [tx,List.append_assoc,List.cons_append,List.nil_append]
    obtain ⟨e1,e2⟩:=zfs (post:=40::(tx a++txt as++41::post)) hw fun c r e=>by cases e;decide
    rw [e,zie h1 hw rfl]
    unfold pNm
    rw [e1,e2,if_pos ⟨h1,h8⟩,ex]
    refine (if_pos rfl).trans ?_
    show (pRow (pS d) 41 1 4 (tx a++txt as++41::post)).map _=_
    rw [zg8 (by decide) (by decide) (by decide) hp (by simp) (by simpa using l4)]
    rfl
noncomputable def cellAt (ns:List Int) (k:Int):Int:=ns.getD k.toNat 0
inductive znn  (ds:List D) (q:D→Prop):Prop where
  | mk (ns:List Int) (k:Int) (_:ds=[.rol (ns.map D.int),.int k]) (_:0≤k) (_:q (.int (cellAt ns k)))
def zdt :Sp3:=vS znn
theorem zk9 {k:Nat} (h:Has K mg "_law_cell_at" zc6 ["script","k"]) (G:Gs K mg):Cal3 P w K mg base (k+1) "_law_cell_at" ["script","k"] zdt:=by
  refine h.val zk3 (by rintro ds q ⟨ns,k,e,_⟩;rw [e];rfl) fun f cdv A outer s H E ds q hr ⟨ns,k,e,h0,hq⟩=>?_
  subst e
  refine ⟨_,(zac (s_if (zap zhb zbe (e_v 1) (zav za4 zd1 rfl G.len PySem.boot_len (zaa (e_v 0) zaf)) (nomark _)) (zam (zaq (e_ix zb4 zc0 (e_v 0) (e_v 1) (fun _ _=>rfl)))) zax)
 (zam (zaq zad))),?_⟩
  nofun
  have hl:(ns.map D.int).length=ns.length:=List.length_map _
  refine iteD2 (fun c=>?_) (fun c=>?_)
  · rw [hl] at c
    have hk:k.toNat<ns.length:=by omega
    nofun
    refine j_ixR (zpm h0 (v:=.int (cellAt ns k)) ?_) hq
    rw [List.getElem?_map,List.getElem?_eq_getElem hk]
    simp [cellAt,List.getD_eq_getElem?_getD,List.getElem?_eq_getElem hk]
  · rw [hl] at c
    have hk:ns.length≤k.toNat:=by omega
    nofun
    have e:cellAt ns k=0:=by simp [cellAt,List.getD_eq_getElem?_getD,List.getElem?_eq_none hk]
    rw [e] at hq
    exact hq
inductive zqy  (ds:List D) (q:List D→Prop):Prop where
  | mk (c n:Int) (_:ds=[.int c,.int n]) (_:0≤c) (_:1≤n) (_:n≤12) (_:∀xs:List Str,Row n.toNat xs→q (xs.map D.str))
def zj8 :Sp3:=lSt zqy
theorem zoe {k:Nat} (h:Has K mg "_law_names" zc8 ["cell","many"]) (G:Gs K mg):Cal3 P w K mg base (k+1) "_law_names" ["cell","many"] zj8:=by
  refine h.lst zb2 (by rintro ds q ⟨c,n,e,_⟩;rw [e];rfl) fun f cdv A outer s H E ds q hr ⟨c,n,e,hc,hn1,hn2,hq⟩=>?_
  subst e
  refine ⟨_,(zac (zas (i:=2) zb2.nd rfl (Or.inr rfl) zaj)
 (zac (zas (i:=3) zb2.nd rfl (Or.inl rfl) (e_op zb3 zao (e_v 0) zad))
 (zac (znr PassesOwn.never rfl (zcz rfl G.range (zaa (e_op zbj zao (e_v 0) zad) zaf)) (zkl (i:=4) zb2.nd rfl (Or.inl rfl)) (zac (zas (i:=2) zb2.nd rfl (Or.inr rfl) (e_op zab zae (e_v 2) (e_ix zkk zko zaj (e_op zbj zao (e_v 3) zad) (fun _ _=>rfl))))
 (zam (zas (i:=3) zb2.nd rfl (Or.inl rfl) (e_op zb3 zao (e_v 3) zad)))))
 (zac (zas (i:=5) zb2.nd rfl (Or.inr rfl) (e_op zbj zao (e_op zb3 zao (e_v 0) zad) (e_op zcx zbt (zav zc1 zhs rfl G.len PySem.boot_len (zaa (e_v 2) zaf)) zad)))
 (zac (zka (i:=6) (osc:=defScope zc8) (N:=["cell","many","base","left","k","place","found","turn"]) (M:=["base","place"]) (js:=[2,5]) ⟨rfl,by decide +kernel,by decide +kernel,rfl,by decide +kernel,by decide +kernel,by decide +kernel⟩ (by decide +kernel) rfl (zcz rfl G.range (zaa (e_v 1) zaf)) (fun _ _ _ _ _=>(e_op zab zae (e_op zab zae (za8 ze9 zff (e_v 1) zbz (zbi (e_v 2))) (e_ix zkk zko zaj (e_v 0) (fun _ _=>rfl))) (za8 ze9 zff (e_v 1) (zbi (e_v 2)) zbz))) zb2.nd rfl rfl)
 (zac (zd2 (PW3.pt (w_and (zap zhb zbe (e_v 1) zad (nomark _)) (zo3 (zap za3 zaw (e_op zbj zao (e_op zb3 zao (e_v 0) zad) zad) zad (nomark _))))) (zam (zka (i:=6) (osc:=defScope zc8) (N:=["cell","many","base","left","k","place","found","turn"]) (M:=["base"]) (js:=[2]) ⟨rfl,by decide +kernel,by decide +kernel,rfl,by decide +kernel,by decide +kernel,by decide +kernel⟩ (by decide +kernel) rfl (zcz rfl G.range (zaa (e_v 1) zaf)) (fun _ _ _ _ _=>(e_op zab zae (za8 ze9 zff (e_v 1) zbz (zbi zad)) (za8 ze9 zff zaj zbz (zbi (e_op zcx zbt (e_v 0) zad))))) zb2.nd rfl rfl)) zax)
 (zac (zd2 (PW3.pt (w_and (zap zhb zbe (e_v 1) zad (nomark _)) (zo3 (zap za3 zaw (e_op zbj zao (e_op zb3 zao (e_v 0) zad) zad) zad (nomark _))))) (zam (zka (i:=6) (osc:=defScope zc8) (N:=["cell","many","base","left","k","place","found","turn"]) (M:=["base"]) (js:=[2]) ⟨rfl,by decide +kernel,by decide +kernel,rfl,by decide +kernel,by decide +kernel,by decide +kernel⟩ (by decide +kernel) rfl (zcz rfl G.range (zaa (e_v 1) zaf)) (fun _ _ _ _ _=>(e_op zab zae (za8 ze9 zff zaj (zbi (e_op zfx zbt zad (e_v 0))) zbz) (za8 ze9 zff (e_v 1) zbz (zbi zad)))) zb2.nd rfl rfl)) zax)
 (zac (zas (i:=7) zb2.nd rfl (Or.inl rfl) (e_op zbj zao (e_op zb3 zao (e_v 0) zad) (e_v 1)))
 (zam (zaq (e_op zik zf9 (za8 zex zgr (e_v 6) (zbi (e_v 7)) zbz) (za8 zex zgr (e_v 6) zbz (zbi (e_v 7)))))))))))))),?_⟩
  nofun
  refine ⟨fun i σ S=>Ex3 fun (lf:Int) (cs:List Nat) (x4:Option D)=>σ=[some (.int c),some (.int n),some (.str (textOf cs)),some (.int lf),x4,none,none,none]∧cs.length=i∧Letters cs∧S=emp,
    ⟨_,[],none,rfl,rfl,fun c hc=>by simp at hc,rfl⟩,fun _ _ _ _=>trivial,?turn,?done⟩
  case turn =>
    rintro i d σ S hd ⟨lf,cs,x4,rfl,hl,hL,rfl⟩
    obtain ⟨hi,rfl⟩:=zc9 hd
    have m26:=Int.emod_lt_of_pos lf (show (0:Int)<26 by decide)
    have n26:=Int.emod_nonneg lf (show (26:Int)≠0 by decide)
    nofun
    refine j_ixS (cp:=97+(lf%26).toNat) ?_ ?_ ?_
    · rw [zlz,za2];decide
    · rw [zlz,zah]
      exact zkw n26 m26
    refine j_addS (y:=textOf [97+(lf%26).toNat]) ?_ ?_
    · rw [za2,za2]
      refine zal ?_
      simp only [List.length_cons,List.length_nil]
      omega
    rw [zc3]
    nofun
    refine ⟨_,cs++[97+(lf%26).toNat],_,rfl,by simp [hl],fun d hd=>?_,rfl⟩
    rcases List.mem_append.mp hd with hd|hd
    · exact hL d hd
    · simp at hd
      omega
  rintro σ S ⟨lf,cs,x4,rfl,hl,hL,rfl⟩
  rw [zbr] at hl
  have hl7:cs.length≤7:=by omega
  have lz:∀ds:List Nat,ds.length≤100→(textOf ds).length≤sizeLine:=fun ds h=>by rw [za2];exact zal (by omega)
  have hz:=lz cs (by omega)
  nofun
  rw [za2]
  have p0:=Int.emod_nonneg (c/11) (show ((cs.length:Int)+1)≠0 by omega)
  obtain ⟨pl,epl⟩:∃pl,(c/11)%((cs.length:Int)+1)=pl:=⟨_,rfl⟩
  rw [epl] at p0 ⊢
  refine zcc (fun k=>.str (textOf (nm1 cs pl.toNat k))) (by rw [zbr];exact Nat.le_trans (show n.toNat≤12 by omega) (by decide)) trivial ?e1 ?_
  case e1 =>
    intro i d hd P hP
    obtain ⟨hi,rfl⟩:=zc9 hd
    nofun
    refine j_slS hz ?_
    rw [zah,zgb p0]
    nofun
    refine j_ixS (cp:=97+i) ?_ ?_ ?_
    · rw [zh9,za2];decide
    · rw [zh9,zah,zkw (by omega) (by omega)]
      simp
    refine j_addS (y:=textOf [97+i]) ?_ ?_
    · rw [za2,za2,List.length_take]
      exact zal (by simp only [List.length_cons,List.length_nil];omega)
    rw [zc3]
    nofun
    refine j_slS hz ?_
    rw [zah,zgc p0]
    refine j_addS ?_ ?_
    · rw [za2,za2,List.length_append,List.length_take,List.length_drop]
      exact zal (by simp only [List.length_cons,List.length_nil];omega)
    rw [zc3]
    exact hP
  rw [zbr]
  intro D1 hD1
  have e26:n.toNat≤12:=by omega
  have m1:∀f:Nat→List Nat,((List.range n.toNat).map fun k=>D.str (textOf (f k)))=((List.range n.toNat).map fun k=>textOf (f k)).map D.str:=fun f=>by rw [List.map_map];rfl
  rw [m1]
  have R1:Row n.toNat ((List.range n.toNat).map fun k=>textOf (nm1 cs pl.toNat k)):=row1 hL hl7 (by omega)
  nofun
  refine j_ifm (fun σ T=>Ex2 fun (r:Addr) (xs:List Str)=>σ=[some (.int c),some (.int n),some (.str (textOf cs)),some (.int lf),x4,some (.int pl),some (.ref r),none]∧T r=some (.lst (xs.map D.str))∧Row n.toNat xs) ?_ ?_
  · intro n' hn'
    by_cases h5:n<5
    case neg =>
      nofun
      exact hn' _ _ ⟨D1,_,rfl,zag,R1⟩
    by_cases e1:c/17%3=1
    case neg =>
      nofun
      exact hn' _ _ ⟨D1,_,rfl,zag,R1⟩
    nofun
    refine zcc (fun k=>.str (textOf (nm2 cs k))) (by rw [zbr];exact Nat.le_trans e26 (by decide)) trivial ?e2 ?_
    case e2 =>
      intro i d hd P hP
      obtain ⟨hi,rfl⟩:=zc9 hd
      nofun
      refine j_slS hz ?_
      rw [zah,zgb (by decide)]
      nofun
      refine j_slS (by rw [zkb];exact lz _ (by decide)) ?_
      rw [zkb,zah,zgb (by omega)]
      have ei:((0:Int)+(i:Int)+1).toNat=i+1:=by omega
      rw [ei]
      refine j_addS ?_ ?_
      · rw [za2,za2,List.length_take,List.length_take]
        exact zal (by omega)
      rw [zc3]
      exact hP
    rw [zbr]
    intro D2 hD2
    rw [m1]
    nofun
    exact hn' _ _ ⟨D2,_,rfl,zag,row2 hL (by omega)⟩
  clear R1
  rintro σ T ⟨r,xs,rfl,hr1,R⟩
  nofun
  refine j_ifm (fun σ T=>Ex2 fun (r:Addr) (xs:List Str)=>σ=[some (.int c),some (.int n),some (.str (textOf cs)),some (.int lf),x4,some (.int pl),some (.ref r),none]∧T r=some (.lst (xs.map D.str))∧Row n.toNat xs) ?_ ?_
  · intro n' hn'
    by_cases h5:n<5
    case neg =>
      nofun
      exact hn' _ _ ⟨r,xs,rfl,hr1,R⟩
    by_cases e2:c/17%3=2
    case neg =>
      nofun
      exact hn' _ _ ⟨r,xs,rfl,hr1,R⟩
    nofun
    refine zcc (fun k=>.str (textOf (nm3 cs k))) (by rw [zbr];exact Nat.le_trans e26 (by decide)) trivial ?e3 ?_
    case e3 =>
      intro i d hd P hP
      obtain ⟨hi,rfl⟩:=zc9 hd
      nofun
      refine j_slS (by rw [zkb];exact lz _ (by decide)) ?_
      rw [zkb,zah,zgc (by omega)]
      have ei:((3:Int)-(0+(i:Int))).toNat=3-i:=by omega
      rw [ei]
      nofun
      refine j_slS hz ?_
      rw [zah,zgb (by decide)]
      refine j_addS ?_ ?_
      · rw [za2,za2,List.length_take,List.length_drop]
        exact zal (by simp only [List.length_cons,List.length_nil];omega)
      rw [zc3]
      exact hP
    rw [zbr]
    intro D2 hD2
    rw [m1]
    nofun
    exact hn' _ _ ⟨D2,_,rfl,zag,row3 hL (by omega)⟩
  rintro σ T' ⟨r,xs,rfl,hr1,R⟩
  have t0:=Int.emod_nonneg (c/13) (show n≠0 by omega)
  nofun
  rw [zcu t0]
  intro p1 hp1
  have hD4:=zau (o:=.lst ((xs.map D.str).drop (c/13%n).toNat)) hr1 hp1
  nofun
  rw [zd8 t0]
  intro p2 hp2
  have hxl:=R.len
  refine j_catL (zau zag hp2) zag ?_ ?_
  · rw [List.length_drop,List.length_take,List.length_map]
    exact zal (by omega)
  intro r hr'
  refine ⟨r,_,rfl,zag,?_⟩
  have:=hq _ (R.turn (t:=(c/13%n).toNat))
  rw [List.map_append,List.map_drop,List.map_take] at this
  exact this
inductive P_next  (ds:List D) (S:Hp3) (q:D→Addr→O→Prop):Prop where
  | mk (ns:List Int) (sp:Addr) (i:Int) (rs:List D) (_:ds=[.rol (ns.map D.int),.ref sp]) (_:S sp=some (.lst (.int i::rs))) (_:0≤i) (_:q (.int (cellAt ns i)) sp (.lst (.int (i+1)::rs)))
def zje :Sp3:=wrV P_next
theorem zqc {k:Nat} (h:Has K mg "_law_next" zgl ["script","spot"]) (C_cell_at:Cal3 P w K mg base k "_law_cell_at" ["script","k"] zdt):Cal3 P w K mg base (k+1) "_law_next" ["script","spot"] zje:=by
  refine h.wrV zpt (by rintro ds S q ⟨ns,sp,i,rs,e,_⟩;rw [e];rfl) fun f cdv A outer s H E ds S q hr ⟨ns,sp,i,rs,e,hS,hi,hq⟩=>?_
  subst e
  refine ⟨_,(zac (s_asg (e_op zcx zbt (e_ix zb4 zc0 (e_v 1) zad (fun _ _=>rfl)) zad) (g_sub (e_v 1) zad))
 (zam (zaq (zay C_cell_at hr rfl (zaa (e_v 0) (zaa (e_op zfx zbt (e_ix zb4 zc0 (e_v 1) zad (fun _ _=>rfl)) zad) zaf)))))),?_⟩
  nofun
  refine ⟨ns,i+1-1,rfl,by omega,sp,_,Sub.refl _,?_⟩
  have e:i+1-1=i:=by omega
  rw [e]
  exact hq
inductive zo2 (n:Nat) (ds:List D) (S:Hp3) (q:D→Addr→O→Prop):Prop where
  | mk (ns:List Int) (sp nm ct:Addr) (i b deep:Int) (names ps:List Str) (counts:List Nat) (_:ds=[.rol (ns.map D.int),.ref sp,.ref nm,.ref ct,.tup (ps.map D.str),.int deep]) (_:S sp=some (.lst [.int i,.int b])) (_:S nm=some (.lst (names.map D.str))) (_:S ct=some (.lst (cD counts))) (_:sp≠nm) (_:sp≠ct) (_:0≤i) (_:0≤b) (_:1≤deep) (_:deep≤n) (_:1≤ps.length) (_:ps.length≤4) (_:1≤names.length) (_:names.Nodup) (_:names.length=counts.length) (_:(∀c∈counts,1≤c∧c≤4)) (_:∀(s:Sy) (i2 b2:Int),s.wf (arOf names counts) ps→(s.deep:Int)≤deep→i≤i2→0≤b2→(s.sends:Int)+b2≤b→q s.d sp (.lst [.int i2,.int b2]))
def zft (n:Nat):Sp3:=wrV (zo2 n)
theorem zil (h:Has K mg "_law_saying" zc7 ["script","spot","names","counts","params","deep"]) (G:Gs K mg) (C0:Cal3 P w K mg base 2 "_law_next" ["script","spot"] zje) :
    ∀n:Nat,Cal3 P w K mg base (n+3) "_law_saying" ["script","spot","names","counts","params","deep"] (zft n)
  | 0=>h.none3 (by rintro ds S Q E ⟨ns,sp,nm,ct,i,b,deep,names,ps,counts,_,_,_,_,_,_,_,_,h1,h2,_⟩;omega) _
  | n+1=>by
    have C_saying:=zil h G C0 n
    have C_next:=C0.mono (show 2≤n+3 by omega)
    refine h.wrV zcd (by rintro ds S q ⟨ns,sp,nm,ct,i,b,deep,names,ps,counts,e,_⟩;rw [e];rfl) fun f cdv A outer s H E ds S q hr hA=>?_
    obtain ⟨ns,sp,nm,ct,i,b,deep,names,ps,counts,rfl,hsp,hnm,hct,n1,n2,hi,hb,d1,dn,p1,p4,m1,nd,hlc,hc4,hq⟩:=hA
    refine ⟨_,(zac (zas (i:=6) zcd.nd rfl (Or.inl rfl) (zay C_next hr rfl (zaa (e_v 0) (zaa (e_v 1) zaf))))
 (zac (zas (i:=7) zcd.nd rfl (Or.inl rfl) (e_op zbj zao (e_v 6) zad))
 (zac (s_if (PW3.pt (w_or (zap zhb zbe (e_v 5) zad (nomark _)) (zgv (zap za3 zaw (e_v 7) zad (nomark _))))) (zam (zaq (zbc (zaa zaj (zaa (e_ix za0 za1 (e_v 4) (e_op zbj zao (e_op zb3 zao (e_v 6) zad) (zav za4 zd1 rfl G.len PySem.boot_len (zaa (e_v 4) zaf))) (fun _ _=>rfl)) zaf))))) zax)
 (zac (s_if (zap za3 zaw (e_v 7) zad (nomark _)) (zam (zaq (zbc (zaa zaj zaf)))) zax)
 (zac (s_if (PW3.pt (w_or (zap za3 zaw (e_v 7) zad (nomark _)) (zgv (zap za3 zaw (e_v 7) zad (nomark _))))) (zam (zaq (zbc (zaa (e_ix zb4 zc0 (ziw (zaa zaj (zaa zaj zaf))) (e_op zfx zbt (e_v 7) zad) (fun _ _=>rfl)) (zaa (zay C_saying hr rfl (zaa (e_v 0) (zaa (e_v 1) (zaa (e_v 2) (zaa (e_v 3) (zaa (e_v 4) (zaa (e_op zfx zbt (e_v 5) zad) zaf))))))) zaf))))) zax)
 (zac (zas (i:=8) zcd.nd rfl (Or.inl rfl) zad)
 (zac (s_if (PW3.pt (w_or (zap za3 zaw (e_v 7) zad (nomark _)) (zgv (zap za3 zaw (e_v 7) zad (nomark _))))) (zam (zas (i:=8) zcd.nd rfl (Or.inl rfl) zad)) zax)
 (zac (zas (i:=9) zcd.nd rfl (Or.inl rfl) (e_op zbj zao (e_op zb3 zao (e_v 6) zad) (zav za4 zd1 rfl G.len PySem.boot_len (zaa (e_v 2) zaf))))
 (zac (s_if (zap zmg zbe (e_v 7) zad (nomark _)) (zac (s_if (zap za3 zaw (e_ix zb4 zc0 (e_v 1) zad (fun _ _=>rfl)) zad (nomark _)) (zam (zaq (zbc (zaa zaj zaf)))) zax)
 (zac (s_asg (e_op zfx zbt (e_ix zb4 zc0 (e_v 1) zad (fun _ _=>rfl)) zad) (g_sub (e_v 1) zad))
 (zam (zas (i:=8) zcd.nd rfl (Or.inl rfl) (e_ix zb4 zc0 (e_v 3) (e_v 9) (fun _ _=>rfl)))))) zax)
 (zac (zas (i:=10) zcd.nd rfl (Or.inl rfl) (zdb zck zfp rfl G.tuple boot_tuple (zaa (zf7 (osc:=defScope zc7) (N:=["script","spot","names","counts","params","deep","cell","kind","parts","to","row"]) (M:=["script","spot","names","counts","params","deep"]) (js:=[0,1,2,3,4,5]) ⟨rfl,by decide +kernel,by decide +kernel,rfl,by decide +kernel,by decide +kernel,by decide +kernel⟩ (by decide +kernel) rfl (zcz rfl G.range (zaa (e_v 8) zaf)) (fun _ _ _ _ _=>(zay C_saying hr rfl (zaa (e_v 1) (zaa (e_v 2) (zaa (e_v 3) (zaa (e_v 4) (zaa (e_v 5) (zaa (e_op zfx zbt (e_v 6) zad) zaf))))))))) zaf)))
 (zac (s_if (zap za3 zaw (e_v 7) zad (nomark _)) (zam (zaq (e_op zez ze5 (zbc (zaa zaj zaf)) (e_v 10)))) zax)
 (zac (s_if (zap zhb zbe (e_v 7) zad (nomark _)) (zam (zaq (e_op zez ze5 (zbc (zaa zaj zaf)) (e_v 10)))) zax)
 (zam (zaq (zbc (zaa zaj (zaa (e_ix zb4 zc0 (e_v 2) (e_v 9) (fun _ _=>rfl)) (zaa (e_v 10) zaf)))))))))))))))))),?_⟩
    nofun
    refine ⟨ns,sp,i,[.int b],rfl,hsp,hi,?_⟩
    generalize hcell:cellAt ns i=cell
    have k0:=Int.emod_nonneg cell (show (9:Int)≠0 by decide)
    have k9:=Int.emod_lt_of_pos cell (show (0:Int)<9 by decide)
    have sp1:up S sp (.lst [.int (i+1),.int b]) sp=some (.lst [.int (i+1),.int b]):=zag
    have nm1:∀o,up S sp o nm=some (.lst (names.map D.str)):=fun o=>by rw [zcn (Ne.symm n1)];exact hnm
    have ct1:∀o,up S sp o ct=some (.lst (cD counts)):=fun o=>by rw [zcn (Ne.symm n2)];exact hct
    have nm2:=nm1 (.lst [.int (i+1),.int b])
    have fin:∀(s:Sy),s.wf (arOf names counts) ps→(s.deep:Int)≤deep→s.sends=0→∃a o,Sub (up S a o) (up S sp (.lst [.int (i+1),.int b]))∧q s.d a o:=fun s h1 h2 h3 =>
      ⟨sp,_,Sub.refl _,hq s (i+1) b h1 h2 (by omega) hb (by omega)⟩
    obtain ⟨jp,vp,ejp,hvp,hap⟩:=zjs (f:=D.str) (cell/9) (show 0<ps.length by omega)
    have hpl:(0:Int)<((ps.map D.str).length:Int):=by rw [List.length_map];omega
    have hnl:(0:Int)<((names.map D.str).length:Int):=by rw [List.length_map];omega
    have vpm:vp∈ps:=List.mem_of_getElem? hvp
    by_cases hd:deep<2
    · nofun
      refine j_ixT hap ?_
      nofun
      exact fin (.name vp) vpm (by simp only [Sy.deep];omega) (by simp [Sy.sends,Sy.pre])
    by_cases h0:cell%9=0
    · nofun
      refine j_ixT hap ?_
      nofun
      exact fin (.name vp) vpm (by simp only [Sy.deep];omega) (by simp [Sy.sends,Sy.pre])
    by_cases h1:cell%9=1
    · nofun
      exact fin .bud trivial (by simp only [Sy.deep];omega) (by simp [Sy.sends,Sy.pre])
    by_cases h2:cell%9=2
    · nofun
      intro p hp
      nofun
      refine j_ixL zag (d:=.str "left") (by rw [h2];rfl) ?_
      nofun
      refine ⟨ns,sp,nm,ct,i+1,b,deep-1,names,ps,counts,rfl,zau zag hp,zau (nm1 _) hp,zau (ct1 _) hp,n1,n2,by omega,hb,by omega,by omega,p1,p4,m1,nd,hlc,hc4,fun s i2 b2 hw hdp hi2 hb2 hs2=>?_⟩
      nofun
      refine ⟨sp,_,((Px.refl sp S).at.new hp).at.sub zag,hq (.left s) i2 b2 hw (by simp only [Sy.deep];omega) (by omega) hb2 ?_⟩
      rw [Sy.sends_parts]
      simp only [Sy.parts,Sy.sendss_cons]
      simp [Sy.sendss,Sy.pres]
      omega
    by_cases h3:cell%9=3
    · nofun
      intro p hp
      nofun
      refine j_ixL zag (d:=.str "right") (by rw [h3];rfl) ?_
      nofun
      refine ⟨ns,sp,nm,ct,i+1,b,deep-1,names,ps,counts,rfl,zau zag hp,zau (nm1 _) hp,zau (ct1 _) hp,n1,n2,by omega,hb,by omega,by omega,p1,p4,m1,nd,hlc,hc4,fun s i2 b2 hw hdp hi2 hb2 hs2=>?_⟩
      nofun
      refine ⟨sp,_,((Px.refl sp S).at.new hp).at.sub zag,hq (.right s) i2 b2 hw (by simp only [Sy.deep];omega) (by omega) hb2 ?_⟩
      rw [Sy.sends_parts]
      simp only [Sy.parts,Sy.sendss_cons]
      simp [Sy.sendss,Sy.pres]
      omega
    obtain ⟨jt,vt,ejt,hvt,hat⟩:=zjs (f:=D.str) (cell/9) (show 0<names.length by omega)
    have hct':jt<counts.length:=by rw [←hlc];exact (List.getElem?_eq_some_iff.mp hvt).1
    obtain ⟨cn,hcn⟩:∃cn,counts[jt]?=some cn:=⟨_,List.getElem?_eq_getElem hct'⟩
    have hcn4:=hc4 cn (List.mem_of_getElem? hcn)
    have har:arOf names counts vt=some cn:=znj nd hvt hcn
    have elt:∀(d:D) (x6:Option D) (i0 b0 i1 b1:Int),0≤i1→0≤b1→∀P:K3,
        (∀(s:Sy) (i2 b2:Int),(s.wf (arOf names counts) ps∧(s.deep:Int)≤deep-1)→i1≤i2→0≤b2→(s.sends:Int)+b2≤b1→P s.d (up S sp (.lst [.int i2,.int b2]))) →
        zft n [.rol (ns.map D.int),.ref sp,.ref nm,.ref ct,.tup (ps.map D.str),.int (deep-1)] (up S sp (.lst [.int i1,.int b1])) P (fun _ _ _=>False):=fun d x6 i0 b0 i1 b1 hi1 hb1 P hP =>
      ⟨ns,sp,nm,ct,i1,b1,deep-1,names,ps,counts,rfl,zag,nm1 _,ct1 _,n1,n2,hi1,hb1,by omega,by omega,p1,p4,m1,nd,hlc,hc4,fun s i2 b2 hw hdp hi2 hb2 hs2=>by
        show P s.d (up (up S sp (.lst [.int i1,.int b1])) sp (.lst [.int i2,.int b2]))
        rw [zpn]
        exact hP s i2 b2 ⟨hw,hdp⟩ hi2 hb2 hs2⟩
    have hk:cell%9=4∨(cell%9=5∨cell%9=6)∨(cell%9=7∨cell%9=8):=by omega
    rcases hk with h4|h56|h78
    · nofun
      refine zd9 (m:=2) (fun s=>s.wf (arOf names counts) ps∧(s.deep:Int)≤deep-1) (by omega) (fun _=>trivial) (fun d i1 b1 hi1 hb1 P hP=>?_) hb fun ss i2 b2 hl hg hi2 hb2 hs2=>?_
      · nofun
        exact elt d none 0 0 i1 b1 (by omega) hb1 P hP
      · intro p hp
        match ss,hl with
        | [a,c],_ =>
          obtain ⟨wa,da⟩:=hg a (by simp)
          obtain ⟨wc,dc⟩:=hg c (by simp)
          nofun
          refine j_catT (by simp) (zal (by simp)) ?_
          refine ⟨sp,_,((Px.refl sp S).at.new hp).sub (zau zag hp),hq (.pair a c) i2 b2 ⟨wa,wc⟩ (by simp only [Sy.deep];omega) (by omega) hb2 ?_⟩
          rw [Sy.sends_parts]
          simpa [Sy.parts] using hs2
    · have n4:¬cell%9=4:=by omega
      rcases h56 with h5|h6
      all_goals
        nofun
        refine zd9 (m:=3) (fun s=>s.wf (arOf names counts) ps∧(s.deep:Int)≤deep-1) (by omega) (fun _=>trivial) (fun d i1 b1 hi1 hb1 P hP=>?_) hb fun ss i2 b2 hl hg hi2 hb2 hs2=>?_
        · nofun
          exact elt d none 0 0 i1 b1 (by omega) hb1 P hP
        · intro p hp
          match ss,hl with
          | [a,c,e],_ =>
            obtain ⟨wa,da⟩:=hg a (by simp)
            obtain ⟨wc,dc⟩:=hg c (by simp)
            obtain ⟨we,de⟩:=hg e (by simp)
            nofun
            refine j_catT (by simp) (zal (by simp)) ?_
            refine ⟨sp,_,((Px.refl sp S).at.new hp).sub (zau zag hp),hq (.fork a c e) i2 b2 ⟨wa,wc,we⟩ (by simp only [Sy.deep];omega) (by omega) hb2 ?_⟩
            rw [Sy.sends_parts]
            simpa [Sy.parts] using hs2
    · by_cases hb0:b=0
      · rcases h78 with h7|h8
        all_goals
          nofun
          exact fin .bud trivial (by simp only [Sy.deep];omega) (by simp [Sy.sends,Sy.pre])
      · rcases h78 with h7|h8
        all_goals
          nofun
          have es:([D.int (i+1),D.int b].set (Int.toNat 1) (D.int (b-1)))=[D.int (i+1),D.int (b-1)]:=rfl
          rw [es,zpn]
          refine j_ixL (ct1 _) (d:=.int cn) (by rw [ejt];refine ze6 ?_;rw [List.getElem?_map,hcn];rfl) ?_
          nofun
          rw [Int.toNat_natCast]
          refine zd9 (m:=cn) (fun s=>s.wf (arOf names counts) ps∧(s.deep:Int)≤deep-1) (by omega) (fun _=>trivial) (fun d i1 b1 hi1 hb1 P hP=>?_) (show 0≤b-1 by omega) fun ss i2 b2 hl hg hi2 hb2 hs2=>?_
          · nofun
            exact elt d none 0 0 i1 b1 (by omega) hb1 P hP
          · intro p hp
            have nm3:=zau (o:=.lst (ss.map Sy.d)) (nm1 (.lst [.int i2,.int b2])) hp
            nofun
            refine j_ixL nm3 hat ?_
            nofun
            have hdd:Sy.deeps ss≤(deep-1).toNat:=Sy.deeps_le fun a ha=>by
              have:=(hg a ha).2
              omega
            have:=hq (.send vt ss) i2 b2 ⟨by rw [hl];exact har,by omega,by omega,Sy.wfs_iff.mpr fun a ha=>(hg a ha).1⟩ (by simp only [Sy.deep];omega) (by omega) hb2 (by
              rw [Sy.sends_parts]
              simp only [Sy.parts]
              omega)
            rw [Sy.d,Sy.ds_map] at this
            exact ⟨sp,_,((Px.refl sp S).at.new hp).sub (zau zag hp),this⟩
inductive zqz (n:Nat) (ds:List D) (S:Hp3) (q:List D→Addr→O→Prop):Prop where
  | mk (ns:List Int) (sp:Addr) (i b most deep:Int) (_:ds=[.rol (ns.map D.int),.ref sp,.int most,.int deep]) (_:S sp=some (.lst [.int i,.int b])) (_:0≤i) (_:0≤b) (_:1≤most) (_:most≤12) (_:1≤deep) (_:deep≤n) (_:∀(prog:List Er) (i2 b2:Int),Good prog most.toNat deep.toNat b.toNat→q (prog.map Er.d) sp (.lst [.int i2,.int b2]))
def zj9 (n:Nat):Sp3:=wrL (zqz n)
theorem zof {n:Nat} (h:Has K mg "_law_drawn" zd3 ["script","spot","most","deep"]) (G:Gs K mg) (C0:Cal3 P w K mg base 2 "_law_next" ["script","spot"] zje) (C1:Cal3 P w K mg base 1 "_law_names" ["cell","many"] zj8)
    (C_saying:Cal3 P w K mg base (n+3) "_law_saying" ["script","spot","names","counts","params","deep"] (zft n)):Cal3 P w K mg base (n+4) "_law_drawn" ["script","spot","most","deep"] (zj9 n):=by
  have C_next:=C0.mono (show 2≤n+3 by omega)
  have C_names:=C1.mono (show 1≤n+3 by omega)
  refine h.wrL zci (by rintro ds S q ⟨ns,sp,i,b,most,deep,e,_⟩;rw [e];rfl) fun f cdv A outer s H E ds S q hr hA=>?_
  obtain ⟨ns,sp,i,b,most,deep,rfl,hsp,hi,hb,m1,m12,d1,dn,hq⟩:=hA
  refine ⟨_,(zac (zas (i:=4) zci.nd rfl (Or.inr rfl) (zay C_next hr rfl (zaa (e_v 0) (zaa (e_v 1) zaf))))
 (zac (zas (i:=5) zci.nd rfl (Or.inl rfl) (e_op zcx zbt zad (e_op zbj zao (e_v 4) (e_v 2))))
 (zac (zas (i:=6) zci.nd rfl (Or.inl rfl) (zay C_names hr rfl (zaa (e_op zbj zao (e_op zb3 zao (e_v 4) (e_v 2)) (e_op zmf zao zad zad)) (zaa (e_v 5) zaf))))
 (zac (zas (i:=7) zci.nd rfl (Or.inl rfl) (zay C_names hr rfl (zaa (e_op zbj zao (zay C_next hr rfl (zaa (e_v 0) (zaa (e_v 1) zaf))) (e_op zmf zao zad zad)) (zaa zad zaf))))
 (zac (zka (i:=8) (osc:=defScope zd3) (N:=["script","spot","most","deep","head","many","names","params","counts","program","k","mine"]) (M:=["head"]) (js:=[4]) ⟨rfl,by decide +kernel,by decide +kernel,rfl,by decide +kernel,by decide +kernel,by decide +kernel⟩ (by decide +kernel) rfl (zcz rfl G.range (zaa (e_v 5) zaf)) (fun _ _ _ _ _=>(e_op zcx zbt zad (e_op zbj zao (e_op zb3 zao (e_v 1) (e_op op_mul zao zad (e_op zcx zbt (e_v 0) zad))) zad))) zci.nd rfl rfl)
 (zac (zas (i:=9) zci.nd rfl (Or.inl rfl) (ziw zaf))
 (zac (znr PassesOwn.never rfl (zcz rfl G.range (zaa (e_v 5) zaf)) (zkl (i:=10) zci.nd rfl (Or.inl rfl)) (zac (zas (i:=11) zci.nd rfl (Or.inl rfl) (zdb zck zfp rfl G.tuple boot_tuple (zaa (za8 zex zgr (e_op zik zf9 (za8 zex zgr (e_v 7) (zbi (e_op zbj zao (e_v 10) zad)) zbz) (za8 zex zgr (e_v 7) zbz (zbi (e_op zbj zao (e_v 10) zad)))) zbz (zbi (e_ix zb4 zc0 (e_v 8) (e_v 10) (fun _ _=>rfl)))) zaf)))
 (zam (zfb (e_bm PySem.F.plainAttrs_list PySem.F.slot_list_append PySem.F.type_list_append zfz ziy (e_v 9) (zaa (zbc (zaa (e_ix zb4 zc0 (e_v 6) (e_v 10) (fun _ _=>rfl)) (zaa (e_v 11) (zaa (zay C_saying hr rfl (zaa (e_v 0) (zaa (e_v 1) (zaa (e_v 6) (zaa (e_v 8) (zaa (e_v 11) (zaa (e_v 3) zaf))))))) zaf)))) zaf))))))
 (zam (zaq (e_v 9)))))))))),?_⟩
  nofun
  refine ⟨ns,sp,i,[.int b],rfl,hsp,hi,?_⟩
  generalize cellAt ns i=head
  have hm0:=Int.emod_nonneg head (show most≠0 by omega)
  have hm1:=Int.emod_lt_of_pos head (show 0<most by omega)
  have t14:(0:Int)<10^(Int.toNat 14):=by decide
  nofun
  refine ⟨_,_,rfl,Int.emod_nonneg _ (by decide),by omega,by omega,fun names Rn=>?_⟩
  intro nm hnm
  have n1:sp≠nm:=ne3 zag hnm
  nofun
  refine ⟨ns,sp,i+1,[.int b],rfl,zau zag hnm,by omega,?_⟩
  generalize cellAt ns (i+1)=c2
  nofun
  refine ⟨_,4,rfl,Int.emod_nonneg _ (by decide),by omega,by omega,fun pp Rp=>?_⟩
  intro pm hpm
  nofun
  generalize hmany:1+head%most=many
  have h1m:1≤many:=by omega
  have h12:many≤most:=by omega
  obtain ⟨cnt,hcnt⟩:∃cnt:Nat→Nat,∀k:Nat,1+head/(7*(0+(k:Int)+1))%4=(cnt k:Int)∧1≤cnt k∧cnt k≤4:=⟨fun k=>(1+head/(7*(0+(k:Int)+1))%4).toNat,fun k=>by
    dsimp only
    generalize head/(7*(0+(k:Int)+1))=x
    omega⟩
  refine zcc (fun k=>.int (cnt k)) (by rw [zbr];omega) trivial ?_ ?_
  · intro j d hd P hP
    obtain ⟨hj,rfl⟩:=zc9 hd
    nofun
    rw [(hcnt j).1]
    exact hP
  rw [zbr]
  obtain ⟨counts,hcounts⟩:∃counts,counts=(List.range many.toNat).map cnt:=⟨_,rfl⟩
  have ecd:((List.range many.toNat).map fun k=>D.int (cnt k:Int))=cD counts:=by rw [hcounts,cD,List.map_map];rfl
  rw [ecd]
  have hc4:∀c∈counts,1≤c∧c≤4:=fun c hc=>by
    rw [hcounts] at hc
    obtain ⟨k,_,rfl⟩:=List.mem_map.mp hc
    exact (hcnt k).2
  have hlc:counts.length=many.toNat:=by rw [hcounts];simp
  intro ct hct
  nofun
  intro pr hpr
  have hnl:=Rn.len
  rw [hmany] at Rn hnl
  have g_sp:up (up (up (up (up (up S sp (.lst [.int (i+1),.int b])) nm (.lst (names.map D.str))) sp (.lst [.int (i+1+1),.int b])) pm (.lst (pp.map D.str))) ct (.lst (cD counts))) pr (.lst []) sp=some (.lst [.int (i+1+1),.int b]) :=
    zau (zau (zau zag hpm) hct) hpr
  have g_nm:up (up (up (up (up (up S sp (.lst [.int (i+1),.int b])) nm (.lst (names.map D.str))) sp (.lst [.int (i+1+1),.int b])) pm (.lst (pp.map D.str))) ct (.lst (cD counts))) pr (.lst []) nm=some (.lst (names.map D.str)) :=
    zau (zau (zau (by rw [zcn (Ne.symm n1)];exact zag) hpm) hct) hpr
  have g_pm:up (up (up (up (up (up S sp (.lst [.int (i+1),.int b])) nm (.lst (names.map D.str))) sp (.lst [.int (i+1+1),.int b])) pm (.lst (pp.map D.str))) ct (.lst (cD counts))) pr (.lst []) pm=some (.lst (pp.map D.str)) :=
    zau (zau zag hct) hpr
  have g_ct:up (up (up (up (up (up S sp (.lst [.int (i+1),.int b])) nm (.lst (names.map D.str))) sp (.lst [.int (i+1+1),.int b])) pm (.lst (pp.map D.str))) ct (.lst (cD counts))) pr (.lst []) ct=some (.lst (cD counts)) :=
    zau zag hpr
  have g_pr:up (up (up (up (up (up S sp (.lst [.int (i+1),.int b])) nm (.lst (names.map D.str))) sp (.lst [.int (i+1+1),.int b])) pm (.lst (pp.map D.str))) ct (.lst (cD counts))) pr (.lst []) pr=some (.lst []):=zag
  have g_px:Px sp S (up (up (up (up (up (up S sp (.lst [.int (i+1),.int b])) nm (.lst (names.map D.str))) sp (.lst [.int (i+1+1),.int b])) pm (.lst (pp.map D.str))) ct (.lst (cD counts))) pr (.lst [])) :=
    ((((Px.refl sp S).at.new hnm).at.new hpm).new hct).new hpr
  have q_nm:sp≠nm:=n1
  have q_pm:sp≠pm:=ne3 zag hpm
  have q_ct:sp≠ct:=ne3 (zau zag hpm) hct
  have q_pr:sp≠pr:=ne3 (zau (zau zag hpm) hct) hpr
  have r_nm:nm≠pr:=ne3 (zau (zau (by rw [zcn (Ne.symm n1)];exact zag) hpm) hct) hpr
  have r_pm:pm≠pr:=ne3 (zau zag hct) hpr
  have r_ct:ct≠pr:=ne3 zag hpr
  have f_pr:S pr=none:=((((Px.refl sp S).at.new hnm).at.new hpm).new hct).free hpr (Ne.symm q_pr)
  generalize up (up (up (up (up (up S sp (.lst [.int (i+1),.int b])) nm (.lst (names.map D.str))) sp (.lst [.int (i+1+1),.int b])) pm (.lst (pp.map D.str))) ct (.lst (cD counts))) pr (.lst [])=S6 at *
  nofun
  refine ⟨fun j σ S'=>Ex5 fun (ers:List Er) (i1 b1:Int) (x10 x11:Option D)=>σ=[some (.rol (ns.map D.int)),some (.ref sp),some (.int most),some (.int deep),some (.int head),some (.int many),some (.ref nm),some (.ref pm),some (.ref ct),some (.ref pr),x10,x11] ∧
    S' sp=some (.lst [.int i1,.int b1])∧S' nm=some (.lst (names.map D.str))∧S' pm=some (.lst (pp.map D.str))∧S' ct=some (.lst (cD counts))∧S' pr=some (.lst (ers.map Er.d))∧Px sp S S' ∧
    ers.length=j∧0≤i1∧0≤b1∧ers.map Er.name=names.take j∧(ers.map fun e=>e.ps.length)=counts.take j∧(∀e∈ers,ErOk (arOf names counts) deep.toNat e)∧(((ers.map fun e=>e.body.sends).sum:Nat):Int)+b1≤b,
    ⟨[],i+1+1,b,none,none,rfl,g_sp,g_nm,g_pm,g_ct,g_pr,g_px,rfl,by omega,hb,rfl,rfl,by simp,by simp⟩,fun _ _ _ _=>trivial,?turn,?done⟩
  case turn =>
    clear g_sp g_nm g_pm g_ct g_pr g_px
    rintro j d σ S' hd ⟨ers,i1,b1,x10,x11,rfl,g_sp,g_nm,g_pm,g_ct,g_pr,g_px,hl,hi1,hb1,en,ec,hk,hs⟩
    obtain ⟨hj,rfl⟩:=zc9 hd
    have c0:=Int.emod_nonneg (0+(j:Int)) (show (4:Int)≠0 by decide)
    have ap:∀{α:Type} {f:α→D} {xs:List α} {v:α},xs[j]?=some v→atI (xs.map f) (0+(j:Int))=some (f v):=fun {α f xs v} hv=>by
      have e:(0:Int)+(j:Int)=((j:Nat):Int):=by omega
      rw [e]
      refine ze6 ?_
      rw [List.getElem?_map,hv]
      rfl
    obtain ⟨cn,hcn⟩:∃cn,counts[j]?=some cn:=⟨_,List.getElem?_eq_getElem (by omega)⟩
    obtain ⟨nj,hnj⟩:∃nj,names[j]?=some nj:=⟨_,List.getElem?_eq_getElem (by omega)⟩
    have hcn4:=hc4 cn (List.mem_of_getElem? hcn)
    nofun
    rw [zcu c0]
    intro p1 hp1
    have g1:=zau (o:=.lst ((pp.map D.str).drop ((0+(j:Int))%4).toNat)) g_pm hp1
    nofun
    rw [zd8 c0]
    intro p2 hp2
    have hpl:=Rp.len
    refine j_catL (zau zag hp2) zag ?_ ?_
    · rw [List.length_drop,List.length_take,List.length_map]
      exact zal (by omega)
    intro p3 hp3
    nofun
    refine j_ixL (zau (zau (zau g_ct hp1) hp2) hp3) (ap hcn) ?_
    nofun
    rw [zd8 (by omega),Int.toNat_natCast]
    intro p4 hp4
    nofun
    obtain ⟨mine,hmine⟩:∃mine,mine=(pp.drop ((0+(j:Int))%4).toNat++pp.take ((0+(j:Int))%4).toNat).take cn:=⟨_,rfl⟩
    have em:((pp.map D.str).drop ((0+(j:Int))%4).toNat++(pp.map D.str).take ((0+(j:Int))%4).toNat).take cn=mine.map D.str:=by
      rw [hmine,←List.map_drop,←List.map_take,←List.map_append,←List.map_take]
    rw [em]
    have hmo:mine.length=cn∧mine.Nodup∧∀x∈mine,NameOk x:=by
      rw [hmine]
      exact ps_ok Rp.turn (by show cn≤4;omega)
    have hsub:=((((Sub.refl S').up (o:=.lst ((pp.map D.str).drop ((0+(j:Int))%4).toNat)) hp1).up (o:=.lst ((pp.map D.str).take ((0+(j:Int))%4).toNat)) hp2).up
      (o:=.lst ((pp.map D.str).drop ((0+(j:Int))%4).toNat++(pp.map D.str).take ((0+(j:Int))%4).toNat)) hp3).up (o:=.lst (mine.map D.str)) hp4
    generalize up (up (up (up S' p1 _) p2 _) p3 _) p4 _=S5 at hsub ⊢
    replace g_sp:=hsub _ _ g_sp
    replace g_nm:=hsub _ _ g_nm
    replace g_pm:=hsub _ _ g_pm
    replace g_ct:=hsub _ _ g_ct
    replace g_pr:=hsub _ _ g_pr
    replace g_px:=g_px.ext hsub
    nofun
    refine j_ixL g_nm (ap hnj) ?_
    nofun
    refine ⟨ns,sp,nm,ct,i1,b1,deep,names,mine,counts,rfl,g_sp,g_nm,g_ct,q_nm,q_ct,hi1,hb1,d1,dn,by omega,by omega,by omega,Rn.nd,by omega,hc4,fun s i2 b2 hw hdp hi2 hb2 hs2=>?_⟩
    nofun
    have h_pr:up S5 sp (.lst [.int i2,.int b2]) pr=some (.lst (ers.map Er.d)):=by rw [zcn (Ne.symm q_pr)];exact g_pr
    refine j_append h_pr (by rw [List.length_map];exact zg2 (by omega)) ?_
    have ee:ers.map Er.d++[D.tup [D.str nj,D.tup (mine.map D.str),s.d]]=(ers++[(⟨nj,mine,s⟩:Er)]).map Er.d:=by simp [Er.d]
    rw [ee]
    refine ⟨ers++[(⟨nj,mine,s⟩:Er)],i2,b2,_,_,rfl,?_,?_,?_,?_,zag,(g_px.at).fresh f_pr,by simp [hl],by omega,hb2,?_,?_,?_,?_⟩
    · rw [zcn q_pr];exact zag
    · rw [zcn r_nm,zcn (Ne.symm q_nm)];exact g_nm
    · rw [zcn r_pm,zcn (Ne.symm q_pm)];exact g_pm
    · rw [zcn r_ct,zcn (Ne.symm q_ct)];exact g_ct
    · rw [List.take_succ,hnj,List.map_append,en];rfl
    · rw [List.take_succ,hcn,List.map_append,ec]
      show counts.take j++[mine.length]=_
      rw [hmo.1]
      rfl
    · intro e he
      rcases List.mem_append.mp he with he|he
      · exact hk e he
      · rw [List.mem_singleton.mp he]
        exact ⟨by show 1≤mine.length;omega,by show mine.length≤4;omega,hmo.2.1,hmo.2.2,hw,by show s.deep≤_;omega⟩
    · rw [List.map_append,List.sum_append]
      simp only [List.map_cons,List.map_nil,List.sum_cons,List.sum_nil]
      omega
  rintro σ S' ⟨ers,i1,b1,x10,x11,rfl,g_sp,g_nm,g_pm,g_ct,g_pr,g_px,hl,hi1,hb1,en,ec,hk,hs⟩
  rw [zbr] at hl en ec
  rw [List.take_of_length_le (by omega)] at en ec
  nofun
  refine ⟨pr,_,sp,_,rfl,f_pr,by rw [hsp];simp,g_px.sub g_sp,g_pr,hq ers i1 b1 (zqk Rn en ec (by omega) (by omega) hk (by omega))⟩
structure Mkd (s:Sy) (kw mk:Str) (a:Sy) (as:List Sy) (c1 c2:Nat) (cl:List Nat):Prop where
  d:s.d=.tup (.str kw::(a::as).map Sy.d)
  n1:¬kw="name"
  n2:¬kw="bud"
  n3:¬kw="send"
  val:valD (dicD [("left","< "),("right","> "),("pair","[]"),("fork","{}")]) (.inr kw)=some (.str mk)
  mk_:mk=textOf [c1,c2]
  cl_:Txt.strip (textOf [c2])=textOf cl
  cl1:cl.length≤1
  t:tx s=c1::((tx a++txt as)++cl)
  len:as.length≤2
  deep:∀x∈a::as,x.deep<s.deep
theorem zj6:Txt.strip (textOf [32])=textOf []:=by decide +kernel
theorem znp:Txt.strip (textOf [93])=textOf [93]:=by decide +kernel
theorem zlq:Txt.strip (textOf [125])=textOf [125]:=by decide +kernel
theorem zoi (a:Sy):Mkd (.left a) "left" "< " a [] 60 32 []:=by
  refine ⟨rfl,by decide +kernel,by decide +kernel,by decide +kernel,by kernel_rfl,by decide +kernel,zj6,by decide,by simp [tx,txt],by simp,fun x hx=>?_⟩
  rw [List.mem_singleton.mp hx,Sy.deep];omega
theorem zmn (a:Sy):Mkd (.right a) "right" "> " a [] 62 32 []:=by
  refine ⟨rfl,by decide +kernel,by decide +kernel,by decide +kernel,by kernel_rfl,by decide +kernel,zj6,by decide,by simp [tx,txt],by simp,fun x hx=>?_⟩
  rw [List.mem_singleton.mp hx,Sy.deep];omega
theorem zoh (a b:Sy):Mkd (.pair a b) "pair" "[]" a [b] 91 93 [93]:=by
  refine ⟨rfl,by decide +kernel,by decide +kernel,by decide +kernel,by kernel_rfl,by decide +kernel,znp,by decide,by simp [tx,txt],by simp,fun x hx=>?_⟩
  simp only [List.mem_cons,List.not_mem_nil,or_false] at hx
  rcases hx with rfl|rfl<;>rw [Sy.deep]<;>omega
theorem zoj (a b c:Sy):Mkd (.fork a b c) "fork" "{}" a [b,c] 123 125 [125]:=by
  refine ⟨rfl,by decide +kernel,by decide +kernel,by decide +kernel,by kernel_rfl,by decide +kernel,zlq,by decide,by simp [tx,txt],by simp,fun x hx=>?_⟩
  simp only [List.mem_cons,List.not_mem_nil,or_false] at hx
  rcases hx with rfl|rfl|rfl<;>rw [Sy.deep]<;>omega
theorem zho:∀(as:List Sy) (a:Sy),glue 32 (tx a) (as.map tx)=tx a++txt as
  | [],a=>by simp [glue,txt]
  | b::as,a=>by rw [List.map_cons,glue,zho as b,txt]
theorem zct:∀{as:List Sy} {a:Sy},a∈as→a.deep≤Sy.deeps as
  | b::as,a,h=>by
    rw [Sy.deeps]
    rcases List.mem_cons.mp h with rfl|h
    · omega
    · have:=zct h;omega
theorem zlm:∀{as:List Sy} {a:Sy},a∈as→(tx a).length≤(txt as).length
  | b::as,a,h=>by
    rw [txt,List.length_cons,List.length_append]
    rcases List.mem_cons.mp h with rfl|h
    · omega
    · have:=zlm h;omega
theorem znl {a:Sy} {as:List Sy} {x:Sy} (h:x∈a::as):(tx x).length≤(tx a++txt as).length:=by
  rw [List.length_append]
  rcases List.mem_cons.mp h with rfl|h
  · omega
  · have:=zlm h;omega
inductive P_text (n:Nat) (ds:List D) (q:D→Prop):Prop where
  | mk (s:Sy) (_:ds=[s.d]) (_:okS s) (_:s.deep≤n) (_:(tx s).length≤100000) (_:q (.str (textOf (tx s))))
def zlr (n:Nat):Sp3:=vS (P_text n)
theorem zmh (h:Has K mg "_law_text" zfa ["saying"]) (G:Gs K mg):∀n:Nat,Cal3 P w K mg base n "_law_text" ["saying"] (zlr n)
  | 0=>h.none3 (by rintro ds S Q E ⟨s,_,_,z,_⟩;cases s<;>simp [Sy.deep] at z) 0
  | n+1=>by
    have C_text:=zmh h G n
    refine h.val zjf (by rintro ds q ⟨t,e,_⟩;rw [e];rfl) fun f cdv A outer s0 H E ds q hr hA=>?_
    have hu:=hu_of hr
    obtain ⟨s,rfl,ok,hd,hl,hq⟩:=hA
    refine ⟨_,(zac (s_if (zap za3 zdo (e_ix za0 za1 (e_v 0) zad (fun _ _=>rfl)) zaj (nomark _)) (zam (zaq (e_ix za0 za1 (e_v 0) zad (fun _ _=>rfl)))) zax)
 (zac (s_if (zap za3 zdo (e_ix za0 za1 (e_v 0) zad (fun _ _=>rfl)) zaj (nomark _)) (zam (zaq zaj)) zax)
 (zac (s_if (zap za3 zdo (e_ix za0 za1 (e_v 0) zad (fun _ _=>rfl)) zaj (nomark _)) (zam (zaq (e_op zab zae (e_op zab zae (e_op zab zae (e_ix za0 za1 (e_v 0) zad (fun _ _=>rfl)) zaj) (e_bm PySem.F.plainAttrs_str PySem.F.slot_str_join PySem.F.type_str_join zda zht zaj (zaa (zf7 (osc:=defScope zfa) (N:=["saying","inner","marks"]) (M:=[]) (js:=[]) ⟨rfl,by decide +kernel,by decide +kernel,rfl,by decide +kernel,by decide +kernel,by decide +kernel⟩ (by decide +kernel) rfl (zmy (e_ix za0 za1 (e_v 0) zad (fun _ _=>rfl))) (fun _ _ _ _ _=>(zay C_text hr rfl (zaa (e_v 0) zaf)))) zaf))) zaj))) zax)
 (zac (zas (i:=1) zjf.nd rfl (Or.inl rfl) (e_bm PySem.F.plainAttrs_str PySem.F.slot_str_join PySem.F.type_str_join zda zht zaj (zaa (zf7 (osc:=defScope zfa) (N:=["saying","inner","marks"]) (M:=[]) (js:=[]) ⟨rfl,by decide +kernel,by decide +kernel,rfl,by decide +kernel,by decide +kernel,by decide +kernel⟩ (by decide +kernel) rfl (zmy (za8 zdk zfe (e_v 0) (zbi zad) zbz)) (fun _ _ _ _ _=>(zay C_text hr rfl (zaa (e_v 0) zaf)))) zaf)))
 (zac (zas (i:=2) zjf.nd rfl (Or.inl rfl) (e_dget hu (zqp (zhu (zhu (zhu (zhu dc_nil)))) (by decide +kernel) (by decide) rfl rfl (fun z=>nomatch z) (by decide)) (e_ix za0 za1 (e_v 0) zad (fun _ _=>rfl)) (fun _ _=>rfl)))
 (zam (zaq (e_op zab zae (e_op zab zae (e_ix zkk zko (e_v 2) zad (fun _ _=>rfl)) (e_v 1)) (e_bm0 PySem.F.plainAttrs_str PySem.F.slot_str_strip PySem.F.type_str_strip ziq zot (e_ix zkk zko (e_v 2) zad (fun _ _=>rfl))))))))))),?_⟩
    have h32:(textOf [32]).length=1:=by rw [zak];rfl
    have row:∀(a:Sy) (as:List Sy),Txt.join (textOf [32]) (((a::as).map tx).map textOf)=textOf (tx a++txt as):=fun a as=>by
      rw [List.map_cons,←zho]
      exact zep _ _
    have big:∀(a:Sy) (as:List Sy),(((a::as).map tx).flatten).length≤(tx a++txt as).length:=fun a as=>by
      rw [←zho,List.map_cons]
      exact zeq _ _
    have texts:∀as:List Sy,((List.range (as.map Sy.d).length).map fun i=>D.str (textOf (tx (as.getD i .bud))))=((as.map tx).map textOf).map D.str:=fun as=>by
      rw [List.length_map,zkd as .bud fun x=>D.str (textOf (tx x)),List.map_map,List.map_map]
      rfl
    have cs:(∃x,s=.name x)∨s=.bud∨(∃x as,s=.send x as)∨∃(kw mk:Str) (a:Sy) (as:List Sy) (c1 c2:Nat) (cl:List Nat),Mkd s kw mk a as c1 c2 cl∧∀x∈a::as,okS x:=by
      cases s with
      | name x=>exact .inl ⟨x,rfl⟩
      | bud=>exact .inr (.inl rfl)
      | send x as=>exact .inr (.inr (.inl ⟨x,as,rfl⟩))
      | left a=>exact .inr (.inr (.inr ⟨_,_,_,_,_,_,_,zoi a,fun x hx=>by rw [List.mem_singleton.mp hx];exact ok⟩))
      | right a=>exact .inr (.inr (.inr ⟨_,_,_,_,_,_,_,zmn a,fun x hx=>by rw [List.mem_singleton.mp hx];exact ok⟩))
      | pair a b =>
        refine .inr (.inr (.inr ⟨_,_,_,_,_,_,_,zoh a b,fun x hx=>?_⟩))
        simp only [List.mem_cons,List.not_mem_nil,or_false] at hx
        rcases hx with rfl|rfl
        · exact ok.1
        · exact ok.2
      | fork a b c =>
        refine .inr (.inr (.inr ⟨_,_,_,_,_,_,_,zoj a b c,fun x hx=>?_⟩))
        simp only [List.mem_cons,List.not_mem_nil,or_false] at hx
        rcases hx with rfl|rfl|rfl
        · exact ok.1
        · exact ok.2.1
        · exact ok.2.2
    rcases cs with ⟨x,rfl⟩|rfl|⟨x,as,rfl⟩|⟨kw,mk,a,as,c1,c2,cl,hm,hk⟩
    · simp only [Sy.d]
      rw [tx,←(zcf ok).1] at hq
      nofun
      exact hq
    · simp only [Sy.d]
      rw [tx,t_45] at hq
      nofun
      exact hq
    · obtain ⟨okx,l1,l4,oks⟩:=ok
      obtain ⟨ex,hw⟩:=zcf okx
      have hxl:x.length≤8:=by rw [ex,zak];exact hw.l8
      cases as with
      | nil=>simp at l1
      | cons a as =>
      rw [tx] at hl hq
      simp only [List.length_append,List.length_cons,List.length_nil] at hl
      have hb:=big a as
      have hda:∀y∈a::as,y.deep≤n:=fun y hy=>by have:=zct hy;rw [Sy.deep] at hd;omega
      obtain ⟨cx,ecx⟩:∃cx,cx=x.cps.toList:=⟨_,rfl⟩
      rw [←ecx] at ex hw hl hq
      subst ex
      have hcx:=hw.l8
      simp only [Sy.d,Sy.ds_map]
      nofun
      rw [←t_40]
      refine j_addS (Nat.le_trans (show _+_≤100 by rw [zak,zak];simp only [List.length_cons,List.length_nil];omega) (by decide)) ?_
      rw [zdq]
      nofun
      refine zcc (fun i=>.str (textOf (tx ((a::as).getD i .bud)))) (by rw [List.length_map];omega) trivial ?_ ?_
      · intro i d hd2 P hP
        rw [List.getElem?_map] at hd2
        obtain ⟨y,hy,rfl⟩:=Option.map_eq_some_iff.mp hd2
        have hym:=List.mem_of_getElem? hy
        have ey:(a::as).getD i .bud=y:=by rw [List.getD_eq_getElem?_getD,hy];rfl
        rw [ey] at hP
        have hyl:=znl hym
        rw [List.length_append] at hyl
        nofun
        exact ⟨y,rfl,zel oks y hym,hda y hym,by omega,hP⟩
      rw [texts]
      intro pl hpl
      rw [List.length_append] at hb
      refine ⟨textOf [32],_,_,congrArg D.str t_32.symm,rfl,.inl ⟨pl,rfl,zag⟩,?_,?_⟩
      · rw [zdf,h32]
        simp only [List.length_map,List.length_cons] at l4 ⊢
        omega
      rw [row]
      refine j_addS (Nat.le_trans (show _+_≤200000 by rw [zak,zak];simp only [List.length_append,List.length_cons,List.length_nil];omega) (by decide)) ?_
      rw [zdq,←t_41]
      refine j_addS (Nat.le_trans (show _+_≤200000 by rw [zak,zak];simp only [List.length_append,List.length_cons,List.length_nil];omega) (by decide)) ?_
      rw [zdq]
      have el:cx++[40]++(tx a++txt as)++[41]=cx++40::(tx a++txt as++[41]):=by simp only [List.append_assoc,List.cons_append,List.nil_append]
      rw [el]
      exact hq
    · have hdd:=hm.d
      have n1:=hm.n1
      have n2:=hm.n2
      have n3:=hm.n3
      have hb:=big a as
      have hcl:=hm.cl1
      have hlen:=hm.len
      rw [hm.t] at hl hq
      simp only [List.length_append,List.length_cons,List.length_nil] at hl
      rw [hdd]
      nofun
      rw [zcu (by decide),show (D.str kw::(a::as).map Sy.d).drop (Int.toNat 1)=(a::as).map Sy.d from rfl]
      refine zcc (fun i=>.str (textOf (tx ((a::as).getD i .bud)))) (by rw [List.length_map,List.length_cons];omega) trivial ?_ ?_
      · intro i d hd2 P hP
        rw [List.getElem?_map] at hd2
        obtain ⟨y,hy,rfl⟩:=Option.map_eq_some_iff.mp hd2
        have hym:=List.mem_of_getElem? hy
        have ey:(a::as).getD i .bud=y:=by rw [List.getD_eq_getElem?_getD,hy];rfl
        rw [ey] at hP
        have hyl:=znl hym
        have hyd:=hm.deep y hym
        rw [List.length_append] at hyl
        nofun
        exact ⟨y,rfl,hk y hym,by omega,by omega,hP⟩
      rw [texts]
      intro pl hpl
      rw [List.length_append] at hb
      refine ⟨textOf [32],_,_,congrArg D.str t_32.symm,rfl,.inl ⟨pl,rfl,zag⟩,?_,?_⟩
      · rw [zdf,h32]
        simp only [List.length_map,List.length_cons]
        omega
      rw [row]
      have hmk:=hm.mk_
      subst hmk
      have hst:=hm.cl_
      nofun
      intro pd hpd
      nofun
      refine j_dgetS zag hm.val ?_
      nofun
      have e0:atI (textOf [c1,c2]).cps.toList 0=some c1:=by rw [zah];exact atI_0
      have e1:atI (textOf [c1,c2]).cps.toList 1=some c2:=by rw [zah];exact atI_1
      have ez:(textOf [c1,c2]).length≤sizeLine:=by rw [zak];exact zal (by simp)
      refine j_ixS ez e0 ?_
      rw [show (⟨#[c1]⟩:Str)=textOf [c1] from rfl]
      nofun
      refine j_addS (Nat.le_trans (show _+_≤200000 by rw [zak,zak];simp only [List.length_append,List.length_cons,List.length_nil];omega) (by decide)) ?_
      rw [zdq]
      nofun
      refine j_ixS ez e1 ?_
      rw [show (⟨#[c2]⟩:Str)=textOf [c2] from rfl]
      nofun
      refine j_strip (by rw [zak];exact zal (by simp)) ?_
      rw [hst]
      refine j_addS (Nat.le_trans (show _+_≤200000 by rw [zak,zak];simp only [List.length_append,List.length_cons,List.length_nil];omega) (by decide)) ?_
      rw [zdq]
      have el:[c1]++(tx a++txt as)++cl=c1::(tx a++txt as++cl):=by simp only [List.append_assoc,List.cons_append,List.nil_append]
      rw [el]
      exact hq
inductive zjz (n:Nat) (ds:List D) (q:D→Prop):Prop where
  | mk (s:Sy) (_:ds=[s.d]) (_:s.deep≤n) (_:okS s) (_:q (.bl true))
def ze7 (n:Nat):Sp3:=vS (zjz n)
theorem zjv (n:Nat):((List.range n).map fun _=>D.bl true)=((List.range n).map fun _=>true).map D.bl:=by rw [List.map_map];rfl
theorem zhw (n:Nat):(((List.range n).map fun _=>true).all id)=true:=by
  rw [List.all_eq_true]
  intro x hx
  obtain ⟨_,_,rfl⟩:=List.mem_map.mp hx
  rfl
theorem zlx {s:Sy} (ok:okS s):(∃x,s=.name x)∨(∃x as,s=.send x as)∨∃(kw:Str) (as:List Sy),s.d=.tup (.str kw::as.map Sy.d)∧¬kw="name"∧¬kw="send"∧as.length≤3∧∀a∈as,okS a∧a.deep<s.deep:=by
  have two:∀(kw:Str) (as:List Sy),kw="bud"∨kw="left"∨kw="right"∨kw="pair"∨kw="fork"→¬kw="name"∧¬kw="send":=fun kw as h=>by
    rcases h with rfl|rfl|rfl|rfl|rfl<;>exact ⟨by decide +kernel,by decide +kernel⟩
  cases s with
  | name x=>exact .inl ⟨x,rfl⟩
  | send x as=>exact .inr (.inl ⟨x,as,rfl⟩)
  | bud =>
    obtain ⟨h1,h2⟩:=two "bud" [] (by simp)
    exact .inr (.inr ⟨_,[],rfl,h1,h2,by simp,fun a ha=>nomatch ha⟩)
  | left a =>
    obtain ⟨h1,h2⟩:=two "left" [] (by simp)
    refine .inr (.inr ⟨_,[a],rfl,h1,h2,by simp,fun x hx=>?_⟩)
    rw [List.mem_singleton.mp hx,Sy.deep]
    exact ⟨ok,by omega⟩
  | right a =>
    obtain ⟨h1,h2⟩:=two "right" [] (by simp)
    refine .inr (.inr ⟨_,[a],rfl,h1,h2,by simp,fun x hx=>?_⟩)
    rw [List.mem_singleton.mp hx,Sy.deep]
    exact ⟨ok,by omega⟩
  | pair a b =>
    obtain ⟨h1,h2⟩:=two "pair" [] (by simp)
    refine .inr (.inr ⟨_,[a,b],rfl,h1,h2,by simp,fun x hx=>?_⟩)
    simp only [List.mem_cons,List.not_mem_nil,or_false] at hx
    rcases hx with rfl|rfl<;>rw [Sy.deep]
    · exact ⟨ok.1,by omega⟩
    · exact ⟨ok.2,by omega⟩
  | fork a b c =>
    obtain ⟨h1,h2⟩:=two "fork" [] (by simp)
    refine .inr (.inr ⟨_,[a,b,c],rfl,h1,h2,by simp,fun x hx=>?_⟩)
    simp only [List.mem_cons,List.not_mem_nil,or_false] at hx
    rcases hx with rfl|rfl|rfl<;>rw [Sy.deep]
    · exact ⟨ok.1,by omega⟩
    · exact ⟨ok.2.1,by omega⟩
    · exact ⟨ok.2.2,by omega⟩
theorem zfd (h:Has K mg "_law_is_saying" zbl ["found"]) (G:Gs K mg):∀n:Nat,Cal3 P w K mg base n "_law_is_saying" ["found"] (ze7 n)
  | 0=>h.none3 (by rintro ds S Q E ⟨s,_,z,_⟩;cases s<;>simp [Sy.deep] at z) 0
  | n+1=>by
    have C_is_saying:=zfd h G n
    refine h.val zh5 (by rintro ds q ⟨t,e,_⟩;rw [e];rfl) fun f cdv A outer s0 H E ds q hr hA=>?_
    obtain ⟨s,rfl,hd,ok,hq⟩:=hA
    refine ⟨_,(zac (s_if (PW3.pt (w_or (zgx (zge (zav zcl zes rfl G.isinstance boot_isinstance (zaa (e_v 0) (zaa (zd0 (n:="tuple") rfl G.tuple boot_tuple) zaf))))) (w_or (zap za3 zaw (zav za4 zd1 rfl G.len PySem.boot_len (zaa (e_v 0) zaf)) zad (nomark _)) (zgv (zgx (zge (zav zcl zes rfl G.isinstance boot_isinstance (zaa (e_ix za0 za1 (e_v 0) zad (fun _ _=>rfl)) (zaa (zd0 (n:="str") rfl G.str boot_str) zaf))))))))) (zam (zaq e_bl)) zax)
 (zac (s_if (zap za3 zdo (e_ix za0 za1 (e_v 0) zad (fun _ _=>rfl)) zaj (nomark _)) (zam (zaq (zm7 (e_cmp za3 zaw (zav za4 zd1 rfl G.len PySem.boot_len (zaa (e_v 0) zaf)) zad (nomark _)) (zm6 (zav zcl zes rfl G.isinstance boot_isinstance (zaa (e_ix za0 za1 (e_v 0) zad (fun _ _=>rfl)) (zaa (zd0 (n:="str") rfl G.str boot_str) zaf))))))) zax)
 (zac (s_if (zap za3 zdo (e_ix za0 za1 (e_v 0) zad (fun _ _=>rfl)) zaj (nomark _)) (zac (s_if (PW3.pt (w_or (zap zoc zpf (zav za4 zd1 rfl G.len PySem.boot_len (zaa (e_v 0) zaf)) zad (nomark _)) (w_or (zgx (zge (zav zcl zes rfl G.isinstance boot_isinstance (zaa (e_ix za0 za1 (e_v 0) zad (fun _ _=>rfl)) (zaa (zd0 (n:="str") rfl G.str boot_str) zaf))))) (zgv (zgx (zge (zav zcl zes rfl G.isinstance boot_isinstance (zaa (e_ix za0 za1 (e_v 0) zad (fun _ _=>rfl)) (zaa (zd0 (n:="tuple") rfl G.tuple boot_tuple) zaf))))))))) (zam (zaq e_bl)) zax)
 (zam (zaq (zav (zet rfl) (zkp (f:=fun bs=>bs.all id)) rfl G.all boot_all (zaa (zf7 (osc:=defScope zbl) (N:=["found"]) (M:=[]) (js:=[]) ⟨rfl,by decide +kernel,by decide +kernel,rfl,by decide +kernel,by decide +kernel,by decide +kernel⟩ (by decide +kernel) rfl (zmy (e_ix za0 za1 (e_v 0) zad (fun _ _=>rfl))) (fun _ _ _ _ _=>(zay C_is_saying hr rfl (zaa (e_v 0) zaf)))) zaf))))) zax)
 (zam (zaq (zav (zet rfl) (zkp (f:=fun bs=>bs.all id)) rfl G.all boot_all (zaa (zf7 (osc:=defScope zbl) (N:=["found"]) (M:=[]) (js:=[]) ⟨rfl,by decide +kernel,by decide +kernel,rfl,by decide +kernel,by decide +kernel,by decide +kernel⟩ (by decide +kernel) rfl (zmy (za8 zdk zfe (e_v 0) (zbi zad) zbz)) (fun _ _ _ _ _=>(zay C_is_saying hr rfl (zaa (e_v 0) zaf)))) zaf))))))),?_⟩
    rcases zlx ok with ⟨x,rfl⟩|⟨x,as,rfl⟩|⟨kw,as,e,n1,n2,hl,hk⟩
    · simp only [Sy.d]
      nofun
      exact hq
    · obtain ⟨okx,l1,l4,oks⟩:=ok
      simp only [Sy.d,Sy.ds_map]
      nofun
      refine zcc (fun _=>.bl true) (by rw [List.length_map];omega) trivial ?_ ?_
      · intro i d hd2 P hP
        rw [List.getElem?_map] at hd2
        obtain ⟨a,ha,rfl⟩:=Option.map_eq_some_iff.mp hd2
        have ha:=List.mem_of_getElem? ha
        nofun
        refine ⟨a,rfl,?_,zel oks a ha,hP⟩
        have:=zct ha
        rw [Sy.deep] at hd
        omega
      intro pl hpl
      nofun
      rw [zjv]
      refine j_all zag ?_
      rw [zhw]
      nofun
      exact hq
    · rw [e]
      nofun
      rw [zcu (by decide),show (D.str kw::as.map Sy.d).drop (Int.toNat 1)=as.map Sy.d from rfl]
      nofun
      refine zcc (fun _=>.bl true) (by rw [List.length_map];omega) trivial ?_ ?_
      · intro i d hd2 P hP
        rw [List.getElem?_map] at hd2
        obtain ⟨a,ha,rfl⟩:=Option.map_eq_some_iff.mp hd2
        have ha:=hk a (List.mem_of_getElem? ha)
        nofun
        exact ⟨a,rfl,by omega,ha.1,hP⟩
      intro pl hpl
      nofun
      rw [zjv]
      refine j_all zag ?_
      rw [zhw]
      nofun
      exact hq
inductive zj1  (ds:List D) (q:D→Prop):Prop where
  | mk (e:Er) (_:ds=[e.d]) (_:okS e.body) (_:e.body.deep≤12) (_:e.ps.length≤100) (_:q (.bl true))
def ze8 :Sp3:=vS zj1
theorem zio {k:Nat} (hk:12≤k) (h:Has K mg "_law_is_errand" zbu ["found"]) (G:Gs K mg) (C0:Cal3 P w K mg base 12 "_law_is_saying" ["found"] (ze7 12)):Cal3 P w K mg base (k+1) "_law_is_errand" ["found"] ze8:=by
  have C_is_saying:=C0.mono hk
  refine h.val zh7 (by rintro ds q ⟨t,e,_⟩;rw [e];rfl) fun f cdv A outer s0 H E ds q hr hA=>?_
  obtain ⟨e,rfl,hok,hdeep,l4,hq⟩:=hA
  refine ⟨_,(zac (s_if (PW3.pt (w_or (zgx (zge (zav zcl zes rfl G.isinstance boot_isinstance (zaa (e_v 0) (zaa (zd0 (n:="tuple") rfl G.tuple boot_tuple) zaf))))) (w_or (zap zoc zpf (zav za4 zd1 rfl G.len PySem.boot_len (zaa (e_v 0) zaf)) zad (nomark _)) (zgv (zgx (zge (zav zcl zes rfl G.isinstance boot_isinstance (zaa (e_ix za0 za1 (e_v 0) zad (fun _ _=>rfl)) (zaa (zd0 (n:="tuple") rfl G.tuple boot_tuple) zaf))))))))) (zam (zaq e_bl)) zax)
 (zac (s_if (PW3.pt (w_or (zgx (zge (zav zcl zes rfl G.isinstance boot_isinstance (zaa (e_ix za0 za1 (e_v 0) zad (fun _ _=>rfl)) (zaa (zd0 (n:="str") rfl G.str boot_str) zaf))))) (zgv (zgx (zge (zav (zet rfl) (zkp (f:=fun bs=>bs.all id)) rfl G.all boot_all (zaa (zf7 (osc:=defScope zbu) (N:=["found"]) (M:=[]) (js:=[]) ⟨rfl,by decide +kernel,by decide +kernel,rfl,by decide +kernel,by decide +kernel,by decide +kernel⟩ (by decide +kernel) rfl (zmy (e_ix za0 za1 (e_v 0) zad (fun _ _=>rfl))) (fun _ _ _ _ _=>(zav zcl zes rfl G.isinstance boot_isinstance (zaa (e_v 0) (zaa (zd0 (n:="str") rfl G.str boot_str) zaf))))) zaf))))))) (zam (zaq e_bl)) zax)
 (zam (zaq (zay C_is_saying hr rfl (zaa (e_ix za0 za1 (e_v 0) zad (fun _ _=>rfl)) zaf)))))),?_⟩
  unfold Er.d
  nofun
  refine zcc (fun _=>.bl true) (by rw [List.length_map];omega) trivial ?_ ?_
  · intro i d hd2 P hP
    rw [List.getElem?_map] at hd2
    obtain ⟨a,ha,rfl⟩:=Option.map_eq_some_iff.mp hd2
    nofun
    exact hP
  intro pl hpl
  nofun
  rw [zjv]
  refine j_all zag ?_
  rw [zhw]
  nofun
  exact ⟨e.body,rfl,hdeep,hok,hq⟩
inductive znm  (ds:List D) (q:D→Prop):Prop where
  | mk (cs:List Nat) (_:ds=[.str (textOf cs)]) (_:cs.length≤5000) (_:(∀c∈cs,c<256)) (_:pLine cs=none) (_:q (.bl true))
def zew :Sp3:=vS znm
theorem zk8 {k:Nat} (h:Has K mg "_law_refused" zc5 ["text"]) (G:Gs K mg) (R:Rfs K mg ES adr) (C_read_line:Cal3 P w K mg base k "read_line" ["text"] (zdi adr)):Cal3 P w K mg base (k+1) "_law_refused" ["text"] zew:=by
  refine h.val zc4 (by rintro ds q ⟨cs,e,_⟩;rw [e];rfl) fun f cdv A outer s0 H E ds q hr hA=>?_
  obtain ⟨cs,rfl,hl,h256,hno,hq⟩:=hA
  refine ⟨_,(zac (zas (i:=1) zc4.nd rfl (Or.inl rfl) e_bl)
 (zac (s_try rfl rfl (fun _ _ _=>(zam (zfb (zay C_read_line hr rfl (zaa (e_v 0) zaf))))) (h_as (i:=2) (R.bound .err (by decide)) (R.base (i:=.err) (by decide)) rfl zc4.nd rfl rfl (fun _=>(zac (zas (i:=1) zc4.nd rfl (Or.inl rfl) (zm7 (zav zhv (zm8 R) rfl G.isinstance boot_isinstance (zaa (e_v 2) (zaa (zd7 (R.bound .text (by decide)) rfl) zaf))) (zm6 (zav zhv (zm8 R) rfl G.isinstance boot_isinstance (zaa (e_v 2) (zaa (zd0 (n:="ValueError") rfl G.ValueError PyProof.Rows.Boot.«ValueError») zaf))))))
 (zam (zas (i:=1) zc4.nd rfl (Or.inl rfl) (zm7 (e_v 1) (zm6 (e_not (zav zhv (zm8 R) rfl G.isinstance boot_isinstance (zaa (e_v 2) (zaa (zbc (zaa (zd7 (R.bound .apart (by decide)) rfl) (zaa (zd7 (R.bound .such (by decide)) rfl) (zaa (zd7 (R.bound .way (by decide)) rfl) (zaa (zd7 (R.bound .many (by decide)) rfl) (zaa (zd7 (R.bound .twice (by decide)) rfl) (zaa (zd7 (R.bound .count (by decide)) rfl) zaf))))))) zaf)))))))))) h_nil))
 (zam (zaq (e_v 1))))),?_⟩
  nofun
  refine ⟨cs,rfl,hl,h256,fun e he=>(by rw [hno] at he;cases he),fun he a=>?_⟩
  refine j_hit (R.two .text (by decide) .err (by decide)) fun ha=>?_
  nofun
  refine j_isE (i:=.text) (j:=.text) zag (by decide) (by decide) ?_
  nofun
  refine j_isEV (i:=.text) zag (by decide) ?_
  nofun
  refine j_isET [.apart,.such,.way,.many,.twice,.count] (i:=.text) zag (by decide) (by decide) ?_
  nofun
  exact hq
structure Dp (n:Nat) (s:Sy):Prop where
  ok:okS s
  deep:s.deep=n+1
  len:(tx s).length≤8+20*n
  pre:s.pre.length≤1+4*n
inductive P_deep  (ds:List D) (q:D→Prop):Prop where
  | mk (cell:Int) (n:Nat) (ps:List Str) (x:Str) (_:ds=[.int cell,.int n,.tup (ps.map D.str),.str x]) (_:0≤cell) (_:n≤20) (_:1≤ps.length) (_:ps.length≤4) (_:(∀p∈ps,NameOk p)) (_:NameOk x) (_:∀s:Sy,Dp n s→q s.d)
def zlt :Sp3:=vS P_deep
theorem zen {x:Str} (h:NameOk x):x.cps.toList.length≤8:=(zcf h).2.l8
theorem zqr {x:Str} (h:NameOk x):Dp 0 (.name x):=⟨h,by simp [Sy.deep],by rw [tx];have:=zen h;omega,by simp [Sy.pre]⟩
theorem dp_bud:Dp 0 .bud:=⟨trivial,by simp [Sy.deep],by rw [tx];simp,by simp [Sy.pre]⟩
theorem Dp.left {n:Nat} {s:Sy} (h:Dp n s):Dp (n+1) (.left s):=⟨h.ok,by have:=h.deep;rw [Sy.deep];omega,by have:=h.len;rw [tx,List.length_cons];omega,by have:=h.pre;rw [Sy.pre,List.length_cons];omega⟩
theorem Dp.right {n:Nat} {s:Sy} (h:Dp n s):Dp (n+1) (.right s):=⟨h.ok,by have:=h.deep;rw [Sy.deep];omega,by have:=h.len;rw [tx,List.length_cons];omega,by have:=h.pre;rw [Sy.pre,List.length_cons];omega⟩
theorem Dp.pair1 {n:Nat} {s:Sy} (h:Dp n s):Dp (n+1) (.pair s .bud):=by
  have:=h.deep
  have:=h.len
  have:=h.pre
  refine ⟨⟨h.ok,trivial⟩,?_,?_,?_⟩
  · simp only [Sy.deep];omega
  · simp only [tx,List.length_cons,List.length_append,List.length_nil];omega
  · simp only [Sy.pre,List.length_cons,List.length_append,List.length_nil];omega
theorem Dp.pair2 {n:Nat} {s:Sy} {x:Str} (hx:NameOk x) (h:Dp n s):Dp (n+1) (.pair (.name x) s):=by
  have:=h.deep
  have:=h.len
  have:=h.pre
  have:=zen hx
  refine ⟨⟨hx,h.ok⟩,?_,?_,?_⟩
  · simp only [Sy.deep];omega
  · simp only [tx,List.length_cons,List.length_append,List.length_nil];omega
  · simp only [Sy.pre,List.length_cons,List.length_append,List.length_nil];omega
theorem Dp.fork1 {n:Nat} {s:Sy} (h:Dp n s):Dp (n+1) (.fork s .bud .bud):=by
  have:=h.deep
  have:=h.len
  have:=h.pre
  refine ⟨⟨h.ok,trivial,trivial⟩,?_,?_,?_⟩
  · simp only [Sy.deep];omega
  · simp only [tx,List.length_cons,List.length_append,List.length_nil];omega
  · simp only [Sy.pre,List.length_cons,List.length_append,List.length_nil];omega
theorem Dp.fork3 {n:Nat} {s:Sy} {x:Str} (hx:NameOk x) (h:Dp n s):Dp (n+1) (.fork .bud (.name x) s):=by
  have:=h.deep
  have:=h.len
  have:=h.pre
  have:=zen hx
  refine ⟨⟨trivial,hx,h.ok⟩,?_,?_,?_⟩
  · simp only [Sy.deep];omega
  · simp only [tx,List.length_cons,List.length_append,List.length_nil];omega
  · simp only [Sy.pre,List.length_cons,List.length_append,List.length_nil];omega
theorem Dp.send2 {n:Nat} {s:Sy} {x:Str} (hx:NameOk x) (h:Dp n s):Dp (n+1) (.send x [s,.bud]):=by
  have:=h.deep
  have:=h.len
  have:=h.pre
  have:=zen hx
  refine ⟨⟨hx,by simp,by simp,h.ok,trivial,trivial⟩,?_,?_,?_⟩
  · simp only [Sy.deep,Sy.deeps];omega
  · simp only [tx,txt,List.length_cons,List.length_append,List.length_nil];omega
  · simp only [Sy.pre,Sy.pres,List.length_cons,List.length_append,List.length_nil];omega
theorem Dp.send3 {n:Nat} {s:Sy} {x:Str} (hx:NameOk x) (h:Dp n s):Dp (n+1) (.send x [.bud,s,.bud]):=by
  have:=h.deep
  have:=h.len
  have:=h.pre
  have:=zen hx
  refine ⟨⟨hx,by simp,by simp,trivial,h.ok,trivial,trivial⟩,?_,?_,?_⟩
  · simp only [Sy.deep,Sy.deeps];omega
  · simp only [tx,txt,List.length_cons,List.length_append,List.length_nil];omega
  · simp only [Sy.pre,Sy.pres,List.length_cons,List.length_append,List.length_nil];omega
theorem za6 {tc:TT3} {t u:TS3} {D3:Ends3} {σ:St3} {S:Hp3} (h:ifs3 tc t u D3 σ S):ifm3 tc t u D3 σ S:=h
theorem at_m1 {α:Type}:∀{xs:List α},1≤xs.length→∃x∈xs,∀f:α→D,atI (xs.map f) (-1)=some (f x):=fun {xs} h=>by
  obtain ⟨ys,x,rfl⟩:∃ys x,xs=ys++[x]:=⟨xs.dropLast,xs.getLast (by intro z;rw [z] at h;simp at h),(List.dropLast_concat_getLast _).symm⟩
  refine ⟨x,by simp,fun f=>?_⟩
  rw [List.map_append]
  exact zo0 _ _
theorem zqd {k:Nat} (h:Has K mg "_law_deep" zgm ["cell","steps","params","name"]) (G:Gs K mg):Cal3 P w K mg base (k+1) "_law_deep" ["cell","steps","params","name"] zlt:=by
  refine h.val zb5 (by rintro ds q ⟨_,_,_,_,e,_⟩;rw [e];rfl) fun f cdv A outer s0 H E ds q hr hA=>?_
  obtain ⟨cell,n,ps,x,rfl,hc0,hn,l1,l4,hps,hx,hq⟩:=hA
  refine ⟨_,(zac (zas (i:=4) zb5.nd rfl (Or.inl rfl) (zbc (zaa zaj (zaa (e_ix za0 za1 (e_v 2) (e_neg zad) (fun _ _=>rfl)) zaf))))
 (zac (zd2 (zap za3 zaw (e_op zbj zao (e_v 0) zad) zad (nomark _)) (zam (zas (i:=4) zb5.nd rfl (Or.inl rfl) (zbc (zaa zaj zaf)))) zax)
 (zac (zas (i:=5) zb5.nd rfl (Or.inl rfl) (e_op zb3 zao (e_v 0) zad))
 (zac (znr PassesOwn.never rfl (zcz rfl G.range (zaa (e_v 1) zaf)) (zkl (i:=6) zb5.nd rfl (Or.inl rfl)) (zac (zas (i:=7) zb5.nd rfl (Or.inl rfl) (e_op zbj zao (e_v 5) zad))
 (zac (zas (i:=5) zb5.nd rfl (Or.inl rfl) (e_op zb3 zao (e_v 5) zad))
 (zam (zd2 (zap zhb zbe (e_v 7) zad (nomark _)) (zam (zas (i:=4) zb5.nd rfl (Or.inl rfl) (zbc (zaa (e_ix zb4 zc0 (ziw (zaa zaj (zaa zaj zaf))) (e_v 7) (fun _ _=>rfl)) (zaa (e_v 4) zaf))))) (zam (zd2 (zap za3 zaw (e_v 7) zad (nomark _)) (zam (zas (i:=4) zb5.nd rfl (Or.inl rfl) (zbc (zaa zaj (zaa (e_v 4) (zaa (zbc (zaa zaj zaf)) zaf)))))) (zam (zd2 (zap za3 zaw (e_v 7) zad (nomark _)) (zam (zas (i:=4) zb5.nd rfl (Or.inl rfl) (zbc (zaa zaj (zaa (zbc (zaa zaj (zaa (e_ix za0 za1 (e_v 2) zad (fun _ _=>rfl)) zaf))) (zaa (e_v 4) zaf)))))) (zam (zd2 (zap za3 zaw (e_v 7) zad (nomark _)) (zam (zas (i:=4) zb5.nd rfl (Or.inl rfl) (zbc (zaa zaj (zaa (e_v 4) (zaa (zbc (zaa zaj zaf)) (zaa (zbc (zaa zaj zaf)) zaf))))))) (zam (zd2 (zap za3 zaw (e_v 7) zad (nomark _)) (zam (zas (i:=4) zb5.nd rfl (Or.inl rfl) (zbc (zaa zaj (zaa (zbc (zaa zaj zaf)) (zaa (zbc (zaa zaj (zaa (e_ix za0 za1 (e_v 2) zad (fun _ _=>rfl)) zaf))) (zaa (e_v 4) zaf))))))) (zam (zas (i:=4) zb5.nd rfl (Or.inl rfl) (zbc (zaa zaj (zaa (e_v 3) (zaa (za8 zdk zfe (zbc (zaa (zbc (zaa zaj zaf)) (zaa (e_v 4) (zaa (zbc (zaa zaj zaf)) zaf)))) (zbi (e_op zfx zbt zad (e_op zbj zao (e_v 5) zad))) zbz) zaf)))))))))))))))))))
 (zam (zaq (e_v 4))))))),?_⟩
  obtain ⟨pl,hpl,elast⟩:=at_m1 l1
  have kl:=hps pl hpl
  have elast:=elast D.str
  obtain ⟨p0,r0,rfl⟩:∃p r,ps=p::r:=List.exists_cons_of_length_pos (by omega)
  have k0:=hps p0 List.mem_cons_self
  nofun
  refine j_ixT elast ?_
  nofun
  refine j_ifm (fun σ S=>∃s:Sy,σ=[some (.int cell),some (.int n),some (.tup ((p0::r0).map D.str)),some (.str x),some s.d,none,none,none]∧Dp 0 s) (fun n' hn'=>?_) ?_
  · nofun
    refine iteD2 (fun c=>?_) fun c=>?_
    · nofun
      exact hn' _ _ ⟨.bud,rfl,dp_bud⟩
    · nofun
      exact hn' _ _ ⟨.name pl,rfl,zqr kl⟩
  rintro σ S1 ⟨s1,rfl,hs1⟩
  nofun
  refine ⟨fun i σ S=>Ex4 fun (s:Sy) (left:Int) (x6 x7:Option D)=>σ=[some (.int cell),some (.int n),some (.tup ((p0::r0).map D.str)),some (.str x),some s.d,some (.int left),x6,x7]∧Dp i s∧0≤left,⟨s1,_,none,none,rfl,hs1,by omega⟩,fun _ _ _ _=>trivial,?_,?_⟩
  · rintro i d σ S hd ⟨s,left,x6,x7,rfl,hs,hl0⟩
    obtain ⟨hi,rfl⟩:=zc9 hd
    have e0:=Int.emod_nonneg left (show (7:Int)≠0 by decide)
    have e7:=Int.emod_lt_of_pos left (show (0:Int)<7 by decide)
    have hl7:0≤left/7:=Int.ediv_nonneg hl0 (by decide)
    have b0:=Int.emod_nonneg (left/7) (show (2:Int)≠0 by decide)
    have b1:=Int.emod_lt_of_pos (left/7) (show (0:Int)<2 by decide)
    nofun
    rcases (by omega:left%7=0∨left%7=1∨left%7=2∨left%7=3∨left%7=4∨left%7=5∨left%7=6) with c|c|c|c|c|c|c
    · refine za6 ?_
      nofun
      intro p hp
      nofun
      refine j_ixL zag (d:=.str "left") (by rw [c];rfl) ?_
      nofun
      exact ⟨.left s,_,_,_,rfl,hs.left,hl7⟩
    · refine za6 ?_
      nofun
      intro p hp
      nofun
      refine j_ixL zag (d:=.str "right") (by rw [c];rfl) ?_
      nofun
      exact ⟨.right s,_,_,_,rfl,hs.right,hl7⟩
    · repeat (refine za6 ?_;nofun)
      exact ⟨.pair s .bud,_,_,_,rfl,hs.pair1,hl7⟩
    · repeat (refine za6 ?_;nofun)
      exact ⟨.pair (.name p0) s,_,_,_,rfl,hs.pair2 k0,hl7⟩
    · repeat (refine za6 ?_;nofun)
      exact ⟨.fork s .bud .bud,_,_,_,rfl,hs.fork1,hl7⟩
    · repeat (refine za6 ?_;nofun)
      exact ⟨.fork .bud (.name p0) s,_,_,_,rfl,hs.fork3 k0,hl7⟩
    · repeat (refine za6 ?_;nofun)
      rw [zcu (by omega)]
      rcases (by omega:left/7%2=0∨left/7%2=1) with cb|cb
      · rw [cb]
        exact ⟨.send x [s,.bud],_,_,_,rfl,hs.send2 hx,hl7⟩
      · rw [cb]
        exact ⟨.send x [.bud,s,.bud],_,_,_,rfl,hs.send3 hx,hl7⟩
  rintro σ S ⟨s,left,x6,x7,rfl,hs,hl0⟩
  rw [zbr,Int.toNat_natCast] at hs
  nofun
  exact hq s hs
theorem zan {a b:List Nat} (h:∀c∈a,c<256) (h':∀c∈b,c<256):∀c∈a++b,c<256:=fun c hc=>(List.mem_append.mp hc).elim (h c) (h' c)
theorem zai {x:Nat} {b:List Nat} (h:x<256) (h':∀c∈b,c<256):∀c∈x::b,c<256:=fun c hc=>(List.mem_cons.mp hc).elim (fun e=>e▸h) (h' c)
theorem zcr:∀c∈([]:List Nat),c<256:=fun c hc=>nomatch hc
theorem zki {x:Str} (h:NameOk x):∀c∈x.cps.toList,c<256:=fun c hc=>by
  have:=of_decide_eq_true ((zcf h).2.ok c hc)
  omega
mutual
theorem zcv:∀s:Sy,okS s→∀c∈tx s,c<256
  | .name x,h=>by rw [tx];exact zki h
  | .bud,_=>by rw [tx];exact zai (by decide) zcr
  | .left a,h=>by rw [tx];exact zai (by decide) (zcv a h)
  | .right a,h=>by rw [tx];exact zai (by decide) (zcv a h)
  | .pair a b,h=>by rw [tx];exact zai (by decide) (zan (zan (zcv a h.1) (zai (by decide) (zan (zcv b h.2) zcr))) (zai (by decide) zcr))
  | .fork a b c,h=>by rw [tx];exact zai (by decide) (zan (zan (zcv a h.1) (zai (by decide) (zan (zcv b h.2.1) (zai (by decide) (zan (zcv c h.2.2) zcr))))) (zai (by decide) zcr))
  | .send x [],h=>by rw [tx];exact zan (zki h.1) (zai (by decide) (zai (by decide) zcr))
  | .send x (a::as),h=>by rw [tx];exact zan (zki h.1) (zai (by decide) (zan (zan (zcv a h.2.2.2.1) (zln as h.2.2.2.2)) (zai (by decide) zcr)))
theorem zln:∀as:List Sy,okSs as→∀c∈txt as,c<256
  | [],_=>by rw [txt];exact zcr
  | a::as,h=>by rw [txt];exact zai (by decide) (zan (zcv a h.1) (zln as h.2))
end
theorem t_58:textOf [58,32]=": ":=by decide +kernel
theorem zqi {hd bd:List Nat} (h:∀d∈hd,d≠58):hv0 (hd++58::32::bd)=textOf hd∧hv1 (hd++58::32::bd)=": "∧hv2 (hd++58::32::bd)=textOf bd:=by
  have e:=zme (bd:=bd) h
  rw [t_58] at e
  unfold hv0 hv1 hv2
  rw [e]
  exact ⟨rfl,rfl,rfl⟩
noncomputable def hdW (ws:List (List Nat)):Bool:=ws.all wdB&&(decide (2≤ws.length)&&decide (ws.length≤5))
noncomputable def pB (w:List Nat) (ws:List (List Nat)) (bd:List Nat):Option Er:=(pS 12 bd).bind fun x=>if x.2=[] then some ⟨textOf w,ws.map textOf,x.1⟩ else none
theorem zfn {c:Nat}:∀{ws:List (List Nat)} {w:List Nat} {d:Nat},d∈glue c w ws→d=c∨∃v∈w::ws,d∈v
  | [],w,d,h=>.inr ⟨w,List.mem_cons_self,h⟩
  | v::ws,w,d,h=>by
    rw [glue] at h
    rcases List.mem_append.mp h with h|h
    · exact .inr ⟨w,List.mem_cons_self,h⟩
    · rcases List.mem_cons.mp h with h|h
      · exact .inl h
      · rcases zfn h with h|⟨u,hu,hd⟩
        · exact .inl h
        · exact .inr ⟨u,List.mem_cons_of_mem _ hu,hd⟩
def Hs (v:List Nat):Prop:=∀d∈v,d≠32∧d≠58∧d<256
theorem zha {w:List Nat} {ws:List (List Nat)} {bd:List Nat} (h:∀v∈w::ws,Hs v):pLine (glue 32 w ws++58::32::bd)=if hdW (w::ws)=true then pB w ws bd else none:=by
  have hg:∀d∈glue 32 w ws,d≠58∧d<256:=fun d hd=>by
    rcases zfn hd with rfl|⟨v,hv,hd⟩
    · exact ⟨by decide,by decide⟩
    · exact (h v hv d hd).2
  obtain ⟨e0,e1,e2⟩:=zqi (bd:=bd) fun d hd=>(hg d hd).1
  have ew:wsOf (glue 32 w ws++58::32::bd)=(w::ws).map textOf:=by
    unfold wsOf
    rw [e0,←t_32]
    exact zk1 w ws (fun v hv d hd=>(h v hv d hd).1) fun d hd=>(hg d hd).2
  have eh:hdOk (glue 32 w ws++58::32::bd)=hdW (w::ws):=by
    unfold hdOk hdW
    have e:((fun x:Str=>wdB x.cps.toList) ∘ textOf)=wdB:=by
      funext v
      show wdB (textOf v).cps.toList=wdB v
      rw [zah]
    rw [ew,List.length_map,List.all_map,e]
  unfold pLine pB
  rw [e1,e2,eh,ew,zah,if_neg (show ¬(": ":Str)="" by decide +kernel)]
  rfl
theorem zb0 {w:List Nat} {ws:List (List Nat)} {bd:List Nat} (h:∀v∈w::ws,Hs v) (hb:hdW (w::ws)=false):pLine (glue 32 w ws++58::32::bd)=none:=by rw [zha h,hb];rfl
def NoB (bd:List Nat):Prop:=∀s,pS 12 bd≠some (s,[])
theorem zcm {w:List Nat} {ws:List (List Nat)} {bd:List Nat} (h:∀v∈w::ws,Hs v) (hb:NoB bd):pLine (glue 32 w ws++58::32::bd)=none:=by
  have e:pB w ws bd=none:=by
    unfold pB
    cases q:pS 12 bd with
    | none=>rfl
    | some x =>
      rw [Option.bind_some,if_neg fun z=>hb x.1 (by rw [q,←z])]
  rw [zha h,e]
  split<;>rfl
theorem zca {bd:List Nat} (h:pS 12 bd=none):NoB bd:=fun s z=>by rw [h] at z;cases z
theorem zhk {bd r:List Nat} {s:Sy} {c:Nat} (h:pS 12 bd=some (s,c::r)):NoB bd:=fun s' z=>by rw [h] at z;cases z
theorem zk5 {cs:List Nat} (h:∀i,(cs.drop i).take 2≠[58,32]):pLine cs=none:=by
  have hs:∀i,Builtin.Str.subAt (EE.textOf cs) (EE.textOf [58,32]) i=((cs.drop i).take 2==[58,32]):=fun i=>by
    rw [PySem.StrLaws.subAt_eq,E3.zah,E3.zah,zak]
    rfl
  have ho:Builtin.Str.occurrences (EE.textOf cs) (EE.textOf [58,32]) 0 (EE.textOf cs).length 1=[]:=by
    rw [PySem.StrLaws.occ_eq,←List.append_nil (List.range' _ _),zhh _ _ _ _ _ _ _ (fun i _ z=>?_)]
    · rfl
    · rw [hs] at z
      exact h i (by simpa using z.2)
  have e:hv1 cs="":=by
    unfold hv1 partS
    rw [←t_58,ho]
    show Str.empty=""
    decide +kernel
  unfold pLine
  rw [if_pos e]
theorem zej {p:List Nat→Option (Sy×List Nat)} {cl lo hi:Nat} {post:List Nat} (hcl:ltr cl=false) (h40:cl≠40) (h32:cl≠32) {a:Sy} {as:List Sy} (hp:∀x∈a::as,∀q:List Nat,Stop5 q→p (tx x++q)=some (x,q)) (hn:¬(lo≤as.length+1∧as.length+1≤hi)) :
    pRow p cl lo hi (tx a++txt as++cl::post)=none:=by
  have:=zgw as
  unfold pRow
  rw [zfw hcl h40 h32 as a _ hp (by simp only [List.length_append];omega),Option.bind_some]
  rw [if_neg fun z=>hn z.2]
theorem zn9 {d c:Nat} {r:List Nat} (h:ltr c=false) (h1:c≠45∧c≠60∧c≠62∧c≠91∧c≠123):pS (d+1) (c::r)=none:=by
  rw [pS,List.head?_cons,if_neg (by simpa using h1.1),if_neg (by simpa using h1.2.1),if_neg (by simpa using h1.2.2.1),if_neg (by simpa using h1.2.2.2.1),if_neg (by simpa using h1.2.2.2.2)]
  have e:(c::r).takeWhile ltr=[]:=by rw [List.takeWhile_cons,if_neg (by rw [h];simp)]
  unfold pNm
  rw [e,if_neg (by simp [pWd])]
theorem zib {d:Nat} {as:List Sy} (h:∀a∈as,okS a∧a.deep≤d):∀x∈as,∀q:List Nat,Stop5 q→pS d (tx x++q)=some (x,q):=fun x hx q hq=>zd4 d x q (h x hx).1 (h x hx).2 hq
theorem zg0 (r:List Nat):Stop5 (32::r):=fun c r' e=>by cases e;exact ⟨by decide,by decide⟩
theorem zj7:Stop5 []:=fun c r' e=>by cases e
section
variable {b:Sy} (ok:okS b) (hd:b.deep≤11)
include ok hd
theorem f11:NoB (tx b++[32]):=zhk (zd4 12 b [32] ok (by omega) (zg0 _))
theorem f12 (r:List Nat):NoB (tx b++32::r):=zhk (zd4 12 b (32::r) ok (by omega) (zg0 _))
omit ok hd in
theorem f13:NoB []:=zca (by rw [pS];simp [pNm,pWd])
omit ok hd in
theorem zoa (r:List Nat):pS 12 (91::r)=(pRow (pS 11) 93 2 2 r).map fun x=>(mkPair x.1,x.2):=by rw [pS];rfl
omit ok hd in
theorem zpa (r:List Nat):pS 12 (123::r)=(pRow (pS 11) 125 3 3 r).map fun x=>(mkFork x.1,x.2):=by rw [pS];rfl
omit ok hd in
theorem pS_nm {x:Str} (hx:NameOk x) (r:List Nat):pS 12 (x.cps.toList++40::r)=(pRow (pS 11) 41 1 4 r).map fun y=>(.send x y.1,y.2):=by
  obtain ⟨ex,h1,h8,hw⟩:=zjh hx
  obtain ⟨e1,e2⟩:=zfs (post:=40::r) hw fun c r e=>by cases e;decide
  rw [zie h1 hw rfl]
  unfold pNm
  rw [e1,e2,if_pos ⟨h1,h8⟩,ex]
  exact if_pos rfl
theorem f14:NoB (91::(tx b++[93])):=zca (by
  have:=zej (p:=pS 11) (cl:=93) (lo:=2) (hi:=2) (post:=[]) (by decide) (by decide) (by decide) (a:=b) (as:=[]) (zib fun a ha=>by rw [List.mem_singleton.mp ha];exact ⟨ok,hd⟩) (by simp)
  rw [txt,List.append_nil] at this
  rw [zoa,this]
  rfl)
theorem f15:NoB (91::(tx b++32::(tx b++[32,45,93]))):=zca (by
  have:=zej (p:=pS 11) (cl:=93) (lo:=2) (hi:=2) (post:=[]) (by decide) (by decide) (by decide) (a:=b) (as:=[b,.bud]) (zib fun a ha=>by
    simp only [List.mem_cons,List.not_mem_nil,or_false] at ha
    rcases ha with rfl|rfl|rfl
    · exact ⟨ok,hd⟩
    · exact ⟨ok,hd⟩
    · exact ⟨trivial,by simp [Sy.deep]⟩) (by simp)
  have e:tx b++txt [b,.bud]++93::[]=tx b++32::(tx b++[32,45,93]):=by simp [txt,tx]
  rw [e] at this
  rw [zoa,this]
  rfl)
theorem f16:NoB (123::(tx b++[32,45,125])):=zca (by
  have:=zej (p:=pS 11) (cl:=125) (lo:=3) (hi:=3) (post:=[]) (by decide) (by decide) (by decide) (a:=b) (as:=[.bud]) (zib fun a ha=>by
    simp only [List.mem_cons,List.not_mem_nil,or_false] at ha
    rcases ha with rfl|rfl
    · exact ⟨ok,hd⟩
    · exact ⟨trivial,by simp [Sy.deep]⟩) (by simp)
  have e:tx b++txt [.bud]++125::[]=tx b++[32,45,125]:=by simp [txt,tx]
  rw [e] at this
  rw [zpa,this]
  rfl)
theorem f17:NoB (123::45::32::45::32::45::32::(tx b++[125])):=zca (by
  have:=zej (p:=pS 11) (cl:=125) (lo:=3) (hi:=3) (post:=[]) (by decide) (by decide) (by decide) (a:=.bud) (as:=[.bud,.bud,b]) (zib fun a ha=>by
    simp only [List.mem_cons,List.not_mem_nil,or_false] at ha
    rcases ha with rfl|rfl|rfl|rfl
    · exact ⟨trivial,by simp [Sy.deep]⟩
    · exact ⟨trivial,by simp [Sy.deep]⟩
    · exact ⟨trivial,by simp [Sy.deep]⟩
    · exact ⟨ok,hd⟩) (by simp)
  have e:tx .bud++txt [.bud,.bud,b]++125::[]=45::32::45::32::45::32::(tx b++[125]):=by simp [txt,tx]
  rw [e] at this
  rw [zpa,this]
  rfl)
omit ok hd in
theorem f18 {x:Str} (hx:NameOk x):NoB (x.cps.toList++[40,41]):=zca (by
  rw [pS_nm hx]
  unfold pRow
  rw [pMany,zn9 (by decide) (by decide)]
  rfl)
theorem f19 {x:Str} (hx:NameOk x):NoB (x.cps.toList++40::45::32::45::32::45::32::45::32::(tx b++[41])):=zca (by
  have:=zej (p:=pS 11) (cl:=41) (lo:=1) (hi:=4) (post:=[]) (by decide) (by decide) (by decide) (a:=.bud) (as:=[.bud,.bud,.bud,b]) (zib fun a ha=>by
    simp only [List.mem_cons,List.not_mem_nil,or_false] at ha
    rcases ha with rfl|rfl|rfl|rfl|rfl
    · exact ⟨trivial,by simp [Sy.deep]⟩
    · exact ⟨trivial,by simp [Sy.deep]⟩
    · exact ⟨trivial,by simp [Sy.deep]⟩
    · exact ⟨trivial,by simp [Sy.deep]⟩
    · exact ⟨ok,hd⟩) (by simp)
  have e:tx .bud++txt [.bud,.bud,.bud,b]++41::[]=45::32::45::32::45::32::45::32::(tx b++[41]):=by simp [txt,tx]
  rw [e] at this
  rw [pS_nm hx,this]
  rfl)
omit ok hd in
theorem f21 {x:Str} (hx:NameOk x) (r:List Nat):NoB (x.cps.toList++32::r):=by
  have:=zd4 12 (.name x) (32::r) hx (by simp [Sy.deep]) (zg0 _)
  rw [tx] at this
  exact zhk this
theorem zh1 {r:List Nat} (h:pS 11 r=none∨∃s c r',pS 11 r=some (s,c::r')∧c≠32∧c≠93):NoB (91::(tx b++32::r)):=zca (by
  rw [zoa]
  unfold pRow
  have e:pMany (pS 11) ((tx b++32::r).length+1) (tx b++32::r)=pGo (pS 11) [b] (32::r):=zek (zfc 11) (zd4 11 b (32::r) ok hd (zg0 _))
  rw [e]
  rcases h with h|⟨s,c,r',h,h1,h2⟩
  · rw [zkf rfl h]
    rfl
  · rw [zke (zfc 11) (r:=32::r) rfl h]
    unfold pGo
    rw [if_neg (by simpa using h1),Option.bind_some,if_neg fun z=>h2 (by simpa using z.1)]
    rfl)
theorem f22:NoB (91::(tx b++[32,32,45,93])):=zh1 ok hd (.inl (zn9 (by decide) (by decide)))
end
def Mor (p p':List Nat→Option (Sy×List Nat)):Prop:=∀r x,p r=some x→p' r=some x
theorem zih {p p':List Nat→Option (Sy×List Nat)} (h:Mor p p'):∀n r y,pMany p n r=some y→pMany p' n r=some y
  | 0,_,_,e=>by cases e
  | n+1,r,y,e=>by
    rw [pMany] at e ⊢
    obtain ⟨x,e1,e2⟩:=Option.bind_eq_some_iff.mp e
    rw [h _ _ e1,Option.bind_some]
    by_cases c:x.2.head?=some 32
    · rw [if_pos c] at e2 ⊢
      obtain ⟨z,e3,e4⟩:=Option.map_eq_some_iff.mp e2
      rw [zih h n _ _ e3,←e4]
      rfl
    · rw [if_neg c] at e2 ⊢
      exact e2
theorem zob {p p':List Nat→Option (Sy×List Nat)} (h:Mor p p') {cl lo hi:Nat} {r:List Nat} {y:List Sy×List Nat} (e:pRow p cl lo hi r=some y):pRow p' cl lo hi r=some y:=by
  obtain ⟨x,e1,e2⟩:=Option.bind_eq_some_iff.mp e
  unfold pRow
  rw [zih h _ _ _ e1]
  exact e2
theorem zo9:∀d,Mor (pS d) (pS (d+1))
  | 0=>fun r x e=>by cases e
  | d+1=>fun r x e=>by
    have ih:=zo9 d
    rw [pS] at e ⊢
    have row:∀{cl lo hi:Nat} {r:List Nat} {f:List Sy×List Nat→Sy×List Nat} {x:Sy×List Nat},(pRow (pS d) cl lo hi r).map f=some x→(pRow (pS (d+1)) cl lo hi r).map f=some x:=fun e=>by
      obtain ⟨y,e1,e2⟩:=Option.map_eq_some_iff.mp e
      rw [zob ih e1,←e2]
      rfl
    have one:∀{r:List Nat} {f:Sy×List Nat→Sy×List Nat} {x:Sy×List Nat},(pS d r).map f=some x→(pS (d+1) r).map f=some x:=fun e=>by
      obtain ⟨y,e1,e2⟩:=Option.map_eq_some_iff.mp e
      rw [ih _ _ e1,←e2]
      rfl
    by_cases c1:r.head?=some 45
    · rw [if_pos c1] at e ⊢;exact e
    rw [if_neg c1] at e ⊢
    by_cases c2:r.head?=some 60
    · rw [if_pos c2] at e ⊢;exact one e
    rw [if_neg c2] at e ⊢
    by_cases c3:r.head?=some 62
    · rw [if_pos c3] at e ⊢;exact one e
    rw [if_neg c3] at e ⊢
    by_cases c4:r.head?=some 91
    · rw [if_pos c4] at e ⊢;exact row e
    rw [if_neg c4] at e ⊢
    by_cases c5:r.head?=some 123
    · rw [if_pos c5] at e ⊢;exact row e
    rw [if_neg c5] at e ⊢
    unfold pNm at e ⊢
    by_cases c:pWd (r.takeWhile ltr)
    · rw [if_pos c] at e ⊢
      by_cases c6:(r.dropWhile ltr).head?=some 40
      · rw [if_pos c6] at e ⊢;exact row e
      · rw [if_neg c6] at e ⊢;exact e
    · rw [if_neg c] at e;cases e
theorem f20 {s:Sy} (ok:okS s) (hd:s.deep=13):NoB (tx s):=fun s' e=>by
  have h1:=zo9 12 _ _ e
  have h2:=zd4 13 s [] ok (by omega) zj7
  rw [List.append_nil] at h2
  rw [h2] at h1
  cases h1
  have:=(zo8 12 _ _ _ e).2
  omega
structure BadW (v:List Nat):Prop where
  hs:Hs v
  no:wdB v=false
  rd:∀c r,ltr c=false→pS 11 (v++c::r)=none∨∃s c' r',pS 11 (v++c::r)=some (s,c'::r')∧c'≠32∧c'≠93
theorem zkv {v:List Nat} (h:∀c∈v,ltr c=true) (h9:9≤v.length):BadW v:=by
  refine ⟨fun d hd=>?_,?_,fun c r hc=>.inl ?_⟩
  · have:=zjl (h d hd)
    omega
  · unfold wdB
    rw [decide_eq_false (show ¬v.length≤8 by omega)]
    simp
  · obtain ⟨e1,e2⟩:=zfs (w:=v) (post:=c::r) h fun c' r' e=>by cases e;exact hc
    rw [zie (by omega) h rfl]
    unfold pNm
    rw [e1,if_neg fun z=>by have:=z.2;omega]
theorem zjq {c:Nat} {v:List Nat} (h1:ltr c=false) (h2:c≠32∧c≠93∧c≠40∧c≠58∧c<256) (hv:Hs v):BadW (97::c::v):=by
  refine ⟨fun d hd=>?_,?_,fun x r hx=>.inr ⟨.name (textOf [97]),c,v++x::r,?_,h2.1,h2.2.1⟩⟩
  · rcases List.mem_cons.mp hd with rfl|hd
    · decide
    · rcases List.mem_cons.mp hd with rfl|hd
      · exact ⟨h2.1,h2.2.2.2.1,h2.2.2.2.2⟩
      · exact hv d hd
  · unfold wdB
    simp [h1]
  · have:=zie (d:=10) (p:=pS 10) (w:=[97]) (post:=c::(v++x::r)) (by simp) (by decide) rfl
    show pS 11 ([97]++c::(v++x::r))=_
    rw [this]
    obtain ⟨e1,e2⟩:=zfs (w:=[97]) (post:=c::(v++x::r)) (by decide) fun c' r' e=>by cases e;exact h1
    unfold pNm
    rw [e1,e2,if_pos (by decide),if_neg (by simpa using h2.2.2.1)]
theorem zni {c:Nat} {v:List Nat} (h1:ltr c=false) (h2:c≠45∧c≠60∧c≠62∧c≠91∧c≠123) (h3:c≠32∧c≠58∧c<256) (hv:Hs v):BadW (c::v):=by
  refine ⟨fun d hd=>?_,?_,fun x r hx=>.inl (zn9 h1 h2)⟩
  · rcases List.mem_cons.mp hd with rfl|hd
    · exact h3
    · exact hv d hd
  · unfold wdB
    simp [h1]
theorem j_ad {S:Hp3} {Q:K3} {a b:List Nat} (h:a.length+b.length≤100000) (q:Q (.str (textOf (a++b))) S):addS3 (.str (textOf a)) (.str (textOf b)) S Q:=j_addS (by rw [zak,zak];exact zal (by omega)) (by rw [zdq];exact q)
inductive zja  (ds:List D) (q:D→Prop):Prop where
  | mk (way:Int) (b:Sy) (x:Str) (_:ds=[.int way,.str (textOf (tx b)),.str x]) (_:11≤way) (_:way≤22) (_:way≠20) (_:okS b) (_:b.deep≤11) (_:(tx b).length≤1200) (_:NameOk x) (_:∀bd,NoB bd→bd.length≤3000→(∀c∈bd,c<256)→q (.str (textOf bd)))
def zeg :Sp3:=vS zja
theorem s_11:(" ":Str)=textOf [32]:=by decide +kernel
theorem s_15:(" -]":Str)=textOf [32,45,93]:=by decide +kernel
theorem s_16:(" -}":Str)=textOf [32,45,125]:=by decide +kernel
theorem s_17:("{- - - ":Str)=textOf [123,45,32,45,32,45,32]:=by decide +kernel
theorem s_18:("()":Str)=textOf [40,41]:=by decide +kernel
theorem s_19:("(- - - - ":Str)=textOf [40,45,32,45,32,45,32,45,32]:=by decide +kernel
theorem s_21:(" (":Str)=textOf [32,40]:=by decide +kernel
theorem s_22:("  -]":Str)=textOf [32,32,45,93]:=by decide +kernel
theorem zhf {k:Nat} (h:Has K mg "_law_body_fault" zby ["way","body","name"]) (G:Gs K mg):Cal3 P w K mg base (k+1) "_law_body_fault" ["way","body","name"] zeg:=by
  refine h.val zg4 (by rintro ds q ⟨_,_,_,e,_⟩;rw [e];rfl) fun f cdv A outer s0 H E ds q hr hA=>?_
  obtain ⟨way,b,x,rfl,w0,w1,w2,ok,hd,hl,hx,hq⟩:=hA
  have lt:=zcv b ok
  obtain ⟨ex,hw⟩:=zcf hx
  have hl8:=hw.l8
  have lx:=zki hx
  have F18:=f18 hx
  have F19:=f19 ok hd hx
  have F21:=f21 hx (40::(tx b++[41]))
  generalize x.cps.toList=cx at ex hw hl8 lx F18 F19 F21
  subst ex
  refine ⟨_,(zac (s_if (zap za3 zaw (e_v 0) zad (nomark _)) (zam (zaq (e_op zab zae (e_v 1) zaj))) zax)
 (zac (s_if (zap za3 zaw (e_v 0) zad (nomark _)) (zam (zaq (e_op zab zae (e_op zab zae (e_v 1) zaj) (e_v 1)))) zax)
 (zac (s_if (zap za3 zaw (e_v 0) zad (nomark _)) (zam (zaq zaj)) zax)
 (zac (s_if (zap za3 zaw (e_v 0) zad (nomark _)) (zam (zaq (e_op zab zae (e_op zab zae zaj (e_v 1)) zaj))) zax)
 (zac (s_if (zap za3 zaw (e_v 0) zad (nomark _)) (zam (zaq (e_op zab zae (e_op zab zae (e_op zab zae (e_op zab zae zaj (e_v 1)) zaj) (e_v 1)) zaj))) zax)
 (zac (s_if (zap za3 zaw (e_v 0) zad (nomark _)) (zam (zaq (e_op zab zae (e_op zab zae zaj (e_v 1)) zaj))) zax)
 (zac (s_if (zap za3 zaw (e_v 0) zad (nomark _)) (zam (zaq (e_op zab zae (e_op zab zae zaj (e_v 1)) zaj))) zax)
 (zac (s_if (zap za3 zaw (e_v 0) zad (nomark _)) (zam (zaq (e_op zab zae (e_v 2) zaj))) zax)
 (zac (s_if (zap za3 zaw (e_v 0) zad (nomark _)) (zam (zaq (e_op zab zae (e_op zab zae (e_op zab zae (e_v 2) zaj) (e_v 1)) zaj))) zax)
 (zac (s_if (zap za3 zaw (e_v 0) zad (nomark _)) (zam (zaq (e_op zab zae (e_op zab zae (e_op zab zae (e_v 2) zaj) (e_v 1)) zaj))) zax)
 (zam (zaq (e_op zab zae (e_op zab zae zaj (e_v 1)) zaj))))))))))))),?_⟩
  by_cases k11:way=11
  · nofun
    rw [s_11]
    refine j_ad (by (try simp only [List.length_append,List.length_cons,List.length_nil]);omega) ?_
    nofun
    exact hq _ (f11 ok hd) (by simp only [List.length_append,List.length_cons,List.length_nil];omega) (zan lt (by decide))
  by_cases k12:way=12
  · nofun
    rw [s_11]
    refine j_ad (by (try simp only [List.length_append,List.length_cons,List.length_nil]);omega) ?_
    nofun
    refine j_ad (by (try simp only [List.length_append,List.length_cons,List.length_nil]);omega) ?_
    nofun
    rw [show tx b++[32]++tx b=tx b++32::tx b by simp]
    exact hq _ (f12 ok hd _) (by simp only [List.length_append,List.length_cons,List.length_nil];omega) (zan lt (zai (by decide) lt))
  by_cases k13:way=13
  · nofun
    rw [←t_0]
    exact hq _ f13 (by simp) zcr
  by_cases k14:way=14
  · nofun
    rw [←t_91,←t_93]
    refine j_ad (by (try simp only [List.length_append,List.length_cons,List.length_nil]);omega) ?_
    nofun
    refine j_ad (by (try simp only [List.length_append,List.length_cons,List.length_nil]);omega) ?_
    nofun
    exact hq _ (f14 ok hd) (by simp only [List.length_append,List.length_cons,List.length_nil];omega) (zai (by decide) (zan lt (by decide)))
  by_cases k15:way=15
  · nofun
    rw [←t_91,s_11,s_15]
    refine j_ad (by (try simp only [List.length_append,List.length_cons,List.length_nil]);omega) ?_
    nofun
    refine j_ad (by (try simp only [List.length_append,List.length_cons,List.length_nil]);omega) ?_
    nofun
    refine j_ad (by (try simp only [List.length_append,List.length_cons,List.length_nil]);omega) ?_
    nofun
    refine j_ad (by (try simp only [List.length_append,List.length_cons,List.length_nil]);omega) ?_
    nofun
    rw [show [91]++tx b++[32]++tx b++[32,45,93]=91::(tx b++32::(tx b++[32,45,93])) by simp]
    exact hq _ (f15 ok hd) (by simp only [List.length_append,List.length_cons,List.length_nil];omega) (zai (by decide) (zan lt (zai (by decide) (zan lt (by decide)))))
  by_cases k16:way=16
  · nofun
    rw [←zpp,s_16]
    refine j_ad (by (try simp only [List.length_append,List.length_cons,List.length_nil]);omega) ?_
    nofun
    refine j_ad (by (try simp only [List.length_append,List.length_cons,List.length_nil]);omega) ?_
    nofun
    exact hq _ (f16 ok hd) (by simp only [List.length_append,List.length_cons,List.length_nil];omega) (zai (by decide) (zan lt (by decide)))
  by_cases k17:way=17
  · nofun
    rw [←t_125,s_17]
    refine j_ad (by (try simp only [List.length_append,List.length_cons,List.length_nil]);omega) ?_
    nofun
    refine j_ad (by (try simp only [List.length_append,List.length_cons,List.length_nil]);omega) ?_
    nofun
    exact hq _ (f17 ok hd) (by simp only [List.length_append,List.length_cons,List.length_nil];omega) (zan (zan (by decide) lt) (by decide))
  by_cases k18:way=18
  · nofun
    rw [s_18]
    refine j_ad (by (try simp only [List.length_append,List.length_cons,List.length_nil]);omega) ?_
    nofun
    exact hq _ F18 (by simp only [List.length_append,List.length_cons,List.length_nil];omega) (zan lx (by decide))
  by_cases k19:way=19
  · nofun
    rw [s_19,←t_41]
    refine j_ad (by (try simp only [List.length_append,List.length_cons,List.length_nil]);omega) ?_
    nofun
    refine j_ad (by (try simp only [List.length_append,List.length_cons,List.length_nil]);omega) ?_
    nofun
    refine j_ad (by (try simp only [List.length_append,List.length_cons,List.length_nil]);omega) ?_
    nofun
    rw [show cx++[40,45,32,45,32,45,32,45,32]++tx b++[41]=cx++40::45::32::45::32::45::32::45::32::(tx b++[41]) by simp]
    refine hq _ F19 (by (try simp only [List.length_append,List.length_cons,List.length_nil]);omega) ?_
    rw [show cx++40::45::32::45::32::45::32::45::32::(tx b++[41])=cx++[40,45,32,45,32,45,32,45,32]++tx b++[41] by simp]
    exact zan (zan (zan lx (by decide)) lt) (by decide)
  by_cases k21:way=21
  · nofun
    rw [s_21,←t_41]
    refine j_ad (by (try simp only [List.length_append,List.length_cons,List.length_nil]);omega) ?_
    nofun
    refine j_ad (by (try simp only [List.length_append,List.length_cons,List.length_nil]);omega) ?_
    nofun
    refine j_ad (by (try simp only [List.length_append,List.length_cons,List.length_nil]);omega) ?_
    nofun
    rw [show cx++[32,40]++tx b++[41]=cx++32::40::(tx b++[41]) by simp]
    exact hq _ F21 (by simp only [List.length_append,List.length_cons,List.length_nil];omega) (zan lx (zai (by decide) (zai (by decide) (zan lt (by decide)))))
  · nofun
    rw [←t_91,s_22]
    refine j_ad (by (try simp only [List.length_append,List.length_cons,List.length_nil]);omega) ?_
    nofun
    refine j_ad (by (try simp only [List.length_append,List.length_cons,List.length_nil]);omega) ?_
    nofun
    exact hq _ (f22 ok hd) (by simp only [List.length_append,List.length_cons,List.length_nil];omega) (zai (by decide) (zan lt (by decide)))
structure Hd6 (x:Str) (ps:List Str) (v:List Nat) (vs:List (List Nat)):Prop where
  nm:x=textOf v
  ps:ps=vs.map textOf
  wd:∀u∈v::vs,Wd5 u
  l1:1≤vs.length
  l4:vs.length≤4
theorem zhz {u:List Nat} (h:Wd5 u):Hs u:=fun d hd=>by
  have:=zjl (h.ok d hd)
  omega
theorem hd_mk {x:Str} {ps:List Str} (hx:NameOk x) (hp:∀p∈ps,NameOk p) (l1:1≤ps.length) (l4:ps.length≤4):Hd6 x ps x.cps.toList (ps.map fun p=>p.cps.toList):=by
  refine ⟨(zcf hx).1,?_,fun u hu=>?_,by rw [List.length_map];exact l1,by rw [List.length_map];exact l4⟩
  · rw [List.map_map]
    conv=>lhs;rw [←List.map_id ps]
    exact List.map_congr_left fun p h=>(zcf (hp p h)).1
  · rcases List.mem_cons.mp hu with rfl|hu
    · exact (zcf hx).2
    · obtain ⟨p,h,rfl⟩:=List.mem_map.mp hu
      exact (zcf (hp p h)).2
theorem zhp {b:Nat}:∀(ws:List (List Nat)) (w:List Nat),(∀v∈w::ws,v.length≤b)→(glue 32 w ws).length≤(ws.length+1)*(b+1)
  | [],w,h=>by
    have:=h w List.mem_cons_self
    simp only [glue,List.length_nil]
    omega
  | v::ws,w,h=>by
    have h1:=h w List.mem_cons_self
    have h2:=zhp ws v fun u hu=>h u (List.mem_cons_of_mem _ hu)
    rw [glue,List.length_append,List.length_cons,List.length_cons,Nat.succ_mul (ws.length+1)]
    omega
theorem zcb {ws:List (List Nat)} {w:List Nat} (h:∀v∈w::ws,∀d∈v,d<256):∀c∈glue 32 w ws,c<256:=fun c hc=>by
  rcases zfn hc with rfl|⟨v,hv,hd⟩
  · decide
  · exact h v hv c hd
theorem Hd6.low {x:Str} {ps:List Str} {v:List Nat} {vs:List (List Nat)} (h:Hd6 x ps v vs):∀u∈v::vs,u.length≤8∧∀d∈u,d<256:=fun u hu=>⟨(h.wd u hu).l8,fun d hd=>(zhz (h.wd u hu) d hd).2.2⟩
theorem j_joinP {S:Hp3} {Q:K3} {x:Str} {ps:List Str} {v:List Nat} {vs:List (List Nat)} (h:Hd6 x ps v vs) (q:∀p r,vs=p::r→(glue 32 p r).length≤36→(∀c∈glue 32 p r,c<256)→Q (.str (textOf (glue 32 p r))) S):joinT3 (.str " ") [.tup (ps.map D.str)] S Q:=by
  obtain ⟨p,r,rfl⟩:∃p r,vs=p::r:=List.exists_cons_of_length_pos h.l1
  have hl:∀u∈p::r,u.length≤8:=fun u hu=>(h.low u (List.mem_cons_of_mem _ hu)).1
  have h1:=zhp (b:=8) r p hl
  have l4:=h.l4
  rw [List.length_cons] at l4
  have h2:=Nat.mul_le_mul_right (8+1) (show r.length+1≤4 by omega)
  have h3:=zeq r p
  refine ⟨textOf [32],(p::r).map textOf,by rw [t_32],by rw [←h.ps],?_,?_⟩
  · rw [zdf,zak]
    simp only [List.length_map,List.length_cons,List.length_nil] at h3 ⊢
    omega
  rw [zep]
  exact q p r rfl (by omega) (zcb fun u hu=>(h.low u (List.mem_cons_of_mem _ hu)).2)
inductive zi9  (ds:List D) (q:D→Prop):Prop where
  | mk (way:Int) (x:Str) (ps:List Str) (v:List Nat) (vs:List (List Nat)) (b:Sy) (_:ds=[.int way,.str x,.tup (ps.map D.str),.str (textOf (tx b))]) (_:1≤way) (_:way≤8) (_:Hd6 x ps v vs) (_:okS b) (_:(tx b).length≤1200) (_:∀cs,pLine cs=none→cs.length≤3000→(∀c∈cs,c<256)→q (.str (textOf cs)))
def zef :Sp3:=vS zi9
theorem s_h1:(":":Str)=textOf [58]:=by decide +kernel
theorem s_h2:(" : ":Str)=textOf [32,58,32]:=by decide +kernel
theorem s_h3:(":  ":Str)=textOf [58,32,32]:=by decide +kernel
theorem s_h5:(" a b c d e: ":Str)=textOf [32,97,32,98,32,99,32,100,32,101,58,32]:=by decide +kernel
theorem s_h6:("  ":Str)=textOf [32,32]:=by decide +kernel
theorem s_h8:(" x\n: ":Str)=textOf [32,120,10,58,32]:=by decide +kernel
mutual
theorem zgd:∀s:Sy,okS s→∀c∈tx s,c≠58
  | .name x,h=>by rw [tx];exact fun c hc=>(zhz (zcf h).2 c hc).2.1
  | .bud,_=>by rw [tx];decide
  | .left a,h=>by rw [tx];exact fun c hc=>(List.mem_cons.mp hc).elim (fun e=>by rw [e];decide) (zgd a h c)
  | .right a,h=>by rw [tx];exact fun c hc=>(List.mem_cons.mp hc).elim (fun e=>by rw [e];decide) (zgd a h c)
  | .pair a b,h=>by
    have h1:=zgd a h.1
    have h2:=zgd b h.2
    rw [tx]
    intro c hc
    simp only [List.mem_cons,List.mem_append,List.not_mem_nil,or_false] at hc
    rcases hc with rfl|(hc|rfl|hc)|rfl
    · decide
    · exact h1 c hc
    · decide
    · exact h2 c hc
    · decide
  | .fork a b d,h=>by
    have h1:=zgd a h.1
    have h2:=zgd b h.2.1
    have h3:=zgd d h.2.2
    rw [tx]
    intro c hc
    simp only [List.mem_cons,List.mem_append,List.not_mem_nil,or_false] at hc
    rcases hc with rfl|(hc|rfl|hc|rfl|hc)|rfl
    · decide
    · exact h1 c hc
    · decide
    · exact h2 c hc
    · decide
    · exact h3 c hc
    · decide
  | .send x [],h=>by have:=h.2.1;simp at this
  | .send x (a::as),h=>by
    have h1:=zgd a h.2.2.2.1
    have h2:=zo6 as h.2.2.2.2
    rw [tx]
    intro c hc
    simp only [List.mem_cons,List.mem_append,List.not_mem_nil,or_false] at hc
    rcases hc with hc|rfl|(hc|hc)|rfl
    · exact (zhz (zcf h.1).2 c hc).2.1
    · decide
    · exact h1 c hc
    · exact h2 c hc
    · decide
theorem zo6:∀as:List Sy,okSs as→∀c∈txt as,c≠58
  | [],_=>by rw [txt];exact fun c hc=>nomatch hc
  | a::as,h=>by
    have h1:=zgd a h.1
    have h2:=zo6 as h.2
    rw [txt]
    intro c hc
    simp only [List.mem_cons,List.mem_append] at hc
    rcases hc with rfl|hc|hc
    · decide
    · exact h1 c hc
    · exact h2 c hc
end
theorem zno (s:Sy) (ok:okS s):(tx s).head?≠some 32:=by
  have nm:∀{x:Str} {r:List Nat},NameOk x→(x.cps.toList++r).head?≠some 32:=fun {x r} hx=>by
    have hw:=(zcf hx).2
    cases e:x.cps.toList with
    | nil=>have:=hw.l1;rw [e] at this;simp at this
    | cons c t =>
      have:=(zhz hw c (by rw [e];exact List.mem_cons_self)).1
      simpa using this
  cases s with
  | name x=>rw [tx];have:=nm (r:=[]) ok;rwa [List.append_nil] at this
  | send x as =>
    cases as with
    | nil=>rw [tx];exact nm ok.1
    | cons a as=>rw [tx];exact nm ok.1
  | _=>rw [tx];simp
theorem zog {hd bd:List Nat} (h1:∀d∈hd,d≠58) (h2:∀d∈bd,d≠58) (h3:bd.head?≠some 32):∀i,((hd++58::bd).drop i).take 2≠[58,32]:=fun i e=>by
  have e0:(hd++58::bd)[i]?=some 58:=by
    have:=congrArg (fun l:List Nat=>l[0]?) e
    simpa [List.getElem?_take,List.getElem?_drop] using this
  have e1:(hd++58::bd)[i+1]?=some 32:=by
    have:=congrArg (fun l:List Nat=>l[1]?) e
    simpa [List.getElem?_take,List.getElem?_drop] using this
  by_cases c1:i<hd.length
  · rw [List.getElem?_append_left c1] at e0
    exact h1 58 (List.mem_of_getElem? e0) rfl
  · rw [List.getElem?_append_right (by omega)] at e0 e1
    by_cases c2:i=hd.length
    · rw [c2,show hd.length+1-hd.length=0+1 by omega,List.getElem?_cons_succ] at e1
      exact h3 (by rw [List.head?_eq_getElem?];exact e1)
    · obtain ⟨j,hj⟩:∃j,i-hd.length=j+1:=⟨i-hd.length-1,by omega⟩
      rw [hj,List.getElem?_cons_succ] at e0
      exact h2 58 (List.mem_of_getElem? e0) rfl
theorem ze0 {ws:List (List Nat)} {u:List Nat} (hu:u∈ws) (h:wdB u=false):hdW ws=false:=by
  unfold hdW
  have:ws.all wdB=false:=by
    cases q:ws.all wdB with
    | false=>rfl
    | true=>rw [List.all_eq_true] at q;rw [q u hu] at h;cases h
  rw [this]
  rfl
theorem zm0 {ws:List (List Nat)} (h:¬(2≤ws.length∧ws.length≤5)):hdW ws=false:=by
  unfold hdW
  cases q:(ws.all wdB&&(decide (2≤ws.length)&&decide (ws.length≤5))) with
  | false=>rfl
  | true =>
    simp only [Bool.and_eq_true,decide_eq_true_eq] at q
    exact absurd q.2 h
theorem zcs {c:Nat}:∀(ws:List (List Nat)) (w u:List Nat),glue c w (ws++[u])=glue c w ws++c::u
  | [],w,u=>by simp [glue]
  | v::ws,w,u=>by rw [List.cons_append,glue,glue,zcs ws v u];simp
theorem zit:Hs []:=fun d hd=>nomatch hd
theorem zlj:wdB []=false:=by decide
theorem zhe {k:Nat} (h:Has K mg "_law_head_fault" zbx ["way","name","params","body"]) (G:Gs K mg):Cal3 P w K mg base (k+1) "_law_head_fault" ["way","name","params","body"] zef:=by
  refine h.val zeh (by rintro ds q ⟨_,_,_,_,_,_,e,_⟩;rw [e];rfl) fun f cdv A outer s0 H E ds q hr hA=>?_
  obtain ⟨way,x,ps,v,vs,b,rfl,w0,w1,hH,ok,hl,hq⟩:=hA
  have lt:=zcv b ok
  obtain ⟨v8,vlow⟩:=hH.low v List.mem_cons_self
  have hnm:=hH.nm
  have hs:∀u∈v::vs,Hs u:=fun u hu=>zhz (hH.wd u hu)
  refine ⟨_,(zac (zas (i:=4) zeh.nd rfl (Or.inl rfl) (e_op zab zae (e_op zab zae (e_v 1) zaj) (e_bm PySem.F.plainAttrs_str PySem.F.slot_str_join PySem.F.type_str_join zbn zdc zaj (zaa (e_v 2) zaf))))
 (zac (s_if (zap za3 zaw (e_v 0) zad (nomark _)) (zam (zaq (e_op zab zae (e_op zab zae (e_v 4) zaj) (e_v 3)))) zax)
 (zac (s_if (zap za3 zaw (e_v 0) zad (nomark _)) (zam (zaq (e_op zab zae (e_op zab zae (e_v 4) zaj) (e_v 3)))) zax)
 (zac (s_if (zap za3 zaw (e_v 0) zad (nomark _)) (zam (zaq (e_op zab zae (e_op zab zae (e_v 4) zaj) (e_v 3)))) zax)
 (zac (s_if (zap za3 zaw (e_v 0) zad (nomark _)) (zam (zaq (e_op zab zae (e_op zab zae (e_v 1) zaj) (e_v 3)))) zax)
 (zac (s_if (zap za3 zaw (e_v 0) zad (nomark _)) (zam (zaq (e_op zab zae (e_op zab zae (e_v 1) zaj) (e_v 3)))) zax)
 (zac (s_if (zap za3 zaw (e_v 0) zad (nomark _)) (zam (zaq (e_op zab zae (e_op zab zae (e_op zab zae (e_op zab zae (e_v 1) zaj) (e_bm PySem.F.plainAttrs_str PySem.F.slot_str_join PySem.F.type_str_join zbn zdc zaj (zaa (e_v 2) zaf))) zaj) (e_v 3)))) zax)
 (zac (s_if (zap za3 zaw (e_v 0) zad (nomark _)) (zam (zaq (e_op zab zae (e_op zab zae (e_op zab zae zaj (e_v 4)) zaj) (e_v 3)))) zax)
 (zam (zaq (e_op zab zae (e_op zab zae (e_v 4) zaj) (e_v 3)))))))))))),?_⟩
  nofun
  rw [hnm,s_11]
  refine j_ad (by (try simp only [List.length_append,List.length_cons,List.length_nil]);omega) ?_
  nofun
  rw [←s_11]
  refine j_joinP hH fun p r hvs gl glow=>?_
  refine j_ad (by (try simp only [List.length_append,List.length_cons,List.length_nil]);omega) ?_
  have eg:v++[32]++glue 32 p r=glue 32 v vs:=by rw [hvs,glue];simp
  rw [eg]
  have gl2:(glue 32 v vs).length≤45:=by rw [←eg];simp only [List.length_append,List.length_cons,List.length_nil];omega
  have glow2:∀c∈glue 32 v vs,c<256:=by rw [←eg];exact zan (zan vlow (by decide)) glow
  have ghs:∀d∈glue 32 v vs,d≠58:=fun d hd=>by
    rcases zfn hd with rfl|⟨u,hu,hd⟩
    · decide
    · exact (hs u hu d hd).2.1
  have hsn:∀{u:List Nat},Hs u→∀z∈v::(vs++[u]),Hs z:=fun {u} h z hz=>by
    rcases List.mem_cons.mp hz with rfl|hz
    · exact hs z List.mem_cons_self
    · rcases List.mem_append.mp hz with hz|hz
      · exact hs z (List.mem_cons_of_mem _ hz)
      · rw [List.mem_singleton.mp hz];exact h
  have h5:∀u∈[[97],[98],[99],[100],[101]],Hs u:=by unfold Hs;decide
  nofun
  by_cases k1:way=1
  · nofun
    rw [s_h1]
    refine j_ad (by (try simp only [List.length_append,List.length_cons,List.length_nil]);omega) ?_
    nofun
    refine j_ad (by (try simp only [List.length_append,List.length_cons,List.length_nil]);omega) ?_
    nofun
    rw [show glue 32 v vs++[58]++tx b=glue 32 v vs++58::tx b by simp]
    exact hq _ (zk5 (zog (fun d hd=>(ghs d hd)) (zgd b ok) (zno b ok))) (by simp only [List.length_append,List.length_cons,List.length_nil];omega) (zan glow2 (zai (by decide) lt))
  by_cases k2:way=2
  · nofun
    rw [s_h2]
    refine j_ad (by (try simp only [List.length_append,List.length_cons,List.length_nil]);omega) ?_
    nofun
    refine j_ad (by (try simp only [List.length_append,List.length_cons,List.length_nil]);omega) ?_
    nofun
    rw [show glue 32 v vs++[32,58,32]++tx b=glue 32 v (vs++[[]])++58::32::tx b by rw [zcs];simp]
    exact hq _ (zb0 (hsn zit) (ze0 (u:=[]) (by simp) zlj)) (by rw [zcs];simp only [List.length_append,List.length_cons,List.length_nil];omega) (zan (by rw [zcs];exact zan glow2 (by decide)) (zai (by decide) (zai (by decide) lt)))
  by_cases k3:way=3
  · nofun
    rw [s_h3]
    refine j_ad (by (try simp only [List.length_append,List.length_cons,List.length_nil]);omega) ?_
    nofun
    refine j_ad (by (try simp only [List.length_append,List.length_cons,List.length_nil]);omega) ?_
    nofun
    rw [show glue 32 v vs++[58,32,32]++tx b=glue 32 v vs++58::32::32::tx b by simp]
    exact hq _ (zcm hs (zca (zn9 (by decide) (by decide)))) (by simp only [List.length_append,List.length_cons,List.length_nil];omega) (zan glow2 (zai (by decide) (zai (by decide) (zai (by decide) lt))))
  by_cases k4:way=4
  · nofun
    rw [←t_58]
    refine j_ad (by (try simp only [List.length_append,List.length_cons,List.length_nil]);omega) ?_
    nofun
    refine j_ad (by (try simp only [List.length_append,List.length_cons,List.length_nil]);omega) ?_
    nofun
    rw [show v++[58,32]++tx b=glue 32 v []++58::32::tx b by simp [glue]]
    exact hq _ (zb0 (fun u hu=>by rw [List.mem_singleton.mp hu];exact hs v List.mem_cons_self) (zm0 (by simp))) (by rw [glue];simp only [List.length_append,List.length_cons,List.length_nil];omega) (zan (by rw [glue];exact vlow) (zai (by decide) (zai (by decide) lt)))
  by_cases k5:way=5
  · nofun
    rw [s_h5]
    refine j_ad (by (try simp only [List.length_append,List.length_cons,List.length_nil]);omega) ?_
    nofun
    refine j_ad (by (try simp only [List.length_append,List.length_cons,List.length_nil]);omega) ?_
    nofun
    rw [show v++[32,97,32,98,32,99,32,100,32,101,58,32]++tx b=glue 32 v [[97],[98],[99],[100],[101]]++58::32::tx b by simp [glue]]
    exact hq _ (zb0 (fun u hu=>(List.mem_cons.mp hu).elim (fun e=>by rw [e];exact hs v List.mem_cons_self) (h5 u)) (zm0 (by simp))) (by simp only [glue,List.length_append,List.length_cons,List.length_nil];omega) (zan (zcb fun u hu d hd=>((List.mem_cons.mp hu).elim (fun e=>by rw [e];exact hs v List.mem_cons_self) (h5 u):Hs u) d hd |>.2.2) (zai (by decide) (zai (by decide) lt)))
  by_cases k6:way=6
  · nofun
    rw [s_h6]
    refine j_ad (by (try simp only [List.length_append,List.length_cons,List.length_nil]);omega) ?_
    nofun
    refine j_joinP hH fun p r hvs gl glow=>?_
    refine j_ad (by (try simp only [List.length_append,List.length_cons,List.length_nil]);omega) ?_
    nofun
    rw [←t_58]
    refine j_ad (by (try simp only [List.length_append,List.length_cons,List.length_nil]);omega) ?_
    nofun
    refine j_ad (by (try simp only [List.length_append,List.length_cons,List.length_nil]);omega) ?_
    nofun
    rw [show v++[32,32]++glue 32 p r++[58,32]++tx b=glue 32 v ([]::vs)++58::32::tx b by rw [hvs];simp [glue]]
    refine hq _ (zb0 (fun u hu=>?_) (ze0 (u:=[]) (by simp) zlj)) ?_ (zan (zcb fun u hu=>?_) (zai (by decide) (zai (by decide) lt)))
    · rcases List.mem_cons.mp hu with rfl|hu
      · exact hs u List.mem_cons_self
      · rcases List.mem_cons.mp hu with rfl|hu
        · exact zit
        · exact hs u (List.mem_cons_of_mem _ hu)
    · rw [hvs,glue,glue]
      simp only [List.length_append,List.length_cons,List.length_nil]
      omega
    · rcases List.mem_cons.mp hu with rfl|hu
      · exact vlow
      · rcases List.mem_cons.mp hu with rfl|hu
        · exact zcr
        · exact (hH.low u (List.mem_cons_of_mem _ hu)).2
  by_cases k7:way=7
  · nofun
    rw [s_11]
    refine j_ad (by (try simp only [List.length_append,List.length_cons,List.length_nil]);omega) ?_
    nofun
    rw [←t_58]
    refine j_ad (by (try simp only [List.length_append,List.length_cons,List.length_nil]);omega) ?_
    nofun
    refine j_ad (by (try simp only [List.length_append,List.length_cons,List.length_nil]);omega) ?_
    nofun
    rw [show [32]++glue 32 v vs++[58,32]++tx b=glue 32 [] (v::vs)++58::32::tx b by simp [glue]]
    refine hq _ (zb0 (fun u hu=>?_) (ze0 (u:=[]) (by simp) zlj)) ?_ (zan (zcb fun u hu=>?_) (zai (by decide) (zai (by decide) lt)))
    · rcases List.mem_cons.mp hu with rfl|hu
      · exact zit
      · exact hs u hu
    · rw [glue]
      simp only [List.length_append,List.length_cons,List.length_nil]
      omega
    · rcases List.mem_cons.mp hu with rfl|hu
      · exact zcr
      · exact (hH.low u hu).2
  · have k8:way=8:=by omega
    nofun
    rw [s_h8]
    refine j_ad (by (try simp only [List.length_append,List.length_cons,List.length_nil]);omega) ?_
    nofun
    refine j_ad (by (try simp only [List.length_append,List.length_cons,List.length_nil]);omega) ?_
    nofun
    rw [show glue 32 v vs++[32,120,10,58,32]++tx b=glue 32 v (vs++[[120,10]])++58::32::tx b by rw [zcs];simp]
    exact hq _ (zb0 (hsn (u:=[120,10]) (by unfold Hs;decide)) (ze0 (u:=[120,10]) (by simp) (by decide))) (by rw [zcs];simp only [List.length_append,List.length_cons,List.length_nil];omega) (zan (by rw [zcs];exact zan glow2 (by decide)) (zai (by decide) (zai (by decide) lt)))
noncomputable abbrev bads:List (List Nat):=[[97,98,99,100,101,102,103,104,105],[97,88],[97,49],[90,98],[97,95,98],[97,98,99,100,101,102,103,104,105,106,107,108]]
theorem zqw:∀u∈bads,BadW u∧u.length≤12:=fun u hu=>by
  simp only [bads,List.mem_cons,List.not_mem_nil,or_false] at hu
  rcases hu with rfl|rfl|rfl|rfl|rfl|rfl
  · exact ⟨zkv (by decide) (by decide),by decide⟩
  · exact ⟨zjq (by decide) (by decide) zit,by decide⟩
  · exact ⟨zjq (by decide) (by decide) zit,by decide⟩
  · exact ⟨zni (by decide) (by decide) (by decide) (by unfold Hs;decide),by decide⟩
  · exact ⟨zjq (by decide) (by decide) (by unfold Hs;decide),by decide⟩
  · exact ⟨zkv (by decide) (by decide),by decide⟩
theorem s_b0:("abcdefghi":Str)=textOf [97,98,99,100,101,102,103,104,105]:=by decide +kernel
theorem s_b1:("aX":Str)=textOf [97,88]:=by decide +kernel
theorem s_b2:("a1":Str)=textOf [97,49]:=by decide +kernel
theorem s_b3:("Zb":Str)=textOf [90,98]:=by decide +kernel
theorem s_b4:("a_b":Str)=textOf [97,95,98]:=by decide +kernel
theorem s_b5:("abcdefghijkl":Str)=textOf [97,98,99,100,101,102,103,104,105,106,107,108]:=by decide +kernel
theorem s_w2:(": [":Str)=textOf [58,32,91]:=by decide +kernel
theorem s_w3:("(-)]":Str)=textOf [40,45,41,93]:=by decide +kernel
inductive zi7  (ds:List D) (q:D→Prop):Prop where
  | mk (cell:Int) (x:Str) (ps:List Str) (v:List Nat) (vs:List (List Nat)) (b:Sy) (_:ds=[.int cell,.str x,.tup (ps.map D.str),.str (textOf (tx b))]) (_:Hd6 x ps v vs) (_:okS b) (_:b.deep≤10) (_:(tx b).length≤1200) (_:∀cs,pLine cs=none→cs.length≤3000→(∀c∈cs,c<256)→q (.str (textOf cs)))
def zee :Sp3:=vS zi7
theorem zoz {u:List Nat} {b:Sy} (hu:BadW u) (ok:okS b) (hd:b.deep≤11):NoB (91::(u++32::(tx b++[93]))):=zca (by
  rw [zoa]
  unfold pRow
  rcases hu.rd 32 (tx b++[93]) (by decide) with h|⟨s,c,r',h,h1,h2⟩
  · rw [pMany,h]
    rfl
  · rw [zek (zfc 11) h]
    unfold pGo
    rw [if_neg (by simpa using h1),Option.bind_some,if_neg fun z=>h2 (by simpa using z.1)]
    rfl)
theorem zhd {k:Nat} (h:Has K mg "_law_word_fault" zbw ["cell","name","params","body"]) (G:Gs K mg):Cal3 P w K mg base (k+1) "_law_word_fault" ["cell","name","params","body"] zee:=by
  refine h.val zb1 (by rintro ds q ⟨_,_,_,_,_,_,e,_⟩;rw [e];rfl) fun f cdv A outer s0 H E ds q hr hA=>?_
  obtain ⟨cell,x,ps,v,vs,b,rfl,hH,ok,hd,hl,hq⟩:=hA
  have lt:=zcv b ok
  obtain ⟨v8,vlow⟩:=hH.low v List.mem_cons_self
  have hnm:=hH.nm
  have hs:∀u∈v::vs,Hs u:=fun u hu=>zhz (hH.wd u hu)
  refine ⟨_,(zac (zas (i:=4) zb1.nd rfl (Or.inl rfl) (e_ix zb4 zc0 (ziw (zaa zaj (zaa zaj (zaa zaj (zaa zaj (zaa zaj (zaa zaj zaf))))))) (e_op zbj zao (e_v 0) zad) (fun _ _=>rfl)))
 (zac (zas (i:=5) zb1.nd rfl (Or.inl rfl) (e_op zbj zao (e_op zb3 zao (e_v 0) zad) zad))
 (zac (s_if (zap za3 zaw (e_v 5) zad (nomark _)) (zam (zaq (e_op zab zae (e_op zab zae (e_op zab zae (e_op zab zae (e_v 4) zaj) (e_bm PySem.F.plainAttrs_str PySem.F.slot_str_join PySem.F.type_str_join zbn zdc zaj (zaa (e_v 2) zaf))) zaj) (e_v 3)))) zax)
 (zac (s_if (zap za3 zaw (e_v 5) zad (nomark _)) (zac (zas (i:=6) zb1.nd rfl (Or.inl rfl) (e_op zbj zao (e_op zb3 zao (e_v 0) zad) (zav za4 zd1 rfl G.len PySem.boot_len (zaa (e_v 2) zaf))))
 (zac (zas (i:=7) zb1.nd rfl (Or.inl rfl) (e_op zik zf9 (e_op zik zf9 (zdb zdp zf8 rfl G.list boot_list (zaa (za8 zdk zfe (e_v 2) zbz (zbi (e_v 6))) zaf)) (ziw (zaa (e_v 4) zaf))) (zdb zdp zf8 rfl G.list boot_list (zaa (za8 zdk zfe (e_v 2) (zbi (e_op zcx zbt (e_v 6) zad)) zbz) zaf))))
 (zam (zaq (e_op zab zae (e_op zab zae (e_op zab zae (e_op zab zae (e_v 1) zaj) (e_bm PySem.F.plainAttrs_str PySem.F.slot_str_join PySem.F.type_str_join zda zht zaj (zaa (e_v 7) zaf))) zaj) (e_v 3)))))) zax)
 (zac (s_if (zap za3 zaw (e_v 5) zad (nomark _)) (zam (zaq (e_op zab zae (e_op zab zae (e_op zab zae (e_op zab zae (e_op zab zae (e_op zab zae (e_op zab zae (e_v 1) zaj) (e_bm PySem.F.plainAttrs_str PySem.F.slot_str_join PySem.F.type_str_join zbn zdc zaj (zaa (e_v 2) zaf))) zaj) (e_v 4)) zaj) (e_v 3)) zaj))) zax)
 (zam (zaq (e_op zab zae (e_op zab zae (e_op zab zae (e_op zab zae (e_op zab zae (e_op zab zae (e_op zab zae (e_v 1) zaj) (e_bm PySem.F.plainAttrs_str PySem.F.slot_str_join PySem.F.type_str_join zbn zdc zaj (zaa (e_v 2) zaf))) zaj) (e_v 3)) zaj) (e_v 4)) zaj)))))))),?_⟩
  nofun
  rw [s_b0,s_b1,s_b2,s_b3,s_b4,s_b5]
  intro pw hpw
  obtain ⟨j,u,ej,hu,hat⟩:=zjs (f:=fun u:List Nat=>D.str (textOf u)) (xs:=bads) cell (by decide)
  obtain ⟨hB,hBl⟩:=zqw u (List.mem_of_getElem? hu)
  nofun
  refine j_ixL zag hat ?_
  have ulow:∀c∈u,c<256:=fun c hc=>(hB.hs c hc).2.2
  have c0:=Int.emod_nonneg (cell/6) (show (4:Int)≠0 by decide)
  have c4:=Int.emod_lt_of_pos (cell/6) (show (0:Int)<4 by decide)
  nofun
  by_cases k0:cell/6%4=0
  · nofun
    rw [s_11]
    refine j_ad (by (try simp only [List.length_append,List.length_cons,List.length_nil]);omega) ?_
    nofun
    rw [←s_11]
    refine j_joinP hH fun p r hvs gl glow=>?_
    refine j_ad (by (try simp only [List.length_append,List.length_cons,List.length_nil]);omega) ?_
    nofun
    rw [←t_58]
    refine j_ad (by (try simp only [List.length_append,List.length_cons,List.length_nil]);omega) ?_
    nofun
    refine j_ad (by (try simp only [List.length_append,List.length_cons,List.length_nil]);omega) ?_
    rw [show u++[32]++glue 32 p r++[58,32]++tx b=glue 32 u vs++58::32::tx b by rw [hvs,glue];simp]
    refine hq _ (zb0 (fun z hz=>?_) (ze0 (u:=u) List.mem_cons_self hB.no)) ?_ (zan (zcb fun z hz=>?_) (zai (by decide) (zai (by decide) lt)))
    · rcases List.mem_cons.mp hz with rfl|hz
      · exact hB.hs
      · exact hs z (List.mem_cons_of_mem _ hz)
    · rw [hvs,glue]
      simp only [List.length_append,List.length_cons,List.length_nil]
      omega
    · rcases List.mem_cons.mp hz with rfl|hz
      · exact ulow
      · exact (hH.low z (List.mem_cons_of_mem _ hz)).2
  by_cases k1:cell/6%4=1
  · have hpl:ps.length=vs.length:=by rw [hH.ps,List.length_map]
    have l1:=hH.l1
    have l4:=hH.l4
    have hpz:(0:Int)<((ps.map D.str).length:Int):=by rw [List.length_map];omega
    obtain ⟨i,hi⟩:∃i:Nat,cell/24%((ps.map D.str).length:Int)=(i:Int):=⟨_,(Int.toNat_of_nonneg (Int.emod_nonneg _ (by omega))).symm⟩
    have hil:i<vs.length:=by
      have:=Int.emod_lt_of_pos (cell/24) hpz
      rw [hi,List.length_map] at this
      omega
    have hrow:(ps.map D.str).take i++[D.str (textOf u)]++(ps.map D.str).drop (i+1)=((vs.take i++u::vs.drop (i+1)).map textOf).map D.str:=by
      rw [hH.ps]
      simp only [List.map_append,List.map_cons,List.map_take,List.map_drop,List.append_assoc,List.cons_append,List.nil_append]
    have hrl:(vs.take i++u::vs.drop (i+1)).length=vs.length:=by
      simp only [List.length_append,List.length_take,List.length_cons,List.length_drop]
      omega
    have hrm:∀z∈vs.take i++u::vs.drop (i+1),z=u∨z∈vs:=fun z hz=>by
      rcases List.mem_append.mp hz with hz|hz
      · exact .inr (List.mem_of_mem_take hz)
      · rcases List.mem_cons.mp hz with hz|hz
        · exact .inl hz
        · exact .inr (List.mem_of_mem_drop hz)
    have hur:u∈vs.take i++u::vs.drop (i+1):=by simp
    nofun
    rw [hi,zd8 (by omega),Int.toNat_natCast]
    intro pa hpa
    have a1:up (up emp pw (.lst [.str (textOf [97,98,99,100,101,102,103,104,105]),.str (textOf [97,88]),.str (textOf [97,49]),.str (textOf [90,98]),.str (textOf [97,95,98]),.str (textOf [97,98,99,100,101,102,103,104,105,106,107,108])])) pa (.lst ((ps.map D.str).take i)) pa=some (.lst ((ps.map D.str).take i)):=zag
    generalize up (up emp pw _) pa _=S1 at a1 ⊢
    nofun
    intro pb hpb
    have a2:=zau (o:=.lst [.str (textOf u)]) a1 hpb
    have a3:up S1 pb (.lst [.str (textOf u)]) pb=some (.lst [.str (textOf u)]):=zag
    generalize up S1 pb (.lst [.str (textOf u)])=S2 at a2 a3 ⊢
    refine j_catL a2 a3 (zal (by rw [List.length_take,List.length_map];simp only [List.length_cons,List.length_nil];omega)) ?_
    intro pc hpc
    have a4:up S2 pc (.lst ((ps.map D.str).take i++[D.str (textOf u)])) pc=some (.lst ((ps.map D.str).take i++[D.str (textOf u)])):=zag
    generalize up S2 pc (.lst ((ps.map D.str).take i++[D.str (textOf u)]))=S3 at a4 ⊢
    nofun
    rw [zcu (by omega),show ((i:Int)+1).toNat=i+1 by omega]
    intro pd hpd
    have a5:=zau (o:=.lst ((ps.map D.str).drop (i+1))) a4 hpd
    have a6:up S3 pd (.lst ((ps.map D.str).drop (i+1))) pd=some (.lst ((ps.map D.str).drop (i+1))):=zag
    generalize up S3 pd (.lst ((ps.map D.str).drop (i+1)))=S4 at a5 a6 ⊢
    refine j_catL a5 a6 (zal (by rw [List.length_append,List.length_take,List.length_drop,List.length_map];simp only [List.length_cons,List.length_nil];omega)) ?_
    rw [hrow]
    intro pe hpe
    have a7:up S4 pe (.lst (((vs.take i++u::vs.drop (i+1)).map textOf).map D.str)) pe=some (.lst (((vs.take i++u::vs.drop (i+1)).map textOf).map D.str)):=zag
    generalize up S4 pe (.lst (((vs.take i++u::vs.drop (i+1)).map textOf).map D.str))=S5 at a7 ⊢
    generalize vs.take i++u::vs.drop (i+1)=row at hrow hrl hrm hur a7
    obtain ⟨p,r,rfl⟩:∃p r,row=p::r:=List.exists_cons_of_length_pos (by omega)
    have hlow:∀z∈p::r,z.length≤12∧(∀c∈z,c<256)∧Hs z:=fun z hz=>by
      rcases hrm z hz with rfl|hz
      · exact ⟨hBl,ulow,hB.hs⟩
      · exact ⟨by have:=(hH.low z (List.mem_cons_of_mem _ hz)).1;omega,(hH.low z (List.mem_cons_of_mem _ hz)).2,hs z (List.mem_cons_of_mem _ hz)⟩
    have g1:=zhp (b:=12) r p fun z hz=>(hlow z hz).1
    rw [List.length_cons] at hrl
    have g2:=Nat.mul_le_mul_right (12+1) (show r.length+1≤4 by omega)
    have g3:=zeq r p
    nofun
    rw [hnm,s_11]
    refine j_ad (by (try simp only [List.length_append,List.length_cons,List.length_nil]);omega) ?_
    nofun
    rw [←s_11]
    refine ⟨textOf [32],_,_,congrArg D.str t_32.symm,rfl,.inl ⟨pe,rfl,a7⟩,?_,?_⟩
    · rw [zdf,zak]
      simp only [List.length_map,List.length_cons,List.length_nil] at g3 ⊢
      omega
    rw [zep]
    refine j_ad (by (try simp only [List.length_append,List.length_cons,List.length_nil]);omega) ?_
    nofun
    rw [←t_58]
    refine j_ad (by (try simp only [List.length_append,List.length_cons,List.length_nil]);omega) ?_
    nofun
    refine j_ad (by (try simp only [List.length_append,List.length_cons,List.length_nil]);omega) ?_
    rw [show v++[32]++glue 32 p r++[58,32]++tx b=glue 32 v (p::r)++58::32::tx b by rw [glue];simp]
    refine hq _ (zb0 (fun z hz=>?_) (ze0 (u:=u) (List.mem_cons_of_mem _ hur) hB.no)) ?_ (zan (zcb fun z hz=>?_) (zai (by decide) (zai (by decide) lt)))
    · rcases List.mem_cons.mp hz with rfl|hz
      · exact hs z List.mem_cons_self
      · exact (hlow z hz).2.2
    · rw [glue]
      simp only [List.length_append,List.length_cons,List.length_nil]
      omega
    · rcases List.mem_cons.mp hz with rfl|hz
      · exact vlow
      · exact (hlow z hz).2.1
  by_cases k2:cell/6%4=2
  · nofun
    rw [hnm,s_11]
    refine j_ad (by (try simp only [List.length_append,List.length_cons,List.length_nil]);omega) ?_
    nofun
    rw [←s_11]
    refine j_joinP hH fun p r hvs gl glow=>?_
    refine j_ad (by (try simp only [List.length_append,List.length_cons,List.length_nil]);omega) ?_
    nofun
    rw [s_w2,s_11,←t_93]
    refine j_ad (by (try simp only [List.length_append,List.length_cons,List.length_nil]);omega) ?_
    nofun
    refine j_ad (by (try simp only [List.length_append,List.length_cons,List.length_nil]);omega) ?_
    nofun
    refine j_ad (by (try simp only [List.length_append,List.length_cons,List.length_nil]);omega) ?_
    nofun
    refine j_ad (by (try simp only [List.length_append,List.length_cons,List.length_nil]);omega) ?_
    nofun
    refine j_ad (by (try simp only [List.length_append,List.length_cons,List.length_nil]);omega) ?_
    rw [show v++[32]++glue 32 p r++[58,32,91]++u++[32]++tx b++[93]=glue 32 v vs++58::32::91::(u++32::(tx b++[93])) by rw [hvs,glue];simp]
    refine hq _ (zcm hs (zoz hB ok (by omega))) ?_ (zan (zcb fun z hz=>(hH.low z hz).2) (zai (by decide) (zai (by decide) (zai (by decide) (zan ulow (zai (by decide) (zan lt (by decide))))))))
    rw [hvs,glue]
    simp only [List.length_append,List.length_cons,List.length_nil]
    omega
  · have k3:cell/6%4=3:=by omega
    nofun
    rw [hnm,s_11]
    refine j_ad (by (try simp only [List.length_append,List.length_cons,List.length_nil]);omega) ?_
    nofun
    rw [←s_11]
    refine j_joinP hH fun p r hvs gl glow=>?_
    refine j_ad (by (try simp only [List.length_append,List.length_cons,List.length_nil]);omega) ?_
    nofun
    rw [s_w2,s_11,s_w3]
    refine j_ad (by (try simp only [List.length_append,List.length_cons,List.length_nil]);omega) ?_
    nofun
    refine j_ad (by (try simp only [List.length_append,List.length_cons,List.length_nil]);omega) ?_
    nofun
    refine j_ad (by (try simp only [List.length_append,List.length_cons,List.length_nil]);omega) ?_
    nofun
    refine j_ad (by (try simp only [List.length_append,List.length_cons,List.length_nil]);omega) ?_
    nofun
    refine j_ad (by (try simp only [List.length_append,List.length_cons,List.length_nil]);omega) ?_
    rw [show v++[32]++glue 32 p r++[58,32,91]++tx b++[32]++u++[40,45,41,93]=glue 32 v vs++58::32::91::(tx b++32::(u++40::[45,41,93])) by rw [hvs,glue];simp]
    refine hq _ (zcm hs (zh1 ok (by omega) (hB.rd 40 [45,41,93] (by decide)))) ?_ (zan (zcb fun z hz=>(hH.low z hz).2) (zai (by decide) (zai (by decide) (zai (by decide) (zan lt (zai (by decide) (zan ulow (by decide))))))))
    rw [hvs,glue]
    simp only [List.length_append,List.length_cons,List.length_nil]
    omega
theorem zkx:∀{xs:List Str} {ns:List Nat} {x:Str} {n:Nat},arOf xs ns x=some n→x∈xs
  | [],_,_,_,h=>by simp [arOf] at h
  | _::_,[],_,_,h=>by simp [arOf] at h
  | y::xs,m::ns,x,n,h=>by
    rw [arOf] at h
    by_cases c:x=y
    · rw [c];exact List.mem_cons_self
    · rw [if_neg c] at h;exact List.mem_cons_of_mem _ (zkx h)
mutual
theorem zem {ar:Str→Option Nat} {ps:List Str} (ha:∀x n,ar x=some n→NameOk x) (hp:∀p∈ps,NameOk p):∀s:Sy,s.wf ar ps→okS s
  | .name x,h=>hp x h
  | .bud,_=>trivial
  | .left a,h=>zem ha hp a h
  | .right a,h=>zem ha hp a h
  | .pair a b,h=>⟨zem ha hp a h.1,zem ha hp b h.2⟩
  | .fork a b c,h=>⟨zem ha hp a h.1,zem ha hp b h.2.1,zem ha hp c h.2.2⟩
  | .send x as,h=>⟨ha x _ h.1,h.2.1,h.2.2.1,zmk ha hp as h.2.2.2⟩
theorem zmk {ar:Str→Option Nat} {ps:List Str} (ha:∀x n,ar x=some n→NameOk x) (hp:∀p∈ps,NameOk p):∀as:List Sy,Sy.wfs ar ps as→okSs as
  | [],_=>trivial
  | a::as,h=>⟨zem ha hp a h.1,zmk ha hp as h.2⟩
end
noncomputable def Bt:Nat→Nat
  | 0=>0
  | n+1=>4*Bt n+13
noncomputable def Bp:Nat→Nat
  | 0=>0
  | n+1=>4*Bp n+1
theorem zo5 {b:Nat}:∀{as:List Sy},(∀a∈as,(tx a).length≤b)→(txt as).length≤as.length*(b+1)
  | [],_=>by simp [txt]
  | a::as,h=>by
    have h1:=h a List.mem_cons_self
    have h2:=zo5 fun x hx=>h x (List.mem_cons_of_mem _ hx)
    rw [txt,List.length_cons,List.length_append,List.length_cons,Nat.succ_mul]
    omega
theorem zl5 {b:Nat}:∀{as:List Sy},(∀a∈as,a.pre.length≤b)→(Sy.pres as).length≤as.length*b
  | [],_=>by simp [Sy.pres]
  | a::as,h=>by
    have h1:=h a List.mem_cons_self
    have h2:=zl5 fun x hx=>h x (List.mem_cons_of_mem _ hx)
    rw [Sy.pres,List.length_append,List.length_cons,Nat.succ_mul]
    omega
theorem zed:∀(n:Nat) (s:Sy),okS s→s.deep≤n→(tx s).length≤Bt n∧s.pre.length≤Bp n
  | 0,s,_,hd=>by cases s<;>simp [Sy.deep] at hd
  | n+1,.name x,h,_=>by
    have:=zen h
    rw [tx,Bt,Bp,Sy.pre,List.length_cons,List.length_nil]
    omega
  | n+1,.bud,_,_=>by rw [tx,Bt,Bp];simp [Sy.pre]
  | n+1,.left a,h,hd=>by
    rw [Sy.deep] at hd
    have:=zed n a h (by omega)
    rw [tx,Sy.pre,Bt,Bp]
    simp only [List.length_cons]
    omega
  | n+1,.right a,h,hd=>by
    rw [Sy.deep] at hd
    have:=zed n a h (by omega)
    rw [tx,Sy.pre,Bt,Bp]
    simp only [List.length_cons]
    omega
  | n+1,.pair a b,h,hd=>by
    rw [Sy.deep] at hd
    have:=zed n a h.1 (by omega)
    have:=zed n b h.2 (by omega)
    rw [tx,Sy.pre,Bt,Bp]
    simp only [List.length_cons,List.length_append,List.length_nil]
    omega
  | n+1,.fork a b c,h,hd=>by
    rw [Sy.deep] at hd
    have:=zed n a h.1 (by omega)
    have:=zed n b h.2.1 (by omega)
    have:=zed n c h.2.2 (by omega)
    rw [tx,Sy.pre,Bt,Bp]
    simp only [List.length_cons,List.length_append,List.length_nil]
    omega
  | n+1,.send x as,h,hd=>by
    obtain ⟨hx,l1,l4,hs⟩:=h
    rw [Sy.deep] at hd
    have hm:∀a∈as,(tx a).length≤Bt n∧a.pre.length≤Bp n:=fun a ha=>zed n a (zel hs a ha) (by have:=zct ha;omega)
    have h2:=zl5 fun a ha=>(hm a ha).2
    have h3:=Nat.mul_le_mul_right (Bp n) l4
    have:=zen hx
    cases as with
    | nil=>simp at l1
    | cons a as =>
      have h4:=(hm a List.mem_cons_self).1
      have h5:=zo5 fun b hb=>(hm b (List.mem_cons_of_mem _ hb)).1
      rw [List.length_cons] at l4
      have h6:=Nat.mul_le_mul_right (Bt n+1) (show as.length≤3 by omega)
      rw [tx,Sy.pre,Bt,Bp]
      simp only [List.length_cons,List.length_append,List.length_nil] at h2 h3 ⊢
      omega
theorem ok_law {f:Addr} {fd:FuncData} (F:Fun K "law" "law" zg5 f fd) (G:Gs K mg) (R:Rfs K mg ES adr) (C_cell_at:Cal3 P w K mg base 99 "_law_cell_at" ["script","k"] zdt) (C_drawn:Cal3 P w K mg base 99 "_law_drawn" ["script","spot","most","deep"] (zj9 4)) (C_text:Cal3 P w K mg base 99 "_law_text" ["saying"] (zlr 13)) (C_refused:Cal3 P w K mg base 99 "_law_refused" ["text"] zew)
    (C_head_fault:Cal3 P w K mg base 99 "_law_head_fault" ["way","name","params","body"] zef) (C_word_fault:Cal3 P w K mg base 99 "_law_word_fault" ["cell","name","params","body"] zee) (C_deep:Cal3 P w K mg base 99 "_law_deep" ["cell","steps","params","name"] zlt) (C_body_fault:Cal3 P w K mg base 99 "_law_body_fault" ["way","body","name"] zeg)
    (C_read_line:Cal3 P w K mg base 99 "read_line" ["text"] (zdi adr)) (C_is_errand:Cal3 P w K mg base 99 "_law_is_errand" ["found"] ze8):FnOk P w K mg base (CX1 P w) 100 f fd ["script"] (lSp K lawS):=by
  refine zmr F zcq fun cdv A outer s H E ns hr h63=>?_
  refine ⟨_,(zac (zas (i:=1) zcq.nd rfl (Or.inl rfl) (ziw (zaa zad (zaa zad zaf))))
 (zac (zas (i:=2) zcq.nd rfl (Or.inl rfl) (e_ix zb4 zc0 (zay C_drawn hr rfl (zaa (e_v 0) (zaa (e_v 1) (zaa zad (zaa zad zaf))))) zad (fun _ _=>rfl)))
 (zac (zas (i:=3) zcq.nd rfl (Or.inl rfl) (e_op zbj zao (zay C_cell_at hr rfl (zaa (e_v 0) (zaa zad zaf))) zad))
 (zac (zas (i:=4) zcq.nd rfl (Or.inl rfl) (zay C_text hr rfl (zaa (e_ix za0 za1 (e_v 2) zad (fun _ _=>rfl)) zaf)))
 (zac (zas (i:=5) zcq.nd rfl (Or.inl rfl) (e_ix za0 za1 (e_v 2) zad (fun _ _=>rfl)))
 (zac (zd2 (zap za3 zaw (e_v 3) zad (nomark _)) (zac (zas (i:=4) zcq.nd rfl (Or.inl rfl) (zay C_text hr rfl (zaa (zay C_deep hr rfl (zaa (e_op zbj zao (zay C_cell_at hr rfl (zaa (e_v 0) (zaa zad zaf))) (e_op zmf zao zad zad)) (zaa zad (zaa (e_ix za0 za1 (e_v 2) zad (fun _ _=>rfl)) (zaa (e_v 5) zaf))))) zaf)))
 (zam (zaq (zay C_refused hr rfl (zaa (e_op zab zae (e_op zab zae (e_op zab zae (e_op zab zae (e_v 5) zaj) (e_bm PySem.F.plainAttrs_str PySem.F.slot_str_join PySem.F.type_str_join zbn zdc zaj (zaa (e_ix za0 za1 (e_v 2) zad (fun _ _=>rfl)) zaf))) zaj) (e_v 4)) zaf))))) zax)
 (zac (zd2 (zjc zk6 zbe zk6 zbe zad (e_v 3) zad) (zam (zaq (zay C_refused hr rfl (zaa (zay C_word_fault hr rfl (zaa (zay C_cell_at hr rfl (zaa (e_v 0) (zaa zad zaf))) (zaa (e_v 5) (zaa (e_ix za0 za1 (e_v 2) zad (fun _ _=>rfl)) (zaa (e_v 4) zaf))))) zaf)))) zax)
 (zac (zd2 (zjc zk6 zbe zk6 zbe zad (e_v 3) zad) (zam (zaq (zay C_refused hr rfl (zaa (zay C_head_fault hr rfl (zaa (e_v 3) (zaa (e_v 5) (zaa (e_ix za0 za1 (e_v 2) zad (fun _ _=>rfl)) (zaa (e_v 4) zaf))))) zaf)))) zax)
 (zac (zd2 (zjc zk6 zbe zk6 zbe zad (e_v 3) zad) (zac (zas (i:=6) zcq.nd rfl (Or.inl rfl) (e_op zab zae (e_op zab zae (e_op zab zae (e_op zab zae (e_v 5) zaj) (e_bm PySem.F.plainAttrs_str PySem.F.slot_str_join PySem.F.type_str_join zbn zdc zaj (zaa (e_ix za0 za1 (e_v 2) zad (fun _ _=>rfl)) zaf))) zaj) (zay C_body_fault hr rfl (zaa (e_v 3) (zaa (e_v 4) (zaa (e_v 5) zaf))))))
 (zam (zaq (zm7 (zay C_refused hr rfl (zaa (e_v 6) zaf)) (zm6 (zay C_refused hr rfl (zaa (e_v 6) zaf))))))) zax)
 (zac (zas (i:=7) zcq.nd rfl (Or.inl rfl) (e_ix za0 za1 (e_v 2) zad (fun _ _=>rfl)))
 (zac (zd2 (zap za3 zaw (e_v 3) zad (nomark _)) (zam (zas (i:=7) zcq.nd rfl (Or.inl rfl) (e_op zez ze5 (zbc (zaa (e_v 5) zaf)) (za8 zdk zfe (e_v 7) zbz (zbi zad))))) zax)
 (zac (zd2 (zap za3 zaw (e_v 3) zad (nomark _)) (zam (zas (i:=7) zcq.nd rfl (Or.inl rfl) (e_op zez ze5 (zbc (zaa (e_ix za0 za1 (e_v 7) zad (fun _ _=>rfl)) zaf)) (za8 zdk zfe (e_v 7) zbz (zbi zad))))) zax)
 (zac (zas (i:=8) zcq.nd rfl (Or.inl rfl) (e_ix za0 za1 (e_v 2) zad (fun _ _=>rfl)))
 (zac (zd2 (zap zmg zbe (e_v 3) zad (nomark _)) (zam (zas (i:=8) zcq.nd rfl (Or.inl rfl) (zbc (zaa zaj (zaa zaj (zaa (za8 zdk zfe (zbc (zaa (zbc (zaa zaj (zaa zaj zaf))) (zaa (e_v 8) (zaa (zbc (zaa zaj zaf)) zaf)))) zbz (zbi (e_op zcx zbt zad (e_op zbj zao (e_v 3) zad)))) zaf)))))) zax)
 (zac (zas (i:=9) zcq.nd rfl (Or.inl rfl) (e_op zab zae (e_op zab zae (e_bm PySem.F.plainAttrs_str PySem.F.slot_str_join PySem.F.type_str_join zda zht zaj (zaa (e_op zik zf9 (ziw (zaa (e_v 5) zaf)) (zdb zdp zf8 rfl G.list boot_list (zaa (e_v 7) zaf))) zaf)) zaj) (zay C_text hr rfl (zaa (e_v 8) zaf))))
 (zac (zas (i:=10) zcq.nd rfl (Or.inl rfl) (zay C_read_line hr rfl (zaa (e_v 9) zaf)))
 (zam (zaq (zm7 (zay C_is_errand hr rfl (zaa (e_v 10) zaf)) (zm6 (e_cmp (zk7 (zqj hr)) dn_eqD (e_v 10) (zbc (zaa (e_v 5) (zaa (e_v 7) (zaa (e_v 8) zaf)))) (nomark _)))))))))))))))))))))),?_⟩
  have cell:∀{k:Int} {S:Hp3} {Q:K3} {W:X3},0≤k→Q (.int (cellAt ns k)) S→zdt [.rol (ns.map D.int),.int k] S Q W:=fun h0 q=>⟨ns,_,rfl,h0,q⟩
  nofun
  intro sp hsp
  nofun
  refine ⟨ns,sp,2,8,2,4,rfl,zag,by decide,by decide,by decide,by decide,by decide,by decide,fun prog i2 b2 hg=>?_⟩
  intro pr hpr
  generalize hS1:up _ pr (.lst (prog.map Er.d))=S1
  have h1:S1 pr=some (.lst (prog.map Er.d)):=by rw [←hS1];exact zag
  clear hS1
  have hlen1:=hg.len1
  match prog,hlen1,h1,hg with
  | e::r,_,h1,hg =>
  have h1:S1 pr=some (.lst (e.d::r.map Er.d)):=h1
  have hed:e.d=.tup [.str e.name,.tup (e.ps.map D.str),e.body.d]:=rfl
  have he:=List.mem_cons_self (a:=e) (l:=r)
  obtain ⟨hw,hd⟩:=hg.wf e he
  obtain ⟨p1,p4,_,pk⟩:=hg.ps e he
  have hnm:=hg.nm e he
  have ok:okS e.body:=zem (fun x n hn=>by
    obtain ⟨e2,he2,rfl⟩:=List.mem_map.mp (zkx hn)
    exact hg.nm e2 he2) pk _ hw
  obtain ⟨t1,t2⟩:=zed 4 _ ok hd
  have eb:Bt 4=1105:=by decide
  have hd4:e.body.deep≤4:=hd
  obtain ⟨v,vs,hH⟩:∃v vs,Hd6 e.name e.ps v vs:=⟨_,_,hd_mk hnm pk p1 p4⟩
  have hnv:=hH.nm
  have hs:∀u∈v::vs,Hs u:=fun u hu=>zhz (hH.wd u hu)
  obtain ⟨v8,vlow⟩:=hH.low v List.mem_cons_self
  nofun
  rw [hed]
  nofun
  refine cell (by decide) ?_
  have w0:=Int.emod_nonneg (cellAt ns 0) (show (31:Int)≠0 by decide)
  have w31:=Int.emod_lt_of_pos (cellAt ns 0) (show (0:Int)<31 by decide)
  nofun
  generalize cellAt ns 0%31=way at w0 w31 ⊢
  refine ⟨e.body,rfl,ok,by omega,by omega,?_⟩
  nofun
  have glow2:∀c∈glue 32 v vs,c<256:=zcb fun u hu=>(hH.low u hu).2
  have t14:(0:Int)<10^(Int.toNat 14):=by decide
  have fin:∀(cs:List Nat) (S:Hp3) (W:X3) (Q:K3),pLine cs=none→cs.length≤5000→(∀c∈cs,c<256)→Q (.bl true) S→zew [.str (textOf cs)] S Q W:=fun cs S W Q a b c d=>⟨cs,rfl,b,c,a,d⟩
  by_cases k20:way=20
  · refine za6 ?_
    nofun
    refine cell (by decide) ?_
    nofun
    refine ⟨_,12,e.ps,e.name,rfl,Int.emod_nonneg _ (by decide),by decide,p1,p4,pk,hnm,fun s hs2=>?_⟩
    nofun
    have hsl:=hs2.len
    refine ⟨s,rfl,hs2.ok,by have:=hs2.deep;omega,by omega,?_⟩
    nofun
    rw [hnv,s_11]
    refine j_ad (by (try simp only [List.length_append,List.length_cons,List.length_nil]);omega) ?_
    nofun
    rw [←s_11]
    refine j_joinP hH fun p r hvs gl glow=>?_
    refine j_ad (by (try simp only [List.length_append,List.length_cons,List.length_nil]);omega) ?_
    nofun
    rw [←t_58]
    refine j_ad (by (try simp only [List.length_append,List.length_cons,List.length_nil]);omega) ?_
    nofun
    refine j_ad (by (try simp only [List.length_append,List.length_cons,List.length_nil]);omega) ?_
    rw [show v++[32]++glue 32 p r++[58,32]++tx s=glue 32 v vs++58::32::tx s by rw [hvs,glue];simp]
    refine fin _ _ _ _ (zcm hs (f20 hs2.ok (by have:=hs2.deep;omega))) ?_ (zan glow2 (zai (by decide) (zai (by decide) (zcv s hs2.ok)))) rfl
    rw [hvs,glue]
    simp only [List.length_append,List.length_cons,List.length_nil]
    omega
  refine za6 ?_
  nofun
  by_cases k9:9≤way∧way≤10
  · obtain ⟨k9a,k9b⟩:=k9
    refine za6 ?_
    nofun
    refine cell (by decide) ?_
    nofun
    refine ⟨_,e.name,e.ps,v,vs,e.body,rfl,hH,ok,by omega,by omega,fun cs hn hl hlow=>?_⟩
    nofun
    exact fin _ _ _ _ hn (by omega) hlow rfl
  by_cases k8:1≤way∧way≤8
  · obtain ⟨k8a,k8b⟩:=k8
    refine za6 ?_
    nofun
    refine za6 ?_
    nofun
    refine ⟨_,e.name,e.ps,v,vs,e.body,rfl,k8a,k8b,hH,ok,by omega,fun cs hn hl hlow=>?_⟩
    nofun
    exact fin _ _ _ _ hn (by omega) hlow rfl
  by_cases k11:11≤way∧way≤22
  · obtain ⟨k11a,k11b⟩:=k11
    refine za6 ?_
    nofun
    refine za6 ?_
    nofun
    refine za6 ?_
    nofun
    rw [hnv,s_11]
    refine j_ad (by (try simp only [List.length_append,List.length_cons,List.length_nil]);omega) ?_
    nofun
    rw [←s_11]
    refine j_joinP hH fun p r hvs gl glow=>?_
    refine j_ad (by (try simp only [List.length_append,List.length_cons,List.length_nil]);omega) ?_
    nofun
    rw [←t_58]
    refine j_ad (by (try simp only [List.length_append,List.length_cons,List.length_nil]);omega) ?_
    nofun
    refine ⟨_,e.body,e.name,by rw [hnv],k11a,k11b,k20,ok,by omega,by omega,hnm,fun bd hn hl hlow=>?_⟩
    refine j_ad (by (try simp only [List.length_append,List.length_cons,List.length_nil]);omega) ?_
    rw [show v++[32]++glue 32 p r++[58,32]++bd=glue 32 v vs++58::32::bd by rw [hvs,glue];simp]
    have hz:(glue 32 v vs++58::32::bd).length≤5000:=by
      rw [hvs,glue]
      simp only [List.length_append,List.length_cons,List.length_nil]
      omega
    have hz2:=zan glow2 (zai (show (58:Nat)<256 by decide) (zai (show (32:Nat)<256 by decide) hlow))
    nofun
    refine fin _ _ _ _ (zcm hs hn) hz hz2 ?_
    nofun
    exact fin _ _ _ _ (zcm hs hn) hz hz2 rfl
  have kz:way=0∨23≤way:=by omega
  refine j_ifm (fun σ S=>σ=[some (.rol (ns.map D.int)),some (.ref sp),some (.tup [.str e.name,.tup (e.ps.map D.str),e.body.d]),some (.int way),some (.str (textOf (tx e.body))),some (.str e.name),none,none,none,none,none]∧S=S1) (fun n' hn'=>?_) ?_
  · rcases kz with kz|kz
    · nofun
      exact hn' _ _ ⟨rfl,rfl⟩
    · nofun
      exact hn' _ _ ⟨rfl,rfl⟩
  rintro σ S ⟨rfl,rfl⟩
  nofun
  refine j_ifm (fun σ S'=>σ=[some (.rol (ns.map D.int)),some (.ref sp),some (.tup [.str e.name,.tup (e.ps.map D.str),e.body.d]),some (.int way),some (.str (textOf (tx e.body))),some (.str e.name),none,none,none,none,none]∧S'=S) (fun n' hn'=>?_) ?_
  · rcases kz with kz|kz
    · nofun
      exact hn' _ _ ⟨rfl,rfl⟩
    · nofun
      exact hn' _ _ ⟨rfl,rfl⟩
  rintro σ S ⟨rfl,rfl⟩
  nofun
  refine j_ifm (fun σ S'=>σ=[some (.rol (ns.map D.int)),some (.ref sp),some (.tup [.str e.name,.tup (e.ps.map D.str),e.body.d]),some (.int way),some (.str (textOf (tx e.body))),some (.str e.name),none,none,none,none,none]∧S'=S) (fun n' hn'=>?_) ?_
  · rcases kz with kz|kz
    · nofun
      exact hn' _ _ ⟨rfl,rfl⟩
    · nofun
      exact hn' _ _ ⟨rfl,rfl⟩
  rintro σ S ⟨rfl,rfl⟩
  nofun
  refine j_ifm (fun σ S'=>∃ps2:List Str,σ=[some (.rol (ns.map D.int)),some (.ref sp),some (.tup [.str e.name,.tup (e.ps.map D.str),e.body.d]),some (.int way),some (.str (textOf (tx e.body))),some (.str e.name),none,some (.tup (ps2.map D.str)),none,none,none]∧S'=S∧1≤ps2.length∧ps2.length≤4∧∀p∈ps2,NameOk p) (fun n' hn'=>?_) ?_
  · by_cases k23:way=23
    · nofun
      rw [zd8 (by decide)]
      refine j_catT (by simp) (zal (by simp only [List.length_cons,List.length_nil,List.length_take];omega)) ?_
      refine hn' _ _ ⟨e.name::e.ps.take 3,?_,rfl,by simp,?_,fun p hp=>?_⟩
      · rw [List.map_cons,List.map_take]
        rfl
      · simp only [List.length_cons,List.length_take]
        omega
      · rcases List.mem_cons.mp hp with rfl|hp
        · exact hnm
        · exact pk p (List.mem_of_mem_take hp)
    · nofun
      exact hn' _ _ ⟨e.ps,rfl,rfl,p1,p4,pk⟩
  rintro σ S2 ⟨ps2,rfl,rfl,q1,q4,qk⟩
  nofun
  refine j_ifm (fun σ S'=>∃ps2:List Str,σ=[some (.rol (ns.map D.int)),some (.ref sp),some (.tup [.str e.name,.tup (e.ps.map D.str),e.body.d]),some (.int way),some (.str (textOf (tx e.body))),some (.str e.name),none,some (.tup (ps2.map D.str)),none,none,none]∧S'=S2∧1≤ps2.length∧ps2.length≤4∧∀p∈ps2,NameOk p) (fun n' hn'=>?_) ?_
  · by_cases k24:way=24
    · obtain ⟨q0,qr,rfl⟩:∃q0 qr,ps2=q0::qr:=List.exists_cons_of_length_pos (by omega)
      nofun
      rw [zd8 (by decide)]
      refine j_catT (by simp) (zal (by simp only [List.length_cons,List.length_nil,List.length_take];omega)) ?_
      refine hn' _ _ ⟨q0::(q0::qr).take 3,?_,rfl,by simp,?_,fun p hp=>?_⟩
      · have hm:(q0::(q0::qr).take 3).map D.str=[D.str q0]++(D.str q0::qr.map D.str).take (Int.toNat 3):=by rw [List.map_cons,List.map_take];rfl
        rw [hm]
        rfl
      · simp only [List.length_cons,List.length_take]
        omega
      · rcases List.mem_cons.mp hp with rfl|hp
        · exact qk p List.mem_cons_self
        · exact qk p (List.mem_of_mem_take hp)
    · nofun
      exact hn' _ _ ⟨ps2,rfl,rfl,q1,q4,qk⟩
  clear q1 q4 qk ps2
  rintro σ S3 ⟨ps2,rfl,rfl,q1,q4,qk⟩
  nofun
  have nzz:NameOk "zz":=⟨[122,122],by decide +kernel,by decide,by decide,by decide⟩
  have nyy:NameOk "yy":=⟨[121,121],by decide +kernel,by decide,by decide,by decide⟩
  refine j_ifm (fun σ S'=>∃s:Sy,σ=[some (.rol (ns.map D.int)),some (.ref sp),some (.tup [.str e.name,.tup (e.ps.map D.str),e.body.d]),some (.int way),some (.str (textOf (tx e.body))),some (.str e.name),none,some (.tup (ps2.map D.str)),some s.d,none,none]∧S'=S3∧okS s∧s.deep≤12∧(tx s).length≤1200) (fun n' hn'=>?_) ?_
  · by_cases k24:24<way
    · have m0:=Int.emod_nonneg way (show (3:Int)≠0 by decide)
      have m3:=Int.emod_lt_of_pos way (show (0:Int)<3 by decide)
      have zl:=zen nzz
      have yl:=zen nyy
      nofun
      rw [zd8 (by omega)]
      rcases (by omega:way%3=0∨way%3=1∨way%3=2) with m|m|m
      · rw [m]
        refine hn' _ _ ⟨.send "zz" [.name "yy"],rfl,rfl,⟨nzz,by simp,by simp,nyy,trivial⟩,by simp [Sy.deep,Sy.deeps],?_⟩
        simp only [tx,txt,List.length_append,List.length_cons,List.length_nil]
        omega
      · rw [m]
        refine hn' _ _ ⟨.send "zz" [.name "yy",e.body],rfl,rfl,⟨nzz,by simp,by simp,nyy,ok,trivial⟩,by simp only [Sy.deep,Sy.deeps];omega,?_⟩
        simp only [tx,txt,List.length_append,List.length_cons,List.length_nil]
        omega
      · rw [m]
        refine hn' _ _ ⟨.send "zz" [.name "yy",e.body,.bud],rfl,rfl,⟨nzz,by simp,by simp,nyy,ok,trivial,trivial⟩,by simp only [Sy.deep,Sy.deeps];omega,?_⟩
        simp only [tx,txt,List.length_append,List.length_cons,List.length_nil]
        omega
    · nofun
      exact hn' _ _ ⟨e.body,rfl,rfl,ok,by omega,by omega⟩
  rintro σ S4 ⟨s2,rfl,rfl,ok2,hd2,hl2⟩
  obtain ⟨v',vs',hH2⟩:∃v vs,Hd6 e.name ps2 v vs:=⟨_,_,hd_mk hnm qk q1 q4⟩
  have hnv2:=hH2.nm
  have hs2:∀u∈v'::vs',Hs u:=fun u hu=>zhz (hH2.wd u hu)
  have lvs:=hH2.l4
  have lvs1:=hH2.l1
  have g1:=zhp (b:=8) vs' v' fun u hu=>(hH2.low u hu).1
  have g2:=Nat.mul_le_mul_right (8+1) (show vs'.length+1≤5 by omega)
  have g3:=zeq vs' v'
  have hrow:[D.str e.name]++ps2.map D.str=((v'::vs').map textOf).map D.str:=by
    rw [hH2.ps,hnv2]
    rfl
  have hpl:ps2.length=vs'.length:=by rw [hH2.ps,List.length_map]
  have hdw:hdW (v'::vs')=true:=by
    unfold hdW
    have:(v'::vs').all wdB=true:=by
      rw [List.all_eq_true]
      exact fun u hu=>zjb.mpr (hH2.wd u hu)
    rw [this,Bool.true_and,Bool.and_eq_true,decide_eq_true_eq,decide_eq_true_eq,List.length_cons]
    exact ⟨by omega,by omega⟩
  have heq:pLine (glue 32 v' vs'++58::32::tx s2)=some ⟨e.name,ps2,s2⟩:=by
    rw [zha hs2,hdw,if_pos rfl]
    unfold pB
    have:=zd4 12 s2 [] ok2 hd2 zj7
    rw [List.append_nil] at this
    rw [this,Option.bind_some,if_pos rfl,hnv2,←hH2.ps]
  nofun
  intro pa hpa
  have a1:up S4 pa (.lst [.str e.name]) pa=some (.lst [.str e.name]):=zag
  generalize up S4 pa (.lst [.str e.name])=S5 at a1 ⊢
  nofun
  intro pb hpb
  have a2:=zau (o:=.lst (ps2.map D.str)) a1 hpb
  have a3:up S5 pb (.lst (ps2.map D.str)) pb=some (.lst (ps2.map D.str)):=zag
  generalize up S5 pb (.lst (ps2.map D.str))=S6 at a2 a3 ⊢
  refine j_catL a2 a3 (zal (by rw [List.length_map];simp only [List.length_cons,List.length_nil];omega)) ?_
  rw [hrow]
  intro pc hpc
  refine ⟨textOf [32],_,_,congrArg D.str t_32.symm,rfl,.inl ⟨pc,rfl,zag⟩,?_,?_⟩
  · rw [zdf,zak]
    simp only [List.length_map,List.length_cons,List.length_nil] at g3 ⊢
    omega
  rw [zep]
  nofun
  rw [←t_58]
  refine j_ad (by (try simp only [List.length_append,List.length_cons,List.length_nil]);omega) ?_
  nofun
  refine ⟨s2,rfl,ok2,by omega,by omega,?_⟩
  refine j_ad (by (try simp only [List.length_append,List.length_cons,List.length_nil]);omega) ?_
  rw [show glue 32 v' vs'++[58,32]++tx s2=glue 32 v' vs'++58::32::tx s2 by simp]
  nofun
  have hz:(glue 32 v' vs'++58::32::tx s2).length≤5000:=by
    simp only [List.length_append,List.length_cons,List.length_nil]
    omega
  refine ⟨_,rfl,hz,zan (zcb fun u hu=>(hH2.low u hu).2) (zai (by decide) (zai (by decide) (zcv s2 ok2))),fun er her=>?_,fun hn=>by rw [heq] at hn;cases hn⟩
  rw [heq] at her
  cases her
  nofun
  refine ⟨⟨e.name,ps2,s2⟩,rfl,ok2,hd2,by show ps2.length≤100;omega,?_⟩
  nofun
  refine zqn (Er.d_pure ⟨e.name,ps2,s2⟩) (Nat.le_trans (Er.d_deep ⟨e.name,ps2,s2⟩) (by show 2*s2.deep+2≤200;omega)) ?_
  rfl
end
theorem all_mk {l:PySem.W.OpenLaw} {w:World} {K:PySem.W.Frag} {h:Heap} {mg:Str→Option Value} {fa f_read_line f_refuse_unfit_name f_is_letter f_refuse_unfit_count f_cell_at f_names f_next f_saying f_drawn f_text f_is_saying f_is_errand f_refused f_head_fault f_word_fault f_deep f_body_fault f_R_init f_R_sign_here f_R_read_saying f_R_read_named f_R_read_word f_R_read_row f_R_refuse_rest f_law:Addr}
    (X:K.In h) (G:h.Ns mainGlobals mg) (hfa:mg "law"=some (.ref fa))
    {od_read_line an_read_line od_refuse_unfit_name an_refuse_unfit_name od_is_letter an_is_letter od_refuse_unfit_count an_refuse_unfit_count od_cell_at an_cell_at od_names an_names od_next an_next od_saying an_saying od_drawn an_drawn od_text an_text od_is_saying an_is_saying od_is_errand an_is_errand od_refused an_refused od_head_fault an_head_fault od_word_fault an_word_fault od_deep an_deep od_body_fault an_body_fault od_R_init an_R_init od_R_sign_here an_R_sign_here od_R_read_saying an_R_read_saying od_R_read_named an_R_read_named od_R_read_word an_R_read_word od_R_read_row an_R_read_row od_R_refuse_rest an_R_refuse_rest od_law an_law:Option Addr}
    {sl_read_line sl_refuse_unfit_name sl_is_letter sl_refuse_unfit_count sl_cell_at sl_names sl_next sl_saying sl_drawn sl_text sl_is_saying sl_is_errand sl_refused sl_head_fault sl_word_fault sl_deep sl_body_fault sl_R_init sl_R_sign_here sl_R_read_saying sl_R_read_named sl_R_read_word sl_R_read_row sl_R_refuse_rest sl_law:Array (Option Value)}
    {oc_read_line kV_read_line dc_read_line pm_read_line cd_read_line ct_read_line oc_refuse_unfit_name kV_refuse_unfit_name dc_refuse_unfit_name pm_refuse_unfit_name cd_refuse_unfit_name ct_refuse_unfit_name oc_is_letter kV_is_letter dc_is_letter pm_is_letter cd_is_letter ct_is_letter oc_refuse_unfit_count kV_refuse_unfit_count dc_refuse_unfit_count pm_refuse_unfit_count cd_refuse_unfit_count ct_refuse_unfit_count oc_cell_at kV_cell_at dc_cell_at pm_cell_at cd_cell_at ct_cell_at oc_names kV_names dc_names pm_names cd_names ct_names oc_next kV_next dc_next pm_next cd_next ct_next oc_saying kV_saying dc_saying pm_saying cd_saying ct_saying oc_drawn kV_drawn dc_drawn pm_drawn cd_drawn ct_drawn oc_text kV_text dc_text pm_text cd_text ct_text oc_is_saying kV_is_saying dc_is_saying pm_is_saying cd_is_saying ct_is_saying oc_is_errand kV_is_errand dc_is_errand pm_is_errand cd_is_errand ct_is_errand oc_refused kV_refused dc_refused pm_refused cd_refused ct_refused oc_head_fault kV_head_fault dc_head_fault pm_head_fault cd_head_fault ct_head_fault oc_word_fault kV_word_fault dc_word_fault pm_word_fault cd_word_fault ct_word_fault oc_deep kV_deep dc_deep pm_deep cd_deep ct_deep oc_body_fault kV_body_fault dc_body_fault pm_body_fault cd_body_fault ct_body_fault oc_R_init kV_R_init dc_R_init pm_R_init cd_R_init ct_R_init oc_R_sign_here kV_R_sign_here dc_R_sign_here pm_R_sign_here cd_R_sign_here ct_R_sign_here oc_R_read_saying kV_R_read_saying dc_R_read_saying pm_R_read_saying cd_R_read_saying ct_R_read_saying oc_R_read_named kV_R_read_named dc_R_read_named pm_R_read_named cd_R_read_named ct_R_read_named oc_R_read_word kV_R_read_word dc_R_read_word pm_R_read_word cd_R_read_word ct_R_read_word oc_R_read_row kV_R_read_row dc_R_read_row pm_R_read_row cd_R_read_row ct_R_read_row oc_R_refuse_rest kV_R_refuse_rest dc_R_refuse_rest pm_R_refuse_rest cd_R_refuse_rest ct_R_refuse_rest oc_law kV_law dc_law pm_law cd_law ct_law:Value}
    {tk_MOST_LETTERS tk_MOST_IN_ROW tk_MOST_DEEP:Tok}
    {CR:Addr}
    (aC:PySem.W.nsIn K mainGlobals "SayingReader"=some (some (.ref CR)))
    (a_read_line:PySem.W.nsIn K mainGlobals "read_line"=some (some (.ref f_read_line)))
    (l_read_line:K.lookup f_read_line=some ⟨oc_read_line,od_read_line,.func (PySem.W.fnOf "read_line" "read_line" (defArgs zb6) (defBody zb6) (defScope zb6) .none kV_read_line dc_read_line pm_read_line an_read_line cd_read_line ct_read_line),sl_read_line⟩)
    (c_read_line:PySem.W.codeIn K cd_read_line "read_line"=true) (k_read_line:PySem.W.keepIn K (.ref f_read_line)=true)
    (a_refuse_unfit_name:PySem.W.nsIn K mainGlobals "refuse_unfit_name"=some (some (.ref f_refuse_unfit_name)))
    (l_refuse_unfit_name:K.lookup f_refuse_unfit_name=some ⟨oc_refuse_unfit_name,od_refuse_unfit_name,.func (PySem.W.fnOf "refuse_unfit_name" "refuse_unfit_name" (defArgs zat) (defBody zat) (defScope zat) .none kV_refuse_unfit_name dc_refuse_unfit_name pm_refuse_unfit_name an_refuse_unfit_name cd_refuse_unfit_name ct_refuse_unfit_name),sl_refuse_unfit_name⟩)
    (c_refuse_unfit_name:PySem.W.codeIn K cd_refuse_unfit_name "refuse_unfit_name"=true) (k_refuse_unfit_name:PySem.W.keepIn K (.ref f_refuse_unfit_name)=true)
    (a_is_letter:PySem.W.nsIn K mainGlobals "is_letter"=some (some (.ref f_is_letter)))
    (l_is_letter:K.lookup f_is_letter=some ⟨oc_is_letter,od_is_letter,.func (PySem.W.fnOf "is_letter" "is_letter" (defArgs zb7) (defBody zb7) (defScope zb7) .none kV_is_letter dc_is_letter pm_is_letter an_is_letter cd_is_letter ct_is_letter),sl_is_letter⟩)
    (c_is_letter:PySem.W.codeIn K cd_is_letter "is_letter"=true) (k_is_letter:PySem.W.keepIn K (.ref f_is_letter)=true)
    (a_refuse_unfit_count:PySem.W.nsIn K mainGlobals "refuse_unfit_count"=some (some (.ref f_refuse_unfit_count)))
    (l_refuse_unfit_count:K.lookup f_refuse_unfit_count=some ⟨oc_refuse_unfit_count,od_refuse_unfit_count,.func (PySem.W.fnOf "refuse_unfit_count" "refuse_unfit_count" (defArgs zaz) (defBody zaz) (defScope zaz) .none kV_refuse_unfit_count dc_refuse_unfit_count pm_refuse_unfit_count an_refuse_unfit_count cd_refuse_unfit_count ct_refuse_unfit_count),sl_refuse_unfit_count⟩)
    (c_refuse_unfit_count:PySem.W.codeIn K cd_refuse_unfit_count "refuse_unfit_count"=true) (k_refuse_unfit_count:PySem.W.keepIn K (.ref f_refuse_unfit_count)=true)
    (a_cell_at:PySem.W.nsIn K mainGlobals "_law_cell_at"=some (some (.ref f_cell_at)))
    (l_cell_at:K.lookup f_cell_at=some ⟨oc_cell_at,od_cell_at,.func (PySem.W.fnOf "_law_cell_at" "_law_cell_at" (defArgs zc6) (defBody zc6) (defScope zc6) .none kV_cell_at dc_cell_at pm_cell_at an_cell_at cd_cell_at ct_cell_at),sl_cell_at⟩)
    (c_cell_at:PySem.W.codeIn K cd_cell_at "_law_cell_at"=true) (k_cell_at:PySem.W.keepIn K (.ref f_cell_at)=true)
    (a_names:PySem.W.nsIn K mainGlobals "_law_names"=some (some (.ref f_names)))
    (l_names:K.lookup f_names=some ⟨oc_names,od_names,.func (PySem.W.fnOf "_law_names" "_law_names" (defArgs zc8) (defBody zc8) (defScope zc8) .none kV_names dc_names pm_names an_names cd_names ct_names),sl_names⟩)
    (c_names:PySem.W.codeIn K cd_names "_law_names"=true) (k_names:PySem.W.keepIn K (.ref f_names)=true)
    (a_next:PySem.W.nsIn K mainGlobals "_law_next"=some (some (.ref f_next)))
    (l_next:K.lookup f_next=some ⟨oc_next,od_next,.func (PySem.W.fnOf "_law_next" "_law_next" (defArgs zgl) (defBody zgl) (defScope zgl) .none kV_next dc_next pm_next an_next cd_next ct_next),sl_next⟩)
    (c_next:PySem.W.codeIn K cd_next "_law_next"=true) (k_next:PySem.W.keepIn K (.ref f_next)=true)
    (a_saying:PySem.W.nsIn K mainGlobals "_law_saying"=some (some (.ref f_saying)))
    (l_saying:K.lookup f_saying=some ⟨oc_saying,od_saying,.func (PySem.W.fnOf "_law_saying" "_law_saying" (defArgs zc7) (defBody zc7) (defScope zc7) .none kV_saying dc_saying pm_saying an_saying cd_saying ct_saying),sl_saying⟩)
    (c_saying:PySem.W.codeIn K cd_saying "_law_saying"=true) (k_saying:PySem.W.keepIn K (.ref f_saying)=true)
    (a_drawn:PySem.W.nsIn K mainGlobals "_law_drawn"=some (some (.ref f_drawn)))
    (l_drawn:K.lookup f_drawn=some ⟨oc_drawn,od_drawn,.func (PySem.W.fnOf "_law_drawn" "_law_drawn" (defArgs zd3) (defBody zd3) (defScope zd3) .none kV_drawn dc_drawn pm_drawn an_drawn cd_drawn ct_drawn),sl_drawn⟩)
    (c_drawn:PySem.W.codeIn K cd_drawn "_law_drawn"=true) (k_drawn:PySem.W.keepIn K (.ref f_drawn)=true)
    (a_text:PySem.W.nsIn K mainGlobals "_law_text"=some (some (.ref f_text)))
    (l_text:K.lookup f_text=some ⟨oc_text,od_text,.func (PySem.W.fnOf "_law_text" "_law_text" (defArgs zfa) (defBody zfa) (defScope zfa) .none kV_text dc_text pm_text an_text cd_text ct_text),sl_text⟩)
    (c_text:PySem.W.codeIn K cd_text "_law_text"=true) (k_text:PySem.W.keepIn K (.ref f_text)=true)
    (a_is_saying:PySem.W.nsIn K mainGlobals "_law_is_saying"=some (some (.ref f_is_saying)))
    (l_is_saying:K.lookup f_is_saying=some ⟨oc_is_saying,od_is_saying,.func (PySem.W.fnOf "_law_is_saying" "_law_is_saying" (defArgs zbl) (defBody zbl) (defScope zbl) .none kV_is_saying dc_is_saying pm_is_saying an_is_saying cd_is_saying ct_is_saying),sl_is_saying⟩)
    (c_is_saying:PySem.W.codeIn K cd_is_saying "_law_is_saying"=true) (k_is_saying:PySem.W.keepIn K (.ref f_is_saying)=true)
    (a_is_errand:PySem.W.nsIn K mainGlobals "_law_is_errand"=some (some (.ref f_is_errand)))
    (l_is_errand:K.lookup f_is_errand=some ⟨oc_is_errand,od_is_errand,.func (PySem.W.fnOf "_law_is_errand" "_law_is_errand" (defArgs zbu) (defBody zbu) (defScope zbu) .none kV_is_errand dc_is_errand pm_is_errand an_is_errand cd_is_errand ct_is_errand),sl_is_errand⟩)
    (c_is_errand:PySem.W.codeIn K cd_is_errand "_law_is_errand"=true) (k_is_errand:PySem.W.keepIn K (.ref f_is_errand)=true)
    (a_refused:PySem.W.nsIn K mainGlobals "_law_refused"=some (some (.ref f_refused)))
    (l_refused:K.lookup f_refused=some ⟨oc_refused,od_refused,.func (PySem.W.fnOf "_law_refused" "_law_refused" (defArgs zc5) (defBody zc5) (defScope zc5) .none kV_refused dc_refused pm_refused an_refused cd_refused ct_refused),sl_refused⟩)
    (c_refused:PySem.W.codeIn K cd_refused "_law_refused"=true) (k_refused:PySem.W.keepIn K (.ref f_refused)=true)
    (a_head_fault:PySem.W.nsIn K mainGlobals "_law_head_fault"=some (some (.ref f_head_fault)))
    (l_head_fault:K.lookup f_head_fault=some ⟨oc_head_fault,od_head_fault,.func (PySem.W.fnOf "_law_head_fault" "_law_head_fault" (defArgs zbx) (defBody zbx) (defScope zbx) .none kV_head_fault dc_head_fault pm_head_fault an_head_fault cd_head_fault ct_head_fault),sl_head_fault⟩)
    (c_head_fault:PySem.W.codeIn K cd_head_fault "_law_head_fault"=true) (k_head_fault:PySem.W.keepIn K (.ref f_head_fault)=true)
    (a_word_fault:PySem.W.nsIn K mainGlobals "_law_word_fault"=some (some (.ref f_word_fault)))
    (l_word_fault:K.lookup f_word_fault=some ⟨oc_word_fault,od_word_fault,.func (PySem.W.fnOf "_law_word_fault" "_law_word_fault" (defArgs zbw) (defBody zbw) (defScope zbw) .none kV_word_fault dc_word_fault pm_word_fault an_word_fault cd_word_fault ct_word_fault),sl_word_fault⟩)
    (c_word_fault:PySem.W.codeIn K cd_word_fault "_law_word_fault"=true) (k_word_fault:PySem.W.keepIn K (.ref f_word_fault)=true)
    (a_deep:PySem.W.nsIn K mainGlobals "_law_deep"=some (some (.ref f_deep)))
    (l_deep:K.lookup f_deep=some ⟨oc_deep,od_deep,.func (PySem.W.fnOf "_law_deep" "_law_deep" (defArgs zgm) (defBody zgm) (defScope zgm) .none kV_deep dc_deep pm_deep an_deep cd_deep ct_deep),sl_deep⟩)
    (c_deep:PySem.W.codeIn K cd_deep "_law_deep"=true) (k_deep:PySem.W.keepIn K (.ref f_deep)=true)
    (a_body_fault:PySem.W.nsIn K mainGlobals "_law_body_fault"=some (some (.ref f_body_fault)))
    (l_body_fault:K.lookup f_body_fault=some ⟨oc_body_fault,od_body_fault,.func (PySem.W.fnOf "_law_body_fault" "_law_body_fault" (defArgs zby) (defBody zby) (defScope zby) .none kV_body_fault dc_body_fault pm_body_fault an_body_fault cd_body_fault ct_body_fault),sl_body_fault⟩)
    (c_body_fault:PySem.W.codeIn K cd_body_fault "_law_body_fault"=true) (k_body_fault:PySem.W.keepIn K (.ref f_body_fault)=true)
    (a_R_init:PySem.W.findIn K (.ref CR) "__init__"=some (some (.ref f_R_init))) (i_R_init:PySem.W.isFn K (.ref f_R_init)=true)
    (l_R_init:K.lookup f_R_init=some ⟨oc_R_init,od_R_init,.func (PySem.W.fnOf "__init__" "SayingReader.__init__" (defArgs zdu) (defBody zdu) (defScope zdu) .none kV_R_init dc_R_init pm_R_init an_R_init cd_R_init ct_R_init),sl_R_init⟩)
    (c_R_init:PySem.W.codeIn K cd_R_init "SayingReader.__init__"=true) (k_R_init:PySem.W.keepIn K (.ref f_R_init)=true)
    (a_R_sign_here:PySem.W.findIn K (.ref CR) "sign_here"=some (some (.ref f_R_sign_here))) (i_R_sign_here:PySem.W.isFn K (.ref f_R_sign_here)=true)
    (l_R_sign_here:K.lookup f_R_sign_here=some ⟨oc_R_sign_here,od_R_sign_here,.func (PySem.W.fnOf "sign_here" "SayingReader.sign_here" (defArgs zbo) (defBody zbo) (defScope zbo) .none kV_R_sign_here dc_R_sign_here pm_R_sign_here an_R_sign_here cd_R_sign_here ct_R_sign_here),sl_R_sign_here⟩)
    (c_R_sign_here:PySem.W.codeIn K cd_R_sign_here "SayingReader.sign_here"=true) (k_R_sign_here:PySem.W.keepIn K (.ref f_R_sign_here)=true)
    (a_R_read_saying:PySem.W.findIn K (.ref CR) "read_saying"=some (some (.ref f_R_read_saying))) (i_R_read_saying:PySem.W.isFn K (.ref f_R_read_saying)=true)
    (l_R_read_saying:K.lookup f_R_read_saying=some ⟨oc_R_read_saying,od_R_read_saying,.func (PySem.W.fnOf "read_saying" "SayingReader.read_saying" (defArgs za5) (defBody za5) (defScope za5) .none kV_R_read_saying dc_R_read_saying pm_R_read_saying an_R_read_saying cd_R_read_saying ct_R_read_saying),sl_R_read_saying⟩)
    (c_R_read_saying:PySem.W.codeIn K cd_R_read_saying "SayingReader.read_saying"=true) (k_R_read_saying:PySem.W.keepIn K (.ref f_R_read_saying)=true)
    (a_R_read_named:PySem.W.findIn K (.ref CR) "read_named"=some (some (.ref f_R_read_named))) (i_R_read_named:PySem.W.isFn K (.ref f_R_read_named)=true)
    (l_R_read_named:K.lookup f_R_read_named=some ⟨oc_R_read_named,od_R_read_named,.func (PySem.W.fnOf "read_named" "SayingReader.read_named" (defArgs zbb) (defBody zbb) (defScope zbb) .none kV_R_read_named dc_R_read_named pm_R_read_named an_R_read_named cd_R_read_named ct_R_read_named),sl_R_read_named⟩)
    (c_R_read_named:PySem.W.codeIn K cd_R_read_named "SayingReader.read_named"=true) (k_R_read_named:PySem.W.keepIn K (.ref f_R_read_named)=true)
    (a_R_read_word:PySem.W.findIn K (.ref CR) "read_word"=some (some (.ref f_R_read_word))) (i_R_read_word:PySem.W.isFn K (.ref f_R_read_word)=true)
    (l_R_read_word:K.lookup f_R_read_word=some ⟨oc_R_read_word,od_R_read_word,.func (PySem.W.fnOf "read_word" "SayingReader.read_word" (defArgs zbp) (defBody zbp) (defScope zbp) .none kV_R_read_word dc_R_read_word pm_R_read_word an_R_read_word cd_R_read_word ct_R_read_word),sl_R_read_word⟩)
    (c_R_read_word:PySem.W.codeIn K cd_R_read_word "SayingReader.read_word"=true) (k_R_read_word:PySem.W.keepIn K (.ref f_R_read_word)=true)
    (a_R_read_row:PySem.W.findIn K (.ref CR) "read_row"=some (some (.ref f_R_read_row))) (i_R_read_row:PySem.W.isFn K (.ref f_R_read_row)=true)
    (l_R_read_row:K.lookup f_R_read_row=some ⟨oc_R_read_row,od_R_read_row,.func (PySem.W.fnOf "read_row" "SayingReader.read_row" (defArgs zbm) (defBody zbm) (defScope zbm) .none kV_R_read_row dc_R_read_row pm_R_read_row an_R_read_row cd_R_read_row ct_R_read_row),sl_R_read_row⟩)
    (c_R_read_row:PySem.W.codeIn K cd_R_read_row "SayingReader.read_row"=true) (k_R_read_row:PySem.W.keepIn K (.ref f_R_read_row)=true)
    (a_R_refuse_rest:PySem.W.findIn K (.ref CR) "refuse_rest"=some (some (.ref f_R_refuse_rest))) (i_R_refuse_rest:PySem.W.isFn K (.ref f_R_refuse_rest)=true)
    (l_R_refuse_rest:K.lookup f_R_refuse_rest=some ⟨oc_R_refuse_rest,od_R_refuse_rest,.func (PySem.W.fnOf "refuse_rest" "SayingReader.refuse_rest" (defArgs zbd) (defBody zbd) (defScope zbd) .none kV_R_refuse_rest dc_R_refuse_rest pm_R_refuse_rest an_R_refuse_rest cd_R_refuse_rest ct_R_refuse_rest),sl_R_refuse_rest⟩)
    (c_R_refuse_rest:PySem.W.codeIn K cd_R_refuse_rest "SayingReader.refuse_rest"=true) (k_R_refuse_rest:PySem.W.keepIn K (.ref f_R_refuse_rest)=true)
    (a_law:PySem.W.nsIn K mainGlobals "law"=some (some (.ref f_law)))
    (l_law:K.lookup f_law=some ⟨oc_law,od_law,.func (PySem.W.fnOf "law" "law" (defArgs zg5) (defBody zg5) (defScope zg5) .none kV_law dc_law pm_law an_law cd_law ct_law),sl_law⟩)
    (c_law:PySem.W.codeIn K cd_law "law"=true) (k_law:PySem.W.keepIn K (.ref f_law)=true)
    (z_len:PySem.W.nsIn K mainGlobals "len"=some none)
    (z_range:PySem.W.nsIn K mainGlobals "range"=some none)
    (z_isinstance:PySem.W.nsIn K mainGlobals "isinstance"=some none)
    (z_str:PySem.W.nsIn K mainGlobals "str"=some none)
    (z_tuple:PySem.W.nsIn K mainGlobals "tuple"=some none)
    (z_list:PySem.W.nsIn K mainGlobals "list"=some none)
    (z_all:PySem.W.nsIn K mainGlobals "all"=some none)
    (z_ValueError:PySem.W.nsIn K mainGlobals "ValueError"=some none)
    (z_MOST_LETTERS:PySem.W.nsIn K mainGlobals "MOST_LETTERS"=some (some (.int 8 tk_MOST_LETTERS)))
    (z_MOST_IN_ROW:PySem.W.nsIn K mainGlobals "MOST_IN_ROW"=some (some (.int 4 tk_MOST_IN_ROW)))
    (z_MOST_DEEP:PySem.W.nsIn K mainGlobals "MOST_DEEP"=some (some (.int 12 tk_MOST_DEEP)))
    {ad_err ad_text ad_twice ad_such ad_count ad_apart ad_many ad_way:Addr}
    (x_err:PySem.W.nsIn K mainGlobals "ErrandError"=some (some (.ref ad_err)))
    (x_text:PySem.W.nsIn K mainGlobals "BadText"=some (some (.ref ad_text)))
    (x_twice:PySem.W.nsIn K mainGlobals "Twice"=some (some (.ref ad_twice)))
    (x_such:PySem.W.nsIn K mainGlobals "NoSuch"=some (some (.ref ad_such)))
    (x_count:PySem.W.nsIn K mainGlobals "WrongCount"=some (some (.ref ad_count)))
    (x_apart:PySem.W.nsIn K mainGlobals "Apart"=some (some (.ref ad_apart)))
    (x_many:PySem.W.nsIn K mainGlobals "TooMany"=some (some (.ref ad_many)))
    (x_way:PySem.W.nsIn K mainGlobals "NoWay"=some (some (.ref ad_way)))
    (x_all:rfAll K [(.err,ad_err),(.text,ad_text),(.twice,ad_twice),(.such,ad_such),(.count,ad_count),(.apart,ad_apart),(.many,ad_many),(.way,ad_way)]=true)
    (pgC:PySem.W.plainGet K CR Str.empty=true) (hdC:PySem.W.hasDictIn K CR=true) (poC:PySem.W.plainOver K CR=true) (saC:PySem.W.findIn K (.ref CR) "__setattr__"=some (some (.builtin "object.__setattr__"))) (mkC:PySem.W.makesIn K CR=true) (kcC:PySem.W.keepIn K (.ref CR)=true)
    (n_text:PySem.W.findIn K (.ref CR) "text"=some none)
    (n_place:PySem.W.findIn K (.ref CR) "place"=some none) :
    ∃fd:FuncData,(∀(s:Shared) (v:Value),BindsTo s fd ⟨[v],[]⟩ [("script",v)])∧∀base:Heap,K.In base→base.Ns mainGlobals mg→FnOk l.prog w K mg base (CX1 l.prog w) 100 fa fd ["script"] (lSp K lawS):=by
  have e:=hfa.symm.trans (PySem.W.mg_of X G a_law)
  cases e
  have H_read_line:Has K mg "read_line" zb6 ["text"]:=zce X G a_read_line l_read_line c_read_line k_read_line fun _ _ _ _ _ _ us hl=>by obtain ⟨_,rfl⟩:=ln1 hl;rfl
  have H_refuse_unfit_name:Has K mg "refuse_unfit_name" zat ["word"]:=zce X G a_refuse_unfit_name l_refuse_unfit_name c_refuse_unfit_name k_refuse_unfit_name fun _ _ _ _ _ _ us hl=>by obtain ⟨_,rfl⟩:=ln1 hl;rfl
  have H_is_letter:Has K mg "is_letter" zb7 ["sign"]:=zce X G a_is_letter l_is_letter c_is_letter k_is_letter fun _ _ _ _ _ _ us hl=>by obtain ⟨_,rfl⟩:=ln1 hl;rfl
  have H_refuse_unfit_count:Has K mg "refuse_unfit_count" zaz ["row","least","most"]:=zce X G a_refuse_unfit_count l_refuse_unfit_count c_refuse_unfit_count k_refuse_unfit_count fun _ _ _ _ _ _ us hl=>by obtain ⟨_,_,_,rfl⟩:=ln3 hl;rfl
  have H_cell_at:Has K mg "_law_cell_at" zc6 ["script","k"]:=zce X G a_cell_at l_cell_at c_cell_at k_cell_at fun _ _ _ _ _ _ us hl=>by obtain ⟨_,_,rfl⟩:=ln2 hl;rfl
  have H_names:Has K mg "_law_names" zc8 ["cell","many"]:=zce X G a_names l_names c_names k_names fun _ _ _ _ _ _ us hl=>by obtain ⟨_,_,rfl⟩:=ln2 hl;rfl
  have H_next:Has K mg "_law_next" zgl ["script","spot"]:=zce X G a_next l_next c_next k_next fun _ _ _ _ _ _ us hl=>by obtain ⟨_,_,rfl⟩:=ln2 hl;rfl
  have H_saying:Has K mg "_law_saying" zc7 ["script","spot","names","counts","params","deep"]:=zce X G a_saying l_saying c_saying k_saying fun _ _ _ _ _ _ us hl=>by obtain ⟨_,_,_,_,_,_,rfl⟩:=ln6 hl;rfl
  have H_drawn:Has K mg "_law_drawn" zd3 ["script","spot","most","deep"]:=zce X G a_drawn l_drawn c_drawn k_drawn fun _ _ _ _ _ _ us hl=>by obtain ⟨_,_,_,_,rfl⟩:=ln4 hl;rfl
  have H_text:Has K mg "_law_text" zfa ["saying"]:=zce X G a_text l_text c_text k_text fun _ _ _ _ _ _ us hl=>by obtain ⟨_,rfl⟩:=ln1 hl;rfl
  have H_is_saying:Has K mg "_law_is_saying" zbl ["found"]:=zce X G a_is_saying l_is_saying c_is_saying k_is_saying fun _ _ _ _ _ _ us hl=>by obtain ⟨_,rfl⟩:=ln1 hl;rfl
  have H_is_errand:Has K mg "_law_is_errand" zbu ["found"]:=zce X G a_is_errand l_is_errand c_is_errand k_is_errand fun _ _ _ _ _ _ us hl=>by obtain ⟨_,rfl⟩:=ln1 hl;rfl
  have H_refused:Has K mg "_law_refused" zc5 ["text"]:=zce X G a_refused l_refused c_refused k_refused fun _ _ _ _ _ _ us hl=>by obtain ⟨_,rfl⟩:=ln1 hl;rfl
  have H_head_fault:Has K mg "_law_head_fault" zbx ["way","name","params","body"]:=zce X G a_head_fault l_head_fault c_head_fault k_head_fault fun _ _ _ _ _ _ us hl=>by obtain ⟨_,_,_,_,rfl⟩:=ln4 hl;rfl
  have H_word_fault:Has K mg "_law_word_fault" zbw ["cell","name","params","body"]:=zce X G a_word_fault l_word_fault c_word_fault k_word_fault fun _ _ _ _ _ _ us hl=>by obtain ⟨_,_,_,_,rfl⟩:=ln4 hl;rfl
  have H_deep:Has K mg "_law_deep" zgm ["cell","steps","params","name"]:=zce X G a_deep l_deep c_deep k_deep fun _ _ _ _ _ _ us hl=>by obtain ⟨_,_,_,_,rfl⟩:=ln4 hl;rfl
  have H_body_fault:Has K mg "_law_body_fault" zby ["way","body","name"]:=zce X G a_body_fault l_body_fault c_body_fault k_body_fault fun _ _ _ _ _ _ us hl=>by obtain ⟨_,_,_,rfl⟩:=ln3 hl;rfl
  have H_R_init:HasM K CR "__init__" "SayingReader.__init__" zdu ["self","text"]:=zd5 a_R_init i_R_init l_R_init c_R_init k_R_init fun _ _ _ _ _ _ us hl=>by obtain ⟨_,_,rfl⟩:=ln2 hl;rfl
  have H_R_sign_here:HasM K CR "sign_here" "SayingReader.sign_here" zbo ["self"]:=zd5 a_R_sign_here i_R_sign_here l_R_sign_here c_R_sign_here k_R_sign_here fun _ _ _ _ _ _ us hl=>by obtain ⟨_,rfl⟩:=ln1 hl;rfl
  have H_R_read_saying:HasM K CR "read_saying" "SayingReader.read_saying" za5 ["self","level"]:=zd5 a_R_read_saying i_R_read_saying l_R_read_saying c_R_read_saying k_R_read_saying fun _ _ _ _ _ _ us hl=>by obtain ⟨_,_,rfl⟩:=ln2 hl;rfl
  have H_R_read_named:HasM K CR "read_named" "SayingReader.read_named" zbb ["self","level"]:=zd5 a_R_read_named i_R_read_named l_R_read_named c_R_read_named k_R_read_named fun _ _ _ _ _ _ us hl=>by obtain ⟨_,_,rfl⟩:=ln2 hl;rfl
  have H_R_read_word:HasM K CR "read_word" "SayingReader.read_word" zbp ["self"]:=zd5 a_R_read_word i_R_read_word l_R_read_word c_R_read_word k_R_read_word fun _ _ _ _ _ _ us hl=>by obtain ⟨_,rfl⟩:=ln1 hl;rfl
  have H_R_read_row:HasM K CR "read_row" "SayingReader.read_row" zbm ["self","closing","least","most","level"]:=zd5 a_R_read_row i_R_read_row l_R_read_row c_R_read_row k_R_read_row fun _ _ _ _ _ _ us hl=>by obtain ⟨_,_,_,_,_,rfl⟩:=ln5 hl;rfl
  have H_R_refuse_rest:HasM K CR "refuse_rest" "SayingReader.refuse_rest" zbd ["self"]:=zd5 a_R_refuse_rest i_R_refuse_rest l_R_refuse_rest c_R_refuse_rest k_R_refuse_rest fun _ _ _ _ _ _ us hl=>by obtain ⟨_,rfl⟩:=ln1 hl;rfl
  have Gx:Gs K mg:=⟨PySem.W.mg_none_of X G z_len,PySem.W.mg_none_of X G z_range,PySem.W.mg_none_of X G z_isinstance,PySem.W.mg_none_of X G z_str,PySem.W.mg_none_of X G z_tuple,PySem.W.mg_none_of X G z_list,PySem.W.mg_none_of X G z_all,PySem.W.mg_none_of X G z_ValueError,⟨_,PySem.W.mg_of X G z_MOST_LETTERS⟩,⟨_,PySem.W.mg_of X G z_MOST_IN_ROW⟩,⟨_,PySem.W.mg_of X G z_MOST_DEEP⟩⟩
  have Rx:Rfs K mg ES (adrOf [(Rf.err,ad_err),(Rf.text,ad_text),(Rf.twice,ad_twice),(Rf.such,ad_such),(Rf.count,ad_count),(Rf.apart,ad_apart),(Rf.many,ad_many),(Rf.way,ad_way)]):=rfs_mk x_all fun i hi=>by
    rcases (by simpa using hi:i=Rf.err∨i=Rf.text∨i=Rf.twice∨i=Rf.such∨i=Rf.count∨i=Rf.apart∨i=Rf.many∨i=Rf.way) with rfl|rfl|rfl|rfl|rfl|rfl|rfl|rfl
    · exact PySem.W.mg_of X G x_err
    · exact PySem.W.mg_of X G x_text
    · exact PySem.W.mg_of X G x_twice
    · exact PySem.W.mg_of X G x_such
    · exact PySem.W.mg_of X G x_count
    · exact PySem.W.mg_of X G x_apart
    · exact PySem.W.mg_of X G x_many
    · exact PySem.W.mg_of X G x_way
  have Tx:RunT K mg CR:=⟨⟨pgC,hdC,poC,saC⟩,mkC,kcC,PySem.W.mg_of X G aC,n_text,n_place⟩
  have F_law:=zm2 (st:=zg5) l_law c_law k_law
  refine ⟨PySem.W.fnOf "law" "law" (defArgs zg5) (defBody zg5) (defScope zg5) .none kV_law dc_law pm_law an_law cd_law ct_law,fun s v=>.of_eq rfl,fun base _ _=>?_⟩
  have C_cell_at:=zk9 (P:=l.prog) (w:=w) (base:=base) (k:=0) H_cell_at Gx
  have C_next:=zqc (P:=l.prog) (w:=w) (base:=base) (k:=1) H_next C_cell_at
  have C_names:=zoe (P:=l.prog) (w:=w) (base:=base) (k:=0) H_names Gx
  have C_is_letter:=zin (P:=l.prog) (w:=w) (base:=base) (k:=0) H_is_letter Gx
  have C_unfit:=zdw (k:=1) H_refuse_unfit_name Gx Rx C_is_letter
  have C_count:=zdn (P:=l.prog) (w:=w) (base:=base) (k:=0) H_refuse_unfit_count Gx Rx
  have M_sign:=zgg (P:=l.prog) (w:=w) (base:=base) (k:=0) H_R_sign_here Gx Tx
  have M_word:=zgh (k:=2) H_R_read_word Gx Tx Rx (M_sign.mono (by decide)) (C_is_letter.mono (by decide)) C_unfit
  have M_all:=rd_all H_R_read_saying H_R_read_named H_R_read_row Gx Tx Rx M_sign M_word C_count 42
  have C_read_line:=zim (k:=42) (n:=42) (by decide) (by decide) H_read_line Gx Tx Rx (C_unfit.mono (by decide)) (C_count.mono (by decide)) ((zmj (k:=0) H_R_init Gx Tx).mono (by decide)) (M_all.1.mono (by decide)) ((zfh (k:=0) H_R_refuse_rest Gx Tx Rx).mono (by decide))
  have C_is_errand:=zio (k:=12) (by decide) H_is_errand Gx (zfd (P:=l.prog) (w:=w) (base:=base) H_is_saying Gx 12)
  have C_drawn:=zof (n:=4) H_drawn Gx C_next C_names (zil H_saying Gx C_next 4)
  have C_refused:=zk8 (k:=44) H_refused Gx Rx C_read_line
  exact ok_law F_law Gx Rx (C_cell_at.mono (by decide)) (C_drawn.mono (by decide)) ((zmh H_text Gx 13).mono (by decide)) (C_refused.mono (by decide)) ((zhe (k:=0) H_head_fault Gx).mono (by decide)) ((zhd (k:=0) H_word_fault Gx).mono (by decide)) ((zqd (k:=0) H_deep Gx).mono (by decide)) ((zhf (k:=0) H_body_fault Gx).mono (by decide)) (C_read_line.mono (by decide)) (C_is_errand.mono (by decide))
theorem walk {l:PySem.W.OpenLaw} {q:Program} {loose:List Str} {XP:(Str→Option Value)→Heap→Prop} {YP:World→Heap→Prop} {d:DefRec} {K:Params→PySem.W.Frag} (hn:l.most=some 63) (hdf:d.params.defaults=[])
    (hY:∀(w:World) (h:Heap),YP w h→(K w.params).In h)
    (F:∀(w:World) (mg:Str→Option Value) (fa:Addr) (h:Heap),(K w.params).In h→h.Ns mainGlobals mg→mg d.name=some (.ref fa) →
      ∃fd:FuncData,(∀(s:Shared) (u:Value),BindsTo s fd ⟨[u],[]⟩ [("script",u)])∧∀base:Heap,(K w.params).In base→base.Ns mainGlobals mg→FnOk l.prog w (K w.params) mg base (CX1 l.prog w) 100 fa fd ["script"] (lSp (K w.params) lawS)) :
    PySem.W.WalkO q loose XP YP l.row.toRowW d [] (fun f vs=>PySem.call f vs) :=
  L2.zlk (n:=63) (k:=100) (x:="script") (CX:=fun w=>CX1 l.prog w) (sp:=fun w=>lSp (K w.params) lawS) hn (by decide) hdf ⟨rfl,by decide,by decide⟩ hY F (fun _ _ a ns hl hO hS=>law_sp hl hO hS) fun _ _ _ _ _ z=>by
    obtain ⟨a,C,T,H',_,_,_,_,_,_,_,_,_,_,z⟩:=z
    exact z
end LW
namespace PySem.W.Fast
theorem tw17222078412326608:True:=trivial
theorem tw18233014233799335780:True:=trivial
theorem tw7766820140754178185:True:=trivial
theorem tw12113530470087142217:True:=trivial
theorem tw5752781225347210694:True:=trivial
theorem tw13396833925096345610:True:=trivial
theorem tw18005390592845563453:True:=trivial
theorem tw2156683469022165229:True:=trivial
theorem tw549500380870865828:True:=trivial
theorem tw4230799370305056078:True:=trivial
theorem tw2313743801946925623:True:=trivial
theorem tw17979953453109134339:True:=trivial
theorem tw13733139983656022334:True:=trivial
theorem tw16188115548278195329:True:=trivial
theorem tw15326654428893816643:True:=trivial
theorem tw3911765010301467061:True:=trivial
theorem tw16976713284726732665:True:=trivial
theorem tw5697446323605562779:True:=trivial
theorem tw5883693074504760422:True:=trivial
theorem tw2264041746782500450:True:=trivial
theorem tw4780539744368609860:True:=trivial
theorem tw4822972299009358746:True:=trivial
theorem tw10141569469697365301:True:=trivial
theorem tw16561745286038422206:True:=trivial
theorem tw13895347089558095098:True:=trivial
theorem tw8315228515102918976:True:=trivial
theorem tw14619390577489336343:True:=trivial
theorem tw6981996469215289429:True:=trivial
theorem tw7727100295585025898:True:=trivial
theorem tw4161692377679830166:True:=trivial
theorem tw17053761323429447657:True:=trivial
theorem tw3634766687998034767:True:=trivial
theorem tw3146398293240330473:True:=trivial
theorem tw2377648011517753802:True:=trivial
theorem tw15245230409715858419:True:=trivial
theorem tw3574067107846447951:True:=trivial
theorem tw18329258218544631792:True:=trivial
theorem tw179718159489414815:True:=trivial
theorem tw1276421747398055372:True:=trivial
theorem tw8502765748916981609:True:=trivial
theorem tw16460337654284062813:True:=trivial
theorem tw4351085525998244324:True:=trivial
theorem tw14590978121526907973:True:=trivial
theorem tw5842531284725420190:True:=trivial
theorem tw7698641063135721668:True:=trivial
theorem tw14981616611232381670:True:=trivial
theorem tw13465885181263387207:True:=trivial
theorem tw9894225574884500085:True:=trivial
theorem tw4533169681843680474:True:=trivial
theorem tw15642983327469965468:True:=trivial
theorem tw18108465089633378500:True:=trivial
theorem tw16079645877469045923:True:=trivial
theorem tw7497733974295197380:True:=trivial
theorem tw17814164936458370401:True:=trivial
theorem tw12671780890280999720:True:=trivial
theorem tw10343422357612759768:True:=trivial
theorem tw4171375494079698663:True:=trivial
theorem tw13940855222454999564:True:=trivial
theorem tw14304417886920050340:True:=trivial
theorem tw11011784159637373920:True:=trivial
theorem tw4298682505341567503:True:=trivial
theorem tw8705024905793852163:True:=trivial
theorem tw10280915695169791890:True:=trivial
theorem tw17181428228057177322:True:=trivial
theorem tw6620192940204634666:True:=trivial
theorem tw1489923338308352783:True:=trivial
theorem tw6070729821644884377:True:=trivial
theorem tw13077325621052176946:True:=trivial
theorem tw17413209971717905417:True:=trivial
theorem tw18235922340928075773:True:=trivial
theorem tw13908828872313856310:True:=trivial
theorem tw4910234701065706864:True:=trivial
theorem tw12073983766690151873:True:=trivial
theorem tw4700711989968868054:True:=trivial
theorem tw1701410485222269247:True:=trivial
theorem tw9478039380691771156:True:=trivial
theorem tw17578931201444938726:True:=trivial
theorem tw13732048914731310939:True:=trivial
theorem tw5859737143291181989:True:=trivial
theorem tw18328420989526331530:True:=trivial
theorem tw5757316517884622652:True:=trivial
theorem tw224059998590151510:True:=trivial
theorem tw4142294547947265494:True:=trivial
theorem tw886072823213402639:True:=trivial
theorem tw11496217716540916744:True:=trivial
theorem tw5955305603771249278:True:=trivial
theorem tw14280767102445617126:True:=trivial
theorem tw14999076382514734814:True:=trivial
theorem tw14336626209839735412:True:=trivial
theorem tw358970034226673055:True:=trivial
theorem tw2611957518040011742:True:=trivial
theorem tw6591023908010775045:True:=trivial
theorem tw336239237020146358:True:=trivial
theorem tw10862833277419960905:True:=trivial
theorem tw4511883883389321297:True:=trivial
theorem tw2840473305039794915:True:=trivial
theorem tw6824685829052428937:True:=trivial
theorem tw15898022440173946381:True:=trivial
theorem tw8963268538282033335:True:=trivial
theorem tw5856425828746086763:True:=trivial
theorem tw1001221712272509413:True:=trivial
theorem tw2486710822548565543:True:=trivial
theorem tw11306921509657585944:True:=trivial
theorem tw2057533411786017638:True:=trivial
theorem tw13651055249410914180:True:=trivial
theorem tw14324883024249523814:True:=trivial
theorem tw6673387861442502057:True:=trivial
theorem tw4394638070819370010:True:=trivial
theorem tw3695884769951914392:True:=trivial
theorem tw3082894305852663354:True:=trivial
theorem tw18079215192839439744:True:=trivial
theorem tw124637441874011762:True:=trivial
theorem tw15917832296579678754:True:=trivial
theorem tw16121840667748245999:True:=trivial
theorem tw6649365520226488063:True:=trivial
theorem tw16157931921741346644:True:=trivial
theorem tw14539110221971695235:True:=trivial
theorem tw5706513086210214109:True:=trivial
theorem tw12714877197595723081:True:=trivial
theorem tw7208928077303878399:True:=trivial
theorem tw2796521248197858505:True:=trivial
theorem tw15873338124303280189:True:=trivial
theorem tw7175042339361298010:True:=trivial
theorem tw15228107440262938397:True:=trivial
theorem tw6759233793825738526:True:=trivial
theorem tw9217377781034493626:True:=trivial
theorem tw1847297590704421616:True:=trivial
theorem tw2338710078054339906:True:=trivial
theorem tw14950566351394163854:True:=trivial
theorem tw13861480943353408729:True:=trivial
theorem tw14877452465761205740:True:=trivial
theorem tw9480212872984192220:True:=trivial
theorem tw11186540651268925655:True:=trivial
theorem tw3890222007654950643:True:=trivial
theorem tw775614699007277048:True:=trivial
theorem tw4208087433025672278:True:=trivial
theorem tw12804803792744587438:True:=trivial
theorem tw16737480106902177585:True:=trivial
theorem tw2155503505017455241:True:=trivial
theorem tw68123497475907346:True:=trivial
theorem tw11514997691984547209:True:=trivial
theorem tw1750946980210043504:True:=trivial
theorem tw8119510637976899118:True:=trivial
theorem tw10182023892750506998:True:=trivial
theorem tw12109335147638695533:True:=trivial
theorem tw15560728694349083249:True:=trivial
theorem tw13074225615823234671:True:=trivial
theorem tw13480973137312375043:True:=trivial
theorem tw1747922716329717326:True:=trivial
theorem tw11935293975081546844:True:=trivial
theorem tw6108755737037490784:True:=trivial
theorem tw2091661367776202755:True:=trivial
theorem tw8662447968620504061:True:=trivial
theorem tw7249571195902759001:True:=trivial
theorem tw1722927437207943335:True:=trivial
theorem tw7524375011667960470:True:=trivial
theorem tw11180345323989084095:True:=trivial
end PySem.W.Fast
open PySem PySem.W PyProof.Rows
set_option maxRecDepth 100000 in
set_option maxHeartbeats 0 in
theorem PySem.Challenge.cw_errandend_k06_lines_refused_holds : PySem.Challenge.rw_errandend_k06_lines_refused.Holds := by
  w_on; o_law; k_head; (case hw => w_witness2)
  k_fill
  refine LW.walk (l := PySem.Challenge.rw_errandend_k06_lines_refused) rfl rfl (fun w h Y => PySem.W.kIn_of Y) ?F
  case F =>
    intro w mg fa h KX G hmg
    refine' LW.all_mk KX G hmg ?aC ?a_read_line ?l_read_line ?c_read_line ?k_read_line ?a_refuse_unfit_name ?l_refuse_unfit_name ?c_refuse_unfit_name ?k_refuse_unfit_name ?a_is_letter ?l_is_letter ?c_is_letter ?k_is_letter ?a_refuse_unfit_count ?l_refuse_unfit_count ?c_refuse_unfit_count ?k_refuse_unfit_count ?a_cell_at ?l_cell_at ?c_cell_at ?k_cell_at ?a_names ?l_names ?c_names ?k_names ?a_next ?l_next ?c_next ?k_next ?a_saying ?l_saying ?c_saying ?k_saying ?a_drawn ?l_drawn ?c_drawn ?k_drawn ?a_text ?l_text ?c_text ?k_text ?a_is_saying ?l_is_saying ?c_is_saying ?k_is_saying ?a_is_errand ?l_is_errand ?c_is_errand ?k_is_errand ?a_refused ?l_refused ?c_refused ?k_refused ?a_head_fault ?l_head_fault ?c_head_fault ?k_head_fault ?a_word_fault ?l_word_fault ?c_word_fault ?k_word_fault ?a_deep ?l_deep ?c_deep ?k_deep ?a_body_fault ?l_body_fault ?c_body_fault ?k_body_fault ?a_R_init ?i_R_init ?l_R_init ?c_R_init ?k_R_init ?a_R_sign_here ?i_R_sign_here ?l_R_sign_here ?c_R_sign_here ?k_R_sign_here ?a_R_read_saying ?i_R_read_saying ?l_R_read_saying ?c_R_read_saying ?k_R_read_saying ?a_R_read_named ?i_R_read_named ?l_R_read_named ?c_R_read_named ?k_R_read_named ?a_R_read_word ?i_R_read_word ?l_R_read_word ?c_R_read_word ?k_R_read_word ?a_R_read_row ?i_R_read_row ?l_R_read_row ?c_R_read_row ?k_R_read_row ?a_R_refuse_rest ?i_R_refuse_rest ?l_R_refuse_rest ?c_R_refuse_rest ?k_R_refuse_rest ?a_law ?l_law ?c_law ?k_law ?z_len ?z_range ?z_isinstance ?z_str ?z_tuple ?z_list ?z_all ?z_ValueError ?z_MOST_LETTERS ?z_MOST_IN_ROW ?z_MOST_DEEP ?x_err ?x_text ?x_twice ?x_such ?x_count ?x_apart ?x_many ?x_way ?x_all ?pgC ?hdC ?poC ?saC ?mkC ?kcC ?n_text ?n_place
    (case aC => k_is)
    (case a_read_line => k_is)
    (case l_read_line => k_is)
    (case c_read_line => k_is)
    (case k_read_line => k_is)
    (case a_refuse_unfit_name => k_is)
    (case l_refuse_unfit_name => k_is)
    (case c_refuse_unfit_name => k_is)
    (case k_refuse_unfit_name => k_is)
    (case a_is_letter => k_is)
    (case l_is_letter => k_is)
    (case c_is_letter => k_is)
    (case k_is_letter => k_is)
    (case a_refuse_unfit_count => k_is)
    (case l_refuse_unfit_count => k_is)
    (case c_refuse_unfit_count => k_is)
    (case k_refuse_unfit_count => k_is)
    (case a_cell_at => k_is)
    (case l_cell_at => k_is)
    (case c_cell_at => k_is)
    (case k_cell_at => k_is)
    (case a_names => k_is)
    (case l_names => k_is)
    (case c_names => k_is)
    (case k_names => k_is)
    (case a_next => k_is)
    (case l_next => k_is)
    (case c_next => k_is)
    (case k_next => k_is)
    (case a_saying => k_is)
    (case l_saying => k_is)
    (case c_saying => k_is)
    (case k_saying => k_is)
    (case a_drawn => k_is)
    (case l_drawn => k_is)
    (case c_drawn => k_is)
    (case k_drawn => k_is)
    (case a_text => k_is)
    (case l_text => k_is)
    (case c_text => k_is)
    (case k_text => k_is)
    (case a_is_saying => k_is)
    (case l_is_saying => k_is)
    (case c_is_saying => k_is)
    (case k_is_saying => k_is)
    (case a_is_errand => k_is)
    (case l_is_errand => k_is)
    (case c_is_errand => k_is)
    (case k_is_errand => k_is)
    (case a_refused => k_is)
    (case l_refused => k_is)
    (case c_refused => k_is)
    (case k_refused => k_is)
    (case a_head_fault => k_is)
    (case l_head_fault => k_is)
    (case c_head_fault => k_is)
    (case k_head_fault => k_is)
    (case a_word_fault => k_is)
    (case l_word_fault => k_is)
    (case c_word_fault => k_is)
    (case k_word_fault => k_is)
    (case a_deep => k_is)
    (case l_deep => k_is)
    (case c_deep => k_is)
    (case k_deep => k_is)
    (case a_body_fault => k_is)
    (case l_body_fault => k_is)
    (case c_body_fault => k_is)
    (case k_body_fault => k_is)
    (case a_R_init => k_is)
    (case i_R_init => k_is)
    (case l_R_init => k_is)
    (case c_R_init => k_is)
    (case k_R_init => k_is)
    (case a_R_sign_here => k_is)
    (case i_R_sign_here => k_is)
    (case l_R_sign_here => k_is)
    (case c_R_sign_here => k_is)
    (case k_R_sign_here => k_is)
    (case a_R_read_saying => k_is)
    (case i_R_read_saying => k_is)
    (case l_R_read_saying => k_is)
    (case c_R_read_saying => k_is)
    (case k_R_read_saying => k_is)
    (case a_R_read_named => k_is)
    (case i_R_read_named => k_is)
    (case l_R_read_named => k_is)
    (case c_R_read_named => k_is)
    (case k_R_read_named => k_is)
    (case a_R_read_word => k_is)
    (case i_R_read_word => k_is)
    (case l_R_read_word => k_is)
    (case c_R_read_word => k_is)
    (case k_R_read_word => k_is)
    (case a_R_read_row => k_is)
    (case i_R_read_row => k_is)
    (case l_R_read_row => k_is)
    (case c_R_read_row => k_is)
    (case k_R_read_row => k_is)
    (case a_R_refuse_rest => k_is)
    (case i_R_refuse_rest => k_is)
    (case l_R_refuse_rest => k_is)
    (case c_R_refuse_rest => k_is)
    (case k_R_refuse_rest => k_is)
    (case a_law => k_is)
    (case l_law => k_is)
    (case c_law => k_is)
    (case k_law => k_is)
    (case z_len => k_is)
    (case z_range => k_is)
    (case z_isinstance => k_is)
    (case z_str => k_is)
    (case z_tuple => k_is)
    (case z_list => k_is)
    (case z_all => k_is)
    (case z_ValueError => k_is)
    (case z_MOST_LETTERS => k_is)
    (case z_MOST_IN_ROW => k_is)
    (case z_MOST_DEEP => k_is)
    (case x_err => k_is)
    (case x_text => k_is)
    (case x_twice => k_is)
    (case x_such => k_is)
    (case x_count => k_is)
    (case x_apart => k_is)
    (case x_many => k_is)
    (case x_way => k_is)
    (case x_all => kernel_rfl)
    (case pgC => k_is)
    (case hdC => k_is)
    (case poC => k_is)
    (case saC => k_is)
    (case mkC => k_is)
    (case kcC => k_is)
    (case n_text => k_is)
    (case n_place => k_is)
#print axioms PySem.Challenge.cw_errandend_k06_lines_refused_holds
