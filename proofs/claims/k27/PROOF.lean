import PyProof.Rows.All
import Wide.All
import OpenK.AllK
import Wide.FinOn
import Lean
import PyProof.EqAt
import PyProof.EqKinds
import PyProof.TupleCall
import PySem.Challenge.RW_errandend_k27_lists_told
set_option Elab.async false
set_option linter.all false
set_option maxRecDepth 100000
noncomputable section
local macro_rules|`(show _ by $t)=>`((by exact ?n:type_of% (let_mvar% ?n:=(by $t :_);?n)))
open Array renaming forIn_toList→Mo,length_toList→MA,toList→MB
open Bool renaming false_ne_true→c7,and_eq_true→f9,eq_iff_iff→gA,false_eq_true→iC,and_self→jU,not_true→CV,and_assoc→Ms,or_false→MW,and_false→M7
open False renaming elim→eI
open Int renaming emod_nonneg→hG,toNat_natCast→j3,toNat→rD,emod_lt_of_pos→uB,le_refl→DV
open List renaming length_map→aB,getElem?_map→aS,length_append→aU,range→ba,getElem?_eq_getElem→bb,length_cons→bC,mem_cons→bF,mem_map→bM,map_cons→bO,size_toArray→bU,getElem?_eq_some_iff→cu,getD_eq_getElem?_getD→cz,length_nil→cE,map_append→cF,not_mem_nil→cN,mem_append→cR,mem_cons_self→df,mem_of_getElem?→dg,getElem?_eq_none→dh,mem_cons_of_mem→dk,length_take→dN,mem_singleton→dO,length_drop→e_,map_map→fe,mem_append_right→fG,replicate→fH,filterMap_cons→fS,append_nil→f_,take_succ→gB,lookup→g6,ext_getElem?→iE,append_assoc→iF,nodup_cons→jf,length_reverse→jk,getElem?_range→jl,mem_range→jY,length→j0,find?_cons→j6,lookup_cons→j7,take_of_length_le→j8,mem_map_of_mem→j9,prefix_refl→j',mem_append_left→lu,take_length→lD,getElem_of_mem→lH,reverse_cons→lJ,any_cons→mL,map_nil→mM,nil_append→mT,all_cons→oI,getElem?_append_left→oM,foldl_cons→oP,filter_append→oR,filterMap_append→oS,cons_append→q_,mem_filterMap→rj,getElem?_append_right→rm,reverse_append→rF,forIn_cons→ur,range'→uy,mem_of_mem_take→uz,take_append_drop→uA,any_eq_true→uC,getElem_mem→uG,map_take→uJ,mem_filter→xq,length_range→xF,drop_zero→xG,forIn_nil→xN,drop_eq_nil_of_le→xR,length_filter_le→xV,lookup_append→xW,flatten_cons→xX,drop_eq_getElem_cons→x_,drop_length→ya,of_mem_zip→C_,length_singleton→Dw,mem_of_mem_drop→DP,range_succ→DU,mem_flatten→DX,map_drop→D5,map_reverse→D6,prefix_append→D7,range_succ_eq_map→Mp,all_map→Mq,getElem?_set_self→Mu,getElem?_set_ne→Mv,getElem?_replicate→MM,getElem?_take_of_lt→MN,take_sublist→MO,length_replicate→MP,getElem?_reverse→Nd,nodup_iff_pairwise_ne→Nl,filter_cons→Nn,zipIdx_cons→Nr,zipIdx_nil→Nt,getElem?_zip_eq_some→Nw,length_erase_of_mem→Nx,length_pos_of_mem→Ny,mem_erase_of_ne→Nz,nodup_append→NA,getElem?_zipIdx→NJ,any_map→NK,range'_succ→NN,reverse_reverse→NP,flatten_append→NQ,filter_congr→NS,idxOf_cons→NT,lookup_cons_self→NU
open List.Pairwise renaming imp_of_mem→aiP
open List.cons renaming injEq→D4
open Nat renaming le_refl→aV,zero_le→b8,le_trans→cj,ne_of_lt→cW,lt_of_lt_of_le→dM,lt_irrefl→jW,ne_of_gt→jZ,le_of_lt→oJ,add_assoc→rf,lt_of_le_of_lt→um,sub_zero→uq,le_add_right→uF,lt_succ_self→xw,min_eq_left→xP,min_eq_right→xQ,lt_trans→DA,succ_mul→DW,succ_min_succ→Mr,le_of_not_lt→M1,mul_le_mul_right→NR
open Ne renaming symm→bw
open Option renaming map_eq_some_iff→dA,bind_some→lK,bind_eq_some_iff→mU,isSome_iff_exists→Dd,isSome_map→Dz,getD_some→DC,getD_none→MX,isSome_some→M4
open Option.some renaming inj→dG,injEq→uu
open Prod renaming fst→ck
open Prod.mk renaming injEq→uH
open PyProof.Rows renaming boot_tuple→iG,slot_tuple_getitem→lC,callWith_type1→mJ,boot_list→xZ,Subscript_→Dl,entry_tuple_getitem→MS,args_tuple_getitem→MT,subscriptTail_builtinR→MU
open PyProof.Rows.IsTup renaming new→Dm
open PySem renaming wpAny_bind→ai,wpAny_pure→aE,wpAny_field→c9,wpAny_mono→eZ,boot_len→fg,wpAny_call_entry→gZ,wpAny_setField_rec→hJ,wpAny_seqItems→je,mem_of_lookup→jg,wpAny_newObj_type→ji,wpAny_rule→jV,wpAny_callSpecial?_slot→j5,wpAny_specialOf→lr,wpAny_truthy_bool→mH,wpAny_holding→mI,typeLookup_type→mP,builtinLookup_eq_fast→mQ,wpAny_of_eq→mR,Addr→mS,wpAny_passesOwn→oK,wpAny_typeOf→oN,wpAny_attempt→oQ,KeyKind→qY,wpAny_pyIter_tuple→rh,call_meets→rq,lookup_relabel_local→rE,wpAny_isInstance→uf,wpAny_execs_nil→uh,codeAny_mono→uk,wpAny_updateSeq→uo,wpAny_setField→uv,wpAny_letGo→uD,eqIsQuiet_byValue→xo,sizeLine_eq→xr,wpAny_Call_Name_kw→xy,seqIndex_of→xC,wpAny_getItem_str_slice→xH,post_val_or_str→xI,isSubtype_type→xJ,plainId_quiet→xO,wpAny_onRaise→xT,wpAny_forIn_list→CU,Within→CW,wpAny_Name→CZ,wpAny_standAt→C1,wpAny_pyIter_list→C2,concat_meets→De,noFill_tuple_add→Df,seq_tuple_add→Dg,seqIndex_neg→Dp,typeIs_str→Dr,call→Dx,callType_new→DD,isSubtype_stop→DF,wpAny_call→DI,codeAny_builtin→DN,wpAny_updateSeq_pair→DQ,wpAny_loadName_local→Mw,wpAny_loadName_cell→Mx,wpAny_isTrue_Compare1→Mz,wpAny_assign_Name→MC,wpAny_pyNext_list_item→MD,wpAny_pyNext_list_end→ME,wpAny_sequenceKey→MR,slot_list_getitem→MV,wpAny_Call_method_late→MZ,wpAny_pyIter_slot→Nc,wpAny_pyIter_revIter→NB,wpAny_comprehension_free→NC
open PySem.Around renaming under→C8,under_plainId→DO
open PySem.AutoSeq1 renaming wpAny_loadPart'→DB,sub_tuple_tuple→M6,idx_int→aiH,sub_list_list→aiI,sub_tuple_list→aiJ,sub_list_tuple→aiK
open PySem.Builtin.Dict renaming updateFrom→Nk
open PySem.Builtin.List renaming listTooLong→xD,listExtendWith→DZ,listItems→NH,listSameRef→NI
open PySem.Builtin.Range renaming rangeSize→aiu
open PySem.Builtin.Slice renaming slicePlaces→xA,sliceAdjust→Dk,sliceApplied→MQ,slicePartIndex→aiE,sliceFields→aiF
open PySem.Builtin.SmallTypes renaming nextOf→lF,ownedTupleIsFree→rC,ownedTupleHandOut→uE,newRecord→aiL,stopIteration→aiM
open PySem.Builtin.Str renaming strSliceIndices→M9
open PySem.Builtin.Tuple renaming tupleHashOf→qZ,tupleExact→xB,tupleItemsOf→CQ,tupleIsExact→Nf
open PySem.Calls renaming callWith_builtin→Du,evalArgs_plain→Dv,Name_function_global→My,spliced_nil→MK,spliced_cons→ML
open PySem.Code renaming isFrame→C9
open PySem.EqMixed renaming eq_bool_str→aiv,eq_int_str→aiw,eq_str_bool→aix,eq_str_int→aiy,ne_bool_str→aiz,ne_int_str→aiA,ne_str_bool→aiB,ne_str_int→aiC
open PySem.F renaming plainAttrs_list→cw,slot_list_append→dz,type_list_append→dH,slot_list_pop→jj,type_list_pop→j_,slot_enumerate_next→uI,slot_tuple_hash→xn,slot_tuple_iterator_next→xS,slot_zip_next→xU,slot_tuple_add→Dh,entry_tuple_add→Di,args_tuple_add_2→Dj,slot_list_getattribute→DM,plain_extend_loop→DY,slot_list_clear→M0,slot_list_extend→M8,args_object_init_2→M_,excBase_ValueError→Ni,entry_tuple_iterator_next→Np,args_tuple_iterator_next_1→Nq,entry_zip_next→Nu,args_zip_next_1→Nv,entry_enumerate_next→ND,args_enumerate_next_1→NF,slot_enumerate_iter→NG,slot_tuple_index→NO
open PySem.Heap renaming get?_push_of_some→bx,lt_size→bE,get?_push_size→c8,SameBut→fF,size_push→g9,get?_update_self→oO,get?_update_other→rp,ExtBut→ux,MadeExcOf→DG,FlyingW→DJ,IsTuple→DS
open PySem.Heap.DictOf renaming new→M5
open PySem.Heap.IsSliceOf renaming new→aiG
open PySem.Heap.SameBut renaming update→uw
open PySem.Heap.UpToSlots renaming of_keeps→Nh
open PySem.Obj renaming mapSeq→fc,data_mapFields→rA,mapFields→xK,isFreed_of_fields→DE,cls_mapFields→M'
open PySem.PassesOwn renaming never→ek
open PySem.SeqAt renaming EqAt→Ds,in_listAt→MY
open PySem.SeqAt.EqAt renaming int_str→Mm,str_int→Mn
open PySem.Shared renaming heap→DT
open PySem.Str renaming ofString→jh,length→Dq
open PySem.Txt renaming slice→xE
open PySem.Value renaming isInt→Mj,isStrOf→Ml
open PySem.Value.type renaming inj→xY
open PySem.W renaming Frag→ao,keepIn→a7,fnOf→a8,nsIn→a9,codeIn→bt,findIn→cM,isFn→g0,kia_one→g_,mg_none_of→hU,kitCls→iD,hideAll→jX,emptyDict→lB,instObj→mG,kitOne→mK,mg_of→mO,of_hideAll→rg,excIn→rB,hideAll_none→ug,plainGet→ui,makesIn→uj,hideAll_get→xp,lookIn→xt,hasDictIn→xu,cellsFrom_some→xx,funFrames_hide→xM,methodObj→CY,plainGet_of→C3,plainOver→C4,takerIn→C5,mroIn→C6,kitx_list→C7,OpenLaw→Dy,callWith_K→DH,Looks→DL,handedIn→MF,specialIn→MG,takesIn→MH,kitx_tuple→MI,kitx_dict→MJ,WalkO→M3,subIn→Ng,kit_cls→Nj,methodCall_KW→NL
open PySem.W.Looks renaming here→aiD,of_pure→aiN,ld→aiO
open Std.Legacy renaming Range→NM
open Std.Legacy.Range renaming forIn_eq_forIn_range'→aiQ,size→aiR
open Sum.inr renaming inj→CP
local macro_rules|`(tactic|lia)=>`(tactic|omega)
local macro_rules|`(tactic|cbv)=>`(tactic|decide +kernel)
namespace L2
open PySem PySem.Spec PyProof.Rows
abbrev Key:=Sum Int Str
def oU:Key->Value->Bool
 | .inl k,v=>Mj k v
 | .inr x,v=>Ml x v
def NV(w:World):Key->Int
 | .inl k=>hashInt k
 | .inr x=>hashStr w x
theorem ka:∀{k:Key} {v:Value},oU k v=true->(∃i t,k=Sum.inl i/\v=Value.int i t)∨(∃x t,k=Sum.inr x/\v=Value.str x t)
 | .inl i,v,h=>by
  obtain⟨t,e⟩:=Value.isInt_shape (k:=i) (v:=v) h;exact .inl ⟨i,t,rfl,e⟩
 | .inr x,v,h=>by
  obtain⟨t,e⟩:=Value.isStrOf_shape (x:=x) (v:=v) h;exact .inr ⟨x,t,rfl,e⟩
theorem NW(i:Int)(t:Tok):oU (.inl i) (.int i t)=true:=by simp[oU,Mj]
theorem NX(x:Str)(t:Tok):oU (.inr x) (.str x t)=true:=by simp[oU,Ml]
theorem NY(a b:Int):decide ((Sum.inl a:Key)=Sum.inl b)=(a==b):=by
 by_cases e:a=b
 ·subst e;simp
 ·have h:¬(Sum.inl a:Key)=Sum.inl b:=λq=>e (Sum.inl.inj q);rw[decide_eq_false h];exact(beq_eq_false_iff_ne.mpr e).symm
theorem NZ(a b:Str):decide ((Sum.inr a:Key)=Sum.inr b)=decide (a=b):=by
 by_cases e:a=b
 ·subst e;simp
 ·have h:¬(Sum.inr a:Key)=Sum.inr b:=λq=>e (CP q);rw[decide_eq_false h,decide_eq_false e]
theorem N0(a:Int)(b:Str):decide ((Sum.inl a:Key)=Sum.inr b)=false:=decide_eq_false (λq=>nomatch q)
theorem N1(a:Str)(b:Int):decide ((Sum.inr a:Key)=Sum.inl b)=false:=decide_eq_false (λq=>nomatch q)
def eT(prog:Program)(w:World):qY prog w Key where
 is:=oU
 hash:=NV w
 inj:=λv a b ha hb=>by
  rcases ka ha with⟨i,t,rfl,rfl⟩|⟨x,t,rfl,rfl⟩
  ·rcases ka hb with⟨j,u,rfl,e⟩|⟨y,u,rfl,e⟩
   ·injection e with e1 _;rw[e1]
   ·exact nomatch e
  ·rcases ka hb with⟨j,u,rfl,e⟩|⟨y,u,rfl,e⟩
   ·exact nomatch e
   ·injection e with e1 _;rw[e1]
 byValue:=λk v h=>by
  rcases ka h with⟨i,t,rfl,rfl⟩|⟨x,t,rfl,rfl⟩<;>rfl
 pyHash:=λhv h=>by
  rcases ka hv with⟨i,t,rfl,rfl⟩|⟨x,t,rfl,rfl⟩
  ·exact wpAny_pyHash_int h
  ·exact wpAny_pyHash_str h
 eqBool:=λhu hv h=>by
  rcases ka hu with⟨i,t,rfl,rfl⟩|⟨x,t,rfl,rfl⟩
  ·rcases ka hv with⟨j,u,rfl,rfl⟩|⟨y,u,rfl,rfl⟩
   ·rw[NY]at h;exact wpAny_eqBool_int h
   ·rw[N0]at h;exact Mm i t y u _ _ _ _ h
  ·rcases ka hv with⟨j,u,rfl,rfl⟩|⟨y,u,rfl,rfl⟩
   ·rw[N1]at h;exact Mn x t j u _ _ _ _ h
   ·rw[NZ]at h;exact wpAny_eqBool_str h
 «strs»:=λk x t v h=>by
  rcases ka h with⟨i,u,rfl,e⟩|⟨y,u,rfl,e⟩
  ·exact nomatch e
  ·injection e with e1 _;subst e1;cases v<;>rfl
theorem yb(prog:Program)(w:World)(i:Int)(t:Tok):(eT prog w).is (.inl i) (.int i t)=true:=NW i t
theorem yc(prog:Program)(w:World)(x:Str)(t:Tok):(eT prog w).is (.inr x) (.str x t)=true:=NX x t
end L2
namespace L2
open PySem PySem.Spec PyProof.Rows SeqAt
inductive DK where
 |int (i:Int)|str (x:Str)|tup (ks:List DK)
mutual
def DK.beq:DK->DK->Bool
 | .int a,.int b=>decide (a=b)
 | .str a,.str b=>decide (a=b)
 | .tup a,.tup b=>DK.gc a b
 |_,_=>false
def DK.gc:List DK->List DK->Bool
 |[],[]=>true
 |a::as,b::bs=>a.beq b&&DK.gc as bs
 |_,_=>false
end
mutual
theorem DK.beq_eq:∀{a b:DK},a.beq b=true->a=b
 | .int a,.int b,h=>by simp only[DK.beq,decide_eq_true_eq]at h;rw[h]
 | .str a,.str b,h=>by simp only[DK.beq,decide_eq_true_eq]at h;rw[h]
 | .tup a,.tup b,h=>by simp only[DK.beq]at h;rw[DK.D8 h]
 | .int _,.str _,h=>by simp[DK.beq]at h
 | .int _,.tup _,h=>by simp[DK.beq]at h
 | .str _,.int _,h=>by simp[DK.beq]at h
 | .str _,.tup _,h=>by simp[DK.beq]at h
 | .tup _,.int _,h=>by simp[DK.beq]at h
 | .tup _,.str _,h=>by simp[DK.beq]at h
theorem DK.D8:∀{as bs:List DK},DK.gc as bs=true->as=bs
 |[],[],_=>rfl
 |a::as,b::bs,h=>by
  simp only[DK.gc,f9]at h;rw[DK.beq_eq h.1,DK.D8 h.2]
 |[],_::_,h=>by simp[DK.gc]at h
 |_::_,[],h=>by simp[DK.gc]at h
end
mutual
theorem DK.beq_refl:∀a:DK,a.beq a=true
 | .int a=>by simp[DK.beq]
 | .str a=>by simp[DK.beq]
 | .tup as=>by simp only[DK.beq];exact DK.D9 as
theorem DK.D9:∀as:List DK,DK.gc as as=true
 |[]=>by simp[DK.gc]
 |a::as=>by simp only[DK.gc,DK.beq_refl a,DK.D9 as,jU]
end
instance:DecidableEq DK:=λa b=>if h:a.beq b=true then .isTrue (DK.beq_eq h) else .isFalse λe=>h (e▸DK.beq_refl a)
mutual
def DK.deep:DK->Nat
 | .tup ks=>DK.dY ks+1
 |_=>0
def DK.dY:List DK->Nat
 |[]=>0
 |k::ks=>max k.deep (DK.dY ks)
end
mutual
inductive dP(h:Heap):DK->Value->Prop where
 |int (i:Int) (t:Tok):dP h (.int i) (.int i t)
 |str (x:Str) (t:Tok):dP h (.str x) (.str x t)
 |tup {ks:List DK} {a:Addr} {o:Obj} {items:Array Value} {n:Nat}:h.get? a=some o->o.cls=.type "tuple"->o.data=.seq items n->dI h ks items.toList->dP h (.tup ks) (.ref a)
inductive dI(h:Heap):List DK->List Value->Prop where
 |nil:dI h [] []
 |cons {k:DK} {v:Value} {ks:List DK} {vs:List Value}:dP h k v->dI h ks vs->dI h (k::ks) (v::vs)
end
mutual
theorem dP.inj{h:Heap}:∀{x y:DK} {v:Value},dP h x v->dP h y v->x=y
 |_,_,_,.int i t,e=>by cases e;rfl
 |_,_,_,.str x t,e=>by cases e;rfl
 |_,_,_,.tup h1 _ h3 h4,e=>by
  cases e with
  |tup g1 _ g3 g4 =>
   rw[h1]at g1;cases g1;rw[h3]at g3;cases g3;rw[dI.inj h4 g4]
theorem dI.inj{h:Heap}:∀{xs ys:List DK} {vs:List Value},dI h xs vs->dI h ys vs->xs=ys
 |_,_,_,.nil,e=>by cases e;rfl
 |_,_,_,.cons h1 h2,e=>by
  cases e with
  |cons g1 g2=>rw[dP.inj h1 g1,dI.inj h2 g2]
end
mutual
theorem dP.mono{h h':Heap}(k:∀a o items n,h.get? a=some o->o.data=.seq items n->h'.get? a=some o):∀{x:DK} {v:Value},dP h x v->dP h' x v
 |_,_,.int i t=>.int i t
 |_,_,.str x t=>.str x t
 |_,_,.tup h1 h2 h3 h4=>.tup (k _ _ _ _ h1 h3) h2 h3 (dI.mono k h4)
theorem dI.mono{h h':Heap}(k:∀a o items n,h.get? a=some o->o.data=.seq items n->h'.get? a=some o):∀{xs:List DK} {vs:List Value},dI h xs vs->dI h' xs vs
 |_,_,.nil=>.nil
 |_,_,.cons h1 h2=>.cons (dP.mono k h1) (dI.mono k h2)
end
section
variable(P:Program)(w:World)
mutual
def kb:DK->Int
 | .int i=>(eT P w).hash (.inl i)
 | .str x=>(eT P w).hash (.inr x)
 | .tup ks=>reduceHash (qZ (hV ks))
def hV:List DK->List Int
 |[]=>[]
 |k::ks=>kb k::hV ks
end
end
mutual
def kd:DK->Nat
 | .int _=>1
 | .str _=>1
 | .tup ks=>lL ks+1
def lL:List DK->Nat
 |[]=>0
 |k::ks=>kd k+lL ks
end
theorem yd(P:Program)(w:World):∀(ks:List DK) (k:DK),hV P w (ks++[k])=hV P w ks++[kb P w k]
 |[],k=>by simp[hV]
 |x::ks,k=>by rw[q_,hV,hV,yd P w ks k,q_]
theorem ye:∀(ks:List DK) (k:DK),lL (ks++[k])=lL ks+kd k
 |[],k=>by simp[lL]
 |x::ks,k=>by rw[q_,lL,lL,ye ks k];lia
theorem D_:∀(a b:List DK),DK.dY (a++b)=max (DK.dY a) (DK.dY b)
 |[],b=>by simp[DK.dY]
 |x::a,b=>by rw[q_,DK.dY,DK.dY,D_ a b];lia
section
variable{P:Program}{w:World}
theorem N2:∀(n:Nat) {A:Around} {E:Value->Shared->Prop} {s:Shared} {k:DK} {v:Value} {Q:Int->Shared->Prop},k.deep<=n->A.units+n<cLine->dP s.heap k v->Q (kb P w k) {s with toks:=s.toks+kd k} ->
 wpAny (model P w) A (PySem.pyHash v) Q E s:=show _ by
 intro n
 induction n with
 |zero =>
  intro A E s k v Q hn hu hk h;cases hk with
  |int i t=>rw[kb,kd]at h;exact(eT P w).pyHash (k:=.inl i) (yb _ _ i t) h
  |str x t=>rw[kb,kd]at h;exact(eT P w).pyHash (k:=.inr x) (yc _ _ x t) h
  |tup h1 h2 h3 h4=>simp[DK.deep]at hn
 |succ n ih =>
  intro A E s k v Q hn hu hk h;cases hk with
  |int i t=>rw[kb,kd]at h;exact(eT P w).pyHash (k:=.inl i) (yb _ _ i t) h
  |str x t=>rw[kb,kd]at h;exact(eT P w).pyHash (k:=.inr x) (yc _ _ x t) h
  |@tup ks a o items m h1 h2 h3 h4 =>
   have hT:s.TypeIs (.ref a) "tuple":=⟨o,h1,h2⟩;have hu0:A.units<cLine:=by lia
   rw[DK.deep]at hn;unfold pyHash
   first|unfold pyHashByItsType|skip
   first|refine ai (wpAny_cRoomFor_or (.inr hu0) ?_)|skip
   refine ai (lr hT xn.lookup ?_);show wpAny _ _ (if(some (Value.builtin "tuple.__hash__")==some Value.none)=true then _ else _) Q E s;rw[if_neg (by rw[beq_builtin_none];exact c7)];refine ai (lr hT xn.lookup ?_);show wpAny _ _ (callSpecialIfBoundUnlessNone? (.ref a) "__hash__" _ >>= _) Q E s;refine ai (wpAny_callSpecialIfBoundUnlessNone?_slot hT xn (gZ xn hT F.entry_tuple_hash ?_ (F.args_tuple_hash_1 _)));show wpAny _ _ (CQ (.ref a) >>= _) _ _ s;refine ai (wpAny_tupleItemsOf h1 h3 ?_);refine ai ?_;rw[<-Mo];refine CU _
    (λrest (b:Array Int) s'=>∃done left,ks=done++left/\dI s.heap left rest/\b.toList=hV P w done/\s'={s with toks:=s.toks+lL done})
    _ ?_ ?_ _ _ ⟨[],ks,rfl,h4,rfl,rfl⟩
   ·rintro x rest b s' ⟨done,left,rfl,hl,hb,rfl⟩;cases hl with
    |@cons k _ ks' _ g1 hl' =>
     have hd:k.deep<=n:=by
      rw[D_,DK.dY]at hn;lia
     refine ai (ih hd ?_ g1 ?_)
     ·show A.units+1+n<cLine;lia
     first
      |exact aE ⟨done++[k],ks',by simp,hl',by simp[hb,yd],by simp[ye,rf]⟩
      |exact ai (aE (aE ⟨done++[k],ks',by simp,hl',by simp[hb,yd],by simp[ye,rf]⟩))
   ·rintro b s' ⟨done,left,rfl,hl,hb,rfl⟩;cases hl;rw[f_]at h;show wpAny _ _ (retInt (qZ b.toList)) _ _ _;rw[hb];refine wpAny_ret_mkInt ?_;show wpAny _ _ (if(decide (-(2:Int)^63<=qZ (hV P w done))&&decide (qZ (hV P w done)<2^63))=true then _ else _) Q E _;rw[kb,kd]at h;unfold reduceHash at h;by_cases hr:(decide (-(2:Int)^63<=qZ (hV P w done))&&decide (qZ (hV P w done)<2^63))=true
    ·rw[if_pos hr];rw[if_pos hr]at h;exact aE (by simpa[rf]using h)
    ·rw[if_neg hr];rw[if_neg hr]at h;exact ai (jV (aE (by simpa[rf]using h)))
def rG(ds es:List DK)(i:Nat):Bool:=match ds[i]?,es[i]? with
 |some d,some e=>d.beq e
 |_,_=>true
theorem N3(ds es:List DK)(d e:DK)(n:Nat):(ba (n+1)).all (rG (d::ds) (e::es))=(d.beq e&&(ba n).all (rG ds es)):=by
 rw[Mp,oI,Mq];rfl
theorem D':∀ds es:List DK,DK.gc ds es=((ba (min ds.length es.length)).all (rG ds es)&&ds.length==es.length)
 |[],[]=>by simp[DK.gc]
 |[],_::_=>by simp[DK.gc]
 |_::_,[]=>by simp[DK.gc]
 |d::ds,e::es=>by
  have ih:=D' ds es;simp only[DK.gc,bC];rw[Mr,N3,ih,Ms];congr 2;rw[gA];simp
theorem dI.len{h:Heap}:∀{ks:List DK} {vs:List Value},dI h ks vs->ks.length=vs.length
 |_,_,.nil=>rfl
 |_,_,.cons _ q=>by simp[dI.len q]
theorem dI.at{h:Heap}:∀{ks:List DK} {vs:List Value} {i:Nat} {v:Value},dI h ks vs->vs[i]?=some v->∃d,ks[i]?=some d/\dP h d v
 |_,_,_,_,.nil,e=>by simp at e
 |_,_,0,_,.cons r _,e=>by simp at e;subst e;exact⟨_,rfl,r⟩
 |_,_,i+1,v,.cons _ q,e=>by
  obtain⟨d,h1,h2⟩:=dI.at (i:=i) (v:=v) q (by simpa using e);exact⟨d,by simpa using h1,h2⟩
theorem Ea:∀{ds:List DK} {i:Nat} {d:DK},ds[i]?=some d->d.deep<=DK.dY ds
 |[],_,_,e=>by simp at e
 |x::xs,0,_,e=>by simp at e;subst e;simp only[DK.dY];lia
 |x::xs,i+1,d,e=>by
  have:=Ea (ds:=xs) (i:=i) (d:=d) (by simpa using e);simp only[DK.dY];lia
theorem N4{s:Shared}:∀(n:Nat) (A:Around) (d e:DK) (u u':Value),d.deep<=n->A.units+n<cLine->dP s.heap d u->dP s.heap e u'->RcAt A s u u' (d.beq e)/\EqAt A s u u' (d.beq e):=show _ by
 have N5:∀a b:Int,(a==b)=decide (a=b):=λa b=>rfl;have flat:∀(A:Around) (d e:DK) (u u':Value),d.deep=0->A.units<cLine->dP s.heap d u->dP s.heap e u'->RcAt A s u u' (d.beq e)/\EqAt A s u u' (d.beq e):=by
  intro A d e u u' hn hu hd he;cases hd with
  |int a t =>
   cases he with
   |int b t'=>rw[DK.beq,<-N5];exact⟨RcAt.int_int a t b t',EqAt.int_int a t b t'⟩
   |str b t'=>exact⟨RcAt.int_str a t b t',EqAt.int_str a t b t'⟩
   |tup h1 h2 h3 h4=>exact⟨RcAt.int_tuple a t ⟨_,h1,h2,_,h3⟩ hu,EqAt.int_tuple a t ⟨_,h1,h2,_,h3⟩ hu⟩
  |str a t =>
   cases he with
   |int b t'=>exact⟨RcAt.str_int a t b t',EqAt.str_int a t b t'⟩
   |str b t' =>
    have e:(a==b)=decide (a=b):=by
     by_cases c:a=b
     ·subst c;simp
     ·rw[decide_eq_false c];simpa using c
    rw[DK.beq,<-e];exact⟨RcAt.str_str a t b t',EqAt.str_str a t b t'⟩
   |tup h1 h2 h3 h4=>exact⟨RcAt.str_tuple a t ⟨_,h1,h2,_,h3⟩ hu,EqAt.str_tuple a t ⟨_,h1,h2,_,h3⟩ hu⟩
  |tup h1 h2 h3 h4=>simp[DK.deep]at hn
 intro n
 induction n with
 |zero=>exact λA d e u u' hn hu hd he=>flat A d e u u' (by lia) (by lia) hd he
 |succ n ih =>
  intro A d e u u' hn hu hd he;have hu':A.units<cLine:=by lia
  by_cases h0:d.deep=0
  ·exact flat A d e u u' h0 hu' hd he
  have hd0:=hd;cases hd with
  |int a t=>simp[DK.deep]at h0
  |str a t=>simp[DK.deep]at h0
  |@tup ks a o items m h1 h2 h3 h4 =>
   have ht:s.heap.IsTuple a items:=⟨_,h1,h2,_,h3⟩;have fh:=he;cases he with
   |int b t=>exact⟨RcAt.tuple_int b t ht hu',EqAt.tuple_int b t ht hu'⟩
   |str b t=>exact⟨RcAt.tuple_str b t ht hu',EqAt.tuple_str b t ht hu'⟩
   |@tup ls b o' items' m' g1 g2 g3 g4 =>
    have gg:s.heap.IsTuple b items':=⟨_,g1,g2,_,g3⟩;rw[DK.deep]at hn;have e:((ba (min items.size items'.size)).all (rG ks ls)&&items.size==items'.size)=DK.beq (.tup ks) (.tup ls):=by
     rw[DK.beq,D',h4.len,g4.len];simp
    have rc:RcAt A s (.ref a) (.ref b) (DK.beq (.tup ks) (.tup ls)):=by
     rw[<-e];refine RcAt.tuples ht gg hu' λj j1 j2=>?_;obtain⟨dx,rH,yf⟩:=h4.at (i:=j) (v:=items[j]) (by simp[j1]);obtain⟨dy,yg,yh⟩:=g4.at (i:=j) (v:=items'[j]) (by simp[j2]);have N6:=Ea rH;have:=(ih A.in1 dx dy _ _ (by lia) (by show A.units+1+n<cLine;lia) yf yh).2;unfold rG;rw[rH,yg];exact this
    refine⟨rc,?_⟩;by_cases hab:a=b
    ·subst hab;have ed:DK.tup ks=DK.tup ls:=dP.inj hd0 fh;rw[<-ed,DK.beq_refl];exact EqAt.same _
    ·exact EqAt.of_refs hab rc
theorem DK.N7(a b:DK):a.beq b=decide (a=b):=by
 by_cases c:a=b
 ·subst c;rw[DK.beq_refl];simp
 ·rw[decide_eq_false c];cases q:a.beq b with
  |false=>rfl
  |true=>exact absurd (DK.beq_eq q) c
theorem N8:∀(n:Nat) {A:Around} {E:Value->Shared->Prop} {s:Shared} {k:DK} {v:Value} {Q:Bool->Shared->Prop},k.deep<=n->dP s.heap k v->Q true s->wpAny (model P w) A (eqIsQuiet n v) Q E s:=show _ by
 intro n
 induction n with
 |zero =>
  intro A E s k v Q hn hk h;cases hk with
  |int i t=>rw[xo _ rfl];exact aE h
  |str x t=>rw[xo _ rfl];exact aE h
  |tup h1 h2 h3 h4=>simp[DK.deep]at hn
 |succ n ih =>
  intro A E s k v Q hn hk h;cases hk with
  |int i t=>rw[xo _ rfl];exact aE h
  |str x t=>rw[xo _ rfl];exact aE h
  |@tup ks a o items m h1 h2 h3 h4 =>
   have hT:s.TypeIs (.ref a) "tuple":=⟨o,h1,h2⟩;rw[DK.deep]at hn;unfold eqIsQuiet;refine ai (lr hT F.slot_tuple_eq.lookup ?_);show wpAny _ _ (isInstance (.ref a) (.type "tuple") >>= _) _ _ s;refine ai (uf hT isSubtype_tuple_tuple ?_);simp only[CV,iC,if_false];refine ai (je h1 h3 ?_);refine ai ?_;show wpAny _ _ (forIn items _ _) _ _ s;rw[<-Mo];refine CU _ (λrest r s'=>r.1=none/\s'=s/\∃ls,dI s.heap ls rest/\DK.dY ls<=n) _ ?_ ?_ _ _ ⟨rfl,rfl,ks,h4,by lia⟩
   ·rintro v rest r s' ⟨hr,rfl,ls,hls,hdl⟩;cases hls with
    |@cons l _ ls' _ g1 g2 =>
     rw[DK.dY]at hdl;refine ai (ih (k:=l) (by lia) g1 ?_);simp only[CV,iC,if_false];exact aE ⟨rfl,rfl,ls',g2,by lia⟩
   ·rintro⟨r1,r2⟩ s' ⟨hr,rfl,_⟩;simp only at hr;subst hr;exact aE h
end
def N9(h:Heap)(k:DK)(a:Addr):Prop:=dP h k (.ref a)/\k.deep<=4
def oV(P:Program)(w:World):HeapKind P w DK where
 is:=N9
 hash:=kb P w
 draws:=kd
 room:=λA=>A.units+4<cLine
 inj:=λhx hy=>hx.1.inj hy.1
 keeps:=λ{h h' k a d o es ep} x ho hd hs=>⟨x.1.mono λb u items n hb hu=>by
  have hne:b≠d:=by
   rintro rfl;obtain rfl:u=o:=dG (hb.symm.trans ho);rw[hd]at hu;exact nomatch hu
  exact(hs.2 b hne).trans hb,x.2⟩
 pyHash:=λhu hk h=>N2 4 hk.2 hu hk.1 h
 eqBool:=λ{A E s x y a b Q} hu hx hy h=>by
  have:=(N4 4 A x y (.ref a) (.ref b) hx.2 hu hx.1 hy.1).2;rw[DK.N7]at this;exact this _ _ _ _ h
 quiet:=λ{A E s k a Q} hk h=>N8 8 (cj hk.2 (by decide)) hk.1 h
end L2
namespace L2
open PySem PySem.Spec PyProof.Rows
inductive V where
 |non|bl (b:Bool)|int (i:Int)|str (x:Str)|gh (b:Array UInt8)|flt (b:UInt64)|ref (a:Addr)|ty (n:String)
 deriving DecidableEq
def RelV:V->Value->Prop
 | .non,u=>u=Value.none
 | .bl b,u=>u=Value.bool b
 | .int i,u=>∃t,u=Value.int i t
 | .str x,u=>∃t,u=Value.str x t
 | .gh b,u=>∃t,u=Value.bytes b t
 | .flt b,u=>∃t,u=Value.float b t
 | .ref a,u=>u=Value.ref a
 | .ty n,u=>u=Value.type n
abbrev Vals:List V->List Value->Prop:=Paired RelV
theorem Vals.length{xs:List V}{us:List Value}(r:Vals xs us):xs.length=us.length:=Paired.length r
theorem Vals.get:∀{xs:List V} {us:List Value} {i:Nat} {x:V},Vals xs us->xs[i]?=some x->∃u,us[i]?=some u/\RelV x u
 |_,_,_,_,.nil,e=>by simp at e
 |_,_,0,_,.cons r _,e=>by simp at e;subst e;exact⟨_,rfl,r⟩
 |_,_,i+1,x,.cons _ t,e=>by
  obtain⟨u,h1,h2⟩:=Vals.get (i:=i) (x:=x) t (by simpa using e);exact⟨u,by simpa using h1,h2⟩
theorem Vals.set{x:V}{u:Value}(r:RelV x u):∀{xs:List V} {us:List Value} (i:Nat),Vals xs us->Vals (xs.set i x) (us.set i u)
 |_,_,_,.nil=>.nil
 |_,_,0,.cons _ t=>.cons r t
 |_,_,i+1,.cons q t=>.cons q (Vals.set r i t)
theorem Vals.append:∀{xs ys:List V} {us ws:List Value},Vals xs us->Vals ys ws->Vals (xs++ys) (us++ws)
 |_,_,_,_,.nil,s=>s
 |_,_,_,_,.cons r t,s=>.cons r (Vals.append t s)
theorem Vals.take:∀{xs:List V} {us:List Value} (n:Nat),Vals xs us->Vals (xs.take n) (us.take n)
 |_,_,0,_=>.nil
 |_,_,_+1,.nil=>.nil
 |_,_,n+1,.cons r t=>.cons r (Vals.take n t)
theorem Vals.drop:∀{xs:List V} {us:List Value} (n:Nat),Vals xs us->Vals (xs.drop n) (us.drop n)
 |_,_,0,r=>r
 |_,_,_+1,.nil=>.nil
 |_,_,n+1,.cons _ t=>Vals.drop n t
def fI:Option V->Option Value->Prop
 |some v,some u=>RelV v u
 |none,none=>True
 |_,_=>False
def KV{κ:Type}:List (κ×V)->List (κ×Value)->Prop:=Paired λ(p:κ×V) (q:κ×Value)=>p.1=q.1/\RelV p.2 q.2
def kV:Key->V
 | .inl i=>.int i
 | .inr x=>.str x
inductive HO where
 |lst (xs:List V)
 |tup (xs:List V)
 |dK (kvs:List (Key×V))|dT (kvs:List (DK×V))
 |set (S:Int->Bool) (n:Nat)
 |ins (C dx:Addr) (fs:List (Str×V))
 |own (x:Addr)
 |xd (fs:List (Str×V))
 |met (f x:Addr)
 |uK (lo hi:Int)
 |dB (o:Obj) (u:HO)
 |lM (ps:Array Value)
 |ext (φ:Heap->Prop)
abbrev Hp:=Addr->Option HO
def upd(H:Hp)(a:Addr)(o:HO):Hp:=λb=>if b=a then some o else H b
theorem dm{H:Hp}{a:Addr}{o:HO}:upd H a o a=some o:=by unfold upd;rw[if_pos rfl]
theorem bf{H:Hp}{a b:Addr}{o:HO}(h:b≠a):upd H a o b=H b:=by unfold upd;rw[if_neg h]
theorem N_{H:Hp}{a:Addr}{o u:HO}:upd (upd H a o) a u=upd H a u:=by
 funext b;unfold upd;split<;>rfl
theorem N'{H:Hp}{a b:Addr}{o u:HO}(h:H a=some o)(h':H b=some u)(d:o≠u):a≠b:=by
 intro e;subst e;rw[h]at h';exact d (dG h')
theorem hW{H:Hp}{a b:Addr}{o:HO}(h:H a=some o)(h':H b=none):a≠b:=by
 intro e;subst e;rw[h]at h';cases h'
mutual
inductive jm(H:Hp):DK->V->Prop where
 |int (i:Int):jm H (.int i) (.int i)
 |str (x:Str):jm H (.str x) (.str x)
 |tup {a:Addr} {ks:List DK} {vs:List V}:H a=some (.tup vs)->jo H ks vs->jm H (.tup ks) (.ref a)
inductive jo(H:Hp):List DK->List V->Prop where
 |nil:jo H [] []
 |cons {k:DK} {v:V} {ks:List DK} {vs:List V}:jm H k v->jo H ks vs->jo H (k::ks) (v::vs)
end
mutual
theorem jm.mono{H H':Hp}(ht:∀b xs,H b=some (.tup xs)->H' b=some (.tup xs)):∀{k:DK} {v:V},jm H k v->jm H' k v
 |_,_,.int i=>.int i
 |_,_,.str x=>.str x
 |_,_,.tup h1 h2=>.tup (ht _ _ h1) (jo.mono ht h2)
theorem jo.mono{H H':Hp}(ht:∀b xs,H b=some (.tup xs)->H' b=some (.tup xs)):∀{ks:List DK} {vs:List V},jo H ks vs->jo H' ks vs
 |_,_,.nil=>.nil
 |_,_,.cons h1 h2=>.cons (jm.mono ht h1) (jo.mono ht h2)
end
structure ke(H:Hp)(k:DK)(a:Addr):Prop where
 at_:jm H k (.ref a)
 deep:k.deep<=4
theorem ke.mono{H H':Hp}{k:DK}{a:Addr}(x:ke H k a)(ht:∀b xs,H b=some (.tup xs)->H' b=some (.tup xs)):ke H' k a:=⟨x.at_.mono ht,x.deep⟩
section
variable(P:Program)(w:World)
def cG(H:Hp)(h:Heap)(a:Addr):HO->Prop
 | .lst xs=>xs.length<=sizeLine/\∃(its:List Value) (n:Nat),Vals xs its/\h.get? a=some {cls:=.type "list",data:=.seq its.toArray n}
 | .tup xs=>xs.length<=sizeLine/\∃its:List Value,Vals xs its/\IsTup h a its.toArray/\∀o,h.get? a=some o->o.dict=none
 | .dK kvs=>kvs.length<=sizeLine/\(a==sysModules)=false/\∃vs,KV kvs vs/\h.DictOf (eT P w) a vs
 | .dT kvs=>kvs.length<=sizeLine/\(a==sysModules)=false/\∃xs:List (DK×Addr×Value),
  Paired (λ(p:DK×V) (q:DK×Addr×Value)=>p.1=q.1/\ke H p.1 q.2.1/\RelV p.2 q.2.2) kvs xs /\
  ∃o es ep,h.get? a=some o/\o.ExactDict/\o.data=.dict es ep/\es.toList=xs.map (entryOfKey (oV P w))/\(xs.map (·.1)).Nodup
 | .set S n=>h.SetOf (intKind P w) a S n
 | .ins C dx fs=>H dx=some (.own a)/\fs.length<=1000/\dx≠a/\h.get? a=some (mG C dx) /\
  ∃mA,h.Ns1 dx mA/\(∀f,fI (fs.lookup f) (mA f))/\CW mA (fs.map (·.1))
 | .own _=>∃o,h.get? a=some o
 | .xd fs=>∃mA,h.Ns1 a mA/\∀f,fI (fs.lookup f) (mA f)
 | .uK lo hi=>∃t u v,h.get? a=some {cls:=.type "range",data:=.fields #[.int lo t,.int hi u,.int 1 v]}
 | .dB o u=>h.get? a=some o/\cG H h a u
 | .lM ps=>h.get? a=some {cls:=.none,data:=.fields ps}
 | .met f x=>h.get? a=some (CY (.ref f) (.ref x))
 | .ext φ=>φ h/\(∃o,h.get? a=some o)/\∀h1 h2:Heap,φ h1->(∀o,h1.get? a=some o->h2.get? a=some o)->φ h2
def b9(H:Hp)(h:Heap):Prop:=∀a o,H a=some o->cG P w H h a o
end
section
variable{P:Program}{w:World}{H H':Hp}{h h':Heap}{a:Addr}{o:HO}
theorem cG.lt(x:cG P w H h a o):a<h.objs.size:=show _ by
 cases o with
 |lst xs=>obtain⟨_,_,_,_,e⟩:=x;exact bE e
 |tup xs=>obtain⟨_,_,_,p,_⟩:=x;exact p.lt
 |dK kvs=>obtain⟨_,_,_,_,o,_,_,e,_⟩:=x;exact bE e
 |dT kvs=>obtain⟨_,_,_,_,o,_,_,e,_⟩:=x;exact bE e
 |set S n=>obtain⟨o,_,_,_,e,_⟩:=x;exact bE e
 |ins C dx fs=>obtain⟨_,_,_,e,_⟩:=x;exact bE e
 |own y=>obtain⟨_,e⟩:=x;exact bE e
 |xd fs=>obtain⟨_,⟨_,_,_,e,_⟩,_⟩:=x;exact bE e
 |uK lo hi=>obtain⟨_,_,_,e⟩:=x;exact bE e
 |dB ob u=>obtain⟨e,_⟩:=x;exact bE e
 |lM ps=>exact bE (show h.get? a=some _ from x)
 |met f y=>exact bE (show h.get? a=some _ from x)
 |ext φ=>obtain⟨_,⟨_,e⟩,_⟩:=x;exact bE e
theorem Paired.jq{α β:Type}{F G:α->β->Prop}:∀{l₁:List α} {l₂:List β},Paired F l₁ l₂->(∀a b,F a b->G a b)->Paired G l₁ l₂
 |_,_,.nil,_=>.nil
 |_,_,.cons r t,f=>.cons (f _ _ r) (Paired.jq t f)
theorem cG.stay(x:cG P w H h a o)(k:∀b u,(b=a∨H b=some (.own a))->h.get? b=some u->h'.get? b=some u)
 (ho:∀b,H b=some (.own a)->H' b=some (.own a)) (ht:∀b xs,H b=some (.tup xs)->H' b=some (.tup xs)):cG P w H' h' a o:=show _ by
 induction o with
 |lst xs=>obtain⟨z,its,n,r,e⟩:=x;exact⟨z,its,n,r,k _ _ (.inl rfl) e⟩
 |tup xs=>obtain⟨z,its,r,⟨ob,e,c⟩,nd⟩:=x;exact⟨z,its,r,⟨ob,k _ _ (.inl rfl) e,c⟩,λo q=>by rw[k _ _ (.inl rfl) e]at q;cases q;exact nd _ e⟩
 |dK kvs=>obtain⟨z,y,vs,r,ob,es,ep,e,c⟩:=x;exact⟨z,y,vs,r,ob,es,ep,k _ _ (.inl rfl) e,c⟩
 |dT kvs =>
  obtain⟨z,y,xs,r,ob,es,ep,e,c⟩:=x;exact⟨z,y,xs,Paired.jq r λp q z=>⟨z.1,z.2.1.mono ht,z.2.2⟩,ob,es,ep,k _ _ (.inl rfl) e,c⟩
 |set S n=>obtain⟨ob,es,ep,t,e,c⟩:=x;exact⟨ob,es,ep,t,k _ _ (.inl rfl) e,c⟩
 |ins C dx fs =>
  obtain⟨d,z,ne,e,mA,⟨od,es,ep,e2,c⟩,r⟩:=x;exact⟨ho _ d,z,ne,k _ _ (.inl rfl) e,mA,⟨od,es,ep,k _ _ (.inr d) e2,c⟩,r⟩
 |own y=>obtain⟨ob,e⟩:=x;exact⟨ob,k _ _ (.inl rfl) e⟩
 |xd fs=>obtain⟨mA,⟨od,es,ep,e,c⟩,r⟩:=x;exact⟨mA,⟨od,es,ep,k _ _ (.inl rfl) e,c⟩,r⟩
 |uK lo hi=>obtain⟨t,u,v,e⟩:=x;exact⟨t,u,v,k _ _ (.inl rfl) e⟩
 |dB ob u ih=>obtain⟨e,q⟩:=x;exact⟨k _ _ (.inl rfl) e,ih q⟩
 |lM ps =>
  have e:h.get? a=some {cls:=.none,data:=.fields ps}:=x;show h'.get? a=some {cls:=.none,data:=.fields ps};exact k a _ (.inl rfl) e
 |met f y =>
  have e:h.get? a=some (CY (.ref f) (.ref y)):=x;show h'.get? a=some (CY (.ref f) (.ref y));exact k a _ (.inl rfl) e
 |ext φ=>obtain⟨p,⟨o,e⟩,st⟩:=x;exact⟨st _ _ p λo q=>k _ _ (.inl rfl) q,⟨o,k _ _ (.inl rfl) e⟩,st⟩
theorem b9.lt(x:b9 P w H h)(e:H a=some o):a<h.objs.size:=(x a o e).lt
theorem b9.fresh(x:b9 P w H h)(e:h.objs.size<=a):H a=none:=by
 cases q:H a with
 |none=>rfl
 |some u=>exact absurd (dM (x.lt q) e) (jW _)
theorem b9.kept(x:b9 P w H h)(k:∀b u,h.get? b=some u->h'.get? b=some u):b9 P w H h':=λa o e =>
 (x a o e).stay (λb u _ q=>k b u q) (λ_ q=>q) λ_ _ q=>q
theorem b9.laid(x:b9 P w H h)(k:∀b u,h.get? b=some u->h'.get? b=some u)(hp:h.objs.size<=a)(new:cG P w (upd H a o) h' a o):b9 P w (upd H a o) h':=λb u e=>by
 have hn:=x.fresh hp;by_cases hb:b=a
 ·subst hb;rw[dm]at e;cases e;exact new
 ·rw[bf hb]at e;exact(x b u e).stay (λc v _ q=>k c v q) (λc q=>by rw[bf (hW q hn)];exact q) λc xs q=>by rw[bf (hW q hn)];exact q
end
def Rd(H:Hp)(a:Addr)(u:HO):Prop:=H a=some u∨∃o,H a=some (.dB o u)
theorem Rd.ok{P:Program}{w:World}{H:Hp}{h:Heap}{a:Addr}{u:HO}(r:Rd H a u)(x:b9 P w H h):cG P w H h a u:=by
 rcases r with r|⟨o,r⟩
 ·exact x a u r
 ·obtain⟨_,q⟩:=x a _ r;exact q
def rJ:Option HO->Prop
 |some (.lst _)=>True
 |some (.dK _)=>True
 |some (.dT _)=>True
 |some (.set _ _)=>True
 |some (.ins _ _ _)=>True
 |some (.ext _)=>True
 |_=>False
section
variable{P:Program}{w:World}{H:Hp}{h h':Heap}{x e:Addr}{o':HO}
theorem b9.write(ok:b9 P w H h)(mu:rJ (H x))(he:e=x∨H e=some (.own x))(k:∀b u,b≠e->h.get? b=some u->h'.get? b=some u)(heo:∃u,h'.get? e=some u)
 (new:cG P w (upd H x o') h' x o'):b9 P w (upd H x o') h':=λb u q=>by
 have Eb:∀c y,H c=some (.own y)->c≠x:=λc y r z=>by subst z;rw[r]at mu;exact mu
 have Oa:∀c xs,H c=some (.tup xs)->c≠x:=λc xs r z=>by subst z;rw[r]at mu;exact mu
 by_cases hb:b=x
 ·subst hb;rw[dm]at q;cases q;exact new
 ·rw[bf hb]at q;by_cases hbe:b=e
  ·have q':H b=some (.own x):=show _ by
    rcases he with z|z
    ·exact absurd (hbe.trans z) hb
    ·rw[hbe];exact z
   rw[q]at q';cases q';obtain⟨v,hv⟩:=heo;exact⟨v,by rw[hbe];exact hv⟩
  ·refine(ok b u q).stay (λc v hc r=>k c v ?_ r) (λc r=>by rw[bf (Eb c b r)];exact r) λc xs r=>by rw[bf (Oa c xs r)];exact r
   rcases hc with rfl|hc
   ·exact hbe
   ·rintro rfl;rcases he with z|z
    ·exact Eb c b hc z
    ·rw[hc]at z;cases z;exact hb rfl
end
structure Un(fs ex:List Addr)(H H':Hp)(h h':Heap):Prop where
 keep:∀b o,h.get? b=some o->H b=none->b∉fs->b∉ex->h'.get? b=some o
 slot:∀b o,h.get? b=some o->H b=none->b∈fs->b∉ex->∃sl,h'.get? b=some {o with slots:=sl}
 free:∀b o,h.get? b=some o->H b=none->b∉ex->H' b=none
 there:∀b o,h.get? b=some o->b∉ex->∃o',h'.get? b=some o'
 tups:∀b xs,H b=some (.tup xs)->H' b=some (.tup xs)
 gi:∀b o u,H b=some (.dB o u)->H' b=some (.dB o u)
 hX:∀b ps,H b=some (.lM ps)->∃more,H' b=some (.lM (ps++more))
section
variable{fs fs' ex ex':List Addr}{H H1 H2:Hp}{h h1 h2 h':Heap}{a x e:Addr}{o:HO}
theorem Un.any(u:Un fs ex H H1 h h1){b:Addr}{ob:Obj}(q:h.get? b=some ob)(n:H b=none)(hx:b∉ex):∃sl,h1.get? b=some {ob with slots:=sl}:=by
 by_cases hb:b∈fs
 ·exact u.slot b ob q n hb hx
 ·exact⟨ob.slots,u.keep b ob q n hb hx⟩
theorem Un.kept(k:∀b u,h.get? b=some u->h'.get? b=some u):Un fs ex H H h h' :=
 ⟨λb ob q _ _ _=>k b ob q,λb ob q _ _ _=>⟨ob.slots,k b ob q⟩,λ_ _ _ n _=>n,λb ob q _=>⟨ob,k b ob q⟩,λ_ _ q=>q,λ_ _ _ q=>q,λ_ ps q=>⟨#[],by rw[q];simp⟩⟩
theorem Un.refl:Un fs ex H H h h:=Un.kept λ_ _ q=>q
theorem Un.laid(k:∀b u,h.get? b=some u->h'.get? b=some u)(hp:h.objs.size<=a)(hn:H a=none):Un fs ex H (upd H a o) h h' where
 keep:=λb u q _ _ _=>k b u q
 slot:=λb u q _ _ _=>⟨u.slots,k b u q⟩
 free:=λb u q n _=>by rw[bf (cW (dM (bE q) hp))];exact n
 there:=λb u q _=>⟨u,k b u q⟩
 tups:=λb xs q=>by rw[bf (hW q hn)];exact q
 gi:=λb u xs q=>by rw[bf (hW q hn)];exact q
 hX:=λb ps q=>⟨#[],by rw[bf (hW q hn),q];simp⟩
theorem Un.write(mu:rJ (H x))(he:e=x∨H e=some (.own x))(k:∀b u,b≠e->h.get? b=some u->h'.get? b=some u)(heo:∃u,h'.get? e=some u):Un fs ex H (upd H x o) h h':=show _ by
 have hx:∀b,H b=none->b≠x:=λb n z=>by subst z;rw[n]at mu;exact mu
 have hb:∀b,H b=none->b≠e:=λb n z=>by
  subst z;rcases he with r|r
  ·exact hx b n r
  ·rw[n]at r;cases r
 have hm:∀b u,H b=some u->¬rJ (some u)->b≠x:=λb u q nm z=>by subst z;rw[q]at mu;exact nm mu
 refine⟨λb u q n _ _=>k b u (hb b n) q,λb u q n _ _=>⟨u.slots,k b u (hb b n) q⟩,λb u q n _=>by rw[bf (hx b n)];exact n,λb u q _=>?_,
  λb xs q=>by rw[bf (hm b _ q λz=>z)];exact q,λb u xs q=>by rw[bf (hm b _ q λz=>z)];exact q,λb ps q=>⟨#[],by rw[bf (hm b _ q λz=>z),q];simp⟩⟩
 by_cases hbe:b=e
 ·subst hbe;exact heo
 ·exact⟨u,k b u hbe q⟩
end
def uL(h:Heap)(H:Hp):List Addr:=(ba h.objs.size).filter λa=>(H a).isSome
def kf(h:Heap)(H:Hp):Heap:=jX h (uL h H)
theorem Ob(h:Heap)(H:Hp):(kf h H).objs.size=h.objs.size:=PySem.W.hideAll_size _ _
theorem Oc{h:Heap}{H:Hp}{b:Addr}{o:Obj}(e:h.get? b=some o)(n:H b=none):(kf h H).get? b=some o :=
 xp _ e λhm=>by
  have q:(H b).isSome=true:=(xq.mp hm).2;rw[n]at q;simp at q
theorem Od{h:Heap}{H:Hp}{b:Addr}{o:Obj}(e:(kf h H).get? b=some o):h.get? b=some o/\H b=none:=show _ by
 have e':h.get? b=some o:=rg (uL h H) e;refine⟨e',?_⟩;cases q:H b with
 |none=>rfl
 |some x =>
  have hm:b∈uL h H:=xq.mpr ⟨jY.mpr (bE e'),by simp[q]⟩;have z:(kf h H).get? b=none:=ug (uL h H) hm;rw[z]at e;cases e
def Oe(g h:Heap)(L:Addr):List (Addr×Obj):=(ba h.objs.size).filterMap λa=>if a=L∨(g.get? a).isSome=true then none else(h.get? a).map λo=>(a,o)
def rest(g h:Heap)(L d:Addr):List (Addr×Obj):=(Oe g h L).filter λp=>decide (p.1≠d)
end L2
namespace L2
open PySem PySem.Spec PyProof.Rows
structure Mod(K:ao)(mg:Str->Option Value)(base:Heap):Prop where
 gC:K.In base
 glob:base.Ns mainGlobals mg
 blt:∃mb,base.Ns builtinsNs mb/\∀x:Str,x≠"__name__"->mb x=bootBuiltins x
 nolimit:base.NoLimit
structure Cx where
 prog:Program
 w:World
 K:ao
 mg:Str->Option Value
 base:Heap
 A:Around
 N:List Str
 s₀:Shared
 H₀:Hp
 env:Env
 outer:List Env
 stack:List Env
 ex:List Addr
 fn:Str->Bool
 calm:Bool
 pn:List (Addr×Obj)
 xe:Value->Shared->Prop
def frs(l:List Env):List Addr:=l.filterMap (·.frame)
abbrev Cx.fs(X:Cx):List Addr:=frs X.outer
def uM(sc:Scope)(x:Str):Prop:=sc.names.lookup x=some .local∨sc.names.lookup x=some .cell∨sc.names.lookup x=some .free
def Loc(sc:Scope)(x:Str):Prop:=sc.names.lookup x=some .local∨sc.names.lookup x=some .cell
def Look(env:Env)(h:Heap)(m:Str->Option Value)(x:Str)(u:Value):Prop :=
 (env.kindOf x=some .local/\m x=some u)∨((env.kindOf x=some .cell∨env.kindOf x=some .free)/\∃c,env.cells.lookup x=some c/\h.IsCell c (some u))
structure Cx.Ok(X:Cx):Prop where
 mod:Mod X.K X.mg X.base
 kind:X.env.scope.kind=.function
 glob:X.env.globals=mainGlobals
 blt:X.env.builtins=builtinsNs
 above:X.s₀.heap.objs.size<=X.env.locals
 inj:∀x y c,X.env.cells.lookup x=some c->X.env.cells.lookup y=some c->x=y
 has:∀x,(X.env.kindOf x=some .cell∨X.env.kindOf x=some .free)->∃c,X.env.cells.lookup x=some c
 cab:∀x c,X.fn x=true->X.env.cells.lookup x=some c->X.s₀.heap.objs.size<=c
 hd:X.calm=true->X.A.handled=none
 frames:X.A.frames=some X.stack
 mV:X.stack=X.outer∨(X.stack=X.env::X.outer/\X.env.frame=some X.env.locals)
 rK:∀b∈X.ex,b≠X.env.locals/\∀x c,X.env.cells.lookup x=some c->c≠b
 bs:∀b o,X.base.get? b=some o->X.s₀.heap.get? b=some o/\X.H₀ b=none
 gD:X.base.objs.size<=X.s₀.heap.objs.size
 lN:∀b o,X.base.get? b=some o->b∉X.ex
 lP:∀b∈X.ex,b∉X.fs
 fi:X.s₀.heap.FunFrames X.base X.outer
 iH:∀b∈X.fs,X.H₀ b=none
structure Inv(X:Cx)(pins:List (Addr×Obj))(σ:List (Option V))(H:Hp)(s:Shared):Prop where
 ok:X.Ok
 os:s.os=X.s₀.os
 bare:AllBare s.gens
 base:Un X.fs X.ex X.H₀ H X.s₀.heap s.heap
 loc:∃m,s.heap.Ns X.env.locals m/\∀(i:Nat) (x:Str) (v:V),X.N[i]?=some x->σ[i]?=some (some v)->uM X.env.scope x->∃u,RelV v u/\Look X.env s.heap m x u
 cell:∀x c,X.env.cells.lookup x=some c->∃v,s.heap.IsCell c v
 free:H X.env.locals=none
 fJ:∀x c,X.env.cells.lookup x=some c->H c=none
 pin:∀p∈X.pn++pins,s.heap.get? p.1=some p.2/\H p.1=none/\p.1≠X.env.locals/\p.1∉X.fs/\∀v,p.2.data≠.cell v
 hok:b9 X.prog X.w H s.heap
 len:σ.length=X.N.length
section
variable{X:Cx}{pins:List (Addr×Obj)}{σ:List (Option V)}{H H':Hp}{s:Shared}{h':Heap}
theorem Cx.Ok.Of(ok:X.Ok){b:Addr}{o:Obj}(e:X.base.get? b=some o):b∉X.fs:=λhb=>by
 have:=(ok.fi.mem hb).1;rw[e]at this;cases this
theorem Inv.bs(I:Inv X pins σ H s):∀b o,X.base.get? b=some o->s.heap.get? b=some o/\H b=none:=λb o e =>
 ⟨I.base.keep b o (I.ok.bs b o e).1 (I.ok.bs b o e).2 (I.ok.Of e) (I.ok.lN b o e),I.base.free b o (I.ok.bs b o e).1 (I.ok.bs b o e).2 (I.ok.lN b o e)⟩
theorem Inv.bk(I:Inv X pins σ H s):∀b o,X.base.get? b=some o->s.heap.get? b=some o:=λb o e=>(I.bs b o e).1
theorem Inv.mod(I:Inv X pins σ H s):Mod X.K X.mg X.base:=I.ok.mod
theorem Inv.cX(I:Inv X pins σ H s):X.K.In s.heap:=I.ok.mod.gC.keeps I.bk
theorem Inv.lt(I:Inv X pins σ H s):X.env.locals<s.heap.objs.size:=let⟨_,hn,_⟩:=I.loc;hn.lt
theorem Inv.sz(I:Inv X pins σ H s):X.s₀.heap.objs.size<=s.heap.objs.size:=cj I.ok.above (oJ I.lt)
theorem Inv.Og(I:Inv X pins σ H s){a:Addr}(h:s.heap.objs.size<=a):a∉X.fs:=λhb=>by
 obtain⟨_,o,ho,_⟩:=I.ok.fi.mem hb;exact absurd (dM (bE ho) (cj I.sz h)) (jW _)
theorem Inv.mW(I:Inv X pins σ H s):∀x c,X.env.cells.lookup x=some c->c≠X.env.locals:=λx c e z=>by
 obtain⟨v,o,ho,hd⟩:=I.cell x c e;obtain⟨m,⟨o',es,ep,ho',hd',_⟩,_⟩:=I.loc;rw[z,ho']at ho;cases ho;rw[hd']at hd;cases hd
theorem Inv.fi(I:Inv X pins σ H s):s.heap.FunFrames X.base X.outer:=show _ by
 have all:∀(l:List Env),(∀b∈frs l,b∈X.fs)->X.s₀.heap.FunFrames X.base l->s.heap.FunFrames X.base l:=by
  intro l
  induction l with
  |nil=>intro _ _;trivial
  |cons env r ih =>
   intro hs hl;obtain⟨hk,⟨L,o,hf,hn,ho,hd⟩,hr⟩:=hl;have hL:L∈X.fs:=hs L (by unfold frs;rw[fS,hf];exact df);obtain⟨sl,e⟩:=I.base.slot L o ho (I.ok.iH L hL) hL λz=>I.ok.lP L z hL;exact⟨hk,⟨L,_,hf,hn,e,hd⟩,ih (λb hb=>hs b (by unfold frs;rw[fS,hf];exact dk _ hb)) hr⟩
 exact all X.outer (λ_ hb=>hb) I.ok.fi
theorem Inv.stack(I:Inv X pins σ H s):s.heap.FunFrames X.base X.stack:=by
 rcases I.ok.mV with e|⟨e,hf⟩
 ·rw[e];exact I.fi
 ·rw[e];obtain⟨m,hn,_⟩:=I.loc;refine .cons (by rw[I.ok.kind];decide) hf hn ?_ I.fi;exact Heap.get?_none_of_le (cj I.ok.gD I.ok.above)
theorem Inv.uN(I:Inv X pins σ H s):∀b∈frs X.stack,b∈X.env.locals::X.fs:=λb hb=>by
 rcases I.ok.mV with e|⟨e,hf⟩
 ·rw[e]at hb;exact dk _ hb
 ·rw[e]at hb;unfold frs at hb;rw[fS,hf]at hb;exact hb
theorem Inv.uO(I:Inv X pins σ H s):∀b∈frs X.stack,H b=none:=λb hb=>by
 rcases bF.mp (I.uN b hb) with e|hb
 ·rw[e];exact I.free
 ·obtain⟨_,o,ho,_⟩:=I.ok.fi.mem hb;exact I.base.free b o ho (I.ok.iH b hb) λz=>I.ok.lP b z hb
theorem Inv.step{g':Array GenState}{t':Nat}{d':Drawn}{ch:List Addr}(I:Inv X pins σ H s)
 (hch:∀b∈ch,(b∈X.ex∨X.s₀.heap.objs.size<=b)/\b≠X.env.locals/\(∀x c,X.env.cells.lookup x=some c->c≠b)/\∀p∈X.pn++pins,p.1≠b)
 (keep:∀b o,b≠X.env.locals->b∉X.fs->b∉ch->s.heap.get? b=some o->H b=none->h'.get? b=some o)
 (slot:∀b o,b≠X.env.locals->b∈X.fs->b∉ch->s.heap.get? b=some o->H b=none->∃sl,h'.get? b=some {o with slots:=sl}) (free:∀b o,b∉ch->s.heap.get? b=some o->H b=none->H' b=none)
 (there:∀b o,b∉ch->s.heap.get? b=some o->∃o',h'.get? b=some o')
 (tups:∀b xs,H b=some (.tup xs)->H' b=some (.tup xs)) (gi:∀b o u,H b=some (.dB o u)->H' b=some (.dB o u)) (hX:∀b ps,H b=some (.lM ps)->∃more,H' b=some (.lM (ps++more)))
 (ns:∀m,s.heap.Ns X.env.locals m->h'.Ns X.env.locals m) (hok:b9 X.prog X.w H' h') (hg:AllBare g') :
 Inv X pins σ H' {s with heap:=h',gens:=g',drawn:=d',toks:=t'}:=show _ by
 have Ec:∀b o,X.s₀.heap.get? b=some o->b≠X.env.locals:=λb o e=>cW (dM (bE e) I.ok.above);have uP:∀b o,X.s₀.heap.get? b=some o->b∉X.ex->b∉ch:=λb o e hx hb=>by
  rcases(hch b hb).1 with z|z
  ·exact hx z
  ·exact absurd (dM (bE e) z) (jW _)
 have cellK:∀x c,X.env.cells.lookup x=some c->∀v,s.heap.IsCell c v->h'.IsCell c v:=λx c e v cB=>by
  obtain⟨o,ho,hd⟩:=cB;have rL:c∉ch:=λz=>(hch c z).2.2.1 x c e rfl;by_cases hc:c∈X.fs
  ·obtain⟨sl,q⟩:=slot c o (I.mW x c e) hc rL ho (I.fJ x c e);exact⟨_,q,hd⟩
  ·exact⟨o,keep c o (I.mW x c e) hc rL ho (I.fJ x c e),hd⟩
 refine⟨I.ok,I.os,hg,⟨λb o e n hb hx=>?_,λb o e n hb hx=>?_,λb o e n hx=>?_,λb o e hx=>?_,λb xs e=>tups b xs (I.base.tups b xs e),λb o xs e=>gi b o xs (I.base.gi b o xs e),λb ps e=>?_⟩,?_,λx c e=>?_,?_,λx c e=>?_,λp hp=>?_,hok,I.len⟩
 ·exact keep b o (Ec b o e) hb (uP b o e hx) (I.base.keep b o e n hb hx) (I.base.free b o e n hx)
 ·obtain⟨sl,e1⟩:=I.base.slot b o e n hb hx;obtain⟨sl',e2⟩:=slot b _ (Ec b o e) hb (uP b o e hx) e1 (I.base.free b o e n hx);exact⟨sl',e2⟩
 ·obtain⟨o',e1⟩:=I.base.there b o e hx;exact free b o' (uP b o e hx) e1 (I.base.free b o e n hx)
 ·obtain⟨o',e1⟩:=I.base.there b o e hx;exact there b o' (uP b o e hx) e1
 ·obtain⟨m1,e1⟩:=I.base.hX b ps e;obtain⟨m2,e2⟩:=hX b _ e1;exact⟨m1++m2,by rw[e2,Array.append_assoc]⟩
 ·obtain⟨m,hn,hl⟩:=I.loc;refine⟨m,ns m hn,λi x v e1 e2 e3=>?_⟩;obtain⟨u,r,l⟩:=hl i x v e1 e2 e3;refine⟨u,r,?_⟩;rcases l with l|⟨k,c,e,z⟩
  ·exact .inl l
  ·exact .inr ⟨k,c,e,cellK x c e _ z⟩
 ·obtain⟨v,z⟩:=I.cell x c e;exact⟨v,cellK x c e v z⟩
 ·obtain⟨m,⟨o,_,_,ho,_⟩,_⟩:=I.loc;exact free _ o (λz=>(hch _ z).2.1 rfl) ho I.free
 ·obtain⟨v,o,ho,hd⟩:=I.cell x c e;exact free c o (λz=>(hch c z).2.2.1 x c e rfl) ho (I.fJ x c e)
 ·obtain⟨e,n,ne,nf,d⟩:=I.pin p hp;have rL:p.1∉ch:=λz=>(hch p.1 z).2.2.2 p hp rfl;exact⟨keep p.1 p.2 ne nf rL e n,free p.1 p.2 rL e n,ne,nf,d⟩
theorem Inv.un{t':Nat}(I:Inv X pins σ H s)(u:Un X.fs [] H H' s.heap h')(hok:b9 X.prog X.w H' h'):Inv X pins σ H' {s with heap:=h',toks:=t'}:=show _ by
 obtain⟨m,⟨o,es,ep,ho,r⟩,_⟩:=id I.loc;obtain⟨sl,hL⟩:=u.any ho I.free (by simp);exact I.step (g':=s.gens) (d':=s.drawn) (ch:=[]) (λ_ z=>nomatch z) (λb o _ hb _ e n=>u.keep b o e n hb (by simp)) (λb o _ hb _ e n=>u.slot b o e n hb (by simp)) (λb o _ e n=>u.free b o e n (by simp)) (λb o _ e=>u.there b o e (by simp)) u.tups u.gi u.hX (λm' hm=>by
  obtain⟨o',es',ep',ho',r'⟩:=hm;rw[ho]at ho';cases ho';exact⟨_,es',ep',hL,r'⟩) hok I.bare
theorem Inv.call{g':Array GenState}{t':Nat}{d':Drawn}{ch:List Addr}(I:Inv X pins σ H s)(u:Un (frs X.stack) ch H H' s.heap h')(hok:b9 X.prog X.w H' h')(hg:AllBare g')
 (hch:∀b∈ch,(b∈X.ex∨X.s₀.heap.objs.size<=b)/\b≠X.env.locals/\(∀x c,X.env.cells.lookup x=some c->c≠b)/\∀p∈X.pn++pins,p.1≠b) :
 Inv X pins σ H' {s with heap:=h',gens:=g',drawn:=d',toks:=t'}:=show _ by
 obtain⟨m,⟨o,es,ep,ho,r⟩,_⟩:=id I.loc;obtain⟨sl,hL⟩:=u.any ho I.free λz=>(hch _ z).2.1 rfl;exact I.step (ch:=ch) hch (λb o hL hb hc e n=>u.keep b o e n (λz=>(bF.mp (I.uN b z)).elim hL hb) hc) (λb o _ _ hc e n=>u.any e n hc) (λb o hc e n=>u.free b o e n hc) (λb o hc e=>u.there b o e hc) u.tups u.gi u.hX (λm' hm=>by
  obtain⟨o',es',ep',ho',r'⟩:=hm;rw[ho]at ho';cases ho';exact⟨_,es',ep',hL,r'⟩) hok hg
theorem Inv.turned{t':Nat}{it:Addr}(I:Inv X pins σ H s)(k:∀b o,b≠it->s.heap.get? b=some o->h'.get? b=some o)(hn:H it=none)(hL:it≠X.env.locals)
 (h1:it∈X.ex∨X.s₀.heap.objs.size<=it) (h2:∀x c,X.env.cells.lookup x=some c->c≠it) (h3:∀p∈X.pn++pins,p.1≠it):Inv X pins σ H {s with heap:=h',toks:=t'}:=show _ by
 have lQ:∀b u,H b=some u->b≠it:=λb u e z=>by rw[z,hn]at e;cases e
 refine I.step (g':=s.gens) (d':=s.drawn) (ch:=[it]) (λb hb=>?_) (λb o _ _ hc e _=>k b o (λz=>hc (by simp[z])) e) (λb o _ _ hc e _=>⟨o.slots,k b o (λz=>hc (by simp[z])) e⟩) (λ_ _ _ _ n=>n)
  (λb o hc e=>⟨o,k b o (λz=>hc (by simp[z])) e⟩) (λ_ _ e=>e) (λ_ _ _ e=>e) (λb ps e=>⟨#[],by rw[e];simp⟩) (λm hm=>?_) (λb u e=>?_) I.bare
 ·have e:b=it:=by simpa using hb
  subst e;exact⟨h1,hL,h2,h3⟩
 ·obtain⟨o,es,ep,ho,r⟩:=hm;exact⟨o,es,ep,k _ o (bw hL) ho,r⟩
 ·refine(I.hok b u e).stay (λc v hc q=>k c v ?_ q) (λ_ q=>q) λ_ _ q=>q;rcases hc with z|z
  ·rw[z];exact lQ b u e
  ·exact lQ c _ z
theorem Inv.tok(I:Inv X pins σ H s)(t:Nat):Inv X pins σ H {s with toks:=t}:=I.un (h':=s.heap) (t':=t) Un.refl I.hok
theorem Inv.kept{t':Nat}(I:Inv X pins σ H s)(k:∀b u,s.heap.get? b=some u->h'.get? b=some u):Inv X pins σ H {s with heap:=h',toks:=t'}:=I.un (Un.kept k) (I.hok.kept k)
theorem Inv.laid{a:Addr}{o:HO}{t':Nat}(I:Inv X pins σ H s)(k:∀b u,s.heap.get? b=some u->h'.get? b=some u)(hp:s.heap.objs.size<=a)(new:cG X.prog X.w (upd H a o) h' a o) :
 Inv X pins σ (upd H a o) {s with heap:=h',toks:=t'}:=I.un (Un.laid k hp (I.hok.fresh hp)) (I.hok.laid k hp new)
theorem Inv.write{x e:Addr}{o:HO}{t':Nat}(I:Inv X pins σ H s)(mu:rJ (H x))(he:e=x∨H e=some (.own x))(k:∀b u,b≠e->s.heap.get? b=some u->h'.get? b=some u)(heo:∃u,h'.get? e=some u)
 (new:cG X.prog X.w (upd H x o) h' x o):Inv X pins σ (upd H x o) {s with heap:=h',toks:=t'}:=I.un (Un.write mu he k heo) (I.hok.write mu he k heo new)
theorem Inv.Ed{hZ:List (Addr×Obj)}(I:Inv X pins σ H s)(h:∀p∈hZ,s.heap.get? p.1=some p.2/\H p.1=none/\p.1≠X.env.locals/\p.1∉X.fs/\∀v,p.2.data≠.cell v):Inv X hZ σ H s :=
 ⟨I.ok,I.os,I.bare,I.base,I.loc,I.cell,I.free,I.fJ,λp hp=>(cR.mp hp).elim (λz=>I.pin p (lu _ z)) (h p),I.hok,I.len⟩
theorem Ee{N:List Str}(hN:N.Nodup){i j:Nat}{x:Str}(a:N[i]?=some x)(b:N[j]?=some x):i=j:=by
 obtain⟨h1,e1⟩:=cu.mp a;obtain⟨h2,e2⟩:=cu.mp b;exact(List.getElem_inj hN).mp (e1.trans e2.symm)
theorem Ef{M:Model}{A:Around}{E:Value->Shared->Prop}{i:Nat}{x:Str}{v:V}{u:Value}{Q:Unit->Shared->Prop}(I:Inv X pins σ H s)(hN:X.N.Nodup)(hi:X.N[i]?=some x)(hx:Loc X.env.scope x)(r:RelV v u)
 (h:∀s',Inv X pins (σ.set i (some v)) H s'->(∃a,fF a s.heap s'.heap/\(a=X.env.locals∨X.env.cells.lookup x=some a))->Q () s') (hf:X.fn x=true∨X.env.scope.names.lookup x=some .local:=by first|exact .inl rfl|exact .inr rfl|assumption):wpAny M A (storeName X.env x u) Q E s:=show _ by
 obtain⟨m,hn,hl⟩:=id I.loc;have hcls:(X.env.scope.kind == .class||(X.env.scope.kind == .module&&X.env.locals != X.env.globals))=false:=by rw[I.ok.kind];rfl
 have Eg:i<σ.length:=by rw[I.len];exact(cu.mp hi).1
 have mW:=I.mW;have tracked:∀{a:Addr} {h':Heap},(∃o,s.heap.get? a=some o/\H a=none)->fF a s.heap h'->b9 X.prog X.w H h':=λ{a h'} ha hs b ob e=>by
  obtain⟨_,_,hfree⟩:=ha;refine(I.hok b ob e).stay (λc w' hc q=>(hs.2 c ?_).trans q) (λ_ q=>q) λ_ _ q=>q;rintro rfl;rcases hc with rfl|hc
  ·rw[hfree]at e;cases e
  ·rw[hfree]at hc;cases hc
 rcases hx with hk|hk
 ·refine wpAny_storeName_local hk hn (λh' hn' hs=>?_) hcls;obtain⟨oL,_,_,hoL,_⟩:=id hn;refine h _ ⟨I.ok,I.os,I.bare,⟨λb o e n hb hx=>?_,λb o e n hb hx=>?_,I.base.free,λb o e hx=>?_,I.base.tups,I.base.gi,I.base.hX⟩,⟨_,hn',λj y v' e1 e2 e3=>?_⟩,λy c e=>?_,I.free,I.fJ,λp hp=>?_,tracked ⟨oL,hoL,I.free⟩ hs,by simpa using I.len⟩ ⟨_,hs,.inl rfl⟩
  ·exact(hs.2 b (cW (dM (bE e) I.ok.above))).trans (I.base.keep b o e n hb hx)
  ·obtain⟨sl,e1⟩:=I.base.slot b o e n hb hx;exact⟨sl,(hs.2 b (cW (dM (bE e) I.ok.above))).trans e1⟩
  ·obtain⟨o',e1⟩:=I.base.there b o e hx;exact⟨o',(hs.2 b (cW (dM (bE e) I.ok.above))).trans e1⟩
  ·by_cases hj:j=i
   ·subst hj;rw[hi]at e1;cases e1;rw[Mu Eg]at e2;cases e2;exact⟨u,r,.inl ⟨hk,by simp⟩⟩
   ·rw[Mv (bw hj)]at e2;obtain⟨u',r',q⟩:=hl j y v' e1 e2 e3;refine⟨u',r',?_⟩;rcases q with⟨k,e⟩|⟨k,c,e,z⟩
    ·refine .inl ⟨k,?_⟩;have:y≠x:=λe=>hj (Ee hN e1 (e▸hi));simp[this,e]
    ·exact .inr ⟨k,c,e,z.sameBut hs (mW y c e)⟩
  ·obtain⟨w',z⟩:=I.cell y c e;exact⟨w',z.sameBut hs (mW y c e)⟩
  ·obtain⟨e,n,ne,nf,d⟩:=I.pin p hp;exact⟨(hs.2 p.1 ne).trans e,n,ne,nf,d⟩
 ·have hfn:X.fn x=true:=by
   rcases hf with z|z
   ·exact z
   ·rw[z]at hk;cases hk
  obtain⟨c,hc⟩:=I.ok.has x (.inl hk);obtain⟨w',z⟩:=I.cell x c hc;refine wpAny_storeName_cell I.ok.kind hk hc z (λh' hc' hs=>?_);obtain⟨oc,hoc,Oh⟩:=id z;refine h {s with heap:=h'} ⟨I.ok,I.os,I.bare,⟨λb o e n hb hx=>?_,λb o e n hb hx=>?_,I.base.free,λb o e hx=>?_,I.base.tups,I.base.gi,I.base.hX⟩,⟨m,hn.sameBut hs (bw (mW x c hc)),λj y v' e1 e2 e3=>?_⟩,λy c' e=>?_,I.free,I.fJ,λp hp=>?_,tracked ⟨oc,hoc,I.fJ x c hc⟩ hs,by simpa using I.len⟩ ⟨c,hs,.inr hc⟩
  ·exact(hs.2 b (cW (dM (bE e) (I.ok.cab x c hfn hc)))).trans (I.base.keep b o e n hb hx)
  ·obtain⟨sl,e1⟩:=I.base.slot b o e n hb hx;exact⟨sl,(hs.2 b (cW (dM (bE e) (I.ok.cab x c hfn hc)))).trans e1⟩
  ·obtain⟨o',e1⟩:=I.base.there b o e hx;exact⟨o',(hs.2 b (cW (dM (bE e) (I.ok.cab x c hfn hc)))).trans e1⟩
  ·by_cases hj:j=i
   ·subst hj;rw[hi]at e1;cases e1;rw[Mu Eg]at e2;cases e2;exact⟨u,r,.inr ⟨.inl hk,c,hc,hc'⟩⟩
   ·rw[Mv (bw hj)]at e2;obtain⟨u',r',q⟩:=hl j y v' e1 e2 e3;refine⟨u',r',?_⟩;rcases q with q|⟨k,c',e,z'⟩
    ·exact .inl q
    ·refine .inr ⟨k,c',e,z'.sameBut hs ?_⟩;rintro rfl;exact hj (Ee hN e1 (I.ok.inj _ _ _ e hc▸hi))
  ·by_cases hcc:c'=c
   ·subst hcc;exact⟨_,hc'⟩
   ·obtain⟨w2,z2⟩:=I.cell y c' e;exact⟨w2,z2.sameBut hs hcc⟩
  ·obtain⟨e,n,ne,nf,d⟩:=I.pin p hp;refine⟨(hs.2 p.1 ?_).trans e,n,ne,nf,d⟩;intro q;rw[q,hoc]at e;have q':oc=p.2:=dG e;exact d w' (by rw[<-q'];exact Oh)
theorem yi{M:Model}{A:Around}{E:Value->Shared->Prop}{i:Nat}{x:Str}{v:V}{u:Value}{Q:Unit->Shared->Prop}(I:Inv X pins σ H s)(hN:X.N.Nodup)(hi:X.N[i]?=some x)(hx:Loc X.env.scope x)(r:RelV v u)
 (h:∀s',Inv X pins (σ.set i (some v)) H s'->Q () s') (hf:X.fn x=true∨X.env.scope.names.lookup x=some .local:=by first|exact .inl rfl|exact .inr rfl|assumption):wpAny M A (storeName X.env x u) Q E s :=
 Ef I hN hi hx r (λs' I' _=>h s' I') hf
theorem Inv.rM{s':Shared}{ch:List Addr}(I:Inv X pins σ H s)(ho:s'.os=s.os)(u:Un (frs X.stack) ch H H' s.heap s'.heap)(hok:b9 X.prog X.w H' s'.heap)(hg:AllBare s'.gens)
 (hch:∀b∈ch,(b∈X.ex∨X.s₀.heap.objs.size<=b)/\b≠X.env.locals/\(∀x c,X.env.cells.lookup x=some c->c≠b)/\∀p∈X.pn++pins,p.1≠b):Inv X pins σ H' s':=show _ by
 obtain⟨h',g',d',t',o'⟩:=s';have e:o'=s.os:=ho;subst e;exact I.call (g':=g') (t':=t') (d':=d') u hok hg hch
end
abbrev XK:=Value->Option Addr->Hp->Prop
abbrev St:=List (Option V)
abbrev VK:=V->Hp->Prop
abbrev TE:=St->Hp->VK->Prop
abbrev TT:=St->Hp->(Bool->Hp->Prop)->Prop
abbrev TA:=St->Hp->(List V->Hp->Prop)->Prop
structure Ends where
 nx:St->Hp->Prop
 rt:VK
 bk:St->Hp->Prop:=λ_ _=>False
 ct:St->Hp->Prop:=λ_ _=>False
abbrev TS:=Ends->St->Hp->Prop
inductive EP(X:Cx)(pins:List (Addr×Obj))(σ:St)(Q:VK)(u:Value)(s':Shared):Prop where
 |mk (v:V) (H':Hp) (I:Inv X pins σ H' s') (r:RelV v u) (q:Q v H')
def TP(X:Cx)(pins:List (Addr×Obj))(σ:St)(Q:Bool->Hp->Prop)(b:Bool)(s':Shared):Prop:=∃H',Inv X pins σ H' s'/\Q b H'
inductive AP(X:Cx)(pins:List (Addr×Obj))(σ:St)(Q:List V->Hp->Prop)(us:List Value)(s':Shared):Prop where
 |mk (vs:List V) (H':Hp) (I:Inv X pins σ H' s') (r:Vals vs us) (q:Q vs H')
def SP(X:Cx)(pins:List (Addr×Obj))(D:Ends)(f:Flow)(s':Shared):Prop :=
 match f with
 | .next=>∃σ' H',Inv X pins σ' H' s'/\D.nx σ' H'
 | .brk=>∃σ' H',Inv X pins σ' H' s'/\D.bk σ' H'
 | .cont=>∃σ' H',Inv X pins σ' H' s'/\D.ct σ' H'
 | .ret u=>∃v σ' H',Inv X pins σ' H' s'/\RelV v u/\D.rt v H'
def PE(X:Cx)(e:Expr)(t:TE):Prop :=
 ∀(pins:List (Addr×Obj)) (s:Shared) (σ:St) (H:Hp) (Q:VK),Inv X pins σ H s->t σ H Q->wpAny (model X.prog X.w) X.A (eval e X.env) (EP X pins σ Q) X.xe s
def PT(X:Cx)(e:Expr)(t:TT):Prop :=
 ∀(pins:List (Addr×Obj)) (s:Shared) (σ:St) (H:Hp) (Q:Bool->Hp->Prop),Inv X pins σ H s->t σ H Q->wpAny (model X.prog X.w) X.A (isTrue e X.env (eval e X.env)) (TP X pins σ Q) X.xe s
def PW(X:Cx)(e:Expr)(t:TT):Prop :=
 ∀(whole:Sem Value) (pins:List (Addr×Obj)) (s:Shared) (σ:St) (H:Hp) (Q:Bool->Hp->Prop),Inv X pins σ H s->t σ H Q->wpAny (model X.prog X.w) X.A (isTrue e X.env whole) (TP X pins σ Q) X.xe s
theorem PW.pt{X:Cx}{e:Expr}{t:TT}(h:PW X e t):PT X e t:=h _
def PA(X:Cx)(es:List Expr)(t:TA):Prop :=
 ∀(pos:Pos) (pins:List (Addr×Obj)) (s:Shared) (σ:St) (H:Hp) (Q:List V->Hp->Prop),Inv X pins σ H s->t σ H Q->wpAny (model X.prog X.w) X.A (spliced (backTo pos (starEach es X.env))) (AP X pins σ Q) X.xe s
def PS(X:Cx)(st:Stmt)(t:TS):Prop :=
 ∀(pins:List (Addr×Obj)) (s:Shared) (σ:St) (H:Hp) (D:Ends),Inv X pins σ H s->t D σ H->wpAny (model X.prog X.w) X.A (exec st X.env) (SP X pins D) X.xe s
def eU(X:Cx)(st:List Stmt)(t:TS):Prop :=
 ∀(pins:List (Addr×Obj)) (s:Shared) (σ:St) (H:Hp) (D:Ends),Inv X pins σ H s->t D σ H->wpAny (model X.prog X.w) X.A (execs st X.env) (SP X pins D) X.xe s
theorem aF{α:Type}{t:Sem α}{Q Q':α->Shared->Prop}{M:Model}{A:Around}{E:Value->Shared->Prop}{s:Shared}(h:wpAny M A t Q E s)(hQ:∀a s,Q a s->Q' a s):wpAny M A t Q' E s:=eZ h hQ λ_ _ x=>x
section
variable{X:Cx}
theorem bin{a b:Expr}{ta tb:TE}(ha:PE X a ta)(hb:PE X b tb){pins:List (Addr×Obj)}{s:Shared}{σ:St}{H:Hp}{R:V->V->Hp->Prop}(I:Inv X pins σ H s)(h:ta σ H λx H1=>tb σ H1 λy H2=>R x y H2)
 {α:Type} {Q:α->Shared->Prop} {f:Value->Value->Sem α}
 (hf:∀v u s2 x y H2,Inv X pins σ H2 s2->RelV x v->RelV y u->R x y H2->wpAny (model X.prog X.w) X.A (f v u) Q X.xe s2) :
 wpAny (model X.prog X.w) X.A (eval a X.env) (λv s₁=>wpAny (model X.prog X.w) X.A (eval b X.env) (λu s₂=>wpAny (model X.prog X.w) X.A (f v u) Q X.xe s₂) X.xe s₁) X.xe s:=show _ by
 refine aF (ha pins s σ H _ I h) λv s1 ⟨x,H1,I1,r1,q1⟩=>?_;refine aF (hb pins s1 σ H1 _ I1 q1) λu s2 ⟨y,H2,I2,r2,q2⟩=>?_;exact hf v u s2 x y H2 I2 r1 r2 q2
def Eh(i:Nat):TE:=λσ H Q=>∃v,σ[i]?=some (some v)/\Q v H
def tC(v:V):TE:=λ_ H Q=>Q v H
theorem Oi{i:Nat}{x:Str}{pos:Pos}(hN:X.N[i]?=some x)(hv:uM X.env.scope x)(hd:(x==("__debug__":Str))=false:=by decide)(hcd:(x==("__classdict__":Str))=false:=by decide):PE X (.Name x pos) (Eh i):=show _ by
 intro pins s σ H Q I h;obtain⟨v,e,h⟩:=h;obtain⟨m,hn,hl⟩:=I.loc;obtain⟨u,r,l⟩:=hl i x v hN e hv;have fin:EP X pins σ Q u s:=⟨v,H,I,r,h⟩;rcases l with⟨hk,hm⟩|⟨hk,c,hc,hcell⟩
 ·exact CZ (Mw I.ok.kind hk hn hm fin) hd
 ·rcases hk with hk|hk
  ·exact CZ (Mx I.ok.kind hk hc hcell fin) hd
  ·exact CZ (wpAny_loadName_free I.ok.kind hk hc hcell fin hcd) hd
theorem Oj{i j pos}:PE X (.Constant (.int i) j pos) (tC (.int i)):=λ_ _ _ H _ I h=>wpAny_Constant_int ⟨.int i,H,I.tok _,⟨_,rfl⟩,h⟩
theorem Ol{b j pos}:PE X (.Constant (.bool b) j pos) (tC (.bl b)):=λ_ _ _ H _ I h=>Constant_bool ⟨.bl b,H,I,rfl,h⟩
theorem Om{j pos}:PE X (.Constant .none j pos) (tC .non):=λ_ _ _ H _ I h=>Constant_none ⟨.non,H,I,rfl,h⟩
theorem Oo{x j pos}:PE X (.Constant (.str x) j pos) (tC (.str x)):=λ_ _ _ H _ I h=>Calls.Constant_str ⟨.str x,H,I.tok _,⟨_,rfl⟩,h⟩
def Gl(X:Cx)(x:Str):Prop:=X.env.kindOf x=some .globalImplicit
theorem rN{E:Value->Shared->Prop}{pins:List (Addr×Obj)}{s:Shared}{σ:St}{H:Hp}{x:Str}{u:Value}{pos:Pos}{Q:Value->Shared->Prop}(I:Inv X pins σ H s)(hg:Gl X x)(hm:X.mg x=some u)(h:Q u s)
 (hd:(x==("__debug__":Str))=false:=by decide):wpAny (model X.prog X.w) X.A (eval (.Name x pos) X.env) Q E s :=
 My I.ok.kind hg (Calls.loadGlobal_global (by rw[I.ok.glob];exact I.mod.glob.keeps I.bk) hm h) hd
theorem jr{E:Value->Shared->Prop}{pins:List (Addr×Obj)}{s:Shared}{σ:St}{H:Hp}{x:Str}{u:Value}{pos:Pos}{Q:Value->Shared->Prop}(I:Inv X pins σ H s)(hg:Gl X x)(hm:X.mg x=none)(hv:bootBuiltins x=some u)(h:Q u s)
 (hn:x≠"__name__":=by decide) (hd:(x==("__debug__":Str))=false:=by decide):wpAny (model X.prog X.w) X.A (eval (.Name x pos) X.env) Q E s:=show _ by
 obtain⟨mb,h1,h2⟩:=I.mod.blt;exact My I.ok.kind hg (Calls.loadGlobal_builtin (by rw[I.ok.glob];exact I.mod.glob.keeps I.bk) hm (by rw[I.ok.blt];exact h1.keeps I.bk) ((h2 x hn).trans hv) h) hd
theorem Oq{x:Str}{v:V}{u:Value}{pos:Pos}(hg:Gl X x)(hm:X.mg x=some u)(r:RelV v u)(hd:(x==("__debug__":Str))=false:=by decide):PE X (.Name x pos) (tC v) :=
 λ_ _ _ H _ I h=>rN I hg hm ⟨v,H,I,r,h⟩ hd
theorem Ot{x:Str}{v:V}{u:Value}{pos:Pos}(hg:Gl X x)(hm:X.mg x=none)(hv:bootBuiltins x=some u)(r:RelV v u)(hn:x≠"__name__":=by decide)(hd:(x==("__debug__":Str))=false:=by decide):PE X (.Name x pos) (tC v) :=
 λ_ _ _ H _ I h=>jr I hg hm hv ⟨v,H,I,r,h⟩ hn hd
variable{a b:Expr}{ta tb:TE}{pos:Pos}
def PC(X:Cx)(op:CmpOp)(a b:Expr)(t:TE):Prop :=
 ∀(pins:List (Addr×Obj)) (s:Shared) (σ:St) (H:Hp) (Q:VK),Inv X pins σ H s->t σ H Q ->
  wpAny (model X.prog X.w) X.A (eval a X.env) (λv s₁=>wpAny (model X.prog X.w) X.A (eval b X.env) (λu s₂=>wpAny (model X.prog X.w) X.A (compareOp op v u) (EP X pins σ Q) X.xe s₂) X.xe s₁) X.xe s
theorem Ou(b:Expr){op:CmpOp}(h:op≠.In)(h2:op≠.NotIn):behindInMarks op b=false:=by
 have e1:(op==CmpOp.In)=false:=by cases op<;>first|rfl|exact absurd rfl h
 have e2:(op==CmpOp.NotIn)=false:=by cases op<;>first|rfl|exact absurd rfl h2
 cases b<;>simp[behindInMarks,e1,e2]
def tB(t:TE):TT:=λσ H Q=>t σ H λx H1=>∃c,x=.bl c/\Q c H1
theorem yj{op:CmpOp}{t:TE}(h:PC X op a b t)(h1:behindInMarks op b=false:=by first|exact Ou _ (by decide) (by decide)|rfl):PT X (.Compare a [op] [b] pos) (tB t):=show _ by
 intro pins s σ H Q I hw;refine Mz (aF (h pins s σ H _ I hw) λv s1 h1=>aF h1 λu s2 h2=>aF h2 λc s3 ⟨x,H1,I1,r1,q1⟩=>?_) h1;obtain⟨d,rfl,q⟩:=q1;cases r1;exact mH ⟨H1,I1,q⟩
theorem Ov{e:Expr}{t:TE}(h:PE X e t)(he:∀whole,isTrue e X.env whole=(do let v <-whole;standAt e.pos;holding [v] (truthy v)):=by intro _;rfl):PT X e (tB t):=show _ by
 intro pins s σ H Q I hw;refine isTrue_plain (aF (h pins s σ H _ I hw) λv s1 ⟨x,H1,I1,r1,q1⟩=>?_) (he _);obtain⟨d,rfl,q⟩:=q1;cases r1;exact mH ⟨H1,I1,q⟩
variable{tA uQ:TT}{rest:List Expr}
def Ow(t u:TT):TT:=λσ H Q=>t σ H λc H1=>if c=true then u σ H1 Q else Q false H1
def Ox(t u:TT):TT:=λσ H Q=>t σ H λc H1=>if c=true then Q true H1 else u σ H1 Q
def Oy(t:TT):TT:=λσ H Q=>t σ H λc H1=>Q (!c) H1
theorem Oz(ha:PT X a tA):PW X (.BoolOp .And [a] pos) tA:=by
 intro wh pins s σ H Q I h;refine isTrue_and (aF (ha pins s σ H Q I h) λc s1 e=>?_);cases c with
 |true=>exact isTrue_and_nil e
 |false=>exact e
theorem OA(ha:PT X a tA):PW X (.BoolOp .Or [a] pos) tA:=by
 intro wh pins s σ H Q I h;refine isTrue_or (aF (ha pins s σ H Q I h) λc s1 e=>?_);cases c with
 |false=>exact isTrue_or_nil e
 |true=>exact e
theorem OB(ha:PT X a tA)(hb:PW X (.BoolOp .And (b::rest) pos) uQ):PW X (.BoolOp .And (a::b::rest) pos) (Ow tA uQ):=show _ by
 intro wh pins s σ H Q I h;refine isTrue_and (aF (ha pins s σ H _ I h) λc s1 ⟨H1,I1,q1⟩=>?_);cases c with
 |true=>exact hb wh pins s1 σ H1 Q I1 q1
 |false=>exact⟨H1,I1,q1⟩
theorem OC(ha:PT X a tA)(hb:PW X (.BoolOp .Or (b::rest) pos) uQ):PW X (.BoolOp .Or (a::b::rest) pos) (Ox tA uQ):=by
 intro wh pins s σ H Q I h;refine isTrue_or (aF (ha pins s σ H _ I h) λc s1 ⟨H1,I1,q1⟩=>?_);cases c with
 |true=>exact⟨H1,I1,q1⟩
 |false=>exact hb wh pins s1 σ H1 Q I1 q1
theorem OD(ha:PT X a tA):PT X (.UnaryOp .Not a pos) (Oy tA):=by
 intro pins s σ H Q I h;exact isTrue_not (ha pins s σ H (λc H1=>Q (!c) H1) I h)
def OE(ta tb:TE):TE:=λσ H Q=>ta σ H λx H1=>∃c,x=.bl c/\if c=true then tb σ H1 Q else Q (.bl false) H1
def OF(ta tb:TE):TE:=λσ H Q=>ta σ H λx H1=>∃c,x=.bl c/\if c=true then Q (.bl true) H1 else tb σ H1 Q
def OG(ta:TE):TE:=λσ H Q=>ta σ H λx H1=>∃c,x=.bl c/\Q (.bl (!c)) H1
theorem OH{op}{t:TE}(h:PE X a t):PE X (.BoolOp op [a] pos) t:=λpins s σ H Q I hw=>BoolOp_one (h pins s σ H Q I hw)
theorem OI(ha:PE X a ta)(hb:PE X (.BoolOp .And (b::rest) pos) tb):PE X (.BoolOp .And (a::b::rest) pos) (OE ta tb):=show _ by
 intro pins s σ H Q I h;refine BoolOp_and (aF (ha pins s σ H _ I h) λv s1 ⟨x,H1,I1,r1,q1⟩=>?_);obtain⟨c,rfl,q1⟩:=q1;cases r1;refine mH ?_;cases c with
 |true=>exact hb pins s1 σ H1 Q I1 q1
 |false=>exact⟨.bl false,H1,I1,rfl,q1⟩
theorem OJ(ha:PE X a ta)(hb:PE X (.BoolOp .Or (b::rest) pos) tb):PE X (.BoolOp .Or (a::b::rest) pos) (OF ta tb):=show _ by
 intro pins s σ H Q I h;refine BoolOp_or (aF (ha pins s σ H _ I h) λv s1 ⟨x,H1,I1,r1,q1⟩=>?_);obtain⟨c,rfl,q1⟩:=q1;cases r1;refine mH ?_;cases c with
 |false=>exact hb pins s1 σ H1 Q I1 q1
 |true=>exact⟨.bl true,H1,I1,rfl,q1⟩
theorem OK(ha:PE X a ta):PE X (.UnaryOp .Not a pos) (OG ta):=by
 intro pins s σ H Q I h;refine UnaryOp_ (aF (ha pins s σ H _ I h) λv s1 ⟨x,H1,I1,r1,q1⟩=>?_);obtain⟨c,rfl,q1⟩:=q1;cases r1;exact not_of (mH ⟨.bl (!c),H1,I1,rfl,q1⟩)
def OL(t:TT)(ta tb:TE):TE:=λσ H Q=>t σ H λc H1=>if c=true then ta σ H1 Q else tb σ H1 Q
theorem OM{c:Expr}(hc:PT X c tA)(ha:PE X a ta)(hb:PE X b tb):PE X (.IfExp c a b pos) (OL tA ta tb):=by
 intro pins s σ H Q I h;refine wpAny_IfExp (aF (hc pins s σ H _ I h) λd s1 ⟨H1,I1,q1⟩=>?_);cases d with
 |true=>exact ha pins s1 σ H1 Q I1 q1
 |false=>exact hb pins s1 σ H1 Q I1 q1
end
def bg(K:ao)(H:Hp)(a:Addr)(xs:List V):Prop :=
 Rd H a (.lst xs) ∨
  ∃(o:Obj) (its:Array Value) (n:Nat),K.lookup a=some o/\o.cls=.type "list"/\o.dict=none/\o.data=.seq its n/\its.size<=sizeLine/\Vals xs its.toList
def bh(K:ao)(H:Hp)(a:Addr)(xs:List V):Prop :=
 H a=some (.tup xs)
def ON:Value->Option V
 | .none=>some .non
 | .bool b=>some (.bl b)
 | .int i _=>some (.int i)
 | .str x _=>some (.str x)
 | .bytes b _=>some (.gh b)
 | .float b _=>some (.flt b)
 | .ref a=>some (.ref a)
 | .type n=>some (.ty n)
 |_=>none
theorem RelV.abs{x:V}{u:Value}(r:RelV x u):ON u=some x:=by
 cases x with
 |non=>cases r;rfl
 |bl _=>cases r;rfl
 |int _=>obtain⟨t,rfl⟩:=r;rfl
 |str _=>obtain⟨t,rfl⟩:=r;rfl
 |gh _=>obtain⟨t,rfl⟩:=r;rfl
 |flt _=>obtain⟨t,rfl⟩:=r;rfl
 |ref _=>cases r;rfl
 |ty _=>cases r;rfl
theorem RelV.inj{x y:V}{u:Value}(r:RelV x u)(q:RelV y u):x=y:=dG (r.abs.symm.trans q.abs)
theorem Vals.inj:∀{xs ys:List V} {us:List Value},Vals xs us->Vals ys us->xs=ys
 |_,_,_,.nil,.nil=>rfl
 |_,_,_,.cons r t,.cons r' t'=>by rw[r.inj r',Vals.inj t t']
section
variable{X:Cx}{pins:List (Addr×Obj)}{σ:St}{H:Hp}{s:Shared}{a:Addr}{xs ys:List V}
theorem bg.of{K:ao}(h:H a=some (.lst xs)):bg K H a xs:=.inl (.inl h)
theorem bh.of{K:ao}(h:H a=some (.tup xs)):bh K H a xs:=h
theorem Inv.list(I:Inv X pins σ H s)(h:bg X.K H a xs):∃its:List Value,Vals xs its/\PlainL s.heap a its.toArray/\xs.length<=sizeLine:=show _ by
 rcases h with h|⟨o,its,n,hk,hc,hd,hs,hz,r⟩
 ·obtain⟨z,its,n,r,e⟩:=h.ok I.hok;exact⟨its,r,⟨_,n,e,rfl,rfl,rfl⟩,z⟩
 ·refine⟨its.toList,r,⟨o,n,I.cX a o hk,hc,hd,by simpa using hs⟩,?_⟩;have e:=r.length;simp only[MA]at e;lia
theorem Inv.tuple(I:Inv X pins σ H s)(h:bh X.K H a xs):∃its:List Value,Vals xs its/\IsTup s.heap a its.toArray/\xs.length<=sizeLine:=by
 obtain⟨z,its,r,p,_⟩:=(show cG X.prog X.w H s.heap a (.tup xs) from I.hok a _ h);exact⟨its,r,p,z⟩
theorem Inv.uR(I:Inv X pins σ H s)(h:bg X.K H a xs)(h':bg X.K H a ys):xs=ys:=show _ by
 obtain⟨its,r,⟨o,n,e,_,_,d⟩,_⟩:=I.list h;obtain⟨its',r',⟨o',n',e',_,_,d'⟩,_⟩:=I.list h';rw[e]at e';cases e';rw[d]at d';injection d' with d1 _;have:its=its':=by simpa using congrArg MB d1
 subst this;exact r.inj r'
theorem Inv.oW(I:Inv X pins σ H s)(h:bh X.K H a xs)(h':bh X.K H a ys):xs=ys:=show _ by
 obtain⟨its,r,⟨o,e,_,n,d⟩,_⟩:=I.tuple h;obtain⟨its',r',⟨o',e',_,n',d'⟩,_⟩:=I.tuple h';rw[e]at e';cases e';rw[d]at d';injection d' with d1 _;have:its=its':=by simpa using congrArg MB d1
 subst this;exact r.inj r'
end
abbrev Cx.ju(X:Cx)(E:Value->Shared->Prop):Cx:={X with xe:=E}
abbrev Cx.gj(X:Cx):Cx:=X.ju λ_ _=>False
theorem Cx.Ok.ju{X:Cx}(ok:X.Ok)(E:Value->Shared->Prop):(X.ju E).Ok :=
 ⟨ok.mod,ok.kind,ok.glob,ok.blt,ok.above,ok.inj,ok.has,ok.cab,ok.hd,ok.frames,ok.mV,ok.rK,ok.bs,ok.gD,ok.lN,ok.lP,ok.fi,ok.iH⟩
theorem Cx.Ok.lR{X:Cx}{E:Value->Shared->Prop}(ok:(X.ju E).Ok):X.Ok :=
 ⟨ok.mod,ok.kind,ok.glob,ok.blt,ok.above,ok.inj,ok.has,ok.cab,ok.hd,ok.frames,ok.mV,ok.rK,ok.bs,ok.gD,ok.lN,ok.lP,ok.fi,ok.iH⟩
section
variable{X:Cx}{pins:List (Addr×Obj)}{σ:St}{H:Hp}{s:Shared}{E:Value->Shared->Prop}
theorem Inv.ju(I:Inv X pins σ H s)(E:Value->Shared->Prop):Inv (X.ju E) pins σ H s:=⟨I.ok.ju E,I.os,I.bare,I.base,I.loc,I.cell,I.free,I.fJ,I.pin,I.hok,I.len⟩
theorem Inv.lR(I:Inv (X.ju E) pins σ H s):Inv X pins σ H s:=⟨I.ok.lR,I.os,I.bare,I.base,I.loc,I.cell,I.free,I.fJ,I.pin,I.hok,I.len⟩
theorem SP.lR{D:Ends}{f:Flow}{s':Shared}(h:SP (X.ju E) pins D f s'):SP X pins D f s':=show _ by
 cases f with
 |next=>obtain⟨σ',H',I,q⟩:=h;exact⟨σ',H',I.lR,q⟩
 |brk=>obtain⟨σ',H',I,q⟩:=h;exact⟨σ',H',I.lR,q⟩
 |cont=>obtain⟨σ',H',I,q⟩:=h;exact⟨σ',H',I.lR,q⟩
 |ret u=>obtain⟨v,σ',H',I,r,q⟩:=h;exact⟨v,σ',H',I.lR,r,q⟩
theorem eU.gj{st:List Stmt}{t:TS}(h:eU X.gj st t):eU X st t:=λpins s σ H D I hw =>
 eZ (h pins s σ H D (I.ju _) hw) (λ_ _ q=>q.lR) λ_ _ z=>eI z
end
section
variable{X:Cx}{st:Stmt}{rest:List Stmt}{t u:TS}{e:Expr}{te:TE}{pos:Pos}
def OO:TS:=λD σ H=>D.nx σ H
def OP(t u:TS):TS:=λD σ H=>t {D with nx:=u D} σ H
theorem OQ:eU X [] OO:=λ_ _ σ H _ I h=>uh ⟨σ,H,I,h⟩
theorem OS(h1:PS X st t)(h2:eU X rest u):eU X (st::rest) (OP t u):=show _ by
 intro pins s σ H D I h;refine wpAny_execs_cons (aF (h1 pins s σ H {D with nx:=u D} I h) λf s1 q=>?_);cases f with
 |next =>
  obtain⟨σ',H',I',q⟩:=q;exact h2 pins s1 σ' H' D I' q
 |ret v=>exact q
 |brk=>exact q
 |cont=>exact q
theorem OT(h1:PS X st t):eU X [st] t:=by
 intro pins s σ H D I h;refine wpAny_execs_cons (aF (h1 pins s σ H D I h) λf s1 q=>?_);cases f with
 |next=>exact uh q
 |ret v=>exact q
 |brk=>exact q
 |cont=>exact q
theorem Inv.quiet{pins:List (Addr×Obj)}{σ:St}{H:Hp}{s:Shared}(I:Inv X pins σ H s):interactive X.env=false:=by simp[interactive,I.ok.kind]
def OU(te:TE):TS:=λD σ H=>te σ H λ_ H1=>D.nx σ H1
theorem OV(he:PE X e te)(hs:swapsWith e none pos.line X.env=pure false:=by rfl):PS X (.Expr e pos) (OU te):=by
 intro pins s σ H D I h;exact wpAny_Expr_any (aF (he pins s σ H _ I h) λv s1 kg=>by obtain⟨x,H1,I1,r1,q1⟩:=kg;exact⟨σ,H1,I1,q1⟩) I.quiet hs
def OW(te:TE):TS:=λD σ H=>te σ H D.rt
theorem OX(he:PE X e te):PS X (.Return (some e) pos) (OW te):=by
 intro pins s σ H D I h;exact wpAny_Return_some (aF (he pins s σ H _ I h) λv s1 yk=>by obtain⟨x,H1,I1,r1,q1⟩:=yk;exact⟨x,σ,H1,I1,r1,q1⟩)
def OY:TS:=λD _ H=>D.rt .non H
theorem OZ:PS X (.Return none pos) OY:=λ_ _ σ H _ I h=>wpAny_Return_none ⟨.non,σ,H,I,rfl,h⟩
def O0(c:TT)(t u:TS):TS:=λD σ H=>c σ H λb H1=>if b=true then t D σ H1 else u D σ H1
theorem O1{c:Expr}{a b:List Stmt}{tc:TT}(hc:PT X c tc)(ha:eU X a t)(hb:eU X b u):PS X (.If c a b pos) (O0 tc t u):=show _ by
 intro pins s σ H D I h;refine wpAny_If (aF (hc pins s σ H _ I h) λd s1 ⟨H1,I1,q1⟩=>?_);cases d with
 |true=>exact ha pins s1 σ H1 D I1 q1
 |false=>exact hb pins s1 σ H1 D I1 q1
def O2:TS:=λ_ _ _=>False
theorem O3:PS X st O2:=λ_ _ _ _ _ _ h=>h.elim
end
abbrev TG:=V->St->Hp->(St->Hp->Prop)->Prop
abbrev kh:=List V->St->Hp->(St->Hp->Prop)->Prop
def PG(X:Cx)(target:Expr)(t:TG):Prop :=
 ∀(pins:List (Addr×Obj)) (s:Shared) (σ:St) (H:Hp) (v:V) (u:Value) (Q:St->Hp->Prop),Inv X pins σ H s->RelV v u->t v σ H Q ->
  wpAny (model X.prog X.w) X.A (assign target X.env u) (λ_ s'=>∃σ' H',Inv X pins σ' H' s'/\Q σ' H') X.xe s
def jv(X:Cx)(ts:List Expr)(t:kh):Prop :=
 ∀(pins:List (Addr×Obj)) (s:Shared) (σ:St) (H:Hp) (vs:List V) (us:List Value) (Q:St->Hp->Prop),Inv X pins σ H s->Vals vs us->t vs σ H Q ->
  wpAny (model X.prog X.w) X.A (assignInOrder ((assignEach ts X.env).map (·.2)) us) (λ_ s'=>∃σ' H',Inv X pins σ' H' s'/\Q σ' H') X.xe s
abbrev ym:=V->V->V->Hp->(Hp->Prop)->Prop
def Ei(X:Cx)(t:ym):Prop :=
 ∀(pins:List (Addr×Obj)) (s:Shared) (σ:St) (H:Hp) (o i v:V) (ov iv u:Value) (Q:Hp->Prop),Inv X pins σ H s->RelV o ov->RelV i iv->RelV v u->t o i v H Q ->
  wpAny (model X.prog X.w) X.A (setItem ov iv u) (λ_ s'=>∃H',Inv X pins σ H' s'/\Q H') X.xe s
abbrev uS:=V->V->Hp->VK->Prop
def uT(X:Cx)(op:Operator)(t:uS):Prop :=
 ∀(pins:List (Addr×Obj)) (s:Shared) (σ:St) (H:Hp) (x y:V) (v u:Value) (Q:VK),Inv X pins σ H s->RelV x v->RelV y u->t x y H Q ->
  wpAny (model X.prog X.w) X.A (inplaceOp op v u) (EP X pins σ Q) X.xe s
section
variable{X:Cx}{pos:Pos}
def uU(i:Nat):TG:=λv σ H Q=>Q (σ.set i (some v)) H
theorem O4{i:Nat}{x:Str}(hN:X.N.Nodup)(hi:X.N[i]?=some x)(hx:Loc X.env.scope x)(hf:X.fn x=true∨X.env.scope.names.lookup x=some .local:=by first|exact .inl rfl|exact .inr rfl|assumption):PG X (.Name x pos) (uU i):=show _ by
 intro pins s σ H v u Q I r h;exact MC (yi I hN hi hx r (λs' I'=>⟨_,H,I',h⟩) hf)
def O5:kh:=λvs σ H Q=>vs=[]/\Q σ H
def O6(t:TG)(u:kh):kh:=λvs σ H Q=>∃v r,vs=v::r/\t v σ H λσ' H'=>u r σ' H' Q
theorem O7:jv X [] O5:=by
 intro pins s σ H vs us Q I r h;obtain⟨e,h⟩:=h;subst e;cases r;exact assignInOrder_nil ⟨σ,H,I,h⟩
theorem O8{e:Expr}{es:List Expr}{t:TG}{u:kh}(h1:PG X e t)(h2:jv X es u)
 (hs:(assignEach (e::es) X.env).map (·.2)=assign e X.env::(assignEach es X.env).map (·.2):=by rfl):jv X (e::es) (O6 t u):=show _ by
 intro pins s σ H vs us Q I r h;obtain⟨v,vr,e1,h⟩:=h;subst e1;cases r with
 |cons r rr =>
  rw[hs];refine assignInOrder_cons (aF (h1 pins s σ H _ _ _ I r h) λ_ s1 ⟨fK,H1,I1,q1⟩=>?_);exact h2 pins s1 fK H1 _ _ Q I1 rr q1
def O9(K:ao)(n:Nat)(t:kh):TG:=λv σ H Q=>∃a xs,v=.ref a/\bh K H a xs/\xs.length=n/\t xs σ H Q
theorem O_{es:List Expr}{k:Nat}{t:kh}{n:Nat}(hc:X.calm=true)(h:jv X es t)
 (hn:(assignEach es X.env).length=n:=by rfl) (hst:(assignEach es X.env).findIdx? (·.1)=none:=by rfl):PG X (.Tuple es k pos) (O9 X.K n t):=show _ by
 intro pins s σ H v u Q I r hw;obtain⟨a,xs,e1,hq,hl,hw⟩:=hw;subst e1;cases r;obtain⟨its,rv,ht,hz⟩:=I.tuple hq;refine assign_Tuple_tuple (I.ok.hd hc) ht (by simp[hn,<-hl,rv.length]) hst λh' hx=>?_;have I1:Inv X pins σ H {s with heap:=h'}:=I.kept (t':=s.toks) λb o e=>hx b o (cW (bE e)) e;exact h pins _ σ H xs _ Q I1 (by simpa using rv) hw
def Pa(to ti:TE)(t:ym):TG:=λv σ H Q=>to σ H λo H1=>ti σ H1 λi H2=>t o i v H2 λH3=>Q σ H3
theorem Pb{o i:Expr}{to ti:TE}{t:ym}(ho:PE X o to)(hi:PE X i ti)(hs:Ei X t)
 (ha:∀v,assign (.Subscript o i pos) X.env v=(do
  let ov <-holding [v] (eval o X.env)
  let iv <-holding [v,ov] (eval i X.env)
  standAt pos
  holding [v,ov,iv] (setItem ov iv v)
  release [v,ov,iv] []):=by intro _;rfl):PG X (.Subscript o i pos) (Pa to ti t):=show _ by
 intro pins s σ H v u Q I r h;rw[ha];refine ai (mI (aF (ho pins s σ H _ I h) λov s1 ⟨x,H1,I1,r1,q1⟩=>?_));refine ai (mI (aF (hi pins s1 σ H1 _ I1 q1) λiv s2 ⟨y,H2,I2,r2,q2⟩=>?_));refine ai (C1 (ai (mI (aF (hs pins s2 σ H2 x y v ov iv u _ I2 r1 r2 r q2) λ_ s3 ⟨H3,I3,q3⟩=>?_))));exact wpAny_release ⟨σ,H3,I3,q3⟩
def uV(te:TE)(g:TG):TS:=λD σ H=>te σ H λx H1=>g x σ H1 D.nx
theorem Pc{tg e:Expr}{te:TE}{g:TG}(he:PE X e te)(hg:PG X tg g)(hs:swapsWithSole [tg] e pos.line X.env=pure false:=by rfl)(hw:swappedStores [tg] e X.env=pure none:=by rfl)
 (h1:(assignEach [tg] X.env).map (·.2)=[assign tg X.env]:=by rfl):PS X (.Assign [tg] e pos) (uV te g):=show _ by
 intro pins s σ H D I h;refine wpAny_Assign_stores (aF (he pins s σ H _ I h) λv s1 ⟨x,H1,I1,r1,q1⟩=>?_) hs hw;rw[h1];exact aF (hg pins s1 σ H1 x v _ I1 r1 q1) λ_ s2 q=>q
theorem Pd{i:Nat}{x:Str}{e:Expr}{te:TE}{pos':Pos}(hN:X.N.Nodup)(hi:X.N[i]?=some x)(hx:Loc X.env.scope x)(he:PE X e te)(hs:swapsWith e (some (.Name x pos')) pos.line X.env=pure false:=by rfl)(hf:X.fn x=true∨X.env.scope.names.lookup x=some .local:=by first|exact .inl rfl|exact .inr rfl|assumption) :
 PS X (.Assign [.Name x pos'] e pos) (uV te (uU i)):=show _ by
 intro pins s σ H D I h;refine wpAny_Assign_Name (aF (he pins s σ H _ I h) λv s1 ⟨y,H1,I1,r1,q1⟩=>?_) hs;exact yi I1 hN hi hx r1 (λs2 I2=>⟨_,H1,I2,q1⟩) hf
def Pe(i:Nat)(te:TE)(ti:uS):TS:=λD σ H=>∃x,σ[i]?=some (some x)/\te σ H λy H1=>ti x y H1 λz H2=>D.nx (σ.set i (some z)) H2
theorem Pf{i:Nat}{x:Str}{e:Expr}{te:TE}{op:Operator}{ti:uS}{pos':Pos}(hN:X.N.Nodup)(hi:X.N[i]?=some x)(hx:Loc X.env.scope x)(he:PE X e te)(ho:uT X op ti)(hf:X.fn x=true∨X.env.scope.names.lookup x=some .local:=by first|exact .inl rfl|exact .inr rfl|assumption) :
 PS X (.AugAssign (.Name x pos') op e pos) (Pe i te ti):=show _ by
 intro pins s σ H D I h;obtain⟨v,e1,h⟩:=h;obtain⟨m,hn,hl⟩:=I.loc;have Ph:uM X.env.scope x:=by rcases hx with k|k;exact .inl k;exact .inr (.inl k)
 obtain⟨u,r,l⟩:=hl i x v hi e1 Ph;refine wpAny_AugAssign_Name ?_;have go:wpAny (model X.prog X.w) X.A (eval e X.env) (λw s₂=>wpAny (model X.prog X.w) X.A (inplaceOp op u w) (λr s₃=>wpAny (model X.prog X.w) X.A (storeName X.env x r) (λ_=>SP X pins D .next) X.xe s₃) X.xe s₂) X.xe s:=by
  refine aF (he pins s σ H _ I h) λw s1 ⟨y,H1,I1,r1,q1⟩=>?_;refine aF (ho pins s1 σ H1 v y u w _ I1 r r1 q1) λz s2 ⟨zv,H2,I2,r2,q2⟩=>?_;exact yi I2 hN hi hx r2 (λs3 I3=>⟨_,H2,I3,q2⟩) hf
 rcases l with⟨hk,hm⟩|⟨hk,c,hc,hcell⟩
 ·exact Mw I.ok.kind hk hn hm go
 ·rcases hk with hk|hk
  ·exact Mx I.ok.kind hk hc hcell go
  ·rcases hx with k|k
   ·have:X.env.scope.names.lookup x=some .free:=hk;rw[k]at this;cases this
   ·have:X.env.scope.names.lookup x=some .free:=hk;rw[k]at this;cases this
def yn(f:Int->Int->Int):uS:=λx y H Q=>∃i j,x=.int i/\y=.int j/\Q (.int (f i j)) H
theorem yo:uT X .Add (yn λi j=>i+j):=by
 intro pins s σ H x y v u Q I r1 r2 h;obtain⟨i,j,e1,e2,q⟩:=h;subst e1;subst e2;obtain⟨t,rfl⟩:=r1;obtain⟨t',rfl⟩:=r2;exact iadd_int ⟨.int _,H,I.tok _,⟨_,rfl⟩,q⟩
theorem Pj:uT X .Sub (yn λi j=>i-j):=by
 intro pins s σ H x y v u Q I r1 r2 h;obtain⟨i,j,e1,e2,q⟩:=h;subst e1;subst e2;obtain⟨t,rfl⟩:=r1;obtain⟨t',rfl⟩:=r2;exact isub_int ⟨.int _,H,I.tok _,⟨_,rfl⟩,q⟩
end
section
variable{X:Cx}{pos:Pos}
def Pk(c:TT)(tb:TS):TS:=λD σ H=>∃W:Nat->St->Hp->Prop,(∃m,W m σ H)/\∀m σ H,W m σ H ->
 c σ H λb H1=>if b=true then ∃N:St->Hp->Prop,(∀σ' H',N σ' H'->∃m',m'<m/\W m' σ' H')/\tb {D with nx:=N,ct:=N,bk:=D.nx} σ H1 else D.nx σ H1
theorem Pl{c:Expr}{body:List Stmt}{tc:TT}{tb:TS}(hp:PassesOwn (model X.prog X.w) X.A X.env X.xe)(hc:PT X c tc)(hb:eU X body tb):PS X (.While c body [] pos) (Pk tc tb):=show _ by
 intro pins s σ H D I h;obtain⟨W,⟨m0,w0⟩,turn⟩:=h;refine wpAny_While (codeAny_whileLoop (λn s'=>∃σ' H',Inv X pins σ' H' s'/\W n σ' H') ?_ m0 ⟨σ,H,I,w0⟩);rintro n s1 ⟨fK,H1,I1,w1⟩;refine oK hp (aF (hc pins s1 fK H1 _ I1 (turn n fK H1 w1)) λb s2 ⟨H2,I2,q2⟩=>?_);cases b with
 |true =>
  obtain⟨N,hN,q2⟩:=q2;rw[if_pos rfl];refine oK hp (aF (hb pins s2 fK H2 _ I2 q2) λf s3 q3=>?_);cases f with
  |next =>
   obtain⟨iI,H3,I3,n3⟩:=q3;obtain⟨m',hm,w3⟩:=hN iI H3 n3;exact⟨m',hm,iI,H3,I3,w3⟩
  |cont =>
   obtain⟨iI,H3,I3,n3⟩:=q3;obtain⟨m',hm,w3⟩:=hN iI H3 n3;exact⟨m',hm,iI,H3,I3,w3⟩
  |brk=>exact q3
  |ret v=>exact q3
 |false =>
  rw[if_neg c7];exact uh ⟨fK,H2,I2,q2⟩
end
structure It where
 go:Nat->Hp->Prop
 lU:Nat->Hp->V->Hp->Prop
 stop:Nat->Hp->Prop
def dZ(X:Cx)(pins:List (Addr×Obj))(H:Hp)(b:Addr):Prop :=
 H b=none/\b≠X.env.locals/\b∉X.fs/\(b∈X.ex∨X.s₀.heap.objs.size<=b)/\(∀x c,X.env.cells.lookup x=some c->c≠b)/\∀p∈X.pn++pins,p.1≠b
theorem Inv.ki{X:Cx}{pins:List (Addr×Obj)}{σ:St}{H H':Hp}{s:Shared}{b:Addr}(I:Inv X pins σ H s)(hb:s.heap.objs.size<=b)(hn:H' b=none):dZ X pins H' b:=show _ by
 refine⟨hn,jZ (dM I.lt hb),I.Og hb,.inr (cj I.sz hb),λx c e z=>?_,λp hp z=>?_⟩
 ·obtain⟨v,q⟩:=I.cell x c e;exact absurd (dM q.lt (by rw[z];exact hb)) (jW _)
 ·exact absurd (dM (bE (I.pin p hp).1) (by rw[z];exact hb)) (jW _)
structure Turn(P:Program)(w:World)(K:ao)(tg:Expr)(J:It)(fp:List Addr)(it:Addr)(tn:Nat->Heap->Prop):Prop where
 mem:it∈fp
 obj:∀i h,tn i h->∀b∈fp,∃o,h.get? b=some o/\∀v,o.data≠.cell v
 keep:∀i h h',tn i h->(∀b∈fp,∀o,h.get? b=some o->h'.get? b=some o)->tn i h'
 item:∀(X:Cx),X.prog=P->X.w=w->X.K=K->X.calm=true->∀(i:Nat) (pins:List (Addr×Obj)) (s:Shared) (σ:St) (H:Hp) (E:Value->Shared->Prop),Inv X pins σ H s->(∀b∈fp,dZ X pins H b)->tn i s.heap->J.go i H ->
  wpAny (model P w) X.A (pyNext (.ref it)) (λr s1=>∃u,r=some u /\
   wpAny (model P w) X.A (letOwnedTupleGo tg (.ref it) u) (λ_ s2=>∃x H',Inv X pins σ H' s2/\RelV x u/\J.lU i H x H'/\tn (i+1) s2.heap/\∀b∈fp,H' b=none) E s1) E s
 done:∀(X:Cx),X.prog=P->X.w=w->X.K=K->X.calm=true->∀(i:Nat) (pins:List (Addr×Obj)) (s:Shared) (σ:St) (H:Hp) (E:Value->Shared->Prop),Inv X pins σ H s->(∀b∈fp,dZ X pins H b)->tn i s.heap->J.stop i H ->
  wpAny (model P w) X.A (pyNext (.ref it)) (λr s1=>r=none/\Inv X pins σ H s1) E s
 self:∀(A:Around) (i:Nat) (s:Shared) (Q:Value->Shared->Prop) (E:Value->Shared->Prop),tn i s.heap->Q (.ref it) s->wpAny (model P w) A (pyIter (.ref it)) Q E s
abbrev TI:=St->Hp->(It->Hp->Prop)->Prop
def yp(X:Cx)(pins:List (Addr×Obj))(σ:St)(tg:Expr)(R:It->Hp->Prop)(itv:Value)(s2:Shared):Prop :=
 ∃(it:Addr) (fp:List Addr) (tn:Nat->Heap->Prop) (J:It) (H':Hp),itv=.ref it/\Inv X pins σ H' s2/\Turn X.prog X.w X.K tg J fp it tn/\tn 0 s2.heap/\(∀b∈fp,dZ X pins H' b)/\R J H'
def PI(X:Cx)(tg iter:Expr)(wi:TI):Prop :=
 ∀(pins:List (Addr×Obj)) (s:Shared) (σ:St) (H:Hp) (R:It->Hp->Prop),Inv X pins σ H s->wi σ H R ->
  wpAny (model X.prog X.w) X.A (eval iter X.env) (λv s1=>wpAny (model X.prog X.w) X.A (pyIter v) (yp X pins σ tg R) X.xe s1) X.xe s
theorem rO {M:Model} {A:Around} {E:Value→Shared→Prop} {s:Shared} {tg:Expr} {it:Addr} {u:Value} {o:Obj} {n:String} {vs:Array Value} {Q:Unit→Shared→Prop} (ho:s.heap.get? it=some o) (hc:o.cls=.type n) (hd:o.data=.fields vs)
    (hn:["enumerate","zip","dict_itemiterator","dict_reverseitemiterator","odict_iterator","itertools.zip_longest","itertools.pairwise"].contains n=false) (hQ:Q () s):wpAny M A (letOwnedTupleGo tg (.ref it) u) Q E s:=show _ by
  unfold letOwnedTupleGo
  cases tg<;>first
    | exact aE hQ
    | (cases u<;>first
        | exact aE hQ
        | (refine ai (wpAny_load ho ?_)
           rw [hc,hd]
           show wpAny M A (if (["enumerate","zip","dict_itemiterator","dict_reverseitemiterator","odict_iterator","itertools.zip_longest","itertools.pairwise"].contains n&&vs[0]?==some (rawInt _))=true then _ else _) Q E s
           rw [if_neg (by intro h;rw [hn,Bool.false_and] at h;cases h)]
           exact aE hQ))
def Ej(K:ao)(a:Addr):It :=
 ⟨λi H=>∃xs x,bg K H a xs/\xs[i]?=some x,λi H x H'=>H'=H/\∀xs,bg K H a xs->xs[i]?=some x,λi H=>∃xs,bg K H a xs/\xs.length<=i⟩
def Ek(K:ao)(a:Addr):It :=
 ⟨λi H=>∃xs x,bh K H a xs/\xs[i]?=some x,λi H x H'=>H'=H/\∀xs,bh K H a xs->xs[i]?=some x,λi H=>∃xs,bh K H a xs/\xs.length<=i⟩
def uW(lo:Int)(n:Nat):It:=⟨λi _=>i<n,λi H x H'=>H'=H/\x=.int (lo+i),λi _=>n<=i⟩
theorem Pm{P:Program}{w:World}{K:ao}{tg:Expr}(a it:Addr):Turn P w K tg (Ej K a) [it] it (λi h=>h.IsListIter it a i) where
 mem:=show _ by simp
 obj:=λi h st b hb=>by
  have e:b=it:=by simpa using hb
  subst e;obtain⟨o,e,c,d⟩:=st;exact⟨o,e,λv z=>by rw[d]at z;cases z⟩
 keep:=λi h h' st k=>st.at λo e=>k it (by simp) o e
 item:=by
  intro X hP hw hK hc i pins s σ H E I hf st hg;subst hP hw hK;obtain⟨xs,x,hq,hx⟩:=hg;obtain⟨its,rv,p,hz⟩:=I.list hq;obtain⟨u,hu,ru⟩:=rv.get hx;obtain⟨f0,f1,f2,f3,f4,f5⟩:=hf it (by simp);refine MD st p.isList (x:=u) (by simpa using hu) λh' st' sb=>?_;have I1:Inv X pins σ H {s with heap:=h'}:=I.turned (t':=s.toks) (λb o hb e=>(sb.2 b hb).trans e) f0 f1 f3 f4 f5;obtain⟨o,e,c,d⟩:=id st';exact⟨u,rfl,rO (s:={s with heap:=h'}) e c d (by decide) ⟨x,H,I1,ru,⟨rfl,λys hy=>by rw[I.uR hy hq];exact hx⟩,st',λb hb=>(hf b hb).1⟩⟩
 done:=by
  intro X hP hw hK hc i pins s σ H E I hf st hg;subst hP hw hK;obtain⟨xs,hq,hx⟩:=hg;obtain⟨its,rv,p,hz⟩:=I.list hq;obtain⟨f0,f1,f2,f3,f4,f5⟩:=hf it (by simp);have hl:=rv.length;exact ME (I.ok.hd hc) st p.isList (by simp;lia) λh' eb=>⟨rfl,I.turned (t':=s.toks) (λb o hb e=>eb b o hb e) f0 f1 f3 f4 f5⟩
 self:=λ_ _ _ _ _ st h=>wpAny_pyIter_listiter st h
theorem Pn{P:Program}{w:World}{K:ao}{tg:Expr}(a it:Addr):Turn P w K tg (Ek K a) [it] it (λi h=>h.IsTupleIter it a i) where
 mem:=show _ by simp
 obj:=λi h st b hb=>by
  have e:b=it:=by simpa using hb
  subst e;obtain⟨o,e,c,d⟩:=st;exact⟨o,e,λv z=>by rw[d]at z;cases z⟩
 keep:=λi h h' st k=>st.at λo e=>k it (by simp) o e
 item:=by
  intro X hP hw hK hc i pins s σ H E I hf st hg;subst hP hw hK;obtain⟨xs,x,hq,hx⟩:=hg;obtain⟨its,rv,p,hz⟩:=I.tuple hq;obtain⟨u,hu,ru⟩:=rv.get hx;obtain⟨f0,f1,f2,f3,f4,f5⟩:=hf it (by simp);refine wpAny_pyNext_tuple_item st (show s.heap.IsTuple a its.toArray from p) (x:=u) (by simpa using hu) λh' st' sb=>?_;have I1:Inv X pins σ H {s with heap:=h'}:=I.turned (t':=s.toks) (λb o hb e=>(sb.2 b hb).trans e) f0 f1 f3 f4 f5;obtain⟨o,e,c,d⟩:=id st';exact⟨u,rfl,rO (s:={s with heap:=h'}) e c d (by decide) ⟨x,H,I1,ru,⟨rfl,λys hy=>by rw[I.oW hy hq];exact hx⟩,st',λb hb=>(hf b hb).1⟩⟩
 done:=by
  intro X hP hw hK hc i pins s σ H E I hf st hg;subst hP hw hK;obtain⟨xs,hq,hx⟩:=hg;obtain⟨its,rv,p,hz⟩:=I.tuple hq;obtain⟨f0,f1,f2,f3,f4,f5⟩:=hf it (by simp);have hl:=rv.length;exact wpAny_pyNext_tuple_end (I.ok.hd hc) st (show s.heap.IsTuple a its.toArray from p) (by simp;lia) λh' eb=>⟨rfl,I.turned (t':=s.toks) (λb o hb e=>eb b o hb e) f0 f1 f3 f4 f5⟩
 self:=λ_ _ _ _ _ st h=>wpAny_pyIter_tupleiter st h
theorem Po{P:Program}{w:World}{K:ao}{tg:Expr}(it:Addr)(lo:Int)(n:Nat):Turn P w K tg (uW lo n) [it] it (λi h=>IsRangeIter h it (lo+(i:Nat)*1) ((n:Int)-(i:Nat)) 1) where
 mem:=show _ by simp
 obj:=λi h st b hb=>by
  have e:b=it:=by simpa using hb
  subst e;exact⟨_,st,λv z=>by
   have z':Data.fields _=Data.cell v:=z;cases z'⟩
 keep:=λi h h' st k=>k it (by simp) _ st
 item:=by
  intro X hP hw hK hc i pins s σ H E I hf st hg;subst hP hw hK;obtain⟨f0,f1,f2,f3,f4,f5⟩:=hf it (by simp);have W:=Walks.range (prog:=X.prog) (w:=X.w) (I.ok.hd hc) it lo 1 n;refine W.item i s _ _ hg st λv h' tk hv st' kk=>?_;obtain⟨t,rfl⟩:=hv;have I1:Inv X pins σ H {s with heap:=h',toks:=tk}:=I.turned (λb o hb e=>kk b o (by simpa using hb) e) f0 f1 f3 f4 f5;refine⟨_,rfl,rO (s:={s with heap:=h',toks:=tk}) (n:="range_iterator") st' rfl rfl (by decide) ⟨.int (lo+i),H,I1,⟨t,?_⟩,⟨rfl,rfl⟩,st',λb hb=>(hf b hb).1⟩⟩;rw[Int.mul_one]
 done:=by
  intro X hP hw hK hc i pins s σ H E I hf st hg;subst hP hw hK;obtain⟨f0,f1,f2,f3,f4,f5⟩:=hf it (by simp);exact wpAny_pyNext_range_end (I.ok.hd hc) st (by have:n<=i:=hg;lia) λh' eb=>⟨rfl,I.turned (t':=s.toks) (λb o hb e=>eb b o hb e) f0 f1 f3 f4 f5⟩
 self:=λ_ _ _ _ _ st h=>wpAny_pyIter_rangeiter st h
section
variable{X:Cx}{tg:Expr}
def Pp(K:ao)(tl:TE):TI:=λσ H R=>tl σ H λx H1=>∃a,x=.ref a/\(∃xs,bg K H1 a xs)/\R (Ej K a) H1
def Pq(K:ao)(tl:TE):TI:=λσ H R=>tl σ H λx H1=>∃a,x=.ref a/\(∃xs,bh K H1 a xs)/\R (Ek K a) H1
theorem Pt{l:Expr}{tl:TE}(hl:PE X l tl):PI X tg l (Pp X.K tl):=show _ by
 intro pins s σ H R I h;refine aF (hl pins s σ H _ I h) λv s1 ⟨x,H1,I1,r1,q1⟩=>?_;obtain⟨a,e,⟨xs,hq⟩,q⟩:=q1;subst e;cases r1;obtain⟨its,rv,p,hz⟩:=I1.list hq;refine C2 p.isList ?_;refine⟨s1.heap.objs.size,[s1.heap.objs.size],_,_,H1,rfl,I1.kept (t':=s1.toks) λb o e=>bx _ e,Pm a _,⟨_,c8 _ rfl,rfl,rfl⟩,λb hb=>?_,q⟩;have e:b=s1.heap.objs.size:=by simpa using hb
 subst e;exact I1.ki (aV _) (I1.hok.fresh (aV _))
theorem Pu{l:Expr}{tl:TE}(hl:PE X l tl):PI X tg l (Pq X.K tl):=show _ by
 intro pins s σ H R I h;refine aF (hl pins s σ H _ I h) λv s1 ⟨x,H1,I1,r1,q1⟩=>?_;obtain⟨a,e,⟨xs,hq⟩,q⟩:=q1;subst e;cases r1;obtain⟨its,rv,p,hz⟩:=I1.tuple hq;refine rh (show s1.heap.IsTuple a its.toArray from p) ?_;refine⟨s1.heap.objs.size,[s1.heap.objs.size],_,_,H1,rfl,I1.kept (t':=s1.toks) λb o e=>bx _ e,Pn a _,⟨_,c8 _ rfl,rfl,rfl⟩,λb hb=>?_,q⟩;have e:b=s1.heap.objs.size:=by simpa using hb
 subst e;exact I1.ki (aV _) (I1.hok.fresh (aV _))
theorem Pw{pins:List (Addr×Obj)}{σ:St}{H:Hp}{s:Shared}{R:It->Hp->Prop}{E:Value->Shared->Prop}{lo hi:Int}{t u v:Tok}{tk:Nat}(I:Inv X pins σ H s)(h1:-(2^62)<=lo)(h2:lo<2^62)(h3:-(2^62)<=hi)(h4:hi<2^62)
 (q:R (uW lo (hi-lo).toNat) H):wpAny (model X.prog X.w) X.A (pyIter (.ref s.heap.objs.size)) (yp X pins σ tg R) E {s with heap:=s.heap.push {cls:=.type "range",data:=.fields #[.int lo t,.int hi u,.int 1 v]},toks:=tk}:=show _ by
 refine wpAny_pyIter_range (IsRange.new ..) (small_one h1 h2 h3 h4) ?_;have I1:Inv X pins σ H {s with heap:=s.heap.push {cls:=.type "range",data:=.fields #[.int lo t,.int hi u,.int 1 v]},toks:=tk}:=I.kept λb o e=>bx _ e;refine⟨(s.heap.push {cls:=.type "range",data:=.fields #[.int lo t,.int hi u,.int 1 v]}).objs.size,[(s.heap.push {cls:=.type "range",data:=.fields #[.int lo t,.int hi u,.int 1 v]}).objs.size],_,_,H,rfl,
  I1.kept (t':=tk) λb o e=>bx _ e,Po _ lo (hi-lo).toNat,?_,λb hb=>?_,q⟩
 ·have e1:lo+((0:Nat):Int)*1=lo:=by simp
  have e2:(((hi-lo).toNat:Nat):Int)-((0:Nat):Int)=aiu lo hi 1:=by rw[rangeSize_one];split<;>lia
  show IsRangeIter _ _ (lo+((0:Nat):Int)*1) ((((hi-lo).toNat:Nat):Int)-((0:Nat):Int)) 1;rw[e1,e2];exact c8 _ rfl
 ·have e:b=(s.heap.push {cls:=.type "range",data:=.fields #[.int lo t,.int hi u,.int 1 v]}).objs.size:=by simpa using hb
  subst e;exact I1.ki (aV _) (I1.hok.fresh (aV _))
def Py(ta:TA):TI:=λσ H R=>ta σ H λvs H1=>∃j:Int,vs=[.int j]/\-(2^62)<=j/\j<2^62/\R (uW 0 j.toNat) H1
theorem Pz{a:Expr}{ta:TA}{p pos:Pos}(hg:Gl X "range")(hm:X.mg "range"=none)(ha:PA X [a] ta)(hs:starEach [a] X.env=[(false,eval a X.env)]:=by rfl):PI X tg (.Call (.Name "range" p) [a] [] pos) (Py ta):=show _ by
 intro pins s σ H R I h;refine Call_ (jr I hg hm boot_range (mJ (aF (ha pos pins s σ H _ I h) λus s1 ⟨vs,H1,I1,r1,q1⟩=>?_) hs rfl));obtain⟨j,e,q1,q2,q⟩:=q1;subst e;cases r1 with
 |cons r rr =>
  cases rr;obtain⟨t,rfl⟩:=r;exact call_range_1 (Pw I1 (by lia) (by lia) q1 q2 (by simpa using q))
def PB(wi:TI)(g:TG)(tb:TS):TS:=λD σ H=>wi σ H λJ H1=>∃W:Nat->Nat->St->Hp->Prop,(∃m,W 0 m σ H1)/\∀i m σ H,W i m σ H ->
 (J.stop i H/\D.nx σ H)∨(J.go i H/\∃N:St->Hp->Prop,(∀σ' H',N σ' H'->∃m',m'<m/\W (i+1) m' σ' H')/\∀x H',J.lU i H x H'->g x σ H' λjw H2=>tb {D with nx:=N,ct:=N,bk:=D.nx} jw H2)
def rP(fp:List Addr)(h:Heap):List (Addr×Obj):=fp.filterMap λb=>(h.get? b).map λo=>(b,o)
theorem uX{fp:List Addr}{h:Heap}{b:Addr}{o:Obj}(hb:b∈fp)(e:h.get? b=some o):(b,o)∈rP fp h:=rj.mpr ⟨b,hb,by rw[e];rfl⟩
theorem PD{fp:List Addr}{h:Heap}{p:Addr×Obj}(hp:p∈rP fp h):p.1∈fp/\h.get? p.1=some p.2:=by
 obtain⟨b,hb,e⟩:=rj.mp hp;cases q:h.get? b with
 |none=>rw[q]at e;cases e
 |some o =>
  rw[q]at e;have e':(b,o)=p:=dG e;subst e';exact⟨hb,q⟩
theorem Inv.pinned{pins:List (Addr×Obj)}{σ:St}{H:Hp}{s:Shared}{fp:List Addr}(I:Inv X pins σ H s)(hf:∀b∈fp,dZ X pins H b)(ho:∀b∈fp,∃o,s.heap.get? b=some o/\∀v,o.data≠.cell v):Inv X (pins++rP fp s.heap) σ H s :=
 I.Ed λp hp=>(cR.mp hp).elim (λz=>I.pin p (fG _ z)) λz=>by
  obtain⟨hb,e⟩:=PD z;obtain⟨f0,f1,f2,_⟩:=hf p.1 hb;obtain⟨o,e',d⟩:=ho p.1 hb;rw[e]at e';cases e';exact⟨e,f0,f1,f2,d⟩
theorem Inv.uY{pins pl:List (Addr×Obj)}{σ:St}{H:Hp}{s:Shared}(I:Inv X (pins++pl) σ H s):Inv X pins σ H s:=I.Ed λp hp=>I.pin p (fG _ (lu _ hp))
theorem PF{iter:Expr}{body:List Stmt}{wi:TI}{g:TG}{tb:TS}{pos:Pos}(hp:PassesOwn (model X.prog X.w) X.A X.env X.xe)(hc:X.calm=true)(hi:PI X tg iter wi)(hg:PG X tg g)(hb:eU X body tb)
 (hs:∀x,foldedSetIterable iter X.env x=pure x:=by intro _;rfl):PS X (.For tg iter body [] pos) (PB wi g tb):=show _ by
 intro pins s σ H D I h;refine wpAny_For (aF (hi pins s σ H _ I h) λv s1 h1=>aF h1 λitv s2 h2=>?_) hs;obtain⟨it,fp,tn,J,H2,e,I2,T,st2,f2,W,⟨m0,w0⟩,turn⟩:=h2;subst e;have mX:∀{H':Hp},(∀b∈fp,H' b=none)->∀b∈fp,dZ X pins H' b:=λhn b hb=>⟨hn b hb,(f2 b hb).2⟩;refine codeAny_forLoop_any (λn s'=>∃i σ' H',Inv X pins σ' H' s'/\tn i s'.heap/\(∀b∈fp,H' b=none)/\W i n σ' H') ?_ m0 ⟨0,σ,H2,I2,st2,λb hb=>(f2 b hb).1,w0⟩;rintro n s3 ⟨i,iI,H3,I3,st3,iJ,w3⟩;rcases turn i n iI H3 w3 with⟨stop,qn⟩|⟨go,N,hN,step⟩
 ·refine oK hp (aF (T.done X rfl rfl rfl hc i pins s3 iI H3 X.xe I3 (mX iJ) st3 stop) λr s4 ⟨hr,I4⟩=>?_);subst hr;exact uh ⟨iI,H3,I4,qn⟩
 ·refine oK hp (aF (T.item X rfl rfl rfl hc i pins s3 iI H3 X.xe I3 (mX iJ) st3 go) λr s4 ⟨u,hr,h4⟩=>?_);subst hr;refine oK hp (aF h4 λ_ s5 ⟨x,H5,I5,r5,y5,oX,uZ⟩=>?_);have PH:=I5.pinned (mX uZ) (T.obj _ _ oX);refine oK hp (aF (hg _ s5 iI H5 x u _ PH r5 (step x H5 y5)) λ_ s6 ⟨PJ,H6,I6,q6⟩=>?_);refine oK hp (aF (hb _ s6 PJ H6 _ I6 q6) λf s7 q7=>?_);have again:∀{iK:St} {H7:Hp},Inv X (pins++rP fp s5.heap) iK H7 s7->N iK H7->∃m,m<n/\∃i σ' H',Inv X pins σ' H' s7/\tn i s7.heap/\(∀b∈fp,H' b=none)/\W i m σ' H':=λ{iK H7} I7 n7=>by
   obtain⟨m',hm,w7⟩:=hN iK H7 n7;refine⟨m',hm,i+1,iK,H7,I7.uY,T.keep _ _ _ oX λb hb o e=>(I7.pin (b,o) (fG _ (fG _ (uX hb e)))).1,λb hb=>?_,w7⟩;obtain⟨o,e,d⟩:=T.obj _ _ oX b hb;exact(I7.pin (b,o) (fG _ (fG _ (uX hb e)))).2.1
  cases f with
  |next=>obtain⟨iK,H7,I7,n7⟩:=q7;exact again I7 n7
  |cont=>obtain⟨iK,H7,I7,n7⟩:=q7;exact again I7 n7
  |brk=>obtain⟨iK,H7,I7,q7⟩:=q7;exact⟨iK,H7,I7.uY,q7⟩
  |ret v=>obtain⟨x7,iK,H7,I7,r7,q7⟩:=q7;exact⟨x7,iK,H7,I7.uY,r7,q7⟩
end
abbrev R2:=V->V->Hp->VK->Prop
def cO(X:Cx)(f:Value->Value->Sem Value)(r:R2):Prop :=
 ∀(pins:List (Addr×Obj)) (s:Shared) (σ:St) (H:Hp) (x y:V) (v u:Value) (Q:VK),Inv X pins σ H s->RelV x v->RelV y u->r x y H Q ->
  wpAny (model X.prog X.w) X.A (f v u) (EP X pins σ Q) X.xe s
def gE(X:Cx)(f:Value)(r:List V->Hp->VK->Prop):Prop :=
 ∀(pins:List (Addr×Obj)) (s:Shared) (σ:St) (H:Hp) (xs:List V) (us:List Value) (Q:VK),Inv X pins σ H s->Vals xs us->r xs H Q ->
  wpAny (model X.prog X.w) X.A (call f us) (EP X pins σ Q) X.xe s
def PK(X:Cx)(r:V->Hp->(Bool->Hp->Prop)->Prop):Prop :=
 ∀(pins:List (Addr×Obj)) (s:Shared) (σ:St) (H:Hp) (x:V) (v:Value) (Q:Bool->Hp->Prop),Inv X pins σ H s->RelV x v->r x H Q ->
  wpAny (model X.prog X.w) X.A (truthy v) (TP X pins σ Q) X.xe s
def rQ(r:R2)(ta tb:TE):TE:=λσ H Q=>ta σ H λx H1=>tb σ H1 λy H2=>r x y H2 Q
def rI(C:Int->Int->Prop)(g:Int->Int->V):R2:=λx y H Q=>∃i j,x=.int i/\y=.int j/\C i j/\Q (g i j) H
def kj(g:Int->Int->V):R2:=λx y H Q=>∃i j,x=.int i/\y=.int j/\Q (g i j) H
section
variable{X:Cx}{a b c:Expr}{ta tb tc:TE}{pos:Pos}
theorem yq(ha:PE X a ta)(hb:PE X b tb){pins:List (Addr×Obj)}{s:Shared}{σ:St}{H:Hp}{R:V->V->Hp->Prop}(I:Inv X pins σ H s)
 (h:ta σ H λx H1=>tb σ H1 λy H2=>R x y H2) {Q:Value->Shared->Prop} {f:Value->Value->Sem Value}
 (hf:∀v u s2 x y H2,Inv X pins σ H2 s2->RelV x v->RelV y u->R x y H2->wpAny (model X.prog X.w) X.A (f v u) Q X.xe s2) :
 wpAny (model X.prog X.w) X.A (eval a X.env) (λv s₁=>wpAny (model X.prog X.w) X.A (eval b X.env) (λu s₂=>wpAny (model X.prog X.w) X.A (f v u) Q X.xe s₂) X.xe s₁) X.xe s:=show _ by
 refine aF (ha pins s σ H _ I h) λv s1 ⟨x,H1,I1,r1,q1⟩=>?_;refine aF (hb pins s1 σ H1 _ I1 q1) λu s2 ⟨y,H2,I2,r2,q2⟩=>?_;exact hf v u s2 x y H2 I2 r1 r2 q2
theorem PL{op:Operator}{r:R2}(ho:cO X (binaryOp op) r)(ha:PE X a ta)(hb:PE X b tb):PE X (.BinOp a op b pos) (rQ r ta tb):=by
 intro pins s σ H Q I h;exact wpAny_BinOp (yq ha hb I h λv u s2 x y H2 I2 rx ry q=>ho pins s2 σ H2 x y v u Q I2 rx ry q)
theorem u1{f:Value->Value->Sem Value}{C:Int->Int->Prop}{g:Int->Int->Int}
 (rule:∀(i j:Int) (t u:Tok) (s:Shared) (Q:Value->Shared->Prop) (E:Value->Shared->Prop),C i j->Q (.int (g i j) s.toks) {s with toks:=s.toks+1}->wpAny (model X.prog X.w) X.A (f (.int i t) (.int j u)) Q E s) :
 cO X f (rI C λi j=>.int (g i j)):=show _ by
 intro pins s σ H x y v u Q I rx ry h;obtain⟨i,j,rfl,rfl,hc,q⟩:=h;obtain⟨t,rfl⟩:=rx;obtain⟨t',rfl⟩:=ry;exact rule i j t t' s _ _ hc ⟨.int (g i j),H,I.tok _,⟨_,rfl⟩,q⟩
theorem El{f:Value->Value->Sem Value}{g:Int->Int->Int}
 (rule:∀(i j:Int) (t u:Tok) (s:Shared) (Q:Value->Shared->Prop) (E:Value->Shared->Prop),Q (.int (g i j) s.toks) {s with toks:=s.toks+1}->wpAny (model X.prog X.w) X.A (f (.int i t) (.int j u)) Q E s) :
 cO X f (kj λi j=>.int (g i j)):=show _ by
 intro pins s σ H x y v u Q I rx ry h;obtain⟨i,j,rfl,rfl,q⟩:=h;obtain⟨t,rfl⟩:=rx;obtain⟨t',rfl⟩:=ry;exact rule i j t t' s _ _ ⟨.int (g i j),H,I.tok _,⟨_,rfl⟩,q⟩
theorem yr{f:Value->Value->Sem Value}{g:Int->Int->Bool}
 (rule:∀(i j:Int) (t u:Tok) (s:Shared) (Q:Value->Shared->Prop) (E:Value->Shared->Prop),Q (.bool (g i j)) s->wpAny (model X.prog X.w) X.A (f (.int i t) (.int j u)) Q E s) :
 cO X f (kj λi j=>.bl (g i j)):=show _ by
 intro pins s σ H x y v u Q I rx ry h;obtain⟨i,j,rfl,rfl,q⟩:=h;obtain⟨t,rfl⟩:=rx;obtain⟨t',rfl⟩:=ry;exact rule i j t t' s _ _ ⟨.bl (g i j),H,I,rfl,q⟩
def Em(i j:Int):Prop:=0<j/\j<1073741824
def yt(i j:Int):Prop:=0<=j/\j<=1000000/\i.natAbs<2^64
def rR(i j:Int):Prop:=(-(2^64)<i/\i<2^64)∨(-(2^64)<j/\j<2^64)
theorem rR.ok{i j:Int}(h:rR i j):IntMulOk i j:=by
 rcases h with⟨h1,h2⟩|⟨h1,h2⟩
 ·exact .of_left (intBits_le_64 h1 h2)
 ·exact .of_right (intBits_le_64 h1 h2)
theorem jx:cO X (binaryOp .Add) (kj λi j=>.int (i+j)):=El λ_ _ _ _ _ _ _ q=>add_int q
theorem yu:cO X (binaryOp .Sub) (kj λi j=>.int (i-j)):=El λ_ _ _ _ _ _ _ q=>sub_int q
theorem Eo:cO X (binaryOp .Mult) (rI rR λi j=>.int (i*j)):=u1 λ_ _ _ _ _ _ _ hc q=>mul_int q hc.ok
theorem dn:cO X (binaryOp .FloorDiv) (rI Em λi j=>.int (i/j)):=u1 λi j _ _ _ _ _ hc q=>by
 have h1:(0:Int)<j:=hc.1;have h2:j<1073741824:=hc.2;exact floordiv_int (by lia) (by rw[Int.fdiv_eq_ediv_of_nonneg i (by lia)];exact q) (.inl (PyProof.noPylong_small (by lia)))
theorem b_:cO X (binaryOp .Mod) (rI (λ_ j=>0<j) λi j=>.int (i%j)):=u1 λi j _ _ _ _ _ hc q=>by
 have h1:(0:Int)<j:=hc;exact mod_int' (by lia) (by rw[Int.fmod_eq_emod_of_nonneg i (by lia)];exact q)
theorem u3:cO X (binaryOp .Pow) (rI yt λi j=>.int (i^j.toNat)):=u1 λ_ _ _ _ _ _ _ hc q=>pow_int_small hc.1 hc.2.1 hc.2.2 q
end
def Ep:V->V->Bool
 | .non,.non=>true | .non,.int _=>true | .int _,.non=>true | .non,.bl _=>true | .bl _,.non=>true | .non,.str _=>true | .str _,.non=>true
 | .int _,.int _=>true | .bl _,.bl _=>true | .str _,.str _=>true | .gh _,.gh _=>true
 | .int _,.str _=>true | .str _,.int _=>true | .bl _,.str _=>true | .str _,.bl _=>true
 |_,_=>false
def yw:R2:=λx y H Q=>Ep x y=true/\Q (.bl (decide (x=y))) H
def u4:R2:=λx y H Q=>Ep x y=true/\Q (.bl (!decide (x=y))) H
theorem yx{i j:Int}:decide (V.int i=V.int j)=(i==j):=by
 rw[gA];simp
theorem Es{i j:Bool}:decide (V.bl i=V.bl j)=(i==j):=by
 rw[gA];simp
theorem Et{i j:Str}:decide (V.str i=V.str j)=(i==j):=by
 rw[gA];simp
theorem Eu{i j:Array UInt8}:decide (V.gh i=V.gh j)=(i.toList==j.toList):=by
 rw[gA];cases i;cases j;simp
section
variable{X:Cx}{a b c:Expr}{ta tb tc:TE}{pos:Pos}
theorem cH{pins:List (Addr×Obj)}{σ:St}{H:Hp}{s:Shared}{Q:VK}{k k':Bool}(I:Inv X pins σ H s)(q:Q (.bl k) H)(e:k=k'):EP X pins σ Q (.bool k') s:=by
 subst e;exact⟨.bl k,H,I,rfl,q⟩
theorem bY:cO X (compareOp .Eq) yw:=show _ by
 intro pins s σ H x y v u Q I rx ry h;obtain⟨hs,q⟩:=h;cases x with
 |non =>
  cases rx;cases y with
  |non=>cases ry;exact PySem.EqNone.eq_none_none (cH I q (by simp))
  |bl j=>cases ry;exact PySem.EqNone.eq_none_bool (cH I q (by simp))
  |int j=>obtain⟨t',rfl⟩:=ry;exact PySem.EqNone.eq_none_int (cH I q (by simp))
  |str j=>obtain⟨t',rfl⟩:=ry;exact PySem.EqNone.eq_none_str (cH I q (by simp))
  |_=>exact absurd (show false=true from hs) c7
 |bl i =>
  cases rx;cases y with
  |non=>cases ry;exact PySem.EqNone.eq_bool_none (cH I q (by simp))
  |bl j=>cases ry;exact eq_bool (cH I q Es)
  |str j=>obtain⟨t',rfl⟩:=ry;exact aiv (cH I q (by simp))
  |_=>exact absurd (show false=true from hs) c7
 |int i =>
  obtain⟨t,rfl⟩:=rx;cases y with
  |non=>cases ry;exact PySem.EqNone.eq_int_none (cH I q (by simp))
  |int j=>obtain⟨t',rfl⟩:=ry;exact eq_int (cH I q yx)
  |str j=>obtain⟨t',rfl⟩:=ry;exact aiw (cH I q (by simp))
  |_=>exact absurd (show false=true from hs) c7
 |str i =>
  obtain⟨t,rfl⟩:=rx;cases y with
  |non=>cases ry;exact PySem.EqNone.eq_str_none (cH I q (by simp))
  |bl j=>cases ry;exact aix (cH I q (by simp))
  |int j=>obtain⟨t',rfl⟩:=ry;exact aiy (cH I q (by simp))
  |str j=>obtain⟨t',rfl⟩:=ry;exact eq_str (cH I q Et)
  |_=>exact absurd (show false=true from hs) c7
 |gh i =>
  obtain⟨t,rfl⟩:=rx;cases y with
  |gh j=>obtain⟨t',rfl⟩:=ry;exact PySem.W.eq_bytes (cH I q Eu)
  |_=>exact absurd (show false=true from hs) c7
 |_=>cases y<;>exact absurd (show false=true from hs) c7
theorem u5:cO X (compareOp .NotEq) u4:=show _ by
 intro pins s σ H x y v u Q I rx ry h;obtain⟨hs,q⟩:=h;cases x with
 |non =>
  cases rx;cases y with
  |non=>cases ry;exact PySem.EqNone.ne_none_none (cH I q (by simp))
  |bl j=>cases ry;exact PySem.EqNone.ne_none_bool (cH I q (by simp))
  |int j=>obtain⟨t',rfl⟩:=ry;exact PySem.EqNone.ne_none_int (cH I q (by simp))
  |str j=>obtain⟨t',rfl⟩:=ry;exact PySem.EqNone.ne_none_str (cH I q (by simp))
  |_=>exact absurd (show false=true from hs) c7
 |bl i =>
  cases rx;cases y with
  |non=>cases ry;exact PySem.EqNone.ne_bool_none (cH I q (by simp))
  |bl j=>cases ry;exact ne_bool (cH I q (congrArg not Es))
  |str j=>obtain⟨t',rfl⟩:=ry;exact aiz (cH I q (by simp))
  |_=>exact absurd (show false=true from hs) c7
 |int i =>
  obtain⟨t,rfl⟩:=rx;cases y with
  |non=>cases ry;exact PySem.EqNone.ne_int_none (cH I q (by simp))
  |int j=>obtain⟨t',rfl⟩:=ry;exact ne_int (cH I q (congrArg not yx))
  |str j=>obtain⟨t',rfl⟩:=ry;exact aiA (cH I q (by simp))
  |_=>exact absurd (show false=true from hs) c7
 |str i =>
  obtain⟨t,rfl⟩:=rx;cases y with
  |non=>cases ry;exact PySem.EqNone.ne_str_none (cH I q (by simp))
  |bl j=>cases ry;exact aiB (cH I q (by simp))
  |int j=>obtain⟨t',rfl⟩:=ry;exact aiC (cH I q (by simp))
  |str j=>obtain⟨t',rfl⟩:=ry;exact ne_str (cH I q (congrArg not Et))
  |_=>exact absurd (show false=true from hs) c7
 |gh i =>
  obtain⟨t,rfl⟩:=rx;cases y with
  |gh j=>obtain⟨t',rfl⟩:=ry;exact PySem.W.ne_bytes (cH I q (congrArg not Eu))
  |_=>exact absurd (show false=true from hs) c7
 |_=>cases y<;>exact absurd (show false=true from hs) c7
theorem rS:cO X (compareOp .Lt) (kj λi j=>.bl (decide (i<j))):=yr λ_ _ _ _ _ _ _ q=>lt_int q
theorem Ew:cO X (compareOp .Gt) (kj λi j=>.bl (decide (j<i))):=yr λ_ _ _ _ _ _ _ q=>gt_int q
theorem Ey:cO X (compareOp .GtE) (kj λi j=>.bl (decide (j<=i))):=yr λ_ _ _ _ _ _ _ q=>ge_int q
theorem oY:cO X (compareOp .Is) (λx y H Q=>y=.non/\Q (.bl (decide (x=.non))) H):=by
 intro pins s σ H x y v u Q I rx ry h;obtain⟨rfl,q⟩:=h;cases ry;refine is_none_gen (cH I q ?_);cases x<;>first
  |(cases rx;rfl)
  |(obtain⟨t,rfl⟩:=rx;rfl)
theorem PM:cO X (compareOp .IsNot) (λx y H Q=>y=.non/\Q (.bl (!decide (x=.non))) H):=by
 intro pins s σ H x y v u Q I rx ry h;obtain⟨rfl,q⟩:=h;cases ry;refine isnot_none_gen (cH I q ?_);cases x<;>first
  |(cases rx;rfl)
  |(obtain⟨t,rfl⟩:=rx;rfl)
theorem bj(b:Expr){op:CmpOp}(h:op≠.In:=by decide)(h2:op≠.NotIn:=by decide):behindInMarks op b=false:=by
 have e1:(op==CmpOp.In)=false:=by cases op<;>first|rfl|exact absurd rfl h
 have e2:(op==CmpOp.NotIn)=false:=by cases op<;>first|rfl|exact absurd rfl h2
 cases b<;>simp[behindInMarks,e1,e2]
theorem PN{op:CmpOp}{r:R2}(ho:cO X (compareOp op) r)(ha:PE X a ta)(hb:PE X b tb)(hm:behindInMarks op b=false):PE X (.Compare a [op] [b] pos) (rQ r ta tb):=by
 intro pins s σ H Q I h;exact wpAny_Compare1 (yq ha hb I h λv u s2 x y H2 I2 rx ry q=>ho pins s2 σ H2 x y v u Q I2 rx ry q) hm
def Ez(t:TE):TT:=λσ H Q=>t σ H λx H'=>∃k,x=.bl k/\Q k H'
theorem PQ{op:CmpOp}{r:R2}(ho:cO X (compareOp op) r)(ha:PE X a ta)(hb:PE X b tb)(hm:behindInMarks op b=false):PT X (.Compare a [op] [b] pos) (Ez (rQ r ta tb)):=show _ by
 intro pins s σ H Q I h;refine Mz (aF (ha pins s σ H _ I h) λv s1 ⟨x,H1,I1,r1,q1⟩=>aF (hb pins s1 σ H1 _ I1 q1) λu s2 ⟨y,H2,I2,r2,q2⟩ =>
  aF (ho pins s2 σ H2 x y v u _ I2 r1 r2 q2) λc s3 ⟨z,H3,I3,r3,k,e,q3⟩=>?_) hm
 subst e;cases r3;exact mH ⟨H3,I3,q3⟩
def yy(K:ao)(x:V)(H:Hp)(k:Bool):Prop :=
 match x with
 | .non=>k=false
 | .bl b=>k=b
 | .int i=>k=(i != 0)
 | .str y=>y.length<=sizeLine/\k=((y.length:Int) != 0)
 | .gh y=>y.size<=sizeLine/\k=((y.size:Int) != 0)
 | .ref p=>(∃xs,bg K H p xs/\k=!xs.isEmpty)∨(∃xs,bh K H p xs/\k=!xs.isEmpty)∨∃kvs,H p=some (.dK kvs)/\k=!kvs.isEmpty
 |_=>False
theorem PR{κ:Type}{kvs:List (κ×V)}{vs:List (κ×Value)}(r:KV kvs vs):(!vs.isEmpty)=!kvs.isEmpty:=by
 cases r<;>rfl
theorem EA{xs:List V}{its:List Value}(r:Vals xs its):(!its.toArray.isEmpty)=!xs.isEmpty:=by
 cases r<;>simp
theorem kl:(sizeLine:Nat)<2^63:=by rw[xr];decide
theorem PU:PK X (λx H Q=>∃k,yy X.K x H k/\Q k H):=show _ by
 intro pins s σ H x v Q I rx h;obtain⟨k,e,q⟩:=h;have hl:=kl;have hs:sizeLine=16777216:=xr;cases x with
 |non =>
  cases rx;have e':k=false:=e;subst e';exact truthy_none ⟨H,I,q⟩
 |bl b =>
  cases rx;have e':k=b:=e;subst e';exact mH ⟨H,I,q⟩
 |int i =>
  obtain⟨t,rfl⟩:=rx;have e':k=(i != 0):=e;subst e';exact PySem.P.truthy_int ⟨H,I,q⟩
 |str y =>
  obtain⟨t,rfl⟩:=rx;obtain⟨hy,e'⟩:y.length<=sizeLine/\k=((y.length:Int) != 0):=e;subst e';exact PySem.P.truthy_str (by lia) ⟨H,I.tok _,q⟩
 |gh y =>
  obtain⟨t,rfl⟩:=rx;obtain⟨hy,e'⟩:y.size<=sizeLine/\k=((y.size:Int) != 0):=e;subst e';exact PySem.W.truthy_bytes (by lia) ⟨H,I.tok _,q⟩
 |ref p =>
  cases rx;have e':(∃xs,bg X.K H p xs/\k=!xs.isEmpty)∨(∃xs,bh X.K H p xs/\k=!xs.isEmpty)∨∃kvs,H p=some (.dK kvs)/\k=!kvs.isEmpty:=e;rcases e' with⟨xs,hx,e'⟩|⟨xs,hx,e'⟩|⟨kvs,hx,e'⟩
  ·subst e';obtain⟨its,r,pl,hz⟩:=I.list hx;have hlen:=r.length;exact wpAny_truthy_list pl.isList (by simp only[bU];lia) ⟨H,I.tok _,by rw[EA r];exact q⟩
  ·subst e';obtain⟨its,r,pl,hz⟩:=I.tuple hx;have hlen:=r.length;exact truthy_tuple pl (by simp only[bU];lia) ⟨H,I.tok _,by rw[EA r];exact q⟩
  ·subst e';obtain⟨hz,hS,vs,r,m⟩:kvs.length<=sizeLine/\(p==sysModules)=false/\∃vs,KV kvs vs/\s.heap.DictOf (eT X.prog X.w) p vs:=I.hok p _ hx;have hlen:kvs.length=vs.length:=Paired.length r;exact wpAny_truthy_dict hS m (by lia) ⟨H,I.tok _,by rw[PR r];exact q⟩
 |_=>exact(show False from e).elim
theorem PV(ha:PE X a ta)(he:∀whole,isTrue a X.env whole=(do let v <-whole;standAt a.pos;holding [v] (truthy v))) :
 PT X a (λσ H Q=>ta σ H λx H'=>∃k,yy X.K x H' k/\Q k H'):=show _ by
 intro pins s σ H Q I h;exact isTrue_plain (aF (ha pins s σ H _ I h) λv s1 yz=>by obtain⟨x,H1,I1,r1,q1⟩:=yz;exact PU pins s1 σ H1 x v Q I1 r1 q1) (he _)
theorem rT:cO X (binaryOp .Add) (λx y H Q=>∃i j,x=.str i/\y=.str j/\i.length+j.length<=sizeLine/\Q (.str (i++j)) H):=show _ by
 intro pins s σ H x y v u Q I rx ry h;obtain⟨i,j,rfl,rfl,hz,q⟩:=h;obtain⟨t,rfl⟩:=rx;obtain⟨t',rfl⟩:=ry;exact add_str (λt' tk=>⟨.str (i++j),H,I.tok _,⟨_,rfl⟩,q⟩) hz
theorem vals1{x:V}{us:List Value}(r:Vals [x] us):∃u,us=[u]/\RelV x u:=by
 cases r with
 |cons r1 r2=>cases r2;exact⟨_,rfl,r1⟩
theorem vals2{x y:V}{us:List Value}(r:Vals [x,y] us):∃u w',us=[u,w']/\RelV x u/\RelV y w':=by
 cases r with
 |cons r1 r2 =>
  cases r2 with
  |cons r3 r4=>cases r4;exact⟨_,_,rfl,r1,r3⟩
theorem PX(hc:X.calm=true):gE X (.builtin "max") (λxs H Q=>∃i j,xs=[.int i,.int j]/\Q (.int (if j>i then j else i)) H):=show _ by
 intro pins s σ H xs us Q I r h;obtain⟨i,j,rfl,q⟩:=h;obtain⟨u,w',rfl,⟨t,rfl⟩,⟨t',rfl⟩⟩:=vals2 r;refine max_two_ints (I.ok.hd hc) λh' tk k=>⟨_,H,I.kept k,?_,q⟩;by_cases hj:j>i
 ·rw[if_pos hj,if_pos hj];exact⟨_,rfl⟩
 ·rw[if_neg hj,if_neg hj];exact⟨_,rfl⟩
end
structure mY(h:Heap)(x dx C:Addr)(mA:Str->Option Value):Prop where
 obj:h.get? x=some (mG C dx)
 ns:h.Ns1 dx mA
 ne:dx≠x
theorem PY{h:Heap}{dx:Addr}{mA:Str->Option Value}(n:h.Ns1 dx mA):∃od,h.get? dx=some od/\∀name,xt name od=some (mA name):=show _ by
 obtain⟨o,es,ep,ho,hd,hk,_,hm⟩:=n;refine⟨o,ho,λname=>?_⟩;have e:=hm name;unfold nsFind findBy at e;rw[<-Array.find?_toList]at e;unfold xt;rw[hd];dsimp only
 split
 ·rename_i y q
  rw[q]at e;exact congrArg some e
 ·rename_i q
  rw[q]at e;have a:es.toList.any (·.refKey)=false:=by
   rw[List.any_eq_false];intro y hy;obtain⟨z,t,hkey⟩:=hk y (Array.mem_toList_iff.mp hy);simp[DictEntry.refKey,hkey]
  have a':¬es.toList.any (·.refKey)=true:=by rw[a];exact c7
  rw[if_neg a'];exact congrArg some e
theorem mY.look{h:Heap}{x dx C:Addr}{mA:Str->Option Value}(I:mY h x dx C mA):∃od,PySem.W.InstAt h x (mG C dx) C (some od)/\∀name,xt name od=some (mA name) :=
 let⟨od,ho,hl⟩:=PY I.ns
 ⟨od,⟨I.obj,rfl,rfl,ho⟩,hl⟩
section
variable{prog:Program}{w:World}{A:Around}{E:Value->Shared->Prop}{s:Shared}{K:PySem.W.Frag}{x dx C f:Addr}{mA:Str->Option Value}{name:Str}{v:Value}
theorem get_map{expr:Bool}{Q:Value->Shared->Prop}(X:K.In s.heap)(I:mY s.heap x dx C mA)(hg:ui K C name=true)(hh:xu K C=true)
 (ha:cM K (.ref C) name=some none) (hv:mA name=some v) (hv':MF v=true) (h:Q v {s with toks:=s.toks+1}) :
 wpAny (model prog w) A (getAttr (.ref x) name expr) Q E s:=show _ by
 obtain⟨od,J,hl⟩:=I.look;exact PySem.W.get_value X J (C3 hg).1 (PySem.W.findObj_own hh ha rfl (by rw[hl,hv])) hv' h
theorem PZ{pl:Sem Bool}{Q:Value×List Value->Shared->Prop}(X:K.In s.heap)(I:mY s.heap x dx C mA)(hg:ui K C name=true)
 (hf:cM K (.ref C) name=some (some (.ref f))) (ht:g0 K (.ref f)=true) (hv:mA name=none) (h:Q (.ref f,[.ref x]) s) :
 wpAny (model prog w) A (getMethod (.ref x) name pl) Q E s:=show _ by
 obtain⟨od,J,hl⟩:=I.look;exact PySem.W.method_fn X J (C3 hg).1 (C3 hg).2 hf (beq_iff_eq.mp ht) (by show(xt name od).map (·.isSome)=some false;rw[hl,hv];rfl) h
theorem P0{ns:List Str}{Q:Unit->Shared->Prop}(X:K.In s.heap)(I:mY s.heap x dx C mA)
 (hs:cM K (.ref C) "__setattr__"=some (some (.builtin "object.__setattr__"))) (hp:C4 K C=true) (ht:C5 K C name=some none) (hh:xu K C=true)
 (hw:CW mA ns) (hsz:ns.length<=sizeLine)
 (h:∀h',mY h' x dx C (λy=>if y=name then some v else mA y)->fF dx s.heap h'->Q () {s with heap:=h',toks:=s.toks+2}) :
 wpAny (model prog w) A (setAttr (.ref x) name v) Q E s:=show _ by
 obtain⟨od,J,hl⟩:=I.look;refine PySem.W.set_plain X J hs (PySem.W.osa_open (s:={s with toks:=s.toks+1}) (r:=none) X J hp ht λb=>?_);obtain⟨cd,hc,hd'⟩:=PySem.W.any_some hh;have hx:s.heap.get? x=some ⟨.ref C,some dx,.plain,#[]⟩:=I.obj;refine ai (aE (ai (ai (wpAny_loadPart hx (ai (aiD (s:={s with toks:=s.toks+1}) (PySem.W.looks_clsIn X hc) ?_))))));rw[hd'];refine aE (a:=some dx) (ai (aE (ai ?_)));refine wpAny_nsSet1 (s:={s with toks:=s.toks+1}) I.ns λh' hn2 hs2=>?_;obtain⟨oD,esD,epD,hoD,hdD,hcD⟩:=hn2.count (PySem.Within.cons name v hw);refine ai (wpAny_lookBehind hoD (by rw[hdD];exact pastItsLine_dict (cj hcD (by rw[bC];lia))) ?_);exact aE (h _ ⟨(hs2.2 _ (bw I.ne)).trans I.obj,hn2,I.ne⟩ hs2)
theorem P1{R:Result->Shared->Prop}{vs:List Value}{kw:List (Str×Value)}(X:K.In s.heap)(hm:uj K C=true)
 (hi:cM K (.ref C) "__init__"=some (some (.ref f))) (hf:PySem.W.typeIn K (.ref f)=some (.type "function"))
 (h:codeAny (model prog w) (A.under (.builtin "type.__call__" ⟨.ref C::vs,kw⟩)) (.call (.ref f) ⟨.ref (s.heap.objs.size+1)::vs,kw⟩) (PySem.W.InitBack (s.heap.objs.size+1) R)
  {s with heap:=(s.heap.push lB).push (mG C s.heap.objs.size)}) :
 codeAny (model prog w) A (.call (.ref C) ⟨vs,kw⟩) R s:=show _ by
 obtain⟨hh,g,d,t,os⟩:=s;exact PySem.W.make_core (PySem.W.makes_of X hm) (PySem.W.looks_findIn X hi) (λself=>PySem.W.bind_fn X self hf) (.inl rfl) h
end
def eA(f:Str)(v:V):List (Str×V)->List (Str×V)
 |[]=>[(f,v)]
 |(g,x)::r=>if g=f then(g,v)::r else(g,x)::eA f v r
theorem EB(f g:Str)(v:V):∀fs:List (Str×V),(eA f v fs).lookup g=if g=f then some v else fs.lookup g
 |[]=>by
  show g6 g [(f,v)]=_;by_cases h:g=f
  ·have hb:(g==f)=true:=beq_iff_eq.mpr h;simp only[g6,hb,if_pos h]
  ·have hb:(g==f)=false:=beq_eq_false_iff_ne.mpr h;simp only[g6,hb,if_neg h]
 |(k,x)::r=>by
  have ih:=EB f g v r;rw[show eA f v ((k,x)::r)=(if k=f then(k,v)::r else(k,x)::eA f v r) from rfl];by_cases hk:k=f
  ·rw[if_pos hk];by_cases h:g=k
   ·have hb:(g==k)=true:=beq_iff_eq.mpr h;simp only[g6,hb,if_pos (h.trans hk)]
   ·have hb:(g==k)=false:=beq_eq_false_iff_ne.mpr h;simp only[g6,hb,if_neg (λe:g=f=>h (e.trans hk.symm))]
  ·rw[if_neg hk];by_cases h:g=k
   ·have hb:(g==k)=true:=beq_iff_eq.mpr h;simp only[g6,hb,if_neg (λe:g=f=>hk (h.symm.trans e))]
   ·have hb:(g==k)=false:=beq_eq_false_iff_ne.mpr h;simp only[g6,hb];exact ih
theorem yA(f:Str)(v:V):∀fs:List (Str×V),f∈(eA f v fs).map (·.1)/\∀g,g∈fs.map (·.1)->g∈(eA f v fs).map (·.1)
 |[]=>⟨by simp[eA],λg h=>by simp at h⟩
 |(k,x)::r=>by
  obtain⟨i1,i2⟩:=yA f v r;rw[show eA f v ((k,x)::r)=(if k=f then(k,v)::r else(k,x)::eA f v r) from rfl];by_cases hk:k=f
  ·rw[if_pos hk];subst hk;exact⟨by simp,λg h=>by simpa using h⟩
  ·rw[if_neg hk];refine⟨?_,λg h=>?_⟩
   ·rw[bO];exact dk _ i1
   ·rw[bO]at h ⊢;rcases bF.mp h with e|e
    ·exact bF.mpr (.inl e)
    ·exact dk _ (i2 g e)
theorem EC(f:Str)(v:V):∀fs:List (Str×V),(eA f v fs).length<=fs.length+1
 |[]=>by simp[eA]
 |(k,x)::r=>by
  have ih:=EC f v r;rw[show eA f v ((k,x)::r)=(if k=f then(k,v)::r else(k,x)::eA f v r) from rfl];by_cases hk:k=f
  ·rw[if_pos hk,bC,bC];lia
  ·rw[if_neg hk,bC,bC];lia
theorem fI.some_of{v:V}{o:Option Value}(r:fI (some v) o):∃u,o=some u/\RelV v u:=by
 cases o with
 |none=>exact(show False from r).elim
 |some u=>exact⟨u,rfl,r⟩
theorem fI.none_of{o:Option Value}(r:fI none o):o=none:=by
 cases o with
 |none=>rfl
 |some u=>exact(show False from r).elim
theorem P2{v:V}{u:Value}(r:RelV v u):MF u=true:=show _ by
 cases v with
 |non=>cases (show u=Value.none from r);rfl
 |bl b=>cases (show u=Value.bool b from r);rfl
 |int i=>obtain⟨t,e⟩:=(show ∃t,u=Value.int i t from r);cases e;rfl
 |str x=>obtain⟨t,e⟩:=(show ∃t,u=Value.str x t from r);cases e;rfl
 |gh b=>obtain⟨t,e⟩:=(show ∃t,u=Value.bytes b t from r);cases e;rfl
 |flt b=>obtain⟨t,e⟩:=(show ∃t,u=Value.float b t from r);cases e;rfl
 |ref a=>cases (show u=Value.ref a from r);rfl
 |ty n=>cases (show u=Value.type n from r);rfl
section
variable{P:Program}{w:World}{H H':Hp}{h h':Heap}{a C dx:Addr}{fs fs':List (Str×V)}
theorem u6(hok:b9 P w H h)(e:H a=some (.ins C dx fs)):∃mA,mY h a dx C mA/\(∀f,fI (fs.lookup f) (mA f))/\CW mA (fs.map (·.1))/\fs.length<=1000/\H dx=some (.own a):=by
 obtain⟨d,z,ne,ob,mA,n,r,q⟩:=(show cG P w H h a (.ins C dx fs) from hok a _ e);exact⟨mA,⟨ob,n,ne⟩,r,q,z,d⟩
end
structure fT(K:ao)(C:Addr):Prop where
 pg:ui K C Str.empty=true
 hd:xu K C=true
 po:C4 K C=true
 sa:cM K (.ref C) "__setattr__"=some (some (.builtin "object.__setattr__"))
theorem fT.get{K:ao}{C:Addr}(c:fT K C)(f:Str):ui K C f=true:=c.pg
def fU(K:ao)(C:Addr)(f:Str):Prop:=cM K (.ref C) f=some none
theorem fU.taker{K:ao}{C:Addr}{f:Str}(n:fU K C f):C5 K C f=some none:=by
 unfold C5;rw[show cM K (.ref C) f=some none from n];rfl
structure Meth(K:ao)(C:Addr)(m:Str)(f:Addr):Prop where
 at_:cM K (.ref C) m=some (some (.ref f))
 fn:g0 K (.ref f)=true
 kp:a7 K (.ref f)=true
section
variable{X:Cx}{pins:List (Addr×Obj)}{σ:St}{H:Hp}{s:Shared}{a C dx:Addr}{fs:List (Str×V)}{f:Str}{v:V}{A:Around}{E:Value->Shared->Prop}
theorem P4{b:Bool}{Q:Value->Shared->Prop}(I:Inv X pins σ H s)(e:H a=some (.ins C dx fs))(c:fT X.K C)(n:fU X.K C f)(l:fs.lookup f=some v)
 (h:∀u s',Inv X pins σ H s'->RelV v u->Q u s'):wpAny (model X.prog X.w) A (getAttr (.ref a) f b) Q E s:=show _ by
 obtain⟨mA,O,r,_,_,_⟩:=u6 I.hok e;obtain⟨u,hu,ru⟩:=fI.some_of (v:=v) (o:=mA f) (by rw[<-l];exact r f);exact get_map I.cX O (c.get f) c.hd n hu (P2 ru) (h u _ (I.tok _) ru)
theorem ED{m:Str}{g:Addr}{pl:Sem Bool}{Q:Value×List Value->Shared->Prop}(I:Inv X pins σ H s)(e:H a=some (.ins C dx fs))(c:fT X.K C)(k:Meth X.K C m g)(l:fs.lookup m=none)
 (h:Q (.ref g,[.ref a]) s):wpAny (model X.prog X.w) A (getMethod (.ref a) m pl) Q E s:=show _ by
 obtain⟨mA,O,r,_,_,_⟩:=u6 I.hok e;have hn:mA m=none:=fI.none_of (by rw[<-l];exact r m);exact PZ I.cX O (c.get m) k.at_ k.fn hn h
theorem P5{y:V}{u:Value}{Q:Unit->Shared->Prop}(I:Inv X pins σ H s)(e:H a=some (.ins C dx fs))(c:fT X.K C)(n:fU X.K C f)(hl:fs.length<1000)(ry:RelV y u)
 (h:∀s',Inv X pins σ (upd H a (.ins C dx (eA f y fs))) s'->Q () s'):wpAny (model X.prog X.w) A (setAttr (.ref a) f u) Q E s:=show _ by
 obtain⟨mA,O,r,wi,_,ho⟩:=u6 I.hok e;have hz:(fs.map (·.1)).length<=sizeLine:=by rw[aB,xr];lia
 refine P0 I.cX O c.sa c.po n.taker c.hd wi hz λh' O' sb=>h _ ?_;have hd:∃o,h'.get? dx=some o:=let⟨o,_,_,e',_⟩:=O'.ns;⟨o,e'⟩
 refine I.write (x:=a) (e:=dx) (by rw[e];exact True.intro) (.inr ho) (λb q hb z=>(sb.2 b hb).trans z) hd ?_;refine⟨by rw[bf O.ne];exact ho,?_,O.ne,O'.obj,_,O'.ns,λg=>?_,λg hg=>?_⟩
 ·have:=EC f y fs;lia
 ·show fI ((eA f y fs).lookup g) (if g=f then some u else mA g);rw[EB];by_cases q:g=f
  ·rw[if_pos q,if_pos q];exact ry
  ·rw[if_neg q,if_neg q];exact r g
 ·by_cases q:g=f
  ·rw[q];exact(yA f y fs).1
  ·refine(yA f y fs).2 g (wi g λz=>hg ?_);show(if g=f then some u else mA g)=none;rw[if_neg q];exact z
theorem Inv.made(I:Inv X pins σ H s):Inv X pins σ (upd (upd H s.heap.objs.size (.own (s.heap.objs.size+1))) (s.heap.objs.size+1) (.ins C s.heap.objs.size []))
 {s with heap:=(s.heap.push lB).push (mG C s.heap.objs.size)}:=show _ by
 have e1:(s.heap.push lB).get? s.heap.objs.size=some lB:=c8 s.heap rfl;have e2:((s.heap.push lB).push (mG C s.heap.objs.size)).get? (s.heap.objs.size+1)=some (mG C s.heap.objs.size):=by
  have:=c8 (s.heap.push lB) (o:=mG C s.heap.objs.size) rfl;rwa[g9]at this
 have e3:(s.heap.push lB).Ns s.heap.objs.size (λ_=>none):=⟨lB,#[],_,e1,rfl,(λe he=>absurd he (by simp)),λ_=>rfl⟩;have I1:=I.laid (a:=s.heap.objs.size) (o:=.own (s.heap.objs.size+1)) (h':=s.heap.push lB) (t':=s.toks) (λb u q=>bx _ q) (aV _) ⟨_,e1⟩;refine I1.laid (a:=s.heap.objs.size+1) (o:=.ins C s.heap.objs.size []) (t':=s.toks) (λb u q=>bx _ q) (Nat.le_of_eq (g9 _ _)) ?_;have ne:s.heap.objs.size≠s.heap.objs.size+1:=cW (xw _);refine⟨by rw[bf ne,dm],b8 _,ne,e2,λ_=>none,(Heap.Ns1.of_empty e3).at λo q=>bx _ q,λ_=>True.intro,λy hy=>absurd rfl hy⟩
theorem P6{prog:Program}{w:World}{env:Env}{e:Expr}{f:Str}{pos:Pos}{s:Shared}{Q:Value->Shared->Prop}(hb:attributeBase e f env (eval e env)=eval e env)
 (h:wpAny (model prog w) A (eval e env) (λo s₁=>wpAny (model prog w) A (getAttr o f true) Q E s₁) E s):wpAny (model prog w) A (eval (.Attribute e f pos) env) Q E s :=
 Attribute_any_ h (by rw[arm_eval_Attribute,hb])
end
def P7(K:ao)(ta:TE)(f:Str):TE:=λσ H Q=>ta σ H λx H1=>∃a C dx fs v,x=.ref a/\H1 a=some (.ins C dx fs)/\fT K C/\fU K C f/\fs.lookup f=some v/\Q v H1
def P8(K:ao)(ta tv:TE)(f:Str):TS:=λD σ H=>tv σ H λy H1=>ta σ H1 λx H2=>∃a C dx fs,x=.ref a/\H2 a=some (.ins C dx fs)/\fT K C/\fU K C f/\fs.length<1000 /\
 D.nx σ (upd H2 a (.ins C dx (eA f y fs)))
section
variable{X:Cx}{o e value:Expr}{f:Str}{pos pos' tpos:Pos}{ta tv:TE}
theorem P9(he:PE X e ta)(hb:attributeBase e f X.env (eval e X.env)=eval e X.env):PE X (.Attribute e f pos) (P7 X.K ta f):=show _ by
 intro pins s σ H Q I h;refine P6 hb (aF (he pins s σ H _ I h) λu s1 ⟨x,H1,I1,rx,a,C,dx,fs,v,ex,ea,c,n,l,q⟩=>?_);subst ex;obtain rfl:u=Value.ref a:=rx;exact P4 I1 ea c n l λu' s2 I2 ru=>⟨v,H1,I2,ru,q⟩
theorem P_(ha:PE X o ta)(hv:PE X value tv)(hs:swapsWith value (some (.Attribute o f pos')) pos.line X.env=pure false):PS X (.Assign [.Attribute o f pos'] value pos) (P8 X.K ta tv f):=show _ by
 intro pins s σ H D I h;refine plainObj_wpAny_Assign_Attribute (aF (hv pins s σ H _ I h) λu s1 ⟨y,H1,I1,ry,q⟩=>aF (ha pins s1 σ H1 _ I1 q) λov s2 ⟨x,H2,I2,rx,a,C,dx,fs,ex,ea,c,n,l,q2⟩=>?_) hs;subst ex;obtain rfl:ov=Value.ref a:=rx;exact P5 I2 ea c n l ry λs3 I3=>⟨σ,_,I3,q2⟩
end
section
variable{X:Cx}{pins:List (Addr×Obj)}{σ:St}{H:Hp}{s:Shared}{A:Around}{E:Value->Shared->Prop}{Q:Value->Shared->Prop}{c:Value}{b:Bool}
inductive gF(K:ao)(H:Hp):V->Value->Prop where
 |non:gF K H .non (.type "NoneType")
 |bl (x:Bool):gF K H (.bl x) (.type "bool")
 |int (i:Int):gF K H (.int i) (.type "int")
 |str (x:Str):gF K H (.str x) (.type "str")
 |flt (x:UInt64):gF K H (.flt x) (.type "float")
 |lst {a:Addr} {xs:List V} (e:H a=some (.lst xs)):gF K H (.ref a) (.type "list")
 |dB {a:Addr} {o:Obj} {xs:List V} (e:H a=some (.dB o (.lst xs))):gF K H (.ref a) (.type "list")
 |tup {a:Addr} {xs:List V} (e:H a=some (.tup xs)):gF K H (.ref a) (.type "tuple")
 |dK {a:Addr} {kvs:List (Key×V)} (e:H a=some (.dK kvs)):gF K H (.ref a) (.type "dict")
 |dT {a:Addr} {kvs:List (DK×V)} (e:H a=some (.dT kvs)):gF K H (.ref a) (.type "dict")
 |ins {a C dx:Addr} {fs:List (Str×V)} (e:H a=some (.ins C dx fs)) (cl:fT K C) (ha:cM K (.ref C) "__class__"=some (some (.builtin "object.__class__")))
  (hn:MG K (.builtin "object.__class__") "__get__"=some (some (.builtin "getset_descriptor.__get__"))) (htk:MH K (.builtin "object.__class__")=some true)
  (hm:C6 K C (.type "object")=some true):gF K H (.ref a) (.ref C)
theorem Qa{x:V}{u t:Value}(I:Inv X pins σ H s)(rx:RelV x u)(ty:gF X.K H x t)(e:mK X.K t c=some b)(h:∀tk,Q (.bool b) {s with toks:=tk}) :
 wpAny (model X.prog X.w) A (call (.builtin "isinstance") [u,c]) Q E s:=show _ by
 cases ty with
 |non=>cases (show u=Value.none from rx);exact g_ PySem.W.kitx_none I.cX True.intro e (λz=>nomatch z) h
 |bl y=>cases (show u=Value.bool y from rx);exact g_ PySem.W.kitx_bool I.cX True.intro e (λz=>nomatch z) h
 |int i=>obtain⟨t,q⟩:=(show ∃t,u=Value.int i t from rx);cases q;exact g_ PySem.W.kitx_int I.cX True.intro e (λz=>nomatch z) h
 |str y=>obtain⟨t,q⟩:=(show ∃t,u=Value.str y t from rx);cases q;exact g_ PySem.W.kitx_str I.cX True.intro e (λz=>nomatch z) h
 |flt y=>obtain⟨t,q⟩:=(show ∃t,u=Value.float y t from rx);cases q;exact g_ PySem.W.kitx_float I.cX True.intro e (λz=>nomatch z) h
 |@lst a xs ea =>
  cases (show u=Value.ref a from rx);obtain⟨_,_,n,_,h1⟩:=(show cG X.prog X.w H s.heap a (.lst xs) from I.hok a _ ea);exact g_ C7 I.cX ⟨_,h1,rfl⟩ e (λz=>nomatch z) h
 |@dB a ob xs ea =>
  cases (show u=Value.ref a from rx);obtain⟨_,_,_,n,_,h1⟩:=(show cG X.prog X.w H s.heap a (.dB ob (.lst xs)) from I.hok a _ ea);exact g_ C7 I.cX ⟨_,h1,rfl⟩ e (λz=>nomatch z) h
 |@tup a xs ea =>
  cases (show u=Value.ref a from rx);obtain⟨_,_,_,p,_⟩:=(show cG X.prog X.w H s.heap a (.tup xs) from I.hok a _ ea);obtain⟨o,h1,h2,_⟩:=p;exact g_ MI I.cX ⟨o,h1,h2⟩ e (λz=>nomatch z) h
 |@dK a kvs ea =>
  cases (show u=Value.ref a from rx);obtain⟨_,_,vs,_,p⟩:=(show cG X.prog X.w H s.heap a (.dK kvs) from I.hok a _ ea);obtain⟨o,es,ep,h1,h2,_⟩:=p;exact g_ MJ I.cX ⟨o,h1,h2.1⟩ e (λz=>nomatch z) h
 |@dT a kvs ea =>
  cases (show u=Value.ref a from rx);obtain⟨_,_,xs,_,o,es,ep,h1,h2,_⟩:=(show cG X.prog X.w H s.heap a (.dT kvs) from I.hok a _ ea);exact g_ MJ I.cX ⟨o,h1,h2.1⟩ e (λz=>nomatch z) h
 |@ins a C dx fs ea cl ha hn htk hm =>
  cases (show u=Value.ref a from rx);obtain⟨mA,O,_⟩:=u6 I.hok ea;obtain⟨od,J,_⟩:=O.look;exact g_ (PySem.W.kitx_own (cl.get _) cl.hd ha hn htk hm) I.cX J e (λz=>nomatch z) h
end
structure bR(k:Nat)(A:Around):Prop where
 hd:A.handled=none
 dp:A.depth+3*k+5<recursionLimit
 un:A.units+16*k+200<cLine
theorem bR.mono{j k:Nat}{A:Around}(r:bR k A)(h:j<=k):bR j A:=⟨r.hd,by have:=r.dp;lia,by have:=r.un;lia⟩
theorem bR.deeper{k:Nat}{A:Around}(r:bR (k+1) A)(env:Env):bR k (A.deeper env) :=
 ⟨r.hd,by have:=r.dp;show A.depth+1+3*k+5<_;lia,by have:=r.un;show A.units+3+16*k+200<_;lia⟩
theorem Qb{A:Around}{C:Addr}{us:List Value}{kw:List (Str×Value)}:(A.under (.builtin "type.__call__" ⟨.ref C::us,kw⟩)).depth=A.depth+1:=by
 first|rfl|simp[C8,Code.weight,Code.isCreation,Code.isGuard,Code.isCaller,Code.frames,C9,guardIds]
theorem Qc{A:Around}{C:Addr}{us:List Value}{kw:List (Str×Value)}:(A.under (.builtin "type.__call__" ⟨.ref C::us,kw⟩)).units=A.units+1:=by
 first|rfl|simp[C8,Code.cUnits,Code.frames,C9]
theorem bR.make{k:Nat}{A:Around}(r:bR (k+1) A)(C:Addr)(us:List Value)(kw:List (Str×Value)):bR k (A.under (.builtin "type.__call__" ⟨.ref C::us,kw⟩)) :=
 ⟨r.hd,by have:=r.dp;rw[Qb];lia,by have:=r.un;rw[Qc];lia⟩
theorem bR.depth{k:Nat}{A:Around}(r:bR k A):A.depth<recursionLimit:=by have:=r.dp;lia
theorem bR.units{k:Nat}{A:Around}(r:bR k A):A.units+64<cLine:=by have:=r.un;lia
def Qd:TA:=λ_ H Q=>Q [] H
def Qf(ta:TE)(tr:TA):TA:=λσ H Q=>ta σ H λx H1=>tr σ H1 λxs H2=>Q (x::xs) H2
section
variable{X:Cx}{e:Expr}{es:List Expr}{te:TE}{t:TA}{pos:Pos}
theorem Qg:PA X [] Qd:=λ_ _ _ _ H Q I h=>MK ⟨[],H,I,.nil,h⟩
theorem Qh(ha:PE X e te)(hr:PA X es t)(hs:starEach (e::es) X.env=(false,eval e X.env)::starEach es X.env:=by rfl):PA X (e::es) (Qf te t):=show _ by
 intro pos pins s σ H Q I h;rw[hs];show wpAny _ _ (spliced ((false,eval e X.env)::backTo pos (starEach es X.env))) _ _ s;refine ML (aF (ha pins s σ H _ I h) λu s1 ⟨x,H1,I1,r1,q1⟩=>?_);exact aF (hr pos pins s1 σ H1 _ I1 q1) λus s2 rU=>by obtain⟨xs,H2,I2,r2,q2⟩:=rU;exact⟨x::xs,H2,I2,.cons r1 r2,q2⟩
def Qi(t:TA):TE:=λσ H Q=>t σ H λxs H1=>xs.length<=sizeLine/\∀p,H1 p=none->Q (.ref p) (upd H1 p (.tup xs))
def Qj(t:TA):TE:=λσ H Q=>t σ H λxs H1=>xs.length<=sizeLine/\∀p,H1 p=none->Q (.ref p) (upd H1 p (.lst xs))
theorem Qk{x1}(h:PA X es t):PE X (.Tuple es x1 pos) (Qi t):=show _ by
 intro pins s σ H Q I hq;refine wpAny_Tuple_spliced (aF (h pos pins s σ H _ I hq) λus s1 ⟨xs,H1,I1,r,z,q⟩=>⟨by rw[<-r.length];exact z,?_⟩);have hf:H1 s1.heap.objs.size=none:=I1.hok.fresh (aV _);refine⟨.ref s1.heap.objs.size,upd H1 s1.heap.objs.size (.tup xs),I1.laid (t':=s1.toks) (λb u e=>bx _ e) (aV _) ?_,rfl,q _ hf⟩;exact⟨z,us,r,⟨_,c8 _ rfl,rfl,_,rfl⟩,λo q=>by rw[c8 _ rfl]at q;cases q;rfl⟩
theorem Ql(h:PA X es t):PE X (.List es pos) (Qj t):=show _ by
 intro pins s σ H Q I hq;refine wpAny_List_spliced (aF (h pos pins s σ H _ I hq) λus s1 ⟨xs,H1,I1,r,z,q⟩=>⟨by rw[<-r.length];exact z,?_⟩);have hf:H1 s1.heap.objs.size=none:=I1.hok.fresh (aV _);refine⟨.ref s1.heap.objs.size,upd H1 s1.heap.objs.size (.lst xs),I1.laid (t':=s1.toks) (λb u e=>bx _ e) (aV _) ?_,rfl,q _ hf⟩;exact⟨z,us,0,r,c8 _ rfl⟩
end
abbrev Sp:=List V->Hp->VK->XK->Prop
abbrev fV:=List Env->Hp->Shared->XK->Value->Shared->Prop
structure mZ(P:Program)(w:World)(K:ao)(mg:Str->Option Value)(base:Heap)(A:Around)(outer:List Env)(s:Shared)(H:Hp):Prop where
 frames:A.frames=some outer
 mod:Mod K mg base
 bs:∀b o,base.get? b=some o->s.heap.get? b=some o/\H b=none
 gD:base.objs.size<=s.heap.objs.size
 fi:s.heap.FunFrames base outer
 iH:∀b∈frs outer,H b=none
 hok:b9 P w H s.heap
 bare:AllBare s.gens
def CE(outer:List Env)(P:Program)(w:World)(H:Hp)(s:Shared)(Q:VK)(u:Value)(s':Shared):Prop :=
 ∃v H',s'.os=s.os/\AllBare s'.gens/\Un (frs outer) [] H H' s.heap s'.heap/\b9 P w H' s'.heap/\RelV v u/\Q v H'
def CR(CX:fV)(outer:List Env)(P:Program)(w:World)(H:Hp)(s:Shared)(Q:VK)(E:XK)(r:Result)(s':Shared):Prop :=
 match r with
 | .ok (.ret u)=>CE outer P w H s Q u s'
 | .ok _=>False
 | .error e=>CX outer H s E e s'
structure dj(P:Program)(w:World)(K:ao)(mg:Str->Option Value)(base:Heap)(CX:fV)(k:Nat)(f:Addr)(fd:FuncData)(ps:List Str)(sp:Sp):Prop where
 len:∀vs H Q E,sp vs H Q E->vs.length=ps.length
 run:∀(A:Around) (outer:List Env) (s:Shared) (H:Hp) (args:Args) (us:List Value) (vs:List V) (Q:VK) (E:XK),bR k A->mZ P w K mg base A outer s H->BindsTo s fd args (ps.zip us)->Vals vs us->sp vs H Q E ->
  codeAny (model P w) A (.call (.ref f) args) (CR CX outer P w H s Q E) s
theorem dj.mono{P:Program}{w:World}{K:ao}{mg:Str->Option Value}{base:Heap}{CX:fV}{j k:Nat}{f:Addr}{fd:FuncData}{ps:List Str}{sp:Sp}(F:dj P w K mg base CX j f fd ps sp)(h:j<=k) :
 dj P w K mg base CX k f fd ps sp:=⟨F.len,λA outer s H args us vs Q E hr=>F.run A outer s H args us vs Q E (hr.mono h)⟩
theorem dj.imp{P:Program}{w:World}{K:ao}{mg:Str->Option Value}{base:Heap}{CX:fV}{k:Nat}{f:Addr}{fd:FuncData}{ps:List Str}{sp gG:Sp}(F:dj P w K mg base CX k f fd ps sp)
 (h:∀vs H Q E,gG vs H Q E->sp vs H Q E):dj P w K mg base CX k f fd ps gG :=
 ⟨λvs H Q E q=>F.len vs H Q E (h _ _ _ _ q),λA outer s H args us vs Q E hr he hb hv hs=>F.run A outer s H args us vs Q E hr he hb hv (h _ _ _ _ hs)⟩
theorem mZ.make{P:Program}{w:World}{K:ao}{mg:Str->Option Value}{base:Heap}{A:Around}{outer:List Env}{s:Shared}{H:Hp}(e:mZ P w K mg base A outer s H)(C:Addr)(us:List Value)(kw:List (Str×Value)) :
 mZ P w K mg base (A.under (.builtin "type.__call__" ⟨.ref C::us,kw⟩)) outer s H:=⟨by first|exact e.frames|(simpa[C8,Code.envs,C9,pushEnvs]using e.frames),e.mod,e.bs,e.gD,e.fi,e.iH,e.hok,e.bare⟩
section
variable{X:Cx}{pins:List (Addr×Obj)}{σ:St}{H:Hp}{s s':Shared}
theorem Inv.env0(I:Inv X pins σ H s):mZ X.prog X.w X.K X.mg X.base X.A X.stack s H :=
 ⟨I.ok.frames,I.ok.mod,I.bs,cj I.ok.gD I.sz,I.stack,I.uO,I.hok,I.bare⟩
theorem Inv.after{Q:VK}{u:Value}(I:Inv X pins σ H s)(h:CE X.stack X.prog X.w H s Q u s'):EP X pins σ Q u s':=show _ by
 obtain⟨v,H',os,bare,un,hok,r,q⟩:=h;obtain⟨hh,g,d,t,os'⟩:=s';obtain rfl:os'=s.os:=os;exact⟨v,H',I.call (h':=hh) (g':=g) (d':=d) (t':=t) (ch:=[]) un hok bare (λb z=>absurd z (by simp)),r,q⟩
end
def Binds(K:ao)(fd:FuncData)(ps:List Str)(ds:List Value):Prop :=
 ∀(s:Shared) (us:List Value),K.In s.heap->(us++ds).length=ps.length->BindsTo s fd ⟨us,[]⟩ (ps.zip (us++ds))
theorem Binds.all{K:ao}{fd:FuncData}{ps:List Str}(h:∀us:List Value,us.length=ps.length->bindArgs fd ⟨us,[]⟩=pure (ps.zip us)):Binds K fd ps []:=λs us _ hl=>by
 rw[f_]at hl ⊢;exact .of_eq (h us hl)
def Passes(CX:fV)(X:Cx)(E:XK):Prop:=∀(pins:List (Addr×Obj)) (σ:St) (H:Hp) (s:Shared) (e:Value) (s':Shared),Inv X pins σ H s->CX X.stack H s E e s'->X.xe e s'
section
variable{X:Cx}{CX:fV}{k:Nat}{f C:Addr}{fd:FuncData}{ps:List Str}{sp:Sp}{rV:List V}{ds:List Value}{E:XK}{x m:Str}{p pos apos:Pos}{e o:Expr}{es:List Expr}{ta:TE}{t:TA}
structure Mk(K:ao)(C f:Addr):Prop where
 makes:uj K C=true
 init:cM K (.ref C) "__init__"=some (some (.ref f))
 fn:g0 K (.ref f)=true
 kp:a7 K (.ref C)=true
end
structure aW(N P:List Str)(sc:Scope):Prop where
 kind:sc.kind=.function
 co:sc.isCoroutine=false
 gen:sc.isGenerator=false
 nd:N.Nodup
 pre:N.take P.length=P
 par:∀x∈P,sc.names.lookup x=some .local∨sc.names.lookup x=some .cell
 Qm:∀y∈sc.names,y.2≠.free
theorem EF{kindOf:Str->Option NameKind}{x:Str}:∀{binds:List (Str×Value)} {m:Str->Option Value},(∀v,(x,v)∉binds)->bindL kindOf binds m x=m x
 |[],_,_=>rfl
 |(n,v)::r,m,h=>by
  unfold bindL;rw[EF λw hw=>h w (dk _ hw)]
  split
  ·have:x≠n:=by rintro rfl;exact h v df
   simp[this]
  ·rfl
theorem EG{kindOf:Str->Option NameKind}{x:Str}:∀{binds:List (Str×Value)} {m:Str->Option Value},(∀v,(x,v)∉binds)->bindC kindOf binds m x=m x
 |[],_,_=>rfl
 |(n,v)::r,m,h=>by
  unfold bindC;rw[EG λw hw=>h w (dk _ hw)]
  split
  ·rfl
  ·have:x≠n:=by rintro rfl;exact h v df
   simp[this]
theorem EH{kindOf:Str->Option NameKind}{x:Str}{v:Value}:∀{P:List Str} {vs:List Value} {i:Nat} {m:Str->Option Value},P.Nodup->P[i]?=some x->vs[i]?=some v->kindOf x=some .local ->
 bindL kindOf (P.zip vs) m x=some v
 |[],_,_,_,_,h,_,_=>by simp at h
 |_::_,[],_,_,_,_,h,_=>by simp at h
 |p::P,w::vs,0,m,nd,h1,h2,hk=>by
  simp at h1 h2;subst h1;subst h2;show bindL kindOf ((p,w)::P.zip vs) m p=_;unfold bindL;rw[EF λv hv=>(jf.mp nd).1 (C_ hv).1,if_pos hk];simp
 |p::P,w::vs,i+1,m,nd,h1,h2,hk=>by
  show bindL kindOf ((p,w)::P.zip vs) m x=_;unfold bindL;exact EH (i:=i) (jf.mp nd).2 (by simpa using h1) (by simpa using h2) hk
theorem EI{kindOf:Str->Option NameKind}{x:Str}{v:Value}:∀{P:List Str} {vs:List Value} {i:Nat} {m:Str->Option Value},P.Nodup->P[i]?=some x->vs[i]?=some v->kindOf x≠some .local ->
 bindC kindOf (P.zip vs) m x=some v
 |[],_,_,_,_,h,_,_=>by simp at h
 |_::_,[],_,_,_,_,h,_=>by simp at h
 |p::P,w::vs,0,m,nd,h1,h2,hk=>by
  simp at h1 h2;subst h1;subst h2;show bindC kindOf ((p,w)::P.zip vs) m p=_;unfold bindC;rw[EG λv hv=>(jf.mp nd).1 (C_ hv).1,if_neg hk];simp
 |p::P,w::vs,i+1,m,nd,h1,h2,hk=>by
  show bindC kindOf ((p,w)::P.zip vs) m x=_;unfold bindC;exact EI (i:=i) (jf.mp nd).2 (by simpa using h1) (by simpa using h2) hk
def start(N:List Str)(vs:List V):St:=vs.map some++fH (N.length-vs.length) none
def cY(CX:fV)(P:Program)(w:World)(K:ao)(mg:Str->Option Value)(base:Heap)(N:List Str)(qual:Str)(scope:Scope)(f:Addr)(cd:Value)(A:Around)(outer:List Env)(s:Shared)(H:Hp)(E:XK):Cx where
 prog:=P
 w:=w
 K:=K
 mg:=mg
 base:=base
 A:=A.deeper (envOfC qual scope s.heap.objs.size f cd)
 N:=N
 s₀:=s
 H₀:=H
 env:=envOfC qual scope s.heap.objs.size f cd
 outer:=outer
 stack:=envOfC qual scope s.heap.objs.size f cd::outer
 ex:=[]
 calm:=true
 fn:=λ_=>true
 pn:=[]
 xe:=λe s'=>wpAny (model P w) (A.deeper (envOfC qual scope s.heap.objs.size f cd)) (leaving (envOfC qual scope s.heap.objs.size f cd) e) (λ_ s''=>CX outer H s E e s'') (λe' s''=>CX outer H s E e' s'') s'
theorem EJ{sc:Scope}{n:Nat}{x:Str}(h:sc.names.lookup x=some .cell):∃c,(cellsFrom n sc.names []).lookup x=some c:=by
 have q:=xx sc.names n [] (.inl h);exact Dd.mp q
theorem Qn{CX:fV}{P:Program}{w:World}{K:ao}{mg:Str->Option Value}{base:Heap}{N ps:List Str}{qual:Str}{scope:Scope}{f:Addr}{cd:Value}{A:Around}{outer:List Env}{s s1:Shared}{H:Hp}{E:XK}{us:List Value}{vs:List V}
 (S:aW N ps scope) (hd:A.handled=none) (e0:mZ P w K mg base A outer s H) (hl:vs.length=ps.length) (r:Vals vs us)
 (x:InCallC s s.heap.objs.size (bindL (envOfC qual scope s.heap.objs.size f cd).kindOf (ps.zip us) λ_=>none) (cellsFrom (s.heap.objs.size+1) scope.names []) (bindC (envOfC qual scope s.heap.objs.size f cd).kindOf (ps.zip us) λ_=>none) s1) :
 Inv (cY CX P w K mg base N qual scope f cd A outer s H E) [] (start N vs) H s1:=show _ by
 have hpl:ps.length<=N.length:=by have:=congrArg j0 S.pre;rw[dN]at this;lia
 obtain⟨h1,tk,rfl,hk⟩:=x.done;have rW:∀b:Addr,b∉(cY CX P w K mg base N qual scope f cd A outer s H E).ex:=λb z=>absurd (show b∈([]:List Addr) from z) (by simp);refine⟨⟨e0.mod,S.kind,rfl,rfl,aV _,λy z c h1 h2=>?_,λy hy=>?_,λy c _ h=>?_,λ_=>hd,Around.frames_deeper e0.frames,.inr ⟨rfl,rfl⟩,λb z=>absurd z (rW b),e0.bs,e0.gD,λb _ _=>rW b,λb z=>absurd z (rW b),e0.fi,e0.iH⟩,
  rfl,e0.bare,Un.kept hk,⟨_,x.toInCall.ns,λi y v h1 h2 h3=>?_⟩,λy c h=>⟨_,x.cell y c h⟩,e0.hok.fresh (aV _),λy c h=>?_,λp hp=>absurd (show p∈([]:List (Addr×Obj)) from hp) (by simp),e0.hok.kept hk,?_⟩
 ·exact name_of_addr x.apart (jg h1) (jg h2)
 ·have hy:scope.names.lookup y=some .cell∨scope.names.lookup y=some .free:=hy;rcases hy with hy|hy
  ·exact EJ hy
  ·exact absurd rfl (S.Qm _ (jg hy))
 ·exact oJ (x.above y c (jg h))
 ·have hi:i<vs.length:=by
   unfold start at h2;by_cases hi:i<vs.length
   ·exact hi
   ·rw[rm (by simpa using hi)]at h2;rw[MM]at h2
    split at h2<;>cases h2
  have ha:vs[i]?=some v:=by
   unfold start at h2;rw[oM (by simpa using hi),aS]at h2;cases e:vs[i]? with
   |none=>rw[e]at h2;cases h2
   |some a=>rw[e]at h2;cases h2;rfl
  obtain⟨u,hu,rv⟩:=r.get ha;have hp:ps[i]?=some y:=by
   rw[<-S.pre,MN (by lia)];exact h1
  have EK:ps.Nodup:=by rw[<-S.pre];exact S.nd.sublist (MO _ _)
  refine⟨u,rv,?_⟩;rcases S.par y (dg hp) with k|k
  ·exact .inl ⟨k,EH EK hp hu k⟩
  ·obtain⟨c,e⟩:=EJ (n:=s.heap.objs.size+1) k;refine .inr ⟨.inl k,c,e,?_⟩;have q:=x.cell y c e;rw[EI EK hp hu (by show scope.names.lookup y≠_;rw[k];decide)]at q;exact q
 ·exact e0.hok.fresh (oJ (x.above y c (jg h)))
 ·unfold start;show _=N.length;rw[aU,aB,MP];lia
theorem u7{CX:fV}{P:Program}{w:World}{K:ao}{mg:Str->Option Value}{base:Heap}{k:Nat}{f:Addr}{name qual:Str}{params:Arguments}{body:List Stmt}{scope:Scope}{dV kV doc pm cdv ct oc:Value}{an od:Option Addr}
 {osl:Array (Option Value)} {N ps:List Str} {sp:Sp} (lk:K.lookup f=some ⟨oc,od,.func (a8 name qual params body scope dV kV doc pm an cdv ct),osl⟩) (hcd:bt K cdv qual=true) (S:aW N ps scope)
 (len:∀vs H Q E,sp vs H Q E->vs.length=ps.length)
 (hbody:∀(A:Around) (outer:List Env) (s:Shared) (H:Hp) (vs:List V) (Q:VK) (E:XK),bR k (A.deeper (envOfC qual scope s.heap.objs.size f cdv))->sp vs H Q E ->
  ∃t,eU (cY CX P w K mg base N qual scope f cdv A outer s H E) body t/\t {nx:=λ_ H'=>Q .non H',rt:=Q} (start N vs) H) :
 dj P w K mg base CX (k+1) f (a8 name qual params body scope dV kV doc pm an cdv ct) ps sp:=show _ by
 refine⟨len,λA outer s H args us vs Q E hr e0 hb r hsp=>?_⟩;have hl:=len _ _ _ _ hsp;have KX:K.In s.heap:=e0.mod.gC.keeps λb o e=>(e0.bs b o e).1;have lim:s.heap.NoLimit:=e0.mod.nolimit.keeps λb o e=>(e0.bs b o e).1;have hkind:∀y∈ps.zip us,scope.names.lookup y.1=some .local∨(scope.names.lookup y.1=some .cell/\((cellsFrom (s.heap.objs.size+1) scope.names []).lookup y.1).isSome=true):=λrX hy=>by
  obtain⟨n,v⟩:=rX;rcases S.par n (C_ hy).1 with q|q
  ·exact .inl q
  ·exact .inr ⟨q,xx _ _ _ (.inl q)⟩
 refine codeAny_call_function hr.depth (KX _ _ lk) rfl S.co S.gen rfl (PySem.W.codeRec_of KX hcd) (hb _ _ _ _ ?_);refine wpAny_newFunctionEnv_cells S.kind hkind λenv he s1 x=>?_;subst he;refine⟨lim.keeps x.toInCall.keep,codeAny_func ?_⟩;obtain⟨t,ht,hq⟩:=hbody A outer s H vs Q E (hr.deeper _) hsp;have I:Inv (cY CX P w K mg base N qual scope f cdv A outer s H E) [] (start N vs) H s1:=Qn S hr.hd e0 hl r x;refine eZ (ht [] s1 (start N vs) H _ I hq) (λfl s' hs=>?_) λe s' hs=>hs;have fin:∀{σ':St} {H':Hp} {v:V} {u:Value},Inv (cY CX P w K mg base N qual scope f cdv A outer s H E) [] σ' H' s'->RelV v u->Q v H'->CE outer P w H s Q u s' :=
  λ{σ' H' v u} J rv q=>⟨v,H',J.os,J.bare,J.base,J.hok,rv,q⟩
 cases fl with
 |ret u =>
  obtain⟨v,σ',H',J,rv,q⟩:=hs;exact fin J rv q
 |next =>
  obtain⟨σ',H',J,q⟩:=hs;exact fin (v:=V.non) (u:=Value.none) J rfl q
 |brk =>
  obtain⟨_,_,_,q⟩:=hs;exact eI q
 |cont =>
  obtain⟨_,_,_,q⟩:=hs;exact eI q
section
variable{X:Cx}{x:Str}{p pos:Pos}{e:Expr}{es:List Expr}{t:TA}{id T:String}{r:List V->Hp->VK->Prop}
def yB(r:List V->Hp->VK->Prop)(t:TA):TE:=λσ H Q=>t σ H λvs H1=>r vs H1 Q
theorem Qo(hc:gE X (.builtin id) r)(hg:Gl X x)(hm:X.mg x=none)(hv:bootBuiltins x=some (.builtin id))(ha:PA X (e::es) t)(hn:x≠"__name__":=by decide)(hdb:(x==("__debug__":Str))=false:=by decide)
 (he:starEach (e::es) X.env=(false,eval e X.env)::starEach es X.env:=by rfl) (hpl:(backTo pos (starEach es X.env)).any (·.1)=false:=by rfl):PE X (.Call (.Name x p) (e::es) [] pos) (yB r t):=show _ by
 intro pins s σ H Q I h;refine xy (jr I hg hm hv ?_ hn hdb);exact PyProof.Rows.callWith_builtin1 (aF (ha pos pins s σ H _ I h) λus s1 rY=>by obtain⟨vs,H1,I1,r1,q1⟩:=rY;exact hc pins s1 σ H1 vs us Q I1 r1 q1) he hpl
theorem Qp(hc:gE X (.type T) r)(hg:Gl X x)(hm:X.mg x=none)(hv:bootBuiltins x=some (.type T))(ha:PA X (e::es) t)(hn:x≠"__name__":=by decide)(hdb:(x==("__debug__":Str))=false:=by decide)
 (he:starEach (e::es) X.env=(false,eval e X.env)::starEach es X.env:=by rfl) (hpl:(backTo pos (starEach es X.env)).any (·.1)=false:=by rfl):PE X (.Call (.Name x p) (e::es) [] pos) (yB r t):=show _ by
 intro pins s σ H Q I h;refine xy (jr I hg hm hv ?_ hn hdb);exact mJ (aF (ha pos pins s σ H _ I h) λus s1 rZ=>by obtain⟨vs,H1,I1,r1,q1⟩:=rZ;exact hc pins s1 σ H1 vs us Q I1 r1 q1) he hpl
end
end L2
namespace HT
open PySem PyProof.Rows
section
open PySem.SeqAt
open PySem.AutoSeq1 (wpAny_loadPart')
open PySem.MeetsSeq PySem.MeetsSeq2 PySem.MeetsSeq3
end
section
variable{prog:Program}{w:World}{A:Around}{E:Value->Shared->Prop}{s:Shared}
theorem Qq{t b:Addr}{vs ws:List Value}{Q:Value->Shared->Prop}(ht:IsTup s.heap t vs.toArray)(hb:IsTup s.heap b ws.toArray)(hv:vs≠[])
 (h1:ws=[]->Q (.ref t) s) (h2:ws≠[]->Q (.ref s.heap.objs.size) {s with heap:=s.heap.push {cls:=.type "tuple",data:=.seq (vs++ws).toArray}})
 (hsz:vs.length+ws.length<=sizeLine):wpAny (model prog w) A (binaryOp .Add (.ref t) (.ref b)) Q E s:=show _ by
 obtain⟨⟨cls,dd,data,sl⟩,ho,hc,n,hd⟩:=id ht;obtain⟨⟨cls2,dd2,data2,sl2⟩,ho2,hc2,n2,hd2⟩:=id hb;simp only at hc hd hc2 hd2;subst hc hd hc2 hd2;have e:vs.toArray++ws.toArray=(vs++ws).toArray:=by simp
 by_cases hw:ws=[]
 ·exact De ⟨_,ho,rfl⟩ ⟨_,ho2,rfl⟩ Df Dg Dh Di (Dj _ _)
   (tuple_addW1 t b vs.toArray ws.toArray n n2 dd dd2 sl sl2 (by simpa using hv) (by simp[hw])) ⟨ho,ho2,h1 hw⟩
 ·refine De ⟨_,ho,rfl⟩ ⟨_,ho2,rfl⟩ Df Dg Dh Di (Dj _ _)
   (tuple_addW2 t b vs.toArray ws.toArray n n2 dd dd2 sl sl2 (by simpa using hv) (by simpa using hw) (by rw[bU,bU];exact hsz)) ⟨ho,ho2,?_⟩
  rw[e];exact h2 hw
def aO(n d:Nat):Option Int->Nat
 |none=>d
 |some v=>if v<0 then(v+(n:Int)).toNat else min v.toNat n
theorem u9(n d:Nat):aO n d none=d:=rfl
theorem u_(n d k:Nat):aO n d (some (k:Int))=min k n:=by
 show(if(k:Int)<0 then((k:Int)+(n:Int)).toNat else min (k:Int).toNat n)=min k n;rw[if_neg (by lia),j3]
theorem yC(n d:Nat)(hd:d<=n)(o:Option Int):aO n d o<=n:=by
 cases o with
 |none=>exact hd
 |some v =>
  show(if v<0 then(v+(n:Int)).toNat else min v.toNat n)<=n;by_cases hv:v<0
  ·rw[if_pos hv];lia
  ·rw[if_neg hv];exact Nat.min_le_right _ _
theorem EL(v:Int)(n d:Nat):(if v<0 then max (v+(n:Int)) 0 else min v (n:Int))=((aO n d (some v):Nat):Int):=by
 show(if v<0 then max (v+(n:Int)) 0 else min v (n:Int))=(((if v<0 then(v+(n:Int)).toNat else min v.toNat n):Nat):Int);by_cases hv:v<0
 ·simp only[if_pos hv];lia
 ·simp only[if_neg hv];lia
theorem Qr(lo hi:Option Int)(n:Nat):Dk lo hi 1 (n:Int)=(((aO n 0 lo:Nat):Int),((aO n n hi:Nat):Int)):=show _ by
 have h1:¬((1:Int)<0):=by lia
 unfold Dk;simp only[h1,if_false];refine Prod.ext ?_ ?_
 ·cases lo with
  |none=>rfl
  |some v=>exact EL v n 0
 ·cases hi with
  |none=>rfl
  |some v=>exact EL v n n
theorem Qt(i j:Nat):xA (i:Int) (j:Int) 1=j-i:=by
 unfold xA;have h1:(1:Int)>0:=by lia
 simp only[h1,if_true,Int.ediv_one]
 split<;>lia
theorem EM{v:Value}{o:Option Int}{Q:Option Int->Shared->Prop}(p:IsPart v o)(h:Q o s):wpAny (model prog w) A (aiE v) Q E s:=by
 cases p with
 |none=>exact slicePart_none h
 |int i t=>exact slicePart_int h
theorem EN{sl:Addr}{vl vu:Value}{lo hi:Option Int}{n:Nat}{Q:Int×Int×Nat->Shared->Prop}(hs:s.heap.IsSliceOf sl vl vu .none)(pl:IsPart vl lo)(pu:IsPart vu hi)
 (h:Q (((aO n 0 lo:Nat):Int),1,aO n n hi-aO n 0 lo) s):wpAny (model prog w) A (MQ (.ref sl) (pure (n:Int))) Q E s:=show _ by
 obtain⟨os,hos,hcs,hds⟩:=id hs;unfold MQ aiF;refine ai (ai (c9 hos hds (x:=vl) rfl (ai (c9 hos hds (x:=vu) rfl (ai (c9 hos hds (x:=.none) rfl (aE ?_)))))));refine ai (slicePart_none ?_);show wpAny _ _ (if((1:Int)==0)=true then _ else _) _ _ s;rw[if_neg (by decide)];refine ai (EM pl (ai (EM pu (ai (aE ?_)))));show wpAny _ _ (match Dk lo hi 1 (n:Int) with|(lo,hi)=>pure (lo,(1:Int),xA lo hi 1)) _ _ s;rw[Qr lo hi n];show wpAny _ _ (pure (((aO n 0 lo:Nat):Int),(1:Int),xA ((aO n 0 lo:Nat):Int) ((aO n n hi:Nat):Int) 1)) _ _ s;rw[Qt];exact aE h
theorem Qu(xs:Array Value)(i k:Nat):((ba k).filterMap λ(m:Nat)=>xs[((i:Int)+(m:Int)*1).toNat]?).toArray=((xs.toList.drop i).take k).toArray:=show _ by
 have e:(λ(m:Nat)=>xs[((i:Int)+(m:Int)*1).toNat]?)=λm=>xs[i+m]?:=by
  funext m;have:((i:Int)+(m:Int)*1).toNat=i+m:=by lia
  rw[this]
 rw[e];have:=pick_run xs i k;rw[List.filterMap_map]at this;have e2:((λx=>xs[x]?) ∘ λx=>i+x)=λm=>xs[i+m]?:=rfl;rw[e2]at this;rw[this]
theorem Qv{t sl:Addr}{items:Array Value}{vl vu:Value}{lo hi:Option Int}{Q:Value->Shared->Prop}(ht:IsTup s.heap t items)(hs:s.heap.IsSliceOf sl vl vu .none)(pl:IsPart vl lo)(pu:IsPart vu hi)
 (hw:¬(aO items.size 0 lo=0/\aO items.size items.size hi=items.size))
 (h:Q (.ref s.heap.objs.size) {s with heap:=s.heap.push {cls:=.type "tuple",data:=.seq ((items.toList.drop (aO items.size 0 lo)).take (aO items.size items.size hi-aO items.size 0 lo)).toArray}})
 (hsz:items.size<=sizeLine):wpAny (model prog w) A (getItem (.ref t) (.ref sl)) Q E s:=show _ by
 have va:sizeOk (.seq ((items.toList.drop (aO items.size 0 lo)).take (aO items.size items.size hi-aO items.size 0 lo)).toArray):=by
  show((items.toList.drop (aO items.size 0 lo)).take (aO items.size items.size hi-aO items.size 0 lo)).toArray.size<=sizeLine;rw[bU,dN,e_,MA];lia
 have hj:aO items.size items.size hi<=items.size:=yC _ _ (aV _) hi;obtain⟨os,hos,hcs,hds⟩:=id hs;have hTs:s.TypeIs (.ref sl) "slice":=⟨os,hos,hcs⟩;unfold getItem
 try with_reducible refine mI ?_
 first|refine ai (aE ?_)|skip
 refine ai (MR ht.typeIs (by decide) ?_);refine ai (j5 (name:=jh "__getitem__") ht.typeIs lC
  (gZ lC ht.typeIs MS ?_ (MT _ _)))
 show wpAny _ _ (CQ (.ref t) >>= _) _ _ s;refine ai (tupleItemsOf_ ht ?_);refine ai (oN hTs ?_);rw[if_pos (by decide)];refine ai (EN hs pl pu ?_);have hno:¬((((aO items.size 0 lo:Nat):Int)==0&&(1:Int)==1&&(aO items.size items.size hi-aO items.size 0 lo)==items.size)=true):=by
  intro q;rw[f9,f9]at q;have q1:((aO items.size 0 lo:Nat):Int)=0:=eq_of_beq q.1.1;have q2:aO items.size items.size hi-aO items.size 0 lo=items.size:=eq_of_beq q.2;exact hw ⟨by lia,by lia⟩
 show wpAny _ _ (if(((aO items.size 0 lo:Nat):Int)==0&&(1:Int)==1&&(aO items.size items.size hi-aO items.size 0 lo)==items.size)=true then _ else _) _ _ s;rw[if_neg hno,Qu]
 first
  |exact ai (m:=xB _) (ji (aE ⟨_,rfl,aE h⟩) va)
  |exact ai (m:=xB _) (ji (ai (aE (aE ⟨_,rfl,aE h⟩))) va)
  |exact ai (ai (m:=xB _) (ji (aE (aE ⟨_,rfl,aE h⟩)) va))
  |exact ai (ai (m:=xB _) (ji (aE ⟨_,rfl,aE h⟩) va))
end
end HT
namespace L2
open PySem PySem.Spec PyProof.Rows
abbrev TO:=St->Hp->(Option Int->Hp->Prop)->Prop
def PO(X:Cx)(e:Option Expr)(t:TO):Prop :=
 ∀(pins:List (Addr×Obj)) (s:Shared) (σ:St) (H:Hp) (Q:Option Int->Hp->Prop),Inv X pins σ H s->t σ H Q ->
  wpAny (model X.prog X.w) X.A (evalPart e X.env) (λu s'=>∃o H',Inv X pins σ H' s'/\IsPart u o/\Q o H') X.xe s
def Qw:TO:=λ_ H Q=>Q none H
def Qx(t:TE):TO:=λσ H Q=>t σ H λx H1=>∃i,x=.int i/\Q (some i) H1
section
variable{X:Cx}{e:Expr}{te:TE}{lo hi:Option Expr}{tl th:TO}{pos p2:Pos}
theorem Qy:PO X none Qw:=by
 intro pins s σ H Q I h;rw[evalPart_none];exact aE ⟨none,H,I,.none,h⟩
theorem Qz(h:PE X e te):PO X (some e) (Qx te):=by
 intro pins s σ H Q I hw;rw[evalPart_some];refine aF (h pins s σ H _ I hw) λu s1 ⟨x,H1,I1,r1,q1⟩=>?_;obtain⟨i,rfl,q⟩:=q1;obtain⟨t,rfl⟩:=r1;exact⟨some i,H1,I1,.int i t,q⟩
def oZ(X:Cx)(r:V->Option Int->Option Int->Hp->VK->Prop):Prop :=
 ∀(pins:List (Addr×Obj)) (s:Shared) (σ:St) (H:Hp) (x:V) (v vl vu:Value) (lo hi:Option Int) (sl:Addr) (Q:VK),Inv X pins σ H s->RelV x v->s.heap.IsSliceOf sl vl vu .none->IsPart vl lo->IsPart vu hi->r x lo hi H Q ->
  ∃T id,typeLookup (.type T) "__getitem__"=pure (some (.builtin id))/\s.TypeIs v T/\wpAny (model X.prog X.w) X.A (getItem v (.ref sl)) (EP X pins σ Q) X.xe s
def QB(r:V->Option Int->Option Int->Hp->VK->Prop)(te:TE)(tl th:TO):TE:=λσ H Q=>te σ H λx H1=>tl σ H1 λl H2=>th σ H2 λu H3=>r x l u H3 Q
theorem QC{r:V->Option Int->Option Int->Hp->VK->Prop}(hr:oZ X r)(he:PE X e te)(hl:PO X lo tl)(hu:PO X hi th):PE X (.Subscript e (.Slice lo hi none p2) pos) (QB r te tl th):=show _ by
 intro pins s σ H Q I h;refine Dl (aF (he pins s σ H _ I h) λv s1 ⟨x,H1,I1,r1,q1⟩=>?_);refine wpAny_Slice (aF (hl pins s1 σ H1 _ I1 q1) λvl s2 ⟨l,H2,I2,pl,q2⟩=>aF (hu pins s2 σ H2 _ I2 q2) λvu s3 ⟨u,H3,I3,pu,q3⟩=>?_);rw[evalPart_none];refine aE ?_;have I4:Inv X pins σ H3 {s3 with heap:=s3.heap.push {cls:=.type "slice",data:=.fields #[vl,vu,.none]}}:=I3.kept (t':=s3.toks) λb ob q=>bx _ q;obtain⟨T,id,hT,ht,hg⟩:=hr pins {s3 with heap:=s3.heap.push {cls:=.type "slice",data:=.fields #[vl,vu,.none]}} σ H3 x v vl vu l u s3.heap.objs.size Q I4 r1 (aiG ..) pl pu q3;show wpAny (model X.prog X.w) X.A (subscriptTail e (.Slice lo hi none p2) v (.ref s3.heap.objs.size)) (EP X pins σ Q) X.xe {s3 with heap:=s3.heap.push {cls:=.type "slice",data:=.fields #[vl,vu,.none]}};exact tail_any (ops:=[.ref s3.heap.objs.size,v]) ht hT hg (by with_unfolding_all rfl)
def km(xs:List V)(lo hi:Option Int):List V:=(xs.drop (HT.aO xs.length 0 lo)).take (HT.aO xs.length xs.length hi-HT.aO xs.length 0 lo)
theorem EO(xs:List V)(lo hi:Option Int):(km xs lo hi).length<=xs.length:=by
 unfold km;rw[dN,e_];lia
def QD(K:ao):V->Option Int->Option Int->Hp->VK->Prop:=λx lo hi H Q=>∃a xs,x=.ref a/\bh K H a xs /\
 ¬(HT.aO xs.length 0 lo=0/\HT.aO xs.length xs.length hi=xs.length)/\∀p,H p=none->Q (.ref p) (upd H p (.tup (km xs lo hi)))
theorem QE:oZ X (QD X.K):=show _ by
 intro pins s σ H x v vl vu lo hi sl Q I rx hs pl pu h;obtain⟨a,xs,rfl,hx,hw,q⟩:=h;cases rx;obtain⟨its,r,ht,hz⟩:=I.tuple hx;have hlen:its.toArray.size=xs.length:=by rw[bU];exact r.length.symm
 refine⟨"tuple",_,lC.lookup,ht.typeIs,?_⟩;refine HT.Qv ht hs pl pu (by rw[hlen];exact hw) ?_ (by rw[hlen];exact hz);rw[hlen];refine⟨.ref s.heap.objs.size,_,I.laid (t':=s.toks) (o:=.tup (km xs lo hi)) (λb ob q=>bx _ q) (aV _) ?_,rfl,q _ (I.hok.fresh (aV _))⟩;exact⟨cj (EO xs lo hi) hz,_,(r.drop (HT.aO xs.length 0 lo)).take (HT.aO xs.length xs.length hi-HT.aO xs.length 0 lo),Dm _ _,λo q=>by rw[c8 _ rfl]at q;cases q;rfl⟩
def ER(K:ao):R2:=λx y H Q=>∃a b xs ys,x=.ref a/\y=.ref b/\bh K H a xs/\bh K H b ys/\xs≠[]/\xs.length+ys.length<=sizeLine /\
 (ys=[]->Q (.ref a) H)/\(ys≠[]->∀p,H p=none->Q (.ref p) (upd H p (.tup (xs++ys))))
theorem Vals.vb{xs:List V}{us:List Value}(r:Vals xs us):us=[]↔xs=[]:=by
 cases r with
 |nil=>simp
 |cons _ _=>simp
theorem yD:cO X (binaryOp .Add) (ER X.K):=show _ by
 intro pins s σ H x y v u Q I rx ry h;obtain⟨a,b,xs,ys,rfl,rfl,ha,hb,hx,hz,q1,q2⟩:=h;cases rx;cases ry;obtain⟨its,r1,p1,_⟩:=I.tuple ha;obtain⟨its2,r2,p2,_⟩:=I.tuple hb;refine HT.Qq p1 p2 (λz=>hx (r1.vb.mp z)) (λz=>⟨.ref a,H,I,rfl,q1 (r2.vb.mp z)⟩) (λz=>?_) (by rw[<-r1.length,<-r2.length];exact hz);refine⟨.ref s.heap.objs.size,_,I.laid (t':=s.toks) (o:=.tup (xs++ys)) (λb ob q=>bx _ q) (aV _) ?_,rfl,q2 (λw=>z (r2.vb.mpr w)) _ (I.hok.fresh (aV _))⟩;exact⟨by rw[aU];exact hz,_,r1.append r2,Dm _ _,λo q=>by rw[c8 _ rfl]at q;cases q;rfl⟩
end
def gk(n:Nat)(i:Int):Option Nat:=if 0<=i then(if i<n then some i.toNat else none) else if -(n:Int)<=i then some (i+n).toNat else none
def cy{α:Type}(xs:List α)(i:Int):Option α:=(gk xs.length i).bind λj=>xs[j]?
theorem ET{n:Nat}{i:Int}{j:Nat}(h:gk n i=some j):seqIndex? i n=some j/\j<n/\-(n:Int)<=i/\i<n:=show _ by
 unfold gk at h;by_cases h0:0<=i
 ·rw[if_pos h0]at h;by_cases h1:i<n
  ·rw[if_pos h1]at h;have e:i.toNat=j:=dG h;exact⟨by rw[xC h0 h1,e],by lia,by lia,h1⟩
  ·rw[if_neg h1]at h;cases h
 ·rw[if_neg h0]at h;by_cases h1:-(n:Int)<=i
  ·rw[if_pos h1]at h;have e:(i+n).toNat=j:=dG h;exact⟨by rw[Dp (by lia) h1,e],by lia,h1,by lia⟩
  ·rw[if_neg h1]at h;cases h
theorem yE{α:Type}{xs:List α}{i:Int}{v:α}(h:cy xs i=some v):∃j,seqIndex? i xs.length=some j/\xs[j]?=some v/\j<xs.length/\-(xs.length:Int)<=i/\i<xs.length:=show _ by
 unfold cy at h;cases e:gk xs.length i with
 |none=>rw[e]at h;cases h
 |some j =>
  rw[e]at h;obtain⟨h1,h2,h3,h4⟩:=ET e;exact⟨j,h1,h,h2,h3,h4⟩
theorem eV{α:Type}{xs:List α}{j:Nat}{v:α}(h:xs[j]?=some v):cy xs (j:Int)=some v:=by
 have hj:j<xs.length:=(cu.mp h).1;have e:gk xs.length (j:Int)=some j:=by
  unfold gk;rw[if_pos (by lia),if_pos (by lia)];simp
 unfold cy;rw[e];exact h
def EU(b:Expr):Prop:=∀o i,subscripted b false o i=operate [o,i] (getItem o i)
def r8(X:Cx)(r:R2):Prop :=
 ∀(value slice:Expr) (pins:List (Addr×Obj)) (s:Shared) (σ:St) (H:Hp) (x y:V) (v u:Value) (Q:VK),Inv X pins σ H s->RelV x v->RelV y u->r x y H Q ->
  subscripted slice false v u=operate [v,u] (getItem v u)->wpAny (model X.prog X.w) X.A (subscriptTail value slice v u) (EP X pins σ Q) X.xe s
def m6(X:Cx)(id:String)(r:V->List V->Hp->VK->Prop):Prop :=
 ∀(pins:List (Addr×Obj)) (s:Shared) (σ:St) (H:Hp) (x:V) (xs:List V) (v:Value) (us:List Value) (Q:VK),Inv X pins σ H s->RelV x v->Vals xs us->r x xs H Q ->
  wpAny (model X.prog X.w) X.A (call (.builtin id) (v::us)) (EP X pins σ Q) X.xe s
section
variable{X:Cx}{a b:Expr}{ta tb:TE}{pos:Pos}
theorem QF{r:R2}(hr:r8 X r)(ha:PE X a ta)(hb:PE X b tb)(hs:EU b):PE X (.Subscript a b pos) (rQ r ta tb):=by
 intro pins s σ H Q I h;exact Dl (yq ha hb I h λv u s2 x y H2 I2 rx ry q=>hr a b pins s2 σ H2 x y v u Q I2 rx ry q (hs _ _))
def EV(K:ao):R2:=λx y H Q=>∃p xs i v,x=.ref p/\y=.int i/\bg K H p xs/\cy xs i=some v/\Q v H
def EW(K:ao):R2:=λx y H Q=>∃p xs i v,x=.ref p/\y=.int i/\bh K H p xs/\cy xs i=some v/\Q v H
def EX:R2:=λx y H Q=>∃z i c,x=.str z/\y=.int i/\z.length<=sizeLine/\cy z.cps.toList i=some c/\Q (.str ⟨#[c]⟩) H
theorem eJ:r8 X (EV X.K):=show _ by
 intro value slice pins s σ H x y v u Q I rx ry h hs;obtain⟨p,xs,i,z,rfl,rfl,hq,he,q⟩:=h;cases rx;obtain⟨t,rfl⟩:=ry;obtain⟨its,r,pl,hz⟩:=I.list hq;obtain⟨j,h1,h2,h3,h4,h5⟩:=yE he;obtain⟨w,ew,h_⟩:=r.get h2;have hl:=r.length;have hn:=kl;have fin:EP X pins σ Q w s:=⟨z,H,I,h_,q⟩;by_cases h0:0<=i
 ·have hj:i.toNat=j:=by
   rw[xC h0 h5]at h1;exact dG h1
  exact item_listR pl.isList h0 (by lia) (by rw[hj];simpa using ew) fin hs
 ·have hj:(i+(its.toArray.size:Int)).toNat=j:=by
   rw[Dp (by lia) h4]at h1;rw[bU,<-hl];exact dG h1
  exact MU (x:=w) pl.isList.typeIs MV.lookup
   (wpAny_getItem_list_neg (Q:=λr s'=>r=w/\EP X pins σ Q r s') pl.isList (by lia) (by rw[bU]<;>lia) (by lia) (by rw[hj];simpa using ew) ⟨rfl,fin⟩) hs
theorem aP:r8 X (EW X.K):=show _ by
 intro value slice pins s σ H x y v u Q I rx ry h hs;obtain⟨p,xs,i,z,rfl,rfl,hq,he,q⟩:=h;cases rx;obtain⟨t,rfl⟩:=ry;obtain⟨its,r,pl,hz⟩:=I.tuple hq;obtain⟨j,h1,h2,h3,h4,h5⟩:=yE he;obtain⟨w,ew,h_⟩:=r.get h2;have hl:=r.length;have hn:=kl;have fin:EP X pins σ Q w s:=⟨z,H,I,h_,q⟩;exact MU (x:=w) pl.typeIs lC.lookup
  (getItem_tuple (j:=j) (Q:=λr s'=>r=w/\EP X pins σ Q r s') pl (by lia) (by lia) (by rw[bU,<-hl];exact h1) (by simpa using ew) ⟨rfl,fin⟩) hs
theorem EY:r8 X EX:=show _ by
 intro value slice pins s σ H x y v u Q I rx ry h hs;obtain⟨z,i,c,rfl,rfl,hz,he,q⟩:=h;obtain⟨t,rfl⟩:=rx;obtain⟨t',rfl⟩:=ry;obtain⟨j,h1,h2,h3,h4,h5⟩:=yE he;have hl:z.cps.toList.length=z.length:=by simp[Dq]
 rw[hl]at h1 h4 h5;have hn:=kl;exact tail_any (Dr s z t) slot_str_getitem.lookup (getItem_str (c:=c) (by
  have e1:decide (i < -(2^63:Int))=false:=decide_eq_false (by lia);have e2:decide (i>=2^63)=false:=decide_eq_false (by lia);rw[e1,e2,MW]) (by rw[h1];simpa using h2) ⟨.str ⟨#[c]⟩,H,I.tok _,⟨_,rfl⟩,q⟩) hs
theorem QG(its:List Value)(n j:Nat)(u:Value):fc (·.setIfInBounds j u) {cls:=.type "list",data:=.seq its.toArray n}={cls:=.type "list",data:=.seq (its.set j u).toArray n}:=by
 simp[fc]
theorem Inv.lst{pins:List (Addr×Obj)}{σ:St}{H:Hp}{s:Shared}{p:Addr}{xs:List V}(I:Inv X pins σ H s)(h:H p=some (.lst xs)) :
 ∃(its:List Value) (n:Nat),Vals xs its/\s.heap.get? p=some {cls:=.type "list",data:=.seq its.toArray n}/\xs.length<=sizeLine:=show _ by
 obtain⟨z,its,n,r,e⟩:=I.hok p _ h;exact⟨its,n,r,e,z⟩
theorem Inv.QH{pins:List (Addr×Obj)}{σ:St}{H:Hp}{s:Shared}{p:Addr}{xs ys:List V}{its its':List Value}{n n':Nat}{f:Obj->Obj}(I:Inv X pins σ H s)(h:H p=some (.lst xs))
 (ho:s.heap.get? p=some {cls:=.type "list",data:=.seq its.toArray n}) (hf:f {cls:=.type "list",data:=.seq its.toArray n}={cls:=.type "list",data:=.seq its'.toArray n'}) (r:Vals ys its') (hz:ys.length<=sizeLine) (t:Nat) :
 Inv X pins σ (upd H p (.lst ys)) {s with heap:=s.heap.update p f,toks:=t}:=show _ by
 have e:(s.heap.update p f).get? p=some {cls:=.type "list",data:=.seq its'.toArray n'}:=by
  rw[oO f ho (by rw[hf]<;>rfl),hf]
 refine I.write (x:=p) (e:=p) (by rw[h];trivial) (.inl rfl) (λb u hb q=>(rp _ _ (bw hb)).trans q) ⟨_,e⟩ ?_;exact⟨hz,its',n',r,e⟩
def QI:V->V->V->Hp->(Hp->Prop)->Prop:=λo i v H Q=>∃p xs k j,o=.ref p/\i=.int k/\H p=some (.lst xs)/\gk xs.length k=some j/\Q (upd H p (.lst (xs.set j v)))
theorem set_list:Ei X QI:=show _ by
 intro pins s σ H o i v ov iv u Q I ro ri rv h;obtain⟨p,xs,k,j,rfl,rfl,hp,hj,q⟩:=h;cases ro;obtain⟨t,rfl⟩:=ri;obtain⟨its,n,r,ho,hz⟩:=I.lst hp;obtain⟨h1,h2,h3,h4⟩:=ET hj;have hl:=r.length;have hn:=kl;have I':Inv X pins σ (upd H p (.lst (xs.set j v))) {s with heap:=s.heap.update p (fc (·.setIfInBounds j u))} :=
  I.QH hp ho (QG its n j u) (r.set rv j) (by rw[List.length_set];exact hz) s.toks
 by_cases h0:0<=k
 ·have hk:k.toNat=j:=by
   rw[xC h0 h4]at h1;exact dG h1
  exact PySem.W.ki_setAt ho h0 (by lia) (by rw[bU,<-hl];exact h4) (by rw[hk];exact⟨_,I',q⟩)
 ·have hk:(k+(its.toArray.size:Int)).toNat=j:=by
   rw[Dp (by lia) h3]at h1;rw[bU,<-hl];exact dG h1
  exact PySem.W.ki_setBack ho (by lia) (by rw[bU,<-hl];exact h3) (by lia) (by rw[hk];exact⟨_,I',q⟩)
theorem QJ(lo hi:Option Int)(n:Nat):(sliceBounds lo hi none n).1=((HT.aO n 0 lo:Nat):Int)/\(sliceBounds lo hi none n).2.1=((HT.aO n n hi:Nat):Int)/\(sliceBounds lo hi none n).2.2=1:=show _ by
 refine⟨?_,?_,rfl⟩
 ·cases lo with
  |none=>simp[sliceBounds,HT.aO]
  |some i =>
   simp only[sliceBounds,HT.aO,MX,show(1:Int)>0 by decide,if_true];by_cases h:i<0
   ·simp only[h,if_true]<;>lia
   ·simp only[h,if_false]<;>lia
 ·cases hi with
  |none=>simp[sliceBounds,HT.aO]
  |some i =>
   simp only[sliceBounds,HT.aO,MX,show(1:Int)>0 by decide,if_true];by_cases h:i<0
   ·simp only[h,if_true]<;>lia
   ·simp only[h,if_false]<;>lia
theorem QK(its:List Value)(lo hi:Option Int):slicePick its.toArray lo hi none=((its.drop (HT.aO its.length 0 lo)).take (HT.aO its.length its.length hi-HT.aO its.length 0 lo)).toArray:=show _ by
 obtain⟨h1,h2,h3⟩:=QJ lo hi its.toArray.size;unfold slicePick;rw[h1,h2,h3];simp only[sliceRange_one,pick_run,bU]<;>rfl
def EZ(K:ao):V->Option Int->Option Int->Hp->VK->Prop:=λx lo hi H Q=>∃a xs,x=.ref a/\bg K H a xs/\∀p,H p=none->Q (.ref p) (upd H p (.lst (km xs lo hi)))
theorem jy:oZ X (EZ X.K):=show _ by
 intro pins s σ H x v vl vu lo hi sl Q I rx hs pl pu h;obtain⟨a,xs,rfl,hx,q⟩:=h;cases rx;obtain⟨its,r,ht,hz⟩:=I.list hx;have hlen:=r.length;refine⟨"list",_,MV.lookup,ht.isList.typeIs,?_⟩;refine wpAny_getItem_list_slice ht.isList hs pl pu .none (by simp) ?_ (by rw[bU]<;>lia);rw[QK,<-hlen];refine⟨.ref s.heap.objs.size,_,I.laid (t':=s.toks) (o:=.lst (km xs lo hi)) (λb ob q=>bx _ q) (aV _) ?_,rfl,q _ (I.hok.fresh (aV _))⟩;exact⟨cj (EO xs lo hi) hz,_,0,(r.drop (HT.aO xs.length 0 lo)).take (HT.aO xs.length xs.length hi-HT.aO xs.length 0 lo),c8 _ rfl⟩
def jz:V->Bool
 | .non=>true
 | .bl _=>true
 | .int _=>true
 | .str _=>true
 |_=>false
def iL:V->V->Bool
 | .non,.non=>true
 | .bl a,.bl b=>a==b
 | .bl a,.int b=>(if a then 1 else 0)==b
 | .int a,.bl b=>a==(if b then 1 else 0)
 | .int a,.int b=>a==b
 | .str a,.str b=>a==b
 |_,_=>false
theorem QL{A:Around}{s:Shared}{y x:V}{u v:Value}(ry:RelV y u)(rx:RelV x v)(fy:jz y=true)(fx:jz x=true):Ds A s u v (iL y x):=show _ by
 cases y with
 |non =>
  cases ry;cases x with
  |non=>cases rx;exact SeqAt.EqAt.same _
  |bl b=>cases rx;exact SeqAt.EqAt.none_bool b
  |int b=>obtain⟨t,rfl⟩:=rx;exact SeqAt.EqAt.none_int b t
  |str b=>obtain⟨t,rfl⟩:=rx;exact SeqAt.EqAt.none_str b t
  |_=>exact absurd (show false=true from fx) c7
 |bl a =>
  cases ry;cases x with
  |non=>cases rx;exact SeqAt.EqAt.bool_none a
  |bl b=>cases rx;exact SeqAt.EqAt.bool_bool a b
  |int b=>obtain⟨t,rfl⟩:=rx;exact SeqAt.EqAt.bool_int a b t
  |str b=>obtain⟨t,rfl⟩:=rx;exact SeqAt.EqAt.bool_str a b t
  |_=>exact absurd (show false=true from fx) c7
 |int a =>
  obtain⟨t',rfl⟩:=ry;cases x with
  |non=>cases rx;exact SeqAt.EqAt.int_none a t'
  |bl b=>cases rx;exact SeqAt.EqAt.int_bool a t' b
  |int b=>obtain⟨t,rfl⟩:=rx;exact SeqAt.EqAt.int_int a t' b t
  |str b=>obtain⟨t,rfl⟩:=rx;exact Mm a t' b t
  |_=>exact absurd (show false=true from fx) c7
 |str a =>
  obtain⟨t',rfl⟩:=ry;cases x with
  |non=>cases rx;exact SeqAt.EqAt.str_none a t'
  |bl b=>cases rx;exact SeqAt.EqAt.str_bool a t' b
  |int b=>obtain⟨t,rfl⟩:=rx;exact Mn a t' b t
  |str b=>obtain⟨t,rfl⟩:=rx;exact SeqAt.EqAt.str_str a t' b t
  |_=>exact absurd (show false=true from fx) c7
 |_=>exact absurd (show false=true from fy) c7
def fW(x:V)(u:Value):Bool:=match u with
 | .none=>iL .non x
 | .bool b=>iL (.bl b) x
 | .int i _=>iL (.int i) x
 | .str z _=>iL (.str z) x
 |_=>false
theorem E1{x y:V}{u:Value}(r:RelV y u)(f:jz y=true):fW x u=iL y x:=by
 cases y with
 |non=>cases r;rfl
 |bl b=>cases r;rfl
 |int i=>obtain⟨t,rfl⟩:=r;rfl
 |str z=>obtain⟨t,rfl⟩:=r;rfl
 |_=>exact absurd (show false=true from f) c7
theorem r9{x:V}:∀{xs:List V} {us:List Value},Vals xs us->xs.all jz=true->us.any (fW x)=xs.any λy=>iL y x
 |_,_,.nil,_=>rfl
 |y::xs,u::us,.cons r t,f=>by
  rw[oI,f9]at f;rw[mL,mL,E1 r f.1,r9 t f.2]
theorem r_{A:Around}{s:Shared}{x:V}{v:Value}(rx:RelV x v)(fx:jz x=true):∀{xs:List V} {us:List Value},Vals xs us->xs.all jz=true->∀u∈us,Ds A s u v (fW x u)
 |_,_,.nil,_=>λu hu=>by cases hu
 |y::xs,u::us,.cons r t,f=>λu' hu=>by
  rw[oI,f9]at f;rcases bF.mp hu with rfl|hu
  ·rw[E1 r f.1];exact QL r rx f.1 fx
  ·exact r_ rx fx t f.2 u' hu
def inV(x:V)(xs:List V):Bool:=xs.any λy=>iL y x
def vc(K:ao)(neg:Bool):R2:=λx y H Q=>∃p xs,y=.ref p/\(bg K H p xs∨bh K H p xs)/\jz x=true/\xs.all jz=true/\Q (.bl (if neg then !inV x xs else inV x xs)) H
theorem yF:cO X (compareOp .In) (vc X.K false):=show _ by
 intro pins s σ H x y v u Q I rx ry h;obtain⟨p,xs,rfl,hq,fx,fs,q⟩:=h;cases ry;rcases hq with hq|hq
 ·obtain⟨its,r,pl,hz⟩:=I.list hq;refine MY (fW x) pl.isList (λw hw=>r_ rx fx r fs w (by simpa using hw)) ⟨.bl _,H,I,rfl,?_⟩;rw[show its.toArray.any (fW x)=its.any (fW x) by simp,r9 r fs];exact q
 ·obtain⟨its,r,pl,hz⟩:=I.tuple hq;refine SeqAt.in_tupleAt (fW x) pl (λw hw=>r_ rx fx r fs w (by simpa using hw)) ⟨.bl _,H,I,rfl,?_⟩;rw[show its.toArray.any (fW x)=its.any (fW x) by simp,r9 r fs];exact q
theorem E2:cO X (compareOp .NotIn) (vc X.K true):=show _ by
 intro pins s σ H x y v u Q I rx ry h;obtain⟨p,xs,rfl,hq,fx,fs,q⟩:=h;cases ry;rcases hq with hq|hq
 ·obtain⟨its,r,pl,hz⟩:=I.list hq;refine SeqAt.notIn_listAt (fW x) pl.isList (λw hw=>r_ rx fx r fs w (by simpa using hw)) ⟨.bl _,H,I,rfl,?_⟩;rw[show its.toArray.any (fW x)=its.any (fW x) by simp,r9 r fs];exact q
 ·obtain⟨its,r,pl,hz⟩:=I.tuple hq;refine SeqAt.notIn_tupleAt (fW x) pl (λw hw=>r_ rx fx r fs w (by simpa using hw)) ⟨.bl _,H,I,rfl,?_⟩;rw[show its.toArray.any (fW x)=its.any (fW x) by simp,r9 r fs];exact q
theorem fj:gE X (.builtin "len") (λxs H Q=>∃p ys,xs=[.ref p]/\(bg X.K H p ys∨bh X.K H p ys)/\Q (.int ys.length) H):=show _ by
 intro pins s σ H xs us Q I r h;obtain⟨p,ys,rfl,hq,q⟩:=h;obtain⟨u,rfl,rx⟩:=vals1 r;cases rx;have hn:=kl;rcases hq with hq|hq
 ·obtain⟨its,r',pl,hz⟩:=I.list hq;have hlen:=r'.length;exact Calls.call_len_list pl.isList (by simp only[bU]<;>lia) ⟨.int ys.length,H,I.tok _,⟨s.toks+1,by rw[bU,hlen]⟩,q⟩
 ·obtain⟨its,r',pl,hz⟩:=I.tuple hq;have hlen:=r'.length;exact len_tuple pl (by simp only[bU]<;>lia) ⟨.int ys.length,H,I.tok _,⟨s.toks+1,by rw[bU,hlen]⟩,q⟩
theorem QM:gE X (.builtin "len") (λxs H Q=>∃z,xs=[.str z]/\z.length<=sizeLine/\Q (.int z.length) H):=by
 intro pins s σ H xs us Q I r h;obtain⟨z,rfl,hz,q⟩:=h;obtain⟨u,rfl,t,rfl⟩:=vals1 r;have hn:=kl;exact len_str (by lia) ⟨.int z.length,H,I.tok _,⟨_,rfl⟩,q⟩
theorem E4:gE X (.type "list") (λxs H Q=>∃p ys,xs=[.ref p]/\(bg X.K H p ys∨bh X.K H p ys)/\∀l,H l=none->Q (.ref l) (upd H l (.lst ys))):=show _ by
 intro pins s σ H xs us Q I r h;obtain⟨p,ys,rfl,hq,q⟩:=h;obtain⟨u,rfl,rx⟩:=vals1 r;cases rx;have fin:∀(its:List Value),Vals ys its->ys.length<=sizeLine->∀(h':Heap) (c':Nat),(∀b o',s.heap.get? b=some o'->h'.get? b=some o') ->
  h'.get? s.heap.objs.size=some {cls:=.type "list",dict:=none,data:=.seq its.toArray c',slots:=#[]}->EP X pins σ Q (.ref s.heap.objs.size) {s with heap:=h'}:=λits r' hz h' c' kp e =>
  ⟨.ref s.heap.objs.size,_,I.laid (t':=s.toks) kp (aV _) (show cG X.prog X.w _ h' _ (.lst ys) from⟨hz,its,c',r',e⟩),rfl,q _ (I.hok.fresh (aV _))⟩
 rcases hq with hq|hq
 ·obtain⟨its,r',pl,hz⟩:=I.list hq;have hlen:=r'.length;obtain⟨o,ho,hc,n,hd⟩:=pl.isList;exact call_list_seq p (.inl rfl) ho hc hd (λh' c' kp e=>fin its r' hz h' c' kp e) (by simp only[bU]<;>lia)
 ·obtain⟨its,r',pl,hz⟩:=I.tuple hq;have hlen:=r'.length;obtain⟨o,ho,hc,n,hd⟩:=pl;exact call_list_seq p (.inr rfl) ho hc hd (λh' c' kp e=>fin its r' hz h' c' kp e) (by simp only[bU]<;>lia)
theorem iM:gE X (.type "tuple") (λxs H Q=>∃p ys,xs=[.ref p]/\((bg X.K H p ys/\∀l,H l=none->Q (.ref l) (upd H l (.tup ys)))∨(bh X.K H p ys/\Q (.ref p) H))):=show _ by
 intro pins s σ H xs us Q I r h;obtain⟨p,ys,rfl,h⟩:=h;obtain⟨u,rfl,rx⟩:=vals1 r;cases rx;rcases h with⟨hq,q⟩|⟨hq,q⟩
 ·obtain⟨its,r',pl,hz⟩:=I.list hq;have hlen:=r'.length;refine call_tuple_list pl.isList (λh' kp=>?_) (by simp only[bU]<;>lia);have I1:Inv X pins σ H {s with heap:=h'}:=I.kept (t':=s.toks) kp;have I2:Inv X pins σ (upd H h'.objs.size (.tup ys)) {s with heap:=h'.push {cls:=.type "tuple",data:=.seq its.toArray}} :=
   I1.laid (t':=s.toks) (λb o e=>bx _ e) (aV _) (show cG X.prog X.w _ _ _ (.tup ys) from⟨hz,its,r',Dm _ _,λo q=>by rw[c8 _ rfl]at q;cases q;rfl⟩)
  exact⟨.ref h'.objs.size,_,I2,rfl,q _ (I1.hok.fresh (aV _))⟩
 ·obtain⟨its,r',pl,hz⟩:=I.tuple hq;exact call_tuple_same pl ⟨.ref p,H,I,rfl,q⟩
def vd(K:ao)(T:String)(x:V)(H:Hp):Prop:=match x with
 | .str _=>T="str"
 | .int _=>T="int"
 | .ref p=>(T="list"/\∃xs,bg K H p xs)∨(T="tuple"/\∃o,K.lookup p=some o/\o.cls=.type "tuple"/\o.dict=none) ∨
  (T="dict"/\((∃kvs,H p=some (.dK kvs))∨∃kvs,H p=some (.dT kvs)))∨(T="set"/\∃S n,H p=some (.set S n))
 |_=>False
theorem E5{pins:List (Addr×Obj)}{σ:St}{H:Hp}{s:Shared}{T:String}{x:V}{v:Value}(I:Inv X pins σ H s)(r:RelV x v)(ty:vd X.K T x H) :
 s.TypeIs v T/\∀a,v=.ref a->∃ob,s.heap.get? a=some ob/\ob.dict=none:=show _ by
 cases x with
 |str z =>
  obtain⟨t,rfl⟩:=r;cases (show T="str" from ty);exact⟨Dr s z t,λ_ e=>nomatch e⟩
 |int i =>
  obtain⟨t,rfl⟩:=r;cases (show T="int" from ty);exact⟨typeIs_int s i t,λ_ e=>nomatch e⟩
 |ref p =>
  cases r;rcases ty with⟨rfl,xs,hq⟩|⟨rfl,o,hk,hc,hd⟩|⟨rfl,hk⟩|⟨rfl,S,n,hk⟩
  ·obtain⟨its,_,pl,_⟩:=I.list hq;refine⟨pl.isList.typeIs,λa e=>?_⟩;cases e;obtain⟨o,n,e,c,hd,_⟩:=pl;exact⟨o,e,hd⟩
  ·refine⟨⟨o,I.cX p o hk,hc⟩,λa e=>?_⟩;cases e;exact⟨o,I.cX _ o hk,hd⟩
  ·have z:∃o,s.heap.get? p=some o/\o.ExactDict:=by
    rcases hk with⟨kvs,hk⟩|⟨kvs,hk⟩
    ·obtain⟨_,_,_,_,o,_,_,e,ex,_⟩:=I.hok p _ hk;exact⟨o,e,ex⟩
    ·obtain⟨_,_,_,_,o,_,_,e,ex,_⟩:=I.hok p _ hk;exact⟨o,e,ex⟩
   obtain⟨o,e,ex⟩:=z;refine⟨⟨o,e,ex.1⟩,λa e2=>?_⟩;cases e2;exact⟨o,e,ex.2.1⟩
  ·obtain⟨o,_,_,_,e,ex,_⟩:=I.hok p _ hk;refine⟨⟨o,e,ex.1⟩,λa e2=>?_⟩;cases e2;exact⟨o,e,ex.2.1⟩
 |_=>exact eI ty
def QN(K:ao)(T:String)(r:V->List V->Hp->VK->Prop)(to:TE):TE:=λσ H Q=>to σ H λx H1=>vd K T x H1/\r x [] H1 Q
def QP(K:ao)(T:String)(r:V->List V->Hp->VK->Prop)(to:TE)(t:TA):TE:=λσ H Q=>to σ H λx H1=>vd K T x H1/\t σ H1 λxs H2=>r x xs H2 Q
variable{o e:Expr}{es:List Expr}{to:TE}{t:TA}{name:Str}{apos cpos:Pos}{T id:String}{r:V->List V->Hp->VK->Prop}
theorem QQ(pa:PlainAttrs T)(slot:Slot T name id)(hty:typeOf (.builtin id)=pure (.type "method_descriptor"))(hm:m6 X id r)(ho:PE X o to)
 (hbase:attributeBase o name X.env (eval o X.env)=eval o X.env:=by rfl) (hline:(apos.endLine==cpos.line)=true:=by rfl):PE X (.Call (.Attribute o name apos) [] [] cpos) (QN X.K T r to):=show _ by
 intro pins s σ H Q I h;refine wpAny_Call_method0_late hbase hline (aF (ho pins s σ H _ I h) λv s1 ⟨x,H1,I1,r1,ty,q1⟩=>?_);obtain⟨h1,h2⟩:=E5 I1 r1 ty;exact⟨T,id,pa,slot,hty,h1,h2,Du rfl (PySem.evalArgs_none (hm pins s1 σ H1 x [] v [] Q I1 r1 .nil q1))⟩
theorem QR(pa:PlainAttrs T)(slot:Slot T name id)(hty:typeOf (.builtin id)=pure (.type "method_descriptor"))(hm:m6 X id r)(ho:PE X o to)(ha:PA X (e::es) t)
 (hbase:attributeBase o name X.env (eval o X.env)=eval o X.env:=by rfl)
 (hfew:((backTo cpos (starEach (e::es) X.env)).all (λx=>!x.1)&&(backToKw cpos (keywordEach [] X.env)).all (λx=>x.1.isSome)
  && decide ((e::es).length+([]:List Keyword).length+(if([]:List Keyword).isEmpty then 0 else 1)<30))=true:=by rfl)
 (hline:(apos.endLine==cpos.line)=true:=by rfl) (hs:starEach (e::es) X.env=(false,eval e X.env)::starEach es X.env:=by rfl) (hplain:(backTo cpos (starEach es X.env)).any (·.1)=false:=by rfl) :
 PE X (.Call (.Attribute o name apos) (e::es) [] cpos) (QP X.K T r to t):=show _ by
 intro pins s σ H Q I h;refine MZ hbase hfew hline rfl (aF (ho pins s σ H _ I h) λv s1 ⟨x,H1,I1,r1,ty,q1⟩=>?_);obtain⟨h1,h2⟩:=E5 I1 r1 ty;refine⟨T,id,pa,slot,hty,h1,h2,?_⟩;have hA:=ha cpos pins s1 σ H1 _ I1 q1;rw[hs]at hA ⊢;refine Du (by show(false||(backTo cpos (starEach es X.env)).any (·.1))=false;rw[hplain]<;>rfl) (Dv ?_);exact aF hA λus s2 z_16=>by obtain⟨vs,H2,I2,r2,q2⟩:=z_16;exact hm pins s2 σ H2 x vs v us Q I2 r1 r2 q2
end
def sd(X:Cx)(id:String)(r:V->List V->Hp->VK->Prop):Prop :=
 ∀(pins:List (Addr×Obj)) (s:Shared) (σ:St) (H:Hp) (x:V) (xs:List V) (v:Value) (us:List Value) (Q:VK),Inv X pins σ H s->RelV x v->Vals xs us->r x xs H Q ->
  wpAny (model X.prog X.w) X.A (call (.builtin id) (v::us)) (EP X pins σ Q) X.xe s
theorem Vals.one:∀{x:V} {us:List Value},Vals [x] us->∃u,us=[u]/\RelV x u
 |_,_,.cons r .nil=>⟨_,rfl,r⟩
theorem Vals.zero:∀{us:List Value},Vals [] us->us=[]
 |_,.nil=>rfl
theorem Vals.dropLast{xs:List V}{us:List Value}(h:Vals xs us):Vals xs.dropLast us.dropLast:=by
 induction h with
 |nil=>exact .nil
 |cons r t ih =>
  cases t with
  |nil=>exact .nil
  |cons q t'=>exact .cons r ih
theorem QS{α:Type}(l:List α):l.eraseIdx (l.length-1)=l.dropLast:=show _ by
 induction l with
 |nil=>rfl
 |cons a r ih =>
  cases r with
  |nil=>rfl
  |cons b r =>
   have e:(a::b::r).length-1=((b::r).length-1)+1:=by
    have h1:(a::b::r).length=r.length+2:=rfl;have h2:(b::r).length=r.length+1:=rfl;lia
   rw[e,List.eraseIdx_cons_succ,ih]
   all_goals rfl
section
variable{X:Cx}{pins:List (Addr×Obj)}{σ:St}{H:Hp}{s:Shared}{l b:Addr}{xs ys zs:List V}
theorem Inv.se{its its':List Value}{n:Nat}{f:Array Value->Array Value}{t':Nat}(I:Inv X pins σ H s)(hH:H l=some (.lst xs))
 (e:s.heap.get? l=some {cls:=.type "list",data:=.seq its.toArray n}) (hf:f its.toArray=its'.toArray) (hv:Vals ys its') (hz:ys.length<=sizeLine) :
 Inv X pins σ (upd H l (.lst ys)) {s with heap:=s.heap.update l (fc f),toks:=t'}:=show _ by
 have q:=PySem.IsL.update e f;rw[hf]at q;refine I.write (x:=l) (e:=l) (by rw[hH];exact trivial) (.inl rfl) (λb' u hb hu=>(rp s.heap (fc f) (bw hb)).trans hu) ⟨_,q⟩ ?_;exact⟨hz,its',_,hv,q⟩
theorem Inv.ve{its:List Value}{t':Nat}(I:Inv X pins σ H s)(hv:Vals ys its)(hz:ys.length<=sizeLine) :
 Inv X pins σ (upd H s.heap.objs.size (.lst ys)) {s with heap:=s.heap.push {cls:=.type "list",data:=.seq its.toArray},toks:=t'} :=
 I.laid (λ_ _ q=>bx _ q) (aV _) ⟨hz,its,0,hv,c8 _ rfl⟩
theorem Inv.fresh(I:Inv X pins σ H s):H s.heap.objs.size=none:=I.hok.fresh (aV _)
theorem Inv.lV(I:Inv X pins σ H s)(hH:H l=some (.lst xs)):xs.length<=sizeLine/\∃(its:List Value) (n:Nat),Vals xs its/\xs.length=its.length/\s.heap.get? l=some {cls:=.type "list",data:=.seq its.toArray n}:=by
 obtain⟨z,its,n,r,e⟩:=I.hok l _ hH;exact⟨z,its,n,r,r.length,e⟩
theorem QU{n:Nat}(h:n<=sizeLine):xD n=false:=by
 unfold xD;exact decide_eq_false (by lia)
end
section
variable{X:Cx}
def E6:V->List V->Hp->VK->Prop:=λx vs H Q=>∃l xs y,x=.ref l/\vs=[y]/\H l=some (.lst xs)/\xs.length<sizeLine/\Q .non (upd H l (.lst (xs++[y])))
theorem dq:sd X "list.append" E6:=show _ by
 intro pins s σ H x vs v us Q I rx rv h;obtain⟨l,xs,y,rfl,rfl,hH,hz,q⟩:=h;cases rx;obtain⟨u,rfl,ru⟩:=rv.one;obtain⟨z,its,n,r,hl,e⟩:=I.lV hH;refine rq dz ⟨_,e,rfl⟩ F.entry_list_append (F.args_list_append_2 _ _) (PySem.list_append l its.toArray n u (by rw[bU];lia)) ⟨e,?_⟩;refine⟨.non,_,I.se (its':=its++[u]) hH e (by simp) (r.append (.cons ru .nil)) ?_,rfl,q⟩;rw[aU,Dw];lia
def QV:V->List V->Hp->VK->Prop:=λx vs H Q=>∃l xs y,x=.ref l/\vs=[]/\H l=some (.lst xs)/\xs[xs.length-1]?=some y/\Q y (upd H l (.lst xs.dropLast))
theorem QW:sd X "list.pop" QV:=show _ by
 intro pins s σ H x vs v us Q I rx rv h;obtain⟨l,xs,y,rfl,rfl,hH,hy,q⟩:=h;cases rx;have hus:=rv.zero;subst hus;obtain⟨z,its,n,r,hl,e⟩:=I.lV hH;obtain⟨u,hu,ru⟩:=r.get hy;have hy':its.toArray[its.toArray.size-1]?=some u:=by
  show its.toArray[its.length-1]?=some u;rw[<-Array.getElem?_toList,<-hl];exact hu
 refine rq jj ⟨_,e,rfl⟩ F.entry_list_pop (F.args_list_pop_1 _) (MeetsSeq.list_pop_last l its.toArray n u hy' (by rw[bU];lia)) ⟨e,?_⟩;refine⟨y,_,I.se (its':=its.dropLast) hH e ?_ r.dropLast ?_,ru,q⟩
 ·show its.toArray.eraseIdxIfInBounds (its.toArray.size-1)=its.dropLast.toArray;rw[bU,List.eraseIdxIfInBounds_toArray,QS]
 ·rw[List.length_dropLast];lia
def E7:V->List V->Hp->VK->Prop:=λx vs H Q=>∃l xs,x=.ref l/\vs=[]/\H l=some (.lst xs)/\Q .non (upd H l (.lst []))
theorem QX:sd X "list.clear" E7:=show _ by
 intro pins s σ H x vs v us Q I rx rv h;obtain⟨l,xs,rfl,rfl,hH,q⟩:=h;cases rx;have hus:=rv.zero;subst hus;obtain⟨z,its,n,r,hl,e⟩:=I.lV hH;refine rq M0 ⟨_,e,rfl⟩ F.entry_list_clear (F.args_list_clear_1 _) (AutoSeq1.list_clear_list_0 l its.toArray n (by rw[bU];lia)) ⟨e,?_⟩;exact⟨.non,_,I.se (its':=[]) (ys:=[]) hH e rfl .nil (b8 _),rfl,q⟩
def E8:R2:=λx y H Q=>∃l b xs zs,x=.ref l/\y=.ref b/\H l=some (.lst xs)/\H b=some (.lst zs)/\xs.length+zs.length<=sizeLine/\∀p,H p=none->Q (.ref p) (upd H p (.lst (xs++zs)))
theorem yG:cO X (binaryOp .Add) E8:=show _ by
 intro pins s σ H x y v u Q I rx ry h;obtain⟨l,b,xs,zs,rfl,rfl,hH,hB,hz,q⟩:=h;cases rx;cases ry;obtain⟨z,its,n,r,hl,e⟩:=I.lV hH;obtain⟨z2,its2,n2,r2,hl2,e2⟩:=I.lV hB;refine PySem.P.add_list e e2 ?_ (by rw[bU,bU];lia);have ea:its.toArray++its2.toArray=(its++its2).toArray:=by simp
 rw[ea];exact⟨.ref _,_,I.ve (t':=s.toks) (r.append r2) (by rw[aU];lia),rfl,q _ I.fresh⟩
end
end L2
namespace E9
open PySem PySem.W PySem.Calls PyProof.Rows
theorem QY{P:Params}{h:Heap}:∀(ns:List Int) (vs:List Value),WellAll P h vs (ns.map WData.int)->IntsAre vs ns:=show _ by
 intro ns
 induction ns with
 |nil =>
  intro vs w;rw[mM]at w;cases w;exact .nil
 |cons n ns ih =>
  intro vs w;rw[bO]at w;cases w with
  |cons a b =>
   cases a;exact .cons _ _ (ih _ b)
theorem QZ{l:OpenLaw}{n:Nat}(hn:l.most=some n){P:Params}{h:Heap}{args:List WData}{vals:List Value}
 (hpre:l.row.toRowW.claim.pre args=true) (hwl:WellAll P h vals args) :
 ∃a vs ns,vals=[Value.ref a]/\args=[WData.list (ns.map WData.int)]/\h.get? a=some {cls:=.type "list",data:=.seq vs.toArray}/\IntsAre vs ns/\ns.length<=n:=show _ by
 have hsh:WShape.hasAll [] args [.list .int]=true:=(pre_splitW hpre).1;have hc:l.pre.holds [] {args:=args}=true:=(pre_splitW hpre).2;obtain⟨d,r,rfl,h1,h2⟩:=hasAllW_cons hsh;obtain rfl:=hasAllW_nil h2;obtain⟨xs,rfl,h3⟩:=hasW_list h1;obtain⟨ns,rfl⟩:=items_int h3;have hlen:ns.length<=n:=by
  unfold OpenLaw.pre at hc;have h4:(WTm.not (.lt (.lit (.int (n:Int))) (.len (.arg 0)))).holds [] {args:=[.list (ns.map .int)]}=true:=by
   have h4:=(holds_andW hc).1;rw[hn]at h4;exact h4
  have h5:=condW_of h4 (w_not (w_lt w_lit (w_len_list (w_arg rfl))));rw[aB]at h5;refine M1 λq=>?_;have q':(n:Int)<((ns.length:Nat):Int):=by lia
  first
   |(rw[decide_eq_true q']at h5;exact absurd h5 (by decide))
   |(simp at h5;lia)
 cases hwl with
 |cons w1 w2 =>
  cases w2;cases w1 with
  |list ho hall=>exact⟨_,_,ns,rfl,rfl,ho,QY ns _ hall,hlen⟩
theorem Q0(l:OpenLaw)(args:List WData):l.row.toRowW.claim.post args (.bool true) args=true :=
 postW_of (r:=l.row.toRowW) (X:=(true==true))
  (show WShape.has [] (.bool true) .bool=true by first|rfl|decide|simp[WShape.has,WShape.arms,WShape.armsAll])
  (show(WTm.eq .res (.lit (.bool true))).value [] {args:=args,res:=some (.bool true),after:=args}=some (.bool (true==true)) from w_eq_bool (w_res rfl) w_lit) rfl
theorem Q1{l:OpenLaw}{n:Nat}{q:Program}{loose:List Str}{XP:(Str->Option Value)->Heap->Prop}{YP:World->Heap->Prop}{d:DefRec}
 (hn:l.most=some n) (hdf:d.params.defaults=[])
 (call:∀(w:World) (s₀ s₁:Shared) (mg mb:Str->Option Value) (fa:Addr) (o:Obj) (pm cd doc:Value) (a:Addr) (vs:List Value) (ns:List Int),
  Ground q loose [] XP w s₀ mg mb s₁.heap->YP w s₁.heap ->
  s₁.heap.get? fa=some o->o.data=.func (docDef d.name d.params d.body d.scope pm cd doc)->s₁.heap.CodeRec cd d.name->mg d.name=some (.ref fa) ->
  s₁.heap.get? a=some {cls:=.type "list",data:=.seq vs.toArray}->IntsAre vs ns->ns.length<=n->s₁.gens=#[] ->
  codeAny (model l.prog w) callerA (.call (.ref fa) ⟨[.ref a],[]⟩) (λr s'=>r=.ok (.ret (.bool true))/\OldK s₁.heap s'.heap/\s'.os=s₁.os/\AllBare s'.gens) s₁) :
 WalkO q loose XP YP l.row.toRowW d [] (λf vs=>Dx f vs):=show _ by
 intro w s₀ s₁ mg mb G Y fa o pm cd doc dV kV ho hd hcd hD hmg hg args vals as hpre hlay hrd hwl hlo;obtain rfl:dV=.none:=Dflts.none hD hdf;obtain rfl:kV=.none:=Dflts.noKw hD;obtain⟨a,vs,ns,rfl,rfl,hobj,hints,hlen⟩:=QZ hn hpre hwl;refine enter_call (uk (call w s₀ s₁ mg mb fa o pm cd doc a vs ns G Y ho (fd_plain hd) hcd hmg hobj hints hlen hg) λr s' hq=>?_);obtain⟨rfl,h2,h3,h4⟩:=hq;exact⟨.inl ⟨.bool true,.bool true,[],rfl,λ_=>rfl,.bool true,Q0 l _,λ_=>⟨List.Pairwise.nil,λ_ hm=>(nomatch hm)⟩⟩,h2,h3,h4⟩
end E9
namespace L2
open PySem PySem.Spec PyProof.Rows
theorem sf:∀{vs:List Value} {ns:List Int},IntsAre vs ns->Vals (ns.map V.int) vs
 |_,_,.nil=>.nil
 |_,_,.cons n t h=>.cons ⟨t,rfl⟩ (sf h)
def sg(H:Hp):Prop:=∀b,H b=none∨∃o xs,H b=some (.dB o (.lst xs))
theorem Q2{P:Program}{w:World}{K:ao}{mg mb:Str->Option Value}{CX:fV}{k:Nat}{fa a:Addr}{fd:FuncData}{x:Str}{sp:Sp}{s₁:Shared}{vs:List Value}{ns:List Int}
 (KX:K.In s₁.heap) (hns:s₁.heap.Ns mainGlobals mg) (hb:s₁.heap.Ns builtinsNs mb) (hbb:∀x:Str,x≠"__name__"->mb x=bootBuiltins x) (hlim:s₁.heap.NoLimit) (hg:s₁.gens=#[])
 (ha:s₁.heap.get? a=some {cls:=.type "list",data:=.seq vs.toArray}) (hi:IntsAre vs ns) (hl:ns.length<=sizeLine) (hr:bR k callerA)
 (F:∀base:Heap,K.In base->base.Ns mainGlobals mg->dj P w K mg base CX k fa fd [x] sp) (hbind:∀(s:Shared) (u:Value),BindsTo s fd ⟨[u],[]⟩ [(x,u)])
 (hsp:∀H:Hp,sg H->bg K H a (ns.map V.int)->sp [.ref a] H (λv _=>v=.bl true) λ_ _ _=>False)
 (yH:∀H e s',CX [] H s₁ (λ_ _ _=>False) e s'->False) :
 codeAny (model P w) callerA (.call (.ref fa) ⟨[.ref a],[]⟩) (λr s'=>r=.ok (.ret (.bool true))/\OldK s₁.heap s'.heap/\s'.os=s₁.os/\AllBare s'.gens) s₁:=show _ by
 have rv:=sf hi;have lenV:=hi.length;have core:∀H:Hp,sg H->bg K H a (ns.map V.int)->b9 P w H s₁.heap->(∀b,H b≠none->b=a)->(H a≠none->K.lookup a=none) ->
  codeAny (model P w) callerA (.call (.ref fa) ⟨[.ref a],[]⟩) (λr s'=>r=.ok (.ret (.bool true))/\OldK s₁.heap s'.heap/\s'.os=s₁.os/\AllBare s'.gens) s₁:=by
  intro H hO hS hok hA hK;have E_:∀{b:Addr} {o:Obj},s₁.heap.get? b=some o->H b=none->(kf s₁.heap H).get? b=some o:=λe n=>Oc e n;have rW:∀{b:Addr} {o:Obj} {es:Array DictEntry} {ep:Nat},s₁.heap.get? b=some o->o.data=.dict es ep->H b=none:=λ{b o es ep} e d=>by
   cases q:H b with
   |none=>rfl
   |some u =>
    have e':b=a:=hA b (by rw[q];simp);subst e';rw[ha]at e;cases e;have d':Data.seq vs.toArray _=Data.dict es ep:=d;cases d'
  have vf:∀{b:Addr} {m:Str->Option Value},s₁.heap.Ns b m->(kf s₁.heap H).Ns b m:=λ{b m} sh=>by obtain⟨o,es,ep,e,d,r⟩:=sh;exact⟨o,es,ep,E_ e (rW e d),d,r⟩
  have Fb:K.In (kf s₁.heap H):=λb o e=>E_ (KX b o e) (by
   cases q:H b with
   |none=>rfl
   |some u =>
    have e':b=a:=hA b (by rw[q];simp);subst e';rw[hK (by rw[q];simp)]at e;cases e)
  have hM:Mod K mg (kf s₁.heap H):=⟨Fb,vf hns,⟨mb,vf hb,hbb⟩,let⟨mc,h1,h2⟩:=hlim;⟨mc,vf h1,h2⟩⟩;have e0:mZ P w K mg (kf s₁.heap H) callerA [] s₁ H:=⟨rfl,hM,λb o e=>Od e,Nat.le_of_eq (Ob _ _),trivial,λb hb=>absurd (show b∈([]:List Addr) from hb) (by simp),hok,.of_eq hg⟩;refine uk ((F _ Fb (vf hns)).run callerA [] s₁ H ⟨[.ref a],[]⟩ [.ref a] [.ref a] _ _ hr e0 (hbind s₁ (.ref a)) (.cons rfl .nil) (hsp H hO hS)) λr s' h=>?_;cases r with
  |error e=>exact(yH H e s' h).elim
  |ok fl =>
   cases fl with
   |next=>exact eI h
   |brk=>exact eI h
   |cont=>exact eI h
   |ret u =>
    obtain⟨v,H',os,bare,un,hok',r',q⟩:=h;have q':v=.bl true:=q;subst q';obtain rfl:u=Value.bool true:=r';refine⟨rfl,OldK.of_keep λb o e=>?_,os,bare⟩;cases q:H b with
    |none=>exact un.keep b o e q (by intro z;exact absurd (show b∈([]:List Addr) from z) (by simp)) (by simp)
    |some u =>
     rcases hO b with z|⟨ob,xs,z⟩
     ·rw[q]at z;cases z
     ·have z2:=un.gi b ob _ z;obtain⟨e1,_⟩:=hok b _ z;obtain⟨e2,_⟩:=hok' b _ z2;rw[e]at e1;cases e1;exact e2
 cases hk:K.lookup a with
 |some o =>
  have e:=KX a o hk;rw[ha]at e;cases e;refine core (λ_=>none) (λ_=>.inl rfl) (.inr ⟨_,vs.toArray,_,hk,rfl,rfl,rfl,by rw[bU,lenV];exact hl,by simpa using rv⟩) (λb u z=>by have z':(none:Option HO)=some u:=z;cases z') (λb z=>absurd rfl z) λz=>absurd rfl z
 |none =>
  refine core (λb=>if b=a then some (.dB {cls:=.type "list",data:=.seq vs.toArray} (.lst (ns.map V.int))) else none) (λb=>?_) (.inl (.inr ⟨{cls:=.type "list",data:=.seq vs.toArray},if_pos rfl⟩)) (λb u z=>?_) (λb z=>?_) λ_=>hk
  ·by_cases hb:b=a
   ·exact .inr ⟨_,_,if_pos hb⟩
   ·exact .inl (if_neg hb)
  ·by_cases hb:b=a
   ·have z':=(if_pos hb).symm.trans z;cases z';subst hb;exact⟨ha,by rw[aB];exact hl,vs,_,rv,ha⟩
   ·have z':=(if_neg hb).symm.trans z;cases z'
  ·by_cases hb:b=a
   ·exact hb
   ·exact absurd (if_neg hb) z
theorem Q4{l:Dy}{n k:Nat}{q:Program}{loose:List Str}{XP:(Str->Option Value)->Heap->Prop}{YP:World->Heap->Prop}{d:DefRec}{K:Params->ao}{CX:World->fV}{sp:World->Sp}{x:Str}
 (hn:l.most=some n) (hn2:n<=sizeLine) (hdf:d.params.defaults=[]) (hr:bR k callerA)
 (hY:∀(w:World) (h:Heap),YP w h->(K w.params).In h)
 (F:∀(w:World) (mg:Str->Option Value) (fa:Addr) (h:Heap),(K w.params).In h->h.Ns mainGlobals mg->mg d.name=some (.ref fa) ->
  ∃fd:FuncData,(∀(s:Shared) (u:Value),BindsTo s fd ⟨[u],[]⟩ [(x,u)]) /\
   ∀base:Heap,(K w.params).In base->base.Ns mainGlobals mg->dj l.prog w (K w.params) mg base (CX w) k fa fd [x] (sp w))
 (hsp:∀(w:World) (H:Hp) (a:Addr) (ns:List Int),ns.length<=n->sg H->bg (K w.params) H a (ns.map V.int)->sp w [.ref a] H (λv _=>v=.bl true) λ_ _ _=>False)
 (yH:∀(w:World) (H:Hp) (s:Shared) (e:Value) (s':Shared),CX w [] H s (λ_ _ _=>False) e s'->False) :
 M3 q loose XP YP l.row.toRowW d [] (λf vs=>Dx f vs):=show _ by
 refine E9.Q1 hn hdf λw s₀ s₁ mg mb fa o pm cd doc a vs ns G Y ho hd hcd hmg hobj hints hlen hg=>?_;have KX:=hY w _ Y;obtain⟨fd,hb,hF⟩:=F w mg fa _ KX G.T.g hmg;exact Q2 KX G.T.g G.T.b G.T.builtins G.T.nolimit hg hobj hints (cj hlen hn2) hr hF hb (λH hO hS=>hsp w H a ns hlen hO hS) λH e s'=>yH w H s₁ e s'
def inClass(s:Stmt)(j:Nat):Stmt:=match s with
 | .ClassDef _ _ _ body _ _ _ _ _ _ _=>body.getD j (.Pass ⟨0,0,0,0⟩)
 |_=>.Pass ⟨0,0,0,0⟩
def bc(s:Stmt):Arguments:=match s with
 | .FunctionDef _ a _ _ _ _ _ _ _ _=>a
 |_=>{posonlyargs:=[],args:=[],vararg:=none,kwonlyargs:=[],kw_defaults:=[],kwarg:=none,defaults:=[]}
def aR(s:Stmt):List Stmt:=match s with
 | .FunctionDef _ _ b _ _ _ _ _ _ _=>b
 |_=>[]
def ak(s:Stmt):Scope:=match s with
 | .FunctionDef _ _ _ _ _ _ sc _ _ _=>sc
 |_=>{kind:=.function,names:=[],isGenerator:=false,isCoroutine:=false}
abbrev E0:XK:=λ_ _ _=>False
structure m7(K:ao)(x qual:Str)(st:Stmt)(f:Addr)(fd:FuncData):Prop where
 ex:∃(oc:Value) (od:Option Addr) (kV doc pm:Value) (an:Option Addr) (cdv ct:Value) (osl:Array (Option Value)),
  fd=a8 x qual (bc st) (aR st) (ak st) .none kV doc pm an cdv ct/\K.lookup f=some ⟨oc,od,.func fd,osl⟩/\bt K cdv qual=true
 kp:a7 K (.ref f)=true
section
variable{P:Program}{w:World}{K:PySem.W.Frag}{mg:Str->Option Value}{base:Heap}
theorem m7.binds{x qual:Str}{st:Stmt}{f:Addr}{fd:FuncData}{ps:List Str}(F:m7 K x qual st f fd)
 (h:∀(kV doc pm:Value) (an:Option Addr) (cdv ct:Value) (us:List Value),us.length=ps.length->bindArgs (a8 x qual (bc st) (aR st) (ak st) .none kV doc pm an cdv ct) ⟨us,[]⟩=pure (ps.zip us)):Binds K fd ps []:=show _ by
 obtain⟨oc,od,kV,doc,pm,an,cdv,ct,osl,rfl,lk,hcd⟩:=F.ex;exact .all (h kV doc pm an cdv ct)
theorem yI{x qual:Str}{st:Stmt}{f:Addr}{oc:Value}{od an:Option Addr}{osl:Array (Option Value)}{kV doc pm cdv ct:Value}(l:K.lookup f=some ⟨oc,od,.func (a8 x qual (bc st) (aR st) (ak st) .none kV doc pm an cdv ct),osl⟩)
 (c:bt K cdv qual=true) (k:a7 K (.ref f)=true):m7 K x qual st f (a8 x qual (bc st) (aR st) (ak st) .none kV doc pm an cdv ct):=⟨⟨oc,od,kV,doc,pm,an,cdv,ct,osl,rfl,l,c⟩,k⟩
end
theorem o6{A:Around}{k:Nat}(hr:bR k A):A.units+5<cLine:=um (Nat.add_le_add_left (by decide:5<=64) _) hr.units
theorem o7{A B:Prop}(h:B):if false=true then A else B:=by
 rw[if_neg c7];exact h
theorem lW{A B:Prop}(h:A):if true=true then A else B:=by
 rw[if_pos rfl];exact h
theorem yJ{c A B:Prop}[Decidable c](hc:c)(h:B):if(!decide c)=true then A else B:=by
 rw[decide_eq_true hc];exact o7 h
section
variable{κ:Type}[DecidableEq κ]
def gm(kvs:List (κ×V))(k:κ):Option V:=(kvs.find? λkv=>decide (kv.1=k)).map (·.2)
def putK(kvs:List (κ×V))(k:κ)(v:V):List (κ×V) :=
 if(kvs.any λkv=>decide (kv.1=k))=true then kvs.map (λkv=>if kv.1=k then(kv.1,v) else kv) else kvs++[(k,v)]
theorem vg{p:κ×V}{r:List (κ×V)}{k:κ}(e:p.1=k):gm (p::r) k=some p.2:=by simp[gm,j6,e]
theorem vh{p:κ×V}{r:List (κ×V)}{k:κ}(e:¬p.1=k):gm (p::r) k=gm r k:=by simp[gm,j6,e]
theorem Fc(k:κ):∀kvs:List (κ×V),(kvs.any λkv=>decide (kv.1=k))=(gm kvs k).isSome
 |[]=>rfl
 |p::r=>by
  rw[mL];by_cases e:p.1=k
  ·simp only[vg e,decide_eq_true e,Bool.true_or,M4]
  ·rw[vh e,decide_eq_false e,Bool.false_or];exact Fc k r
theorem vi(kvs:List (κ×V))(k:κ)(v:V):(putK kvs k v).length<=kvs.length+1:=by
 unfold putK
 split
 ·rw[aB];lia
 ·rw[aU,bC,cE];lia
theorem fI.si{o:Option V}{u:Option Value}(r:fI o u):o.isSome=u.isSome:=by
 cases o with
 |none=>cases u with
  |none=>rfl
  |some _=>exact(show False from r).elim
 |some _=>cases u with
  |none=>exact(show False from r).elim
  |some _=>rfl
theorem KV.val{kvs:List (κ×V)}{vs:List (κ×Value)}(r:KV kvs vs)(k:κ):fI (gm kvs k) (valueAt vs k):=show _ by
 unfold KV at r
 induction r with
 |nil=>exact True.intro
 |@cons p q ps qs h t ih =>
  obtain⟨h1,h2⟩:=h;by_cases e:p.1=k
  ·have e':q.1=k:=h1.symm.trans e;have b:valueAt (q::qs) k=some q.2:=by simp[valueAt,j6,e']
   rw[vg e,b];exact h2
  ·have e':¬q.1=k:=λz=>e (h1.trans z);have b:valueAt (q::qs) k=valueAt qs k:=by simp[valueAt,j6,e']
   rw[vh e,b];exact ih
theorem KV.any{kvs:List (κ×V)}{vs:List (κ×Value)}(r:KV kvs vs)(k:κ):(kvs.any λkv=>decide (kv.1=k))=vs.any λkv=>decide (kv.1=k):=by
 unfold KV at r
 induction r with
 |nil=>rfl
 |cons h t ih=>rw[mL,mL,ih,h.1]
theorem KV.repl{kvs:List (κ×V)}{vs:List (κ×Value)}(r:KV kvs vs)(k:κ){y:V}{u:Value}(ry:RelV y u) :
 KV (kvs.map λkv=>if kv.1=k then(kv.1,y) else kv) (vs.map λkv=>if kv.1=k then(kv.1,u) else kv):=show _ by
 unfold KV at r ⊢
 induction r with
 |nil=>exact .nil
 |@cons p q ps qs h t ih =>
  rw[bO,bO];refine .cons ?_ ih;obtain⟨h1,h2⟩:=h;by_cases e:p.1=k
  ·rw[if_pos e,if_pos (h1.symm.trans e)];exact⟨h1,ry⟩
  ·rw[if_neg e,if_neg (λz=>e (h1.trans z))];exact⟨h1,h2⟩
theorem KV.put{kvs:List (κ×V)}{vs:List (κ×Value)}(r:KV kvs vs)(k:κ){y:V}{u:Value}(ry:RelV y u):KV (putK kvs k y) (stored vs k u):=show _ by
 unfold putK stored;rw[r.any k];by_cases e:(vs.any λkv=>decide (kv.1=k))=true
 ·rw[if_pos e,if_pos e];exact r.repl k ry
 ·rw[if_neg e,if_neg e];exact Paired.snoc r ⟨rfl,ry⟩
theorem KV.length{kvs:List (κ×V)}{vs:List (κ×Value)}(r:KV kvs vs):kvs.length=vs.length:=Paired.length r
end
theorem o8{P:Program}{w:World}{k:Key}{u:Value}(r:RelV (kV k) u):(eT P w).is k u=true:=by
 cases k with
 |inl i=>obtain⟨t,e⟩:=(show ∃t,u=Value.int i t from r);subst e;exact yb P w i t
 |inr x=>obtain⟨t,e⟩:=(show ∃t,u=Value.str x t from r);subst e;exact yc P w x t
abbrev KT(H:Hp):List (DK×V)->List (DK×Addr×Value)->Prop:=Paired λp q=>p.1=q.1/\ke H p.1 q.2.1/\RelV p.2 q.2.2
theorem KT.val{H:Hp}{kvs:List (DK×V)}{xs:List (DK×Addr×Value)}(r:KT H kvs xs)(k:DK):fI (gm kvs k) ((atKey xs k).map (·.2)):=show _ by
 induction r with
 |nil=>exact True.intro
 |@cons p q ps qs h t ih =>
  obtain⟨h1,_,h2⟩:=h;by_cases e:p.1=k
  ·have e':q.1=k:=h1.symm.trans e;have b:atKey (q::qs) k=some q.2:=by simp[atKey,j6,e']
   rw[vg e,b];exact h2
  ·have e':¬q.1=k:=λz=>e (h1.trans z);have b:atKey (q::qs) k=atKey qs k:=by simp[atKey,j6,e']
   rw[vh e,b];exact ih
theorem KT.repl{H:Hp}{kvs:List (DK×V)}{xs:List (DK×Addr×Value)}(r:KT H kvs xs)(k:DK){y:V}{u:Value}(ry:RelV y u) :
 KT H (kvs.map λkv=>if kv.1=k then(kv.1,y) else kv) (xs.map (putAt k u)):=show _ by
 induction r with
 |nil=>exact .nil
 |@cons p q ps qs h t ih =>
  rw[bO,bO];refine .cons ?_ ih;obtain⟨h1,h2,h3⟩:=h;unfold putAt;by_cases e:p.1=k
  ·rw[if_pos e,if_pos (h1.symm.trans e)];exact⟨h1,h2,ry⟩
  ·rw[if_neg e,if_neg (λz=>e (h1.trans z))];exact⟨h1,h2,h3⟩
theorem KT.put{H:Hp}{kvs:List (DK×V)}{xs:List (DK×Addr×Value)}(r:KT H kvs xs)(k:DK){b:Addr}{y:V}{u:Value}(hb:ke H k b)(ry:RelV y u) :
 KT H (putK kvs k y) (storedH xs k b u):=show _ by
 have e:(kvs.any λkv=>decide (kv.1=k))=(atKey xs k).isSome:=by
  rw[Fc,(r.val k).si,Dz]
 unfold putK storedH;rw[e];by_cases q:(atKey xs k).isSome=true
 ·rw[if_pos q,if_pos q];exact r.repl k ry
 ·rw[if_neg q,if_neg q];exact Paired.snoc r ⟨rfl,hb,ry⟩
theorem KT.keeps{H H':Hp}{kvs:List (DK×V)}{xs:List (DK×Addr×Value)}(r:KT H kvs xs)(ht:∀b ys,H b=some (.tup ys)->H' b=some (.tup ys)):KT H' kvs xs :=
 Paired.jq r λ_ _ z=>⟨z.1,z.2.1.mono ht,z.2.2⟩
section
variable{P:Program}{w:World}{H:Hp}{h:Heap}{a:Addr}
theorem Fe{u:HO}(ok:b9 P w H h)(e:Rd H a u):cG P w H h a u:=e.ok ok
theorem sj{kvs:List (Key×V)}(ok:b9 P w H h)(e:Rd H a (.dK kvs)):kvs.length<=sizeLine/\(a==sysModules)=false/\∃vs,KV kvs vs/\h.DictOf (eT P w) a vs :=
 show cG P w H h a (.dK kvs) from Fe ok e
theorem Ff{kvs:List (Key×V)}(ok:b9 P w H h)(e:H a=some (.dK kvs)):kvs.length<=sizeLine/\(a==sysModules)=false/\∃vs,KV kvs vs/\h.DictOf (eT P w) a vs:=sj ok (.inl e)
mutual
theorem key_is{H:Hp}{h:Heap}(ok:b9 P w H h):∀{k:DK} {v:V} {u:Value},jm H k v->RelV v u->dP h k u
 |_,_,_,.int i,r=>by obtain⟨t,e⟩:=r;subst e;exact .int i t
 |_,_,_,.str x,r=>by obtain⟨t,e⟩:=r;subst e;exact .str x t
 |_,_,_,.tup (a:=a) (vs:=vs) h1 h2,r=>by
  obtain⟨_,its,rv,⟨o,g1,g2,n,g3⟩,_⟩:=(show cG P w H h a (.tup vs) from ok a _ h1);cases (show _=Value.ref a from r);exact .tup g1 g2 g3 (by simpa using Fg ok h2 rv)
theorem Fg{H:Hp}{h:Heap}(ok:b9 P w H h):∀{ks:List DK} {vs:List V} {us:List Value},jo H ks vs->Vals vs us->dI h ks us
 |_,_,_,.nil,r=>by cases r;exact .nil
 |_,_,_,.cons h1 h2,r=>by
  cases r with
  |cons r1 r2=>exact .cons (key_is ok h1 r1) (Fg ok h2 r2)
end
theorem sk{k:DK}(ok:b9 P w H h)(e:ke H k a):(oV P w).is h k a:=⟨key_is ok e.at_ rfl,e.deep⟩
theorem vj{A:Around}(hu:A.units+5<cLine):(oV P w).room A.in1:=by
 show A.units+1+4<cLine;lia
theorem so{kvs:List (DK×V)}(ok:b9 P w H h)(e:Rd H a (.dT kvs)):kvs.length<=sizeLine/\(a==sysModules)=false /\
 ∃xs,KT H kvs xs/\h.DictOfH (oV P w) a xs:=show _ by
 obtain⟨z,y,xs,r,o,es,ep,h1,h2,h3,h4,h5⟩:=(show cG P w H h a (.dT kvs) from Fe ok e);refine⟨z,y,xs,r,o,es,ep,h1,h2,h3,h4,λx hx=>?_,h5⟩;have all:∀{l:List (DK×V)} {m:List (DK×Addr×Value)},KT H l m->∀x∈m,(oV P w).is h x.1 x.2.1:=by
  intro l m q
  induction q with
  |nil=>intro x hx;exact nomatch hx
  |@cons p q ps qs hq t ih =>
   intro x hx;rcases bF.mp hx with e|hx
   ·subst e;exact sk ok (by rw[<-hq.1];exact hq.2.1)
   ·exact ih x hx
 exact all r x hx
theorem Q5{kvs:List (DK×V)}(ok:b9 P w H h)(e:H a=some (.dT kvs)):kvs.length<=sizeLine/\(a==sysModules)=false /\
 ∃xs,KT H kvs xs/\h.DictOfH (oV P w) a xs:=so ok (.inl e)
end
def fk(H:Hp)(a:Addr)(y:V)(r:Option V):Prop :=
 (∃kvs k,Rd H a (.dK kvs)/\y=kV k/\r=gm kvs k)∨∃kvs k b,Rd H a (.dT kvs)/\y=.ref b/\ke H k b/\r=gm kvs k
def su(H:Hp)(a:Addr)(y v:V)(H':Hp):Prop :=
 (∃kvs k,H a=some (.dK kvs)/\y=kV k/\kvs.length<sizeLine/\H'=upd H a (.dK (putK kvs k v))) ∨
 ∃kvs k b,H a=some (.dT kvs)/\y=.ref b/\ke H k b/\kvs.length<sizeLine/\H'=upd H a (.dT (putK kvs k v))
theorem fk.k{H:Hp}{a:Addr}{kvs:List (Key×V)}{k:Key}(e:H a=some (.dK kvs)):fk H a (kV k) (gm kvs k):=.inl ⟨kvs,k,.inl e,rfl,rfl⟩
theorem su.k{H:Hp}{a:Addr}{kvs:List (Key×V)}{k:Key}{v:V}(e:H a=some (.dK kvs))(hl:kvs.length<sizeLine):su H a (kV k) v (upd H a (.dK (putK kvs k v))):=.inl ⟨kvs,k,e,rfl,hl,rfl⟩
section
variable{X:Cx}{pins:List (Addr×Obj)}{σ:St}{H:Hp}{s:Shared}{a:Addr}{y v:V}{u r:Value}{o:Option V}{A:Around}{E:Value->Shared->Prop}
theorem Inv.big(I:Inv X pins σ H s):sysModules<s.heap.objs.size:=by
 have h:mainGlobals<s.heap.objs.size:=(I.mod.glob.keeps I.bk).lt;exact DA (by decide) h
theorem Q6{Q:Value->Shared->Prop}(hu:A.units+5<cLine)(I:Inv X pins σ H s)(g:fk H a y (some v))(ry:RelV y u)(h:∀w' s',Inv X pins σ H s'->RelV v w'->Q w' s') :
 wpAny (model X.prog X.w) A (getItem (.ref a) u) Q E s:=show _ by
 rcases g with⟨kvs,k,e,ey,l⟩|⟨kvs,k,b,e,ey,eb,l⟩
 ·subst ey;obtain⟨z,hd,vs,rel,dd⟩:=sj I.hok e;obtain⟨w',hw,h_⟩:=fI.some_of (v:=v) (o:=valueAt vs k) (by rw[l];exact rel.val k);exact wpAny_getItem_of (o8 ry) dd.mapOf hw (h w' _ (I.tok _) h_)
 ·subst ey;cases (show u=Value.ref b from ry);obtain⟨z,hd,xs,rel,dd⟩:=so I.hok e;obtain⟨w',hw,h_⟩:=fI.some_of (v:=v) (o:=(atKey xs k).map (·.2)) (by rw[l];exact rel.val k);obtain⟨p,hp,hp2⟩:=dA.mp hw;refine wpAny_getItem_heap (vj hu) (sk I.hok eb) dd hp ?_;rw[hp2];exact h w' _ (I.tok _) h_
theorem Q7{Q:Value->Shared->Prop}(hu:A.units+5<cLine)(I:Inv X pins σ H s)(g:fk H a y o)(ry:RelV y u)(h:∀s',Inv X pins σ H s'->Q (.bool o.isSome) s') :
 wpAny (model X.prog X.w) A (compareOp .In u (.ref a)) Q E s:=show _ by
 rcases g with⟨kvs,k,e,ey,l⟩|⟨kvs,k,b,e,ey,eb,l⟩
 ·subst ey;obtain⟨z,hd,vs,rel,dd⟩:=sj I.hok e;refine wpAny_in_of (o8 ry) hd dd.mapOf ?_;rw[<-(rel.val k).si,<-l];exact h _ (I.tok _)
 ·subst ey;cases (show u=Value.ref b from ry);obtain⟨z,hd,xs,rel,dd⟩:=so I.hok e;refine wpAny_in_heap (vj hu) (sk I.hok eb) hd dd ?_;have q:=(rel.val k).si;rw[Dz]at q;rw[<-q,<-l];exact h _ (I.tok _)
theorem Fh{Q:Value->Shared->Prop}(hu:A.units+5<cLine)(I:Inv X pins σ H s)(g:fk H a y o)(ry:RelV y u)(h:∀s',Inv X pins σ H s'->Q (.bool (!o.isSome)) s') :
 wpAny (model X.prog X.w) A (compareOp .NotIn u (.ref a)) Q E s:=show _ by
 rcases g with⟨kvs,k,e,ey,l⟩|⟨kvs,k,b,e,ey,eb,l⟩
 ·subst ey;obtain⟨z,hd,vs,rel,dd⟩:=sj I.hok e;refine wpAny_notIn_of (o8 ry) hd dd.mapOf ?_;rw[<-(rel.val k).si,<-l];exact h _ (I.tok _)
 ·subst ey;cases (show u=Value.ref b from ry);obtain⟨z,hd,xs,rel,dd⟩:=so I.hok e;refine wpAny_notIn_heap (vj hu) (sk I.hok eb) hd dd ?_;have q:=(rel.val k).si;rw[Dz]at q;rw[<-q,<-l];exact h _ (I.tok _)
theorem yK{h':Heap}{t':Nat}{ob:HO}(I:Inv X pins σ H s)(mu:rJ (H a))(hs:fF a s.heap h')(he:∃q,h'.get? a=some q)(new:cG X.prog X.w (upd H a ob) h' a ob) :
 Inv X pins σ (upd H a ob) {s with heap:=h',toks:=t'} :=
 I.write (x:=a) (e:=a) mu (.inl rfl) (λb q hb z=>(hs.2 b hb).trans z) he new
theorem Fj{P:Program}{w:World}{H':Hp}{h':Heap}{kvs:List (Key×V)}{vs:List (Key×Value)}(z:kvs.length<=sizeLine)(hd:(a==sysModules)=false)(rel:KV kvs vs)(dd:h'.DictOf (eT P w) a vs) :
 cG P w H' h' a (.dK kvs):=⟨z,hd,vs,rel,dd⟩
theorem Q8{H':Hp}{Q:Unit->Shared->Prop}(hu:A.units+5<cLine)(I:Inv X pins σ H s)(g:su H a y v H')(ry:RelV y u)(rv:RelV v r)(h:∀s',Inv X pins σ H' s'->Q () s') :
 wpAny (model X.prog X.w) A (setItem (.ref a) u r) Q E s:=show _ by
 rcases g with⟨kvs,k,e,ey,l,eH⟩|⟨kvs,k,b,e,ey,eb,l,eH⟩
 ·subst ey eH;obtain⟨z,hd,vs,rel,dd⟩:=Ff I.hok e;have hz:vs.length<=sizeLine:=by rw[<-rel.length];exact z
  have hl:(putK kvs k v).length<=sizeLine:=by have:=vi kvs k v;lia
  refine wpAny_setItem_pairs (hsz:=hz) (o8 ry) dd λh' m8 hs=>h _ ?_;have he:∃q,h'.get? a=some q:=let⟨q,_,_,hq,_⟩:=m8;⟨q,hq⟩
  exact yK I (by rw[e];exact True.intro) hs he (Fj hl hd (rel.put k rv) m8)
 ·subst ey eH;cases (show u=Value.ref b from ry);obtain⟨z,hd,xs,rel,dd⟩:=Q5 I.hok e;have hz:xs.length<=sizeLine:=by rw[<-Paired.length rel];exact z
  have hl:(putK kvs k v).length<=sizeLine:=by have:=vi kvs k v;lia
  refine wpAny_setItem_heap (hsz:=hz) (vj hu) (sk I.hok eb) dd λh' m8 hs=>h _ ?_;obtain⟨q,es,ep,hq,h2,h3,h4,_,h5⟩:=m8;refine yK I (by rw[e];exact True.intro) hs ⟨q,hq⟩ ⟨hl,hd,_,(rel.put k eb rv).keeps λc ys ec=>?_,q,es,ep,hq,h2,h3,h4,h5⟩;rw[bf (N' ec e (λz=>nomatch z))];exact ec
end
def yL(i:Expr):Prop:=∀ov iv,subscripted i false ov iv=operate [ov,iv] (getItem ov iv)
theorem Q9{prog:Program}{w:World}{A:Around}{E:Value->Shared->Prop}{s:Shared}{env:Env}{value slice:Expr}{pos:Pos}{T id:String}{Q:Value->Shared->Prop}
 (hl:typeLookup (.type T) "__getitem__"=pure (some (.builtin id))) (hs:yL slice)
 (h:wpAny (model prog w) A (eval value env) (λo s₁=>wpAny (model prog w) A (eval slice env) (λi s₂=>s₂.TypeIs o T/\wpAny (model prog w) A (getItem o i) Q E s₂) E s₁) E s) :
 wpAny (model prog w) A (eval (.Subscript value slice pos) env) Q E s:=show _ by
 refine Dl (eZ h (λo s₁ h₁=>eZ h₁ (λi s₂ h₂=>?_) λ_ _ x=>x) λ_ _ x=>x);obtain⟨hT,h₂⟩:=h₂;unfold subscriptTail;refine ai ?_;rw[getitemInPython_of_ne hT.not_modules];refine ai (lr hT hl ?_);have fin:wpAny (model prog w) A (subscripted slice false o i) (λr s₃=>wpAny (model prog w) A (letTemporaryGo value o r >>= λ_=>pure r) Q E s₃) E s₂:=by
  rw[hs o i];exact wpAny_operating (eZ h₂ (λr s₃ h₃=>ai (wpAny_letTemporaryGo (aE h₃))) λ_ _ x=>x)
 first
  |exact aE (ai fin)
  |exact ai (aE (ai fin))
  |exact ai fin
theorem Q_{X:Cx}{pins:List (Addr×Obj)}{σ:St}{H:Hp}{s:Shared}{a:Addr}{y:V}{o:Option V}(I:Inv X pins σ H s)(g:fk H a y o):s.TypeIs (.ref a) "dict":=show _ by
 rcases g with⟨kvs,k,e,_,_⟩|⟨kvs,k,b,e,_,_,_⟩
 ·obtain⟨_,_,vs,_,dd⟩:=sj I.hok e;exact dd.typeIs
 ·obtain⟨_,_,xs,_,dd⟩:=so I.hok e;exact dd.typeIs
def Rb(td ty:TE):TE:=λσ H Q=>td σ H λx H1=>ty σ H1 λy H2=>∃a v,x=.ref a/\fk H2 a y (some v)/\Q v H2
def Fk(ty td:TE):TE:=λσ H Q=>ty σ H λy H1=>td σ H1 λx H2=>∃a o,x=.ref a/\fk H2 a y o/\Q (.bl o.isSome) H2
def Fl(ty td:TE):TE:=λσ H Q=>ty σ H λy H1=>td σ H1 λx H2=>∃a o,x=.ref a/\fk H2 a y o/\Q (.bl (!o.isSome)) H2
def Rc(td ty tv:TE):TS:=λD σ H=>tv σ H λv H1=>td σ H1 λx H2=>ty σ H2 λy H3=>∃a H4,x=.ref a/\su H3 a y v H4/\D.nx σ H4
section
variable{X:Cx}{o i e value:Expr}{pos pos' tpos:Pos}{td ty tv:TE}
theorem Rg(hu:X.A.units+5<cLine)(ho:PE X o td)(hi:PE X i ty)(hs:yL i):PE X (.Subscript o i pos) (Rb td ty):=show _ by
 intro pins s σ H Q I h;refine Q9 PySem.F.slot_dict_getitem.lookup hs (aF (ho pins s σ H _ I h) λu s1 ⟨x,H1,I1,rx,q1⟩=>aF (hi pins s1 σ H1 _ I1 q1) λiv s2 ⟨y,H2,I2,ry,a,v,ex,g,q2⟩=>?_);subst ex;obtain rfl:u=Value.ref a:=rx;exact⟨Q_ I2 g,Q6 hu I2 g ry λw' s3 I3 h_=>⟨v,H2,I3,h_,q2⟩⟩
theorem Rh(hu:X.A.units+5<cLine)(hi:PE X i ty)(ho:PE X o td):PC X .In i o (Fk ty td):=show _ by
 intro pins s σ H Q I h;refine aF (hi pins s σ H _ I h) λiv s1 ⟨y,H1,I1,ry,q1⟩=>aF (ho pins s1 σ H1 _ I1 q1) λu s2 ⟨x,H2,I2,rx,a,ov,ex,g,q2⟩=>?_;subst ex;obtain rfl:u=Value.ref a:=rx;exact Q7 hu I2 g ry λs3 I3=>⟨.bl ov.isSome,H2,I3,rfl,q2⟩
theorem Ri(hu:X.A.units+5<cLine)(hi:PE X i ty)(ho:PE X o td):PC X .NotIn i o (Fl ty td):=show _ by
 intro pins s σ H Q I h;refine aF (hi pins s σ H _ I h) λiv s1 ⟨y,H1,I1,ry,q1⟩=>aF (ho pins s1 σ H1 _ I1 q1) λu s2 ⟨x,H2,I2,rx,a,ov,ex,g,q2⟩=>?_;subst ex;obtain rfl:u=Value.ref a:=rx;exact Fh hu I2 g ry λs3 I3=>⟨.bl (!ov.isSome),H2,I3,rfl,q2⟩
theorem Rj(hu:X.A.units+5<cLine)(ho:PE X o td)(hi:PE X i ty)(hv:PE X value tv)(hs:swapsWith value (some (.Subscript o i pos')) pos.line X.env=pure false) :
 PS X (.Assign [.Subscript o i pos'] value pos) (Rc td ty tv):=show _ by
 intro pins s σ H D I h;refine wpAny_Assign_Subscript (aF (hv pins s σ H _ I h) λr s1 ⟨v,H1,I1,rv,q1⟩=>aF (ho pins s1 σ H1 _ I1 q1) λu s2 ⟨x,H2,I2,rx,q2⟩=>aF (hi pins s2 σ H2 _ I2 q2) λiv s3 ⟨y,H3,I3,ry,a,H4,ex,g,q3⟩=>?_) hs;subst ex;obtain rfl:u=Value.ref a:=rx;exact Q8 hu I3 g ry rv λs4 I4=>⟨σ,H4,I4,q3⟩
end
theorem Fm{P:Program}{w:World}{H:Hp}(h:Heap)(hb:sysModules<h.objs.size):cG P w H (h.push {cls:=.type "dict",data:=.dict #[]}) h.objs.size (.dK []) :=
 ⟨b8 _,beq_eq_false_iff_ne.mpr (bw (cW hb)),[],.nil,M5 h⟩
def Rk:TE:=λ_ H Q=>∀p,H p=none->Q (.ref p) (upd H p (.dK []))
section
variable{X:Cx}{pos:Pos}
theorem Ro:PE X (.Dict [] [] pos) Rk:=λpins s σ H Q I h =>
 wpAny_Dict_empty ⟨.ref s.heap.objs.size,_,I.laid (a:=s.heap.objs.size) (o:=.dK []) (t':=s.toks) (λ_ _ q=>bx _ q) (aV _) (Fm s.heap I.big),rfl,h _ (I.hok.fresh (aV _))⟩
end
def yM:List (TE×TE)->St->Hp->(List (V×V)->Hp->Prop)->Prop
 |[],_,H,Q=>Q [] H
 |(tk,tv)::r,σ,H,Q=>tk σ H λx H1=>tv σ H1 λy H2=>yM r σ H2 λps H3=>Q ((x,y)::ps) H3
abbrev VV:List (V×V)->List (Value×Value)->Prop:=Paired λp q=>RelV p.1 q.1/\RelV p.2 q.2
def vk(X:Cx)(pos:Pos)(keys:List (Option Expr))(values:List Expr)(ko:List (TE×TE)):Prop :=
 ∀(pins:List (Addr×Obj)) (s:Shared) (σ:St) (H:Hp) (Q:List (V×V)->Hp->Prop),Inv X pins σ H s->yM ko σ H Q ->
  wpAny (model X.prog X.w) X.A (evalPairs (pairTrees keys values X.env pos)) (λvs s'=>∃ps H',Inv X pins σ H' s'/\VV ps vs/\Q ps H') X.xe s
theorem Rq{X:Cx}{pos:Pos}:vk X pos [] [] []:=λpins s σ H Q I h=>pairTrees_nil_walk ⟨[],H,I,.nil,h⟩
theorem Rr{X:Cx}{pos:Pos}{k v:Expr}{ks:List (Option Expr)}{vs:List Expr}{tk tv:TE}{ko:List (TE×TE)}(hk:PE X k tk)(hv:PE X v tv)(hr:vk X pos ks vs ko) :
 vk X pos (some k::ks) (v::vs) ((tk,tv)::ko):=λpins s σ H Q I h =>
 pairTrees_cons_walk (aF (hk pins s σ H _ I h) λu s1 ⟨x,H1,I1,rx,q1⟩=>aF (hv pins s1 σ H1 _ I1 q1) λw2 s2 ⟨y,H2,I2,ry,q2⟩ =>
  aF (hr pins s2 σ H2 _ I2 q2) λws s3 cB=>by obtain⟨ps,H3,I3,rel,q3⟩:=cB;exact⟨(x,y)::ps,H3,I3,.cons ⟨rx,ry⟩ rel,q3⟩)
def sv(kvs more:List (Key×V)):List (Key×V):=more.foldl (λacc kv=>putK acc kv.1 kv.2) kvs
theorem KV.merge:∀{more:List (Key×V)} {rs:List (Key×Value)} {kvs:List (Key×V)} {vs:List (Key×Value)},KV more rs->KV kvs vs->KV (sv kvs more) (merged vs rs):=show _ by
 intro more rs kvs vs r;unfold KV at r
 induction r generalizing kvs vs with
 |nil=>intro q;exact q
 |@cons p q ps qs h t ih =>
  intro r0;have e:KV (putK kvs p.1 p.2) (stored vs q.1 q.2):=by
   have:=r0.put p.1 h.2;rw[<-h.1];exact this
  exact ih e
theorem Fn:∀(more kvs:List (Key×V)),(sv kvs more).length<=kvs.length+more.length
 |[],kvs=>by show kvs.length<=kvs.length+0;lia
 |p::r,kvs=>by
  have h1:=Fn r (putK kvs p.1 p.2);have h2:=vi kvs p.1 p.2;show(sv (putK kvs p.1 p.2) r).length<=_;rw[bC];lia
theorem Fo{P:Program}{w:World}:∀{kvs:List (Key×V)} {ws:List (Value×Value)},VV (kvs.map λkv=>(kV kv.1,kv.2)) ws->∃rs,Carries (eT P w) ws rs/\KV kvs rs
 |[],_,r=>by rw[mM]at r;cases r;exact⟨[],True.intro,.nil⟩
 |p::kvs,_,r=>by
  rw[bO]at r;cases r with
  |@cons a b as bs h t =>
   obtain⟨rs,c,q⟩:=Fo (P:=P) (w:=w) t;obtain⟨b1,b2⟩:=b;exact⟨(p.1,b2)::rs,⟨o8 h.1,rfl,c⟩,.cons ⟨rfl,h.2⟩ q⟩
def Fp(ko:List (TE×TE)):TE:=λσ H Q=>∀p,H p=none->yM ko σ (upd H p (.dK [])) λps H2=>H2 p=some (.dK [])/\∃kvs:List (Key×V),ps=kvs.map (λkv=>(kV kv.1,kv.2))/\kvs.length<=15/\Q (.ref p) (upd H2 p (.dK (sv [] kvs)))
theorem Rt{X:Cx}{pos:Pos}{keys:List (Option Expr)}{values:List Expr}{ko:List (TE×TE)}(h:vk X pos keys values ko)(hall:keys.all (·.isSome)=true)(hl:keys.length=values.length)(h0:keys≠[])
 (h15:keys.length<=15):PE X (.Dict keys values pos) (Fp ko):=show _ by
 intro pins s σ H Q I q;have hn:=I.hok.fresh (aV s.heap.objs.size);have I1:=I.laid (a:=s.heap.objs.size) (o:=.dK []) (h':=s.heap.push {cls:=.type "dict",data:=.dict #[]}) (t':=s.toks) (λ_ _ q=>bx _ q) (aV _) (Fm s.heap I.big);refine wpAny_Dict_walk (knd:=eT X.prog X.w) hall hl h0 h15 (aF (h pins _ σ _ _ I1 (q _ hn)) λws s2 ⟨ps,H2,I2,rel,e,kvs,ep,lk,q2⟩=>?_);subst ep;obtain⟨rs,c,rk⟩:=Fo (P:=X.prog) (w:=X.w) rel;obtain⟨z,hd,vm,r0,dd⟩:=Ff I2.hok e;cases r0;refine⟨rs,c,dd,λh' m8 hs=>⟨.ref s.heap.objs.size,_,?_,rfl,q2⟩⟩;have hz:(sv [] kvs).length<=sizeLine:=by
  have h1:=Fn kvs [];rw[cE]at h1;rw[xr];lia
 have he:∃q,h'.get? s.heap.objs.size=some q:=let⟨q,_,_,hq,_⟩:=m8;⟨q,hq⟩
 exact yK I2 (by rw[e];exact True.intro) hs he (Fj hz hd (rk.merge .nil) m8)
end L2
namespace L2
open PySem PySem.Spec PyProof.Rows
end L2
namespace EE
open PySem PySem.Spec PyProof.Rows L2
structure aA(K:ao)(mg:Str->Option Value)(x:Str)(st:Stmt)(ps:List Str):Prop where
 ex:∃f fd,m7 K x x st f fd/\Binds K fd ps []/\mg x=some (.ref f)
section
variable{P:Program}{w:World}{K:PySem.W.Frag}{mg:Str->Option Value}{base:Heap}
theorem bP{h:Heap}{x:Str}{st:Stmt}{ps:List Str}{f:Addr}{oc:Value}{od an:Option Addr}{osl:Array (Option Value)}{kV doc pm cdv ct:Value}(X:K.In h)(G:h.Ns mainGlobals mg)
 (a:a9 K mainGlobals x=some (some (.ref f))) (l:K.lookup f=some ⟨oc,od,.func (a8 x x (bc st) (aR st) (ak st) .none kV doc pm an cdv ct),osl⟩)
 (c:bt K cdv x=true) (k:a7 K (.ref f)=true)
 (hb:∀(kV doc pm:Value) (an:Option Addr) (cdv ct:Value) (us:List Value),us.length=ps.length->bindArgs (a8 x x (bc st) (aR st) (ak st) .none kV doc pm an cdv ct) ⟨us,[]⟩=pure (ps.zip us)):aA K mg x st ps:=show _ by
 have F:=yI (st:=st) l c k;exact⟨f,_,F,F.binds hb,mO X G a⟩
end
section
variable{X:Cx}{k:Nat}{ps:List Str}{sp:Sp}{x:Str}{p pos:Pos}{e:Expr}{es:List Expr}{t:TA}
theorem Ru{i:Int}(h:∃t,X.mg x=some (.int i t))(hg:Gl X x)(hd:(x==("__debug__":Str))=false:=by decide):PE X (.Name x pos) (tC (.int i)):=by
 obtain⟨t,e⟩:=h;exact Oq (v:=.int i) hg e ⟨t,rfl⟩ hd
theorem Rv(K:ao)(n:String):mK K (.type n) (.type n)=some true:=by
 unfold mK;rw[if_pos (by simp)]
def Fq:V->List V->Hp->VK->Prop:=λx vs H Q=>∃l ys y,x=.ref l/\vs=[]/\H l=some (.lst (ys++[y]))/\Q y (upd H l (.lst ys))
theorem jA:sd X "list.pop" Fq:=by
 intro pins s σ H x vs v us Q I rx rv h;obtain⟨l,ys,y,rfl,rfl,hH,q⟩:=h;refine QW pins s σ H _ _ v us Q I rx rv ⟨l,ys++[y],y,rfl,rfl,hH,by simp,?_⟩;rw[List.dropLast_concat];exact q
theorem Rw(l:Addr)(xs:Array Value)(n:Nat)(b:Addr)(dd:Option Addr)(sl:Array (Option Value))(ys:Array Value)(m:Nat)
 (hz:¬(!xs.isEmpty&&xD (xs.size+ys.size))=true) (h1:xs.size<=sizeLine) (h2:xs.size+ys.size<=sizeLine+1) :
 Meets (Builtin.«list.extend» ⟨[.ref l,.ref b],[]⟩) (λ_ R s=>s.heap.get? l=some {cls:=.type "list",dict:=none,data:=.seq xs n,slots:=#[]} /\
  s.heap.get? b=some {cls:=.type "tuple",dict:=dd,data:=.seq ys m,slots:=sl} /\
  R (.ok (.ret Value.none)) {s with heap:=s.heap.update l (fc λx=>x++ys),toks:=s.toks}) :=
 .of_wp λprog w A R s h=>by
  obtain⟨hp,g,d,tk,os⟩:=s;obtain⟨hl,hb,h⟩:=h;have f1:=aiH;have f2:=M6;have f3:=aiI;have f4:=aiJ;have f5:=aiK;have hw:(xs++ys).size<=sizeLine+1:=show _ by rw[Array.size_append];exact h2
  wp_walk using(uo hl rfl (hz:=h1) (_hz':=hw)),DB hl,DB hb
  exact⟨_,rfl,h⟩
def Fs(K:ao):V->List V->Hp->VK->Prop:=λx vs H Q=>∃l b xs zs,x=.ref l/\vs=[.ref b]/\H l=some (.lst xs)/\bh K H b zs/\xs.length+zs.length<=sizeLine/\Q .non (upd H l (.lst (xs++zs)))
theorem Ry:sd X "list.extend" (Fs X.K):=show _ by
 intro pins s σ H x vs v us Q I rx rv h;obtain⟨l,b,xs,zs,rfl,rfl,hH,hB,hz,q⟩:=h;cases rx;obtain⟨u,rfl,ru⟩:=rv.one;cases ru;obtain⟨z,its,n,r,hl,e⟩:=I.lV hH;obtain⟨its2,r2,⟨o,e2,hc,m,hd⟩,hz2⟩:=I.tuple hB;obtain⟨oc,od,odt,osl⟩:=o;obtain rfl:oc=.type "tuple":=hc;obtain rfl:odt=.seq its2.toArray m:=hd;have hl2:=r2.length;have hsz:its.toArray.size+its2.toArray.size<=sizeLine:=by rw[bU,bU];lia
 have Rz:¬(!its.toArray.isEmpty&&xD (its.toArray.size+its2.toArray.size))=true:=by
  rw[QU hsz,M7];exact c7
 refine rq M8 ⟨_,e,rfl⟩ F.entry_list_extend (F.args_list_extend_2 _ _)
  (Rw l its.toArray n b od osl its2.toArray m Rz (by rw[bU];lia) (by lia)) ⟨e,e2,?_⟩
 refine⟨.non,_,I.se (its':=its++its2) hH e (by simp) (r.append r2) ?_,rfl,q⟩;rw[aU];lia
end
theorem Ft{c A B:Prop}[Decidable c](hc:¬c)(h:A):if(!decide c)=true then A else B:=by
 rw[decide_eq_false hc];exact lW h
theorem sy{c A B:Prop}[Decidable c](hc:c)(h:A):if decide c=true then A else B:=by
 rw[decide_eq_true hc];exact lW h
theorem vn{c A B:Prop}[Decidable c](hc:¬c)(h:B):if decide c=true then A else B:=by
 rw[decide_eq_false hc];exact o7 h
theorem RA{c A B:Prop}[Decidable c](h1:c->A)(h2:¬c->B):if decide c=true then A else B:=by
 by_cases h:c
 ·exact sy h (h1 h)
 ·exact vn h (h2 h)
theorem snoc_cases{α:Type}(xs:List α):xs=[]∨∃ys y,xs=ys++[y]:=by
 cases xs with
 |nil=>exact .inl rfl
 |cons a r=>exact .inr ⟨(a::r).dropLast,(a::r).getLast (by simp),(List.dropLast_concat_getLast (by simp)).symm⟩
inductive ay where
 |aX
 |pair (l r:ay)
def ay.size:ay->Nat
 | .aX=>0
 | .pair l r=>l.size+r.size+1
def ay.deep:ay->Nat
 | .aX=>0
 | .pair l r=>max l.deep r.deep+1
theorem ay.yN:∀t:ay,t.deep<=t.size
 | .aX=>aV _
 | .pair l r=>by
  have h1:=l.yN;have h2:=r.yN;simp only[ay.deep,ay.size];lia
def sizes:List ay->Nat
 |[]=>0
 |t::r=>t.size+sizes r
theorem m9(a b:List ay):sizes (a++b)=sizes a+sizes b:=by
 induction a with
 |nil=>simp[sizes]
 |cons t r ih=>simp only[q_,sizes,ih];lia
end EE
namespace EE
open PySem PySem.Spec PyProof.Rows L2 SeqAt
inductive Dt where
 |non|bl (b:Bool)|int (i:Int)|str (x:Str)|tup (xs:List Dt)|lst (xs:List Dt)
mutual
def bu:Dt->Dt->Bool
 | .non,.non=>true
 | .bl a,.bl b=>a==b
 | .bl a,.int b=>(if a then 1 else 0)==b
 | .int a,.bl b=>a==(if b then 1 else 0)
 | .int a,.int b=>a==b
 | .str a,.str b=>a==b
 | .tup xs,.tup ys=>gH xs ys
 | .lst xs,.lst ys=>gH xs ys
 |_,_=>false
def gH:List Dt->List Dt->Bool
 |[],[]=>true
 |x::xs,y::ys=>bu x y&&gH xs ys
 |_,_=>false
end
mutual
def bN:Dt->Nat
 | .tup xs=>dC xs+1
 | .lst xs=>dC xs+1
 |_=>0
def dC:List Dt->Nat
 |[]=>0
 |x::xs=>max (bN x) (dC xs)
end
mutual
theorem kq:∀d:Dt,bu d d=true
 | .non=>rfl
 | .bl b=>by simp[bu]
 | .int i=>by simp[bu]
 | .str x=>by simp[bu]
 | .tup xs=>by simp only[bu];exact yO xs
 | .lst xs=>by simp only[bu];exact yO xs
theorem yO:∀ds:List Dt,gH ds ds=true
 |[]=>rfl
 |d::ds=>by simp only[gH,kq d,yO ds,jU]
end
mutual
def iN:Dt->Bool
 | .bl _=>false
 | .tup xs=>iO xs
 | .lst xs=>iO xs
 |_=>true
def iO:List Dt->Bool
 |[]=>true
 |x::xs=>iN x&&iO xs
end
mutual
theorem Fu:∀{d e:Dt},iN d=true->iN e=true->bu d e=true->d=e
 | .non,.non,_,_,_=>rfl
 | .int a,.int b,_,_,h=>by simp only[bu,beq_iff_eq]at h;rw[h]
 | .str a,.str b,_,_,h=>by simp only[bu,beq_iff_eq]at h;rw[h]
 | .tup xs,.tup ys,p,q,h=>by
  simp only[bu]at h;simp only[iN]at p q;rw[yP p q h]
 | .lst xs,.lst ys,p,q,h=>by
  simp only[bu]at h;simp only[iN]at p q;rw[yP p q h]
 | .bl _,_,p,_,_=>by simp[iN]at p
 |_,.bl _,_,q,_=>by simp[iN]at q
 | .non,.int _,_,_,h=>by simp[bu]at h
 | .non,.str _,_,_,h=>by simp[bu]at h
 | .non,.tup _,_,_,h=>by simp[bu]at h
 | .non,.lst _,_,_,h=>by simp[bu]at h
 | .int _,.non,_,_,h=>by simp[bu]at h
 | .int _,.str _,_,_,h=>by simp[bu]at h
 | .int _,.tup _,_,_,h=>by simp[bu]at h
 | .int _,.lst _,_,_,h=>by simp[bu]at h
 | .str _,.non,_,_,h=>by simp[bu]at h
 | .str _,.int _,_,_,h=>by simp[bu]at h
 | .str _,.tup _,_,_,h=>by simp[bu]at h
 | .str _,.lst _,_,_,h=>by simp[bu]at h
 | .tup _,.non,_,_,h=>by simp[bu]at h
 | .tup _,.int _,_,_,h=>by simp[bu]at h
 | .tup _,.str _,_,_,h=>by simp[bu]at h
 | .tup _,.lst _,_,_,h=>by simp[bu]at h
 | .lst _,.non,_,_,h=>by simp[bu]at h
 | .lst _,.int _,_,_,h=>by simp[bu]at h
 | .lst _,.str _,_,_,h=>by simp[bu]at h
 | .lst _,.tup _,_,_,h=>by simp[bu]at h
theorem yP:∀{ds es:List Dt},iO ds=true->iO es=true->gH ds es=true->ds=es
 |[],[],_,_,_=>rfl
 |d::ds,e::es,p,q,h=>by
  simp only[iO,f9]at p q;simp only[gH,f9]at h;rw[Fu p.1 q.1 h.1,yP p.2 q.2 h.2]
 |[],_::_,_,_,h=>by simp[gH]at h
 |_::_,[],_,_,h=>by simp[gH]at h
end
mutual
inductive DR(K:ao)(H:Hp):Dt->V->Prop where
 |non:DR K H .non .non
 |bl (b:Bool):DR K H (.bl b) (.bl b)
 |int (i:Int):DR K H (.int i) (.int i)
 |str (x:Str):DR K H (.str x) (.str x)
 |tup {a:Addr} {xs:List V} {ds:List Dt}:bh K H a xs->dQ K H ds xs->DR K H (.tup ds) (.ref a)
 |lst {a:Addr} {xs:List V} {ds:List Dt}:bg K H a xs->dQ K H ds xs->DR K H (.lst ds) (.ref a)
inductive dQ(K:ao)(H:Hp):List Dt->List V->Prop where
 |nil:dQ K H [] []
 |cons {d:Dt} {v:V} {ds:List Dt} {vs:List V}:DR K H d v->dQ K H ds vs->dQ K H (d::ds) (v::vs)
end
section
variable{X:Cx}{pins:List (Addr×Obj)}{σ:L2.St}{H:Hp}{s:Shared}
theorem Fv{a:Addr}{xs ys:List V}(I:Inv X pins σ H s)(h:bg X.K H a xs)(h':bh X.K H a ys):False:=by
 obtain⟨its,_,p,_⟩:=I.list h;obtain⟨its',_,q,_⟩:=I.tuple h';exact ne_of_list_tuple p.isList (show s.heap.IsTuple a its'.toArray from q) rfl
mutual
theorem DR.inj(I:Inv X pins σ H s):∀{d e:Dt} {v:V},DR X.K H d v->DR X.K H e v->d=e
 |_,_,_,.non,h=>by cases h;rfl
 |_,_,_,.bl _,h=>by cases h;rfl
 |_,_,_,.int _,h=>by cases h;rfl
 |_,_,_,.str _,h=>by cases h;rfl
 |_,_,_,.tup p q,h=>by
  cases h with
  |tup p' q' =>
   have e:=I.oW p p';subst e;rw[dQ.inj I q q']
  |lst p' q'=>exact(Fv I p' p).elim
 |_,_,_,.lst p q,h=>by
  cases h with
  |lst p' q' =>
   have e:=I.uR p p';subst e;rw[dQ.inj I q q']
  |tup p' q'=>exact(Fv I p p').elim
theorem dQ.inj(I:Inv X pins σ H s):∀{ds es:List Dt} {vs:List V},dQ X.K H ds vs->dQ X.K H es vs->ds=es
 |_,_,_,.nil,h=>by cases h;rfl
 |_,_,_,.cons p q,h=>by
  cases h with
  |cons p' q'=>rw[DR.inj I p p',dQ.inj I q q']
end
theorem dQ.len:∀{ds:List Dt} {vs:List V},dQ X.K H ds vs->ds.length=vs.length
 |_,_,.nil=>rfl
 |_,_,.cons _ q=>by simp[dQ.len q]
theorem dQ.at:∀{ds:List Dt} {vs:List V} {i:Nat} {v:V},dQ X.K H ds vs->vs[i]?=some v->∃d,ds[i]?=some d/\DR X.K H d v
 |_,_,_,_,.nil,e=>by simp at e
 |_,_,0,_,.cons r _,e=>by simp at e;subst e;exact⟨_,rfl,r⟩
 |_,_,i+1,v,.cons _ q,e=>by
  obtain⟨d,h1,h2⟩:=dQ.at (i:=i) (v:=v) q (by simpa using e);exact⟨d,by simpa using h1,h2⟩
def ku(ds es:List Dt)(i:Nat):Bool:=match ds[i]?,es[i]? with
 |some d,some e=>bu d e
 |_,_=>true
theorem RB(ds es:List Dt)(d e:Dt)(n:Nat):(ba (n+1)).all (ku (d::ds) (e::es))=(bu d e&&(ba n).all (ku ds es)):=by
 rw[Mp,oI,Mq];rfl
theorem yQ:∀ds es:List Dt,gH ds es=((ba (min ds.length es.length)).all (ku ds es)&&ds.length==es.length)
 |[],[]=>rfl
 |[],_::_=>by simp[gH]
 |_::_,[]=>by simp[gH]
 |d::ds,e::es=>by
  have ih:=yQ ds es;simp only[gH,bC];rw[Mr,RB,ih,Ms];congr 2;rw[gA];simp
theorem Fw:∀{ds:List Dt} {i:Nat} {d:Dt},ds[i]?=some d->bN d<=dC ds
 |[],_,_,e=>by simp at e
 |x::xs,0,_,e=>by simp at e;subst e;simp only[dC];lia
 |x::xs,i+1,d,e=>by
  have:=Fw (ds:=xs) (i:=i) (d:=d) (by simpa using e);simp only[dC];lia
theorem Fx{xs:List V}{us:List Value}{j:Nat}(r:Vals xs us)(h:j<us.toArray.size):∃x,xs[j]?=some x/\RelV x us.toArray[j]:=show _ by
 have hl:=r.length;have hj:j<xs.length:=by simpa[hl]using h
 have e:xs[j]?=some xs[j]:=bb hj;obtain⟨u,hu,ru⟩:=r.get e;refine⟨_,e,?_⟩;have:us.toArray[j]=u:=by
  have z:us[j]?=some us[j]:=bb (by simpa using h);rw[z]at hu;simpa using dG hu
 rw[this];exact ru
theorem units_in1{A:Around}:A.in1.units=A.units+1:=rfl
theorem Fy(I:Inv X pins σ H s):∀(n:Nat) (A:Around) (d e:Dt) (v v':V) (u u':Value),bN d<=n->A.units+n<cLine->DR X.K H d v->DR X.K H e v'->RelV v u->RelV v' u' ->
 RcAt A s u u' (bu d e)/\EqAt A s u u' (bu d e):=show _ by
 intro n
 induction n with
 |zero =>
  intro A d e v v' u u' hn hu hd he r r';have hu':A.units<cLine:=by lia
  cases hd with
  |non =>
   cases r;cases he with
   |non=>cases r';exact⟨RcAt.none_none,EqAt.same _⟩
   |bl b=>cases r';exact⟨RcAt.none_bool b,EqAt.none_bool b⟩
   |int b=>obtain⟨t,rfl⟩:=r';exact⟨RcAt.none_int b t,EqAt.none_int b t⟩
   |str b=>obtain⟨t,rfl⟩:=r';exact⟨RcAt.none_str b t,EqAt.none_str b t⟩
   |tup p q =>
    cases r';obtain⟨its,_,ht,_⟩:=I.tuple p;exact⟨RcAt.none_tuple ht hu',EqAt.none_tuple ht hu'⟩
   |lst p q =>
    cases r';obtain⟨its,_,ht,_⟩:=I.list p;exact⟨RcAt.none_list ht.isList hu',EqAt.none_list ht.isList hu'⟩
  |bl a =>
   cases r;cases he with
   |non=>cases r';exact⟨RcAt.bool_none a,EqAt.bool_none a⟩
   |bl b=>cases r';exact⟨RcAt.bool_bool a b,EqAt.bool_bool a b⟩
   |int b=>obtain⟨t,rfl⟩:=r';exact⟨RcAt.bool_int a b t,EqAt.bool_int a b t⟩
   |str b=>obtain⟨t,rfl⟩:=r';exact⟨RcAt.bool_str a b t,EqAt.bool_str a b t⟩
   |tup p q =>
    cases r';obtain⟨its,_,ht,_⟩:=I.tuple p;exact⟨RcAt.bool_tuple a ht hu',EqAt.bool_tuple a ht hu'⟩
   |lst p q =>
    cases r';obtain⟨its,_,ht,_⟩:=I.list p;exact⟨RcAt.bool_list a ht.isList hu',EqAt.bool_list a ht.isList hu'⟩
  |int a =>
   obtain⟨t0,rfl⟩:=r;cases he with
   |non=>cases r';exact⟨RcAt.int_none a t0,EqAt.int_none a t0⟩
   |bl b=>cases r';exact⟨RcAt.int_bool a t0 b,EqAt.int_bool a t0 b⟩
   |int b=>obtain⟨t,rfl⟩:=r';exact⟨RcAt.int_int a t0 b t,EqAt.int_int a t0 b t⟩
   |str b=>obtain⟨t,rfl⟩:=r';exact⟨RcAt.int_str a t0 b t,EqAt.int_str a t0 b t⟩
   |tup p q =>
    cases r';obtain⟨its,_,ht,_⟩:=I.tuple p;exact⟨RcAt.int_tuple a t0 ht hu',EqAt.int_tuple a t0 ht hu'⟩
   |lst p q =>
    cases r';obtain⟨its,_,ht,_⟩:=I.list p;exact⟨RcAt.int_list a t0 ht.isList hu',EqAt.int_list a t0 ht.isList hu'⟩
  |str a =>
   obtain⟨t0,rfl⟩:=r;cases he with
   |non=>cases r';exact⟨RcAt.str_none a t0,EqAt.str_none a t0⟩
   |bl b=>cases r';exact⟨RcAt.str_bool a t0 b,EqAt.str_bool a t0 b⟩
   |int b=>obtain⟨t,rfl⟩:=r';exact⟨RcAt.str_int a t0 b t,EqAt.str_int a t0 b t⟩
   |str b=>obtain⟨t,rfl⟩:=r';exact⟨RcAt.str_str a t0 b t,EqAt.str_str a t0 b t⟩
   |tup p q =>
    cases r';obtain⟨its,_,ht,_⟩:=I.tuple p;exact⟨RcAt.str_tuple a t0 ht hu',EqAt.str_tuple a t0 ht hu'⟩
   |lst p q =>
    cases r';obtain⟨its,_,ht,_⟩:=I.list p;exact⟨RcAt.str_list a t0 ht.isList hu',EqAt.str_list a t0 ht.isList hu'⟩
  |tup p q=>simp[bN]at hn
  |lst p q=>simp[bN]at hn
 |succ n ih =>
  intro A d e v v' u u' hn hu hd he r r';by_cases h0:bN d<=n
  ·exact ih A d e v v' u u' h0 (by lia) hd he r r'
  have hu':A.units<cLine:=by lia
  have items:∀{xs ys:List V} {ds es:List Dt} {its its2:List Value},dC ds<=n->dQ X.K H ds xs->dQ X.K H es ys->Vals xs its->Vals ys its2 ->
   ∀j (h1:j<its.toArray.size) (h2:j<its2.toArray.size),EqAt A.in1 s its.toArray[j] its2.toArray[j] (ku ds es j):=λ{xs ys ds es its its2} hdd q q' rv rv' j h1 h2=>by
   obtain⟨x,hx,rx⟩:=Fx rv h1;obtain⟨y,hy,ry⟩:=Fx rv' h2;obtain⟨dx,rH,yf⟩:=q.at hx;obtain⟨dy,yg,yh⟩:=q'.at hy;have N6:=Fw rH;have:=(ih A.in1 dx dy x y _ _ (by lia) (by rw[units_in1];lia) yf yh rx ry).2;unfold ku;rw[rH,yg];exact this
  cases hd with
  |non=>exact absurd (b8 _) h0
  |bl _=>exact absurd (b8 _) h0
  |int _=>exact absurd (b8 _) h0
  |str _=>exact absurd (b8 _) h0
  |@tup a xs ds p q =>
   cases r;obtain⟨its,rv,ht,_⟩:=I.tuple p;cases he with
   |non=>cases r';exact⟨RcAt.tuple_none ht hu',EqAt.tuple_none ht hu'⟩
   |bl b=>cases r';exact⟨RcAt.tuple_bool b ht hu',EqAt.tuple_bool b ht hu'⟩
   |int b=>obtain⟨t,rfl⟩:=r';exact⟨RcAt.tuple_int b t ht hu',EqAt.tuple_int b t ht hu'⟩
   |str b=>obtain⟨t,rfl⟩:=r';exact⟨RcAt.tuple_str b t ht hu',EqAt.tuple_str b t ht hu'⟩
   |@tup b ys es p' q' =>
    cases r';obtain⟨its2,sA,gg,_⟩:=I.tuple p';have hdd:dC ds<=n:=by simp only[bN]at hn;lia
    have e:((ba (min its.toArray.size its2.toArray.size)).all (ku ds es)&&its.toArray.size==its2.toArray.size)=bu (.tup ds) (.tup es):=by
     simp only[bu];rw[yQ,q.len,q'.len,rv.length,sA.length];simp
    have rc:RcAt A s (.ref a) (.ref b) (bu (.tup ds) (.tup es)):=by
     rw[<-e];exact RcAt.tuples ht gg hu' (items hdd q q' rv sA)
    refine⟨rc,?_⟩;by_cases hab:a=b
    ·subst hab;have ed:Dt.tup ds=Dt.tup es:=DR.inj I (.tup p q) (.tup p' q');rw[<-ed,kq];exact EqAt.same _
    ·exact EqAt.of_refs hab rc
   |@lst b ys es p' q' =>
    cases r';obtain⟨its2,_,gg,_⟩:=I.list p';exact⟨RcAt.tuple_list ht gg.isList hu',EqAt.tuple_list ht gg.isList hu'⟩
  |@lst a xs ds p q =>
   cases r;obtain⟨its,rv,ht,_⟩:=I.list p;cases he with
   |non=>cases r';exact⟨RcAt.list_none ht.isList hu',EqAt.list_none ht.isList hu'⟩
   |bl b=>cases r';exact⟨RcAt.list_bool b ht.isList hu',EqAt.list_bool b ht.isList hu'⟩
   |int b=>obtain⟨t,rfl⟩:=r';exact⟨RcAt.list_int b t ht.isList hu',EqAt.list_int b t ht.isList hu'⟩
   |str b=>obtain⟨t,rfl⟩:=r';exact⟨RcAt.list_str b t ht.isList hu',EqAt.list_str b t ht.isList hu'⟩
   |@tup b ys es p' q' =>
    cases r';obtain⟨its2,_,gg,_⟩:=I.tuple p';exact⟨RcAt.list_tuple ht.isList gg hu',EqAt.list_tuple ht.isList gg hu'⟩
   |@lst b ys es p' q' =>
    cases r';obtain⟨its2,sA,gg,_⟩:=I.list p';have hdd:dC ds<=n:=by simp only[bN]at hn;lia
    have rc:RcAt A s (.ref a) (.ref b) (bu (.lst ds) (.lst es)):=by
     simp only[bu];rw[yQ,q.len,q'.len,rv.length,sA.length];by_cases hsz:its.length=its2.length
     ·have e:((ba (min its.length its2.length)).all (ku ds es)&&its.length==its2.length)=(ba its.toArray.size).all (ku ds es):=by
       simp[hsz]
      rw[e];exact RcAt.lists ht.isList gg.isList (by simpa using hsz) hu' (items hdd q q' rv sA)
     ·have e:((ba (min its.length its2.length)).all (ku ds es)&&its.length==its2.length)=false:=by
       rw[beq_eq_false_iff_ne.mpr hsz,M7]
      rw[e];exact RcAt.lists_lengths ht.isList gg.isList (by simpa using hsz) hu'
    refine⟨rc,?_⟩;by_cases hab:a=b
    ·subst hab;have ed:Dt.lst ds=Dt.lst es:=DR.inj I (.lst p q) (.lst p' q');rw[<-ed,kq];exact EqAt.same _
    ·exact EqAt.of_refs hab rc
theorem Fz{n:Nat}(hu:X.A.units+n<cLine):cO X (compareOp .Eq) (λx y H Q=>∃d e,DR X.K H d x/\DR X.K H e y/\bN d<=n/\Q (.bl (bu d e)) H):=show _ by
 intro pins s σ H x y v u Q I rx ry h;obtain⟨d,e,hd,he,hn,q⟩:=h;exact(Fy I n X.A d e x y v u hn hu hd he rx ry).1 X.prog X.w X.xe _ ⟨.bl (bu d e),H,I,rfl,q⟩
end
def ay.dt:ay->Dt
 | .aX=>.non
 | .pair l r=>.tup [l.dt,r.dt]
theorem ay.yR:∀t:ay,bN t.dt=t.deep
 | .aX=>rfl
 | .pair l r=>by
  simp only[ay.dt,bN,dC,ay.deep,l.yR,r.yR];lia
end EE
namespace EE
open PySem PySem.Spec PyProof.Rows L2
def textOf(cs:List Nat):Str:=⟨cs.toArray⟩
theorem gn(cs:List Nat):(textOf cs).length=cs.length:=by simp[textOf,Dq]
theorem sC(a b:List Nat):textOf a++textOf b=textOf (a++b):=by
 show Str.append (textOf a) (textOf b)=textOf (a++b);simp[textOf,Str.append]
def kx(cs:List Nat)(lo hi:Option Int):List Nat:=(cs.drop (HT.aO cs.length 0 lo)).take (HT.aO cs.length cs.length hi-HT.aO cs.length 0 lo)
theorem RC(lo hi:Option Int)(n:Nat):M9 lo hi 1 n=sliceRange ((HT.aO n 0 lo:Nat):Int) ((HT.aO n n hi:Nat):Int) 1:=show _ by
 have a:∀(i:Int) (d:Nat),max 0 (min (if i<0 then i+(n:Int) else i) (n:Int))=((HT.aO n d (some i):Nat):Int):=by
  intro i d;simp only[HT.aO];by_cases h:i<0
  ·simp only[h,if_true];lia
  ·simp only[h,if_false];lia
 unfold M9;cases lo with
 |none =>
  cases hi with
  |none=>rfl
  |some j =>
   show sliceRange (0:Int) (max 0 (min (if j<0 then j+(n:Int) else j) (n:Int))) 1=_;rw[a j n];rfl
 |some i =>
  cases hi with
  |none =>
   show sliceRange (max 0 (min (if i<0 then i+(n:Int) else i) (n:Int))) (n:Int) 1=_;rw[a i 0];rfl
  |some j =>
   show sliceRange (max 0 (min (if i<0 then i+(n:Int) else i) (n:Int))) (max 0 (min (if j<0 then j+(n:Int) else j) (n:Int))) 1=_;rw[a i 0,a j n]
theorem RD(x:Str)(lo hi:Option Int):xE x lo hi=textOf (kx x.cps.toList lo hi):=show _ by
 have hl:x.cps.toList.length=x.length:=by simp[Dq]
 have l1:HT.aO x.length 0 lo<=x.length:=HT.yC _ _ (b8 _) lo;have l2:HT.aO x.length x.length hi<=x.length:=HT.yC _ _ (aV _) hi;unfold xE kx;rw[RC,sliceRange_one,hl,pick_run];by_cases h:((1:Int)==1&&((ba (HT.aO x.length x.length hi-HT.aO x.length 0 lo)).map (HT.aO x.length 0 lo+·)).length==x.length)=true
 ·rw[if_pos h];simp only[aB,xF,f9,beq_iff_eq]at h;have h2:=h.2;have e1:HT.aO x.length 0 lo=0:=by lia
  have e2:HT.aO x.length x.length hi=x.length:=by lia
  rw[e1,e2,xG,uq,<-hl,lD];simp[textOf]
 ·rw[if_neg h];rfl
def FA:V->Option Int->Option Int->Hp->VK->Prop:=λx lo hi H Q=>∃z,x=.str z/\z.length<=sizeLine/\Q (.str (textOf (kx z.cps.toList lo hi))) H
theorem o9{X:Cx}:oZ X FA:=show _ by
 intro pins s σ H x v vl vu lo hi sl Q I rx hs pl pu h;obtain⟨z,rfl,hz,q⟩:=h;obtain⟨t,rfl⟩:=rx;refine⟨"str",_,slot_str_getitem.lookup,Dr s z t,?_⟩;have fin:∀t' k,EP X pins σ Q (.str (xE z lo hi) t') {s with toks:=k}:=λt' k=>⟨.str _,H,I.tok _,⟨_,rfl⟩,by rw[RD];exact q⟩;have len:(xE z lo hi).length<=sizeLine:=cj (Txt.slice_le z lo hi) hz;obtain⟨o,ho,hc,hd⟩:=hs;cases pl with
 |none =>
  cases pu with
  |none=>exact xH (l:=none) (u:=none) (st:=none) ⟨o,ho,hc,hd⟩ rfl (xI ⟨len,fin⟩)
  |int j tj=>exact xH (l:=none) (u:=some (j,tj)) (st:=none) ⟨o,ho,hc,hd⟩ rfl (xI ⟨len,fin⟩)
 |int i ti =>
  cases pu with
  |none=>exact xH (l:=some (i,ti)) (u:=none) (st:=none) ⟨o,ho,hc,hd⟩ rfl (xI ⟨len,fin⟩)
  |int j tj=>exact xH (l:=some (i,ti)) (u:=some (j,tj)) (st:=none) ⟨o,ho,hc,hd⟩ rfl (xI ⟨len,fin⟩)
theorem FC{α β:Type}(f:α->β->Sem (ForInStep β))(g:β->α->β):∀(l:List α) (b:β),(∀x∈l,∀b,f x b=pure (.yield (g b x)))->forIn l b f=pure (l.foldl g b)
 |[],b,_=>rfl
 |x::l,b,h=>by
  rw[ur,h x df b];exact FC f g l (g b x) λy hy=>h y (dk _ hy)
def ky(env:Env)(acc:List (Str×Addr))(y:Str×NameKind):List (Str×Addr):=if y.2 == .free then(y.1,(env.cells.lookup y.1).getD 0)::acc else acc
def ia(scope:Scope)(env:Env):List (Str×Addr):=scope.names.foldl (ky env) []
theorem FD{scope:Scope}{env:Env}(h:∀y∈scope.names,y.2=.free->∃c,env.cells.lookup y.1=some c):closureFor scope env=pure (ia scope env):=show _ by
 simp only[closureFor];rw[FC _ (ky env) scope.names [] (λy hy b=>?_)]
 ·rfl
 ·obtain⟨n,k⟩:=y;by_cases hk:k=.free
  ·subst hk;obtain⟨c,e⟩:=h _ hy rfl;have e':env.cells.lookup n=some c:=e;simp only[ky,beq_self_eq_true,if_true,cellOf,e',DC];rfl
  ·have:(k==NameKind.free)=false:=by simpa using hk
   simp only[ky,this,iC,if_false]
theorem FF{env:Env}:∀(names:List (Str×NameKind)) (acc:List (Str×Addr)),(∀y∈names,y.2=.free->∃c,env.cells.lookup y.1=some c)->(∀y c,acc.lookup y=some c->env.cells.lookup y=some c) ->
 ∀y c,(names.foldl (ky env) acc).lookup y=some c->env.cells.lookup y=some c
 |[],acc,_,h,y,c,e=>h y c e
 |(n,k)::r,acc,hf,h,y,c,e=>by
  rw[oP]at e;refine FF r _ (λz hz=>hf z (dk _ hz)) (λy c e=>?_) y c e;unfold ky at e;by_cases hk:k=.free
  ·subst hk;obtain⟨c0,e0⟩:=hf _ df rfl;have e0':env.cells.lookup n=some c0:=e0;simp only[beq_self_eq_true,if_true,e0',DC,j7]at e;by_cases hy:y=n
   ·subst hy;simp at e;rw[<-e];exact e0'
   ·have hb:(y==n)=false:=show _ by simpa using hy
    simp only[hb]at e;exact h y c e
  ·have hb:(k==NameKind.free)=false:=by simpa using hk
   simp only[hb,iC,if_false]at e;exact h y c e
theorem yS{env:Env}:∀(names:List (Str×NameKind)) (acc:List (Str×Addr)) (y:Str),(y,NameKind.free)∈names∨(∃c,acc.lookup y=some c)->∃c,(names.foldl (ky env) acc).lookup y=some c
 |[],acc,y,h=>by
  rcases h with h|h
  ·simp at h
  ·exact h
 |(n,k)::r,acc,y,h=>by
  rw[oP];refine yS r _ y ?_;rcases h with h|⟨c,h⟩
  ·rcases bF.mp h with h|h
   ·cases h;exact .inr ⟨(env.cells.lookup n).getD 0,by simp[ky]⟩
   ·exact .inl h
  ·refine .inr ?_;unfold ky;by_cases hk:k=.free
   ·subst hk;simp only[beq_self_eq_true,if_true,j7];by_cases hy:y=n
    ·subst hy;simp
    ·have hb:(y==n)=false:=show _ by simpa using hy
     simp only[hb];exact⟨c,h⟩
   ·have hb:(k==NameKind.free)=false:=by simpa using hk
    simp only[hb,iC,if_false];exact⟨c,h⟩
theorem FH{scope:Scope}{env:Env}{y:Str}{k:NameKind}(h:(relabel scope env).names.lookup y=some k):∃k',(y,k')∈scope.names/\(k=k'∨(k'=.free/\k=.cell)):=show _ by
 have go:∀(l:List (Str×NameKind)),(l.map λ(n,k)=>if(k == .free&&env.scope.kind == .function&&env.kindOf n==some .cell) then(n,NameKind.cell) else(n,k)).lookup y=some k->∃k',(y,k')∈l/\(k=k'∨(k'=.free/\k=.cell)):=by
  intro l
  induction l with
  |nil=>intro h;simp at h
  |cons a r ih =>
   obtain⟨n,k0⟩:=a;intro h;rw[bO]at h;by_cases hc:(k0==NameKind.free&&env.scope.kind == .function&&env.kindOf n==some .cell)=true
   ·simp only[hc,if_true,j7]at h;by_cases hy:y=n
    ·subst hy;simp only[beq_self_eq_true]at h;refine⟨k0,df,.inr ⟨?_,by simpa using h.symm⟩⟩;simp only[f9]at hc;simpa using hc.1.1
    ·have hb:(y==n)=false:=by simpa using hy
     simp only[hb]at h;obtain⟨k',m,q⟩:=ih h;exact⟨k',dk _ m,q⟩
   ·dsimp only at h;rw[if_neg hc]at h;by_cases hy:y=n
    ·subst hy;simp at h;exact⟨k0,df,.inl h.symm⟩
    ·have hb:(y==n)=false:=by simpa using hy
     simp only[j7,hb]at h;obtain⟨k',m,q⟩:=ih h;exact⟨k',dk _ m,q⟩
 exact go scope.names h
theorem RE{scope:Scope}{env:Env}{y:Str}(hk:env.scope.kind=.function)(hc:env.kindOf y=some .cell)(h:scope.names.lookup y=some .free):(relabel scope env).names.lookup y=some .cell:=show _ by
 have go:∀(l:List (Str×NameKind)),l.lookup y=some .free->(l.map λ(n,k)=>if(k == .free&&env.scope.kind == .function&&env.kindOf n==some .cell) then(n,NameKind.cell) else(n,k)).lookup y=some .cell:=by
  intro l
  induction l with
  |nil=>intro h;simp at h
  |cons a r ih =>
   obtain⟨n,k0⟩:=a;intro h;rw[bO];by_cases hy:y=n
   ·subst hy;simp only[j7,beq_self_eq_true,uu]at h;subst h;simp[hk,hc]
   ·have hb:(y==n)=false:=by simpa using hy
    simp only[j7,hb]at h;by_cases hcc:(k0==NameKind.free&&env.scope.kind == .function&&env.kindOf n==some .cell)=true
    ·simp only[hcc,if_true,j7,hb];exact ih h
    ·dsimp only;rw[if_neg hcc];simp only[j7,hb];exact ih h
 exact go scope.names h
def yT(X:Cx)(scope:Scope)(C:Addr)(N:List Str)(fp:List Addr)(pins:List (Addr×Obj))(s:Shared)(H:Hp):Cx where
 prog:=X.prog
 w:=X.w
 K:=X.K
 mg:=X.mg
 base:=X.base
 A:=X.A
 N:=N
 s₀:=s
 H₀:=H
 env:=compEnvC scope (ia scope X.env) C X.env
 outer:=X.stack
 stack:=X.stack
 ex:=fp
 fn:=λ_=>false
 calm:=true
 pn:=X.pn++pins
 xe:=λ_ _=>False
def pick(σ:L2.St)(js:List Nat):L2.St:=js.map λj=>(σ[j]?).getD none
section
variable{X:Cx}{elt iter:Expr}{x:Str}{px pos:Pos}{scope cb:Scope}{M N:List Str}{js:List Nat}{wi:TI}{te:TE}
theorem vo(hjs:M.map some=js.map λj=>N[j]?):(∀(k:Nat) (y:Str),M[k]?=some y->∃j:Nat,js[k]?=some j/\N[j]?=some y)/\js.length=M.length:=show _ by
 constructor
 ·intro k y h;have e:(M.map some)[k]?=some (some y):=by rw[aS,h];rfl
  rw[hjs,aS]at e;cases q:js[k]? with
  |none=>rw[q]at e;cases e
  |some j =>
   rw[q]at e;exact⟨j,rfl,by simpa using e⟩
 ·have:=congrArg j0 hjs;simpa using this.symm
end
def lX(K:ao)(H:Hp)(a:Addr)(xs:List V):Prop:=(∃o,H a=some (.dB o (.lst xs))) ∨
 ∃(o:Obj) (its:Array Value) (n:Nat),K.lookup a=some o/\o.cls=.type "list"/\o.dict=none/\o.data=.seq its n/\its.size<=sizeLine/\Vals xs its.toList
theorem lX.sq{K:ao}{H:Hp}{a:Addr}{xs:List V}(h:lX K H a xs):bg K H a xs:=by
 rcases h with⟨o,h⟩|h
 ·exact .inl (.inr ⟨o,h⟩)
 ·exact .inr h
theorem lX.of{K:ao}{H:Hp}{a:Addr}{xs:List V}(h:bg K H a xs)(o:sg H):lX K H a xs:=by
 rcases h with(h|h)|h
 ·rcases o a with e|⟨ob,ys,e⟩
  ·rw[e]at h;cases h
  ·rw[e]at h;cases h
 ·exact .inl h
 ·exact .inr h
theorem RF:Slot "reversed" "__init__" "object.__init__" :=
 .of (owner:="object") (n:="__init__") (by rw[mP,mQ];kernel_rfl) (by cbv) (by cbv) (by cbv)
  (by first|exact .inl (by cbv)|exact .inr (by cbv)) (by rw[xJ];kernel_rfl)
theorem RG:TypeCalled "reversed" "reversed.__new__" "object.__init__" :=
 ⟨by cbv,F.create_reversed,⟨_,_,F.mro_reversed⟩,F.made_reversed,F.plain_reversed_new,F.sub_reversed_self,RF⟩
theorem RH:typeLookup (.type "tuple") "__reversed__"=pure none:=by rw[mP,mQ];kernel_rfl
theorem RJ:isSubtype (.type "tuple") (.type "dict")=pure false:=by rw[xJ];kernel_rfl
theorem sD:Slot "reversed" "__next__" "reversed.__next__" :=
 .of (owner:="reversed") (n:="__next__") (by rw[mP,mQ];kernel_rfl) (by cbv) (by cbv) (by cbv)
  (by first|exact .inl (by cbv)|exact .inr (by cbv)) (by rw[xJ];kernel_rfl)
theorem FI:entryFor table "reversed.__next__"=some Builtin.«reversed.__next__»:=entryFor_of_tree (by kernel_rfl)
theorem FJ(a:Value):argsOk "reversed.__next__" ⟨[a],[]⟩:=by unfold argsOk;kernel_rfl
theorem FK:Slot "reversed" "__iter__" "reversed.__iter__" :=
 .of (owner:="reversed") (n:="__iter__") (by rw[mP,mQ];kernel_rfl) (by cbv) (by cbv) (by cbv)
  (by first|exact .inl (by cbv)|exact .inr (by cbv)) (by rw[xJ];kernel_rfl)
theorem RK:entryFor table "reversed.__iter__"=some Builtin.«dict_keyiterator.__iter__» :=
 entryFor_alias (id':="dict_keyiterator.__iter__") (by kernel_rfl) (by first|rfl|cbv|(unfold String.splitOn;simp +decide [String.splitOnAux])) (by cbv) (by kernel_rfl)
theorem RL(a:Value):argsOk "reversed.__iter__" ⟨[a],[]⟩:=by unfold argsOk;kernel_rfl
def lY(h:Heap)(a l:Addr)(i:Int):Prop:=∃o,h.get? a=some o/\o.cls=.type "reversed"/\o.data=.fields #[.ref l,rawInt i]
theorem lY.typeIs{s:Shared}{a l:Addr}{i:Int}(x:lY s.heap a l i):s.TypeIs (.ref a) "reversed":=let⟨o,ho,hc,_⟩:=x;⟨o,ho,hc⟩
section
variable{prog:Program}{w:World}{A:Around}{E:Value->Shared->Prop}{s:Shared}
theorem RM(l:Addr)(items:Array Value)(hz:(items.size:Int)<2^63):Meets (Builtin.«reversed.__new__» ⟨[.type "reversed",.ref l],[]⟩) (λ_ R s=>s.heap.IsTuple l items /\
 ∀tk,R (.ok (.ret (.ref s.heap.objs.size))) {s with heap:=s.heap.push {cls:=.type "reversed",data:=.fields #[.ref l,rawInt ((items.size:Int)-1)]},toks:=tk}) :=
 .of_wp λprog w A R s h=>by
  obtain⟨ht,h⟩:=h;have hT:s.TypeIs (.ref l) "tuple":=let⟨o,ho,hc,_⟩:=ht;⟨o,ho,hc⟩
  unfold Builtin.«reversed.__new__»;refine ai (mR (newClass_reversed _) ?_)
  try dsimp only
  refine ai (mR (a:=()) (by first|rfl|kernel_rfl) ?_);refine ai (mR (a:=()) (by first|rfl|kernel_rfl) ?_)
  try dsimp only
  refine ai (lr hT RH ?_)
  try dsimp only
  refine ai ?_;refine ai (m:=isInstance (.ref l) (.type "dict")) (uf (T:="tuple") (b:=false) hT RJ ?_);simp only[iC,if_false];refine ai (lr hT lC.lookup ?_)
  try dsimp only
  rw[if_pos (by decide)];refine aE ?_;simp only[CV,iC,if_false];refine ai (len_tuple ht hz ?_);refine ai (m:=asInt? (.int (items.size:Int) s.toks)) (mR (a:=some (items.size:Int)) rfl ?_)
  try dsimp only
  refine ai (m:=aiL (.type "reversed") [.ref l,rawInt ((items.size:Int)-1)]) ?_;refine ji (data:=.fields #[.ref l,rawInt ((items.size:Int)-1)]) ?_;exact aE ⟨_,rfl,h _⟩
theorem RN{l:Addr}{items:Array Value}{Q:Value->Shared->Prop}(ht:s.heap.IsTuple l items)(hz:(items.size:Int)<2^63)
 (h:∀tk,Q (.ref s.heap.objs.size) {s with heap:=s.heap.push {cls:=.type "reversed",data:=.fields #[.ref l,rawInt ((items.size:Int)-1)]},toks:=tk}):wpAny (model prog w) A (call (.type "reversed") [.ref l]) Q E s:=show _ by
 refine DD RG (by decide) (F.typeCall_reversed_1 _) (F.newCall_reversed_1 _) (λobj=>M_ obj _) F.entry_reversed_new (RM l items hz) ⟨ht,λtk=>?_⟩;exact⟨⟨_,c8 _ rfl,rfl⟩,h tk⟩
theorem RP{it l:Addr}{i:Nat}{items:Array Value}{x:Value}{Q:Option Value->Shared->Prop}(hit:lY s.heap it l (i:Int))(hl:s.heap.IsTuple l items)(hx:items[i]?=some x)(hz:(items.size:Int)<2^63)
 (hQ:∀h' tk,lY h' it l ((i:Int)-1)->fF it s.heap h'->Q (some x) {s with heap:=h',toks:=tk}):wpAny (model prog w) A (pyNext (.ref it)) Q E s:=show _ by
 obtain⟨o,ho,hc,hd⟩:=id hit;have hT:s.TypeIs (.ref l) "tuple":=let⟨o,ho,hc,_⟩:=hl;⟨o,ho,hc⟩
 unfold pyNext;refine ai (oQ (j5 (name:=jh "__next__") hit.typeIs sD
  (gZ sD hit.typeIs FI ?_ (FJ _))))
 unfold Builtin.«reversed.__next__»;refine ai (mR (a:=(Value.ref it,[])) rfl ?_)
 try dsimp only
 refine ai (c9 ho hd (x:=.ref l) rfl ?_)
 try dsimp only
 refine ai (c9 ho hd (x:=rawInt (i:Int)) rfl ?_);show wpAny _ _ (if(i:Int)<0 then _ else _) _ _ s;rw[if_neg (by lia)];refine ai (lr hT lC.lookup ?_);show wpAny _ _ (if(some (Value.builtin "tuple.__getitem__")).isNone=true then _ else _) _ _ s;rw[if_neg (by simp)];refine ai (wpAny_mkInt ?_);have hi:i<items.size:=(Array.getElem?_eq_some_iff.mp hx).1;refine ai (oQ (getItem_tuple (j:=i) hl (by lia) (by lia) (xC (by lia) (by lia)) hx ?_));refine ai (c9 (s:={s with toks:=s.toks+1}) ho hd (x:=rawInt (i:Int)) rfl ?_);show wpAny _ _ (setField (.ref it) 1 (rawInt ((i:Int)-1)) >>= λ_=>ret x) _ _ _;refine ai (uv ho hd (by simp) ?_);refine aE ⟨x,rfl,aE (hQ _ _ ?_ (uw ..))⟩;exact⟨_,oO _ ho (DE (rA hd _)),(M' ..).trans hc,by
  rw[rA hd];simp⟩
theorem RQ{it l:Addr}{Q:Option Value->Shared->Prop}(hh:A.handled=none)(hit:lY s.heap it l (-1))
 (hQ:∀h',ux it s.heap h'->Q none {s with heap:=h'}):wpAny (model prog w) A (pyNext (.ref it)) Q E s:=show _ by
 obtain⟨o,ho,hc,hd⟩:=id hit;unfold pyNext;refine ai (oQ (j5 (name:=jh "__next__") hit.typeIs sD
  (gZ sD hit.typeIs FI ?_ (FJ _))))
 unfold Builtin.«reversed.__next__»;refine ai (mR (a:=(Value.ref it,[])) rfl ?_)
 try dsimp only
 refine ai (c9 ho hd (x:=.ref l) rfl ?_)
 try dsimp only
 refine ai (c9 ho hd (x:=rawInt (-1)) rfl ?_);show wpAny _ _ (if(-1:Int)<0 then _ else _) _ _ s;rw[if_pos (by decide)];refine ai (jV ?_);refine ai ?_;refine ai (m:=setField (.ref it) 1 (rawInt (-1))) (uv ho hd (by simp) ?_);have ho1:=oO (a:=it) (xK λxs=>xs.setIfInBounds 1 (rawInt (-1))) ho (DE (rA hd _));refine uv ho1 (rA hd _) (by simp) ?_;refine ai (m:=aiM) ?_;show wpAny _ _ (newExc (.type "StopIteration") [] >>= _) _ _ _;refine ai ?_;simp only[newExc,newTuple];refine ai (ji ?_ (by size_fits));refine ai (m:=firstArgMember _ _) (mR (a:=Value.none) (by first|rfl|(simp only[firstArgMember];rfl)) ?_);refine ji ?_ (by size_fits);simp only[raiseNew];refine ai (wpAny_handled ?_)
 first|rw[show A.in1.handled=none from hh]|rw[hh]
 refine ai (aE (wpAny_throw ?_));refine ai (uf (T:="StopIteration") (b:=true) ⟨_,c8 _ rfl,rfl⟩ DF ?_);refine aE (hQ _ ?_);have e1:=(uw (h:=s.heap) (a:=it) (f:=xK λxs=>xs.setIfInBounds 1 (rawInt (-1)))).extBut;have e2:=(uw (h:=s.heap.update it (xK λxs=>xs.setIfInBounds 1 (rawInt (-1)))) (a:=it) (f:=xK λxs=>xs.setIfInBounds 0 Value.none)).extBut;exact λb ob hb e=>bx _ (bx _ (e2 b ob hb (e1 b ob hb e)))
theorem FL{it l:Addr}{i:Int}{Q:Value->Shared->Prop}(hit:lY s.heap it l i)(h:Q (.ref it) s):wpAny (model prog w) A (pyIter (.ref it)) Q E s:=by
 refine Nc hit.typeIs FK (gZ FK hit.typeIs RK ?_ (RL _));show wpAny _ _ (ret (.ref it)) _ _ s;exact aE ⟨_,rfl,"reversed",_,hit.typeIs,sD.lookup,h⟩
end
def FN(K:ao)(a:Addr)(n:Nat):It :=
 ⟨λi H=>i<n/\∃xs,bh K H a xs/\xs.length=n,λi H x H'=>H'=H/\∀xs,bh K H a xs->xs[n-1-i]?=some x,λi _=>n<=i⟩
theorem RR{P:Program}{w:World}{K:ao}{tg:Expr}(a it:Addr)(n:Nat):Turn P w K tg (FN K a n) [it] it (λi h=>i<=n/\lY h it a ((n:Int)-1-(i:Int))) where
 mem:=show _ by simp
 obj:=λi h st b hb=>by
  have e:b=it:=by simpa using hb
  subst e;obtain⟨_,o,e,c,d⟩:=st;exact⟨o,e,λv z=>by rw[d]at z;cases z⟩
 keep:=λi h h' st k=>let⟨hi,o,ho,r⟩:=st;⟨hi,o,k it (by simp) o ho,r⟩
 item:=by
  intro X hP hw hK hc i pins s σ H E I hf st hg;subst hP hw hK;obtain⟨hi,xs,hq,hn⟩:=hg;obtain⟨its,rv,p,hz⟩:=I.tuple hq;have hl:=rv.length;have hx:xs[n-1-i]?=some xs[n-1-i]:=bb (by lia);obtain⟨u,hu,ru⟩:=rv.get hx;obtain⟨f0,f1,f2,f3,f4,f5⟩:=hf it (by simp);have e1:(n:Int)-1-(i:Int)=((n-1-i:Nat):Int):=by lia
  have st2:=st.2;rw[e1]at st2;have RT:=kl;refine RP st2 (show s.heap.IsTuple a its.toArray from p) (x:=u) (by simpa using hu) (by simp only[bU];lia) λh' tk st' sb=>?_;have I1:Inv X pins σ H {s with heap:=h',toks:=tk}:=I.turned (λb o hb e=>(sb.2 b hb).trans e) f0 f1 f3 f4 f5;obtain⟨o,e,c,d⟩:=id st';have e2:((n-1-i:Nat):Int)-1=(n:Int)-1-((i+1:Nat):Int):=by lia
  refine⟨u,rfl,rO (s:={s with heap:=h',toks:=tk}) e c d (by decide) ⟨xs[n-1-i],H,I1,ru,⟨rfl,λys hy=>by rw[I.oW hy hq];exact hx⟩,⟨hi,?_⟩,λb hb=>(hf b hb).1⟩⟩;rw[<-e2];exact st'
 done:=by
  intro X hP hw hK hc i pins s σ H E I hf st hg;subst hP hw hK;obtain⟨f0,f1,f2,f3,f4,f5⟩:=hf it (by simp);have hg':n<=i:=hg;have e1:(n:Int)-1-(i:Int)=-1:=by have:=st.1;lia
  have st2:=st.2;rw[e1]at st2;exact RQ (I.ok.hd hc) st2 λh' eb=>⟨rfl,I.turned (t':=s.toks) (λb o hb e=>eb b o hb e) f0 f1 f3 f4 f5⟩
 self:=λ_ _ _ _ _ st h=>FL st.2 h
def RU(K:ao)(te:TA):TI:=λσ H R=>te σ H λvs H1=>∃a xs,vs=[.ref a]/\bh K H1 a xs/\R (FN K a xs.length) H1
theorem FO:bootBuiltins "reversed"=some (.type "reversed"):=by cbv
theorem RV{X:Cx}{tg a:Expr}{ta:TA}{p pos:Pos}(hg:Gl X "reversed")(hm:X.mg "reversed"=none)(ha:PA X [a] ta)(hs:starEach [a] X.env=[(false,eval a X.env)]:=by rfl):PI X tg (.Call (.Name "reversed" p) [a] [] pos) (RU X.K ta):=show _ by
 intro pins s σ H R I h;refine Call_ (jr I hg hm FO (mJ (aF (ha pos pins s σ H _ I h) λus s1 ⟨vs,H1,I1,r1,q1⟩=>?_) hs rfl));obtain⟨b,xs,e,hq,q⟩:=q1;subst e;cases r1 with
 |cons r rr =>
  cases rr;cases r;obtain⟨its,rv,pt,hz⟩:=I1.tuple hq;have hl:=rv.length;have RT:=kl;refine RN (show s1.heap.IsTuple b its.toArray from pt) (by simp only[bU];lia) λtk=>?_;have I2:Inv X pins σ H1 {s1 with heap:=s1.heap.push {cls:=.type "reversed",data:=.fields #[.ref b,rawInt ((its.toArray.size:Int)-1)]},toks:=tk}:=I1.kept λc o e=>bx _ e;have st:lY (s1.heap.push {cls:=.type "reversed",data:=.fields #[.ref b,rawInt ((its.toArray.size:Int)-1)]}) s1.heap.objs.size b ((its.toArray.size:Int)-1):=⟨_,c8 _ rfl,rfl,rfl⟩;refine FL st ?_;have e1:(its.toArray.size:Int)-1=(xs.length:Int)-1-((0:Nat):Int):=by simp only[bU];lia
  refine⟨s1.heap.objs.size,[s1.heap.objs.size],_,_,H1,rfl,I2,RR b _ xs.length,⟨b8 _,by rw[<-e1];exact st⟩,λc hc=>?_,q⟩;have e:c=s1.heap.objs.size:=by simpa using hc
  subst e;exact I1.ki (aV _) (I1.hok.fresh (aV _))
end EE
namespace E3
open PySem PySem.Spec PyProof.Rows L2 EE
inductive D where
 |non|bl (b:Bool)|int (i:Int)|str (x:Str)|tup (xs:List D)|bH (xs:List D)|ref (a:Addr)|ty (n:String)
inductive O where
 |lst (xs:List D)|bp (kvs:List (Key×D))|exc (C:Addr)|ins (C:Addr) (fs:List (Str×D))|tab (kvs:List (DK×D))
abbrev af:=Addr->Option O
abbrev aL:=List (Option D)
abbrev K3:=D->af->Prop
abbrev X3:=Addr->Addr->af->Prop
abbrev bL:=aL->X3
def up(S:af)(a:Addr)(o:O):af:=λb=>if b=a then some o else S b
def emp:af:=λ_=>none
theorem av{S:af}{a:Addr}{o:O}:up S a o a=some o:=if_pos rfl
theorem aM{S:af}{a b:Addr}{o:O}(h:b≠a):up S a o b=S b:=if_neg h
theorem o_{S:af}{a:Addr}{o u:O}:up (up S a o) a u=up S a u:=by
 funext b;unfold up;split<;>rfl
theorem ne3{S:af}{a b:Addr}{o:O}(h:S a=some o)(h':S b=none):a≠b:=by
 intro e;subst e;rw[h]at h';cases h'
theorem az{S:af}{a b:Addr}{o u:O}(h:S b=some u)(h':S a=none):up S a o b=some u:=by rw[aM (ne3 h h')];exact h
structure Zt where
 p:Addr->Prop
 base:Hp
instance:CoeFun Zt (λ_=>Addr->Prop):=⟨Zt.p⟩
def RW(a C:Addr):Heap->Prop:=λh=>∃o,h.get? a=some o/\o.cls=.ref C/\∃xs n,o.data=.fields xs/\n=xs.size
mutual
inductive Rp(K:ao)(H:Hp):D->V->Prop where
 |non:Rp K H .non .non
 |bl (b:Bool):Rp K H (.bl b) (.bl b)
 |int (i:Int):Rp K H (.int i) (.int i)
 |str (x:Str):Rp K H (.str x) (.str x)
 |ref (a:Addr):Rp K H (.ref a) (.ref a)
 |ty (n:String):Rp K H (.ty n) (.ty n)
 |tup {a:Addr} {xs:List V} {ds:List D}:bh K H a xs->aT K H ds xs->Rp K H (.tup ds) (.ref a)
 |bH {a:Addr} {xs:List V} {ds:List D}:lX K H a xs->aT K H ds xs->Rp K H (.bH ds) (.ref a)
inductive aT(K:ao)(H:Hp):List D->List V->Prop where
 |nil:aT K H [] []
 |cons {d:D} {v:V} {ds:List D} {vs:List V}:Rp K H d v->aT K H ds vs->aT K H (d::ds) (v::vs)
end
structure Kp(Z:Zt)(H H':Hp):Prop where
 tup:∀b xs,H b=some (.tup xs)->H' b=some (.tup xs)
 dB:∀b o u,H b=some (.dB o u)->H' b=some (.dB o u)
 hid:∀b,Z b->H' b=H b
theorem Kp.refl(Z:Zt)(H:Hp):Kp Z H H:=⟨λ_ _ h=>h,λ_ _ _ h=>h,λ_ _=>rfl⟩
theorem Kp.trans{Z:Zt}{H H1 H2:Hp}(a:Kp Z H H1)(b:Kp Z H1 H2):Kp Z H H2 :=
 ⟨λc xs h=>b.tup _ _ (a.tup _ _ h),λc o u h=>b.dB _ _ _ (a.dB _ _ _ h),λc z=>(b.hid c z).trans (a.hid c z)⟩
theorem Kp.gI{K:ao}{Z:Zt}{H H':Hp}{a:Addr}{xs:List V}(k:Kp Z H H')(h:bh K H a xs):bh K H' a xs:=by
 exact k.tup _ _ h
theorem Kp.yU{K:ao}{Z:Zt}{H H':Hp}{a:Addr}{xs:List V}(k:Kp Z H H')(h:lX K H a xs):lX K H' a xs:=by
 rcases h with⟨o,h⟩|h
 ·exact .inl ⟨o,k.dB _ _ _ h⟩
 ·exact .inr h
mutual
theorem Rp.mono{K:ao}{Z:Zt}{H H':Hp}(k:Kp Z H H'):∀{d:D} {v:V},Rp K H d v->Rp K H' d v
 |_,_,.non=>.non
 |_,_,.bl b=>.bl b
 |_,_,.int i=>.int i
 |_,_,.str x=>.str x
 |_,_,.ref a=>.ref a
 |_,_,.ty n=>.ty n
 |_,_,.tup h r=>.tup (k.gI h) (aT.mono k r)
 |_,_,.bH h r=>.bH (k.yU h) (aT.mono k r)
theorem aT.mono{K:ao}{Z:Zt}{H H':Hp}(k:Kp Z H H'):∀{ds:List D} {vs:List V},aT K H ds vs->aT K H' ds vs
 |_,_,.nil=>.nil
 |_,_,.cons h r=>.cons (Rp.mono k h) (aT.mono k r)
end
section
variable{K:PySem.W.Frag}{H:Hp}
theorem aT.len:∀{ds:List D} {vs:List V},aT K H ds vs->ds.length=vs.length
 |_,_,.nil=>rfl
 |_,_,.cons _ r=>by simp[aT.len r]
theorem aT.at:∀{ds:List D} {vs:List V} {i:Nat} {d:D},aT K H ds vs->ds[i]?=some d->∃v,vs[i]?=some v/\Rp K H d v
 |_,_,_,_,.nil,e=>by simp at e
 |_,_,0,_,.cons r _,e=>by simp at e;subst e;exact⟨_,rfl,r⟩
 |_,_,i+1,d,.cons _ q,e=>by
  obtain⟨v,h1,h2⟩:=aT.at (i:=i) (d:=d) q (by simpa using e);exact⟨v,by simpa using h1,h2⟩
theorem aT.append:∀{ds es:List D} {vs ws:List V},aT K H ds vs->aT K H es ws->aT K H (ds++es) (vs++ws)
 |_,_,_,_,.nil,s=>s
 |_,_,_,_,.cons r t,s=>.cons r (aT.append t s)
theorem aT.take:∀{ds:List D} {vs:List V} (n:Nat),aT K H ds vs->aT K H (ds.take n) (vs.take n)
 |_,_,0,_=>.nil
 |_,_,_+1,.nil=>.nil
 |_,_,n+1,.cons r t=>.cons r (aT.take n t)
theorem aT.drop:∀{ds:List D} {vs:List V} (n:Nat),aT K H ds vs->aT K H (ds.drop n) (vs.drop n)
 |_,_,0,r=>r
 |_,_,_+1,.nil=>.nil
 |_,_,n+1,.cons _ t=>aT.drop n t
theorem aT.set{d:D}{v:V}(r:Rp K H d v):∀{ds:List D} {vs:List V} (i:Nat),aT K H ds vs->aT K H (ds.set i d) (vs.set i v)
 |_,_,_,.nil=>.nil
 |_,_,0,.cons _ t=>.cons r t
 |_,_,i+1,.cons q t=>.cons q (aT.set r i t)
theorem aT.snoc_inv:∀{ds:List D} {d:D} {vs:List V},aT K H (ds++[d]) vs->∃ws w,vs=ws++[w]/\aT K H ds ws/\Rp K H d w
 |[],d,_,.cons r .nil=>⟨[],_,rfl,.nil,r⟩
 |_::ds,d,_,.cons r q=>by
  obtain⟨ws,w,rfl,a,b⟩:=aT.snoc_inv (ds:=ds) q;exact⟨_::ws,w,rfl,.cons r a,b⟩
theorem aT.ints:∀(ns:List Int),aT K H (ns.map D.int) (ns.map V.int)
 |[]=>.nil
 |n::ns=>.cons (.int n) (aT.ints ns)
theorem aT.strs:∀{xs:List Str} {vs:List V},aT K H (xs.map D.str) vs->vs=xs.map V.str
 |[],_,.nil=>rfl
 |_::xs,_,.cons (.str _) q=>by rw[aT.strs q];rfl
end
def OR(K:ao)(H:Hp)(a:Addr):O->Prop
 | .lst ds=>∃vs,H a=some (.lst vs)/\aT K H ds vs
 | .bp kvs=>∃ws,H a=some (.dK ws)/\Paired (λ(p:Key×D) (q:Key×V)=>p.1=q.1/\Rp K H p.2 q.2) kvs ws
 | .exc C=>H a=some (.ext (RW a C))
 | .ins C fs=>∃dx ws,H a=some (.ins C dx ws)/\Paired (λ(p:Str×D) (q:Str×V)=>p.1=q.1/\Rp K H p.2 q.2) fs ws
 | .tab kvs=>∃ws,H a=some (.dT ws)/\Paired (λ(p:DK×D) (q:DK×V)=>p.1=q.1/\Rp K H p.2 q.2) kvs ws
structure Rl(K:ao)(Z:Zt)(S:af)(H:Hp):Prop where
 obj:∀a o,S a=some o->OR K H a o
 hid:∀a,Z a->S a=none/\H a≠none
 old:Kp Z Z.base H
theorem OR.there{K:ao}{H:Hp}{a:Addr}{o:O}(h:OR K H a o):H a≠none:=by
 cases o with
 |lst ds=>obtain⟨vs,e,_⟩:=h;rw[e];simp
 |bp ds=>obtain⟨vs,e,_⟩:=h;rw[e];simp
 |tab ds=>obtain⟨vs,e,_⟩:=h;rw[e];simp
 |exc C=>have e:H a=_:=h;rw[e];simp
 |ins C fs=>obtain⟨dx,vs,e,_⟩:=h;rw[e];simp
theorem OR.RX{K:ao}{H:Hp}{a:Addr}{o:O}(h:OR K H a o):(∀xs,H a≠some (.tup xs))/\∀q u,H a≠some (.dB q u):=show _ by
 cases o with
 |lst ds=>obtain⟨vs,e,_⟩:=h;rw[e];exact⟨λ_ z=>(nomatch z),λ_ _ z=>(nomatch z)⟩
 |bp ds=>obtain⟨vs,e,_⟩:=h;rw[e];exact⟨λ_ z=>(nomatch z),λ_ _ z=>(nomatch z)⟩
 |tab ds=>obtain⟨vs,e,_⟩:=h;rw[e];exact⟨λ_ z=>(nomatch z),λ_ _ z=>(nomatch z)⟩
 |exc C=>have e:H a=_:=h;rw[e];exact⟨λ_ z=>(nomatch z),λ_ _ z=>(nomatch z)⟩
 |ins C fs=>obtain⟨dx,vs,e,_⟩:=h;rw[e];exact⟨λ_ z=>(nomatch z),λ_ _ z=>(nomatch z)⟩
theorem Rl.fresh{K:ao}{Z:Zt}{S:af}{H:Hp}{p:Addr}(r:Rl K Z S H)(h:H p=none):S p=none/\¬Z p:=by
 constructor
 ·cases e:S p with
  |none=>rfl
  |some o=>exact absurd h (r.obj p o e).there
 ·exact λz=>(r.hid p z).2 h
theorem Kp.new{Z:Zt}{H:Hp}{p:Addr}{o:HO}(h:H p=none)(hz:¬Z p):Kp Z H (upd H p o) :=
 ⟨λb xs e=>by rw[bf (hW e h)];exact e,λb q u e=>by rw[bf (hW e h)];exact e,λb z=>bf λe=>hz (e▸z)⟩
theorem Kp.at{K:ao}{Z:Zt}{S:af}{H:Hp}{p:Addr}{o:O}{q:HO}(r:Rl K Z S H)(h:S p=some o):Kp Z H (upd H p q):=show _ by
 have n:=(r.obj p o h).RX;refine⟨λb xs e=>?_,λb q u e=>?_,λb z=>?_⟩
 ·rw[bf];exact e;rintro rfl;exact n.1 _ e
 ·rw[bf];exact e;rintro rfl;exact n.2 _ _ e
 ·rw[bf];rintro rfl;rw[(r.hid _ z).1]at h;cases h
theorem OR.keep{K:ao}{Z:Zt}{H H':Hp}{a:Addr}{o:O}(h:OR K H a o)(k:Kp Z H H')(e:H' a=H a):OR K H' a o:=show _ by
 cases o with
 |lst ds=>obtain⟨vs,h1,h2⟩:=h;exact⟨vs,e.trans h1,h2.mono k⟩
 |bp ds=>obtain⟨vs,h1,h2⟩:=h;exact⟨vs,e.trans h1,Paired.jq h2 λp q z=>⟨z.1,z.2.mono k⟩⟩
 |tab ds=>obtain⟨vs,h1,h2⟩:=h;exact⟨vs,e.trans h1,Paired.jq h2 λp q z=>⟨z.1,z.2.mono k⟩⟩
 |exc C=>exact e.trans h
 |ins C fs=>obtain⟨dx,vs,h1,h2⟩:=h;exact⟨dx,vs,e.trans h1,Paired.jq h2 λp q z=>⟨z.1,z.2.mono k⟩⟩
theorem Rl.put{K:ao}{Z:Zt}{S:af}{H:Hp}{p:Addr}{o:O}{q:HO}(r:Rl K Z S H)(k:Kp Z H (upd H p q))(hz:¬Z p)(h:OR K (upd H p q) p o):Rl K Z (up S p o) (upd H p q):=show _ by
 refine⟨λb u e=>?_,λb z=>?_,r.old.trans k⟩
 ·by_cases hb:b=p
  ·subst hb;rw[av]at e;cases e;exact h
  ·rw[aM hb]at e;exact(r.obj b u e).keep k (bf hb)
 ·have hb:b≠p:=λe=>hz (e▸z);rw[aM hb,bf hb];exact r.hid b z
theorem Rl.m_{K:ao}{Z:Zt}{S:af}{H:Hp}{p:Addr}{o:O}(r:Rl K Z S H)(h:S p=some o):¬Z p:=λz=>by
 rw[(r.hid _ z).1]at h;cases h
theorem Rl.lay{K:ao}{Z:Zt}{S:af}{H:Hp}{p:Addr}{q:HO}(r:Rl K Z S H)(h:H p=none):Rl K Z S (upd H p q):=by
 obtain⟨hs,hz⟩:=r.fresh h;refine⟨λb u e=>(r.obj b u e).keep (Kp.new h hz) (bf (ne3 e hs)),λb z=>?_,r.old.trans (Kp.new h hz)⟩;have hb:b≠p:=λe=>hz (e▸z);rw[bf hb];exact r.hid b z
def RO(K:ao)(H:Hp)(o:Option D)(p:Option V):Prop:=∀d,o=some d->∃v,p=some v/\Rp K H d v
abbrev SR(K:ao)(H:Hp):aL->L2.St->Prop:=Paired (RO K H)
theorem RO.mono{K:ao}{Z:Zt}{H H':Hp}(k:Kp Z H H'){o:Option D}{p:Option V}(h:RO K H o p):RO K H' o p:=λd e=>by
 obtain⟨v,h1,h2⟩:=h d e;exact⟨v,h1,h2.mono k⟩
theorem SR.mono{K:ao}{Z:Zt}{H H':Hp}(k:Kp Z H H'){σ:aL}{τ:L2.St}(h:SR K H σ τ):SR K H' σ τ:=Paired.jq h λ_ _ q=>q.mono k
theorem SR.at{K:ao}{H:Hp}:∀{σ:aL} {τ:L2.St} {i:Nat} {d:D},SR K H σ τ->σ[i]?=some (some d)->∃v,τ[i]?=some (some v)/\Rp K H d v
 |_,_,_,_,.nil,e=>by simp at e
 |_,_,0,_,.cons r _,e=>by
  simp at e;obtain⟨v,h1,h2⟩:=r _ e;exact⟨v,by simp[h1],h2⟩
 |_,_,i+1,d,.cons _ q,e=>by
  obtain⟨v,h1,h2⟩:=SR.at (i:=i) (d:=d) q (by simpa using e);exact⟨v,by simpa using h1,h2⟩
theorem SR.set{K:ao}{H:Hp}{d:D}{v:V}(r:Rp K H d v):∀{σ:aL} {τ:L2.St} (i:Nat),SR K H σ τ->SR K H (σ.set i (some d)) (τ.set i (some v))
 |_,_,_,.nil=>.nil
 |_,_,0,.cons _ t=>.cons (λe he=>by cases he;exact⟨v,rfl,r⟩) t
 |_,_,i+1,.cons q t=>.cons q (SR.set r i t)
theorem SR.sE{K:ao}{H:Hp}:∀{ds:List D} {vs:List V},aT K H ds vs->SR K H (ds.map some) (vs.map some)
 |_,_,.nil=>.nil
 |_,_,.cons r t=>.cons (λe he=>by cases he;exact⟨_,rfl,r⟩) (SR.sE t)
theorem SR.nones{K:ao}{H:Hp}:∀n:Nat,SR K H (fH n none) (fH n none)
 |0=>.nil
 |n+1=>.cons (λd e=>by cases e) (SR.nones n)
theorem nc{α β:Type}{F:α->β->Prop}:∀{a b:List α} {c d:List β},Paired F a c->Paired F b d->Paired F (a++b) (c++d)
 |_,_,_,_,.nil,s=>s
 |_,_,_,_,.cons r t,s=>.cons r (nc t s)
abbrev aG:=aL->af->K3->Prop
abbrev cI:=aL->af->(Bool->af->Prop)->Prop
abbrev bZ:=aL->af->(List D->af->Prop)->Prop
structure gJ where
 nx:aL->af->Prop
 rt:K3
 bk:aL->af->Prop:=λ_ _=>False
 ct:aL->af->Prop:=λ_ _=>False
abbrev b6:=gJ->aL->af->Prop
section
variable(K:PySem.W.Frag)(Z:Zt)
def CK(H:Hp)(Q3:K3)(Q:VK):Prop:=∀d S v H',Kp Z H H'->Rp K H' d v->Rl K Z S H'->Q3 d S->Q v H'
def CT(H:Hp)(Q3:Bool->af->Prop)(Q:Bool->Hp->Prop):Prop:=∀b S H',Kp Z H H'->Rl K Z S H'->Q3 b S->Q b H'
def CA(H:Hp)(Q3:List D->af->Prop)(Q:List V->Hp->Prop):Prop:=∀ds S vs H',Kp Z H H'->aT K H' ds vs->Rl K Z S H'->Q3 ds S->Q vs H'
def CS(H:Hp)(Q3:aL->af->Prop)(Q:L2.St->Hp->Prop):Prop:=∀σ S τ H',Kp Z H H'->SR K H' σ τ->Rl K Z S H'->Q3 σ S->Q τ H'
structure CD(H:Hp)(D3:gJ)(D:Ends):Prop where
 nx:CS K Z H D3.nx D.nx
 bk:CS K Z H D3.bk D.bk
 ct:CS K Z H D3.ct D.ct
 rt:CK K Z H D3.rt D.rt
inductive lE(t:aG)(τ:L2.St)(H:Hp)(Q:VK):Prop where
 |mk (σ:aL) (S:af) (Q3:K3) (hs:SR K H σ τ) (hr:Rl K Z S H) (ht:t σ S Q3) (hc:CK K Z H Q3 Q)
inductive lT(t:cI)(τ:L2.St)(H:Hp)(Q:Bool->Hp->Prop):Prop where
 |mk (σ:aL) (S:af) (Q3:Bool->af->Prop) (hs:SR K H σ τ) (hr:Rl K Z S H) (ht:t σ S Q3) (hc:CT K Z H Q3 Q)
inductive lA(t:bZ)(τ:L2.St)(H:Hp)(Q:List V->Hp->Prop):Prop where
 |mk (σ:aL) (S:af) (Q3:List D->af->Prop) (hs:SR K H σ τ) (hr:Rl K Z S H) (ht:t σ S Q3) (hc:CA K Z H Q3 Q)
inductive lS(t:b6)(D:Ends)(τ:L2.St)(H:Hp):Prop where
 |mk (D3:gJ) (σ:aL) (S:af) (hs:SR K H σ τ) (hr:Rl K Z S H) (ht:t D3 σ S) (hc:CD K Z H D3 D)
end
variable{K:PySem.W.Frag}{Z:Zt}
theorem CK.mono{H H':Hp}{Q3:K3}{Q:VK}(k:Kp Z H H')(h:CK K Z H Q3 Q):CK K Z H' Q3 Q:=λd S v H2 k2=>h d S v H2 (k.trans k2)
theorem CT.mono{H H':Hp}{Q3:Bool->af->Prop}{Q:Bool->Hp->Prop}(k:Kp Z H H')(h:CT K Z H Q3 Q):CT K Z H' Q3 Q:=λd S H2 k2=>h d S H2 (k.trans k2)
theorem CS.mono{H H':Hp}{Q3:aL->af->Prop}{Q:L2.St->Hp->Prop}(k:Kp Z H H')(h:CS K Z H Q3 Q):CS K Z H' Q3 Q:=λd S v H2 k2=>h d S v H2 (k.trans k2)
theorem CD.mono{H H':Hp}{D3:gJ}{D:Ends}(k:Kp Z H H')(h:CD K Z H D3 D):CD K Z H' D3 D:=⟨h.nx.mono k,h.bk.mono k,h.ct.mono k,h.rt.mono k⟩
structure RY(h:Heap)(a C T:Addr):Prop where
 ne:T≠a
 exc:∃oe vs a0,h.get? a=some oe/\oe.cls=.ref C/\oe.data=.fields vs/\vs[0]?=some a0/\vs[1]?=some (.ref T)
 tb:∃oT ts,h.get? T=some oT/\oT.data=.fields ts/\ts[3]?=some .none
def cc(P:Program)(w:World):fV:=λouter H s E e s'=>∃(a C T:Addr) (H':Hp),e=.ref a/\s'.os=s.os/\AllBare s'.gens/\Un (frs outer) [] H H' s.heap s'.heap/\b9 P w H' s'.heap /\
 RY s'.heap a C T/\H' a=none/\H' T=none/\s.heap.get? a=none/\s.heap.get? T=none/\E (.ref C) (some a) H'
def ng(CX:fV)(X:Cx)(E:XK)(τ:L2.St):Prop:=∀(pins:List (Addr×Obj)) (H:Hp) (s:Shared) (e:Value) (s':Shared),Inv X pins τ H s->CX X.stack H s E e s'->X.xe e s'
def FQ(X:Cx)(E:XK)(τ:L2.St):Prop:=∀(pins:List (Addr×Obj)) (H:Hp) (s s3:Shared) (e C:Addr) (args:List Value),Inv X pins τ H s->DG s.heap s3.heap e (.ref C) args->s3.os=s.os->s3.gens=s.gens->E (.ref C) (some e) H->X.xe (.ref e) s3
theorem RZ{P:Program}{w:World}{X:Cx}{τ:L2.St}:ng (cc P w) X E0 τ:=λ_ _ _ _ _ _ h=>by
 obtain⟨a,C,T,H',_,_,_,_,_,_,_,_,_,_,z⟩:=h;exact z.elim
abbrev c_:bL:=λ_ _ _ _=>False
def FR(K:ao)(Z:Zt)(H:Hp)(W3:X3)(E:XK):Prop:=∀C a S H',Kp Z H H'->Rl K Z S H'->H' a=none->W3 C a S->E (.ref C) (some a) H'
structure ZX(X:Cx)(W3:bL) where
 z:Zt
 E:L2.St->XK
 pass:∀τ,ng (cc X.prog X.w) X (E τ) τ
 rz:∀τ,FQ X (E τ) τ
 ce:∀σ τ C a S H,SR X.K H σ τ->Rl X.K z S H->H a=none->W3 σ C a S->E τ (.ref C) (some a) H
def ZX.no(X:Cx)(z:Zt):ZX X c_:=⟨z,λ_=>E0,λ_=>RZ,λ_ _ _ _ _ _ _ _ _ _ _ _ z=>z.elim,λ_ _ _ _ _ _ _ _ _ z=>z.elim⟩
def aH(X:Cx)(W3:bL)(e:Expr)(t:aG):Prop:=∀Z:ZX X W3,PE X e (lE X.K Z.z t)
def d0(X:Cx)(W3:bL)(e:Expr)(t:cI):Prop:=∀Z:ZX X W3,PT X e (lT X.K Z.z t)
def fm(X:Cx)(W3:bL)(e:Expr)(t:cI):Prop:=∀Z:ZX X W3,PW X e (lT X.K Z.z t)
def eB(X:Cx)(W3:bL)(es:List Expr)(t:bZ):Prop:=∀Z:ZX X W3,PA X es (lA X.K Z.z t)
def eC(X:Cx)(W3:bL)(st:Stmt)(t:b6):Prop:=∀Z:ZX X W3,PS X st (lS X.K Z.z t)
def da(X:Cx)(W3:bL)(st:List Stmt)(t:b6):Prop:=∀Z:ZX X W3,eU X st (lS X.K Z.z t)
theorem PE.imp{X:Cx}{e:Expr}{t u:TE}(h:PE X e t)(f:∀σ H Q,u σ H Q->t σ H Q):PE X e u:=λpins s σ H Q I q=>h pins s σ H Q I (f _ _ _ q)
theorem PT.imp{X:Cx}{e:Expr}{t u:TT}(h:PT X e t)(f:∀σ H Q,u σ H Q->t σ H Q):PT X e u:=λpins s σ H Q I q=>h pins s σ H Q I (f _ _ _ q)
theorem PW.imp{X:Cx}{e:Expr}{t u:TT}(h:PW X e t)(f:∀σ H Q,u σ H Q->t σ H Q):PW X e u:=λw pins s σ H Q I q=>h w pins s σ H Q I (f _ _ _ q)
theorem PA.imp{X:Cx}{e:List Expr}{t u:TA}(h:PA X e t)(f:∀σ H Q,u σ H Q->t σ H Q):PA X e u:=λp pins s σ H Q I q=>h p pins s σ H Q I (f _ _ _ q)
theorem PS.imp{X:Cx}{st:Stmt}{t u:TS}(h:PS X st t)(f:∀D σ H,u D σ H->t D σ H):PS X st u:=λpins s σ H D I q=>h pins s σ H D I (f _ _ _ q)
theorem eU.imp{X:Cx}{st:List Stmt}{t u:TS}(h:eU X st t)(f:∀D σ H,u D σ H->t D σ H):eU X st u:=λpins s σ H D I q=>h pins s σ H D I (f _ _ _ q)
end E3
namespace E3
open PySem PySem.Spec PyProof.Rows L2 EE
section
variable{X:Cx}{W3:bL}{a b c e:Expr}{es:List Expr}{pos:Pos}
def v3(i:Nat):aG:=λσ S Q=>∃d,σ[i]?=some (some d)/\Q d S
def c3(d:D):aG:=λ_ S Q=>Q d S
theorem R0{i:Nat}(h:PE X e (Eh i)):aH X W3 e (v3 i):=λZ=>PE.imp h λτ H Q cB=>by
 obtain⟨σ,S,Q3,hs,hr,⟨d,e,q⟩,c⟩:=cB;obtain⟨v,h1,h2⟩:=hs.at e;exact⟨v,h1,c d S v H (Kp.refl _ _) h2 hr q⟩
theorem aa(i:Nat){x:Str}{pos:Pos}(hN:X.N[i]?=some x:=by rfl)(hv:uM X.env.scope x:=by first|exact Or.inl rfl|exact Or.inr (Or.inl rfl)|exact Or.inr (Or.inr rfl))(hd:(x==("__debug__":Str))=false:=by decide)
 (hcd:(x==("__classdict__":Str))=false:=by decide):aH X W3 (.Name x pos) (v3 i):=R0 (Oi hN hv hd hcd)
theorem ph{v:V}{d:D}(h:PE X e (tC v))(r:∀H,Rp X.K H d v):aH X W3 e (c3 d):=λZ=>PE.imp h λτ H Q fo=>by obtain⟨σ,S,Q3,hs,hr,q,c⟩:=fo;exact c d S v H (Kp.refl _ _) (r H) hr q
theorem aj{i j}:aH X W3 (.Constant (.int i) j pos) (c3 (.int i)):=ph Oj λ_=>.int _
theorem nh{b j}:aH X W3 (.Constant (.bool b) j pos) (c3 (.bl b)):=ph Ol λ_=>.bl _
theorem fX{j}:aH X W3 (.Constant .none j pos) (c3 .non):=ph Om λ_=>.non
theorem bG{x j}:aH X W3 (.Constant (.str x) j pos) (c3 (.str x)):=ph Oo λ_=>.str _
theorem FT{x:Str}{n:String}(hg:Gl X x)(hm:X.mg x=none)(hv:bootBuiltins x=some (.type n))(hn:x≠"__name__":=by decide)(hd:(x==("__debug__":Str))=false:=by decide):aH X W3 (.Name x pos) (c3 (.ty n)) :=
 ph (Ot (v:=.ty n) hg hm hv rfl hn hd) λ_=>.ty _
theorem FU{x:Str}{i:Int}(h:∃t,X.mg x=some (.int i t))(hg:Gl X x)(hd:(x==("__debug__":Str))=false:=by decide):aH X W3 (.Name x pos) (c3 (.int i)) :=
 ph (Ru h hg hd) λ_=>.int _
abbrev R3:=D->D->af->K3->Prop
def du(K:ao)(r3:R3)(r:R2):Prop:=∀(Z:Zt) x y S Q3 v w H Q,Rp K H x v->Rp K H y w->Rl K Z S H->r3 x y S Q3->CK K Z H Q3 Q->r v w H Q
def o3(r:R3)(ta tb:aG):aG:=λσ S Q=>ta σ S λx S1=>tb σ S1 λy S2=>r x y S2 Q
def ib(t:aG):cI:=λσ S Q=>t σ S λx S'=>∃k,x=.bl k/\Q k S'
variable{ta tb tc:aG}{tA tB:cI}{t:bZ}
theorem vq{K:ao}{Z:Zt}{r3:R3}{r:R2}(hd:du K r3 r){τ:L2.St}{H:Hp}{Q:VK}(h:lE K Z (o3 r3 ta tb) τ H Q):rQ r (lE K Z ta) (lE K Z tb) τ H Q:=show _ by
 obtain⟨σ,S,Q3,hs,hr,ht,hc⟩:=h;refine⟨σ,S,_,hs,hr,ht,λx S1 v H1 k1 r1 l1 q1=>?_⟩;refine⟨σ,S1,_,hs.mono k1,l1,q1,λy S2 w H2 k2 r2 l2 q2=>?_⟩;exact hd Z x y S2 Q3 v w H2 Q (r1.mono k2) r2 l2 q2 (hc.mono (k1.trans k2))
theorem aI{op:Operator}{r3:R3}{r:R2}(ho:cO X (binaryOp op) r)(hd:du X.K r3 r)(ha:aH X W3 a ta)(hb:aH X W3 b tb):aH X W3 (.BinOp a op b pos) (o3 r3 ta tb) :=
 λZ=>PE.imp (PL ho (ha Z) (hb Z)) λ_ _ _ h=>vq hd h
theorem pj{op:CmpOp}{r3:R3}{r:R2}(ho:cO X (compareOp op) r)(hd:du X.K r3 r)(ha:aH X W3 a ta)(hb:aH X W3 b tb)(hm:behindInMarks op b=false):aH X W3 (.Compare a [op] [b] pos) (o3 r3 ta tb) :=
 λZ=>PE.imp (PN ho (ha Z) (hb Z) hm) λ_ _ _ h=>vq hd h
theorem vv{K:ao}{Z:Zt}{t3:aG}{t2:TE}(hd:∀τ H Q,lE K Z t3 τ H Q->t2 τ H Q){τ:L2.St}{H:Hp}{Q:Bool->Hp->Prop}(h:lT K Z (ib t3) τ H Q):Ez t2 τ H Q:=show _ by
 obtain⟨σ,S,Q3,hs,hr,ht,hc⟩:=h;refine hd τ H _ ⟨σ,S,_,hs,hr,ht,λx S1 v H1 k1 r1 l1 q1=>?_⟩;obtain⟨k,rfl,q⟩:=q1;cases r1;exact⟨k,rfl,hc k S1 H1 k1 l1 q⟩
theorem bq{op:CmpOp}{r3:R3}{r:R2}(ho:cO X (compareOp op) r)(hd:du X.K r3 r)(ha:aH X W3 a ta)(hb:aH X W3 b tb)(hm:behindInMarks op b=false):d0 X W3 (.Compare a [op] [b] pos) (ib (o3 r3 ta tb)) :=
 λZ=>PT.imp (PQ ho (ha Z) (hb Z) hm) λ_ _ _ h=>vv (λ_ _ _ h=>vq hd h) h
theorem aD{r3:R3}{r:R2}(ho:r8 X r)(hd:du X.K r3 r)(ha:aH X W3 a ta)(hb:aH X W3 b tb)(hs:EU b):aH X W3 (.Subscript a b pos) (o3 r3 ta tb) :=
 λZ=>PE.imp (QF ho (ha Z) (hb Z) hs) λ_ _ _ h=>vq hd h
theorem ni(h:aH X W3 e ta)(he:∀whole,isTrue e X.env whole=(do let v <-whole;standAt e.pos;holding [v] (truthy v)):=by intro _;rfl):d0 X W3 e (ib ta) :=
 λZ=>PT.imp (Ov (h Z) he) λ_ _ _ q=>vv (t2:=lE X.K Z.z ta) (λ_ _ _ z=>z) q
def FV(t u:cI):cI:=λσ S Q=>t σ S λc S1=>if c=true then u σ S1 Q else Q false S1
def or3(t u:cI):cI:=λσ S Q=>t σ S λc S1=>if c=true then Q true S1 else u σ S1 Q
def FW(t:cI):cI:=λσ S Q=>t σ S λc S1=>Q (!c) S1
def FX(ta tb:aG):aG:=λσ S Q=>ta σ S λx S1=>∃c,x=.bl c/\if c=true then tb σ S1 Q else Q (.bl false) S1
def FY(ta tb:aG):aG:=λσ S Q=>ta σ S λx S1=>∃c,x=.bl c/\if c=true then Q (.bl true) S1 else tb σ S1 Q
def FZ(ta:aG):aG:=λσ S Q=>ta σ S λx S1=>∃c,x=.bl c/\Q (.bl (!c)) S1
def F1(t:cI)(ta tb:aG):aG:=λσ S Q=>t σ S λc S1=>if c=true then ta σ S1 Q else tb σ S1 Q
variable{rest:List Expr}
theorem pk(ha:d0 X W3 a tA):fm X W3 (.BoolOp .And [a] pos) tA:=λZ=>Oz (ha Z)
theorem F3(ha:d0 X W3 a tA):fm X W3 (.BoolOp .Or [a] pos) tA:=λZ=>OA (ha Z)
theorem w_and(ha:d0 X W3 a tA)(hb:fm X W3 (.BoolOp .And (b::rest) pos) tB):fm X W3 (.BoolOp .And (a::b::rest) pos) (FV tA tB):=λZ=>PW.imp (OB (ha Z) (hb Z)) λτ H Q kg=>by
 obtain⟨σ,S,Q3,hs,hr,ht,hc⟩:=kg;refine⟨σ,S,_,hs,hr,ht,λc S1 H1 k1 l1 q1=>?_⟩;cases c with
 |true=>exact⟨σ,S1,Q3,hs.mono k1,l1,q1,hc.mono k1⟩
 |false=>exact hc false S1 H1 k1 l1 q1
theorem w_or(ha:d0 X W3 a tA)(hb:fm X W3 (.BoolOp .Or (b::rest) pos) tB):fm X W3 (.BoolOp .Or (a::b::rest) pos) (or3 tA tB):=λZ=>PW.imp (OC (ha Z) (hb Z)) λτ H Q yk=>by
 obtain⟨σ,S,Q3,hs,hr,ht,hc⟩:=yk;refine⟨σ,S,_,hs,hr,ht,λc S1 H1 k1 l1 q1=>?_⟩;cases c with
 |true=>exact hc true S1 H1 k1 l1 q1
 |false=>exact⟨σ,S1,Q3,hs.mono k1,l1,q1,hc.mono k1⟩
theorem fm.pt(h:fm X W3 e tA):d0 X W3 e tA:=λZ=>(h Z).pt
theorem vw(ha:d0 X W3 a tA):d0 X W3 (.UnaryOp .Not a pos) (FW tA):=λZ=>PT.imp (OD (ha Z)) λτ H Q sF=>by obtain⟨σ,S,Q3,hs,hr,ht,hc⟩:=sF;exact⟨σ,S,_,hs,hr,ht,λc S1 H1 k1 l1 q1=>hc (!c) S1 H1 k1 l1 q1⟩
theorem yV{op}(h:aH X W3 a ta):aH X W3 (.BoolOp op [a] pos) ta:=λZ=>OH (h Z)
theorem yW(ha:aH X W3 a ta)(hb:aH X W3 (.BoolOp .And (b::rest) pos) tb):aH X W3 (.BoolOp .And (a::b::rest) pos) (FX ta tb):=λZ=>PE.imp (OI (ha Z) (hb Z)) λτ H Q yX=>by
 obtain⟨σ,S,Q3,hs,hr,ht,hc⟩:=yX;refine⟨σ,S,_,hs,hr,ht,λx S1 v H1 k1 r1 l1 q1=>?_⟩;obtain⟨c,rfl,q1⟩:=q1;cases r1;refine⟨c,rfl,?_⟩;cases c with
 |true=>exact⟨σ,S1,Q3,hs.mono k1,l1,q1,hc.mono k1⟩
 |false=>exact hc _ S1 _ H1 k1 (.bl _) l1 q1
theorem R4(ha:aH X W3 a ta)(hb:aH X W3 (.BoolOp .Or (b::rest) pos) tb):aH X W3 (.BoolOp .Or (a::b::rest) pos) (FY ta tb):=λZ=>PE.imp (OJ (ha Z) (hb Z)) λτ H Q yY=>by
 obtain⟨σ,S,Q3,hs,hr,ht,hc⟩:=yY;refine⟨σ,S,_,hs,hr,ht,λx S1 v H1 k1 r1 l1 q1=>?_⟩;obtain⟨c,rfl,q1⟩:=q1;cases r1;refine⟨c,rfl,?_⟩;cases c with
 |true=>exact hc _ S1 _ H1 k1 (.bl _) l1 q1
 |false=>exact⟨σ,S1,Q3,hs.mono k1,l1,q1,hc.mono k1⟩
theorem R5(ha:aH X W3 a ta):aH X W3 (.UnaryOp .Not a pos) (FZ ta):=λZ=>PE.imp (OK (ha Z)) λτ H Q yZ=>by
 obtain⟨σ,S,Q3,hs,hr,ht,hc⟩:=yZ;refine⟨σ,S,_,hs,hr,ht,λx S1 v H1 k1 r1 l1 q1=>?_⟩;obtain⟨c,rfl,q1⟩:=q1;cases r1;exact⟨c,rfl,hc _ S1 _ H1 k1 (.bl _) l1 q1⟩
theorem nk(hc:d0 X W3 c tA)(ha:aH X W3 a ta)(hb:aH X W3 b tb):aH X W3 (.IfExp c a b pos) (F1 tA ta tb):=λZ=>PE.imp (OM (hc Z) (ha Z) (hb Z)) λτ H Q yz=>by
 obtain⟨σ,S,Q3,hs,hr,ht,hc⟩:=yz;refine⟨σ,S,_,hs,hr,ht,λc S1 H1 k1 l1 q1=>?_⟩;cases c with
 |true=>exact⟨σ,S1,Q3,hs.mono k1,l1,q1,hc.mono k1⟩
 |false=>exact⟨σ,S1,Q3,hs.mono k1,l1,q1,hc.mono k1⟩
def IsL(S:af)(x:D)(ds:List D):Prop:=(∃a,x=.ref a/\S a=some (.lst ds))∨x=.bH ds
theorem IsL.down{K:ao}{Z:Zt}{S:af}{H:Hp}{x:D}{ds:List D}{v:V}(h:IsL S x ds)(r:Rp K H x v)(l:Rl K Z S H):∃a vs,v=.ref a/\bg K H a vs/\aT K H ds vs:=show _ by
 rcases h with⟨a,rfl,e⟩|rfl
 ·cases r;obtain⟨vs,h1,h2⟩:=l.obj a _ e;exact⟨a,vs,rfl,bg.of h1,h2⟩
 ·cases r with
  |bH h1 h2=>exact⟨_,_,rfl,h1.sq,h2⟩
def sG(S:af):D->Bool->Prop
 | .non,k=>k=false
 | .bl b,k=>k=b
 | .int i,k=>k=(i != 0)
 | .str y,k=>y.length<=sizeLine/\k=((y.length:Int) != 0)
 | .tup ds,k=>k=!ds.isEmpty
 | .bH ds,k=>k=!ds.isEmpty
 | .ref a,k=>(∃ds,S a=some (.lst ds)/\k=!ds.isEmpty)∨∃kvs,S a=some (.bp kvs)/\k=!kvs.isEmpty
 | .ty _,_=>False
theorem aT.empty{K:ao}{H:Hp}{ds:List D}{vs:List V}(r:aT K H ds vs):ds.isEmpty=vs.isEmpty:=by cases r<;>rfl
theorem sG.down{K:ao}{Z:Zt}{S:af}{H:Hp}{x:D}{v:V}{k:Bool}(h:sG S x k)(r:Rp K H x v)(l:Rl K Z S H):yy K v H k:=show _ by
 cases r with
 |non=>exact h
 |bl b=>exact h
 |int i=>exact h
 |str x=>exact h
 |ty n=>exact h
 |tup h1 h2=>exact .inr (.inl ⟨_,h1,by rw[<-h2.empty];exact h⟩)
 |bH h1 h2=>exact .inl ⟨_,h1.sq,by rw[<-h2.empty];exact h⟩
 |ref a =>
  rcases h with⟨ds,e,q⟩|⟨kvs,e,q⟩
  ·obtain⟨vs,h1,h2⟩:=l.obj a _ e;exact .inl ⟨vs,bg.of h1,by rw[<-h2.empty];exact q⟩
  ·obtain⟨ws,h1,h2⟩:=l.obj a _ e;refine .inr (.inr ⟨ws,h1,?_⟩);cases h2<;>exact q
def F4(ta:aG):cI:=λσ S Q=>ta σ S λx S1=>∃k,sG S1 x k/\Q k S1
theorem sH(ha:aH X W3 a ta)(he:∀whole,isTrue a X.env whole=(do let v <-whole;standAt a.pos;holding [v] (truthy v))):d0 X W3 a (F4 ta):=λZ=>PT.imp (PV (ha Z) he) λτ H Q rU=>by
 obtain⟨σ,S,Q3,hs,hr,ht,hc⟩:=rU;refine⟨σ,S,_,hs,hr,ht,λx S1 v H1 k1 r1 l1 q1=>?_⟩;obtain⟨k,h,q⟩:=q1;exact⟨k,h.down r1 l1,hc k S1 H1 k1 l1 q⟩
def iP:bZ:=λ_ S Q=>Q [] S
def fL(ta:aG)(tr:bZ):bZ:=λσ S Q=>ta σ S λx S1=>tr σ S1 λxs S2=>Q (x::xs) S2
theorem ah:eB X W3 [] iP:=λZ=>PA.imp Qg λτ H Q y0=>by obtain⟨σ,S,Q3,hs,hr,ht,hc⟩:=y0;exact hc [] S [] H (Kp.refl _ _) .nil hr ht
theorem ae(ha:aH X W3 e ta)(hr:eB X W3 es t)(hs:starEach (e::es) X.env=(false,eval e X.env)::starEach es X.env:=by rfl):eB X W3 (e::es) (fL ta t):=λZ=>PA.imp (Qh (ha Z) (hr Z) hs) λτ H Q rX=>by
 obtain⟨σ,S,Q3,hs,hr,ht,hc⟩:=rX;refine⟨σ,S,_,hs,hr,ht,λx S1 v H1 k1 r1 l1 q1=>?_⟩;exact⟨σ,S1,_,hs.mono k1,l1,q1,λxs S2 vs H2 k2 r2 l2 q2=>hc (x::xs) S2 (v::vs) H2 (k1.trans k2) (.cons (r1.mono k2) r2) l2 q2⟩
def cS(S:af)(ds:List D)(Q:K3):Prop:=∀p,S p=none->Q (.ref p) (up S p (.lst ds))
theorem cS.down{K:ao}{Z:Zt}{S:af}{H:Hp}{ds:List D}{vs:List V}{Q3:K3}{Q:VK}(h:cS S ds Q3)(r:aT K H ds vs)(l:Rl K Z S H)(c:CK K Z H Q3 Q):∀p,H p=none->Q (.ref p) (upd H p (.lst vs)):=λp hp=>by
 obtain⟨hs,hz⟩:=l.fresh hp;have k:=Kp.new (o:=HO.lst vs) hp hz;exact c _ _ _ _ k (.ref p) (l.put (o:=.lst ds) k hz ⟨vs,dm,r.mono k⟩) (h p hs)
theorem tup.down{K:ao}{Z:Zt}{S:af}{H:Hp}{ds:List D}{vs:List V}{Q3:K3}{Q:VK}(h:Q3 (.tup ds) S)(r:aT K H ds vs)(l:Rl K Z S H)(c:CK K Z H Q3 Q):∀p,H p=none->Q (.ref p) (upd H p (.tup vs)):=λp hp=>by
 obtain⟨hs,hz⟩:=l.fresh hp;have k:=Kp.new (o:=HO.tup vs) hp hz;exact c _ _ _ _ k (.tup (bh.of dm) (r.mono k)) (l.lay hp) h
def F5(t:bZ):aG:=λσ S Q=>t σ S λxs S1=>xs.length<=sizeLine/\Q (.tup xs) S1
def F6(t:bZ):aG:=λσ S Q=>t σ S λxs S1=>xs.length<=sizeLine/\cS S1 xs Q
theorem bJ{x1}(h:eB X W3 es t):aH X W3 (.Tuple es x1 pos) (F5 t):=λZ=>PE.imp (Qk (h Z)) λτ H Q ⟨σ,S,Q3,hs,hr,ht,hc⟩ =>
 ⟨σ,S,_,hs,hr,ht,λxs S1 vs H1 k1 r1 l1 rY=>by obtain⟨z,q⟩:=rY;exact⟨by rw[<-r1.len];exact z,tup.down q r1 l1 (hc.mono k1)⟩⟩
theorem d6(h:eB X W3 es t):aH X W3 (.List es pos) (F6 t):=λZ=>PE.imp (Ql (h Z)) λτ H Q ⟨σ,S,Q3,hs,hr,ht,hc⟩ =>
 ⟨σ,S,_,hs,hr,ht,λxs S1 vs H1 k1 r1 l1 rZ=>by obtain⟨z,q⟩:=rZ;exact⟨by rw[<-r1.len];exact z,cS.down q r1 l1 (hc.mono k1)⟩⟩
def F7:aG:=λ_ S Q=>∀p,S p=none->Q (.ref p) (up S p (.bp []))
theorem R6:aH X W3 (.Dict [] [] pos) F7:=λZ=>PE.imp Ro λτ H Q ⟨σ,S,Q3,hs,hr,ht,hc⟩=>λp hp=>by
 obtain⟨h1,hz⟩:=hr.fresh hp;have k:=Kp.new (o:=HO.dK []) hp hz;exact hc _ _ _ _ k (.ref p) (hr.put (o:=.bp []) k hz ⟨[],dm,.nil⟩) (ht p h1)
def ic(K:ao)(r3:List D->af->K3->Prop)(r:List V->Hp->VK->Prop):Prop:=∀(Z:Zt) ds S Q3 vs H Q,aT K H ds vs->Rl K Z S H->r3 ds S Q3->CK K Z H Q3 Q->r vs H Q
def pq(r:List D->af->K3->Prop)(t:bZ):aG:=λσ S Q=>t σ S λvs S1=>r vs S1 Q
variable{x:Str}{p:Pos}{id T:String}{r3:List D->af->K3->Prop}{r:List V->Hp->VK->Prop}
theorem F8{K:ao}{Z:Zt}(hd:ic K r3 r){τ:L2.St}{H:Hp}{Q:VK}(h:lE K Z (pq r3 t) τ H Q):yB r (lA K Z t) τ H Q:=by
 obtain⟨σ,S,Q3,hs,hr,ht,hc⟩:=h;exact⟨σ,S,_,hs,hr,ht,λds S1 vs H1 k1 r1 l1 q1=>hd Z ds S1 Q3 vs H1 Q r1 l1 q1 (hc.mono k1)⟩
theorem dJ(hc:gE X (.builtin id) r)(hd:ic X.K r3 r)(hg:Gl X x)(hm:X.mg x=none)(hv:bootBuiltins x=some (.builtin id))(ha:eB X W3 (e::es) t)(hn:x≠"__name__":=by decide)(hdb:(x==("__debug__":Str))=false:=by decide)
 (he:starEach (e::es) X.env=(false,eval e X.env)::starEach es X.env:=by rfl) (hpl:(backTo pos (starEach es X.env)).any (·.1)=false:=by rfl):aH X W3 (.Call (.Name x p) (e::es) [] pos) (pq r3 t) :=
 λZ=>PE.imp (Qo hc hg hm hv (ha Z) hn hdb he hpl) λ_ _ _ h=>F8 hd h
theorem gq(hc:gE X (.type T) r)(hd:ic X.K r3 r)(hg:Gl X x)(hm:X.mg x=none)(hv:bootBuiltins x=some (.type T))(ha:eB X W3 (e::es) t)(hn:x≠"__name__":=by decide)(hdb:(x==("__debug__":Str))=false:=by decide)
 (he:starEach (e::es) X.env=(false,eval e X.env)::starEach es X.env:=by rfl) (hpl:(backTo pos (starEach es X.env)).any (·.1)=false:=by rfl):aH X W3 (.Call (.Name x p) (e::es) [] pos) (pq r3 t) :=
 λZ=>PE.imp (Qp hc hg hm hv (ha Z) hn hdb he hpl) λ_ _ _ h=>F8 hd h
def lZ(K:ao)(r3:D->List D->af->K3->Prop)(r:V->List V->Hp->VK->Prop):Prop:=∀(Z:Zt) x ds S Q3 v vs H Q,Rp K H x v->aT K H ds vs->Rl K Z S H->r3 x ds S Q3->CK K Z H Q3 Q->r v vs H Q
def nq(T:String)(x:D)(S:af):Prop:=(T="str"/\∃z,x=.str z)∨(T="list"/\∃ds,IsL S x ds)∨(T="dict"/\∃a kvs,x=.ref a/\S a=some (.bp kvs))
theorem nq.down{K:ao}{Z:Zt}{S:af}{H:Hp}{T:String}{x:D}{v:V}(h:nq T x S)(r:Rp K H x v)(l:Rl K Z S H):vd K T v H:=show _ by
 rcases h with⟨rfl,z,rfl⟩|⟨rfl,ds,h⟩|⟨rfl,a,kvs,rfl,e⟩
 ·cases r;rfl
 ·obtain⟨a,vs,rfl,h1,_⟩:=h.down r l;exact .inl ⟨rfl,vs,h1⟩
 ·cases r;obtain⟨ws,h1,_⟩:=l.obj a _ e;exact .inr (.inr (.inl ⟨rfl,.inl ⟨ws,h1⟩⟩))
def F9(T:String)(r:D->List D->af->K3->Prop)(to:aG):aG:=λσ S Q=>to σ S λx S1=>nq T x S1/\r x [] S1 Q
def F_(T:String)(r:D->List D->af->K3->Prop)(to:aG)(t:bZ):aG:=λσ S Q=>to σ S λx S1=>nq T x S1/\t σ S1 λxs S2=>r x xs S2 Q
variable{o:Expr}{to:aG}{name:Str}{apos cpos:Pos}{m3:D->List D->af->K3->Prop}{m:V->List V->Hp->VK->Prop}
theorem iQ(pa:PlainAttrs T)(slot:Slot T name id)(hty:typeOf (.builtin id)=pure (.type "method_descriptor"))(hm:m6 X id m)(hd:lZ X.K m3 m)(ho:aH X W3 o to)
 (hbase:attributeBase o name X.env (eval o X.env)=eval o X.env:=by rfl) (hline:(apos.endLine==cpos.line)=true:=by rfl):aH X W3 (.Call (.Attribute o name apos) [] [] cpos) (F9 T m3 to) :=
 λZ=>PE.imp (QQ pa slot hty hm (ho Z) hbase hline) λτ H Q ⟨σ,S,Q3,hs,hr,ht,hc⟩ =>
  ⟨σ,S,_,hs,hr,ht,λx S1 v H1 k1 r1 l1 z_16=>by obtain⟨ty,q⟩:=z_16;exact⟨ty.down r1 l1,hd Z.z x [] S1 Q3 v [] H1 Q r1 .nil l1 q (hc.mono k1)⟩⟩
theorem dv(pa:PlainAttrs T)(slot:Slot T name id)(hty:typeOf (.builtin id)=pure (.type "method_descriptor"))(hm:m6 X id m)(hd:lZ X.K m3 m)(ho:aH X W3 o to)(ha:eB X W3 (e::es) t)
 (hbase:attributeBase o name X.env (eval o X.env)=eval o X.env:=by rfl)
 (hfew:((backTo cpos (starEach (e::es) X.env)).all (λx=>!x.1)&&(backToKw cpos (keywordEach [] X.env)).all (λx=>x.1.isSome)
  && decide ((e::es).length+([]:List Keyword).length+(if([]:List Keyword).isEmpty then 0 else 1)<30))=true:=by rfl)
 (hline:(apos.endLine==cpos.line)=true:=by rfl) (hs:starEach (e::es) X.env=(false,eval e X.env)::starEach es X.env:=by rfl) (hplain:(backTo cpos (starEach es X.env)).any (·.1)=false:=by rfl) :
 aH X W3 (.Call (.Attribute o name apos) (e::es) [] cpos) (F_ T m3 to t) :=
 λZ=>PE.imp (QR pa slot hty hm (ho Z) (ha Z) hbase hfew hline hs hplain) λτ H Q ⟨σ,S,Q3,hs,hr,ht,hc⟩ =>
  ⟨σ,S,_,hs,hr,ht,λx S1 v H1 k1 r1 l1 y1=>by obtain⟨ty,q⟩:=y1;exact⟨ty.down r1 l1,σ,S1,_,hs.mono k1,l1,q,λds S2 vs H2 k2 r2 l2 q2=>hd Z.z x ds S2 Q3 v vs H2 Q (r1.mono k2) r2 l2 q2 (hc.mono (k1.trans k2))⟩⟩
abbrev nr:=aL->af->(Option Int->af->Prop)->Prop
def CO(K:ao)(Z:Zt)(H:Hp)(Q3:Option Int->af->Prop)(Q:Option Int->Hp->Prop):Prop:=∀d S H',Kp Z H H'->Rl K Z S H'->Q3 d S->Q d H'
def lO(K:ao)(Z:Zt)(t:nr):TO:=λτ H Q=>∃σ S Q3,SR K H σ τ/\Rl K Z S H/\t σ S Q3/\CO K Z H Q3 Q
def sI(X:Cx)(W3:bL)(e:Option Expr)(t:nr):Prop:=∀Z:ZX X W3,PO X e (lO X.K Z.z t)
def Ga:nr:=λ_ S Q=>Q none S
def part3(t:aG):nr:=λσ S Q=>t σ S λx S1=>∃i,x=.int i/\Q (some i) S1
theorem PO.imp{X:Cx}{e:Option Expr}{t u:TO}(h:PO X e t)(f:∀σ H Q,u σ H Q->t σ H Q):PO X e u:=λpins s σ H Q I q=>h pins s σ H Q I (f _ _ _ q)
theorem eK:sI X W3 none Ga:=λZ=>PO.imp Qy λτ H Q y6=>by obtain⟨σ,S,Q3,hs,hr,ht,hc⟩:=y6;exact hc none S H (Kp.refl _ _) hr ht
theorem d7(h:aH X W3 e ta):sI X W3 (some e) (part3 ta):=λZ=>PO.imp (Qz (h Z)) λτ H Q sh=>by
 obtain⟨σ,S,Q3,hs,hr,ht,hc⟩:=sh;refine⟨σ,S,_,hs,hr,ht,λx S1 v H1 k1 r1 l1 q1=>?_⟩;obtain⟨i,rfl,q⟩:=q1;cases r1;exact⟨i,rfl,hc _ S1 H1 k1 l1 q⟩
def vz(K:ao)(r3:D->Option Int->Option Int->af->K3->Prop)(r:V->Option Int->Option Int->Hp->VK->Prop):Prop:=∀(Z:Zt) x lo hi S Q3 v H Q,Rp K H x v->Rl K Z S H->r3 x lo hi S Q3->CK K Z H Q3 Q->r v lo hi H Q
def Gb(r:D->Option Int->Option Int->af->K3->Prop)(te:aG)(tl th:nr):aG:=λσ S Q=>te σ S λx S1=>tl σ S1 λl S2=>th σ S2 λu S3=>r x l u S3 Q
theorem eE{lo hi:Option Expr}{tl th:nr}{p2:Pos}{s3:D->Option Int->Option Int->af->K3->Prop}{s2:V->Option Int->Option Int->Hp->VK->Prop}(hr:oZ X s2)(hd:vz X.K s3 s2)(he:aH X W3 e ta)(hl:sI X W3 lo tl)(hu:sI X W3 hi th) :
 aH X W3 (.Subscript e (.Slice lo hi none p2) pos) (Gb s3 ta tl th):=λZ=>PE.imp (QC hr (he Z) (hl Z) (hu Z)) λτ H Q y8=>by obtain⟨σ,S,Q3,hs,hr,ht,hc⟩:=y8;exact 
 ⟨σ,S,_,hs,hr,ht,λx S1 v H1 k1 r1 l1 q1=>⟨σ,S1,_,hs.mono k1,l1,q1,λl S2 H2 k2 l2 q2=>⟨σ,S2,_,hs.mono (k1.trans k2),l2,q2,λu S3 H3 k3 l3 q3 =>
  hd Z.z x l u S3 Q3 v H3 Q (r1.mono (k2.trans k3)) l3 q3 (hc.mono (k1.trans (k2.trans k3)))⟩⟩⟩
def kD:Key->D
 | .inl i=>.int i
 | .inr x=>.str x
def cm(kvs:List (Key×D))(k:Key):Option D:=(kvs.find? λkv=>decide (kv.1=k)).map (·.2)
def putD(kvs:List (Key×D))(k:Key)(v:D):List (Key×D):=if(kvs.any λkv=>decide (kv.1=k))=true then kvs.map λkv=>if kv.1=k then(kv.1,v) else kv else kvs++[(k,v)]
def Gc(td ty:aG):aG:=λσ S Q=>td σ S λx S1=>ty σ S1 λy S2=>∃a kvs k v,x=.ref a/\S2 a=some (.bp kvs)/\y=kD k/\cm kvs k=some v/\Q v S2
def y9(ty td:aG):aG:=λσ S Q=>ty σ S λy S1=>td σ S1 λx S2=>∃a kvs k,x=.ref a/\S2 a=some (.bp kvs)/\y=kD k/\Q (.bl (cm kvs k).isSome) S2
def y_(ty td:aG):aG:=λσ S Q=>ty σ S λy S1=>td σ S1 λx S2=>∃a kvs k,x=.ref a/\S2 a=some (.bp kvs)/\y=kD k/\Q (.bl (!(cm kvs k).isSome)) S2
theorem vA{K:ao}{H:Hp}{k:Key}{v:V}(r:Rp K H (kD k) v):v=kV k:=by
 cases k with
 |inl i=>cases r;rfl
 |inr x=>cases r;rfl
abbrev KR(K:ao)(H:Hp):=Paired (λ(p:Key×D) (q:Key×V)=>p.1=q.1/\Rp K H p.2 q.2)
theorem KR.val{K:ao}{H:Hp}{kvs:List (Key×D)}{ws:List (Key×V)}(r:KR K H kvs ws)(k:Key):RO K H (cm kvs k) (gm ws k)/\(cm kvs k).isSome=(gm ws k).isSome:=show _ by
 induction r with
 |nil=>exact⟨λd e=>(nomatch e),rfl⟩
 |@cons p q ps qs h t ih =>
  obtain⟨h1,h2⟩:=h;by_cases e:p.1=k
  ·have e2:q.1=k:=h1▸e;have a:cm (p::ps) k=some p.2:=by simp[cm,j6,e]
   rw[a,vg e2];exact⟨λd z=>by cases z;exact⟨_,rfl,h2⟩,rfl⟩
  ·have e2:¬q.1=k:=h1▸e;have a:cm (p::ps) k=cm ps k:=by simp[cm,j6,e]
   rw[a,vh e2];exact ih
theorem KR.any{K:ao}{H:Hp}{kvs:List (Key×D)}{ws:List (Key×V)}(r:KR K H kvs ws)(k:Key):(kvs.any λkv=>decide (kv.1=k))=ws.any λkv=>decide (kv.1=k):=by
 induction r with
 |nil=>rfl
 |@cons p q ps qs h t ih=>rw[mL,mL,ih,h.1]
theorem KR.repl{K:ao}{H:Hp}(k:Key){d:D}{v:V}(h:Rp K H d v):∀{kvs:List (Key×D)} {ws:List (Key×V)},KR K H kvs ws->KR K H (kvs.map λkv=>if kv.1=k then(kv.1,d) else kv) (ws.map λkv=>if kv.1=k then(kv.1,v) else kv)
 |_,_,.nil=>.nil
 |_,_,.cons (a:=p) (b:=q) ⟨e,r⟩ t=>by
  refine .cons ?_ (KR.repl k h t);dsimp only;by_cases c:q.1=k
  ·rw[if_pos c,if_pos (e▸c)];exact⟨e,h⟩
  ·rw[if_neg c,if_neg (e▸c)];exact⟨e,r⟩
theorem KR.put{K:ao}{H:Hp}{kvs:List (Key×D)}{ws:List (Key×V)}(r:KR K H kvs ws)(k:Key){d:D}{v:V}(h:Rp K H d v):KR K H (putD kvs k d) (putK ws k v):=by
 unfold putD putK;rw[r.any k]
 split
 ·exact KR.repl k h r
 ·exact nc r (.cons ⟨rfl,h⟩ .nil)
theorem KR.len{K:ao}{H:Hp}{kvs:List (Key×D)}{ws:List (Key×V)}(r:KR K H kvs ws):kvs.length=ws.length:=Paired.length r
theorem fk.down{K:ao}{Z:Zt}{S:af}{H:Hp}{a:Addr}{kvs:List (Key×D)}{k:Key}{v:V}(l:Rl K Z S H)(e:S a=some (.bp kvs))(r:Rp K H (kD k) v):∃ws,fk H a v (gm ws k)/\KR K H kvs ws:=by
 obtain⟨ws,h1,h2⟩:=l.obj a _ e;rw[vA r];exact⟨ws,fk.k h1,h2⟩
theorem za{i:Expr}{td ty:aG}(hu:X.A.units+5<cLine)(ho:aH X W3 o td)(hi:aH X W3 i ty)(hs:yL i):aH X W3 (.Subscript o i pos) (Gc td ty):=λZ=>PE.imp (Rg hu (ho Z) (hi Z) hs) λτ H Q zb=>by
 obtain⟨σ,S,Q3,hs,hr,ht,hc⟩:=zb;refine⟨σ,S,_,hs,hr,ht,λx S1 v H1 k1 r1 l1 q1=>⟨σ,S1,_,hs.mono k1,l1,q1,λy S2 w H2 k2 r2 l2 q2=>?_⟩⟩;obtain⟨a,kvs,k,d,rfl,e,rfl,ev,q⟩:=q2;cases r1;obtain⟨ws,g,kr⟩:=fk.down l2 e r2;obtain⟨u,eu,ru⟩:=(kr.val k).1 d ev;rw[eu]at g;exact⟨a,u,rfl,g,hc d S2 u H2 (k1.trans k2) ru l2 q⟩
theorem R7{i:Expr}{td ty:aG}{K:ao}{Z:Zt}{τ:L2.St}{H:Hp}{Q:VK}(h:lE K Z (y9 ty td) τ H Q):Fk (lE K Z ty) (lE K Z td) τ H Q:=show _ by
 obtain⟨σ,S,Q3,hs,hr,ht,hc⟩:=h;refine⟨σ,S,_,hs,hr,ht,λy S1 w H1 k1 r1 l1 q1=>⟨σ,S1,_,hs.mono k1,l1,q1,λx S2 v H2 k2 r2 l2 q2=>?_⟩⟩;obtain⟨a,kvs,k,rfl,e,rfl,q⟩:=q2;cases r2;obtain⟨ws,g,kr⟩:=fk.down l2 e (r1.mono k2);refine⟨a,_,rfl,g,?_⟩;rw[<-(kr.val k).2];exact hc _ S2 _ H2 (k1.trans k2) (.bl _) l2 q
theorem R8{i:Expr}{td ty:aG}{K:ao}{Z:Zt}{τ:L2.St}{H:Hp}{Q:VK}(h:lE K Z (y_ ty td) τ H Q):Fl (lE K Z ty) (lE K Z td) τ H Q:=show _ by
 obtain⟨σ,S,Q3,hs,hr,ht,hc⟩:=h;refine⟨σ,S,_,hs,hr,ht,λy S1 w H1 k1 r1 l1 q1=>⟨σ,S1,_,hs.mono k1,l1,q1,λx S2 v H2 k2 r2 l2 q2=>?_⟩⟩;obtain⟨a,kvs,k,rfl,e,rfl,q⟩:=q2;cases r2;obtain⟨ws,g,kr⟩:=fk.down l2 e (r1.mono k2);refine⟨a,_,rfl,g,?_⟩;rw[<-(kr.val k).2];exact hc _ S2 _ H2 (k1.trans k2) (.bl _) l2 q
theorem R9{i:Expr}{td ty:aG}(hu:X.A.units+5<cLine)(hi:aH X W3 i ty)(ho:aH X W3 o td)(h1:behindInMarks .In o=false:=by with_unfolding_all rfl):d0 X W3 (.Compare i [.In] [o] pos) (ib (y9 ty td)) :=
 λZ=>PT.imp (yj (Rh hu (hi Z) (ho Z)) h1) λ_ _ _ h=>vv (λ_ _ _ h=>R7 (i:=i) h) h
theorem R_{i:Expr}{td ty:aG}(hu:X.A.units+5<cLine)(hi:aH X W3 i ty)(ho:aH X W3 o td)(h1:behindInMarks .NotIn o=false:=by with_unfolding_all rfl):d0 X W3 (.Compare i [.NotIn] [o] pos) (ib (y_ ty td)) :=
 λZ=>PT.imp (yj (Ri hu (hi Z) (ho Z)) h1) λ_ _ _ h=>vv (λ_ _ _ h=>R8 (i:=i) h) h
end
section
variable{X:Cx}{W3:bL}{st:Stmt}{rest:List Stmt}{t u:b6}{e:Expr}{te:aG}{pos:Pos}
def Ge:b6:=λD σ S=>D.nx σ S
def sJ(t u:b6):b6:=λD σ S=>t {D with nx:=u D} σ S
theorem bV:da X W3 [] Ge:=λZ=>eU.imp OQ λD τ H cB=>by obtain⟨D3,σ,S,hs,hr,ht,hc⟩:=cB;exact hc.nx σ S τ H (Kp.refl _ _) hs hr ht
theorem au(h1:eC X W3 st t)(h2:da X W3 rest u):da X W3 (st::rest) (sJ t u):=λZ=>eU.imp (OS (h1 Z) (h2 Z)) λD τ H ⟨D3,σ,S,hs,hr,ht,hc⟩ =>
 ⟨_,σ,S,hs,hr,ht,⟨λσ' S' bz H' k r l q=>⟨D3,σ',S',r,l,q,hc.mono k⟩,hc.bk,hc.ct,hc.rt⟩⟩
theorem ax(h1:eC X W3 st t):da X W3 [st] t:=λZ=>OT (h1 Z)
def zc(te:aG):b6:=λD σ S=>te σ S λ_ S1=>D.nx σ S1
theorem b7(he:aH X W3 e te)(hs:swapsWith e none pos.line X.env=pure false:=by rfl):eC X W3 (.Expr e pos) (zc te):=λZ=>PS.imp (OV (he Z) hs) λD τ H ⟨D3,σ,S,hs,hr,ht,hc⟩ =>
 ⟨σ,S,_,hs,hr,ht,λd S' v H' k r l q=>hc.nx σ S' τ H' k (hs.mono k) l q⟩
def Gf(te:aG):b6:=λD σ S=>te σ S D.rt
theorem a_(he:aH X W3 e te):eC X W3 (.Return (some e) pos) (Gf te):=λZ=>PS.imp (OX (he Z)) λD τ H sF=>by obtain⟨D3,σ,S,hs,hr,ht,hc⟩:=sF;exact⟨σ,S,_,hs,hr,ht,hc.rt⟩
def Gg:b6:=λD _ S=>D.rt .non S
theorem R':eC X W3 (.Return none pos) Gg:=λZ=>PS.imp OZ λD τ H yX=>by obtain⟨D3,σ,S,hs,hr,ht,hc⟩:=yX;exact hc.rt .non S .non H (Kp.refl _ _) .non hr ht
def sL(c:cI)(t u:b6):b6:=λD σ S=>c σ S λb S1=>if b=true then t D σ S1 else u D σ S1
theorem bS{c:Expr}{a b:List Stmt}{tc:cI}(hc:d0 X W3 c tc)(ha:da X W3 a t)(hb:da X W3 b u):eC X W3 (.If c a b pos) (sL tc t u):=λZ=>PS.imp (O1 (hc Z) (ha Z) (hb Z)) λD τ H yY=>by
 obtain⟨D3,σ,S,hs,hr,ht,hc⟩:=yY;refine⟨σ,S,_,hs,hr,ht,λb S' H' k l q=>?_⟩;cases b with
 |true=>exact⟨D3,σ,S',hs.mono k,l,q,hc.mono k⟩
 |false=>exact⟨D3,σ,S',hs.mono k,l,q,hc.mono k⟩
def Sa:b6:=λ_ _ _=>False
theorem Gh:eC X W3 st Sa:=λZ=>PS.imp O3 λD τ H yZ=>by obtain⟨D3,σ,S,hs,hr,ht,hc⟩:=yZ;exact ht
abbrev eG:=D->aL->af->(aL->af->Prop)->Prop
def lG(K:ao)(Z:Zt)(t:eG):TG:=λv τ H Q=>∃d σ S Q3,Rp K H d v/\SR K H σ τ/\Rl K Z S H/\t d σ S Q3/\CS K Z H Q3 Q
def gK(X:Cx)(W3:bL)(tg:Expr)(t:eG):Prop:=∀Z:ZX X W3,PG X tg (lG X.K Z.z t)
theorem PG.imp{X:Cx}{e:Expr}{t u:TG}(h:PG X e t)(f:∀v σ H Q,u v σ H Q->t v σ H Q):PG X e u:=λpins s σ H v w Q I r q=>h pins s σ H v w Q I r (f _ _ _ _ q)
def kz(i:Nat):eG:=λv σ S Q=>Q (σ.set i (some v)) S
theorem dD{i:Nat}{x:Str}(hN:X.N.Nodup)(hi:X.N[i]?=some x)(hx:Loc X.env.scope x)(hf:X.fn x=true∨X.env.scope.names.lookup x=some .local:=by first|exact .inl rfl|exact .inr rfl|assumption):gK X W3 (.Name x pos) (kz i) :=
 λZ=>PG.imp (O4 hN hi hx hf) λv τ H Q rU=>by obtain⟨d,σ,S,Q3,r,hs,hr,ht,hc⟩:=rU;exact hc _ S _ H (Kp.refl _ _) (hs.set r i) hr ht
abbrev jB:=List D->aL->af->(aL->af->Prop)->Prop
def Sb(K:ao)(Z:Zt)(t:jB):kh:=λv τ H Q=>∃d σ S Q3,aT K H d v/\SR K H σ τ/\Rl K Z S H/\t d σ S Q3/\CS K Z H Q3 Q
def sM(X:Cx)(W3:bL)(tg:List Expr)(t:jB):Prop:=∀Z:ZX X W3,jv X tg (Sb X.K Z.z t)
theorem jv.imp{X:Cx}{e:List Expr}{t u:kh}(h:jv X e t)(f:∀v σ H Q,u v σ H Q->t v σ H Q):jv X e u:=λpins s σ H v w Q I r q=>h pins s σ H v w Q I r (f _ _ _ _ q)
def vB:jB:=λvs σ S Q=>vs=[]/\Q σ S
def pv(t:eG)(u:jB):jB:=λvs σ S Q=>∃v r,vs=v::r/\t v σ S λσ' S'=>u r σ' S' Q
theorem vC:sM X W3 [] vB:=λZ=>jv.imp O7 λv τ H Q y0=>by
 obtain⟨d,σ,S,Q3,r,hs,hr,⟨e,q⟩,hc⟩:=y0;subst e;cases r;exact⟨rfl,hc σ S τ H (Kp.refl _ _) hs hr q⟩
theorem l7{es:List Expr}{t:eG}{u:jB}(h1:gK X W3 e t)(h2:sM X W3 es u)
 (hs:(assignEach (e::es) X.env).map (·.2)=assign e X.env::(assignEach es X.env).map (·.2):=by rfl):sM X W3 (e::es) (pv t u):=λZ=>jv.imp (O8 (h1 Z) (h2 Z) hs) λv τ H Q rX=>by
 obtain⟨d,σ,S,Q3,r,hs,hr,⟨d1,dr,e,q⟩,hc⟩:=rX;subst e;cases r with
 |cons r rr=>exact⟨_,_,rfl,d1,σ,S,_,r,hs,hr,q,λσ' S' bz H' k r' l q'=>⟨dr,σ',S',Q3,rr.mono k,r',l,q',hc.mono k⟩⟩
def vE(n:Nat)(t:jB):eG:=λv σ S Q=>∃xs,v=.tup xs/\xs.length=n/\t xs σ S Q
theorem vF{es:List Expr}{k:Nat}{t:jB}{n:Nat}(hc:X.calm=true)(h:sM X W3 es t)
 (hn:(assignEach es X.env).length=n:=by rfl) (hst:(assignEach es X.env).findIdx? (·.1)=none:=by rfl):gK X W3 (.Tuple es k pos) (vE n t):=λZ=>PG.imp (O_ hc (h Z) hn hst) λv τ H Q rY=>by
 obtain⟨d,σ,S,Q3,r,hs,hr,⟨xs,e,hl,q⟩,hc⟩:=rY;subst e;cases r with
 |tup h1 h2=>exact⟨_,_,rfl,h1,by rw[<-h2.len];exact hl,xs,σ,S,Q3,h2,hs,hr,q,hc⟩
def zd(te:aG)(g:eG):b6:=λD σ S=>te σ S λx S1=>g x σ S1 D.nx
theorem Sd{K:ao}{Z:Zt}{g:eG}{D:Ends}{τ:L2.St}{H:Hp}(h:lS K Z (zd te g) D τ H):uV (lE K Z te) (lG K Z g) D τ H:=by
 obtain⟨D3,σ,S,hs,hr,ht,hc⟩:=h;exact⟨σ,S,_,hs,hr,ht,λd S' v H' k r l q=>⟨d,σ,S',_,r,hs.mono k,l,q,hc.nx.mono k⟩⟩
theorem Se{tg:Expr}{g:eG}(he:aH X W3 e te)(hg:gK X W3 tg g)(hs:swapsWithSole [tg] e pos.line X.env=pure false:=by rfl)(hw:swappedStores [tg] e X.env=pure none:=by rfl)
 (h1:(assignEach [tg] X.env).map (·.2)=[assign tg X.env]:=by rfl):eC X W3 (.Assign [tg] e pos) (zd te g):=λZ=>PS.imp (Pc (he Z) (hg Z) hs hw h1) λD τ H h=>Sd h
def sN(i:Nat)(te:aG):b6:=λD σ S=>te σ S λx S1=>D.nx (σ.set i (some x)) S1
theorem aN{i:Nat}{x:Str}{pos':Pos}(hN:X.N.Nodup)(hi:X.N[i]?=some x)(hx:Loc X.env.scope x)(he:aH X W3 e te)(hs:swapsWith e (some (.Name x pos')) pos.line X.env=pure false:=by rfl)(hf:X.fn x=true∨X.env.scope.names.lookup x=some .local:=by first|exact .inl rfl|exact .inr rfl|assumption) :
 eC X W3 (.Assign [.Name x pos'] e pos) (sN i te):=λZ=>PS.imp (Pd hN hi hx (he Z) hs hf) λD τ H rZ=>by obtain⟨D3,σ,S,hs,hr,ht,hc⟩:=rZ;exact 
 ⟨σ,S,_,hs,hr,ht,λd S' v H' k r l q=>hc.nx _ S' _ H' k ((hs.mono k).set r i) l q⟩
def Gi(to ti:aG):eG:=λv σ S Q=>to σ S λo S1=>ti σ S1 λi S2=>∃p xs k j,o=.ref p/\i=.int k/\S2 p=some (.lst xs)/\gk xs.length k=some j/\Q σ (up S2 p (.lst (xs.set j v)))
theorem Sf{o i:Expr}{to ti:aG}(ho:aH X W3 o to)(hi:aH X W3 i ti)
 (ha:∀v,assign (.Subscript o i pos) X.env v=(do
  let ov <-holding [v] (eval o X.env)
  let iv <-holding [v,ov] (eval i X.env)
  standAt pos
  holding [v,ov,iv] (setItem ov iv v)
  release [v,ov,iv] []):=by intro _;rfl):gK X W3 (.Subscript o i pos) (Gi to ti):=λZ=>PG.imp (Pb (ho Z) (hi Z) set_list ha) λv τ H Q z_16=>by
 obtain⟨d,σ,S,Q3,r,hs,hr,ht,hc⟩:=z_16;refine⟨σ,S,_,hs,hr,ht,λx1 S1 v1 H1 k1 r1 l1 q1=>⟨σ,S1,_,hs.mono k1,l1,q1,λx2 S2 v2 H2 k2 r2 l2 q2=>?_⟩⟩;obtain⟨p,xs,k,j,rfl,rfl,e,hj,q⟩:=q2;cases r1;cases r2;obtain⟨vs,h1,h2⟩:=l2.obj p _ e;have kk:Kp Z.z H2 (upd H2 p (.lst (vs.set j v))):=Kp.at l2 e;refine⟨p,vs,k,j,rfl,rfl,h1,by rw[<-h2.len];exact hj,?_⟩;have k12:=k1.trans (k2.trans kk);exact hc σ _ τ _ k12 (hs.mono k12) (l2.put (o:=.lst (xs.set j d)) kk (l2.m_ e) ⟨_,dm,(h2.mono kk).set (r.mono k12) j⟩) q
def Gj(td ty tv:aG):b6:=λD σ S=>tv σ S λv S1=>td σ S1 λx S2=>ty σ S2 λy S3=>∃a kvs k,x=.ref a/\S3 a=some (.bp kvs)/\y=kD k/\kvs.length<sizeLine/\D.nx σ (up S3 a (.bp (putD kvs k v)))
theorem Gk{o i value:Expr}{td ty tv:aG}{pos':Pos}(hu:X.A.units+5<cLine)(ho:aH X W3 o td)(hi:aH X W3 i ty)(hv:aH X W3 value tv)(hs:swapsWith value (some (.Subscript o i pos')) pos.line X.env=pure false) :
 eC X W3 (.Assign [.Subscript o i pos'] value pos) (Gj td ty tv):=λZ=>PS.imp (Rj hu (ho Z) (hi Z) (hv Z) hs) λD τ H y1=>by
 obtain⟨D3,σ,S,hs,hr,ht,hc⟩:=y1;refine⟨σ,S,_,hs,hr,ht,λd S1 v H1 k1 r1 l1 q1=>⟨σ,S1,_,hs.mono k1,l1,q1,λx S2 w H2 k2 r2 l2 q2=>⟨σ,S2,_,hs.mono (k1.trans k2),l2,q2,λy S3 z H3 k3 r3 l3 q3=>?_⟩⟩⟩;obtain⟨a,kvs,k,rfl,e,rfl,hz,q⟩:=q3;cases r2;obtain⟨ws,h1,h2⟩:=l3.obj a _ e;have ey:=vA r3;subst ey;have kk:Kp Z.z H3 (upd H3 a (.dK (putK ws k v))):=Kp.at l3 e;have h2':KR X.K H3 kvs ws:=h2;refine⟨a,_,rfl,su.k h1 (by rw[<-h2'.len];exact hz),?_⟩;have k12:=k1.trans (k2.trans (k3.trans kk));refine hc.nx σ _ τ _ k12 (hs.mono k12) (l3.put (o:=.bp (putD kvs k d)) kk (l3.m_ e) ⟨_,dm,?_⟩) q;have h3:KR X.K (upd H3 a (.dK (putK ws k v))) kvs ws:=Paired.jq h2' λp q z=>⟨z.1,z.2.mono kk⟩;exact h3.put k ((r1.mono (k2.trans k3)).mono kk)
def Gm(i:Nat)(te:aG)(f:Int->Int->Int):b6:=λD σ S=>∃a,σ[i]?=some (some (.int a))/\te σ S λy S1=>∃b,y=.int b/\D.nx (σ.set i (some (.int (f a b)))) S1
theorem vG{i:Nat}{x:Str}{op:Operator}{f:Int->Int->Int}{pos':Pos}(hN:X.N.Nodup)(hi:X.N[i]?=some x)(hx:Loc X.env.scope x)(he:aH X W3 e te)(ho:uT X op (yn f))(hf:X.fn x=true∨X.env.scope.names.lookup x=some .local:=by first|exact .inl rfl|exact .inr rfl|assumption) :
 eC X W3 (.AugAssign (.Name x pos') op e pos) (Gm i te f):=λZ=>PS.imp (Pf hN hi hx (he Z) ho hf) λD τ H y6=>by
 obtain⟨D3,σ,S,hs,hr,⟨a,ea,ht⟩,hc⟩:=y6;obtain⟨v,h1,h2⟩:=hs.at ea;cases h2;refine⟨_,h1,σ,S,_,hs,hr,ht,λy S' v H' k r l q=>?_⟩;obtain⟨b,rfl,q⟩:=q;cases r;exact⟨a,b,rfl,rfl,hc.nx _ S' _ H' k ((hs.mono k).set (.int _) i) l q⟩
def Gn(c:cI)(tb:b6):b6:=λD σ S=>∃W:Nat->aL->af->Prop,(∃m,W m σ S)/\∀m σ S,W m σ S ->
 c σ S λb S1=>if b=true then tb {D with nx:=λσ' S'=>∃m',m'<m/\W m' σ' S',ct:=λσ' S'=>∃m',m'<m/\W m' σ' S',bk:=D.nx} σ S1 else D.nx σ S1
theorem nv{c:Expr}{body:List Stmt}{tc:cI}{tb:b6}(hp:PassesOwn (model X.prog X.w) X.A X.env X.xe)(hc:d0 X W3 c tc)(hb:da X W3 body tb):eC X W3 (.While c body [] pos) (Gn tc tb):=λZ=>PS.imp (Pl hp (hc Z) (hb Z)) λD τ H sh=>by
 obtain⟨D3,σ,S,hs,hr,⟨W,⟨m0,w0⟩,turn⟩,hc⟩:=sh;refine⟨λm bz H'=>∃σ' S',Kp Z.z H H'/\SR X.K H' σ' bz/\Rl X.K Z.z S' H'/\W m σ' S',⟨m0,σ,S,Kp.refl _ _,hs,hr,w0⟩,?_⟩;rintro m Sg H1 ⟨fK,S1,k1,s1,l1,w1⟩;refine⟨fK,S1,_,s1,l1,turn m fK S1 w1,λb S2 H2 k2 l2 q2=>?_⟩;cases b with
 |true =>
  rw[if_pos rfl]at q2 ⊢;refine⟨λbz H'=>∃m',m'<m/\∃σ' S',Kp Z.z H H'/\SR X.K H' σ' bz/\Rl X.K Z.z S' H'/\W m' σ' S',λbz H' z=>z,_,fK,S2,s1.mono k2,l2,q2,⟨?_,?_,?_,?_⟩⟩
  ·exact λσ' S' bz H' k r l y8=>by obtain⟨m',hm,w⟩:=y8;exact⟨m',hm,σ',S',k1.trans (k2.trans k),r,l,w⟩
  ·exact hc.nx.mono (k1.trans k2)
  ·exact λσ' S' bz H' k r l zb=>by obtain⟨m',hm,w⟩:=zb;exact⟨m',hm,σ',S',k1.trans (k2.trans k),r,l,w⟩
  ·exact hc.rt.mono (k1.trans k2)
 |false =>
  rw[if_neg c7]at q2 ⊢;exact hc.nx fK S2 Sg H2 (k1.trans k2) (s1.mono k2) l2 q2
end
abbrev fq:=aL->af->(List D->(af->Prop)->af->Prop)->Prop
structure Wk(K:ao)(Z:Zt)(J:It)(ds:List D)(Al:af->Prop)(H0:Hp):Prop where
 go:∀i d S H,Kp Z H0 H->Rl K Z S H->Al S->ds[i]?=some d->J.go i H/\∀v H',J.lU i H v H'->Kp Z H H'/\Rp K H' d v/\(∀S',Rl K Z S' H->Rl K Z S' H')/\∀b,H b≠none->H' b=H b
 stop:∀S H,Kp Z H0 H->Rl K Z S H->Al S->J.stop ds.length H
def lI(K:ao)(Z:Zt)(t:fq):TI:=λτ H R=>∃σ S R3,SR K H σ τ/\Rl K Z S H/\t σ S R3/\∀ds Al S' J H',Kp Z H H'->Rl K Z S' H'->R3 ds Al S'->Wk K Z J ds Al H'->R J H'
def gu(X:Cx)(W3:bL)(tg iter:Expr)(t:fq):Prop:=∀Z:ZX X W3,PI X tg iter (lI X.K Z.z t)
theorem PI.imp{X:Cx}{tg e:Expr}{t u:TI}(h:PI X tg e t)(f:∀σ H R,u σ H R->t σ H R):PI X tg e u:=λpins s σ H Q I q=>h pins s σ H Q I (f _ _ _ q)
section
variable{X:Cx}{W3:bL}{tg l:Expr}{tl:aG}{pos:Pos}
def Gp(tl:aG):fq:=λσ S R=>tl σ S λx S1=>(∃a ds,x=.ref a/\S1 a=some (.lst ds)/\R ds (λS=>S a=some (.lst ds)) S1)∨∃ds,x=.bH ds/\R ds (λ_=>True) S1
theorem fY(hl:aH X W3 l tl):gu X W3 tg l (Gp tl):=λZ=>PI.imp (Pt (hl Z)) λτ H R Si=>by
 obtain⟨σ,S,R3,hs,hr,ht,hc⟩:=Si;refine⟨σ,S,_,hs,hr,ht,λx S1 v H1 k1 r1 l1 q1=>?_⟩;rcases q1 with⟨a,ds,rfl,e,q⟩|⟨ds,rfl,q⟩
 ·cases r1;obtain⟨vs,h1,h2⟩:=l1.obj a _ e;refine⟨a,rfl,⟨vs,bg.of h1⟩,hc ds _ S1 _ H1 k1 l1 q ⟨λi d S2 H2 k2 l2 al hd=>?_,λS2 H2 k2 l2 al=>?_⟩⟩
  ·obtain⟨ws,h3,h4⟩:=l2.obj a _ al;obtain⟨v,hv,rv⟩:=h4.at hd;refine⟨⟨ws,v,bg.of h3,hv⟩,λv' H' y=>?_⟩;obtain⟨rfl,y⟩:=y;have:=y ws (bg.of h3);rw[hv]at this;cases this;exact⟨Kp.refl _ _,rv,λ_ z=>z,λ_ _=>rfl⟩
  ·obtain⟨ws,h3,h4⟩:=l2.obj a _ al;exact⟨ws,bg.of h3,by rw[h4.len];exact aV _⟩
 ·cases r1 with
  |@bH a vs _ h1 h2 =>
   refine⟨a,rfl,⟨vs,h1.sq⟩,hc ds _ S1 _ H1 k1 l1 q ⟨λi d S2 H2 k2 l2 al hd=>?_,λS2 H2 k2 l2 al=>?_⟩⟩
   ·obtain⟨v,hv,rv⟩:=h2.at hd;have h3:=(k2.yU h1).sq;refine⟨⟨vs,v,h3,hv⟩,λv' H' y=>?_⟩;obtain⟨rfl,y⟩:=y;have:=y vs h3;rw[hv]at this;cases this;exact⟨Kp.refl _ _,rv.mono k2,λ_ z=>z,λ_ _=>rfl⟩
   ·exact⟨vs,(k2.yU h1).sq,by rw[h2.len];exact aV _⟩
def Gq(tl:aG):fq:=λσ S R=>tl σ S λx S1=>∃ds,x=.tup ds/\R ds (λ_=>True) S1
theorem pw(hl:aH X W3 l tl):gu X W3 tg l (Gq tl):=λZ=>PI.imp (Pu (hl Z)) λτ H R Sj=>by
 obtain⟨σ,S,R3,hs,hr,ht,hc⟩:=Sj;refine⟨σ,S,_,hs,hr,ht,λx S1 v H1 k1 r1 l1 q1=>?_⟩;obtain⟨ds,rfl,q⟩:=q1;cases r1 with
 |@tup a vs _ h1 h2 =>
  refine⟨a,rfl,⟨vs,h1⟩,hc ds _ S1 _ H1 k1 l1 q ⟨λi d S2 H2 k2 l2 al hd=>?_,λS2 H2 k2 l2 al=>?_⟩⟩
  ·obtain⟨v,hv,rv⟩:=h2.at hd;have h3:=k2.gI h1;refine⟨⟨vs,v,h3,hv⟩,λv' H' y=>?_⟩;obtain⟨rfl,y⟩:=y;have:=y vs h3;rw[hv]at this;cases this;exact⟨Kp.refl _ _,rv.mono k2,λ_ z=>z,λ_ _=>rfl⟩
  ·exact⟨vs,k2.gI h1,by rw[h2.len];exact aV _⟩
def Gu(ta:bZ):fq:=λσ S R=>ta σ S λxs S1=>∃ds,xs=[.tup ds]/\R ds.reverse (λ_=>True) S1
theorem Gv{a:Expr}{ta:bZ}{p:Pos}(hg:Gl X "reversed")(hm:X.mg "reversed"=none)(ha:eB X W3 [a] ta)(hs:starEach [a] X.env=[(false,eval a X.env)]:=by rfl):gu X W3 tg (.Call (.Name "reversed" p) [a] [] pos) (Gu ta) :=
 λZ=>PI.imp (RV hg hm (ha Z) hs) λτ H R Sk=>by
 obtain⟨σ,S,R3,hs,hr,ht,hc⟩:=Sk;refine⟨σ,S,_,hs,hr,ht,λxs S1 vm H1 k1 r1 l1 q1=>?_⟩;obtain⟨ds,rfl,q⟩:=q1;cases r1 with
 |cons r1 rr =>
  cases rr;cases r1 with
  |@tup a vs _ h1 h2 =>
   have hl:=h2.len;refine⟨a,vs,rfl,h1,hc _ _ S1 _ H1 k1 l1 q ⟨λi d S2 H2 k2 l2 al hd=>?_,λS2 H2 k2 l2 al=>?_⟩⟩
   ·have hi:i<ds.length:=show _ by
     have:=(cu.mp hd).1;simpa using this
    rw[Nd hi]at hd;obtain⟨v,hv,rv⟩:=h2.at hd;have h3:=k2.gI h1;rw[hl]at hv;refine⟨⟨by lia,vs,h3,rfl⟩,λv' H' y=>?_⟩;obtain⟨rfl,y⟩:=y;have:=y vs h3;rw[hv]at this;cases this;exact⟨Kp.refl _ _,rv.mono k2,λ_ z=>z,λ_ _=>rfl⟩
   ·show vs.length<=ds.reverse.length;rw[jk,hl];exact aV _
def nums(lo:Int)(n:Nat):List D:=(ba n).map λi:Nat=>.int (lo+(i:Int))
theorem gL{lo:Int}{n i:Nat}{d:D}(h:(nums lo n)[i]?=some d):i<n/\d=.int (lo+(i:Int)):=by
 unfold nums at h;rw[aS]at h;cases e:(ba n)[i]? with
 |none=>rw[e]at h;cases h
 |some c =>
  rw[e]at h;cases h;obtain⟨h1,h2⟩:=cu.mp e;rw[List.getElem_range]at h2;subst h2;exact⟨by simpa using h1,rfl⟩
theorem eL{lo:Int}{n:Nat}:(nums lo n).length=n:=by simp[nums]
def Gw(ta:bZ):fq:=λσ S R=>ta σ S λvs S1=>∃j:Int,vs=[.int j]/\-(2^62)<=j/\j<2^62/\R (nums 0 j.toNat) (λ_=>True) S1
theorem Sl{K:ao}{Z:Zt}{lo:Int}{n:Nat}{H:Hp}:Wk K Z (uW lo n) (nums lo n) (λ_=>True) H:=show _ by
 refine⟨λi d S2 H2 k2 l2 al hd=>?_,λS2 H2 k2 l2 al=>?_⟩
 ·obtain⟨hi,rfl⟩:=gL hd;refine⟨hi,λv' H' y=>?_⟩;obtain⟨rfl,rfl⟩:=y;exact⟨Kp.refl _ _,.int _,λ_ z=>z,λ_ _=>rfl⟩
 ·show n<=(nums lo n).length;rw[eL];exact aV _
theorem ie{a:Expr}{ta:bZ}{p:Pos}(hg:Gl X "range")(hm:X.mg "range"=none)(ha:eB X W3 [a] ta)(hs:starEach [a] X.env=[(false,eval a X.env)]:=by rfl):gu X W3 tg (.Call (.Name "range" p) [a] [] pos) (Gw ta) :=
 λZ=>PI.imp (Pz hg hm (ha Z) hs) λτ H R Sn=>by
 obtain⟨σ,S,R3,hs,hr,ht,hc⟩:=Sn;refine⟨σ,S,_,hs,hr,ht,λxs S1 vm H1 k1 r1 l1 q1=>?_⟩;obtain⟨j,rfl,h1,h2,q⟩:=q1;cases r1 with
 |cons r1 rr =>
  cases rr;cases r1;exact⟨j,rfl,h1,h2,hc _ _ S1 _ H1 k1 l1 q Sl⟩
def Gy(wi:fq)(g:eG)(tb:b6):b6:=λD σ S=>wi σ S λds Al S1=>∃W:Nat->aL->af->Prop,W 0 σ S1/\(∀i σ S,W i σ S->Al S) /\
 (∀i d σ S,ds[i]?=some d->W i σ S->g d σ S λjw S2=>tb {D with nx:=W (i+1),ct:=W (i+1),bk:=D.nx} jw S2)/\∀σ S,W ds.length σ S->D.nx σ S
theorem eW{iter:Expr}{body:List Stmt}{wi:fq}{g:eG}{tb:b6}(hp:PassesOwn (model X.prog X.w) X.A X.env X.xe)(hc:X.calm=true)(hi:gu X W3 tg iter wi)(hg:gK X W3 tg g)(hb:da X W3 body tb)
 (hs:∀x,foldedSetIterable iter X.env x=pure x:=by intro _;rfl):eC X W3 (.For tg iter body [] pos) (Gy wi g tb):=λZ=>PS.imp (PF hp hc (hi Z) (hg Z) (hb Z) hs) λD τ H So=>by
 obtain⟨D3,σ,S,hs,hr,ht,hc⟩:=So;refine⟨σ,S,_,hs,hr,ht,λds Al S1 J H1 k1 l1 q1 wk=>?_⟩;obtain⟨W,w0,al,turn,done⟩:=q1;refine⟨λi m bz H'=>m=ds.length-i/\i<=ds.length/\∃σ' S',Kp Z.z H1 H'/\SR X.K H' σ' bz/\Rl X.K Z.z S' H'/\W i σ' S',⟨ds.length,by simp,b8 _,σ,S1,Kp.refl _ _,hs.mono k1,l1,w0⟩,?_⟩;rintro i m Sq H2 ⟨rfl,hi,jw,S2,k2,s2,l2,w2⟩;by_cases hlt:i<ds.length
 ·have hd:ds[i]?=some ds[i]:=bb hlt;obtain⟨go,yl⟩:=wk.go i _ S2 H2 k2 l2 (al _ _ _ w2) hd;refine .inr ⟨go,λbz H'=>i<ds.length/\∃σ' S',Kp Z.z H1 H'/\SR X.K H' σ' bz/\Rl X.K Z.z S' H'/\W (i+1) σ' S',λbz H' z=>⟨ds.length-(i+1),by lia,rfl,z.1,z.2⟩,λv H3 y=>?_⟩;obtain⟨k3,rv,l3,_⟩:=yl v H3 y;refine⟨_,jw,S2,_,rv,s2.mono k3,l3 _ l2,turn i _ jw S2 hd w2,λGz S4 ze H4 k4 s4 l4 q4=>?_⟩;have k14:=k2.trans (k3.trans k4);refine⟨_,Gz,S4,s4,l4,q4,⟨?_,?_,?_,?_⟩⟩
  ·exact λσ' S' bz H' k r l w=>⟨hlt,σ',S',k14.trans k,r,l,w⟩
  ·exact hc.nx.mono (k1.trans k14)
  ·exact λσ' S' bz H' k r l w=>⟨hlt,σ',S',k14.trans k,r,l,w⟩
  ·exact hc.rt.mono (k1.trans k14)
 ·have e:i=ds.length:=show _ by lia
  subst e;exact .inl ⟨wk.stop S2 H2 k2 l2 (al _ _ _ w2),hc.nx jw S2 Sq H2 (k1.trans k2) s2 l2 (done jw S2 w2)⟩
def dw(σ:aL)(js:List Nat):aL:=js.map λj=>(σ[j]?).getD none
theorem SR.picks{K:ao}{H:Hp}{σ:aL}{τ:L2.St}(h:SR K H σ τ)(js:List Nat):SR K H (dw σ js) (pick τ js):=show _ by
 unfold dw pick
 induction js with
 |nil=>exact .nil
 |cons j js ih =>
  refine .cons (λd e=>?_) ih;dsimp only at e ⊢;cases q:σ[j]? with
  |none=>rw[q]at e;cases e
  |some o =>
   rw[q]at e;have e:o=some d:=e;subst e;obtain⟨v,h1,h2⟩:=h.at q;exact⟨v,by rw[h1];rfl,h2⟩
def sO(K:ao)(te:aG):TE:=λτ H Q=>∃Z:Zt,lE K Z te τ H Q
theorem aH.ex{X:Cx}{e:Expr}{te:aG}(h:aH X c_ e te):PE X e (sO X.K te):=λpins s σ H Q I Sr=>by obtain⟨Z,q⟩:=Sr;exact h (ZX.no X Z) pins s σ H Q I q
abbrev Zt.hide(Z:Zt)(H:Hp)(p:Addr):Zt:=⟨λa=>Z a∨a=p,H⟩
theorem Rl.hide{K:ao}{Z:Zt}{S:af}{H:Hp}{p:Addr}(l:Rl K Z S H)(hs:S p=none)(hh:H p≠none):Rl K (Z.hide H p) S H :=
 ⟨l.obj,λa z=>z.elim (l.hid a) λe=>e▸⟨hs,hh⟩,Kp.refl _ _⟩
theorem Rl.dR{K:ao}{Z Z':Zt}{S:af}{H:Hp}(l:Rl K Z' S H)(h:∀a,Z a->Z' a)(o:Kp Z Z.base H):Rl K Z S H:=⟨l.obj,λa z=>l.hid a (h a z),o⟩
theorem Kp.dR{Z Z':Zt}{H H':Hp}(k:Kp Z' H H')(h:∀a,Z a->Z' a):Kp Z H H':=⟨k.tup,k.dB,λa z=>k.hid a (h a z)⟩
variable{elt iter:Expr}{x:Str}{px:Pos}{scope cb:Scope}{M N:List Str}{js:List Nat}{wi:fq}{te:aG}
end
section
variable{K:PySem.W.Frag}
def i3(g:Int->Int->D):R3:=λx y S Q=>∃i j,x=.int i/\y=.int j/\Q (g i j) S
def sP(C:Int->Int->Prop)(g:Int->Int->D):R3:=λx y S Q=>∃i j,x=.int i/\y=.int j/\C i j/\Q (g i j) S
theorem gM{g:Int->Int->Int}:du K (i3 λi j=>.int (g i j)) (kj λi j=>.int (g i j)):=by
 intro Z x y S Q3 v w H Q rx ry l h c;obtain⟨i,j,rfl,rfl,q⟩:=h;cases rx;cases ry;exact⟨i,j,rfl,rfl,c _ S _ H (Kp.refl _ _) (.int _) l q⟩
theorem kA{g:Int->Int->Bool}:du K (i3 λi j=>.bl (g i j)) (kj λi j=>.bl (g i j)):=by
 intro Z x y S Q3 v w H Q rx ry l h c;obtain⟨i,j,rfl,rfl,q⟩:=h;cases rx;cases ry;exact⟨i,j,rfl,rfl,c _ S _ H (Kp.refl _ _) (.bl _) l q⟩
theorem aY{C:Int->Int->Prop}{g:Int->Int->Int}:du K (sP C λi j=>.int (g i j)) (rI C λi j=>.int (g i j)):=by
 intro Z x y S Q3 v w H Q rx ry l h c;obtain⟨i,j,rfl,rfl,h,q⟩:=h;cases rx;cases ry;exact⟨i,j,rfl,rfl,h,c _ S _ H (Kp.refl _ _) (.int _) l q⟩
def GA:R3:=λx y S Q=>∃i j,x=.str i/\y=.str j/\i.length+j.length<=sizeLine/\Q (.str (i++j)) S
theorem sQ:du K GA (λx y H Q=>∃i j,x=.str i/\y=.str j/\i.length+j.length<=sizeLine/\Q (.str (i++j)) H):=by
 intro Z x y S Q3 v w H Q rx ry l h c;obtain⟨i,j,rfl,rfl,h,q⟩:=h;cases rx;cases ry;exact⟨i,j,rfl,rfl,h,c _ S _ H (Kp.refl _ _) (.str _) l q⟩
def kB:D->Bool
 | .non=>true
 |_=>false
theorem GB{H:Hp}{x:D}{v:V}(r:Rp K H x v):kB x=decide (v=.non):=by
 cases r<;>rfl
def GC:R3:=λx y S Q=>y=.non/\Q (.bl (kB x)) S
def GD:R3:=λx y S Q=>y=.non/\Q (.bl (!kB x)) S
theorem pA:du K GC (λx y H Q=>y=.non/\Q (.bl (decide (x=.non))) H):=by
 intro Z x y S Q3 v w H Q rx ry l h c;obtain⟨rfl,q⟩:=h;cases ry;rw[<-GB rx];exact⟨rfl,c _ S _ H (Kp.refl _ _) (.bl _) l q⟩
theorem Ss:du K GD (λx y H Q=>y=.non/\Q (.bl (!decide (x=.non))) H):=by
 intro Z x y S Q3 v w H Q rx ry l h c;obtain⟨rfl,q⟩:=h;cases ry;rw[<-GB rx];exact⟨rfl,c _ S _ H (Kp.refl _ _) (.bl _) l q⟩
def GF:R3:=i3 λi j=>.bl (decide (i=j))
def GG:R3:=i3 λi j=>.bl (!decide (i=j))
def zf:R3:=λx y S Q=>∃i j,x=.str i/\y=.str j/\Q (.bl (decide (i=j))) S
def GH:R3:=λx y S Q=>∃i j,x=.str i/\y=.str j/\Q (.bl (!decide (i=j))) S
theorem GI{i j:Int}:decide (V.int i=V.int j)=decide (i=j):=by rw[yx];rfl
theorem GJ{i j:Str}:decide (V.str i=V.str j)=decide (i=j):=by
 by_cases h:i=j
 ·subst h;simp
 ·have:V.str i≠V.str j:=λe=>h (V.str.inj e);simp[h]
theorem dS:du K GF yw:=by
 intro Z x y S Q3 v w H Q rx ry l h c;obtain⟨i,j,rfl,rfl,q⟩:=h;cases rx;cases ry;refine⟨rfl,?_⟩;rw[GI];exact c _ S _ H (Kp.refl _ _) (.bl _) l q
theorem Su:du K GG u4:=by
 intro Z x y S Q3 v w H Q rx ry l h c;obtain⟨i,j,rfl,rfl,q⟩:=h;cases rx;cases ry;refine⟨rfl,?_⟩;rw[GI];exact c _ S _ H (Kp.refl _ _) (.bl _) l q
theorem ft:du K zf yw:=by
 intro Z x y S Q3 v w H Q rx ry l h c;obtain⟨i,j,rfl,rfl,q⟩:=h;cases rx;cases ry;refine⟨rfl,?_⟩;rw[GJ];exact c _ S _ H (Kp.refl _ _) (.bl _) l q
theorem GK:du K GH u4:=by
 intro Z x y S Q3 v w H Q rx ry l h c;obtain⟨i,j,rfl,rfl,q⟩:=h;cases rx;cases ry;refine⟨rfl,?_⟩;rw[GJ];exact c _ S _ H (Kp.refl _ _) (.bl _) l q
mutual
inductive Dn(S:af):D->Dt->Prop where
 |non:Dn S .non .non
 |bl (b:Bool):Dn S (.bl b) (.bl b)
 |int (i:Int):Dn S (.int i) (.int i)
 |str (x:Str):Dn S (.str x) (.str x)
 |tup {ds:List D} {es:List Dt}:dc S ds es->Dn S (.tup ds) (.tup es)
 |bH {ds:List D} {es:List Dt}:dc S ds es->Dn S (.bH ds) (.lst es)
 |ref {a:Addr} {ds:List D} {es:List Dt}:S a=some (.lst ds)->dc S ds es->Dn S (.ref a) (.lst es)
inductive dc(S:af):List D->List Dt->Prop where
 |nil:dc S [] []
 |cons {d:D} {e:Dt} {ds:List D} {es:List Dt}:Dn S d e->dc S ds es->dc S (d::ds) (e::es)
end
mutual
theorem Dn.down{Z:Zt}{S:af}{H:Hp}(l:Rl K Z S H):∀{d:D} {e:Dt} {v:V},Dn S d e->Rp K H d v->DR K H e v
 |_,_,_,.non,r=>by cases r;exact .non
 |_,_,_,.bl _,r=>by cases r;exact .bl _
 |_,_,_,.int _,r=>by cases r;exact .int _
 |_,_,_,.str _,r=>by cases r;exact .str _
 |_,_,_,.tup h,r=>by cases r with|tup p q=>exact .tup p (dc.down l h q)
 |_,_,_,.bH h,r=>by cases r with|bH p q=>exact .lst p.sq (dc.down l h q)
 |_,_,_,.ref e h,r=>by
  cases r;obtain⟨vs,h1,h2⟩:=l.obj _ _ e;exact .lst (bg.of h1) (dc.down l h h2)
theorem dc.down{Z:Zt}{S:af}{H:Hp}(l:Rl K Z S H):∀{ds:List D} {es:List Dt} {vs:List V},dc S ds es->aT K H ds vs->dQ K H es vs
 |_,_,_,.nil,r=>by cases r;exact .nil
 |_,_,_,.cons h t,r=>by cases r with|cons p q=>exact .cons (Dn.down l h p) (dc.down l t q)
end
mutual
def D.dt:D->Dt
 | .non=>.non
 | .bl b=>.bl b
 | .int i=>.int i
 | .str x=>.str x
 | .tup ds=>.tup (D.cA ds)
 | .bH ds=>.lst (D.cA ds)
 | .ref _=>.non
 | .ty _=>.non
def D.cA:List D->List Dt
 |[]=>[]
 |d::ds=>d.dt::D.cA ds
end
mutual
def D.pure:D->Bool
 | .tup ds=>D.fM ds
 | .bH ds=>D.fM ds
 | .ref _=>false
 | .ty _=>false
 |_=>true
def D.fM:List D->Bool
 |[]=>true
 |d::ds=>d.pure&&D.fM ds
end
mutual
theorem Dn.of{S:af}:∀{d:D},d.pure=true->Dn S d d.dt
 | .non,_=>.non
 | .bl _,_=>.bl _
 | .int _,_=>.int _
 | .str _,_=>.str _
 | .tup ds,h=>by simp only[D.pure]at h;simp only[D.dt];exact .tup (dc.of h)
 | .bH ds,h=>by simp only[D.pure]at h;simp only[D.dt];exact .bH (dc.of h)
 | .ref _,h=>by simp[D.pure]at h
 | .ty _,h=>by simp[D.pure]at h
theorem dc.of{S:af}:∀{ds:List D},D.fM ds=true->dc S ds (D.cA ds)
 |[],_=>.nil
 |d::ds,h=>by
  simp only[D.fM,f9]at h;simp only[D.cA];exact .cons (Dn.of h.1) (dc.of h.2)
end
theorem D.ny:∀{ds:List D},D.fM ds=true↔∀d∈ds,d.pure=true
 |[]=>by simp[D.fM]
 |d::ds=>by simp[D.fM,D.ny (ds:=ds)]
theorem D.kC:∀ds:List D,D.cA ds=ds.map D.dt
 |[]=>rfl
 |d::ds=>by simp only[D.cA,bO,D.kC ds]
def zg(n:Nat):R3:=λx y S Q=>∃d e,Dn S x d/\Dn S y e/\bN d<=n/\Q (.bl (bu d e)) S
theorem GL{n:Nat}:du K (zg n) (λx y H Q=>∃d e,DR K H d x/\DR K H e y/\bN d<=n/\Q (.bl (bu d e)) H):=by
 intro Z x y S Q3 v w H Q rx ry l h c;obtain⟨d,e,h1,h2,hn,q⟩:=h;exact⟨d,e,h1.down l rx,h2.down l ry,hn,c _ S _ H (Kp.refl _ _) (.bl _) l q⟩
def jC:D->Bool
 | .non=>true
 | .bl _=>true
 | .int _=>true
 | .str _=>true
 |_=>false
def vD:D->V
 | .non=>.non
 | .bl b=>.bl b
 | .int i=>.int i
 | .str x=>.str x
 |_=>.non
theorem GN{H:Hp}{x:D}{v:V}(r:Rp K H x v)(h:jC x=true):v=vD x/\jz v=true:=by
 cases r<;>first|exact⟨rfl,rfl⟩|(simp[jC]at h)
theorem zh{H:Hp}:∀{ds:List D} {vs:List V},aT K H ds vs->ds.all jC=true->vs=ds.map vD/\vs.all jz=true
 |_,_,.nil,_=>⟨rfl,rfl⟩
 |_,_,.cons r t,h=>by
  simp only[oI,f9]at h;obtain⟨e1,f1⟩:=GN r h.1;obtain⟨e2,f2⟩:=zh t h.2;subst e1;subst e2;exact⟨rfl,by simp only[oI,f1,f2,jU]⟩
def memD(x:D)(ds:List D):Bool:=inV (vD x) (ds.map vD)
def vH(neg:Bool):R3:=λx y S Q=>∃ds,(IsL S y ds∨y=.tup ds)/\jC x=true/\ds.all jC=true/\Q (.bl (if neg then !memD x ds else memD x ds)) S
theorem sR{neg:Bool}:du K (vH neg) (vc K neg):=show _ by
 intro Z x y S Q3 v w H Q rx ry l h c;obtain⟨ds,hy,fx,fd,q⟩:=h;obtain⟨e1,f1⟩:=GN rx fx;subst e1;rcases hy with hy|rfl
 ·obtain⟨a,vs,rfl,h1,h2⟩:=hy.down ry l;obtain⟨e2,f2⟩:=zh h2 fd;subst e2;exact⟨a,_,rfl,.inl h1,f1,f2,c _ S _ H (Kp.refl _ _) (.bl _) l q⟩
 ·cases ry with
  |tup h1 h2 =>
   obtain⟨e2,f2⟩:=zh h2 fd;subst e2;exact⟨_,_,rfl,.inr h1,f1,f2,c _ S _ H (Kp.refl _ _) (.bl _) l q⟩
theorem zi(x:Str)(xs:List Str):memD (.str x) (xs.map D.str)=decide (x∈xs):=by
 unfold memD inV
 induction xs with
 |nil=>rfl
 |cons y ys ih =>
  simp only[bO,mL,bF];rw[ih];by_cases h:y=x
  ·subst h;simp[iL,vD]
  ·have h':¬x=y:=λz=>h z.symm;simp[iL,vD,h,h']
theorem zj(xs:List Str):(xs.map D.str).all jC=true:=by
 induction xs with
 |nil=>rfl
 |cons y ys ih=>simp only[bO,oI,ih];rfl
def vI:R3:=λx y S Q=>∃ds i d,IsL S x ds/\y=.int i/\cy ds i=some d/\Q d S
def nz:R3:=λx y S Q=>∃ds i d,x=.tup ds/\y=.int i/\cy ds i=some d/\Q d S
def GO:R3:=λx y S Q=>∃z i c,x=.str z/\y=.int i/\z.length<=sizeLine/\cy z.cps.toList i=some c/\Q (.str ⟨#[c]⟩) S
theorem aT.cy{H:Hp}{ds:List D}{vs:List V}{i:Int}{d:D}(r:aT K H ds vs)(h:L2.cy ds i=some d):∃v,L2.cy vs i=some v/\Rp K H d v:=by
 unfold L2.cy at h ⊢;rw[r.len]at h;cases e:gk vs.length i with
 |none=>rw[e]at h;cases h
 |some j =>
  rw[e]at h;exact r.at h
theorem eM:du K vI (EV K):=by
 intro Z x y S Q3 v w H Q rx ry l h c;obtain⟨ds,i,d,h1,rfl,h2,q⟩:=h;cases ry;obtain⟨a,vs,rfl,h3,h4⟩:=h1.down rx l;obtain⟨u,h5,h6⟩:=h4.cy h2;exact⟨a,vs,i,u,rfl,rfl,h3,h5,c d S u H (Kp.refl _ _) h6 l q⟩
theorem aQ:du K nz (EW K):=by
 intro Z x y S Q3 v w H Q rx ry l h c;obtain⟨ds,i,d,rfl,rfl,h2,q⟩:=h;cases ry;cases rx with
 |tup h3 h4 =>
  obtain⟨u,h5,h6⟩:=h4.cy h2;exact⟨_,_,i,u,rfl,rfl,h3,h5,c d S u H (Kp.refl _ _) h6 l q⟩
theorem GP:du K GO EX:=by
 intro Z x y S Q3 v w H Q rx ry l h c;obtain⟨z,i,k,rfl,rfl,hz,h2,q⟩:=h;cases ry;cases rx;exact⟨z,i,k,rfl,rfl,hz,h2,c _ S _ H (Kp.refl _ _) (.str _) l q⟩
def cutD(xs:List D)(lo hi:Option Int):List D:=(xs.drop (HT.aO xs.length 0 lo)).take (HT.aO xs.length xs.length hi-HT.aO xs.length 0 lo)
theorem aT.cut{H:Hp}{ds:List D}{vs:List V}(r:aT K H ds vs)(lo hi:Option Int):aT K H (cutD ds lo hi) (km vs lo hi):=by
 unfold cutD km;rw[r.len];exact(r.drop _).take _
def GQ:D->Option Int->Option Int->af->K3->Prop:=λx lo hi S Q=>∃ds,IsL S x ds/\cS S (cutD ds lo hi) Q
def GR:D->Option Int->Option Int->af->K3->Prop:=λx lo hi S Q=>∃ds,x=.tup ds/\Q (.tup (cutD ds lo hi)) S
def GS:D->Option Int->Option Int->af->K3->Prop:=λx lo hi S Q=>∃z,x=.str z/\z.length<=sizeLine/\Q (.str (textOf (kx z.cps.toList lo hi))) S
theorem jD:vz K GQ (EZ K):=by
 intro Z x lo hi S Q3 v H Q rx l h c;obtain⟨ds,h1,q⟩:=h;obtain⟨a,vs,rfl,h3,h4⟩:=h1.down rx l;exact⟨a,vs,rfl,h3,cS.down q (h4.cut lo hi) l c⟩
theorem pB:vz K GS FA:=by
 intro Z x lo hi S Q3 v H Q rx l h c;obtain⟨z,rfl,hz,q⟩:=h;cases rx;exact⟨z,rfl,hz,c _ S _ H (Kp.refl _ _) (.str _) l q⟩
def GU:R3:=λx y S Q=>∃a b ds es,x=.ref a/\y=.ref b/\S a=some (.lst ds)/\S b=some (.lst es)/\ds.length+es.length<=sizeLine/\cS S (ds++es) Q
theorem zk:du K GU E8:=by
 intro Z x y S Q3 v w H Q rx ry l h c;obtain⟨a,b,ds,es,rfl,rfl,h1,h2,hz,q⟩:=h;cases rx;cases ry;obtain⟨vs,h3,h4⟩:=l.obj a _ h1;obtain⟨ws,h5,h6⟩:=l.obj b _ h2;exact⟨a,b,vs,ws,rfl,rfl,h3,h5,by rw[<-h4.len,<-h6.len];exact hz,cS.down q (h4.append h6) l c⟩
def GV:R3:=λx y S Q=>∃ds es,x=.tup ds/\y=.tup es/\ds≠[]/\ds.length+es.length<=sizeLine/\Q (.tup (ds++es)) S
def sS:List D->af->K3->Prop:=λxs S Q=>∃x ds,xs=[x]/\(IsL S x ds∨x=.tup ds)/\Q (.int ds.length) S
theorem fu:ic K sS (λxs H Q=>∃p ys,xs=[.ref p]/\(bg K H p ys∨bh K H p ys)/\Q (.int ys.length) H):=show _ by
 intro Z ds S Q3 vs H Q r l h c;obtain⟨x,es,rfl,hx,q⟩:=h;cases r with
 |cons r rr =>
  cases rr;rcases hx with hx|rfl
  ·obtain⟨a,ws,rfl,h3,h4⟩:=hx.down r l;refine⟨a,ws,rfl,.inl h3,?_⟩;rw[<-h4.len];exact c _ S _ H (Kp.refl _ _) (.int _) l q
  ·cases r with
   |tup h3 h4 =>
    refine⟨_,_,rfl,.inr h3,?_⟩;rw[<-h4.len];exact c _ S _ H (Kp.refl _ _) (.int _) l q
def GW:List D->af->K3->Prop:=λxs S Q=>∃z,xs=[.str z]/\z.length<=sizeLine/\Q (.int z.length) S
theorem Sv:ic K GW (λxs H Q=>∃z,xs=[.str z]/\z.length<=sizeLine/\Q (.int z.length) H):=by
 intro Z ds S Q3 vs H Q r l h c;obtain⟨z,rfl,hz,q⟩:=h;cases r with
 |cons r rr =>
  cases rr;cases r;exact⟨z,rfl,hz,c _ S _ H (Kp.refl _ _) (.int _) l q⟩
def zl:List D->af->K3->Prop:=λxs S Q=>∃x ds,xs=[x]/\(IsL S x ds∨x=.tup ds)/\cS S ds Q
theorem GX:ic K zl (λxs H Q=>∃p ys,xs=[.ref p]/\(bg K H p ys∨bh K H p ys)/\∀l,H l=none->Q (.ref l) (upd H l (.lst ys))):=show _ by
 intro Z ds S Q3 vs H Q r l h c;obtain⟨x,es,rfl,hx,q⟩:=h;cases r with
 |cons r rr =>
  cases rr;rcases hx with hx|rfl
  ·obtain⟨a,ws,rfl,h3,h4⟩:=hx.down r l;exact⟨a,ws,rfl,.inl h3,cS.down q h4 l c⟩
  ·cases r with
   |tup h3 h4=>exact⟨_,_,rfl,.inr h3,cS.down q h4 l c⟩
def GY:List D->af->K3->Prop:=λxs S Q=>∃x ds,xs=[x]/\(IsL S x ds∨x=.tup ds)/\Q (.tup ds) S
theorem iR:ic K GY (λxs H Q=>∃p ys,xs=[.ref p]/\((bg K H p ys/\∀l,H l=none->Q (.ref l) (upd H l (.tup ys)))∨(bh K H p ys/\Q (.ref p) H))):=show _ by
 intro Z ds S Q3 vs H Q r l h c;obtain⟨x,es,rfl,hx,q⟩:=h;cases r with
 |cons r rr =>
  cases rr;rcases hx with hx|rfl
  ·obtain⟨a,ws,rfl,h3,h4⟩:=hx.down r l;exact⟨a,ws,rfl,.inl ⟨h3,tup.down q h4 l c⟩⟩
  ·cases r with
   |tup h3 h4=>exact⟨_,_,rfl,.inr ⟨h3,c _ S _ H (Kp.refl _ _) (.tup h3 h4) l q⟩⟩
def GZ:D->List D->af->K3->Prop:=λx ys S Q=>∃a ds y,x=.ref a/\ys=[y]/\S a=some (.lst ds)/\ds.length<sizeLine/\Q .non (up S a (.lst (ds++[y])))
theorem dE:lZ K GZ E6:=show _ by
 intro Z x ds S Q3 v vs H Q rx r l h c;obtain⟨a,es,y,rfl,rfl,e,hz,q⟩:=h;cases rx;cases r with
 |@cons _ w _ _ r rr =>
  cases rr;obtain⟨ws,h1,h2⟩:=l.obj a _ e;have kk:Kp Z H (upd H a (.lst (ws++[w]))):=Kp.at l e;exact⟨a,ws,w,rfl,rfl,h1,by rw[<-h2.len];exact hz,c _ _ _ _ kk .non (l.put (o:=.lst (es++[y])) kk (l.m_ e) ⟨_,dm,(h2.mono kk).append (.cons (r.mono kk) .nil)⟩) q⟩
def G0:D->List D->af->K3->Prop:=λx ys S Q=>∃a ds y,x=.ref a/\ys=[]/\S a=some (.lst (ds++[y]))/\Q y (up S a (.lst ds))
theorem jE:lZ K G0 Fq:=show _ by
 intro Z x ds S Q3 v vs H Q rx r l h c;obtain⟨a,es,y,rfl,rfl,e,q⟩:=h;cases rx;cases r;obtain⟨ws,h1,h2⟩:=l.obj a _ e;obtain⟨us,u,rfl,h3,h4⟩:=h2.snoc_inv;have kk:Kp Z H (upd H a (.lst us)):=Kp.at l e;exact⟨a,us,u,rfl,rfl,h1,c _ _ _ _ kk (h4.mono kk) (l.put (o:=.lst es) kk (l.m_ e) ⟨_,dm,h3.mono kk⟩) q⟩
def G1:D->List D->af->K3->Prop:=λx ys S Q=>∃a ds es,x=.ref a/\ys=[.tup es]/\S a=some (.lst ds)/\ds.length+es.length<=sizeLine/\Q .non (up S a (.lst (ds++es)))
theorem Sw:lZ K G1 (Fs K):=show _ by
 intro Z x ds S Q3 v vs H Q rx r l h c;obtain⟨a,es,fs,rfl,rfl,e,hz,q⟩:=h;cases rx;cases r with
 |cons r rr =>
  cases rr;cases r with
  |@tup b us _ h3 h4 =>
   obtain⟨ws,h1,h2⟩:=l.obj a _ e;have kk:Kp Z H (upd H a (.lst (ws++us))):=Kp.at l e;exact⟨a,b,ws,us,rfl,rfl,h1,h3,by rw[<-h2.len,<-h4.len];exact hz,c _ _ _ _ kk .non (l.put (o:=.lst (es++fs)) kk (l.m_ e) ⟨_,dm,(h2.mono kk).append (h4.mono kk)⟩) q⟩
end
end E3
namespace E3
open PySem PySem.Spec PyProof.Rows L2 EE
section
variable{prog:Program}{w:World}{A:Around}{E:Value->Shared->Prop}{s:Shared}
theorem Sx{t sl:Addr}{items:Array Value}{vl vu:Value}{lo hi:Option Int}{Q:Value->Shared->Prop}(ht:IsTup s.heap t items)(hs:s.heap.IsSliceOf sl vl vu .none)(pl:IsPart vl lo)(pu:IsPart vu hi)
 (hw:HT.aO items.size 0 lo=0/\HT.aO items.size items.size hi=items.size) (h:Q (.ref t) s):wpAny (model prog w) A (getItem (.ref t) (.ref sl)) Q E s:=show _ by
 obtain⟨os,hos,hcs,hds⟩:=id hs;have hTs:s.TypeIs (.ref sl) "slice":=⟨os,hos,hcs⟩;obtain⟨o,ho,hc,hd⟩:=id ht;unfold getItem
 try with_reducible refine mI ?_
 first|refine ai (aE ?_)|skip
 refine ai (MR ht.typeIs (by decide) ?_);refine ai (j5 (name:=jh "__getitem__") ht.typeIs lC
  (gZ lC ht.typeIs MS ?_ (MT _ _)))
 show wpAny _ _ (CQ (.ref t) >>= _) _ _ s;refine ai (tupleItemsOf_ ht ?_);refine ai (oN hTs ?_);rw[if_pos (by decide)];refine ai (HT.EN hs pl pu ?_);have SA:(((HT.aO items.size 0 lo:Nat):Int)==0&&(1:Int)==1&&(HT.aO items.size items.size hi-HT.aO items.size 0 lo)==items.size)=true:=by
  rw[hw.1,hw.2];simp
 show wpAny _ _ (if(((HT.aO items.size 0 lo:Nat):Int)==0&&(1:Int)==1&&(HT.aO items.size items.size hi-HT.aO items.size 0 lo)==items.size)=true then _ else _) _ _ s;rw[if_pos SA];refine ai (m:=Nf (Value.ref t)) ?_;unfold Nf
 first
  |refine ai (oN ht.typeIs (aE ?_))
  |exact ai (oN ht.typeIs (aE ?_))
 rw[if_pos (by decide)];exact ai (jV (aE ⟨_,rfl,aE h⟩))
end
section
variable{X:Cx}
def G2(K:ao):V->Option Int->Option Int->Hp->VK->Prop:=λx lo hi H Q=>∃a xs,x=.ref a/\bh K H a xs /\
 ((HT.aO xs.length 0 lo=0/\HT.aO xs.length xs.length hi=xs.length)->Q (.ref a) H)/\(¬(HT.aO xs.length 0 lo=0/\HT.aO xs.length xs.length hi=xs.length)->∀p,H p=none->Q (.ref p) (upd H p (.tup (km xs lo hi))))
theorem vJ:oZ X (G2 X.K):=show _ by
 intro pins s σ H x v vl vu lo hi sl Q I rx hs pl pu h;obtain⟨a,xs,rfl,hx,h1,h2⟩:=h;by_cases hw:HT.aO xs.length 0 lo=0/\HT.aO xs.length xs.length hi=xs.length
 ·cases rx;obtain⟨its,r,ht,hz⟩:=I.tuple hx;have hlen:its.toArray.size=xs.length:=by rw[bU];exact r.length.symm
  refine⟨"tuple",_,lC.lookup,ht.typeIs,?_⟩;refine Sx ht hs pl pu (by rw[hlen];exact hw) ?_;exact⟨.ref a,H,I,rfl,h1 hw⟩
 ·exact QE pins s σ H _ v vl vu lo hi sl Q I rx hs pl pu ⟨a,xs,rfl,hx,hw,h2 hw⟩
theorem SD{xs:List D}{lo hi:Option Int}(h:HT.aO xs.length 0 lo=0/\HT.aO xs.length xs.length hi=xs.length):cutD xs lo hi=xs:=by
 unfold cutD;rw[h.1,h.2,xG,uq,lD]
theorem vK{K:ao}:vz K GR (G2 K):=by
 intro Z x lo hi S Q3 v H Q rx l h c;obtain⟨ds,rfl,q⟩:=h;cases rx with
 |@tup a vs _ h3 h4 =>
  refine⟨a,vs,rfl,h3,λe=>?_,λ_=>tup.down q (h4.cut lo hi) l c⟩;rw[<-h4.len]at e;rw[SD e]at q;exact c _ S _ H (Kp.refl _ _) (.tup h3 h4) l q
theorem G3{K:ao}:du K GV (ER K):=show _ by
 intro Z x y S Q3 v w H Q rx ry l h c;obtain⟨ds,es,rfl,rfl,hn,hz,q⟩:=h;cases rx with
 |@tup a vs _ h1 h2 =>
  cases ry with
  |@tup b ws _ h3 h4 =>
   refine⟨a,b,vs,ws,rfl,rfl,h1,h3,?_,by rw[<-h2.len,<-h4.len];exact hz,λe=>?_,λ_=>tup.down q (h2.append h4) l c⟩
   ·rintro rfl;cases h2;exact hn rfl
   ·subst e;cases h4;rw[f_]at q;exact c _ S _ H (Kp.refl _ _) (.tup h1 h2) l q
def vL(S:af):D->String->Prop
 | .non,n=>n="NoneType"
 | .bl _,n=>n="bool"
 | .int _,n=>n="int"
 | .str _,n=>n="str"
 | .tup _,n=>n="tuple"
 | .bH _,n=>n="list"
 | .ref a,n=>(n="list"/\∃ds,S a=some (.lst ds))∨(n="dict"/\∃kvs,S a=some (.bp kvs))
 | .ty _,_=>False
inductive pC(K:ao)(H:Hp):V->String->Prop where
 |of {x:V} {n:String}:gF K H x (.type n)->pC K H x n
 |tup {a:Addr} {xs:List V}:bh K H a xs->pC K H (.ref a) "tuple"
 |lst {a:Addr} {xs:List V}:bg K H a xs->pC K H (.ref a) "list"
theorem G4:gE X (.builtin "isinstance") (λxs H Q=>∃x n m b,xs=[x,.ty n]/\pC X.K H x m/\mK X.K (.type m) (.type n)=some b/\Q (.bl b) H):=show _ by
 intro pins s σ H xs us Q I r h;obtain⟨x,n,m,b,rfl,ty,e,q⟩:=h;obtain⟨u,c,rfl,rx,rc⟩:=vals2 r;obtain rfl:c=Value.type n:=rc;cases ty with
 |of t=>exact Qa I rx t e λtk=>⟨.bl b,H,I.tok _,rfl,q⟩
 |@tup a xs ht =>
  cases (show u=Value.ref a from rx);obtain⟨_,_,⟨o,h1,h2,_⟩,_⟩:=I.tuple ht;exact g_ MI I.cX ⟨o,h1,h2⟩ e (λz=>nomatch z) λtk=>⟨.bl b,H,I.tok _,rfl,q⟩
 |@lst a xs ht =>
  cases (show u=Value.ref a from rx);obtain⟨_,_,⟨o,n,h1,h2,_⟩,_⟩:=I.list ht;exact g_ C7 I.cX ⟨o,h1,h2⟩ e (λz=>nomatch z) λtk=>⟨.bl b,H,I.tok _,rfl,q⟩
theorem vL.down{K:ao}{Z:Zt}{S:af}{H:Hp}{x:D}{v:V}{n:String}(h:vL S x n)(r:Rp K H x v)(l:Rl K Z S H):pC K H v n:=show _ by
 cases r with
 |non=>cases h;exact .of .non
 |bl b=>cases h;exact .of (.bl b)
 |int i=>cases h;exact .of (.int i)
 |str x=>cases h;exact .of (.str x)
 |tup h1 h2=>cases h;exact .tup h1
 |bH h1 h2=>cases h;exact .lst h1.sq
 |ty n=>exact h.elim
 |ref a =>
  rcases h with⟨rfl,ds,e⟩|⟨rfl,kvs,e⟩
  ·obtain⟨vs,h1,_⟩:=l.obj a _ e;exact .lst (bg.of h1)
  ·obtain⟨vs,h1,_⟩:=l.obj a _ e;exact .of (.dK h1)
def gC(m n:String):Option Bool:=if m=n then some true else if m="bool"/\n="int" then some true else
 if m∈["NoneType","bool","int","str","tuple","list","dict"]/\n∈["bool","int","str","tuple","list","dict"] then some false else none
theorem SE{K:ao}{m n:String}{b:Bool}(h:gC m n=some b):mK K (.type m) (.type n)=some b:=show _ by
 by_cases e:m=n
 ·subst e;rw[gC,if_pos rfl]at h;cases h;exact Rv K m
 rw[gC,if_neg e]at h;by_cases e2:m="bool"/\n="int"
 ·rw[if_pos e2]at h;cases h;obtain⟨rfl,rfl⟩:=e2;unfold mK iD Ng;dsimp only;cbv
 rw[if_neg e2]at h;by_cases e3:m∈["NoneType","bool","int","str","tuple","list","dict"]/\n∈["bool","int","str","tuple","list","dict"]
 ·rw[if_pos e3]at h;cases h;obtain⟨h1,h2⟩:=e3;simp only[bF,cN,or_false]at h1 h2;unfold mK iD Ng;dsimp only;rcases h1 with rfl|rfl|rfl|rfl|rfl|rfl|rfl<;>rcases h2 with rfl|rfl|rfl|rfl|rfl|rfl<;>first|exact absurd rfl e|exact absurd ⟨rfl,rfl⟩ e2|cbv
 ·rw[if_neg e3]at h;cases h
def zm:List D->af->K3->Prop:=λxs S Q=>∃x n m b,xs=[x,.ty n]/\vL S x m/\gC m n=some b/\Q (.bl b) S
theorem G5{K:ao}:ic K zm (λxs H Q=>∃x n m b,xs=[x,.ty n]/\pC K H x m/\mK K (.type m) (.type n)=some b/\Q (.bl b) H):=show _ by
 intro Z ds S Q3 vs H Q r l h c;obtain⟨x,n,m,b,rfl,ty,e,q⟩:=h;cases r with
 |cons r rr =>
  cases rr with
  |cons r2 rr =>
   cases rr;cases r2;exact⟨_,n,m,b,rfl,ty.down r l,SE e,c _ S _ H (Kp.refl _ _) (.bl _) l q⟩
end
abbrev aK:=List D->af->K3->X3->Prop
inductive iS(K:ao)(sp:aK)(vs:List V)(H:Hp)(Q:VK)(E:XK):Prop where
 |mk (Z:Zt) (ds:List D) (S:af) (Q3:K3) (E3:X3) (h1:aT K H ds vs) (h2:Rl K Z S H) (h3:sp ds S Q3 E3) (h4:CK K Z H Q3 Q) (h5:FR K Z H E3 E)
structure aq(P:Program)(w:World)(K:ao)(mg:Str->Option Value)(base:Heap)(k:Nat)(x:Str)(ps:List Str)(sp:aK):Prop where
 ex:∃f fd,dj P w K mg base (cc P w) k f fd ps (iS K sp)/\Binds K fd ps []/\a7 K (.ref f)=true/\mg x=some (.ref f)
def dU(N:List Str)(ds:List D):aL:=ds.map some++fH (N.length-ds.length) none
section
variable{P:Program}{w:World}{K:PySem.W.Frag}{mg:Str->Option Value}{base:Heap}
theorem aq.mono{j k:Nat}{x:Str}{ps:List Str}{sp:aK}(C:aq P w K mg base j x ps sp)(h:j<=k):aq P w K mg base k x ps sp:=by
 obtain⟨f,fd,F,r⟩:=C.ex;exact⟨f,fd,F.mono h,r⟩
theorem aq.imp{k:Nat}{x:Str}{ps:List Str}{sp gG:aK}(C:aq P w K mg base k x ps sp)(h:∀ds S Q E,gG ds S Q E->sp ds S Q E):aq P w K mg base k x ps gG:=show _ by
 obtain⟨f,fd,F,r⟩:=C.ex;refine⟨f,fd,F.imp λvs H Q E cB=>by obtain⟨Z,ds,S,Q3,E3,h1,h2,h3,h4,h5⟩:=cB;exact⟨Z,ds,S,Q3,E3,h1,h2,h _ _ _ _ h3,h4,h5⟩,r⟩
def l8(S A B:af):Prop:=∀a,(S a=A a/\B a=none)∨(A a=none/\S a=B a)
def Sub(A B:af):Prop:=∀a o,A a=some o->B a=some o
def fr(sp:aK):aK:=λds S Q E=>∃S0 F,l8 S S0 F/\sp ds S0 (λd S1=>∃S2,Sub S2 S1/\∀S',l8 S' S2 F->Q d S') (λC a S1=>∃S2,Sub S2 S1/\∀S',l8 S' S2 F->E C a S')
theorem Rl.sub{Z:Zt}{S S':af}{H:Hp}(l:Rl K Z S H)(h:Sub S' S):Rl K Z S' H:=by
 refine⟨λa o e=>l.obj a o (h a o e),λa z=>⟨?_,(l.hid a z).2⟩,l.old⟩;cases e:S' a with
 |none=>rfl
 |some o =>
  have:=h a o e;rw[(l.hid a z).1]at this;cases this
def join(A B:af):af:=λa=>match A a with
 |some o=>some o
 |none=>B a
abbrev Zt.with(Z:Zt)(H:Hp)(F:af):Zt:=⟨λa=>Z a∨F a≠none,H⟩
theorem Rl.frame{Z:Zt}{S S0 F S1 S2:af}{H H':Hp}(l:Rl K Z S H)(hs:l8 S S0 F)(k:Kp (Z.with H F) H H')(l1:Rl K (Z.with H F) S1 H')(h2:Sub S2 S1) :
 l8 (join S2 F) S2 F/\Rl K Z (join S2 F) H':=show _ by
 have l2:=l1.sub h2;have SF:∀a,F a≠none->S2 a=none:=λa z=>(l2.hid a (.inr z)).1;refine⟨λa=>?_,λa o e=>?_,λa z=>?_,l.old.trans (k.dR λa z=>.inl z)⟩
 ·cases e:F a with
  |none =>
   refine .inl ⟨?_,rfl⟩;unfold join;cases e2:S2 a with
   |none=>exact e
   |some o=>rfl
  |some o =>
   have:=SF a (by rw[e];simp);refine .inr ⟨this,?_⟩;unfold join;rw[this];exact e
 ·unfold join at e;cases e2:S2 a with
  |some q =>
   rw[e2]at e;cases e;exact l2.obj a _ e2
  |none =>
   rw[e2]at e;have e:F a=some o:=e;have hne:F a≠none:=by rw[e];simp
   have hS:S a=some o:=by
    rcases hs a with⟨_,z⟩|⟨_,z⟩
    ·exact absurd z hne
    ·rw[z];exact e
   exact(l.obj a o hS).keep k (k.hid a (.inr hne))
 ·have z1:=l2.hid a (.inl z);have z2:=(l.hid a z).1;refine⟨?_,z1.2⟩;unfold join;rw[z1.1];show F a=none;rcases hs a with⟨_,q⟩|⟨_,q⟩
  ·exact q
  ·rw[<-q];exact z2
theorem aq.frame{k:Nat}{x:Str}{ps:List Str}{sp:aK}(C:aq P w K mg base k x ps sp):aq P w K mg base k x ps (fr sp):=show _ by
 obtain⟨f,fd,F0,r⟩:=C.ex;refine⟨f,fd,F0.imp λvs H Q E ⟨Z,ds,S,Q3,E3,h1,l,⟨S0,F,hs,h3⟩,cq,ce⟩=>?_,r⟩;refine⟨Z.with H F,ds,S0,_,_,h1,⟨λa o e=>?_,λa z=>?_,Kp.refl _ _⟩,h3,?_,?_⟩
 ·refine l.obj a o ?_;rcases hs a with⟨q,_⟩|⟨q,_⟩
  ·rw[q];exact e
  ·rw[q]at e;cases e
 ·rcases z with z|z
  ·have z2:=l.hid a z;refine⟨?_,z2.2⟩;rcases hs a with⟨q,_⟩|⟨q,_⟩
   ·rw[<-q];exact z2.1
   ·exact q
  ·rcases hs a with⟨_,q⟩|⟨q,q2⟩
   ·exact absurd q z
   ·refine⟨q,?_⟩;cases e:F a with
    |none=>exact absurd e z
    |some o=>exact(l.obj a o (q2.trans e)).there
 ·rintro d S1 v H' k1 r1 l1 ⟨S2,hsub,q⟩;obtain⟨gG,l'⟩:=l.frame hs k1 l1 hsub;exact cq d _ v H' (k1.dR λa z=>.inl z) r1 l' (q _ gG)
 ·rintro C a S1 H' k1 l1 ha ⟨S2,hsub,q⟩;obtain⟨gG,l'⟩:=l.frame hs k1 l1 hsub;exact ce C a _ H' (k1.dR λa z=>.inl z) l' ha (q _ gG)
theorem vM(S:af):l8 S emp S:=λ_=>.inr ⟨rfl,rfl⟩
theorem vN{S F:af}(h:l8 S emp F):S=F:=by
 funext a;rcases h a with⟨q,z⟩|⟨_,q⟩
 ·rw[q,z];rfl
 ·exact q
theorem vO(S:af):Sub emp S:=λa o e=>(nomatch e)
def one(p:Addr)(o:O):af:=λa=>if a=p then some o else none
theorem SG{S F:af}{p:Addr}{o:O}(h:l8 S (one p o) F):F p=none/\S=up F p o:=show _ by
 have hp:F p=none:=by
  rcases h p with⟨_,z⟩|⟨q,_⟩
  ·exact z
  ·simp[one]at q
 refine⟨hp,funext λa=>?_⟩;by_cases e:a=p
 ·subst e;rw[av];rcases h a with⟨q,_⟩|⟨q,_⟩
  ·rw[q];simp[one]
  ·simp[one]at q
 ·rw[aM e];rcases h a with⟨q,z⟩|⟨_,q⟩
  ·rw[q,z];simp[one,e]
  ·exact q
theorem sub_one{S:af}{p:Addr}{o:O}(h:S p=some o):Sub (one p o) S:=λa u e=>by
 unfold one at e
 split at e
 ·subst a;cases e;exact h
 ·cases e
def vS(A:List D->(D->Prop)->Prop):aK:=λds S Q _=>A ds λd=>Q d S
def sT(A:List D->(List D->Prop)->Prop):aK:=λds S Q _=>A ds λys=>cS S ys Q
variable{x:Str}{st:Stmt}{N ps:List Str}{k:Nat}
abbrev Zt.at(Z:Zt)(H:Hp):Zt:=⟨Z.p,H⟩
theorem Rl.into{Z:Zt}{S:af}{H:Hp}(l:Rl K Z S H):Rl K (Z.at H) S H:=⟨l.obj,l.hid,Kp.refl _ _⟩
theorem Rl.out{Z:Zt}{S S':af}{H H':Hp}(l':Rl K (Z.at H) S' H')(l:Rl K Z S H)(k:Kp (Z.at H) H H'):Rl K Z S' H':=⟨l'.obj,l'.hid,l.old.trans (k.dR λ_ z=>z)⟩
def zo{X:Cx}(Z:Zt)(H:Hp):ZX X c_:=ZX.no X (Z.at H)
theorem _root_.EE.aA.l9{sp:aK}(h:aA K mg x st ps)(S:aW N ps (ak st))(len:∀vs H Q E,sp vs H Q E->vs.length=ps.length)
 (hbody:∀(f:Addr) (cdv:Value) (A:Around) (outer:List Env) (s:Shared) (H:Hp) (E:XK) (ds:List D) (S:af) (Q:K3) (E3:X3),bR k (A.deeper (envOfC x (ak st) s.heap.objs.size f cdv))->sp ds S Q E3 ->
  ∃t Q',da (cY (cc P w) P w K mg base N x (ak st) f cdv A outer s H E).gj c_ (aR st) t/\t {nx:=λ_ S'=>Q' .non S',rt:=Q'} (dU N ds) S/\∀d S',Q' d S'->Q d S'):aq P w K mg base (k+1) x ps sp:=show _ by
 obtain⟨f,fd,F,b,m⟩:=h.ex;obtain⟨oc,od,kV,doc,pm,an,cdv,ct,osl,rfl,lk,hcd⟩:=F.ex;refine⟨f,_,u7 lk hcd S (λvs H Q E fo=>by obtain⟨Z,ds,S,Q3,E3,h1,_,h3,_,_⟩:=fo;rw[<-h1.len];exact len _ _ _ _ h3) λA outer s H vs Q E hr ⟨Z,ds,S3,Q3,E3,h1,h2,h3,h4,_⟩=>?_,b,F.kp,m⟩;obtain⟨t,Q',ht,q,hw⟩:=hbody f cdv A outer s H E ds S3 Q3 E3 hr h3;refine⟨_,(ht (zo Z H)).gj,_,dU N ds,S3,?_,h2.into,q,⟨?_,?_,?_,?_⟩⟩
 ·unfold dU L2.start;rw[h1.len];exact nc (SR.sE h1) (SR.nones _)
 ·intro σ S' τ H' kk _ l q';exact h4 .non S' .non H' (kk.dR λ_ z=>z) .non (l.out h2 kk) (hw _ _ q')
 ·exact λ_ _ _ _ _ _ _ z=>z
 ·exact λ_ _ _ _ _ _ _ z=>z
 ·exact λd S' v H' kk r l q'=>h4 d S' v H' (kk.dR λ_ z=>z) r (l.out h2 kk) (hw _ _ q')
theorem _root_.EE.aA.val{A:List D->(D->Prop)->Prop}(h:aA K mg x st ps)(S:aW N ps (ak st))(len:∀ds q,A ds q->ds.length=ps.length)
 (hbody:∀(f:Addr) (cdv:Value) (Ar:Around) (outer:List Env) (s:Shared) (H:Hp) (E:XK) (ds:List D) (q:D->Prop),bR k (Ar.deeper (envOfC x (ak st) s.heap.objs.size f cdv))->A ds q ->
  ∃t,da (cY (cc P w) P w K mg base N x (ak st) f cdv Ar outer s H E).gj c_ (aR st) t/\t {nx:=λ_ _=>q .non,rt:=λd _=>q d} (dU N ds) emp):aq P w K mg base (k+1) x ps (vS A):=show _ by
 have C:aq P w K mg base (k+1) x ps (λds S Q E=>S=emp/\∃q,A ds q/\∀d S',q d->Q d S'):=by
  refine h.l9 S (λvs H Q E nA=>by obtain⟨_,q,z,_⟩:=nA;exact len _ _ z) λf cdv Ar outer s H E ds S3 Q E3 hr z=>?_;obtain⟨rfl,q,z,hq⟩:=z;obtain⟨t,h1,h2⟩:=hbody f cdv Ar outer s H E ds _ hr z;exact⟨t,λd _=>q d,h1,h2,hq⟩
 exact C.frame.imp λds S Q E z=>⟨emp,S,vM S,rfl,_,z,λd S1 hq=>⟨emp,vO _,λS' h=>vN h▸hq⟩⟩
theorem _root_.EE.aA.lst{A:List D->(List D->Prop)->Prop}(h:aA K mg x st ps)(S:aW N ps (ak st))(len:∀ds q,A ds q->ds.length=ps.length)
 (hbody:∀(f:Addr) (cdv:Value) (Ar:Around) (outer:List Env) (s:Shared) (H:Hp) (E:XK) (ds:List D) (q:List D->Prop),bR k (Ar.deeper (envOfC x (ak st) s.heap.objs.size f cdv))->A ds q ->
  ∃t,da (cY (cc P w) P w K mg base N x (ak st) f cdv Ar outer s H E).gj c_ (aR st) t/\t {nx:=λ_ _=>False,rt:=λd S'=>∃p ys,d=.ref p/\S' p=some (.lst ys)/\q ys} (dU N ds) emp):aq P w K mg base (k+1) x ps (sT A):=show _ by
 have C:aq P w K mg base (k+1) x ps (λds S Q E=>S=emp/\∃q,A ds q/\∀d S',(∃p ys,d=.ref p/\S' p=some (.lst ys)/\q ys)->Q d S'):=by
  refine h.l9 S (λvs H Q E kg=>by obtain⟨_,q,z,_⟩:=kg;exact len _ _ z) λf cdv Ar outer s H E ds S3 Q E3 hr z=>?_;obtain⟨rfl,q,z,hq⟩:=z;obtain⟨t,h1,h2⟩:=hbody f cdv Ar outer s H E ds _ hr z;refine⟨t,λd S'=>∃p ys,d=.ref p/\S' p=some (.lst ys)/\q ys,h1,?_,hq⟩;have e:(λ(_:aL) (_:af)=>False)=λ(_:aL) (S':af)=>∃p ys,D.non=.ref p/\S' p=some (.lst ys)/\q ys:=by
   funext _ S';refine propext ⟨eI,λz=>?_⟩;obtain⟨p,ys,z,_⟩:=z;cases z
  rw[<-e];exact h2
 refine C.frame.imp λds S Q E z=>⟨emp,S,vM S,rfl,_,z,λd S1 ⟨p,ys,e,hp,hq⟩=>⟨one p (.lst ys),sub_one hp,λS' h=>?_⟩⟩;obtain⟨h1,rfl⟩:=SG h;subst e;exact hq p h1
section
variable{X:Cx}{CX:fV}{k:Nat}{f C:Addr}{fd:FuncData}{ps:List Str}{sp:Sp}{rV:List V}{ds:List Value}{E:L2.St->XK}{x:Str}{p pos:Pos}{e:Expr}{es:List Expr}{t:TA}
theorem SH(F:dj X.prog X.w X.K X.mg X.base CX k f fd ps sp)(hr:bR k X.A)(hg:Gl X x)(hm:X.mg x=some (.ref f))(hk:a7 X.K (.ref f)=true)(hb:Binds X.K fd ps ds)(hd:Vals rV ds)(hx:∀τ,ng CX X (E τ) τ)
 (ha:PA X (e::es) t) (hdb:(x==("__debug__":Str))=false:=by decide) (he:starEach (e::es) X.env=(false,eval e X.env)::starEach es X.env:=by rfl) (hpl:(backTo pos (starEach es X.env)).any (·.1)=false:=by rfl) :
 PE X (.Call (.Name x p) (e::es) [] pos) (λτ H Q=>t τ H λvs H1=>sp (vs++rV) H1 Q (E τ)):=show _ by
 intro pins s σ H Q I h;refine xy (rN I hg hm ?_ hdb);refine DH (h₀:=X.base) I.ok.mod.gC hk (aF (ha pos pins s σ H _ I h) λus s1 ⟨vs,H1,I1,r,q⟩=>⟨I1.cX,?_⟩) he hpl;have r2:Vals (vs++rV) (us++ds):=r.append hd;have hl:(us++ds).length=ps.length:=by rw[<-r2.length];exact F.len _ _ _ _ q
 refine DI (uk (F.run X.A X.stack s1 H1 ⟨us,[]⟩ (us++ds) (vs++rV) Q (E σ) hr I1.env0 (hb s1 us I1.cX hl) r2 q) λr s' hq=>?_);cases r with
 |error e=>exact hx σ pins H1 s1 e s' I1 hq
 |ok fl =>
  cases fl with
  |ret u=>exact I1.after hq
  |next=>exact eI hq
  |brk=>exact eI hq
  |cont=>exact eI hq
end
def pD(sp:aK)(W3:bL)(t:bZ):aG:=λσ S Q=>t σ S λds S1=>sp ds S1 Q (W3 σ)
variable{X:Cx}{W3:bL}{y:Str}{pos p:Pos}{e:Expr}{es:List Expr}{t:bZ}{sp:aK}
theorem aJ(C:aq X.prog X.w X.K X.mg X.base k y ps sp)(hr:bR k X.A)(hg:Gl X y)(ha:eB X W3 (e::es) t)
 (hdb:(y==("__debug__":Str))=false:=by decide) (he:starEach (e::es) X.env=(false,eval e X.env)::starEach es X.env:=by rfl) (hpl:(backTo pos (starEach es X.env)).any (·.1)=false:=by rfl) :
 aH X W3 (.Call (.Name y p) (e::es) [] pos) (pD sp W3 t):=show _ by
 obtain⟨f,fd,F,b,kp,m⟩:=C.ex;refine λZ=>PE.imp (SH F hr hg m kp b .nil Z.pass (ha Z) hdb he hpl) λτ H Q ⟨σ,S,Q3,hs,hr,ht,hc⟩=>?_;refine⟨σ,S,_,hs,hr,ht,λds S1 vs H1 k1 r1 l1 q1=>?_⟩;exact⟨Z.z,ds,S1,Q3,W3 σ,by rw[f_];exact r1,l1,q1,hc.mono k1,λC a S2 H2 k2 l2 ha z=>Z.ce σ τ C a S2 H2 (hs.mono (k1.trans k2)) l2 ha z⟩
end
section
variable{σ:aL}{S:af}{Q:K3}{QT:Bool->af->Prop}{QA:List D->af->Prop}{QO:Option Int->af->Prop}{ta tb te:aG}{tA tB:cI}{t u:b6}{al:bZ}{r:R3}{n b c:aL->af->Prop}{rt:K3}{i:Nat}
theorem SI(h:t ⟨u ⟨n,rt,b,c⟩,rt,b,c⟩ σ S):sJ t u ⟨n,rt,b,c⟩ σ S:=h
theorem SJ(h:n σ S):Ge ⟨n,rt,b,c⟩ σ S:=h
theorem SK(h:te σ S λ_ S1=>n σ S1):zc te ⟨n,rt,b,c⟩ σ S:=h
theorem SM(h:te σ S rt):Gf te ⟨n,rt,b,c⟩ σ S:=h
theorem SN(h:rt .non S):Gg ⟨n,rt,b,c⟩ σ S:=h
theorem SO(h:te σ S λx S1=>n (σ.set i (some x)) S1):sN i te ⟨n,rt,b,c⟩ σ S:=h
theorem SQ{g:eG}(h:te σ S λx S1=>g x σ S1 n):zd te g ⟨n,rt,b,c⟩ σ S:=h
theorem SS{f:Int->Int->Int}{a:Int}(ha:σ[i]?=some (some (.int a)))(h:te σ S λy S1=>∃b,y=.int b/\n (σ.set i (some (.int (f a b)))) S1):Gm i te f ⟨n,rt,b,c⟩ σ S:=⟨a,ha,h⟩
theorem SU{k:Int}{P:Int->Prop}(h:P k):∃b,D.int k=.int b/\P b:=⟨k,rfl,h⟩
theorem SV(h:tA σ S λb' S1=>if b'=true then t ⟨n,rt,b,c⟩ σ S1 else u ⟨n,rt,b,c⟩ σ S1):sL tA t u ⟨n,rt,b,c⟩ σ S:=h
theorem SW{v:D}{Qs:aL->af->Prop}(h:Qs (σ.set i (some v)) S):kz i v σ S Qs:=h
theorem SX{d:D}(h:σ[i]?=some (some d))(q:Q d S):v3 i σ S Q:=⟨d,h,q⟩
theorem SY{d:D}(q:Q d S):c3 d σ S Q:=q
theorem S9(h:ta σ S λx S1=>tb σ S1 λy S2=>r x y S2 Q):o3 r ta tb σ S Q:=h
theorem S_{g:Int->Int->D}{k j:Int}(q:Q (g k j) S):i3 g (.int k) (.int j) S Q:=⟨k,j,rfl,rfl,q⟩
theorem Ta{g:Int->Int->D}{k j:Int}(h:0<j)(q:Q (g k j) S):sP (λ_ j=>0<j) g (.int k) (.int j) S Q:=⟨k,j,rfl,rfl,h,q⟩
theorem Tb{g:Int->Int->D}{k j:Int}(h:0<j/\j<1073741824)(q:Q (g k j) S):sP Em g (.int k) (.int j) S Q:=⟨k,j,rfl,rfl,h,q⟩
theorem sU{x y:Str}(h:x.length+y.length<=sizeLine)(q:Q (.str (x++y)) S):GA (.str x) (.str y) S Q:=⟨x,y,rfl,rfl,h,q⟩
theorem Tc{x:D}(q:Q (.bl (kB x)) S):GC x .non S Q:=⟨rfl,q⟩
theorem Td{x:D}(q:Q (.bl (!kB x)) S):GD x .non S Q:=⟨rfl,q⟩
theorem Te{k j:Int}(q:Q (.bl (decide (k=j))) S):GF (.int k) (.int j) S Q:=⟨k,j,rfl,rfl,q⟩
theorem Tf{k j:Int}(q:Q (.bl (!decide (k=j))) S):GG (.int k) (.int j) S Q:=⟨k,j,rfl,rfl,q⟩
theorem Tg{k j:Str}(q:Q (.bl (decide (k=j))) S):zf (.str k) (.str j) S Q:=⟨k,j,rfl,rfl,q⟩
theorem Th{k j:Str}(q:Q (.bl (!decide (k=j))) S):GH (.str k) (.str j) S Q:=⟨k,j,rfl,rfl,q⟩
theorem Ti(h:te σ S λx S'=>∃k,x=.bl k/\QT k S'):ib te σ S QT:=h
theorem Tj{k:Bool}{P:Bool->Prop}(h:P k):∃b,D.bl k=.bl b/\P b:=⟨k,rfl,h⟩
theorem Tn(h:te σ S λx S1=>∃k,sG S1 x k/\QT k S1):F4 te σ S QT:=h
theorem G6{a:Addr}{ds:List D}{P:Bool->Prop}(hS:S a=some (.lst ds))(h:P (!ds.isEmpty)):∃k,sG S (.ref a) k/\P k:=⟨_,.inl ⟨ds,hS,rfl⟩,h⟩
theorem To(h:tA σ S λc' S1=>if c'=true then tB σ S1 QT else QT false S1):FV tA tB σ S QT:=h
theorem Tp(h:tA σ S λc' S1=>if c'=true then QT true S1 else tB σ S1 QT):or3 tA tB σ S QT:=h
theorem Tq(h:tA σ S λc' S1=>QT (!c') S1):FW tA σ S QT:=h
theorem Tr(h:ta σ S λx S1=>∃c',x=.bl c'/\if c'=true then tb σ S1 Q else Q (.bl false) S1):FX ta tb σ S Q:=h
theorem Ts(h:ta σ S λx S1=>∃c',x=.bl c'/\if c'=true then Q (.bl true) S1 else tb σ S1 Q):FY ta tb σ S Q:=h
theorem Tt(h:ta σ S λx S1=>∃c',x=.bl c'/\Q (.bl (!c')) S1):FZ ta σ S Q:=h
theorem Tu(h:tA σ S λc' S1=>if c'=true then ta σ S1 Q else tb σ S1 Q):F1 tA ta tb σ S Q:=h
theorem Tv(h:QA [] S):iP σ S QA:=h
theorem Tw(h:te σ S λx S1=>al σ S1 λxs S2=>QA (x::xs) S2):fL te al σ S QA:=h
theorem Tz(h:al σ S λxs S1=>xs.length<=sizeLine/\Q (.tup xs) S1):F5 al σ S Q:=h
theorem TB(h:al σ S λxs S1=>xs.length<=sizeLine/\cS S1 xs Q):F6 al σ S Q:=h
theorem TC{α:Type}{xs:List α}{P:Prop}(h:xs.length<=sizeLine)(q:P):xs.length<=sizeLine/\P:=⟨h,q⟩
theorem TF{f:List D->af->K3->Prop}(h:al σ S λvs S1=>f vs S1 Q):pq f al σ S Q:=h
theorem TH{sp:aK}{W3:bL}(h:al σ S λds S1=>sp ds S1 Q (W3 σ)):pD sp W3 al σ S Q:=h
theorem TJ{T:String}{m:D->List D->af->K3->Prop}(h:te σ S λx S1=>nq T x S1/\al σ S1 λxs S2=>m x xs S2 Q):F_ T m te al σ S Q:=h
theorem TK{T:String}{m:D->List D->af->K3->Prop}(h:te σ S λx S1=>nq T x S1/\m x [] S1 Q):F9 T m te σ S Q:=h
theorem zp{a:Addr}{ds:List D}{P:Prop}(h:S a=some (.lst ds))(q:P):nq "list" (.ref a) S/\P:=⟨.inr (.inl ⟨rfl,ds,.inl ⟨a,rfl,h⟩⟩),q⟩
theorem cL{a:Addr}{ds:List D}{y:D}(h:S a=some (.lst ds))(hz:ds.length<sizeLine)(q:Q .non (up S a (.lst (ds++[y])))):GZ (.ref a) [y] S Q:=⟨a,ds,y,rfl,rfl,h,hz,q⟩
theorem ig{a:Addr}{ds:List D}{y:D}(h:S a=some (.lst (ds++[y])))(q:Q y (up S a (.lst ds))):G0 (.ref a) [] S Q:=⟨a,ds,y,rfl,rfl,h,q⟩
theorem TL{a:Addr}{ds es:List D}(h:S a=some (.lst ds))(hz:ds.length+es.length<=sizeLine)(q:Q .non (up S a (.lst (ds++es)))):G1 (.ref a) [.tup es] S Q:=⟨a,ds,es,rfl,rfl,h,hz,q⟩
theorem l_{ds:List D}{k:Int}{d:D}(h:cy ds k=some d)(q:Q d S):nz (.tup ds) (.int k) S Q:=⟨ds,k,d,rfl,rfl,h,q⟩
theorem fv{a:Addr}{ds:List D}{k:Int}{d:D}(hS:S a=some (.lst ds))(h:cy ds k=some d)(q:Q d S):vI (.ref a) (.int k) S Q:=⟨ds,k,d,.inl ⟨a,rfl,hS⟩,rfl,h,q⟩
theorem G7{ds:List D}{k:Int}{d:D}(h:cy ds k=some d)(q:Q d S):vI (.bH ds) (.int k) S Q:=⟨ds,k,d,.inr rfl,rfl,h,q⟩
theorem G8{z:Str}{k:Int}{cp:Nat}(hz:z.length<=sizeLine)(h:cy z.cps.toList k=some cp)(q:Q (.str ⟨#[cp]⟩) S):GO (.str z) (.int k) S Q:=⟨z,k,cp,rfl,rfl,hz,h,q⟩
theorem G9{a:Addr}{ds:List D}(hS:S a=some (.lst ds))(q:Q (.int ds.length) S):sS [.ref a] S Q:=⟨_,ds,rfl,.inl (.inl ⟨a,rfl,hS⟩),q⟩
theorem TM{ds:List D}(q:Q (.int ds.length) S):sS [.bH ds] S Q:=⟨_,ds,rfl,.inl (.inr rfl),q⟩
theorem TN{ds:List D}(q:Q (.int ds.length) S):sS [.tup ds] S Q:=⟨_,ds,rfl,.inr rfl,q⟩
theorem TQ{z:Str}(hz:z.length<=sizeLine)(q:Q (.int z.length) S):GW [.str z] S Q:=⟨z,rfl,hz,q⟩
theorem zq{a:Addr}{ds:List D}(hS:S a=some (.lst ds))(q:cS S ds Q):zl [.ref a] S Q:=⟨_,ds,rfl,.inl (.inl ⟨a,rfl,hS⟩),q⟩
theorem TR{ds:List D}(q:cS S ds Q):zl [.tup ds] S Q:=⟨_,ds,rfl,.inr rfl,q⟩
theorem G_{a:Addr}{ds:List D}(hS:S a=some (.lst ds))(q:Q (.tup ds) S):GY [.ref a] S Q:=⟨_,ds,rfl,.inl (.inl ⟨a,rfl,hS⟩),q⟩
theorem TU{x:D}{m k:String}{b':Bool}(h:vL S x m)(hk:gC m k=some b')(q:Q (.bl b') S):zm [x,.ty k] S Q:=⟨x,k,m,b',rfl,h,hk,q⟩
theorem G'{a:Addr}{ds:List D}{k:String}{b':Bool}(hS:S a=some (.lst ds))(hk:gC "list" k=some b')(q:Q (.bl b') S):zm [.ref a,.ty k] S Q:=⟨_,k,"list",b',rfl,.inl ⟨rfl,ds,hS⟩,hk,q⟩
theorem TV{f:D->Option Int->Option Int->af->K3->Prop}{tl th:nr}(h:te σ S λx S1=>tl σ S1 λl S2=>th σ S2 λu' S3=>f x l u' S3 Q):Gb f te tl th σ S Q:=h
theorem TX(h:QO none S):Ga σ S QO:=h
theorem TY(h:te σ S λx S1=>∃k,x=.int k/\QO (some k) S1):part3 te σ S QO:=h
theorem Ha{a:Addr}{ds:List D}{lo hi:Option Int}(hS:S a=some (.lst ds))(q:cS S (cutD ds lo hi) Q):GQ (.ref a) lo hi S Q:=⟨ds,.inl ⟨a,rfl,hS⟩,q⟩
theorem TZ{ds:List D}{lo hi:Option Int}(q:Q (.tup (cutD ds lo hi)) S):GR (.tup ds) lo hi S Q:=⟨ds,rfl,q⟩
theorem pE{z:Str}{lo hi:Option Int}(hz:z.length<=sizeLine)(q:Q (.str (textOf (kx z.cps.toList lo hi))) S):GS (.str z) lo hi S Q:=⟨z,rfl,hz,q⟩
theorem zr{a a':Addr}{ds es:List D}(h:S a=some (.lst ds))(h':S a'=some (.lst es))(hz:ds.length+es.length<=sizeLine)(q:cS S (ds++es) Q):GU (.ref a) (.ref a') S Q:=⟨a,a',ds,es,rfl,rfl,h,h',hz,q⟩
theorem Hb{ds es:List D}(hn:ds≠[])(hz:ds.length+es.length<=sizeLine)(q:Q (.tup (ds++es)) S):GV (.tup ds) (.tup es) S Q:=⟨ds,es,rfl,rfl,hn,hz,q⟩
theorem T1{wi:fq}{g:eG}(h:wi σ S λds Al S1=>∃W:Nat->aL->af->Prop,W 0 σ S1/\(∀i σ S,W i σ S->Al S) /\
 (∀i d σ S,ds[i]?=some d->W i σ S->g d σ S λjw S2=>t ⟨W (i+1),rt,n,W (i+1)⟩ jw S2)/\∀σ S,W ds.length σ S->n σ S):Gy wi g t ⟨n,rt,b,c⟩ σ S:=h
theorem nB(W:Nat->aL->af->Prop)(m:Nat)(h0:W m σ S)(h:∀m σ S,W m σ S->tA σ S λb S1=>if b=true then t ⟨λσ' S'=>∃m',m'<m/\W m' σ' S',rt,n,λσ' S'=>∃m',m'<m/\W m' σ' S'⟩ σ S1 else n σ S1) :
 Gn tA t ⟨n,rt,b,c⟩ σ S:=⟨W,⟨m,h0⟩,h⟩
abbrev RI:=List D->(af->Prop)->af->Prop
variable{R:RI}
def Hc(R:RI)(x:D)(S:af):Prop:=(∃a ds,x=.ref a/\S a=some (.lst ds)/\R ds (λS=>S a=some (.lst ds)) S)∨∃ds,x=.bH ds/\R ds (λ_=>True) S
theorem T3(h:te σ S λx S1=>Hc R x S1):Gp te σ S R:=h
theorem Hd{a:Addr}{ds:List D}(hS:S a=some (.lst ds))(q:R ds (λS=>S a=some (.lst ds)) S):Hc R (.ref a) S:=.inl ⟨a,ds,rfl,hS,q⟩
def zt(R:RI)(x:D)(S:af):Prop:=∃ds,x=.tup ds/\R ds (λ_=>True) S
theorem T4(h:te σ S λx S1=>zt R x S1):Gq te σ S R:=h
theorem T5{ds:List D}(q:R ds (λ_=>True) S):zt R (.tup ds) S:=⟨ds,rfl,q⟩
theorem T6{ds:List D}{P:List D->Prop}(h:P ds):∃es,D.tup ds=.tup es/\P es:=⟨ds,rfl,h⟩
def He(R:RI)(xs:List D)(S:af):Prop:=∃ds,xs=[.tup ds]/\R ds.reverse (λ_=>True) S
theorem T7(h:al σ S λxs S1=>He R xs S1):Gu al σ S R:=h
theorem T8{ds:List D}(q:R ds.reverse (λ_=>True) S):He R [.tup ds] S:=⟨ds,rfl,q⟩
def Hf(R:RI)(vs:List D)(S:af):Prop:=∃j:Int,vs=[.int j]/\-(2^62)<=j/\j<2^62/\R (nums 0 j.toNat) (λ_=>True) S
theorem T9(h:al σ S λvs S1=>Hf R vs S1):Gw al σ S R:=h
theorem T_{j:Int}(h1:-(2^62)<=j/\j<2^62)(q:R (nums 0 j.toNat) (λ_=>True) S):Hf R [.int j] S:=⟨j,rfl,h1.1,h1.2,q⟩
theorem Ua(h:∀p,S p=none->Q (.ref p) (up S p (.bp []))):F7 σ S Q:=h
def Hg(v:D)(Qs:aL->af->Prop)(σ:aL)(o i:D)(S:af):Prop:=∃p xs k j,o=.ref p/\i=.int k/\S p=some (.lst xs)/\gk xs.length k=some j/\Qs σ (up S p (.lst (xs.set j v)))
theorem Ub{v:D}{Qs:aL->af->Prop}(h:te σ S λo S1=>ta σ S1 λi S2=>Hg v Qs σ o i S2):Gi te ta v σ S Qs:=h
theorem Hh{a:Addr}{xs:List D}{k:Int}{j:Nat}{v:D}{Qs:aL->af->Prop}(hS:S a=some (.lst xs))(hj:gk xs.length k=some j)(q:Qs σ (up S a (.lst (xs.set j v)))):Hg v Qs σ (.ref a) (.int k) S:=⟨a,xs,k,j,rfl,rfl,hS,hj,q⟩
def zu(neg:Bool)(Q:K3)(x y:D)(S:af):Prop:=∃a kvs k,x=.ref a/\S a=some (.bp kvs)/\y=kD k/\Q (.bl (if neg then !(cm kvs k).isSome else(cm kvs k).isSome)) S
theorem Uc(h:te σ S λy S1=>ta σ S1 λx S2=>zu false Q x y S2):y9 te ta σ S Q:=h
theorem Ud(h:te σ S λy S1=>ta σ S1 λx S2=>zu true Q x y S2):y_ te ta σ S Q:=h
theorem Hi{neg:Bool}{a:Addr}{kvs:List (Key×D)}{z:Str}(hS:S a=some (.bp kvs))(q:Q (.bl (if neg then !(cm kvs (.inr z)).isSome else(cm kvs (.inr z)).isSome)) S):zu neg Q (.ref a) (.str z) S:=⟨a,kvs,.inr z,rfl,hS,rfl,q⟩
def Hj(Q:K3)(x y:D)(S:af):Prop:=∃a kvs k v,x=.ref a/\S a=some (.bp kvs)/\y=kD k/\cm kvs k=some v/\Q v S
theorem Ue(h:te σ S λx S1=>ta σ S1 λy S2=>Hj Q x y S2):Gc te ta σ S Q:=h
theorem zw{a:Addr}{kvs:List (Key×D)}{z:Str}{v:D}(hS:S a=some (.bp kvs))(hv:cm kvs (.inr z)=some v)(q:Q v S):Hj Q (.ref a) (.str z) S:=⟨a,kvs,.inr z,v,rfl,hS,rfl,hv,q⟩
def Hk(n:aL->af->Prop)(σ:aL)(v x y:D)(S:af):Prop:=∃a kvs k,x=.ref a/\S a=some (.bp kvs)/\y=kD k/\kvs.length<sizeLine/\n σ (up S a (.bp (putD kvs k v)))
theorem Ug{tv:aG}(h:tv σ S λv S1=>te σ S1 λx S2=>ta σ S2 λy S3=>Hk n σ v x y S3):Gj te ta tv ⟨n,rt,b,c⟩ σ S:=h
theorem Hl{a:Addr}{kvs:List (Key×D)}{z:Str}{v:D}(hS:S a=some (.bp kvs))(hz:kvs.length<sizeLine)(q:n σ (up S a (.bp (putD kvs (.inr z) v)))):Hk n σ v (.ref a) (.str z) S:=⟨a,kvs,.inr z,rfl,hS,rfl,hz,q⟩
end
theorem dj.frame{P:Program}{w:World}{K:ao}{mg:Str->Option Value}{base:Heap}{k:Nat}{f:Addr}{fd:FuncData}{ps:List Str}{sp:aK}(F:dj P w K mg base (cc P w) k f fd ps (iS K sp)):dj P w K mg base (cc P w) k f fd ps (iS K (fr sp)):=show _ by
 refine L2.dj.imp F λvs H Q E ⟨Z,ds,S,Q3,E3,h1,l,⟨S0,F,hs,h3⟩,cq,ce⟩=>?_;refine⟨Z.with H F,ds,S0,_,_,h1,⟨λa o e=>?_,λa z=>?_,Kp.refl _ _⟩,h3,?_,?_⟩
 ·refine l.obj a o ?_;rcases hs a with⟨q,_⟩|⟨q,_⟩
  ·rw[q];exact e
  ·rw[q]at e;cases e
 ·rcases z with z|z
  ·have z2:=l.hid a z;refine⟨?_,z2.2⟩;rcases hs a with⟨q,_⟩|⟨q,_⟩
   ·rw[<-q];exact z2.1
   ·exact q
  ·rcases hs a with⟨_,q⟩|⟨q,q2⟩
   ·exact absurd q z
   ·refine⟨q,?_⟩;cases e:F a with
    |none=>exact absurd e z
    |some o=>exact(l.obj a o (q2.trans e)).there
 ·rintro d S1 v H' k1 r1 l1 ⟨S2,hsub,q⟩;obtain⟨gG,l'⟩:=l.frame hs k1 l1 hsub;exact cq d _ v H' (k1.dR λa z=>.inl z) r1 l' (q _ gG)
 ·rintro C a S1 H' k1 l1 ha ⟨S2,hsub,q⟩;obtain⟨gG,l'⟩:=l.frame hs k1 l1 hsub;exact ce C a _ H' (k1.dR λa z=>.inl z) l' ha (q _ gG)
def pF:aK:=vS λds q=>∃ns:List Int,ds=[.bH (ns.map D.int)]/\ns.length<=63/\q (.bl true)
theorem Uh{P:Program}{w:World}{K:ao}{mg:Str->Option Value}{base:Heap}{k:Nat}{st:Stmt}{f:Addr}{fd:FuncData}{N:List Str}(F:m7 K "law" "law" st f fd)(S:aW N ["script"] (ak st))
 (hbody:∀(cdv:Value) (A:Around) (outer:List Env) (s:Shared) (H:Hp) (E:XK) (ns:List Int),bR k (A.deeper (envOfC "law" (ak st) s.heap.objs.size f cdv))->ns.length<=63 ->
  ∃t,da (cY (cc P w) P w K mg base N "law" (ak st) f cdv A outer s H E).gj c_ (aR st) t/\t {nx:=λ_ _=>False,rt:=λd _=>d=.bl true} (dU N [.bH (ns.map D.int)]) emp) :
 dj P w K mg base (cc P w) (k+1) f fd ["script"] (iS K pF):=show _ by
 obtain⟨oc,od,kV,doc,pm,an,cdv,ct,osl,rfl,lk,hcd⟩:=F.ex;refine L2.dj.imp (sp:=iS K (fr λds S Q E=>S=emp/\∃ns:List Int,ds=[.bH (ns.map D.int)]/\ns.length<=63/\∀S',Q (.bl true) S')) (dj.frame ?_) λvs H Q E cB=>by obtain⟨Z,ds,S,Q3,E3,h1,l,⟨ns,e,h63,q⟩,h,h'⟩:=cB;exact⟨Z,ds,S,Q3,E3,h1,l,⟨emp,S,vM S,rfl,ns,e,h63,λS1=>⟨emp,vO _,λS' hS=>vN hS▸q⟩⟩,h,h'⟩
 refine u7 lk hcd S (λvs H Q E fo=>by obtain⟨Z,ds,S,Q3,E3,h1,_,⟨_,ns,z,_⟩,_,_⟩:=fo;rw[<-h1.len,z];rfl) λA outer s H vs Q E hr ⟨Z,ds,S3,Q3,E3,h1,h2,⟨e1,ns,e2,h63,hq⟩,h4,_⟩=>?_;subst e1 e2;obtain⟨t,ht,q⟩:=hbody cdv A outer s H E ns hr h63;refine⟨_,(ht (zo Z H)).gj,_,dU N [.bH (ns.map D.int)],emp,?_,h2.into,q,⟨?_,?_,?_,?_⟩⟩
 ·unfold dU L2.start;rw[h1.len];exact nc (SR.sE h1) (SR.nones _)
 ·exact λ_ _ _ _ _ _ _ z=>z.elim
 ·exact λ_ _ _ _ _ _ _ z=>z
 ·exact λ_ _ _ _ _ _ _ z=>z
 ·intro d S' v H' kk r l e;have e:d=.bl true:=e;subst e;exact h4 _ S' v H' (kk.dR λ_ z=>z) r (l.out h2 kk) (hq S')
theorem Ui{K:ao}{H:Hp}{a:Addr}{ns:List Int}(hl:ns.length<=63)(hO:sg H)(h:bg K H a (ns.map V.int)):iS K pF [.ref a] H (λv _=>v=.bl true) λ_ _ _=>False:=show _ by
 refine⟨⟨λ_=>False,H⟩,[.bH (ns.map D.int)],emp,λd _=>d=.bl true,λ_ _ _=>False,.cons (.bH (lX.of h hO) (aT.ints ns)) .nil,⟨λa o e=>(nomatch e),λa z=>z.elim,Kp.refl _ _⟩,⟨ns,rfl,hl,rfl⟩,?_,λ_ _ _ _ _ _ _ z=>z⟩;intro d S v H' _ r _ e;have e:d=.bl true:=e;subst e;cases r;rfl
theorem zy{A:Around}{k:Nat}(hr:bR k A):A.units+200<cLine:=by have:=hr.un;lia
theorem Sub.refl(S:af):Sub S S:=λ_ _ h=>h
theorem Sub.trans{A B C:af}(h:Sub A B)(h':Sub B C):Sub A C:=λa o e=>h' a o (h a o e)
theorem Sub.up{A B:af}{p:Addr}{o:O}(h:Sub A B)(hp:B p=none):Sub A (up B p o):=λa u e=>az (h a u e) hp
theorem Sub.free{A B:af}{p:Addr}(h:Sub A B)(hp:B p=none):A p=none:=by
 cases e:A p with
 |none=>rfl
 |some o=>rw[h p o e]at hp;cases hp
theorem Sub.upd{A B:af}{p:Addr}{o:O}(h:Sub A B):Sub (E3.up A p o) (E3.up B p o):=λa u e=>by
 by_cases c:a=p
 ·subst c;rw[av]at e ⊢;exact e
 ·rw[aM c]at e ⊢;exact h a u e
theorem Sub.at{A B:af}{p:Addr}{o:O}(h:Sub A B)(hp:A p=none):Sub A (E3.up B p o):=λa u e=>by
 rw[aM (ne3 e hp)];exact h a u e
section
variable{P:Program}{w:World}{K:PySem.W.Frag}{mg:Str->Option Value}{base:Heap}{x:Str}{st:Stmt}{N ps:List Str}{k:Nat}
theorem aq.drop{sp:aK}(C:aq P w K mg base k x ps sp):aq P w K mg base k x ps (λds S Q E=>sp ds S (λd S1=>∃S2,Sub S2 S1/\Q d S2) E):=show _ by
 obtain⟨f,fd,F0,r⟩:=C.ex;refine⟨f,fd,F0.imp λvs H Q E ⟨Z,ds,S,Q3,E3,h1,l,h3,cq,ce⟩=>⟨Z,ds,S,_,E3,h1,l,h3,?_,ce⟩,r⟩;rintro d S1 v H' k1 r1 l1 ⟨S2,hsub,q⟩;exact cq d S2 v H' k1 r1 (l1.sub hsub) q
def ij(A:List D->af->(D->Prop)->Prop):aK:=λds S Q _=>A ds S λd=>Q d S
def iT(A:List D->af->(List D->Prop)->Prop):aK:=λds S Q _=>A ds S λys=>cS S ys Q
def kE(A:List D->af->(D->Addr->O->Prop)->Prop):aK:=λds S Q _=>A ds S λd a o=>Q d (up S a o)
theorem _root_.EE.aA.ij{A:List D->af->(D->Prop)->Prop}(h:aA K mg x st ps)(S:aW N ps (ak st))(len:∀ds S q,A ds S q->ds.length=ps.length)
 (hbody:∀(f:Addr) (cdv:Value) (Ar:Around) (outer:List Env) (s:Shared) (H:Hp) (E:XK) (ds:List D) (S:af) (q:D->Prop),bR k (Ar.deeper (envOfC x (ak st) s.heap.objs.size f cdv))->A ds S q ->
  ∃t,da (cY (cc P w) P w K mg base N x (ak st) f cdv Ar outer s H E).gj c_ (aR st) t/\t {nx:=λ_ S'=>Sub S S'/\q .non,rt:=λd S'=>Sub S S'/\q d} (dU N ds) S):aq P w K mg base (k+1) x ps (ij A):=show _ by
 have C:aq P w K mg base (k+1) x ps (λds S Q E=>∃q,A ds S q/\∀d S',Sub S S'/\q d->Q d S'):=by
  refine h.l9 S (λvs H Q E cB=>by obtain⟨q,z,_⟩:=cB;exact len _ _ _ z) λf cdv Ar outer s H E ds S3 Q E3 hr ⟨q,z,hq⟩=>?_;obtain⟨t,h1,h2⟩:=hbody f cdv Ar outer s H E ds S3 _ hr z;exact⟨t,λd S'=>Sub S3 S'/\q d,h1,h2,hq⟩
 exact C.drop.imp λds S Q E z=>⟨_,z,λd S1 hq=>⟨S,hq.1,hq.2⟩⟩
theorem _root_.EE.aA.iT{A:List D->af->(List D->Prop)->Prop}(h:aA K mg x st ps)(S:aW N ps (ak st))(len:∀ds S q,A ds S q->ds.length=ps.length)
 (hbody:∀(f:Addr) (cdv:Value) (Ar:Around) (outer:List Env) (s:Shared) (H:Hp) (E:XK) (ds:List D) (S:af) (q:List D->Prop),bR k (Ar.deeper (envOfC x (ak st) s.heap.objs.size f cdv))->A ds S q ->
  ∃t,da (cY (cc P w) P w K mg base N x (ak st) f cdv Ar outer s H E).gj c_ (aR st) t /\
   t {nx:=λ_ _=>False,rt:=λd S'=>∃p ys,d=.ref p/\S p=none/\Sub S S'/\S' p=some (.lst ys)/\q ys} (dU N ds) S):aq P w K mg base (k+1) x ps (iT A):=show _ by
 have C:aq P w K mg base (k+1) x ps (λds S Q E=>∃q,A ds S q/\∀d S',(∃p ys,d=.ref p/\S p=none/\Sub S S'/\S' p=some (.lst ys)/\q ys)->Q d S'):=by
  refine h.l9 S (λvs H Q E fo=>by obtain⟨q,z,_⟩:=fo;exact len _ _ _ z) λf cdv Ar outer s H E ds S3 Q E3 hr ⟨q,z,hq⟩=>?_;obtain⟨t,h1,h2⟩:=hbody f cdv Ar outer s H E ds S3 _ hr z;refine⟨t,λd S'=>∃p ys,d=.ref p/\S3 p=none/\Sub S3 S'/\S' p=some (.lst ys)/\q ys,h1,?_,hq⟩;have e:(λ(_:aL) (_:af)=>False)=λ(_:aL) (S':af)=>∃p ys,D.non=.ref p/\S3 p=none/\Sub S3 S'/\S' p=some (.lst ys)/\q ys:=by
   funext _ S';refine propext ⟨eI,λz=>?_⟩;obtain⟨p,ys,z,_⟩:=z;cases z
  rw[<-e];exact h2
 refine C.drop.imp λds S Q E z=>⟨_,z,λd S1 ⟨p,ys,e,hp,hs,hp1,hq⟩=>⟨up S p (.lst ys),?_,?_⟩⟩
 ·intro a o ha;by_cases c:a=p
  ·subst c;rw[av]at ha;cases ha;exact hp1
  ·rw[aM c]at ha;exact hs a o ha
 ·subst e;exact hq p hp
theorem _root_.EE.aA.kE{A:List D->af->(D->Addr->O->Prop)->Prop}(h:aA K mg x st ps)(S:aW N ps (ak st))(len:∀ds S q,A ds S q->ds.length=ps.length)
 (hbody:∀(f:Addr) (cdv:Value) (Ar:Around) (outer:List Env) (s:Shared) (H:Hp) (E:XK) (ds:List D) (S:af) (q:D->Addr->O->Prop),bR k (Ar.deeper (envOfC x (ak st) s.heap.objs.size f cdv))->A ds S q ->
  ∃t,da (cY (cc P w) P w K mg base N x (ak st) f cdv Ar outer s H E).gj c_ (aR st) t/\t {nx:=λ_ S'=>∃a o,Sub (up S a o) S'/\q .non a o,rt:=λd S'=>∃a o,Sub (up S a o) S'/\q d a o} (dU N ds) S):aq P w K mg base (k+1) x ps (kE A):=show _ by
 have C:aq P w K mg base (k+1) x ps (λds S Q E=>∃q,A ds S q/\∀d S',(∃a o,Sub (up S a o) S'/\q d a o)->Q d S'):=by
  refine h.l9 S (λvs H Q E nA=>by obtain⟨q,z,_⟩:=nA;exact len _ _ _ z) λf cdv Ar outer s H E ds S3 Q E3 hr ⟨q,z,hq⟩=>?_;obtain⟨t,h1,h2⟩:=hbody f cdv Ar outer s H E ds S3 _ hr z;exact⟨t,λd S'=>∃a o,Sub (up S3 a o) S'/\q d a o,h1,h2,hq⟩
 exact C.drop.imp λds S Q E z=>⟨_,z,λd S1 kg=>by obtain⟨a,o,hs,hq⟩:=kg;exact⟨_,hs,hq⟩⟩
end
section
variable{P:Program}{w:World}{K:PySem.W.Frag}{mg:Str->Option Value}{base:Heap}{x:Str}{st:Stmt}{N ps:List Str}{k:Nat}
def nD(A:List D->af->(List D->Addr->O->Prop)->Prop):aK:=λds S Q _=>A ds S λys a o=>∀p,S p=none->Q (.ref p) (up (up S a o) p (.lst ys))
theorem _root_.EE.aA.nD{A:List D->af->(List D->Addr->O->Prop)->Prop}(h:aA K mg x st ps)(S:aW N ps (ak st))(len:∀ds S q,A ds S q->ds.length=ps.length)
 (hbody:∀(f:Addr) (cdv:Value) (Ar:Around) (outer:List Env) (s:Shared) (H:Hp) (E:XK) (ds:List D) (S:af) (q:List D->Addr->O->Prop),bR k (Ar.deeper (envOfC x (ak st) s.heap.objs.size f cdv))->A ds S q ->
  ∃t,da (cY (cc P w) P w K mg base N x (ak st) f cdv Ar outer s H E).gj c_ (aR st) t /\
   t {nx:=λ_ _=>False,rt:=λd S'=>∃p ys a o,d=.ref p/\S p=none/\S a≠none/\Sub (up S a o) S'/\S' p=some (.lst ys)/\q ys a o} (dU N ds) S):aq P w K mg base (k+1) x ps (nD A):=show _ by
 have C:aq P w K mg base (k+1) x ps (λds S Q E=>∃q,A ds S q/\∀d S',(∃p ys a o,d=.ref p/\S p=none/\S a≠none/\Sub (up S a o) S'/\S' p=some (.lst ys)/\q ys a o)->Q d S'):=by
  refine h.l9 S (λvs H Q E sF=>by obtain⟨q,z,_⟩:=sF;exact len _ _ _ z) λf cdv Ar outer s H E ds S3 Q E3 hr ⟨q,z,hq⟩=>?_;obtain⟨t,h1,h2⟩:=hbody f cdv Ar outer s H E ds S3 _ hr z;refine⟨t,λd S'=>∃p ys a o,d=.ref p/\S3 p=none/\S3 a≠none/\Sub (up S3 a o) S'/\S' p=some (.lst ys)/\q ys a o,h1,?_,hq⟩;have e:(λ(_:aL) (_:af)=>False)=λ(_:aL) (S':af)=>∃p ys a o,D.non=.ref p/\S3 p=none/\S3 a≠none/\Sub (up S3 a o) S'/\S' p=some (.lst ys)/\q ys a o:=by
   funext _ S';refine propext ⟨eI,λz=>?_⟩;obtain⟨p,ys,_,_,z,_⟩:=z;cases z
  rw[<-e];exact h2
 refine C.drop.imp λds S Q E z=>⟨_,z,λd S1 ⟨p,ys,a,o,e,hp,ha,hs,hp1,hq⟩=>⟨up (up S a o) p (.lst ys),?_,?_⟩⟩
 ·intro b u hb;by_cases c:b=p
  ·subst c;rw[av]at hb;cases hb;exact hp1
  ·rw[aM c]at hb;exact hs b u hb
 ·subst e;exact hq p hp
end
section
variable{σ:aL}{S:af}{Q:K3}
theorem Uj{g:Int->Int->D}{k j:Int}(h:yt k j)(q:Q (g k j) S):sP yt g (.int k) (.int j) S Q:=⟨k,j,rfl,rfl,h,q⟩
theorem Uk{g:Int->Int->D}{k j:Int}(h:rR k j)(q:Q (g k j) S):sP rR g (.int k) (.int j) S Q:=⟨k,j,rfl,rfl,h,q⟩
end
end E3
namespace E3
def Px(sp:mS)(S X:af):Prop:=∀a u,a≠sp->S a=some u->X a=some u
theorem Px.refl(sp:mS)(S:af):Px sp S S:=λ_ _ _ h=>h
theorem Px.at{sp:mS}{S X:af}{o:O}(h:Px sp S X):Px sp S (up X sp o):=λa u n e=>by rw[aM n];exact h a u n e
theorem Px.new{sp p:mS}{S X:af}{o:O}(h:Px sp S X)(hp:X p=none):Px sp S (up X p o):=λa u n e=>az (h a u n e) hp
theorem Px.sub{sp:mS}{S X:af}{o:O}(h:Px sp S X)(hx:X sp=some o):Sub (up S sp o) X:=λa u e=>by
 by_cases c:a=sp
 ·subst c;rw[av]at e;rw[hx];exact e
 ·rw[aM c]at e;exact h a u c e
end E3
namespace E3
theorem Px.fresh{sp p:mS}{S X:af}{o:O}(h:Px sp S X)(hp:S p=none):Px sp S (up X p o):=λa u n e=>by rw[aM (ne3 e hp)];exact h a u n e
theorem Px.free{sp p:mS}{S X:af}(h:Px sp S X)(hp:X p=none)(n:p≠sp):S p=none:=by
 cases e:S p with
 |none=>rfl
 |some o=>rw[h p o n e]at hp;cases hp
end E3
namespace E3
theorem Px.ext{sp:mS}{S X Y:af}(h:Px sp S X)(h':Sub X Y):Px sp S Y:=λa u n e=>h' a u (h a u n e)
end E3
namespace E3
open PySem PySem.Spec PyProof.Rows L2 EE
theorem Ul{P:Program}{w:World}{H:Hp}{h:Heap}{a:Addr}{o:HO}(x:cG P w H h a o):∃u,h.get? a=some u:=show _ by
 cases o with
 |lst xs=>obtain⟨_,_,_,_,e⟩:=x;exact⟨_,e⟩
 |tup xs=>obtain⟨_,_,_,⟨o,e,_⟩,_⟩:=x;exact⟨_,e⟩
 |dK kvs=>obtain⟨_,_,_,_,o,_,_,e,_⟩:=x;exact⟨_,e⟩
 |dT kvs=>obtain⟨_,_,_,_,o,_,_,e,_⟩:=x;exact⟨_,e⟩
 |set S n=>obtain⟨o,_,_,_,e,_⟩:=x;exact⟨_,e⟩
 |ins C dx fs=>obtain⟨_,_,_,e,_⟩:=x;exact⟨_,e⟩
 |own y=>exact x
 |xd fs=>obtain⟨_,⟨_,_,_,e,_⟩,_⟩:=x;exact⟨_,e⟩
 |uK lo hi=>obtain⟨_,_,_,e⟩:=x;exact⟨_,e⟩
 |dB ob u=>obtain⟨e,_⟩:=x;exact⟨_,e⟩
 |lM ps=>exact⟨_,show h.get? a=some _ from x⟩
 |met f y=>exact⟨_,show h.get? a=some _ from x⟩
 |ext φ=>exact x.2.1
theorem vP{P:Program}{w:World}{H:Hp}{h:Heap}{a:Addr}(x:b9 P w H h)(e:h.get? a=none):H a=none:=by
 cases q:H a with
 |none=>rfl
 |some o=>obtain⟨u,z⟩:=Ul (x a o q);rw[e]at z;cases z
section
variable{P:Program}{w:World}{K:PySem.W.Frag}{mg:Str->Option Value}{base:Heap}{N:List Str}{qual:Str}{scope:Scope}{f:Addr}{cd:Value}{A:Around}{outer:List Env}{s s2:Shared}{H H1:Hp}{E:XK}
 {pins:List (Addr×Obj)} {σ:L2.St} {a C:Addr}
theorem zA(I:Inv (cY (cc P w) P w K mg base N qual scope f cd A outer s H E) pins σ H1 s2):s2.heap.FunFrames base (envOfC qual scope s.heap.objs.size f cd::outer):=show _ by
 obtain⟨m,⟨o,es,ep,ho,hd,_⟩,_⟩:=I.loc;have hk:scope.kind=.function:=I.ok.kind;refine⟨?_,⟨s.heap.objs.size,o,rfl,?_,ho,λvs z=>?_⟩,I.fi⟩
 ·show scope.kind≠.module;rw[hk];intro z;cases z
 ·cases q:base.get? s.heap.objs.size with
  |none=>rfl
  |some u=>exact absurd (dM (bE q) I.ok.gD) (jW _)
 ·rw[hd]at z;cases z
theorem Hm{a0:Value}{h':Heap}(hold:List Addr)(I:Inv (cY (cc P w) P w K mg base N qual scope f cd A outer s H E) pins σ H1 s2)(hh:∀b∈hold,H1 b=none/\s.heap.get? b=none)(na:H1 a=none/\s.heap.get? a=none)
 (fl:DJ (jX s2.heap (hold++frs (envOfC qual scope s.heap.objs.size f cd::outer))) outer a (.ref C) a0 h') (us:s2.heap.UpToSlots h') (q:E (.ref C) (some a) H1) {s3:Shared} (h3:s3.heap=h') (ho:s3.os=s2.os) (hg:s3.gens=s2.gens) :
 cc P w outer H s E (.ref a) s3:=show _ by
 have all:=zA I;have zB:frs (envOfC qual scope s.heap.objs.size f cd::outer)=s.heap.objs.size::frs outer:=rfl;have hL:s.heap.get? s.heap.objs.size=none:=by
  cases q:s.heap.get? s.heap.objs.size with
  |none=>rfl
  |some u=>exact absurd (bE q) (jW _)
 have frame:∀b,b∈frs (envOfC qual scope s.heap.objs.size f cd::outer)->H1 b=none/\∃o,s2.heap.get? b=some o/\∀vs,o.data≠.fields vs:=by
  intro b hb;refine⟨?_,(all.mem hb).2⟩;rw[zB]at hb;rcases bF.mp hb with rfl|hb
  ·exact I.free
  ·obtain⟨_,o,e,_⟩:=I.ok.fi.mem hb;exact I.base.free b o e (I.ok.iH b hb) (by exact cN)
 have keep:∀b o,s2.heap.get? b=some o->b∉hold->b∉frs (envOfC qual scope s.heap.objs.size f cd::outer)->h'.get? b=some o:=λb o e n1 n2 =>
  fl.1 b o (xp _ e λz=>(cR.mp z).elim n1 n2)
 have slot:∀b o,s2.heap.get? b=some o->b∈frs (envOfC qual scope s.heap.objs.size f cd::outer)->∃sl,h'.get? b=some {o with slots:=sl}:=λb o e hb=>by
  obtain⟨_,o',e',hn⟩:=frame b hb;rw[e]at e';cases e';exact us b o e hn
 have sV:∀b o,s.heap.get? b=some o->b∉hold:=λb o e z=>by rw[(hh b z).2]at e;cases e
 have nL:∀b o,s.heap.get? b=some o->b∉frs outer->b∉frs (envOfC qual scope s.heap.objs.size f cd::outer):=λb o e n z=>by
  rw[zB]at z;rcases bF.mp z with rfl|z
  ·rw[hL]at e;cases e
  ·exact n z
 obtain⟨f1,f2,f3,oe,vs,T,oT,ts,he,⟨hc,h0⟩,hd,h1,hnT,hTe,hT,hdT,Um⟩:=fl;have Uo:T∉frs (envOfC qual scope s.heap.objs.size f cd::outer):=λz=>by
  obtain⟨_,o',e',hn⟩:=frame T z;obtain⟨sl,e2⟩:=us T o' e' hn;rw[hT]at e2;cases e2;exact hn _ hdT
 have tT:H1 T=none/\s.heap.get? T=none:=by
  by_cases hz:T∈hold
  ·exact hh T hz
  ·have n2:s2.heap.get? T=none:=by
    cases q:s2.heap.get? T with
    |none=>rfl
    |some o =>
     rw[xp _ q λz=>(cR.mp z).elim hz Uo]at hnT;cases hnT
   refine⟨vP I.hok n2,?_⟩;cases q:s.heap.get? T with
   |none=>rfl
   |some o =>
    obtain⟨o',e'⟩:=I.base.there T o q (by exact cN);rw[n2]at e';cases e'
 refine⟨a,C,T,H1,rfl,ho.trans I.os,?_,?_,?_,?_,na.1,tT.1,na.2,tT.2,q⟩
 ·rw[hg];exact I.bare
 ·rw[h3];refine⟨λb o e n hf hx=>?_,λb o e n hf hx=>?_,λb o e n hx=>I.base.free b o e n (by exact cN),λb o e hx=>?_,I.base.tups,I.base.gi,I.base.hX⟩
  ·exact keep b o (I.base.keep b o e n hf (by exact cN)) (sV b o e) (nL b o e hf)
  ·obtain⟨sl,e1⟩:=I.base.slot b o e n hf (by exact cN);obtain⟨sl',e2⟩:=slot b _ e1 (by rw[zB];exact .tail _ hf);exact⟨sl',e2⟩
  ·obtain⟨o',e1⟩:=I.base.there b o e (by exact cN);by_cases hb:b∈frs (envOfC qual scope s.heap.objs.size f cd::outer)
   ·obtain⟨sl,e2⟩:=slot b _ e1 hb;exact⟨_,e2⟩
   ·exact⟨_,keep b _ e1 (sV b o e) hb⟩
 ·rw[h3];intro b o e;refine(I.hok b o e).stay (λc u hc q=>?_) (λ_ q=>q) λ_ _ q=>q;have sW:H1 c≠none:=by
   rcases hc with rfl|z
   ·rw[e];simp
   ·rw[z];simp
  exact keep c u q (λz=>sW (hh c z).1) λz=>sW (frame c z).1
 ·rw[h3];exact⟨hTe,⟨oe,vs,a0,he,hc,hd,h0,h1⟩,⟨oT,ts,hT,hdT,Um⟩⟩
theorem Up:Passes (cc P w) (cY (cc P w) P w K mg base N qual scope f cd A outer s H E) E:=show _ by
 rintro pins σ H1 s1 e s' I ⟨a,C,T,H',he,hos,hb,u,hok,nE,ha,hT,na,nT,z⟩;subst he;have I':=I.rM hos u hok hb λ_ z=>nomatch z;have all:=zA I';have old:∀b,s1.heap.get? b=none->s.heap.get? b=none:=λb e=>by
  cases q:s.heap.get? b with
  |none=>rfl
  |some o =>
   obtain⟨o',e'⟩:=I.base.there b o q (by exact cN);rw[e]at e';cases e'
 obtain⟨oe,vs,a0,e1,e2,e3,e4,e5⟩:=nE.exc;obtain⟨oT,ts,t1,t2,t3⟩:=nE.tb;have hl:∀env∈(envOfC qual scope s.heap.objs.size f cd::outer),∀b,env.frame=some b->b∈[a,T]++frs (envOfC qual scope s.heap.objs.size f cd::outer):=λenv he b hb=>fG _ (rj.mpr ⟨env,he,hb⟩);show wpAny _ _ (leaving (envOfC qual scope s.heap.objs.size f cd) (.ref a)) _ _ s';refine wpAny_leaves_onW (base:=jX s'.heap ([a,T]++frs (envOfC qual scope s.heap.objs.size f cd::outer))) I'.ok.frames rfl ⟨λb o q=>rg _ q,ug _ (by simp),xM all hl,
  oe,vs,T,oT,ts,e1,⟨e2,e4⟩,e3,e5,ug _ (by simp),nE.ne,t1,t2,t3⟩ λh' x1 x2=>?_
 refine Hm [a,T] I' (λb hb=>?_) ⟨ha,old a na⟩ x1 x2 z rfl rfl rfl;rcases bF.mp hb with rfl|hb
 ·exact⟨ha,old b na⟩
 ·rcases bF.mp hb with rfl|hb
  ·exact⟨hT,old b nT⟩
  ·cases hb
theorem leave_new{args:List Value}{s3:Shared}{e:Addr}(I:Inv (cY (cc P w) P w K mg base N qual scope f cd A outer s H E) pins σ H1 s2)(hx:DG s2.heap s3.heap e (.ref C) args)(ho:s3.os=s2.os)(hg:s3.gens=s2.gens)(q:E (.ref C) (some e) H1) :
 (cY (cc P w) P w K mg base N qual scope f cd A outer s H E).xe (.ref e) s3:=show _ by
 have all:=zA I;have hl:∀env∈(envOfC qual scope s.heap.objs.size f cd::outer),∀b,env.frame=some b->b∈[]++frs (envOfC qual scope s.heap.objs.size f cd::outer):=λenv he b hb=>fG _ (rj.mpr ⟨env,he,hb⟩);show wpAny _ _ (leaving (envOfC qual scope s.heap.objs.size f cd) (.ref e)) _ _ s3;refine wpAny_leaves_madeW (base:=jX s2.heap ([]++frs (envOfC qual scope s.heap.objs.size f cd::outer))) (h:=s2.heap) I.ok.frames rfl (λb o q=>rg _ q) (xM all hl) hx λh' t x1 _ _ x4=>?_;refine Hm [] I (λb hb=>nomatch hb) ⟨vP I.hok hx.new,?_⟩ x1 ((Nh hx.keeps).trans x4) q rfl ho hg;cases q:s.heap.get? e with
 |none=>rfl
 |some o =>
  obtain⟨o',e'⟩:=I.base.there e o q (by exact cN);rw[hx.new]at e';cases e'
end
section
variable{P:Program}{w:World}{K:PySem.W.Frag}{mg:Str->Option Value}{base:Heap}{x:Str}{st:Stmt}{N ps:List Str}{k:Nat}
def Uq{f:Addr}{cdv:Value}{A:Around}{outer:List Env}{s:Shared}{H:Hp}{E:XK}{scope:Scope}(Z:Zt)(W:X3)(o:Kp Z Z.base H)(ce:FR K Z H W E):ZX (cY (cc P w) P w K mg base N x scope f cdv A outer s H E) (λ_=>W) where
 z:=Z.at H
 E:=λ_=>E
 pass:=λτ pins H s e s' I q=>Up pins τ H s e s' I q
 rz:=λ_ _ _ _ _ _ _ _ I hx ho hg q=>leave_new I hx ho hg q
 ce:=λ_ _ C a S H' _ l ha q=>ce C a S H' (l.old.dR λ_ z=>z) ⟨l.obj,l.hid,o.trans (l.old.dR λ_ z=>z)⟩ ha q
theorem _root_.EE.aA.vQ{sp:aK}(h:aA K mg x st ps)(S:aW N ps (ak st))(len:∀vs H Q E,sp vs H Q E->vs.length=ps.length)
 (hbody:∀(f:Addr) (cdv:Value) (A:Around) (outer:List Env) (s:Shared) (H:Hp) (E:XK) (ds:List D) (S:af) (Q:K3) (W:X3),bR k (A.deeper (envOfC x (ak st) s.heap.objs.size f cdv))->sp ds S Q W ->
  ∃t Q' W',da (cY (cc P w) P w K mg base N x (ak st) f cdv A outer s H E) (λ_=>W') (aR st) t/\t {nx:=λ_ S'=>Q' .non S',rt:=Q'} (dU N ds) S/\(∀d S',Q' d S'->Q d S')/\∀C a S',W' C a S'->W C a S'):aq P w K mg base (k+1) x ps sp:=show _ by
 obtain⟨f,fd,F,b,m⟩:=h.ex;obtain⟨oc,od,kV,doc,pm,an,cdv,ct,osl,rfl,lk,hcd⟩:=F.ex;refine⟨f,_,u7 lk hcd S (λvs H Q E cB=>by obtain⟨Z,ds,S,Q3,E3,h1,_,h3,_,_⟩:=cB;rw[<-h1.len];exact len _ _ _ _ h3) λA outer s H vs Q E hr ⟨Z,ds,S3,Q3,E3,h1,h2,h3,h4,h5⟩=>?_,b,F.kp,m⟩;obtain⟨t,Q',W',ht,q,hw,hx⟩:=hbody f cdv A outer s H E ds S3 Q3 E3 hr h3;refine⟨_,ht (Uq Z W' h2.old λC a S' H' kk l ha z=>h5 C a S' H' kk l ha (hx _ _ _ z)),_,dU N ds,S3,?_,h2.into,q,⟨?_,?_,?_,?_⟩⟩
 ·unfold dU L2.start;rw[h1.len];exact nc (SR.sE h1) (SR.nones _)
 ·intro σ S' τ H' kk _ l q';exact h4 .non S' .non H' (kk.dR λ_ z=>z) .non (l.out h2 kk) (hw _ _ q')
 ·exact λ_ _ _ _ _ _ _ z=>z
 ·exact λ_ _ _ _ _ _ _ z=>z
 ·exact λd S' v H' kk r l q'=>h4 d S' v H' (kk.dR λ_ z=>z) r (l.out h2 kk) (hw _ _ q')
def vX(A:List D->(D->Prop)->(Addr->Prop)->Prop):aK:=λds S Q W=>A ds (λd=>Q d S) λC=>∀a,W C a S
theorem _root_.EE.aA.Ur{A:List D->(D->Prop)->(Addr->Prop)->Prop}(h:aA K mg x st ps)(S:aW N ps (ak st))(len:∀ds q qx,A ds q qx->ds.length=ps.length)
 (hbody:∀(f:Addr) (cdv:Value) (Ar:Around) (outer:List Env) (s:Shared) (H:Hp) (E:XK) (ds:List D) (q:D->Prop) (qx:Addr->Prop),bR k (Ar.deeper (envOfC x (ak st) s.heap.objs.size f cdv))->A ds q qx ->
  ∃t,da (cY (cc P w) P w K mg base N x (ak st) f cdv Ar outer s H E) (λ_ C _ _=>qx C) (aR st) t/\t {nx:=λ_ _=>q .non,rt:=λd _=>q d} (dU N ds) emp):aq P w K mg base (k+1) x ps (vX A):=show _ by
 have C:aq P w K mg base (k+1) x ps (λds S Q E=>S=emp/\∃q qx,A ds q qx/\(∀d S',q d->Q d S')/\∀C a S',qx C->E C a S'):=by
  refine h.vQ S (λvs H Q E fo=>by obtain⟨_,q,qx,z,_⟩:=fo;exact len _ _ _ z) λf cdv Ar outer s H E ds S3 Q E3 hr z=>?_;obtain⟨rfl,q,qx,z,hq,hx⟩:=z;obtain⟨t,h1,h2⟩:=hbody f cdv Ar outer s H E ds _ _ hr z;exact⟨t,λd _=>q d,λC _ _=>qx C,h1,h2,hq,hx⟩
 exact C.frame.imp λds S Q E z=>⟨emp,S,vM S,rfl,_,_,z,λd S1 hq=>⟨emp,vO _,λS' h=>vN h▸hq⟩,λC a S1 hx=>⟨emp,vO _,λS' h=>vN h▸hx a⟩⟩
theorem vR{qual:Str}{scope:Scope}{f:Addr}{cd:Value}{A:Around}{outer:List Env}{s:Shared}{H:Hp}{E:XK} :
 PassesOwn (model P w) (cY (cc P w) P w K mg base N qual scope f cd A outer s H E).A (cY (cc P w) P w K mg base N qual scope f cd A outer s H E).env (cY (cc P w) P w K mg base N qual scope f cd A outer s H E).xe:=PassesOwn.leaving
end
abbrev vT:List Value:=[.type "ValueError",.type "Exception",.type "BaseException",.type "object"]
theorem Us{K:ao}{h:Heap}{C:Addr}{bmB:List Value}{newId:String}(X:K.In h)(q:rB K C bmB newId=true) :
 ∃bm N nm qn bs hdct sn sub ab col dd q0 q1 q2 q3 q5 mN,h.get? C=some (excClassObj nm qn C N bs bm hdct sn sub ab col dd q0 q1 q2 q3 q5 newId)/\h.Ns N mN/\mN "__init__"=none/\OwnTail h bmB bm:=show _ by
 unfold rB at q
 split at q
 ·rename_i dd cd sl ho
  split at q
  ·rename_i Ca bm q0 q1 q2 q3 n q5 hmr hsz
   simp only[f9,beq_iff_eq,Bool.not_eq_true']at q;obtain⟨⟨⟨⟨⟨rfl,rfl⟩,hde⟩,ht⟩,hns⟩,hin⟩:=q;obtain⟨nm,bs,mro,ns,qn,hd,sn,sub,ab,col,del⟩:=cd;dsimp only at hmr hde hns hin;subst hmr hde;have Ut:sl=#[q0,q1,q2,q3,some (.builtin n),q5]:=by
    obtain⟨l⟩:=sl;simp only at hsz;rw[hsz]
   subst Ut;exact⟨bm,ns,nm,qn,bs,hd,sn,sub,ab,col,dd,q0,q1,q2,q3,q5,_,X _ _ ho,.of_isNs (PySem.W.isNs_of_in X hns),PySem.W.nsMap_none_of_in X hns hin,PySem.W.tail_of_in X ht⟩
  ·cases q
 ·cases q
section
variable{X:Cx}{x:Str}{C:Addr}{np cpos pos:Pos}{e:Expr}{es:List Expr}
theorem Uu{ta:TA}{E:L2.St->XK}(hm:X.mg x=some (.ref C))(q:rB X.K C vT "ValueError.__new__"=true)(hc:X.calm=true)(hg:Gl X x)(rz:∀τ,FQ X (E τ) τ)(ha:PA X (e::es) ta)
 (hd:(x==("__debug__":Str))=false:=by decide) (he:starEach (e::es) X.env=(false,eval e X.env)::starEach es X.env:=by rfl) (hpl:(backTo cpos (starEach es X.env)).any (·.1)=false:=by rfl) :
 PS X (.Raise (some (.Call (.Name x np) (e::es) [] cpos)) none pos) (λ_ τ H=>ta τ H λvs H1=>vs.length<=sizeLine/\∀a,H1 a=none->E τ (.ref C) (some a) H1):=show _ by
 intro pins s σ H D I h;obtain⟨bm,N,nm,qn,bs,hdct,sn,sub,ab,col,dd,k0,k1,k2,k3,k5,mN,hC,hN,hni,T⟩:=Us I.mod.gC q;refine wpAny_Raise_call_subT (C:=C) (nm:=nm) (q:=qn) (N:=N) (bs:=bs) (bm:=bm) (hdct:=hdct) (sn:=sn) (sub:=sub) (ab:=ab) (col:=col) (dd:=dd) (k0:=k0) (k1:=k1) (k2:=k2) (k3:=k3) (k5:=k5)
  Ni (mN:=mN) (T.hasType Ni.hasBase) (I.ok.hd hc) (by rw[he];show(false||(backTo cpos (starEach es X.env)).any (·.1))=false;rw[hpl];rfl) hni (rN I hg hm ⟨rfl,?_⟩ hd)
 have h1:=ha cpos pins s σ H _ I h;rw[he]at h1 ⊢;refine Dv (eZ h1 (λus s1 ⟨vs,H1,I1,r,hl,z⟩=>?_) λ_ _ y=>y);have keep:∀b o,X.base.get? b=some o->s1.heap.get? b=some o:=I1.bk;refine⟨rfl,by show us.length<=sizeLine;rw[<-r.length];exact hl,keep _ _ hC,hN.keeps keep,T.keeps keep,λh' a hx=>?_⟩;exact rz σ pins H1 s1 _ a C us I1 hx rfl rfl (z a (vP I1.hok hx.new))
def Hn(W3:bL)(C:Addr)(ta:bZ):b6:=λ_ σ S=>ta σ S λds S1=>ds.length<=sizeLine/\∀a,W3 σ C a S1
variable{W3:bL}
theorem Ho{ta:bZ}(hm:X.mg x=some (.ref C))(q:rB X.K C vT "ValueError.__new__"=true)(hc:X.calm=true)(hg:Gl X x)(ha:eB X W3 (e::es) ta)
 (hd:(x==("__debug__":Str))=false:=by decide) (he:starEach (e::es) X.env=(false,eval e X.env)::starEach es X.env:=by rfl) (hpl:(backTo cpos (starEach es X.env)).any (·.1)=false:=by rfl) :
 eC X W3 (.Raise (some (.Call (.Name x np) (e::es) [] cpos)) none pos) (Hn W3 C ta):=λZ=>PS.imp (Uu hm q hc hg Z.rz (ha Z) hd he hpl) λD τ H cB=>by obtain⟨D3,σ,S,hs,hr,ht,hcd⟩:=cB;exact 
 ⟨σ,S,_,hs,hr,ht,λds S1 vs H1 k1 r1 l1 q1=>⟨by rw[<-r1.len];exact q1.1,λa ha=>Z.ce σ τ C a S1 H1 (hs.mono k1) l1 ha (q1.2 a)⟩⟩
end
section
variable{σ:aL}{S:af}{Q:K3}{te:aG}{al:bZ}{n b c:aL->af->Prop}{rt:K3}{W3:bL}{C:Addr}
theorem Uv(h:al σ S λds S1=>ds.length<=sizeLine/\∀a,W3 σ C a S1):Hn W3 C al ⟨n,rt,b,c⟩ σ S:=h
end
abbrev _root_.L2.Cx.caught(X:Cx)(v:Value):Cx:={X with A:=X.A.mark (some v),calm:=false,xe:=λ_ _=>False}
abbrev _root_.L2.Cx.tried(X:Cx)(xe:Value->Shared->Prop)(pn:List (Addr×Obj)):Cx:={X with xe:=xe,pn:=pn}
section
variable{X:Cx}{pins pn:List (Addr×Obj)}{τ:L2.St}{H H1:Hp}{s s1:Shared}{a C:Addr}{v:Value}{xe:Value->Shared->Prop}
theorem Uw(ok:X.Ok):(X.caught v).Ok:=⟨ok.mod,ok.kind,ok.glob,ok.blt,ok.above,ok.inj,ok.has,ok.cab,(λz=>nomatch z),ok.frames,ok.mV,ok.rK,ok.bs,ok.gD,ok.lN,ok.lP,ok.fi,ok.iH⟩
theorem Ux(ok:X.Ok):(X.tried xe pn).Ok:=⟨ok.mod,ok.kind,ok.glob,ok.blt,ok.above,ok.inj,ok.has,ok.cab,ok.hd,ok.frames,ok.mV,ok.rK,ok.bs,ok.gD,ok.lN,ok.lP,ok.fi,ok.iH⟩
theorem Hq(I:Inv X pins τ H s):Inv (X.caught v) pins τ H s:=⟨Uw I.ok,I.os,I.bare,I.base,I.loc,I.cell,I.free,I.fJ,I.pin,I.hok,I.len⟩
theorem vU(ok:X.Ok)(I:Inv (X.caught v) pins τ H s):Inv X pins τ H s:=⟨ok,I.os,I.bare,I.base,I.loc,I.cell,I.free,I.fJ,I.pin,I.hok,I.len⟩
theorem Uy(I:Inv X pins τ H s):Inv (X.tried xe (X.pn++pins)) [] τ H s:=⟨Ux I.ok,I.os,I.bare,I.base,I.loc,I.cell,I.free,I.fJ,λp hp=>I.pin p (by simpa using hp),I.hok,I.len⟩
theorem pG{hZ:List (Addr×Obj)}(ok:X.Ok)(I:Inv (X.tried xe (X.pn++pins)) hZ τ H s):Inv X pins τ H s:=⟨ok,I.os,I.bare,I.base,I.loc,I.cell,I.free,I.fJ,λp hp=>I.pin p (lu _ hp),I.hok,I.len⟩
theorem Uz{D:Ends}{f:Flow}(ok:X.Ok)(h:SP (X.caught v) pins D f s):SP X pins D f s:=show _ by
 cases f with
 |next=>obtain⟨σ',H',I,q⟩:=h;exact⟨σ',H',vU ok I,q⟩
 |brk=>obtain⟨σ',H',I,q⟩:=h;exact⟨σ',H',vU ok I,q⟩
 |cont=>obtain⟨σ',H',I,q⟩:=h;exact⟨σ',H',vU ok I,q⟩
 |ret u=>obtain⟨v,σ',H',I,r,q⟩:=h;exact⟨v,σ',H',vU ok I,r,q⟩
theorem UA{D:Ends}{f:Flow}(ok:X.Ok)(h:SP (X.tried xe (X.pn++pins)) [] D f s):SP X pins D f s:=show _ by
 cases f with
 |next=>obtain⟨σ',H',I,q⟩:=h;exact⟨σ',H',pG ok I,q⟩
 |brk=>obtain⟨σ',H',I,q⟩:=h;exact⟨σ',H',pG ok I,q⟩
 |cont=>obtain⟨σ',H',I,q⟩:=h;exact⟨σ',H',pG ok I,q⟩
 |ret u=>obtain⟨v,σ',H',I,r,q⟩:=h;exact⟨v,σ',H',pG ok I,r,q⟩
structure gN(X:Cx)(pins:List (Addr×Obj))(τ:L2.St)(H:Hp)(a C:Addr)(s:Shared):Prop where
 ex:∃(s1:Shared) (H1:Hp) (g:Heap) (hold:List Addr) (a0:Value),Inv X pins τ H1 s1/\Un (frs X.stack) [] H1 H s1.heap g/\b9 X.prog X.w H g/\(∀b∈hold,H b=none/\s1.heap.get? b=none)/\(H a=none/\s1.heap.get? a=none) /\
  DJ (jX g (hold++frs X.stack)) X.stack a (.ref C) a0 s.heap/\g.UpToSlots s.heap/\s.os=s1.os/\AllBare s.gens
theorem gN.exc(h:gN X pins τ H a C s):∃o vs,s.heap.get? a=some o/\o.cls=.ref C/\o.data=.fields vs:=by
 obtain⟨s1,H1,g,hold,a0,I,u,ok,hh,na,fl,us,ho,hb⟩:=h.ex;obtain⟨oe,vs,h1,h2,h3,h4⟩:=fl.first;exact⟨oe,vs,h1,h2,h3⟩
theorem gN.un(h:gN X pins τ H a C s)(o:Option HO)(hO:∀q,o=some q->cG X.prog X.w (upd H a q) s.heap a q):Inv X pins τ (match o with|some q=>upd H a q|none=>H) s:=show _ by
 obtain⟨s1,H1,g,hold,a0,I,u,ok,hh,na,fl,us,ho,hb⟩:=h.ex;have I':s.heap=s.heap:=rfl;have fr:∀b∈frs X.stack,H b=none/\∃o,g.get? b=some o/\∀vs,o.data≠.fields vs:=by
  intro b hb;obtain⟨o,e,hn⟩:=(I.stack.mem hb).2;obtain⟨sl,e'⟩:=u.slot b o e (I.uO b hb) hb (by exact cN);exact⟨u.free b o e (I.uO b hb) (by exact cN),_,e',hn⟩
 have keep:∀b o,g.get? b=some o->b∉hold->b∉frs X.stack->s.heap.get? b=some o:=λb o e n1 n2=>fl.1 b o (xp _ e λz=>(cR.mp z).elim n1 n2);have slot:∀b o,g.get? b=some o->b∈frs X.stack->∃sl,s.heap.get? b=some {o with slots:=sl}:=λb o e hb=>by
  obtain⟨_,o',e',hn⟩:=fr b hb;rw[e]at e';cases e';exact us b o e hn
 have sV:∀b o,s1.heap.get? b=some o->b∉hold:=λb o e z=>by rw[(hh b z).2]at e;cases e
 have UB:∀b o,s1.heap.get? b=some o->b≠a:=λb o e z=>by rw[z,na.2]at e;cases e
 have un:Un (frs X.stack) [] H1 H s1.heap s.heap:=by
  refine⟨λb o e n hf hx=>?_,λb o e n hf hx=>?_,u.free,λb o e hx=>?_,u.tups,u.gi,u.hX⟩
  ·exact keep b o (u.keep b o e n hf hx) (sV b o e) hf
  ·obtain⟨sl,e1⟩:=u.slot b o e n hf hx;obtain⟨sl',e2⟩:=slot b _ e1 hf;exact⟨sl',e2⟩
  ·obtain⟨o',e1⟩:=u.there b o e hx;by_cases hb:b∈frs X.stack
   ·obtain⟨sl,e2⟩:=slot b _ e1 hb;exact⟨_,e2⟩
   ·exact⟨_,keep b _ e1 (sV b o e) hb⟩
 have hok:b9 X.prog X.w H s.heap:=by
  intro b o e;refine(ok b o e).stay (λc u hc q=>?_) (λ_ q=>q) λ_ _ q=>q;have sW:H c≠Option.none:=by
   rcases hc with rfl|z
   ·rw[e];simp
   ·rw[z];simp
  exact keep c u q (λz=>sW (hh c z).1) λz=>sW (fr c z).1
 cases o with
 |none=>exact I.rM ho un hok hb λ_ z=>nomatch z
 |some q =>
  have n1:∀b o,H b=some o->b≠a:=λb o e z=>by rw[z,na.1]at e;cases e
  refine I.rM ho ⟨un.keep,un.slot,λb o e n hx=>?_,un.there,λb xs e=>?_,λb o u e=>?_,λb ps e=>?_⟩ (λb o e=>?_) hb λ_ z=>nomatch z
  ·show upd H a q b=Option.none;rw[bf (UB b o e)];exact un.free b o e n hx
  ·show upd H a q b=_;rw[bf (n1 b _ (un.tups b xs e))];exact un.tups b xs e
  ·show upd H a q b=_;rw[bf (n1 b _ (un.gi b o u e))];exact un.gi b o u e
  ·obtain⟨more,e1⟩:=un.hX b ps e;refine⟨more,?_⟩;show upd H a q b=_;rw[bf (n1 b _ e1)];exact e1
  ·have e:upd H a q b=some o:=e;by_cases hb:b=a
   ·subst hb;rw[dm]at e;cases e;exact hO _ rfl
   ·rw[bf hb]at e;refine(hok b o e).stay (λc u hc q=>q) (λc z=>?_) λc xs z=>?_
    ·show upd H a q c=_;rw[bf (n1 c _ z)];exact z
    ·show upd H a q c=_;rw[bf (n1 c _ z)];exact z
theorem gN.inv(h:gN X pins τ H a C s):Inv X pins τ H s:=h.un none λ_ z=>nomatch z
theorem gN.lands{M:Model}{A:Around}{E:Value->Shared->Prop}{Q:Unit->Shared->Prop}(h:gN X pins τ H a C s)(k:∀s',gN X pins τ H a C s'->Q () s'):wpAny M A (setFlight (.ref a) none) Q E s:=show _ by
 obtain⟨s1,H1,g,hold,a0,I,u,ok,hh,na,fl,us,ho,hb⟩:=h.ex;exact lands_againW fl λh' vV us'=>k _ ⟨s1,H1,g,hold,a0,I,u,ok,hh,na,vV,us.trans us',ho,hb⟩
theorem UC{E:XK}{e:Value}{s':Shared}{M:Model}{Ex:Value->Shared->Prop}{Q:Unit->Shared->Prop}(hst:X.stack=X.env::X.outer)(hf:X.env.frame=some X.env.locals)(I:Inv X pins τ H1 s1)(cx:cc X.prog X.w X.stack H1 s1 E e s')
 (k:∀a C H s5,e=.ref a->E (.ref C) (some a) H->gN X pins τ H a C s5->Q () s5) :
 wpAny M X.A (noteFrame e X.env) (λ_ s2=>wpAny M X.A (setFlight e none) Q Ex s2) Ex s':=show _ by
 obtain⟨a,C,T,H',he,hos,hb,u,hok,nE,ha,hT,na,nT,z⟩:=cx;subst he;have I':=I.rM hos u hok hb λ_ z=>nomatch z;have all:=I'.stack;obtain⟨oe,vs,a0,e1,e2,e3,e4,e5⟩:=nE.exc;obtain⟨oT,ts,t1,t2,t3⟩:=nE.tb;have hl:∀env∈X.stack,∀b,env.frame=some b->b∈[a,T]++frs X.stack:=λenv he b hb=>fG _ (rj.mpr ⟨env,he,hb⟩);have fl:DJ (jX s'.heap ([a,T]++frs X.stack)) X.stack a (.ref C) a0 s'.heap:=⟨λb o q=>rg _ q,ug _ (by simp),xM all hl,
  oe,vs,T,oT,ts,e1,⟨e2,e4⟩,e3,e5,ug _ (by simp),nE.ne,t1,t2,t3⟩
 have vV:=fl;rw[hst]at vV;refine wpAny_looks_onW (by rw[I.ok.frames,hst]) hf vV λh4 held UD=>?_;refine wpAny_landsW held λh5 sX zC=>?_;rw[<-hst]at sX;refine k a C H' _ rfl z ⟨s1,H1,s'.heap,[a,T],a0,I,u,hok,λb hb=>?_,⟨ha,na⟩,sX,UD.trans zC,hos,hb⟩;rcases bF.mp hb with rfl|hb
 ·exact⟨ha,na⟩
 ·rcases bF.mp hb with rfl|hb
  ·exact⟨hT,nT⟩
  ·cases hb
theorem UE{args:List Value}{s3:Shared}{M:Model}{Ex:Value->Shared->Prop}{Q:Unit->Shared->Prop}(hst:X.stack=X.env::X.outer)(hf:X.env.frame=some X.env.locals)(I:Inv X pins τ H1 s1)(hx:DG s1.heap s3.heap a (.ref C) args)
 (ho:s3.os=s1.os) (hg:s3.gens=s1.gens) (k:∀s5,gN X pins τ H1 a C s5->Q () s5) :
 wpAny M X.A (noteFrame (.ref a) X.env) (λ_ s2=>wpAny M X.A (setFlight (.ref a) none) Q Ex s2) Ex s3:=show _ by
 obtain⟨t,he,htn,ht⟩:=hx.there;have all:=I.stack;have hl:∀env∈X.stack,∀b,env.frame=some b->b∈[]++frs X.stack:=λenv he b hb=>fG _ (rj.mpr ⟨env,he,hb⟩);have ff:=xM (as:=[]++frs X.stack) all hl;have fresh:∀b,s1.heap.get? b=none->(jX s1.heap ([]++frs X.stack)).get? b=none:=λb hb=>by
  cases q:(jX s1.heap ([]++frs X.stack)).get? b with
  |none=>rfl
  |some o=>have:=rg _ q;rw[hb]at this;cases this
 have UG:=ff;rw[hst]at UG;unfold noteFrame;simp only[hf];refine ai (c9 he rfl (x:=.none) rfl ?_);rw[if_neg (by decide)];refine wpAny_entryW (base:=jX s1.heap ([]++frs (X.env::X.outer))) (outer:=X.outer) (by rw[I.ok.frames,hst]) ?_ hf he (λb o hb=>?_) ?_ rfl (by simp) (a0:=.ref t) rfl λh4 ⟨n1,n2,n3,n4⟩=>?_
 ·rw[<-hst];exact ff.of_keeps λb o hb _=>⟨o,hx.keeps b o hb,rfl⟩
 ·rw[<-hst]at hb;exact hx.keeps b o (rg _ hb)
 ·rw[<-hst];exact fresh a hx.new
 ·refine wpAny_landsW (base:=jX s1.heap ([]++frs (X.env::X.outer))) (l:=X.env::X.outer) (L:=X.env.locals) (cls:=.ref C) (a0:=.ref t) ⟨n1,by rw[<-hst];exact fresh a hx.new,n2,n3⟩ λh5 sX zC=>?_;rw[<-hst]at sX;have hbare:AllBare s3.gens:=by rw[hg];exact I.bare
  have hno:∀b∈([]:List Addr),H1 b=Option.none/\s1.heap.get? b=Option.none:=λb hb=>absurd hb cN;exact k _ ⟨s1,H1,s1.heap,[],.ref t,I,Un.refl,I.hok,hno,⟨vP I.hok hx.new,hx.new⟩,sX,((Nh hx.keeps).trans n4).trans zC,ho,hbare⟩
end
theorem UH{K:ao}{M:Model}{A:Around}{E:Value->Shared->Prop}{s:Shared}{a C Dc:Addr}{o:Obj}{b:Bool}{Q:Bool->Shared->Prop}(X:K.In s.heap)(h1:s.heap.get? a=some o)(h2:o.cls=.ref C)(hk:iD K (.ref C) (.ref Dc)=some b)
 (hb:iD K (.ref Dc) (.type "BaseException")=some true) (q:Q b s):wpAny M A (excMatches (.ref a) (.ref Dc)) Q E s:=show _ by
 obtain⟨t1,t2,t3⟩:=Nj (M:=M) X hk;obtain⟨_,_,t4⟩:=Nj (M:=M) X hb;have LI:DL M s.heap (isInstance (.ref Dc) (.type "tuple")) false:=t1.andThen (aiN tc_notTuple);have LE:DL M s.heap (isExcClass (.ref Dc)) true:=t2.andThen (by simpa using t4);have LT:DL M s.heap (typeOf (.ref a)) (.ref C):=h2▸(aiO h1).andThen .now;unfold excMatches;refine ai (LI.here ?_);rw[if_neg (by decide)];refine ai (aE ?_);dsimp only;rw[ur];refine ai (ai (ai (LE.here ?_)));rw[if_neg (by decide)];refine aE ?_;dsimp only;rw[xN];refine aE (ai (LT.here ?_));rw[ur];refine ai (ai (ai (t3.here ?_)));cases b
 ·rw[if_neg (by decide)];refine aE ?_;dsimp only;rw[xN];exact aE (aE q)
 ·rw[if_pos rfl];exact aE (aE (aE q))
section
variable{X:Cx}{W3:bL}{pins:List (Addr×Obj)}{τ:L2.St}{H:Hp}{s:Shared}
def vW(X:Cx)(hs:List ExceptHandler)(r:gJ->bL):Prop:=∀(z:Zt) (pins:List (Addr×Obj)) (s:Shared) (τ:L2.St) (σ:aL) (H:Hp) (S:af) (D:Ends) (D3:gJ) (a C:Addr),gN X pins τ H a C s->SR X.K H σ τ->Rl X.K z S H->CD X.K z H D3 D->r D3 σ C a S ->
 wpAny (model X.prog X.w) X.A (handleBy (.ref a) X.env hs) (SP X pins D) X.xe s
theorem UI:vW X [] (λ_ _ _ _ _=>False):=λ_ _ _ _ _ _ _ _ _ _ _ _ _ _ _ h=>h.elim
def Hr(K:ao)(Dc:Addr)(t:b6)(r:gJ->bL):gJ->bL:=λD3 σ C a S=>∃b,iD K (.ref C) (.ref Dc)=some b/\if b=true then t D3 σ S else r D3 σ C a S
variable{x n:Str}{Dc:Addr}{i:Nat}{np pos:Pos}{b0:Stmt}{suite:List Stmt}{rest:List ExceptHandler}{t:b6}{r:gJ->bL}
theorem UJ(hm:X.mg x=some (.ref Dc))(hb:iD X.K (.ref Dc) (.type "BaseException")=some true)(hg:Gl X x)
 (ht:∀v,da (X.caught v) c_ (b0::suite) t) (hr:vW X rest r) (hd:(x==("__debug__":Str))=false:=by decide):vW X (.ExceptHandler (some (.Name x np)) none (b0::suite) pos::rest) (Hr X.K Dc t r):=show _ by
 intro z pins s τ σ H S D D3 a C iU hs l cd h;obtain⟨b,hk,h⟩:=h;have I:=iU.inv;obtain⟨o,vs,h1,h2,h3⟩:=iU.exc;refine wpAny_handleBy_cons (codeAny_handlers_test (rN (X:=X.caught (.ref a)) (Hq I) hg hm (UH I.cX h1 h2 hk hb ?_) hd)) (by intro q;cases q);cases b with
 |false=>exact hr z pins s τ σ H S D D3 a C iU hs l cd h
 |true =>
  refine codeAny_handlers_suite (iU.lands λs6 h6=>?_);refine eZ (ht (.ref a) (ZX.no _ z) pins s6 _ _ D (Hq h6.inv) ⟨_,_,_,hs,l,h,cd⟩) (λf s8 q=>?_) λ_ _ z=>z.elim;exact Uz I.ok q
def Hs(tb:bL->b6)(r:gJ->bL):b6:=λD3 σ S=>tb (r D3) D3 σ S
theorem Ht{K:ao}{Z:Zt}{S S':af}{H H':Hp}{D3:gJ}{D:Ends}(l:Rl K Z S H)(hc:CD K Z H D3 D)(l':Rl K (Z.at H) S' H'):CD K (Z.at H) H' D3 D:=show _ by
 have k0:Kp Z H H':=l'.old.dR λ_ z=>z;have out:∀{S2:af} {H2:Hp},Kp (Z.at H) H' H2->Rl K (Z.at H) S2 H2->Kp Z H H2/\Rl K Z S2 H2:=λk l2=>⟨k0.trans (k.dR λ_ z=>z),l2.out l (l'.old.trans k)⟩;exact⟨λσ' S2 bz H2 k s2 l2 q=>hc.nx _ _ _ _ (out k l2).1 s2 (out k l2).2 q,λσ' S2 bz H2 k s2 l2 q=>hc.bk _ _ _ _ (out k l2).1 s2 (out k l2).2 q,λσ' S2 bz H2 k s2 l2 q=>hc.ct _ _ _ _ (out k l2).1 s2 (out k l2).2 q,
  λd S2 v H2 k r l2 q=>hc.rt _ _ _ _ (out k l2).1 r (out k l2).2 q⟩
theorem UK{body:List Stmt}{h0:ExceptHandler}{hs:List ExceptHandler}{tb:bL->b6}(hst:X.stack=X.env::X.outer)(hf:X.env.frame=some X.env.locals)
 (hb:∀xe pn (W:bL),da (X.tried xe pn) W body (tb W)) (hh:vW X (h0::hs) r):eC X W3 (.Try body (h0::hs) [] [] pos) (Hs tb r):=show _ by
 rintro Z pins s τ H D I ⟨D3,σ,S,UL,l,ht,hc⟩;refine wpAny_Try_except ?_;have main:∀bz a C H' s5 σ' S',gN X pins bz H' a C s5->SR X.K H' σ' bz->Rl X.K (Z.z.at H) S' H'->r D3 σ' C a S'->wpAny (model X.prog X.w) X.A (handleBy (.ref a) X.env (h0::hs)) (SP X pins D) X.xe s5 :=
  λbz a C H' s5 σ' S' iU sr l' w=>hh (Z.z.at H) pins s5 bz σ' H' S' D D3 a C iU sr l' (Ht l hc l') w
 let Hu:Value->Shared->Prop:=λe s1=>wpAny (model X.prog X.w) X.A (noteFrame e X.env) (λ_ s2=>wpAny (model X.prog X.w) X.A (setFlight e none) (λ_ s3=>wpAny (model X.prog X.w) X.A (handleBy e X.env (h0::hs)) (SP X pins D) X.xe s3) X.xe s2) X.xe s1
 let zx:ZX (X.tried Hu (X.pn++pins)) (r D3):={
  z:=Z.z.at H
  E:=λτ cv oa H'=>∃C a σ S,cv=.ref C/\oa=some a/\SR X.K H' σ τ/\Rl X.K (Z.z.at H) S H'/\r D3 σ C a S
  pass:=λbz hZ H1 s1 e s' I1 cx=>UC hst hf (pG I.ok I1) cx λa C H' s5 he hE iU=>by
   subst he;obtain⟨C',a',σ',S',e1,e2,sr,l',w⟩:=hE;cases e1;cases e2;exact main bz a C H' s5 σ' S' iU sr l' w
  rz:=λbz hZ H1 s1 s3 a C args I1 hx ho hg hE=>UE hst hf (pG I.ok I1) hx ho hg λs5 iU=>by
   obtain⟨C',a',σ',S',e1,e2,sr,l',w⟩:=hE;cases e1;cases e2;exact main bz a C H1 s5 σ' S' iU sr l' w
  ce:=λσ τ C a S H' sr l' _ w=>⟨C,a,σ,S,rfl,rfl,sr,l',w⟩}
 refine eZ (hb Hu (X.pn++pins) (r D3) zx [] s τ H D (Uy I) ⟨D3,σ,S,UL,l.into,ht,Ht l hc l.into⟩) (λf s1 q=>?_) λ_ _ z=>z;have q:=UA I.ok q;cases f with
 |next=>exact uh q
 |brk=>exact q
 |cont=>exact q
 |ret u=>exact q
end
section
variable{σ:aL}{S:af}{n b c:aL->af->Prop}{rt:K3}{K:PySem.W.Frag}{C Dc a:Addr}{i:Nat}{t:b6}{r:gJ->bL}
theorem UM{tb:bL->b6}(h:tb (r ⟨n,rt,b,c⟩) ⟨n,rt,b,c⟩ σ S):Hs tb r ⟨n,rt,b,c⟩ σ S:=h
theorem zD(hk:iD K (.ref C) (.ref Dc)=some true)(h:t ⟨n,rt,b,c⟩ σ S):Hr K Dc t r ⟨n,rt,b,c⟩ σ C a S:=⟨true,hk,by rw[if_pos rfl];exact h⟩
end
end E3
namespace E3
section
open PySem PySem.Spec PyProof.Rows L2 EE PySem.W Builtin Builtin.ObjectAttr Builtin.Getset_descriptor
end
open PySem PySem.Spec PyProof.Rows L2 EE
def vY(K:ao)(C:Addr):Bool:=rB K C vT "ValueError.__new__"&&cM K (.ref C) "__getattribute__"==some (some (.builtin "BaseException.__getattribute__"))&&cM K (.ref C) "__getattr__"==some none &&
 cM K (.ref C) "__class__"==some (some (.builtin "object.__class__"))&&MG K (.builtin "object.__class__") "__get__"==some (some (.builtin "getset_descriptor.__get__"))&&MH K (.builtin "object.__class__")==some true &&
 C6 K C (.type "object")==some true&&C6 K C (.type "BaseException")==some true&&iD K (.ref C) (.type "BaseException")==some true&&iD K (.ref C) (.type "ValueError")==some true&&(PySem.W.clsIn K C).isSome
inductive Rf where
 |err|text|twice|such|count|apart|many|way
 deriving DecidableEq
def Rf.nm:Rf->Str
 | .err=>"ErrandError" | .text=>"BadText" | .twice=>"Twice" | .such=>"NoSuch" | .count=>"WrongCount" | .apart=>"Apart" | .many=>"TooMany" | .way=>"NoWay"
def Rf.sub(i j:Rf):Bool:=decide (i=j)||decide (j=.err)
structure kF(K:ao)(mg:Str->Option Value)(es:List Rf)(adr:Rf->Addr):Prop where
 bound:∀i∈es,mg i.nm=some (.ref (adr i))
 one:∀i∈es,vY K (adr i)=true
 two:∀i∈es,∀j∈es,iD K (.ref (adr i)) (.ref (adr j))=some (i.sub j)
section
variable{K:PySem.W.Frag}{mg:Str->Option Value}{es:List Rf}{adr:Rf->Addr}(R:kF K mg es adr){i j:Rf}
include R
theorem kF.exc(hi:i∈es):rB K (adr i) vT "ValueError.__new__"=true:=by
 have e:=R.one i hi;unfold vY at e;simp only[f9]at e;exact e.1.1.1.1.1.1.1.1.1.1
theorem kF.base(hi:i∈es):iD K (.ref (adr i)) (.type "BaseException")=some true:=by
 have e:=R.one i hi;unfold vY at e;simp only[f9,beq_iff_eq]at e;exact e.1.1.2
end
def zE(K:ao)(l:List (Rf×Addr)):Bool:=l.all λp=>vY K p.2&&l.all λq=>iD K (.ref p.2) (.ref q.2)==some (p.1.sub q.1)
def sY(l:List (Rf×Addr))(i:Rf):Addr:=(l.lookup i).getD 0
theorem lookup_mem{i:Rf}:∀{l:List (Rf×Addr)},i∈l.map (·.1)->(i,sY l i)∈l
 |(j,b)::l,h=>by
  unfold sY;by_cases e:i=j
  ·subst e;simp[g6]
  ·have:(i==j)=false:=by simpa using e
   rw[g6,this];rcases bF.mp h with z|z
   ·exact absurd z e
   ·exact .tail _ (lookup_mem (l:=l) z)
theorem UN{K:ao}{mg:Str->Option Value}{l:List (Rf×Addr)}(h:zE K l=true)(hm:∀i∈l.map (·.1),mg i.nm=some (.ref (sY l i))):kF K mg (l.map (·.1)) (sY l):=show _ by
 unfold zE at h;simp only[List.all_eq_true,f9,beq_iff_eq]at h;exact⟨hm,λi hi=>(h _ (lookup_mem hi)).1,λi hi j hj=>(h _ (lookup_mem hi)).2 _ (lookup_mem hj)⟩
section
variable{P:Program}{w:World}{K:PySem.W.Frag}{mg:Str->Option Value}{base:Heap}{x:Str}{st:Stmt}{N ps:List Str}{k:Nat}
theorem aq.zF{sp:aK}(C:aq P w K mg base k x ps sp):aq P w K mg base k x ps (λds S Q E=>sp ds S (λd S1=>∃S2,Sub S2 S1/\Q d S2) λC a S1=>∃S2,Sub S2 S1/\E C a S2):=show _ by
 obtain⟨f,fd,F0,r⟩:=C.ex;refine⟨f,fd,F0.imp λvs H Q E ⟨Z,ds,S,Q3,E3,h1,l,h3,cq,ce⟩=>⟨Z,ds,S,_,_,h1,l,h3,?_,?_⟩,r⟩
 ·rintro d S1 v H' k1 r1 l1 ⟨S2,hsub,q⟩;exact cq d S2 v H' k1 r1 (l1.sub hsub) q
 ·rintro C a S1 H' k1 l1 ha ⟨S2,hsub,q⟩;exact ce C a S2 H' k1 (l1.sub hsub) ha q
def vZ(A:List D->af->(D->Addr->O->Prop)->(Addr->Prop)->Prop):aK:=λds S Q W=>A ds S (λd a o=>Q d (up S a o)) λC=>∀a,W C a S
theorem _root_.EE.aA.vZ{A:List D->af->(D->Addr->O->Prop)->(Addr->Prop)->Prop}(h:aA K mg x st ps)(S:aW N ps (ak st))(len:∀ds S q qx,A ds S q qx->ds.length=ps.length)
 (hbody:∀(f:Addr) (cdv:Value) (Ar:Around) (outer:List Env) (s:Shared) (H:Hp) (E:XK) (ds:List D) (S:af) (q:D->Addr->O->Prop) (qx:Addr->Prop),bR k (Ar.deeper (envOfC x (ak st) s.heap.objs.size f cdv))->A ds S q qx ->
  ∃t,da (cY (cc P w) P w K mg base N x (ak st) f cdv Ar outer s H E) (λ_ C _ S'=>Sub S S'/\qx C) (aR st) t /\
   t {nx:=λ_ S'=>∃a o,Sub (up S a o) S'/\q .non a o,rt:=λd S'=>∃a o,Sub (up S a o) S'/\q d a o} (dU N ds) S):aq P w K mg base (k+1) x ps (vZ A):=show _ by
 have C:aq P w K mg base (k+1) x ps (λds S Q E=>∃q qx,A ds S q qx/\(∀d S',(∃a o,Sub (up S a o) S'/\q d a o)->Q d S')/\∀C a S',Sub S S'/\qx C->E C a S'):=by
  refine h.vQ S (λvs H Q E fo=>by obtain⟨q,qx,z,_⟩:=fo;exact len _ _ _ _ z) λf cdv Ar outer s H E ds S3 Q E3 hr ⟨q,qx,z,hq,hx⟩=>?_;obtain⟨t,h1,h2⟩:=hbody f cdv Ar outer s H E ds S3 _ _ hr z;exact⟨t,λd S'=>∃a o,Sub (up S3 a o) S'/\q d a o,λC _ S'=>Sub S3 S'/\qx C,h1,h2,hq,hx⟩
 exact C.zF.imp λds S Q E z=>⟨_,_,z,λd S1 nA=>by obtain⟨a,o,hs,hq⟩:=nA;exact⟨_,hs,hq⟩,λC a S1 hx=>⟨S,hx.1,hx.2 a⟩⟩
end
def _root_.EE.ay.d:ay->D
 | .aX=>.non
 | .pair l r=>.tup [l.d,r.d]
theorem UO:typeLookup (.type "list") "keys"=pure none:=by rw[mP,mQ];kernel_rfl
theorem Hv:typeLookup (.type "list") "__getattr__"=pure none:=by rw[mP,mQ];kernel_rfl
section
variable{prog:Program}{w:World}{A:Around}{E:Value->Shared->Prop}{a:Addr}{its:Array Value}{n:Nat}
theorem UP(a:Addr)(u:Tok)(its:Array Value)(n:Nat):Meets (Builtin.«object.__getattribute__» ⟨[.ref a,.str "keys" u],[]⟩) (λA R s=>s.heap.get? a=some {cls:=.type "list",data:=.seq its n}/\raisesAttr (.ref a) "keys" A R s) :=
 Meets.of_wp λprog w A R s hs=>by
  obtain⟨hx,hs⟩:=hs;obtain⟨hp,g,d,tk,os⟩:=s;have hT:(⟨hp,g,d,tk,os⟩:Shared).TypeIs (.ref a) "list":=⟨_,hx,rfl⟩;have f4:=UO;have f5:=Hv;unfold Builtin.«object.__getattribute__»
  repeat (any_goals (first|assumption|wp_step))
  exact wpAny_raiseAttrError hs.1 hs.2 (attrMsg_fits (by cbv) (by decide))
theorem UQ{s:Shared}{Q:Option Value->Shared->Prop}(hh:A.handled=none)(hx:s.heap.get? a=some {cls:=.type "list",data:=.seq its n})
 (h:∀h' tk,(∀b ob,s.heap.get? b=some ob->h'.get? b=some ob)->Q none {s with heap:=h',toks:=tk}):wpAny (model prog w) A (getAttr? (.ref a) "keys") Q E s:=show _ by
 obtain⟨hp,g,d,tk,os⟩:=s;have hT:∀(tk:Nat),(⟨hp,g,d,tk,os⟩:Shared).TypeIs (.ref a) "list":=λ_=>⟨_,hx,rfl⟩;have f1:=sub_AttributeError;have f3:=DM.lookup;have f4:=DM.bind (.ref a);have f5:=Hv;unfold getAttr? getAttrBy?
 repeat (any_goals (first|assumption|((with_reducible show wpAny _ _ (call (Value.builtin "list.__getattribute__") _ _) _ _ _);refine rq DM (hT _) F.entry_list_ga (F.args_list_getattribute_2 _ _) (UP a _ its n) ⟨hx,hh,λh' tk' e hx=>?_⟩)|wp_step))
 obtain⟨t',u',he⟩:=hx.there;show wpAny _ _ (getattributeRaised _ _ _ _ _ _ _) _ _ _;unfold getattributeRaised
 repeat (any_goals (first|assumption|wp_step))
 exact h _ _ hx.keeps
end
section
variable{prog:Program}{w:World}{A:Around}{E:Value->Shared->Prop}
theorem v5:plainId "dict.update.loop"=true:=by cbv
theorem Hw:entryFor table "dict.update.loop"=some Builtin.«dict.update.loop»:=entryFor_of_fast (by kernel_rfl)
def pH{κ:Type}[DecidableEq κ](kvs:List (κ×Value)):List (κ×Value)->List (κ×Value)
 |[]=>kvs
 |(k,v)::r=>pH (stored kvs k v) r
inductive fZ{κ:Type}[DecidableEq κ](knd:qY prog w κ)(h:Heap):List Value->List (κ×Value)->Prop where
 |nil:fZ knd h [] []
 |cons {t:Addr} {key v:Value} {k:κ} {r:List Value} {ps:List (κ×Value)}:IsTup h t #[key,v]->knd.is k key=true->fZ knd h r ps->fZ knd h (.ref t::r) ((k,v)::ps)
theorem fZ.keep{κ:Type}[DecidableEq κ]{knd:qY prog w κ}{h h':Heap}{d:Addr}{o:Obj}(hd:h.get? d=some o)(hc:o.cls=.type "dict")(hs:∀b ob,b≠d->h.get? b=some ob->h'.get? b=some ob):∀{r:List Value} {ps:List (κ×Value)},fZ knd h r ps->fZ knd h' r ps
 |_,_,.nil=>.nil
 |_,_,.cons ⟨ob,e,c,q⟩ hk t=>.cons ⟨ob,hs _ _ (by rintro rfl;rw[hd]at e;cases e;rw[hc]at c;exact absurd c (by decide)) e,c,q⟩ hk (fZ.keep hd hc hs t)
theorem fZ.kept{κ:Type}[DecidableEq κ]{knd:qY prog w κ}{h h':Heap}(hs:∀b ob,h.get? b=some ob->h'.get? b=some ob):∀{r:List Value} {ps:List (κ×Value)},fZ knd h r ps->fZ knd h' r ps
 |_,_,.nil=>.nil
 |_,_,.cons ⟨ob,e,c,q⟩ hk t=>.cons ⟨ob,hs _ _ e,c,q⟩ hk (fZ.kept hs t)
theorem UR{κ:Type}[DecidableEq κ]{knd:qY prog w κ}{d it l:Addr}{R:Result->Shared->Prop}(hh:A.handled=none)(v7:d≠it)(hdl:d≠l)(US:it≠l) :
 ∀(r:List Value) (ps:List (κ×Value)) (i:Nat) (s:Shared) (kvs:List (κ×Value)) (its:Array Value),its.toList.drop i=r->fZ knd s.heap r ps->s.heap.IsListIter it l i->s.heap.IsList l its->s.heap.DictOf knd d kvs->kvs.length+ps.length<=sizeLine ->
 (∀h' tk,h'.DictOf knd d (pH kvs ps)->(∀b ob,b≠d->b≠it->s.heap.get? b=some ob->h'.get? b=some ob)->R (.ok (.ret .none)) {s with heap:=h',toks:=tk}) ->
 codeAny (model prog w) A (.builtin "dict.update.loop" ⟨[.ref d,.ref it,rawInt i,.none],[]⟩) R s:=show _ by
 intro r
 induction r with
 |nil =>
  intro ps i s kvs its hr hp hit hl hd hz hR;cases hp;refine DN Hw ?_;rw[DO v5 _];show wpAny _ A.in1 (pyNext (.ref it) >>= _) _ _ s;have hlen:its[i]?=none:=by
   refine Array.getElem?_eq_none ?_;have:=congrArg j0 hr;simp at this;lia
  refine ai (ME hh hit hl hlen λh' eb=>?_);show wpAny _ _ (Builtin.Dict.addKeywords d [] >>= _) _ _ _;refine ai (aE (aE ?_));exact hR h' s.toks (hd.extBut eb v7) λb ob _ hb e=>eb b ob hb e
 |cons x r ih =>
  intro ps i s kvs its hr hp hit hl hd hz hR;cases hp with
  |@cons t key v k _ ps ht hk hp =>
  refine DN Hw ?_;rw[DO v5 _];show wpAny _ A.in1 (pyNext (.ref it) >>= _) _ _ s;have hx:its[i]?=some (.ref t):=by
   have:(its.toList.drop i)[0]?=some (.ref t):=by rw[hr];rfl
   simpa using this
  refine ai (MD hit hl hx λh1 st1 pI=>?_);have ht1:IsTup h1 t #[key,v]:=by
   obtain⟨ob,e,c,q⟩:=ht;refine⟨ob,(pI.2 t ?_).trans e,c,q⟩;rintro rfl;obtain⟨o2,e2,c2,_⟩:=hit;rw[e]at e2;cases e2;rw[c]at c2;exact absurd c2 (by decide)
  have hT1:(⟨h1,s.gens,s.drawn,s.toks,s.os⟩:Shared).TypeIs (.ref t) "tuple":=ht1.typeIs;obtain⟨o1,e1,c1,n1,q1⟩:=id ht1;have hd1:h1.DictOf knd d kvs:=hd.sameBut pI v7;refine ai (mI ?_);refine ai ?_;refine wpAny_tryCatch ?_;unfold Builtin.Dict.pairItems;refine ai (oN hT1 ?_);rw[if_pos (by decide)];refine ai (je (s:=⟨h1,s.gens,s.drawn,s.toks,s.os⟩) e1 q1 (aE ?_));show wpAny _ _ (holding [key,v] (dictSet d key v)) _ _ _;refine mI (wpAny_dictSet_pairs (s:=⟨h1,s.gens,s.drawn,s.toks,s.os⟩) hk hd1 (λh2 hd2 v8=>?_) (by have:((k,v)::ps).length=ps.length+1:=rfl;lia));have ei:(i:Int)+1=((i+1:Nat):Int):=by lia
  rw[ei];obtain⟨od,es,ep,ed,xd,_⟩:=id hd;have iU:(stored kvs k v).length<=kvs.length+1:=by
   unfold stored
   split
   ·rw[aB];lia
   ·simp
  refine aE ⟨xO v5 _,ih ps (i+1) _ (stored kvs k v) its ?_ ?_ ?_ ?_ hd2 ?_ λh' tk hd' hk'=>?_⟩
  ·have:=congrArg List.tail hr;rw[List.tail_drop]at this;exact this
  ·refine fZ.keep (h:=h1) (d:=d) ((pI.2 d v7).trans ed) xd.1 (λb ob hb e=>(v8.2 b hb).trans e) ?_;obtain⟨oi,ei,ci,di⟩:=id hit;clear ih hR hr
   induction hp with
   |nil=>exact .nil
   |@cons t' key' v' k' r' ps' ht' hk' hp' ih' =>
    refine .cons ?_ hk' (ih' (by simp at hz ⊢;lia));obtain⟨ob,e,c,q⟩:=ht';refine⟨ob,(pI.2 t' ?_).trans e,c,q⟩;rintro rfl;rw[e]at ei;cases ei;rw[c]at ci;exact absurd ci (by decide)
  ·exact st1.at λo e=>(v8.2 it (bw v7)).trans e
  ·obtain⟨o,e,c⟩:=hl;exact⟨o,(v8.2 l (bw hdl)).trans ((pI.2 l (bw US)).trans e),c⟩
  ·have:((k,v)::ps).length=ps.length+1:=rfl;lia
  ·exact hR h' tk hd' λb ob h1 h2 e=>hk' b ob h1 h2 ((v8.2 b h1).trans ((pI.2 b h2).trans e))
theorem UT:(Value.type "list" != Value.type "dict")=true:=by decide
theorem UU{κ:Type}[DecidableEq κ]{knd:qY prog w κ}{s:Shared}{l:Addr}{its:Array Value}{n:Nat}{ps:List (κ×Value)}{Q:Value->Shared->Prop}(hh:A.handled=none)
 (hl:s.heap.get? l=some {cls:=.type "list",data:=.seq its n}) (hp:fZ knd s.heap its.toList ps) (hz:ps.length<=sizeLine)
 (h:∀h' tk,h'.DictOf knd s.heap.objs.size (pH [] ps)->(∀b ob,s.heap.get? b=some ob->h'.get? b=some ob)->Q (.ref s.heap.objs.size) {s with heap:=h',toks:=tk}) :
 wpAny (model prog w) A (call (.type "dict") [.ref l]) Q E s:=show _ by
 refine callType_codes (Q₁:=λobj s₁=>obj=.ref s.heap.objs.size/\s₁={s with heap:=s.heap.push {cls:=.type "dict",data:=.dict #[]}}) F.kt_called_dict (F.kt_typeCall_dict_1 _) F.entry_dict_init (kt_code_dict_new _ ⟨rfl,rfl⟩) ?_;rintro obj s₁ ⟨rfl,rfl⟩;have hnew:(s.heap.push {cls:=.type "dict",data:=.dict #[]}).DictOf knd s.heap.objs.size []:=M5 s.heap;have hl1:(s.heap.push {cls:=.type "dict",data:=.dict #[]}).get? l=some {cls:=.type "list",data:=.seq its n}:=bx _ hl;refine⟨hnew.typeIs,F.args_dict_init_2 _ _,?_⟩;unfold Builtin.«dict.__init__»;refine ai ?_;unfold Builtin.Dict.selfAndRest;refine ai (wpAny_notOrdered_dict hnew.typeIs ?_);show wpAny _ _ (pure (s.heap.objs.size,[Value.ref l])) _ _ _;refine aE ?_;show wpAny _ _ (Nk "dict.__init__" s.heap.objs.size (.ref l) [] .none) _ _ _;unfold Nk;refine ai (oN (T:="list") ⟨_,hl1,rfl⟩ ?_);rw[if_pos UT];refine ai (UQ (by first|exact hh|(show A.handled=none;exact hh)) hl1 λh2 tk2 k2=>?_);rw[if_pos (show(none:Option Value).isNone=true from rfl)];refine ai (jV ?_);have hl2:h2.get? l=some {cls:=.type "list",data:=.seq its n}:=k2 _ _ hl1;have UW:h2.IsList l its:=⟨_,hl2,rfl,n,rfl⟩;refine ai (C2 (s:={heap:=h2,gens:=s.gens,drawn:=s.drawn,toks:=tk2,os:=s.os}) UW ?_);have hlt:s.heap.objs.size<h2.objs.size:=by
  have:=k2 s.heap.objs.size _ (c8 _ rfl);exact bE this
 have hll:l<s.heap.objs.size:=bE hl;refine aE ⟨xO v5 _,UR (A:=A.in1) (d:=s.heap.objs.size) (it:=h2.objs.size) (l:=l) (knd:=knd) (show A.in1.handled=none from hh) (cW hlt) (jZ hll) (jZ (DA hll hlt)) its.toList ps 0 _ [] its rfl ?_ ⟨{cls:=.type "list_iterator",data:=.fields #[.ref l,.int 0 0]},c8 _ rfl,rfl,rfl⟩ ?_ ?_ ?_ λh' tk hd' hk'=>?_⟩
 ·clear hl h;have kk:∀b ob,s.heap.get? b=some ob->(h2.push {cls:=.type "list_iterator",data:=.fields #[.ref l,rawInt 0]}).get? b=some ob:=λb ob e=>bx _ (k2 b ob (bx _ e));exact hp.kept kk
 ·exact⟨_,bx _ hl2,rfl,n,rfl⟩
 ·obtain⟨o,es,ep,e,r⟩:=hnew;exact⟨o,es,ep,bx _ (k2 _ _ e),r⟩
 ·simpa using hz
 ·refine⟨rfl,h h' tk hd' λb ob e=>hk' b ob ?_ ?_ (bx _ (k2 b ob (bx _ e)))⟩
  ·exact cW (bE e)
  ·exact cW (DA (bE e) hlt)
end
section
variable{X:Cx}{W3:bL}
theorem Hz:∀{more:List (Key×V)} {rs:List (Key×Value)} {kvs:List (Key×V)} {vs:List (Key×Value)},KV more rs->KV kvs vs->KV (more.foldl (λacc kv=>putK acc kv.1 kv.2) kvs) (E3.pH vs rs)
 |_,_,_,_,.nil,h=>h
 |_,_,_,_,.cons (a:=p) (b:=q) ⟨e,r⟩ t,h=>by
  obtain⟨k,v⟩:=p;obtain⟨k',v'⟩:=q;obtain rfl:k=k':=e;simp only[oP,E3.pH];exact Hz t (KV.put h k r)
theorem HA:∀(more kvs:List (Key×V)),(more.foldl (λacc kv=>putK acc kv.1 kv.2) kvs).length<=kvs.length+more.length
 |[],kvs=>by simp
 |p::r,kvs=>by
  simp only[oP,bC];have h1:=HA r (putK kvs p.1 p.2);have h2:=vi kvs p.1 p.2;lia
theorem pairs_at{pins:List (Addr×Obj)}{σ:L2.St}{H:Hp}{s:Shared}(I:Inv X pins σ H s):∀{kvs:List (Key×V)} {xs:List V} {us:List Value},Paired (λ(kv:Key×V) (x:V)=>∃t,x=.ref t/\bh X.K H t [kV kv.1,kv.2]) kvs xs->Vals xs us ->
 ∃ps,fZ (eT X.prog X.w) s.heap us ps/\KV kvs ps
 |_,_,_,.nil,.nil=>⟨[],.nil,.nil⟩
 |_,_,_,.cons (a:=kv) ⟨t,e,ht⟩ q,.cons r rr=>by
  subst e;cases r;obtain⟨ps,h1,h2⟩:=pairs_at I q rr;obtain⟨its,rv,p,_⟩:=I.tuple ht;cases rv with
  |cons ra rv =>
   cases rv with
   |cons rb rv =>
    cases rv;exact⟨(kv.1,_)::ps,.cons p (o8 ra) h1,.cons ⟨rfl,rb⟩ h2⟩
theorem UX(hc:X.calm=true:=by rfl):gE X (.type "dict") (λxs H Q=>∃l ys kvs,xs=[.ref l]/\H l=some (.lst ys)/\Paired (λ(kv:Key×V) (x:V)=>∃t,x=.ref t/\bh X.K H t [kV kv.1,kv.2]) kvs ys /\
 ∀p,H p=none->Q (.ref p) (upd H p (.dK (kvs.foldl (λacc kv=>putK acc kv.1 kv.2) [])))):=show _ by
 intro pins s σ H xs us Q I r h;obtain⟨l,ys,kvs,rfl,hH,hp,q⟩:=h;obtain⟨u,rfl,ru⟩:=vals1 r;cases ru;obtain⟨z,its,n,rv,hl,e⟩:=I.lV hH;obtain⟨ps,h1,h2⟩:=pairs_at I hp rv;have hl1:kvs.length=ys.length:=Paired.length hp;have hl2:kvs.length=ps.length:=KV.length h2;refine UU (knd:=eT X.prog X.w) (I.ok.hd hc) e (by simpa using h1) (by lia) λh' tk hd' hk'=>?_;have fr:=I.fresh;refine⟨.ref s.heap.objs.size,_,I.laid (t':=tk) hk' (aV _) ?_,rfl,q _ fr⟩;have hkv:KV (kvs.foldl (λacc kv=>putK acc kv.1 kv.2) []) (pH [] ps):=Hz h2 .nil;have hle:=HA kvs [];exact⟨by simp at hle;lia,beq_eq_false_iff_ne.mpr (jZ I.big),_,hkv,hd'⟩
def HB:List D->af->K3->Prop:=λxs S Q=>∃(a:Addr) (kvs:List (Key×D)),xs=[.ref a]/\S a=some (.lst (kvs.map λkv:Key×D=>D.tup [kD kv.1,kv.2]))/\∀p,S p=none->Q (.ref p) (up S p (.bp (kvs.foldl (λacc kv=>putD acc kv.1 kv.2) [])))
theorem UY{K:ao}{H:Hp}:∀{kvs:List (Key×D)} {ys:List V},aT K H (kvs.map λkv:Key×D=>D.tup [kD kv.1,kv.2]) ys->∃ws:List (Key×V),KR K H kvs ws/\Paired (λ(kv:Key×V) (x:V)=>∃t,x=.ref t/\bh K H t [kV kv.1,kv.2]) ws ys:=show _ by
 intro kvs
 induction kvs with
 |nil=>intro ys h;cases h;exact⟨[],.nil,.nil⟩
 |cons kv kvs ih =>
  intro ys h;rw[bO]at h;cases h with
  |cons r q =>
   obtain⟨ws,h2,h3⟩:=ih q;cases r with
   |tup h1 h4 =>
    cases h4 with
    |cons ra h4 =>
     cases h4 with
     |cons rb h4 =>
      cases h4;have e:=vA ra;subst e;exact⟨(kv.1,_)::ws,.cons ⟨rfl,rb⟩ h2,.cons ⟨_,rfl,h1⟩ h3⟩
theorem KR.fold{K:ao}{H:Hp}:∀{kvs:List (Key×D)} {ws:List (Key×V)} {as:List (Key×D)} {bs:List (Key×V)},KR K H kvs ws->KR K H as bs->KR K H (kvs.foldl (λacc kv=>putD acc kv.1 kv.2) as) (ws.foldl (λacc kv=>putK acc kv.1 kv.2) bs)
 |_,_,_,_,.nil,h=>h
 |_,_,_,_,.cons (a:=p) (b:=q) ⟨e,r⟩ t,h=>by
  obtain⟨k,v⟩:=p;obtain⟨k',v'⟩:=q;obtain rfl:k=k':=e;simp only[oP];exact KR.fold t (KR.put h k r)
theorem UZ{K:ao}:ic K HB (λxs H Q=>∃l ys kvs,xs=[.ref l]/\H l=some (.lst ys)/\Paired (λ(kv:Key×V) (x:V)=>∃t,x=.ref t/\bh K H t [kV kv.1,kv.2]) kvs ys /\
 ∀p,H p=none->Q (.ref p) (upd H p (.dK (kvs.foldl (λacc kv=>putK acc kv.1 kv.2) [])))):=show _ by
 intro Z ds S Q3 vs H Q r l h c;obtain⟨a,kvs,rfl,e,q⟩:=h;cases r with
 |cons r rr =>
  cases rr;cases r;obtain⟨ys,h1,h2⟩:=l.obj a _ e;obtain⟨ws,h3,h4⟩:=UY h2;refine⟨a,ys,ws,rfl,h1,h4,λp hp=>?_⟩;obtain⟨hs,hz⟩:=l.fresh hp;have k:=Kp.new (o:=HO.dK (ws.foldl (λacc kv=>putK acc kv.1 kv.2) [])) hp hz;refine c _ _ _ _ k (.ref p) (l.put (o:=.bp (kvs.foldl (λacc kv=>putD acc kv.1 kv.2) [])) k hz ⟨_,dm,?_⟩) (q p hs);have h5:KR K (upd H p (.dK (ws.foldl (λacc kv=>putK acc kv.1 kv.2) []))) kvs ws:=Paired.jq h3 λp q z=>⟨z.1,z.2.mono k⟩;exact KR.fold h5 .nil
theorem U0{i o:Expr}{td ty:TE}(hu:X.A.units+5<cLine)(hi:PE X i ty)(ho:PE X o td):PC X .NotIn i o (λσ H Q=>ty σ H λy H1=>td σ H1 λx H2=>(∃a r,x=.ref a/\fk H2 a y r/\Q (.bl (!r.isSome)) H2)∨vc X.K true y x H2 Q):=show _ by
 intro pins s σ H Q I h;refine bin hi ho I h λv u s2 y x H2 I2 ry rx q=>?_;rcases q with⟨a,r,rfl,g,q⟩|q
 ·cases rx;exact Fh hu I2 g ry λs' I'=>⟨.bl _,H2,I',rfl,q⟩
 ·exact E2 pins s2 σ H2 y x v u Q I2 ry rx q
def U1(Q:K3)(x y:D)(S:af):Prop:=(∃a kvs k,x=.ref a/\S a=some (.bp kvs)/\y=kD k/\Q (.bl (!(cm kvs k).isSome)) S)∨∃ds,x=.tup ds/\jC y=true/\ds.all jC=true/\Q (.bl (!memD y ds)) S
def aiS(ty td:aG):aG:=λσ S Q=>ty σ S λy S1=>td σ S1 λx S2=>U1 Q x y S2
section
variable{σ:aL}{S:af}{Q:K3}{te ta:aG}
theorem U2{x:D}{ds:List D}(hx:jC x=true)(hd:ds.all jC=true)(q:Q (.bl (memD x ds)) S):vH false x (.tup ds) S Q:=⟨ds,.inr rfl,hx,hd,q⟩
theorem U3{a:Addr}{kvs:List (Key×D)}(hS:S a=some (.lst (kvs.map λkv:Key×D=>D.tup [kD kv.1,kv.2])))(q:∀p,S p=none->Q (.ref p) (up S p (.bp (kvs.foldl (λacc kv=>putD acc kv.1 kv.2) [])))):HB [.ref a] S Q:=⟨a,kvs,rfl,hS,q⟩
end
theorem zG{b:Bool}{A B:Prop}(h:b=true)(q:A):if b=true then A else B:=by rw[if_pos h];exact q
theorem zI{b:Bool}{A B:Prop}(h:b=false)(q:B):if b=true then A else B:=by rw[if_neg (by rw[h];exact c7)];exact q
end
theorem fN{n:Nat}(h:n<=1000000):n<=sizeLine:=cj h (by decide)
theorem cT{n:Nat}(h:n<=1000000):n<sizeLine:=um h (by decide)
theorem zJ{α:Type}{xs:List α}{i:Int}{v:α}(h0:0<=i)(h:xs[i.toNat]?=some v):cy xs i=some v:=by
 have e:i=((i.toNat:Nat):Int):=by lia
 rw[e];exact eV h
theorem U4{α:Type}{x:α}{xs:List α}:cy (x::xs) 0=some x:=eV (j:=0) rfl
theorem U5{α:Type}{x y z:α}{xs:List α}:cy (x::y::z::xs) 2=some z:=eV (j:=2) rfl
theorem U6{n:Nat}{i:Int}{j:Nat}(h:i=(j:Int))(hj:j<n):gk n i=some j:=by
 subst h;unfold gk;rw[if_pos (by lia),if_pos (by lia)];simp
theorem HC{α:Type}{x:α}{xs:List α}:gk (x::xs).length 0=some 0:=U6 rfl (by simp)
theorem pJ{xs:List D}{p:Int}(h0:0<=p):cutD xs none (some p)=xs.take p.toNat:=by
 unfold cutD;have e:p=((p.toNat:Nat):Int):=by lia
 rw[e,HT.u9,HT.u_,xG,uq,<-e];by_cases h:p.toNat<=xs.length
 ·rw[xP h]
 ·rw[xQ (by lia),j8 (by lia),j8 (by lia)]
theorem pK{xs:List D}{p:Int}(h0:0<=p):cutD xs (some p) none=xs.drop p.toNat:=by
 unfold cutD;have e:p=((p.toNat:Nat):Int):=by lia
 rw[e,HT.u9,HT.u_,<-e];by_cases h:p.toNat<=xs.length
 ·rw[xP h,j8 (by rw[e_];lia)]
 ·rw[xQ (by lia),xR (aV _),xR (by lia)];simp
theorem v9{cs:List Nat}{p:Int}(h0:0<=p):kx cs none (some p)=cs.take p.toNat:=by
 unfold kx;have e:p=((p.toNat:Nat):Int):=by lia
 rw[e,HT.u9,HT.u_,xG,uq,<-e];by_cases h:p.toNat<=cs.length
 ·rw[xP h]
 ·rw[xQ (by lia),j8 (by lia),j8 (by lia)]
theorem HD{cs:List Nat}{p:Int}(h0:0<=p):kx cs (some p) none=cs.drop p.toNat:=by
 unfold kx;have e:p=((p.toNat:Nat):Int):=by lia
 rw[e,HT.u9,HT.u_,<-e];by_cases h:p.toNat<=cs.length
 ·rw[xP h,j8 (by rw[e_];lia)]
 ·rw[xQ (by lia),xR (aV _),xR (by lia)];simp
def ma(x:Str):Prop:=∃cs:List Nat,x=textOf cs/\1<=cs.length/\cs.length<=8/\∀c∈cs,97<=c/\c<=122
theorem U7{a b:List Nat}(h:textOf a=textOf b):a=b:=by
 have:=congrArg (λx:Str=>x.cps.toList) h;simpa[textOf]using this
theorem md(cs:List Nat):(textOf cs).cps.toList=cs:=by simp[textOf]
theorem HE:("abcdefghijklmnopqrstuvwxyz":Str)=textOf (uy 97 26):=by cbv
theorem HF:("abcdefghijkl":Str)=textOf (uy 97 12):=by cbv
theorem v_:("abcd":Str)=textOf [97,98,99,100]:=by cbv
theorem HG{n:Nat}{i:Int}(h0:0<=i)(h1:i<n):cy (uy 97 n) i=some (97+i.toNat):=by
 refine zJ h0 ?_;rw[List.getElem?_range' (by lia)];simp
def gO(cs:List Nat)(p k:Nat):List Nat:=(cs.take p++[97+k])++cs.drop p
def iV(cs:List Nat)(k:Nat):List Nat:=cs.take 4++[97,98,99,100].take (k+1)
def pL(cs:List Nat)(k:Nat):List Nat:=[97,98,99,100].drop (3-k)++cs.take 4
def wb(cs:List Nat):Prop:=∀c∈cs,97<=c/\c<=122
structure Row(n:Nat)(xs:List Str):Prop where
 len:xs.length=n
 nd:xs.Nodup
 ok:∀x∈xs,ma x
theorem zK{n:Nat}{f:Nat->List Nat}(inj:∀i j,i<n->j<n->f i=f j->i=j)(ok:∀i,i<n->ma (textOf (f i))):Row n ((ba n).map λk=>textOf (f k)):=show _ by
 refine⟨by simp,?_,λx hx=>?_⟩
 ·rw[Nl,List.pairwise_map];have:=List.nodup_range (n:=n);rw[Nl]at this;refine aiP (λ{a b} ha hb hab e=>hab ?_) this;exact inj a b (jY.mp ha) (jY.mp hb) (U7 e)
 ·obtain⟨k,hk,rfl⟩:=bM.mp hx;exact ok k (jY.mp hk)
theorem U8{n p:Nat}{cs:List Nat}(hl:wb cs)(h7:cs.length<=7)(hn:n<=12):Row n ((ba n).map λk=>textOf (gO cs p k)):=show _ by
 refine zK (λi j hi hj e=>?_) λi hi=>⟨_,rfl,?_,?_,?_⟩
 ·unfold gO at e;have e2:=List.append_inj_left' e rfl;have e3:=List.append_inj_right e2 rfl;simp at e3;exact e3
 ·simp[gO];lia
 ·simp only[gO,aU,dN,bC,cE,e_];lia
 ·intro c hc;simp only[gO,cR,dO]at hc;rcases hc with(hc|rfl)|hc
  ·exact hl c (uz hc)
  ·lia
  ·exact hl c (DP hc)
theorem row2{n:Nat}{cs:List Nat}(hl:wb cs)(hn:n<=4):Row n ((ba n).map λk=>textOf (iV cs k)):=show _ by
 refine zK (λi j hi hj e=>?_) λi hi=>⟨_,rfl,?_,?_,?_⟩
 ·have:=congrArg j0 e;simp only[iV,aU,dN,bC,cE]at this;lia
 ·simp only[iV,aU,dN,bC,cE];lia
 ·simp only[iV,aU,dN,bC,cE];lia
 ·intro c hc;simp only[iV,cR]at hc;rcases hc with hc|hc
  ·exact hl c (uz hc)
  ·have:=uz hc;simp only[bF,cN,or_false]at this;lia
theorem U9{n:Nat}{cs:List Nat}(hl:wb cs)(hn:n<=4):Row n ((ba n).map λk=>textOf (pL cs k)):=show _ by
 refine zK (λi j hi hj e=>?_) λi hi=>⟨_,rfl,?_,?_,?_⟩
 ·have:=congrArg j0 e;simp only[pL,aU,dN,e_,bC,cE]at this;lia
 ·simp only[pL,aU,dN,e_,bC,cE];lia
 ·simp only[pL,aU,dN,e_,bC,cE];lia
 ·intro c hc;simp only[pL,cR]at hc;rcases hc with hc|hc
  ·have:=DP hc;simp only[bF,cN,or_false]at this;lia
  ·exact hl c (uz hc)
theorem Row.turn{n t:Nat}{xs:List Str}(r:Row n xs):Row n (xs.drop t++xs.take t):=show _ by
 have e:=uA t xs;have pm:(xs.drop t++xs.take t).Perm xs:=by
  have:=List.perm_append_comm (l₁:=xs.drop t) (l₂:=xs.take t);rw[e]at this;exact this
 exact⟨pm.length_eq.trans r.len,pm.nodup_iff.mpr r.nd,λx hx=>r.ok x (pm.mem_iff.mp hx)⟩
inductive Sy where
 |name (x:Str)|aX|pair (a b:Sy)|left (a:Sy)|right (a:Sy)|fork (a b c:Sy)|send (x:Str) (as:List Sy)
mutual
def Sy.d:Sy->D
 | .name x=>.tup [.str "name",.str x]
 | .aX=>.tup [.str "bud"]
 | .pair a b=>.tup [.str "pair",a.d,b.d]
 | .left a=>.tup [.str "left",a.d]
 | .right a=>.tup [.str "right",a.d]
 | .fork a b c=>.tup [.str "fork",a.d,b.d,c.d]
 | .send x as=>.tup [.str "send",.str x,.tup (Sy.ds as)]
def Sy.ds:List Sy->List D
 |[]=>[]
 |a::as=>a.d::Sy.ds as
end
mutual
def Sy.deep:Sy->Nat
 | .name _=>1
 | .aX=>1
 | .pair a b=>max a.deep b.deep+1
 | .left a=>a.deep+1
 | .right a=>a.deep+1
 | .fork a b c=>max a.deep (max b.deep c.deep)+1
 | .send _ as=>Sy.dY as+1
def Sy.dY:List Sy->Nat
 |[]=>0
 |a::as=>max a.deep (Sy.dY as)
end
def Sy.parts:Sy->List Sy
 | .name _=>[]
 | .aX=>[]
 | .pair a b=>[a,b]
 | .left a=>[a]
 | .right a=>[a]
 | .fork a b c=>[a,b,c]
 | .send _ as=>as
mutual
def Sy.pre:Sy->List Sy
 | .name x=>[.name x]
 | .aX=>[.aX]
 | .pair a b=>.pair a b::(a.pre++b.pre)
 | .left a=>.left a::a.pre
 | .right a=>.right a::a.pre
 | .fork a b c=>.fork a b c::(a.pre++(b.pre++c.pre))
 | .send x as=>.send x as::Sy.aZ as
def Sy.aZ:List Sy->List Sy
 |[]=>[]
 |a::as=>a.pre++Sy.aZ as
end
theorem Sy.pM(s:Sy):s.pre=s::Sy.aZ s.parts:=by
 cases s<;>simp[Sy.pre,Sy.parts,Sy.aZ]
theorem Sy.nF:∀as:List Sy,Sy.ds as=as.map Sy.d
 |[]=>rfl
 |a::as=>by simp only[Sy.ds,bO,Sy.nF as]
theorem Sy.sZ:∀as bs:List Sy,Sy.aZ (as++bs)=Sy.aZ as++Sy.aZ bs
 |[],bs=>by simp[Sy.aZ]
 |a::as,bs=>by simp[Sy.aZ,Sy.sZ as bs]
mutual
def Sy.wf(ar:Str->Option Nat)(ps:List Str):Sy->Prop
 | .name x=>x∈ps
 | .aX=>True
 | .pair a b=>a.wf ar ps/\b.wf ar ps
 | .left a=>a.wf ar ps
 | .right a=>a.wf ar ps
 | .fork a b c=>a.wf ar ps/\b.wf ar ps/\c.wf ar ps
 | .send x as=>ar x=some as.length/\1<=as.length/\as.length<=4/\Sy.kG ar ps as
def Sy.kG(ar:Str->Option Nat)(ps:List Str):List Sy->Prop
 |[]=>True
 |a::as=>a.wf ar ps/\Sy.kG ar ps as
end
theorem Sy.zL{ar:Str->Option Nat}{ps:List Str}:∀{as:List Sy},Sy.kG ar ps as↔∀a∈as,a.wf ar ps
 |[]=>by simp[Sy.kG]
 |a::as=>by simp[Sy.kG,Sy.zL (as:=as)]
theorem Sy.zM:∀{as:List Sy} {n:Nat},(∀a∈as,a.deep<=n)->Sy.dY as<=n
 |[],_,_=>b8 _
 |a::as,n,h=>by
  simp only[Sy.dY];have h1:=h a df;have h2:=Sy.zM (as:=as) (n:=n) λb hb=>h b (dk _ hb);lia
theorem Sy.HH:∀{as:List Sy} {a:Sy},a∈as->a.deep<=Sy.dY as
 |b::as,a,h=>by
  simp only[Sy.dY];rcases bF.mp h with rfl|h
  ·lia
  ·have:=Sy.HH h;lia
def Sy.sends(s:Sy):Nat:=(s.pre.filter λa=>match a with | .send _ _=>true|_=>false).length
def Sy.b4(as:List Sy):Nat:=((Sy.aZ as).filter λa=>match a with | .send _ _=>true|_=>false).length
theorem Sy.gv(a:Sy)(as:List Sy):Sy.b4 (a::as)=a.sends+Sy.b4 as:=by simp[Sy.b4,Sy.sends,Sy.aZ]
theorem Sy.U_(as bs:List Sy):Sy.b4 (as++bs)=Sy.b4 as+Sy.b4 bs:=by simp[Sy.b4,Sy.sZ]
def cP:List Str->List Nat->Str->Option Nat
 |x::xs,n::ns,y=>if y=x then some n else cP xs ns y
 |_,_,_=>none
theorem s_:∀{xs:List Str} {ns:List Nat} {i:Nat} {x:Str} {n:Nat},xs.Nodup->xs[i]?=some x->ns[i]?=some n->cP xs ns x=some n
 |[],_,_,_,_,_,h,_=>by simp at h
 |_::_,[],_,_,_,_,_,h=>by simp at h
 |y::xs,m::ns,0,x,n,_,h1,h2=>by
  simp at h1 h2;subst h1 h2;simp[cP]
 |y::xs,m::ns,i+1,x,n,nd,h1,h2=>by
  have hx:x∈xs:=dg (by simpa using h1);have hne:x≠y:=λz=>(jf.mp nd).1 (z▸hx);rw[cP,if_neg hne];exact s_ (jf.mp nd).2 (by simpa using h1) (by simpa using h2)
structure Er where
 name:Str
 ps:List Str
 body:Sy
def Er.d(e:Er):D:=.tup [.str e.name,.tup (e.ps.map D.str),e.body.d]
end E3
namespace E3
open PySem PySem.Spec PyProof.Rows L2 EE
theorem U'{α:Type}{xs:List α}(c:Int)(h:0<xs.length):∃(j:Nat) (v:α),c%(xs.length:Int)=(j:Int)/\j<xs.length/\xs[j]?=some v:=show _ by
 have h0:=hG c (show(xs.length:Int)≠0 by lia);have h1:=uB c (show(0:Int)<xs.length by lia);have hj:(c%(xs.length:Int)).toNat<xs.length:=by lia
 exact⟨(c%(xs.length:Int)).toNat,xs[(c%(xs.length:Int)).toNat],by lia,hj,bb hj⟩
theorem zN{α:Type}{f:α->D}{xs:List α}(c:Int)(h:0<xs.length):∃(j:Nat) (v:α),c%((xs.map f).length:Int)=(j:Int)/\xs[j]?=some v/\cy (xs.map f) (c%((xs.map f).length:Int))=some (f v):=show _ by
 obtain⟨j,v,e,hj,hv⟩:=U' (xs:=xs) c h;have e':c%((xs.map f).length:Int)=(j:Int):=by rw[aB];exact e
 refine⟨j,v,e',hv,?_⟩;rw[e'];refine eV ?_;rw[aS,hv];rfl
theorem Sy.ik(s:Sy):s.sends=(match s with | .send _ _=>1|_=>0)+Sy.b4 s.parts:=by
 cases s<;>simp[Sy.sends,Sy.b4,Sy.pre,Sy.parts,Sy.aZ]<;>lia
def d8(prog:List Er):Str->Option Nat:=cP (prog.map Er.name) (prog.map λe=>e.ps.length)
theorem HI{cU:List Er}{names:List Str}{counts:List Nat}(h1:cU.map Er.name=names)(h2:(cU.map λe=>e.ps.length)=counts):d8 cU=cP names counts:=by
 unfold d8;rw[h1,h2]
theorem HJ{n c:Nat}{xs:List Str}(r:Row n xs)(hc:c<=n):(xs.take c).length=c/\(xs.take c).Nodup/\∀x∈xs.take c,ma x:=by
 refine⟨by rw[dN,r.len];lia,r.nd.sublist (MO _ _),λx hx=>r.ok x (uz hx)⟩
theorem Va{k:Key}:cm [] k=none:=rfl
theorem HK{p:Key×D}{r:List (Key×D)}{k:Key}:cm (p::r) k=if p.1=k then some p.2 else cm r k:=by
 by_cases e:p.1=k
 ·simp[cm,j6,e]
 ·simp[cm,j6,e]
theorem Vb{kvs:List (Key×D)}{k:Key}:cm kvs k=none↔k∉kvs.map (·.1):=by
 induction kvs with
 |nil=>simp[Va]
 |cons p r ih =>
  rw[HK,bO,bF];by_cases e:p.1=k
  ·simp[e]
  ·have e':¬k=p.1:=λz=>e z.symm;simp[e,e',ih]
theorem HL{kvs:List (Key×D)}{k:Key}{v:D}(h:k∉kvs.map (·.1)):putD kvs k v=kvs++[(k,v)]:=by
 unfold putD;rw[if_neg];intro z;obtain⟨p,hp,e⟩:=uC.mp z;exact h (bM.mpr ⟨p,hp,of_decide_eq_true e⟩)
def Sy.nm:Sy->Option Str
 | .send x _=>some x
 |_=>none
def Sy.cJ(s:Sy):List Str:=s.pre.filterMap Sy.nm
theorem Sy.pN(s:Sy):s.cJ.length=s.sends:=by
 unfold Sy.cJ Sy.sends;generalize s.pre=l
 induction l with
 |nil=>rfl
 |cons a r ih =>
  cases a<;>simp[Sy.nm,fS,Nn,ih]
def bK(prog:List Er):List (Str×Str):=(prog.map λe=>e.body.cJ.map λto=>(e.name,to)).flatten
def gx(p:Str×Str):D:=.tup [.str p.1,.str p.2]
theorem HM(prog:List Er):(bK prog).length=(prog.map λe=>e.body.sends).sum:=by
 unfold bK
 induction prog with
 |nil=>rfl
 |cons e r ih=>simp[Sy.pN,ih]
theorem tf{ds:List Dt}{n:Nat}(h:∀d∈ds,bN d<=n):dC ds<=n:=by
 induction ds with
 |nil=>simp[dC]
 |cons d r ih =>
  simp only[dC];have h1:=h d df;have h2:=ih λe he=>h e (dk _ he);lia
end E3
namespace EE
open PySem PySem.Spec PyProof.Rows L2
def nG(X:Cx)(ifs:List Expr)(t:TT):Prop :=
 ∀(pins:List (Addr×Obj)) (s:Shared) (σ:L2.St) (H:Hp) (Q:Bool->Hp->Prop),Inv X pins σ H s->t σ H Q ->
  wpAny (model X.prog X.w) X.A (forIn ifs true λc r=>if r=true then do let ok <-isTrue c X.env (eval c X.env);pure (ForInStep.yield ok) else pure (ForInStep.yield r)) (TP X pins σ Q) X.xe s
def Vc:TT:=λ_ H Q=>Q true H
theorem Vd{X:Cx}:nG X [] Vc:=λ_ _ _ _ _ I h=>wpAny_tests_nil ⟨_,I,h⟩
theorem Ve{X:Cx}{c:Expr}{t:TT}(h:PT X c t):nG X [c] t:=λpins s σ H Q I q=>wpAny_tests_one (h pins s σ H Q I q)
def wc(wi:TI)(g:TG)(tt:TT)(te:TE)(n:Nat)(js:List Nat):TE:=λσ H Q=>wi σ H λJ H1=>∀D,H1 D=none->∃W:Nat->Nat->L2.St->Hp->Prop,(∃m,W 0 m (fH n none++pick σ js) (upd H1 D (.lst []))) /\
 ∀i m τ H2,W i m τ H2->(J.stop i H2/\Q (.ref D) H2)∨(J.go i H2/\∃N:L2.St->Hp->Prop,(∀bz H',N bz H'->∃m',m'<m/\W (i+1) m' bz H')/\∀v H',J.lU i H2 v H' ->
  g v τ H' λbz H3=>tt bz H3 λb H4=>if b=true then te bz H4 λy H5=>∃ys,H5 D=some (.lst ys)/\ys.length<sizeLine/\N bz (upd H5 D (.lst (ys++[y]))) else N bz H4)
section
variable{X:Cx}{elt iter tg:Expr}{ifs:List Expr}{pos:Pos}{scope:Scope}{O M:List Str}{js:List Nat}{wi:TI}{g:TG}{tt:TT}{te:TE}
theorem Vf{prog:Program}{w:World}{A:Around}{R:Result->Shared->Prop}{s:Shared}{it acc:Value}{env:Env}(I:Nat->Shared->Prop)
 (turn:∀n s,I n s->wpAny (model prog w) A (pyNext it) (λr s₁=>match r with
  |none=>R (.ok .next) s₁
  |some v=>wpAny (model prog w) A (letOwnedTupleGo tg it v) (λ_ s₂=>wpAny (model prog w) A (assign tg env v) (λ_ s₃ =>
   wpAny (model prog w) A (forIn ifs true λc r=>if r=true then do let ok <-isTrue c env (eval c env);pure (ForInStep.yield ok) else pure (ForInStep.yield r)) (λok s₄ =>
    if ok=true then wpAny (model prog w) A (eval elt env) (λy s₅=>wpAny (model prog w) A (call (.builtin "list.append") [acc,y]) (λ_ s₆=>∃m,m<n/\I m s₆) (λ_ _=>False) s₅) (λ_ _=>False) s₄
    else ∃m,m<n/\I m s₄) (λ_ _=>False) s₃) (λ_ _=>False) s₂) (λ_ _=>False) s₁) (λ_ _=>False) s)
 (n:Nat) (h:I n s):codeAny (model prog w) A (.compLoop (.ListComp elt [⟨tg,iter,ifs,0⟩] scope pos) 0 it acc env) R s:=show _ by
 refine codeAny_loop rfl I (λn s hI=>?_) n h;show wpAny _ _ ((compTurn (.ListComp elt [⟨tg,iter,ifs,0⟩] scope pos) 0 it acc env).onRaise (λx=>do noteFrame x env;theTreesLotGoes x)) _ _ s;refine wpAny_noted ?_;rw[compTurn_list];refine ai (C1 (ai (eZ (turn n s hI) (λr s₁ h₁=>?_) λ_ _ z=>z.elim)));cases r with
 |none=>exact aE h₁
 |some v =>
  refine ai (eZ h₁ (λ_ s₂ h₂=>ai (eZ h₂ (λ_ s₃ h₃=>ai (eZ h₃ (λok s₄ h₄=>?_) λ_ _ z=>z.elim)) λ_ _ z=>z.elim)) λ_ _ z=>z.elim);cases ok with
  |false=>exact aE ⟨rfl,h₄⟩
  |true=>exact ai (ai (eZ h₄ (λy s₅ h₅=>ai (eZ h₅ (λ_ s₆ h₆=>aE (aE ⟨rfl,h₆⟩)) λ_ _ z=>z.elim)) λ_ _ z=>z.elim))
end
theorem wd{X:Cx}{pins:List (Addr×Obj)}{σ:L2.St}{H:Hp}{s:Shared}{h':Heap}{t':Nat}{fp:List Addr}(I:Inv X pins σ H s)(k:∀b o,b∉fp->s.heap.get? b=some o->h'.get? b=some o)(hf:∀b∈fp,dZ X pins H b):Inv X pins σ H {s with heap:=h',toks:=t'}:=show _ by
 have lQ:∀b u,H b=some u->b∉fp:=λb u e z=>by
  rw[(hf b z).1]at e;cases e
 refine I.step (g':=s.gens) (d':=s.drawn) (ch:=fp) (λb hb=>?_) (λb o _ _ hc e _=>k b o hc e) (λb o _ _ hc e _=>⟨o.slots,k b o hc e⟩) (λ_ _ _ _ n=>n) (λb o hc e=>⟨o,k b o hc e⟩) (λ_ _ e=>e) (λ_ _ _ e=>e)
  (λb ps e=>⟨#[],by rw[e];simp⟩) (λm hm=>?_) (λb u e=>?_) I.bare
 ·obtain⟨f0,f1,f2,f3,f4,f5⟩:=hf b hb;exact⟨f3,f1,f4,f5⟩
 ·obtain⟨o,es,ep,ho,r⟩:=hm;exact⟨o,es,ep,k _ o (λz=>(hf _ z).2.1 rfl) ho,r⟩
 ·refine(I.hok b u e).stay (λc v hc q=>k c v ?_ q) (λ_ q=>q) λ_ _ q=>q;rcases hc with z|z
  ·rw[z];exact lQ b u e
  ·exact lQ c _ z
section
variable{prog:Program}{w:World}{A:Around}{E:Value->Shared->Prop}{s:Shared}
theorem we{j t:Addr}{k:Nat}{its:Array Value}{x:Value}{Q:Value->Shared->Prop}(hj:s.heap.IsTupleIter j t k)(ht:s.heap.IsTuple t its)(hx:its[k]?=some x)
 (hQ:∀h',h'.IsTupleIter j t (k+1)->fF j s.heap h'->Q x {s with heap:=h'}):wpAny (model prog w) A (lF (.ref j)) Q E s:=show _ by
 obtain⟨ob,hob,hcl,hda⟩:=id hj;obtain⟨ot,hot,_,nt,hdt⟩:=ht;unfold lF;refine ai (j5 (name:=jh "__next__") hj.typeIs xS (gZ xS hj.typeIs Np ?_ (Nq _)));show wpAny _ _ (field (.ref j) 0 >>= _) _ _ s;refine ai (c9 hob hda (x:=.ref t) rfl ?_);show wpAny _ _ (if(Value.ref t==Value.none)=true then _ else _) _ _ _;rw[if_neg (λz:(Value.ref t==Value.none)=true=>c7 z)];show wpAny _ _ (field (.ref j) 1 >>= _) _ _ s;refine ai (c9 hob hda (x:=.int k 0) rfl ?_);show wpAny _ _ (seqItems? (.ref t) >>= _) _ _ _;refine ai (je hot hdt ?_);simp only[j3,hx];refine ai (uv hob hda (by simp) (aE ⟨x,rfl,aE (hQ _ ⟨_,oO _ hob (DE (rA hda _)),(M' ..).trans hcl,?_⟩ (uw ..))⟩));rw[rA hda];simp[rawInt]
theorem wg{j t:Addr}{k:Nat}{its:Array Value}{Q:Value->Shared->Prop}(hh:A.handled=none)(hj:s.heap.IsTupleIter j t k)(ht:s.heap.IsTuple t its)(hx:its[k]?=none)
 (hE:∀h' e,ux j s.heap h'->(∃o,h'.get? e=some o/\o.cls=.type "StopIteration")->E (.ref e) {s with heap:=h'}):wpAny (model prog w) A (lF (.ref j)) Q E s:=show _ by
 obtain⟨ob,hob,hcl,hda⟩:=id hj;obtain⟨ot,hot,_,nt,hdt⟩:=ht;unfold lF;refine ai (j5 (name:=jh "__next__") hj.typeIs xS (gZ xS hj.typeIs Np ?_ (Nq _)));show wpAny _ _ (field (.ref j) 0 >>= _) _ _ s;refine ai (c9 hob hda (x:=.ref t) rfl ?_);show wpAny _ _ (if(Value.ref t==Value.none)=true then _ else _) _ _ _;rw[if_neg (λz:(Value.ref t==Value.none)=true=>c7 z)];show wpAny _ _ (field (.ref j) 1 >>= _) _ _ s;refine ai (c9 hob hda (x:=.int k 0) rfl ?_);show wpAny _ _ (seqItems? (.ref t) >>= _) _ _ _;refine ai (je hot hdt ?_);simp only[j3,hx];refine ai (jV (ai (uv hob hda (by simp) ?_)));show wpAny _ _ (newExc (.type "StopIteration") [] >>= _) _ _ _;refine ai ?_;simp only[newExc,newTuple];refine ai (ji ?_ (by size_fits));refine ai (m:=firstArgMember _ _) (mR (a:=Value.none) (by first|rfl|(simp only[firstArgMember];rfl)) (ji ?_ (by size_fits)));simp only[raiseNew];refine ai (wpAny_handled ?_)
 first
  |rw[show A.in1.handled=none from hh]
  |rw[hh]
 exact ai (aE (wpAny_throw (hE _ _ (((uw ..).extBut.push _).push _) ⟨_,c8 _ rfl,rfl⟩)))
end
section
variable{prog:Program}{w:World}{A:Around}{E:Value->Shared->Prop}{s:Shared}{z TI TO i1 i2 a b:Addr}{k:Nat}{xs ys:Array Value}{x y p q:Value}
structure ZN(z TI TO i1 i2:Addr):Prop where
 a:TI≠z
 b:TO≠z
 c:i1≠z
 d:i2≠z
 e:TI≠TO
 f:TI≠i1
 g:TI≠i2
 h:TO≠i1
 i:TO≠i2
 j:i1≠i2
structure ZA(z TO i1 i2 a:Addr):Prop where
 z:a≠z
 o:a≠TO
 i:a≠i1
 j:a≠i2
theorem jF{h h':Heap}{a c:Addr}{xs:Array Value}(x:h.IsTuple a xs)(e:ux c h h')(n:a≠c):h'.IsTuple a xs:=by
 obtain⟨o,ho,r⟩:=x;exact⟨o,e _ _ n ho,r⟩
theorem Vg{Q:Value->Shared->Prop}(N:ZN z TI TO i1 i2)(Na:ZA z TO i1 i2 a)(Nb:ZA z TO i1 i2 b)
 (hz:IsZip s.heap z TI TO .none) (hI:IsPair s.heap TI (.ref i1) (.ref i2)) (hO:IsPair s.heap TO p q) (h1:s.heap.IsTupleIter i1 a k) (h2:s.heap.IsTupleIter i2 b k) (ha:s.heap.IsTuple a xs) (hb:s.heap.IsTuple b ys) (hx:xs[k]?=some x) (hy:ys[k]?=some y)
 (hQ:∀h5 h8,h5.objs.size=s.heap.objs.size->(∀c o,c≠z->c≠TO->c≠i1->c≠i2->s.heap.get? c=some o->h5.get? c=some o)->IsPair h5 TO x y->h5.IsTupleIter i1 a (k+1)->h5.IsTupleIter i2 b (k+1) ->
  (∃o,h5.get? z=some o)->fF z (h5.push {cls:=.type "tuple",data:=.seq #[x,y]}) h8->IsZip h8 z TI TO (rawInt h5.objs.size)->Q (.ref h5.objs.size) {s with heap:=h8}) :
 wpAny (model prog w) A (Builtin.«zip.__next__» ⟨[.ref z],[]⟩) (λfin s'=>∃v,fin=.done (.ret v)/\Q v s') E s:=show _ by
 show wpAny _ _ (field (.ref z) 2 >>= _) _ _ s;refine ai (c9 hz rfl (x:=.bool false) rfl ?_);show wpAny _ _ (field (.ref z) 3 >>= _) _ _ s;refine ai (c9 hz rfl (x:=.ref TI) rfl (ai (je hI rfl ?_)));show wpAny _ _ (rC (.ref z) >>= _) _ _ s;refine ai ?_;unfold rC;refine ai (c9 hz rfl (x:=.none) rfl (aE ?_));simp only[if_true];refine ai (jV (ai (c9 hz rfl (x:=.ref TO) rfl (ai (hJ hz (by simp) λg1 hz1 e1=>?_)))));replace hz1:IsZip g1 z TI TO .ellipsis:=hz1;refine ai ?_;simp only[Nr,Nt,ur,xN];refine ai (ai (xT ?_));show wpAny _ _ (lF (.ref i1) >>= _) _ _ _;refine ai (we (h1.extBut e1.extBut N.c) (jF ha e1.extBut Na.z) hx λg2 HN e2=>aE ?_);have o2:IsPair g2 TO p q:=e2.extBut _ _ N.h (e1.extBut _ _ N.b hO);refine ai (je o2 rfl (ai (DQ o2 λg3 o3 e3=>?_)));replace o3:IsPair g3 TO x q:=o3;refine ai (uD (aE (ai (ai (xT ?_)))));show wpAny _ _ (lF (.ref i2) >>= _) _ _ _;refine ai (we (((h2.extBut e1.extBut N.d).extBut e2.extBut N.j.symm).extBut e3.extBut N.i.symm) (jF (jF (jF hb e1.extBut Nb.z) e2.extBut Nb.i) e3.extBut Nb.o) hy λg4 j4 e4=>aE ?_);have o4:IsPair g4 TO x q:=e4.extBut _ _ N.i o3;refine ai (je o4 rfl (ai (DQ o4 λg5 o5 e5=>?_)));replace o5:IsPair g5 TO x y:=o5;refine ai (uD (aE (aE (ai (je o5 rfl (ai (wpAny_newTuple ?_)))))));have hsz:g5.objs.size=s.heap.objs.size:=by rw[e5.1,e4.1,e3.1,e2.1,e1.1]
 have z5:IsZip g5 z TI TO .ellipsis:=e5.extBut _ _ N.b.symm (e4.extBut _ _ N.d.symm (e3.extBut _ _ N.b.symm (e2.extBut _ _ N.c.symm hz1)));show wpAny _ _ (uE (.ref z) (.ref g5.objs.size) >>= _) _ _ _;refine ai ?_;unfold uE;have z6:IsZip (g5.push {cls:=.type "tuple",data:=.seq #[x,y]}) z TI TO .ellipsis:=bx _ z5;refine ai (hJ z6 (by simp) λg7 z7 e7=>?_);replace z7:IsZip g7 z TI TO (rawInt g5.objs.size):=z7;refine hJ z7 (by simp) λg8 z8 e8=>aE ⟨_,rfl,?_⟩;replace z8:IsZip g8 z TI TO (rawInt g5.objs.size):=z8;exact hQ g5 g8 hsz (λc o c1 c2 c3 c4 e=>e5.extBut _ _ c2 (e4.extBut _ _ c4 (e3.extBut _ _ c2 (e2.extBut _ _ c3 (e1.extBut _ _ c1 e))))) o5
  (((HN.extBut e3.extBut N.h.symm).extBut e4.extBut N.j).extBut e5.extBut N.h.symm) (j4.extBut e5.extBut N.i.symm) ⟨_,z5⟩ ⟨e8.1.trans e7.1,λc n=>(e8.2 c n).trans (e7.2 c n)⟩ z8
theorem Vh{Q:Fin->Shared->Prop}(hh:A.handled=none)(N:ZN z TI TO i1 i2)(Na:ZA z TO i1 i2 a)(Nb:ZA z TO i1 i2 b)
 (hz:IsZip s.heap z TI TO .none) (hI:IsPair s.heap TI (.ref i1) (.ref i2)) (hO:IsPair s.heap TO p q) (h1:s.heap.IsTupleIter i1 a k) (h2:s.heap.IsTupleIter i2 b k) (ha:s.heap.IsTuple a xs) (hb:s.heap.IsTuple b ys) (hend:xs[k]?=none∨ys[k]?=none)
 (hE:∀h' e,(∀c o,c≠z->c≠TO->c≠i1->c≠i2->s.heap.get? c=some o->h'.get? c=some o)->(∃o,h'.get? e=some o/\o.cls=.type "StopIteration")->E (.ref e) {s with heap:=h'}) :
 wpAny (model prog w) A (Builtin.«zip.__next__» ⟨[.ref z],[]⟩) Q E s:=show _ by
 show wpAny _ _ (field (.ref z) 2 >>= _) _ _ s;refine ai (c9 hz rfl (x:=.bool false) rfl ?_);show wpAny _ _ (field (.ref z) 3 >>= _) _ _ s;refine ai (c9 hz rfl (x:=.ref TI) rfl (ai (je hI rfl ?_)));show wpAny _ _ (rC (.ref z) >>= _) _ _ s;refine ai ?_;unfold rC;refine ai (c9 hz rfl (x:=.none) rfl (aE ?_));simp only[if_true];refine ai (jV (ai (c9 hz rfl (x:=.ref TO) rfl (ai (hJ hz (by simp) λg1 hz1 e1=>?_)))));replace hz1:IsZip g1 z TI TO .ellipsis:=hz1;refine ai ?_;simp only[Nr,Nt,ur,xN];refine ai (ai (xT ?_));show wpAny _ _ (lF (.ref i1) >>= _) _ _ _;cases hx:xs[k]? with
 |none =>
  refine ai (wg hh (h1.extBut e1.extBut N.c) (jF ha e1.extBut Na.z) hx λg2 e e2 ⟨oe,hoe,hce⟩=>?_);have z2:IsZip g2 z TI TO .ellipsis:=e2 _ _ N.c.symm hz1;have ez:e≠z:=λx=>by
   subst x;rw[z2]at hoe;cases hoe;simp at hce
  exact hJ z2 (by simp) λg3 _ e3=>hE g3 e (λc o c1 _ c3 _ x=>e3.extBut _ _ c1 (e2 _ _ c3 (e1.extBut _ _ c1 x))) ⟨oe,e3.extBut _ _ ez hoe,hce⟩
 |some x =>
  have hy:ys[k]?=none:=by
   rcases hend with h|h
   ·rw[hx]at h;cases h
   ·exact h
  refine ai (we (h1.extBut e1.extBut N.c) (jF ha e1.extBut Na.z) hx λg2 HN e2=>aE ?_);have o2:IsPair g2 TO p q:=e2.extBut _ _ N.h (e1.extBut _ _ N.b hO);refine ai (je o2 rfl (ai (DQ o2 λg3 o3 e3=>?_)));refine ai (uD (aE (ai (ai (xT ?_)))));show wpAny _ _ (lF (.ref i2) >>= _) _ _ _;refine ai (wg hh (((h2.extBut e1.extBut N.d).extBut e2.extBut N.j.symm).extBut e3.extBut N.i.symm) (jF (jF (jF hb e1.extBut Nb.z) e2.extBut Nb.i) e3.extBut Nb.o) hy λg4 e e4 ⟨oe,hoe,hce⟩=>?_);have z4:IsZip g4 z TI TO .ellipsis:=e4 _ _ N.d.symm (e3.extBut _ _ N.b.symm (e2.extBut _ _ N.c.symm hz1));have ez:e≠z:=λx=>by
   subst x;rw[z4]at hoe;cases hoe;simp at hce
  exact hJ z4 (by simp) λg5 _ e5=>hE g5 e (λc o c1 c2 c3 c4 x=>e5.extBut _ _ c1 (e4 _ _ c4 (e3.extBut _ _ c2 (e2.extBut _ _ c3 (e1.extBut _ _ c1 x))))) ⟨oe,e5.extBut _ _ ez hoe,hce⟩
end
def zO (K:ao) (a b:Addr):It :=
  ⟨λi H=>∃xs ys x y,bh K H a xs∧bh K H b ys∧xs[i]?=some x∧ys[i]?=some y,
   λi H v H'=>∃T x y,v=.ref T∧H T=none∧H'=upd H T (.tup [x,y])∧(∀xs,bh K H a xs→xs[i]?=some x)∧∀ys,bh K H b ys→ys[i]?=some y,
   λi H=>∃xs ys,bh K H a xs∧bh K H b ys∧(xs.length≤i∨ys.length≤i)⟩
def ZT(z TI TO i1 i2 a b:Addr)(i:Nat)(h:Heap):Prop:=IsZip h z TI TO .none/\IsPair h TI (.ref i1) (.ref i2)/\(∃x y,IsPair h TO x y)/\h.IsTupleIter i1 a i/\h.IsTupleIter i2 b i
theorem Vi{P:Program}{w:World}{K:ao}{es:List Expr}{kt:Nat}{tp:Pos}(z TI TO i1 i2 a b:Addr)(N:ZN z TI TO i1 i2)(Na:ZA z TO i1 i2 a)(Nb:ZA z TO i1 i2 b) :
 Turn P w K (.Tuple es kt tp) (zO K a b) [z,TI,TO,i1,i2] z (ZT z TI TO i1 i2 a b) where
 mem:=df
 obj:=λi h st c hc=>by
  obtain⟨s1,s2,⟨x,y,s3⟩,⟨o4,s4,_,d4⟩,⟨o5,s5,_,d5⟩⟩:=st;simp only[bF,cN,or_false]at hc;rcases hc with rfl|rfl|rfl|rfl|rfl
  ·exact⟨_,s1,λv e=>nomatch e⟩
  ·exact⟨_,s2,λv e=>nomatch e⟩
  ·exact⟨_,s3,λv e=>nomatch e⟩
  ·exact⟨_,s4,λv e=>by rw[d4]at e;cases e⟩
  ·exact⟨_,s5,λv e=>by rw[d5]at e;cases e⟩
 keep:=λi h h' st kk=>by
  obtain⟨s1,s2,⟨x,y,s3⟩,s4,s5⟩:=st;exact⟨kk z (by simp) _ s1,kk TI (by simp) _ s2,⟨x,y,kk TO (by simp) _ s3⟩,s4.at λo e=>kk i1 (by simp) o e,s5.at λo e=>kk i2 (by simp) o e⟩
 item:=show _ by
  intro X hP hw hK hc i pins s σ H E I hf st hg;subst hP hw hK;obtain⟨xs,ys,x,y,hq,hq',hx,hy⟩:=hg;obtain⟨its,rv,pt,hz⟩:=I.tuple hq;obtain⟨jts,rv',pO,hz'⟩:=I.tuple hq';obtain⟨u,hu,ru⟩:=rv.get hx;obtain⟨u',hu',Vj⟩:=rv'.get hy;obtain⟨s1,s2,⟨p,q,s3⟩,s4,s5⟩:=st;have hT:s.TypeIs (.ref z) "zip":=⟨_,s1,rfl⟩;unfold pyNext;refine ai (oQ (j5 (name:=jh "__next__") hT xU (gZ xU hT Nu
   (Vg N Na Nb s1 s2 s3 s4 s5 (show s.heap.IsTuple a its.toArray from pt) (show s.heap.IsTuple b jts.toArray from pO) (x:=u) (y:=u') (by simpa using hu) (by simpa using hu') λh5 h8 sz k5 o5 t1 t2 zz e8 z8=>aE ?_) (Nv _))))
  refine⟨_,rfl,wpAny_letOwnedTupleGo_zip z8 λh9 z9 e9=>?_⟩;have fz:∀c o,s.heap.get? c=some o->c∉[z,TI,TO,i1,i2]->h5.get? c=some o:=λc o e n=>by
   simp only[bF,cN,or_false,not_or]at n;exact k5 c o n.1 n.2.2.1 n.2.2.2.1 n.2.2.2.2 e
  have I5:Inv X pins σ H {s with heap:=h5}:=wd (t':=s.toks) I (λc o n e=>fz c o e n) hf;have hfr:H h5.objs.size=none:=I5.hok.fresh (aV _);have I6:Inv X pins σ (upd H h5.objs.size (.tup [x,y])) {s with heap:=h5.push {cls:=.type "tuple",data:=.seq #[u,u']}} :=
   I5.laid (t':=s.toks) (λb u e=>bx _ e) (aV _) ⟨(by decide:2<=sizeLine),[u,u'],.cons ru (.cons Vj .nil),⟨_,c8 _ rfl,rfl,_,rfl⟩,λo q=>by rw[c8 _ rfl]at q;cases q;rfl⟩
  obtain⟨oz,Vk⟩:=zz;have Vl:z<h5.objs.size:=bE Vk;obtain⟨f0,f1,f2,f3,f4,f5⟩:=hf z df;have f0':upd H h5.objs.size (.tup [x,y]) z=none:=by rw[bf (cW Vl)];exact f0
  have I8:Inv X pins σ (upd H h5.objs.size (.tup [x,y])) {s with heap:=h8}:=I6.turned (t':=s.toks) (λc o n e=>(e8.2 c n).trans e) f0' f1 f3 f4 f5;have I9:Inv X pins σ (upd H h5.objs.size (.tup [x,y])) {s with heap:=h9}:=I8.turned (t':=s.toks) (λc o n e=>(e9.2 c n).trans e) f0' f1 f3 f4 f5;have wj:∀c o,c≠z->h5.get? c=some o->h9.get? c=some o:=λc o n e=>(e9.2 c n).trans ((e8.2 c n).trans (bx _ e));refine⟨.ref h5.objs.size,_,I9,rfl,⟨_,x,y,rfl,hfr,rfl,λzs hy=>by rw[I.oW hy hq];exact hx,λzs hy'=>by rw[I.oW hy' hq'];exact hy⟩,
   ⟨z9,wj _ _ N.a (k5 _ _ N.a N.e N.f N.g s2),⟨_,_,wj _ _ N.b o5⟩,t1.at λo e=>wj _ o N.c e,t2.at λo e=>wj _ o N.d e⟩,λc hc=>?_⟩
  have cl:c<h5.objs.size:=by
   rw[sz];simp only[bF,cN,or_false]at hc;obtain⟨o4,s4,_⟩:=s4;obtain⟨o5,s5,_⟩:=s5;rcases hc with rfl|rfl|rfl|rfl|rfl
   ·exact bE s1
   ·exact bE s2
   ·exact bE s3
   ·exact bE s4
   ·exact bE s5
  rw[bf (cW cl)];exact(hf c hc).1
 done:=by
  intro X hP hw hK hc i pins s σ H E I hf st hg;subst hP hw hK;obtain⟨xs,ys,hq,hq',hend⟩:=hg;obtain⟨its,rv,pt,hz⟩:=I.tuple hq;obtain⟨jts,rv',pO,hz'⟩:=I.tuple hq';have hl:=rv.length;have hl':=rv'.length;obtain⟨s1,s2,⟨p,q,s3⟩,s4,s5⟩:=st;have hT:s.TypeIs (.ref z) "zip":=⟨_,s1,rfl⟩;unfold pyNext;refine ai (oQ (j5 (name:=jh "__next__") hT xU (gZ xU hT Nu
   (Vh (I.ok.hd hc) N Na Nb s1 s2 s3 s4 s5 (show s.heap.IsTuple a its.toArray from pt) (show s.heap.IsTuple b jts.toArray from pO) ?_ λh' e kk ⟨oe,hoe,hce⟩=>?_) (Nv _))))
  ·rcases hend with h|h
   ·exact .inl (by simp;lia)
   ·exact .inr (by simp;lia)
  ·refine ai (uf (T:="StopIteration") (b:=true) ⟨oe,hoe,hce⟩ DF (aE ⟨rfl,wd (t':=s.toks) I (λc o n e=>?_) hf⟩));simp only[bF,cN,or_false,not_or]at n;exact kk c o n.1 n.2.2.1 n.2.2.2.1 n.2.2.2.2 e
 self:=λ_ _ _ _ _ st h=>wpAny_pyIter_zip st.1 h
def zH(h:Heap)(a b:Addr):Heap:=((((h.push {cls:=.type "tuple_iterator",data:=.fields #[.ref a,.int 0 0]}).push {cls:=.type "tuple_iterator",data:=.fields #[.ref b,.int 0 0]}).push
 {cls:=.type "tuple",data:=.seq #[.ref h.objs.size,.ref (h.objs.size+1)]}).push {cls:=.type "tuple",data:=.seq #[.none,.none]}).push
 {cls:=.type "zip",data:=.fields #[.none,.bool false,.bool false,.ref (h.objs.size+2),.ref (h.objs.size+3)]}
theorem tm{h:Heap}{o:Obj}{n:Nat}(e:h.objs.size=n)(hf:o.isFreed=false:=by rfl):(h.push o).get? n=some o:=by
 rw[<-e];exact c8 _ hf
theorem zP(h:Heap)(a b:Addr):IsZip (zH h a b) (h.objs.size+4) (h.objs.size+2) (h.objs.size+3) .none:=tm (by simp[g9])
theorem Vm(h:Heap)(a b:Addr):IsPair (zH h a b) (h.objs.size+2) (.ref h.objs.size) (.ref (h.objs.size+1)):=bx _ (bx _ (tm (by simp[g9])))
theorem Vn(h:Heap)(a b:Addr):IsPair (zH h a b) (h.objs.size+3) .none .none:=bx _ (tm (by simp[g9]))
theorem Vo(h:Heap)(a b:Addr):(zH h a b).IsTupleIter h.objs.size a 0:=⟨_,bx _ (bx _ (bx _ (bx _ (tm rfl)))),rfl,rfl⟩
theorem Vp(h:Heap)(a b:Addr):(zH h a b).IsTupleIter (h.objs.size+1) b 0:=⟨_,bx _ (bx _ (bx _ (tm (by simp[g9])))),rfl,rfl⟩
theorem Vq{h:Heap}{a b c:Addr}{o:Obj}(e:h.get? c=some o):(zH h a b).get? c=some o :=
 bx _ (bx _ (bx _ (bx _ (bx _ e))))
theorem Vr(a b:Addr)(xs ys:Array Value):Meets (Builtin.«zip.__new__» ⟨[.type "zip",.ref a,.ref b],[]⟩) (λ_ R s=>s.heap.IsTuple a xs/\s.heap.IsTuple b ys/\R (.ok (.ret (.ref (s.heap.objs.size+4)))) {s with heap:=zH s.heap a b}) :=
 .of_wp λprog w A R s h=>by
  obtain⟨hp,g,d,tk,os⟩:=s;obtain⟨ha,hb,h⟩:=h;have hsub:=sub_zip;have ha':DS (DT ⟨hp,g,d,tk,os⟩) a xs:=ha;have hb':DS (DT ⟨hp.push {cls:=.type "tuple_iterator",data:=.fields #[.ref a,.int 0 0]},g,d,tk,os⟩) b ys:=show _ by
   obtain⟨o,e,r⟩:=hb;exact⟨o,bx _ e,r⟩
  wp_walk using rh ha',rh hb'
  refine⟨_,rfl,?_⟩;simp only[g9];exact h
section
variable{X:Cx}{es:List Expr}{kt:Nat}{tp:Pos}
theorem Vs{prog:Program}{w:World}{A:Around}{E:Value->Shared->Prop}{s:Shared}{a b:Addr}{xs ys:Array Value}{Q:Value->Shared->Prop}(ha:s.heap.IsTuple a xs)(hb:s.heap.IsTuple b ys)(h:Q (.ref (s.heap.objs.size+4)) {s with heap:=zH s.heap a b}) :
 wpAny (model prog w) A (call (.type "zip") [.ref a,.ref b]) Q E s:=show _ by
 refine DD PySem.F.called_zip (by decide) (PySem.F.typeCall_zip_2 _ _) (PySem.F.newCall_zip_2 _ _) (λobj=>PySem.F.args_object_init_3 obj _ _) PySem.F.entry_zip_new (Vr a b xs ys) ⟨ha,hb,?_⟩;show _/\_;exact⟨⟨_,zP s.heap a b,rfl⟩,h⟩
def Vt(K:ao)(ta:TA):TI:=λσ H R=>ta σ H λvs H1=>∃a b,vs=[.ref a,.ref b]/\(∃xs,bh K H1 a xs)/\(∃ys,bh K H1 b ys)/\R (zO K a b) H1
theorem Vu{a b:Expr}{ta:TA}{p pos:Pos}(hg:Gl X "zip")(hm:X.mg "zip"=none)(ha:PA X [a,b] ta)(hs:starEach [a,b] X.env=[(false,eval a X.env),(false,eval b X.env)])(hs2:starEach [b] X.env=[(false,eval b X.env)]) :
 PI X (.Tuple es kt tp) (.Call (.Name "zip" p) [a,b] [] pos) (Vt X.K ta):=show _ by
 intro pins s σ H R I h;refine Call_ (jr I hg hm boot_zip (mJ (aF (ha pos pins s σ H _ I h) λus s1 ⟨vs,H1,I1,r1,q1⟩=>?_) (by rw[hs,hs2]) (by rw[hs2];rfl)));obtain⟨x,y,e,⟨xs,hx⟩,⟨ys,hy⟩,q⟩:=q1;subst e;obtain⟨u,u',rfl,r,r'⟩:=vals2 r1;cases r;cases r';obtain⟨its,rv,pt,_⟩:=I1.tuple hx;obtain⟨jts,rv',pO,_⟩:=I1.tuple hy;refine Vs (show s1.heap.IsTuple x its.toArray from pt) (show s1.heap.IsTuple y jts.toArray from pO) (wpAny_pyIter_zip (zP s1.heap x y) ?_);have lx:x<s1.heap.objs.size:=by
  obtain⟨o,e,_⟩:=pt;exact bE e
 have ly:y<s1.heap.objs.size:=by
  obtain⟨o,e,_⟩:=pO;exact bE e
 have I2:Inv X pins σ H1 {s1 with heap:=zH s1.heap x y}:=I1.kept (t':=s1.toks) λ_ _ e=>Vq e;have nd:∀(i j:Nat),i≠j->s1.heap.objs.size+i≠s1.heap.objs.size+j:=λi j h e=>h (Nat.add_left_cancel e);have nx:∀{c:Addr} (i:Nat),c<s1.heap.objs.size->c≠s1.heap.objs.size+i:=λi h=>cW (dM h (uF _ _));refine⟨s1.heap.objs.size+4,[s1.heap.objs.size+4,s1.heap.objs.size+2,s1.heap.objs.size+3,s1.heap.objs.size,s1.heap.objs.size+1],_,_,H1,rfl,I2,
  Vi _ _ _ _ _ x y ⟨nd 2 4 (by decide),nd 3 4 (by decide),nd 0 4 (by decide),nd 1 4 (by decide),nd 2 3 (by decide),nd 2 0 (by decide),nd 2 1 (by decide),nd 3 0 (by decide),nd 3 1 (by decide),nd 0 1 (by decide)⟩ ⟨nx 4 lx,nx 3 lx,nx 0 lx,nx 1 lx⟩ ⟨nx 4 ly,nx 3 ly,nx 0 ly,nx 1 ly⟩,
  ⟨zP ..,Vm ..,⟨_,_,Vn ..⟩,Vo ..,Vp ..⟩,λc hc=>?_,q⟩
 have cl:s1.heap.objs.size<=c:=by
  simp only[bF,cN,or_false]at hc;rcases hc with rfl|rfl|rfl|rfl|rfl
  ·exact uF _ _
  ·exact uF _ _
  ·exact uF _ _
  ·exact aV _
  ·exact uF _ _
 exact I1.ki cl (I1.hok.fresh cl)
end
end EE
namespace E3
open PySem PySem.Spec PyProof.Rows L2 EE
def zQ(K:ao)(g:eG):TG:=λv τ H Q=>∃Z:Zt,lG K Z g v τ H Q
def tq(K:ao)(t:cI):TT:=λτ H Q=>∃Z:Zt,lT K Z t τ H Q
theorem gK.ex{X:Cx}{e:Expr}{g:eG}(h:gK X c_ e g):PG X e (zQ X.K g):=λpins s σ H v u Q I r cB=>by obtain⟨Z,q⟩:=cB;exact h (ZX.no X Z) pins s σ H v u Q I r q
theorem d0.ex{X:Cx}{e:Expr}{t:cI}(h:d0 X c_ e t):PT X e (tq X.K t):=λpins s σ H Q I fo=>by obtain⟨Z,q⟩:=fo;exact h (ZX.no X Z) pins s σ H Q I q
def kH(X:Cx)(ifs:List Expr)(t:cI):Prop:=nG X ifs (tq X.K t)
theorem kH.ex{X:Cx}{ifs:List Expr}{t:cI}(h:kH X ifs t):nG X ifs (tq X.K t):=h
def mf:cI:=λ_ S Q=>Q true S
theorem eO{X:Cx}:kH X [] mf:=λpins s σ H Q I nA=>by obtain⟨Z,_,S,_,_,hr,ht,hc⟩:=nA;exact Vd pins s σ H Q I (hc true S H (Kp.refl _ _) hr ht)
theorem HP{X:Cx}{c:Expr}{t:cI}(h:d0 X c_ c t):kH X [c] t:=Ve h.ex
def tu(n:Nat)(g:eG)(Sh:D->aL->Prop):Prop:=∀d ρ,Sh d ρ->ρ.length=n/\∀fK S Q,Q (ρ++fK) S->g d (fH n none++fK) S Q
def mh:D->aL->Prop:=λd ρ=>ρ=[some d]
def zR:D->aL->Prop:=λd ρ=>∃a b,d=.tup [a,b]/\ρ=[some a,some b]
theorem zS:tu 1 (kz 0) mh:=λd ρ h=>by
 cases h;exact⟨rfl,λfK S Q q=>q⟩
theorem Vv:tu 2 (vE 2 (pv (kz 0) (pv (kz 1) vB))) zR:=λd ρ h=>by
 obtain⟨a,b,rfl,rfl⟩:=h;exact⟨rfl,λfK S Q q=>⟨_,rfl,rfl,a,_,rfl,b,_,rfl,rfl,q⟩⟩
def mi(wi:fq)(Sh:D->aL->Prop)(tt:cI)(te:aG)(js:List Nat):aG:=λσ S Q=>wi σ S λds Al S1=>∃W:Nat->List D->af->Prop,W 0 [] S1/\(∀i ys S,W i ys S->Al S/\ys.length<sizeLine) /\
 (∀i d ys S,ds[i]?=some d->W i ys S->∃ρ,Sh d ρ/\tt (ρ++dw σ js) S λb S2=>if b=true then te (ρ++dw σ js) S2 λy S3=>W (i+1) (ys++[y]) S3 else W (i+1) ys S2)/\∀ys S,W ds.length ys S->cS S ys Q
theorem SR.blank{K:ao}{H:Hp}{r:aL}:∀{ρ:aL} {τ:L2.St},SR K H (ρ++r) τ->SR K H (fH ρ.length none++r) τ
 |[],_,h=>h
 |_::ρ,_,.cons _ t=>.cons (λd e=>by cases e) (SR.blank (ρ:=ρ) t)
theorem zT{K:ao}{Z:Zt}{wi:fq}{Sh:D->aL->Prop}{g:eG}{tt:cI}{te:aG}{n:Nat}{js:List Nat}{τ:L2.St}{H:Hp}{Q:VK}(hsh:tu n g Sh)(h:lE K Z (mi wi Sh tt te js) τ H Q) :
 wc (lI K Z wi) (zQ K g) (tq K tt) (sO K te) n js τ H Q:=show _ by
 obtain⟨σ,S,Q3,hs,hr,ht,hc⟩:=h;refine⟨σ,S,_,hs,hr,ht,λds Al S1 J H1 k1 l1 q1 wk=>?_⟩;intro p hp;obtain⟨W,w0,al,turn,done⟩:=q1;obtain⟨hsp,jG⟩:=l1.fresh hp;have kp:Kp Z H1 (upd H1 p (.lst [])):=Kp.new hp jG;have Vw:SR K (upd H1 p (.lst [])) (fH n none++dw σ js) (fH n none++pick τ js):=nc (SR.nones n) ((hs.mono (k1.trans kp)).picks js);refine⟨λi m bz H'=>m=ds.length-i/\i<=ds.length/\SR K H' (fH n none++dw σ js) bz/\∃ys vs S',Kp Z H1 H'/\H' p=some (.lst vs)/\aT K H' ys vs/\S' p=none/\Rl K Z S' H'/\W i ys S',
  ⟨ds.length,by simp,b8 _,Vw,[],[],S1,kp,dm,.nil,hsp,l1.lay hp,w0⟩,?_⟩
 rintro i m bz H2 ⟨rfl,hi,Vx,ys,vs,S2,k2,hp2,ry,hs2,l2,w2⟩;obtain⟨HQ,hz⟩:=al _ _ _ w2;by_cases hlt:i<ds.length
 ·have hd:ds[i]?=some ds[i]:=bb hlt;obtain⟨go,yl⟩:=wk.go i _ S2 H2 k2 l2 HQ hd;refine .inr ⟨go,λbz H'=>i<ds.length/\SR K H' (fH n none++dw σ js) bz/\∃ys vs S',Kp Z H1 H'/\H' p=some (.lst vs)/\aT K H' ys vs/\S' p=none/\Rl K Z S' H'/\W (i+1) ys S',
   λbz H' z=>⟨ds.length-(i+1),by lia,rfl,z.1,z.2⟩,λv H3 y=>?_⟩
  obtain⟨k3,rv,l3,o3⟩:=yl v H3 y;have hp3:H3 p=some (.lst vs):=(o3 p (by rw[hp2];simp)).trans hp2;obtain⟨ρ,tw,step⟩:=turn i _ ys S2 hd w2;obtain⟨hn,hg⟩:=hsh _ ρ tw;refine⟨Z.hide H3 p,ds[i],_,S2,λσ' S'=>σ'=ρ++dw σ js/\S'=S2,rv,Vx.mono k3,(l3 _ l2).hide hs2 (by rw[hp3];simp),hg _ _ _ ⟨rfl,rfl⟩,?_⟩;rintro Gz S4 ze H4 k4 wm l4 ⟨rfl,rfl⟩;refine⟨Z.hide H3 p,_,_,_,wm,l4,step,?_⟩;intro b S5 H5 k5 l5 q5;have HR:∀{S6:af} {H6:Hp},Kp (Z.hide H3 p) H4 H6->Rl K (Z.hide H3 p) S6 H6->H6 p=some (.lst vs)/\Kp Z H3 H6/\Rl K Z S6 H6/\S6 p=none:=λ{S6 H6} k6 l6=>by
   have kk:=(k4.trans k6).dR (Z:=Z) λa z=>.inl z;exact⟨((k4.trans k6).hid p (.inr rfl)).trans hp3,kk,l6.dR (Z:=Z) (λa z=>.inl z) ((l3 _ l2).old.trans kk),(l6.hid p (.inr rfl)).1⟩
  have bl:∀{H6:Hp},SR K H6 (ρ++dw σ js) ze->SR K H6 (fH n none++dw σ js) ze:=λ{H6} z=>by
   have:=SR.blank z;rw[hn]at this;exact this
  cases b with
  |false =>
   rw[if_neg c7];obtain⟨Vy,kk,Vz,VA⟩:=HR k5 l5;exact⟨hlt,bl (wm.mono k5),ys,vs,S5,k2.trans (k3.trans kk),Vy,ry.mono (k3.trans kk),VA,Vz,q5⟩
  |true =>
   rw[if_pos rfl];refine⟨Z.hide H3 p,_,S5,_,wm.mono k5,l5,q5,?_⟩;intro d S6 w H6 k6 r6 l6 q6;obtain⟨zU,HS,zV,HU⟩:=HR (k5.trans k6) l6;have kk:Kp Z H6 (upd H6 p (.lst (vs++[w]))):=by
    refine⟨λb xs e=>?_,λb q u e=>?_,λb z=>?_⟩
    ·rw[bf];exact e;rintro rfl;rw[zU]at e;cases e
    ·rw[bf];exact e;rintro rfl;rw[zU]at e;cases e
    ·rw[bf];rintro rfl;exact jG z
   have hlen:ys.length=vs.length:=ry.len;refine⟨vs,zU,by lia,hlt,bl ((wm.mono (k5.trans k6)).mono kk),ys++[d],vs++[w],S6,k2.trans (k3.trans (HS.trans kk)),dm,(ry.mono (k3.trans (HS.trans kk))).append (.cons (r6.mono kk) .nil),HU,
    ⟨λb u e=>(zV.obj b u e).keep kk (bf (ne3 e HU)),λb z=>?_,zV.old.trans kk⟩,q6⟩
   have hb:b≠p:=λe=>jG (e▸z);rw[bf hb];exact zV.hid b z
 ·have e:i=ds.length:=by lia
  subst e;refine .inl ⟨wk.stop S2 H2 k2 l2 HQ,?_⟩;refine hc (.ref p) (up S2 p (.lst ys)) (.ref p) H2 (k1.trans k2) (.ref p) ⟨λb u e=>?_,λb z=>?_,l2.old⟩ (done ys S2 w2 p hs2)
  ·by_cases hb:b=p
   ·subst hb;rw[av]at e;cases e;exact⟨vs,hp2,ry⟩
   ·rw[aM hb]at e;exact l2.obj b u e
  ·have hb:b≠p:=λe=>jG (e▸z);rw[aM hb];exact l2.hid b z
section
variable{σ:aL}{S:af}{Q:K3}{wi:fq}{js:List Nat}{tt:cI}{te:aG}{Sh:D->aL->Prop}
theorem VB(h:wi σ S λds Al S1=>∃W:Nat->List D->af->Prop,W 0 [] S1/\(∀i ys S,W i ys S->Al S/\ys.length<sizeLine) /\
 (∀i d ys S,ds[i]?=some d->W i ys S->∃ρ,Sh d ρ/\tt (ρ++dw σ js) S λb S2=>if b=true then te (ρ++dw σ js) S2 λy S3=>W (i+1) (ys++[y]) S3 else W (i+1) ys S2)/\∀ys S,W ds.length ys S->cS S ys Q):mi wi Sh tt te js σ S Q:=h
theorem zW{ds:List D}{Al:af->Prop}{S1:af}(p:Nat->Bool)(f:Nat->D)(hz:ds.length<=100000)(hA:Al S1)
 (h:∀i d,ds[i]?=some d->∃ρ,Sh d ρ/\(∀P:Bool->af->Prop,P (p i) S1->tt (ρ++dw σ js) S1 P)/\(p i=true->∀P:K3,P (f i) S1->te (ρ++dw σ js) S1 P)) (q:cS S1 (((ba ds.length).filter p).map f) Q) :
 ∃W:Nat->List D->af->Prop,W 0 [] S1/\(∀i ys S,W i ys S->Al S/\ys.length<sizeLine) /\
 (∀i d ys S,ds[i]?=some d->W i ys S->∃ρ,Sh d ρ/\tt (ρ++dw σ js) S λb S2=>if b=true then te (ρ++dw σ js) S2 λy S3=>W (i+1) (ys++[y]) S3 else W (i+1) ys S2)/\∀ys S,W ds.length ys S->cS S ys Q:=show _ by
 refine⟨λi ys S=>i<=ds.length/\ys=((ba i).filter p).map f/\S=S1,⟨b8 _,rfl,rfl⟩,?_,?_,?_⟩
 ·rintro i ys S ⟨hi,rfl,rfl⟩;refine⟨hA,?_⟩;rw[aB];have:=xV p (ba i);rw[xF]at this;exact cT (cj this (cj hi (cj hz (by decide))))
 ·rintro i d ys S hd ⟨hi,rfl,rfl⟩;obtain⟨ρ,tw,h1,h2⟩:=h i d hd;have hi':=(cu.mp hd).1;refine⟨ρ,tw,h1 _ ?_⟩;cases c:p i with
  |true =>
   rw[if_pos rfl];refine h2 c _ ⟨hi',?_,rfl⟩;rw[DU,oR,cF];simp[c]
  |false =>
   rw[if_neg (by decide)];refine⟨hi',?_,rfl⟩;rw[DU,oR,cF];simp[c]
 ·rintro ys S ⟨_,rfl,rfl⟩;exact q
theorem HV{n:Nat}{f:Nat->D}:((ba n).filter λ_=>true).map f=(ba n).map f:=by rw[List.filter_eq_self.mpr λ_ _=>rfl]
theorem wo{d:D}{P:aL->Prop}(h:P [some d]):∃ρ,mh d ρ/\P ρ:=⟨_,rfl,h⟩
theorem HW{a b:D}{P:aL->Prop}(h:P [some a,some b]):∃ρ,zR (.tup [a,b]) ρ/\P ρ:=⟨_,⟨a,b,rfl,rfl⟩,h⟩
theorem wq{P:Bool->af->Prop}(h:P true S):mf σ S P:=h
end
def jH(as bs:List D):List D:=(as.zip bs).map λp=>.tup [p.1,p.2]
def HX(ta:bZ):fq:=λσ S R=>ta σ S λxs S1=>∃as bs,xs=[.tup as,.tup bs]/\R (jH as bs) (λ_=>True) S1
theorem VC{K:ao}{Z:Zt}{a b:Addr}{xs ys:List V}{as bs:List D}{H1:Hp}(h1:bh K H1 a xs)(r1:aT K H1 as xs)(h2:bh K H1 b ys)(r2:aT K H1 bs ys):Wk K Z (zO K a b) (jH as bs) (λ_=>True) H1:=show _ by
 constructor
 ·intro i d S H k l _ hd;unfold jH at hd;rw[aS]at hd;obtain⟨p,hp,rfl⟩:=dA.mp hd;obtain⟨ha,hb⟩:=Nw.mp hp;obtain⟨x,hx,rx⟩:=r1.at ha;obtain⟨y,hy,ry⟩:=r2.at hb;refine⟨⟨xs,ys,x,y,k.gI h1,k.gI h2,hx,hy⟩,?_⟩;rintro v H' ⟨T,x',y',rfl,hT,rfl,fx,fy⟩;have ex:x'=x:=by
   have:=fx _ (k.gI h1);rw[hx]at this;exact(dG this).symm
  have ey:y'=y:=by
   have:=fy _ (k.gI h2);rw[hy]at this;exact(dG this).symm
  subst ex ey;obtain⟨_,hz⟩:=l.fresh hT;have kn:Kp Z H (upd H T (.tup [x',y'])):=Kp.new hT hz;exact⟨kn,.tup dm (.cons (rx.mono (k.trans kn)) (.cons (ry.mono (k.trans kn)) .nil)),λS' l'=>l'.lay hT,λb hb=>bf λe=>hb (e▸hT)⟩
 ·intro S H k l _;refine⟨xs,ys,k.gI h1,k.gI h2,?_⟩;have e1:=r1.len;have e2:=r2.len;simp only[jH,aB,List.length_zip];lia
section
variable{X:Cx}{W3:bL}{es:List Expr}{kt:Nat}{tp pos p:Pos}{a b:Expr}{ta:bZ}{σ:aL}{S:af}{R:RI}{al:bZ}
theorem VD(hg:Gl X "zip")(hm:X.mg "zip"=none)(ha:eB X W3 [a,b] ta)(hs:starEach [a,b] X.env=[(false,eval a X.env),(false,eval b X.env)]:=by rfl)(hs2:starEach [b] X.env=[(false,eval b X.env)]:=by rfl) :
 gu X W3 (.Tuple es kt tp) (.Call (.Name "zip" p) [a,b] [] pos) (HX ta):=λZ=>PI.imp (Vu hg hm (ha Z) hs hs2) λτ H R kg=>by
 obtain⟨σ,S,R3,hs,hr,ht,hc⟩:=kg;refine⟨σ,S,_,hs,hr,ht,λds S1 vs H1 k1 r1 l1 q1=>?_⟩;obtain⟨as,bs,rfl,q⟩:=q1;cases r1 with
 |cons ra rr =>
  cases rr with
  |cons rb rn =>
   cases rn;cases ra with
   |tup h1 h2 =>
    cases rb with
    |tup h3 h4=>exact⟨_,_,rfl,⟨_,h1⟩,⟨_,h3⟩,hc (jH as bs) _ S1 _ H1 k1 l1 q (VC h1 h2 h3 h4)⟩
def HY(R:RI)(xs:List D)(S:af):Prop:=∃as bs,xs=[.tup as,.tup bs]/\R (jH as bs) (λ_=>True) S
theorem VE(h:al σ S λxs S1=>HY R xs S1):HX al σ S R:=h
theorem VF{as bs:List D}(q:R (jH as bs) (λ_=>True) S):HY R [.tup as,.tup bs] S:=⟨as,bs,rfl,q⟩
end
end E3
namespace EE
open PySem PySem.Spec PyProof.Rows L2
theorem sf:∀{ns:List Int} {us:List Value},Vals (ns.map V.int) us->∃ps:List (Int×Tok),us=ps.map (λp=>.int p.1 p.2)/\ps.map (·.1)=ns
 |[],_,.nil=>⟨[],rfl,rfl⟩
 |n::ns,_,.cons r t=>by
  obtain⟨tk,rfl⟩:=r;obtain⟨ps,rfl,e⟩:=sf t;exact⟨(n,tk)::ps,rfl,by rw[bO,e]⟩
theorem HZ:∀{bs:List Bool} {us:List Value},Vals (bs.map V.bl) us->us=bs.map Value.bool
 |[],_,.nil=>rfl
 |b::bs,_,.cons r t=>by
  cases r;rw[HZ t];rfl
section
variable{X:Cx}
theorem VG(hc:X.calm=true):gE X (.builtin "max") (λxs H Q=>∃(a:Addr) (ns:List Int),xs=[.ref a]/\bg X.K H a (ns.map V.int)/\ns≠[]/\∀M,M∈ns->(∀b∈ns,b<=M)->Q (.int M) H):=show _ by
 intro pins s σ H xs us Q I r h;obtain⟨a,ns,rfl,hq,hne,q⟩:=h;obtain⟨u,rfl,r1⟩:=vals1 r;cases r1;obtain⟨its,rv,p,hz⟩:=I.list hq;obtain⟨ps,rfl,rfl⟩:=sf rv;have hl:0<ps.length:=by
  cases ps with
  |nil=>exact absurd rfl hne
  |cons _ _=>simp
 have num:∀(j:Nat) (hj:j<ps.length),numAt ps.toArray j=(ps[j]).1:=λj hj=>by simp[numAt,hj]
 refine max_intList (xs:=ps.toArray) (I.ok.hd hc) (by have:=p.isList;simpa[intItems]using this) (by simpa using hl) λv h' tk hv k=>?_;obtain⟨t,rfl⟩:=intItems_at hv;have best:=argBest_gt (numAt ps.toArray) (ps.toArray.size-1);have hsz:ps.toArray.size=ps.length:=by simp
 have hlt:argBest (λi j=>decide (numAt ps.toArray i>numAt ps.toArray j)) (ps.toArray.size-1)<ps.length:=by lia
 refine⟨.int (numAt ps.toArray (argBest (λi j=>decide (numAt ps.toArray i>numAt ps.toArray j)) (ps.toArray.size-1))),H,I.kept k,⟨t,rfl⟩,q _ ?_ λb hb=>?_⟩
 ·rw[num _ hlt];exact bM.mpr ⟨_,uG hlt,rfl⟩
 ·obtain⟨p,hp,rfl⟩:=bM.mp hb;obtain⟨j,hj,rfl⟩:=lH hp;have:=best.2 j (by lia);rw[num j hj]at this;exact this
theorem range_any(bs:List Bool):((ba bs.length).any λi=>bs.getD i true)=bs.any id:=by
 rw[gA,uC,uC];constructor
 ·rintro⟨j,hj,h⟩;have hj':=jY.mp hj;rw[cz,bb hj']at h;exact⟨_,uG hj',h⟩
 ·rintro⟨b,hb,h⟩;obtain⟨j,hj,rfl⟩:=lH hb;refine⟨j,jY.mpr hj,?_⟩;rw[cz,bb hj];exact h
theorem VH{prog:Program}{w:World}{A:Around}{bs:List Bool}:TruthOf prog w A (λi v=>(bs.map Value.bool).toArray[i]?=some v) (λi=>bs.getD i true):=by
 intro i v s Q E hP hQ;rw[List.getElem?_toArray,aS]at hP;obtain⟨b,hb,rfl⟩:=dA.mp hP;dsimp only at hQ;rw[cz,hb]at hQ;exact mH hQ
theorem VI(hc:X.calm=true):gE X (.builtin "any") (λxs H Q=>∃(a:Addr) (bs:List Bool),xs=[.ref a]/\bg X.K H a (bs.map V.bl)/\Q (.bl (bs.any id)) H):=show _ by
 intro pins s σ H xs us Q I r h;obtain⟨a,bs,rfl,hq,q⟩:=h;obtain⟨u,rfl,r1⟩:=vals1 r;cases r1;obtain⟨its,rv,p,hz⟩:=I.list hq;obtain rfl:=HZ rv;have pl:=p.isList;have hlt:a<s.heap.objs.size:=by
  obtain⟨_,e,_⟩:=pl;exact bE e
 refine call_any_walk (C2 pl ⟨_,_,_,_,_,_,_,rfl,Walks.list (A:=X.A.in1) (I.ok.hd hc) s.heap.objs.size a (cW hlt) (bs.map Value.bool).toArray,⟨⟨_,c8 _ rfl,rfl,rfl⟩,pl.push _⟩,VH,λh' tk hk=>?_⟩);have hz:(bs.map Value.bool).toArray.size=bs.length:=by simp
 rw[hz,range_any];refine⟨.bl _,H,I.kept λb o e=>hk b o (λhm=>?_) (bx _ e),rfl,q⟩;have e1:b=s.heap.objs.size:=by simpa using hm
 exact absurd (bE e) (by rw[e1];exact jW _)
end
end EE
namespace E3
open PySem PySem.Spec PyProof.Rows L2 EE
section
variable{K:PySem.W.Frag}
theorem VJ{H:Hp}{ns:List Int}{vs:List V}(h:aT K H (ns.map D.int) vs):vs=ns.map V.int:=by
 induction ns generalizing vs with
 |nil=>cases h;rfl
 |cons n ns ih =>
  rw[bO]at h;cases h with
  |cons h t=>cases h;rw[ih t];rfl
theorem VL{H:Hp}{bs:List Bool}{vs:List V}(h:aT K H (bs.map D.bl) vs):vs=bs.map V.bl:=by
 induction bs generalizing vs with
 |nil=>cases h;rfl
 |cons n ns ih =>
  rw[bO]at h;cases h with
  |cons h t=>cases h;rw[ih t];rfl
def H_:List D->af->K3->Prop:=λxs S Q=>∃(x:D) (ns:List Int),xs=[x]/\IsL S x (ns.map D.int)/\ns≠[]/\∀M,M∈ns->(∀b∈ns,b<=M)->Q (.int M) S
theorem VM:ic K H_ (λxs H Q=>∃(a:Addr) (ns:List Int),xs=[.ref a]/\bg K H a (ns.map V.int)/\ns≠[]/\∀M,M∈ns->(∀b∈ns,b<=M)->Q (.int M) H):=show _ by
 intro Z ds S Q3 vs H Q r l h c;obtain⟨x,ns,rfl,hx,hne,q⟩:=h;cases r with
 |cons r rr =>
  cases rr;obtain⟨a,ws,rfl,h1,h2⟩:=hx.down r l;rw[VJ h2]at h1;exact⟨a,ns,rfl,h1,hne,λM h3 h4=>c _ S _ H (Kp.refl _ _) (.int _) l (q M h3 h4)⟩
def Ia:List D->af->K3->Prop:=λxs S Q=>∃i j,xs=[.int i,.int j]/\Q (.int (if j>i then j else i)) S
theorem VN:ic K Ia (λxs H Q=>∃i j,xs=[.int i,.int j]/\Q (.int (if j>i then j else i)) H):=by
 intro Z ds S Q3 vs H Q r l h c;obtain⟨i,j,rfl,q⟩:=h;cases r with
 |cons r rr =>
  cases rr with
  |cons r' rr =>
   cases rr;cases r;cases r';exact⟨i,j,rfl,c _ S _ H (Kp.refl _ _) (.int _) l q⟩
def Ib(f:List Bool->Bool):List D->af->K3->Prop:=λxs S Q=>∃(x:D) (bs:List Bool),xs=[x]/\IsL S x (bs.map D.bl)/\Q (.bl (f bs)) S
theorem VO{f:List Bool->Bool}:ic K (Ib f) (λxs H Q=>∃(a:Addr) (bs:List Bool),xs=[.ref a]/\bg K H a (bs.map V.bl)/\Q (.bl (f bs)) H):=show _ by
 intro Z ds S Q3 vs H Q r l h c;obtain⟨x,bs,rfl,hx,q⟩:=h;cases r with
 |cons r rr =>
  cases rr;obtain⟨a,ws,rfl,h1,h2⟩:=hx.down r l;rw[VL h2]at h1;exact⟨a,bs,rfl,h1,c _ S _ H (Kp.refl _ _) (.bl _) l q⟩
end
section
variable{σ:aL}{S:af}{Q:K3}{ta tb tc:aG}{r r':R3}
theorem VP{a:Addr}{ns:List Int}(hS:S a=some (.lst (ns.map D.int)))(hn:ns≠[])(q:∀M,M∈ns->(∀b∈ns,b<=M)->Q (.int M) S):H_ [.ref a] S Q:=⟨_,ns,rfl,.inl ⟨a,rfl,hS⟩,hn,q⟩
theorem VQ{i j:Int}(q:Q (.int (if j>i then j else i)) S):Ia [.int i,.int j] S Q:=⟨i,j,rfl,q⟩
theorem VR{f:List Bool->Bool}{a:Addr}{bs:List Bool}(hS:S a=some (.lst (bs.map D.bl)))(q:Q (.bl (f bs)) S):Ib f [.ref a] S Q:=⟨_,bs,rfl,.inl ⟨a,rfl,hS⟩,q⟩
end
def Ic(c:cI)(t u:b6):b6:=sL c t u
theorem iW{X:Cx}{W3:bL}{c:Expr}{a b:List Stmt}{tc:cI}{t u:b6}{pos:Pos}(hc:d0 X W3 c tc)(ha:da X W3 a t)(hb:da X W3 b u):eC X W3 (.If c a b pos) (Ic tc t u):=bS hc ha hb
theorem ip{tc:cI}{t u:b6}{n:aL->af->Prop}{rt:K3}{bk ct:aL->af->Prop}{σ:aL}{S:af}(Mid:aL->af->Prop)(h1:∀n':aL->af->Prop,(∀σ S,Mid σ S->n' σ S)->sL tc t u ⟨n',rt,bk,ct⟩ σ S)
 (h2:∀σ S,Mid σ S->n σ S):Ic tc t u ⟨n,rt,bk,ct⟩ σ S:=h1 n h2
def jn(a b:Int):Int:=if a=0∨b=0 then 0 else if b>a then b else a
abbrev cZ:=List (List Int)
def at2(B:cZ)(j k:Nat):Int:=(B.getD j []).getD k 0
def iX(f:Nat->Int)(n:Nat):Int:=(ba n).foldl (λacc j=>max acc (f j)) 0
def dot(row:List Int)(B:cZ)(k:Nat):Int:=iX (λj=>jn (row.getD j 0) (at2 B j k)) row.length
def pP(A B:cZ):cZ:=A.map λrow=>(ba (B.headD []).length).map λk=>dot row B k
structure Mt(m n:Nat)(A:cZ):Prop where
 len:A.length=m
 row:∀r∈A,r.length=n
 num:∀r∈A,∀x∈r,0<=x/\x<=2
theorem zX{f:Nat->Int}{t:Int}:∀(l:List Nat) (z:Int),t<=l.foldl (λacc j=>max acc (f j)) z↔t<=z∨∃j∈l,t<=f j
 |[],z=>by simp
 |j::l,z=>by
  rw[oP,zX l];constructor
  ·rintro(h|⟨i,hi,h⟩)
   ·rcases Int.le_total z (f j) with c|c
    ·rw[Int.max_eq_right c]at h;exact .inr ⟨j,df,h⟩
    ·rw[Int.max_eq_left c]at h;exact .inl h
   ·exact .inr ⟨i,dk _ hi,h⟩
  ·rintro(h|⟨i,hi,h⟩)
   ·exact .inl (by lia)
   ·rcases bF.mp hi with rfl|hi
    ·exact .inl (by lia)
    ·exact .inr ⟨i,hi,h⟩
theorem Ig{f:Nat->Int}{n:Nat}{t:Int}(ht:1<=t):t<=iX f n↔∃j,j<n/\t<=f j:=by
 unfold iX;rw[zX];constructor
 ·rintro(h|⟨j,hj,h⟩)
  ·lia
  ·exact⟨j,jY.mp hj,h⟩
 ·rintro⟨j,hj,h⟩;exact .inr ⟨j,jY.mpr hj,h⟩
theorem Ih{f:Nat->Int}{n:Nat}:0<=iX f n:=by
 unfold iX;rw[zX];exact .inl (DV _)
theorem Ii{f:Nat->Int}{n:Nat}{t:Int}(h0:0<=t)(h:∀j,j<n->f j<=t):iX f n<=t:=by
 rcases Int.lt_or_le t (iX f n) with c|c
 ·obtain⟨j,hj,q⟩:=(Ig (show 1<=t+1 by lia)).mp (show t+1<=iX f n by lia);have:=h j hj;lia
 ·exact c
theorem VS{f:Nat->Int}{n:Nat}{M:Int}(h0:∀j,j<n->0<=f j)(hm:M∈(ba n).map f)(hb:∀b∈(ba n).map f,b<=M):M=iX f n:=show _ by
 obtain⟨j,hj,rfl⟩:=bM.mp hm;have hj:=jY.mp hj;have a:iX f n<=f j:=Ii (h0 j hj) λi hi=>hb _ (bM.mpr ⟨i,jY.mpr hi,rfl⟩);have b:f j<=iX f n:=by
  rcases Int.lt_or_le (f j) 1 with c|c
  ·exact Int.le_trans (show f j<=0 by lia) Ih
  ·exact(Ig c).mpr ⟨j,hj,DV _⟩
 lia
theorem VT{a b:Int}(ha:0<=a)(hb:0<=b):0<=jn a b:=by
 unfold jn
 split
 ·exact DV _
 ·split<;>lia
theorem VU{a b:Int}(ha:a<=2)(hb:b<=2):jn a b<=2:=by
 unfold jn
 split
 ·decide
 ·split<;>lia
theorem getD_mem{l:List Int}{j:Nat}(h:j<l.length):l.getD j 0∈l:=by
 rw[cz,bb h];exact uG h
theorem zY{l:cZ}{j:Nat}(h:j<l.length):l.getD j []∈l:=by
 rw[cz,bb h];exact uG h
theorem zZ{row:List Int}(h:∀x∈row,0<=x/\x<=2)(j:Nat):0<=row.getD j 0/\row.getD j 0<=2:=by
 by_cases hj:j<row.length
 ·exact h _ (getD_mem hj)
 ·rw[cz,dh (by lia)];exact⟨by decide,by decide⟩
theorem Mt.at{m n:Nat}{B:cZ}(h:Mt m n B)(j k:Nat):0<=at2 B j k/\at2 B j k<=2:=by
 unfold at2;by_cases hj:j<B.length
 ·exact zZ (h.num _ (zY hj)) k
 ·rw[cz (l:=B),dh (by lia)];simp
theorem VW{m n:Nat}{B:cZ}{row:List Int}(h:Mt m n B)(hr:∀x∈row,0<=x/\x<=2)(k:Nat):0<=dot row B k/\dot row B k<=2 :=
 ⟨Ih,Ii (by decide) λj _=>VU (zZ hr j).2 (h.at j k).2⟩
theorem Mt.head{m n:Nat}{B:cZ}(h:Mt m n B)(hm:0<m):(B.headD []).length=n:=by
 cases B with
 |nil =>
  have:=h.len;simp at this;lia
 |cons r _=>exact h.row r df
theorem Mt.cmp{m n p:Nat}{A B:cZ}(hA:Mt m n A)(hB:Mt n p B)(hn:0<n):Mt m p (pP A B):=show _ by
 refine⟨by rw[pP,aB];exact hA.len,λr hr=>?_,λr hr x hx=>?_⟩
 ·obtain⟨row,_,rfl⟩:=bM.mp hr;rw[aB,xF,hB.head hn]
 ·obtain⟨row,hrow,rfl⟩:=bM.mp hr;obtain⟨k,_,rfl⟩:=bM.mp hx;exact VW hB (hA.num row hrow) k
def cC(r:List Int):D:=.tup (r.map D.int)
def iq(A:cZ):D:=.tup (A.map cC)
def fO(f t:Str)(A:cZ):D:=.tup [.str f,.str t,iq A]
theorem VX{x a b:Int}:memD (.int x) [.int a,.int b]=decide (a=x∨b=x):=by
 rw[gA];simp[memD,inV,vD,iL]
theorem VY(r:List Int):D.fM (r.map D.int)=true:=D.ny.mpr λd hd=>by
 obtain⟨x,_,rfl⟩:=bM.mp hd;rfl
theorem VZ(r:List Int):dC (D.cA (r.map D.int))<=1:=by
 rw[D.kC];refine tf λd hd=>?_;obtain⟨e,he,rfl⟩:=bM.mp hd;obtain⟨x,_,rfl⟩:=bM.mp he;simp[D.dt,bN]
theorem V0(f t:Str)(A:cZ):(fO f t A).pure=true:=by
 have h:D.fM (A.map cC)=true:=D.ny.mpr λd hd=>by
  obtain⟨r,_,rfl⟩:=bM.mp hd;simp only[cC,D.pure];exact VY r
 simp only[fO,iq,D.pure,D.fM,h,jU]
theorem V1(f t:Str)(A:cZ):bN (fO f t A).dt<=10:=by
 have h:dC (D.cA (A.map cC))<=3:=by
  rw[D.kC];refine tf λd hd=>?_;obtain⟨e,he,rfl⟩:=bM.mp hd;obtain⟨r,_,rfl⟩:=bM.mp he;have:=VZ r;simp only[cC,D.dt,bN];lia
 simp only[fO,iq,D.dt,D.cA,bN,dC];lia
section
variable{S:af}{Q:K3}{f t:Str}{A:cZ}{r:List Int}{R:RI}
theorem V2(q:Q (.int (r.length:Int)) S):sS [cC r] S Q:=⟨_,r.map D.int,rfl,.inr rfl,by rw[aB];exact q⟩
theorem V3(q:R (A.map cC) (λ_=>True) S):zt R (iq A) S:=⟨_,rfl,q⟩
theorem V4{k:Nat}{i:Int}(e:i=(k:Int))(hk:k<A.length)(q:Q (cC (A.getD k [])) S):nz (iq A) (.int i) S Q:=by
 subst e;refine⟨A.map cC,_,_,rfl,rfl,eV ?_,q⟩;rw[aS,cz,bb hk];rfl
end
section
variable{P:Program}{w:World}{K:PySem.W.Frag}{mg:Str->Option Value}{base:Heap}{x:Str}{st:Stmt}{N ps:List Str}{k:Nat}
def pQ(A:List D->af->(List D->Prop)->(Addr->Prop)->Prop):aK:=λds S Q W=>A ds S (λys=>cS S ys Q) λC=>∀a,W C a S
theorem _root_.EE.aA.pQ{A:List D->af->(List D->Prop)->(Addr->Prop)->Prop}(h:aA K mg x st ps)(S:aW N ps (ak st))(len:∀ds S q qx,A ds S q qx->ds.length=ps.length)
 (hbody:∀(f:Addr) (cdv:Value) (Ar:Around) (outer:List Env) (s:Shared) (H:Hp) (E:XK) (ds:List D) (S:af) (q:List D->Prop) (qx:Addr->Prop),bR k (Ar.deeper (envOfC x (ak st) s.heap.objs.size f cdv))->A ds S q qx ->
  ∃t,da (cY (cc P w) P w K mg base N x (ak st) f cdv Ar outer s H E) (λ_ C _ S'=>Sub S S'/\qx C) (aR st) t /\
   t {nx:=λ_ _=>False,rt:=λd S'=>∃p ys,d=.ref p/\S p=none/\Sub S S'/\S' p=some (.lst ys)/\q ys} (dU N ds) S):aq P w K mg base (k+1) x ps (pQ A):=show _ by
 have C:aq P w K mg base (k+1) x ps (λds S Q E=>∃q qx,A ds S q qx/\(∀d S',(∃p ys,d=.ref p/\S p=none/\Sub S S'/\S' p=some (.lst ys)/\q ys)->Q d S')/\∀C a S',Sub S S'/\qx C->E C a S'):=by
  refine h.vQ S (λvs H Q E cB=>by obtain⟨q,qx,z,_⟩:=cB;exact len _ _ _ _ z) λf cdv Ar outer s H E ds S3 Q E3 hr ⟨q,qx,z,hq,hx⟩=>?_;obtain⟨t,h1,h2⟩:=hbody f cdv Ar outer s H E ds S3 _ _ hr z;refine⟨t,λd S'=>∃p ys,d=.ref p/\S3 p=none/\Sub S3 S'/\S' p=some (.lst ys)/\q ys,λC _ S'=>Sub S3 S'/\qx C,h1,?_,hq,hx⟩;have e:(λ(_:aL) (_:af)=>False)=λ(_:aL) (S':af)=>∃p ys,D.non=.ref p/\S3 p=none/\Sub S3 S'/\S' p=some (.lst ys)/\q ys:=by
   funext _ S';refine propext ⟨eI,λz=>?_⟩;obtain⟨p,ys,z,_⟩:=z;cases z
  rw[<-e];exact h2
 refine C.zF.imp λds S Q E z=>⟨_,_,z,λd S1 ⟨p,ys,e,hp,hs,hp1,hq⟩=>⟨up S p (.lst ys),?_,?_⟩,λC a S1 hx=>⟨S,hx.1,hx.2 a⟩⟩
 ·intro a o ha;by_cases c:a=p
  ·subst c;rw[av]at ha;cases ha;exact hp1
  ·rw[aM c]at ha;exact hs a o ha
 ·subst e;exact hq p hp
end
def z0(tk tv:aG):aG:=λσ S Q=>tk σ S λx S1=>tv σ S1 λy S2=>∃key,x=kD key/\∀p,S2 p=none->Q (.ref p) (up S2 p (.bp [(key,y)]))
theorem V5{K:ao}{Z:Zt}{tk tv:aG}{τ:L2.St}{H:Hp}{Q:VK}(h:lE K Z (z0 tk tv) τ H Q):Fp [(sO K tk,sO K tv)] τ H Q:=show _ by
 obtain⟨σ,S,Q3,hs,hr,ht,hc⟩:=h;intro p hp;obtain⟨hsp,jG⟩:=hr.fresh hp;have kp:Kp Z H (upd H p (.dK [])):=Kp.new hp jG;have l0:Rl K Z S (upd H p (.dK [])):=hr.lay hp;refine⟨Z.hide (upd H p (.dK [])) p,σ,S,_,hs.mono kp,l0.hide hsp (by rw[dm];simp),ht,?_⟩;intro x S1 v H1 k1 r1 l1 q1;refine⟨Z.hide (upd H p (.dK [])) p,σ,S1,_,(hs.mono kp).mono k1,l1,q1,?_⟩;intro y S2 w H2 k2 r2 l2 q2;obtain⟨key,rfl,q2⟩:=q2;have kk:=(k1.trans k2).dR (Z:=Z) λa z=>.inl z;have V6:=l2.dR (Z:=Z) (λa z=>.inl z) (l0.old.trans kk);have hp2:H2 p=some (.dK []):=((k1.trans k2).hid p (.inr rfl)).trans dm;have V7:S2 p=none:=(l2.hid p (.inr rfl)).1;have ev:v=kV key:=vA (r1.mono k2);have kw:Kp Z H2 (upd H2 p (.dK [(key,w)])):=by
  refine⟨λb xs e=>?_,λb q u e=>?_,λb z=>?_⟩
  ·rw[bf];exact e;rintro rfl;rw[hp2]at e;cases e
  ·rw[bf];exact e;rintro rfl;rw[hp2]at e;cases e
  ·rw[bf];rintro rfl;exact jG z
 refine⟨hp2,[(key,w)],by rw[ev];rfl,(by decide:1<=15),?_⟩;refine hc (.ref p) (up S2 p (.bp [(key,y)])) (.ref p) (upd H2 p (.dK [(key,w)])) (kp.trans (kk.trans kw)) (.ref p) ?_ (q2 p V7);exact V6.put kw jG ⟨_,dm,.cons ⟨rfl,r2.mono kw⟩ .nil⟩
theorem V8{X:Cx}{W3:bL}{k v:Expr}{tk tv:aG}{pos:Pos}(hk:aH X c_ k tk)(hv:aH X c_ v tv):aH X W3 (.Dict [some k] [v] pos) (z0 tk tv):=λZ =>
 PE.imp (Rt (Rr hk.ex hv.ex Rq) rfl rfl (by simp) (by decide:1<=15)) λ_ _ _ h=>V5 h
theorem V9{σ:aL}{S:af}{Q:K3}{tk tv:aG}(h:tk σ S λx S1=>tv σ S1 λy S2=>∃key,x=kD key/\∀p,S2 p=none->Q (.ref p) (up S2 p (.bp [(key,y)]))):z0 tk tv σ S Q:=h
inductive mj(E:List (Str×Str))(a:Str):Str->Prop where
 |refl:mj E a a
 |step {x y:Str}:mj E a x->(x,y)∈E->mj E a y
open Classical in
def tx(E:List (Str×Str))(a x:Str):Bool:=decide (mj E a x)
theorem V_{E:List (Str×Str)}{a x:Str}:tx E a x=true↔mj E a x:=by
 unfold tx;exact@decide_eq_true_iff _ (Classical.propDecidable _)
theorem pR{α:Type}[DecidableEq α]:∀{ks ns:List α},ks.Nodup->(∀x∈ks,x∈ns)->ks.length<=ns.length
 |[],_,_,_=>b8 _
 |k::ks,ns,h,hs=>by
  have hk:=hs k df;have h1:=Nx hk;have h2:0<ns.length:=Ny hk;have h3:=pR (ks:=ks) (ns:=ns.erase k) (jf.mp h).2 λx hx=>by
   have hne:x≠k:=λe=>(jf.mp h).1 (e▸hx);exact(Nz hne).mpr (hs x (dk _ hx))
  simp only[bC];lia
structure iY(E:List (Str×Str))(ns:List Str)(a:Str)(ks ps:List Str):Prop where
 nd:ks.Nodup
 top:a∈ks
 ok:∀x∈ks,mj E a x
 sub:∀x∈ps,x∈ks
 nm:∀x∈ks,x∈ns
 shut:∀x∈ks,x∉ps->∀y,(x,y)∈E->y∈ks
theorem iY.start{E:List (Str×Str)}{ns:List Str}{a:Str}(h:a∈ns):iY E ns a [a] [a] :=
 ⟨by simp,by simp,λx hx=>by rw[dO.mp hx];exact .refl,λx hx=>hx,λx hx=>by rw[dO.mp hx];exact h,λx hx hn=>absurd hx hn⟩
theorem iY.len{E:List (Str×Str)}{ns:List Str}{a:Str}{ks ps:List Str}(h:iY E ns a ks ps):ks.length<=ns.length:=pR h.nd h.nm
theorem iY.all{E:List (Str×Str)}{ns:List Str}{a:Str}{ks:List Str}(h:iY E ns a ks [])(x:Str):x∈ks↔mj E a x:=by
 refine⟨h.ok x,λr=>?_⟩
 induction r with
 |refl=>exact h.top
 |step _ e ih=>exact h.shut _ ih (by simp) _ e
structure jI(E:List (Str×Str))(ns:List Str)(a s:Str)(D ks ps:List Str):Prop where
 nd:ks.Nodup
 top:a∈ks
 ok:∀x∈ks,mj E a x
 me:s∈ks
 sub:∀x∈ps,x∈ks
 nm:∀x∈ks,x∈ns
 shut:∀x∈ks,x∉ps->x≠s->∀y,(x,y)∈E->y∈ks
 did:∀y∈D,y∈ks
theorem iY.pop{E:List (Str×Str)}{ns:List Str}{a s:Str}{ks ps:List Str}(h:iY E ns a ks (ps++[s])):jI E ns a s [] ks ps :=
 ⟨h.nd,h.top,h.ok,h.sub s (by simp),λx hx=>h.sub x (lu _ hx),h.nm,λx hx h1 h2=>h.shut x hx (by simp[h1,h2]),λy hy=>by simp at hy⟩
theorem jI.old{E:List (Str×Str)}{ns:List Str}{a s y:Str}{D ks ps:List Str}(h:jI E ns a s D ks ps)(hy:y∈ks):jI E ns a s (D++[y]) ks ps :=
 ⟨h.nd,h.top,h.ok,h.me,h.sub,h.nm,h.shut,λz hz=>by
  rcases cR.mp hz with q|q
  ·exact h.did z q
  ·rw[dO.mp q];exact hy⟩
theorem jI.new{E:List (Str×Str)}{ns:List Str}{a s y:Str}{D ks ps:List Str}(h:jI E ns a s D ks ps)(hE:(s,y)∈E)(hn:y∈ns)(hy:y∉ks):jI E ns a s (D++[y]) (ks++[y]) (ps++[y]):=show _ by
 refine⟨?_,by simp[h.top],λx hx=>?_,by simp[h.me],λx hx=>?_,λx hx=>?_,λx hx h1 h2 z hz=>?_,λz hz=>?_⟩
 ·rw[NA];refine⟨h.nd,by simp,λp hp q hq=>?_⟩;rw[dO.mp hq];exact λe=>hy (e▸hp)
 ·rcases cR.mp hx with q|q
  ·exact h.ok x q
  ·rw[dO.mp q];exact .step (h.ok s h.me) hE
 ·rcases cR.mp hx with q|q
  ·exact lu _ (h.sub x q)
  ·exact fG _ q
 ·rcases cR.mp hx with q|q
  ·exact h.nm x q
  ·rw[dO.mp q];exact hn
 ·rcases cR.mp hx with q|q
  ·exact lu _ (h.shut x q (λz=>h1 (lu _ z)) h2 z hz)
  ·exact absurd (fG _ q) h1
 ·rcases cR.mp hz with q|q
  ·exact lu _ (h.did z q)
  ·exact fG _ q
theorem jI.done{E:List (Str×Str)}{ns:List Str}{a s:Str}{D ks ps:List Str}(h:jI E ns a s D ks ps)(hD:∀y,(s,y)∈E->y∈D):iY E ns a ks ps :=
 ⟨h.nd,h.top,h.ok,h.sub,h.nm,λx hx h1 y hy=>by
  by_cases e:x=s
  ·subst e;exact h.did y (hD y hy)
  ·exact h.shut x hx h1 e y hy⟩
def eX(ks:List Str):List (Key×D):=ks.map λx=>(Sum.inr x,D.bl true)
theorem Ij(ks:List Str)(x:Str):(cm (eX ks) (.inr x)).isSome=decide (x∈ks):=show _ by
 have e:(eX ks).map (·.1)=ks.map Sum.inr:=by unfold eX;rw[fe];rfl
 rw[gA,decide_eq_true_iff,Option.isSome_iff_ne_none,ne_eq,Vb,e,Classical.not_not];constructor
 ·intro h;obtain⟨y,hy,q⟩:=bM.mp h;exact CP q▸hy
 ·intro h;exact bM.mpr ⟨x,h,rfl⟩
theorem V'{ks:List Str}{x:Str}(h:x∉ks):putD (eX ks) (.inr x) (.bl true)=eX (ks++[x]):=by
 rw[HL]
 ·unfold eX;rw[cF];rfl
 ·intro z;unfold eX at z;rw[fe]at z;obtain⟨y,hy,q⟩:=bM.mp z;exact h (CP q▸hy)
theorem Wa{names:List Str}{p:Str->Bool}:((ba names.length).filter λi=>p (names.getD i "")).map (λi=>D.str (names.getD i ""))=(names.filter p).map D.str:=show _ by
 have e:names=(ba names.length).map λi=>names.getD i "":=by
  apply iE;intro i;rw[aS];by_cases hi:i<names.length
  ·rw[jl hi,bb hi];simp[cz,hi]
  ·rw[dh (by lia),dh (by simpa using hi)];rfl
 conv=>rhs;rw[e,List.filter_map,fe]
 rfl
end E3
namespace EE
open PySem PySem.Spec PyProof.Rows L2
end EE
namespace E3
open PySem PySem.Spec PyProof.Rows L2 EE
end E3
namespace EE
open PySem PySem.Spec PyProof.Rows L2
def Wb(σ:List Str)(v:Str):List Str:=if v∈σ then σ else σ++[v]
def met(vs:List Str):List Str:=vs.foldl Wb []
end EE
namespace E3
open PySem PySem.Spec PyProof.Rows L2 EE
end E3
namespace EE
open PySem PySem.Spec PyProof.Rows L2
def Ik(K:ao)(a:Addr)(n:Nat):It :=
 ⟨λi H=>i<n/\∃xs,bg K H a xs/\xs.length=n,λi H x H'=>H'=H/\∀xs,bg K H a xs->xs[n-1-i]?=some x,λi _=>n<=i⟩
theorem Wc{P:Program}{w:World}{K:ao}{tg:Expr}(a it:Addr)(n:Nat):Turn P w K tg (Ik K a n) [it] it (λi h=>i<=n/\h.IsRevIter it a ((n:Int)-1-(i:Int))) where
 mem:=show _ by simp
 obj:=λi h st b hb=>by
  have e:b=it:=by simpa using hb
  subst e;obtain⟨_,o,e,c,d⟩:=st;exact⟨o,e,λv z=>by rw[d]at z;cases z⟩
 keep:=λi h h' st k=>let⟨hi,o,ho,r⟩:=st;⟨hi,o,k it (by simp) o ho,r⟩
 item:=by
  intro X hP hw hK hc i pins s σ H E I hf st hg;subst hP hw hK;obtain⟨hi,xs,hq,hn⟩:=hg;obtain⟨its,rv,p,hz⟩:=I.list hq;have hl:=rv.length;have hx:xs[n-1-i]?=some xs[n-1-i]:=bb (by lia);obtain⟨u,hu,ru⟩:=rv.get hx;obtain⟨f0,f1,f2,f3,f4,f5⟩:=hf it (by simp);have e1:(n:Int)-1-(i:Int)=((n-1-i:Nat):Int):=by lia
  have st2:=st.2;rw[e1]at st2;refine wpAny_pyNext_rev_item st2 p.isList (x:=u) (by simpa using hu) λh' st' sb=>?_;have I1:Inv X pins σ H {s with heap:=h'}:=I.turned (t':=s.toks) (λb o hb e=>(sb.2 b hb).trans e) f0 f1 f3 f4 f5;obtain⟨o,e,c,d⟩:=id st';have e2:((n-1-i:Nat):Int)-1=(n:Int)-1-((i+1:Nat):Int):=by lia
  refine⟨u,rfl,rO (s:={s with heap:=h'}) e c d (by decide) ⟨xs[n-1-i],H,I1,ru,⟨rfl,λys hy=>by rw[I.uR hy hq];exact hx⟩,⟨hi,?_⟩,λb hb=>(hf b hb).1⟩⟩;rw[<-e2];exact st'
 done:=by
  intro X hP hw hK hc i pins s σ H E I hf st hg;subst hP hw hK;obtain⟨f0,f1,f2,f3,f4,f5⟩:=hf it (by simp);have hg':n<=i:=hg;have e1:(n:Int)-1-(i:Int)=-1:=by have:=st.1;lia
  have st2:=st.2;rw[e1]at st2;exact wpAny_pyNext_rev_end (I.ok.hd hc) st2 λh' eb=>⟨rfl,I.turned (t':=s.toks) (λb o hb e=>eb b o hb e) f0 f1 f3 f4 f5⟩
 self:=λ_ _ _ _ _ st h=>NB st.2 h
def Wd(K:ao)(te:TA):TI:=λσ H R=>te σ H λvs H1=>∃a xs,vs=[.ref a]/\bg K H1 a xs/\R (Ik K a xs.length) H1
theorem We{X:Cx}{tg a:Expr}{ta:TA}{p pos:Pos}(hg:Gl X "reversed")(hm:X.mg "reversed"=none)(ha:PA X [a] ta)(hs:starEach [a] X.env=[(false,eval a X.env)]:=by rfl):PI X tg (.Call (.Name "reversed" p) [a] [] pos) (Wd X.K ta):=show _ by
 intro pins s σ H R I h;refine Call_ (jr I hg hm FO (mJ (aF (ha pos pins s σ H _ I h) λus s1 ⟨vs,H1,I1,r1,q1⟩=>?_) hs rfl));obtain⟨b,xs,e,hq,q⟩:=q1;subst e;cases r1 with
 |cons r rr =>
  cases rr;cases r;obtain⟨its,rv,pt,hz⟩:=I1.list hq;have hl:=rv.length;refine call_reversed_list pt.isList ?_;have I2:Inv X pins σ H1 {s1 with heap:=s1.heap.push (revObj b ((its.toArray.size:Int)-1))}:=I1.kept (t':=s1.toks) λc o e=>bx _ e;have st:(s1.heap.push (revObj b ((its.toArray.size:Int)-1))).IsRevIter s1.heap.objs.size b ((its.toArray.size:Int)-1):=⟨_,c8 _ rfl,rfl,rfl⟩;refine NB st ?_;have e1:(its.toArray.size:Int)-1=(xs.length:Int)-1-((0:Nat):Int):=by simp only[bU];lia
  refine⟨s1.heap.objs.size,[s1.heap.objs.size],_,_,H1,rfl,I2,Wc b _ xs.length,⟨b8 _,by rw[<-e1];exact st⟩,λc hc=>?_,q⟩;have e:c=s1.heap.objs.size:=by simpa using hc
  subst e;exact I1.ki (aV _) (I1.hok.fresh (aV _))
end EE
namespace E3
open PySem PySem.Spec PyProof.Rows L2 EE
section
variable{X:Cx}{W3:bL}{tg:Expr}{pos:Pos}
def Il(ta:bZ):fq:=λσ S R=>ta σ S λxs S1=>∃a ds,xs=[.ref a]/\S1 a=some (.lst ds)/\R ds.reverse (λS=>S a=some (.lst ds)) S1
theorem Io{a:Expr}{ta:bZ}{p:Pos}(hg:Gl X "reversed")(hm:X.mg "reversed"=none)(ha:eB X W3 [a] ta)(hs:starEach [a] X.env=[(false,eval a X.env)]:=by rfl):gu X W3 tg (.Call (.Name "reversed" p) [a] [] pos) (Il ta) :=
 λZ=>PI.imp (We hg hm (ha Z) hs) λτ H R cB=>by
 obtain⟨σ,S,R3,hs,hr,ht,hc⟩:=cB;refine⟨σ,S,_,hs,hr,ht,λxs S1 vm H1 k1 r1 l1 q1=>?_⟩;obtain⟨b,ds,rfl,e,q⟩:=q1;cases r1 with
 |cons r1 rr =>
  cases rr;cases r1;obtain⟨vs,h1,h2⟩:=l1.obj b _ e;have hl:=h2.len;refine⟨b,vs,rfl,bg.of h1,hc _ _ S1 _ H1 k1 l1 q ⟨λi d S2 H2 k2 l2 al hd=>?_,λS2 H2 k2 l2 al=>?_⟩⟩
  ·have hi:i<ds.length:=show _ by
    have:=(cu.mp hd).1;simpa using this
   rw[Nd hi]at hd;obtain⟨ws,h3,h4⟩:=l2.obj b _ al;have Wf:=h4.len;obtain⟨v,hv,rv⟩:=h4.at hd;rw[hl]at hv;refine⟨⟨by lia,ws,bg.of h3,by lia⟩,λv' H' y=>?_⟩;obtain⟨rfl,y⟩:=y;have:=y ws (bg.of h3);rw[hv]at this;cases this;exact⟨Kp.refl _ _,rv,λ_ z=>z,λ_ _=>rfl⟩
  ·show vs.length<=ds.reverse.length;rw[jk,hl];exact aV _
end
end E3
namespace EE
open PySem PySem.Spec PyProof.Rows L2
theorem mn:∀(names:List (Str×NameKind)) (n:Nat) (acc:List (Str×Addr)),cellsFrom n names acc=cellsFrom n names []++acc
 |[],_,_=>rfl
 |(y,k)::r,n,acc=>by
  unfold cellsFrom
  split
  ·rw[mn r (n+1) ((y,n)::acc),mn r (n+1) [(y,n)],iF];rfl
  ·exact mn r n acc
theorem z_:∀(names:List (Str×NameKind)) (n:Nat) (y:Str) (c:Addr),(y,c)∈cellsFrom n names []->(y,NameKind.cell)∈names
 |[],_,_,_,h=>by cases h
 |(x,k)::r,n,y,c,h=>by
  unfold cellsFrom at h
  split at h
  ·rename_i hk
   rw[mn,cR]at h;rcases h with h|h
   ·exact dk _ (z_ r _ y c h)
   ·have e:(y,c)=(x,n):=show _ by simpa using h
    cases e;rw[show k=NameKind.cell by simpa using hk];exact df
  ·exact dk _ (z_ r n y c h)
theorem Wg{M:Model}{A:Around}{E:Value->Shared->Prop}{s:Shared}{scope:Scope}{globals:Addr}{cl:List (Str×Addr)}{qual:Str}{func:Option Addr}{code:Value}{env:Env}{Q:Env->Shared->Prop}(_hk:scope.kind=.function)
 (hQ:∀h',h'.Ns s.heap.objs.size (λ_=>none)->(∀b o,s.heap.get? b=some o->h'.get? b=some o)->CellsOk h' (s.heap.objs.size+1) (cellsFrom (s.heap.objs.size+1) scope.names []) ->
  Q {scope:=scope,locals:=s.heap.objs.size,globals:=globals,cells:=cellsFrom (s.heap.objs.size+1) scope.names cl,qual:=qual,func:=func,code:=env.code,frame:=env.frame,builtins:=env.builtins} {s with heap:=h'}) :
 wpAny M A (newFunctionEnv scope globals cl [] qual func code (some env)) Q E s:=show _ by
 simp only[newFunctionEnv,M4,if_true];refine ai (wpAny_alloc ?_);refine ai (wpAny_layCells _ (λname kind cells=>by cases hkc:kind==NameKind.cell<;>simp[hkc]) _ _ _ _ ?_);have ok:=cellsFrom_ok scope.names (s.heap.push {cls:=.type "dict",data:=.dict #[]}) (s.heap.objs.size+1) [] ⟨λ_ _ hm=>(nomatch hm),List.Pairwise.nil⟩ (by rw[g9];exact aV _);rw[g9]at ok;rw[show({s with heap:=s.heap.push {cls:=.type "dict",data:=.dict #[]}}:Shared).heap.objs.size=s.heap.objs.size+1 from g9 ..];refine ai (aE (aE ?_));exact hQ _ ((Heap.Ns.new s.heap (.type "dict")).keeps (pushCells_keeps _ _)) (λb o e=>pushCells_keeps _ _ b o (bx _ e)) ok
structure fA(cb:Scope)(O M:List Str)(scope:Scope):Prop where
 kind:scope.kind=.function
 cell:∀y∈scope.names,y.2=.cell->scope.names.lookup y.1=some .cell
 names:∀y∈scope.names,y.2=.local->scope.names.lookup y.1=some .local
 free:∀y∈scope.names,y.2=.free->cb.names.lookup y.1=some .cell
 nd:(O++M).Nodup
 mine:∀y∈M,scope.names.lookup y=some .free
def cf(X:Cx)(scope:Scope)(C:Addr)(N:List Str)(fp:List Addr)(pins:List (Addr×Obj))(s:Shared)(H:Hp):Cx :=
 {yT X scope C N fp pins s H with env:=compEnvC scope (cellsFrom (C+1) scope.names (ia scope X.env)) C X.env,fn:=λy=>scope.names.lookup y==some .cell}
section
variable{X:Cx}{pins:List (Addr×Obj)}{σ:L2.St}{H:Hp}{s:Shared}{scope:Scope}{O M:List Str}{js:List Nat}{C:Addr}{fp:List Addr}
theorem fA.cells(S:fA X.env.scope O M scope)(I:Inv X pins σ H s):∀y∈scope.names,y.2=.free->∃c,X.env.cells.lookup y.1=some c:=λy hy hk=>I.ok.has y.1 (.inl (S.free y hy hk))
theorem fA.sub(S:fA X.env.scope O M scope)(I:Inv X pins σ H s){y:Str}{c:Addr}(e:(ia scope X.env).lookup y=some c):X.env.cells.lookup y=some c :=
 FF scope.names [] (S.cells I) (λ_ _ h=>by simp at h) y c e
theorem fA.get(S:fA X.env.scope O M scope)(I:Inv X pins σ H s){s1:Shared}(ok:CellsOk s1.heap (C+1) (cellsFrom (C+1) scope.names [])){y:Str}{c:Addr}(e:(cellsFrom (C+1) scope.names (ia scope X.env)).lookup y=some c) :
 ((y,c)∈cellsFrom (C+1) scope.names []/\(s1.heap.IsCell c none/\C+1<=c))∨X.env.cells.lookup y=some c:=show _ by
 rw[mn,xW]at e;cases q:(cellsFrom (C+1) scope.names []).lookup y with
 |none=>rw[q]at e;exact .inr (S.sub I (by simpa using e))
 |some c' =>
  rw[q]at e;have e':c'=c:=by simpa using e
  subst e';exact .inl ⟨jg q,ok.empty y c' (jg q)⟩
theorem Wh{s1:Shared}{m:Str->Option Value}(S:fA X.env.scope O M scope)(hc:X.calm=true)(I:Inv X pins σ H s)(hjs:∀(k:Nat) (y:Str),M[k]?=some y->∃j:Nat,js[k]?=some j/\X.N[j]?=some y)(hlen:js.length=M.length)
 (hf:∀b∈fp,dZ X pins H b) (hfl:∀b∈fp,b<s.heap.objs.size) (hC:s.heap.objs.size<=C) (hn:s1.heap.Ns C m) (hk:∀b o,s.heap.get? b=some o->s1.heap.get? b=some o)
 (ok:CellsOk s1.heap (C+1) (cellsFrom (C+1) scope.names [])) (hos:s1.os=s.os) (hg:AllBare s1.gens) :
 Inv (cf X scope C (O++M) fp pins s H) [] (fH O.length none++pick σ js) H s1:=show _ by
 have Wi:∀b∈fp,b∉frs X.stack:=λb hb z=>by
  obtain⟨f0,f1,f2,_⟩:=hf b hb;rcases bF.mp (I.uN b z) with e|e
  ·exact f1 e
  ·exact f2 e
 have cellK:∀(c:Addr) (v:Option Value),s.heap.IsCell c v->s1.heap.IsCell c v:=λc v cB=>by obtain⟨o,e,d⟩:=cB;exact⟨o,hk c o e,d⟩
 have old:∀{y:Str} {c:Addr},X.env.cells.lookup y=some c->c<C+1:=λ{y c} e=>by
  obtain⟨v,o,q,_⟩:=I.cell y c e;exact Nat.lt_succ_of_lt (dM (bE q) hC)
 have some_of:∀{y:Str},((∃c,(cellsFrom (C+1) scope.names []).lookup y=some c)∨∃c,(ia scope X.env).lookup y=some c)->∃c,(cellsFrom (C+1) scope.names (ia scope X.env)).lookup y=some c:=λ{y} h=>by
  rw[mn,xW];cases q:(cellsFrom (C+1) scope.names []).lookup y with
  |some c=>exact⟨c,by simp⟩
  |none =>
   rcases h with⟨c,h⟩|⟨c,h⟩
   ·rw[q]at h;cases h
   ·exact⟨c,by simpa using h⟩
 refine⟨⟨I.ok.mod,S.kind,I.ok.glob,I.ok.blt,hC,λy z c h1 h2=>?_,λy hy=>?_,λy c h e=>?_,λ_=>I.ok.hd hc,I.ok.frames,.inl rfl,λb hb=>?_,I.bs,
  cj I.ok.gD I.sz,λb o e hb=>?_,Wi,I.stack,I.uO⟩,hos,hg,Un.kept hk,⟨m,hn,λi y v h1 h2 h3=>?_⟩,λy c e=>?_,I.hok.fresh hC,λy c e=>?_,λp hp=>?_,I.hok.kept hk,?_⟩
 ·rcases S.get I ok h1 with⟨m1,g1⟩|o1<;>rcases S.get I ok h2 with⟨m2,g2⟩|o2
  ·exact name_of_addr ok.apart m1 m2
  ·exact absurd g1.2 (Nat.not_le.mpr (old o2))
  ·exact absurd g2.2 (Nat.not_le.mpr (old o1))
  ·exact I.ok.inj y z c o1 o2
 ·have hy':(relabel scope X.env).names.lookup y=some .cell∨(relabel scope X.env).names.lookup y=some .free:=hy;have cl:(y,NameKind.cell)∈scope.names->∃c,(cellsFrom (C+1) scope.names []).lookup y=some c:=λmm =>
   Dd.mp (xx _ _ _ (.inl (S.cell _ mm rfl)))
  have fr:(y,NameKind.cell)∈scope.names∨(y,NameKind.free)∈scope.names:=by
   rcases hy' with h|h
   ·obtain⟨k',mm,e|e⟩:=FH h
    ·rw[<-e]at mm;exact .inl mm
    ·rw[e.1]at mm;exact .inr mm
   ·obtain⟨k',mm,e|e⟩:=FH h
    ·rw[<-e]at mm;exact .inr mm
    ·exact absurd e.2 (by intro z;cases z)
  rcases fr with fr|fr
  ·exact some_of (.inl (cl fr))
  ·exact some_of (.inr (yS scope.names [] y (.inl fr)))
 ·have h':scope.names.lookup y=some .cell:=by simpa[cf]using h
  obtain⟨c',q⟩:=Dd.mp (xx scope.names (C+1) [] (.inl h'));have e':(cellsFrom (C+1) scope.names (ia scope X.env)).lookup y=some c:=e;rw[mn,xW,q]at e';have e2:c'=c:=by simpa using e'
  subst e2;exact cj hC (oJ (ok.empty y c' (jg q)).2)
 ·obtain⟨f0,f1,f2,f3,f4,f5⟩:=hf b hb;refine⟨cW (dM (hfl b hb) hC),λy c e=>?_⟩;rcases S.get I ok e with⟨_,h⟩|h
  ·exact λz=>jW _ (dM (dM (hfl b hb) hC) (z▸oJ h.2))
  ·exact f4 y c h
 ·obtain⟨f0,f1,f2,f3,f4,f5⟩:=hf b hb;rcases f3 with f3|f3
  ·exact I.ok.lN b o e f3
  ·exact absurd (bE e) (Nat.not_lt.mpr (cj I.ok.gD f3))
 ·have Aa:(O++M)[i]?=some y:=h1;by_cases hi:i<O.length
  ·rw[oM (by simpa using hi),MM,if_pos hi]at h2;have h2':(none:Option V)=some v:=dG h2;cases h2'
  ·have hge:O.length<=i:=M1 hi;rw[rm hge]at Aa;rw[rm (by simpa using hge),MP]at h2;obtain⟨j,ej,eN⟩:=hjs _ y Aa;have Wj:σ[j]?=some (some v):=by
    unfold pick at h2;rw[aS,ej]at h2;have z:(σ[j]?).getD none=some v:=by simpa using h2
    cases q:σ[j]? with
    |none=>rw[q]at z;cases z
    |some o=>rw[q]at z;rw[show o=some v from z]
   have hfree:=S.mine y (dg Aa);have hcell:X.env.kindOf y=some .cell:=S.free (y,.free) (jg hfree) rfl;obtain⟨m0,_,hl0⟩:=I.loc;obtain⟨u,r,l⟩:=hl0 j y v eN Wj (.inr (.inl hcell));refine⟨u,r,.inr ⟨.inl (RE I.ok.kind hcell hfree),?_⟩⟩;obtain⟨c',e'⟩:=yS (env:=X.env) scope.names [] y (.inl (jg hfree));have e2:=S.sub I (show(ia scope X.env).lookup y=some c' from e');have e3:(cellsFrom (C+1) scope.names (ia scope X.env)).lookup y=some c':=by
    rw[mn,xW];cases q:(cellsFrom (C+1) scope.names []).lookup y with
    |none=>exact e'
    |some c2 =>
     have:=S.cell _ (z_ _ _ _ _ (jg q)) rfl;rw[hfree]at this;cases this
   rcases l with⟨z,_⟩|⟨_,c,hcc,hic⟩
   ·rw[hcell]at z;cases z
   ·rw[hcc]at e2;have:c=c':=dG e2;subst this;exact⟨c,e3,cellK c _ hic⟩
 ·rcases S.get I ok e with⟨_,h⟩|h
  ·exact⟨none,h.1⟩
  ·obtain⟨v,h⟩:=I.cell y c h;exact⟨v,cellK c v h⟩
 ·rcases S.get I ok e with⟨_,h⟩|h
  ·exact I.hok.fresh (cj hC (oJ h.2))
  ·exact I.fJ y c h
 ·have hp':p∈X.pn++pins:=by simpa[cf,yT]using hp
  obtain⟨e,n,ne,nf,d⟩:=I.pin p hp';refine⟨hk _ _ e,n,cW (dM (bE e) hC),λz=>?_,d⟩;rcases bF.mp (I.uN p.1 z) with q|q
  ·exact ne q
  ·exact nf q
 ·show(fH O.length none++pick σ js).length=(O++M).length;simp[pick,hlen]
theorem Ip{N:List Str}{hZ:List (Addr×Obj)}{σ':L2.St}{H':Hp}{s':Shared}{h':Heap}(I:Inv X pins σ H s)(hf:∀b∈fp,dZ X pins H b)(J:Inv (cf X scope C N fp pins s H) hZ σ' H' s')
 (hC:s.heap.objs.size<=C) (hs:fF C s'.heap h'):Inv X pins σ H' {s' with heap:=h'}:=show _ by
 have u0:Un (frs X.stack) fp H H' s.heap s'.heap:=J.base;have nC:∀b o,s.heap.get? b=some o->b≠C:=λb o e z=>absurd (bE e) (by rw[z];exact Nat.not_lt.mpr hC);have u:Un (frs X.stack) fp H H' s.heap h':=⟨λb o e n hb hx=>(hs.2 b (nC b o e)).trans (u0.keep b o e n hb hx),λb o e n hb hx=>let⟨sl,q⟩:=u0.slot b o e n hb hx;⟨sl,(hs.2 b (nC b o e)).trans q⟩,u0.free,
  λb o e hx=>let⟨o',q⟩:=u0.there b o e hx;⟨o',(hs.2 b (nC b o e)).trans q⟩,u0.tups,u0.gi,u0.hX⟩
 have fC:H' C=none:=J.free;have hok:b9 X.prog X.w H' h':=λb ob e=>(J.hok b ob e).stay (λc w hc q=>(hs.2 c (λz=>by
  subst z;rcases hc with z|z
  ·rw[<-z,fC]at e;cases e
  ·rw[fC]at z;cases z)).trans q) (λ_ q=>q) λ_ _ q=>q
 exact I.rM (s':={s' with heap:=h'}) (ch:=fp) J.os u hok J.bare λb hb=>by
  obtain⟨f0,f1,f2,f3,f4,f5⟩:=hf b hb;exact⟨f3,f1,f4,f5⟩
end
section
variable{X:Cx}{elt iter tg:Expr}{ifs:List Expr}{pos:Pos}{scope:Scope}{O M:List Str}{js:List Nat}{wi:TI}{g:TG}{tt:TT}{te:TE}
theorem Iq{pins:List (Addr×Obj)}{σ:L2.St}{H2:Hp}{s2:Shared}{it D:Addr}{fp:List Addr}{tn:Nat->Heap->Prop}{J:It}{W:Nat->Nat->L2.St->Hp->Prop}{Qe:Hp->Prop}{R:Addr->Result->Shared->Prop}{E:Value->Shared->Prop}{m0:Nat}
 (S:fA X.env.scope O M scope) (hc:X.calm=true) (hjs:∀(k:Nat) (y:Str),M[k]?=some y->∃j:Nat,js[k]?=some j/\X.N[j]?=some y) (hlen:js.length=M.length)
 (hg:∀(C:Addr) (fp:List Addr) (pins:List (Addr×Obj)) (s:Shared) (H:Hp),PG (cf X scope C (O++M) fp pins s H) tg g)
 (ht:∀(C:Addr) (fp:List Addr) (pins:List (Addr×Obj)) (s:Shared) (H:Hp),nG (cf X scope C (O++M) fp pins s H) ifs tt)
 (he:∀(C:Addr) (fp:List Addr) (pins:List (Addr×Obj)) (s:Shared) (H:Hp),PE (cf X scope C (O++M) fp pins s H) elt te)
 (I:Inv X pins σ H2 s2) (T:Turn X.prog X.w X.K tg J fp it tn) (st:tn 0 s2.heap) (hf:∀b∈fp,dZ X pins H2 b) (w0:W 0 m0 (fH O.length none++pick σ js) H2)
 (turn:∀i m τ H3,W i m τ H3->(J.stop i H3/\Qe H3)∨(J.go i H3/\∃N:L2.St->Hp->Prop,(∀bz H',N bz H'->∃m',m'<m/\W (i+1) m' bz H')/\∀v H',J.lU i H3 v H' ->
  g v τ H' λbz H4=>tt bz H4 λb H5=>if b=true then te bz H5 λy H6=>∃ys,H6 D=some (.lst ys)/\ys.length<sizeLine/\N bz (upd H6 D (.lst (ys++[y]))) else N bz H5))
 (fin:∀(C:Addr) (s':Shared) (H':Hp) (hZ:List (Addr×Obj)) (σ':L2.St),s2.heap.objs.size<=C->Inv (cf X scope C (O++M) fp pins s2 H2) hZ σ' H' s'->Qe H'->R C (.ok .next) s') :
 wpAny (model X.prog X.w) X.A (newFunctionEnv scope X.env.globals (ia scope X.env) [] X.env.qual none .none (some X.env)) (λcenv s4 =>
  codeAny (model X.prog X.w) X.A (.compStart (.ListComp elt [⟨tg,iter,ifs,0⟩] scope pos) 0 (.ref it) (.ref D) {cenv with scope:=relabel scope X.env}) (R cenv.locals) s4) E s2:=show _ by
 refine Wg S.kind λh1 hns old ok=>?_;have hfl:∀b∈fp,b<s2.heap.objs.size:=λb hb=>by
  obtain⟨o,e,_⟩:=T.obj 0 _ st b hb;exact bE e
 have I4:Inv (cf X scope s2.heap.objs.size (O++M) fp pins s2 H2) [] (fH O.length none++pick σ js) H2 {s2 with heap:=h1} :=
  Wh S hc I hjs hlen hf hfl (aV _) hns old ok rfl I.bare
 have nH:tn 0 h1:=T.keep _ _ _ st λb hb o e=>old b o e;have mX:∀{H':Hp},(∀b∈fp,H' b=none)->∀b∈fp,dZ (cf X scope s2.heap.objs.size (O++M) fp pins s2 H2) [] H' b:=λ{H'} hn b hb=>by
  obtain⟨f0,f1,f2,f3,f4,f5⟩:=hf b hb;refine⟨hn b hb,cW (hfl b hb),I4.ok.lP b hb,.inl hb,λy c e=>?_,λp hp=>f5 p ?_⟩
  ·rcases S.get (s1:={s2 with heap:=h1}) I ok e with⟨_,h⟩|h
   ·exact λz=>jW _ (dM (hfl b hb) (z▸oJ h.2))
   ·exact f4 y c h
  ·simpa[cf,yT]using hp
 have loop:∀s3:Shared,s3={s2 with heap:=h1} ->
  codeAny (model X.prog X.w) X.A (.compLoop (.ListComp elt [⟨tg,iter,ifs,0⟩] scope pos) 0 (.ref it) (.ref D) (compEnvC scope (cellsFrom (s2.heap.objs.size+1) scope.names (ia scope X.env)) s2.heap.objs.size X.env)) (R s2.heap.objs.size) s3:=by
  rintro s3 rfl;refine Vf (λn s'=>∃(i:Nat) (τ:L2.St) (H':Hp),Inv (cf X scope s2.heap.objs.size (O++M) fp pins s2 H2) [] τ H' s'/\tn i s'.heap/\(∀b∈fp,H' b=none)/\W i n τ H') ?_ m0
   ⟨0,_,H2,I4,nH,λb hb=>(hf b hb).1,w0⟩
  rintro n s5 ⟨i,τ,H5,I5,oX,uZ,w5⟩;rcases turn i n τ H5 w5 with⟨stop,qe⟩|⟨go,N,hN,step⟩
  ·refine aF (T.done (cf X scope s2.heap.objs.size (O++M) fp pins s2 H2) rfl rfl rfl rfl i [] s5 _ H5 (λ_ _=>False) I5 (mX uZ) oX stop) λr s6 ⟨hr,I6⟩=>?_;subst hr;exact fin _ s6 H5 [] _ (aV _) I6 qe
  ·refine aF (T.item (cf X scope s2.heap.objs.size (O++M) fp pins s2 H2) rfl rfl rfl rfl i [] s5 _ H5 (λ_ _=>False) I5 (mX uZ) oX go) λr s6 ⟨u,hr,h6⟩=>?_;subst hr;refine aF h6 λ_ s7 ⟨v,H7,I7,r7,y7,Ab,Wl⟩=>?_;have Wm:=I7.pinned (mX Wl) (T.obj _ _ Ab);have back:∀{σ9:L2.St} {H9:Hp} {s9:Shared},Inv (cf X scope s2.heap.objs.size (O++M) fp pins s2 H2) ([]++rP fp s7.heap) σ9 H9 s9->N σ9 H9 ->
    ∃m,m<n/\∃(i:Nat) (τ:L2.St) (H':Hp),Inv (cf X scope s2.heap.objs.size (O++M) fp pins s2 H2) [] τ H' s9/\tn i s9.heap/\(∀b∈fp,H' b=none)/\W i m τ H':=by
    intro σ9 H9 s9 I9 n9;obtain⟨m',hm,Wn⟩:=hN σ9 H9 n9;refine⟨m',hm,i+1,σ9,H9,I9.uY,T.keep _ _ _ Ab λb hb o e=>(I9.pin (b,o) (fG _ (fG _ (uX hb e)))).1,λb hb=>?_,Wn⟩;obtain⟨o,e,d⟩:=T.obj _ _ Ab b hb;exact(I9.pin (b,o) (fG _ (fG _ (uX hb e)))).2.1
   refine aF (hg s2.heap.objs.size fp pins s2 H2 _ s7 _ H7 v u _ Wm r7 (step v H7 y7)) λ_ s8 ⟨Wo,H8,I8,q8⟩=>?_;refine aF (ht s2.heap.objs.size fp pins s2 H2 _ s8 _ H8 _ I8 q8) λok s9 ⟨H9,I9,q9⟩=>?_;cases ok with
   |false=>exact back I9 q9
   |true =>
    refine aF (he s2.heap.objs.size fp pins s2 H2 _ s9 _ H9 _ I9 q9) λyv Wp ⟨y,Wq,Wr,r10,ys,hD,hz,Ws⟩=>?_;refine aF (dq (X:=cf X scope s2.heap.objs.size (O++M) fp pins s2 H2) _ Wp _ Wq (.ref D) [y] (.ref D) [yv] (λ_ H'=>N Wo H') Wr rfl (.cons r10 .nil) ⟨D,ys,y,rfl,rfl,hD,hz,Ws⟩) λ_ s11 ⟨_,H11,Wt,_,Wu⟩=>?_;exact back Wt Wu
 exact codeAny_compStart_list (loop _ rfl) (eZ (T.self X.A 0 _ _ _ nH (loop _ rfl)) (λ_ _ z=>z) λ_ _ z=>z)
theorem Wv(S:fA X.env.scope O M scope)(hc:X.calm=true)(hjs:∀(k:Nat) (y:Str),M[k]?=some y->∃j:Nat,js[k]?=some j/\X.N[j]?=some y)(hlen:js.length=M.length)(hi:PI X tg iter wi)
 (hg:∀(C:Addr) (fp:List Addr) (pins:List (Addr×Obj)) (s:Shared) (H:Hp),PG (cf X scope C (O++M) fp pins s H) tg g)
 (ht:∀(C:Addr) (fp:List Addr) (pins:List (Addr×Obj)) (s:Shared) (H:Hp),nG (cf X scope C (O++M) fp pins s H) ifs tt)
 (he:∀(C:Addr) (fp:List Addr) (pins:List (Addr×Obj)) (s:Shared) (H:Hp),PE (cf X scope C (O++M) fp pins s H) elt te) (hs:∀v,foldedSetIterable iter X.env v=pure v:=by intro _;rfl) :
 PE X (.ListComp elt [⟨tg,iter,ifs,0⟩] scope pos) (wc wi g tt te O.length js):=show _ by
 intro pins s σ H Q I h;rw[eval_ListComp];refine NC (use:=none) rfl hs (FD (S.cells I)) S.kind S.names (aF (hi pins s σ H _ I h) λxv s1 h1=>aF h1 λitv s2 h2=>?_);obtain⟨it,fp,tn,J,H1,rfl,I2,T,st2,f2,q⟩:=h2;refine ji ?_ (by show 0<=sizeLine;decide);have hD:H1 s2.heap.objs.size=none:=I2.hok.fresh (aV _);obtain⟨W,⟨m0,w0⟩,turn⟩:=q _ hD;have I3:Inv X pins σ (upd H1 s2.heap.objs.size (.lst [])) {s2 with heap:=s2.heap.push {cls:=.type "list",data:=.seq ([]:List Value).toArray}}:=I2.ve (t':=s2.toks) .nil (b8 _);have iJ:∀b∈fp,dZ X pins (upd H1 s2.heap.objs.size (.lst [])) b:=λb hb=>by
  obtain⟨f0,f⟩:=f2 b hb;obtain⟨o,e,_⟩:=T.obj 0 _ st2 b hb;exact⟨by rw[bf (cW (bE e))];exact f0,f⟩
 refine Iq (Qe:=λH'=>Q (.ref s2.heap.objs.size) H') (R:=λC=>compPost (model X.prog X.w) X.A X.xe none (EP X pins σ Q) (.ref s2.heap.objs.size) C) S hc hjs hlen hg ht he I3 T (T.keep _ _ _ st2 λb hb o e=>bx _ e) iJ w0 turn ?_;intro C s' H' hZ σ' hC Jv qe;obtain⟨m,hn,_⟩:=Jv.loc;exact⟨m,hn,λh' hs'=>⟨.ref _,H',Ip I3 iJ Jv hC hs',rfl,qe⟩⟩
end
end EE
namespace E3
open PySem PySem.Spec PyProof.Rows L2 EE
section
variable{σ:aL}{Q:K3}{js:List Nat}{te:aG}{Sh:D->aL->Prop}
theorem Ac{ds:List D}{Al:af->Prop}{S1:af}(f:Nat->D)(hz:ds.length<=10000)(hA:∀S,Sub S1 S->Al S)
 (h:∀i d S,ds[i]?=some d->Sub S1 S->∃ρ,Sh d ρ/\∀P:K3,(∀S',Sub S S'->P (f i) S')->te (ρ++dw σ js) S P) (q:∀S,Sub S1 S->cS S ((ba ds.length).map f) Q) :
 ∃W:Nat->List D->af->Prop,W 0 [] S1/\(∀i ys S,W i ys S->Al S/\ys.length<sizeLine) /\
 (∀i d ys S,ds[i]?=some d->W i ys S->∃ρ,Sh d ρ/\mf (ρ++dw σ js) S λb S2=>if b=true then te (ρ++dw σ js) S2 λy S3=>W (i+1) (ys++[y]) S3 else W (i+1) ys S2)/\∀ys S,W ds.length ys S->cS S ys Q:=show _ by
 refine⟨λi ys S=>i<=ds.length/\ys=(ba i).map f/\Sub S1 S,⟨b8 _,rfl,Sub.refl _⟩,?_,?_,?_⟩
 ·rintro i ys S ⟨hi,rfl,hs⟩;refine⟨hA S hs,?_⟩;rw[aB,xF];exact um (cj hi hz) (by decide)
 ·rintro i d ys S hd ⟨hi,rfl,hs⟩;obtain⟨ρ,tw,h⟩:=h i d S hd hs;refine⟨ρ,tw,wq ?_⟩;rw[if_pos rfl];refine h _ λS' hs'=>⟨(cu.mp hd).1,?_,hs.trans hs'⟩;rw[DU,cF];rfl
 ·rintro ys S ⟨_,rfl,hs⟩;exact q S hs
end
end E3
namespace EE
open PySem PySem.Spec PyProof.Rows L2
section
variable{X:Cx}
def Ir(K:ao):R2:=λx y H Q=>∃a b xs ys,x=.ref a/\y=.ref b/\bh K H a xs/\bh K H b ys/\xs.length+ys.length<=sizeLine /\
 (xs=[]->Q (.ref b) H)/\(xs≠[]->(ys=[]->Q (.ref a) H)/\(ys≠[]->∀p,H p=none->Q (.ref p) (upd H p (.tup (xs++ys)))))
theorem Ad:cO X (binaryOp .Add) (Ir X.K):=show _ by
 intro pins s σ H x y v u Q I rx ry h;obtain⟨a,b,xs,ys,rfl,rfl,ha,hb,hz,q0,q1⟩:=h;by_cases hx:xs=[]
 ·cases rx;cases ry;obtain⟨its,r1,p1,_⟩:=I.tuple ha;obtain⟨its2,r2,p2,_⟩:=I.tuple hb;have hi:its=[]:=r1.vb.mpr hx;obtain⟨⟨cls,dd,data,sl⟩,ho,hc,n,hd⟩:=id p1;obtain⟨⟨cls2,dd2,data2,sl2⟩,ho2,hc2,n2,hd2⟩:=id p2;simp only at hc hd hc2 hd2;subst hc hd hc2 hd2;exact De ⟨_,ho,rfl⟩ ⟨_,ho2,rfl⟩ Df Dg Dh Di (Dj _ _)
   (tuple_addW0 a b its.toArray its2.toArray n n2 dd dd2 sl sl2 (by simp[hi])) ⟨ho,ho2,⟨.ref b,H,I,rfl,q0 hx⟩⟩
 ·exact yD pins s σ H (.ref a) (.ref b) v u Q I rx ry ⟨a,b,xs,ys,rfl,rfl,ha,hb,hx,hz,(q1 hx).1,(q1 hx).2⟩
end
end EE
namespace E3
open PySem PySem.Spec PyProof.Rows L2 EE
section
variable{K:PySem.W.Frag}{S:af}{Q:K3}
def Iu:R3:=λx y S Q=>∃ds es,x=.tup ds/\y=.tup es/\ds.length+es.length<=sizeLine/\Q (.tup (ds++es)) S
theorem Ae:du K Iu (Ir K):=show _ by
 intro Z x y S Q3 v w H Q rx ry l h c;obtain⟨ds,es,rfl,rfl,hz,q⟩:=h;cases rx with
 |@tup a vs _ h1 h2 =>
  cases ry with
  |@tup b ws _ h3 h4 =>
   refine⟨a,b,vs,ws,rfl,rfl,h1,h3,by rw[<-h2.len,<-h4.len];exact hz,λe=>?_,λ_=>⟨λe=>?_,λ_=>tup.down q (h2.append h4) l c⟩⟩
   ·subst e;cases h2;rw[mT]at q;exact c _ S _ H (Kp.refl _ _) (.tup h3 h4) l q
   ·subst e;cases h4;rw[f_]at q;exact c _ S _ H (Kp.refl _ _) (.tup h1 h2) l q
theorem Af{ds es:List D}(hz:ds.length+es.length<=sizeLine)(q:Q (.tup (ds++es)) S):Iu (.tup ds) (.tup es) S Q:=⟨ds,es,rfl,rfl,hz,q⟩
theorem Ww{xs:List Str}{z:Str}(q:Q (.bl (!decide (z∈xs))) S):vH true (.str z) (.tup (xs.map D.str)) S Q :=
 ⟨_,.inr rfl,rfl,zj xs,by rw[zi,if_pos rfl];exact q⟩
end
section
variable{σ:aL}{S:af}{R:RI}{al:bZ}
def Iv(R:RI)(xs:List D)(S:af):Prop:=∃a ds,xs=[.ref a]/\S a=some (.lst ds)/\R ds.reverse (λS=>S a=some (.lst ds)) S
theorem Wx(h:al σ S λxs S1=>Iv R xs S1):Il al σ S R:=h
theorem Iw{a:Addr}{ds:List D}(hS:S a=some (.lst ds))(q:R ds.reverse (λS=>S a=some (.lst ds)) S):Iv R [.ref a] S:=⟨a,ds,rfl,hS,q⟩
end
def Sy.base:Sy->Option Str
 | .name x=>some x
 | .left a=>a.base
 | .right a=>a.base
 |_=>none
def tz:Option Str->D
 |some x=>.str x
 |none=>.non
def Sy.bases(a:Sy):List Str:=a.base.toList
def Sy.pp(ext:Sy->List Str):Sy->List Str->List (Sy×List Str)
 | .fork a b c,k=>[(a,k),(b,k++ext a),(c,k)]
 |s,k=>s.parts.map λa=>(a,k)
mutual
def Sy.cg(ext:Sy->List Str):Sy->List Str->List (Sy×List Str)
 | .name x,k=>[(.name x,k)]
 | .aX,k=>[(.aX,k)]
 | .pair a b,k=>(.pair a b,k)::(a.cg ext k++b.cg ext k)
 | .left a,k=>(.left a,k)::a.cg ext k
 | .right a,k=>(.right a,k)::a.cg ext k
 | .fork a b c,k=>(.fork a b c,k)::(a.cg ext k++(b.cg ext (k++ext a)++c.cg ext k))
 | .send x as,k=>(.send x as,k)::Sy.pS ext as k
def Sy.pS(ext:Sy->List Str):List Sy->List Str->List (Sy×List Str)
 |[],_=>[]
 |a::as,k=>a.cg ext k++Sy.pS ext as k
end
def dW(ext:Sy->List Str)(ps:List (Sy×List Str)):List (Sy×List Str):=(ps.map λp=>p.1.cg ext p.2).flatten
theorem Iy(ext:Sy->List Str)(k:List Str):∀as:List Sy,Sy.pS ext as k=dW ext (as.map λa=>(a,k))
 |[]=>rfl
 |a::as=>by rw[Sy.pS,Iy ext k as];rfl
theorem wt(ext:Sy->List Str)(s:Sy)(k:List Str):s.cg ext k=(s,k)::dW ext (s.pp ext k):=by
 cases s<;>simp[Sy.cg,Sy.pp,Sy.parts,dW]
 rw[Iy];simp[dW,Function.comp_def]
theorem Iz(ext:Sy->List Str)(as bs:List (Sy×List Str)):dW ext (as++bs)=dW ext as++dW ext bs:=by simp[dW]
theorem Ag(ext:Sy->List Str)(a:Sy×List Str)(bs:List (Sy×List Str)):dW ext (a::bs)=a.1.cg ext a.2++dW ext bs:=by simp[dW]
theorem Ah(ext:Sy->List Str):∀as:List (Sy×List Str),as.length<=(dW ext as).length
 |[]=>by simp
 |a::as=>by
  have:=Ah ext as;rw[Ag,wt];simp;lia
mutual
theorem Sy.gP(ext:Sy->List Str):∀(s:Sy) (k:List Str),(s.cg ext k).map (·.1)=s.pre
 | .name _,_=>rfl
 | .aX,_=>rfl
 | .pair a b,k=>by simp[Sy.cg,Sy.pre,Sy.gP ext a,Sy.gP ext b]
 | .left a,k=>by simp[Sy.cg,Sy.pre,Sy.gP ext a]
 | .right a,k=>by simp[Sy.cg,Sy.pre,Sy.gP ext a]
 | .fork a b c,k=>by simp[Sy.cg,Sy.pre,Sy.gP ext a,Sy.gP ext b,Sy.gP ext c]
 | .send x as,k=>by simp[Sy.cg,Sy.pre,Sy.IA ext as]
theorem Sy.IA(ext:Sy->List Str):∀(as:List Sy) (k:List Str),(Sy.pS ext as k).map (·.1)=Sy.aZ as
 |[],_=>rfl
 |a::as,k=>by simp[Sy.pS,Sy.aZ,Sy.gP ext a,Sy.IA ext as]
end
def bW(p:Sy×List Str):D:=.tup [p.1.d,.tup (p.2.map D.str)]
def bA(p:Str)(a:Sy)(k:List Str):Int :=
 match a with
 | .aX=>if p∈k then 2 else 1
 | .name x=>if x=p then 1 else 0
 |a=>if a.base=some p then(if p∈k then 2 else 1) else 0
def d9(told:Str->Sy->List Str->Int)(e:Er)(q:Sy×List Str):List (Str×Str×cZ) :=
 match q.1 with
 | .send x as=>[(e.name,x,e.ps.map λp=>as.map λa=>told p a q.2)]
 |_=>[]
def br(g:Str×Str×cZ):D:=fO g.1 g.2.1 g.2.2
def eQ(told:Str->Sy->List Str->Int)(ext:Sy->List Str)(prog:List Er):List (Str×Str×cZ):=(prog.map λe=>((e.body.cg ext []).map (d9 told e)).flatten).flatten
section
variable{K:PySem.W.Frag}{S:af}{Q:K3}
def IB:R3:=λx y S Q=>∃(o:Option Str) (p:Str),x=tz o/\y=.str p/\Q (.bl (!decide (o=some p))) S
theorem Wy:du K IB u4:=show _ by
 intro Z x y S Q3 v w H Q rx ry l h c;obtain⟨o,p,rfl,rfl,q⟩:=h;cases ry;cases o with
 |none =>
  cases rx;refine⟨rfl,?_⟩;have e:decide (V.non=V.str p)=decide ((none:Option Str)=some p):=by simp
  rw[e];exact c _ S _ H (Kp.refl _ _) (.bl _) l q
 |some x =>
  cases rx;refine⟨rfl,?_⟩;have e:decide (V.str x=V.str p)=decide (some x=some p):=by rw[gA];simp
  rw[e];exact c _ S _ H (Kp.refl _ _) (.bl _) l q
theorem Wz{o:Option Str}{p:Str}(q:Q (.bl (!decide (o=some p))) S):IB (tz o) (.str p) S Q:=⟨o,p,rfl,rfl,q⟩
end
end E3
namespace E3
open PySem PySem.Spec PyProof.Rows L2 EE
mutual
theorem Sy.jJ{ar:Str->Option Nat}{ps:List Str}:∀{s:Sy},s.wf ar ps->∀a∈s.pre,a.wf ar ps
 | .name x,h,a,ha=>by simp only[Sy.pre,dO]at ha;subst ha;exact h
 | .aX,h,a,ha=>by simp only[Sy.pre,dO]at ha;subst ha;exact h
 | .pair x y,h,a,ha=>by
  simp only[Sy.pre,bF,cR]at ha;rcases ha with rfl|ha|ha
  ·exact h
  ·simp only[Sy.wf]at h;exact Sy.jJ h.1 a ha
  ·simp only[Sy.wf]at h;exact Sy.jJ h.2 a ha
 | .left x,h,a,ha=>by
  simp only[Sy.pre,bF]at ha;rcases ha with rfl|ha
  ·exact h
  ·simp only[Sy.wf]at h;exact Sy.jJ h a ha
 | .right x,h,a,ha=>by
  simp only[Sy.pre,bF]at ha;rcases ha with rfl|ha
  ·exact h
  ·simp only[Sy.wf]at h;exact Sy.jJ h a ha
 | .fork x y z,h,a,ha=>by
  simp only[Sy.pre,bF,cR]at ha;rcases ha with rfl|ha|ha|ha
  ·exact h
  ·simp only[Sy.wf]at h;exact Sy.jJ h.1 a ha
  ·simp only[Sy.wf]at h;exact Sy.jJ h.2.1 a ha
  ·simp only[Sy.wf]at h;exact Sy.jJ h.2.2 a ha
 | .send x as,h,a,ha=>by
  simp only[Sy.pre,bF]at ha;rcases ha with rfl|ha
  ·exact h
  ·simp only[Sy.wf]at h;exact Sy.IC h.2.2.2 a ha
theorem Sy.IC{ar:Str->Option Nat}{ps:List Str}:∀{as:List Sy},Sy.kG ar ps as->∀a∈Sy.aZ as,a.wf ar ps
 |[],_,a,ha=>by simp[Sy.aZ]at ha
 |x::xs,h,a,ha=>by
  simp only[Sy.aZ,cR]at ha;simp only[Sy.kG]at h;rcases ha with ha|ha
  ·exact Sy.jJ h.1 a ha
  ·exact Sy.IC h.2 a ha
end
theorem WA{ar:Str->Option Nat}{ps:List Str}{s:Sy}(h:s.wf ar ps):s.parts.length<=4:=by
 cases s<;>simp[Sy.parts]
 simp only[Sy.wf]at h;exact h.2.2.1
theorem ID{told:Str->Sy->List Str->Int}{e:Er}:∀l:List (Sy×List Str),((l.map (d9 told e)).flatten).length=((l.map ck).filter λa=>match a with | .send _ _=>true|_=>false).length
 |[]=>rfl
 |(s,k)::l=>by
  have ih:=ID (told:=told) (e:=e) l;rw[bO,xX,aU,bO,ih];cases s<;>simp[d9,Nn]
  lia
theorem WB{told:Str->Sy->List Str->Int}{ext:Sy->List Str}{e:Er}:(((e.body.cg ext []).map (d9 told e)).flatten).length=e.body.sends:=by
 rw[ID,Sy.gP];rfl
theorem IE{told:Str->Sy->List Str->Int}{ext:Sy->List Str}{z:Nat}:∀{prog:List Er},(∀e∈prog,e.body.sends<=z)->(eQ told ext prog).length<=prog.length*z
 |[],_=>by simp[eQ]
 |e::prog,h=>by
  have h1:=WB (told:=told) (ext:=ext) (e:=e);have h0:=h e df;have h2:=IE (told:=told) (ext:=ext) (prog:=prog) λb hb=>h b (dk _ hb);have e1:eQ told ext (e::prog)=((e.body.cg ext []).map (d9 told e)).flatten++eQ told ext prog:=show _ by simp[eQ]
  rw[e1,aU,bC,DW];lia
theorem IF{ext:Sy->List Str}{m:Nat}(he:∀a,(ext a).length<=m):∀(n:Nat) (s:Sy) (k:List Str),s.deep<=n->∀p∈s.cg ext k,p.2.length<=k.length+n*m
 |0,s,k,h,p,hp=>by cases s<;>simp[Sy.deep]at h
 |n+1,s,k,h,p,hp=>by
  rw[wt]at hp;rcases bF.mp hp with rfl|hp
  ·dsimp only;lia
  ·unfold dW at hp;obtain⟨l,hl,hp⟩:=DX.mp hp;obtain⟨⟨a,k'⟩,ha,rfl⟩:=bM.mp hl;have hk:k'.length<=k.length+m/\a.deep<=n:=show _ by
    cases s with
    |fork x y z =>
     simp only[Sy.pp,bF,cN,or_false,uH]at ha;simp only[Sy.deep]at h;have:=he x;rcases ha with⟨rfl,rfl⟩|⟨rfl,rfl⟩|⟨rfl,rfl⟩
     ·exact⟨by lia,by lia⟩
     ·exact⟨by rw[aU];lia,by lia⟩
     ·exact⟨by lia,by lia⟩
    |name x=>simp[Sy.pp,Sy.parts]at ha
    |aX=>simp[Sy.pp,Sy.parts]at ha
    |pair x y =>
     simp only[Sy.pp,Sy.parts,bO,mM,bF,cN,or_false,uH]at ha;simp only[Sy.deep]at h;rcases ha with⟨rfl,rfl⟩|⟨rfl,rfl⟩<;>exact⟨by lia,by lia⟩
    |left x =>
     simp only[Sy.pp,Sy.parts,bO,mM,bF,cN,or_false,uH]at ha;simp only[Sy.deep]at h;obtain⟨rfl,rfl⟩:=ha;exact⟨by lia,by lia⟩
    |right x =>
     simp only[Sy.pp,Sy.parts,bO,mM,bF,cN,or_false,uH]at ha;simp only[Sy.deep]at h;obtain⟨rfl,rfl⟩:=ha;exact⟨by lia,by lia⟩
    |send x as =>
     simp only[Sy.pp,Sy.parts,bM,uH]at ha;obtain⟨b,hb,rfl,rfl⟩:=ha;have:=Sy.HH hb;simp only[Sy.deep]at h;exact⟨by lia,by lia⟩
   have:=IF he n a k' hk.2 p hp;have e:(n+1)*m=n*m+m:=DW n m;lia
theorem WC(a:Sy):a.bases.length<=1:=by
 unfold Sy.bases;cases a.base<;>simp
end E3
namespace CL
section
variable{α:Type}[DecidableEq α]
abbrev Fd(α:Type):=List (α×List Int)
def putN(f:Fd α)(g:α)(w:List Int):Option (Fd α):=if g∈f.map ck then some f else if 40<=f.length then none else some (f++[(g,w)])
def kI:List (Int×α)->Fd α->Option (Fd α)
 |[],f=>some f
 |(n,g)::nb,f=>(putN f g [n]).bind (kI nb)
def put2(fit:α->α->Bool)(cmp:α->α->α)(a:α×List Int):List (Int×α)->Fd α->Option (Fd α)
 |[],f=>some f
 |(n,g)::nb,f=>(if fit a.1 g then putN f (cmp a.1 g) (a.2++[n]) else some f).bind (put2 fit cmp a nb)
def ir(fit:α->α->Bool)(cmp:α->α->α)(nb:List (Int×α)):Nat->Nat->Fd α->Option (Fd α)
 |0,_,f=>some f
 |k+1,place,f=>match f[place]? with
  |none=>some f
  |some a=>(put2 fit cmp a nb f).bind (ir fit cmp nb k (place+1))
def kJ(fit:α->α->Bool)(cmp:α->α->α)(nb:List (Int×α)):Option (Fd α):=(kI nb []).bind (ir fit cmp nb 41 0)
structure Ok(f:Fd α):Prop where
 nd:(f.map ck).Nodup
 len:f.length<=40
theorem Ok.nil:Ok ([]:Fd α):=⟨by simp,by simp⟩
structure Step(f f':Fd α):Prop where
 ok:Ok f'
 pre:∃r,f'=f++r
theorem Step.trans{f g h:Fd α}(a:Step f g)(b:Step g h):Step f h:=by
 obtain⟨r,e⟩:=a.pre;obtain⟨r',e'⟩:=b.pre;exact⟨b.ok,r++r',by rw[e',e,iF]⟩
theorem Step.mem{f g:Fd α}(a:Step f g){x:α}(h:x∈f.map ck):x∈g.map ck:=by
 obtain⟨r,e⟩:=a.pre;rw[e,cF];exact lu _ h
theorem Step.at{f g:Fd α}(a:Step f g){i:Nat}{x:α×List Int}(h:f[i]?=some x):g[i]?=some x:=by
 obtain⟨r,e⟩:=a.pre;rw[e,oM (cu.mp h).1];exact h
theorem wu{f f':Fd α}{g:α}{w:List Int}(h:Ok f)(e:putN f g w=some f'):Step f f'/\g∈f'.map ck:=show _ by
 unfold putN at e
 split at e
 ·rename_i hg
  cases e;exact⟨⟨h,[],by simp⟩,hg⟩
 ·rename_i hg
  split at e
  ·cases e
  ·rename_i hl
   cases e;refine⟨⟨⟨?_,?_⟩,_,rfl⟩,by simp⟩
   ·rw[cF,NA];refine⟨h.nd,by simp,λa ha b hb=>?_⟩;simp only[bO,mM,dO]at hb;subst hb;rintro rfl;exact hg ha
   ·rw[aU,Dw];lia
theorem IG:∀{nb:List (Int×α)} {f f':Fd α},Ok f->kI nb f=some f'->Step f f'/\∀p∈nb,p.2∈f'.map ck
 |[],f,f',h,e=>by cases e;exact⟨⟨h,[],by simp⟩,λp hp=>by cases hp⟩
 |(n,g)::nb,f,f',h,e=>by
  rw[kI,mU]at e;obtain⟨f1,e1,e2⟩:=e;obtain⟨s1,m1⟩:=wu h e1;obtain⟨s2,m2⟩:=IG s1.ok e2;refine⟨s1.trans s2,λp hp=>?_⟩;rcases bF.mp hp with rfl|hp
  ·exact s2.mem m1
  ·exact m2 p hp
variable{fit:α->α->Bool}{cmp:α->α->α}
theorem IH{a:α×List Int}:∀{nb:List (Int×α)} {f f':Fd α},Ok f->put2 fit cmp a nb f=some f'->Step f f'/\∀p∈nb,fit a.1 p.2=true->cmp a.1 p.2∈f'.map ck
 |[],f,f',h,e=>by cases e;exact⟨⟨h,[],by simp⟩,λp hp=>by cases hp⟩
 |(n,g)::nb,f,f',h,e=>by
  rw[put2,mU]at e;obtain⟨f1,e1,e2⟩:=e;have s1:Step f f1/\(fit a.1 g=true->cmp a.1 g∈f1.map ck):=show _ by
   split at e1
   ·obtain⟨s1,m1⟩:=wu h e1;exact⟨s1,λ_=>m1⟩
   ·rename_i hf
    cases e1;exact⟨⟨h,[],by simp⟩,λz=>absurd z hf⟩
  obtain⟨s2,m2⟩:=IH s1.1.ok e2;refine⟨s1.1.trans s2,λp hp hf=>?_⟩;rcases bF.mp hp with rfl|hp
  ·exact s2.mem (s1.2 hf)
  ·exact m2 p hp hf
theorem II{nb:List (Int×α)}:∀{k place:Nat} {f f':Fd α},Ok f->41<=place+k->ir fit cmp nb k place f=some f' ->
 Step f f'/\∀i x,place<=i->f'[i]?=some x->∀p∈nb,fit x.1 p.2=true->cmp x.1 p.2∈f'.map ck
 |0,place,f,f',h,hk,e=>by
  cases e;refine⟨⟨h,[],by simp⟩,λi x hi hx=>?_⟩;have:=(cu.mp hx).1;have:=h.len;lia
 |k+1,place,f,f',h,hk,e=>by
  rw[ir]at e;cases ha:f[place]? with
  |none =>
   rw[ha]at e;cases e;refine⟨⟨h,[],by simp⟩,λi x hi hx=>?_⟩;have h1:=(cu.mp hx).1;have h2:=List.getElem?_eq_none_iff.mp ha;lia
  |some a =>
   rw[ha]at e;dsimp only at e;rw[mU]at e;obtain⟨f1,e1,e2⟩:=e;obtain⟨s1,m1⟩:=IH h e1;obtain⟨s2,m2⟩:=II s1.ok (by lia) e2;refine⟨s1.trans s2,λi x hi hx p hp hf=>?_⟩;by_cases tD:i=place
   ·subst tD;have:=(s1.trans s2).at ha;rw[hx]at this;cases this;exact s2.mem (m1 p hp hf)
   ·exact m2 i x (by lia) hx p hp hf
structure WD(fit:α->α->Bool)(cmp:α->α->α)(nb:List (Int×α))(F:Fd α):Prop where
 ok:Ok F
 own:∀p∈nb,p.2∈F.map ck
 up:∀a∈F.map ck,∀p∈nb,fit a p.2=true->cmp a p.2∈F.map ck
theorem IJ{nb:List (Int×α)}{F:Fd α}(e:kJ fit cmp nb=some F):WD fit cmp nb F:=show _ by
 unfold kJ at e;rw[mU]at e;obtain⟨f1,e1,e2⟩:=e;obtain⟨s1,m1⟩:=IG Ok.nil e1;obtain⟨s2,m2⟩:=II s1.ok (by lia) e2;refine⟨s2.ok,λp hp=>s2.mem (m1 p hp),λa ha p hp hf=>?_⟩;obtain⟨x,hx,rfl⟩:=bM.mp ha;obtain⟨i,hi,rfl⟩:=lH hx;exact m2 i _ (by lia) (bb hi) p hp hf
theorem pR{β:Type}[DecidableEq β]:∀{l c:List β},l.Nodup->(∀x∈l,x∈c)->l.length<=c.length
 |[],_,_,_=>b8 _
 |x::l,c,h,hs=>by
  have hx:=hs x df;have h1:=pR (l:=l) (c:=c.erase x) (jf.mp h).2 λy hy=>by
   refine(Nz ?_).mpr (hs y (dk _ hy));rintro rfl;exact(jf.mp h).1 hy
  rw[Nx hx]at h1;have:0<c.length:=Ny hx;rw[bC];lia
section
variable{β:Type}[DecidableEq β]{φ:α->β}{Gd:α->Prop}{C:List β}(inj:∀a b,Gd a->Gd b->φ a=φ b->a=b)
include inj
end
theorem WE{nb:List (Int×α)}{k place:Nat}{f:Fd α}(h:f.length<=place):ir fit cmp nb k place f=some f:=by
 cases k with
 |zero=>rfl
 |succ k=>rw[ir,dh h]
section
variable{Pr:α->Prop}
theorem IK{f f':Fd α}{g:α}{w:List Int}(h:∀a∈f.map ck,Pr a)(hg:Pr g)(e:putN f g w=some f'):∀a∈f'.map ck,Pr a:=show _ by
 unfold putN at e
 split at e
 ·cases e;exact h
 ·split at e
  ·cases e
  ·cases e;intro a ha;rw[cF]at ha;rcases cR.mp ha with ha|ha
   ·exact h a ha
   ·simp only[bO,mM,dO]at ha;rw[ha];exact hg
theorem IL:∀{l:List (Int×α)} {f f':Fd α},(∀p∈l,Pr p.2)->(∀a∈f.map ck,Pr a)->kI l f=some f'->∀a∈f'.map ck,Pr a
 |[],f,f',_,h,e=>by cases e;exact h
 |(n,g)::l,f,f',hl,h,e=>by
  rw[kI,mU]at e;obtain⟨f1,e1,e2⟩:=e;exact IL (λp hp=>hl p (dk _ hp)) (IK h (hl (n,g) df) e1) e2
theorem IM{a:α×List Int}:∀{l:List (Int×α)} {f f':Fd α},(∀p∈l,fit a.1 p.2=true->Pr (cmp a.1 p.2))->(∀a∈f.map ck,Pr a)->put2 fit cmp a l f=some f'->∀a∈f'.map ck,Pr a
 |[],f,f',_,h,e=>by cases e;exact h
 |(n,g)::l,f,f',hl,h,e=>by
  rw[put2,mU]at e;obtain⟨f1,e1,e2⟩:=e;refine IM (λp hp=>hl p (dk _ hp)) ?_ e2
  split at e1
  ·rename_i hf
   exact IK h (hl (n,g) df hf) e1
  ·cases e1;exact h
theorem IP{nb:List (Int×α)}(hn:∀a,Pr a->∀p∈nb,fit a p.2=true->Pr (cmp a p.2)):∀{k place:Nat} {f f':Fd α},(∀a∈f.map ck,Pr a)->ir fit cmp nb k place f=some f'->∀a∈f'.map ck,Pr a
 |0,_,f,f',h,e=>by cases e;exact h
 |k+1,place,f,f',h,e=>by
  rw[ir]at e;cases ha:f[place]? with
  |none=>rw[ha]at e;cases e;exact h
  |some a =>
   rw[ha]at e;dsimp only at e;rw[mU]at e;obtain⟨f1,e1,e2⟩:=e;exact IP hn (IM (hn a.1 (h a.1 (j9 (f:=ck) (dg ha)))) h e1) e2
theorem WG{nb:List (Int×α)}{F:Fd α}(h0:∀p∈nb,Pr p.2)(hn:∀a,Pr a->∀p∈nb,fit a p.2=true->Pr (cmp a p.2))(e:kJ fit cmp nb=some F):∀a∈F.map ck,Pr a:=by
 unfold kJ at e;rw[mU]at e;obtain⟨f1,e1,e2⟩:=e;exact IP hn (IL h0 (λa ha=>by simp at ha) e1) e2
end
end
end CL
namespace EE
open PySem PySem.Spec PyProof.Rows L2
abbrev jK(h:Heap)(e it:Addr)(i:Int)(f0 f1 old:Value):Prop :=
 h.get? e=some {cls:=.type "enumerate",dict:=none,data:=.fields #[f0,f1,.ref it,rawInt i,.none,old],slots:=#[]}
def gQ(h:Heap)(e it:Addr)(i:Int):Prop:=∃f0 b old,(f0=.none∨∃a:Nat,f0=rawInt a)/\jK h e it i f0 (.bool b) old
section
variable{prog:Program}{w:World}{A:Around}{E:Value->Shared->Prop}{s:Shared}
theorem WH{M:Model}{a:Addr}{Q:Option Obj->Shared->Prop}(h:Q (s.heap.get? a) s):wpAny M A (loadIfAlive a) Q E s:=λΓ p _=>by
 unfold loadIfAlive;rw[Sem.wp_loadIfAlive];exact h
theorem WI{e it:Addr}{fp:List Addr}{n i:Nat}{P:Nat->Value->Prop}{St:Nat->Heap->Prop}{Q:Value->Shared->Prop}
 (D:Draws prog w A it fp n P St) (he:gQ s.heap e it i) (hst:St i s.heap) (hlt:i<n) (hne:e≠it) (hef:e∉fp)
 (hQ:∀x h' tk,P i x->gQ h' e it ((i:Int)+1)->St (i+1) h' ->
  h'.get? s.heap.objs.size=some {cls:=.type "tuple",data:=.seq #[.int i tk,x]}->h'.objs.size=s.heap.objs.size+1 ->
  (∀b o,b≠e->b≠it->s.heap.get? b=some o->h'.get? b=some o)->Q (.ref s.heap.objs.size) {s with heap:=h',toks:=tk+1}) :
 wpAny (model prog w) A (Builtin.«enumerate.__next__» ⟨[.ref e],[]⟩) (λfin s'=>∃v,fin=.done (.ret v)/\Q v s') E s:=show _ by
 obtain⟨f0,b,old,nI,he⟩:=he;obtain⟨hp,g,d,tk₀,os⟩:=s;show wpAny _ _ (field (.ref e) 2 >>= _) _ _ _;refine ai (c9 he rfl (x:=.ref it) rfl ?_);refine ai (D.item i _ _ _ hlt hst λx h₁ tk hPx hit₁ hs₁=>?_);replace hs₁:fF it hp h₁:=hs₁;have he₁:jK h₁ e it i f0 (.bool b) old:=(hs₁.2 e hne).trans he;show wpAny _ _ (field (.ref e) 3 >>= _) _ _ ⟨h₁,g,d,tk,os⟩;refine ai (c9 he₁ rfl (x:=rawInt i) rfl ?_);show wpAny _ _ (field (.ref e) 4 >>= _) _ _ ⟨h₁,g,d,tk,os⟩;refine ai (c9 he₁ rfl (x:=.none) rfl ?_);show wpAny _ _ (mkInt i >>= _) _ _ ⟨h₁,g,d,tk,os⟩;refine ai (wpAny_mkInt ?_);show wpAny _ _ (setField (.ref e) 3 (rawInt ((i:Int)+1)) >>= _) _ _ ⟨h₁,g,d,tk+1,os⟩;refine ai (hJ he₁ (by simp) λh₂ he₂ hs₂=>?_);replace hs₂:fF e h₁ h₂:=hs₂;replace he₂:jK h₂ e it ((i:Int)+1) f0 (.bool b) old:=he₂;show wpAny _ _ (setField (.ref e) 4 .none >>= _) _ _ ⟨h₂,g,d,tk+1,os⟩;refine ai (hJ he₂ (by simp) λh₃ he₃ hs₃=>?_);replace hs₃:fF e h₂ h₃:=hs₃;replace he₃:jK h₃ e it ((i:Int)+1) f0 (.bool b) old:=he₃;show wpAny _ _ (newTuple [.int i tk,x] >>= _) _ _ ⟨h₃,g,d,tk+1,os⟩;refine ai (wpAny_newTuple ?_);have he₄:jK (h₃.push {cls:=.type "tuple",data:=.seq #[.int i tk,x]}) e it ((i:Int)+1) f0 (.bool b) old:=bx _ he₃;generalize hh₄:h₃.push {cls:=.type "tuple",data:=.seq #[.int i tk,x]}=h₄ at he₄;have hsz:h₃.objs.size=hp.objs.size:=by rw[hs₃.1,hs₂.1,hs₁.1]
 have hel:e<hp.objs.size:=bE he;have ht₄:h₄.get? hp.objs.size=some {cls:=.type "tuple",data:=.seq #[.int i tk,x]}:=by rw[<-hh₄,<-hsz];exact c8 _ rfl
 have hz₄:h₄.objs.size=hp.objs.size+1:=by rw[<-hh₄,g9,hsz]
 have hk₄:∀b o,b≠e->b≠it->hp.get? b=some o->h₄.get? b=some o:=λb o hbe hbi hb=>by
  rw[<-hh₄];exact bx _ (hs₃.extBut b o hbe (hs₂.extBut b o hbe (hs₁.extBut b o hbi hb)))
 have hit₄:St (i+1) h₄:=D.frame _ _ _ hit₁ λb hb o y=>by
  have hbe:b≠e:=λq=>hef (q▸hb);rw[<-hh₄];exact bx _ (hs₃.extBut b o hbe (hs₂.extBut b o hbe y))
 show wpAny _ _ (rC (.ref e) >>= _) _ _ ⟨h₄,g,d,tk+1,os⟩;rw[hsz];clear hh₄ he₃ hs₃ he₂ hs₂ he₁ hs₁ hit₁ hsz h₃ h₂ h₁;have free:wpAny (model prog w) A (do
  rule "enumerate.__next__.owned-tuple-again"
  let old <-field (.ref e) 5
  setField (.ref e) 5 x
  uE (.ref e) (.ref hp.objs.size)
  letGo [old] [.ref hp.objs.size]
  PySem.ret (.ref hp.objs.size)) (λfin s'=>∃v,fin=.done (.ret v)/\Q v s') E ⟨h₄,g,d,tk+1,os⟩:=by
  refine ai (jV ?_);refine ai (c9 he₄ rfl (x:=old) rfl ?_);refine ai (hJ he₄ (by simp) λh₅ he₅ hs₅=>?_);replace hs₅:fF e h₄ h₅:=hs₅;replace he₅:jK h₅ e it ((i:Int)+1) f0 (.bool b) x:=he₅;show wpAny _ _ (uE (.ref e) (.ref hp.objs.size) >>= _) _ _ ⟨h₅,g,d,tk+1,os⟩;refine ai ?_;unfold uE;refine ai (hJ he₅ (by simp) λh₆ he₆ hs₆=>?_);replace hs₆:fF e h₅ h₆:=hs₆;replace he₆:jK h₆ e it ((i:Int)+1) (rawInt hp.objs.size) (.bool b) x:=he₆;refine hJ he₆ (by simp) λh₇ he₇ hs₇=>?_;replace hs₇:fF e h₆ h₇:=hs₇;replace he₇:jK h₇ e it ((i:Int)+1) (rawInt hp.objs.size) (.bool false) x:=he₇;refine ai (uD (aE ⟨_,rfl,hQ x h₇ tk hPx ⟨_,_,_,.inr ⟨_,rfl⟩,he₇⟩ ?_ ?_ ?_ ?_⟩))
  ·exact D.frame _ _ _ hit₄ λb hb o y=>by
    have hbe:b≠e:=λq=>hef (q▸hb);exact hs₇.extBut b o hbe (hs₆.extBut b o hbe (hs₅.extBut b o hbe y))
  ·exact hs₇.extBut _ _ (jZ hel) (hs₆.extBut _ _ (jZ hel) (hs₅.extBut _ _ (jZ hel) ht₄))
  ·rw[hs₇.1,hs₆.1,hs₅.1,hz₄]
  ·exact λb o hbe hbi hb=>hs₇.extBut b o hbe (hs₆.extBut b o hbe (hs₅.extBut b o hbe (hk₄ b o hbe hbi hb)))
 have keep:∀h₅ b',jK h₅ e it ((i:Int)+1) f0 (.bool b') old->fF e h₄ h₅->wpAny (model prog w) A (PySem.ret (.ref hp.objs.size)) (λfin s'=>∃v,fin=.done (.ret v)/\Q v s') E ⟨h₅,g,d,tk+1,os⟩:=λh₅ b' he₅ hs₅=>by
  refine aE ⟨_,rfl,hQ x h₅ tk hPx ⟨_,_,_,nI,he₅⟩ ?_ ?_ ?_ ?_⟩
  ·exact D.frame _ _ _ hit₄ λb hb o y=>by
    have hbe:b≠e:=λq=>hef (q▸hb);exact hs₅.extBut b o hbe y
  ·exact hs₅.extBut _ _ (jZ hel) ht₄
  ·rw[hs₅.1,hz₄]
  ·exact λb o hbe hbi hb=>hs₅.extBut b o hbe (hk₄ b o hbe hbi hb)
 refine ai ?_;unfold rC;refine ai (c9 he₄ rfl (x:=f0) rfl ?_);rcases nI with rfl|⟨a,rfl⟩
 ·refine aE ?_;simp only[if_true];exact free
 ·show wpAny _ _ (loadIfAlive (rD a) >>= _) _ _ _;refine ai (WH ?_);cases hal:h₄.get? (rD a) with
  |none =>
   simp only[hal,Option.isNone_none,if_true];refine aE ?_;simp only[if_true];exact free
  |some o =>
   simp only[hal,Option.isNone_some,iC,if_false];refine ai (c9 he₄ rfl (x:=.bool b) rfl ?_);cases b with
   |true =>
    simp only[bne_self_eq_false,iC,if_false];refine aE ?_;simp only[iC,if_false];exact keep h₄ true he₄ ⟨rfl,λ_ _=>rfl⟩
   |false =>
    rw[if_pos (by decide)];refine ai (hJ he₄ (by simp) λh₅ he₅ hs₅=>?_);refine aE ?_;simp only[iC,if_false];exact keep h₅ true he₅ hs₅
theorem IQ{e it:Addr}{fp:List Addr}{n i:Nat}{P:Nat->Value->Prop}{St:Nat->Heap->Prop}{Q:Option Value->Shared->Prop}
 (D:Draws prog w A.in1 it fp n P St) (he:gQ s.heap e it i) (hst:St i s.heap) (hlt:i<n) (hne:e≠it) (hef:e∉fp)
 (hQ:∀x h' tk,P i x->gQ h' e it ((i:Int)+1)->St (i+1) h' ->
  h'.get? s.heap.objs.size=some {cls:=.type "tuple",data:=.seq #[.int i tk,x]}->h'.objs.size=s.heap.objs.size+1 ->
  (∀b o,b≠e->b≠it->s.heap.get? b=some o->h'.get? b=some o)->Q (some (.ref s.heap.objs.size)) {s with heap:=h',toks:=tk+1}) :
 wpAny (model prog w) A (pyNext (.ref e)) Q E s:=show _ by
 have hT:s.TypeIs (.ref e) "enumerate":=by obtain⟨_,_,_,_,he⟩:=he;exact⟨_,he,rfl⟩
 unfold pyNext;exact ai (oQ (j5 (name:=jh "__next__") hT uI
  (gZ uI hT ND
   (WI D he hst hlt hne hef λx h' tk a b c d k q=>aE (hQ x h' tk a b c d k q)) (NF _))))
theorem IS{e it:Addr}{i:Int}{Q:Option Value->Shared->Prop}(he:gQ s.heap e it i)
 (hd:∀(Q':Value->Shared->Prop) (E':Value->Shared->Prop),(∀h' x,ux it s.heap h'->(∃o,h'.get? x=some o/\o.cls=.type "StopIteration")->E' (.ref x) {s with heap:=h'})->wpAny (model prog w) A.in1 (lF (.ref it)) Q' E' s)
 (hQ:∀h',ux it s.heap h'->Q none {s with heap:=h'}):wpAny (model prog w) A (pyNext (.ref e)) Q E s:=show _ by
 obtain⟨_,_,_,_,he⟩:=he;have hT:s.TypeIs (.ref e) "enumerate":=⟨_,he,rfl⟩;unfold pyNext;refine ai (oQ (j5 (name:=jh "__next__") hT uI
  (gZ uI hT ND ?_ (NF _))))
 show wpAny _ _ (field (.ref e) 2 >>= _) _ _ _;refine ai (c9 he rfl (x:=.ref it) rfl ?_);refine ai (hd _ _ λh' x he' hx'=>?_);obtain⟨o,ho,hc⟩:=hx';refine ai (uf (T:="StopIteration") (b:=true) ⟨o,ho,hc⟩ DF ?_);exact aE (hQ _ he')
theorem tE{e it:Addr}{i:Int}{Q:Value->Shared->Prop}(he:gQ s.heap e it i)(h:Q (.ref e) s):wpAny (model prog w) A (pyIter (.ref e)) Q E s:=show _ by
 obtain⟨_,_,_,_,he⟩:=he;have hT:s.TypeIs (.ref e) "enumerate":=⟨_,he,rfl⟩;refine Nc hT NG (gZ NG hT PySem.F.entry_enumerate_iter ?_ (PySem.F.args_enumerate_iter_1 _));show wpAny _ _ (ret (.ref e)) _ _ s;exact aE ⟨_,rfl,"enumerate",_,hT,uI.lookup,h⟩
theorem IT{tg:Expr}{e it a:Addr}{i:Int}{Q:Unit->Shared->Prop}(he:gQ s.heap e it i)(hQ:∀h',gQ h' e it i->fF e s.heap h'->Q () {s with heap:=h'}) :
 wpAny (model prog w) A (letOwnedTupleGo tg (.ref e) (.ref a)) Q E s:=show _ by
 have h0:=he;obtain⟨f0,b,old,nI,he⟩:=he;have same:Q () s:=hQ s.heap h0 ⟨rfl,λ_ _=>rfl⟩;have go:wpAny (model prog w) A (letOwnedTupleGo (.Tuple [] 0 default) (.ref e) (.ref a)) Q E s:=by
  unfold letOwnedTupleGo;refine ai (wpAny_load he ?_);dsimp only
  split
  ·refine ai (jV ?_);show wpAny _ A (setField (.ref e) 0 .none) Q E s;exact hJ he (by simp) λh' he' hs'=>hQ h' ⟨_,_,_,.inl rfl,he'⟩ hs'
  ·exact aE same
 cases tg<;>first
  |exact aE same
  |exact go
end
theorem WJ{prog:Program}{w:World}{A:Around}(hh:A.handled=none)(it l:Addr)(hne:l≠it)(items:Array Value) :
 Draws prog w A it [it,l] items.size (λi v=>items[i]?=some v) (λi h=>h.IsTupleIter it l i/\h.IsTuple l items) where
 live:=λ_ _ st=>let⟨o,ho,_⟩:=st.1;⟨o,ho⟩
 frame:=λ_ _ _ st hk=>⟨st.1.at λo e=>hk it (by simp) o e,let⟨o,ho,r⟩:=st.2;⟨o,hk l (by simp) o ho,r⟩⟩
 item:=λi s Q E hi st hQ=>by
  refine we st.1 st.2 (x:=items[i]) (by simp[hi]) λh' hit' hs'=>?_;exact hQ _ h' s.toks (by simp[hi]) ⟨hit',jF st.2 hs'.extBut hne⟩ hs'
 done:=λs Q E st hE=>wg hh st.1 st.2 (by simp) hE
theorem WK(l:Addr)(items:Array Value) :
 Meets (Builtin.«enumerate.__new__» ⟨[.type "enumerate",.ref l],[]⟩) (λ_ R s=>s.heap.IsTuple l items /\
  R (.ok (.ret (.ref (s.heap.push {cls:=.type "tuple_iterator",data:=.fields #[.ref l,.int 0 0]}).objs.size)))
   {s with heap:=(s.heap.push {cls:=.type "tuple_iterator",data:=.fields #[.ref l,.int 0 0]}).push {cls:=.type "enumerate",data:=.fields #[.none,.bool false,.ref s.heap.objs.size,rawInt 0,.none,.none]}}) :=
 .of_wp λprog w A R s h=>by
  obtain⟨hp,g,d,tk,os⟩:=s;obtain⟨hl,h⟩:=h;have hsub:=sub_enumerate;have hL:DS (DT ⟨hp,g,d,tk,os⟩) l items:=hl
  wp_walk
  refine wpAny_stack_any λst=>aE ?_
  split
  ·rename_i c _ _ _ _ _
   cases (c==Value.type "enumerate")
   ·wp_walk using rh hL
    exact⟨_,rfl,h⟩
   ·wp_walk using rh hL
    exact⟨_,rfl,h⟩
  ·wp_walk using rh hL
   exact⟨_,rfl,h⟩
section
variable{prog:Program}{w:World}{A:Around}{E:Value->Shared->Prop}{s:Shared}
theorem IU{l:Addr}{items:Array Value}{Q:Value->Shared->Prop}(hL:s.heap.IsTuple l items)
 (h:∀h',gQ h' (s.heap.objs.size+1) s.heap.objs.size 0->h'.IsTupleIter s.heap.objs.size l 0->h'.objs.size=s.heap.objs.size+2 ->
  (∀b o,s.heap.get? b=some o->h'.get? b=some o)->Q (.ref (s.heap.objs.size+1)) {s with heap:=h'}) :
 wpAny (model prog w) A (call (.type "enumerate") [.ref l]) Q E s:=show _ by
 refine DD PySem.F.called_enumerate (by decide) (PySem.F.typeCall_enumerate_1 _) (PySem.F.newCall_enumerate_1 _) (λobj=>M_ obj _) PySem.F.entry_enumerate_new
  (WK l items) ⟨hL,?_⟩
 have hz:(s.heap.push {cls:=.type "tuple_iterator",data:=.fields #[.ref l,.int 0 0]}).objs.size=s.heap.objs.size+1:=g9 ..;show _/\_;rw[hz];have he:jK ((s.heap.push {cls:=.type "tuple_iterator",data:=.fields #[.ref l,.int 0 0]}).push
  {cls:=.type "enumerate",data:=.fields #[.none,.bool false,.ref s.heap.objs.size,rawInt 0,.none,.none]}) (s.heap.objs.size+1) s.heap.objs.size 0 .none (.bool false) .none:=by
  have:=c8 (s.heap.push {cls:=.type "tuple_iterator",data:=.fields #[.ref l,.int 0 0]})
   (o:={cls:=.type "enumerate",data:=.fields #[.none,.bool false,.ref s.heap.objs.size,rawInt 0,.none,.none]}) rfl
  rw[hz]at this;exact this
 refine⟨⟨_,he,rfl⟩,h _ ⟨_,_,_,.inl rfl,he⟩ ⟨_,bx _ (c8 _ rfl),rfl,rfl⟩ (by rw[g9,hz]) λb o x=>bx _ (bx _ x)⟩
theorem IV{l:Addr}{items:Array Value}{Q:Value->Shared->Prop}(hL:s.heap.IsList l items)
 (h:∀h',gQ h' (s.heap.objs.size+1) s.heap.objs.size 0->h'.IsListIter s.heap.objs.size l 0->h'.objs.size=s.heap.objs.size+2 ->
  (∀b o,s.heap.get? b=some o->h'.get? b=some o)->Q (.ref (s.heap.objs.size+1)) {s with heap:=h'}) :
 wpAny (model prog w) A (call (.type "enumerate") [.ref l]) Q E s :=
 call_enumerate_list hL λh' he hi hz hk=>h h' ⟨_,_,_,.inl rfl,he⟩ hi hz hk
end
theorem WL{X:Cx}{pins:List (Addr×Obj)}{σ:L2.St}{H:Hp}{s:Shared}{h':Heap}{t':Nat}{fp:List Addr}{a:Addr}{o:HO}(I:Inv X pins σ H s)(k:∀b u,b∉fp->s.heap.get? b=some u->h'.get? b=some u)(hf:∀b∈fp,dZ X pins H b)
 (hp:s.heap.objs.size<=a) (new:cG X.prog X.w (upd H a o) h' a o):Inv X pins σ (upd H a o) {s with heap:=h',toks:=t'}:=show _ by
 have hn:H a=none:=I.hok.fresh hp;have lQ:∀b u,H b=some u->b∉fp:=λb u e z=>by
  rw[(hf b z).1]at e;cases e
 refine I.step (g':=s.gens) (d':=s.drawn) (ch:=fp) (λb hb=>?_) (λb o _ _ hc e _=>k b o hc e) (λb o _ _ hc e _=>⟨o.slots,k b o hc e⟩) (λb u _ e n=>?_) (λb o hc e=>⟨o,k b o hc e⟩) (λb xs e=>?_) (λb u v e=>?_)
  (λb ps e=>⟨#[],by rw[bf (hW e hn),e];simp⟩) (λm hm=>?_) (λb u e=>?_) I.bare
 ·obtain⟨f0,f1,f2,f3,f4,f5⟩:=hf b hb;exact⟨f3,f1,f4,f5⟩
 ·rw[bf (cW (dM (bE e) hp))];exact n
 ·rw[bf (hW e hn)];exact e
 ·rw[bf (hW e hn)];exact e
 ·obtain⟨o,es,ep,ho,r⟩:=hm;exact⟨o,es,ep,k _ o (λz=>(hf _ z).2.1 rfl) ho,r⟩
 ·by_cases hb:b=a
  ·subst hb;rw[dm]at e;cases e;exact new
  ·rw[bf hb]at e;refine(I.hok b u e).stay (λc v hc q=>k c v ?_ q) (λc q=>by rw[bf (hW q hn)];exact q) λc xs q=>by rw[bf (hW q hn)];exact q
   rcases hc with z|z
   ·rw[z];exact lQ b u e
   ·exact lQ c _ z
def jL(sq:Hp->List V->Prop):It :=
 ⟨λi H=>∃xs,sq H xs/\i<xs.length,λi H x H'=>∃p y,x=.ref p/\H p=none/\H'=upd H p (.tup [.int i,y])/\∀xs,sq H xs->xs[i]?=some y,λi H=>∃xs,sq H xs/\xs.length<=i⟩
theorem IW{X:Cx}{pins:List (Addr×Obj)}{σ:L2.St}{H:Hp}{s:Shared}{h':Heap}{e it:Addr}{i:Nat}{tk:Nat}{u:Value}{y:V}(I:Inv X pins σ H s)(hf:∀b∈[e,it],dZ X pins H b)(ru:RelV y u)
 (hT:h'.get? s.heap.objs.size=some {cls:=.type "tuple",data:=.seq #[.int i tk,u]}) (k:∀b o,b≠e->b≠it->s.heap.get? b=some o->h'.get? b=some o) :
 Inv X pins σ (upd H s.heap.objs.size (.tup [.int i,y])) {s with heap:=h',toks:=tk+1} :=
 WL (fp:=[e,it]) I (λb o n q=>k b o (λz=>n (by simp[z])) (λz=>n (by simp[z])) q) hf (aV _) ⟨(by decide:2<=sizeLine),[.int i tk,u],.cons ⟨tk,rfl⟩ (.cons ru .nil),⟨_,hT,rfl,_,rfl⟩,λo q=>by rw[hT]at q;cases q;rfl⟩
theorem IX{P:Program}{w:World}{K:ao}{tg:Expr}(l e it:Addr)(hne:e≠it):Turn P w K tg (jL λH xs=>bg K H l xs) [e,it] e (λi h=>gQ h e it i/\h.IsListIter it l i) where
 mem:=df
 obj:=λi h st c hc=>by
  obtain⟨⟨f0,b,old,_,s1⟩,⟨o2,s2,_,d2⟩⟩:=st;simp only[bF,cN,or_false]at hc;rcases hc with rfl|rfl
  ·exact⟨_,s1,λv z=>nomatch z⟩
  ·exact⟨_,s2,λv z=>by rw[d2]at z;cases z⟩
 keep:=λi h h' st kk=>by
  obtain⟨⟨f0,b,old,nI,s1⟩,s2⟩:=st;exact⟨⟨f0,b,old,nI,kk e (by simp) _ s1⟩,s2.at λo q=>kk it (by simp) o q⟩
 item:=show _ by
  intro X hP hw hK hc i pins s σ H E I hf st hg;subst hP hw hK;obtain⟨xs,hq,hi⟩:=hg;obtain⟨its,rv,pt,hz⟩:=I.list hq;have hl:=rv.length;obtain⟨u,hu,ru⟩:=rv.get (bb hi);have ps:s.heap.IsList l its.toArray:=pt.isList;have hle:l≠e:=by
   rintro rfl;obtain⟨o,q,c,_⟩:=ps;obtain⟨_,_,_,_,q2⟩:=st.1;rw[q2]at q;cases q;exact absurd (xY c) (by decide)
  have hli:l≠it:=by
   rintro rfl;obtain⟨o,q,c,_⟩:=ps;obtain⟨o2,q2,c2,_⟩:=st.2;rw[q2]at q;cases q;rw[c2]at c;exact absurd (xY c) (by decide)
  refine IQ (Draws.list (A:=X.A.in1) (show X.A.in1.handled=none from I.ok.hd hc) it l hli its.toArray) st.1 ⟨st.2,ps⟩ (by rw[bU];lia) hne (by simp[hne,bw hle]) λx h' tk hx he hst hT hsz k=>?_;have ex:u=x:=by
   have e1:its[i]?=some x:=by simpa using hx
   rw[hu]at e1;exact dG e1
  subst ex;refine⟨_,rfl,IT (s:={s with heap:=h',toks:=tk+1}) he λh2 he2 sb=>?_⟩;have el:e<s.heap.objs.size:=by obtain⟨_,_,_,_,q⟩:=st.1;exact bE q
  have il:it<s.heap.objs.size:=by obtain⟨_,q,_⟩:=st.2;exact bE q
  have k2:∀b o,b≠e->b≠it->s.heap.get? b=some o->h2.get? b=some o:=λb o n1 n2 q=>(sb.2 b n1).trans (k b o n1 n2 q);have e1:((i:Int)+1)=((i+1:Nat):Int):=by lia
  rw[e1]at he2;have Im:=IW (s:=s) (i:=i) (y:=xs[i]) (tk:=tk) I hf ru ((sb.2 _ (jZ el)).trans hT) k2;refine⟨.ref s.heap.objs.size,_,Im,rfl,⟨_,xs[i],rfl,I.hok.fresh (aV _),rfl,λzs hy=>by rw[I.uR hy hq];exact bb hi⟩,
   ⟨he2,hst.1.at λo q=>(sb.2 it (bw hne)).trans q⟩,λc hc'=>?_⟩
  simp only[bF,cN,or_false]at hc';rcases hc' with rfl|rfl
  ·rw[bf (cW el)];exact(hf _ (by simp)).1
  ·rw[bf (cW il)];exact(hf _ (by simp)).1
 done:=by
  intro X hP hw hK hc i pins s σ H E I hf st hg;subst hP hw hK;obtain⟨xs,hq,hi⟩:=hg;obtain⟨its,rv,pt,hz⟩:=I.list hq;have hl:=rv.length;have ps:s.heap.IsList l its.toArray:=pt.isList;refine IS st.1 (λQ' E' hE=>wpAny_nextOf_list_end (I.ok.hd hc) st.2 ps (by simp;lia) hE) λh' eb=>⟨rfl,wd (t':=s.toks) (fp:=[e,it]) I (λc o n q=>eb c o (λz=>n (by simp[z])) q) hf⟩
 self:=λ_ _ _ _ _ st h=>tE st.1 h
theorem IY{P:Program}{w:World}{K:ao}{tg:Expr}(l e it:Addr)(hne:e≠it):Turn P w K tg (jL λH xs=>bh K H l xs) [e,it] e (λi h=>gQ h e it i/\h.IsTupleIter it l i) where
 mem:=df
 obj:=λi h st c hc=>by
  obtain⟨⟨f0,b,old,_,s1⟩,⟨o2,s2,_,d2⟩⟩:=st;simp only[bF,cN,or_false]at hc;rcases hc with rfl|rfl
  ·exact⟨_,s1,λv z=>nomatch z⟩
  ·exact⟨_,s2,λv z=>by rw[d2]at z;cases z⟩
 keep:=λi h h' st kk=>by
  obtain⟨⟨f0,b,old,nI,s1⟩,s2⟩:=st;exact⟨⟨f0,b,old,nI,kk e (by simp) _ s1⟩,s2.at λo q=>kk it (by simp) o q⟩
 item:=show _ by
  intro X hP hw hK hc i pins s σ H E I hf st hg;subst hP hw hK;obtain⟨xs,hq,hi⟩:=hg;obtain⟨its,rv,pt,hz⟩:=I.tuple hq;have hl:=rv.length;obtain⟨u,hu,ru⟩:=rv.get (bb hi);have ps:s.heap.IsTuple l its.toArray:=pt;have hle:l≠e:=by
   rintro rfl;obtain⟨o,q,c,_⟩:=ps;obtain⟨_,_,_,_,q2⟩:=st.1;rw[q2]at q;cases q;exact absurd (xY c) (by decide)
  have hli:l≠it:=by
   rintro rfl;obtain⟨o,q,c,_⟩:=ps;obtain⟨o2,q2,c2,_⟩:=st.2;rw[q2]at q;cases q;rw[c2]at c;exact absurd (xY c) (by decide)
  refine IQ (WJ (A:=X.A.in1) (show X.A.in1.handled=none from I.ok.hd hc) it l hli its.toArray) st.1 ⟨st.2,ps⟩ (by rw[bU];lia) hne (by simp[hne,bw hle]) λx h' tk hx he hst hT hsz k=>?_;have ex:u=x:=by
   have e1:its[i]?=some x:=by simpa using hx
   rw[hu]at e1;exact dG e1
  subst ex;refine⟨_,rfl,IT (s:={s with heap:=h',toks:=tk+1}) he λh2 he2 sb=>?_⟩;have el:e<s.heap.objs.size:=by obtain⟨_,_,_,_,q⟩:=st.1;exact bE q
  have il:it<s.heap.objs.size:=by obtain⟨_,q,_⟩:=st.2;exact bE q
  have k2:∀b o,b≠e->b≠it->s.heap.get? b=some o->h2.get? b=some o:=λb o n1 n2 q=>(sb.2 b n1).trans (k b o n1 n2 q);have e1:((i:Int)+1)=((i+1:Nat):Int):=by lia
  rw[e1]at he2;have Im:=IW (s:=s) (i:=i) (y:=xs[i]) (tk:=tk) I hf ru ((sb.2 _ (jZ el)).trans hT) k2;refine⟨.ref s.heap.objs.size,_,Im,rfl,⟨_,xs[i],rfl,I.hok.fresh (aV _),rfl,λzs hy=>by rw[I.oW hy hq];exact bb hi⟩,
   ⟨he2,hst.1.at λo q=>(sb.2 it (bw hne)).trans q⟩,λc hc'=>?_⟩
  simp only[bF,cN,or_false]at hc';rcases hc' with rfl|rfl
  ·rw[bf (cW el)];exact(hf _ (by simp)).1
  ·rw[bf (cW il)];exact(hf _ (by simp)).1
 done:=by
  intro X hP hw hK hc i pins s σ H E I hf st hg;subst hP hw hK;obtain⟨xs,hq,hi⟩:=hg;obtain⟨its,rv,pt,hz⟩:=I.tuple hq;have hl:=rv.length;have ps:s.heap.IsTuple l its.toArray:=pt;refine IS st.1 (λQ' E' hE=>wg (I.ok.hd hc) st.2 ps (by simp;lia) hE) λh' eb=>⟨rfl,wd (t':=s.toks) (fp:=[e,it]) I (λc o n q=>eb c o (λz=>n (by simp[z])) q) hf⟩
 self:=λ_ _ _ _ _ st h=>tE st.1 h
section
variable{X:Cx}{tg a:Expr}{ta:TA}{p pos:Pos}
def Ai(K:ao)(ta:TA):TI:=λσ H R=>ta σ H λvs H1=>∃l,vs=[.ref l]/\(((∃xs,bg K H1 l xs)/\R (jL λH xs=>bg K H l xs) H1)∨((∃xs,bh K H1 l xs)/\R (jL λH xs=>bh K H l xs) H1))
theorem WM{pins:List (Addr×Obj)}{σ:L2.St}{H1:Hp}{s1:Shared}{l:Addr}{R:It->Hp->Prop}(I1:Inv X pins σ H1 s1)(q:((∃xs,bg X.K H1 l xs)/\R (jL λH xs=>bg X.K H l xs) H1)∨((∃xs,bh X.K H1 l xs)/\R (jL λH xs=>bh X.K H l xs) H1)) :
 wpAny (model X.prog X.w) X.A (call (.type "enumerate") [.ref l]) (λv s2=>wpAny (model X.prog X.w) X.A (pyIter v) (yp X pins σ tg R) X.xe s2) X.xe s1:=show _ by
 have hne:s1.heap.objs.size+1≠s1.heap.objs.size:=by lia
 have fin:∀(h':Heap),(∀b o,s1.heap.get? b=some o->h'.get? b=some o)->Inv X pins σ H1 {s1 with heap:=h'}/\∀b∈[s1.heap.objs.size+1,s1.heap.objs.size],dZ X pins H1 b:=λh' k=>⟨I1.kept (t':=s1.toks) k,λb hb=>by
  have cl:s1.heap.objs.size<=b:=by
   simp only[bF,cN,or_false]at hb;lia
  exact I1.ki cl (I1.hok.fresh cl)⟩
 rcases q with⟨⟨xs,hx⟩,q⟩|⟨⟨xs,hx⟩,q⟩
 ·obtain⟨its,rv,pt,_⟩:=I1.list hx;refine IV pt.isList λh' he hi hz k=>tE he ?_;obtain⟨I2,f2⟩:=fin h' k;exact⟨_,_,_,_,H1,rfl,I2,IX l _ _ hne,⟨he,hi⟩,f2,q⟩
 ·obtain⟨its,rv,pt,_⟩:=I1.tuple hx;refine IU (show s1.heap.IsTuple l its.toArray from pt) λh' he hi hz k=>tE he ?_;obtain⟨I2,f2⟩:=fin h' k;exact⟨_,_,_,_,H1,rfl,I2,IY l _ _ hne,⟨he,hi⟩,f2,q⟩
theorem WN(hg:Gl X "enumerate")(hm:X.mg "enumerate"=none)(ha:PA X [a] ta)(hs:starEach [a] X.env=[(false,eval a X.env)]:=by rfl):PI X tg (.Call (.Name "enumerate" p) [a] [] pos) (Ai X.K ta):=show _ by
 intro pins s σ H R I h;refine Call_ (jr I hg hm boot_enumerate (mJ (aF (ha pos pins s σ H _ I h) λus s1 ⟨vs,H1,I1,r1,q1⟩=>?_) hs rfl));obtain⟨l,rfl,q⟩:=q1;obtain⟨u,rfl,r⟩:=vals1 r1;cases r;exact WM I1 q
end
def tF(X:Cx):Cx:={X with A:=X.A.in1.in1}
theorem inv2{X:Cx}{pins:List (Addr×Obj)}{σ:L2.St}{H:Hp}{s:Shared}(I:Inv X pins σ H s):Inv (tF X) pins σ H s :=
 ⟨⟨I.ok.mod,I.ok.kind,I.ok.glob,I.ok.blt,I.ok.above,I.ok.inj,I.ok.has,I.ok.cab,I.ok.hd,I.ok.frames,I.ok.mV,I.ok.rK,I.ok.bs,I.ok.gD,I.ok.lN,I.ok.lP,I.ok.fi,I.ok.iH⟩,I.os,I.bare,I.base,I.loc,I.cell,I.free,I.fJ,I.pin,I.hok,I.len⟩
theorem IZ{X:Cx}{pins:List (Addr×Obj)}{σ:L2.St}{H:Hp}{s:Shared}(I:Inv (tF X) pins σ H s)(ok:X.Ok):Inv X pins σ H s:=⟨ok,I.os,I.bare,I.base,I.loc,I.cell,I.free,I.fJ,I.pin,I.hok,I.len⟩
theorem I0{X:Cx}{pins:List (Addr×Obj)}{H:Hp}{b:Addr}(h:dZ X pins H b):dZ (tF X) pins H b:=h
section
variable{X:Cx}{pins:List (Addr×Obj)}{σ:L2.St}{J:It}{fp:List Addr}{it D:Addr}{tn:Nat->Heap->Prop}{R:Result->Shared->Prop}
theorem WO(hc:X.calm=true)(ok:X.Ok){nx:Str}{px:Pos}(T:Turn X.prog X.w X.K (.Name nx px) J fp it tn)(W:Nat->Nat->Hp->Prop)
 (turn:∀i m H2,W i m H2->(J.stop i H2/\∀s',Inv X pins σ H2 s'->R (.ok (.ret .none)) s')∨(J.go i H2/\∀v H',J.lU i H2 v H'->∃ys,H' D=some (.lst ys)/\ys.length<sizeLine/\∃m',m'<m/\W (i+1) m' (upd H' D (.lst (ys++[v]))))) :
 ∀(m i:Nat) (H2:Hp) (s:Shared),W i m H2->Inv X pins σ H2 s->(∀b∈fp,dZ X pins H2 b)->tn i s.heap->codeAny (model X.prog X.w) X.A.in1 (.builtin "list.extend.loop" ⟨[.ref D,.ref it,.none],[]⟩) R s:=show _ by
 intro m
 induction m using Nat.strongRecOn with
 |ind m ih =>
  intro i H2 s w I hf st;refine DN PySem.F.entry_extend_loop ?_;rw[DO DY _];show wpAny _ X.A.in1.in1 (pyNext (.ref it) >>= _) _ _ s;rcases turn i m H2 w with⟨stop,fin⟩|⟨go,step⟩
  ·refine ai (aF (T.done (tF X) rfl rfl rfl hc i pins s σ H2 _ (inv2 I) (λb hb=>I0 (hf b hb)) st stop) λr s1 ⟨hr,I1⟩=>?_);subst hr;exact aE (fin s1 (IZ I1 ok))
  ·refine ai (aF (T.item (tF X) rfl rfl rfl hc i pins s σ H2 _ (inv2 I) (λb hb=>I0 (hf b hb)) st go) λr s1 ⟨u,hr,h1⟩=>?_);subst hr;show wpAny _ X.A.in1.in1 (letOwnedTupleGo (.Name nx px) (.ref it) u >>= λ_=>updateSeq D (·.push u) >>= λ_=>again (.builtin "list.extend.loop" ⟨[.ref D,.ref it,.none],[]⟩)) _ _ s1;refine ai (aF h1 λ_ s2 ⟨v,H3,I3,rv,hy,st3,iJ⟩=>?_);obtain⟨ys,hD,hz,m',hm,w'⟩:=step v H3 hy;have I_:=IZ I3 ok;obtain⟨z,its,n,r,hl,e⟩:=I_.lV hD;have I4:=I_.se (its':=its++[u]) (f:=(·.push u)) (t':=s2.toks) hD e (by simp) (r.append (.cons rv .nil)) (by rw[aU,Dw];lia);have hDf:∀b∈fp,b≠D:=λb hb z=>by rw[z]at hb;rw[iJ D hb]at hD;cases hD
   refine ai (uo e rfl (aE ⟨xO DY _,ih m' hm (i+1) _ _ w' I4 (λb hb=>?_) (T.keep _ _ _ st3 λb hb o q=>?_)⟩) ?_)
   ·obtain⟨f0,f⟩:=hf b hb;exact⟨by rw[bf (hDf b hb)];exact iJ b hb,f⟩
   ·exact(rp _ _ (bw (hDf b hb))).trans q
   ·simp only[bU,Array.size_push];have:=r.length;lia
end
namespace FE
theorem WQ:typeLookup (.type "enumerate") "__len__"=pure none:=by rw[mP,mQ];kernel_rfl
theorem WR:typeLookup (.type "enumerate") "__length_hint__"=pure none:=by rw[mP,mQ];kernel_rfl
end FE
section
variable{X:Cx}{a:Expr}{ta:TA}{p p2 pos pos2:Pos}{g:TG}{tt:TT}{te:TE}
theorem WS(hc:X.calm=true)(gl:Gl X "list")(ml:X.mg "list"=none)(ge:Gl X "enumerate")(me:X.mg "enumerate"=none)(ha:PA X [a] ta)
 (hg:∀v o H Q,g v [o] H Q->Q [some v] H) (ht:∀τ H Q,tt τ H Q->Q true H) (he:∀v H Q,te [some v] H Q->Q v H)
 (hs:starEach [.Call (.Name "enumerate" p2) [a] [] pos2] X.env=[(false,eval (.Call (.Name "enumerate" p2) [a] [] pos2) X.env)]:=by rfl) (hs2:starEach [a] X.env=[(false,eval a X.env)]:=by rfl) :
 PE X (.Call (.Name "list" p) [.Call (.Name "enumerate" p2) [a] [] pos2] [] pos) (wc (Ai X.K ta) g tt te 1 []):=show _ by
 intro pins s σ H Q I h;refine Call_ (jr I gl ml xZ (mJ ?_ hs rfl));rw[hs];show wpAny _ _ (spliced ((false,eval (.Call (.Name "enumerate" p2) [a] [] pos2) X.env)::backTo pos [])) _ _ s;refine ML (Call_ (jr I ge me boot_enumerate (mJ (aF (ha pos2 pins s σ H _ I h) λus s1 ⟨vs,H1,I1,r1,q1⟩=>?_) hs2 rfl)));obtain⟨l,rfl,q⟩:=q1;obtain⟨u,rfl,r⟩:=vals1 r1;cases r;have main:∀(J:It) (tn:Nat->Heap->Prop) (h':Heap),Turn X.prog X.w X.K (.Name "x" p) J [s1.heap.objs.size+1,s1.heap.objs.size] (s1.heap.objs.size+1) tn->tn 0 h'->(∀i h,tn i h->gQ h (s1.heap.objs.size+1) s1.heap.objs.size i)->h'.objs.size=s1.heap.objs.size+2 ->
  (∀b o,s1.heap.get? b=some o->h'.get? b=some o) ->
  (∀D,H1 D=none->∃W:Nat->Nat->L2.St->Hp->Prop,(∃m,W 0 m (fH 1 none++pick σ []) (upd H1 D (.lst []))) /\
   ∀i m τ H2,W i m τ H2->(J.stop i H2/\Q (.ref D) H2)∨(J.go i H2/\∃N:L2.St->Hp->Prop,(∀bz H',N bz H'->∃m',m'<m/\W (i+1) m' bz H')/\∀v H',J.lU i H2 v H' ->
    g v τ H' λbz H3=>tt bz H3 λb H4=>if b=true then te bz H4 λy H5=>∃ys,H5 D=some (.lst ys)/\ys.length<sizeLine/\N bz (upd H5 D (.lst (ys++[y]))) else N bz H4)) ->
  wpAny (model X.prog X.w) X.A (spliced (backTo pos [])) (λvs s3=>wpAny (model X.prog X.w) X.A (call (.type "list") (.ref (s1.heap.objs.size+1)::vs)) (EP X pins σ Q) X.xe s3) X.xe {s1 with heap:=h'}:=λJ tn h' T st hE hz k q=>by
  refine MK ?_;have I2:Inv X pins σ H1 {s1 with heap:=h'}:=I1.kept (t':=s1.toks) k;have f2:∀b∈[s1.heap.objs.size+1,s1.heap.objs.size],dZ X pins H1 b:=λb hb=>by
   have cl:s1.heap.objs.size<=b:=by
    simp only[bF,cN,or_false]at hb;lia
   exact I1.ki cl (I1.hok.fresh cl)
  have WT:H1 h'.objs.size=none:=I2.hok.fresh (aV _);obtain⟨W,⟨m0,w0⟩,turn⟩:=q h'.objs.size WT;have I3:Inv X pins σ (upd H1 h'.objs.size (.lst [])) {s1 with heap:=h'.push {cls:=.type "list",data:=.seq #[]}}:=I2.ve (its:=[]) (t':=s1.toks) .nil (b8 _);have st3:tn 0 (h'.push {cls:=.type "list",data:=.seq #[]}):=T.keep _ _ _ st λb hb o q=>bx _ q;have ne3:∀b∈[s1.heap.objs.size+1,s1.heap.objs.size],b≠h'.objs.size:=λb hb=>by
   simp only[bF,cN,or_false]at hb;rw[hz];lia
  have f3:∀b∈[s1.heap.objs.size+1,s1.heap.objs.size],dZ X pins (upd H1 h'.objs.size (.lst [])) b:=λb hb=>by
   obtain⟨f0,f⟩:=f2 b hb;exact⟨by rw[bf (ne3 b hb)];exact f0,f⟩
  refine callType_codes (Q₁:=λobj s₁=>obj=.ref h'.objs.size/\s₁={s1 with heap:=h'.push {cls:=.type "list",data:=.seq #[]}}) PySem.F.called_list (PySem.F.typeCall_list_1 _) PySem.F.entry_list_init
   (code_list_new (s:={s1 with heap:=h'}) _ ⟨rfl,rfl⟩) λobj s₁ h₁=>?_
  obtain⟨rfl,rfl⟩:=h₁;have hS:(h'.push {cls:=.type "list",data:=.seq #[]}).get? h'.objs.size=some {cls:=.type "list",data:=.seq #[]}:=c8 _ rfl;refine⟨⟨_,hS,rfl⟩,PySem.F.args_list_init_2 _ _,?_⟩;show wpAny _ X.A.in1.in1 (do let old <-NH (.ref h'.objs.size);Builtin.List.listUpdate (.ref h'.objs.size) (λ_=>#[]);letGo old.toList.reverse;DZ (.ref h'.objs.size) (.ref (s1.heap.objs.size+1)) .none) _ _ _;refine ai ?_;unfold NH;refine ai (je hS rfl (aE ?_));show wpAny _ X.A.in1.in1 (updateSeq h'.objs.size (λ_=>#[]) >>= λ_=>letGo (#[]:Array Value).toList.reverse >>= λ_=>DZ (.ref h'.objs.size) (.ref (s1.heap.objs.size+1)) .none) _ _ _;have upI:∀{Hx:Hp} {sx:Shared} (f:Array Value->Array Value) (its its':List Value) (n:Nat),Inv X pins σ Hx sx->Hx h'.objs.size=some (.lst [])->sx.heap.get? h'.objs.size=some {cls:=.type "list",data:=.seq its.toArray n}->True:=λ_ _ _ _ _ _ _=>trivial;refine ai (uo hS rfl ?_);have e4:=oO (fc (λ_=>(#[]:Array Value))) hS rfl;have k4:∀b o,b≠h'.objs.size->(h'.push {cls:=.type "list",data:=.seq #[]}).get? b=some o->((h'.push {cls:=.type "list",data:=.seq #[]}).update h'.objs.size (fc (λ_=>(#[]:Array Value)))).get? b=some o:=λb o n q=>(rp _ _ (bw n)).trans q;refine ai (uD ?_);unfold DZ;have nH:tn 0 ((h'.push {cls:=.type "list",data:=.seq #[]}).update h'.objs.size (fc (λ_=>(#[]:Array Value)))):=T.keep _ _ _ st3 λb hb o q=>k4 b o (ne3 b hb) q;generalize hg4:(h'.push {cls:=.type "list",data:=.seq #[]}).update h'.objs.size (fc (λ_=>(#[]:Array Value)))=h4 at e4 k4 nH;have Aj:({s1 with heap:=h4}:Shared).TypeIs (.ref (s1.heap.objs.size+1)) "enumerate":=by obtain⟨_,_,_,_,q⟩:=hE 0 _ nH;exact⟨_,q,rfl⟩
  refine ai (oN Aj ?_);have h1:NI (.ref h'.objs.size) (.ref (s1.heap.objs.size+1))=false:=by
   have:h'.objs.size≠s1.heap.objs.size+1:=by rw[hz];lia
   simp[NI,this]
  have h2:(Value.type "enumerate"==Value.type "list")=false:=by decide
  have h3:(Value.type "enumerate"==Value.type "tuple")=false:=by decide
  simp only[h1,h2,h3,MW,iC,if_false];refine ai (tE (s:={s1 with heap:=h4}) (hE 0 _ nH) ?_);refine ai (mI ?_);unfold Builtin.List.listLengthHint;refine ai (lr Aj FE.WQ ?_);show wpAny _ X.A.in1.in1 (specialOf (Value.ref (s1.heap.objs.size+1)) (jh "__length_hint__") >>= _) _ _ _;refine ai (lr Aj FE.WR ?_);refine aE ?_;show wpAny _ X.A.in1.in1 (rule "list.extend.makes-room" >>= λ_=>Builtin.List.listTouch (.ref h'.objs.size) >>= λ_ =>
   again (.builtin "list.extend.loop" ⟨[.ref h'.objs.size,.ref (s1.heap.objs.size+1),.none],[]⟩)) _ _ _
  refine ai (jV ?_);refine ai ?_;show wpAny _ X.A.in1.in1 (updateSeq h'.objs.size (·.push .none) >>= λ_=>updateSeq h'.objs.size (·.pop)) _ _ _;refine ai (uo e4 rfl ?_);have e5:=oO (fc (·.push Value.none)) e4 rfl;refine uo (hz:=by seq_fits) e5 rfl ?_;have e6:=oO (fc (·.pop)) e5 rfl;have k6:∀b o,b≠h'.objs.size->h4.get? b=some o->((h4.update h'.objs.size (fc (·.push Value.none))).update h'.objs.size (fc (·.pop))).get? b=some o :=
   λb o n q=>(rp _ _ (bw n)).trans ((rp _ _ (bw n)).trans q)
  have I6:Inv X pins σ (upd H1 h'.objs.size (.lst [])) {s1 with heap:=(h4.update h'.objs.size (fc (·.push Value.none))).update h'.objs.size (fc (·.pop))}:=by
   have:=I3.write (x:=h'.objs.size) (e:=h'.objs.size) (o:=.lst []) (t':=s1.toks) (h':=(h4.update h'.objs.size (fc (·.push Value.none))).update h'.objs.size (fc (·.pop))) (by rw[dm];trivial) (.inl rfl) (λb u n q=>k6 b u n (k4 b u n q)) ⟨_,e6⟩ ⟨b8 _,[],_,.nil,e6⟩;rw[N_]at this;exact this
  refine aE ⟨xO DY _,?_⟩;refine WO (X:=X) (pins:=pins) (σ:=σ) (D:=h'.objs.size) hc I.ok T (λi m Hx=>∃o,W i m [o] Hx) ?_ m0 0 _ _ ⟨none,w0⟩ I6 f3 (T.keep _ _ _ nH λb hb o q=>k6 b o (ne3 b hb) q);rintro i m H2 ⟨o,w⟩;rcases turn i m [o] H2 w with⟨stop,qe⟩|⟨go,N,hN,step⟩
  ·exact .inl ⟨stop,λs' I'=>⟨rfl,.ref _,H2,I',rfl,qe⟩⟩
  ·refine .inr ⟨go,λv Hy hy=>?_⟩;have:=ht _ _ _ (hg v o Hy _ (step v Hy hy));rw[if_pos rfl]at this;obtain⟨ys,h1,h2,h3⟩:=he v Hy _ this;obtain⟨m',hm,w'⟩:=hN _ _ h3;exact⟨ys,h1,h2,m',hm,_,w'⟩
 have Ja:s1.heap.objs.size+1≠s1.heap.objs.size:=by lia
 rcases q with⟨⟨xs,hx⟩,q⟩|⟨⟨xs,hx⟩,q⟩
 ·obtain⟨its,rv,pt,_⟩:=I1.list hx;exact IV pt.isList λh' hen hi hz k=>main _ _ h' (IX l _ _ Ja) ⟨hen,hi⟩ (λi h z=>z.1) hz k q
 ·obtain⟨its,rv,pt,_⟩:=I1.tuple hx;exact IU (show s1.heap.IsTuple l its.toArray from pt) λh' hen hi hz k=>main _ _ h' (IY l _ _ Ja) ⟨hen,hi⟩ (λi h z=>z.1) hz k q
end
end EE
namespace E3
open PySem PySem.Spec PyProof.Rows L2 EE
def fB(ds:List D):List D:=ds.zipIdx.map λp=>.tup [.int (p.2:Int),p.1]
theorem Ak{ds:List D}{i:Nat}:(fB ds)[i]?=(ds[i]?).map λd=>D.tup [.int (i:Int),d]:=by
 unfold fB;rw[aS,NJ];cases ds[i]?<;>simp
theorem tG{ds:List D}:(fB ds).length=ds.length:=by simp[fB]
def wx(R:RI)(xs:List D)(S:af):Prop:=∃x ds,xs=[x]/\((∃a,x=.ref a/\S a=some (.lst ds)/\R (fB ds) (λS=>S a=some (.lst ds)) S)∨(x=.tup ds/\R (fB ds) (λ_=>True) S))
def wz(ta:bZ):fq:=λσ S R=>ta σ S λxs S1=>wx R xs S1
theorem Jb{K:ao}{Z:Zt}{sq:Hp->List V->Prop}{xs:List V}{d:D}{x:V}{i:Nat}{S:af}{H:Hp}(l:Rl K Z S H)(hs:sq H xs)(hx:xs[i]?=some x)(rx:Rp K H d x) :
 (jL sq).go i H/\∀v H',(jL sq).lU i H v H'->Kp Z H H'/\Rp K H' (.tup [.int (i:Int),d]) v/\(∀S',Rl K Z S' H->Rl K Z S' H')/\∀b,H b≠none->H' b=H b:=show _ by
 refine⟨⟨xs,hs,(cu.mp hx).1⟩,?_⟩;rintro v H' ⟨T,y,rfl,hT,rfl,fy⟩;have ey:y=x:=by
  have:=fy _ hs;rw[hx]at this;exact(dG this).symm
 subst ey;obtain⟨_,hz⟩:=l.fresh hT;have kn:Kp Z H (upd H T (.tup [.int i,y])):=Kp.new hT hz;exact⟨kn,.tup dm (.cons (.int _) (.cons (rx.mono kn) .nil)),λS' l'=>l'.lay hT,λb hb=>bf λe=>hb (e▸hT)⟩
theorem WU{K:ao}{Z:Zt}{a:Addr}{xs:List V}{ds:List D}{H1:Hp}(h1:bh K H1 a xs)(r1:aT K H1 ds xs):Wk K Z (jL λH xs=>bh K H a xs) (fB ds) (λ_=>True) H1:=show _ by
 constructor
 ·intro i d S H k l _ hd;rw[Ak]at hd;obtain⟨e,he,rfl⟩:=dA.mp hd;obtain⟨x,hx,rx⟩:=r1.at he;exact Jb l (k.gI h1) hx (rx.mono k)
 ·intro S H k l _;refine⟨xs,k.gI h1,?_⟩;rw[tG,r1.len];exact aV _
theorem WV{K:ao}{Z:Zt}{a:Addr}{ds:List D}{H1:Hp}:Wk K Z (jL λH xs=>bg K H a xs) (fB ds) (λS=>S a=some (.lst ds)) H1:=show _ by
 constructor
 ·intro i d S H k l al hd;rw[Ak]at hd;obtain⟨e,he,rfl⟩:=dA.mp hd;obtain⟨ws,h3,h4⟩:=l.obj a _ al;obtain⟨x,hx,rx⟩:=h4.at he;exact Jb l (bg.of h3) hx rx
 ·intro S H k l al;obtain⟨ws,h3,h4⟩:=l.obj a _ al;refine⟨ws,bg.of h3,?_⟩;rw[tG,h4.len];exact aV _
theorem Jc{K:ao}{Z:Zt}{ta:bZ}{τ:L2.St}{H:Hp}{R:It->Hp->Prop}(h:lI K Z (wz ta) τ H R):Ai K (lA K Z ta) τ H R:=show _ by
 obtain⟨σ,S,R3,hs,hr,ht,hc⟩:=h;refine⟨σ,S,_,hs,hr,ht,λxs S1 vm H1 k1 r1 l1 q1=>?_⟩;obtain⟨x,ds,rfl,q⟩:=q1;cases r1 with
 |cons r1 rr =>
  cases rr;rcases q with⟨a,rfl,hS,q⟩|⟨rfl,q⟩
  ·cases r1;obtain⟨vs,h1,h2⟩:=l1.obj a _ hS;exact⟨a,rfl,.inl ⟨⟨vs,bg.of h1⟩,hc _ _ S1 _ H1 k1 l1 q WV⟩⟩
  ·cases r1 with
   |tup h1 h2=>exact⟨_,rfl,.inr ⟨⟨_,h1⟩,hc _ _ S1 _ H1 k1 l1 q (WU h1 h2)⟩⟩
section
variable{X:Cx}{W3:bL}{tg:Expr}{pos pos2 p p2:Pos}{a:Expr}{ta:bZ}{σ:aL}{S:af}{R:RI}{al:bZ}
theorem WW(hg:Gl X "enumerate")(hm:X.mg "enumerate"=none)(ha:eB X W3 [a] ta)(hs:starEach [a] X.env=[(false,eval a X.env)]:=by rfl):gu X W3 tg (.Call (.Name "enumerate" p) [a] [] pos) (wz ta) :=
 λZ=>PI.imp (WN hg hm (ha Z) hs) λ_ _ _ h=>Jc h
theorem WX(h:al σ S λxs S1=>wx R xs S1):wz al σ S R:=h
theorem Jd{b:Addr}{ds:List D}(hS:S b=some (.lst ds))(q:R (fB ds) (λS=>S b=some (.lst ds)) S):wx R [.ref b] S:=⟨_,ds,rfl,.inl ⟨b,rfl,hS,q⟩⟩
theorem WY{ds:List D}(q:R (fB ds) (λ_=>True) S):wx R [.tup ds] S:=⟨_,ds,rfl,.inr ⟨rfl,q⟩⟩
theorem WZ(gl:Gl X "list")(ml:X.mg "list"=none)(ge:Gl X "enumerate")(me:X.mg "enumerate"=none)(hc:X.calm=true)(ha:eB X W3 [a] ta)
 (hs:starEach [.Call (.Name "enumerate" p2) [a] [] pos2] X.env=[(false,eval (.Call (.Name "enumerate" p2) [a] [] pos2) X.env)]:=by rfl) (hs2:starEach [a] X.env=[(false,eval a X.env)]:=by rfl) :
 aH X W3 (.Call (.Name "list" p) [.Call (.Name "enumerate" p2) [a] [] pos2] [] pos) (mi (wz ta) mh mf (v3 0) []):=λZ=>by
 refine PE.imp (WS (g:=zQ X.K (kz 0)) (tt:=tq X.K mf) (te:=sO X.K (v3 0)) hc gl ml ge me (ha Z) ?_ ?_ ?_ hs hs2) λτ H Q h=>?_
 ·rintro v o H Q ⟨Z',d,σ,S,Q3,rd,rs,rl,t,c⟩;cases rs with
  |cons r1 r2 =>
   cases r2;exact c _ S [some v] H (Kp.refl _ _) (.cons (λd' e=>by cases e;exact⟨v,rfl,rd⟩) .nil) rl t
 ·rintro τ H Q ⟨Z',σ,S,Q3,rs,rl,t,c⟩;exact c true S H (Kp.refl _ _) rl t
 ·rintro v H Q ⟨Z',σ,S,Q3,rs,rl,⟨d,hd,q⟩,c⟩;obtain⟨v',h1,h2⟩:=rs.at hd;have e:v'=v:=show _ by simpa using h1.symm
  subst e;exact c d S v' H (Kp.refl _ _) h2 rl q
 ·exact Jc (zT zS h)
theorem W0{n:Nat}{xs:List D}{t:jB}{Q:aL->af->Prop}(hn:xs.length=n)(h:t xs σ S Q):vE n t (.tup xs) σ S Q:=⟨xs,rfl,hn,h⟩
theorem W1{v:D}{r:List D}{t:eG}{u:jB}{Q:aL->af->Prop}(h:t v σ S λσ' S'=>u r σ' S' Q):pv t u (v::r) σ S Q:=⟨v,r,rfl,h⟩
theorem W2{Q:aL->af->Prop}(h:Q σ S):vB [] σ S Q:=⟨rfl,h⟩
end
end E3
namespace EE
open PySem PySem.Spec PyProof.Rows L2
section
variable{X:Cx}
theorem W4{n:Nat}(hu:X.A.units+(n+1)<cLine):cO X (compareOp .In) (λx y H Q=>∃d p xs ds,DR X.K H d x/\y=.ref p/\bg X.K H p xs/\dQ X.K H ds xs/\(∀e∈ds,bN e<=n)/\Q (.bl (ds.any λe=>bu e d)) H):=show _ by
 intro pins s σ H x y v u Q I rx ry h;obtain⟨d,p,xs,ds,hd,rfl,hq,hds,hn,q⟩:=h;cases ry;obtain⟨its,r,pl,hz⟩:=I.list hq;have hl1:=r.length;have hl2:=hds.len;have hl3:ds.length=its.length:=by lia
 have each:∀(i:Nat) (w:Value),its[i]?=some w->∃e z,ds[i]?=some e/\DR X.K H e z/\RelV z w/\Ds X.A.in1 s w v (bu e d):=λi w hw=>by
  have hi:i<xs.length:=by have:=(cu.mp hw).1;lia
  obtain⟨w',hw',h_⟩:=r.get (bb hi);rw[hw]at hw';cases hw';obtain⟨e,he,hde⟩:=hds.at (bb hi);exact⟨e,xs[i],he,hde,h_,(Fy I n X.A.in1 e d xs[i] x w v (hn e (dg he)) (by show X.A.units+1+n<cLine;lia) hde hd h_ rx).2⟩
 classical
 refine MY (λw=>decide (∃(i:Nat) (e:Dt),its[i]?=some w/\ds[i]?=some e/\bu e d=true)) pl.isList (λw hw=>?_) ⟨.bl _,H,I,rfl,?_⟩
 ·obtain⟨i,hi,ew⟩:=lH (show w∈its by simpa using hw);have Je:its[i]?=some w:=by rw[bb hi,ew]
  obtain⟨e,z,he,hde,rz,W5⟩:=each i w Je;have ef:decide (∃(i:Nat) (e:Dt),its[i]?=some w/\ds[i]?=some e/\bu e d=true)=bu e d:=by
   rw[gA,decide_eq_true_iff];refine⟨λ⟨j,e',h1,h2,h3⟩=>?_,λh3=>⟨i,e,Je,he,h3⟩⟩;obtain⟨e2,z2,he2,W6,W7,_⟩:=each j w h1;rw[h2]at he2;cases he2;have ez:z2=z:=W7.inj rz;subst ez;rw[DR.inj I hde W6];exact h3
  rw[ef];exact W5
 ·have eb:(its.toArray.any λw=>decide (∃(i:Nat) (e:Dt),its[i]?=some w/\ds[i]?=some e/\bu e d=true))=ds.any λe=>bu e d:=by
   rw[gA];simp only[List.any_toArray,uC,decide_eq_true_iff];constructor
   ·rintro⟨w,_,i,e,_,h2,h3⟩;exact⟨e,dg h2,h3⟩
   ·rintro⟨e,he,h3⟩;obtain⟨i,hi,rfl⟩:=lH he;exact⟨its[i],uG _,i,_,bb (by lia),bb hi,h3⟩
  rw[eb];exact q
end
end EE
namespace E3
open PySem PySem.Spec PyProof.Rows L2 EE
section
variable{P:Program}{w:World}{K:PySem.W.Frag}{mg:Str->Option Value}{base:Heap}{x:Str}{st:Stmt}{N ps:List Str}{k:Nat}
def mq(A:List D->af->(D->af->Prop)->(Addr->Prop)->Prop):aK:=λds S Q W=>A ds S Q λC=>∀a,W C a S
theorem _root_.EE.aA.mq{A:List D->af->(D->af->Prop)->(Addr->Prop)->Prop}(h:aA K mg x st ps)(S:aW N ps (ak st))(len:∀ds S q qx,A ds S q qx->ds.length=ps.length)
 (hbody:∀(f:Addr) (cdv:Value) (Ar:Around) (outer:List Env) (s:Shared) (H:Hp) (E:XK) (ds:List D) (S:af) (q:D->af->Prop) (qx:Addr->Prop),bR k (Ar.deeper (envOfC x (ak st) s.heap.objs.size f cdv))->A ds S q qx ->
  ∃t,da (cY (cc P w) P w K mg base N x (ak st) f cdv Ar outer s H E) (λ_ C _ S'=>Sub S S'/\qx C) (aR st) t /\
   t {nx:=λ_ S'=>∃T,Sub T S'/\q .non T,rt:=λd S'=>∃T,Sub T S'/\q d T} (dU N ds) S):aq P w K mg base (k+1) x ps (mq A):=show _ by
 have C:aq P w K mg base (k+1) x ps (λds S Q E=>∃q qx,A ds S q qx/\(∀d S',(∃T,Sub T S'/\q d T)->Q d S')/\∀C a S',Sub S S'/\qx C->E C a S'):=by
  refine h.vQ S (λvs H Q E cB=>by obtain⟨q,qx,z,_⟩:=cB;exact len _ _ _ _ z) λf cdv Ar outer s H E ds S3 Q E3 hr ⟨q,qx,z,hq,hx⟩=>?_;obtain⟨t,h1,h2⟩:=hbody f cdv Ar outer s H E ds S3 _ _ hr z;exact⟨t,λd S'=>∃T,Sub T S'/\q d T,λC _ S'=>Sub S3 S'/\qx C,h1,h2,hq,hx⟩
 exact C.zF.imp λds S Q E z=>⟨_,_,z,λd S1 fo=>by obtain⟨T,hs,hq⟩:=fo;exact⟨T,hs,hq⟩,λC a S1 hx=>⟨S,hx.1,hx.2 a⟩⟩
end
section
variable{K:PySem.W.Frag}{S:af}{Q:K3}
def Jf(n:Nat):R3:=λx y S Q=>∃d a xs ds,Dn S x d/\y=.ref a/\S a=some (.lst xs)/\dc S xs ds/\(∀e∈ds,bN e<=n)/\Q (.bl (ds.any λe=>bu e d)) S
theorem W8{n:Nat}:du K (Jf n) (λx y H Q=>∃d p xs ds,DR K H d x/\y=.ref p/\bg K H p xs/\dQ K H ds xs/\(∀e∈ds,bN e<=n)/\Q (.bl (ds.any λe=>bu e d)) H):=show _ by
 intro Z x y S Q3 v w H Q rx ry l h c;obtain⟨d,a,xs,ds,h1,rfl,h2,h3,hn,q⟩:=h;cases ry;obtain⟨vs,h4,h5⟩:=l.obj a _ h2;exact⟨d,a,vs,ds,h1.down l rx,rfl,bg.of h4,h3.down l h5,hn,c _ S _ H (Kp.refl _ _) (.bl _) l q⟩
end
abbrev Gr:=Str×Str×cZ
abbrev fP(g h:Gr):Bool:=decide (g.2.1=h.1)
def gR(g h:Gr):Gr:=(g.1,h.2.1,pP g.2.2 h.2.2)
def iZ(w:List Int):D:=.tup (w.map D.int)
def c6(p:Gr×List Int):D:=.tup [br p.1,iZ p.2]
def kK(p:Int×Gr):D:=.tup [.int p.1,br p.2]
theorem pT(g:Gr):(br g).pure=true:=V0 ..
theorem wA(g:Gr):bN (br g).dt<=10:=V1 ..
theorem Jg:∀r:List Int,D.cA (r.map D.int)=r.map Dt.int
 |[]=>rfl
 |x::r=>by rw[bO,bO,D.cA,Jg r];rfl
theorem Jh:∀A:cZ,D.cA (A.map cC)=A.map λr=>Dt.tup (r.map Dt.int)
 |[]=>rfl
 |r::A=>by rw[bO,bO,D.cA,Jh A];simp only[cC,D.dt,Jg]
theorem Am(g:Gr):(br g).dt=.tup [.str g.1,.str g.2.1,.tup (g.2.2.map λr=>Dt.tup (r.map Dt.int))]:=by
 simp only[br,fO,iq,D.dt,D.cA,Jh]
theorem Ji:∀r:List Int,iO (r.map Dt.int)=true
 |[]=>rfl
 |x::r=>by simp only[bO,iO,iN,Ji r,jU]
theorem Jj:∀A:cZ,iO (A.map λr=>Dt.tup (r.map Dt.int))=true
 |[]=>rfl
 |r::A=>by simp only[bO,iO,iN,Ji r,Jj A,jU]
theorem Jk(g:Gr):iN (br g).dt=true:=by
 rw[Am];simp only[iN,iO,Jj,jU]
theorem Jl:∀{r r':List Int},r.map Dt.int=r'.map Dt.int->r=r'
 |[],[],_=>rfl
 |[],_::_,h=>by cases h
 |_::_,[],h=>by cases h
 |x::r,y::r',h=>by
  simp only[bO,D4,Dt.int.injEq]at h;rw[h.1,Jl h.2]
theorem Jm:∀{A B:cZ},(A.map λr=>Dt.tup (r.map Dt.int))=(B.map λr=>Dt.tup (r.map Dt.int))->A=B
 |[],[],_=>rfl
 |[],_::_,h=>by cases h
 |_::_,[],h=>by cases h
 |r::A,r'::B,h=>by
  simp only[bO,D4,Dt.tup.injEq]at h;rw[Jl h.1,Jm h.2]
theorem W9{g h:Gr}(e:(br g).dt=(br h).dt):g=h:=by
 rw[Am,Am]at e;simp only[Dt.tup.injEq,D4,Dt.str.injEq,and_true]at e;obtain⟨g1,g2,g3⟩:=g;obtain⟨h1,h2,h3⟩:=h;obtain⟨e1,e2,e3⟩:=e;dsimp only at e1 e2 e3;rw[e1,e2,Jm e3]
theorem Jn(g h:Gr):bu (br g).dt (br h).dt=decide (g=h):=by
 by_cases e:g=h
 ·rw[e,kq];simp
 ·rw[decide_eq_false e];cases c:bu (br g).dt (br h).dt with
  |false=>rfl
  |true=>exact absurd (W9 (Fu (Jk g) (Jk h) c)) e
section
variable{S:af}{Q:K3}
theorem W_{a:Addr}{gs:List Gr}{g:Gr}{n:Nat}(hn:10<=n)(hS:S a=some (.lst (gs.map br)))(q:Q (.bl (decide (g∈gs))) S):Jf n (br g) (.ref a) S Q:=show _ by
 refine⟨(br g).dt,a,gs.map br,D.cA (gs.map br),Dn.of (pT g),rfl,hS,dc.of (D.ny.mpr λd hd=>?_),λe he=>?_,?_⟩
 ·obtain⟨h,_,rfl⟩:=bM.mp hd;exact pT h
 ·rw[D.kC]at he;obtain⟨d,hd,rfl⟩:=bM.mp he;obtain⟨h,_,rfl⟩:=bM.mp hd;exact cj (wA h) hn
 ·have e:((D.cA (gs.map br)).any λe=>bu e (br g).dt)=decide (g∈gs):=by
   rw[D.kC,fe,NK,gA,uC,decide_eq_true_iff];constructor
   ·rintro⟨h,hh,e⟩;have e2:bu (br h).dt (br g).dt=true:=e;rw[Jn,decide_eq_true_iff]at e2;rw[<-e2];exact hh
   ·intro h;exact⟨g,h,by show bu (br g).dt (br g).dt=true;exact kq _⟩
  rw[e];exact q
theorem Xa{g h:Gr}{n:Nat}(hn:10<=n)(q:Q (.bl (decide (g=h))) S):zg n (br g) (br h) S Q :=
 ⟨_,_,Dn.of (pT g),Dn.of (pT h),cj (wA g) hn,by rw[Jn];exact q⟩
end
structure Gd(ar:Str->Option Nat)(g:Gr):Prop where
 ex:∃m n,ar g.1=some m/\ar g.2.1=some n/\1<=m/\1<=n/\m<=4/\n<=4/\Mt m n g.2.2
theorem Gd.cmp{ar:Str->Option Nat}{g h:Gr}(hg:Gd ar g)(hh:Gd ar h)(hf:g.2.1=h.1):Gd ar (gR g h):=by
 obtain⟨m,n,e1,e2,m1,n1,m4,n4,hM⟩:=hg.ex;obtain⟨m',n',e1',e2',m1',Xb,m4',Xc,hM'⟩:=hh.ex;rw[hf,e1']at e2;cases e2;exact⟨m,n',e1,e2',m1,Xb,m4,Xc,hM.cmp hM' (by lia)⟩
def tH(A:cZ):Bool:=(ba A.length).any λi=>decide ((A.getD i []).getD i 0=2)
def i6(g:Gr):Bool:=fP g g&&(decide (gR g g=g)&&!tH g.2.2)
abbrev gy(nb:List (Int×Gr)):Option (CL.Fd Gr):=CL.kJ fP gR nb
def nJ(F:CL.Fd Gr):Option (List Int):=(F.find? λp=>i6 p.1).map (·.2)
def eY(gs:List Gr):List (Int×Gr):=gs.zipIdx.map λp=>((p.2:Int),p.1)
theorem Xd(gs:List Gr):fB (gs.map br)=(eY gs).map kK:=by
 unfold fB eY;apply iE;intro i;simp only[aS,NJ];cases gs[i]?<;>simp[kK]
theorem Jo{gs:List Gr}{p:Int×Gr}(h:p∈eY gs):p.2∈gs:=by
 unfold eY at h;obtain⟨q,hq,rfl⟩:=bM.mp h;exact List.fst_mem_of_mem_zipIdx hq
theorem Xe(gs:List Gr):(eY gs).length=gs.length:=by simp[eY]
end E3
namespace E3
abbrev cD(counts:List Nat):List D:=counts.map λc:Nat=>D.int (c:Int)
end E3
namespace E3
open PySem PySem.Spec PyProof.Rows L2 EE
def Xf(Nm:List Str)(g:Gr):Prop:=g.1∈Nm/\g.2.1∈Nm
def tb(xs ys:List Str)(x:Str):Str:=ys.getD (xs.idxOf x) ""
theorem Jp:∀{xs:List Str} {ns:List Nat} {y:Str} {n:Nat},cP xs ns y=some n->y∈xs
 |[],_,_,_,h=>by simp[cP]at h
 |_::_,[],_,_,h=>by simp[cP]at h
 |x::xs,m::ns,y,n,h=>by
  rw[cP]at h
  split at h
  ·rename_i e;rw[e];exact df
  ·exact dk _ (Jp h)
end E3
namespace CL
end CL
namespace E3
open PySem PySem.Spec PyProof.Rows L2 EE
def f6(f:Str)(d:D):List (Str×D)->List (Str×D)
 |[]=>[(f,d)]
 |(k,x)::r=>if k=f then(k,d)::r else(k,x)::f6 f d r
abbrev FP(K:ao)(H:Hp)(fs:List (Str×D))(ws:List (Str×V)):Prop:=Paired (λ(p:Str×D) (q:Str×V)=>p.1=q.1/\Rp K H p.2 q.2) fs ws
section
variable{K:PySem.W.Frag}{H:Hp}
theorem FP.look{f:Str}{d:D}:∀{fs:List (Str×D)} {ws:List (Str×V)},FP K H fs ws->fs.lookup f=some d->∃v,ws.lookup f=some v/\Rp K H d v
 |_,_,.nil,e=>by simp at e
 |(k,x)::fs,(k',y)::ws,.cons ⟨h1,h2⟩ t,e=>by
  have h1:k=k':=h1;subst h1;by_cases hb:(f==k)=true
  ·simp only[g6,hb]at e ⊢;cases e;exact⟨_,rfl,h2⟩
  ·have hb:(f==k)=false:=show _ by simpa using hb
   simp only[g6,hb]at e ⊢;exact FP.look t e
theorem FP.none{f:Str}:∀{fs:List (Str×D)} {ws:List (Str×V)},FP K H fs ws->fs.lookup f=none->ws.lookup f=none
 |_,_,.nil,_=>rfl
 |(k,x)::fs,(k',y)::ws,.cons ⟨h1,h2⟩ t,e=>by
  have h1:k=k':=h1;subst h1;by_cases hb:(f==k)=true
  ·simp only[g6,hb]at e;cases e
  ·have hb:(f==k)=false:=show _ by simpa using hb
   simp only[g6,hb]at e ⊢;exact FP.none t e
theorem FP.put{f:Str}{d:D}{v:V}(r:Rp K H d v):∀{fs:List (Str×D)} {ws:List (Str×V)},FP K H fs ws->FP K H (f6 f d fs) (eA f v ws)
 |_,_,.nil=>.cons ⟨rfl,r⟩ .nil
 |(k,x)::fs,(k',y)::ws,.cons ⟨h1,h2⟩ t=>by
  have h1:k=k':=h1;subst h1;rw[show eA f v ((k,y)::ws)=(if k=f then(k,v)::ws else(k,y)::eA f v ws) from rfl,f6];by_cases hk:k=f
  ·rw[if_pos hk,if_pos hk];exact .cons ⟨rfl,r⟩ t
  ·rw[if_neg hk,if_neg hk];exact .cons ⟨rfl,h2⟩ (FP.put r t)
theorem FP.len:∀{fs:List (Str×D)} {ws:List (Str×V)},FP K H fs ws->fs.length=ws.length
 |_,_,.nil=>rfl
 |_,_,.cons _ t=>by simp[FP.len t]
theorem FP.mono{Z:Zt}{H':Hp}{fs:List (Str×D)}{ws:List (Str×V)}(k:Kp Z H H')(h:FP K H fs ws):FP K H' fs ws:=Paired.jq h λ_ _ z=>⟨z.1,z.2.mono k⟩
end
def jM(C:Addr)(f:Str):D->af->K3->Prop:=λx S Q=>∃a fs d,x=.ref a/\S a=some (.ins C fs)/\fs.lookup f=some d/\Q d S
def Jq(C:Addr)(t:aG)(f:Str):aG:=λσ S Q=>t σ S λx S1=>jM C f x S1 Q
def pU(C:Addr)(f:Str):D->D->af->(af->Prop)->Prop:=λx y S q=>∃a fs,x=.ref a/\S a=some (.ins C fs)/\fs.length<1000/\q (up S a (.ins C (f6 f y fs)))
def Jr(C:Addr)(ta tv:aG)(f:Str):b6:=λD3 σ S=>tv σ S λy S1=>ta σ S1 λx S2=>pU C f x y S2 (D3.nx σ)
def tI(C:Addr)(m:Str)(k:Addr->Prop)(x:D)(S:af):Prop:=∃a fs,x=.ref a/\S a=some (.ins C fs)/\fs.lookup m=none/\k a
def Js(C:Addr)(m:Str)(sp:aK)(W3:bL)(ta:aG)(t:bZ):aG:=λσ S Q=>ta σ S λx S1=>tI C m (λa=>t σ S1 λds S2=>sp (.ref a::ds) S2 Q (W3 σ)) x S1
def Jt(C:Addr)(m:Str)(sp:aK)(W3:bL)(ta:aG):aG:=λσ S Q=>ta σ S λx S1=>tI C m (λa=>sp [.ref a] S1 Q (W3 σ)) x S1
def Ju(C:Addr)(sp:aK)(W3:bL)(t:bZ):aG:=λσ S Q=>t σ S λds S1=>∀a,S1 a=none->sp (.ref a::ds) (up S1 a (.ins C [])) (λd S2=>d=.non/\Q (.ref a) S2) (W3 σ)
section
variable{X:Cx}{W3:bL}{o e value:Expr}{f:Str}{pos pos':Pos}{ta tv t:aG}{C:Addr}
theorem cV(c:fT X.K C)(n:fU X.K C f)(he:aH X W3 e t)(hb:attributeBase e f X.env (eval e X.env)=eval e X.env):aH X W3 (.Attribute e f pos) (Jq C t f):=show _ by
 refine λZ=>PE.imp (P9 (he Z) hb) λτ H Q ⟨σ,S,Q3,hs,hr,ht,hc⟩=>?_;refine⟨σ,S,_,hs,hr,ht,λd S1 v H1 k1 r1 l1 ⟨a,fs,d',e1,e2,e3,q⟩=>?_⟩;subst e1;cases r1;obtain⟨dx,ws,h1,h2⟩:=l1.obj a _ e2;obtain⟨v',h3,h4⟩:=FP.look h2 e3;exact⟨a,C,dx,ws,v',rfl,h1,c,n,h3,hc d' S1 v' H1 k1 h4 l1 q⟩
theorem i7(c:fT X.K C)(n:fU X.K C f)(ha:aH X W3 o ta)(hv:aH X W3 value tv)(hs:swapsWith value (some (.Attribute o f pos')) pos.line X.env=pure false):eC X W3 (.Assign [.Attribute o f pos'] value pos) (Jr C ta tv f):=show _ by
 refine λZ=>PS.imp (P_ (ha Z) (hv Z) hs) λD τ H ⟨D3,σ,S,hs,hr,ht,hc⟩=>?_;refine⟨σ,S,_,hs,hr,ht,λy S1 vy H1 k1 ry l1 q1=>⟨σ,S1,_,hs.mono k1,l1,q1,λx S2 vx H2 k2 rx l2 ⟨a,fs,e1,e2,hl,q⟩=>?_⟩⟩;subst e1;cases rx;obtain⟨dx,ws,h1,h2⟩:=l2.obj a _ e2;have k3:Kp Z.z H2 (upd H2 a (.ins C dx (eA f vy ws))):=Kp.at l2 e2;refine⟨a,C,dx,ws,rfl,h1,c,n,by rw[<-FP.len h2];exact hl,hc.nx σ _ τ _ ((k1.trans k2).trans k3) (hs.mono ((k1.trans k2).trans k3)) (l2.put (o:=.ins C (f6 f y fs)) k3 (l2.m_ e2) ⟨dx,_,dm,?_⟩) q⟩;exact FP.put ((ry.mono k2).mono k3) (FP.mono k3 h2)
end
structure d_(K:ao)(C:Addr)(m q:Str)(st:Stmt)(ps:List Str):Prop where
 ex:∃f fd,m7 K m q st f fd/\Binds K fd ps []/\Meth K C m f
structure de(P:Program)(w:World)(K:ao)(mg:Str->Option Value)(base:Heap)(k:Nat)(C:Addr)(m:Str)(ps:List Str)(sp:aK):Prop where
 ex:∃f fd,dj P w K mg base (cc P w) k f fd ps (iS K sp)/\Binds K fd ps []/\Meth K C m f
section
variable{P:Program}{w:World}{K:PySem.W.Frag}{mg:Str->Option Value}{base:Heap}{m q:Str}{C:Addr}{st:Stmt}{N ps:List Str}{k:Nat}
theorem de.mono{j k:Nat}{sp:aK}(M:de P w K mg base j C m ps sp)(h:j<=k):de P w K mg base k C m ps sp:=by
 obtain⟨f,fd,F,r⟩:=M.ex;exact⟨f,fd,F.mono h,r⟩
theorem kL{f:Addr}{oc:Value}{od an:Option Addr}{osl:Array (Option Value)}{kV doc pm cdv ct:Value}
 (a:cM K (.ref C) m=some (some (.ref f))) (i:g0 K (.ref f)=true) (l:K.lookup f=some ⟨oc,od,.func (a8 m q (bc st) (aR st) (ak st) .none kV doc pm an cdv ct),osl⟩)
 (c:bt K cdv q=true) (k:a7 K (.ref f)=true)
 (hb:∀(kV doc pm:Value) (an:Option Addr) (cdv ct:Value) (us:List Value),us.length=ps.length->bindArgs (a8 m q (bc st) (aR st) (ak st) .none kV doc pm an cdv ct) ⟨us,[]⟩=pure (ps.zip us)):d_ K C m q st ps:=show _ by
 have F:=yI (st:=st) l c k;exact⟨f,_,F,F.binds hb,a,i,k⟩
theorem d_.kM{sp:aK}(h:d_ K C m q st ps)(S:aW N ps (ak st))(len:∀vs H Q E,sp vs H Q E->vs.length=ps.length)
 (hbody:∀(f:Addr) (cdv:Value) (A:Around) (outer:List Env) (s:Shared) (H:Hp) (E:XK) (ds:List D) (S:af) (Q:K3) (E3:X3),bR k (A.deeper (envOfC q (ak st) s.heap.objs.size f cdv))->sp ds S Q E3 ->
  ∃t,da (cY (cc P w) P w K mg base N q (ak st) f cdv A outer s H E).gj c_ (aR st) t/\t {nx:=λ_ S'=>Q .non S',rt:=Q} (dU N ds) S):de P w K mg base (k+1) C m ps sp:=show _ by
 obtain⟨f,fd,F,b,mt⟩:=h.ex;obtain⟨oc,od,kV,doc,pm,an,cdv,ct,osl,rfl,lk,hcd⟩:=F.ex;refine⟨f,_,u7 lk hcd S (λvs H Q E cB=>by obtain⟨Z,ds,S,Q3,E3,h1,_,h3,_,_⟩:=cB;rw[<-h1.len];exact len _ _ _ _ h3) λA outer s H vs Q E hr ⟨Z,ds,S3,Q3,E3,h1,h2,h3,h4,_⟩=>?_,b,mt⟩;obtain⟨t,ht,q⟩:=hbody f cdv A outer s H E ds S3 Q3 E3 hr h3;refine⟨_,(ht (zo Z H)).gj,_,dU N ds,S3,?_,h2.into,q,⟨?_,?_,?_,?_⟩⟩
 ·unfold dU L2.start;rw[h1.len];exact nc (SR.sE h1) (SR.nones _)
 ·intro σ S' τ H' kk _ l q';exact h4 .non S' .non H' (kk.dR λ_ z=>z) .non (l.out h2 kk) q'
 ·exact λ_ _ _ _ _ _ _ z=>z
 ·exact λ_ _ _ _ _ _ _ z=>z
 ·exact λd S' v H' kk r l q'=>h4 d S' v H' (kk.dR λ_ z=>z) r (l.out h2 kk) q'
end
section
variable{X:Cx}{CX:fV}{k:Nat}{f C:Addr}{fd:FuncData}{ps:List Str}{sp:Sp}{E:L2.St->XK}{x m:Str}{p pos apos:Pos}{e o:Expr}{es:List Expr}{ta:TE}{t:TA}
theorem Jw{pins:List (Addr×Obj)}{σ:L2.St}{H:Hp}{s:Shared}{Q:VK}{us:List Value}{vs:List V}(F:dj X.prog X.w X.K X.mg X.base CX k f fd ps sp)(hr:bR k X.A)(hb:Binds X.K fd ps [])(hx:∀τ,ng CX X (E τ) τ)
 (I:Inv X pins σ H s) (r:Vals vs us) (h:sp vs H Q (E σ)):wpAny (model X.prog X.w) X.A (call (.ref f) us) (EP X pins σ Q) X.xe s:=show _ by
 have hl:us.length=ps.length:=by rw[<-r.length];exact F.len _ _ _ _ h
 have hb':=hb s us I.cX (by rw[f_];exact hl);rw[f_]at hb';refine DI (uk (F.run X.A X.stack s H ⟨us,[]⟩ us vs Q (E σ) hr I.env0 hb' r h) λr s' hq=>?_);cases r with
 |error e=>exact hx σ pins H s e s' I hq
 |ok fl =>
  cases fl with
  |ret u=>exact I.after hq
  |next=>exact eI hq
  |brk=>exact eI hq
  |cont=>exact eI hq
theorem Xg{pl:Sem Bool}(he:PE X o ta)(c:fT X.K C)(hm:Meth X.K C m f)(F:dj X.prog X.w X.K X.mg X.base CX k f fd ps sp)(hr:bR k X.A)(hb:Binds X.K fd ps [])(hx:∀τ,ng CX X (E τ) τ)(ha:PA X (e::es) t)
 (hst:starEach (e::es) X.env=(false,eval e X.env)::starEach es X.env) (hpl:(backTo pos (starEach es X.env)).any (·.1)=false)
 (ht:eval (.Call (.Attribute o m apos) (e::es) [] pos) X.env=(do
  let ov <-eval o X.env
  standAt apos.atName
  let(f,first) <-holding [ov] (getMethod ov m pl)
  callWith pos f first (backTo pos (starEach (e::es) X.env)) (backToKw pos (keywordEach [] X.env)))) :
 PE X (.Call (.Attribute o m apos) (e::es) [] pos) (λτ H Q=>ta τ H λx H1=>∃a dx fs,x=.ref a/\H1 a=some (.ins C dx fs)/\fs.lookup m=none/\t τ H1 λvs H2=>sp (.ref a::vs) H2 Q (E τ)):=show _ by
 intro pins s σ H Q I h;refine NL (pl:=pl) (aF (he pins s σ H _ I h) λu s1 ⟨x,H1,I1,rx,a,dx,fs,ex,ea,l,q⟩=>?_) ht;subst ex;obtain rfl:u=Value.ref a:=rx;refine ED I1 ea c hm l ?_;refine DH (first:=[.ref a]) (h₀:=X.base) I.ok.mod.gC hm.kp (aF (ha pos pins s1 σ H1 _ I1 q) λus s2 ⟨vs,H2,I2,r,q2⟩=>⟨I2.cX,?_⟩) hst hpl;exact Jw (us:=.ref a::us) (vs:=.ref a::vs) F hr hb hx I2 (.cons rfl r) q2
theorem Xh{pl:Sem Bool}(he:PE X o ta)(c:fT X.K C)(hm:Meth X.K C m f)(F:dj X.prog X.w X.K X.mg X.base CX k f fd ps sp)(hr:bR k X.A)(hb:Binds X.K fd ps [])(hx:∀τ,ng CX X (E τ) τ)
 (ht:eval (.Call (.Attribute o m apos) [] [] pos) X.env=(do
  let ov <-eval o X.env
  standAt apos.atName
  let(f,first) <-holding [ov] (getMethod ov m pl)
  callWith pos f first (backTo pos (starEach [] X.env)) (backToKw pos (keywordEach [] X.env)))) :
 PE X (.Call (.Attribute o m apos) [] [] pos) (λτ H Q=>ta τ H λx H1=>∃a dx fs,x=.ref a/\H1 a=some (.ins C dx fs)/\fs.lookup m=none/\sp [.ref a] H1 Q (E τ)):=show _ by
 intro pins s σ H Q I h;refine NL (pl:=pl) (aF (he pins s σ H _ I h) λu s1 ⟨x,H1,I1,rx,a,dx,fs,ex,ea,l,q⟩=>?_) ht;subst ex;obtain rfl:u=Value.ref a:=rx;refine ED I1 ea c hm l ?_;exact PySem.W.callWith_K0 (first:=[.ref a]) I1.cX hm.kp (Jw (us:=[.ref a]) (vs:=[.ref a]) F hr hb hx I1 (.cons rfl .nil) q)
theorem Xi(M:Mk X.K C f)(F:dj X.prog X.w X.K X.mg X.base CX k f fd ps sp)(hr:bR (k+1) X.A)(hg:Gl X x)(hm:X.mg x=some (.ref C))(hb:Binds X.K fd ps [])(hx:∀τ,ng CX X (E τ) τ)
 (ha:PA X (e::es) t) (hdb:(x==("__debug__":Str))=false) (he:starEach (e::es) X.env=(false,eval e X.env)::starEach es X.env) (hpl:(backTo pos (starEach es X.env)).any (·.1)=false) :
 PE X (.Call (.Name x p) (e::es) [] pos) (λτ H Q=>t τ H λvs H1=>∀x dx,H1 x=none->H1 dx=none->dx≠x ->
  sp (.ref x::vs) (upd (upd H1 dx (.own x)) x (.ins C dx [])) (λv H2=>v=.non/\Q (.ref x) H2) (E τ)):=show _ by
 intro pins s σ H Q I h;refine xy (rN I hg hm ?_ hdb);refine DH (h₀:=X.base) I.ok.mod.gC M.kp (aF (ha pos pins s σ H _ I h) λus s1 ⟨vs,H1,I1,r,q⟩=>⟨I1.cX,?_⟩) he hpl;have hq:=q (s1.heap.objs.size+1) s1.heap.objs.size (I1.hok.fresh (Nat.le_succ _)) (I1.hok.fresh (aV _)) (cW (xw _));have I2:=Inv.made (C:=C) I1;have r2:Vals (V.ref (s1.heap.objs.size+1)::vs) (Value.ref (s1.heap.objs.size+1)::us):=.cons rfl r;have hl:(Value.ref (s1.heap.objs.size+1)::us).length=ps.length:=by
  have e:=r2.length;rw[F.len _ _ _ _ hq]at e;exact e.symm
 have hb':=hb _ (Value.ref (s1.heap.objs.size+1)::us) I2.cX (by rw[f_];exact hl);rw[f_]at hb';refine DI (P1 (f:=f) I1.cX M.makes M.init (beq_iff_eq.mp M.fn) (uk (F.run _ X.stack _ _ ⟨Value.ref (s1.heap.objs.size+1)::us,[]⟩ (Value.ref (s1.heap.objs.size+1)::us) _ _ (E σ) (hr.make C us [])
  (I2.env0.make C us []) hb' r2 hq) λr s' hq'=>?_))
 cases r with
 |error e=>exact hx σ pins _ _ e s' I2 hq'
 |ok fl =>
  cases fl with
  |ret u =>
   obtain⟨v,H',I3,rv,ev,q3⟩:=I2.after hq';subst ev;exact⟨rv,⟨V.ref (s1.heap.objs.size+1),H',I3,rfl,q3⟩⟩
  |next=>exact eI hq'
  |brk=>exact eI hq'
  |cont=>exact eI hq'
end
section
variable{X:Cx}{W3:bL}{k:Nat}{C:Addr}{m y:Str}{ps:List Str}{sp:aK}{pos apos p:Pos}{o e:Expr}{es:List Expr}{ta:aG}{t:bZ}
theorem mr{pl:Sem Bool}(M:de X.prog X.w X.K X.mg X.base k C m ps sp)(c:fT X.K C)(hr:bR k X.A)(he:aH X W3 o ta)(ha:eB X W3 (e::es) t)
 (hst:starEach (e::es) X.env=(false,eval e X.env)::starEach es X.env:=by rfl) (hpl:(backTo pos (starEach es X.env)).any (·.1)=false:=by rfl)
 (ht:eval (.Call (.Attribute o m apos) (e::es) [] pos) X.env=(do
  let ov <-eval o X.env
  standAt apos.atName
  let(f,first) <-holding [ov] (getMethod ov m pl)
  callWith pos f first (backTo pos (starEach (e::es) X.env)) (backToKw pos (keywordEach [] X.env))):=by rfl) :
 aH X W3 (.Call (.Attribute o m apos) (e::es) [] pos) (Js C m sp W3 ta t):=show _ by
 obtain⟨f,fd,F,b,mt⟩:=M.ex;refine λZ=>PE.imp (Xg (he Z) c mt F hr b Z.pass (ha Z) hst hpl ht) λτ H Q ⟨σ,S,Q3,hs,hl,ht,hc⟩=>?_;refine⟨σ,S,_,hs,hl,ht,λd S1 v H1 k1 r1 l1 ⟨a,fs,e1,e2,e3,q⟩=>?_⟩;subst e1;cases r1;obtain⟨dx,ws,h1,h2⟩:=l1.obj a _ e2;refine⟨a,dx,ws,rfl,h1,FP.none h2 e3,σ,S1,_,hs.mono k1,l1,q,λds S2 vs H2 k2 r2 l2 q2=>?_⟩;exact⟨Z.z,.ref a::ds,S2,Q3,W3 σ,.cons (.ref a) r2,l2,q2,hc.mono (k1.trans k2),λC' a' S3 H3 k3 l3 ha z=>Z.ce σ τ C' a' S3 H3 (hs.mono ((k1.trans k2).trans k3)) l3 ha z⟩
theorem Jx{pl:Sem Bool}(M:de X.prog X.w X.K X.mg X.base k C m ps sp)(c:fT X.K C)(hr:bR k X.A)(he:aH X W3 o ta)
 (ht:eval (.Call (.Attribute o m apos) [] [] pos) X.env=(do
  let ov <-eval o X.env
  standAt apos.atName
  let(f,first) <-holding [ov] (getMethod ov m pl)
  callWith pos f first (backTo pos (starEach [] X.env)) (backToKw pos (keywordEach [] X.env))):=by rfl) :
 aH X W3 (.Call (.Attribute o m apos) [] [] pos) (Jt C m sp W3 ta):=show _ by
 obtain⟨f,fd,F,b,mt⟩:=M.ex;refine λZ=>PE.imp (Xh (he Z) c mt F hr b Z.pass ht) λτ H Q ⟨σ,S,Q3,hs,hl,ht,hc⟩=>?_;refine⟨σ,S,_,hs,hl,ht,λd S1 v H1 k1 r1 l1 ⟨a,fs,e1,e2,e3,q⟩=>?_⟩;subst e1;cases r1;obtain⟨dx,ws,h1,h2⟩:=l1.obj a _ e2;exact⟨a,dx,ws,rfl,h1,FP.none h2 e3,Z.z,[.ref a],S1,Q3,W3 σ,.cons (.ref a) .nil,l1,q,hc.mono k1,λC' a' S3 H3 k3 l3 ha z=>Z.ce σ τ C' a' S3 H3 (hs.mono (k1.trans k3)) l3 ha z⟩
theorem Xj(M:de X.prog X.w X.K X.mg X.base k C "__init__" ps sp)(mk:uj X.K C=true)(kp:a7 X.K (.ref C)=true)(hr:bR (k+1) X.A)(hg:Gl X y)(hm:X.mg y=some (.ref C))(ha:eB X W3 (e::es) t)
 (hdb:(y==("__debug__":Str))=false:=by decide) (he:starEach (e::es) X.env=(false,eval e X.env)::starEach es X.env:=by rfl) (hpl:(backTo pos (starEach es X.env)).any (·.1)=false:=by rfl) :
 aH X W3 (.Call (.Name y p) (e::es) [] pos) (Ju C sp W3 t):=show _ by
 obtain⟨f,fd,F,b,mt⟩:=M.ex;refine λZ=>PE.imp (Xi ⟨mk,mt.at_,mt.fn,kp⟩ F hr hg hm b Z.pass (ha Z) hdb he hpl) λτ H Q ⟨σ,S,Q3,hs,hl,ht,hc⟩=>?_;refine⟨σ,S,_,hs,hl,ht,λds S1 vs H1 k1 r1 l1 q1 x dx hx hd hne=>?_⟩;have l2:Rl X.K Z.z S1 (upd H1 dx (.own x)):=l1.lay hd;have k2:Kp Z.z H1 (upd H1 dx (.own x)):=Kp.new hd (l1.fresh hd).2;have hx2:upd H1 dx (.own x) x=none:=by rw[bf (bw hne)];exact hx
 have k3:Kp Z.z (upd H1 dx (.own x)) (upd (upd H1 dx (.own x)) x (.ins C dx [])):=Kp.new hx2 (l2.fresh hx2).2;refine⟨Z.z,.ref x::ds,up S1 x (.ins C []),_,W3 σ,.cons (.ref x) ((r1.mono k2).mono k3),l2.put (o:=.ins C []) k3 (l2.fresh hx2).2 ⟨dx,[],dm,.nil⟩,q1 x (l1.fresh hx).1,?_,λC' a' S3 H3 k4 l3 ha z=>Z.ce σ τ C' a' S3 H3 (hs.mono (((k1.trans k2).trans k3).trans k4)) l3 ha z⟩;rintro d S2 v H2 k4 r2 l4 ⟨ed,q2⟩;subst ed;cases r2;exact⟨rfl,hc (.ref x) S2 _ H2 (((k1.trans k2).trans k3).trans k4) (.ref x) l4 q2⟩
end
section
variable{K:PySem.W.Frag}{S:af}{Q:K3}{σ:aL}{f m:Str}{a C:Addr}{fs:List (Str×D)}{d y:D}{t ta tv:aG}{W3:bL}{sp:aK}
theorem Xk(q:t σ S λx S1=>jM C f x S1 Q):Jq C t f σ S Q:=q
theorem nK(hS:S a=some (.ins C fs))(hl:fs.lookup f=some d)(q:Q d S):jM C f (.ref a) S Q:=⟨a,fs,d,rfl,hS,hl,q⟩
theorem Xl{t:bZ}(q:ta σ S λx S1=>tI C m (λa=>t σ S1 λds S2=>sp (.ref a::ds) S2 Q (W3 σ)) x S1):Js C m sp W3 ta t σ S Q:=q
theorem Xm(q:ta σ S λx S1=>tI C m (λa=>sp [.ref a] S1 Q (W3 σ)) x S1):Jt C m sp W3 ta σ S Q:=q
theorem Xn{t:bZ}(q:t σ S λds S1=>∀a,S1 a=none->sp (.ref a::ds) (up S1 a (.ins C [])) (λd S2=>d=.non/\Q (.ref a) S2) (W3 σ)):Ju C sp W3 t σ S Q:=q
theorem Xo{n b c:aL->af->Prop}{rt:K3}(q:tv σ S λy S1=>ta σ S1 λx S2=>pU C f x y S2 (n σ)):Jr C ta tv f ⟨n,rt,b,c⟩ σ S:=q
theorem An{q:af->Prop}(hS:S a=some (.ins C fs))(hl:fs.length<1000)(h:q (up S a (.ins C (f6 f y fs)))):pU C f (.ref a) y S q:=⟨a,fs,rfl,hS,hl,h⟩
end
end E3
namespace EE
open PySem PySem.Spec PyProof.Rows L2
theorem Xp{M:Model}{A:Around}{E:Value->Shared->Prop}{s:Shared}{β:Type}{b:Nat}(f:Nat->β->Sem (ForInStep β))(I:Nat->β->Shared->Prop)(Q:β->Shared->Prop)
 (turn:∀i c s,i<b->I i c s->wpAny M A (f i c) (λr s'=>match r with | .yield c'=>I (i+1) c' s' | .done c'=>Q c' s') E s)
 (fin:∀c s,I b c s->Q c s) (c:β) (h:I 0 c s):wpAny M A (forIn [0:b] c f) Q E s:=show _ by
 rw[aiQ];have hsz:([0:b]:NM).size=b:=by simp[aiR]
 show wpAny M A (forIn (uy 0 ([0:b]:NM).size 1) c f) Q E s;rw[hsz];refine CU f (λl c s=>∃i,i<=b/\l=uy i (b-i) 1/\I i c s) Q ?_ ?_ _ c ⟨0,b8 _,rfl,h⟩
 ·rintro x rest c s ⟨i,hib,hl,hI⟩;have hlt:i<b:=by
   rcases Nat.lt_or_ge i b with h'|h'
   ·exact h'
   ·rw[show b-i=0 by lia]at hl;simp at hl
  obtain⟨n,hn⟩:∃n,b-i=n+1:=⟨b-i-1,by lia⟩;rw[hn,NN]at hl;obtain⟨rfl,rfl⟩:=List.cons.inj hl;refine eZ (turn x c s hlt hI) (λr s' h'=>?_) λ_ _ e=>e;cases r with
  |done c'=>exact h'
  |yield c'=>exact⟨x+1,by lia,by congr 1;lia,h'⟩
 ·rintro c s ⟨i,hib,hl,hI⟩;have:i=b:=by
   rcases Nat.lt_or_ge i b with h'|h'
   ·obtain⟨n,hn⟩:∃n,b-i=n+1:=⟨b-i-1,by lia⟩;rw[hn,NN]at hl;cases hl
   ·lia
  subst this;exact fin c s hI
theorem Xq(l:Addr)(items:Array Value)(n:Nat)(dd:Option Addr)(sl:Array (Option Value))(x:Value)(e:Value->Bool)(he:∀y,y∈items->MeetsSeq.EqGives y x (e y))(j:Nat)(hj:j<items.size)
 (hit:e items[j]=true) (hno:∀m (hm:m<items.size),m<j->e items[m]=false) :
 Meets (Builtin.«tuple.index» ⟨[.ref l,x],[]⟩)
  (λ_ R s=>s.heap.get? l=some {cls:=.type "tuple",dict:=dd,data:=.seq items n,slots:=sl}/\R (.ok (.ret (.int j s.toks))) {s with toks:=s.toks+1}) :=
 .of_wp λprog w A R s h=>by
  obtain⟨hp,g,d,tk,os⟩:=s;obtain⟨hl,h⟩:=h;have f1:=M6
  wp_walk using DB hl,Xp _ (λi b s'=>b.1=none/\i<=j/\s'=⟨hp,g,d,tk,os⟩) _
  case turn =>
   rintro i b s' hi ⟨hb,hij,rfl⟩;have hi:i<items.size:=show _ by lia
   rw[Array.getElem?_eq_getElem hi];refine ai (he _ (Array.getElem_mem hi) prog w _ _ _ _ ?_);by_cases hq:i=j
   ·subst hq;rw[hit]
    wp_walk
    exact⟨_,rfl,h⟩
   ·rw[hno i hi (by lia)]
    wp_walk
    exact⟨rfl,by lia,rfl⟩
  case fin =>
   rintro⟨b1,b2⟩ s' ⟨hb,hij,rfl⟩;lia
  case h =>
   exact⟨rfl,b8 _,rfl⟩
theorem Jy:∀{ys:List Str} {us:List Value},Vals (ys.map V.str) us->∀(i:Nat) (y:Str),ys[i]?=some y->∃t,us[i]?=some (.str y t)
 |[],_,_,_,_,e=>by simp at e
 |z::ys,_,.cons r t,0,y,e=>by
  obtain⟨tk,rfl⟩:=r;simp at e;subst e;exact⟨tk,rfl⟩
 |z::ys,_,.cons r t,i+1,y,e=>Jy t i y (by simpa using e)
def Xr(k:Str):Value->Bool
 | .str z _=>z==k
 |_=>false
section
variable{X:Cx}
def Jz(K:ao):V->List V->Hp->VK->Prop:=λx vs H Q=>∃(a:Addr) (ys:List Str) (k:Str) (j:Nat),x=.ref a/\vs=[.str k]/\bh K H a (ys.map V.str)/\ys[j]?=some k/\k∉ys.take j/\Q (.int j) H
theorem Xs:m6 X "tuple.index" (Jz X.K):=show _ by
 intro pins s σ H x vs v us Q I rx rv h;obtain⟨a,ys,k,j,rfl,rfl,hq,hj,hno,q⟩:=h;cases rx;obtain⟨u,rfl,t,rfl⟩:=vals1 rv;obtain⟨its,r,⟨o,e2,hc,m,hd⟩,hz⟩:=I.tuple hq;obtain⟨oc,od,odt,osl⟩:=o;obtain rfl:oc=.type "tuple":=hc;obtain rfl:odt=.seq its.toArray m:=hd;have hlen:its.length=ys.length:=by rw[<-r.length,aB]
 have hjl:j<ys.length:=(cu.mp hj).1;have at_:∀(i:Nat) (hi:i<its.toArray.size),∃z t,ys[i]?=some z/\its.toArray[i]=.str z t:=λi hi=>by
  have hi':i<its.length:=by simpa using hi
  have hiy:i<ys.length:=by lia
  obtain⟨t,e⟩:=Jy r i _ (bb hiy);refine⟨_,t,bb hiy,?_⟩;rw[bb hi']at e;simpa using e
 have hjs:j<its.toArray.size:=by rw[bU];lia
 refine rq NO ⟨_,e2,rfl⟩ F.entry_tuple_index (F.args_tuple_index_2 _ _) (Xq a its.toArray m od osl (.str k t) (Xr k) (λy hy=>?_) j hjs ?_ λi hi hij=>?_) ⟨e2,⟨.int j,H,I.tok _,⟨_,rfl⟩,q⟩⟩
 ·obtain⟨i,hi,rfl⟩:=Array.getElem_of_mem hy;obtain⟨z,t',_,e⟩:=at_ i hi
  rw[e];exact eqGives_str z k t' t
 ·obtain⟨z,t',e1,e⟩:=at_ j hjs
  rw[hj]at e1;cases e1;rw[e];exact beq_self_eq_true k
 ·obtain⟨z,t',e1,e⟩:=at_ i hi
  rw[e];refine beq_eq_false_iff_ne.mpr λXt=>hno ?_;subst Xt;exact List.mem_iff_getElem?.mpr ⟨i,by rw[MN hij];exact e1⟩
theorem Xu{pins:List (Addr×Obj)}{σ:L2.St}{H:Hp}{s:Shared}{a:Addr}{xs:List V}(I:Inv X pins σ H s)(h:bh X.K H a xs):∃o,s.heap.get? a=some o/\o.cls=.type "tuple"/\o.dict=none:=show _ by
 obtain⟨z,its,r,⟨o,e,c,_⟩,nd⟩:=(show cG X.prog X.w H s.heap a (.tup xs) from I.hok a _ h);exact⟨o,e,c,nd o e⟩
theorem Xv{o e:Expr}{es:List Expr}{to:TE}{t:TA}{name:Str}{apos cpos:Pos}{id:String}{r:V->List V->Hp->VK->Prop}(slot:Slot "tuple" name id)(hty:typeOf (.builtin id)=pure (.type "method_descriptor"))(hm:m6 X id r)(ho:PE X o to)(ha:PA X (e::es) t)
 (hbase:attributeBase o name X.env (eval o X.env)=eval o X.env)
 (hfew:((backTo cpos (starEach (e::es) X.env)).all (λx=>!x.1)&&(backToKw cpos (keywordEach [] X.env)).all (λx=>x.1.isSome)
  && decide ((e::es).length+([]:List Keyword).length+(if([]:List Keyword).isEmpty then 0 else 1)<30))=true)
 (hline:(apos.endLine==cpos.line)=true) (hs:starEach (e::es) X.env=(false,eval e X.env)::starEach es X.env) (hplain:(backTo cpos (starEach es X.env)).any (·.1)=false) :
 PE X (.Call (.Attribute o name apos) (e::es) [] cpos) (λσ H Q=>to σ H λx H1=>∃p zs,x=.ref p/\bh X.K H1 p zs/\t σ H1 λxs H2=>r x xs H2 Q):=show _ by
 intro pins s σ H Q I h;refine MZ hbase hfew hline rfl (aF (ho pins s σ H _ I h) λv s1 ⟨x,H1,I1,r1,p,zs,ex,hq,q1⟩=>?_);subst ex;cases (show v=Value.ref p from r1);obtain⟨ob,e1,e2,e3⟩:=Xu I1 hq;refine⟨"tuple",id,PySem.F.plainAttrs_tuple,slot,hty,⟨ob,e1,e2⟩,λa z=>by cases z;exact⟨ob,e1,e3⟩,?_⟩;have hA:=ha cpos pins s1 σ H1 _ I1 q1;rw[hs]at hA ⊢;refine Du (by show(false||(backTo cpos (starEach es X.env)).any (·.1))=false;rw[hplain]<;>rfl) (Dv ?_);exact aF hA λus s2 cB=>by obtain⟨vs,H2,I2,r2,q2⟩:=cB;exact hm pins s2 σ H2 _ vs _ us Q I2 r1 r2 q2
end
end EE
namespace E3
open PySem PySem.Spec PyProof.Rows L2 EE
section
variable{K:PySem.W.Frag}{S:af}{Q:K3}
def JA:D->List D->af->K3->Prop:=λx ys S Q=>∃(zs:List Str) (k:Str) (j:Nat),ys=[.str k]/\x=.tup (zs.map D.str)/\zs[j]?=some k/\k∉zs.take j/\Q (.int j) S
theorem Xw:lZ K JA (Jz K):=by
 intro Z x ys S Q3 v vs H Q rx r l h c;obtain⟨zs,k,j,rfl,rfl,h1,h2,q⟩:=h;cases rx with
 |tup h3 h4 =>
  cases r with
  |cons r rr =>
   cases rr;cases r;rw[aT.strs h4]at h3;exact⟨_,zs,k,j,rfl,rfl,h3,h1,h2,c _ S _ H (Kp.refl _ _) (.int _) l q⟩
def JB(r:D->List D->af->K3->Prop)(to:aG)(t:bZ):aG:=λσ S Q=>to σ S λx S1=>∃ds,x=.tup ds/\t σ S1 λxs S2=>r x xs S2 Q
theorem Xx{X:Cx}{W3:bL}{o e:Expr}{es:List Expr}{to:aG}{t:bZ}{name:Str}{apos cpos:Pos}{id:String}{m3:D->List D->af->K3->Prop}{m:V->List V->Hp->VK->Prop}(slot:Slot "tuple" name id)(hty:typeOf (.builtin id)=pure (.type "method_descriptor"))(hm:m6 X id m)(hd:lZ X.K m3 m)(ho:aH X W3 o to)(ha:eB X W3 (e::es) t)
 (hbase:attributeBase o name X.env (eval o X.env)=eval o X.env:=by rfl)
 (hfew:((backTo cpos (starEach (e::es) X.env)).all (λx=>!x.1)&&(backToKw cpos (keywordEach [] X.env)).all (λx=>x.1.isSome)
  && decide ((e::es).length+([]:List Keyword).length+(if([]:List Keyword).isEmpty then 0 else 1)<30))=true:=by rfl)
 (hline:(apos.endLine==cpos.line)=true:=by rfl) (hs:starEach (e::es) X.env=(false,eval e X.env)::starEach es X.env:=by rfl) (hplain:(backTo cpos (starEach es X.env)).any (·.1)=false:=by rfl) :
 aH X W3 (.Call (.Attribute o name apos) (e::es) [] cpos) (JB m3 to t) :=
 λZ=>PE.imp (Xv slot hty hm (ho Z) (ha Z) hbase hfew hline hs hplain) λτ H Q fo=>by
  obtain⟨σ,S,Q3,hs,hr,ht,hc⟩:=fo;refine⟨σ,S,_,hs,hr,ht,λx S1 v H1 k1 r1 l1 ⟨ds,ex,q⟩=>?_⟩;subst ex;cases r1 with
  |tup h1 h2=>exact⟨_,_,rfl,h1,σ,S1,_,hs.mono k1,l1,q,λds S2 vs H2 k2 r2 l2 q2=>hd Z.z _ ds S2 Q3 _ vs H2 Q (.tup (k2.gI h1) (h2.mono k2)) r2 l2 q2 (hc.mono (k1.trans k2))⟩
theorem Xy{r:D->List D->af->K3->Prop}{to:aG}{t:bZ}{σ:aL}(h:to σ S λx S1=>∃ds,x=.tup ds/\t σ S1 λxs S2=>r x xs S2 Q):JB r to t σ S Q:=h
theorem Xz{zs:List Str}{k:Str}{j:Nat}(h1:zs[j]?=some k)(h2:k∉zs.take j)(q:Q (.int j) S):JA (.tup (zs.map D.str)) [.str k] S Q:=⟨zs,k,j,rfl,rfl,h1,h2,q⟩
end
section
variable{σ:aL}{S:af}{Q:K3}{QT:Bool->af->Prop}{QA:List D->af->Prop}{ta tb te:aG}{tA:cI}{t u u':b6}{al:bZ}{r:R3}{n b c:aL->af->Prop}{rt:K3}{i i' JC:Nat}{d e d2 d3:D}{D3:gJ}{sp:aK}{W3:bL}{f:List D->af->K3->Prop}{ds:List D}{k:Int}{a:Addr}
theorem XA(h:te σ S λx S1=>u D3 (σ.set i (some x)) S1):sJ (sN i te) u D3 σ S:=h
theorem XB(h:te σ S λ_ S1=>u D3 σ S1):sJ (zc te) u D3 σ S:=h
theorem XC(h:tA σ S λb' S1=>if b'=true then t ⟨u' ⟨n,rt,b,c⟩,rt,b,c⟩ σ S1 else u ⟨u' ⟨n,rt,b,c⟩,rt,b,c⟩ σ S1):sJ (sL tA t u) u' ⟨n,rt,b,c⟩ σ S:=h
theorem XD(h:σ[i]?=some (some (.tup ds)))(hd:cy ds k=some d)(q:Q d S):o3 nz (v3 i) (c3 (.int k)) σ S Q:=⟨_,h,ds,k,d,rfl,rfl,hd,q⟩
theorem XE{es:List D}{j:Int}(h:σ[i]?=some (some (.tup ds)))(hd:cy ds k=some (.tup es))(he:cy es j=some d)(q:Q d S):o3 nz (o3 nz (v3 i) (c3 (.int k))) (c3 (.int j)) σ S Q:=⟨_,h,ds,k,_,rfl,rfl,hd,es,j,d,rfl,rfl,he,q⟩
theorem XF{x z:Str}(h:σ[i]?=some (some (.tup ds)))(hx:cy ds k=some (.str x))(q:QT (decide (x=z)) S):ib (o3 zf (o3 nz (v3 i) (c3 (.int k))) (c3 (.str z))) σ S QT:=⟨_,h,ds,k,_,rfl,rfl,hx,x,z,rfl,rfl,_,rfl,q⟩
theorem XG(h:σ[i]?=some (some d))(q:r d e S λz S'=>∃k,z=.bl k/\QT k S'):ib (o3 r (v3 i) (c3 e)) σ S QT:=⟨d,h,q⟩
theorem XH(h:σ[i]?=some (some d))(h':σ[i']?=some (some e))(q:r d e S λz S'=>∃k,z=.bl k/\QT k S'):ib (o3 r (v3 i) (v3 i')) σ S QT:=⟨d,h,e,h',q⟩
theorem XI(q:ta σ S λx S1=>r x e S1 λz S'=>∃k,z=.bl k/\QT k S'):ib (o3 r ta (c3 e)) σ S QT:=q
theorem XJ(q:ta σ S λx S1=>tb σ S1 λy S2=>r x y S2 λz S'=>∃k,z=.bl k/\QT k S'):ib (o3 r ta tb) σ S QT:=q
theorem XM(h:σ[i]?=some (some d))(q:r d e S Q):o3 r (v3 i) (c3 e) σ S Q:=⟨d,h,q⟩
theorem XN(h:σ[i]?=some (some d))(h':σ[i']?=some (some e))(q:r d e S Q):o3 r (v3 i) (v3 i') σ S Q:=⟨d,h,e,h',q⟩
theorem XO(h:σ[i]?=some (some d))(q:tb σ S λy S2=>r d y S2 Q):o3 r (v3 i) tb σ S Q:=⟨d,h,q⟩
theorem XQ(q:tb σ S λy S2=>r d y S2 Q):o3 r (c3 d) tb σ S Q:=q
theorem XR(q:ta σ S λx S1=>r x e S1 Q):o3 r ta (c3 e) σ S Q:=q
theorem XS(h:σ[i]?=some (some d))(q:f [d] S Q):pq f (fL (v3 i) iP) σ S Q:=⟨d,h,q⟩
theorem XT(q:te σ S λx S1=>f [x] S1 Q):pq f (fL te iP) σ S Q:=q
theorem XU(h:σ[i]?=some (some d))(q:sp [d] S Q (W3 σ)):pD sp W3 (fL (v3 i) iP) σ S Q:=⟨d,h,q⟩
theorem XW(q:te σ S λx S1=>sp [x] S1 Q (W3 σ)):pD sp W3 (fL te iP) σ S Q:=q
theorem XX(h:σ[i]?=some (some d))(h2:σ[i']?=some (some d2))(q:sp [d,d2] S Q (W3 σ)):pD sp W3 (fL (v3 i) (fL (v3 i') iP)) σ S Q:=⟨d,h,d2,h2,q⟩
theorem XY(h:σ[i]?=some (some d))(h2:σ[i']?=some (some d2))(h3:σ[JC]?=some (some d3))(q:sp [d,d2,d3] S Q (W3 σ)):pD sp W3 (fL (v3 i) (fL (v3 i') (fL (v3 JC) iP))) σ S Q:=⟨d,h,d2,h2,d3,h3,q⟩
theorem XZ(h:σ[i]?=some (some d))(q:QA [d] S):fL (v3 i) iP σ S QA:=⟨d,h,q⟩
theorem X0(h:σ[i]?=some (some d))(q:al σ S λxs S2=>QA (d::xs) S2):fL (v3 i) al σ S QA:=⟨d,h,q⟩
theorem X1(q:QA [d] S):fL (c3 d) iP σ S QA:=q
theorem X2(q:al σ S λxs S2=>QA (d::xs) S2):fL (c3 d) al σ S QA:=q
theorem X4(q:te σ S λx S1=>QA [x] S1):fL te iP σ S QA:=q
end
end E3
namespace EE
open PySem PySem.Spec PyProof.Rows L2
end EE
namespace E3
open PySem PySem.Spec PyProof.Rows L2 EE
end E3
namespace EE
open PySem PySem.Spec PyProof.Rows L2
end EE
namespace E3
open PySem PySem.Spec PyProof.Rows L2 EE
end E3
namespace EE
open PySem PySem.Spec PyProof.Rows L2 Builtin Builtin.Str
end EE
namespace E3
open PySem PySem.Spec PyProof.Rows L2 EE
end E3
namespace EE
open PySem PySem.Spec PyProof.Rows L2
end EE
namespace E3
open PySem PySem.Spec PyProof.Rows L2 EE
end E3
namespace EE
open PySem PySem.Spec PyProof.Rows L2
end EE
namespace E3
open PySem PySem.Spec PyProof.Rows L2 EE
end E3
namespace EE
open PySem PySem.Spec PyProof.Rows L2
end EE
namespace E3
open PySem PySem.Spec PyProof.Rows L2 EE
end E3
namespace EE
open PySem PySem.Spec PyProof.Rows L2
section
variable{X:Cx}{elt iter tg:Expr}{ifs:List Expr}{pos:Pos}{scope:Scope}{O M:List Str}{js:List Nat}{wi:TI}{g:TG}{tt:TT}{te:TE}
theorem X5{i:Nat}{y:Str}{py spos:Pos}(S:fA X.env.scope O M scope)(hc:X.calm=true)(hjs:∀(k:Nat) (y:Str),M[k]?=some y->∃j:Nat,js[k]?=some j/\X.N[j]?=some y)(hlen:js.length=M.length)(hi:PI X tg iter wi)
 (hg:∀(C:Addr) (fp:List Addr) (pins:List (Addr×Obj)) (s:Shared) (H:Hp),PG (cf X scope C (O++M) fp pins s H) tg g)
 (ht:∀(C:Addr) (fp:List Addr) (pins:List (Addr×Obj)) (s:Shared) (H:Hp),nG (cf X scope C (O++M) fp pins s H) ifs tt)
 (he:∀(C:Addr) (fp:List Addr) (pins:List (Addr×Obj)) (s:Shared) (H:Hp),PE (cf X scope C (O++M) fp pins s H) elt te)
 (hN:X.N.Nodup) (hy:X.N[i]?=some y) (hl:X.env.scope.names.lookup y=some .local)
 (hsw:swapsWith (.ListComp elt [⟨tg,iter,ifs,0⟩] scope pos) (some (.Name y py)) spos.line X.env=pure true:=by rfl) (hs:∀v,foldedSetIterable iter X.env v=pure v:=by intro _;rfl) :
 PS X (.Assign [.Name y py] (.ListComp elt [⟨tg,iter,ifs,0⟩] scope pos) spos) (uV (wc wi g tt te O.length js) (uU i)):=show _ by
 intro pins s σ H D0 I h;rw[exec_Assign_Name_used _ _ _ _ hsw];refine ai (C1 (ai ?_));show wpAny _ X.A (do let _ <-comprehension (.ListComp elt [⟨tg,iter,ifs,0⟩] scope pos) scope X.env _ (newList []) false (eval iter X.env) (some (assign (.Name y py) X.env))) _ _ s;refine ai (eZ (NC (use:=some (assign (.Name y py) X.env)) (Q:=λ_ s'=>SP X pins D0 .next s') rfl hs (FD (S.cells I)) S.kind S.names
  (aF (hi pins s σ H _ I h) λxv s1 h1=>aF h1 λitv s2 h2=>?_)) (λ_ s' hq=>aE (aE hq)) λ_ _ e=>e)
 obtain⟨it,fp,tn,J,H1,rfl,I2,T,st2,f2,q⟩:=h2;refine ji ?_ (by show 0<=sizeLine;decide);have hD:H1 s2.heap.objs.size=none:=I2.hok.fresh (aV _);obtain⟨W,⟨m0,w0⟩,turn⟩:=q _ hD;have I3:Inv X pins σ (upd H1 s2.heap.objs.size (.lst [])) {s2 with heap:=s2.heap.push {cls:=.type "list",data:=.seq ([]:List Value).toArray}}:=I2.ve (t':=s2.toks) .nil (b8 _);have iJ:∀b∈fp,dZ X pins (upd H1 s2.heap.objs.size (.lst [])) b:=λb hb=>by
  obtain⟨f0,f⟩:=f2 b hb;obtain⟨o,e,_⟩:=T.obj 0 _ st2 b hb;exact⟨by rw[bf (cW (bE e))];exact f0,f⟩
 refine Iq (Qe:=λH'=>uU i (.ref s2.heap.objs.size) σ H' D0.nx) (R:=λC=>compPost (model X.prog X.w) X.A X.xe (some (assign (.Name y py) X.env)) (λ_ s'=>SP X pins D0 .next s') (.ref s2.heap.objs.size) C) S hc hjs hlen hg ht he I3 T
  (T.keep _ _ _ st2 λb hb o e=>bx _ e) iJ w0 turn ?_
 intro C s' H' hZ σ' hC Jv qe;have Ie:Inv X pins σ H' s':=Ip I3 iJ Jv hC (Heap.SameBut.refl ..);obtain⟨m,hn,_⟩:=Jv.loc;have fC:=I3.ki (H':=H') hC Jv.free;obtain⟨c0,c1,c2,c3,c4,c5⟩:=fC;show wpAny _ X.A (assign (.Name y py) X.env (.ref s2.heap.objs.size)) (λ_ s''=>∃m,s''.heap.Ns C m/\∀h',fF C s''.heap h'->SP X pins D0 .next {s'' with heap:=h'}) X.xe s';refine MC (Ef Ie hN hy (.inl hl) (show RelV (.ref s2.heap.objs.size) (.ref s2.heap.objs.size) from rfl) (λs'' X6 ⟨a,hsb,ha⟩=>?_) (.inr hl));have X7:C≠a:=by
  rcases ha with rfl|ha
  ·exact c1
  ·exact bw (c4 _ _ ha)
 exact⟨m,hn.sameBut hsb X7,λh' hs'=>⟨_,H',X6.turned (t':=s''.toks) (λb o hb e=>(hs'.2 b hb).trans e) c0 c1 c3 c4 c5,qe⟩⟩
end
end EE
namespace E3
open PySem PySem.Spec PyProof.Rows L2 EE
section
variable{X:Cx}{W3:bL}{elt iter tg:Expr}{ifs:List Expr}{x x':Str}{px Ao pos tp:Pos}{kt:Nat}{scope cb:Scope}{O M N:List Str}{js:List Nat}{wi:fq}{g:eG}{Sh:D->aL->Prop}{tt:cI}{te:aG}
theorem lo1(S:fA cb [x] M scope)(hx:scope.names.lookup x=some .local)(C:Addr)(fp:List Addr)(pins:List (Addr×Obj))(s:Shared)(H:Hp):gK (cf X scope C ([x]++M) fp pins s H) c_ (.Name x px) (kz 0) :=
 dD (i:=0) S.nd rfl (.inl (rE hx)) (.inr (rE hx))
theorem lo2(S:fA cb [x,x'] M scope)(hx:scope.names.lookup x=some .local/\scope.names.lookup x'=some .local)(C:Addr)(fp:List Addr)(pins:List (Addr×Obj))(s:Shared)(H:Hp) :
 gK (cf X scope C ([x,x']++M) fp pins s H) c_ (.Tuple [.Name x px,.Name x' Ao] kt tp) (vE 2 (pv (kz 0) (pv (kz 1) vB))) :=
 vF rfl (l7 (dD (i:=0) S.nd rfl (.inl (rE hx.1)) (.inr (rE hx.1))) (l7 (dD (i:=1) S.nd rfl (.inl (rE hx.2)) (.inr (rE hx.2))) vC))
theorem JD(S:fA cb O M scope)(hjs:M.map some=js.map λj=>N[j]?)(hc:X.calm=true)(hsh:tu O.length g Sh)(hi:gu X W3 tg iter wi)
 (hg:∀(C:Addr) (fp:List Addr) (pins:List (Addr×Obj)) (s:Shared) (H:Hp),gK (cf X scope C (O++M) fp pins s H) c_ tg g)
 (ht:∀(C:Addr) (fp:List Addr) (pins:List (Addr×Obj)) (s:Shared) (H:Hp),kH (cf X scope C (O++M) fp pins s H) ifs tt)
 (he:∀(C:Addr) (fp:List Addr) (pins:List (Addr×Obj)) (s:Shared) (H:Hp),aH (cf X scope C (O++M) fp pins s H) c_ elt te)
 (kN:X.env.scope=cb) (hN:X.N=N) (hs:∀v,foldedSetIterable iter X.env v=pure v) :
 aH X W3 (.ListComp elt [⟨tg,iter,ifs,0⟩] scope pos) (mi wi Sh tt te js):=λZ=>by
 subst kN hN;exact PE.imp (Wv S hc (vo hjs).1 (vo hjs).2 (hi Z) (λC fp pins s H=>(hg C fp pins s H).ex) (λC fp pins s H=>(ht C fp pins s H).ex) (λC fp pins s H=>(he C fp pins s H).ex) hs) λ_ _ _ h=>zT hsh h
theorem X8{i:Nat}{y:Str}{py spos:Pos}(S:fA cb O M scope)(hjs:M.map some=js.map λj=>N[j]?)(hc:X.calm=true)(hsh:tu O.length g Sh)(hi:gu X W3 tg iter wi)
 (hg:∀(C:Addr) (fp:List Addr) (pins:List (Addr×Obj)) (s:Shared) (H:Hp),gK (cf X scope C (O++M) fp pins s H) c_ tg g)
 (ht:∀(C:Addr) (fp:List Addr) (pins:List (Addr×Obj)) (s:Shared) (H:Hp),kH (cf X scope C (O++M) fp pins s H) ifs tt)
 (he:∀(C:Addr) (fp:List Addr) (pins:List (Addr×Obj)) (s:Shared) (H:Hp),aH (cf X scope C (O++M) fp pins s H) c_ elt te)
 (Ap:X.N.Nodup) (hy:X.N[i]?=some y) (hl:X.env.scope.names.lookup y=some .local) (kN:X.env.scope=cb) (hN:X.N=N)
 (hsw:swapsWith (.ListComp elt [⟨tg,iter,ifs,0⟩] scope pos) (some (.Name y py)) spos.line X.env=pure true) (hs:∀v,foldedSetIterable iter X.env v=pure v) :
 eC X W3 (.Assign [.Name y py] (.ListComp elt [⟨tg,iter,ifs,0⟩] scope pos) spos) (sN i (mi wi Sh tt te js)):=λZ=>by
 subst kN hN;exact PS.imp (X5 S hc (vo hjs).1 (vo hjs).2 (hi Z) (λC fp pins s H=>(hg C fp pins s H).ex) (λC fp pins s H=>(ht C fp pins s H).ex) (λC fp pins s H=>(he C fp pins s H).ex) Ap hy hl hsw hs) λD τ H ⟨D3,σ,S,hs,hr,ht,hc⟩ =>
  zT hsh ⟨σ,S,_,hs,hr,ht,λd S' v H' k r l q=>hc.nx _ S' _ H' k ((hs.mono k).set r i) l q⟩
theorem i8(S:fA cb [x] M scope)(hx:scope.names.lookup x=some .local)(hjs:M.map some=js.map λj=>N[j]?)(hc:X.calm=true)(hi:gu X W3 (.Name x px) iter wi)
 (ht:∀(C:Addr) (fp:List Addr) (pins:List (Addr×Obj)) (s:Shared) (H:Hp),kH (cf X scope C ([x]++M) fp pins s H) ifs tt)
 (he:∀(C:Addr) (fp:List Addr) (pins:List (Addr×Obj)) (s:Shared) (H:Hp),aH (cf X scope C ([x]++M) fp pins s H) c_ elt te)
 (kN:X.env.scope=cb:=by rfl) (hN:X.N=N:=by rfl) (hs:∀v,foldedSetIterable iter X.env v=pure v:=by intro _;rfl) :
 aH X W3 (.ListComp elt [⟨.Name x px,iter,ifs,0⟩] scope pos) (mi wi mh tt te js):=JD S hjs hc zS hi (lo1 S hx) ht he kN hN hs
theorem mv{i:Nat}{y:Str}{py spos:Pos}(S:fA cb [x] M scope)(hx:scope.names.lookup x=some .local)(hjs:M.map some=js.map λj=>N[j]?)(hc:X.calm=true)(hi:gu X W3 (.Name x px) iter wi)
 (ht:∀(C:Addr) (fp:List Addr) (pins:List (Addr×Obj)) (s:Shared) (H:Hp),kH (cf X scope C ([x]++M) fp pins s H) ifs tt)
 (he:∀(C:Addr) (fp:List Addr) (pins:List (Addr×Obj)) (s:Shared) (H:Hp),aH (cf X scope C ([x]++M) fp pins s H) c_ elt te)
 (Ap:X.N.Nodup) (hy:X.N[i]?=some y) (hl:X.env.scope.names.lookup y=some .local) (kN:X.env.scope=cb:=by rfl) (hN:X.N=N:=by rfl)
 (hsw:swapsWith (.ListComp elt [⟨.Name x px,iter,ifs,0⟩] scope pos) (some (.Name y py)) spos.line X.env=pure true:=by rfl) (hs:∀v,foldedSetIterable iter X.env v=pure v:=by intro _;rfl) :
 eC X W3 (.Assign [.Name y py] (.ListComp elt [⟨.Name x px,iter,ifs,0⟩] scope pos) spos) (sN i (mi wi mh tt te js)):=X8 S hjs hc zS hi (lo1 S hx) ht he Ap hy hl kN hN hsw hs
theorem JE(S:fA cb [x,x'] M scope)(hx:scope.names.lookup x=some .local/\scope.names.lookup x'=some .local)(hjs:M.map some=js.map λj=>N[j]?)(hc:X.calm=true)(hi:gu X W3 (.Tuple [.Name x px,.Name x' Ao] kt tp) iter wi)
 (ht:∀(C:Addr) (fp:List Addr) (pins:List (Addr×Obj)) (s:Shared) (H:Hp),kH (cf X scope C ([x,x']++M) fp pins s H) ifs tt)
 (he:∀(C:Addr) (fp:List Addr) (pins:List (Addr×Obj)) (s:Shared) (H:Hp),aH (cf X scope C ([x,x']++M) fp pins s H) c_ elt te)
 (kN:X.env.scope=cb:=by rfl) (hN:X.N=N:=by rfl) (hs:∀v,foldedSetIterable iter X.env v=pure v:=by intro _;rfl) :
 aH X W3 (.ListComp elt [⟨.Tuple [.Name x px,.Name x' Ao] kt tp,iter,ifs,0⟩] scope pos) (mi wi zR tt te js):=JD S hjs hc Vv hi (lo2 S hx) ht he kN hN hs
end
section
variable{σ:aL}{Q:K3}{js:List Nat}{te:aG}
theorem gS{ds:List D}{Al:af->Prop}{S1:af}(f:Nat->D)(hz:ds.length<=10000)(hA:Al S1)
 (h:∀i d,ds[i]?=some d->∀P:K3,P (f i) S1->te (some d::dw σ js) S1 P) (q:cS S1 ((ba ds.length).map f) Q) :
 ∃W:Nat->List D->af->Prop,W 0 [] S1/\(∀i ys S,W i ys S->Al S/\ys.length<sizeLine) /\
 (∀i d ys S,ds[i]?=some d->W i ys S->∃ρ,mh d ρ/\mf (ρ++dw σ js) S λb S2=>if b=true then te (ρ++dw σ js) S2 λy S3=>W (i+1) (ys++[y]) S3 else W (i+1) ys S2)/\∀ys S,W ds.length ys S->cS S ys Q:=show _ by
 refine zW (tt:=mf) (λ_=>true) f (cj hz (by decide)) hA (λi d hd=>⟨[some d],rfl,λP hP=>hP,λ_ P hP=>h i d hd P hP⟩) ?_;rw[HV];exact q
theorem JF{ds:List D}{Al:af->Prop}{S1:af}(f:Nat->D)(hz:ds.length<=10000)(hA:∀S,Sub S1 S->Al S)
 (h:∀i d S,ds[i]?=some d->Sub S1 S->∀P:K3,(∀S',Sub S S'->P (f i) S')->te (some d::dw σ js) S P) (q:∀S,Sub S1 S->cS S ((ba ds.length).map f) Q) :
 ∃W:Nat->List D->af->Prop,W 0 [] S1/\(∀i ys S,W i ys S->Al S/\ys.length<sizeLine) /\
 (∀i d ys S,ds[i]?=some d->W i ys S->∃ρ,mh d ρ/\mf (ρ++dw σ js) S λb S2=>if b=true then te (ρ++dw σ js) S2 λy S3=>W (i+1) (ys++[y]) S3 else W (i+1) ys S2)/\∀ys S,W ds.length ys S->cS S ys Q :=
 Ac (Sh:=mh) f hz hA (λi d S hd hs=>⟨[some d],rfl,h i d S hd hs⟩) q
end
section
variable{X:Cx}{W3:bL}{K:PySem.W.Frag}
def tJ(Q:K3)(x y:D)(S:af):Prop:=(∃a kvs k,x=.ref a/\S a=some (.bp kvs)/\y=kD k/\Q (.bl (!(cm kvs k).isSome)) S)∨vH true y x S Q
def JG(ty td:aG):aG:=λσ S Q=>ty σ S λy S1=>td σ S1 λx S2=>tJ Q x y S2
theorem X9{i o:Expr}{td ty:aG}{pos:Pos}(hu:X.A.units+5<cLine)(hi:aH X W3 i ty)(ho:aH X W3 o td)(h1:behindInMarks .NotIn o=false:=by with_unfolding_all rfl):d0 X W3 (.Compare i [.NotIn] [o] pos) (ib (JG ty td)) :=
 λZ=>PT.imp (yj (U0 hu (hi Z) (ho Z)) h1) λτ H Q cB=>by
  obtain⟨σ,S,Q3,hs,hr,ht,hc⟩:=cB;refine⟨σ,S,_,hs,hr,ht,λy S1 w H1 k1 r1 l1 q1=>⟨σ,S1,_,hs.mono k1,l1,q1,λx S2 v H2 k2 r2 l2 q2=>?_⟩⟩;rcases q2 with⟨a,kvs,k,rfl,e,rfl,b,eb,q⟩|q2
  ·cases r2;obtain⟨ws,g,kr⟩:=fk.down l2 e (r1.mono k2);refine .inl ⟨a,_,rfl,g,b,?_,hc _ S2 H2 (k1.trans k2) l2 q⟩;rw[<-(kr.val k).2];cases eb;rfl
  ·refine .inr (sR _ _ _ S2 _ _ _ H2 _ (r1.mono k2) r2 l2 q2 λd S' v' H' kk rd ll qd=>?_);obtain⟨b,rfl,qb⟩:=qd;cases rd;exact⟨b,rfl,hc _ S' H' ((k1.trans k2).trans kk) ll qb⟩
def JH:D->List D->af->K3->Prop:=λx vs S Q=>∃a ds,x=.ref a/\vs=[]/\S a=some (.lst ds)/\Q .non (up S a (.lst []))
theorem X_:lZ K JH E7:=by
 intro Z x ds S Q3 v vs H Q rx r l h c;obtain⟨a,es,rfl,rfl,e,q⟩:=h;cases rx;cases r;obtain⟨ws,h1,h2⟩:=l.obj a _ e;have kk:Kp Z H (upd H a (.lst [])):=Kp.at l e;exact⟨a,ws,rfl,rfl,h1,c _ _ _ _ kk .non (l.put (o:=.lst []) kk (l.m_ e) ⟨_,dm,.nil⟩) q⟩
end
section
variable{σ:aL}{S:af}{Q:K3}{te ta:aG}
theorem Aq(h:te σ S λy S1=>ta σ S1 λx S2=>tJ Q x y S2):JG te ta σ S Q:=h
theorem X'{a:Addr}{kvs:List (Key×D)}{z:Str}(hS:S a=some (.bp kvs))(q:Q (.bl (!(cm kvs (.inr z)).isSome)) S):tJ Q (.ref a) (.str z) S:=.inl ⟨a,kvs,.inr z,rfl,hS,rfl,q⟩
theorem Ya{xs:List Str}{z:Str}(q:Q (.bl (!decide (z∈xs))) S):tJ Q (.tup (xs.map D.str)) (.str z) S:=.inr ⟨_,.inr rfl,rfl,zj xs,by rw[zi];exact q⟩
theorem Yb{a:Addr}{xs:List Str}{z:Str}(hS:S a=some (.lst (xs.map D.str)))(q:Q (.bl (!decide (z∈xs))) S):tJ Q (.ref a) (.str z) S:=.inr ⟨_,.inl (.inl ⟨a,rfl,hS⟩),rfl,zj xs,by rw[zi];exact q⟩
theorem JI{a:Addr}{ds:List D}(hS:S a=some (.lst ds))(q:Q .non (up S a (.lst []))):JH (.ref a) [] S Q:=⟨a,ds,rfl,rfl,hS,q⟩
end
end E3
set_option maxHeartbeats 4000000
namespace LW
open PySem PySem.Spec PyProof.Rows L2 EE E3
section
variable{CR:Addr}
abbrev iu(pa bo:Addr)(mo:Int)(be pe wa:Addr)(en:D):List (Str×D) :=
 [("params",.ref pa),("bodies",.ref bo),("most",.int mo),("begun",.ref be),("pending",.ref pe),("waiting",.ref wa),("ending",en)]
structure Ra where
 pa:Addr
 bo:Addr
 be:Addr
 pe:Addr
 wa:Addr
structure Rn where
 pa:List (Key×D)
 bo:List (Key×D)
 mo:Int
 be:List D
 pe:List D
 wa:List D
 en:D
structure RS(CR:Addr)(S0 S:af)(a:Addr)(A:Ra)(r:Rn):Prop where
 self:S a=some (.ins CR (iu A.pa A.bo r.mo A.be A.pe A.wa r.en))
 pa:S A.pa=some (.bp r.pa)
 bo:S A.bo=some (.bp r.bo)
 be:S A.be=some (.lst r.be)
 pe:S A.pe=some (.lst r.pe)
 wa:S A.wa=some (.lst r.wa)
 n1:A.be≠A.pe
 n2:A.be≠A.wa
 n3:A.pe≠A.wa
 sub:Sub S0 S
 fa:S0 a=none
 f1:S0 A.be=none
 f2:S0 A.pe=none
 f3:S0 A.wa=none
theorem dF{S:af}{a b:Addr}{o u:O}(h:S a=some o)(h':S b=some u)(n:o≠u):a≠b:=λe=>n (by rw[e,h']at h;cases h;rfl)
theorem b5{S:af}{a b:Addr}{o u:O}(h:S b=some u)(n:b≠a):up S a o b=some u:=(aM n).trans h
section
variable{S0 S:af}{a:Addr}{A:Ra}{r:Rn}
theorem RS.nM(h:RS CR S0 S a A r)(xs:List D):RS CR S0 (up S A.pe (.lst xs)) a A {r with pe:=xs} :=
 ⟨b5 h.self (dF h.self h.pe (λz=>nomatch z)),b5 h.pa (dF h.pa h.pe (λz=>nomatch z)),b5 h.bo (dF h.bo h.pe (λz=>nomatch z)),b5 h.be h.n1,av,b5 h.wa (bw h.n3),h.n1,h.n2,h.n3,h.sub.at h.f2,h.fa,h.f1,h.f2,h.f3⟩
theorem RS.Yc(h:RS CR S0 S a A r)(xs:List D):RS CR S0 (up S A.be (.lst xs)) a A {r with be:=xs} :=
 ⟨b5 h.self (dF h.self h.be (λz=>nomatch z)),b5 h.pa (dF h.pa h.be (λz=>nomatch z)),b5 h.bo (dF h.bo h.be (λz=>nomatch z)),av,b5 h.pe (bw h.n1),b5 h.wa (bw h.n2),h.n1,h.n2,h.n3,h.sub.at h.f1,h.fa,h.f1,h.f2,h.f3⟩
theorem RS.kO(h:RS CR S0 S a A r)(xs:List D):RS CR S0 (up S A.wa (.lst xs)) a A {r with wa:=xs} :=
 ⟨b5 h.self (dF h.self h.wa (λz=>nomatch z)),b5 h.pa (dF h.pa h.wa (λz=>nomatch z)),b5 h.bo (dF h.bo h.wa (λz=>nomatch z)),b5 h.be h.n2,b5 h.pe h.n3,av,h.n1,h.n2,h.n3,h.sub.at h.f3,h.fa,h.f1,h.f2,h.f3⟩
theorem RS.lay(h:RS CR S0 S a A r){p:Addr}{o:O}(hp:S p=none):RS CR S0 (up S p o) a A r :=
 ⟨az h.self hp,az h.pa hp,az h.bo hp,az h.be hp,az h.pe hp,az h.wa hp,h.n1,h.n2,h.n3,h.sub.up hp,h.fa,h.f1,h.f2,h.f3⟩
theorem Yd{pa bo be pe wa:Addr}{mo:Int}{en d:D}:f6 "ending" d (iu pa bo mo be pe wa en)=iu pa bo mo be pe wa d:=by
 simp only[f6,iu];rfl
theorem Ye{pa bo be pe wa gT:Addr}{mo:Int}{en:D}:f6 "waiting" (.ref gT) (iu pa bo mo be pe wa en)=iu pa bo mo be pe gT en:=by
 simp only[f6,iu];rfl
theorem RS.As(h:RS CR S0 S a A r)(d:D):RS CR S0 (up S a (.ins CR (f6 "ending" d (iu A.pa A.bo r.mo A.be A.pe A.wa r.en)))) a A {r with en:=d}:=show _ by
 rw[Yd];exact⟨av,b5 h.pa (dF h.pa h.self (λz=>nomatch z)),b5 h.bo (dF h.bo h.self (λz=>nomatch z)),b5 h.be (dF h.be h.self (λz=>nomatch z)),b5 h.pe (dF h.pe h.self (λz=>nomatch z)),b5 h.wa (dF h.wa h.self (λz=>nomatch z)),h.n1,h.n2,h.n3,h.sub.at h.fa,h.fa,h.f1,h.f2,h.f3⟩
theorem RS.Yf(h:RS CR S0 S a A r){p:Addr}{xs:List D}(hp:S p=some (.lst xs))(h1:A.be≠p)(h2:A.pe≠p)(h3:S0 p=none):RS CR S0 (up S a (.ins CR (f6 "waiting" (.ref p) (iu A.pa A.bo r.mo A.be A.pe A.wa r.en)))) a {A with wa:=p} {r with wa:=xs}:=show _ by
 rw[Ye];exact⟨av,b5 h.pa (dF h.pa h.self (λz=>nomatch z)),b5 h.bo (dF h.bo h.self (λz=>nomatch z)),b5 h.be (dF h.be h.self (λz=>nomatch z)),b5 h.pe (dF h.pe h.self (λz=>nomatch z)),b5 hp (dF hp h.self (λz=>nomatch z)),h.n1,h1,h2,h.sub.at h.fa,h.fa,h.f1,h.f2,h3⟩
variable{Q:K3}
theorem Yg(h:RS CR S0 S a A r)(q:Q (.ref A.pa) S):jM CR "params" (.ref a) S Q:=nK h.self rfl q
theorem Yh(h:RS CR S0 S a A r)(q:Q (.ref A.bo) S):jM CR "bodies" (.ref a) S Q:=nK h.self rfl q
theorem Yi(h:RS CR S0 S a A r)(q:Q (.int r.mo) S):jM CR "most" (.ref a) S Q:=nK h.self rfl q
theorem Yj(h:RS CR S0 S a A r)(q:Q (.ref A.be) S):jM CR "begun" (.ref a) S Q:=nK h.self rfl q
theorem Yk(h:RS CR S0 S a A r)(q:Q (.ref A.pe) S):jM CR "pending" (.ref a) S Q:=nK h.self rfl q
theorem Yl(h:RS CR S0 S a A r)(q:Q (.ref A.wa) S):jM CR "waiting" (.ref a) S Q:=nK h.self rfl q
theorem Ym(h:RS CR S0 S a A r)(q:Q (r.en) S):jM CR "ending" (.ref a) S Q:=nK h.self rfl q
theorem Au{n:af->Prop}{d:D}(h:RS CR S0 S a A r)(q:n (up S a (.ins CR (f6 "ending" d (iu A.pa A.bo r.mo A.be A.pe A.wa r.en))))):pU CR "ending" (.ref a) d S n:=An h.self (show 7<1000 by decide) q
theorem Yn{n:af->Prop}{d:D}(h:RS CR S0 S a A r)(q:n (up S a (.ins CR (f6 "waiting" d (iu A.pa A.bo r.mo A.be A.pe A.wa r.en))))):pU CR "waiting" (.ref a) d S n:=An h.self (show 7<1000 by decide) q
theorem i9{m:Str}{k:Addr->Prop}(h:RS CR S0 S a A r)(hm:∀pa bo mo be pe wa en,(iu pa bo mo be pe wa en).lookup m=none)(q:k a):tI CR m k (.ref a) S:=⟨a,_,rfl,h.self,hm _ _ _ _ _ _ _,q⟩
end
end
seal aH d0 fm eB eC da sI gK sM gu
local macro_rules|`(tactic|nofun)=>do let w:=λ(s:String)=>(s.splitOn " ").toArray.map λx=>Lean.mkIdent (.mkStr (.mkSimple "E3") x);let at_ <-`(tactic|(first|exact rfl|exact U4|exact aiT|exact U5|exact aiU));let v0 <-(w "XG XM XS XU XZ").mapM λn=>`(Lean.Parser.Tactic.tacticSeq|apply $n);let v1 <-(w "XH XN XX").mapM λn=>`(Lean.Parser.Tactic.tacticSeq|apply $n);let v3 <-(w "XO X0 SX").mapM λn=>`(Lean.Parser.Tactic.tacticSeq|apply $n);let a1 <-(w "XA XB XC XI XJ XQ XR XT XW X1 X2 X4 SI SO SY S9 S_ Tw Tv SV Ti Tj SU SM SK SJ SN SQ SW Te Tf Tg Th Tc Td To Tp Tq Tr Ts Tt Tu Tn Tz TB TF TH TJ TK TN TM TR TV TX TY TZ VB wq VE Wx WX WY W1 W2 Ww Wz VF VQ T1 T3 T4 T6 T7 T9 T5 T8 Uv UM Ua V9 Uc Ud Ue Ug Ub V2 V3 Xk Xo Xl Xm Xn Xy").mapM λn=>`(Lean.Parser.Tactic.tacticSeq|apply $n);let a2 <-(w "G6 zp G9 zq G_ Ha Jd Iw Hd Hi").mapM λn=>`(Lean.Parser.Tactic.tacticSeq|refine $n (by assumption) ?_);let a3 <-(w "G6 zp G9 G_ Ha Jd Iw Hd Hi").mapM λn=>`(Lean.Parser.Tactic.tacticSeq|refine $n av ?_);let al:=a1++a2++a3;`(tactic|repeat (first|((with_reducible apply XF);(exact rfl);$at_)|((with_reducible apply XD);(exact rfl);$at_)|((with_reducible apply XE);(exact rfl);$at_;$at_)|((with_reducible first $[| $v0]*);(exact rfl))|((with_reducible first $[| $v1]*);(exact rfl);(exact rfl))|((with_reducible apply XY);(exact rfl);(exact rfl);(exact rfl))|((with_reducible first $[| $v3]*);(exact rfl))|(with_reducible first $[| $al]*)|(with_reducible first|refine sy rfl ?_|refine yJ rfl ?_|refine lW ?_|refine o7 ?_|refine sy (by assumption) ?_|refine vn (by assumption) ?_|refine Ft (by assumption) ?_|refine yJ (by assumption) ?_|refine Yg (by assumption) ?_|refine Yh (by assumption) ?_|refine Yi (by assumption) ?_|refine Yj (by assumption) ?_|refine Yk (by assumption) ?_|refine Yl (by assumption) ?_|refine Ym (by assumption) ?_)|((with_reducible refine Ta ?_ ?_);(first|decide|omega))|((with_reducible refine Tb ?_ ?_);(first|exact⟨by decide,by decide⟩|omega))|((with_reducible refine Uj ?_ ?_);exact⟨by decide,by decide,by decide⟩)|((with_reducible refine Uk ?_ ?_);(first|exact .inl ⟨by decide,by decide⟩|exact .inr ⟨by decide,by decide⟩))|((with_reducible refine TC ?_ ?_);exact fN (Nat.le_of_ble_eq_true rfl))|((with_reducible apply l_);$at_)|((with_reducible apply fv (by assumption));$at_)|((with_reducible apply fv av);$at_)|((with_reducible apply G7);exact rfl)|((with_reducible apply SS);exact rfl)|((with_reducible apply G' (by assumption));exact rfl)|((with_reducible apply G' av);exact rfl)|((with_reducible apply TU);(exact rfl);(exact rfl))|((with_reducible refine W0 ?_ ?_);exact rfl)|((with_reducible refine Af ?_ ?_);exact fN (Nat.le_of_ble_eq_true rfl))|((with_reducible refine U2 ?_ ?_ ?_);(exact rfl);(exact rfl))|((with_reducible apply Hh (by assumption));(first|exact rfl|exact HC|exact Yo))|((with_reducible apply Hh av);(first|exact rfl|exact HC|exact Yo))|((with_reducible refine zG ?_ ?_);exact rfl)|((with_reducible refine zI ?_ ?_);exact rfl)|((with_reducible refine T_ ?_ ?_);(first|exact⟨by decide,by decide⟩|exact⟨by omega,by omega⟩))|((with_reducible refine TQ ?_ ?_);assumption)|(with_reducible first|refine zG (by decide +kernel) ?_|refine zI (by decide +kernel) ?_|refine sy (by omega) ?_|refine vn (by omega) ?_|refine Ft (by omega) ?_|refine yJ (by omega) ?_)))
def top(i:Nat):Stmt:=PySem.Challenge.pw_errandend_k27_lists_told.main.body.getD i (.Pass ⟨0,0,0,0⟩)
abbrev pV:Stmt:=top 7
theorem wB:aW ["program","found","errand","saying"] ["program"] (ak pV):=⟨rfl,rfl,rfl,by cbv,rfl,by cbv,by cbv⟩
abbrev pW:Stmt:=top 8
theorem tK:aW ["body","found","pending","saying","part"] ["body"] (ak pW):=⟨rfl,rfl,rfl,by cbv,rfl,by cbv,by cbv⟩
abbrev pX:Stmt:=top 9
theorem Yp:aW ["saying"] ["saying"] (ak pX):=⟨rfl,rfl,rfl,by cbv,rfl,by cbv,by cbv⟩
abbrev pY:Stmt:=top 10
theorem Yq:aW ["name","known"] ["name","known"] (ak pY):=⟨rfl,rfl,rfl,by cbv,rfl,by cbv,by cbv⟩
abbrev pZ:Stmt:=top 11
theorem JJ:aW ["name","row","needed","given"] ["name","row","needed"] (ak pZ):=⟨rfl,rfl,rfl,by cbv,rfl,by cbv,by cbv⟩
abbrev nN:Stmt:=top 13
theorem p5:aW ["program","found","errand","placed","send","rows"] ["program"] (ak nN):=⟨rfl,rfl,rfl,by cbv,rfl,by cbv,by cbv⟩
abbrev p6:Stmt:=top 14
theorem tL:aW ["body","found","pending","placed","inner"] ["body"] (ak p6):=⟨rfl,rfl,rfl,by cbv,rfl,by cbv,by cbv⟩
abbrev nO:Stmt:=top 15
theorem Av:aW ["saying","known","param","inner"] ["saying","known"] (ak nO):=⟨rfl,rfl,rfl,by cbv,rfl,by cbv,by cbv⟩
abbrev p7:Stmt:=top 16
theorem Aw:aW ["saying","rest"] ["saying"] (ak p7):=⟨rfl,rfl,rfl,by cbv,rfl,by cbv,by cbv⟩
abbrev nP:Stmt:=top 17
theorem Yr:aW ["param","sayings","known"] ["param","sayings","known"] (ak nP):=⟨rfl,rfl,rfl,by cbv,rfl,by cbv,by cbv⟩
abbrev p8:Stmt:=top 18
theorem Ys:aW ["param","saying","known"] ["param","saying","known"] (ak p8):=⟨rfl,rfl,rfl,by cbv,rfl,by cbv,by cbv⟩
abbrev nQ:Stmt:=top 19
theorem JK:aW ["one","other","rows"] ["one","other"] (ak nQ):=⟨rfl,rfl,rfl,by cbv,rfl,by cbv,by cbv⟩
abbrev p9:Stmt:=top 20
theorem Yt:aW ["one","other"] ["one","other"] (ak p9):=⟨rfl,rfl,rfl,by cbv,rfl,by cbv,by cbv⟩
abbrev nR:Stmt:=top 21
theorem Yu:aW ["row","rows"] ["row","rows"] (ak nR):=⟨rfl,rfl,rfl,by cbv,rfl,by cbv,by cbv⟩
abbrev nS:Stmt:=top 22
theorem Yv:aW ["row","rows","column"] ["row","rows","column"] (ak nS):=⟨rfl,rfl,rfl,by cbv,rfl,by cbv,by cbv⟩
abbrev p_:Stmt:=top 23
theorem Yw:aW ["one","other"] ["one","other"] (ak p_):=⟨rfl,rfl,rfl,by cbv,rfl,by cbv,by cbv⟩
abbrev qa:Stmt:=top 26
theorem Yx:aW ["program"] ["program"] (ak qa):=⟨rfl,rfl,rfl,by cbv,rfl,by cbv,by cbv⟩
abbrev qc:Stmt:=top 27
theorem Yy:aW ["program"] ["program"] (ak qc):=⟨rfl,rfl,rfl,by cbv,rfl,by cbv,by cbv⟩
abbrev mw:Stmt:=top 28
theorem nU:aW ["program","name","names","steps","found","pending","sender","step"] ["program","name"] (ak mw):=⟨rfl,rfl,rfl,by cbv,rfl,by cbv,by cbv⟩
abbrev qf:Stmt:=top 29
theorem kP:aW ["numbered","found","number","graph","place","ahead"] ["numbered"] (ak qf):=⟨rfl,rfl,rfl,by cbv,rfl,by cbv,by cbv⟩
abbrev nV:Stmt:=top 30
theorem Yz:aW ["found","graph","way"] ["found","graph","way"] (ak nV):=⟨rfl,rfl,rfl,by cbv,rfl,by cbv,by cbv⟩
abbrev nW:Stmt:=top 31
theorem Ax:aW ["pairs","graph","way"] ["pairs"] (ak nW):=⟨rfl,rfl,rfl,by cbv,rfl,by cbv,by cbv⟩
abbrev qg:Stmt:=top 32
theorem YA:aW ["graph"] ["graph"] (ak qg):=⟨rfl,rfl,rfl,by cbv,rfl,by cbv,by cbv⟩
abbrev nX:Stmt:=top 33
theorem YB:aW ["graph"] ["graph"] (ak nX):=⟨rfl,rfl,rfl,by cbv,rfl,by cbv,by cbv⟩
abbrev qh:Stmt:=top 36
theorem tM:aW ["tree","pairs","pending","part"] ["tree"] (ak qh):=⟨rfl,rfl,rfl,by cbv,rfl,by cbv,by cbv⟩
abbrev qi:Stmt:=top 38
theorem YC:aW ["program","name","trees","most"] ["program","name","trees","most"] (ak qi):=⟨rfl,rfl,rfl,by cbv,rfl,by cbv,by cbv⟩
abbrev nY:Stmt:=top 39
theorem Ay:aW ["program","name","trees","most","params","ended"] ["program","name","trees","most"] (ak nY):=⟨rfl,rfl,rfl,by cbv,rfl,by cbv,by cbv⟩
abbrev qj:Stmt:=top 40
theorem qk:aW ["program","bodies","number","errand","order"] ["program"] (ak qj):=⟨rfl,rfl,rfl,by cbv,rfl,by cbv,by cbv⟩
abbrev nZ:Stmt:=top 41
theorem YD:aW ["order"] ["order"] (ak nZ):=⟨rfl,rfl,rfl,by cbv,rfl,by cbv,by cbv⟩
abbrev n6:Stmt:=top 42
theorem ql:aW ["order","number","done","later","saying","inner"] ["order","number"] (ak n6):=⟨rfl,rfl,rfl,by cbv,rfl,by cbv,by cbv⟩
abbrev qm:Stmt:=top 44
theorem YE:aW ["saying"] ["saying"] (ak qm):=⟨rfl,rfl,rfl,by cbv,rfl,by cbv,by cbv⟩
abbrev qo:Stmt:=top 45
theorem YF:aW ["kind","tree"] ["kind","tree"] (ak qo):=⟨rfl,rfl,rfl,by cbv,rfl,by cbv,by cbv⟩
abbrev qp:Stmt:=top 47
theorem YG:aW ["script","k"] ["script","k"] (ak qp):=⟨rfl,rfl,rfl,by cbv,rfl,by cbv,by cbv⟩
abbrev kQ:Stmt:=top 48
theorem i_:aW ["cell","many","base","left","k","place","found","turn"] ["cell","many"] (ak kQ):=⟨rfl,rfl,rfl,by cbv,rfl,by cbv,by cbv⟩
abbrev qq:Stmt:=top 49
theorem YH:aW ["script","spot"] ["script","spot"] (ak qq):=⟨rfl,rfl,rfl,by cbv,rfl,by cbv,by cbv⟩
abbrev qr:Stmt:=top 50
theorem wC:aW ["cell","params","saying","k"] ["cell","params"] (ak qr):=⟨rfl,rfl,rfl,by cbv,rfl,by cbv,by cbv⟩
abbrev qt:Stmt:=top 51
theorem YI:aW ["cell","params"] ["cell","params"] (ak qt):=⟨rfl,rfl,rfl,by cbv,rfl,by cbv,by cbv⟩
abbrev n8:Stmt:=top 52
theorem JL:aW ["script","spot","names","counts","params","to"] ["script","spot","names","counts","params"] (ak n8):=⟨rfl,rfl,rfl,by cbv,rfl,by cbv,by cbv⟩
abbrev qu:Stmt:=top 53
theorem ja:aW ["script","spot","names","counts","params","shape","inner","other","row","last"] ["script","spot","names","counts","params"] (ak qu):=⟨rfl,rfl,rfl,by cbv,rfl,by cbv,by cbv⟩
abbrev n_:Stmt:=top 54
theorem kR:aW ["script","spot","most","head","many","names","params","counts","program","k","mine"] ["script","spot","most"] (ak n_):=⟨rfl,rfl,rfl,by cbv,rfl,by cbv,by cbv⟩
abbrev qv:Stmt:=top 55
theorem mx:aW ["script","spot","names","counts","params","to","row","k","cell","one"] ["script","spot","names","counts","params"] (ak qv):=⟨rfl,rfl,rfl,by cbv,rfl,by cbv,by cbv⟩
abbrev og:Stmt:=top 56
theorem gU:aW ["script","spot","most","head","many","names","params","counts","program","k","mine","shape","first","last"] ["script","spot","most"] (ak og):=⟨rfl,rfl,rfl,by cbv,rfl,by cbv,by cbv⟩
abbrev qw:Stmt:=top 57
theorem YJ:aW ["script","spot","way","most"] ["script","spot","way","most"] (ak qw):=⟨rfl,rfl,rfl,by cbv,rfl,by cbv,by cbv⟩
abbrev oh:Stmt:=top 58
theorem YK:aW ["program","way"] ["program","way"] (ak oh):=⟨rfl,rfl,rfl,by cbv,rfl,by cbv,by cbv⟩
abbrev qy:Stmt:=top 59
theorem Az:aW ["program","way","cell","found","kept"] ["program","way","cell"] (ak qy):=⟨rfl,rfl,rfl,by cbv,rfl,by cbv,by cbv⟩
abbrev kS:Stmt:=top 60
theorem qz:aW ["script","spot","program","second","way","cell"] ["script"] (ak kS):=⟨rfl,rfl,rfl,by cbv,rfl,by cbv,by cbv⟩
abbrev qA:Stmt:=inClass (top 43) 0
theorem YL:aW ["self","params","bodies","most"] ["self","params","bodies","most"] (ak qA):=⟨rfl,rfl,rfl,by cbv,rfl,by cbv,by cbv⟩
abbrev qB:Stmt:=inClass (top 43) 1
theorem YM:aW ["self","parent","number","name","trees"] ["self","parent","number","name","trees"] (ak qB):=⟨rfl,rfl,rfl,by cbv,rfl,by cbv,by cbv⟩
abbrev qC:Stmt:=inClass (top 43) 2
theorem JM:aW ["self","task"] ["self"] (ak qC):=⟨rfl,rfl,rfl,by cbv,rfl,by cbv,by cbv⟩
abbrev qD:Stmt:=inClass (top 43) 3
theorem JN:aW ["self","saying","place","part"] ["self","saying","place"] (ak qD):=⟨rfl,rfl,rfl,by cbv,rfl,by cbv,by cbv⟩
abbrev qE:Stmt:=inClass (top 43) 4
theorem JO:aW ["self","saying","place","kind"] ["self","saying","place"] (ak qE):=⟨rfl,rfl,rfl,by cbv,rfl,by cbv,by cbv⟩
abbrev qF:Stmt:=inClass (top 43) 5
theorem AA:aW ["self","many","first","trees"] ["self","many"] (ak qF):=⟨rfl,rfl,rfl,by cbv,rfl,by cbv,by cbv⟩
abbrev qG:Stmt:=inClass (top 43) 6
theorem JP:aW ["self","fork","place","chosen"] ["self","fork","place"] (ak qG):=⟨rfl,rfl,rfl,by cbv,rfl,by cbv,by cbv⟩
abbrev qH:Stmt:=inClass (top 43) 7
theorem JQ:aW ["self","pair"] ["self"] (ak qH):=⟨rfl,rfl,rfl,by cbv,rfl,by cbv,by cbv⟩
abbrev qI:Stmt:=inClass (top 43) 8
theorem JR:aW ["self","name","place","entry"] ["self","name","place"] (ak qI):=⟨rfl,rfl,rfl,by cbv,rfl,by cbv,by cbv⟩
inductive my{gz α1:Type}(p:gz->α1->Prop):Prop where
 |mk (a0:gz) (a1:α1) (h:p a0 a1)
inductive oj{gz α1 α2:Type}(p:gz->α1->α2->Prop):Prop where
 |mk (a0:gz) (a1:α1) (a2:α2) (h:p a0 a1 a2)
inductive jN{gz α1 α2 α3:Type}(p:gz->α1->α2->α3->Prop):Prop where
 |mk (a0:gz) (a1:α1) (a2:α2) (a3:α3) (h:p a0 a1 a2 a3)
inductive JS{gz α1 α2 α3 tN:Type}(p:gz->α1->α2->α3->tN->Prop):Prop where
 |mk (a0:gz) (a1:α1) (a2:α2) (a3:α3) (a4:tN) (h:p a0 a1 a2 a3 a4)
inductive YN{gz α1 α2 α3 tN JT JU:Type}(p:gz->α1->α2->α3->tN->JT->JU->Prop):Prop where
 |mk (a0:gz) (a1:α1) (a2:α2) (a3:α3) (a4:tN) (a5:JT) (a6:JU) (h:p a0 a1 a2 a3 a4 a5 a6)
theorem tO{us:List Value}{n:Nat}(h:us.length=n+1):∃a t,us=a::t/\t.length=n:=by
 cases us with
 |nil=>cases h
 |cons a t=>exact⟨a,t,rfl,Nat.succ.inj h⟩
theorem YO{us:List Value}(h:us.length=0):us=[]:=List.eq_nil_of_length_eq_zero h
theorem eR{us:List Value}(h:us.length=1):∃a0,us=[a0]:=by
 obtain⟨a0,t,rfl,g⟩:=tO h;obtain rfl:=YO g;exact⟨a0,rfl⟩
theorem ln2{us:List Value}(h:us.length=2):∃a0 a1,us=[a0,a1]:=by
 obtain⟨a0,t,rfl,g⟩:=tO h;obtain⟨a1,rfl⟩:=eR g;exact⟨a0,a1,rfl⟩
theorem gV{us:List Value}(h:us.length=3):∃a0 a1 a2,us=[a0,a1,a2]:=by
 obtain⟨a0,t,rfl,g⟩:=tO h;obtain⟨a1,a2,rfl⟩:=ln2 g;exact⟨a0,a1,a2,rfl⟩
theorem tP{us:List Value}(h:us.length=4):∃a0 a1 a2 a3,us=[a0,a1,a2,a3]:=by
 obtain⟨a0,t,rfl,g⟩:=tO h;obtain⟨a1,a2,a3,rfl⟩:=gV g;exact⟨a0,a1,a2,a3,rfl⟩
theorem wD{us:List Value}(h:us.length=5):∃a0 a1 a2 a3 a4,us=[a0,a1,a2,a3,a4]:=by
 obtain⟨a0,t,rfl,g⟩:=tO h;obtain⟨a1,a2,a3,a4,rfl⟩:=tP g;exact⟨a0,a1,a2,a3,a4,rfl⟩
structure Gs(K:ao)(mg:Str->Option Value):Prop where
 len:mg "len"=none
 range:mg "range"=none
 JV:mg "isinstance"=none
 int:mg "int"=none
 bool:mg "bool"=none
 tuple:mg "tuple"=none
 dict:mg "dict"=none
 list:mg "list"=none
 wF:mg "reversed"=none
 any:mg "any"=none
 enumerate:mg "enumerate"=none
 max:mg "max"=none
 zip:mg "zip"=none
 YQ:∃t,mg "MOST_PAIRS"=some (.int 60 t)
 YR:∃t,mg "MOST_IN_CLOSURE"=some (.int 40 t)
structure iw(K:ao)(mg:Str->Option Value)(CR:Addr):Prop where
 cl:fT K CR
 YS:uj K CR=true
 kc:a7 K (.ref CR)=true
 at_:mg "Run"=some (.ref CR)
 n_params:fU K CR "params"
 n_bodies:fU K CR "bodies"
 n_most:fU K CR "most"
 n_begun:fU K CR "begun"
 n_pending:fU K CR "pending"
 n_waiting:fU K CR "waiting"
 n_ending:fU K CR "ending"
abbrev ES:List Rf:=[.err,.apart,.many]
section
variable{P:Program}{w:World}{K:PySem.W.Frag}{mg:Str->Option Value}{base:Heap}{adr:Rf->Addr}{CR:Addr}
def cellAt(ns:List Int)(k:Int):Int:=ns.getD k.toNat 0
inductive YT (ds:List D)(q:D->Prop):Prop where
 |mk (ns:List Int) (k:Int) (_:ds=[.bH (ns.map D.int),.int k]) (_:0<=k) (_:q (.int (cellAt ns k)))
def wG :aK:=vS YT
theorem YU{k:Nat}(h:aA K mg "_law_cell_at" qp ["script","k"])(G:Gs K mg):aq P w K mg base (k+1) "_law_cell_at" ["script","k"] wG:=show _ by
 refine h.val YG (by rintro ds q ⟨ns,k,e,_⟩;rw[e];rfl) λf cdv A outer s H E ds q hr ⟨ns,k,e,h0,hq⟩=>?_;subst e;refine⟨_,(au (bS (bq rS kA (aa 1) (dJ fj fu rfl G.len fg (ae (aa 0) ah)) (bj _)) (ax (a_ (aD eJ eM (aa 0) (aa 1) (λ_ _=>rfl)))) bV)
 (ax (a_ aj))),?_⟩
 nofun;have hl:(ns.map D.int).length=ns.length:=aB _;refine RA (λc=>?_) (λc=>?_)
 ·rw[hl]at c;have hk:k.toNat<ns.length:=by lia
  nofun;refine G7 (zJ h0 (v:=.int (cellAt ns k)) ?_) hq;rw[aS,bb hk];simp[cellAt,cz,bb hk]
 ·rw[hl]at c;have hk:ns.length<=k.toNat:=by lia
  nofun;have e:cellAt ns k=0:=by simp[cellAt,cz,dh hk]
  rw[e]at hq;exact hq
inductive YV (ds:List D)(S:af)(q:D->Addr->O->Prop):Prop where
 |mk (ns:List Int) (sp:Addr) (i:Int) (rs:List D) (_:ds=[.bH (ns.map D.int),.ref sp]) (_:S sp=some (.lst (.int i::rs))) (_:0<=i) (_:q (.int (cellAt ns i)) sp (.lst (.int (i+1)::rs)))
def qJ :aK:=kE YV
theorem YW{k:Nat}(h:aA K mg "_law_next" qq ["script","spot"])(mz:aq P w K mg base k "_law_cell_at" ["script","k"] wG):aq P w K mg base (k+1) "_law_next" ["script","spot"] qJ:=show _ by
 refine h.kE YH (by rintro ds S q ⟨ns,sp,i,rs,e,_⟩;rw[e];rfl) λf cdv A outer s H E ds S q hr ⟨ns,sp,i,rs,e,hS,hi,hq⟩=>?_;subst e;refine⟨_,(au (Se (aI jx gM (aD eJ eM (aa 1) aj (λ_ _=>rfl)) aj) (Sf (aa 1) aj))
 (ax (a_ (aJ mz hr rfl (ae (aa 0) (ae (aI yu gM (aD eJ eM (aa 1) aj (λ_ _=>rfl)) aj) ah)))))),?_⟩
 nofun;refine⟨ns,i+1-1,rfl,by lia,sp,_,Sub.refl _,?_⟩;have e:i+1-1=i:=by lia
 rw[e];exact hq
inductive YX (ds:List D)(q:List D->Prop):Prop where
 |mk (c n:Int) (_:ds=[.int c,.int n]) (_:0<=c) (_:1<=n) (_:n<=12) (_:∀xs:List Str,Row n.toNat xs->q (xs.map D.str))
def AB :aK:=sT YX
theorem YY{k:Nat}(h:aA K mg "_law_names" kQ ["cell","many"])(G:Gs K mg):aq P w K mg base (k+1) "_law_names" ["cell","many"] AB:=show _ by
 refine h.lst i_ (by rintro ds q ⟨c,n,e,_⟩;rw[e];rfl) λf cdv A outer s H E ds q hr ⟨c,n,e,hc,hn1,hn2,hq⟩=>?_;subst e;refine⟨_,(au (aN (i:=2) i_.nd rfl (Or.inr rfl) bG)
 (au (aN (i:=3) i_.nd rfl (Or.inl rfl) (aI dn aY (aa 0) aj))
 (au (eW ek rfl (ie rfl G.range (ae (aI b_ aY (aa 0) aj) ah)) (dD (i:=4) i_.nd rfl (Or.inl rfl)) (au (aN (i:=2) i_.nd rfl (Or.inr rfl) (aI rT sQ (aa 2) (aD EY GP bG (aI b_ aY (aa 3) aj) (λ_ _=>rfl))))
 (ax (aN (i:=3) i_.nd rfl (Or.inl rfl) (aI dn aY (aa 3) aj)))))
 (au (aN (i:=5) i_.nd rfl (Or.inr rfl) (aI b_ aY (aI dn aY (aa 0) aj) (aI jx gM (dJ QM Sv rfl G.len fg (ae (aa 2) ah)) aj)))
 (au (mv (i:=6) (cb:=ak kQ) (N:=["cell","many","base","left","k","place","found","turn"]) (M:=["base","place"]) (js:=[2,5]) ⟨rfl,by cbv,by cbv,by cbv,by cbv,by cbv⟩ (by cbv) (by cbv) rfl (ie rfl G.range (ae (aa 1) ah)) (λ_ _ _ _ _=>eO) (λ_ _ _ _ _=>(aI rT sQ (aI rT sQ (eE o9 pB (aa 1) eK (d7 (aa 2))) (aD EY GP bG (aa 0) (λ_ _=>rfl))) (eE o9 pB (aa 1) (d7 (aa 2)) eK))) i_.nd rfl rfl)
 (au (iW (fm.pt (w_and (bq rS kA (aa 1) aj (bj _)) (pk (bq bY dS (aI b_ aY (aI dn aY (aa 0) aj) aj) aj (bj _))))) (ax (mv (i:=6) (cb:=ak kQ) (N:=["cell","many","base","left","k","place","found","turn"]) (M:=["base"]) (js:=[2]) ⟨rfl,by cbv,by cbv,by cbv,by cbv,by cbv⟩ (by cbv) (by cbv) rfl (ie rfl G.range (ae (aa 1) ah)) (λ_ _ _ _ _=>eO) (λ_ _ _ _ _=>(aI rT sQ (eE o9 pB (aa 1) eK (d7 aj)) (eE o9 pB bG eK (d7 (aI jx gM (aa 0) aj))))) i_.nd rfl rfl)) bV)
 (au (iW (fm.pt (w_and (bq rS kA (aa 1) aj (bj _)) (pk (bq bY dS (aI b_ aY (aI dn aY (aa 0) aj) aj) aj (bj _))))) (ax (mv (i:=6) (cb:=ak kQ) (N:=["cell","many","base","left","k","place","found","turn"]) (M:=["base"]) (js:=[2]) ⟨rfl,by cbv,by cbv,by cbv,by cbv,by cbv⟩ (by cbv) (by cbv) rfl (ie rfl G.range (ae (aa 1) ah)) (λ_ _ _ _ _=>eO) (λ_ _ _ _ _=>(aI rT sQ (eE o9 pB bG (d7 (aI yu gM aj (aa 0))) eK) (eE o9 pB (aa 1) eK (d7 aj)))) i_.nd rfl rfl)) bV)
 (au (aN (i:=7) i_.nd rfl (Or.inl rfl) (aI b_ aY (aI dn aY (aa 0) aj) (aa 1)))
 (ax (a_ (aI yG zk (eE jy jD (aa 6) (d7 (aa 7)) eK) (eE jy jD (aa 6) eK (d7 (aa 7)))))))))))))),?_⟩
 nofun;refine⟨λi σ S=>oj λ(lf:Int) (cs:List Nat) (x4:Option D)=>σ=[some (.int c),some (.int n),some (.str (textOf cs)),some (.int lf),x4,none,none,none]/\cs.length=i/\wb cs/\S=emp,
  ⟨_,[],none,rfl,rfl,λc hc=>by simp at hc,rfl⟩,λ_ _ _ _=>trivial,?turn,?done⟩
 case turn =>
  rintro i d σ S hd ⟨lf,cs,x4,rfl,hl,hL,rfl⟩;obtain⟨hi,rfl⟩:=gL hd;have YZ:=uB lf (show(0:Int)<26 by decide);have Y0:=hG lf (show(26:Int)≠0 by decide);nofun;refine G8 (cp:=97+(lf%26).toNat) ?_ ?_ ?_
  ·rw[HE,gn];decide
  ·rw[HE,md];exact HG Y0 YZ
  refine sU (y:=textOf [97+(lf%26).toNat]) ?_ ?_
  ·rw[gn,gn];refine fN ?_;simp only[bC,cE];lia
  rw[sC];nofun;refine⟨_,cs++[97+(lf%26).toNat],_,rfl,by simp[hl],λd hd=>?_,rfl⟩;rcases cR.mp hd with hd|hd
  ·exact hL d hd
  ·simp at hd;lia
 rintro σ S ⟨lf,cs,x4,rfl,hl,hL,rfl⟩;rw[eL]at hl;have Y1:cs.length<=7:=by lia
 have lz:∀ds:List Nat,ds.length<=100->(textOf ds).length<=sizeLine:=λds h=>by rw[gn];exact fN (by lia)
 have hz:=lz cs (by lia);nofun;rw[gn];have p0:=hG (c/11) (show((cs.length:Int)+1)≠0 by lia);obtain⟨pl,Y2⟩:∃pl,(c/11)%((cs.length:Int)+1)=pl:=⟨_,rfl⟩;rw[Y2]at p0 ⊢;refine gS (λk=>.str (textOf (gO cs pl.toNat k))) (by rw[eL];exact cj (show n.toNat<=12 by lia) (by decide)) trivial ?e1 ?_
 case e1 =>
  intro i d hd P hP;obtain⟨hi,rfl⟩:=gL hd;nofun;refine pE hz ?_;rw[md,v9 p0];nofun;refine G8 (cp:=97+i) ?_ ?_ ?_
  ·rw[HF,gn];decide
  ·rw[HF,md,HG (by lia) (by lia)];simp
  refine sU (y:=textOf [97+i]) ?_ ?_
  ·rw[gn,gn,dN];exact fN (by simp only[bC,cE];lia)
  rw[sC];nofun;refine pE hz ?_;rw[md,HD p0];refine sU ?_ ?_
  ·rw[gn,gn,aU,dN,e_];exact fN (by simp only[bC,cE];lia)
  rw[sC];exact hP
 rw[eL];intro D1 hD1;have JW:n.toNat<=12:=by lia
 have m1:∀f:Nat->List Nat,((ba n.toNat).map λk=>D.str (textOf (f k)))=((ba n.toNat).map λk=>textOf (f k)).map D.str:=λf=>by rw[fe];rfl
 rw[m1];have R1:Row n.toNat ((ba n.toNat).map λk=>textOf (gO cs pl.toNat k)):=U8 hL Y1 (by lia);nofun;refine ip (λσ T=>my λ(r:Addr) (xs:List Str)=>σ=[some (.int c),some (.int n),some (.str (textOf cs)),some (.int lf),x4,some (.int pl),some (.ref r),none]/\T r=some (.lst (xs.map D.str))/\Row n.toNat xs) ?_ ?_
 ·intro n' hn';by_cases h5:n<5
  case neg =>
   nofun;exact hn' _ _ ⟨D1,_,rfl,av,R1⟩
  by_cases e1:c/17%3=1
  case neg =>
   nofun;exact hn' _ _ ⟨D1,_,rfl,av,R1⟩
  nofun;refine gS (λk=>.str (textOf (iV cs k))) (by rw[eL];exact cj JW (by decide)) trivial ?e2 ?_
  case e2 =>
   intro i d hd P hP;obtain⟨hi,rfl⟩:=gL hd;nofun;refine pE hz ?_;rw[md,v9 (by decide)];nofun;refine pE (by rw[v_];exact lz _ (by decide)) ?_;rw[v_,md,v9 (by lia)];have ei:((0:Int)+(i:Int)+1).toNat=i+1:=by lia
   rw[ei];refine sU ?_ ?_
   ·rw[gn,gn,dN,dN];exact fN (by lia)
   rw[sC];exact hP
  rw[eL];intro D2 hD2;rw[m1];nofun;exact hn' _ _ ⟨D2,_,rfl,av,row2 hL (by lia)⟩
 clear R1;rintro σ T ⟨r,xs,rfl,hr1,R⟩;nofun;refine ip (λσ T=>my λ(r:Addr) (xs:List Str)=>σ=[some (.int c),some (.int n),some (.str (textOf cs)),some (.int lf),x4,some (.int pl),some (.ref r),none]/\T r=some (.lst (xs.map D.str))/\Row n.toNat xs) ?_ ?_
 ·intro n' hn';by_cases h5:n<5
  case neg =>
   nofun;exact hn' _ _ ⟨r,xs,rfl,hr1,R⟩
  by_cases e2:c/17%3=2
  case neg =>
   nofun;exact hn' _ _ ⟨r,xs,rfl,hr1,R⟩
  nofun;refine gS (λk=>.str (textOf (pL cs k))) (by rw[eL];exact cj JW (by decide)) trivial ?e3 ?_
  case e3 =>
   intro i d hd P hP;obtain⟨hi,rfl⟩:=gL hd;nofun;refine pE (by rw[v_];exact lz _ (by decide)) ?_;rw[v_,md,HD (by lia)];have ei:((3:Int)-(0+(i:Int))).toNat=3-i:=by lia
   rw[ei];nofun;refine pE hz ?_;rw[md,v9 (by decide)];refine sU ?_ ?_
   ·rw[gn,gn,dN,e_];exact fN (by simp only[bC,cE];lia)
   rw[sC];exact hP
  rw[eL];intro D2 hD2;rw[m1];nofun;exact hn' _ _ ⟨D2,_,rfl,av,U9 hL (by lia)⟩
 rintro σ T' ⟨r,xs,rfl,hr1,R⟩;have t0:=hG (c/13) (show n≠0 by lia);nofun;rw[pK t0];intro p1 hp1;have hD4:=az (o:=.lst ((xs.map D.str).drop (c/13%n).toNat)) hr1 hp1;nofun;rw[pJ t0];intro p2 hp2;have hxl:=R.len;refine zr (az av hp2) av ?_ ?_
 ·rw[e_,dN,aB];exact fN (by lia)
 intro r hr';refine⟨r,_,rfl,av,?_⟩;have:=hq _ (R.turn (t:=(c/13%n).toNat));rw[cF,D5,uJ]at this;exact this
structure Plain(ps:List Str)(n:Nat)(s:Sy):Prop where
 wf:∀ar,s.wf ar ps
 deep:s.deep<=n
 sends:s.sends=0
 size:s.pre.length+1<=2^n
theorem mB(a:Sy)(as:List Sy):(Sy.aZ (a::as)).length=a.pre.length+(Sy.aZ as).length:=by simp[Sy.aZ]
theorem om(s:Sy):s.pre.length=1+(Sy.aZ s.parts).length:=by rw[Sy.pM];simp;lia
theorem mC{ps:List Str}{x:Str}(h:x∈ps):Plain ps 1 (.name x):=⟨λ_=>h,by simp[Sy.deep],by simp[Sy.sends,Sy.pre],by simp[Sy.pre]⟩
theorem Plain.one{ps:List Str}{n:Nat}{s:Sy}(h:Plain ps n s):(Sy.aZ [s]).length+2<=2^(n+1):=by
 have:=h.size;rw[mB,Nat.pow_succ];simp[Sy.aZ];lia
theorem Plain.left{ps:List Str}{n:Nat}{s:Sy}(h:Plain ps n s):Plain ps (n+1) (.left s):=⟨h.wf,by have:=h.deep;simp only[Sy.deep];lia,by rw[Sy.ik];simp only[Sy.parts,Sy.gv,h.sends];simp[Sy.b4,Sy.aZ],
 by have:=h.one;rw[om];simp only[Sy.parts];lia⟩
theorem Plain.right{ps:List Str}{n:Nat}{s:Sy}(h:Plain ps n s):Plain ps (n+1) (.right s):=⟨h.wf,by have:=h.deep;simp only[Sy.deep];lia,by rw[Sy.ik];simp only[Sy.parts,Sy.gv,h.sends];simp[Sy.b4,Sy.aZ],
 by have:=h.one;rw[om];simp only[Sy.parts];lia⟩
theorem Plain.pair{ps:List Str}{n:Nat}{s t:Sy}(h:Plain ps n s)(h':Plain ps n t):Plain ps (n+1) (.pair s t):=⟨λar=>⟨h.wf ar,h'.wf ar⟩,by have:=h.deep;have:=h'.deep;simp only[Sy.deep];lia,by rw[Sy.ik];simp only[Sy.parts,Sy.gv,h.sends,h'.sends];simp[Sy.b4,Sy.aZ],
 by have:=h.size;have:=h'.size;rw[om,Nat.pow_succ];simp only[Sy.parts,mB];simp[Sy.aZ];lia⟩
theorem Plain.mono{ps:List Str}{n m:Nat}{s:Sy}(h:Plain ps n s)(hm:n<=m):Plain ps m s:=⟨h.wf,cj h.deep hm,h.sends,cj h.size (Nat.pow_le_pow_right (by decide) hm)⟩
theorem JX{S:af}{Q:K3}{a:Addr}{x y:D}{c:Int}(hS:S a=some (.lst [x,y]))(q0:Q x S)(q1:Q y S):vI (.ref a) (.int (c%2)) S Q:=by
 have m2:c%2=0∨c%2=1:=by lia
 rcases m2 with m|m
 ·exact fv hS (by rw[m];rfl) q0
 ·exact fv hS (by rw[m];rfl) q1
inductive Y3 (ds:List D)(q:D->Prop):Prop where
 |mk (cell:Int) (ps:List Str) (_:ds=[.int cell,.tup (ps.map D.str)]) (_:1<=ps.length) (_:ps.length<=4) (_:∀s:Sy,Plain ps 4 s->q s.d)
def AD :aK:=vS Y3
theorem Y4{k:Nat}(h:aA K mg "_law_path" qr ["cell","params"])(G:Gs K mg):aq P w K mg base (k+1) "_law_path" ["cell","params"] AD:=show _ by
 refine h.val wC (by rintro ds q ⟨_,_,e,_⟩;rw[e];rfl) λf cdv A outer s0 H E ds q hr hA=>?_;obtain⟨cell,ps,rfl,l1,l4,hq⟩:=hA;obtain⟨jp,vp,ejp,Y5,hap⟩:=zN (f:=D.str) cell (show 0<ps.length by lia);have hpl:(0:Int)<((ps.map D.str).length:Int):=by rw[aB];lia
 have n4:0<=cell/4%4/\cell/4%4<4:=by lia
 refine⟨_,(au (aN (i:=2) wC.nd rfl (Or.inl rfl) (bJ (ae bG (ae (aD aP aQ (aa 1) (aI b_ aY (aa 0) (dJ fj fu rfl G.len fg (ae (aa 1) ah))) (λ_ _=>rfl)) ah))))
 (au (eW ek rfl (ie rfl G.range (ae (aI b_ aY (aI dn aY (aa 0) aj) aj) ah)) (dD (i:=3) wC.nd rfl (Or.inl rfl)) (ax (aN (i:=2) wC.nd rfl (Or.inl rfl) (bJ (ae (aD eJ eM (d6 (ae bG (ae bG ah))) (aI b_ aY (aI dn aY (aa 0) (aD eJ eM (d6 (ae aj (ae aj (ae aj ah)))) (aa 3) (λ_ _=>rfl))) aj) (λ_ _=>rfl)) (ae (aa 2) ah))))))
 (ax (a_ (aa 2))))),?_⟩
 nofun;refine l_ hap ?_;nofun;refine⟨λi σ S=>my λ(s:Sy) (x3:Option D)=>σ=[some (.int cell),some (.tup (ps.map D.str)),some s.d,x3]/\Plain ps (1+i) s,⟨.name vp,none,rfl,mC (dg Y5)⟩,λ_ _ _ _=>trivial,?_,?_⟩
 ·rintro i d σ S hd ⟨s,x3,rfl,hs⟩;obtain⟨hi,rfl⟩:=gL hd;nofun;intro p1 hp1;nofun;intro p2 hp2;nofun;have h3:i=0∨i=1∨i=2:=by lia
  have hl:=az (o:=.lst [.int 16,.int 32,.int 64]) (av (S:=S) (a:=p1) (o:=.lst [.str "left",.str "right"])) hp2;rcases h3 with rfl|rfl|rfl
  all_goals
   nofun;refine JX hl ?_ ?_
   ·nofun;exact⟨.left s,_,rfl,by rw[<-rf];exact hs.left⟩
   ·nofun;exact⟨.right s,_,rfl,by rw[<-rf];exact hs.right⟩
 ·rintro σ S ⟨s,x3,rfl,hs⟩;rw[eL]at hs;nofun;exact hq s (hs.mono (by lia))
inductive Y6 (ds:List D)(q:D->Prop):Prop where
 |mk (cell:Int) (ps:List Str) (_:ds=[.int cell,.tup (ps.map D.str)]) (_:1<=ps.length) (_:ps.length<=4) (_:∀s:Sy,Plain ps 5 s->q s.d)
def tQ :aK:=vS Y6
theorem Y7{k:Nat}(h:aA K mg "_law_arg" qt ["cell","params"])(kT:aq P w K mg base k "_law_path" ["cell","params"] AD):aq P w K mg base (k+1) "_law_arg" ["cell","params"] tQ:=show _ by
 refine h.val YI (by rintro ds q ⟨_,_,e,_⟩;rw[e];rfl) λf cdv A outer s0 H E ds q hr hA=>?_;obtain⟨cell,ps,rfl,l1,l4,hq⟩:=hA;refine⟨_,(au (bS (bq bY dS (aI b_ aY (aa 0) aj) aj (bj _)) (ax (a_ (bJ (ae bG ah)))) bV)
 (au (bS (bq bY dS (aI b_ aY (aa 0) aj) aj (bj _)) (ax (a_ (bJ (ae bG (ae (aJ kT hr rfl (ae (aI dn aY (aa 0) aj) (ae (aa 1) ah))) (ae (aJ kT hr rfl (ae (aI dn aY (aa 0) aj) (ae (aa 1) ah))) ah)))))) bV)
 (ax (a_ (aJ kT hr rfl (ae (aI dn aY (aa 0) aj) (ae (aa 1) ah))))))),?_⟩
 by_cases h0:cell%9=0
 ·nofun;exact hq .aX ⟨λ_=>trivial,by simp[Sy.deep],by simp[Sy.sends,Sy.pre],by simp[Sy.pre]⟩
 by_cases h1:cell%9=1
 ·nofun;refine⟨_,ps,rfl,l1,l4,λa ha=>?_⟩;nofun;refine⟨_,ps,rfl,l1,l4,λb hb=>?_⟩;nofun;exact hq (.pair a b) (ha.pair hb)
 ·nofun;refine⟨_,ps,rfl,l1,l4,λa ha=>?_⟩;nofun;exact hq a (ha.mono (by decide))
structure oo(ar:Str->Option Nat)(ps:List Str)(x:Str)(as:List Sy):Prop where
 ar:ar x=some as.length
 l1:1<=as.length
 l4:as.length<=4
 plain:∀a∈as,Plain ps 5 a
inductive Y8 (ds:List D)(S:af)(q:D->Addr->O->Prop):Prop where
 |mk (ns:List Int) (sp nm ct:Addr) (i:Int) (rest:List D) (names ps:List Str) (counts:List Nat) (_:ds=[.bH (ns.map D.int),.ref sp,.ref nm,.ref ct,.tup (ps.map D.str)]) (_:S sp=some (.lst (.int i::rest))) (_:S nm=some (.lst (names.map D.str))) (_:S ct=some (.lst (cD counts))) (_:sp≠nm) (_:sp≠ct) (_:0<=i) (_:1<=ps.length) (_:ps.length<=4) (_:1<=names.length) (_:names.Nodup) (_:names.length=counts.length) (_:(∀c∈counts,1<=c/\c<=4)) (_:∀(x:Str) (as:List Sy) (i2:Int),oo (cP names counts) ps x as->0<=i2->q (Sy.send x as).d sp (.lst (.int i2::rest)))
def tR :aK:=kE Y8
theorem Y9{k:Nat}(h:aA K mg "_law_send" n8 ["script","spot","names","counts","params"])(G:Gs K mg)(eh:aq P w K mg base k "_law_next" ["script","spot"] qJ)(ix:aq P w K mg base k "_law_arg" ["cell","params"] tQ) :
 aq P w K mg base (k+1) "_law_send" ["script","spot","names","counts","params"] tR:=show _ by
 refine h.kE JL (by rintro ds S q ⟨_,_,_,_,_,_,_,_,_,e,_⟩;rw[e];rfl) λf cdv A outer s0 H E ds S q hr hA=>?_;obtain⟨ns,sp,nm,ct,i,rest,names,ps,counts,rfl,hsp,hnm,hct,n1,n2,hi,l1,l4,m1,nd,jO,hc4,hq⟩:=hA;refine⟨_,(au (aN (i:=5) JL.nd rfl (Or.inl rfl) (aI b_ aY (aJ eh hr rfl (ae (aa 0) (ae (aa 1) ah))) (dJ fj fu rfl G.len fg (ae (aa 2) ah))))
 (ax (a_ (bJ (ae bG (ae (aD eJ eM (aa 2) (aa 5) (λ_ _=>rfl)) (ae (gq iM iR rfl G.tuple iG (ae (i8 (cb:=ak n8) (N:=["script","spot","names","counts","params","to"]) (M:=["script","spot","params"]) (js:=[0,1,4]) ⟨rfl,by cbv,by cbv,by cbv,by cbv,by cbv⟩ (by cbv) (by cbv) rfl (ie rfl G.range (ae (aD eJ eM (aa 3) (aa 5) (λ_ _=>rfl)) ah)) (λ_ _ _ _ _=>eO) (λ_ _ _ _ _=>(aJ ix hr rfl (ae (aJ eh hr rfl (ae (aa 1) (ae (aa 2) ah))) (ae (aa 3) ah))))) ah)) ah))))))),?_⟩
 have hnl:(0:Int)<((names.map D.str).length:Int):=by rw[aB];lia
 have gO:∀o,up S sp o nm=some (.lst (names.map D.str)):=λo=>by rw[aM (bw n1)];exact hnm
 have tS:∀o,up S sp o ct=some (.lst (cD counts)):=λo=>by rw[aM (bw n2)];exact hct
 nofun;refine⟨ns,sp,i,rest,rfl,hsp,hi,?_⟩;have iV:=gO (.lst (.int (i+1)::rest));have wH:=tS (.lst (.int (i+1)::rest));obtain⟨jt,vt,AE,tU,hat⟩:=zN (f:=D.str) (cellAt ns i) (show 0<names.length by lia);have AF:jt<counts.length:=by rw[<-jO];exact(cu.mp tU).1
 obtain⟨cn,hcn⟩:∃cn,counts[jt]?=some cn:=⟨_,bb AF⟩;have AG:=hc4 cn (dg hcn);have har:cP names counts vt=some cn:=s_ nd tU hcn;nofun;refine fv iV hat ?_;nofun;refine fv wH (d:=.int cn) (by rw[AE];refine eV ?_;rw[aS,hcn];rfl) ?_;nofun;refine⟨λj ys S'=>∃as:List Sy,ys=as.map Sy.d/\as.length=j/\j<=cn/\(∀a∈as,Plain ps 5 a)/\S'=up S sp (.lst (.int (i+1+j)::rest)),⟨[],rfl,rfl,b8 _,by simp,by simp⟩,?_,?_,?_⟩
 ·rintro j ys S' ⟨as,rfl,hl,hj,_,rfl⟩;exact⟨trivial,by rw[aB];exact cT (by lia)⟩
 ·rintro j d ys S' hd ⟨as,rfl,hl,hj,hpl,rfl⟩;obtain⟨hj',rfl⟩:=gL hd;refine wo (wq ?_);rw[if_pos rfl];nofun;refine⟨ns,sp,i+1+j,rest,rfl,av,by lia,?_⟩;nofun;refine⟨_,ps,rfl,l1,l4,λa ha=>?_⟩;refine⟨as++[a],by simp,by simp[hl],by lia,λb hb=>?_,?_⟩
  ·rcases cR.mp hb with hb|hb
   ·exact hpl b hb
   ·rw[dO.mp hb];exact ha
  ·rw[o_];have:i+1+(j:Int)+1=i+1+((j+1:Nat):Int):=by lia
   rw[this]
 rintro ys S' ⟨as,rfl,hl,hj,hpl,rfl⟩;rw[eL,j3]at hl;intro p1 hp1;nofun;have e:D.tup [.str "send",.str vt,.tup (as.map Sy.d)]=(Sy.send vt as).d:=by simp only[Sy.d,Sy.nF]
 rw[e];exact⟨sp,_,((Px.refl sp S).at.new hp1).sub (az av hp1),hq vt as _ ⟨by rw[hl];exact har,by lia,by lia,hpl⟩ (by lia)⟩
structure Bd(ar:Str->Option Nat)(ps:List Str)(n m z:Nat)(s:Sy):Prop where
 wf:s.wf ar ps
 deep:s.deep<=n
 sends:s.sends<=m
 size:s.pre.length<=z
theorem Plain.bd{ar:Str->Option Nat}{ps:List Str}{n:Nat}{s:Sy}(h:Plain ps n s):Bd ar ps n 0 (2^n) s:=⟨h.wf ar,h.deep,by rw[h.sends];exact aV _,by have:=h.size;lia⟩
theorem Bd.mono{ar:Str->Option Nat}{ps:List Str}{n m z n' m' z':Nat}{s:Sy}(h:Bd ar ps n m z s)(h1:n<=n')(h2:m<=m')(h3:z<=z'):Bd ar ps n' m' z' s:=⟨h.wf,cj h.deep h1,cj h.sends h2,cj h.size h3⟩
theorem Bd.pair{ar:Str->Option Nat}{ps:List Str}{n m z m' z':Nat}{s t:Sy}(h:Bd ar ps n m z s)(h':Bd ar ps n m' z' t):Bd ar ps (n+1) (m+m') (1+z+z') (.pair s t) :=
 ⟨⟨h.wf,h'.wf⟩,by have:=h.deep;have:=h'.deep;simp only[Sy.deep];lia,by have:=h.sends;have:=h'.sends;rw[Sy.ik];simp only[Sy.parts,Sy.gv];simp[Sy.b4,Sy.aZ];lia,
  by have:=h.size;have:=h'.size;rw[om];simp only[Sy.parts,mB];simp[Sy.aZ];lia⟩
theorem Bd.fork{ar:Str->Option Nat}{ps:List Str}{n m z m' z' m2 z2:Nat}{s t u:Sy}(h:Bd ar ps n m z s)(h':Bd ar ps n m' z' t)(h2:Bd ar ps n m2 z2 u):Bd ar ps (n+1) (m+m'+m2) (1+z+z'+z2) (.fork s t u) :=
 ⟨⟨h.wf,h'.wf,h2.wf⟩,by have:=h.deep;have:=h'.deep;have:=h2.deep;simp only[Sy.deep];lia,by have:=h.sends;have:=h'.sends;have:=h2.sends;rw[Sy.ik];simp only[Sy.parts,Sy.gv];simp[Sy.b4,Sy.aZ];lia,
  by have:=h.size;have:=h'.size;have:=h2.size;rw[om];simp only[Sy.parts,mB];simp[Sy.aZ];lia⟩
theorem AH{ps:List Str}:∀{as:List Sy},(∀a∈as,Plain ps 5 a)->Sy.b4 as=0/\(Sy.aZ as).length<=31*as.length
 |[],_=>by simp[Sy.b4,Sy.aZ]
 |a::as,h=>by
  have h1:=h a df;have h2:=AH (as:=as) λb hb=>h b (dk _ hb);have:=h1.sends;have:=h1.size;rw[Sy.gv,mB,bC];lia
theorem oo.bd{ar:Str->Option Nat}{ps:List Str}{x:Str}{as:List Sy}(h:oo ar ps x as):Bd ar ps 6 1 125 (.send x as):=show _ by
 obtain⟨h1,h2⟩:=AH h.plain;have:=h.l4;refine⟨⟨h.ar,h.l1,h.l4,Sy.zL.mpr λa ha=>(h.plain a ha).wf ar⟩,?_,?_,?_⟩
 ·have:=Sy.zM (as:=as) (n:=5) λa ha=>(h.plain a ha).deep;simp only[Sy.deep];lia
 ·rw[Sy.ik];simp only[Sy.parts];lia
 ·rw[om];simp only[Sy.parts];lia
theorem oo.put{ar:Str->Option Nat}{ps:List Str}{x:Str}{as:List Sy}{n m z:Nat}(h:oo ar ps x as)(hn:5<=n)(bs:List Sy)(hb:∀b∈bs,b.wf ar ps/\b.deep<=n)(hs:Sy.b4 bs<=m)(hz:(Sy.aZ bs).length<=z)(hl:bs.length<=as.length)(h1:1<=bs.length) :
 Bd ar ps (n+1) (m+1) (1+z+124) (.send x (bs++as.drop bs.length)):=show _ by
 have hp:∀a∈as.drop bs.length,Plain ps 5 a:=λa ha=>h.plain a (DP ha);obtain⟨e1,e2⟩:=AH hp;have:=h.l4;have hlen:(bs++as.drop bs.length).length=as.length:=by rw[aU,e_];lia
 have hall:∀a∈bs++as.drop bs.length,a.wf ar ps/\a.deep<=n:=λa ha=>by
  rcases cR.mp ha with ha|ha
  ·exact hb a ha
  ·exact⟨(hp a ha).wf ar,cj (hp a ha).deep hn⟩
 rw[e_]at e2;refine⟨⟨by rw[hlen];exact h.ar,by rw[hlen];exact h.l1,by rw[hlen];exact h.l4,Sy.zL.mpr λa ha=>(hall a ha).1⟩,?_,?_,?_⟩
 ·have:=Sy.zM (as:=bs++as.drop bs.length) (n:=n) λa ha=>(hall a ha).2;simp only[Sy.deep];lia
 ·rw[Sy.ik];simp only[Sy.parts,Sy.U_];lia
 ·rw[om];simp only[Sy.parts,Sy.sZ,aU];lia
inductive Y_ (ds:List D)(S:af)(q:D->Addr->O->Prop):Prop where
 |mk (ns:List Int) (sp nm ct:Addr) (i:Int) (rest:List D) (names ps:List Str) (counts:List Nat) (_:ds=[.bH (ns.map D.int),.ref sp,.ref nm,.ref ct,.tup (ps.map D.str)]) (_:S sp=some (.lst (.int i::rest))) (_:S nm=some (.lst (names.map D.str))) (_:S ct=some (.lst (cD counts))) (_:sp≠nm) (_:sp≠ct) (_:0<=i) (_:1<=ps.length) (_:ps.length<=4) (_:1<=names.length) (_:names.Nodup) (_:names.length=counts.length) (_:(∀c∈counts,1<=c/\c<=4)) (_:∀(s:Sy) (i2:Int),Bd (cP names counts) ps 12 6 1500 s->0<=i2->q s.d sp (.lst (.int i2::rest)))
def JY :aK:=kE Y_
theorem Y'{k:Nat}(h:aA K mg "_law_body" qu ["script","spot","names","counts","params"])(G:Gs K mg)(eh:aq P w K mg base k "_law_next" ["script","spot"] qJ)(ix:aq P w K mg base k "_law_arg" ["cell","params"] tQ)
 (kT:aq P w K mg base k "_law_path" ["cell","params"] AD) (oq:aq P w K mg base k "_law_send" ["script","spot","names","counts","params"] tR) :
 aq P w K mg base (k+1) "_law_body" ["script","spot","names","counts","params"] JY:=show _ by
 refine h.kE ja (by rintro ds S q ⟨_,_,_,_,_,_,_,_,_,e,_⟩;rw[e];rfl) λf cdv A outer s0 H E ds S q hr hA=>?_;obtain⟨ns,sp,nm,ct,i,rest,names,ps,counts,rfl,hsp,hnm,hct,n1,n2,hi,l1,l4,m1,nd,jO,hc4,hq⟩:=hA;refine⟨_,(au (aN (i:=5) ja.nd rfl (Or.inl rfl) (aJ eh hr rfl (ae (aa 0) (ae (aa 1) ah))))
 (au (aN (i:=6) ja.nd rfl (Or.inl rfl) (aJ oq hr rfl (ae (aa 0) (ae (aa 1) (ae (aa 2) (ae (aa 3) (ae (aa 4) ah)))))))
 (au (iW (bq bY dS (aI b_ aY (aa 5) aj) aj (bj _)) (ax (aN (i:=6) ja.nd rfl (Or.inl rfl) (bJ (ae bG (ae (aa 6) (ae (aJ kT hr rfl (ae (aI dn aY (aa 5) aj) (ae (aa 4) ah))) ah)))))) bV)
 (au (iW (bq bY dS (aI b_ aY (aa 5) aj) aj (bj _)) (au (aN (i:=7) ja.nd rfl (Or.inl rfl) (aJ oq hr rfl (ae (aa 0) (ae (aa 1) (ae (aa 2) (ae (aa 3) (ae (aa 4) ah)))))))
 (au (aN (i:=8) ja.nd rfl (Or.inl rfl) (aI yD G3 (bJ (ae (aa 6) ah)) (eE vJ vK (aD aP aQ (aa 7) aj (λ_ _=>rfl)) (d7 aj) eK)))
 (au (iW (fm.pt (w_and (bq bY dS (aI b_ aY (aI dn aY (aa 5) aj) aj) aj (bj _)) (pk (bq Ew kA (dJ fj fu rfl G.len fg (ae (aa 8) ah)) aj (bj _))))) (ax (aN (i:=8) ja.nd rfl (Or.inl rfl) (aI yD G3 (bJ (ae (aa 6) (ae (aJ oq hr rfl (ae (aa 0) (ae (aa 1) (ae (aa 2) (ae (aa 3) (ae (aa 4) ah)))))) ah))) (eE vJ vK (aa 8) (d7 aj) eK)))) bV)
 (ax (aN (i:=6) ja.nd rfl (Or.inl rfl) (bJ (ae bG (ae (aD aP aQ (aa 7) aj (λ_ _=>rfl)) (ae (aa 8) ah))))))))) bV)
 (au (iW (bq bY dS (aI b_ aY (aa 5) aj) aj (bj _)) (ax (aN (i:=6) ja.nd rfl (Or.inl rfl) (bJ (ae bG (ae (aa 6) (ae (aJ oq hr rfl (ae (aa 0) (ae (aa 1) (ae (aa 2) (ae (aa 3) (ae (aa 4) ah)))))) ah)))))) bV)
 (au (aN (i:=9) ja.nd rfl (Or.inl rfl) (aJ ix hr rfl (ae (aI dn aY (aa 5) aj) (ae (aa 4) ah))))
 (au (iW (bq bY dS (aI b_ aY (aI dn aY (aa 5) aj) aj) aj (bj _)) (ax (aN (i:=9) ja.nd rfl (Or.inl rfl) (aJ oq hr rfl (ae (aa 0) (ae (aa 1) (ae (aa 2) (ae (aa 3) (ae (aa 4) ah)))))))) bV)
 (au (iW (bq bY dS (aI b_ aY (aI dn aY (aa 5) aj) aj) aj (bj _)) (ax (a_ (aa 6))) bV)
 (ax (a_ (bJ (ae bG (ae (aJ kT hr rfl (ae (aJ eh hr rfl (ae (aa 0) (ae (aa 1) ah))) (ae (aa 4) ah))) (ae (aa 6) (ae (aa 9) ah))))))))))))))),?_⟩
 have gO:∀o,up S sp o nm=some (.lst (names.map D.str)):=λo=>by rw[aM (bw n1)];exact hnm
 have tS:∀o,up S sp o ct=some (.lst (cD counts)):=λo=>by rw[aM (bw n2)];exact hct
 have fin:∀(s:Sy) (i2:Int),Bd (cP names counts) ps 12 6 1500 s->0<=i2->∃a o,Sub (up S a o) (up S sp (.lst (.int i2::rest)))/\q s.d a o:=λs i2 h1 h2=>⟨sp,_,Sub.refl _,hq s i2 h1 h2⟩;have snd:∀(i1:Int) (Q:K3),0<=i1->(∀(x:Str) (as:List Sy) (i2:Int),oo (cP names counts) ps x as->0<=i2->Q (Sy.send x as).d (up S sp (.lst (.int i2::rest)))) ->
  tR [.bH (ns.map D.int),.ref sp,.ref nm,.ref ct,.tup (ps.map D.str)] (up S sp (.lst (.int i1::rest))) Q (λ_ _ _=>False):=λi1 Q h1 h2 =>
  ⟨ns,sp,nm,ct,i1,rest,names,ps,counts,rfl,av,gO _,tS _,n1,n2,h1,l1,l4,m1,nd,jO,hc4,λx as i2 ho hi2=>by
   show Q _ (up (up S sp _) sp _);rw[o_];exact h2 x as i2 ho hi2⟩
 nofun;refine⟨ns,sp,i,rest,rfl,hsp,hi,?_⟩;generalize cellAt ns i=shape;nofun;refine snd _ _ (by lia) λx0 as0 i0 JZ hi0=>?_;nofun;refine ip (λσ T=>∃(s:Sy),σ=[some (.bH (ns.map D.int)),some (.ref sp),some (.ref nm),some (.ref ct),some (.tup (ps.map D.str)),some (.int shape),some s.d,none,none,none]/\T=up S sp (.lst (.int i0::rest))/\Bd (cP names counts) ps 7 1 200 s) ?_ ?_
 ·intro n' hn';by_cases c1:shape%4=1
  ·nofun;refine⟨_,ps,rfl,l1,l4,λp hp=>?_⟩;nofun;exact hn' _ _ ⟨.pair (.send x0 as0) p,rfl,rfl,(JZ.bd.pair (hp.bd.mono (n':=6) (by decide) (aV _) (aV _))).mono (by decide) (by decide) (by decide)⟩
  ·nofun;exact hn' _ _ ⟨.send x0 as0,rfl,rfl,JZ.bd.mono (by decide) (by decide) (by decide)⟩
 rintro σ T ⟨s,rfl,rfl,hs⟩;nofun;refine ip (λσ T=>jN λ(s:Sy) (x7 x8:Option D) (i1:Int)=>σ=[some (.bH (ns.map D.int)),some (.ref sp),some (.ref nm),some (.ref ct),some (.tup (ps.map D.str)),some (.int shape),some s.d,x7,x8,none]/\0<=i1/\T=up S sp (.lst (.int i1::rest))/\Bd (cP names counts) ps 8 3 600 s) ?_ ?_
 ·intro n' hn';by_cases c1:shape%4=2
  ·nofun;refine snd _ _ (by lia) λx1 as1 i1 ho1 hi1=>?_;simp only[Sy.d,Sy.nF];have hl1:=ho1.l1;have Wf:=ho1.l4;nofun;rw[pK (by decide)];refine Hb (by simp) (fN (by simp;lia)) ?_;nofun;have er:[s.d]++(as1.map Sy.d).drop (rD 1)=([s]++as1.drop [s].length).map Sy.d:=by simp
   rw[er];refine ip (λσ T=>my λ(bs:List Sy) (i2:Int)=>σ=[some (.bH (ns.map D.int)),some (.ref sp),some (.ref nm),some (.ref ct),some (.tup (ps.map D.str)),some (.int shape),some s.d,some (.tup [.str "send",.str x1,.tup (as1.map Sy.d)]),some (.tup ((bs++as1.drop bs.length).map Sy.d)),none] /\
    0<=i2/\T=up S sp (.lst (.int i2::rest))/\(∀b∈bs,b.wf (cP names counts) ps/\b.deep<=7)/\Sy.b4 bs<=2/\(Sy.aZ bs).length<=325/\bs.length<=as1.length/\1<=bs.length) ?_ ?_
   ·intro n2 hn2;have one:Sy.b4 [s]<=1/\(Sy.aZ [s]).length<=200:=by
     have:=hs.sends;have:=hs.size;rw[Sy.gv,mB];simp[Sy.b4,Sy.aZ];lia
    have stay:n2 [some (.bH (ns.map D.int)),some (.ref sp),some (.ref nm),some (.ref ct),some (.tup (ps.map D.str)),some (.int shape),some s.d,some (.tup [.str "send",.str x1,.tup (as1.map Sy.d)]),some (.tup (([s]++as1.drop [s].length).map Sy.d)),none] (up S sp (.lst (.int i1::rest))) :=
     hn2 _ _ ⟨[s],i1,rfl,hi1,rfl,λb hb=>by rw[dO.mp hb];exact⟨hs.wf,hs.deep⟩,by lia,by lia,by simpa using hl1,by simp⟩
    have aiV:((([s]++as1.drop [s].length).map Sy.d).length:Int)=(as1.length:Int):=by
     rw[aB,aU,e_];simp;lia
    by_cases c2:shape/20%3=1
    ·by_cases c3:(1:Int)<(as1.length:Int)
     ·nofun;refine snd _ _ (by lia) λx2 as2 i2 ho2 hi2=>?_;nofun;rw[pK (by decide)];refine Hb (by simp) (fN (by simp;lia)) ?_;have e2:[s.d,(Sy.send x2 as2).d]++(([s]++as1.drop [s].length).map Sy.d).drop (rD 2)=([s,.send x2 as2]++as1.drop [s,.send x2 as2].length).map Sy.d:=by simp
      rw[e2];have b2:=ho2.bd;refine hn2 _ _ ⟨[s,.send x2 as2],i2,rfl,hi2,rfl,λb hb=>?_,?_,?_,?_,by simp⟩
      ·simp only[bF,cN,or_false]at hb;rcases hb with rfl|rfl
       ·exact⟨hs.wf,hs.deep⟩
       ·exact⟨b2.wf,cj b2.deep (by decide)⟩
      ·have:=hs.sends;have:=b2.sends;rw[Sy.gv,Sy.gv];simp[Sy.b4,Sy.aZ];lia
      ·have:=hs.size;have:=b2.size;rw[mB,mB];simp[Sy.aZ];lia
      ·simp;lia
     ·nofun;exact stay
    ·nofun;exact stay
   rintro σ T ⟨bs,i2,rfl,hi2,rfl,hb1,hb2,hb3,hb4,Za⟩;nofun;refine hn' _ _ ⟨.send x1 (bs++as1.drop bs.length),_,_,i2,by simp only[Sy.d,Sy.nF];rfl,hi2,rfl,(ho1.put (by decide) bs hb1 hb2 hb3 hb4 Za).mono (by decide) (by decide) (by decide)⟩
  ·nofun;exact hn' _ _ ⟨s,none,none,i0,rfl,hi0,rfl,hs.mono (by decide) (by decide) (by decide)⟩
 rintro σ T ⟨s,x7,x8,i1,rfl,hi1,rfl,hs⟩;nofun;refine ip (λσ T=>my λ(s:Sy) (i2:Int)=>σ=[some (.bH (ns.map D.int)),some (.ref sp),some (.ref nm),some (.ref ct),some (.tup (ps.map D.str)),some (.int shape),some s.d,x7,x8,none]/\0<=i2/\T=up S sp (.lst (.int i2::rest))/\Bd (cP names counts) ps 9 4 800 s) ?_ ?_
 ·intro n' hn';by_cases c1:shape%4=3
  ·nofun;refine snd _ _ (by lia) λx2 as2 i2 ho2 hi2=>?_;nofun;exact hn' _ _ ⟨.pair s (.send x2 as2),i2,rfl,hi2,rfl,(hs.pair (ho2.bd.mono (n':=8) (by decide) (aV _) (aV _))).mono (by decide) (by decide) (by decide)⟩
  ·nofun;exact hn' _ _ ⟨s,i1,rfl,hi1,rfl,hs.mono (by decide) (by decide) (by decide)⟩
 rintro σ T ⟨s,i2,rfl,hi2,rfl,hs⟩;nofun;refine⟨_,ps,rfl,l1,l4,λa ha=>?_⟩;nofun;refine ip (λσ T=>my λ(t:Sy) (i3:Int)=>σ=[some (.bH (ns.map D.int)),some (.ref sp),some (.ref nm),some (.ref ct),some (.tup (ps.map D.str)),some (.int shape),some s.d,x7,x8,some t.d]/\0<=i3/\T=up S sp (.lst (.int i3::rest))/\Bd (cP names counts) ps 9 1 125 t) ?_ ?_
 ·intro n' hn';by_cases c1:shape/4%5=1
  ·nofun;refine snd _ _ (by lia) λx2 as2 i3 ho2 jP=>?_;nofun;exact hn' _ _ ⟨.send x2 as2,i3,rfl,jP,rfl,ho2.bd.mono (by decide) (by decide) (by decide)⟩
  ·nofun;exact hn' _ _ ⟨a,i2,rfl,hi2,rfl,ha.bd.mono (by decide) (by decide) (by decide)⟩
 rintro σ T ⟨t,i3,rfl,jP,rfl,ht⟩;nofun;refine ip (λσ T=>σ=[some (.bH (ns.map D.int)),some (.ref sp),some (.ref nm),some (.ref ct),some (.tup (ps.map D.str)),some (.int shape),some s.d,x7,x8,some t.d]/\T=up S sp (.lst (.int i3::rest))) ?_ ?_
 ·intro n' hn';by_cases c1:shape/4%5=2
  ·nofun;exact fin s i3 (hs.mono (by decide) (by decide) (by decide)) jP
  ·nofun;exact hn' _ _ ⟨rfl,rfl⟩
 rintro σ T ⟨rfl,rfl⟩;nofun;refine⟨ns,sp,i3,rest,rfl,av,jP,?_⟩;nofun;refine⟨_,ps,rfl,l1,l4,λp hp=>?_⟩;nofun;rw[o_];exact fin (.fork p s t) _ (((hp.bd.mono (n':=9) (by decide) (aV _) (aV _)).fork hs ht).mono (by decide) (by decide) (by decide)) (by lia)
structure Pg(prog:List Er):Prop where
 Zb:1<=prog.length
 len:prog.length<=12
 nd:(prog.map Er.name).Nodup
 nm:∀e∈prog,ma e.name
 ps:∀e∈prog,1<=e.ps.length/\e.ps.length<=4/\e.ps.Nodup/\∀x∈e.ps,ma x
 body:∀e∈prog,Bd (d8 prog) e.ps 12 12 5000 e.body
structure J0(ar:Str->Option Nat)(e:Er):Prop where
 l1:1<=e.ps.length
 l4:e.ps.length<=4
 nd:e.ps.Nodup
 ok:∀x∈e.ps,ma x
 bd:Bd ar e.ps 12 6 1500 e.body
inductive Zc (ds:List D)(S:af)(q:List D->Addr->O->Prop):Prop where
 |mk (ns:List Int) (sp:Addr) (i most:Int) (rest:List D) (_:ds=[.bH (ns.map D.int),.ref sp,.int most]) (_:S sp=some (.lst (.int i::rest))) (_:0<=i) (_:1<=most) (_:most<=12) (_:∀(prog:List Er) (i2:Int),Pg prog->prog.length<=most.toNat->0<=i2->q (prog.map Er.d) sp (.lst (.int i2::rest)))
def wI :aK:=nD Zc
theorem Zd{k:Nat}(h:aA K mg "_law_program" n_ ["script","spot","most"])(G:Gs K mg)(eh:aq P w K mg base k "_law_next" ["script","spot"] qJ)(mD:aq P w K mg base k "_law_names" ["cell","many"] AB)
 (AI:aq P w K mg base k "_law_body" ["script","spot","names","counts","params"] JY):aq P w K mg base (k+1) "_law_program" ["script","spot","most"] wI:=show _ by
 refine h.nD kR (by rintro ds S q ⟨_,_,_,_,_,e,_⟩;rw[e];rfl) λf cdv A outer s H E ds S q hr hA=>?_;obtain⟨ns,sp,i,most,rest,rfl,hsp,hi,m1,AJ,hq⟩:=hA;refine⟨_,(au (aN (i:=3) kR.nd rfl (Or.inr rfl) (aJ eh hr rfl (ae (aa 0) (ae (aa 1) ah))))
 (au (aN (i:=4) kR.nd rfl (Or.inl rfl) (aI jx gM aj (aI b_ aY (aa 3) (aa 2))))
 (au (aN (i:=5) kR.nd rfl (Or.inl rfl) (aJ mD hr rfl (ae (aI b_ aY (aI dn aY (aa 3) (aa 2)) (aI u3 aY aj aj)) (ae (aa 4) ah))))
 (au (aN (i:=6) kR.nd rfl (Or.inl rfl) (aJ mD hr rfl (ae (aI b_ aY (aJ eh hr rfl (ae (aa 0) (ae (aa 1) ah))) (aI u3 aY aj aj)) (ae aj ah))))
 (au (mv (i:=7) (cb:=ak n_) (N:=["script","spot","most","head","many","names","params","counts","program","k","mine"]) (M:=["head"]) (js:=[3]) ⟨rfl,by cbv,by cbv,by cbv,by cbv,by cbv⟩ (by cbv) (by cbv) rfl (ie rfl G.range (ae (aa 4) ah)) (λ_ _ _ _ _=>eO) (λ_ _ _ _ _=>(aI jx gM aj (aI b_ aY (aI dn aY (aa 1) (aI Eo aY aj (aI jx gM (aa 0) aj))) aj))) kR.nd rfl rfl)
 (au (aN (i:=8) kR.nd rfl (Or.inl rfl) (d6 ah))
 (au (eW ek rfl (ie rfl G.range (ae (aa 4) ah)) (dD (i:=9) kR.nd rfl (Or.inl rfl)) (au (aN (i:=10) kR.nd rfl (Or.inl rfl) (gq iM iR rfl G.tuple iG (ae (eE jy jD (aI yG zk (eE jy jD (aa 6) (d7 (aI b_ aY (aa 9) aj)) eK) (eE jy jD (aa 6) eK (d7 (aI b_ aY (aa 9) aj)))) eK (d7 (aD eJ eM (aa 7) (aa 9) (λ_ _=>rfl)))) ah)))
 (ax (b7 (dv cw dz dH dq dE (aa 8) (ae (bJ (ae (aD eJ eM (aa 5) (aa 9) (λ_ _=>rfl)) (ae (aa 10) (ae (aJ AI hr rfl (ae (aa 0) (ae (aa 1) (ae (aa 5) (ae (aa 7) (ae (aa 10) ah)))))) ah)))) ah))))))
 (ax (a_ (aa 8)))))))))),?_⟩
 nofun;refine⟨ns,sp,i,rest,rfl,hsp,hi,?_⟩;generalize cellAt ns i=head;have hm0:=hG head (show most≠0 by lia);have hm1:=uB head (show 0<most by lia);have Ze:(0:Int)<10^(rD 14):=by decide
 nofun;refine⟨_,_,rfl,hG _ (by decide),by lia,by lia,λnames Rn=>?_⟩;intro nm hnm;have n1:sp≠nm:=ne3 av hnm;nofun;refine⟨ns,sp,i+1,rest,rfl,az av hnm,by lia,?_⟩;generalize cellAt ns (i+1)=c2;nofun;refine⟨_,4,rfl,hG _ (by decide),by lia,by lia,λpp Rp=>?_⟩;intro pm hpm;nofun;generalize AK:1+head%most=many;have Zf:1<=many:=by lia
 have h12:many<=most:=by lia
 obtain⟨cnt,tV⟩:∃cnt:Nat->Nat,∀k:Nat,1+head/(7*(0+(k:Int)+1))%3=(cnt k:Int)/\1<=cnt k/\cnt k<=4:=⟨λk=>(1+head/(7*(0+(k:Int)+1))%3).toNat,λk=>by
  dsimp only;generalize head/(7*(0+(k:Int)+1))=x;lia⟩
 have bD:=az (o:=.lst (pp.map D.str)) (av (S:=up (up S sp (.lst (.int (i+1)::rest))) nm (.lst (names.map D.str))) (a:=sp) (o:=.lst (.int (i+1+1)::rest))) hpm;have bB:up (up (up (up S sp (.lst (.int (i+1)::rest))) nm (.lst (names.map D.str))) sp (.lst (.int (i+1+1)::rest))) pm (.lst (pp.map D.str)) nm=some (.lst (names.map D.str)) :=
  az (by rw[aM (bw n1)];exact av) hpm
 have bT:up (up (up (up S sp (.lst (.int (i+1)::rest))) nm (.lst (names.map D.str))) sp (.lst (.int (i+1+1)::rest))) pm (.lst (pp.map D.str)) pm=some (.lst (pp.map D.str)):=av;have bI:Px sp S (up (up (up (up S sp (.lst (.int (i+1)::rest))) nm (.lst (names.map D.str))) sp (.lst (.int (i+1+1)::rest))) pm (.lst (pp.map D.str))):=((Px.refl sp S).at.new hnm).at.new hpm;have tW:sp≠pm:=ne3 av hpm;generalize up (up (up (up S sp (.lst (.int (i+1)::rest))) nm (.lst (names.map D.str))) sp (.lst (.int (i+1+1)::rest))) pm (.lst (pp.map D.str))=S4 at bD bB bT bI ⊢;refine JF (λk=>.int (cnt k)) (by rw[eL];lia) (λ_ _=>trivial) ?_ ?_
 ·intro j d S' hd hs' P hP;obtain⟨hj,rfl⟩:=gL hd;nofun;rw[(tV j).1];exact hP _ (Sub.refl S')
 intro S5 kU;replace bD:=kU _ _ bD;replace bB:=kU _ _ bB;replace bT:=kU _ _ bT;replace bI:=bI.ext kU;rw[eL];obtain⟨counts,ou⟩:∃counts,counts=(ba many.toNat).map cnt:=⟨_,rfl⟩;have AL:((ba many.toNat).map λk=>D.int (cnt k:Int))=cD counts:=by rw[ou,cD,fe];rfl
 rw[AL];have hc4:∀c∈counts,1<=c/\c<=4:=λc hc=>by
  rw[ou]at hc;obtain⟨k,_,rfl⟩:=bM.mp hc;exact(tV k).2
 have jO:counts.length=many.toNat:=by rw[ou];simp
 intro ct hct;nofun;intro pr hpr;have hnl:=Rn.len;rw[AK]at Rn hnl;have ow:sp≠nm:=n1;have ox:sp≠ct:=ne3 bD hct;have gW:sp≠pr:=ne3 (az bD hct) hpr;have tX:nm≠pr:=ne3 (az bB hct) hpr;have AM:pm≠pr:=ne3 (az bT hct) hpr;have tY:ct≠pr:=ne3 av hpr;have oy:S pr=none:=(bI.new hct).free hpr (bw gW);replace bD:=az (o:=.lst []) (az (o:=.lst (cD counts)) bD hct) hpr;replace bB:=az (o:=.lst []) (az (o:=.lst (cD counts)) bB hct) hpr;replace bT:=az (o:=.lst []) (az (o:=.lst (cD counts)) bT hct) hpr;replace bI:=(bI.new (o:=.lst (cD counts)) hct).new (o:=.lst []) hpr;have bQ:up (up S5 ct (.lst (cD counts))) pr (.lst []) ct=some (.lst (cD counts)):=az av hpr;have bX:up (up S5 ct (.lst (cD counts))) pr (.lst []) pr=some (.lst []):=av;generalize up (up S5 ct (.lst (cD counts))) pr (.lst [])=S6 at bD bB bT bI bQ bX ⊢;nofun;refine⟨λj σ S'=>jN λ(cU:List Er) (i1:Int) (x10 x11:Option D)=>σ=[some (.bH (ns.map D.int)),some (.ref sp),some (.int most),some (.int head),some (.int many),some (.ref nm),some (.ref pm),some (.ref ct),some (.ref pr),x10,x11] /\
  S' sp=some (.lst (.int i1::rest))/\S' nm=some (.lst (names.map D.str))/\S' pm=some (.lst (pp.map D.str))/\S' ct=some (.lst (cD counts))/\S' pr=some (.lst (cU.map Er.d))/\Px sp S S' /\
  cU.length=j/\0<=i1/\cU.map Er.name=names.take j/\(cU.map λe=>e.ps.length)=counts.take j/\(∀e∈cU,J0 (cP names counts) e),
  ⟨[],i+1+1,none,none,rfl,bD,bB,bT,bQ,bX,bI,rfl,by lia,rfl,rfl,by simp⟩,λ_ _ _ _=>trivial,?turn,?done⟩
 case turn =>
  clear bD bB bT bQ bX bI;rintro j d σ S' hd ⟨cU,i1,x10,x11,rfl,bD,bB,bT,bQ,bX,bI,hl,hi1,en,ec,hk⟩;obtain⟨hj,rfl⟩:=gL hd;have c0:=hG (0+(j:Int)) (show(4:Int)≠0 by decide);have ap:∀{α:Type} {f:α->D} {xs:List α} {v:α},xs[j]?=some v->cy (xs.map f) (0+(j:Int))=some (f v):=λ{α f xs v} hv=>by
   have e:(0:Int)+(j:Int)=((j:Nat):Int):=by lia
   rw[e];refine eV ?_;rw[aS,hv];rfl
  obtain⟨cn,hcn⟩:∃cn,counts[j]?=some cn:=⟨_,bb (by lia)⟩;obtain⟨nj,tZ⟩:∃nj,names[j]?=some nj:=⟨_,bb (by lia)⟩;have AG:=hc4 cn (dg hcn);nofun;rw[pK c0];intro p1 hp1;have g1:=az (o:=.lst ((pp.map D.str).drop ((0+(j:Int))%4).toNat)) bT hp1;nofun;rw[pJ c0];intro p2 hp2;have hpl:=Rp.len;refine zr (az av hp2) av ?_ ?_
  ·rw[e_,dN,aB];exact fN (by lia)
  intro p3 hp3;nofun;refine fv (az (az (az bQ hp1) hp2) hp3) (ap hcn) ?_;nofun;rw[pJ (by lia),j3];intro p4 AN;nofun;obtain⟨mine,t5⟩:∃mine,mine=(pp.drop ((0+(j:Int))%4).toNat++pp.take ((0+(j:Int))%4).toNat).take cn:=⟨_,rfl⟩;have em:((pp.map D.str).drop ((0+(j:Int))%4).toNat++(pp.map D.str).take ((0+(j:Int))%4).toNat).take cn=mine.map D.str:=by
   rw[t5,<-D5,<-uJ,<-cF,<-uJ]
  rw[em];have hmo:mine.length=cn/\mine.Nodup/\∀x∈mine,ma x:=by
   rw[t5];exact HJ Rp.turn (by show cn<=4;lia)
  have hsub:=((((Sub.refl S').up (o:=.lst ((pp.map D.str).drop ((0+(j:Int))%4).toNat)) hp1).up (o:=.lst ((pp.map D.str).take ((0+(j:Int))%4).toNat)) hp2).up
   (o:=.lst ((pp.map D.str).drop ((0+(j:Int))%4).toNat++(pp.map D.str).take ((0+(j:Int))%4).toNat)) hp3).up (o:=.lst (mine.map D.str)) AN
  generalize up (up (up (up S' p1 _) p2 _) p3 _) p4 _=S5 at hsub ⊢;replace bD:=hsub _ _ bD;replace bB:=hsub _ _ bB;replace bT:=hsub _ _ bT;replace bQ:=hsub _ _ bQ;replace bX:=hsub _ _ bX;replace bI:=bI.ext hsub;nofun;refine fv bB (ap tZ) ?_;nofun;refine⟨ns,sp,nm,ct,i1,rest,names,mine,counts,rfl,bD,bB,bQ,ow,ox,hi1,by lia,by lia,by lia,Rn.nd,by lia,hc4,λs i2 hbd hi2=>?_⟩;nofun;have Zg:up S5 sp (.lst (.int i2::rest)) pr=some (.lst (cU.map Er.d)):=by rw[aM (bw gW)];exact bX
  refine cL Zg (by rw[aB];exact cT (by lia)) ?_;have ee:cU.map Er.d++[D.tup [D.str nj,D.tup (mine.map D.str),s.d]]=(cU++[(⟨nj,mine,s⟩:Er)]).map Er.d:=by simp[Er.d]
  rw[ee];refine⟨cU++[(⟨nj,mine,s⟩:Er)],i2,_,_,rfl,?_,?_,?_,?_,av,(bI.at).fresh oy,by simp[hl],hi2,?_,?_,?_⟩
  ·rw[aM gW];exact av
  ·rw[aM tX,aM (bw ow)];exact bB
  ·rw[aM AM,aM (bw tW)];exact bT
  ·rw[aM tY,aM (bw ox)];exact bQ
  ·rw[gB,tZ,cF,en];rfl
  ·rw[gB,hcn,cF,ec];show counts.take j++[mine.length]=_;rw[hmo.1];rfl
  ·intro e he;rcases cR.mp he with he|he
   ·exact hk e he
   ·rw[dO.mp he];exact⟨by show 1<=mine.length;lia,by show mine.length<=4;lia,hmo.2.1,hmo.2.2,hbd⟩
 rintro σ S' ⟨cU,i1,x10,x11,rfl,bD,bB,bT,bQ,bX,bI,hl,hi1,en,ec,hk⟩;rw[eL]at hl en ec;rw[j8 (by lia)]at en ec;nofun;refine⟨pr,_,sp,_,rfl,oy,by rw[hsp];simp,bI.sub bD,bX,hq cU i1 ⟨by lia,by lia,?_,λe he=>?_,λe he=>?_,λe he=>?_⟩ (by lia) hi1⟩
 ·rw[en];exact Rn.nd
 ·exact Rn.ok _ (by rw[<-en];exact j9 he)
 ·exact⟨(hk e he).l1,(hk e he).l4,(hk e he).nd,(hk e he).ok⟩
 ·rw[HI en ec];exact(hk e he).bd.mono (by decide) (by decide) (by decide)
abbrev J1:aK:=tR
theorem Zh{k:Nat}(h:aA K mg "_law_tame_send" qv ["script","spot","names","counts","params"])(G:Gs K mg)(eh:aq P w K mg base k "_law_next" ["script","spot"] qJ)(ix:aq P w K mg base k "_law_arg" ["cell","params"] tQ) :
 aq P w K mg base (k+1) "_law_tame_send" ["script","spot","names","counts","params"] tR:=show _ by
 refine h.kE mx (by rintro ds S q ⟨_,_,_,_,_,_,_,_,_,e,_⟩;rw[e];rfl) λf cdv A outer s0 H E ds S q hr hA=>?_;obtain⟨ns,sp,nm,ct,i,rest,names,ps,counts,rfl,hsp,hnm,hct,n1,n2,hi,l1,l4,m1,nd,jO,hc4,hq⟩:=hA;refine⟨_,(au (aN (i:=5) mx.nd rfl (Or.inl rfl) (aI b_ aY (aJ eh hr rfl (ae (aa 0) (ae (aa 1) ah))) (dJ fj fu rfl G.len fg (ae (aa 2) ah))))
 (au (aN (i:=6) mx.nd rfl (Or.inl rfl) (d6 ah))
 (au (eW ek rfl (ie rfl G.range (ae (aD eJ eM (aa 3) (aa 5) (λ_ _=>rfl)) ah)) (dD (i:=7) mx.nd rfl (Or.inl rfl)) (au (aN (i:=8) mx.nd rfl (Or.inl rfl) (aJ eh hr rfl (ae (aa 0) (ae (aa 1) ah))))
 (au (aN (i:=9) mx.nd rfl (Or.inl rfl) (aJ ix hr rfl (ae (aa 8) (ae (aa 4) ah))))
 (au (iW (bq bY dS (aa 7) aj (bj _)) (au (aN (i:=9) mx.nd rfl (Or.inl rfl) (bJ (ae (aD eJ eM (d6 (ae bG (ae bG ah))) (aI b_ aY (aI dn aY (aa 8) aj) aj) (λ_ _=>rfl)) (ae (bJ (ae bG (ae (aD aP aQ (aa 4) aj (λ_ _=>rfl)) ah))) ah))))
 (ax (iW (bq rS kA (aI b_ aY (aa 8) aj) aj (bj _)) (ax (aN (i:=9) mx.nd rfl (Or.inl rfl) (bJ (ae bG (ae (aa 9) ah))))) bV))) bV)
 (ax (b7 (dv cw dz dH dq dE (aa 6) (ae (aa 9) ah))))))))
 (ax (a_ (bJ (ae bG (ae (aD eJ eM (aa 2) (aa 5) (λ_ _=>rfl)) (ae (gq iM iR rfl G.tuple iG (ae (aa 6) ah)) ah))))))))),?_⟩
 have hnl:(0:Int)<((names.map D.str).length:Int):=by rw[aB];lia
 have gO:∀o,up S sp o nm=some (.lst (names.map D.str)):=λo=>by rw[aM (bw n1)];exact hnm
 have tS:∀o,up S sp o ct=some (.lst (cD counts)):=λo=>by rw[aM (bw n2)];exact hct
 obtain⟨p0,hp0⟩:∃p0,ps[0]?=some p0:=⟨_,bb (by lia)⟩;have J2:cy (ps.map D.str) 0=some (.str p0):=eV (j:=0) (by rw[aS,hp0];rfl);have qK:p0∈ps:=dg hp0;nofun;refine⟨ns,sp,i,rest,rfl,hsp,hi,?_⟩;have iV:=gO (.lst (.int (i+1)::rest));have wH:=tS (.lst (.int (i+1)::rest));obtain⟨jt,vt,AE,tU,hat⟩:=zN (f:=D.str) (cellAt ns i) (show 0<names.length by lia);have AF:jt<counts.length:=by rw[<-jO];exact(cu.mp tU).1
 obtain⟨cn,hcn⟩:∃cn,counts[jt]?=some cn:=⟨_,bb AF⟩;have AG:=hc4 cn (dg hcn);have har:cP names counts vt=some cn:=s_ nd tU hcn;nofun;intro pr hpr;have gW:sp≠pr:=ne3 av hpr;have oy:S pr=none:=by rw[aM (bw gW)]at hpr;exact hpr
 have tX:nm≠pr:=ne3 iV hpr;have tY:ct≠pr:=ne3 wH hpr;have bD:=az (o:=.lst []) (av (S:=S) (a:=sp) (o:=.lst (.int (i+1)::rest))) hpr;have bB:=az (o:=.lst []) iV hpr;have bQ:=az (o:=.lst []) wH hpr;have bX:up (up S sp (.lst (.int (i+1)::rest))) pr (.lst []) pr=some (.lst []):=av;have bI:Px sp S (up (up S sp (.lst (.int (i+1)::rest))) pr (.lst [])):=(Px.refl sp S).at.new hpr;generalize up (up S sp (.lst (.int (i+1)::rest))) pr (.lst [])=S1 at bD bB bQ bX bI ⊢;nofun;refine fv bQ (d:=.int cn) (by rw[AE];refine eV ?_;rw[aS,hcn];rfl) ?_;nofun;refine⟨λj σ S'=>JS λ(as:List Sy) (i1:Int) (x7 x8 x9:Option D)=>σ=[some (.bH (ns.map D.int)),some (.ref sp),some (.ref nm),some (.ref ct),some (.tup (ps.map D.str)),some (.int (cellAt ns i%((names.map D.str).length:Int))),some (.ref pr),x7,x8,x9] /\
  S' sp=some (.lst (.int i1::rest))/\S' nm=some (.lst (names.map D.str))/\S' ct=some (.lst (cD counts))/\S' pr=some (.lst (as.map Sy.d))/\Px sp S S'/\as.length=j/\0<=i1/\(∀a∈as,Plain ps 5 a),
  ⟨[],i+1,none,none,none,rfl,bD,bB,bQ,bX,bI,rfl,by lia,by simp⟩,λ_ _ _ _=>trivial,?turn,?done⟩
 case turn =>
  clear bD bB bQ bX bI;rintro j d σ S' hd ⟨as,i1,x7,x8,x9,rfl,bD,bB,bQ,bX,bI,hl,hi1,hpl⟩;obtain⟨hj,rfl⟩:=gL hd;rw[j3]at hj;nofun;refine⟨ns,sp,i1,rest,rfl,bD,hi1,?_⟩;nofun;replace bB:up S' sp (.lst (.int (i1+1)::rest)) nm=_:=(aM (bw n1)).trans bB;replace bQ:up S' sp (.lst (.int (i1+1)::rest)) ct=_:=(aM (bw n2)).trans bQ;replace bX:up S' sp (.lst (.int (i1+1)::rest)) pr=_:=(aM (bw gW)).trans bX;replace bI:=bI.at (o:=.lst (.int (i1+1)::rest));replace bD:up S' sp (.lst (.int (i1+1)::rest)) sp=_:=av;generalize up S' sp (.lst (.int (i1+1)::rest))=S2 at bD bB bQ bX bI ⊢;generalize cellAt ns i1=cell;refine⟨_,ps,rfl,l1,l4,λa ha=>?_⟩;nofun;refine ip (λσ T=>∃(s:Sy),σ=[some (.bH (ns.map D.int)),some (.ref sp),some (.ref nm),some (.ref ct),some (.tup (ps.map D.str)),some (.int (cellAt ns i%((names.map D.str).length:Int))),some (.ref pr),some (.int (0+(j:Int))),some (.int cell),some s.d]/\Sub S2 T/\Plain ps 5 s) ?_ ?_
  ·intro n' hn';by_cases hj0:(0:Int)+(j:Int)=0
   ·nofun;intro p1 hp1;nofun;have hP:∀b:Bool,Plain ps 2 (if b then .left (.name p0) else .right (.name p0)):=λb=>by cases b<;>first|exact(mC qK).right|exact(mC qK).left
    refine JX av ?_ ?_
    ·nofun;refine l_ J2 ?_;nofun;refine ip (λσ T=>∃(s:Sy),σ=[some (.bH (ns.map D.int)),some (.ref sp),some (.ref nm),some (.ref ct),some (.tup (ps.map D.str)),some (.int (cellAt ns i%((names.map D.str).length:Int))),some (.ref pr),some (.int (0+(j:Int))),some (.int cell),some s.d]/\Sub S2 T/\Plain ps 5 s) ?_ ?_
     ·intro Zi hn2';by_cases hc3:cell%9<3
      ·nofun;exact hn2' _ _ ⟨.right (.left (.name p0)),rfl,(Sub.refl S2).up hp1,(mC qK).left.right.mono (by decide)⟩
      ·nofun;exact hn2' _ _ ⟨.left (.name p0),rfl,(Sub.refl S2).up hp1,(mC qK).left.mono (by decide)⟩
     ·rintro σ T h;exact hn' _ _ h
    ·nofun;refine l_ J2 ?_;nofun;refine ip (λσ T=>∃(s:Sy),σ=[some (.bH (ns.map D.int)),some (.ref sp),some (.ref nm),some (.ref ct),some (.tup (ps.map D.str)),some (.int (cellAt ns i%((names.map D.str).length:Int))),some (.ref pr),some (.int (0+(j:Int))),some (.int cell),some s.d]/\Sub S2 T/\Plain ps 5 s) ?_ ?_
     ·intro Zi hn2';by_cases hc3:cell%9<3
      ·nofun;exact hn2' _ _ ⟨.right (.right (.name p0)),rfl,(Sub.refl S2).up hp1,(mC qK).right.right.mono (by decide)⟩
      ·nofun;exact hn2' _ _ ⟨.right (.name p0),rfl,(Sub.refl S2).up hp1,(mC qK).right.mono (by decide)⟩
     ·rintro σ T h;exact hn' _ _ h
   ·nofun;exact hn' _ _ ⟨a,rfl,Sub.refl S2,ha⟩
  rintro σ T ⟨s,rfl,hs,hps⟩;replace bD:=hs _ _ bD;replace bB:=hs _ _ bB;replace bQ:=hs _ _ bQ;replace bX:=hs _ _ bX;replace bI:=bI.ext hs;nofun;refine cL bX (by rw[aB];exact cT (by lia)) ?_;have ee:as.map Sy.d++[s.d]=(as++[s]).map Sy.d:=by simp
  rw[ee];refine⟨as++[s],i1+1,_,_,_,rfl,?_,?_,?_,av,bI.fresh oy,by simp[hl],by lia,λb hb=>?_⟩
  ·rw[aM gW];exact bD
  ·rw[aM tX];exact bB
  ·rw[aM tY];exact bQ
  ·rcases cR.mp hb with hb|hb
   ·exact hpl b hb
   ·rw[dO.mp hb];exact hps
 rintro σ S' ⟨as,i1,x7,x8,x9,rfl,Zj,Zk,aiW,aiX,Zl,hl,hi1,hpl⟩;rw[eL,j3]at hl;nofun;refine fv Zk hat ?_;nofun;have e:D.tup [.str "send",.str vt,.tup (as.map Sy.d)]=(Sy.send vt as).d:=by simp only[Sy.d,Sy.nF]
 rw[e];exact⟨sp,_,Zl.sub Zj,hq vt as _ ⟨by rw[hl];exact har,by lia,by lia,hpl⟩ hi1⟩
abbrev Zm:aK:=wI
theorem Zn{k:Nat}(h:aA K mg "_law_tame" og ["script","spot","most"])(G:Gs K mg)(eh:aq P w K mg base k "_law_next" ["script","spot"] qJ)(mD:aq P w K mg base k "_law_names" ["cell","many"] AB)
 (wJ:aq P w K mg base k "_law_tame_send" ["script","spot","names","counts","params"] J1) (ix:aq P w K mg base k "_law_arg" ["cell","params"] tQ):aq P w K mg base (k+1) "_law_tame" ["script","spot","most"] wI:=show _ by
 refine h.nD gU (by rintro ds S q ⟨_,_,_,_,_,e,_⟩;rw[e];rfl) λf cdv A outer s H E ds S q hr hA=>?_;obtain⟨ns,sp,i,most,rest,rfl,hsp,hi,m1,AJ,hq⟩:=hA;refine⟨_,(au (aN (i:=3) gU.nd rfl (Or.inr rfl) (aJ eh hr rfl (ae (aa 0) (ae (aa 1) ah))))
 (au (aN (i:=4) gU.nd rfl (Or.inl rfl) (aI jx gM aj (aI b_ aY (aa 3) (aa 2))))
 (au (aN (i:=5) gU.nd rfl (Or.inl rfl) (aJ mD hr rfl (ae (aI b_ aY (aI dn aY (aa 3) (aa 2)) (aI u3 aY aj aj)) (ae (aa 4) ah))))
 (au (aN (i:=6) gU.nd rfl (Or.inl rfl) (aJ mD hr rfl (ae (aI b_ aY (aJ eh hr rfl (ae (aa 0) (ae (aa 1) ah))) (aI u3 aY aj aj)) (ae aj ah))))
 (au (mv (i:=7) (cb:=ak og) (N:=["script","spot","most","head","many","names","params","counts","program","k","mine","shape","first","last"]) (M:=["head"]) (js:=[3]) ⟨rfl,by cbv,by cbv,by cbv,by cbv,by cbv⟩ (by cbv) (by cbv) rfl (ie rfl G.range (ae (aa 4) ah)) (λ_ _ _ _ _=>eO) (λ_ _ _ _ _=>(aI jx gM aj (aI b_ aY (aI dn aY (aa 1) (aI Eo aY aj (aI jx gM (aa 0) aj))) aj))) gU.nd rfl rfl)
 (au (aN (i:=8) gU.nd rfl (Or.inl rfl) (d6 ah))
 (au (eW ek rfl (ie rfl G.range (ae (aa 4) ah)) (dD (i:=9) gU.nd rfl (Or.inl rfl)) (au (aN (i:=10) gU.nd rfl (Or.inl rfl) (gq iM iR rfl G.tuple iG (ae (eE jy jD (aI yG zk (eE jy jD (aa 6) (d7 (aI b_ aY (aa 9) aj)) eK) (eE jy jD (aa 6) eK (d7 (aI b_ aY (aa 9) aj)))) eK (d7 (aD eJ eM (aa 7) (aa 9) (λ_ _=>rfl)))) ah)))
 (au (aN (i:=11) gU.nd rfl (Or.inl rfl) (aJ eh hr rfl (ae (aa 0) (ae (aa 1) ah))))
 (au (aN (i:=12) gU.nd rfl (Or.inl rfl) (aJ wJ hr rfl (ae (aa 0) (ae (aa 1) (ae (aa 5) (ae (aa 7) (ae (aa 10) ah)))))))
 (au (iW (bq bY dS (aI b_ aY (aa 11) aj) aj (bj _)) (ax (aN (i:=12) gU.nd rfl (Or.inl rfl) (bJ (ae bG (ae (aa 12) (ae (aJ wJ hr rfl (ae (aa 0) (ae (aa 1) (ae (aa 5) (ae (aa 7) (ae (aa 10) ah)))))) ah)))))) bV)
 (au (aN (i:=13) gU.nd rfl (Or.inl rfl) (aJ ix hr rfl (ae (aI dn aY (aa 11) aj) (ae (aa 10) ah))))
 (ax (b7 (dv cw dz dH dq dE (aa 8) (ae (bJ (ae (aD eJ eM (aa 5) (aa 9) (λ_ _=>rfl)) (ae (aa 10) (ae (bJ (ae bG (ae (bJ (ae bG (ae (aD aP aQ (aa 10) aj (λ_ _=>rfl)) ah))) (ae (aa 12) (ae (aa 13) ah))))) ah)))) ah))))))))))
 (ax (a_ (aa 8)))))))))),?_⟩
 nofun;refine⟨ns,sp,i,rest,rfl,hsp,hi,?_⟩;generalize cellAt ns i=head;have hm0:=hG head (show most≠0 by lia);have hm1:=uB head (show 0<most by lia);have Ze:(0:Int)<10^(rD 14):=by decide
 nofun;refine⟨_,_,rfl,hG _ (by decide),by lia,by lia,λnames Rn=>?_⟩;intro nm hnm;have n1:sp≠nm:=ne3 av hnm;nofun;refine⟨ns,sp,i+1,rest,rfl,az av hnm,by lia,?_⟩;generalize cellAt ns (i+1)=c2;nofun;refine⟨_,4,rfl,hG _ (by decide),by lia,by lia,λpp Rp=>?_⟩;intro pm hpm;nofun;generalize AK:1+head%most=many;have Zf:1<=many:=by lia
 have h12:many<=most:=by lia
 obtain⟨cnt,tV⟩:∃cnt:Nat->Nat,∀k:Nat,1+head/(7*(0+(k:Int)+1))%3=(cnt k:Int)/\1<=cnt k/\cnt k<=4:=⟨λk=>(1+head/(7*(0+(k:Int)+1))%3).toNat,λk=>by
  dsimp only;generalize head/(7*(0+(k:Int)+1))=x;lia⟩
 have bD:=az (o:=.lst (pp.map D.str)) (av (S:=up (up S sp (.lst (.int (i+1)::rest))) nm (.lst (names.map D.str))) (a:=sp) (o:=.lst (.int (i+1+1)::rest))) hpm;have bB:up (up (up (up S sp (.lst (.int (i+1)::rest))) nm (.lst (names.map D.str))) sp (.lst (.int (i+1+1)::rest))) pm (.lst (pp.map D.str)) nm=some (.lst (names.map D.str)) :=
  az (by rw[aM (bw n1)];exact av) hpm
 have bT:up (up (up (up S sp (.lst (.int (i+1)::rest))) nm (.lst (names.map D.str))) sp (.lst (.int (i+1+1)::rest))) pm (.lst (pp.map D.str)) pm=some (.lst (pp.map D.str)):=av;have bI:Px sp S (up (up (up (up S sp (.lst (.int (i+1)::rest))) nm (.lst (names.map D.str))) sp (.lst (.int (i+1+1)::rest))) pm (.lst (pp.map D.str))):=((Px.refl sp S).at.new hnm).at.new hpm;have tW:sp≠pm:=ne3 av hpm;generalize up (up (up (up S sp (.lst (.int (i+1)::rest))) nm (.lst (names.map D.str))) sp (.lst (.int (i+1+1)::rest))) pm (.lst (pp.map D.str))=S4 at bD bB bT bI ⊢;refine JF (λk=>.int (cnt k)) (by rw[eL];lia) (λ_ _=>trivial) ?_ ?_
 ·intro j d S' hd hs' P hP;obtain⟨hj,rfl⟩:=gL hd;nofun;rw[(tV j).1];exact hP _ (Sub.refl S')
 intro S5 kU;replace bD:=kU _ _ bD;replace bB:=kU _ _ bB;replace bT:=kU _ _ bT;replace bI:=bI.ext kU;rw[eL];obtain⟨counts,ou⟩:∃counts,counts=(ba many.toNat).map cnt:=⟨_,rfl⟩;have AL:((ba many.toNat).map λk=>D.int (cnt k:Int))=cD counts:=by rw[ou,cD,fe];rfl
 rw[AL];have hc4:∀c∈counts,1<=c/\c<=4:=λc hc=>by
  rw[ou]at hc;obtain⟨k,_,rfl⟩:=bM.mp hc;exact(tV k).2
 have jO:counts.length=many.toNat:=by rw[ou];simp
 intro ct hct;nofun;intro pr hpr;have hnl:=Rn.len;rw[AK]at Rn hnl;have ow:sp≠nm:=n1;have ox:sp≠ct:=ne3 bD hct;have gW:sp≠pr:=ne3 (az bD hct) hpr;have tX:nm≠pr:=ne3 (az bB hct) hpr;have AM:pm≠pr:=ne3 (az bT hct) hpr;have tY:ct≠pr:=ne3 av hpr;have oy:S pr=none:=(bI.new hct).free hpr (bw gW);replace bD:=az (o:=.lst []) (az (o:=.lst (cD counts)) bD hct) hpr;replace bB:=az (o:=.lst []) (az (o:=.lst (cD counts)) bB hct) hpr;replace bT:=az (o:=.lst []) (az (o:=.lst (cD counts)) bT hct) hpr;replace bI:=(bI.new (o:=.lst (cD counts)) hct).new (o:=.lst []) hpr;have bQ:up (up S5 ct (.lst (cD counts))) pr (.lst []) ct=some (.lst (cD counts)):=az av hpr;have bX:up (up S5 ct (.lst (cD counts))) pr (.lst []) pr=some (.lst []):=av;generalize up (up S5 ct (.lst (cD counts))) pr (.lst [])=S6 at bD bB bT bI bQ bX ⊢;nofun;refine⟨λj σ S'=>YN λ(cU:List Er) (i1:Int) (x10 x11 x12 AO t6:Option D)=>σ=[some (.bH (ns.map D.int)),some (.ref sp),some (.int most),some (.int head),some (.int many),some (.ref nm),some (.ref pm),some (.ref ct),some (.ref pr),x10,x11,x12,AO,t6] /\
  S' sp=some (.lst (.int i1::rest))/\S' nm=some (.lst (names.map D.str))/\S' pm=some (.lst (pp.map D.str))/\S' ct=some (.lst (cD counts))/\S' pr=some (.lst (cU.map Er.d))/\Px sp S S' /\
  cU.length=j/\0<=i1/\cU.map Er.name=names.take j/\(cU.map λe=>e.ps.length)=counts.take j/\(∀e∈cU,J0 (cP names counts) e),
  ⟨[],i+1+1,none,none,none,none,none,rfl,bD,bB,bT,bQ,bX,bI,rfl,by lia,rfl,rfl,by simp⟩,λ_ _ _ _=>trivial,?turn,?done⟩
 case turn =>
  clear bD bB bT bQ bX bI;rintro j d σ S' hd ⟨cU,i1,x10,x11,x12,AO,t6,rfl,bD,bB,bT,bQ,bX,bI,hl,hi1,en,ec,hk⟩;obtain⟨hj,rfl⟩:=gL hd;have c0:=hG (0+(j:Int)) (show(4:Int)≠0 by decide);have ap:∀{α:Type} {f:α->D} {xs:List α} {v:α},xs[j]?=some v->cy (xs.map f) (0+(j:Int))=some (f v):=λ{α f xs v} hv=>by
   have e:(0:Int)+(j:Int)=((j:Nat):Int):=by lia
   rw[e];refine eV ?_;rw[aS,hv];rfl
  obtain⟨cn,hcn⟩:∃cn,counts[j]?=some cn:=⟨_,bb (by lia)⟩;obtain⟨nj,tZ⟩:∃nj,names[j]?=some nj:=⟨_,bb (by lia)⟩;have AG:=hc4 cn (dg hcn);nofun;rw[pK c0];intro p1 hp1;have g1:=az (o:=.lst ((pp.map D.str).drop ((0+(j:Int))%4).toNat)) bT hp1;nofun;rw[pJ c0];intro p2 hp2;have hpl:=Rp.len;refine zr (az av hp2) av ?_ ?_
  ·rw[e_,dN,aB];exact fN (by lia)
  intro p3 hp3;nofun;refine fv (az (az (az bQ hp1) hp2) hp3) (ap hcn) ?_;nofun;rw[pJ (by lia),j3];intro p4 AN;nofun;obtain⟨mine,t5⟩:∃mine,mine=(pp.drop ((0+(j:Int))%4).toNat++pp.take ((0+(j:Int))%4).toNat).take cn:=⟨_,rfl⟩;have em:((pp.map D.str).drop ((0+(j:Int))%4).toNat++(pp.map D.str).take ((0+(j:Int))%4).toNat).take cn=mine.map D.str:=by
   rw[t5,<-D5,<-uJ,<-cF,<-uJ]
  rw[em];have hmo:mine.length=cn/\mine.Nodup/\∀x∈mine,ma x:=by
   rw[t5];exact HJ Rp.turn (by show cn<=4;lia)
  have hsub:=((((Sub.refl S').up (o:=.lst ((pp.map D.str).drop ((0+(j:Int))%4).toNat)) hp1).up (o:=.lst ((pp.map D.str).take ((0+(j:Int))%4).toNat)) hp2).up
   (o:=.lst ((pp.map D.str).drop ((0+(j:Int))%4).toNat++(pp.map D.str).take ((0+(j:Int))%4).toNat)) hp3).up (o:=.lst (mine.map D.str)) AN
  generalize up (up (up (up S' p1 _) p2 _) p3 _) p4 _=S5 at hsub ⊢;replace bD:=hsub _ _ bD;replace bB:=hsub _ _ bB;replace bT:=hsub _ _ bT;replace bQ:=hsub _ _ bQ;replace bX:=hsub _ _ bX;replace bI:=bI.ext hsub;obtain⟨q0,hq0⟩:∃q0,mine[0]?=some q0:=⟨_,bb (by lia)⟩;have hq0':cy (mine.map D.str) 0=some (.str q0):=eV (j:=0) (by rw[aS,hq0];rfl);have Zo:q0∈mine:=dg hq0;have snd:∀(T:af) (i2:Int) (Q:K3),T sp=some (.lst (.int i2::rest))->T nm=some (.lst (names.map D.str))->T ct=some (.lst (cD counts))->0<=i2 ->
   (∀(x:Str) (as:List Sy) (i3:Int),oo (cP names counts) mine x as->0<=i3->Q (Sy.send x as).d (up T sp (.lst (.int i3::rest)))) ->
   J1 [.bH (ns.map D.int),.ref sp,.ref nm,.ref ct,.tup (mine.map D.str)] T Q (λ_ _ _=>False):=λT i2 Q h1 h2 h3 h4 h5 =>
   ⟨ns,sp,nm,ct,i2,rest,names,mine,counts,rfl,h1,h2,h3,ow,ox,h4,by lia,by lia,by lia,Rn.nd,by lia,hc4,λx as i3 ho jP=>h5 x as i3 ho jP⟩
  nofun;refine⟨ns,sp,i1,rest,rfl,bD,hi1,?_⟩;generalize cellAt ns i1=shape;replace bB:up S5 sp (.lst (.int (i1+1)::rest)) nm=_:=(aM (bw ow)).trans bB;replace bQ:up S5 sp (.lst (.int (i1+1)::rest)) ct=_:=(aM (bw ox)).trans bQ;replace bT:up S5 sp (.lst (.int (i1+1)::rest)) pm=_:=(aM (bw tW)).trans bT;replace bX:up S5 sp (.lst (.int (i1+1)::rest)) pr=_:=(aM (bw gW)).trans bX;replace bI:=bI.at (o:=.lst (.int (i1+1)::rest));replace bD:up S5 sp (.lst (.int (i1+1)::rest)) sp=_:=av;generalize up S5 sp (.lst (.int (i1+1)::rest))=S7 at bD bB bT bQ bX bI ⊢;nofun;refine snd _ (i1+1) _ bD bB bQ (by lia) λx as i3 ho jP=>?_;replace bB:up S7 sp (.lst (.int i3::rest)) nm=_:=(aM (bw ow)).trans bB;replace bQ:up S7 sp (.lst (.int i3::rest)) ct=_:=(aM (bw ox)).trans bQ;replace bT:up S7 sp (.lst (.int i3::rest)) pm=_:=(aM (bw tW)).trans bT;replace bX:up S7 sp (.lst (.int i3::rest)) pr=_:=(aM (bw gW)).trans bX;replace bI:=bI.at (o:=.lst (.int i3::rest));replace bD:up S7 sp (.lst (.int i3::rest)) sp=_:=av;generalize up S7 sp (.lst (.int i3::rest))=S8 at bD bB bT bQ bX bI ⊢;have hb1:=ho.bd;nofun;refine ip (λσ T=>oj λ(s:Sy) (i4:Int) (t6:Option D)=>σ=[some (.bH (ns.map D.int)),some (.ref sp),some (.int most),some (.int head),some (.int many),some (.ref nm),some (.ref pm),some (.ref ct),some (.ref pr),some (.int (0+(j:Int))),some (.tup (mine.map D.str)),some (.int shape),some s.d,t6] /\
   T sp=some (.lst (.int i4::rest))/\T nm=some (.lst (names.map D.str))/\T pm=some (.lst (pp.map D.str))/\T ct=some (.lst (cD counts))/\T pr=some (.lst (cU.map Er.d))/\Px sp S T/\0<=i4/\Bd (cP names counts) mine 7 2 251 s) ?_ ?_
  ·intro n' hn';by_cases hs1:shape%3=1
   ·nofun;refine snd _ i3 _ bD bB bQ jP λx2 as2 i4 ho2 AQ=>?_;nofun;refine hn' _ _ ⟨.pair (.send x as) (.send x2 as2),i4,_,rfl,av,(aM (bw ow)).trans bB,(aM (bw tW)).trans bT,(aM (bw ox)).trans bQ,(aM (bw gW)).trans bX,bI.at,AQ,hb1.pair ho2.bd⟩
   ·nofun;exact hn' _ _ ⟨.send x as,i3,_,rfl,bD,bB,bT,bQ,bX,bI,jP,hb1.mono (by decide) (by decide) (by decide)⟩
  clear bD bB bT bQ bX bI;rintro σ T ⟨s1,i4,y14,rfl,bD,bB,bT,bQ,bX,bI,AQ,hbs⟩;nofun;refine⟨_,mine,rfl,by lia,by lia,λt ht=>?_⟩;nofun;refine fv bB (ap tZ) ?_;nofun;refine l_ hq0' ?_;nofun;refine cL bX (by rw[aB];exact cT (by lia)) ?_;obtain⟨s,hs⟩:∃s,s=Sy.fork (.name q0) s1 t:=⟨_,rfl⟩;have hbd:Bd (cP names counts) mine 12 6 1500 s:=by
   rw[hs];have h1:Bd (cP names counts) mine 7 0 2 (.name q0):=(mC Zo).bd.mono (by decide) (by decide) (by decide);have h3:Bd (cP names counts) mine 7 0 32 t:=ht.bd.mono (by decide) (by decide) (by decide);exact(h1.fork hbs h3).mono (by decide) (by decide) (by decide)
  have ee:cU.map Er.d++[D.tup [D.str nj,D.tup (mine.map D.str),D.tup [.str "fork",.tup [.str "name",.str q0],s1.d,t.d]]]=(cU++[(⟨nj,mine,s⟩:Er)]).map Er.d:=by rw[hs];simp[Er.d,Sy.d]
  rw[ee];refine⟨cU++[(⟨nj,mine,s⟩:Er)],i4,_,_,_,_,_,rfl,?_,?_,?_,?_,av,bI.fresh oy,by simp[hl],AQ,?_,?_,?_⟩
  ·rw[aM gW];exact bD
  ·rw[aM tX];exact bB
  ·rw[aM AM];exact bT
  ·rw[aM tY];exact bQ
  ·rw[gB,tZ,cF,en];rfl
  ·rw[gB,hcn,cF,ec];show counts.take j++[mine.length]=_;rw[hmo.1];rfl
  ·intro e he;rcases cR.mp he with he|he
   ·exact hk e he
   ·rw[dO.mp he];exact⟨by show 1<=mine.length;lia,by show mine.length<=4;lia,hmo.2.1,hmo.2.2,hbd⟩
 rintro σ S' ⟨cU,i1,x10,x11,x12,AO,t6,rfl,bD,bB,bT,bQ,bX,bI,hl,hi1,en,ec,hk⟩;rw[eL]at hl en ec;rw[j8 (by lia)]at en ec;nofun;refine⟨pr,_,sp,_,rfl,oy,by rw[hsp];simp,bI.sub bD,bX,hq cU i1 ⟨by lia,by lia,?_,λe he=>?_,λe he=>?_,λe he=>?_⟩ (by lia) hi1⟩
 ·rw[en];exact Rn.nd
 ·exact Rn.ok _ (by rw[<-en];exact j9 he)
 ·exact⟨(hk e he).l1,(hk e he).l4,(hk e he).nd,(hk e he).ok⟩
 ·rw[HI en ec];exact(hk e he).bd.mono (by decide) (by decide) (by decide)
inductive Zp (ds:List D)(S:af)(q:List D->Addr->O->Prop):Prop where
 |mk (ns:List Int) (sp:Addr) (i way most:Int) (rest:List D) (_:ds=[.bH (ns.map D.int),.ref sp,.int way,.int most]) (_:S sp=some (.lst (.int i::rest))) (_:0<=i) (_:1<=most) (_:most<=12) (_:∀(prog:List Er) (i2:Int),Pg prog->prog.length<=most.toNat->0<=i2->q (prog.map Er.d) sp (.lst (.int i2::rest)))
def J3 :aK:=nD Zp
theorem Zq{k:Nat}(h:aA K mg "_law_any" qw ["script","spot","way","most"])(AR:aq P w K mg base k "_law_tame" ["script","spot","most"] Zm)(AS:aq P w K mg base k "_law_program" ["script","spot","most"] wI) :
 aq P w K mg base (k+1) "_law_any" ["script","spot","way","most"] J3:=show _ by
 refine h.nD YJ (by rintro ds S q ⟨_,_,_,_,_,_,e,_⟩;rw[e];rfl) λf cdv A outer s H E ds S q hr hA=>?_;obtain⟨ns,sp,i,way,most,rest,rfl,hsp,hi,m1,AJ,hq⟩:=hA;refine⟨_,(au (bS (bq bY dS (aa 2) aj (bj _)) (ax (a_ (aJ AR hr rfl (ae (aa 0) (ae (aa 1) (ae (aa 3) ah)))))) bV)
 (ax (a_ (aJ AS hr rfl (ae (aa 0) (ae (aa 1) (ae (aa 3) ah))))))),?_⟩
 by_cases hw:way=0
 all_goals
  nofun;refine⟨ns,sp,i,most,rest,rfl,hsp,hi,m1,AJ,λprog i2 hg hl hi2=>?_⟩;intro pr hpr;nofun;exact⟨pr,_,sp,_,rfl,hpr,by rw[hsp];simp,(Sub.refl _).up (by rw[aM (ne3 hsp hpr).symm];exact hpr),av,hq prog i2 hg hl hi2⟩
inductive jb:D->List D->Prop
 |name (x:Str):jb (.tup [.str "name",.str x]) []
 |aX:jb (.tup [.str "bud"]) []
 |pair (a b:D):jb (.tup [.str "pair",a,b]) [a,b]
 |left (a:D):jb (.tup [.str "left",a]) [a]
 |right (a:D):jb (.tup [.str "right",a]) [a]
 |fork (a b c:D):jb (.tup [.str "fork",a,b,c]) [a,b,c]
 |send (x:Str) (is r:List D):jb (.tup (.str "send"::.str x::.tup is::r)) is
theorem jb.of:∀s:Sy,jb s.d (s.parts.map Sy.d)
 | .name x=>.name x
 | .aX=>.aX
 | .pair a b=>.pair _ _
 | .left a=>.left _
 | .right a=>.right _
 | .fork a b c=>.fork _ _ _
 | .send x as=>by rw[Sy.d,Sy.nF];exact .send x _ []
inductive Zr (ds:List D)(q:D->Prop):Prop where
 |mk (s:_) (ps:_) (_:ds=[s]) (_:jb s ps) (_:q (.tup ps))
def AU :aK:=vS Zr
inductive Zs (ds:List D)(q:D->Prop):Prop where
 |mk (s:Sy) (_:ds=[s.d]) (_:q (.tup (s.parts.map Sy.d)))
def wK :aK:=vS Zs
theorem Zu{k:Nat}(h:aA K mg "parts" pX ["saying"])(G:Gs K mg):aq P w K mg base (k+1) "parts" ["saying"] AU:=show _ by
 refine h.val Yp (by rintro ds q ⟨s,ps,e,_⟩;rw[e];rfl) λf cdv A outer s0 H E ds q hr hA=>?_;obtain⟨s,ps,rfl,hp,hq⟩:=hA;refine⟨_,(au (bS (bq yF sR (aD aP aQ (aa 0) aj (λ_ _=>rfl)) (bJ (ae bG (ae bG ah))) (by with_unfolding_all rfl)) (ax (a_ (bJ ah))) bV)
 (au (bS (bq bY ft (aD aP aQ (aa 0) aj (λ_ _=>rfl)) bG (bj _)) (ax (a_ (aD aP aQ (aa 0) aj (λ_ _=>rfl)))) bV)
 (ax (a_ (eE vJ vK (aa 0) (d7 aj) eK))))),?_⟩
 cases hp<;>(nofun;exact hq)
theorem AV{k:Nat}(C:aq P w K mg base k "parts" ["saying"] AU):aq P w K mg base k "parts" ["saying"] wK:=C.imp λ_ _ _ _ ⟨s,e,q⟩=>⟨s.d,_,e,jb.of s,q⟩
inductive Zv (ds:List D)(q:List D->Prop):Prop where
 |mk (s:Sy) (_:ds=[s.d]) (_:s.pre.length<=100000) (_:q (s.pre.map Sy.d))
def AW :aK:=sT Zv
theorem Zw{k:Nat}(h:aA K mg "in_order" pW ["body"])(G:Gs K mg)(oA:aq P w K mg base k "parts" ["saying"] wK):aq P w K mg base (k+1) "in_order" ["body"] AW:=show _ by
 refine h.lst tK (by rintro ds q ⟨s,e,_⟩;rw[e];rfl) λf cdv A outer s0 H E ds q hr hA=>?_;obtain⟨s,rfl,hz,hq⟩:=hA;refine⟨_,(au (aN (i:=1) tK.nd rfl (Or.inl rfl) (d6 ah))
 (au (aN (i:=2) tK.nd rfl (Or.inl rfl) (d6 (ae (aa 0) ah)))
 (au (nv ek (sH (aa 2) (λ_=>rfl)) (au (aN (i:=3) tK.nd rfl (Or.inl rfl) (iQ cw jj j_ jA jE (aa 2)))
 (au (b7 (dv cw dz dH dq dE (aa 1) (ae (aa 3) ah)))
 (ax (eW ek rfl (Gv rfl G.wF (ae (aJ oA hr rfl (ae (aa 3) ah)) ah)) (dD (i:=4) tK.nd rfl (Or.inl rfl)) (ax (b7 (dv cw dz dH dq dE (aa 2) (ae (aa 4) ah)))))))))
 (ax (a_ (aa 1)))))),?_⟩
 nofun;intro pf hpf;nofun;intro pe hpe;have hne:pf≠pe:=ne3 av hpe;nofun;refine nB (λm σ S=>jN λ(fs ps:List Sy) (x3 x4:Option D)=>σ=[some s.d,some (.ref pf),some (.ref pe),x3,x4]/\S pf=some (.lst (fs.map Sy.d))/\S pe=some (.lst (ps.map Sy.d))/\fs++Sy.aZ ps.reverse=s.pre/\m=(Sy.aZ ps.reverse).length)
  _ ⟨[],[s],none,none,rfl,az av hpe,av,by simp[Sy.aZ],rfl⟩ ?_
 rintro m σ S ⟨fs,ps,x3,x4,rfl,hf,he,hfs,rfl⟩;nofun;rcases snoc_cases ps with rfl|⟨ps',s',rfl⟩
 ·refine o7 ?_;nofun;refine⟨pf,_,rfl,hf,?_⟩;have e:fs=s.pre:=by simpa[Sy.aZ]using hfs
  rw[e];exact hq
 ·have eb:(!((ps'++[s']).map Sy.d).isEmpty)=true:=by simp
  rw[eb];refine lW ?_;have hlen:=congrArg j0 hfs;rw[aU]at hlen;have er:(ps'++[s']).reverse=s'::ps'.reverse:=by simp
  rw[er,Sy.aZ,Sy.pM]at hfs hlen;simp only[aU,bC]at hlen;have he':S pe=some (.lst (ps'.map Sy.d++[s'.d])):=by rw[he];simp
  nofun;refine ig he' ?_;nofun;have hf1:up S pe (.lst (ps'.map Sy.d)) pf=some (.lst (fs.map Sy.d)):=by rw[aM hne];exact hf
  refine zp hf1 ?_;nofun;refine cL hf1 (by rw[aB];exact cT (by lia)) ?_;nofun;refine⟨s',rfl,?_⟩;nofun;refine⟨λi σ S'=>∃x4,σ=[some s.d,some (.ref pf),some (.ref pe),some s'.d,x4]/\S' pf=some (.lst ((fs++[s']).map Sy.d))/\S' pe=some (.lst (ps'.map Sy.d++((s'.parts.map Sy.d).reverse).take i)),
   ⟨x4,rfl,by rw[av];simp,?_⟩,λ_ _ _ _=>trivial,?_,?_⟩
  ·rw[aM (bw hne),av];simp
  ·rintro i d σ S' hd ⟨y4,rfl,g1,g2⟩;have hi:=(cu.mp hd).1;rw[jk,aB]at hi;have hpl:s'.parts.length<=(Sy.aZ s'.parts).length:=by
    generalize s'.parts=l
    induction l with
    |nil=>simp
    |cons a r ih=>rw[Sy.aZ,Sy.pM];simp;lia
   nofun;refine cL g2 ?_ ?_
   ·rw[aU,dN,jk,aB,aB];have:ps'.length<=(Sy.aZ ps'.reverse).length:=by
     have:∀l:List Sy,l.length<=(Sy.aZ l).length:=λl=>by
      induction l with
      |nil=>simp
      |cons a r ih=>rw[Sy.aZ,Sy.pM];simp;lia
     have:=this ps'.reverse;simpa using this
    exact cT (by lia)
   refine⟨_,rfl,by rw[aM hne];exact g1,?_⟩;rw[av,gB,hd,iF];rfl
  ·rintro σ S' ⟨y4,rfl,g1,g2⟩;refine⟨_,?_,fs++[s'],ps'++s'.parts.reverse,_,_,rfl,g1,?_,?_,rfl⟩
   ·simp only[rF,NP,lJ,List.reverse_nil,mT,List.singleton_append,Sy.sZ,Sy.aZ,Sy.pM s',aU,bC,cE];lia
   ·rw[g2,j8 (by simp),cF,D6]
   ·rw[<-hfs];simp[Sy.sZ]
inductive Zx (ds:List D)(S:af)(q:D->Prop):Prop where
 |mk (x:Str) (y:D) (_:ds=[.str x,y]) (_:((∃xs:List Str,(y=.tup (xs.map D.str)∨∃a,y=.ref a/\S a=some (.lst (xs.map D.str)))/\x∈xs)∨∃a kvs,y=.ref a/\S a=some (.bp kvs)/\(cm kvs (.inr x)).isSome=true)) (_:q .non)
def AX :aK:=ij Zx
theorem J4{k:Nat}(h:aA K mg "refuse_missing" pY ["name","known"]):aq P w K mg base (k+1) "refuse_missing" ["name","known"] AX:=show _ by
 refine h.ij Yq (by rintro ds S q ⟨x,y,e,_⟩;rw[e];rfl) λf cdv A outer s0 H E ds S q hr hA=>?_;obtain⟨x,y,rfl,hy,hq⟩:=hA;have hu:=o6 hr;refine⟨_,(ax (bS (X9 hu (aa 0) (aa 1)) (ax Gh) bV)),?_⟩;rcases hy with⟨xs,rfl|⟨a,rfl,ha⟩,hx⟩|⟨a,kvs,rfl,ha,hv⟩
 ·nofun;refine Aq ?_;nofun;refine Ya ?_;rw[decide_eq_true hx];nofun;exact⟨Sub.refl _,hq⟩
 ·nofun;refine Aq ?_;nofun;refine Yb ha ?_;rw[decide_eq_true hx];nofun;exact⟨Sub.refl _,hq⟩
 ·nofun;refine Aq ?_;nofun;refine X' ha ?_;rw[hv];nofun;exact⟨Sub.refl _,hq⟩
inductive Zy (ds:List D)(S:af)(q:D->Prop):Prop where
 |mk (x:Str) (a:Addr) (xs:List D) (_:ds=[.str x,.ref a,.int (xs.length:Int)]) (_:S a=some (.lst xs)) (_:q .non)
def J5 :aK:=ij Zy
theorem Zz{k:Nat}(h:aA K mg "refuse_miscounted" pZ ["name","row","needed"])(G:Gs K mg):aq P w K mg base (k+1) "refuse_miscounted" ["name","row","needed"] J5:=show _ by
 refine h.ij JJ (by rintro ds S q ⟨x,a,xs,e,_⟩;rw[e];rfl) λf cdv A outer s0 H E ds S q hr hA=>?_;obtain⟨x,a,xs,rfl,hS,hq⟩:=hA;refine⟨_,(au (aN (i:=3) JJ.nd rfl (Or.inl rfl) (dJ fj fu rfl G.len fg (ae (aa 1) ah)))
 (ax (bS (bq u5 Su (aa 3) (aa 2) (bj _)) (ax Gh) bV))),?_⟩
 nofun;exact⟨Sub.refl _,hq⟩
inductive ZC (ds:List D)(q:D->Prop):Prop where
 |mk (t:ay) (_:ds=[t.d]) (_:t.size<=1000) (_:q (.int t.size))
def J6 :aK:=vS ZC
theorem ZD{k:Nat}(h:aA K mg "size" qh ["tree"])(G:Gs K mg):aq P w K mg base (k+1) "size" ["tree"] J6:=show _ by
 refine h.val tM (by rintro ds q ⟨t,e,_⟩;rw[e];rfl) λf cdv A outer s0 H E ds q hr hA=>?_;obtain⟨t,rfl,hz,hq⟩:=hA;refine⟨_,(au (aN (i:=1) tM.nd rfl (Or.inl rfl) aj)
 (au (aN (i:=2) tM.nd rfl (Or.inl rfl) (d6 (ae (aa 0) ah)))
 (au (nv ek (sH (aa 2) (λ_=>rfl)) (au (aN (i:=3) tM.nd rfl (Or.inl rfl) (iQ cw jj j_ jA jE (aa 2)))
 (ax (bS (bq PM Ss (aa 3) fX (bj _)) (au (vG (i:=1) tM.nd rfl (Or.inl rfl) aj yo)
 (ax (b7 (dv cw M8 PySem.F.type_list_extend Ry Sw (aa 2) (ae (aa 3) ah))))) bV))))
 (ax (a_ (aa 1)))))),?_⟩
 nofun;intro p hp;nofun;refine nB (λm σ S=>oj λ(n:Int) (ts:List ay) (x3:Option D)=>σ=[some t.d,some (.int n),some (.ref p),x3]/\S p=some (.lst (ts.map ay.d))/\n+sizes ts=t.size/\m=2*sizes ts+ts.length/\m<=2*t.size+1) (2*t.size+1)
  ⟨0,[t],none,rfl,av,by simp[sizes],by simp[sizes],aV _⟩ ?_
 rintro m σ S ⟨n,ts,x3,rfl,hl,hk,hm,hmb⟩;nofun;rcases snoc_cases ts with rfl|⟨ts,t',rfl⟩
 ·nofun;have e:n=t.size:=by simpa[sizes]using hk
  rw[e];exact hq
 ·have eb:(!((ts++[t']).map ay.d).isEmpty)=true:=by simp
  rw[eb];refine lW ?_;rw[m9]at hk hm;simp only[sizes,aU,bC,cE]at hk hm;rw[cF]at hl;nofun;refine ig hl ?_;have hp1:up S p (.lst (ts.map ay.d)) p=some (.lst (ts.map ay.d)):=av;generalize up S p (.lst (ts.map ay.d))=S1 at hp1 ⊢;nofun;cases t' with
  |aX =>
   refine zI rfl ?_;simp only[ay.size]at hk hm;nofun;exact⟨_,by lia,n,ts,_,rfl,hp1,by lia,rfl,by lia⟩
  |pair l r =>
   refine zG rfl ?_;simp only[ay.size]at hk hm;have e:(ay.pair l r).d=.tup [l.d,r.d]:=rfl;rw[e];nofun;refine TL hp1 ?_ ?_
   ·rw[aB];exact fN (by simp only[bC,cE];lia)
   nofun;refine⟨_,?_,n+1,ts++[l]++[r],_,rfl,?_,?_,rfl,?_⟩
   ·rw[m9,m9];simp only[sizes,aU,bC,cE];lia
   ·rw[av,cF,cF,iF];rfl
   ·rw[m9,m9];simp only[sizes];lia
   ·rw[m9,m9];simp only[sizes,aU,bC,cE];lia
def Sy.AY:Sy->Bool
 | .send _ _=>true
 |_=>false
def mE(xs:List Sy):Int:=((xs.filter Sy.AY).length:Nat)
inductive ZE (ds:List D)(S:af)(q:D->Prop):Prop where
 |mk (po:Addr) (xs:List Sy) (_:ds=[.ref po]) (_:S po=some (.lst (xs.map Sy.d))) (_:xs.length<=100000) (_:q (.int (mE xs)))
def AZ :aK:=ij ZE
theorem ZF{k:Nat}(h:aA K mg "count_sends" nZ ["order"])(G:Gs K mg):aq P w K mg base (k+1) "count_sends" ["order"] AZ:=show _ by
 refine h.ij YD (by rintro ds S q ⟨po,xs,e,_⟩;rw[e];rfl) λf cdv A outer s0 H E ds S q hr hA=>?_;obtain⟨po,xs,rfl,hS,hz,hq⟩:=hA;refine⟨_,(ax (a_ (dJ fj fu rfl G.len fg (ae (i8 (cb:=ak nZ) (N:=["order"]) (M:=[]) (js:=[]) ⟨rfl,by cbv,by cbv,by cbv,by cbv,by cbv⟩ (by cbv) (by cbv) rfl (fY (aa 0)) (λ_ _ _ _ _=>(HP (bq bY ft (aD aP aQ (aa 0) aj (λ_ _=>rfl)) bG (bj _)))) (λ_ _ _ _ _=>(aa 0))) ah)))),?_⟩;nofun;refine⟨λi ys S'=>S'=S/\ys=((xs.take i).filter Sy.AY).map Sy.d,⟨rfl,rfl⟩,?_,?_,?_⟩
 ·rintro i ys S' ⟨rfl,rfl⟩;refine⟨hS,?_⟩;rw[aB];have:=xV Sy.AY (xs.take i);have:(xs.take i).length<=xs.length:=by rw[dN];lia
  exact cT (by lia)
 ·rintro i d ys S' hd ⟨rfl,rfl⟩;rw[aS]at hd;obtain⟨s,hs,rfl⟩:=dA.mp hd;have htk:xs.take (i+1)=xs.take i++[s]:=by rw[gB,hs];rfl
  refine⟨_,rfl,?_⟩;cases s<;>(simp only[Sy.d];nofun;exact⟨rfl,by rw[htk,oR,cF];first|rfl|exact(f_ _).symm⟩)
 ·rintro ys S' ⟨rfl,rfl⟩;rw[aB,lD];intro p hp;nofun;rw[aB];exact⟨(Sub.refl _).up hp,hq⟩
def iy:List D×Int->Sy->Option (List D×Int)
 |(st,l),.name x=>some (.tup [.str "name",.str x]::st,l)
 |(st,l),.aX=>some (.tup [.str "bud"]::st,l)
 |(a::b::st,l),.pair _ _=>some (.tup [.str "pair",a,b]::st,l)
 |(a::st,l),.left _=>some (.tup [.str "left",a]::st,l)
 |(a::st,l),.right _=>some (.tup [.str "right",a]::st,l)
 |(a::b::c::st,l),.fork _ _ _=>some (.tup [.str "fork",a,b,c]::st,l)
 |(st,l),.send x as=>if as.length<=st.length then some (.tup [.str "send",.str x,.tup (st.take as.length),.int (l-1)]::st.drop as.length,l-1) else none
 |_,_=>none
def dX:List D×Int->List Sy->Option (List D×Int)
 |a,[]=>some a
 |a,s::r=>match iy a s with
  |some b=>dX b r
  |none=>none
inductive ZG (ds:List D)(S:af)(q:D->Prop):Prop where
 |mk (po:Addr) (xs:List Sy) (n:Int) (d:D) (st:List D) (l:Int) (_:ds=[.ref po,.int n]) (_:S po=some (.lst (xs.map Sy.d))) (_:xs.length<=100000) (_:dX ([],n+mE xs) xs.reverse=some (d::st,l)) (_:q d)
def J7 :aK:=ij ZG
theorem ZH{k:Nat}(h:aA K mg "numbered" n6 ["order","number"])(G:Gs K mg)(qL:aq P w K mg base k "count_sends" ["order"] AZ)(oA:aq P w K mg base k "parts" ["saying"] wK):aq P w K mg base (k+1) "numbered" ["order","number"] J7:=show _ by
 refine h.ij ql (by rintro ds S q ⟨po,xs,n,d,st,l,e,_⟩;rw[e];rfl) λf cdv A outer s0 H E ds S q hr hA=>?_;obtain⟨po,xs,n,d,st,l,rfl,hS,hz,hf,hq⟩:=hA;refine⟨_,(au (aN (i:=2) ql.nd rfl (Or.inr rfl) (d6 ah))
 (au (aN (i:=3) ql.nd rfl (Or.inl rfl) (aI jx gM (aa 1) (aJ qL hr rfl (ae (aa 0) ah))))
 (au (eW ek rfl (Io rfl G.wF (ae (aa 0) ah)) (dD (i:=4) ql.nd rfl (Or.inl rfl)) (au (aN (i:=5) ql.nd rfl (Or.inl rfl) (gq iM iR rfl G.tuple iG (ae (i8 (cb:=ak n6) (N:=["order","number","done","later","saying","inner"]) (M:=["done"]) (js:=[2]) ⟨rfl,by cbv,by cbv,by cbv,by cbv,by cbv⟩ (by cbv) (by cbv) rfl (pw (aJ oA hr rfl (ae (aa 4) ah))) (λ_ _ _ _ _=>eO) (λ_ _ _ _ _=>(iQ cw jj j_ jA jE (aa 1)))) ah)))
 (ax (bS (bq bY ft (aD aP aQ (aa 4) aj (λ_ _=>rfl)) bG (bj _)) (au (vG (i:=3) ql.nd rfl (Or.inl rfl) aj Pj)
 (ax (b7 (dv cw dz dH dq dE (aa 2) (ae (bJ (ae bG (ae (aD aP aQ (aa 4) aj (λ_ _=>rfl)) (ae (aa 5) (ae (aa 3) ah))))) ah))))) (ax (bS (bq bY ft (aD aP aQ (aa 4) aj (λ_ _=>rfl)) bG (bj _)) (ax (b7 (dv cw dz dH dq dE (aa 2) (ae (aa 4) ah)))) (ax (b7 (dv cw dz dH dq dE (aa 2) (ae (aI Ad Ae (bJ (ae (aD aP aQ (aa 4) aj (λ_ _=>rfl)) ah)) (aa 5)) ah))))))))))
 (ax (a_ (iQ cw jj j_ jA jE (aa 2))))))),?_⟩
 nofun;intro pd hpd;have hS1:=az (o:=.lst []) hS hpd;nofun;refine⟨po,xs,rfl,hS1,hz,?_⟩;nofun;refine⟨λi σ S'=>jN λ(us:List D) (m:Int) (x4 x5:Option D)=>σ=[some (.ref po),some (.int n),some (.ref pd),some (.int m),x4,x5]/\Sub S S'/\S' pd=some (.lst us.reverse)/\us.length<=i/\dX (us,m) (xs.reverse.drop i)=some (d::st,l),
  ⟨[],_,none,none,rfl,(Sub.refl S).up hpd,av,b8 _,hf⟩,λi σ S' ⟨_,_,_,_,_,h1,_⟩=>h1 _ _ hS,?_,?_⟩
 ·rintro i s' σ S' hd ⟨us,m,x4,x5,rfl,g1,g2,gl,gf⟩;rw[<-D6,aS]at hd;obtain⟨s,hs,rfl⟩:=dA.mp hd;have hi:i<100000:=by
   have:=(cu.mp hs).1;rw[jk]at this;lia
  have hdr:xs.reverse.drop i=s::xs.reverse.drop (i+1):=by
   rw[x_ (cu.mp hs).1];rw[(cu.mp hs).2]
  rw[hdr,dX]at gf;cases hst:iy (us,m) s with
  |none=>rw[hst]at gf;cases gf
  |some r =>
  rw[hst]at gf;have gf:dX r (xs.reverse.drop (i+1))=some (d::st,l):=gf;obtain⟨us',m'⟩:=r;have hpl:s.parts.length<=us.length:=by
   cases s with
   |name x=>exact b8 _
   |aX=>exact b8 _
   |pair a b =>
    match us,hst with
    |_::_::_,_=>simp[Sy.parts]
   |send x as =>
    simp only[iy]at hst;by_cases hc:as.length<=us.length
    ·exact hc
    ·rw[if_neg hc]at hst;cases hst
   |left a =>
    match us,hst with
    |_::_,_=>simp[Sy.parts]
   |right a =>
    match us,hst with
    |_::_,_=>simp[Sy.parts]
   |fork a b c =>
    match us,hst with
    |_::_::_::_,_=>simp[Sy.parts]
  nofun;refine⟨s,rfl,?_⟩;nofun;refine⟨λj ys S2=>ys=us.take j/\j<=s.parts.length/\Sub S S2/\S2 pd=some (.lst (us.drop j).reverse),⟨rfl,b8 _,g1,g2⟩,?_,?_,?_⟩
  ·rintro j ys S2 ⟨rfl,hj,_,_⟩;refine⟨trivial,?_⟩;have:=List.length_take_le j us;exact cT (by lia)
  ·rintro j e ys S2 he ⟨rfl,hj,k1,k2⟩;have hj':=(cu.mp he).1;rw[aB]at hj';have J8:j<us.length:=by lia
   have ed:us.drop j=us[j]::us.drop (j+1):=x_ J8;rw[ed,lJ]at k2;refine wo (wq ?_);rw[if_pos rfl];nofun;refine ig k2 ⟨?_,by lia,k1.at (Sub.free (Sub.refl S) hpd),av⟩;rw[gB,bb J8];rfl
  rintro ys S2 ⟨rfl,-,k1,k2⟩;rw[aB]at k2 ⊢;intro pn hpn;have k3:=az (o:=.lst (us.take s.parts.length)) k2 hpn;have k4:Sub S (up S2 pn (.lst (us.take s.parts.length))):=k1.up hpn;nofun;generalize up S2 pn (.lst (us.take s.parts.length))=S3 at k3 k4 ⊢;have fin:∀u:D,us'=u::us.drop s.parts.length->Sub S (up S3 pd (.lst ((us.drop s.parts.length).reverse++[u])))/\up S3 pd (.lst ((us.drop s.parts.length).reverse++[u])) pd=some (.lst us'.reverse)/\us'.length<=i+1:=by
   intro u hu;refine⟨k4.at hpd,?_,?_⟩
   ·rw[av,hu];simp
   ·rw[hu,bC,e_];lia
  have hsm:((us.drop s.parts.length).reverse).length<sizeLine:=by
   rw[jk,e_];exact cT (by lia)
  cases s with
  |name x =>
   cases hst;simp only[Sy.d];nofun;refine cL k3 hsm ?_;nofun;obtain⟨z1,z2,z3⟩:=fin _ rfl;exact⟨_,_,_,_,rfl,z1,z2,z3,gf⟩
  |aX =>
   cases hst;simp only[Sy.d];nofun;refine cL k3 hsm ?_;nofun;obtain⟨z1,z2,z3⟩:=fin _ rfl;exact⟨_,_,_,_,rfl,z1,z2,z3,gf⟩
  |pair a b =>
   obtain⟨a',b',u2,rfl⟩:∃a' b' u2,us=a'::b'::u2:=by
    match us,hst with
    |a'::b'::u2,_=>exact⟨a',b',u2,rfl⟩
   cases hst;simp only[Sy.d];nofun;refine cL k3 hsm ?_;nofun;obtain⟨z1,z2,z3⟩:=fin _ rfl;exact⟨_,_,_,_,rfl,z1,z2,z3,gf⟩
  |send x as =>
   have hc:as.length<=us.length:=hpl;simp only[iy]at hst;rw[if_pos hc]at hst;cases hst;simp only[Sy.d];nofun;refine cL k3 hsm ?_;nofun;obtain⟨z1,z2,z3⟩:=fin _ rfl;exact⟨_,_,_,_,rfl,z1,z2,z3,gf⟩
  |left a =>
   obtain⟨a',u2,rfl⟩:∃a' u2,us=a'::u2:=by
    match us,hst with
    |a'::u2,_=>exact⟨a',u2,rfl⟩
   cases hst;simp only[Sy.d];nofun;refine cL k3 hsm ?_;nofun;obtain⟨z1,z2,z3⟩:=fin _ rfl;exact⟨_,_,_,_,rfl,z1,z2,z3,gf⟩
  |right a =>
   obtain⟨a',u2,rfl⟩:∃a' u2,us=a'::u2:=by
    match us,hst with
    |a'::u2,_=>exact⟨a',u2,rfl⟩
   cases hst;simp only[Sy.d];nofun;refine cL k3 hsm ?_;nofun;obtain⟨z1,z2,z3⟩:=fin _ rfl;exact⟨_,_,_,_,rfl,z1,z2,z3,gf⟩
  |fork a b c =>
   obtain⟨a',b',c',u2,rfl⟩:∃a' b' c' u2,us=a'::b'::c'::u2:=by
    match us,hst with
    |a'::b'::c'::u2,_=>exact⟨a',b',c',u2,rfl⟩
   cases hst;simp only[Sy.d];nofun;refine cL k3 hsm ?_;nofun;obtain⟨z1,z2,z3⟩:=fin _ rfl;exact⟨_,_,_,_,rfl,z1,z2,z3,gf⟩
 ·rintro σ S' ⟨us,m,x4,x5,rfl,g1,g2,gl,gf⟩;rw[jk,aB,<-jk,ya]at gf;cases gf;rw[lJ]at g2;nofun;refine ig g2 ?_;nofun;exact⟨g1.at hpd,hq⟩
def jQ:List (Key×D)->Int->List Er->Option (List (Key×D))
 |kvs,_,[]=>some kvs
 |kvs,n,e::r=>match dX ([],n+mE e.body.pre) e.body.pre.reverse with
  |some (d::_,_)=>jQ (putD kvs (.inr e.name) d) (n+mE e.body.pre) r
  |_=>none
theorem ZI(kvs:List (Key×D))(k:Key)(v:D):(putD kvs k v).length<=kvs.length+1:=by
 unfold putD
 split
 ·rw[aB];lia
 ·rw[aU];exact aV _
inductive ZJ (ds:List D)(S:af)(Q:K3)(_:X3):Prop where
 |mk (pr:Addr) (prog:List Er) (kvs:List (Key×D)) (_:ds=[.ref pr]) (_:S pr=some (.lst (prog.map Er.d))) (_:prog.length<=100) (_:(∀e∈prog,e.body.pre.length<=100000)) (_:jQ [] 0 prog=some kvs) (_:∀p S',Sub S S'->S' p=some (.bp kvs)->Q (.ref p) S')
def J9 :aK:= ZJ
theorem ZK{k:Nat}(h:aA K mg "numbered_bodies" qj ["program"])(G:Gs K mg)(qM:aq P w K mg base k "in_order" ["body"] AW)(A3:aq P w K mg base k "numbered" ["order","number"] J7)
 (qL:aq P w K mg base k "count_sends" ["order"] AZ):aq P w K mg base (k+1) "numbered_bodies" ["program"] J9:=show _ by
 refine h.l9 qk (by rintro ds S Q E ⟨pr,prog,kvs,e,_⟩;rw[e];rfl) λf cdv A outer s0 H E ds S Q W hr hA=>?_;obtain⟨pr,prog,kvs,rfl,hS,hl,hz,hf,hq⟩:=hA;have hu:=o6 hr;refine⟨_,Q,(au (aN (i:=1) qk.nd rfl (Or.inl rfl) R6)
 (au (aN (i:=2) qk.nd rfl (Or.inl rfl) aj)
 (au (eW ek rfl (fY (aa 0)) (dD (i:=3) qk.nd rfl (Or.inl rfl)) (au (aN (i:=4) qk.nd rfl (Or.inl rfl) (aJ qM hr rfl (ae (aD aP aQ (aa 3) aj (λ_ _=>rfl)) ah)))
 (au (Gk hu (aa 1) (aD aP aQ (aa 3) aj (λ_ _=>rfl)) (aJ A3 hr rfl (ae (aa 4) (ae (aa 2) ah))) rfl)
 (ax (vG (i:=2) qk.nd rfl (Or.inl rfl) (aJ qL hr rfl (ae (aa 4) ah)) yo)))))
 (ax (a_ (aa 1)))))),?_,λ_ _ q=>q⟩
 nofun;intro pb hpb;have hS1:=az (o:=.bp []) hS hpb;nofun;refine⟨λi σ S'=>jN λ(kv:List (Key×D)) (n:Int) (x3 x4:Option D)=>σ=[some (.ref pr),some (.ref pb),some (.int n),x3,x4]/\Sub S S'/\S' pb=some (.bp kv)/\kv.length<=i/\jQ kv n (prog.drop i)=some kvs,
  ⟨[],0,none,none,rfl,(Sub.refl S).up hpb,av,b8 _,hf⟩,λi σ S' ⟨_,_,_,_,_,h1,_⟩=>h1 _ _ hS,?_,?_⟩
 ·rintro i d σ S' hd ⟨kv,n,x3,x4,rfl,g1,g2,gl,gf⟩;rw[aS]at hd;obtain⟨e,he,rfl⟩:=dA.mp hd;have hi:=(cu.mp he).1;have hdr:prog.drop i=e::prog.drop (i+1):=by
   rw[x_ hi,(cu.mp he).2]
  rw[hdr,jQ]at gf;have J_:=hz e (dg he);unfold Er.d;nofun;refine⟨e.body,rfl,by lia,?_⟩;intro po hpo;have k1:up S' po (.lst (e.body.pre.map Sy.d)) po=some (.lst (e.body.pre.map Sy.d)):=av;have k2:=az (o:=.lst (e.body.pre.map Sy.d)) g2 hpo;have k3:Sub S (up S' po (.lst (e.body.pre.map Sy.d))):=g1.up hpo;have n1:po≠pb:=(ne3 g2 hpo).symm;generalize up S' po (.lst (e.body.pre.map Sy.d))=S1 at k1 k2 k3 ⊢;nofun;cases hfd:dX ([],n+mE e.body.pre) e.body.pre.reverse with
  |none=>rw[hfd]at gf;cases gf
  |some us =>
   obtain⟨us,l⟩:=us;rw[hfd]at gf;cases us with
   |nil=>cases gf
   |cons d st =>
    have gf:jQ (putD kv (.inr e.name) d) (n+mE e.body.pre) (prog.drop (i+1))=some kvs:=gf;refine⟨po,e.body.pre,n,d,st,l,rfl,k1,J_,hfd,?_⟩;nofun;refine Hl k2 (cT (by lia)) ?_;nofun;refine⟨po,e.body.pre,rfl,by rw[aM n1];exact k1,J_,?_⟩;nofun;refine⟨_,_,_,_,rfl,k3.at hpb,av,?_,gf⟩;have:=ZI kv (.inr e.name) d;lia
 ·rintro σ S' ⟨kv,n,x3,x4,rfl,g1,g2,gl,gf⟩;rw[aB,ya]at gf;cases gf;nofun;exact hq _ _ g1 g2
inductive jc:D->List D->Prop
 |name (x:Str):jc (.tup [.str "name",.str x]) []
 |aX:jc (.tup [.str "bud"]) []
 |pair (a b:D):jc (.tup [.str "pair",a,b]) [a,b]
 |left (a:D):jc (.tup [.str "left",a]) [a]
 |right (a:D):jc (.tup [.str "right",a]) [a]
 |fork (a b c:D):jc (.tup [.str "fork",a,b,c]) [a]
 |send (x:Str) (is:List D) (l:Int):jc (.tup [.str "send",.str x,.tup is,.int l]) is
inductive ZL (ds:List D)(q:D->Prop):Prop where
 |mk (s:_) (ps:_) (_:ds=[s]) (_:jc s ps) (_:q (.tup ps))
def J' :aK:=vS ZL
theorem ZM{k:Nat}(h:aA K mg "needed_parts" qm ["saying"])(G:Gs K mg)(oA:aq P w K mg base k "parts" ["saying"] AU):aq P w K mg base (k+1) "needed_parts" ["saying"] J':=show _ by
 refine h.val YE (by rintro ds q ⟨s,ps,e,_⟩;rw[e];rfl) λf cdv A outer s0 H E ds q hr hA=>?_;obtain⟨s,ps,rfl,hp,hq⟩:=hA;refine⟨_,(ax (a_ (nk (bq bY ft (aD aP aQ (aa 0) aj (λ_ _=>rfl)) bG (bj _)) (eE vJ vK (aa 0) (d7 aj) (d7 aj)) (aJ oA hr rfl (ae (aa 0) ah))))),?_⟩;cases hp with
 |name x=>nofun;exact⟨_,_,rfl,.name x,hq⟩
 |aX=>nofun;exact⟨_,_,rfl,.aX,hq⟩
 |pair a b=>nofun;exact⟨_,_,rfl,.pair a b,hq⟩
 |left a=>nofun;exact⟨_,_,rfl,.left a,hq⟩
 |right a=>nofun;exact⟨_,_,rfl,.right a,hq⟩
 |fork a b c=>nofun;exact hq
 |send x is l=>nofun;exact⟨_,_,rfl,.send x _ _,hq⟩
def qN(l:Bool):ay->ay
 | .aX=>.aX
 | .pair a b=>if l then a else b
inductive ZO (ds:List D)(q:D->Prop):Prop where
 |mk (l:Bool) (t:ay) (_:ds=[.str (if l then "left" else "right"),t.d]) (_:q (qN l t).d)
def Ka :aK:=vS ZO
theorem ZP{k:Nat}(h:aA K mg "side" qo ["kind","tree"])(G:Gs K mg):aq P w K mg base (k+1) "side" ["kind","tree"] Ka:=show _ by
 refine h.val YF (by rintro ds q ⟨l,t,e,_⟩;rw[e];rfl) λf cdv A outer s0 H E ds q hr hA=>?_;obtain⟨l,t,rfl,hq⟩:=hA;refine⟨_,(au (bS (bq oY pA (aa 1) fX (bj _)) (ax (a_ fX)) bV)
 (ax (a_ (nk (bq bY ft (aa 0) bG (bj _)) (aD aP aQ (aa 1) aj (λ_ _=>rfl)) (aD aP aQ (aa 1) aj (λ_ _=>rfl)))))),?_⟩
 cases t with
 |aX =>
  nofun;exact hq
 |pair a b =>
  have e:(ay.pair a b).d=.tup [a.d,b.d]:=rfl;rw[e];cases l with
  |true =>
   nofun;exact hq
  |false =>
   nofun;exact hq
inductive ZQ(CR:Addr)(ds:List D)(S:af)(Q:K3)(_:X3):Prop where
 |mk (S0:_) (a:_) (pa:_) (bo:_) (mo:_) (A4:_) (A5:_) (_:ds=[.ref a,.ref pa,.ref bo,.int mo]) (_:S a=some (.ins CR [])) (_:S pa=some (.bp A4)) (_:S bo=some (.bp A5)) (_:Sub S0 S) (_:S0 a=none) (_:∀A S',RS CR S0 S' a A ⟨A4,A5,mo,[],[],[],.non⟩->Q .non S')
def Kb(CR:Addr):aK:= (ZQ CR)
theorem ZR{k:Nat}(h:d_ K CR "__init__" "Run.__init__" qA ["self","params","bodies","most"])(G:Gs K mg)(T:iw K mg CR):de P w K mg base (k+1) CR "__init__" ["self","params","bodies","most"] (Kb CR):=show _ by
 refine h.kM YL (by rintro ds S Q E ⟨_,a,pa,bo,mo,_,_,e,_⟩;rw[e];rfl) λf cdv A0 outer s0 H E ds S Q W hr hA=>?_;obtain⟨S0,a,pa,bo,mo,A4,A5,rfl,ha,hpa,hbo,hs,fa,hq⟩:=hA;refine⟨_,(au (i7 T.cl T.n_params (aa 0) (aa 1) rfl)
 (au (i7 T.cl T.n_bodies (aa 0) (aa 2) rfl)
 (au (i7 T.cl T.n_most (aa 0) (aa 3) rfl)
 (au (i7 T.cl T.n_begun (aa 0) (d6 ah) rfl)
 (au (i7 T.cl T.n_pending (aa 0) (d6 ah) rfl)
 (au (i7 T.cl T.n_waiting (aa 0) (d6 ah) rfl)
 (ax (i7 T.cl T.n_ending (aa 0) fX rfl)))))))),?_⟩
 have np:pa≠a:=dF hpa ha (λz=>nomatch z);have nb:bo≠a:=dF hbo ha (λz=>nomatch z);have put:∀(gs:List (Str×D)) (S:af) (fs:List (Str×D)) (f:Str) (d:D) (n:af->Prop),S a=some (.ins CR fs)->fs.length<1000->f6 f d fs=gs->n (up S a (.ins CR gs))->pU CR f (.ref a) d S n:=λgs S fs f d n hS hl e q=>An hS hl (by rw[e];exact q);nofun;refine put [("params",.ref pa)] _ _ _ _ _ ha (by decide) rfl ?_;nofun;refine put [("params",.ref pa),("bodies",.ref bo)] _ _ _ _ _ av (show 1<1000 by decide) rfl ?_;rw[o_];nofun;refine put [("params",.ref pa),("bodies",.ref bo),("most",.int mo)] _ _ _ _ _ av (show 2<1000 by decide) rfl ?_;rw[o_];have K0:Sub S0 (up S a (.ins CR [("params",.ref pa),("bodies",.ref bo),("most",.int mo)])):=hs.at fa;have f1:up S a (.ins CR [("params",.ref pa),("bodies",.ref bo),("most",.int mo)]) a=_:=av;have f2:=b5 (o:=.ins CR [("params",.ref pa),("bodies",.ref bo),("most",.int mo)]) hpa np;have f3:=b5 (o:=.ins CR [("params",.ref pa),("bodies",.ref bo),("most",.int mo)]) hbo nb;nofun;intro be hbe;have K1:Sub S0 (up (up S a (.ins CR [("params",.ref pa),("bodies",.ref bo),("most",.int mo)])) be (.lst [])):=K0.up hbe;have fb:=K0.free hbe;have g1:=az (o:=.lst []) f1 hbe;have g2:=az (o:=.lst []) f2 hbe;have g3:=az (o:=.lst []) f3 hbe;have g4:=av (S:=up S a (.ins CR [("params",.ref pa),("bodies",.ref bo),("most",.int mo)])) (a:=be) (o:=.lst []);generalize up (up S a (.ins CR [("params",.ref pa),("bodies",.ref bo),("most",.int mo)])) be (.lst [])=S1 at g1 g2 g3 g4 K1 ⊢;nofun;refine put [("params",.ref pa),("bodies",.ref bo),("most",.int mo),("begun",.ref be)] _ _ _ _ _ g1 (show 3<1000 by decide) rfl ?_;have e1:be≠a:=dF g4 g1 (λz=>nomatch z);have h1:up S1 a (.ins CR [("params",.ref pa),("bodies",.ref bo),("most",.int mo),("begun",.ref be)]) a=_:=av;have h2:=b5 (o:=.ins CR [("params",.ref pa),("bodies",.ref bo),("most",.int mo),("begun",.ref be)]) g2 np;have h3:=b5 (o:=.ins CR [("params",.ref pa),("bodies",.ref bo),("most",.int mo),("begun",.ref be)]) g3 nb;have h4:=b5 (o:=.ins CR [("params",.ref pa),("bodies",.ref bo),("most",.int mo),("begun",.ref be)]) g4 e1;have K2:Sub S0 (up S1 a (.ins CR [("params",.ref pa),("bodies",.ref bo),("most",.int mo),("begun",.ref be)])):=K1.at fa;generalize up S1 a (.ins CR [("params",.ref pa),("bodies",.ref bo),("most",.int mo),("begun",.ref be)])=S2 at h1 h2 h3 h4 K2 ⊢;nofun;intro pe hpe;have i1:=az (o:=.lst []) h1 hpe;have i2:=az (o:=.lst []) h2 hpe;have i3:=az (o:=.lst []) h3 hpe;have i4:=az (o:=.lst []) h4 hpe;have i5:=av (S:=S2) (a:=pe) (o:=.lst []);have n1:be≠pe:=ne3 h4 hpe;have K3:Sub S0 (up S2 pe (.lst [])):=K2.up hpe;have fp:=K2.free hpe;generalize up S2 pe (.lst [])=S3 at i1 i2 i3 i4 i5 K3 ⊢;nofun;refine put [("params",.ref pa),("bodies",.ref bo),("most",.int mo),("begun",.ref be),("pending",.ref pe)] _ _ _ _ _ i1 (show 4<1000 by decide) rfl ?_;have e2:pe≠a:=dF i5 i1 (λz=>nomatch z);have k1:up S3 a (.ins CR [("params",.ref pa),("bodies",.ref bo),("most",.int mo),("begun",.ref be),("pending",.ref pe)]) a=_:=av
 have k2:=b5 (o:=.ins CR [("params",.ref pa),("bodies",.ref bo),("most",.int mo),("begun",.ref be),("pending",.ref pe)]) i2 np;have k3:=b5 (o:=.ins CR [("params",.ref pa),("bodies",.ref bo),("most",.int mo),("begun",.ref be),("pending",.ref pe)]) i3 nb;have k4:=b5 (o:=.ins CR [("params",.ref pa),("bodies",.ref bo),("most",.int mo),("begun",.ref be),("pending",.ref pe)]) i4 e1;have k5:=b5 (o:=.ins CR [("params",.ref pa),("bodies",.ref bo),("most",.int mo),("begun",.ref be),("pending",.ref pe)]) i5 e2;have K4:Sub S0 (up S3 a (.ins CR [("params",.ref pa),("bodies",.ref bo),("most",.int mo),("begun",.ref be),("pending",.ref pe)])):=K3.at fa;generalize up S3 a (.ins CR [("params",.ref pa),("bodies",.ref bo),("most",.int mo),("begun",.ref be),("pending",.ref pe)])=S4 at k1 k2 k3 k4 k5 K4 ⊢;nofun;intro wa f7;have l1:=az (o:=.lst []) k1 f7;have l2:=az (o:=.lst []) k2 f7;have l3:=az (o:=.lst []) k3 f7;have l4:=az (o:=.lst []) k4 f7;have l5:=az (o:=.lst []) k5 f7;have l6:=av (S:=S4) (a:=wa) (o:=.lst []);have n2:be≠wa:=ne3 k4 f7;have n3:pe≠wa:=ne3 k5 f7;have K5:Sub S0 (up S4 wa (.lst [])):=K4.up f7;have fw:=K4.free f7;generalize up S4 wa (.lst [])=S5 at l1 l2 l3 l4 l5 l6 K5 ⊢;nofun;refine put [("params",.ref pa),("bodies",.ref bo),("most",.int mo),("begun",.ref be),("pending",.ref pe),("waiting",.ref wa)] _ _ _ _ _ l1 (show 5<1000 by decide) rfl ?_;nofun;refine put [("params",.ref pa),("bodies",.ref bo),("most",.int mo),("begun",.ref be),("pending",.ref pe),("waiting",.ref wa),("ending",.non)] _ _ _ _ _ av (show 6<1000 by decide) rfl ?_;rw[o_];nofun;exact hq ⟨pa,bo,be,pe,wa⟩ _ ⟨av,b5 l2 np,b5 l3 nb,b5 l4 e1,b5 l5 e2,b5 l6 (dF l6 l1 (λz=>nomatch z)),n1,n2,n3,K5.at fa,fa,fb,fp,fw⟩
inductive qO:Rn->D->D->Str->D->Rn->Prop
 |stop {r:Rn} {p n ts:D} {x:Str}:r.mo<=(r.be.length:Int)->qO r p n x ts {r with en:=.tup [.str "going",.int r.mo]}
 |new {r:Rn} {p n ts body:D} {x:Str}:(r.be.length:Int)<r.mo->cm r.bo (.inr x)=some body->qO r p n x ts {r with pe:=r.pe++[.tup [.bl false,body,.int r.be.length]],be:=r.be++[.tup [p,n,.str x,ts]]}
inductive ZS(CR:Addr)(ds:List D)(S:af)(Q:K3)(_:X3):Prop where
 |mk (S0:_) (a:_) (A:_) (r:_) (p:_) (n:_) (x:_) (ts:_) (r':_) (_:ds=[.ref a,p,n,.str x,ts]) (_:RS CR S0 S a A r) (_:r.be.length<=900000) (_:r.pe.length<=900000) (_:qO r p n x ts r') (_:∀S',RS CR S0 S' a A r'->Q .non S')
def A6(CR:Addr):aK:= (ZS CR)
theorem ZU{k:Nat}(h:d_ K CR "begin" "Run.begin" qB ["self","parent","number","name","trees"])(G:Gs K mg)(T:iw K mg CR):de P w K mg base (k+1) CR "begin" ["self","parent","number","name","trees"] (A6 CR):=show _ by
 refine h.kM YM (by rintro ds S Q E ⟨_,a,A,r,p,n,x,ts,body,e,_⟩;rw[e];rfl) λf cdv A0 outer s0 H E ds S Q W hr hA=>?_;obtain⟨S0,a,A,r,p,n,x,ts,r',rfl,h,lb,lp,hb,hq⟩:=hA;have hu:=o6 hr;refine⟨_,(ax (bS (bq Ey kA (dJ fj fu rfl G.len fg (ae (cV T.cl T.n_begun (aa 0) rfl) ah)) (cV T.cl T.n_most (aa 0) rfl) (bj _)) (ax (i7 T.cl T.n_ending (aa 0) (bJ (ae bG (ae (cV T.cl T.n_most (aa 0) rfl) ah))) rfl)) (au (b7 (dv cw dz dH dq dE (cV T.cl T.n_pending (aa 0) rfl) (ae (bJ (ae nh (ae (za hu (cV T.cl T.n_bodies (aa 0) rfl) (aa 3) (λ_ _=>rfl)) (ae (dJ fj fu rfl G.len fg (ae (cV T.cl T.n_begun (aa 0) rfl) ah)) ah)))) ah)))
 (ax (b7 (dv cw dz dH dq dE (cV T.cl T.n_begun (aa 0) rfl) (ae (bJ (ae (aa 1) (ae (aa 2) (ae (aa 3) (ae (aa 4) ah))))) ah))))))),?_⟩
 have hbe:=h.be;have hpe:=h.pe;cases hb with
 |stop hm =>
  nofun;refine Au h ?_;nofun;exact hq _ (h.As _)
 |new hm hv =>
  rename_i body
  nofun;refine zw h.bo hv ?_;nofun;refine cL hpe (cT (by lia)) ?_;have h1:=h.nM (r.pe++[.tup [.bl false,body,.int r.be.length]]);have Kc:=h1.be;generalize up S A.pe _=S1 at h1 Kc ⊢;nofun;refine cL (ds:=r.be) Kc (cT (by lia)) ?_;nofun;exact hq _ (h1.Yc _)
inductive ZV(CR:Addr)(ds:List D)(S:af)(Q:K3)(_:X3):Prop where
 |mk (S0:_) (a:_) (A:_) (r:_) (n:_) (xs:_) (ys:_) (_:ds=[.ref a,.int n]) (_:RS CR S0 S a A r) (_:r.wa=xs++ys) (_:(ys.length:Int)=n) (_:∀A' S',RS CR S0 S' a A' {r with wa:=xs}->Q (.tup ys) S')
def A7(CR:Addr):aK:= (ZV CR)
theorem ZW{k:Nat}(h:d_ K CR "taken" "Run.taken" qF ["self","many"])(G:Gs K mg)(T:iw K mg CR):de P w K mg base (k+1) CR "taken" ["self","many"] (A7 CR):=show _ by
 refine h.kM AA (by rintro ds S Q E ⟨_,a,A,r,n,xs,ys,e,_⟩;rw[e];rfl) λf cdv A0 outer s0 H E ds S Q W hr hA=>?_;obtain⟨S0,a,A,r,n,xs,ys,rfl,h,hw,hn,hq⟩:=hA;refine⟨_,(au (aN (i:=2) AA.nd rfl (Or.inl rfl) (aI yu gM (dJ fj fu rfl G.len fg (ae (cV T.cl T.n_waiting (aa 0) rfl) ah)) (aa 1)))
 (au (aN (i:=3) AA.nd rfl (Or.inl rfl) (gq iM iR rfl G.tuple iG (ae (eE jy jD (cV T.cl T.n_waiting (aa 0) rfl) (d7 (aa 2)) eK) ah)))
 (au (i7 T.cl T.n_waiting (aa 0) (eE jy jD (cV T.cl T.n_waiting (aa 0) rfl) eK (d7 (aa 2))) rfl)
 (ax (a_ (aa 3)))))),?_⟩
 have f7:=h.wa;nofun;have e1:((r.wa.length:Nat):Int)-n=(xs.length:Nat):=by rw[hw,aU,<-hn];lia
 rw[e1];have c1:E3.cutD r.wa (some ((xs.length:Nat):Int)) none=ys:=by rw[pK (by lia),hw];simp
 have c2:E3.cutD r.wa none (some ((xs.length:Nat):Int))=xs:=by rw[pJ (by lia),hw];simp
 nofun;rw[c1];intro p1 hp1;have h1:=h.lay (o:=.lst ys) hp1;have hw1:=h1.wa;have g1:up S p1 (.lst ys) p1=some (.lst ys):=av;generalize up S p1 (.lst ys)=S1 at h1 hw1 g1 ⊢;nofun;rw[c2];intro p2 hp2;have h2:=h1.lay (o:=.lst xs) hp2;have g2:up S1 p2 (.lst xs) p2=some (.lst xs):=av;have m1:A.be≠p2:=ne3 h1.be hp2;have m2:A.pe≠p2:=ne3 h1.pe hp2;generalize up S1 p2 (.lst xs)=S2 at h2 g2 ⊢;nofun;refine Yn h2 ?_;have h3:=h2.Yf g2 m1 m2 (h1.sub.free hp2);nofun;exact hq _ _ h3
def Kd(t:ay)(x y:D):D:=match t with
 | .aX=>y
 | .pair _ _=>x
inductive ZY(CR:Addr)(ds:List D)(S:af)(Q:K3)(_:X3):Prop where
 |mk (S0:_) (a:_) (A:_) (r:_) (c:_) (x:_) (y:_) (p:_) (xs:_) (t:_) (_:ds=[.ref a,.tup [.str "fork",c,x,y],.int p]) (_:RS CR S0 S a A r) (_:r.pe.length<=900000) (_:r.wa=xs++[ay.d t]) (_:∀S',RS CR S0 S' a A {r with wa:=xs,pe:=r.pe++[.tup [.bl false,Kd t x y,.int p]]}->Q .non S')
def Ke(CR:Addr):aK:= (ZY CR)
theorem ZZ{k:Nat}(h:d_ K CR "choose" "Run.choose" qG ["self","fork","place"])(G:Gs K mg)(T:iw K mg CR):de P w K mg base (k+1) CR "choose" ["self","fork","place"] (Ke CR):=show _ by
 refine h.kM JP (by rintro ds S Q E ⟨_,a,A,r,c,x,y,p,xs,t,e,_⟩;rw[e];rfl) λf cdv A0 outer s0 H E ds S Q W hr hA=>?_;obtain⟨S0,a,A,r,c,x,y,p,xs,t,rfl,h,lp,hw,hq⟩:=hA;refine⟨_,(au (aN (i:=3) JP.nd rfl (Or.inl rfl) (nk (bq oY pA (iQ cw jj j_ jA jE (cV T.cl T.n_waiting (aa 0) rfl)) fX (bj _)) (aD aP aQ (aa 1) aj (λ_ _=>rfl)) (aD aP aQ (aa 1) aj (λ_ _=>rfl))))
 (ax (b7 (dv cw dz dH dq dE (cV T.cl T.n_pending (aa 0) rfl) (ae (bJ (ae nh (ae (aa 3) (ae (aa 2) ah)))) ah))))),?_⟩
 have f7:=h.wa;rw[hw]at f7;nofun;refine ig f7 ?_;have g:=h.kO xs;have hpe:=g.pe;generalize up S A.wa _=S1 at g hpe ⊢;cases t with
 |aX =>
  nofun;refine cL (ds:=r.pe) hpe (cT (by lia)) ?_;nofun;exact hq _ (g.nM _)
 |pair l u =>
  have e:(ay.pair l u).d=.tup [l.d,u.d]:=rfl;rw[e];nofun;refine cL (ds:=r.pe) hpe (cT (by lia)) ?_;nofun;exact hq _ (g.nM _)
inductive Z0(CR:Addr)(ds:List D)(S:af)(Q:K3)(_:X3):Prop where
 |mk (S0:_) (a:_) (A:_) (r:_) (xs:_) (t1:_) (t2:_) (_:ds=[.ref a]) (_:RS CR S0 S a A r) (_:r.wa=xs++[ay.d t1,ay.d t2]) (_:xs.length<=900000) (_:(ay.pair t1 t2).size<=1000) (_:((ay.pair t1 t2).size<=60->∀A' S',RS CR S0 S' a A' {r with wa:=xs++[(ay.pair t1 t2).d]}->Q .non S')) (_:(60<(ay.pair t1 t2).size->∀A' S',RS CR S0 S' a A' {r with wa:=xs,en:=.tup [.str "grown",.int r.be.length]}->Q .non S'))
def Kf(CR:Addr):aK:= (Z0 CR)
theorem Z1{k:Nat}(h:d_ K CR "join_pair" "Run.join_pair" qH ["self"])(G:Gs K mg)(T:iw K mg CR)(qP:de P w K mg base k CR "taken" ["self","many"] (A7 CR))(A8:aq P w K mg base k "size" ["tree"] J6):de P w K mg base (k+1) CR "join_pair" ["self"] (Kf CR):=show _ by
 refine h.kM JQ (by rintro ds S Q E ⟨_,a,A,r,xs,t1,t2,e,_⟩;rw[e];rfl) λf cdv A0 outer s0 H E ds S Q W hr hA=>?_;obtain⟨S0,a,A,r,xs,t1,t2,rfl,h,hw,hl,hz,hq1,hq2⟩:=hA;refine⟨_,(au (aN (i:=1) JQ.nd rfl (Or.inl rfl) (mr qP T.cl hr (aa 0) (ae aj ah)))
 (ax (bS (bq Ew kA (aJ A8 hr rfl (ae (aa 1) ah)) (FU G.YQ rfl) (bj _)) (ax (i7 T.cl T.n_ending (aa 0) (bJ (ae bG (ae (dJ fj fu rfl G.len fg (ae (cV T.cl T.n_begun (aa 0) rfl) ah)) ah))) rfl)) (ax (b7 (dv cw dz dH dq dE (cV T.cl T.n_waiting (aa 0) rfl) (ae (aa 1) ah))))))),?_⟩
 nofun;refine i9 h (λ_ _ _ _ _ _ _=>rfl) ?_;nofun;refine⟨S0,a,A,r,2,xs,[t1.d,t2.d],rfl,h,hw,rfl,λA' S' h1=>?_⟩;nofun;refine⟨.pair t1 t2,rfl,hz,?_⟩;nofun;have hb1:=h1.be;have hw1:=h1.wa;by_cases c:(60:Int)<((ay.pair t1 t2).size:Int)
 ·nofun;refine Au h1 ?_;nofun;exact hq2 (by lia) _ _ (h1.As _)
 ·nofun;refine cL (ds:=xs) hw1 (cT (by lia)) ?_;nofun;exact hq1 (by lia) _ _ (h1.kO _)
inductive Z2(CR:Addr)(ds:List D)(S:af)(Q:K3)(_:X3):Prop where
 |mk (S0:af) (a:Addr) (A:Ra) (r:Rn) (x:Str) (pl:Int) (pr nu:D) (nm:Str) (zs:List Str) (ts:List D) (j:Nat) (d:D) (_:ds=[.ref a,.str x,.int pl]) (_:RS CR S0 S a A r) (_:cy r.be pl=some (.tup [pr,nu,.str nm,.tup ts])) (_:cm r.pa (.inr nm)=some (.tup (zs.map D.str))) (_:zs[j]?=some x) (_:x∉zs.take j) (_:ts[j]?=some d) (_:Q d S)
def Kg(CR:Addr):aK:= (Z2 CR)
theorem Z3{k:Nat}(h:d_ K CR "parameter" "Run.parameter" qI ["self","name","place"])(G:Gs K mg)(T:iw K mg CR):de P w K mg base (k+1) CR "parameter" ["self","name","place"] (Kg CR):=show _ by
 refine h.kM JR (by rintro ds S Q E ⟨_,a,A,r,x,pl,pr,nu,nm,zs,ts,j,d,e,_⟩;rw[e];rfl) λf cdv A0 outer s0 H E ds S Q W hr hA=>?_;obtain⟨S0,a,A,r,x,pl,pr,nu,nm,zs,ts,j,d,rfl,h,he,hv,hj,hno,hd,hq⟩:=hA;have hu:=o6 hr;refine⟨_,(au (aN (i:=3) JR.nd rfl (Or.inl rfl) (aD eJ eM (cV T.cl T.n_begun (aa 0) rfl) (aa 2) (λ_ _=>rfl)))
 (ax (a_ (aD aP aQ (aD aP aQ (aa 3) aj (λ_ _=>rfl)) (Xx NO PySem.F.type_tuple_index Xs Xw (za hu (cV T.cl T.n_params (aa 0) rfl) (aD aP aQ (aa 3) aj (λ_ _=>rfl)) (λ_ _=>rfl)) (ae (aa 1) ah)) (λ_ _=>rfl))))),?_⟩
 nofun;refine fv h.be he ?_;nofun;refine zw h.pa hv ?_;nofun;refine Xz hj hno ?_;nofun;exact l_ (eV hd) hq
structure Sm(r:Rn):Prop where
 be:r.be.length<=900000
 pe:r.pe.length<=900000
 wa:r.wa.length<=900000
inductive Fin:Rn->D->Int->Rn->Prop
 |send {r r':Rn} {x:Str} {us xs ts:List D} {l p:Int}:r.wa=xs++ts->ts.length=us.length->qO {r with wa:=xs} (.int p) (.int l) x (.tup ts) r'->Fin r (.tup [.str "send",.str x,.tup us,.int l]) p r'
 |fork {r:Rn} {c x y:D} {xs:List D} {t:ay} {p:Int}:r.wa=xs++[ay.d t]->Fin r (.tup [.str "fork",c,x,y]) p {r with wa:=xs,pe:=r.pe++[.tup [.bl false,Kd t x y,.int p]]}
 |left {r:Rn} {c:D} {xs:List D} {t:ay} {p:Int}:r.wa=xs++[ay.d t]->Fin r (.tup [.str "left",c]) p {r with wa:=xs++[(qN true t).d]}
 |right {r:Rn} {c:D} {xs:List D} {t:ay} {p:Int}:r.wa=xs++[ay.d t]->Fin r (.tup [.str "right",c]) p {r with wa:=xs++[(qN false t).d]}
 |pair {r:Rn} {a b:D} {xs:List D} {t1 t2:ay} {p:Int}:r.wa=xs++[ay.d t1,ay.d t2]->(ay.pair t1 t2).size<=60->Fin r (.tup [.str "pair",a,b]) p {r with wa:=xs++[(ay.pair t1 t2).d]}
 |grown {r:Rn} {a b:D} {xs:List D} {t1 t2:ay} {p:Int}:r.wa=xs++[ay.d t1,ay.d t2]->60<(ay.pair t1 t2).size->(ay.pair t1 t2).size<=1000->Fin r (.tup [.str "pair",a,b]) p {r with wa:=xs,en:=.tup [.str "grown",.int r.be.length]}
 |name {r:Rn} {x nm:Str} {p:Int} {pr nu d:D} {zs:List Str} {ts:List D} {j:Nat}:cy r.be p=some (.tup [pr,nu,.str nm,.tup ts])->cm r.pa (.inr nm)=some (.tup (zs.map D.str))->zs[j]?=some x->x∉zs.take j->ts[j]?=some d ->
  Fin r (.tup [.str "name",.str x]) p {r with wa:=r.wa++[d]}
 |aX {r:Rn} {p:Int}:Fin r (.tup [.str "bud"]) p {r with wa:=r.wa++[.non]}
inductive Z4(CR:Addr)(ds:List D)(S:af)(Q:K3)(_:X3):Prop where
 |mk (S0:_) (a:_) (A:_) (r:_) (s:_) (p:_) (r':_) (_:ds=[.ref a,s,.int p]) (_:RS CR S0 S a A r) (_:Sm r) (_:Fin r s p r') (_:∀A' S',RS CR S0 S' a A' r'->Q .non S')
def Kh(CR:Addr):aK:= (Z4 CR)
theorem Z5{k:Nat}(h:d_ K CR "finish" "Run.finish" qE ["self","saying","place"])(G:Gs K mg)(T:iw K mg CR)(qQ:de P w K mg base k CR "begin" ["self","parent","number","name","trees"] (A6 CR))(qP:de P w K mg base k CR "taken" ["self","many"] (A7 CR))
 (A9:de P w K mg base k CR "choose" ["self","fork","place"] (Ke CR)) (Z6:de P w K mg base k CR "join_pair" ["self"] (Kf CR)) (Z7:de P w K mg base k CR "parameter" ["self","name","place"] (Kg CR)) (A_:aq P w K mg base k "side" ["kind","tree"] Ka) :
 de P w K mg base (k+1) CR "finish" ["self","saying","place"] (Kh CR):=show _ by
 refine h.kM JO (by rintro ds S Q E ⟨_,a,A,r,s,p,r',e,_⟩;rw[e];rfl) λf cdv A0 outer s0 H E ds S Q W hr hA=>?_;obtain⟨S0,a,A,r,s,p,r',rfl,h,sm,hf,hq⟩:=hA;refine⟨_,(au (aN (i:=3) JO.nd rfl (Or.inl rfl) (aD aP aQ (aa 1) aj (λ_ _=>rfl)))
 (ax (bS (bq bY ft (aa 3) bG (bj _)) (ax (b7 (mr qQ T.cl hr (aa 0) (ae (aa 2) (ae (aD aP aQ (aa 1) aj (λ_ _=>rfl)) (ae (aD aP aQ (aa 1) aj (λ_ _=>rfl)) (ae (mr qP T.cl hr (aa 0) (ae (dJ fj fu rfl G.len fg (ae (aD aP aQ (aa 1) aj (λ_ _=>rfl)) ah)) ah)) ah))))))) (ax (bS (bq bY ft (aa 3) bG (bj _)) (ax (b7 (mr A9 T.cl hr (aa 0) (ae (aa 1) (ae (aa 2) ah))))) (ax (bS (bq bY ft (aa 3) bG (bj _)) (ax (b7 (Jx Z6 T.cl hr (aa 0)))) (ax (bS (bq bY ft (aa 3) bG (bj _)) (ax (b7 (dv cw dz dH dq dE (cV T.cl T.n_waiting (aa 0) rfl) (ae (mr Z7 T.cl hr (aa 0) (ae (aD aP aQ (aa 1) aj (λ_ _=>rfl)) (ae (aa 2) ah))) ah)))) (ax (bS (bq bY ft (aa 3) bG (bj _)) (ax (b7 (dv cw dz dH dq dE (cV T.cl T.n_waiting (aa 0) rfl) (ae fX ah)))) (ax (b7 (dv cw dz dH dq dE (cV T.cl T.n_waiting (aa 0) rfl) (ae (aJ A_ hr rfl (ae (aa 3) (ae (iQ cw jj j_ jA jE (cV T.cl T.n_waiting (aa 0) rfl)) ah))) ah))))))))))))))),?_⟩
 have hw:=h.wa;cases hf with
 |@send _ x is xs ts l _ h1 h2 h3 =>
  nofun;refine i9 h (λ_ _ _ _ _ _ _=>rfl) ?_;nofun;refine i9 h (λ_ _ _ _ _ _ _=>rfl) ?_;nofun;refine⟨S0,a,A,r,_,xs,ts,rfl,h,h1,by rw[h2],λA' S' g=>?_⟩;nofun;exact⟨S0,a,A',_,_,_,_,_,_,rfl,g,sm.be,sm.pe,h3,λS2 g2=>hq _ _ g2⟩
 |pair h1 h2 =>
  nofun;refine i9 h (λ_ _ _ _ _ _ _=>rfl) ?_;refine⟨S0,a,A,r,_,_,_,rfl,h,h1,?_,by lia,λ_ A' S' g=>?_,λz=>absurd h2 (by lia)⟩
  ·have:=sm.wa;rw[h1,aU]at this;lia
  ·nofun;exact hq _ _ g
 |grown h1 h2 h3 =>
  nofun;refine i9 h (λ_ _ _ _ _ _ _=>rfl) ?_;refine⟨S0,a,A,r,_,_,_,rfl,h,h1,?_,h3,λz=>absurd h2 (by lia),λ_ A' S' g=>?_⟩
  ·have:=sm.wa;rw[h1,aU]at this;lia
  ·nofun;exact hq _ _ g
 |@name x nm _ pr nu d zs ts j h1 h2 h3 h4 h5 =>
  nofun;refine i9 h (λ_ _ _ _ _ _ _=>rfl) ?_;nofun;refine⟨S0,a,A,r,x,p,pr,nu,nm,zs,ts,j,d,rfl,h,h1,h2,h3,h4,h5,?_⟩;nofun;refine cL hw (cT (by have:=sm.wa;lia)) ?_;nofun;exact hq _ _ (h.kO _)
 |aX =>
  nofun;refine cL hw (cT (by have:=sm.wa;lia)) ?_;nofun;exact hq _ _ (h.kO _)
 |@fork c x y xs t _ h1 =>
  nofun;refine i9 h (λ_ _ _ _ _ _ _=>rfl) ?_;nofun;refine⟨S0,a,A,r,c,x,y,p,xs,t,rfl,h,sm.pe,h1,λS2 g2=>?_⟩;nofun;exact hq _ _ g2
 |@left c xs t _ h1 =>
  rw[h1]at hw;nofun;refine ig hw ?_;have g:=h.kO xs;have gw:=g.wa;generalize up S A.wa _=S1 at g gw ⊢;nofun;refine⟨true,t,rfl,?_⟩;nofun;refine cL (ds:=xs) gw (cT (by have:=sm.wa;rw[h1,aU]at this;lia)) ?_;nofun;exact hq _ _ (g.kO _)
 |@right c xs t _ h1 =>
  rw[h1]at hw;nofun;refine ig hw ?_;have g:=h.kO xs;have gw:=g.wa;generalize up S A.wa _=S1 at g gw ⊢;nofun;refine⟨false,t,rfl,?_⟩;nofun;refine cL (ds:=xs) gw (cT (by have:=sm.wa;rw[h1,aU]at this;lia)) ?_;nofun;exact hq _ _ (g.kO _)
def fQ(p:Int)(ps:List D):List D:=ps.reverse.map λc=>.tup [.bl false,c,.int p]
inductive Z8(CR:Addr)(ds:List D)(S:af)(Q:K3)(_:X3):Prop where
 |mk (S0:_) (a:_) (A:_) (r:_) (s:_) (p:_) (ps:_) (_:ds=[.ref a,s,.int p]) (_:RS CR S0 S a A r) (_:r.pe.length<=900000) (_:jc s ps) (_:ps.length<=100) (_:∀S',RS CR S0 S' a A {r with pe:=r.pe++[.tup [.bl true,s,.int p]]++fQ p ps}->Q .non S')
def Ki(CR:Addr):aK:= (Z8 CR)
theorem Z9{k:Nat}(h:d_ K CR "prepare" "Run.prepare" qD ["self","saying","place"])(G:Gs K mg)(T:iw K mg CR)(Z_:aq P w K mg base k "needed_parts" ["saying"] J'):de P w K mg base (k+1) CR "prepare" ["self","saying","place"] (Ki CR):=show _ by
 refine h.kM JN (by rintro ds S Q E ⟨_,a,A,r,s,p,ps,e,_⟩;rw[e];rfl) λf cdv A0 outer s0 H E ds S Q W hr hA=>?_;obtain⟨S0,a,A,r,s,p,ps,rfl,h,lp,hp,lps,hq⟩:=hA;refine⟨_,(au (b7 (dv cw dz dH dq dE (cV T.cl T.n_pending (aa 0) rfl) (ae (bJ (ae nh (ae (aa 1) (ae (aa 2) ah)))) ah)))
 (ax (eW ek rfl (Gv rfl G.wF (ae (aJ Z_ hr rfl (ae (aa 1) ah)) ah)) (dD (i:=3) JN.nd rfl (Or.inl rfl)) (ax (b7 (dv cw dz dH dq dE (cV T.cl T.n_pending (aa 0) rfl) (ae (bJ (ae nh (ae (aa 3) (ae (aa 2) ah)))) ah))))))),?_⟩
 have hpe:=h.pe;nofun;refine cL hpe (cT (by lia)) ?_;have h1:=h.nM (r.pe++[.tup [.bl true,s,.int p]]);generalize up S A.pe _=S1 at h1 ⊢;nofun;refine⟨s,ps,rfl,hp,?_⟩;nofun;refine⟨λi σ S'=>∃x3,σ=[some (.ref a),some s,some (.int p),x3]/\RS CR S0 S' a A {r with pe:=r.pe++[.tup [.bl true,s,.int p]]++(ps.reverse.take i).map λc=>.tup [.bl false,c,.int p]},⟨none,rfl,by simpa using h1⟩,λ_ _ _ _=>trivial,?_,?_⟩
 ·rintro i d σ S' hd ⟨x3,rfl,g⟩;have hi:=(cu.mp hd).1;rw[jk]at hi;have gp:=g.pe;nofun;refine cL gp ?_ ?_
  ·simp only[aU,aB,dN,jk,bC,cE];exact cT (by lia)
  nofun;refine⟨_,rfl,?_⟩;have g2:=g.nM (r.pe++[.tup [.bl true,s,.int p]]++((ps.reverse.take i).map λc=>.tup [.bl false,c,.int p])++[.tup [.bl false,d,.int p]]);rw[gB,hd,cF,<-iF];exact g2
 ·rintro σ S' ⟨x3,rfl,g⟩;nofun;refine hq _ ?_;rw[lD]at g;exact g
inductive gX:Nat->Rn->Rn->Prop
 |fin {r:Rn} {xs:List D} {v:D}:r.pe=[]->r.en=.non->r.wa=xs++[v]->gX 0 r {r with wa:=xs,en:=.tup [.str "done",v,.int r.be.length]}
 |grown {r:Rn} {ds:List D}:r.en=.tup ds->gX 0 r r
 |prep {n:Nat} {r r':Rn} {ps qs:List D} {s:D} {p:Int}:ps.length<=900000->r.en=.non->r.pe=ps++[.tup [.bl false,s,.int p]]->jc s qs->qs.length<=100->gX n {r with pe:=ps++[.tup [.bl true,s,.int p]]++fQ p qs} r'->gX (n+1) r r'
 |Kj {n:Nat} {r r1 r':Rn} {ps:List D} {s:D} {p:Int}:Sm {r with pe:=ps}->r.en=.non->r.pe=ps++[.tup [.bl true,s,.int p]]->Fin {r with pe:=ps} s p r1->gX n r1 r'->gX (n+1) r r'
inductive aaa(CR:Addr)(ds:List D)(S:af)(Q:K3)(_:X3):Prop where
 |mk (S0:_) (a:_) (A:_) (r:_) (n:_) (r':_) (_:ds=[.ref a]) (_:RS CR S0 S a A r) (_:gX n r r') (_:∀A' S',RS CR S0 S' a A' r'->Q .non S')
def Kk(CR:Addr):aK:= (aaa CR)
theorem zo7{k:Nat}(h:d_ K CR "go_on" "Run.go_on" qC ["self"])(G:Gs K mg)(T:iw K mg CR)(Ba:de P w K mg base k CR "finish" ["self","saying","place"] (Kh CR))(Bb:de P w K mg base k CR "prepare" ["self","saying","place"] (Ki CR)) :
 de P w K mg base (k+1) CR "go_on" ["self"] (Kk CR):=show _ by
 refine h.kM JM (by rintro ds S Q E ⟨_,a,A,r,n,r',e,_⟩;rw[e];rfl) λf cdv A0 outer s0 H E ds S Q W hr hA=>?_;obtain⟨S0,a,A,r,n,r',rfl,h,hg,hq⟩:=hA;refine⟨_,(au (nv ek (fm.pt (w_and (sH (cV T.cl T.n_pending (aa 0) rfl) (λ_=>rfl)) (pk (bq oY pA (cV T.cl T.n_ending (aa 0) rfl) fX (bj _))))) (au (aN (i:=1) JM.nd rfl (Or.inl rfl) (iQ cw jj j_ jA jE (cV T.cl T.n_pending (aa 0) rfl)))
 (ax (bS (ni (aD aP aQ (aa 1) aj (λ_ _=>rfl))) (ax (b7 (mr Ba T.cl hr (aa 0) (ae (aD aP aQ (aa 1) aj (λ_ _=>rfl)) (ae (aD aP aQ (aa 1) aj (λ_ _=>rfl)) ah))))) (ax (b7 (mr Bb T.cl hr (aa 0) (ae (aD aP aQ (aa 1) aj (λ_ _=>rfl)) (ae (aD aP aQ (aa 1) aj (λ_ _=>rfl)) ah)))))))))
 (ax (bS (bq oY pA (cV T.cl T.n_ending (aa 0) rfl) fX (bj _)) (ax (i7 T.cl T.n_ending (aa 0) (bJ (ae bG (ae (iQ cw jj j_ jA jE (cV T.cl T.n_waiting (aa 0) rfl)) (ae (dJ fj fu rfl G.len fg (ae (cV T.cl T.n_begun (aa 0) rfl) ah)) ah)))) rfl)) bV))),?_⟩
 nofun;refine nB (λm σ S=>oj λA r x1=>σ=[some (.ref a),x1]/\RS CR S0 S a A r/\gX m r r') n ⟨A,r,none,rfl,h,hg⟩ ?_;clear h hg;rintro m σ S ⟨A,r,x1,rfl,h,hg⟩;have hpe:=h.pe;have hbe:=h.be;nofun;cases hg with
 |@fin _ xs v h1 h2 h3 =>
  have h2':kB r.en=true:=by rw[h2];rfl
  have hw:S A.wa=some (.lst (xs++[v])):=by rw[h.wa,h3]
  rw[h1];nofun;rw[h2'];nofun;refine ig hw ?_;have g:=h.kO xs;have gb:=g.be;generalize up S A.wa _=S1 at g gb ⊢;nofun;refine Au g ?_;nofun;exact hq _ _ (g.As _)
 |@grown _ ds h1 =>
  have h2':kB r'.en=false:=by rw[h1];rfl
  cases hb:(!r'.pe.isEmpty) with
  |true =>
   refine lW ?_;nofun;rw[h2'];nofun;rw[h2'];nofun;exact hq _ _ h
  |false =>
   refine o7 ?_;nofun;rw[h2'];nofun;exact hq _ _ h
 |@prep n _ _ ps qs s p h1 h2 h3 h4 h5 h6 =>
  have h2':kB r.en=true:=by rw[h2];rfl
  have hb:(!r.pe.isEmpty)=true:=by rw[h3];simp
  rw[h3]at hpe;rw[hb];nofun;rw[h2'];nofun;refine ig hpe ?_;have g:=h.nM ps;generalize up S A.pe _=S1 at g ⊢;nofun;refine i9 g (λ_ _ _ _ _ _ _=>rfl) ?_;nofun;refine⟨S0,a,A,_,s,p,qs,rfl,g,h1,h4,h5,λS' g2=>?_⟩;nofun;exact⟨n,xw _,A,_,_,rfl,g2,h6⟩
 |@Kj n _ r1 _ ps s p h1 h2 h3 h4 h5 =>
  have h2':kB r.en=true:=by rw[h2];rfl
  have hb:(!r.pe.isEmpty)=true:=by rw[h3];simp
  rw[h3]at hpe;rw[hb];nofun;rw[h2'];nofun;refine ig hpe ?_;have g:=h.nM ps;generalize up S A.pe _=S1 at g ⊢;nofun;refine i9 g (λ_ _ _ _ _ _ _=>rfl) ?_;nofun;refine⟨S0,a,A,_,s,p,r1,rfl,g,h1,h4,λA' S' g2=>?_⟩;nofun;exact⟨n,xw _,A',_,_,rfl,g2,h5⟩
def fD(prog:List Er):List (Key×D):=(prog.map λe=>((Sum.inr e.name:Key),D.tup (e.ps.map D.str))).foldl (λacc kv=>putD acc kv.1 kv.2) []
structure Runs(prog:List Er)(x:Str)(ts:List D)(mo:Int)(r':Rn):Prop where
 len:prog.length<=100
 pre:∀e∈prog,e.body.pre.length<=100000
 ex:∃(zs:List Str) (kvs:List (Key×D)) (r1:Rn) (n:Nat),cm (fD prog) (.inr x)=some (.tup (zs.map D.str))/\zs.length=ts.length/\jQ [] 0 prog=some kvs/\qO ⟨fD prog,kvs,mo,[],[],[],.non⟩ .non .non x (.tup ts) r1/\gX n r1 r'
inductive zm9(CR:Addr)(ds:List D)(S:af)(Q:K3)(_:X3):Prop where
 |mk (pr tr:Addr) (prog:List Er) (x:Str) (ts:List D) (mo:Int) (r':Rn) (_:ds=[.ref pr,.str x,.ref tr,.int mo]) (_:S pr=some (.lst (prog.map Er.d))) (_:S tr=some (.lst ts)) (_:Runs prog x ts mo r') (_:∀a A S',RS CR S S' a A r'->Q (.ref a) S')
def Kl(CR:Addr):aK:= (zm9 CR)
theorem zll{k:Nat}(h:aA K mg "ended_run" nY ["program","name","trees","most"])(G:Gs K mg)(T:iw K mg CR)(Bc:aq P w K mg base (k+1) "refuse_missing" ["name","known"] AX)(aab:aq P w K mg base (k+1) "refuse_miscounted" ["name","row","needed"] J5)
 (aac:aq P w K mg base (k+1) "numbered_bodies" ["program"] J9) (aad:de P w K mg base k CR "__init__" ["self","params","bodies","most"] (Kb CR)) (qQ:de P w K mg base (k+1) CR "begin" ["self","parent","number","name","trees"] (A6 CR))
 (Be:de P w K mg base (k+1) CR "go_on" ["self"] (Kk CR)):aq P w K mg base (k+1+1) "ended_run" ["program","name","trees","most"] (Kl CR):=show _ by
 refine h.l9 Ay (by rintro ds S Q E ⟨pr,tr,prog,x,ts,mo,r',e,_⟩;rw[e];rfl) λf cdv A outer s0 H E ds S Q W hr hA=>?_;obtain⟨pr,tr,prog,x,ts,mo,r',rfl,hS,hT,hR,hq⟩:=hA;obtain⟨zs,kvs,r0,n,h1,h2,h3,h5,h6⟩:=hR.ex;have hl:=hR.len;have hu:=o6 hr;refine⟨_,Q,(au (aN (i:=4) Ay.nd rfl (Or.inl rfl) (gq UX UZ rfl G.dict boot_dict (ae (i8 (cb:=ak nY) (N:=["program","name","trees","most","params","ended"]) (M:=[]) (js:=[]) ⟨rfl,by cbv,by cbv,by cbv,by cbv,by cbv⟩ (by cbv) (by cbv) rfl (fY (aa 0)) (λ_ _ _ _ _=>eO) (λ_ _ _ _ _=>(bJ (ae (aD aP aQ (aa 0) aj (λ_ _=>rfl)) (ae (aD aP aQ (aa 0) aj (λ_ _=>rfl)) ah))))) ah)))
 (au (b7 (aJ Bc hr rfl (ae (aa 1) (ae (aa 4) ah))))
 (au (b7 (aJ aab hr rfl (ae (aa 1) (ae (aa 2) (ae (dJ fj fu rfl G.len fg (ae (za hu (aa 4) (aa 1) (λ_ _=>rfl)) ah)) ah)))))
 (au (aN (i:=5) Ay.nd rfl (Or.inl rfl) (Xj aad T.YS T.kc hr rfl T.at_ (ae (aa 4) (ae (aJ aac hr rfl (ae (aa 0) ah)) (ae (aa 3) ah)))))
 (au (b7 (mr qQ T.cl hr (aa 5) (ae fX (ae fX (ae (aa 1) (ae (gq iM iR rfl G.tuple iG (ae (aa 2) ah)) ah))))))
 (au (b7 (Jx Be T.cl hr (aa 5)))
 (ax (a_ (aa 5))))))))),?_,λ_ _ q=>q⟩
 nofun;refine gS (λi=>((prog.map λe=>D.tup [.str e.name,.tup (e.ps.map D.str)]).getD i .non)) (by rw[aB];lia) (by exact hS) ?_ ?_
 ·intro i d hd P hP;rw[aS]at hd;obtain⟨e,he,rfl⟩:=dA.mp hd;unfold Er.d;nofun;rw[cz,aS,he]at hP;exact hP
 have en:((ba (prog.map Er.d).length).map λi=>((prog.map λe=>D.tup [.str e.name,.tup (e.ps.map D.str)]).getD i .non))=(prog.map λe=>((Sum.inr e.name:Key),D.tup (e.ps.map D.str))).map λkv=>D.tup [kD kv.1,kv.2]:=by
  rw[aB,fe];apply iE;intro i;rw[aS,aS];by_cases hi:i<prog.length
  ·rw[jl hi,bb hi];show some (List.getD _ _ _)=some _;rw[cz,aS,bb hi];rfl
  ·rw[dh (by simpa using hi),dh (by lia)];rfl
 rw[en];intro pl hpl;have a1:=az (o:=.lst ((prog.map λe=>((Sum.inr e.name:Key),D.tup (e.ps.map D.str))).map λkv=>D.tup [kD kv.1,kv.2])) hS hpl;have a2:=az (o:=.lst ((prog.map λe=>((Sum.inr e.name:Key),D.tup (e.ps.map D.str))).map λkv=>D.tup [kD kv.1,kv.2])) hT hpl;nofun;refine U3 av λpd hpd=>?_;have eP:List.foldl (λacc (kv:Key×D)=>putD acc kv.1 kv.2) [] (prog.map λe=>((Sum.inr e.name:Key),D.tup (e.ps.map D.str)))=fD prog:=rfl;rw[eP];have b1:=az (o:=.bp (fD prog)) a1 hpd;have b2:=az (o:=.bp (fD prog)) a2 hpd;have b3:=av (S:=up S pl (.lst ((prog.map λe=>((Sum.inr e.name:Key),D.tup (e.ps.map D.str))).map λkv=>D.tup [kD kv.1,kv.2]))) (a:=pd) (o:=.bp (fD prog));have b0:Sub S (up (up S pl (.lst ((prog.map λe=>((Sum.inr e.name:Key),D.tup (e.ps.map D.str))).map λkv=>D.tup [kD kv.1,kv.2]))) pd (.bp (fD prog))):=((Sub.refl S).up hpl).up hpd;generalize up (up S pl _) pd (.bp (fD prog))=S1 at b0 b1 b2 b3 ⊢;nofun;refine⟨x,_,rfl,.inr ⟨pd,_,rfl,b3,by rw[h1];rfl⟩,?_⟩;nofun;refine zw b3 h1 ?_;nofun;have e1:((zs.map D.str).length:Int)=(ts.length:Int):=by rw[aB,h2]
 rw[e1];refine⟨x,tr,ts,rfl,b2,?_⟩;nofun;refine⟨pr,prog,kvs,rfl,b1,hl,hR.pre,h3,λpb S2 sub hb=>?_⟩;nofun;intro a ha;have c2:=az (o:=.ins CR []) (sub _ _ b2) ha;refine⟨S,a,pd,pb,mo,fD prog,kvs,rfl,av,az (sub _ _ b3) ha,az hb ha,(b0.trans sub).up ha,(b0.trans sub).free ha,λA1 S3 r3=>⟨rfl,?_⟩⟩;have d2:=r3.sub _ _ hT;nofun;refine i9 r3 (λ_ _ _ _ _ _ _=>rfl) ?_;nofun;refine⟨S,a,A1,_,_,_,x,_,_,rfl,r3,b8 _,b8 _,h5,λS4 r4=>?_⟩;nofun;refine i9 r4 (λ_ _ _ _ _ _ _=>rfl) ?_;refine⟨S,a,A1,_,n,r',rfl,r4,h6,λA2 S5 r5=>?_⟩;nofun;exact hq a A2 S5 r5
inductive aae (ds:List D)(S:af)(q:List D->Prop):Prop where
 |mk (pr:Addr) (prog:List Er) (_:ds=[.ref pr]) (_:S pr=some (.lst (prog.map Er.d))) (_:prog.length<=100) (_:(∀e∈prog,e.body.pre.length<=20000)) (_:(bK prog).length<=100000) (_:q ((bK prog).map gx))
def Bf :aK:=iT aae
theorem aaf{k:Nat}(h:aA K mg "sends" pV ["program"])(G:Gs K mg)(qM:aq P w K mg base k "in_order" ["body"] AW):aq P w K mg base (k+1) "sends" ["program"] Bf:=show _ by
 refine h.iT wB (by rintro ds S q ⟨pr,prog,e,_⟩;rw[e];rfl) λf cdv A outer s0 H E ds S q hr hA=>?_;obtain⟨pr,prog,rfl,hS,hl,hz,hs,hq⟩:=hA;refine⟨_,(au (aN (i:=1) wB.nd rfl (Or.inl rfl) (d6 ah))
 (au (eW ek rfl (fY (aa 0)) (dD (i:=2) wB.nd rfl (Or.inl rfl)) (ax (eW ek rfl (fY (aJ qM hr rfl (ae (aD aP aQ (aa 2) aj (λ_ _=>rfl)) ah))) (dD (i:=3) wB.nd rfl (Or.inl rfl)) (ax (bS (bq bY ft (aD aP aQ (aa 3) aj (λ_ _=>rfl)) bG (bj _)) (ax (b7 (dv cw dz dH dq dE (aa 1) (ae (bJ (ae (aD aP aQ (aa 2) aj (λ_ _=>rfl)) (ae (aD aP aQ (aa 3) aj (λ_ _=>rfl)) ah))) ah)))) bV)))))
 (ax (a_ (aa 1))))),?_⟩
 nofun;intro pf hpf;have hne:pr≠pf:=ne3 hS hpf;have hS1:=az (o:=.lst []) hS hpf;nofun;refine⟨λi σ S'=>my λx2 x3=>σ=[some (.ref pr),some (.ref pf),x2,x3]/\Sub S S'/\S' pf=some (.lst ((bK (prog.take i)).map gx)),⟨none,none,rfl,(Sub.refl S).up hpf,by rw[av];rfl⟩,
  λi σ S' ⟨x2,x3,_,h1,_⟩=>h1 _ _ hS,?_,?_⟩
 ·rintro i d σ S' hd ⟨x2,x3,rfl,h1,h2⟩;rw[aS]at hd;obtain⟨e,he⟩:∃e,prog[i]?=some e:=by
   cases c:prog[i]? with
   |none=>rw[c]at hd;cases hd
   |some e=>exact⟨e,rfl⟩
  rw[he]at hd;cases hd;have Bg:e∈prog:=dg he;have htk:prog.take (i+1)=prog.take i++[e]:=by rw[gB,he];rfl
  have hso:bK (prog.take (i+1))=bK (prog.take i)++e.body.cJ.map λto=>(e.name,to):=by rw[htk];simp[bK]
  have hbd:(bK (prog.take (i+1))).length<=(bK prog).length:=by
   rw[HM,HM]
   conv=>rhs;rw[<-uA (i+1) prog,cF,List.sum_append]
   lia
  unfold Er.d;nofun;refine⟨e.body,rfl,by have:=hz e Bg;lia,?_⟩;intro pl hpl;nofun;refine⟨λj σ S2=>∃x3,σ=[some (.ref pr),some (.ref pf),some e.d,x3]/\Sub S S2/\S2 pl=some (.lst (e.body.pre.map Sy.d))/\S2 pf=some (.lst ((bK (prog.take i)++((e.body.pre.take j).filterMap Sy.nm).map λto=>(e.name,to)).map gx)),
   ⟨_,rfl,h1.up hpl,av,by rw[az h2 hpl];simp⟩,λj σ S2 ⟨_,_,_,g,_⟩=>g,?_,?_⟩
  ·rintro j d σ S2 hd ⟨y3,rfl,g1,g2,g3⟩;rw[aS]at hd;obtain⟨a,ha⟩:∃a,e.body.pre[j]?=some a:=by
    cases c:e.body.pre[j]? with
    |none=>rw[c]at hd;cases hd
    |some a=>exact⟨a,rfl⟩
   rw[ha]at hd;cases hd;have Bh:pl≠pf:=(ne3 h2 hpl).symm;have kW:e.body.pre.take (j+1)=e.body.pre.take j++[a]:=by rw[gB,ha];rfl
   have Bi:(bK (prog.take i)++((e.body.pre.take j).filterMap Sy.nm).map λto=>(e.name,to)).length<=100000:=by
    have:((e.body.pre.take j).filterMap Sy.nm).length<=e.body.cJ.length:=by
     unfold Sy.cJ
     conv=>rhs;rw[<-uA j e.body.pre,oS,aU]
     lia
    rw[hso,aU,aB]at hbd;rw[aU,aB];lia
   cases a with
   |send x as =>
    simp only[Sy.d];unfold Er.d;nofun;refine cL g3 (by rw[aB];exact cT (by lia)) ?_;refine⟨_,rfl,?_,by rw[aM Bh];exact g2,?_⟩
    ·intro b o hb;rw[aM]
     ·exact g1 b o hb
     ·rintro rfl;rw[hpf]at hb;cases hb
    ·rw[av,kW];simp[Sy.nm,gx]
   |name x =>
    simp only[Sy.d];nofun;exact⟨_,rfl,g1,g2,by rw[kW,oS];simpa[fS,Sy.nm]using g3⟩
   |aX =>
    simp only[Sy.d];nofun;exact⟨_,rfl,g1,g2,by rw[kW,oS];simpa[fS,Sy.nm]using g3⟩
   |pair _ _ =>
    simp only[Sy.d];nofun;exact⟨_,rfl,g1,g2,by rw[kW,oS];simpa[fS,Sy.nm]using g3⟩
   |left _ =>
    simp only[Sy.d];nofun;exact⟨_,rfl,g1,g2,by rw[kW,oS];simpa[fS,Sy.nm]using g3⟩
   |right _ =>
    simp only[Sy.d];nofun;exact⟨_,rfl,g1,g2,by rw[kW,oS];simpa[fS,Sy.nm]using g3⟩
   |fork _ _ _ =>
    simp only[Sy.d];nofun;exact⟨_,rfl,g1,g2,by rw[kW,oS];simpa[fS,Sy.nm]using g3⟩
  ·rintro σ S2 ⟨y3,rfl,g1,g2,g3⟩;refine⟨_,_,rfl,g1,?_⟩;rw[g3,aB,lD,hso];rfl
 ·rintro σ S' ⟨x2,x3,rfl,h1,h2⟩;rw[aB,lD]at h2;nofun;exact⟨pf,_,rfl,hpf,h1,h2,hq⟩
inductive zg5 (ds:List D)(q:D->Prop):Prop where
 |mk (s:Sy) (_:ds=[s.d]) (_:q (tz s.base))
def Bj :aK:=vS zg5
theorem zgf{k:Nat}(h:aA K mg "path_parameter" p7 ["saying"])(G:Gs K mg):aq P w K mg base (k+1) "path_parameter" ["saying"] Bj:=show _ by
 refine h.val Aw (by rintro ds q ⟨s,e,_⟩;rw[e];rfl) λf cdv A outer s0 H E ds q hr hA=>?_;obtain⟨s,rfl,hq⟩:=hA;refine⟨_,(au (aN (i:=1) Aw.nd rfl (Or.inl rfl) (aa 0))
 (au (nv ek (bq yF sR (aD aP aQ (aa 1) aj (λ_ _=>rfl)) (bJ (ae bG (ae bG ah))) (by with_unfolding_all rfl)) (ax (aN (i:=1) Aw.nd rfl (Or.inl rfl) (aD aP aQ (aa 1) aj (λ_ _=>rfl)))))
 (ax (a_ (nk (bq bY ft (aD aP aQ (aa 1) aj (λ_ _=>rfl)) bG (bj _)) (aD aP aQ (aa 1) aj (λ_ _=>rfl)) fX))))),?_⟩
 nofun;refine nB (λm σ S=>∃r:Sy,σ=[some s.d,some r.d]/\r.base=s.base/\m=r.deep) _ ⟨s,rfl,rfl,rfl⟩ ?_;rintro m σ S ⟨r,rfl,hb,rfl⟩;rw[<-hb]at hq;cases r with
 |left a =>
  simp only[Sy.d];nofun;exact⟨a.deep,by simp only[Sy.deep];lia,a,rfl,hb,rfl⟩
 |right a =>
  simp only[Sy.d];nofun;exact⟨a.deep,by simp only[Sy.deep];lia,a,rfl,hb,rfl⟩
 |name x =>
  simp only[Sy.d];nofun;exact hq
 |aX =>
  simp only[Sy.d];nofun;exact hq
 |pair a b =>
  simp only[Sy.d];nofun;exact hq
 |fork a b c =>
  simp only[Sy.d];nofun;exact hq
 |send x as =>
  simp only[Sy.d];nofun;exact hq
inductive zk0 (ds:List D)(q:D->Prop):Prop where
 |mk (p:Str) (s:Sy) (k:List Str) (_:ds=[.str p,s.d,.tup (k.map D.str)]) (_:q (.int (bA p s k)))
def Km :aK:=vS zk0
theorem zi1{k:Nat}(h:aA K mg "told_number" p8 ["param","saying","known"])(G:Gs K mg)(Bl:aq P w K mg base k "path_parameter" ["saying"] Bj) :
 aq P w K mg base (k+1) "told_number" ["param","saying","known"] Km:=show _ by
 refine h.val Ys (by rintro ds q ⟨_,_,_,e,_⟩;rw[e];rfl) λf cdv A outer s0 H E ds q hr hA=>?_;obtain⟨p,s,kn,rfl,hq⟩:=hA;refine⟨_,(au (bS (fm.pt (w_and (bq u5 GK (aD aP aQ (aa 1) aj (λ_ _=>rfl)) bG (bj _)) (pk (bq u5 Wy (aJ Bl hr rfl (ae (aa 1) ah)) (aa 0) (bj _))))) (ax (a_ aj)) bV)
 (au (bS (fm.pt (w_or (bq bY ft (aD aP aQ (aa 1) aj (λ_ _=>rfl)) bG (bj _)) (F3 (bq E2 sR (aa 0) (aa 2) (by with_unfolding_all rfl))))) (ax (a_ aj)) bV)
 (ax (a_ aj)))),?_⟩
 by_cases hk:p∈kn
 ·cases s with
  |aX =>
   simp only[Sy.d];nofun;simpa[bA,hk]using hq
  |name x =>
   by_cases hs:Sy.base (.name x)=some p
   ·simp only[Sy.d];nofun;refine⟨(.name x),rfl,?_⟩;nofun;have hs':=hs;simp only[Sy.base,uu]at hs';simpa[bA,hs']using hq
   ·simp only[Sy.d];nofun;refine⟨(.name x),rfl,?_⟩;nofun;have hs':=hs;simp only[Sy.base,uu]at hs';simpa[bA,hs']using hq
  |pair a b =>
   by_cases hs:Sy.base (.pair a b)=some p
   ·simp only[Sy.d];nofun;refine⟨(.pair a b),rfl,?_⟩;nofun;simpa[bA,hs,hk]using hq
   ·simp only[Sy.d];nofun;refine⟨(.pair a b),rfl,?_⟩;nofun;simpa[bA,hs,hk]using hq
  |left a =>
   by_cases hs:Sy.base (.left a)=some p
   ·simp only[Sy.d];nofun;refine⟨(.left a),rfl,?_⟩;nofun;simpa[bA,hs,hk]using hq
   ·simp only[Sy.d];nofun;refine⟨(.left a),rfl,?_⟩;nofun;simpa[bA,hs,hk]using hq
  |right a =>
   by_cases hs:Sy.base (.right a)=some p
   ·simp only[Sy.d];nofun;refine⟨(.right a),rfl,?_⟩;nofun;simpa[bA,hs,hk]using hq
   ·simp only[Sy.d];nofun;refine⟨(.right a),rfl,?_⟩;nofun;simpa[bA,hs,hk]using hq
  |fork a b c =>
   by_cases hs:Sy.base (.fork a b c)=some p
   ·simp only[Sy.d];nofun;refine⟨(.fork a b c),rfl,?_⟩;nofun;simpa[bA,hs,hk]using hq
   ·simp only[Sy.d];nofun;refine⟨(.fork a b c),rfl,?_⟩;nofun;simpa[bA,hs,hk]using hq
  |send x as =>
   by_cases hs:Sy.base (.send x as)=some p
   ·simp only[Sy.d];nofun;refine⟨(.send x as),rfl,?_⟩;nofun;simpa[bA,hs,hk]using hq
   ·simp only[Sy.d];nofun;refine⟨(.send x as),rfl,?_⟩;nofun;simpa[bA,hs,hk]using hq
 ·cases s with
  |aX =>
   simp only[Sy.d];nofun;simpa[bA,hk]using hq
  |name x =>
   by_cases hs:Sy.base (.name x)=some p
   ·simp only[Sy.d];nofun;refine⟨(.name x),rfl,?_⟩;nofun;have hs':=hs;simp only[Sy.base,uu]at hs';simpa[bA,hs']using hq
   ·simp only[Sy.d];nofun;refine⟨(.name x),rfl,?_⟩;nofun;have hs':=hs;simp only[Sy.base,uu]at hs';simpa[bA,hs']using hq
  |pair a b =>
   by_cases hs:Sy.base (.pair a b)=some p
   ·simp only[Sy.d];nofun;refine⟨(.pair a b),rfl,?_⟩;nofun;simpa[bA,hs,hk]using hq
   ·simp only[Sy.d];nofun;refine⟨(.pair a b),rfl,?_⟩;nofun;simpa[bA,hs,hk]using hq
  |left a =>
   by_cases hs:Sy.base (.left a)=some p
   ·simp only[Sy.d];nofun;refine⟨(.left a),rfl,?_⟩;nofun;simpa[bA,hs,hk]using hq
   ·simp only[Sy.d];nofun;refine⟨(.left a),rfl,?_⟩;nofun;simpa[bA,hs,hk]using hq
  |right a =>
   by_cases hs:Sy.base (.right a)=some p
   ·simp only[Sy.d];nofun;refine⟨(.right a),rfl,?_⟩;nofun;simpa[bA,hs,hk]using hq
   ·simp only[Sy.d];nofun;refine⟨(.right a),rfl,?_⟩;nofun;simpa[bA,hs,hk]using hq
  |fork a b c =>
   by_cases hs:Sy.base (.fork a b c)=some p
   ·simp only[Sy.d];nofun;refine⟨(.fork a b c),rfl,?_⟩;nofun;simpa[bA,hs,hk]using hq
   ·simp only[Sy.d];nofun;refine⟨(.fork a b c),rfl,?_⟩;nofun;simpa[bA,hs,hk]using hq
  |send x as =>
   by_cases hs:Sy.base (.send x as)=some p
   ·simp only[Sy.d];nofun;refine⟨(.send x as),rfl,?_⟩;nofun;simpa[bA,hs,hk]using hq
   ·simp only[Sy.d];nofun;refine⟨(.send x as),rfl,?_⟩;nofun;simpa[bA,hs,hk]using hq
inductive zpr (ds:List D)(q:D->Prop):Prop where
 |mk (p:Str) (as:List Sy) (k:List Str) (_:ds=[.str p,.tup (as.map Sy.d),.tup (k.map D.str)]) (_:as.length<=1000) (_:q (cC (as.map λa=>bA p a k)))
def Kn :aK:=vS zpr
theorem zmm{k:Nat}(h:aA K mg "told_row" nP ["param","sayings","known"])(G:Gs K mg)(aag:aq P w K mg base k "told_number" ["param","saying","known"] Km) :
 aq P w K mg base (k+1) "told_row" ["param","sayings","known"] Kn:=show _ by
 refine h.val Yr (by rintro ds q ⟨_,_,_,e,_⟩;rw[e];rfl) λf cdv A outer s0 H E ds q hr hA=>?_;obtain⟨p,as,kn,rfl,hl,hq⟩:=hA;refine⟨_,(ax (a_ (gq iM iR rfl G.tuple iG (ae (i8 (cb:=ak nP) (N:=["param","sayings","known"]) (M:=["param","known"]) (js:=[0,2]) ⟨rfl,by cbv,by cbv,by cbv,by cbv,by cbv⟩ (by cbv) (by cbv) rfl (pw (aa 1)) (λ_ _ _ _ _=>eO) (λ_ _ _ _ _=>(aJ aag hr rfl (ae (aa 1) (ae (aa 0) (ae (aa 2) ah)))))) ah)))),?_⟩;nofun;refine gS (λi=>.int (bA p (as.getD i .aX) kn)) (by rw[aB];lia) trivial ?_ ?_
 ·intro i d hd P hP;rw[aS]at hd;obtain⟨a,ha,rfl⟩:=dA.mp hd;rw[cz,ha]at hP;nofun;exact⟨p,a,kn,rfl,hP⟩
 have el:((ba (as.map Sy.d).length).map λi=>D.int (bA p (as.getD i .aX) kn))=(as.map λa=>bA p a kn).map D.int:=by
  rw[aB,fe];apply iE;intro i;rw[aS,aS];by_cases hi:i<as.length
  ·rw[jl hi,bb hi];simp[cz,hi]
  ·rw[dh (by simpa using hi),dh (by lia)];rfl
 rw[el];intro p1 hp1;nofun;exact hq
inductive zi7 (ds:List D)(q:List D->Prop):Prop where
 |mk (s:Sy) (k:List Str) (_:ds=[s.d,.tup (k.map D.str)]) (_:k.length<=1000) (_:s.parts.length<=1000) (_:q ((s.pp Sy.bases k).map bW))
def Ko :aK:=sT zi7
theorem zh7{k:Nat}(h:aA K mg "placed_parts" nO ["saying","known"])(G:Gs K mg)(oA:aq P w K mg base k "parts" ["saying"] wK)(Bl:aq P w K mg base k "path_parameter" ["saying"] Bj) :
 aq P w K mg base (k+1) "placed_parts" ["saying","known"] Ko:=show _ by
 refine h.lst Av (by rintro ds q ⟨_,_,e,_⟩;rw[e];rfl) λf cdv A outer s0 H E ds q hr hA=>?_;obtain⟨s,kn,rfl,hk,hp,hq⟩:=hA;refine⟨_,(au (bS (bq u5 GK (aD aP aQ (aa 0) aj (λ_ _=>rfl)) bG (bj _)) (ax (a_ (i8 (cb:=ak nO) (N:=["saying","known","param","inner"]) (M:=["known"]) (js:=[1]) ⟨rfl,by cbv,by cbv,by cbv,by cbv,by cbv⟩ (by cbv) (by cbv) rfl (pw (aJ oA hr rfl (ae (aa 0) ah))) (λ_ _ _ _ _=>eO) (λ_ _ _ _ _=>(bJ (ae (aa 0) (ae (aa 1) ah))))))) bV)
 (au (aN (i:=2) Av.nd rfl (Or.inl rfl) (aJ Bl hr rfl (ae (aD aP aQ (aa 0) aj (λ_ _=>rfl)) ah)))
 (au (aN (i:=3) Av.nd rfl (Or.inl rfl) (nk (bq oY pA (aa 2) fX (bj _)) (aa 1) (aI Ad Ae (aa 1) (bJ (ae (aa 2) ah)))))
 (ax (a_ (d6 (ae (bJ (ae (aD aP aQ (aa 0) aj (λ_ _=>rfl)) (ae (aa 1) ah))) (ae (bJ (ae (aD aP aQ (aa 0) aj (λ_ _=>rfl)) (ae (aa 3) ah))) (ae (bJ (ae (aD aP aQ (aa 0) aj (λ_ _=>rfl)) (ae (aa 1) ah))) ah))))))))),?_⟩
 by_cases hf:∃a b c,s=.fork a b c
 ·obtain⟨a,b,c,rfl⟩:=hf;simp only[Sy.d];nofun;refine⟨a,rfl,?_⟩;cases hb:a.base with
  |none =>
   simp only[tz];nofun;intro p1 hp1;nofun;refine⟨p1,_,rfl,av,?_⟩;simpa[Sy.pp,bW,Sy.bases,hb]using hq
  |some x =>
   simp only[tz];nofun;refine Af (by rw[aB];exact fN (by simp;lia)) ?_;nofun;intro p1 hp1;nofun;refine⟨p1,_,rfl,av,?_⟩;simpa[Sy.pp,bW,Sy.bases,hb]using hq
 ·have et:∃t r,s.d=.tup (.str t::r)/\¬t="fork":=by
   cases s<;>first|exact⟨_,_,rfl,by decide⟩|exact(hf ⟨_,_,_,rfl⟩).elim
  obtain⟨t,r,ed,ht⟩:=et;have ep:s.pp Sy.bases kn=s.parts.map λa=>(a,kn):=by
   cases s<;>first|rfl|exact(hf ⟨_,_,_,rfl⟩).elim
  have es:D.tup (.str t::r)=s.d:=ed.symm;rw[ed];nofun;refine⟨s,by rw[ed],?_⟩;nofun;refine gS (λi=>.tup [(s.parts.getD i .aX).d,.tup (kn.map D.str)]) (by rw[aB];lia) trivial ?_ ?_
  ·intro i d hd P hP;rw[aS]at hd;obtain⟨a,ha,rfl⟩:=dA.mp hd;rw[cz,ha]at hP;nofun;exact hP
  have el:((ba (s.parts.map Sy.d).length).map λi=>D.tup [(s.parts.getD i .aX).d,.tup (kn.map D.str)])=(s.pp Sy.bases kn).map bW:=by
   rw[aB,ep,fe];apply iE;intro i;rw[aS,aS];by_cases hi:i<s.parts.length
   ·rw[jl hi,bb hi];simp[cz,hi,bW]
   ·rw[dh (by simpa using hi),dh (by lia)];rfl
  rw[el];intro p1 hp1;nofun;exact⟨p1,_,rfl,av,hq⟩
inductive zi6 (ds:List D)(q:List D->Prop):Prop where
 |mk (s:Sy) (_:ds=[s.d]) (_:s.pre.length<=100000) (_:(∀p∈s.cg Sy.bases [],p.2.length<=1000/\p.1.parts.length<=1000)) (_:q (((s.cg Sy.bases []).filter λp=>p.1.nm.isSome).map bW))
def Kq :aK:=sT zi6
theorem zh6{k:Nat}(h:aA K mg "placed_sends" p6 ["body"])(G:Gs K mg)(aah:aq P w K mg base k "placed_parts" ["saying","known"] Ko) :
 aq P w K mg base (k+1) "placed_sends" ["body"] Kq:=show _ by
 refine h.lst tL (by rintro ds q ⟨s,e,_⟩;rw[e];rfl) λf cdv A outer s0 H E ds q hr hA=>?_;obtain⟨s,rfl,hz,hk,hq⟩:=hA;refine⟨_,(au (aN (i:=1) tL.nd rfl (Or.inl rfl) (d6 ah))
 (au (aN (i:=2) tL.nd rfl (Or.inl rfl) (d6 (ae (bJ (ae (aa 0) (ae (bJ ah) ah))) ah)))
 (au (nv ek (sH (aa 2) (λ_=>rfl)) (au (aN (i:=3) tL.nd rfl (Or.inl rfl) (iQ cw jj j_ jA jE (aa 2)))
 (au (bS (bq bY ft (aD aP aQ (aD aP aQ (aa 3) aj (λ_ _=>rfl)) aj (λ_ _=>rfl)) bG (bj _)) (ax (b7 (dv cw dz dH dq dE (aa 1) (ae (aa 3) ah)))) bV)
 (ax (eW ek rfl (Io rfl G.wF (ae (aJ aah hr rfl (ae (aD aP aQ (aa 3) aj (λ_ _=>rfl)) (ae (aD aP aQ (aa 3) aj (λ_ _=>rfl)) ah))) ah)) (dD (i:=4) tL.nd rfl (Or.inl rfl)) (ax (b7 (dv cw dz dH dq dE (aa 2) (ae (aa 4) ah)))))))))
 (ax (a_ (aa 1)))))),?_⟩
 have hz':(s.cg Sy.bases []).length<=100000:=by
  have:=congrArg j0 (Sy.gP Sy.bases s []);rw[aB]at this;lia
 nofun;intro pf hpf;nofun;intro pe hpe;have hne:pf≠pe:=ne3 av hpe;nofun;refine nB (λm σ S=>jN λ(fs ps:List (Sy×List Str)) (x3 x4:Option D)=>σ=[some s.d,some (.ref pf),some (.ref pe),x3,x4]/\S pf=some (.lst ((fs.filter λp=>p.1.nm.isSome).map bW))/\S pe=some (.lst (ps.map bW))/\fs++dW Sy.bases ps.reverse=s.cg Sy.bases []/\m=(dW Sy.bases ps.reverse).length)
  _ ⟨[],[(s,[])],none,none,rfl,az av hpe,av,by simp[dW],rfl⟩ ?_
 rintro m σ S ⟨fs,ps,x3,x4,rfl,hf,he,hfs,rfl⟩;nofun;rcases snoc_cases ps with rfl|⟨ps',s',rfl⟩
 ·refine o7 ?_;nofun;refine⟨pf,_,rfl,hf,?_⟩;have e:fs=s.cg Sy.bases []:=by simpa[dW]using hfs
  rw[e];exact hq
 ·have eb:(!((ps'++[s']).map bW).isEmpty)=true:=by simp
  rw[eb];refine lW ?_;have hlen:=congrArg j0 hfs;rw[aU]at hlen;have er:(ps'++[s']).reverse=s'::ps'.reverse:=by simp
  rw[er,Ag,wt]at hfs hlen;simp only[aU,bC]at hlen;have hmem:s'∈s.cg Sy.bases []:=by
   rw[<-hfs];simp
  obtain⟨k1,k2⟩:=hk s' hmem;have hfl:(fs.filter λp=>p.1.nm.isSome).length<=fs.length:=xV _ _;have he':S pe=some (.lst (ps'.map bW++[bW s'])):=by rw[he];simp
  obtain⟨s1,kn⟩:=s';dsimp only at hlen hfs k1 k2;have et:∃t r,s1.d=.tup (.str t::r)/\(s1.nm.isSome=true->t="send")/\(s1.nm.isSome=false->¬t="send"):=by
   cases s1<;>exact⟨_,_,rfl,λz=>by first|rfl|(simp[Sy.nm]at z),λz=>by first|decide|(simp[Sy.nm]at z)⟩
  obtain⟨t,r,ed,ht1,gg⟩:=et;nofun;refine ig he' ?_;have ev:bW (s1,kn)=.tup [.tup (.str t::r),.tup (kn.map D.str)]:=by unfold bW;rw[ed]
  rw[ev];have hf1:up S pe (.lst (ps'.map bW)) pf=some (.lst ((fs.filter λp=>p.1.nm.isSome).map bW)):=by rw[aM hne];exact hf
  have t7:up S pe (.lst (ps'.map bW)) pe=some (.lst (ps'.map bW)):=av;have done:∀(S3:af) (x4:Option D),S3 pf=some (.lst (((fs++[(s1,kn)]).filter λp=>p.1.nm.isSome).map bW))->S3 pe=some (.lst ((ps'++(s1.pp Sy.bases kn).reverse).map bW)) ->
   ∃m',m'<(dW Sy.bases (ps'++[(s1,kn)]).reverse).length/\jN λ(fs ps:List (Sy×List Str)) (x3 x4':Option D)=>[some s.d,some (.ref pf),some (.ref pe),some (.tup [.tup (.str t::r),.tup (kn.map D.str)]),x4]=[some s.d,some (D.ref pf),some (.ref pe),x3,x4'] /\
    S3 pf=some (.lst ((fs.filter λp=>p.1.nm.isSome).map bW))/\S3 pe=some (.lst (ps.map bW))/\fs++dW Sy.bases ps.reverse=s.cg Sy.bases []/\m'=(dW Sy.bases ps.reverse).length:=λS3 x4 g1 g2=>by
   refine⟨_,?_,fs++[(s1,kn)],ps'++(s1.pp Sy.bases kn).reverse,_,_,rfl,g1,g2,?_,rfl⟩
   ·rw[er,Ag,wt];simp only[rF,NP,Iz,aU,bC];lia
   ·rw[<-hfs];simp[Iz]
  have hpl:(s1.pp Sy.bases kn).length<=(dW Sy.bases (s1.pp Sy.bases kn)).length:=Ah _ _;have hpl':ps'.length<=(dW Sy.bases ps'.reverse).length:=by
   have:=Ah Sy.bases ps'.reverse;simpa using this
  have el:(((s1.pp Sy.bases kn).map bW).reverse).length=(s1.pp Sy.bases kn).length:=by simp
  cases hnm:s1.nm.isSome;have e1:=gg hnm;nofun;have g1:up S pe (.lst (ps'.map bW)) pf=some (.lst (((fs++[(s1,kn)]).filter λp=>p.1.nm.isSome).map bW)):=by
   rw[hf1];simp[oR,hnm]
  have g2:=t7;generalize up S pe (.lst (ps'.map bW))=S2 at g1 g2 ⊢
  rotate_left
  have e1:=ht1 hnm;subst e1;nofun;refine cL hf1 (by rw[aB];exact cT (by lia)) ?_;have g1:up (up S pe (.lst (ps'.map bW))) pf (.lst (((fs.filter λp=>p.1.nm.isSome).map bW)++[.tup [.tup (.str "send"::r),.tup (kn.map D.str)]])) pf=some (.lst (((fs++[(s1,kn)]).filter λp=>p.1.nm.isSome).map bW)):=by
   rw[av];simp[oR,hnm,bW,ed]
  have g2:up (up S pe (.lst (ps'.map bW))) pf (.lst (((fs.filter λp=>p.1.nm.isSome).map bW)++[.tup [.tup (.str "send"::r),.tup (kn.map D.str)]])) pe=some (.lst (ps'.map bW)):=by
   rw[aM (bw hne)];exact t7
  generalize up (up S pe (.lst (ps'.map bW))) pf (.lst (((fs.filter λp=>p.1.nm.isSome).map bW)++[.tup [.tup (.str "send"::r),.tup (kn.map D.str)]]))=S2 at g1 g2 ⊢;nofun
  all_goals
   refine⟨s1,kn,by rw[ed],k1,k2,?_⟩;intro pl wL;have n1:pf≠pl:=ne3 g1 wL;have n2:pe≠pl:=ne3 g2 wL;nofun;refine⟨λi σ S'=>∃x4,σ=[some s.d,some (.ref pf),some (.ref pe),_,x4]/\S' pl=some (.lst ((s1.pp Sy.bases kn).map bW))/\S' pf=some (.lst (((fs++[(s1,kn)]).filter λp=>p.1.nm.isSome).map bW)) /\
    S' pe=some (.lst (ps'.map bW++(((s1.pp Sy.bases kn).map bW).reverse).take i)),⟨_,rfl,av,az g1 wL,by rw[az g2 wL];simp⟩,λi σ S' ⟨_,_,g,_⟩=>g,?_,?_⟩
   ·rintro i d σ S' hd ⟨y4,rfl,h1,h2,h3⟩;have hi:=(cu.mp hd).1;rw[el]at hi;nofun;refine cL h3 ?_ ?_
    ·rw[aU,dN,aB,el];exact cT (by lia)
    refine⟨_,rfl,by rw[aM (bw n2)];exact h1,by rw[aM hne];exact h2,?_⟩;rw[av,gB,hd,iF];rfl
   ·rintro σ S' ⟨y4,rfl,h1,h2,h3⟩;refine done S' _ h2 ?_;rw[h3,j8 (aV _),cF,D6]
def Bm(e:Er):Prop:=e.body.pre.length<=100000/\(∀p∈e.body.cg Sy.bases [],p.2.length<=1000/\p.1.parts.length<=1000)/\e.ps.length<=1000
inductive aai (ds:List D)(S:af)(q:List D->Prop):Prop where
 |mk (a:Addr) (prog:List Er) (_:ds=[.ref a]) (_:S a=some (.lst (prog.map Er.d))) (_:(∀e∈prog,Bm e)) (_:(eQ bA Sy.bases prog).length<=100000) (_:q ((eQ bA Sy.bases prog).map br))
def Bn :aK:=iT aai
theorem aaj{told:Str->Sy->List Str->Int}{ext:Sy->List Str}{prog:List Er}{i:Nat}{e:Er}(he:prog[i]?=some e):eQ told ext (prog.take (i+1))=eQ told ext (prog.take i)++((e.body.cg ext []).map (d9 told e)).flatten:=by
 have htk:prog.take (i+1)=prog.take i++[e]:=by rw[gB,he];rfl
 rw[htk];simp[eQ]
theorem aak{told:Str->Sy->List Str->Int}{ext:Sy->List Str}{prog:List Er}(i:Nat):(eQ told ext (prog.take i)).length<=(eQ told ext prog).length:=by
 conv=>rhs;rw[<-uA i prog]
 simp only[eQ,cF,NQ,aU];lia
theorem Kr{told:Str->Sy->List Str->Int}{e:Er}:∀l:List (Sy×List Str),((l.filter λp=>p.1.nm.isSome).map (d9 told e)).flatten=(l.map (d9 told e)).flatten
 |[]=>rfl
 |(s,k)::l=>by
  have ih:=Kr (told:=told) (e:=e) l;cases s with
  |send x as =>
   have e1:(((Sy.send x as,k):Sy×List Str)::l).filter (λp=>p.1.nm.isSome)=(Sy.send x as,k)::l.filter λp=>p.1.nm.isSome:=rfl;rw[e1,bO,xX,bO,xX,ih]
  |name x=>exact ih
  |aX=>exact ih
  |pair _ _=>exact ih
  |left _=>exact ih
  |right _=>exact ih
  |fork _ _ _=>exact ih
theorem zrc{k:Nat}(h:aA K mg "graphs" nN ["program"])(G:Gs K mg)(aal:aq P w K mg base k "placed_sends" ["body"] Kq)(C0:aq P w K mg base k "told_row" ["param","sayings","known"] Kn) :
 aq P w K mg base (k+1) "graphs" ["program"] Bn:=show _ by
 have aam:=C0;refine h.iT p5 (by rintro ds S q ⟨_,_,e,_⟩;rw[e];rfl) λf cdv A outer s0 H E ds S q hr hA=>?_;obtain⟨pr,prog,rfl,hS,hok,hz,hq⟩:=hA;refine⟨_,(au (aN (i:=1) p5.nd rfl (Or.inl rfl) (d6 ah))
 (au (eW ek rfl (fY (aa 0)) (dD (i:=2) p5.nd rfl (Or.inl rfl)) (ax (eW ek rfl (fY (aJ aal hr rfl (ae (aD aP aQ (aa 2) aj (λ_ _=>rfl)) ah))) (dD (i:=3) p5.nd rfl (Or.inr rfl)) (au (aN (i:=4) p5.nd rfl (Or.inr rfl) (aD aP aQ (aa 3) aj (λ_ _=>rfl)))
 (au (mv (i:=5) (cb:=ak nN) (N:=["program","found","errand","placed","send","rows"]) (M:=["send","placed"]) (js:=[4,3]) ⟨rfl,by cbv,by cbv,by cbv,by cbv,by cbv⟩ (by cbv) (by cbv) rfl (pw (aD aP aQ (aa 2) aj (λ_ _=>rfl))) (λ_ _ _ _ _=>eO) (λ_ _ _ _ _=>(aJ aam hr rfl (ae (aa 0) (ae (aD aP aQ (aa 1) aj (λ_ _=>rfl)) (ae (aD aP aQ (aa 2) aj (λ_ _=>rfl)) ah))))) p5.nd rfl rfl)
 (ax (b7 (dv cw dz dH dq dE (aa 1) (ae (bJ (ae (aD aP aQ (aa 2) aj (λ_ _=>rfl)) (ae (aD aP aQ (aa 4) aj (λ_ _=>rfl)) (ae (gq iM iR rfl G.tuple iG (ae (aa 5) ah)) ah)))) ah)))))))))
 (ax (a_ (aa 1))))),?_⟩
 nofun;intro pf hpf;have hne:pr≠pf:=ne3 hS hpf;have hS1:=az (o:=.lst []) hS hpf;nofun;refine⟨λi σ S'=>jN λx2 x3 x4 x5=>σ=[some (.ref pr),some (.ref pf),x2,x3,x4,x5]/\Sub S S'/\S' pf=some (.lst ((eQ bA Sy.bases (prog.take i)).map br)),⟨none,none,none,none,rfl,(Sub.refl S).up hpf,by rw[av];rfl⟩,
  λi σ S' ⟨x2,x3,x4,x5,_,h1,_⟩=>h1 _ _ hS,?_,?_⟩
 ·rintro i d σ S' hd ⟨x2,x3,x4,x5,rfl,h1,h2⟩;rw[aS]at hd;obtain⟨e,he,rfl⟩:=dA.mp hd;have Bg:e∈prog:=dg he;obtain⟨o1,o2,o3⟩:=hok e Bg;have hsn:=aaj (told:=bA) (ext:=Sy.bases) he;have hbd:=aak (told:=bA) (ext:=Sy.bases) (prog:=prog) (i+1);rw[hsn,aU]at hbd;unfold Er.d;nofun;refine⟨e.body,rfl,o1,o2,?_⟩;intro pl hpl;have Bh:pf≠pl:=ne3 h2 hpl;obtain⟨L,hL⟩:∃L,L=(e.body.cg Sy.bases []).filter λp=>p.1.nm.isSome:=⟨_,rfl⟩;rw[<-hL];have hLf:(L.map (d9 bA e)).flatten=((e.body.cg Sy.bases []).map (d9 bA e)).flatten:=by rw[hL];exact Kr _
  nofun;refine⟨λj σ S2=>oj λx3 x4 x5=>σ=[some (.ref pr),some (.ref pf),some e.d,x3,x4,x5]/\Sub S S2/\S2 pl=some (.lst (L.map bW))/\S2 pf=some (.lst ((eQ bA Sy.bases (prog.take i)++((L.take j).map (d9 bA e)).flatten).map br)),
   ⟨_,_,_,rfl,h1.up hpl,av,by rw[az h2 hpl];simp⟩,λj σ S2 ⟨_,_,_,_,_,g,_⟩=>g,?_,?_⟩
  ·rintro j d σ S2 hd ⟨y3,y4,y5,rfl,g1,g2,g3⟩;rw[aS]at hd;obtain⟨⟨a,kn⟩,ha,rfl⟩:=dA.mp hd;have haL:(a,kn)∈L:=dg ha;rw[hL,xq]at haL;obtain⟨p1,p2⟩:=o2 _ haL.1;have kW:L.take (j+1)=L.take j++[(a,kn)]:=by rw[gB,ha];rfl
   have Bi:((L.take j).map (d9 bA e)).flatten.length<=(((e.body.cg Sy.bases []).map (d9 bA e)).flatten).length:=by
    rw[<-hLf]
    conv=>rhs;rw[<-uA j L]
    simp only[cF,NQ,aU];lia
   cases a with
   |send x as =>
    have p2':as.length<=1000:=p2;unfold bW Er.d;simp only[Sy.d,Sy.nF];nofun;refine gS (λi=>cC (as.map λa=>bA (e.ps.getD i "") a kn)) (by rw[aB];lia) trivial ?_ ?_
    ·intro i d hd P hP;rw[aS]at hd;obtain⟨p,hp,rfl⟩:=dA.mp hd;rw[cz,hp]at hP;nofun;exact⟨p,as,kn,rfl,p2',hP⟩
    have el:((ba (e.ps.map D.str).length).map λi=>cC (as.map λa=>bA (e.ps.getD i "") a kn))=(e.ps.map λp=>as.map λa=>bA p a kn).map cC:=by
     rw[aB,fe];apply iE;intro i;rw[aS,aS];by_cases hi:i<e.ps.length
     ·rw[jl hi,bb hi];simp[cz,hi]
     ·rw[dh (by simpa using hi),dh (by lia)];rfl
    rw[el];intro p3 hp3;have g4:=az (o:=.lst ((e.ps.map λp=>as.map λa=>bA p a kn).map cC)) g3 hp3;have n3:pf≠p3:=ne3 g3 hp3;nofun;refine cL g4 (by rw[aB,aU];exact cT (by lia)) ?_;refine⟨_,_,_,rfl,?_,?_,?_⟩
    ·intro b o hb;rw[aM]
     ·exact(g1.up hp3) b o hb
     ·rintro rfl;rw[hpf]at hb;cases hb
    ·rw[aM (bw Bh)];exact az g2 hp3
    ·rw[av,kW];simp[d9,br,fO,iq]
   |name x=>simp[Sy.nm]at haL
   |aX=>simp[Sy.nm]at haL
   |pair _ _=>simp[Sy.nm]at haL
   |left _=>simp[Sy.nm]at haL
   |right _=>simp[Sy.nm]at haL
   |fork _ _ _=>simp[Sy.nm]at haL
  ·rintro σ S2 ⟨y3,y4,y5,rfl,g1,g2,g3⟩;refine⟨_,_,_,_,rfl,g1,?_⟩;rw[g3,aB,lD,hsn,hLf]
 ·rintro σ S' ⟨x2,x3,x4,x5,rfl,h1,h2⟩;rw[aB,lD]at h2;nofun;exact⟨pf,_,rfl,hpf,h1,h2,hq⟩
inductive ziv (ds:List D)(q:D->Prop):Prop where
 |mk (a b:Int) (_:ds=[.int a,.int b]) (_:q (.int (jn a b)))
def Ks :aK:=vS ziv
theorem zg2{k:Nat}(h:aA K mg "joined_number" p_ ["one","other"])(G:Gs K mg):aq P w K mg base (k+1) "joined_number" ["one","other"] Ks:=show _ by
 refine h.val Yw (by rintro ds q ⟨a,b,e,_⟩;rw[e];rfl) λf cdv A outer s0 H E ds q hr hA=>?_;obtain⟨a,b,rfl,hq⟩:=hA;unfold jn at hq;refine⟨_,(ax (a_ (nk (bq yF sR aj (bJ (ae (aa 0) (ae (aa 1) ah))) (by with_unfolding_all rfl)) aj (dJ (PX rfl) VN rfl G.max boot_max (ae (aa 0) (ae (aa 1) ah)))))),?_⟩;nofun;rw[VX];by_cases hc:a=0∨b=0
 ·rw[if_pos hc]at hq;refine sy hc ?_;nofun;exact hq
 ·rw[if_neg hc]at hq;refine vn hc ?_;nofun;exact hq
inductive zgo (ds:List D)(q:D->Prop):Prop where
 |mk (row:List Int) (B:cZ) (n p k:Nat) (_:ds=[cC row,iq B,.int k]) (_:Mt n p B) (_:row.length=n) (_:(∀x∈row,0<=x/\x<=2)) (_:0<n) (_:n<=1000) (_:k<p) (_:q (.int (dot row B k)))
def Kt :aK:=vS zgo
theorem zf2{k:Nat}(h:aA K mg "largest_between" nS ["row","rows","column"])(G:Gs K mg)(aan:aq P w K mg base k "joined_number" ["one","other"] Ks) :
 aq P w K mg base (k+1) "largest_between" ["row","rows","column"] Kt:=show _ by
 refine h.val Yv (by rintro ds q ⟨_,_,_,_,_,e,_⟩;rw[e];rfl) λf cdv A outer s0 H E ds q hr hA=>?_;obtain⟨row,B,n,p,c,rfl,hB,hl,hr',hn,hn',hc,hq⟩:=hA;refine⟨_,(ax (a_ (dJ (VG rfl) VM rfl G.max boot_max (ae (JE (cb:=ak nS) (N:=["row","rows","column"]) (M:=["column"]) (js:=[2]) ⟨rfl,by cbv,by cbv,by cbv,by cbv,by cbv⟩ (by cbv) (by cbv) rfl (VD rfl G.zip (ae (aa 0) (ae (aa 1) ah))) (λ_ _ _ _ _=>eO) (λ_ _ _ _ _=>(aJ aan hr rfl (ae (aa 0) (ae (aD aP aQ (aa 1) (aa 2) (λ_ _=>rfl)) ah))))) ah)))),?_⟩;unfold cC iq;nofun;have hz:(jH (row.map D.int) (B.map cC)).length=n:=by simp[jH,hl,hB.len]
 refine zW (λ_=>true) (λj=>.int (jn (row.getD j 0) (at2 B j c))) (by rw[hz];lia) trivial ?_ ?_
 ·intro j d hd;obtain⟨hj,_⟩:=cu.mp hd;rw[hz]at hj;have ed:d=.tup [.int (row.getD j 0),cC (B.getD j [])]:=by
   have h1:(row.map D.int)[j]?=some (.int (row.getD j 0)):=by rw[aS,bb (by lia),cz,bb (by lia)];rfl
   have hjB:j<B.length:=by rw[hB.len];exact hj
   have h2:(B.map cC)[j]?=some (cC (B.getD j [])):=by rw[aS,bb hjB,cz,bb hjB];rfl
   unfold jH at hd;have jG:((row.map D.int).zip (B.map cC))[j]?=some (D.int (row.getD j 0),cC (B.getD j [])):=Nw.mpr ⟨h1,h2⟩;rw[aS,jG]at hd;exact(dG hd).symm
  rw[ed];refine HW ⟨λP hP=>?_,λ_ P hP=>?_⟩
  ·nofun;exact hP
  ·unfold cC;have jO:c<(B.getD j []).length:=by rw[hB.row _ (zY (by rw[hB.len];exact hj))];exact hc
   nofun;refine l_ (zJ (by lia) (v:=.int (at2 B j c)) ?_) ?_
   ·rw[aS,j3,bb jO];unfold at2;rw[cz (l:=B.getD j []),bb jO];rfl
   nofun;exact⟨_,_,rfl,hP⟩
 rw[HV,hz];intro p1 hp1;nofun;have el:((ba n).map λj=>D.int (jn (row.getD j 0) (at2 B j c)))=((ba n).map λj=>jn (row.getD j 0) (at2 B j c)).map D.int:=by rw[fe];rfl
 rw[el];refine VP av (λe=>?_) λM h1 h2=>?_
 ·have:=congrArg j0 e;simp at this;lia
 have e:=VS (λj _=>VT (zZ hr' j).1 (hB.at j c).1) h1 h2;have e2:dot row B c=M:=by unfold dot;rw[hl];exact e.symm
 rw[e2]at hq;exact hq
inductive zi9 (ds:List D)(q:D->Prop):Prop where
 |mk (row:List Int) (B:cZ) (n p:Nat) (_:ds=[cC row,iq B]) (_:Mt n p B) (_:row.length=n) (_:(∀x∈row,0<=x/\x<=2)) (_:0<n) (_:n<=1000) (_:p<=1000) (_:q (cC ((ba p).map λk=>dot row B k)))
def Ku :aK:=vS zi9
theorem zh9{k:Nat}(h:aA K mg "composed_row" nR ["row","rows"])(G:Gs K mg)(aao:aq P w K mg base k "largest_between" ["row","rows","column"] Kt) :
 aq P w K mg base (k+1) "composed_row" ["row","rows"] Ku:=show _ by
 refine h.val Yu (by rintro ds q ⟨_,_,_,_,e,_⟩;rw[e];rfl) λf cdv A outer s0 H E ds q hr hA=>?_;obtain⟨row,B,n,p,rfl,hB,hl,hr',hn,hn',hp,hq⟩:=hA;have h0:(B.getD 0 []).length=p:=hB.row _ (zY (by rw[hB.len];exact hn));refine⟨_,(ax (a_ (gq iM iR rfl G.tuple iG (ae (i8 (cb:=ak nR) (N:=["row","rows"]) (M:=["row","rows"]) (js:=[0,1]) ⟨rfl,by cbv,by cbv,by cbv,by cbv,by cbv⟩ (by cbv) (by cbv) rfl (ie rfl G.range (ae (dJ fj fu rfl G.len fg (ae (aD aP aQ (aa 1) aj (λ_ _=>rfl)) ah)) ah)) (λ_ _ _ _ _=>eO) (λ_ _ _ _ _=>(aJ aao hr rfl (ae (aa 1) (ae (aa 2) (ae (aa 0) ah)))))) ah)))),?_⟩;nofun;refine V4 (k:=0) rfl (by rw[hB.len];exact hn) ?_;nofun;rw[h0];refine gS (λk=>.int (dot row B k)) (by rw[eL];lia) trivial ?_ ?_
 ·intro i d hd P hP;obtain⟨hi,rfl⟩:=gL hd;nofun;refine⟨row,B,n,p,i,?_,hB,hl,hr',hn,hn',by lia,hP⟩;rw[Int.zero_add]
 rw[eL,j3];intro p1 hp1;nofun;have el:((ba p).map λk=>D.int (dot row B k))=((ba p).map λk=>dot row B k).map D.int:=by rw[fe];rfl
 rw[el];exact hq
inductive aap (ds:List D)(q:D->Prop):Prop where
 |mk (f t f' t':Str) (A B:cZ) (_:ds=[fO f t A,fO f' t' B]) (_:q (.bl (decide (t=f'))))
def wM :aK:=vS aap
theorem aaq{k:Nat}(h:aA K mg "fit" p9 ["one","other"]):aq P w K mg base (k+1) "fit" ["one","other"] wM:=show _ by
 refine h.val Yt (by rintro ds q ⟨_,_,_,_,_,_,e,_⟩;rw[e];rfl) λf cdv A outer s0 H E ds q hr hA=>?_;obtain⟨fr,t,f',t',A',B,rfl,hq⟩:=hA;refine⟨_,(ax (a_ (pj bY ft (aD aP aQ (aa 0) aj (λ_ _=>rfl)) (aD aP aQ (aa 1) aj (λ_ _=>rfl)) (bj _)))),?_⟩;unfold fO;nofun;exact hq
inductive zpv(adr:Rf->Addr)(ds:List D)(q:D->Prop)(qx:Addr->Prop):Prop where
 |mk (f t f' t':Str) (A B:cZ) (m n p:Nat) (_:ds=[fO f t A,fO f' t' B]) (_:m<=1000) (_:n<=1000) (_:p<=1000) (_:0<n) (_:(t=f'->Mt m n A/\Mt n p B/\q (fO f t' (pP A B)))) (_:(t≠f'->qx (adr .apart)))
def Bo(adr:Rf->Addr):aK:=vX (zpv adr)
theorem zmp{k:Nat}(h:aA K mg "composed" nQ ["one","other"])(G:Gs K mg)(R:kF K mg ES adr)(kX:aq P w K mg base k "fit" ["one","other"] wM)(aar:aq P w K mg base k "composed_row" ["row","rows"] Ku) :
 aq P w K mg base (k+1) "composed" ["one","other"] (Bo adr):=show _ by
 refine h.Ur JK (by rintro ds q qx ⟨_,_,_,_,_,_,_,_,_,e,_⟩;rw[e];rfl) λf cdv A outer s0 H E ds q qx hr hA=>?_;obtain⟨fr,t,f',t',A',B,m,n,p,rfl,hm,hn,hp,hn0,hy,hno⟩:=hA;refine⟨_,(au (bS (vw (ni (aJ kX hr rfl (ae (aa 0) (ae (aa 1) ah))))) (ax (Ho (C:=adr .apart) (R.bound .apart (by decide)) (R.exc (by decide)) rfl rfl (ae bG ah))) bV)
 (au (mv (i:=2) (cb:=ak nQ) (N:=["one","other","rows"]) (M:=["other"]) (js:=[1]) ⟨rfl,by cbv,by cbv,by cbv,by cbv,by cbv⟩ (by cbv) (by cbv) rfl (pw (aD aP aQ (aa 0) aj (λ_ _=>rfl))) (λ_ _ _ _ _=>eO) (λ_ _ _ _ _=>(aJ aar hr rfl (ae (aa 0) (ae (aD aP aQ (aa 1) aj (λ_ _=>rfl)) ah)))) JK.nd rfl rfl)
 (ax (a_ (bJ (ae (aD aP aQ (aa 0) aj (λ_ _=>rfl)) (ae (aD aP aQ (aa 1) aj (λ_ _=>rfl)) (ae (gq iM iR rfl G.tuple iG (ae (aa 2) ah)) ah)))))))),?_⟩
 by_cases hc:t=f'
 ·obtain⟨hA,hB,hq⟩:=hy hc;nofun;refine⟨fr,t,f',t',A',B,rfl,?_⟩;nofun;unfold fO;nofun;unfold iq;nofun;refine gS (λi=>cC ((ba p).map λk=>dot (A'.getD i []) B k)) (by rw[aB,hA.len];lia) trivial ?_ ?_
  ·intro i d hd P hP;rw[aS]at hd;obtain⟨row,hrow,rfl⟩:=dA.mp hd;have hmem:=dg hrow;have eg:A'.getD i []=row:=by rw[cz,hrow];rfl
   rw[eg]at hP;nofun;exact⟨row,B,n,p,rfl,hB,hA.row row hmem,hA.num row hmem,hn0,hn,hp,hP⟩
  have el:((ba (A'.map cC).length).map λi=>cC ((ba p).map λk=>dot (A'.getD i []) B k))=(pP A' B).map cC:=by
   unfold pP;rw[aB,hB.head hn0,fe];apply iE;intro i;rw[aS,aS];by_cases hi:i<A'.length
   ·rw[jl hi,bb hi];simp[cz,hi]
   ·rw[dh (by simpa using hi),dh (by lia)];rfl
  rw[el];intro p1 hp1;nofun;exact hq
 ·nofun;refine⟨fr,t,f',t',A',B,rfl,?_⟩;nofun;exact λa=>hno hc
inductive ztf(adr:Rf->Addr)(ds:List D)(S:af)(q:D->Addr->O->Prop)(qx:Addr->Prop):Prop where
 |mk (pf:Addr) (F:CL.Fd Gr) (g:Gr) (way:List Int) (_:ds=[.ref pf,br g,iZ way]) (_:S pf=some (.lst (F.map c6))) (_:F.length<=40) (_:(∀F',CL.putN F g way=some F'->q .non pf (.lst (F'.map c6)))) (_:(CL.putN F g way=none->qx (adr .many)))
def Kv(adr:Rf->Addr):aK:=vZ (ztf adr)
theorem sub_self{S:af}{a:Addr}{o:O}(h:S a=some o){S':af}(hs:Sub S S'):Sub (up S a o) S':=λb u e=>by
 by_cases c:b=a
 ·subst c;rw[av]at e;cases e;exact hs _ _ h
 ·rw[aM c]at e;exact hs _ _ e
theorem zo1{k:Nat}(h:aA K mg "put_new" nV ["found","graph","way"])(G:Gs K mg)(R:kF K mg ES adr):aq P w K mg base (k+1) "put_new" ["found","graph","way"] (Kv adr):=show _ by
 refine h.vZ Yz (by rintro ds S q qx ⟨_,_,_,_,e,_⟩;rw[e];rfl) λf cdv A outer s0 H E ds S q qx hr hA=>?_;obtain⟨pf,F,g,way,rfl,hS,hl,hy,hn⟩:=hA;refine⟨_,(au (bS (bq (W4 (zy hr)) W8 (aa 1) (i8 (cb:=ak nV) (N:=["found","graph","way"]) (M:=[]) (js:=[]) ⟨rfl,by cbv,by cbv,by cbv,by cbv,by cbv⟩ (by cbv) (by cbv) rfl (fY (aa 0)) (λ_ _ _ _ _=>eO) (λ_ _ _ _ _=>(aD aP aQ (aa 0) aj (λ_ _=>rfl)))) (by with_unfolding_all rfl)) (ax R') bV)
 (au (bS (bq Ey kA (dJ fj fu rfl G.len fg (ae (aa 0) ah)) (FU G.YR rfl) (bj _)) (ax (Ho (C:=adr .many) (R.bound .many (by decide)) (R.exc (by decide)) rfl rfl (ae bG ah))) bV)
 (ax (b7 (dv cw dz dH dq dE (aa 0) (ae (bJ (ae (aa 1) (ae (aa 2) ah))) ah)))))),?_⟩
 nofun;refine gS (λi=>br ((F.getD i (g,[])).1)) (by rw[aB];lia) hS ?_ ?_
 ·intro i d hd P hP;rw[aS]at hd;obtain⟨p,hp,rfl⟩:=dA.mp hd;rw[cz,hp]at hP;unfold c6;nofun;exact hP
 have el:((ba (F.map c6).length).map λi=>br ((F.getD i (g,[])).1))=(F.map ck).map br:=by
  rw[aB,fe];apply iE;intro i;rw[aS,aS];by_cases hi:i<F.length
  ·rw[jl hi,bb hi];simp[cz,hi]
  ·rw[dh (by simpa using hi),dh (by lia)];rfl
 rw[el];intro p1 hp1;have h1:=az (o:=.lst ((F.map ck).map br)) hS hp1;have s1:Sub S (up S p1 (.lst ((F.map ck).map br))):=(Sub.refl S).up hp1;have h2:up S p1 (.lst ((F.map ck).map br)) p1=_:=av;generalize up S p1 (.lst ((F.map ck).map br))=S1 at h1 h2 s1 ⊢;refine W_ (by decide) h2 ?_;by_cases hm:g∈F.map ck
 ·rw[decide_eq_true hm];nofun;exact⟨pf,_,sub_self hS s1,hy F (by unfold CL.putN;rw[if_pos hm])⟩
 rw[decide_eq_false hm];have hlen:((F.map c6).length:Int)=(F.length:Int):=by rw[aB]
 by_cases wN:40<=F.length
 ·have aas:((F.map c6).length:Int)>=40:=by lia
  nofun;intro a;exact⟨s1,hn (by unfold CL.putN;rw[if_neg hm,if_pos wN])⟩
 ·have aas:¬((F.map c6).length:Int)>=40:=by lia
  nofun;refine cL h1 (by rw[aB];exact cT (by lia)) ?_;have e:F.map c6++[D.tup [br g,iZ way]]=(F++[(g,way)]).map c6:=by simp[c6]
  rw[e];exact⟨pf,_,Sub.upd s1,hy (F++[(g,way)]) (by unfold CL.putN;rw[if_neg hm,if_neg wN])⟩
inductive zma(adr:Rf->Addr)(ds:List D)(S:af)(q:List D->Prop)(qx:Addr->Prop):Prop where
 |mk (pn:Addr) (nb:List (Int×Gr)) (ar:Str->Option Nat) (_:ds=[.ref pn]) (_:S pn=some (.lst (nb.map kK))) (_:nb.length<=1000) (_:(∀p∈nb,Gd ar p.2)) (_:(∀F,gy nb=some F->q (F.map c6))) (_:(gy nb=none->qx (adr .many)))
def Kw(adr:Rf->Addr):aK:=pQ (zma adr)
structure FG(ar:Str->Option Nat)(F:CL.Fd Gr):Prop where
 gd:∀p∈F,Gd ar p.1
 wl:∀p∈F,p.2.length<=1000
theorem FG.put{ar:Str->Option Nat}{F F':CL.Fd Gr}{g:Gr}{w:List Int}(h:FG ar F)(hg:Gd ar g)(hw:w.length<=1000)(e:CL.putN F g w=some F'):FG ar F':=show _ by
 unfold CL.putN at e
 split at e
 ·cases e;exact h
 ·split at e
  ·cases e
  ·cases e;refine⟨λp hp=>?_,λp hp=>?_⟩
   ·rcases cR.mp hp with hp|hp
    ·exact h.gd p hp
    ·rw[dO.mp hp];exact hg
   ·rcases cR.mp hp with hp|hp
    ·exact h.wl p hp
    ·rw[dO.mp hp];exact hw
theorem Kx{α:Type}{l:List α}{j:Nat}{x:α}(h:l[j]?=some x):l.drop j=x::l.drop (j+1):=by
 obtain⟨hj,rfl⟩:=cu.mp h;exact x_ hj
theorem zkp{k:Nat}(h:aA K mg "closure_of" qf ["numbered"])(G:Gs K mg)(R:kF K mg ES adr)(wO:aq P w K mg base k "put_new" ["found","graph","way"] (Kv adr))(kX:aq P w K mg base k "fit" ["one","other"] wM)
 (qR:aq P w K mg base k "composed" ["one","other"] (Bo adr)):aq P w K mg base (k+1) "closure_of" ["numbered"] (Kw adr):=show _ by
 refine h.pQ kP (by rintro ds S q qx ⟨_,_,_,e,_⟩;rw[e];rfl) λf cdv A outer s0 H E ds S q qx hr hA=>?_;obtain⟨pn,nb,ar,rfl,hS,hnl,hgd,hy,hno⟩:=hA;refine⟨_,(au (aN (i:=1) kP.nd rfl (Or.inl rfl) (d6 ah))
 (au (eW vR rfl (fY (aa 0)) (vF rfl (l7 (dD (i:=2) kP.nd rfl (Or.inl rfl)) (l7 (dD (i:=3) kP.nd rfl (Or.inl rfl)) vC))) (ax (b7 (aJ wO hr rfl (ae (aa 1) (ae (aa 3) (ae (bJ (ae (aa 2) ah)) ah)))))))
 (au (aN (i:=4) kP.nd rfl (Or.inl rfl) aj)
 (au (nv vR (bq rS kA (aa 4) (dJ fj fu rfl G.len fg (ae (aa 1) ah)) (bj _)) (au (aN (i:=5) kP.nd rfl (Or.inl rfl) (aD eJ eM (aa 1) (aa 4) (λ_ _=>rfl)))
 (au (eW vR rfl (fY (aa 0)) (vF rfl (l7 (dD (i:=2) kP.nd rfl (Or.inl rfl)) (l7 (dD (i:=3) kP.nd rfl (Or.inl rfl)) vC))) (ax (bS (ni (aJ kX hr rfl (ae (aD aP aQ (aa 5) aj (λ_ _=>rfl)) (ae (aa 3) ah)))) (ax (b7 (aJ wO hr rfl (ae (aa 1) (ae (aJ qR hr rfl (ae (aD aP aQ (aa 5) aj (λ_ _=>rfl)) (ae (aa 3) ah))) (ae (aI Ad Ae (aD aP aQ (aa 5) aj (λ_ _=>rfl)) (bJ (ae (aa 2) ah))) ah)))))) bV)))
 (ax (vG (i:=4) kP.nd rfl (Or.inl rfl) aj yo)))))
 (ax (a_ (aa 1))))))),?_⟩
 nofun;intro pf hpf;have hS1:=az (o:=.lst []) hS hpf;have hne:pn≠pf:=ne3 hS hpf;nofun;refine⟨λj σ S'=>oj λ(F:CL.Fd Gr) (x2 x3:Option D)=>σ=[some (.ref pn),some (.ref pf),x2,x3,none,none]/\Sub S S'/\S' pf=some (.lst (F.map c6))/\CL.Ok F/\FG ar F/\(∀p∈F,p.2.length<=1)/\CL.kI nb []=CL.kI (nb.drop j) F,
  ⟨[],_,_,rfl,(Sub.refl S).up hpf,av,CL.Ok.nil,⟨by simp,by simp⟩,by simp,by simp⟩,λj σ S' ⟨_,_,_,_,h1,_⟩=>h1 _ _ hS,?turn,?done⟩
 case turn =>
  rintro j d σ S' hd ⟨F,x2,x3,rfl,h1,h2,hok,hfg,hw1,e1⟩;rw[aS]at hd;obtain⟨⟨n,g⟩,hp,rfl⟩:=dA.mp hd;have hpm:=dg hp;rw[Kx hp,CL.kI]at e1;unfold kK;nofun;refine⟨pf,F,g,[n],rfl,h2,hok.len,λF' eF=>?_,λeF=>?_⟩
  ·have hst:=CL.wu hok eF;refine⟨F',_,_,rfl,h1.at hpf,av,hst.1.ok,hfg.put (hgd _ hpm) (by simp) eF,λp hp'=>?_,by rw[e1,eF];rfl⟩;unfold CL.putN at eF
   split at eF
   ·cases eF;exact hw1 p hp'
   ·split at eF
    ·cases eF
    ·cases eF;rcases cR.mp hp' with z|z
     ·exact hw1 p z
     ·rw[dO.mp z];simp
  ·intro a;refine⟨h1,hno ?_⟩;show CL.kJ fP gR nb=none;unfold CL.kJ;rw[e1,eF];rfl
 rintro σ S' ⟨F,x2,x3,rfl,h1,h2,hok,hfg,hw1,e1⟩;rw[aB,ya]at e1;have e2:gy nb=CL.ir fP gR nb 41 0 F:=by
  show CL.kJ fP gR nb=_;unfold CL.kJ;rw[e1];rfl
 clear e1;nofun;refine nB (λm σ T=>JS λ(F:CL.Fd Gr) (x2 x3 x5:Option D) (pl:Nat)=>σ=[some (.ref pn),some (.ref pf),x2,x3,some (.int (pl:Int)),x5]/\Sub S T/\T pf=some (.lst (F.map c6))/\CL.Ok F/\FG ar F/\(∀p∈F,p.2.length<=pl+1)/\pl+m=41/\gy nb=CL.ir fP gR nb m pl F)
  41 ⟨F,x2,x3,none,0,rfl,h1,h2,hok,hfg,hw1,rfl,e2⟩ ?_
 clear h1 h2 hok hfg hw1 e2;rintro m σ T ⟨F,x2,x3,x5,pl,rfl,h1,h2,hok,hfg,hw1,hm,e1⟩;have Bi:((F.map c6).length:Int)=(F.length:Int):=by rw[aB]
 have wN:=hok.len;by_cases hlt:pl<F.length
 rotate_left
 ·have hlt':¬((pl:Int)<((F.map c6).length:Int)):=by lia
  nofun;rw[CL.WE (by lia)]at e1;exact⟨pf,_,rfl,hpf,h1,h2,hy F e1⟩
 have hlt':((pl:Int)<((F.map c6).length:Int)):=by lia
 obtain⟨m,rfl⟩:∃m',m=m'+1:=⟨m-1,by lia⟩;obtain⟨a,ha⟩:∃a,F[pl]?=some a:=⟨_,bb hlt⟩;have Bp:=dg ha;rw[CL.ir,ha]at e1;dsimp only at e1;obtain⟨ag,aw⟩:=a;have hga:=hfg.gd _ Bp;have f7:=hw1 _ Bp;dsimp only at hga f7;have hTn:=h1 _ _ hS;nofun;refine fv h2 (d:=c6 (ag,aw)) (eV (by rw[aS,ha];rfl)) ?_;nofun;refine⟨λj σ T'=>oj λ(F':CL.Fd Gr) (x2 x3:Option D)=>σ=[some (.ref pn),some (.ref pf),x2,x3,some (.int (pl:Int)),some (c6 (ag,aw))]/\Sub S T'/\T' pf=some (.lst (F'.map c6))/\CL.Ok F'/\FG ar F'/\(∀p∈F',p.2.length<=pl+2)/\gy nb=(CL.put2 fP gR (ag,aw) (nb.drop j) F').bind (CL.ir fP gR nb m (pl+1)),
  ⟨F,_,_,rfl,h1,h2,hok,hfg,λp hp=>by have:=hw1 p hp;lia,by rw[e1];rfl⟩,λj σ T' ⟨_,_,_,_,h1,_⟩=>h1 _ _ hS,?aiY,?aat⟩
 case aat =>
  rintro σ T' ⟨F',y2,y3,rfl,k1,k2,t8,wQ,kw,e3⟩;rw[aB,ya]at e3;nofun;have ep:(pl:Int)+1=((pl+1:Nat):Int):=by lia
  rw[ep];exact⟨m,by lia,F',y2,y3,_,pl+1,rfl,k1,k2,t8,wQ,kw,by lia,e3⟩
 clear h1 h2 hok hfg hw1 hlt hlt' Bi wN ha Bp e1;rintro j d σ T' hd ⟨F',y2,y3,rfl,k1,k2,t8,wQ,kw,e3⟩;rw[aS]at hd;obtain⟨⟨n,g⟩,hp,rfl⟩:=dA.mp hd;have hpm:=dg hp;have Bq:=hgd _ hpm;dsimp only at Bq;rw[Kx hp,CL.put2]at e3;dsimp only at e3;unfold kK c6;nofun;refine⟨ag.1,ag.2.1,g.1,g.2.1,ag.2.2,g.2.2,rfl,?_⟩;by_cases hf:ag.2.1=g.1
 rotate_left
 ·have hff:¬(fP ag g=true):=by simpa[fP]using hf
  rw[if_neg hff]at e3;nofun;exact⟨F',_,_,rfl,k1,k2,t8,wQ,kw,e3⟩
 have hff:fP ag g=true:=by simpa[fP]using hf
 rw[if_pos hff]at e3;obtain⟨m1,n1,q1,q2,q3,q4,q5,q6,t9⟩:=hga.ex;obtain⟨m2,n2,r1,r2,r3,r4,r5,r6,hM2⟩:=Bq.ex;have Br:m2=n1:=by rw[hf,r1]at q2;exact dG q2
 subst Br;nofun;refine⟨ag.1,ag.2.1,g.1,g.2.1,ag.2.2,g.2.2,m1,m2,n2,rfl,by lia,by lia,by lia,by lia,λ_=>⟨t9,hM2,?_⟩,λz=>absurd hf z⟩;unfold iZ;nofun;refine Af (by rw[aB];exact fN (by simp;lia)) ?_;nofun;refine⟨pf,F',gR ag g,aw++[n],?_,k2,t8.len,λF2 eF=>?_,λeF=>?_⟩
 ·simp[iZ,br,gR]
 ·have hst:=CL.wu t8 eF;refine⟨F2,_,_,rfl,k1.at hpf,av,hst.1.ok,wQ.put (hga.cmp Bq hf) (by rw[aU];simp;lia) eF,λp hp'=>?_,by rw[e3,eF];rfl⟩;unfold CL.putN at eF
  split at eF
  ·cases eF;exact kw p hp'
  ·split at eF
   ·cases eF
   ·cases eF;rcases cR.mp hp' with z|z
    ·exact kw p z
    ·rw[dO.mp z,aU];simp;lia
 ·intro a;refine⟨k1,hno ?_⟩;rw[e3,eF];rfl
inductive zl9 (ds:List D)(q:D->Prop):Prop where
 |mk (f t:Str) (A:cZ) (n:Nat) (_:ds=[fO f t A]) (_:Mt n n A) (_:n<=1000) (_:q (.bl (tH A)))
def Ky :aK:=vS zl9
theorem zko{k:Nat}(h:aA K mg "falls_here" nX ["graph"])(G:Gs K mg):aq P w K mg base (k+1) "falls_here" ["graph"] Ky:=show _ by
 refine h.val YB (by rintro ds q ⟨_,_,_,_,e,_⟩;rw[e];rfl) λf cdv A outer s0 H E ds q hr hA=>?_;obtain⟨fr,t,A',n,rfl,hM,hn,hq⟩:=hA;refine⟨_,(ax (a_ (dJ (VI rfl) (VO (f:=λbs=>bs.any id)) rfl G.any boot_any (ae (JE (cb:=ak nX) (N:=["graph"]) (M:=[]) (js:=[]) ⟨rfl,by cbv,by cbv,by cbv,by cbv,by cbv⟩ (by cbv) (by cbv) rfl (WW rfl G.enumerate (ae (aD aP aQ (aa 0) aj (λ_ _=>rfl)) ah)) (λ_ _ _ _ _=>eO) (λ_ _ _ _ _=>(pj bY dS (aD aP aQ (aa 1) (aa 0) (λ_ _=>rfl)) aj (bj _)))) ah)))),?_⟩;unfold fO iq;nofun;refine Ac (λi=>.bl (decide ((A'.getD i []).getD i 0=2))) (by rw[tG,aB,hM.len];lia) (λ_ _=>trivial) ?_ ?_
 ·intro i d S hd hs;rw[Ak]at hd;obtain⟨d2,hd2,rfl⟩:=dA.mp hd;rw[aS]at hd2;obtain⟨row,hrow,rfl⟩:=dA.mp hd2;have hi:i<A'.length:=(cu.mp hrow).1;have hrl:=hM.row row (dg hrow);have hil:i<row.length:=by rw[hrl];have:=hM.len;lia
  refine HW λP hP=>?_;rw[cz (l:=A'),hrow]at hP;unfold cC;nofun;refine l_ (d:=.int (row.getD i 0)) (eV (by rw[aS,bb hil];simp[cz,hil])) ?_;nofun;exact hP _ (Sub.refl _)
 intro S hs p1 hp1;nofun;have eb:((ba (fB (A'.map cC)).length).map λi=>D.bl (decide ((A'.getD i []).getD i 0=2)))=((ba A'.length).map λi=>decide ((A'.getD i []).getD i 0=2)).map D.bl:=by rw[tG,aB,fe];rfl
 rw[eb];refine VR av ?_;have ea:(((ba A'.length).map λi=>decide ((A'.getD i []).getD i 0=2)).any id)=tH A':=by
  unfold tH;rw[NK];rfl
 rw[ea];nofun;exact hq
inductive ziw (ds:List D)(q:D->Prop):Prop where
 |mk (ar:Str->Option Nat) (g:Gr) (_:ds=[br g]) (_:Gd ar g) (_:q (.bl (i6 g)))
def Kz :aK:=vS ziw
theorem zg3{k:Nat}(h:aA K mg "is_idle_round" qg ["graph"])(G:Gs K mg)(kX:aq P w K mg base k "fit" ["one","other"] wM)(qR:aq P w K mg base k "composed" ["one","other"] (Bo adr))
 (Bs:aq P w K mg base k "falls_here" ["graph"] Ky):aq P w K mg base (k+1) "is_idle_round" ["graph"] Kz:=show _ by
 refine h.val YA (by rintro ds q ⟨_,_,e,_⟩;rw[e];rfl) λf cdv A outer s0 H E ds q hr hA=>?_;obtain⟨ar,g,rfl,hg,hq⟩:=hA;refine⟨_,(ax (a_ (yW (aJ kX hr rfl (ae (aa 0) (ae (aa 0) ah))) (yW (pj (Fz (zy hr)) GL (aJ qR hr rfl (ae (aa 0) (ae (aa 0) ah))) (aa 0) (bj _)) (yV (R5 (aJ Bs hr rfl (ae (aa 0) ah)))))))),?_⟩;obtain⟨m1,n1,q1,q2,q3,q4,q5,q6,t9⟩:=hg.ex;nofun;refine⟨g.1,g.2.1,g.1,g.2.1,g.2.2,g.2.2,rfl,?_⟩;by_cases hf:g.2.1=g.1
 rotate_left
 ·have hi:i6 g=false:=by simp[i6,fP,hf]
  rw[hi]at hq;rw[decide_eq_false hf];nofun;exact hq
 have Br:n1=m1:=by rw[hf,q1]at q2;exact(dG q2).symm
 subst Br;rw[decide_eq_true hf];nofun;refine⟨g.1,g.2.1,g.1,g.2.1,g.2.2,g.2.2,n1,n1,n1,rfl,by lia,by lia,by lia,by lia,λ_=>⟨t9,t9,?_⟩,λz=>absurd hf z⟩;nofun;show zg _ (br (gR g g)) (br g) _ _;refine Xa (by decide) ?_;by_cases hc:gR g g=g
 rotate_left
 ·have hi:i6 g=false:=by simp[i6,fP,hf,hc]
  rw[hi]at hq;rw[decide_eq_false hc];nofun;exact hq
 rw[decide_eq_true hc];nofun;refine⟨g.1,g.2.1,g.2.2,n1,rfl,t9,by lia,?_⟩;nofun;have hi:i6 g=!tH g.2.2:=by simp[i6,fP,hf,hc]
 rw[hi]at hq;exact hq
def Bt(w:List Int):D:=.tup [.str "open",iZ w]
def wR(F:CL.Fd Gr)(S:af)(q:D->af->Prop):Prop:=(∀w,nJ F=some w->q (Bt w) S)/\(nJ F=none->∀p,S p=none->q (.tup [.str "ends",.ref p]) (up S p (.lst ((F.map ck).map br))))
inductive zl8 (ds:List D)(S:af)(q:D->af->Prop)(_:Addr->Prop):Prop where
 |mk (pp:Addr) (F:CL.Fd Gr) (ar:Str->Option Nat) (_:ds=[.ref pp]) (_:S pp=some (.lst (F.map c6))) (_:F.length<=40) (_:(∀p∈F,Gd ar p.1)) (_:wR F S q)
def KA :aK:=mq zl8
theorem zkn{k:Nat}(h:aA K mg "telling_of" nW ["pairs"])(G:Gs K mg)(aau:aq P w K mg base k "is_idle_round" ["graph"] Kz):aq P w K mg base (k+1) "telling_of" ["pairs"] KA:=show _ by
 refine h.mq Ax (by rintro ds S q qx ⟨_,_,_,e,_⟩;rw[e];rfl) λf cdv A outer s0 H E ds S q qx hr hA=>?_;obtain⟨pp,F,ar,rfl,hS,hl,hgd,hy,hn⟩:=hA;refine⟨_,(au (eW vR rfl (fY (aa 0)) (vF rfl (l7 (dD (i:=1) Ax.nd rfl (Or.inl rfl)) (l7 (dD (i:=2) Ax.nd rfl (Or.inl rfl)) vC))) (ax (bS (ni (aJ aau hr rfl (ae (aa 1) ah))) (ax (a_ (bJ (ae bG (ae (aa 2) ah))))) bV)))
 (ax (a_ (bJ (ae bG (ae (i8 (cb:=ak nW) (N:=["pairs","graph","way"]) (M:=[]) (js:=[]) ⟨rfl,by cbv,by cbv,by cbv,by cbv,by cbv⟩ (by cbv) (by cbv) rfl (fY (aa 0)) (λ_ _ _ _ _=>eO) (λ_ _ _ _ _=>(aD aP aQ (aa 0) aj (λ_ _=>rfl)))) ah)))))),?_⟩
 nofun;refine⟨λj σ S'=>my λ(x1 x2:Option D)=>σ=[some (.ref pp),x1,x2]/\S'=S/\∀i p,i<j->F[i]?=some p->i6 p.1=false,⟨_,_,rfl,rfl,λi p hi=>by lia⟩,λj σ S' ⟨_,_,_,e,_⟩=>by rw[e];exact hS,?_,?_⟩
 ·rintro j d σ S' hd ⟨x1,x2,rfl,rfl,hb⟩;rw[aS]at hd;obtain⟨⟨g,wy⟩,hp,rfl⟩:=dA.mp hd;have hg:=hgd _ (dg hp);unfold c6;nofun;refine⟨ar,g,rfl,hg,?_⟩;cases hi:i6 g with
  |true =>
   nofun;refine⟨S',Sub.refl _,hy wy ?_⟩;unfold nJ;have:F.find? (λp=>i6 p.1)=some (g,wy):=by
    rw[List.find?_eq_some_iff_getElem];obtain⟨hj,ej⟩:=cu.mp hp;refine⟨hi,j,hj,ej,λi hij=>?_⟩;have:=hb i F[i] hij (bb (by lia));simpa using this
   rw[this];rfl
  |false =>
   nofun;refine⟨_,_,rfl,rfl,λi p hij tD=>?_⟩;by_cases e:i=j
   ·subst e;rw[hp]at tD;cases tD;exact hi
   ·exact hb i p (by lia) tD
 rintro σ S' ⟨x1,x2,rfl,rfl,hb⟩;have htn:nJ F=none:=by
  unfold nJ;rw[List.find?_eq_none.mpr λp hp=>?_]
  ·rfl
  ·obtain⟨i,hi,rfl⟩:=lH hp;rw[hb i F[i] (by rw[aB];exact hi) (bb hi)];decide
 nofun;refine gS (λi=>br ((F.getD i (("","",[]),[])).1)) (by rw[aB];lia) hS ?_ ?_
 ·intro i d hd P hP;rw[aS]at hd;obtain⟨p,hp,rfl⟩:=dA.mp hd;rw[cz,hp]at hP;unfold c6;nofun;exact hP
 have el:((ba (F.map c6).length).map λi=>br ((F.getD i (("","",[]),[])).1))=(F.map ck).map br:=by
  rw[aB,fe];apply iE;intro i;rw[aS,aS];by_cases hi:i<F.length
  ·rw[jl hi,bb hi];simp[cz,hi]
  ·rw[dh (by simpa using hi),dh (by lia)];rfl
 rw[el];intro p1 hp1;nofun;exact⟨_,Sub.refl _,hn htn p1 hp1⟩
abbrev cK(prog:List Er):List Gr:=eQ bA Sy.bases prog
structure Bu(ar:Str->Option Nat)(prog:List Er):Prop where
 gr:∀e∈prog,Bm e
 len:(cK prog).length<=1000
 gd:∀g∈cK prog,Gd ar g
theorem zp8(p:Str)(a:Sy)(k:List Str):0<=bA p a k/\bA p a k<=2:=by
 cases a<;>simp only[bA]<;>(repeat split)<;>decide
theorem aav{prog:List Er}{g:Gr}:g∈cK prog↔∃e∈prog,g∈((e.body.cg Sy.bases []).map (d9 bA e)).flatten:=by
 unfold cK eQ;rw[DX];constructor
 ·rintro⟨l,hl,hg⟩;obtain⟨e,he,rfl⟩:=bM.mp hl;exact⟨e,he,hg⟩
 ·rintro⟨e,he,hg⟩;exact⟨_,j9 he,hg⟩
theorem KC{prog:List Er}(nd:(prog.map Er.name).Nodup){e:Er}(he:e∈prog):d8 prog e.name=some e.ps.length:=by
 obtain⟨i,hi,rfl⟩:=lH he;exact s_ nd (i:=i) (by rw[aS,bb hi];rfl) (by rw[aS,bb hi];rfl)
theorem Pg.gd{prog:List Er}(h:Pg prog):∀g∈cK prog,Gd (d8 prog) g/\Xf (prog.map Er.name) g:=show _ by
 intro g hg;obtain⟨e,he,hg⟩:=aav.mp hg;obtain⟨l,hl,hg⟩:=DX.mp hg;obtain⟨⟨s,k⟩,hs,rfl⟩:=bM.mp hl;have hm:s∈e.body.pre:=by rw[<-Sy.gP Sy.bases e.body []];exact j9 (f:=ck) hs
 have hw:=(h.body e he).wf;have hws:=Sy.jJ hw s hm;obtain⟨p1,p4,_,_⟩:=h.ps e he;cases s with
 |send x as =>
  simp only[d9,dO]at hg;subst hg;simp only[Sy.wf]at hws;refine⟨⟨e.ps.length,as.length,KC h.nd he,hws.1,p1,hws.2.1,p4,hws.2.2.1,by simp,λr hr=>?_,λr hr x hx=>?_⟩,j9 he,Jp hws.1⟩
  ·obtain⟨p,_,rfl⟩:=bM.mp hr;simp
  ·obtain⟨p,_,rfl⟩:=bM.mp hr;obtain⟨a,_,rfl⟩:=bM.mp hx;exact zp8 p a k
 |_=>simp[d9]at hg
theorem Pg.aaw{prog:List Er}(h:Pg prog):∀e∈prog,Bm e:=λe he=>by
 have hb:=h.body e he;refine⟨by have:=hb.size;lia,λp hp=>⟨?_,?_⟩,by have:=(h.ps e he).2.1;lia⟩
 ·have:=IF WC 12 e.body [] hb.deep p hp;simp only[cE]at this;lia
 ·have hm:p.1∈e.body.pre:=show _ by rw[<-Sy.gP Sy.bases e.body []];exact j9 (f:=ck) hp
  have:=WA (Sy.jJ hb.wf p.1 hm);lia
theorem Pg.ok{prog:List Er}(h:Pg prog):Bu (d8 prog) prog:=by
 refine⟨h.aaw,?_,λg hg=>(h.gd g hg).1⟩;have h1:=IE (told:=bA) (ext:=Sy.bases) (λe he=>(h.body e he).sends);have h2:=h.len;have h3:prog.length*12<=12*12:=NR _ h2;show(eQ bA Sy.bases prog).length<=1000;lia
inductive ztj(adr:Rf->Addr)(ds:List D)(S:af)(q:List D->Prop)(qx:Addr->Prop):Prop where
 |mk (pr:Addr) (prog:List Er) (ar:Str->Option Nat) (_:ds=[.ref pr]) (_:S pr=some (.lst (prog.map Er.d))) (_:Bu ar prog) (_:(∀F,gy (eY (cK prog))=some F->q (F.map c6))) (_:(gy (eY (cK prog))=none->qx (adr .many)))
def Bv(adr:Rf->Addr):aK:=pQ (ztj adr)
theorem zo4{k:Nat}(h:aA K mg "closure" qa ["program"])(G:Gs K mg)(qS:aq P w K mg base k "graphs" ["program"] Bn)(Bw:aq P w K mg base k "closure_of" ["numbered"] (Kw adr)) :
 aq P w K mg base (k+1) "closure" ["program"] (Bv adr):=show _ by
 refine h.pQ Yx (by rintro ds S q qx ⟨_,_,_,e,_⟩;rw[e];rfl) λf cdv A outer s0 H E ds S q qx hr hA=>?_;obtain⟨pr,prog,ar,rfl,hS,hok,hy,hn⟩:=hA;refine⟨_,(ax (a_ (aJ Bw hr rfl (ae (WZ rfl G.list rfl G.enumerate rfl (ae (aJ qS hr rfl (ae (aa 0) ah)) ah)) ah)))),?_⟩;have hl:=hok.len;nofun;refine⟨pr,prog,rfl,hS,hok.gr,by show(cK prog).length<=100000;lia,?_⟩;intro pg hpg;have g1:up S pg (.lst ((cK prog).map br)) pg=some (.lst ((cK prog).map br)):=av;have s1:Sub S (up S pg (.lst ((cK prog).map br))):=(Sub.refl S).up hpg;generalize up S pg (.lst ((cK prog).map br))=S1 at g1 s1 ⊢;nofun;refine Ac (λi=>(fB ((cK prog).map br)).getD i .non) (by rw[tG,aB];lia) (λS hs=>hs _ _ g1) ?_ ?_
 ·intro i d S2 hd hs;refine wo λP hP=>?_;rw[cz,hd]at hP;nofun;exact hP _ (Sub.refl _)
 intro S2 s2;have el:((ba (fB ((cK prog).map br)).length).map λi=>(fB ((cK prog).map br)).getD i .non)=(eY (cK prog)).map kK:=by
  rw[<-Xd];apply iE;intro i;rw[aS];by_cases hi:i<(fB ((cK prog).map br)).length
  ·rw[jl hi,bb hi];simp[cz,hi]
  ·rw[dh (by simpa using hi),dh (by lia)];rfl
 rw[el];intro pn hpn;have s3:Sub S (up S2 pn (.lst ((eY (cK prog)).map kK))):=(s1.trans s2).up hpn;have g3:up S2 pn (.lst ((eY (cK prog)).map kK)) pn=_:=av;generalize up S2 pn (.lst ((eY (cK prog)).map kK))=S3 at s3 g3 ⊢;nofun;refine⟨pn,_,ar,rfl,g3,by rw[Xe];exact hl,λp hp=>hok.gd _ (Jo hp),λF eF=>?_,λeF a=>⟨s3,hn eF⟩⟩;intro pf hpf;nofun;exact⟨pf,_,rfl,s3.free hpf,s3.up hpf,av,hy F eF⟩
theorem aax{ar:Str->Option Nat}{nb:List (Int×Gr)}{F:CL.Fd Gr}(h:∀p∈nb,Gd ar p.2)(e:gy nb=some F):∀p∈F,Gd ar p.1:=λp hp =>
 CL.WG (Pr:=Gd ar) h (λa ha p hp hf=>ha.cmp (h p hp) (by simpa[fP]using hf)) e p.1 (j9 (f:=ck) hp)
theorem aay{F:CL.Fd Gr}{S S1:af}{q:D->af->Prop}(h:wR F S q)(hs:Sub S S1):wR F S1 λd T=>∃T',Sub T' T/\q d T' :=
 ⟨λw e=>⟨S,hs,h.1 w e⟩,λe p hp=>⟨_,hs.upd,h.2 e p (hs.free hp)⟩⟩
inductive aaz(adr:Rf->Addr)(ds:List D)(S:af)(q:D->af->Prop)(qx:Addr->Prop):Prop where
 |mk (pr:Addr) (prog:List Er) (ar:Str->Option Nat) (_:ds=[.ref pr]) (_:S pr=some (.lst (prog.map Er.d))) (_:Bu ar prog) (_:(∀F,gy (eY (cK prog))=some F->wR F S q)) (_:(gy (eY (cK prog))=none->qx (adr .many)))
def KD(adr:Rf->Addr):aK:=mq (aaz adr)
theorem zrb{k:Nat}(h:aA K mg "judged" qc ["program"])(G:Gs K mg)(qT:aq P w K mg base k "closure" ["program"] (Bv adr))(Bx:aq P w K mg base k "telling_of" ["pairs"] KA) :
 aq P w K mg base (k+1) "judged" ["program"] (KD adr):=show _ by
 refine h.mq Yy (by rintro ds S q qx ⟨_,_,_,e,_⟩;rw[e];rfl) λf cdv A outer s0 H E ds S q qx hr hA=>?_;obtain⟨pr,prog,ar,rfl,hS,hok,hy,hn⟩:=hA;refine⟨_,(ax (a_ (aJ Bx hr rfl (ae (aJ qT hr rfl (ae (aa 0) ah)) ah)))),?_⟩;nofun;refine⟨pr,prog,ar,rfl,hS,hok,λF eF=>?_,λeF a=>⟨Sub.refl _,hn eF⟩⟩;intro pf hpf;have hc:=CL.IJ eF;nofun;exact⟨pf,F,ar,rfl,av,hc.ok.len,aax (λp hp=>hok.gd _ (Jo hp)) eF,aay (hy F eF) ((Sub.refl S).up hpf)⟩
structure KE(prog:List Er):Prop where
 len:prog.length<=100
 nd:(prog.map Er.name).Nodup
 pre:∀e∈prog,e.body.pre.length<=20000
 sends:(bK prog).length<=100000
 to:∀p∈bK prog,p.2∈prog.map Er.name
def wU(prog:List Er)(a:Str):List D:=((prog.map Er.name).filter (tx (bK prog) a)).map D.str
inductive zte (ds:List D)(S:af)(q:List D->Prop):Prop where
 |mk (pr:Addr) (prog:List Er) (a:Str) (_:ds=[.ref pr,.str a]) (_:S pr=some (.lst (prog.map Er.d))) (_:KE prog) (_:a.length<=100) (_:a∈prog.map Er.name) (_:q (wU prog a))
def KG :aK:=iT zte
theorem zo0{k:Nat}(h:aA K mg "reached" mw ["program","name"])(G:Gs K mg)(Bc:aq P w K mg base k "refuse_missing" ["name","known"] AX)(qU:aq P w K mg base k "sends" ["program"] Bf) :
 aq P w K mg base (k+1) "reached" ["program","name"] KG:=show _ by
 refine h.iT nU (by rintro ds S q ⟨_,_,_,e,_⟩;rw[e];rfl) λf cdv A outer s0 H E ds S q hr hA=>?_;obtain⟨pr,prog,a,rfl,hS,hf,hal,hin,hq⟩:=hA;have hu:=o6 hr;have hgl:=hf.len;obtain⟨names,hnames⟩:∃names,prog.map Er.name=names:=⟨_,rfl⟩;have hnl:names.length=prog.length:=by rw[<-hnames,aB]
 refine⟨_,(au (mv (i:=2) (cb:=ak mw) (N:=["program","name","names","steps","found","pending","sender","step"]) (M:=[]) (js:=[]) ⟨rfl,by cbv,by cbv,by cbv,by cbv,by cbv⟩ (by cbv) (by cbv) rfl (fY (aa 0)) (λ_ _ _ _ _=>eO) (λ_ _ _ _ _=>(aD aP aQ (aa 0) aj (λ_ _=>rfl))) nU.nd rfl rfl)
 (au (b7 (aJ Bc hr rfl (ae (aa 1) (ae (aa 2) ah))))
 (au (aN (i:=3) nU.nd rfl (Or.inl rfl) (aJ qU hr rfl (ae (aa 0) ah)))
 (au (aN (i:=4) nU.nd rfl (Or.inr rfl) (V8 (aa 1) nh))
 (au (aN (i:=5) nU.nd rfl (Or.inl rfl) (d6 (ae (aa 1) ah)))
 (au (nv ek (sH (aa 5) (λ_=>rfl)) (au (aN (i:=6) nU.nd rfl (Or.inl rfl) (iQ cw jj j_ jA jE (aa 5)))
 (ax (eW ek rfl (fY (aa 3)) (dD (i:=7) nU.nd rfl (Or.inl rfl)) (ax (bS (fm.pt (w_and (bq bY ft (aD aP aQ (aa 7) aj (λ_ _=>rfl)) (aa 6) (bj _)) (pk (R_ hu (aD aP aQ (aa 7) aj (λ_ _=>rfl)) (aa 4))))) (au (Gk hu (aa 4) (aD aP aQ (aa 7) aj (λ_ _=>rfl)) nh rfl)
 (ax (b7 (dv cw dz dH dq dE (aa 5) (ae (aD aP aQ (aa 7) aj (λ_ _=>rfl)) ah))))) bV))))))
 (ax (a_ (i8 (cb:=ak mw) (N:=["program","name","names","steps","found","pending","sender","step"]) (M:=["found"]) (js:=[4]) ⟨rfl,by cbv,by cbv,by cbv,by cbv,by cbv⟩ (by cbv) (by cbv) rfl (fY (aa 2)) (λ_ _ _ _ _=>(HP (R9 hu (aa 0) (aa 1)))) (λ_ _ _ _ _=>(aa 0))))))))))),?_⟩
 nofun;refine gS (λi=>.str (names.getD i "")) (by rw[aB];lia) (by exact hS) ?_ ?_
 ·intro i d hd P hP;rw[aS]at hd;obtain⟨e,he,rfl⟩:=dA.mp hd;unfold Er.d;nofun;have:names.getD i ""=e.name:=by rw[<-hnames,cz,aS,he];rfl
  rw[this]at hP;exact hP
 have en:((ba (prog.map Er.d).length).map λi=>D.str (names.getD i ""))=names.map D.str:=by
  rw[aB,<-hnl];apply iE;intro i;rw[aS,aS];by_cases hi:i<names.length
  ·rw[jl hi,bb hi];simp[cz,hi]
  ·rw[dh (by simpa using hi),dh (by lia)];rfl
 rw[en];intro nm hnm;have s1:Sub S (up S nm (.lst (names.map D.str))):=(Sub.refl S).up hnm;have k1:up S nm (.lst (names.map D.str)) nm=some (.lst (names.map D.str)):=av;have z1:S nm=none:=hnm;generalize up S nm (.lst (names.map D.str))=S1 at s1 k1 ⊢;nofun;rw[hnames]at hin;refine⟨a,_,rfl,.inl ⟨names,.inr ⟨nm,rfl,k1⟩,hin⟩,?_⟩;nofun;refine⟨pr,prog,rfl,s1 _ _ hS,by lia,hf.pre,hf.sends,?_⟩;intro st hst;have s2:=s1.up (o:=.lst ((bK prog).map gx)) hst;have k2:=az (o:=.lst ((bK prog).map gx)) k1 hst;have k3:up S1 st (.lst ((bK prog).map gx)) st=some (.lst ((bK prog).map gx)):=av;generalize up S1 st (.lst ((bK prog).map gx))=S2 at s2 k2 k3 ⊢;nofun;refine⟨.inr a,rfl,λfd hfd=>?_⟩;have z2:S fd=none:=s2.free hfd;have q1:nm≠fd:=ne3 k2 hfd;have q2:st≠fd:=ne3 k3 hfd;have s3:=s2.up (o:=.bp [(.inr a,.bl true)]) hfd;have k4:=az (o:=.bp [(.inr a,.bl true)]) k2 hfd;have k5:=az (o:=.bp [(.inr a,.bl true)]) k3 hfd;have k6:up S2 fd (.bp [(.inr a,.bl true)]) fd=some (.bp (eX [a])):=av;generalize up S2 fd (.bp [(.inr a,.bl true)])=S3 at s3 k4 k5 k6 ⊢;nofun;intro pd hpd;have z3:S pd=none:=s3.free hpd;have q3:nm≠pd:=ne3 k4 hpd;have q4:st≠pd:=ne3 k5 hpd;have q5:fd≠pd:=ne3 k6 hpd;have s4:=s3.up (o:=.lst [.str a]) hpd;have k7:=az (o:=.lst [.str a]) k4 hpd;have k8:=az (o:=.lst [.str a]) k5 hpd;have k9:=az (o:=.lst [.str a]) k6 hpd;have k10:up S3 pd (.lst [.str a]) pd=some (.lst (([a]:List Str).map D.str)):=av;generalize up S3 pd (.lst [.str a])=S4 at s4 k7 k8 k9 k10 ⊢;have By:∀{X:af} {p:Addr} {o:O},Sub S X->S p=none->Sub S (up X p o):=λh hp=>h.at hp;nofun;refine nB (λm σ S'=>jN λ(ks ps:List Str) (x6 x7:Option D)=>σ=[some (.ref pr),some (.str a),some (.ref nm),some (.ref st),some (.ref fd),some (.ref pd),x6,x7]/\S' nm=some (.lst (names.map D.str))/\S' st=some (.lst ((bK prog).map gx))/\S' fd=some (.bp (eX ks)) /\
  S' pd=some (.lst (ps.map D.str))/\Sub S S'/\iY (bK prog) names a ks ps/\m=2*(names.length-ks.length)+ps.length/\ps.length<=ks.length) (2*(names.length-1)+1)
  ⟨[a],[a],none,none,rfl,k7,k8,k9,k10,s4,iY.start hin,rfl,by simp⟩ ?_
 rintro m σ S' ⟨ks,ps,x6,x7,rfl,m1,m2,m3,m4,m5,hk,hm,hpk⟩;have hkl:=hk.len;nofun;rcases snoc_cases ps with rfl|⟨ps,s,rfl⟩
 ·nofun;refine zW (λi=>decide (names.getD i ""∈ks)) (λi=>.str (names.getD i "")) (by rw[aB];lia) (by exact m1) ?_ ?_
  ·intro i d hd;rw[aS]at hd;obtain⟨x,hx,rfl⟩:=dA.mp hd;have ex:names.getD i ""=x:=by rw[cz,hx];rfl
   rw[ex];refine wo ⟨λP hP=>?_,λ_ P hP=>?_⟩
   ·nofun;rw[Ij];exact hP
   ·nofun;exact hP
  rw[aB,Wa (p:=λx=>decide (x∈ks))];have ef:names.filter (λx=>decide (x∈ks))=names.filter (tx (bK prog) a):=NS λx _=>by
   rw[gA,decide_eq_true_iff,V_];exact hk.all x
  rw[ef];intro pz hpz;have:=hq;unfold wU at this;rw[hnames]at this;exact⟨pz,_,rfl,m5.free hpz,m5.up hpz,av,this⟩
 have eb:(!((ps++[s]).map D.str).isEmpty)=true:=by simp
 rw[eb];refine lW ?_;rw[cF]at m4;nofun;refine ig m4 ?_;have n1:up S' pd (.lst (ps.map D.str)) nm=_:=(aM q3).trans m1;have n2:up S' pd (.lst (ps.map D.str)) st=_:=(aM q4).trans m2;have n3:up S' pd (.lst (ps.map D.str)) fd=_:=(aM q5).trans m3;have n4:up S' pd (.lst (ps.map D.str)) pd=_:=av;have n5:Sub S (up S' pd (.lst (ps.map D.str))):=By m5 z3;generalize up S' pd (.lst (ps.map D.str))=S5 at n1 n2 n3 n4 n5 ⊢;simp only[aU,bC,cE]at hm hpk;have h2:=hk.pop;nofun;refine⟨λj σ T=>jN λ(ks' ps':List Str) (t:Nat) (x7:Option D)=>σ=[some (.ref pr),some (.str a),some (.ref nm),some (.ref st),some (.ref fd),some (.ref pd),some (.str s),x7]/\T nm=some (.lst (names.map D.str))/\T st=some (.lst ((bK prog).map gx))/\T fd=some (.bp (eX ks')) /\
  T pd=some (.lst (ps'.map D.str))/\Sub S T/\jI (bK prog) names a s ((((bK prog).take j).filter λp=>decide (p.1=s)).map (·.2)) ks' ps'/\ks'.length=ks.length+t/\ps'.length=ps.length+t,
  ⟨ks,ps,0,_,rfl,n1,n2,n3,n4,n5,by simpa using h2,rfl,rfl⟩,λj σ T ⟨_,_,_,_,_,_,h,_⟩=>h,?_,?_⟩
 ·rintro j d σ T hd ⟨ks',ps',t,x7,rfl,o1,o2,o3,o4,o5,hs2,e1,e2⟩;rw[aS]at hd;obtain⟨p,hp,rfl⟩:=dA.mp hd;have hpm:=dg hp;have htk:(bK prog).take (j+1)=(bK prog).take j++[p]:=by rw[gB,hp];rfl
  have hto:=hf.to p hpm;rw[hnames]at hto;have hkn:=pR hs2.nd hs2.nm;unfold gx;by_cases c1:p.1=s
  ·have ef:([p].filter λp=>decide (p.1=s)).map (·.2)=[p.2]:=by simp[c1]
   have eD:(((bK prog).take (j+1)).filter λp=>decide (p.1=s)).map (·.2)=(((bK prog).take j).filter λp=>decide (p.1=s)).map (·.2)++[p.2]:=by rw[htk,oR,cF,ef]
   nofun;rw[Ij];have eif:(if true=true then !decide (p.2∈ks') else decide (p.2∈ks'))=!decide (p.2∈ks'):=rfl;rw[eif];by_cases c2:p.2∈ks'
   ·nofun;exact⟨ks',ps',t,_,rfl,o1,o2,o3,o4,o5,by rw[eD];exact hs2.old c2,e1,e2⟩
   ·nofun;have hlz:(eX ks').length<sizeLine:=by unfold eX;rw[aB];exact um (cj hkn (show names.length<=100 by lia)) (by decide)
    refine Hl o3 hlz ?_;rw[V' c2];have r1:up T fd (.bp (eX (ks'++[p.2]))) nm=_:=(aM q1).trans o1;have r2:up T fd (.bp (eX (ks'++[p.2]))) st=_:=(aM q2).trans o2;have r3:up T fd (.bp (eX (ks'++[p.2]))) fd=_:=av;have r4:up T fd (.bp (eX (ks'++[p.2]))) pd=_:=(aM (bw q5)).trans o4;have r5:Sub S (up T fd (.bp (eX (ks'++[p.2])))):=By o5 z2;generalize up T fd (.bp (eX (ks'++[p.2])))=T2 at r1 r2 r3 r4 r5 ⊢;nofun;refine cL r4 (by rw[aB];exact um (show ps'.length<=300 by lia) (by decide)) ?_;refine⟨ks'++[p.2],ps'++[p.2],t+1,_,rfl,(aM q3).trans r1,(aM q4).trans r2,(aM q5).trans r3,by rw[av,cF];rfl,By r5 z3,by rw[eD];exact hs2.new (by rw[<-c1];exact hpm) hto c2,by simp;lia,by simp;lia⟩
  ·have ef:([p].filter λp=>decide (p.1=s)).map (·.2)=[]:=by simp[c1]
   have eD:(((bK prog).take (j+1)).filter λp=>decide (p.1=s)).map (·.2)=(((bK prog).take j).filter λp=>decide (p.1=s)).map (·.2):=by rw[htk,oR,cF,ef,f_]
   nofun;exact⟨ks',ps',t,_,rfl,o1,o2,o3,o4,o5,by rw[eD];exact hs2,e1,e2⟩
 ·rintro σ T ⟨ks',ps',t,x7,rfl,o1,o2,o3,o4,o5,hs2,e1,e2⟩;rw[aB,lD]at hs2;have hkn:=pR hs2.nd hs2.nm;refine⟨2*(names.length-ks'.length)+ps'.length,by lia,ks',ps',_,_,rfl,o1,o2,o3,o4,o5,hs2.done λy hy=>?_,rfl,by lia⟩;exact bM.mpr ⟨(s,y),xq.mpr ⟨hy,by simp⟩,rfl⟩
inductive zpu (ds:List D)(S:af)(q:List D->Prop):Prop where
 |mk (pr tr:Addr) (prog:List Er) (x:Str) (ts:List D) (mo:Int) (r':Rn) (_:ds=[.ref pr,.str x,.ref tr,.int mo]) (_:S pr=some (.lst (prog.map Er.d))) (_:S tr=some (.lst ts)) (_:Runs prog x ts mo r') (_:q r'.be)
def KH :aK:=iT zpu
theorem zo3{k:Nat}(h:aA K mg "entries" qi ["program","name","trees","most"])(G:Gs K mg)(T:iw K mg CR)(aaA:aq P w K mg base k "ended_run" ["program","name","trees","most"] (Kl CR)):aq P w K mg base (k+1) "entries" ["program","name","trees","most"] KH:=show _ by
 refine h.iT YC (by rintro ds S Q ⟨pr,tr,prog,x,ts,mo,r',e,_⟩;rw[e];rfl) λf cdv A outer s0 H E ds S q hr hA=>?_;obtain⟨pr,tr,prog,x,ts,mo,r',rfl,hS,hT,hR,hq⟩:=hA;refine⟨_,(ax (a_ (cV T.cl T.n_begun (aJ aaA hr rfl (ae (aa 0) (ae (aa 1) (ae (aa 2) (ae (aa 3) ah))))) rfl))),?_⟩;nofun;refine⟨pr,tr,prog,x,ts,mo,r',rfl,hS,hT,hR,λa A1 S1 r1=>?_⟩;nofun;exact⟨_,_,rfl,r1.f1,r1.sub,r1.be,hq⟩
structure En where
 pr:D
 nu:D
 nm:Str
 ts:List ay
def En.d(e:En):D:=.tup [e.pr,e.nu,.str e.nm,.tup (e.ts.map ay.d)]
inductive Rs(α:Type)
 |val (a:α) (be:List En)
 |grown (be:List En)
 |iz (be:List En)
def Rs.be{α:Type}:Rs α->List En
 | .val _ be=>be
 | .grown be=>be
 | .iz be=>be
def Rs.bind{α β:Type}(r:Rs α)(f:α->List En->Rs β):Rs β:=match r with
 | .val a be=>f a be
 | .grown be=>.grown be
 | .iz be=>.iz be
abbrev Call:=D->D->Str->List ay->List En->Rs ay
def t_(t1 t2:ay)(be:List En):Rs ay:=if(ay.pair t1 t2).size<=60 then .val (.pair t1 t2) be else .grown be
mutual
def ev(call:Call)(zs:List Str)(ts:List ay)(p:Int):Sy->Int->List En->Rs ay
 | .name x,_,be=>.val ((ts[zs.idxOf x]?).getD .aX) be
 | .aX,_,be=>.val .aX be
 | .pair a b,n,be=>(ev call zs ts p a n be).bind λt1 iA=>(ev call zs ts p b (n+a.sends) iA).bind λt2 Bz=>t_ t1 t2 Bz
 | .left a,n,be=>(ev call zs ts p a n be).bind λt iA=>.val (qN true t) iA
 | .right a,n,be=>(ev call zs ts p a n be).bind λt iA=>.val (qN false t) iA
 | .fork a b c,n,be=>(ev call zs ts p a n be).bind λt iA=>match t with
  | .aX=>ev call zs ts p c (n+a.sends+b.sends) iA
  | .pair _ _=>ev call zs ts p b (n+a.sends) iA
 | .send x as,n,be=>(evs call zs ts p as (n+1) be).bind λus iA=>call (.int p) (.int n) x us iA
def evs(call:Call)(zs:List Str)(ts:List ay)(p:Int):List Sy->Int->List En->Rs (List ay)
 |[],_,be=>.val [] be
 |a::as,n,be=>(ev call zs ts p a n be).bind λt iA=>(evs call zs ts p as (n+a.sends) iA).bind λus Bz=>.val (t::us) Bz
end
structure Bk where
 zs:List Str
 body:Sy
 num:Int
def enter(B:Str->Bk)(mo:Nat):Nat->Call
 |0,_,_,_,_,be=>.iz be
 |n+1,p,l,x,ts,be=>if be.length<mo then ev (enter B mo n) (B x).zs ts be.length (B x).body (B x).num (be++[⟨p,l,x,ts⟩]) else .iz be
mutual
def cQ:Sy->Int->D
 | .name x,_=>.tup [.str "name",.str x]
 | .aX,_=>.tup [.str "bud"]
 | .pair a b,n=>.tup [.str "pair",cQ a n,cQ b (n+a.sends)]
 | .left a,n=>.tup [.str "left",cQ a n]
 | .right a,n=>.tup [.str "right",cQ a n]
 | .fork a b c,n=>.tup [.str "fork",cQ a n,cQ b (n+a.sends),cQ c (n+a.sends+b.sends)]
 | .send x as,n=>.tup [.str "send",.str x,.tup (gY as (n+1)),.int n]
def gY:List Sy->Int->List D
 |[],_=>[]
 |a::as,n=>cQ a n::gY as (n+a.sends)
end
theorem oB:∀(as:List Sy) (n:Int),(gY as n).length=as.length
 |[],_=>rfl
 |a::as,n=>by rw[gY,bC,bC,oB as]
theorem kY(a:List D×Int)(xs ys:List Sy):dX a (xs++ys)=(dX a xs).bind λb=>dX b ys:=by
 induction xs generalizing a with
 |nil=>rfl
 |cons x xs ih =>
  rw[q_,dX,dX];cases iy a x with
  |none=>rfl
  |some b=>exact ih b
theorem zok(a b:Sy):(Sy.pair a b).sends=a.sends+b.sends:=by rw[Sy.ik];simp only[Sy.parts,Sy.gv];simp[Sy.b4,Sy.aZ]
theorem zol(a:Sy):(Sy.left a).sends=a.sends:=by rw[Sy.ik];simp only[Sy.parts,Sy.gv];simp[Sy.b4,Sy.aZ]
theorem zmg(a:Sy):(Sy.right a).sends=a.sends:=by rw[Sy.ik];simp only[Sy.parts,Sy.gv];simp[Sy.b4,Sy.aZ]
theorem zom(a b c:Sy):(Sy.fork a b c).sends=a.sends+b.sends+c.sends:=by rw[Sy.ik];simp only[Sy.parts,Sy.gv];simp[Sy.b4,Sy.aZ];lia
theorem zoj(x:Str)(as:List Sy):(Sy.send x as).sends=1+Sy.b4 as:=by rw[Sy.ik];rfl
theorem aaB(s:Sy):mE s.pre=(s.sends:Nat):=by
 unfold mE Sy.sends;exact congrArg (λn:Nat=>(n:Int)) (congrArg j0 (NS λa _=>by cases a<;>rfl))
mutual
theorem kZ:∀(s:Sy) (st:List D) (l:Int),dX (st,l) s.pre.reverse=some (cQ s (l-s.sends)::st,l-s.sends)
 | .name x,st,l=>by simp[Sy.pre,dX,iy,cQ,Sy.sends]
 | .aX,st,l=>by simp[Sy.pre,dX,iy,cQ,Sy.sends]
 | .pair a b,st,l=>by
  have e1:l-(a.sends:Int)-b.sends+a.sends=l-b.sends:=show _ by lia
  have e2:l-(b.sends:Int)-a.sends=l-((a.sends+b.sends:Nat):Int):=by lia
  rw[zok,Sy.pre,lJ,rF,kY,kY,kZ b];simp only[lK];rw[kZ a];simp only[lK,dX,iy,cQ];rw[e2];rw[show l-((a.sends+b.sends:Nat):Int)+a.sends=l-b.sends by lia]
 | .left a,st,l=>by
  rw[zol,Sy.pre,lJ,kY,kZ a];simp only[lK,dX,iy,cQ]
 | .right a,st,l=>by
  rw[zmg,Sy.pre,lJ,kY,kZ a];simp only[lK,dX,iy,cQ]
 | .fork a b c,st,l=>by
  have e2:l-(c.sends:Int)-b.sends-a.sends=l-((a.sends+b.sends+c.sends:Nat):Int):=by lia
  rw[zom,Sy.pre,lJ,rF,rF,kY,kY,kY,kZ c];simp only[lK];rw[kZ b];simp only[lK];rw[kZ a];simp only[lK,dX,iy,cQ];rw[e2,show l-((a.sends+b.sends+c.sends:Nat):Int)+a.sends=l-c.sends-b.sends by lia,show l-(c.sends:Int)-b.sends+b.sends=l-c.sends by lia]
 | .send x as,st,l=>by
  rw[zoj,Sy.pre,lJ,kY,KI as];simp only[lK,dX,iy,cQ];have hl:as.length<=(gY as (l-(Sy.b4 as:Nat))++st).length:=by rw[aU,oB];lia
  rw[if_pos hl,show l-((1+Sy.b4 as:Nat):Int)+1=l-(Sy.b4 as:Nat) by lia,show l-((Sy.b4 as:Nat):Int)-1=l-((1+Sy.b4 as:Nat):Int) by lia];rw[show as.length=(gY as (l-(Sy.b4 as:Nat))).length from(oB _ _).symm,List.take_left,List.drop_left]
theorem KI:∀(as:List Sy) (st:List D) (l:Int),dX (st,l) (Sy.aZ as).reverse=some (gY as (l-(Sy.b4 as:Nat))++st,l-(Sy.b4 as:Nat))
 |[],st,l=>by simp[Sy.aZ,dX,gY,Sy.b4]
 |a::as,st,l=>by
  rw[Sy.gv,Sy.aZ,rF,kY,KI as];simp only[lK];rw[kZ a];simp only[gY];rw[show l-((Sy.b4 as:Nat):Int)-a.sends=l-((a.sends+Sy.b4 as:Nat):Int) by lia,show l-((a.sends+Sy.b4 as:Nat):Int)+a.sends=l-(Sy.b4 as:Nat) by lia];rfl
end
structure Ext{α:Type}(mo:Nat)(be:List En)(r:Rs α)(P:α->Prop):Prop where
 pre:be <+: r.be
 le:r.be.length<=mo
 val:∀a b,r=.val a b->P a
theorem Ext.bind{α β:Type}{mo:Nat}{be:List En}{r:Rs α}{P:α->Prop}{P':β->Prop}{f:α->List En->Rs β}(h:Ext mo be r P)(hf:∀a b,P a->be <+: b->b.length<=mo->Ext mo b (f a b) P'):Ext mo be (r.bind f) P':=show _ by
 cases r with
 |val a b =>
  have g:=hf a b (h.val a b rfl) h.pre h.le;exact⟨h.pre.trans g.pre,g.le,g.val⟩
 |grown b=>exact⟨h.pre,h.le,λ_ _ e=>nomatch e⟩
 |iz b=>exact⟨h.pre,h.le,λ_ _ e=>nomatch e⟩
theorem Ext.one{α:Type}{mo:Nat}{be:List En}{a:α}{P:α->Prop}(hl:be.length<=mo)(h:P a):Ext mo be (.val a be) P:=⟨j' _,hl,λ_ _ e=>by cases e;exact h⟩
abbrev Sz(t:ay):Prop:=t.size<=60
theorem KJ{l:Bool}{t:ay}(h:Sz t):Sz (qN l t):=by
 cases t with
 |aX=>exact h
 |pair a b =>
  have:a.size+b.size+1<=60:=by simp only[Sz,ay.size]at h;lia
  cases l
  ·show b.size<=60;lia
  ·show a.size<=60;lia
def ua(mo:Nat)(call:Call):Prop:=∀p l x us be,be.length<=mo->(∀u∈us,Sz u)->Ext mo be (call p l x us be) Sz
section
variable{call:Call}{zs:List Str}{ts:List ay}{p:Int}{mo:Nat}
theorem aaC{t1 t2:ay}{be:List En}(hl:be.length<=mo):Ext mo be (t_ t1 t2 be) Sz:=by
 unfold t_;by_cases c:(ay.pair t1 t2).size<=60
 ·rw[if_pos c];exact .one hl c
 ·rw[if_neg c];exact⟨j' _,hl,λ_ _ e=>nomatch e⟩
mutual
theorem eS(hc:ua mo call)(ht:∀t∈ts,Sz t):∀(s:Sy) (n:Int) (be:List En),be.length<=mo->Ext mo be (ev call zs ts p s n be) Sz
 | .name x,n,be,hl=>by
  rw[ev];refine .one hl ?_;cases e:ts[zs.idxOf x]? with
  |none=>exact b8 _
  |some t=>exact ht t (dg e)
 | .aX,n,be,hl=>by rw[ev];exact .one hl (b8 _)
 | .pair a b,n,be,hl=>by
  rw[ev];exact(eS hc ht a n be hl).bind λt1 b1 _ _ l1=>(eS hc ht b _ b1 l1).bind λt2 b2 _ _ l2=>aaC l2
 | .left a,n,be,hl=>by
  rw[ev];exact(eS hc ht a n be hl).bind λt b1 h _ l1=>.one l1 (KJ h)
 | .right a,n,be,hl=>by
  rw[ev];exact(eS hc ht a n be hl).bind λt b1 h _ l1=>.one l1 (KJ h)
 | .fork a b c,n,be,hl=>by
  rw[ev];refine(eS hc ht a n be hl).bind λt b1 h _ l1=>?_;cases t with
  |aX=>exact eS hc ht c _ b1 l1
  |pair u v=>exact eS hc ht b _ b1 l1
 | .send x as,n,be,hl=>by
  rw[ev];exact(wV hc ht as _ be hl).bind λus b1 h _ l1=>hc _ _ _ _ _ l1 h.1
theorem wV(hc:ua mo call)(ht:∀t∈ts,Sz t):∀(as:List Sy) (n:Int) (be:List En),be.length<=mo->Ext mo be (evs call zs ts p as n be) (λus=>(∀u∈us,Sz u)/\us.length=as.length)
 |[],n,be,hl=>by rw[evs];exact .one hl ⟨λ_ h=>by simp at h,rfl⟩
 |a::as,n,be,hl=>by
  rw[evs];refine(eS hc ht a n be hl).bind λt b1 h _ l1=>(wV hc ht as _ b1 l1).bind λus b2 h2 _ l2=>.one l2 ⟨λu hu=>?_,by simp[h2.2]⟩;rcases bF.mp hu with rfl|hu
  ·exact h
  ·exact h2.1 u hu
end
end
theorem oC(B:Str->Bk)(mo:Nat):∀n,ua mo (enter B mo n)
 |0,p,l,x,us,be,hl,hs=>⟨j' _,hl,λ_ _ e=>nomatch e⟩
 |n+1,p,l,x,us,be,hl,hs=>by
  rw[enter];by_cases c:be.length<mo
  ·rw[if_pos c];have g:=eS (zs:=(B x).zs) (p:=be.length) (oC B mo n) hs (B x).body (B x).num (be++[⟨p,l,x,us⟩]) (by rw[aU];exact c);exact⟨(D7 _ _).trans g.pre,g.le,g.val⟩
  ·rw[if_neg c];exact⟨j' _,hl,λ_ _ e=>nomatch e⟩
section
variable{c c':Call}{zs:List Str}{ts:List ay}{p:Int}{mo mo' f:Nat}
theorem Ext.len{α:Type}{mo:Nat}{be:List En}{r:Rs α}{P:α->Prop}(h:Ext mo be r P){a:α}{b:List En}(e:r=.val a b):be.length<=b.length/\b.length<=mo/\P a/\be <+: b:=by
 subst e;exact⟨h.pre.length_le,h.le,h.val _ _ rfl,h.pre⟩
end
abbrev tk(b:Bool)(s:D)(p:Int):D:=.tup [.bl b,s,.int p]
section
variable(pa bo:List (Key×D))(mo:Nat)
abbrev fR(be:List En)(ps wa:List D):Rn:=⟨pa,bo,mo,be.map En.d,ps,wa,.non⟩
def Fi(r:Rn)(X:List En×D):Prop:=∃n pe wa,gX n r ⟨pa,bo,mo,X.1.map En.d,pe,wa,X.2⟩
def After{α:Type}(g:α->List D)(o:Rs α)(ps wa:List D)(X:List En×D):Prop:=match o with
 | .val a be=>Fi pa bo mo (fR pa bo mo be ps (wa++g a)) X
 | .grown be=>X=(be,.tup [.str "grown",.int be.length])
 | .iz be=>X=(be,.tup [.str "going",.int mo])
abbrev g1(t:ay):List D:=[t.d]
abbrev gs(ts:List ay):List D:=ts.map ay.d
end
section
variable{pa bo:List (Key×D)}{mo:Nat}{X:List En×D}{ps wa:List D}
theorem After.bind{α β:Type}{g:α->List D}{g':β->List D}{r:Rs α}{f:α->List En->Rs β}{ps' gT:List D}(h:After pa bo mo g' (r.bind f) ps wa X)(hf:∀a be,r=.val a be->After pa bo mo g' (f a be) ps wa X->Fi pa bo mo (fR pa bo mo be ps' (gT++g a)) X):After pa bo mo g r ps' gT X:=show _ by
 cases r with
 |val a be=>exact hf a be rfl h
 |grown be=>exact h
 |iz be=>exact h
structure k_(be:List En)(ps wa:List D):Prop where
 be:be.length<=900000
 ps:ps.length<=900000
 wa:wa.length<=900000
theorem k_.sm{be:List En}(h:k_ be ps wa):Sm (fR pa bo mo be ps wa):=⟨by show(be.map En.d).length<=_;rw[aB];exact h.be,h.ps,h.wa⟩
theorem oE{be:List En}{s:D}{qs:List D}{p:Int}(hp:ps.length<=900000)(hq:jc s qs)(hl:qs.length<=100)(h:Fi pa bo mo (fR pa bo mo be (ps++[tk true s p]++fQ p qs) wa) X):Fi pa bo mo (fR pa bo mo be (ps++[tk false s p]) wa) X:=by
 obtain⟨n,pe,w,g⟩:=h;exact⟨n+1,pe,w,.prep hp rfl rfl hq hl g⟩
theorem lg{be:List En}{s:D}{p:Int}{r1:Rn}(hl:k_ be ps wa)(hf:Fin (fR pa bo mo be ps wa) s p r1)(h:Fi pa bo mo r1 X):Fi pa bo mo (fR pa bo mo be (ps++[tk true s p]) wa) X:=by
 obtain⟨n,pe,w,g⟩:=h;exact⟨n+1,pe,w,.Kj (ps:=ps) hl.sm rfl rfl hf g⟩
theorem KL{be:List En}{ds:List D}(e:X=(be,.tup ds)):Fi pa bo mo ⟨pa,bo,mo,be.map En.d,ps,wa,.tup ds⟩ X:=by
 subst e;exact⟨0,ps,wa,.grown rfl⟩
theorem qV(p:Int)(d:D)(ds:List D):fQ p (d::ds)=fQ p ds++[tk false d p]:=by
 unfold fQ;rw[lJ,cF];rfl
structure At(pa:List (Key×D))(zs:List Str)(ts:List ay)(p:Nat)(be:List En):Prop where
 ex:∃e,be[p]?=some e/\e.ts=ts/\cm pa (.inr e.nm)=some (.tup (zs.map D.str))
 len:ts.length=zs.length
 sz:∀t∈ts,Sz t
theorem mF{α:Type}{a b:List α}{i:Nat}{v:α}(h:a <+: b)(e:a[i]?=some v):b[i]?=some v:=by
 obtain⟨c,rfl⟩:=h;rw[oM (cu.mp e).1];exact e
theorem At.mono{zs:List Str}{ts:List ay}{p:Nat}{be lh:List En}(h:At pa zs ts p be)(g:be <+: lh):At pa zs ts p lh:=by
 obtain⟨e,h1,h2,h3⟩:=h.ex;exact⟨⟨e,mF g h1,h2,h3⟩,h.len,h.sz⟩
theorem KN(x:Str):∀zs:List Str,x∉zs.take (zs.idxOf x)
 |[]=>by simp
 |z::zs=>by
  rw[NT];by_cases e:z=x
  ·simp[e]
  ·have e':(z==x)=false:=by simpa using e
   rw[e',cond_false,List.take_succ_cons];intro h;rcases bF.mp h with h|h
   ·exact e h.symm
   ·exact KN x zs h
theorem KO{x:Str}:∀{zs:List Str},x∈zs->zs[zs.idxOf x]?=some x
 |z::zs,h=>by
  rw[NT];by_cases e:z=x
  ·simp[e]
  ·have e':(z==x)=false:=by simpa using e
   rw[e',cond_false,List.getElem?_cons_succ];rcases bF.mp h with h|h
   ·exact absurd h.symm e
   ·exact KO h
theorem wW(s:Sy):1<=s.pre.length:=by rw[Sy.pM];simp
theorem BA:∀as:List Sy,as.length<=(Sy.aZ as).length
 |[]=>b8 _
 |a::as=>by
  have:=BA as;have:=wW a;simp only[Sy.aZ,aU,bC];lia
def Rm(mo M:Nat)(z:Nat)(be:List En)(ps wa:List D):Prop:=ps.length+wa.length+z+(mo-be.length)*M<=800000
theorem Rm.less{M z z':Nat}{be lh:List En}{ps' gT:List D}(h:Rm mo M z be ps wa)(hb:be <+: lh)(hz:ps'.length+gT.length+z'<=ps.length+wa.length+z):Rm mo M z' lh ps' gT:=by
 unfold Rm at h ⊢;have:=hb.length_le;have:(mo-lh.length)*M<=(mo-be.length)*M:=NR _ (by lia);lia
theorem Rm.low{M z:Nat}{be:List En}(h:Rm mo M z be ps wa)(hb:be.length<=mo)(hm:mo<=1000):k_ be ps wa:=by
 unfold Rm at h;exact⟨by lia,by lia,by lia⟩
structure BB(ar:Str->Option Nat)(pa bo:List (Key×D))(mo M f:Nat)(call:Call):Prop where
 e:ua mo call
 stop:∀p l x us (be:List En),mo<=be.length->call p l x us be=.iz be
 new:∀p l x us (be:List En) ps wa X,be.length<mo->f<=be.length->ar x=some us.length->(∀u∈us,Sz u)->Rm mo M 0 be ps wa->After pa bo mo g1 (call p l x us be) ps wa X ->
  ∃body,cm bo (.inr x)=some body/\Fi pa bo mo (fR pa bo mo (be++[⟨p,l,x,us⟩]) (ps++[tk false body be.length]) wa) X
variable{ar:Str->Option Nat}{M f:Nat}{call:Call}{zs:List Str}{ts:List ay}{p:Nat}
theorem KP(a b:D)(xs:List D):xs++[a]++[b]=xs++[a,b]:=by rw[iF];rfl
mutual
theorem lj(C:BB ar pa bo mo M f call)(hmo:mo<=1000):∀(s:Sy) (n:Int) (be:List En) (ps wa:List D) (X:List En×D),s.wf ar zs->At pa zs ts p be->be.length<=mo->f<=be.length->Rm mo M (2*s.pre.length) be ps wa ->
 After pa bo mo g1 (ev call zs ts p s n be) ps wa X->Fi pa bo mo (fR pa bo mo be (ps++[tk false (cQ s n) p]) wa) X
 | .name x,n,be,ps,wa,X,hw,hA,hl,hf,hr,h=>by
  rw[ev]at h;rw[cQ];have low:=hr.low hl hmo;obtain⟨e,h1,h2,h3⟩:=hA.ex;have hx:=KO hw;have hj:zs.idxOf x<ts.length:=show _ by rw[hA.len];exact(cu.mp hx).1
  have hget:ts[zs.idxOf x]?=some ts[zs.idxOf x]:=bb hj;have h:Fi pa bo mo (fR pa bo mo be ps (wa++[((ts[zs.idxOf x]?).getD .aX).d])) X:=h;rw[hget,DC]at h;refine oE low.ps (.name x) (b8 _) ?_;rw[show fQ p []=[] from rfl,f_];refine lg low (.name (nm:=e.nm) (pr:=e.pr) (nu:=e.nu) (ts:=ts.map ay.d) (zs:=zs) (j:=zs.idxOf x) (d:=(ts[zs.idxOf x]).d) (eV ?_) h3 hx (KN x zs) ?_) h
  ·show(be.map En.d)[p]?=_;rw[aS,h1,<-h2];rfl
  ·rw[aS,hget];rfl
 | .aX,n,be,ps,wa,X,hw,hA,hl,hf,hr,h=>by
  rw[ev]at h;rw[cQ];have low:=hr.low hl hmo;refine oE low.ps .aX (b8 _) ?_;rw[show fQ p []=[] from rfl,f_];exact lg low .aX h
 | .pair a b,n,be,ps,wa,X,hw,hA,hl,hf,hr,h=>by
  have xa:=eS (zs:=zs) (p:=p) C.e hA.sz a n be hl;have pa1:=wW a;have pb1:=wW b;have low:=hr.low hl hmo;have ez:(Sy.pair a b).pre.length=1+a.pre.length+b.pre.length:=by simp only[Sy.pre,bC,aU];lia
  rw[ez]at hr;rw[ev]at h;rw[cQ];refine oE low.ps (.pair _ _) (show 2<=100 by decide) ?_;rw[qV,qV,show fQ p []=[] from rfl,mT,<-iF];refine lj C hmo a n be _ wa X hw.1 hA hl hf (hr.less (j' _) (by simp only[aU,bC,cE];lia)) (h.bind λt1 b1 e1 h1=>?_);have k1:=xa.len e1;have xb:=eS (zs:=zs) (p:=p) C.e hA.sz b (n+a.sends) b1 k1.2.1;refine lj C hmo b _ b1 _ _ X hw.2 (hA.mono k1.2.2.2) k1.2.1 (by lia) (hr.less k1.2.2.2 (by simp only[aU,bC,cE];lia)) (h1.bind λt2 b2 e2 h2=>?_);have k2:=xb.len e2;have jd:k_ b2 ps (wa++g1 t1++g1 t2):=(hr.less (ps':=ps) (gT:=wa++g1 t1++g1 t2) (z':=0) (k1.2.2.2.trans k2.2.2.2) (by simp only[aU,bC,cE];lia)).low k2.2.1 hmo;have s1:t1.size<=60:=k1.2.2.1;have s2:t2.size<=60:=k2.2.2.1;unfold t_ at h2;by_cases q:(ay.pair t1 t2).size<=60
  ·rw[if_pos q]at h2;exact lg jd (.pair (xs:=wa) (KP _ _ _) q) h2
  ·rw[if_neg q]at h2;have h2:X=(b2,.tup [.str "grown",.int b2.length]):=h2;refine lg jd (.grown (xs:=wa) (t1:=t1) (t2:=t2) (KP _ _ _) (by lia) (by simp only[ay.size];lia)) ?_;refine KL (be:=b2) ?_;rw[h2];show _=(b2,D.tup [.str "grown",.int ((b2.map En.d).length:Nat)]);rw[aB]
 | .left a,n,be,ps,wa,X,hw,hA,hl,hf,hr,h=>by
  have xa:=eS (zs:=zs) (p:=p) C.e hA.sz a n be hl;have low:=hr.low hl hmo;have ez:(Sy.left a).pre.length=1+a.pre.length:=by simp only[Sy.pre,bC];lia
  rw[ez]at hr;rw[ev]at h;rw[cQ];refine oE low.ps (.left _) (show 1<=100 by decide) ?_;rw[qV,show fQ p []=[] from rfl,mT];refine lj C hmo a n be _ wa X hw hA hl hf (hr.less (j' _) (by simp only[aU,bC,cE];lia)) (h.bind λt1 b1 e1 h1=>?_);have k1:=xa.len e1;have jd:k_ b1 ps (wa++g1 t1):=(hr.less (ps':=ps) (gT:=wa++g1 t1) (z':=0) k1.2.2.2 (by simp only[aU,bC,cE];lia)).low k1.2.1 hmo;exact lg jd (.left (xs:=wa) rfl) h1
 | .right a,n,be,ps,wa,X,hw,hA,hl,hf,hr,h=>by
  have xa:=eS (zs:=zs) (p:=p) C.e hA.sz a n be hl;have low:=hr.low hl hmo;have ez:(Sy.right a).pre.length=1+a.pre.length:=by simp only[Sy.pre,bC];lia
  rw[ez]at hr;rw[ev]at h;rw[cQ];refine oE low.ps (.right _) (show 1<=100 by decide) ?_;rw[qV,show fQ p []=[] from rfl,mT];refine lj C hmo a n be _ wa X hw hA hl hf (hr.less (j' _) (by simp only[aU,bC,cE];lia)) (h.bind λt1 b1 e1 h1=>?_);have k1:=xa.len e1;have jd:k_ b1 ps (wa++g1 t1):=(hr.less (ps':=ps) (gT:=wa++g1 t1) (z':=0) k1.2.2.2 (by simp only[aU,bC,cE];lia)).low k1.2.1 hmo;exact lg jd (.right (xs:=wa) rfl) h1
 | .fork a b c,n,be,ps,wa,X,hw,hA,hl,hf,hr,h=>by
  have xa:=eS (zs:=zs) (p:=p) C.e hA.sz a n be hl;have low:=hr.low hl hmo;have ez:(Sy.fork a b c).pre.length=1+a.pre.length+b.pre.length+c.pre.length:=by simp only[Sy.pre,bC,aU];lia
  rw[ez]at hr;rw[ev]at h;rw[cQ];refine oE low.ps (.fork _ _ _) (show 1<=100 by decide) ?_;rw[qV,show fQ p []=[] from rfl,mT];refine lj C hmo a n be _ wa X hw.1 hA hl hf (hr.less (j' _) (by simp only[aU,bC,cE];lia)) (h.bind λt1 b1 e1 h1=>?_);have k1:=xa.len e1;have jd:k_ b1 ps (wa++g1 t1):=(hr.less (ps':=ps) (gT:=wa++g1 t1) (z':=0) k1.2.2.2 (by simp only[aU,bC,cE];lia)).low k1.2.1 hmo;refine lg jd (.fork (xs:=wa) (t:=t1) rfl) ?_;cases t1 with
  |aX=>exact lj C hmo c _ b1 ps wa X hw.2.2 (hA.mono k1.2.2.2) k1.2.1 (by lia) (hr.less k1.2.2.2 (by lia)) h1
  |pair u v=>exact lj C hmo b _ b1 ps wa X hw.2.1 (hA.mono k1.2.2.2) k1.2.1 (by lia) (hr.less k1.2.2.2 (by lia)) h1
 | .send x as,n,be,ps,wa,X,hw,hA,hl,hf,hr,h=>by
  have xa:=wV (zs:=zs) (p:=p) C.e hA.sz as (n+1) be hl;have low:=hr.low hl hmo;have ez:(Sy.send x as).pre.length=1+(Sy.aZ as).length:=by simp only[Sy.pre,bC];lia
  have ga:=BA as;rw[ez]at hr;rw[ev]at h;rw[cQ];obtain⟨w1,_,w3,w4⟩:=hw;refine oE low.ps (.send x _ n) (by rw[oB];lia) ?_;refine KQ C hmo as (n+1) be _ wa X w4 hA hl hf (hr.less (j' _) (by simp only[aU,bC,cE];lia)) (h.bind λus b1 e1 h1=>?_);have k1:=xa.len e1;have hlen:us.length=as.length:=k1.2.2.1.2;have room:Rm mo M 0 b1 ps wa:=hr.less k1.2.2.2 (by lia);have jd:k_ b1 ps (wa++gs us):=(hr.less (ps':=ps) (gT:=wa++gs us) (z':=0) k1.2.2.2 (by simp only[aU,aB];lia)).low k1.2.1 hmo;by_cases q:b1.length<mo
  ·obtain⟨body,hb,g⟩:=C.new (.int p) (.int n) x us b1 ps wa X q (by lia) (by rw[hlen];exact w1) k1.2.2.1.1 room h1;have hb1:(((b1.map En.d).length:Nat):Int)<(mo:Int):=by rw[aB];lia
   refine lg jd (.send (xs:=wa) (ts:=us.map ay.d) rfl (by rw[aB,oB,hlen]) (.new (body:=body) hb1 hb)) ?_;have e2:fR pa bo mo (b1++[⟨.int p,.int n,x,us⟩]) (ps++[tk false body b1.length]) wa=⟨pa,bo,mo,b1.map En.d++[.tup [.int p,.int n,.str x,.tup (us.map ay.d)]],ps++[.tup [.bl false,body,.int (b1.map En.d).length]],wa,.non⟩:=by
    rw[aB];show(⟨_,_,_,(b1++[_]).map En.d,_,_,_⟩:Rn)=_;rw[cF];rfl
   rw[e2]at g;exact g
  ·rw[C.stop _ _ _ _ _ (by lia)]at h1;have h1:X=(b1,.tup [.str "going",.int mo]):=h1;refine lg jd (.send (xs:=wa) (ts:=us.map ay.d) rfl (by rw[aB,oB,hlen]) (.stop (by show(mo:Int)<=((b1.map En.d).length:Nat);rw[aB];lia))) ?_;exact KL h1
theorem KQ(C:BB ar pa bo mo M f call)(hmo:mo<=1000):∀(as:List Sy) (n:Int) (be:List En) (ps wa:List D) (X:List En×D),Sy.kG ar zs as->At pa zs ts p be->be.length<=mo->f<=be.length->Rm mo M (2*(Sy.aZ as).length) be ps wa ->
 After pa bo mo gs (evs call zs ts p as n be) ps wa X->Fi pa bo mo (fR pa bo mo be (ps++fQ p (gY as n)) wa) X
 |[],n,be,ps,wa,X,hw,hA,hl,hf,hr,h=>by
  rw[evs]at h;rw[gY,show fQ p []=[] from rfl,f_];have h:Fi pa bo mo (fR pa bo mo be ps (wa++[])) X:=h;rw[f_]at h;exact h
 |a::as,n,be,ps,wa,X,hw,hA,hl,hf,hr,h=>by
  have xa:=eS (zs:=zs) (p:=p) C.e hA.sz a n be hl;have ez:(Sy.aZ (a::as)).length=a.pre.length+(Sy.aZ as).length:=show _ by simp only[Sy.aZ,aU]
  have pa1:=wW a;have ga:=BA as;rw[ez]at hr;rw[evs]at h;rw[gY,qV,<-iF];have la:(fQ p (gY as (n+a.sends))).length=as.length:=by unfold fQ;rw[aB,jk,oB]
  refine lj C hmo a n be _ wa X hw.1 hA hl hf (hr.less (j' _) (by rw[aU,la];lia)) (h.bind λt1 b1 e1 h1=>?_);have k1:=xa.len e1;refine KQ C hmo as _ b1 ps _ X hw.2 (hA.mono k1.2.2.2) k1.2.1 (by lia) (hr.less k1.2.2.2 (by simp only[aU,bC,cE];lia)) (h1.bind λus b2 e2 h2=>?_);have h2:Fi pa bo mo (fR pa bo mo b2 ps (wa++(t1::us).map ay.d)) X:=h2;rw[iF];exact h2
end
structure KS(ar:Str->Option Nat)(pa bo:List (Key×D))(M:Nat)(B:Str->Bk):Prop where
 len:∀x k,ar x=some k->(B x).zs.length=k
 pa:∀x k,ar x=some k->cm pa (.inr x)=some (.tup ((B x).zs.map D.str))
 bo:∀x k,ar x=some k->cm bo (.inr x)=some (cQ (B x).body (B x).num)
 wf:∀x k,ar x=some k->(B x).body.wf ar (B x).zs
 sz:∀x k,ar x=some k->2*(B x).body.pre.length<=M
theorem KU{B:Str->Bk}(H:KS ar pa bo M B)(hmo:mo<=1000):∀n f,mo<=f+n->BB ar pa bo mo M f (enter B mo n)
 |0,f,hf=>⟨oC B mo 0,λ_ _ _ _ _ _=>rfl,λp l x us be ps wa X h1 h2=>by lia⟩
 |n+1,f,hf=>by
  refine⟨oC B mo (n+1),λp l x us be h=>by rw[enter,if_neg (by lia)],λp l x us be ps wa X h1 h2 h3 h4 h5 h6=>⟨_,H.bo x _ h3,?_⟩⟩;rw[enter,if_pos h1]at h6;have le1:(be++[(⟨p,l,x,us⟩:En)]).length=be.length+1:=show _ by rw[aU];rfl
  refine lj (zs:=(B x).zs) (ts:=us) (KU H hmo n (f+1) (by lia)) hmo (B x).body (B x).num _ ps wa X (H.wf x _ h3) ⟨⟨⟨p,l,x,us⟩,by simp,rfl,H.pa x _ h3⟩,(H.len x _ h3).symm,h4⟩ (by lia) (by lia) ?_ h6;have:=H.sz x _ h3;unfold Rm at h5 ⊢;rw[le1];have e:(mo-be.length)*M=(mo-(be.length+1))*M+M:=by
   rw[<-DW];congr 1;lia
  lia
end
def fE:Int->List Er->List (Str×Bk)
 |_,[]=>[]
 |n,e::r=>(e.name,⟨e.ps,e.body,n⟩)::fE (n+e.body.sends) r
def aaD(bs:List (Str×Bk))(x:Str):Bk:=(bs.lookup x).getD ⟨[],.aX,0⟩
abbrev oF(prog:List Er):Str->Bk:=aaD (fE 0 prog)
theorem wX:∀(n:Int) (prog:List Er),(fE n prog).map (·.1)=prog.map Er.name
 |_,[]=>rfl
 |n,e::r=>by rw[fE,bO,bO,wX]
theorem KW:∀(prog:List Er) (kvs:List (Key×D)) (n:Int),jQ kvs n prog=some ((fE n prog).foldl (λacc b=>putD acc (.inr b.1) (cQ b.2.body b.2.num)) kvs)
 |[],kvs,n=>rfl
 |e::r,kvs,n=>by
  have h:=kZ e.body [] (n+e.body.sends);rw[show n+(e.body.sends:Int)-e.body.sends=n by lia]at h;rw[jQ,aaB,h];show jQ (putD kvs (.inr e.name) (cQ e.body n)) _ r=_;rw[KW r];rfl
theorem BC{α:Type}(f:α->D):∀(bs:List (Str×α)) (acc:List (Key×D)),(bs.map (·.1)).Nodup->(∀b∈bs,(Sum.inr b.1:Key)∉acc.map (·.1))->bs.foldl (λacc b=>putD acc (.inr b.1) (f b.2)) acc=acc++bs.map λb=>((Sum.inr b.1:Key),f b.2)
 |[],acc,_,_=>by simp
 |b::bs,acc,nd,h=>by
  rw[bO,jf]at nd;rw[oP,HL (h b df),BC f bs _ nd.2 λc hc=>?_]
  ·rw[iF];rfl
  ·rw[cF,cR];rintro(z|z)
   ·exact h c (dk _ hc) z
   ·simp only[bO,mM,dO,Sum.inr.injEq]at z;exact nd.1 (z▸j9 hc)
theorem BD{α:Type}(f:α->D){x:Str}:∀{bs:List (Str×α)} {a:α},bs.lookup x=some a->cm (bs.map λb=>((Sum.inr b.1:Key),f b.2)) (.inr x)=some (f a)
 |(y,b)::bs,a,h=>by
  rw[bO,HK];by_cases e:x=y
  ·subst e;rw[NU]at h;cases h;rw[if_pos rfl]
  ·rw[j7,show(x==y)=false by simpa using e]at h;rw[if_neg (by simpa using λz=>e z.symm)];exact BD f h
theorem BE{α:Type}{x:Str}:∀{bs:List (Str×α)} {a:α},bs.lookup x=some a->(x,a)∈bs
 |(y,b)::bs,a,h=>by
  by_cases e:x=y
  ·subst e;rw[NU]at h;cases h;exact df
  ·rw[j7,show(x==y)=false by simpa using e]at h;exact dk _ (BE h)
theorem BF:∀{xs:List Str} {ns:List Nat} {x:Str} {k:Nat},cP xs ns x=some k->x∈xs
 |[],_,_,_,h=>by cases h
 |_::_,[],_,_,h=>by cases h
 |y::xs,m::ns,x,k,h=>by
  rw[cP]at h;by_cases e:x=y
  ·subst e;exact df
  ·rw[if_neg e]at h;exact dk _ (BF h)
structure Rp(prog:List Er)(M:Nat):Prop where
 len:prog.length<=100
 nd:(prog.map Er.name).Nodup
 wf:∀e∈prog,e.body.wf (d8 prog) e.ps
 sz:∀e∈prog,2*e.body.pre.length<=M
 m:M<=200000
theorem KY{x:Str}{prog:List Er}(n:Int)(hx:x∈prog.map Er.name):∃b,(fE n prog).lookup x=some b:=by
 cases e:(fE n prog).lookup x with
 |some b=>exact⟨b,rfl⟩
 |none =>
  rw[List.lookup_eq_none_iff]at e;rw[<-wX n]at hx;obtain⟨p,hp,rfl⟩:=bM.mp hx;exact absurd (e p hp) (by simp)
theorem KZ:∀{prog:List Er} {n:Int} {p:Str×Bk},p∈fE n prog->∃e∈prog,e.name=p.1/\e.ps=p.2.zs/\e.body=p.2.body
 |e::r,n,p,h=>by
  rw[fE]at h;rcases bF.mp h with rfl|h
  ·exact⟨e,df,rfl,rfl,rfl⟩
  ·obtain⟨e',he,g⟩:=KZ h;exact⟨e',dk _ he,g⟩
theorem aaE{prog:List Er}(nd:(prog.map Er.name).Nodup){e:Er}(he:e∈prog):d8 prog e.name=some e.ps.length:=by
 obtain⟨i,hi,rfl⟩:=lH he;exact s_ nd (i:=i) (by rw[aS,bb hi];rfl) (by rw[aS,bb hi];rfl)
theorem BG:∀(n:Int) (prog:List Er),((fE n prog).map λb=>((Sum.inr b.1:Key),D.tup (b.2.zs.map D.str)))=prog.map λe=>((Sum.inr e.name:Key),D.tup (e.ps.map D.str))
 |_,[]=>rfl
 |n,e::r=>by rw[fE,bO,bO,BG]
def oG(prog:List Er):List (Key×D):=(fE 0 prog).map λb=>((Sum.inr b.1:Key),cQ b.2.body b.2.num)
theorem Rp.bo{prog:List Er}{M:Nat}(h:Rp prog M):jQ [] 0 prog=some (oG prog):=by
 rw[KW,BC (λb:Bk=>cQ b.body b.num) _ _ (by rw[wX];exact h.nd) (λ_ _=>by simp)];rfl
theorem Rp.pa{prog:List Er}{M:Nat}(h:Rp prog M):fD prog=prog.map λe=>((Sum.inr e.name:Key),D.tup (e.ps.map D.str)):=by
 unfold fD;rw[<-BG 0 prog,List.foldl_map];exact(BC (λb:Bk=>D.tup (b.zs.map D.str)) _ [] (by rw[wX];exact h.nd) (λ_ _=>by simp)).trans (mT _)
theorem Rp.K6{prog:List Er}{M:Nat}(h:Rp prog M):KS (d8 prog) (fD prog) (oG prog) M (oF prog):=show _ by
 have key:∀x k,d8 prog x=some k->∃b,(fE 0 prog).lookup x=some b/\oF prog x=b/\∃e∈prog,e.name=x/\e.ps=b.zs/\e.body=b.body:=by
  intro x k hx;obtain⟨b,hb⟩:=KY 0 (BF hx);obtain⟨e,he,g⟩:=KZ (BE hb);exact⟨b,hb,by show((fE 0 prog).lookup x).getD _=b;rw[hb];rfl,e,he,g⟩
 refine⟨?_,?_,?_,?_,?_⟩<;>intro x k hx<;>obtain⟨b,hb,e1,e,he,g1,g2,g3⟩:=key x k hx<;>rw[e1]
 ·rw[<-g2];rw[<-g1,aaE h.nd he]at hx;exact dG hx
 ·rw[h.pa,<-BG 0 prog];exact BD (λb:Bk=>D.tup (b.zs.map D.str)) hb
 ·exact BD (λb:Bk=>cQ b.body b.num) hb
 ·rw[<-g2,<-g3];exact h.wf e he
 ·rw[<-g3];exact h.sz e he
def iB(prog:List Er)(x:Str)(ts:List ay)(mo:Nat):Rs ay:=enter (oF prog) mo mo .non .non x ts []
def K7(mo:Nat):Rs ay->D
 | .val t be=>.tup [.str "done",t.d,.int be.length]
 | .grown be=>.tup [.str "grown",.int be.length]
 | .iz _=>.tup [.str "going",.int mo]
structure qW(prog:List Er)(x:Str)(ts:List ay)(mo:Nat):Prop where
 ex:∃M,Rp prog M/\mo*M<=700000
 mo:mo<=1000
 ar:d8 prog x=some ts.length
 sz:∀t∈ts,Sz t
theorem qW.runs{prog:List Er}{x:Str}{ts:List ay}{mo:Nat}(h:qW prog x ts mo):∃r',Runs prog x (ts.map ay.d) mo r'/\r'.en=K7 mo (iB prog x ts mo)/\r'.be=(iB prog x ts mo).be.map En.d:=show _ by
 obtain⟨M,R,hM⟩:=h.ex;have H:=R.K6;have hz:=H.len x _ h.ar;have start:∀r1 n r',qO ⟨fD prog,oG prog,mo,[],[],[],.non⟩ .non .non x (.tup (ts.map ay.d)) r1->gX n r1 r'->Runs prog x (ts.map ay.d) mo r':=λr1 n r' h1 h2 =>
  ⟨R.len,λe he=>by have:=R.sz e he;have:=R.m;lia,_,_,r1,n,H.pa x _ h.ar,by rw[hz,aB],R.bo,h1,h2⟩
 by_cases q:0<mo
 ·have S:=KU (mo:=mo) H h.mo mo 0 (by lia);have hA:After (fD prog) (oG prog) mo g1 (iB prog x ts mo) [] [] ((iB prog x ts mo).be,K7 mo (iB prog x ts mo)):=by
   cases iB prog x ts mo with
   |val t be =>
    refine⟨0,[],[],?_⟩;have g:gX 0 (fR (fD prog) (oG prog) mo be [] [t.d]) _:=.fin (xs:=[]) (v:=t.d) rfl rfl rfl;have e:(((be.map En.d).length:Nat):Int)=(be.length:Nat):=by rw[aB]
    have g:gX 0 (fR (fD prog) (oG prog) mo be [] [t.d]) ⟨fD prog,oG prog,mo,be.map En.d,[],[],.tup [.str "done",t.d,.int ((be.map En.d).length:Nat)]⟩:=g;rw[e]at g;exact g
   |grown be=>exact rfl
   |iz be=>exact rfl
  obtain⟨body,hb,n,pe,w,g⟩:=S.new .non .non x ts [] [] [] _ q (b8 _) h.ar h.sz (by unfold Rm;simp only[cE,uq];lia) hA;exact⟨_,start _ n _ (.new (body:=body) (show((0:Nat):Int)<mo by lia) hb) g,rfl,rfl⟩
 ·obtain rfl:mo=0:=by lia
  exact⟨_,start _ 0 _ (.stop (show((0:Nat):Int)<=((0:Nat):Int) by lia)) (.grown rfl),rfl,rfl⟩
theorem K8{prog:List Er}{x:Str}{ts:List ay}{m:Nat}(hs:∀t∈ts,Sz t):Ext m [] (iB prog x ts m) Sz:=oC _ m m _ _ _ _ [] (b8 _) hs
inductive zti (ds:List D)(S:af)(q:List D->Prop):Prop where
 |mk (pr tr:Addr) (prog:List Er) (x:Str) (ts:List ay) (mo:Nat) (_:ds=[.ref pr,.str x,.ref tr,.int mo]) (_:S pr=some (.lst (prog.map Er.d))) (_:S tr=some (.lst (ts.map ay.d))) (_:qW prog x ts mo) (_:q ((iB prog x ts mo).be.map En.d))
def K9 :aK:=iT zti
theorem zpl{k:Nat}(C:aq P w K mg base k "entries" ["program","name","trees","most"] KH):aq P w K mg base k "entries" ["program","name","trees","most"] K9:=C.imp λ_ _ _ _ ⟨pr,tr,prog,x,ts,mo,e,h1,h2,h3,q⟩=>by
 obtain⟨r',g1,_,g2⟩:=h3.runs;exact⟨pr,tr,prog,x,_,mo,r',e,h1,h2,g1,by rw[g2];exact q⟩
def jR(prog:List Er)(a:Str)(xs:List Str)(k:Nat):Prop:=∀i to,xs[i]?=some to->(bK prog)[k+i]?=some (a,to)
theorem jR.fst{prog:List Er}{a:Str}{xs ys:List Str}{k:Nat}(h:jR prog a (xs++ys) k):jR prog a xs k:=λi to e=>h i to (by rw[oM (cu.mp e).1];exact e)
theorem jR.snd{prog:List Er}{a:Str}{xs ys:List Str}{k:Nat}(h:jR prog a (xs++ys) k):jR prog a ys (k+xs.length):=λi to e=>by
 have:=h (xs.length+i) to (by rw[rm (by lia)];rw[show xs.length+i-xs.length=i by lia];exact e);rw[show k+xs.length+i=k+(xs.length+i) by lia];exact this
def qX(as:List Sy):List Str:=(Sy.aZ as).filterMap Sy.nm
theorem zoh(a:Sy)(as:List Sy):qX (a::as)=a.cJ++qX as:=by simp[qX,Sy.cJ,Sy.aZ]
theorem zqh(a b:Sy):(Sy.pair a b).cJ=a.cJ++b.cJ:=by simp[Sy.cJ,Sy.pre,fS,Sy.nm]
theorem zqi(a:Sy):(Sy.left a).cJ=a.cJ:=by simp[Sy.cJ,Sy.pre,fS,Sy.nm]
theorem zoi(a:Sy):(Sy.right a).cJ=a.cJ:=by simp[Sy.cJ,Sy.pre,fS,Sy.nm]
theorem zqj(a b c:Sy):(Sy.fork a b c).cJ=a.cJ++(b.cJ++c.cJ):=by simp[Sy.cJ,Sy.pre,fS,Sy.nm]
theorem zqg(x:Str)(as:List Sy):(Sy.send x as).cJ=[x]++qX as:=by simp[Sy.cJ,Sy.pre,fS,Sy.nm,qX]
structure ub(prog:List Er)(be:List En)(i:Nat)(e:En):Prop where
 ex:∃(p n:Nat) (e':En),e.pr=.int p/\e.nu=.int n/\p<i/\be[p]?=some e'/\(bK prog)[n]?=some (e'.nm,e.nm)
 ar:d8 prog e.nm=some e.ts.length
 sz:∀t∈e.ts,Sz t
def Inv(prog:List Er)(be:List En):Prop:=∀i e,1<=i->be[i]?=some e->ub prog be i e
theorem ub.mono{prog:List Er}{be lh:List En}{i:Nat}{e:En}(h:ub prog be i e)(g:be <+: lh):ub prog lh i e:=by
 obtain⟨p,n,e',h1,h2,h3,h4,h5⟩:=h.ex;exact⟨⟨p,n,e',h1,h2,h3,mF g h4,h5⟩,h.ar,h.sz⟩
theorem Inv.snoc{prog:List Er}{be:List En}{e:En}(h:Inv prog be)(he:1<=be.length->ub prog be be.length e):Inv prog (be++[e]):=show _ by
 intro i u hi hu;by_cases q:i<be.length
 ·rw[oM q]at hu;exact(h i u hi hu).mono (D7 _ _)
 ·have hlt:=(cu.mp hu).1;rw[aU]at hlt;have e1:[e].length=1:=rfl;obtain rfl:i=be.length:=by lia
  rw[rm (aV _),Nat.sub_self]at hu;cases hu;exact(he hi).mono (D7 _ _)
theorem Inv.bind{α β:Type}{prog:List Er}{r:Rs α}{f:α->List En->Rs β}(h:Inv prog r.be)(hf:∀a b,r=.val a b->Inv prog b->Inv prog (f a b).be):Inv prog (r.bind f).be:=by
 cases r with
 |val a b=>exact hf a b rfl h
 |grown b=>exact h
 |iz b=>exact h
structure BH(prog:List Er)(mo:Nat)(call:Call):Prop where
 e:ua mo call
 i:∀(p n:Nat) x us be e',Inv prog be->be.length<=mo->be[p]?=some e'->(bK prog)[n]?=some (e'.nm,x)->d8 prog x=some us.length->(∀u∈us,Sz u)->Inv prog (call (.int p) (.int n) x us be).be
section
variable{prog:List Er}{call:Call}{zs:List Str}{ts:List ay}{p:Nat}{mo:Nat}
mutual
theorem jS(C:BH prog mo call)(ht:∀t∈ts,Sz t):∀(s:Sy) (k:Nat) (n:Int) (be:List En) (e':En),n=(k:Int)->s.wf (d8 prog) zs->jR prog e'.nm s.cJ k->be[p]?=some e'->Inv prog be->be.length<=mo->Inv prog (ev call zs ts p s n be).be
 | .name x,k,n,be,e',hn,hw,hk,hp,hI,hl=>by rw[ev];exact hI
 | .aX,k,n,be,e',hn,hw,hk,hp,hI,hl=>by rw[ev];exact hI
 | .pair a b,k,n,be,e',hn,hw,hk,hp,hI,hl=>by
  rw[zqh]at hk;have xa:=eS (zs:=zs) (p:=p) C.e ht a n be hl;rw[ev];refine(jS C ht a k n be e' hn hw.1 hk.fst hp hI hl).bind λt1 b1 e1 i1=>?_;have g:=xa.len e1;refine(jS C ht b (k+a.sends) _ b1 e' (by lia) hw.2 (by rw[<-a.pN];exact hk.snd) (mF g.2.2.2 hp) i1 g.2.1).bind λt2 b2 e2 i2=>?_;unfold t_;by_cases q:(ay.pair t1 t2).size<=60
  ·rw[if_pos q];exact i2
  ·rw[if_neg q];exact i2
 | .left a,k,n,be,e',hn,hw,hk,hp,hI,hl=>by
  rw[zqi]at hk;rw[ev];exact(jS C ht a k n be e' hn hw hk hp hI hl).bind λt1 b1 e1 i1=>i1
 | .right a,k,n,be,e',hn,hw,hk,hp,hI,hl=>by
  rw[zoi]at hk;rw[ev];exact(jS C ht a k n be e' hn hw hk hp hI hl).bind λt1 b1 e1 i1=>i1
 | .fork a b c,k,n,be,e',hn,hw,hk,hp,hI,hl=>by
  rw[zqj]at hk;have xa:=eS (zs:=zs) (p:=p) C.e ht a n be hl;rw[ev];refine(jS C ht a k n be e' hn hw.1 hk.fst hp hI hl).bind λt1 b1 e1 i1=>?_;have g:=xa.len e1;have k2:=hk.snd;rw[a.pN]at k2;cases t1 with
  |aX=>exact jS C ht c (k+a.sends+b.sends) _ b1 e' (by lia) hw.2.2 (by rw[<-b.pN];exact k2.snd) (mF g.2.2.2 hp) i1 g.2.1
  |pair u v=>exact jS C ht b (k+a.sends) _ b1 e' (by lia) hw.2.1 k2.fst (mF g.2.2.2 hp) i1 g.2.1
 | .send x as,k,n,be,e',hn,hw,hk,hp,hI,hl=>by
  rw[zqg]at hk;have xa:=wV (zs:=zs) (p:=p) C.e ht as (n+1) be hl;rw[ev];refine(K_ C ht as (k+1) _ be e' (by lia) hw.2.2.2 hk.snd hp hI hl).bind λus b1 e1 i1=>?_;have g:=xa.len e1;have h0:=hk.fst 0 x rfl;rw[hn];exact C.i p k x us b1 e' i1 g.2.1 (mF g.2.2.2 hp) h0 (by rw[g.2.2.1.2];exact hw.1) g.2.2.1.1
theorem K_(C:BH prog mo call)(ht:∀t∈ts,Sz t):∀(as:List Sy) (k:Nat) (n:Int) (be:List En) (e':En),n=(k:Int)->Sy.kG (d8 prog) zs as->jR prog e'.nm (qX as) k->be[p]?=some e'->Inv prog be->be.length<=mo->Inv prog (evs call zs ts p as n be).be
 |[],k,n,be,e',hn,hw,hk,hp,hI,hl=>by rw[evs];exact hI
 |a::as,k,n,be,e',hn,hw,hk,hp,hI,hl=>by
  rw[zoh]at hk;have xa:=eS (zs:=zs) (p:=p) C.e ht a n be hl;rw[evs];refine(jS C ht a k n be e' hn hw.1 hk.fst hp hI hl).bind λt1 b1 e1 i1=>?_;have g:=xa.len e1;exact(K_ C ht as (k+a.sends) _ b1 e' (by lia) hw.2 (by rw[<-a.pN];exact hk.snd) (mF g.2.2.2 hp) i1 g.2.1).bind λus b2 _ i2=>i2
end
end
theorem K':∀(done rest:List Er) (x:Str) (b:Bk),(x,b)∈fE ((bK done).length:Nat) rest->∃k:Nat,b.num=k/\jR (done++rest) x b.body.cJ k
 |done,e::rest,x,b,h=>by
  rw[fE]at h;have es:∀l r:List Er,bK (l++r)=bK l++bK r:=λl r=>by simp[bK]
  have eo:bK [e]=e.body.cJ.map λto=>(e.name,to):=show _ by simp[bK]
  rcases bF.mp h with h|h
  ·cases h;refine⟨_,rfl,λi to hi=>?_⟩;rw[es,rm (by lia),show(bK done).length+i-(bK done).length=i by lia,show e::rest=[e]++rest from rfl,es,eo];have hi':i<(e.body.cJ.map λto=>(e.name,to)).length:=by rw[aB];exact(cu.mp hi).1
   rw[oM hi',aS];show Option.map _ (e.body.cJ[i]?)=_;rw[hi];rfl
  ·have hl:((bK done).length:Int)+(e.body.sends:Nat)=((bK (done++[e])).length:Nat):=by
    rw[es,eo,aU,aB,e.body.pN];lia
   rw[hl]at h;obtain⟨k,h1,h2⟩:=K' (done++[e]) rest x b h;refine⟨k,h1,?_⟩;rw[iF]at h2;exact h2
structure La(prog:List Er)(B:Str->Bk):Prop where
 num:∀x k,d8 prog x=some k->∃j:Nat,(B x).num=j/\jR prog x (B x).body.cJ j
 wf:∀x k,d8 prog x=some k->(B x).body.wf (d8 prog) (B x).zs
theorem Rp.tabI{prog:List Er}{M:Nat}(h:Rp prog M):La prog (oF prog):=by
 refine⟨λx k hx=>?_,λx k hx=>h.K6.wf x k hx⟩;obtain⟨b,hb⟩:=KY 0 (BF hx);have e:oF prog x=b:=by show((fE 0 prog).lookup x).getD _=b;rw[hb];rfl
 rw[e];exact K' [] prog x b (BE hb)
theorem Lb{prog:List Er}{B:Str->Bk}(T:La prog B)(mo:Nat):∀n,BH prog mo (enter B mo n)
 |0=>⟨oC B mo 0,λp n x us be e' h1 h2 h3 h4 h5 h6=>h1⟩
 |m+1=>by
  refine⟨oC B mo (m+1),λp n x us be e' h1 h2 h3 h4 h5 h6=>?_⟩;rw[enter];by_cases c:be.length<mo
  ·rw[if_pos c];obtain⟨j,hj,hk⟩:=T.num x _ h5;refine jS (Lb T mo m) h6 (B x).body j _ _ ⟨.int p,.int n,x,us⟩ hj (T.wf x _ h5) hk (by simp) (h1.snoc λ_=>?_) (by rw[aU];exact c);exact⟨⟨p,n,e',rfl,rfl,(cu.mp h3).1,h3,h4⟩,h5,h6⟩
  ·rw[if_neg c];exact h1
structure BI(prog:List Er)(x:Str)(ts:List ay)(mo:Nat)(be:List En):Prop where
 inv:Inv prog be
 first:0<mo->be[0]?=some ⟨.non,.non,x,ts⟩
 len:be.length<=mo
theorem qW.ents{prog:List Er}{x:Str}{ts:List ay}{mo:Nat}(h:qW prog x ts mo):BI prog x ts mo (iB prog x ts mo).be:=show _ by
 obtain⟨M,R,hM⟩:=h.ex;have T:=R.tabI;refine⟨?_,λhp=>?_,(K8 h.sz).le⟩
 ·unfold iB;cases mo with
  |zero=>intro i e hi he;simp[enter,Rs.be]at he
  |succ m =>
   rw[enter,if_pos (by simp)];obtain⟨j,hj,hk⟩:=T.num x _ h.ar;refine jS (p:=0) (Lb T (m+1) m) h.sz (oF prog x).body j _ _ ⟨.non,.non,x,ts⟩ hj (T.wf x _ h.ar) hk rfl ?_ (by simp);intro i e hi he;rw[mT,dh (by simpa using hi)]at he;cases he
 ·unfold iB;cases mo with
  |zero=>lia
  |succ m =>
   rw[enter,if_pos (by simp)];exact mF (eS (oC (oF prog) (m+1) m) h.sz _ _ _ (by simp)).pre rfl
theorem BJ:∀t:ay,t.d.pure=true
 | .aX=>rfl
 | .pair l r=>by simp only[ay.d,D.pure,D.fM,BJ l,BJ r,jU]
theorem BK:∀t:ay,t.d.dt=t.dt
 | .aX=>rfl
 | .pair l r=>by simp only[ay.d,D.dt,D.cA,ay.dt,BK l,BK r]
theorem zp4(ts:List ay):D.fM (ts.map ay.d)=true:=D.ny.mpr λd hd=>by
 obtain⟨t,_,rfl⟩:=bM.mp hd;exact BJ t
theorem kC{ds:List D}:D.cA ds=ds.map D.dt:=by
 induction ds with
 |nil=>rfl
 |cons d r ih=>simp only[D.cA,bO,ih]
theorem aaF{t:ay}(h:Sz t):bN t.d.dt<=60:=by
 rw[BK,t.yR];have:=t.yN;have:t.size<=60:=h;lia
theorem zp5{ts:List ay}(h:∀t∈ts,Sz t):dC (D.cA (ts.map ay.d))<=60:=by
 rw[kC];refine tf λd hd=>?_;obtain⟨u,hu,rfl⟩:=bM.mp hd;obtain⟨t,ht,rfl⟩:=bM.mp hu;exact aaF (h t ht)
theorem Lc{e:En}(h1:e.pr.pure=true)(h2:e.nu.pure=true)(h3:bN e.pr.dt<=60)(h4:bN e.nu.dt<=60)(h:∀t∈e.ts,Sz t):e.d.pure=true/\bN e.d.dt<=100:=by
 have:=zp5 h;refine⟨by simp only[En.d,D.pure,D.fM,h1,h2,zp4,jU],?_⟩;simp only[En.d,D.dt,D.cA,bN,dC];lia
theorem BI.dat{prog:List Er}{x:Str}{ts:List ay}{mo:Nat}{be:List En}(h:BI prog x ts mo be)(hs:∀t∈ts,Sz t):∀e∈be,e.d.pure=true/\bN e.d.dt<=100:=show _ by
 intro e he;obtain⟨i,hi,rfl⟩:=lH he;have e0:be[i]?=some be[i]:=bb hi;by_cases z:1<=i
 ·have F:=h.inv i _ z e0;obtain⟨p,n,e',g1,g2,_⟩:=F.ex;exact Lc (by rw[g1];rfl) (by rw[g2];rfl) (by rw[g1];simp[D.dt,bN]) (by rw[g2];simp[D.dt,bN]) F.sz
 ·obtain rfl:i=0:=by lia
  rw[h.first (by have:=h.len;lia)]at e0;rw[<-dG e0];exact Lc (e:=⟨.non,.non,x,ts⟩) rfl rfl (by simp[D.dt,bN]) (by simp[D.dt,bN]) hs
theorem aaG{e:Er}:∀(s:Sy) (k:List Str),(((s.cg Sy.bases k).map (d9 bA e)).flatten).map (λg=>(g.1,g.2.1))=s.cJ.map λto=>(e.name,to):=show _ by
 have key:∀l:List (Sy×List Str),((l.map (d9 bA e)).flatten).map (λg=>(g.1,g.2.1))=((l.map ck).filterMap Sy.nm).map λto=>(e.name,to):=by
  intro l
  induction l with
  |nil=>rfl
  |cons q l ih =>
   obtain⟨s,k⟩:=q;rw[bO,xX,cF,ih,bO];cases s<;>simp[d9,Sy.nm,fS]
 intro s k;rw[key,Sy.gP];rfl
theorem BL:∀prog:List Er,(cK prog).map (λg=>(g.1,g.2.1))=bK prog
 |[]=>rfl
 |e::prog=>by
  have hc:cK (e::prog)=((e.body.cg Sy.bases []).map (d9 bA e)).flatten++cK prog:=by simp[cK,eQ]
  rw[hc,cF,aaG,BL prog];simp[bK]
theorem Pg.fit{prog:List Er}(h:Pg prog):KE prog:=by
 refine⟨by have:=h.len;lia,h.nd,λe he=>by have:=(h.body e he).size;lia,?_,λp hp=>?_⟩
 ·have:=h.ok.len;rw[<-BL,aB];lia
 ·rw[<-BL]at hp;obtain⟨g,hg,rfl⟩:=bM.mp hp;exact(h.gd g hg).2.2
inductive uc where
 |ls (es:List D)|ends (es:List D)|tup (w:List Int)|non
def jT:uc->af->(D->af->Prop)->Prop
 | .ls es,S,q=>∀a,S a=none->q (.ref a) (up S a (.lst es))
 | .ends es,S,q=>∀b a,S b=none->(up S b (.lst es)) a=none->q (.ref a) (up (up S b (.lst es)) a (.lst [.str "ends",.ref b]))
 | .tup w,S,q=>q (iZ w) S
 | .non,S,q=>q .non S
def lq(way:Int)(F:CL.Fd Gr):uc:=if way=4 then .ls (F.map c6) else match nJ F with
 |some w=>if way=5 then .ls [.str "open",iZ w] else .tup w
 |none=>if way=5 then .ends ((F.map ck).map br) else .ls ((F.map ck).map br)
def wY(prog:List Er)(way:Int):uc:=match gy (eY (cK prog)) with
 |none=>.non
 |some F=>lq way F
def ans(prog:List Er)(e0:Er)(way:Int):uc :=
 if way=0 then .ls ((bK prog).map gx) else if way=1 then .ls ((cK prog).map br) else if way=2 then .ls (wU prog e0.name)
 else if way=3 then .ls ((iB prog e0.name (e0.ps.map λ_=>ay.aX) 9).be.map En.d) else wY prog way
def oH(way:Int):uc->Prop
 | .ls es=>(∀d∈es,d.pure=true/\bN d.dt<=150)/\es.length<=100000
 | .ends es=>(∀d∈es,d.pure=true/\bN d.dt<=150)/\es.length<=100000
 | .tup _=>way=6
 | .non=>True
theorem BM(w:List Int):(D.tup (w.map D.int)).pure=true/\bN (D.tup (w.map D.int)).dt<=1:=show _ by
 refine⟨D.ny.mpr λd hd=>?_,?_⟩
 ·obtain⟨i,_,rfl⟩:=bM.mp hd;rfl
 ·simp only[D.dt,bN];have:dC (D.cA (w.map D.int))<=0:=by
   rw[D.kC];refine tf λd hd=>?_;obtain⟨u,hu,rfl⟩:=bM.mp hd;obtain⟨i,_,rfl⟩:=bM.mp hu;exact aV _
  lia
theorem Ld{prog:List Er}{e0:Er}(hP:Pg prog)(he:prog[0]?=some e0):qW prog e0.name (e0.ps.map λ_=>ay.aX) 9 :=
 ⟨⟨10000,⟨by have:=hP.len;lia,hP.nd,λe he=>(hP.body e he).wf,λe he=>by have:=(hP.body e he).size;lia,by decide⟩,by lia⟩,by lia,by rw[KC hP.nd (dg he),aB],λt ht=>by
  obtain⟨_,_,rfl⟩:=bM.mp ht;show ay.aX.size<=60;decide⟩
theorem BN{prog:List Er}{e0:Er}{way:Int}(hP:Pg prog)(he:prog[0]?=some e0)(h0:0<=way)(h6:way<=6):oH way (ans prog e0 way):=show _ by
 have ok:=Ld hP he;have gs:∀gs:List Gr,∀d∈gs.map br,d.pure=true/\bN d.dt<=150:=λgs d hd=>by
  obtain⟨g,_,rfl⟩:=bM.mp hd;exact⟨pT g,cj (wA g) (by decide)⟩
 unfold ans;by_cases w0:way=0
 ·rw[if_pos w0];refine⟨λd hd=>?_,by rw[aB];exact hP.fit.sends⟩;obtain⟨p,_,rfl⟩:=bM.mp hd;exact⟨rfl,by simp[gx,D.dt,D.cA,bN,dC]⟩
 rw[if_neg w0];by_cases w1:way=1
 ·rw[if_pos w1];exact⟨gs _,by rw[aB];have:=hP.ok.len;lia⟩
 rw[if_neg w1];by_cases w2:way=2
 ·rw[if_pos w2];refine⟨λd hd=>?_,by
   unfold wU;rw[aB];have h1:=xV (tx (bK prog) e0.name) (prog.map Er.name);have h2:=hP.len;rw[aB]at h1;lia⟩
  obtain⟨p,_,rfl⟩:=bM.mp hd;exact⟨rfl,by simp[D.dt,bN]⟩
 rw[if_neg w2];by_cases w3:way=3
 ·rw[if_pos w3];refine⟨λd hd=>?_,by rw[aB];exact cj (K8 ok.sz).le (by decide)⟩;obtain⟨e,hm,rfl⟩:=bM.mp hd;have:=ok.ents.dat ok.sz e hm;exact⟨this.1,by lia⟩
 rw[if_neg w3];unfold wY;cases eF:gy (eY (cK prog)) with
 |none=>trivial
 |some F =>
  have hF:F.length<=40:=(CL.IJ eF).ok.len;show oH way (lq way F);unfold lq;by_cases w4:way=4
  ·rw[if_pos w4];refine⟨λd hd=>?_,by rw[aB];lia⟩;obtain⟨p,_,rfl⟩:=bM.mp hd;have h1:=BM p.2;have h2:=pT p.1;have h3:=wA p.1;have e1:(iZ p.2).pure=true:=h1.1;have e2:bN (iZ p.2).dt<=1:=h1.2;refine⟨by simp only[c6,D.pure,D.fM,h2,e1,jU],?_⟩;simp only[c6,D.dt,D.cA,bN,dC];lia
  rw[if_neg w4];cases nJ F with
  |some w =>
   by_cases w5:way=5
   ·show oH way (if way=5 then _ else _);rw[if_pos w5];refine⟨λd hd=>?_,by simp⟩;rcases bF.mp hd with rfl|hd
    ·exact⟨rfl,by simp[D.dt,bN]⟩
    ·rw[dO.mp hd];exact⟨(BM w).1,cj (BM w).2 (by decide)⟩
   ·show oH way (if way=5 then _ else _);rw[if_neg w5];show way=6;lia
  |none =>
   by_cases w5:way=5
   ·show oH way (if way=5 then _ else _);rw[if_pos w5];exact⟨gs _,by rw[aB,aB];lia⟩
   ·show oH way (if way=5 then _ else _);rw[if_neg w5];exact⟨gs _,by rw[aB,aB];lia⟩
inductive aaH (ds:List D)(S:af)(q:D->af->Prop)(_:Addr->Prop):Prop where
 |mk (pr:Addr) (prog:List Er) (e0:Er) (way:Int) (_:ds=[.ref pr,.int way]) (_:S pr=some (.lst (prog.map Er.d))) (_:Pg prog) (_:prog[0]?=some e0) (_:jT (ans prog e0 way) S q)
def Le :aK:=mq aaH
theorem aaI{k:Nat}(h:aA K mg "_law_asked" oh ["program","way"])(G:Gs K mg)(R:kF K mg ES adr)(qU:aq P w K mg base k "sends" ["program"] Bf)(qS:aq P w K mg base k "graphs" ["program"] Bn)(BO:aq P w K mg base k "reached" ["program","name"] KG)(BP:aq P w K mg base k "entries" ["program","name","trees","most"] K9)(qT:aq P w K mg base k "closure" ["program"] (Bv adr))(wZ:aq P w K mg base k "judged" ["program"] (KD adr)) :
 aq P w K mg base (k+1) "_law_asked" ["program","way"] Le:=show _ by
 refine h.mq YK (by rintro ds S q qx ⟨_,_,_,_,e,_⟩;rw[e];rfl) λf cdv A outer s0 H E ds S q qx hr hA=>?_;obtain⟨pr,prog,e0,way,rfl,hS,hP,fh,hq⟩:=hA;have hok:=hP.ok;have hfit:=hP.fit;refine⟨_,(au (bS (bq bY dS (aa 1) aj (bj _)) (ax (a_ (aJ qU hr rfl (ae (aa 0) ah)))) bV)
 (au (bS (bq bY dS (aa 1) aj (bj _)) (ax (a_ (aJ qS hr rfl (ae (aa 0) ah)))) bV)
 (au (bS (bq bY dS (aa 1) aj (bj _)) (ax (a_ (aJ BO hr rfl (ae (aa 0) (ae (aD aP aQ (aD eJ eM (aa 0) aj (λ_ _=>rfl)) aj (λ_ _=>rfl)) ah))))) bV)
 (au (bS (bq bY dS (aa 1) aj (bj _)) (ax (a_ (aJ BP hr rfl (ae (aa 0) (ae (aD aP aQ (aD eJ eM (aa 0) aj (λ_ _=>rfl)) aj (λ_ _=>rfl)) (ae (i8 (cb:=ak oh) (N:=["program","way"]) (M:=[]) (js:=[]) ⟨rfl,by cbv,by cbv,by cbv,by cbv,by cbv⟩ (by cbv) (by cbv) rfl (pw (aD aP aQ (aD eJ eM (aa 0) aj (λ_ _=>rfl)) aj (λ_ _=>rfl))) (λ_ _ _ _ _=>eO) (λ_ _ _ _ _=>fX)) (ae aj ah))))))) bV)
 (ax (UK rfl rfl (λ_ _ _=>(au (bS (bq bY dS (aa 1) aj (bj _)) (ax (a_ (aJ qT hr rfl (ae (aa 0) ah)))) bV)
 (ax (a_ (nk (bq bY dS (aa 1) aj (bj _)) (gq E4 GX rfl G.list xZ (ae (aJ wZ hr rfl (ae (aa 0) ah)) ah)) (aD aP aQ (aJ wZ hr rfl (ae (aa 0) ah)) aj (λ_ _=>rfl))))))) (UJ (R.bound .many (by decide)) (R.base (i:=.many) (by decide)) rfl (λ_=>(ax (a_ fX))) UI))))))),?_⟩
 by_cases w0:way=0
 ·nofun;refine⟨pr,prog,rfl,hS,hfit.len,hfit.pre,hfit.sends,?_⟩;intro p hp;nofun;rw[ans,if_pos w0]at hq;exact⟨_,Sub.refl _,hq p hp⟩
 by_cases w1:way=1
 ·nofun;refine⟨pr,prog,rfl,hS,hok.gr,by show(cK prog).length<=100000;have:=hok.len;lia,?_⟩;intro p hp;nofun;rw[ans,if_neg w0,if_pos w1]at hq;exact⟨_,Sub.refl _,hq p hp⟩
 have hm:e0∈prog:=dg fh;have hnl:e0.name.length<=100:=by
  obtain⟨cs,e,_,h8,_⟩:=hP.nm e0 hm;rw[e];show(textOf cs).cps.size<=100;simp only[textOf,bU];lia
 by_cases w2:way=2
 ·nofun;refine fv hS (eV (j:=0) (by rw[aS,fh];rfl)) ?_;unfold Er.d;nofun;refine⟨pr,prog,e0.name,rfl,hS,hfit,hnl,j9 hm,?_⟩;intro p hp;nofun;rw[ans,if_neg w0,if_neg w1,if_pos w2]at hq;exact⟨_,Sub.refl _,hq p hp⟩
 by_cases w3:way=3
 ·nofun;have t7:(prog.map Er.d)[0]?=some (Er.d e0):=by rw[aS,fh];rfl
  refine fv hS (eV (j:=0) t7) ?_;unfold Er.d;nofun;refine fv hS (eV (j:=0) t7) ?_;unfold Er.d;nofun;have hpl:=(hP.ps e0 hm).2.1;refine gS (λ_=>.non) (by rw[aB];lia) trivial ?_ ?_
  ·intro i d hd P hP;nofun;exact hP
  have en:((ba (e0.ps.map D.str).length).map λ_=>D.non)=(e0.ps.map λ_=>ay.aX).map ay.d:=by
   rw[aB,fe];apply iE;intro i;rw[aS,aS];by_cases hi:i<e0.ps.length
   ·rw[jl hi,bb hi];rfl
   ·rw[dh (by simpa using hi),dh (by lia)];rfl
  rw[en];intro pt BQ;nofun;refine⟨pr,pt,prog,e0.name,_,9,rfl,az hS BQ,av,Ld hP fh,?_⟩;intro p hp;nofun;rw[ans,if_neg w0,if_neg w1,if_neg w2,if_pos w3]at hq;exact⟨_,((Sub.refl S).up BQ).upd,hq p (((Sub.refl S).up BQ).free hp)⟩
 rw[ans,if_neg w0,if_neg w1,if_neg w2,if_neg w3]at hq;have hy:∀F,gy (eY (cK prog))=some F->jT (lq way F) S q:=λF eF=>by
  unfold wY at hq;rw[eF]at hq;exact hq
 have hn:gy (eY (cK prog))=none->q .non S:=λeF=>by
  unfold wY at hq;rw[eF]at hq;exact hq
 by_cases w4:way=4
 ·nofun;refine⟨pr,prog,d8 prog,rfl,hS,hok,λF eF=>?_,λeF x=>?_⟩
  ·have q1:=hy F eF;rw[lq,if_pos w4]at q1;intro p hp;nofun;exact⟨_,Sub.refl _,q1 p hp⟩
  ·refine zD (R.two .many (by decide) .many (by decide)) ?_;nofun;exact⟨S,Sub.refl _,hn eF⟩
 by_cases w5:way=5
 ·nofun;refine⟨pr,prog,d8 prog,rfl,hS,hok,λF eF=>⟨λw e=>?_,λe p hp=>?_⟩,λeF x=>?_⟩
  ·have q1:=hy F eF;rw[lq,if_neg w4,e]at q1;simp only[if_pos w5]at q1;unfold Bt;nofun;intro p hp;nofun;exact⟨_,Sub.refl _,q1 p hp⟩
  ·have q1:=hy F eF;rw[lq,if_neg w4,e]at q1;simp only[if_pos w5]at q1;nofun;intro a ha;nofun;exact⟨_,Sub.refl _,q1 p a hp ha⟩
  ·refine zD (R.two .many (by decide) .many (by decide)) ?_;nofun;exact⟨S,Sub.refl _,hn eF⟩
 nofun;refine⟨pr,prog,d8 prog,rfl,hS,hok,λF eF=>⟨λw e=>?_,λe p hp=>?_⟩,λeF x=>?_⟩
 ·have q1:=hy F eF;rw[lq,if_neg w4,e]at q1;simp only[if_neg w5]at q1;unfold Bt;nofun;exact⟨_,Sub.refl _,q1⟩
 ·have q1:=hy F eF;rw[lq,if_neg w4,e]at q1;simp only[if_neg w5]at q1;nofun;exact⟨_,Sub.refl _,q1 p hp⟩
 ·refine zD (R.two .many (by decide) .many (by decide)) ?_;nofun;exact⟨S,Sub.refl _,hn eF⟩
inductive aaJ (ds:List D)(S:af)(q:D->Prop):Prop where
 |mk (pr:Addr) (prog:List Er) (e0:Er) (way c:Int) (_:ds=[.ref pr,.int way,.int c]) (_:S pr=some (.lst (prog.map Er.d))) (_:Pg prog) (_:prog[0]?=some e0) (_:oH way (ans prog e0 way)) (_:q (.bl true))
def Lf :aK:=ij aaJ
theorem zra{k:Nat}(h:aA K mg "_law_turned" qy ["program","way","cell"])(G:Gs K mg)(w8:aq P w K mg base k "_law_asked" ["program","way"] Le) :
 aq P w K mg base (k+1) "_law_turned" ["program","way","cell"] Lf:=show _ by
 refine h.ij Az (by rintro ds S q ⟨_,_,_,_,_,e,_⟩;rw[e];rfl) λf cdv A outer s0 H E ds S q hr hA=>?_;obtain⟨pr,prog,e0,way,c,rfl,hS,hP,fh,hok,hq⟩:=hA;refine⟨_,(au (aN (i:=3) Az.nd rfl (Or.inl rfl) (aJ w8 hr rfl (ae (aa 0) (ae (aa 1) ah))))
 (au (bS (vw (ni (dJ G4 G5 rfl G.JV boot_isinstance (ae (aa 3) (ae (FT (n:="list") rfl G.list xZ) ah))))) (ax (a_ (R4 (pj oY pA (aa 3) fX (bj _)) (yV (yW (dJ G4 G5 rfl G.JV boot_isinstance (ae (aa 3) (ae (FT (n:="tuple") rfl G.tuple iG) ah))) (yV (pj bY dS (aa 1) aj (bj _)))))))) bV)
 (au (aN (i:=4) Az.nd rfl (Or.inl rfl) (gq E4 GX rfl G.list xZ (ae (aa 3) ah)))
 (au (bS (bq bY dS (aI b_ aY (aa 2) aj) aj (bj _)) (ax (b7 (dv cw dz dH dq dE (aa 3) (ae bG ah)))) (ax (b7 (iQ cw M0 PySem.F.type_list_clear QX X_ (aa 3)))))
 (ax (a_ (pj (Fz (zy hr)) GL (aJ w8 hr rfl (ae (aa 0) (ae (aa 1) ah))) (aa 4) (bj _)))))))),?_⟩
 nofun;refine⟨pr,prog,e0,way,rfl,hS,hP,fh,?_⟩;obtain⟨an,han⟩:∃an,ans prog e0 way=an:=⟨_,rfl⟩;rw[han]at hok ⊢;have deep:∀{es:List D},(∀d∈es,d.pure=true/\bN d.dt<=150)->D.fM es=true/\dC (D.cA es)<=150:=λ{es} h=>by
  refine⟨D.ny.mpr λd hd=>(h d hd).1,?_⟩;rw[D.kC];refine tf λd hd=>?_;obtain⟨u,hu,rfl⟩:=bM.mp hd;exact(h u hu).2
 cases an with
 |non =>
  simp only[jT];nofun;exact⟨Sub.refl _,hq⟩
 |tup w =>
  have w6:way=6:=hok;simp only[jT];unfold iZ;nofun;rw[decide_eq_true w6];exact⟨Sub.refl _,hq⟩
 |ls es =>
  obtain⟨h1,h2⟩:=deep hok.1;have hl:=hok.2;simp only[jT];intro a ha;nofun;refine zq av ?_;intro kp hkp;have n1:a≠kp:=ne3 av hkp;have g1:=az (o:=.lst es) (az (o:=.lst es) hS ha) hkp;have g2:up (up S a (.lst es)) kp (.lst es) a=some (.lst es):=az av hkp;have g3:up (up S a (.lst es)) kp (.lst es) kp=some (.lst es):=av;have s1:Sub S (up (up S a (.lst es)) kp (.lst es)):=((Sub.refl S).up ha).up hkp;generalize up (up S a (.lst es)) kp (.lst es)=S1 at g1 g2 g3 s1 ⊢;have np:pr≠a:=ne3 hS ha;by_cases c2:c%2=0
  ·nofun;refine cL g2 (cT (by lia)) ?_;have k1:=(aM (o:=.lst (es++[.str "x"])) np).trans g1;have k3:=(aM (o:=.lst (es++[.str "x"])) n1.symm).trans g3;have s2:Sub S (up S1 a (.lst (es++[.str "x"]))):=s1.at ha;generalize up S1 a (.lst (es++[.str "x"]))=S2 at k1 k3 s2 ⊢;nofun;refine⟨pr,prog,e0,way,rfl,k1,hP,fh,?_⟩;rw[han];simp only[jT];intro a2 ha2;nofun;refine⟨.lst (D.cA es),.lst (D.cA es),.ref av (dc.of h1),.ref (az k3 ha2) (dc.of h1),by simp only[bN];lia,?_⟩;rw[kq];exact⟨s2.up ha2,hq⟩
  ·nofun;refine JI g2 ?_;have k1:=(aM (o:=.lst []) np).trans g1;have k3:=(aM (o:=.lst []) n1.symm).trans g3;have s2:Sub S (up S1 a (.lst [])):=s1.at ha;generalize up S1 a (.lst [])=S2 at k1 k3 s2 ⊢;nofun;refine⟨pr,prog,e0,way,rfl,k1,hP,fh,?_⟩;rw[han];simp only[jT];intro a2 ha2;nofun;refine⟨.lst (D.cA es),.lst (D.cA es),.ref av (dc.of h1),.ref (az k3 ha2) (dc.of h1),by simp only[bN];lia,?_⟩;rw[kq];exact⟨s2.up ha2,hq⟩
 |ends es =>
  obtain⟨h1,h2⟩:=deep hok.1;simp only[jT];intro b a hb ha;nofun;refine zq av ?_;intro kp hkp;have n0:b≠a:=ne3 av ha;have n1:a≠kp:=ne3 av hkp;have g1:=az (o:=.lst [.str "ends",.ref b]) (az (o:=.lst [.str "ends",.ref b]) (az (o:=.lst es) hS hb) ha) hkp;have g2:up (up (up S b (.lst es)) a (.lst [.str "ends",.ref b])) kp (.lst [.str "ends",.ref b]) a=some (.lst [.str "ends",.ref b]):=az av hkp;have g3:up (up (up S b (.lst es)) a (.lst [.str "ends",.ref b])) kp (.lst [.str "ends",.ref b]) kp=some (.lst [.str "ends",.ref b]):=av;have g4:up (up (up S b (.lst es)) a (.lst [.str "ends",.ref b])) kp (.lst [.str "ends",.ref b]) b=some (.lst es):=az (az av ha) hkp;have BR:S a=none:=((Sub.refl S).up hb).free ha;have s1:Sub S (up (up (up S b (.lst es)) a (.lst [.str "ends",.ref b])) kp (.lst [.str "ends",.ref b])):=(((Sub.refl S).up hb).up ha).up hkp;generalize up (up (up S b (.lst es)) a (.lst [.str "ends",.ref b])) kp (.lst [.str "ends",.ref b])=S1 at g1 g2 g3 g4 s1 ⊢;have np:pr≠a:=ne3 hS BR;by_cases c2:c%2=0
  ·nofun;refine cL g2 (cT (by simp)) ?_;have k1:=(aM (o:=.lst ([.str "ends",.ref b]++[.str "x"])) np).trans g1;have k3:=(aM (o:=.lst ([.str "ends",.ref b]++[.str "x"])) n1.symm).trans g3;have k4:=(aM (o:=.lst ([.str "ends",.ref b]++[.str "x"])) n0).trans g4;have s2:Sub S (up S1 a (.lst ([.str "ends",.ref b]++[.str "x"]))):=s1.at BR;generalize up S1 a (.lst ([.str "ends",.ref b]++[.str "x"]))=S2 at k1 k3 k4 s2 ⊢;nofun;refine⟨pr,prog,e0,way,rfl,k1,hP,fh,?_⟩;rw[han];simp only[jT];intro b2 a2 hb2 ha2;nofun;refine⟨.lst [.str "ends",.lst (D.cA es)],.lst [.str "ends",.lst (D.cA es)],.ref av (.cons (.str _) (.cons (.ref (az av ha2) (dc.of h1)) .nil)),.ref (az (az k3 hb2) ha2) (.cons (.str _) (.cons (.ref (az (az k4 hb2) ha2) (dc.of h1)) .nil)),by simp only[bN,dC];lia,?_⟩;rw[kq];exact⟨(s2.up hb2).up ha2,hq⟩
  ·nofun;refine JI g2 ?_;have k1:=(aM (o:=.lst []) np).trans g1;have k3:=(aM (o:=.lst []) n1.symm).trans g3;have k4:=(aM (o:=.lst []) n0).trans g4;have s2:Sub S (up S1 a (.lst [])):=s1.at BR;generalize up S1 a (.lst [])=S2 at k1 k3 k4 s2 ⊢;nofun;refine⟨pr,prog,e0,way,rfl,k1,hP,fh,?_⟩;rw[han];simp only[jT];intro b2 a2 hb2 ha2;nofun;refine⟨.lst [.str "ends",.lst (D.cA es)],.lst [.str "ends",.lst (D.cA es)],.ref av (.cons (.str _) (.cons (.ref (az av ha2) (dc.of h1)) .nil)),.ref (az (az k3 hb2) ha2) (.cons (.str _) (.cons (.ref (az (az k4 hb2) ha2) (dc.of h1)) .nil)),by simp only[bN,dC];lia,?_⟩;rw[kq];exact⟨(s2.up hb2).up ha2,hq⟩
theorem aaK{f:Addr}{fd:FuncData}(F:m7 K "law" "law" kS f fd)(G:Gs K mg)(mz:aq P w K mg base 89 "_law_cell_at" ["script","k"] wG)(w9:aq P w K mg base 89 "_law_any" ["script","spot","way","most"] J3)
 (ud:aq P w K mg base 89 "_law_turned" ["program","way","cell"] Lf):dj P w K mg base (cc P w) 90 f fd ["script"] (iS K pF):=show _ by
 refine Uh F qz λcdv A outer s0 H E ns hr h63=>?_;refine⟨_,(au (aN (i:=1) qz.nd rfl (Or.inl rfl) (d6 (ae aj ah)))
 (au (aN (i:=2) qz.nd rfl (Or.inl rfl) (aJ w9 hr rfl (ae (aa 0) (ae (aa 1) (ae (aI b_ aY (aJ mz hr rfl (ae (aa 0) (ae aj ah))) aj) (ae aj ah))))))
 (au (aN (i:=3) qz.nd rfl (Or.inl rfl) (aJ w9 hr rfl (ae (aa 0) (ae (aa 1) (ae aj (ae aj ah))))))
 (au (aN (i:=4) qz.nd rfl (Or.inl rfl) (aI b_ aY (aI dn aY (aJ mz hr rfl (ae (aa 0) (ae aj ah))) aj) aj))
 (au (aN (i:=5) qz.nd rfl (Or.inl rfl) (aJ mz hr rfl (ae (aa 0) (ae aj ah))))
 (au (bS (fm.pt (w_or (vw (ni (aJ ud hr rfl (ae (aa 2) (ae (aa 4) (ae (aa 5) ah)))))) (F3 (vw (ni (aJ ud hr rfl (ae (aa 3) (ae (aa 4) (ae (aI dn aY (aa 5) aj) ah))))))))) (ax (a_ nh)) bV)
 (ax (a_ (aJ ud hr rfl (ae (aa 2) (ae (aa 4) (ae (aI dn aY (aa 5) aj) ah)))))))))))),?_⟩
 have cell:∀{k:Int} {S:af} {Q:K3} {W:X3},0<=k->Q (.int (cellAt ns k)) S->wG [.bH (ns.map D.int),.int k] S Q W:=λh0 q=>⟨ns,_,rfl,h0,q⟩;have first:∀{prog:List Er},Pg prog->∃e0,prog[0]?=some e0:=λh=>⟨_,bb h.Zb⟩;nofun;intro sp hsp;nofun;refine cell (by decide) ?_;nofun;refine⟨ns,sp,2,_,2,[],rfl,av,by decide,by decide,by decide,λprog i2 hg _ hi=>?_⟩;intro pr hpr;have n1:sp≠pr:=ne3 av hpr;have aaL:up (up emp sp (.lst [.int 2])) sp (.lst [.int i2]) pr=none:=by rw[aM n1.symm];exact hpr
 have a1:=az (o:=.lst (prog.map Er.d)) (av (S:=up emp sp (.lst [.int 2])) (a:=sp) (o:=.lst [.int i2])) aaL;have a2:up (up (up emp sp (.lst [.int 2])) sp (.lst [.int i2])) pr (.lst (prog.map Er.d)) pr=some (.lst (prog.map Er.d)):=av;generalize up (up (up emp sp (.lst [.int 2])) sp (.lst [.int i2])) pr (.lst (prog.map Er.d))=S1 at a1 a2 ⊢;nofun;refine⟨ns,sp,i2,_,2,[],rfl,a1,hi,by decide,by decide,λue i3 hg2 _ jP=>?_⟩;intro p2 hp2;have n2:sp≠p2:=ne3 a1 hp2;have hp2':up S1 sp (.lst [.int i3]) p2=none:=by rw[aM n2.symm];exact hp2
 have b2:=az (o:=.lst (ue.map Er.d)) ((aM (o:=.lst [.int i3]) n1.symm).trans a2) hp2';have b3:up (up S1 sp (.lst [.int i3])) p2 (.lst (ue.map Er.d)) p2=some (.lst (ue.map Er.d)):=av;generalize up (up S1 sp (.lst [.int i3])) p2 (.lst (ue.map Er.d))=S2 at b2 b3 ⊢;nofun;refine cell (by decide) ?_;nofun;refine cell (by decide) ?_;have w0:=hG (cellAt ns 0/2) (show(7:Int)≠0 by decide);have w6:=uB (cellAt ns 0/2) (show(0:Int)<7 by decide);obtain⟨e0,fh⟩:=first hg;obtain⟨e2,he2⟩:=first hg2;nofun;refine⟨pr,prog,e0,_,_,rfl,b2,hg,fh,BN hg fh w0 (by lia),?_⟩;nofun;refine⟨p2,ue,e2,_,_,rfl,b3,hg2,he2,BN hg2 he2 w0 (by lia),?_⟩;nofun;refine⟨pr,prog,e0,_,_,rfl,b2,hg,fh,BN hg fh w0 (by lia),?_⟩;nofun;rfl
end
theorem all_mk{l:Dy}{w:World}{K:ao}{h:Heap}{mg:Str->Option Value}{fa BS BU BV BW BX BY BZ B0 B1 B2 B3 B4 B5 B6 B7 B8 B9 B_ B' Cb Cc Cd Ce Cf Cg Ci Cj Ck Cm Cn Co Cp Cq Cr Cs Ct Cu Cv Cw Cy Cz CB CC CF CG w_ xc xf xg xh xi xj xk xl CH:Addr}
 (X:K.In h) (G:h.Ns mainGlobals mg) (hfa:mg "law"=some (.ref fa))
 {aaM aaN aaO aaP aaQ aaR aaS aaT aaU aaV aaW aaX aaY aaZ aa0 aa1 aa2 aa3 aa4 aa5 aa6 aa7 aa8 aa9 aba abb abd abe abf abg abh abi abj abk abl abm abn abo abp abq abr abt abu abv abw abx aby abz abA abB abC abD abE abF abG abH abI abJ abK abL abM abN abO abP abQ abR abS abT abU abV abW abX abY abZ ab0 ab1 ab2 ab3 ab4 ab5 ab6 ab7 ab8 ab9 aca acb acd ace acf acg ach aci acj ack acn aco acp acq acr acs acu acv acw acx acy acz acA acB acC Lg:Option Addr}
 {acD acE acF acG acH acI acJ acK acL acM acN acO acP acQ acR acS acT acU acV acW acX acY acZ ac0 ac1 ac2 ac3 ac4 ac5 ac6 ac7 ac8 ac9 ada adb ade adf adg adh adi adk adl adm adn ado adp adq adt adu adv adw adx ady adz adA:Array (Option Value)}
 {adB adC adD adE Lh adF adG adH adI adJ Li adK adL adM adN adO Lj adP adQ adR adS adT Lk adU adV adW adX adY Ll adZ ad0 ad1 ad2 ad3 Lm ad4 ad5 ad6 ad7 ad8 Ln ad9 aea aeb aec aed Lo aee aef aeg aeh aei Lp aej aek ael aem aen Lq aeo aep aeq aer aes Lr aet aeu aev aew aex Ls aey aez aeA aeB aeC Lu aeD aeE aeF aeG aeH Lv aeI aeJ aeK aeL aeM Lw aeN aeO aeP aeQ aeR Lx aeS aeT aeU aeV aeW Ly aeX aeY aeZ ae0 ae1 Lz ae2 ae3 ae4 ae5 ae6 LA ae7 ae8 ae9 afa afb LB afc afd afe afg afh LC afi afj afk afl afm LD afn afo afp afq afr LF afs aft afu afv afw LG afx afy afz afA afB LH afC afD afE afF afG LJ afH afI afJ afK afL LK afM afN afO afP afQ LL afR afS afT afU afV LM afW afX afY afZ af0 LN af1 af2 af3 af4 af5 LO af6 af7 af8 af9 aga LP agb agc agd age agf LQ agg agh agi agj agk LR agl agm agn ago agp LS agq agr ags agt agu LU agv agw agx agy agz LV agA agB agC agD agE LX agF agG agH agI agJ LY agK agL agM agN agO LZ agP agQ agR agS agT L0 agU agV agW agX agY L1 agZ ag0 ag1 ag2 ag3 L3 ag4 ag5 ag6 ag7 ag8 L4 ag9 aha ahb ahc ahd L5 ahe ahf ahg ahh ahi L6 ahj ahk ahl ahm ahn L7 aho ahp ahq ahr ahs L8 aht ahu ahv ahw ahx L9 ahy ahz ahA ahB ahC L_ ahD ahE ahF ahG ahH L' ahI ahJ ahK ahL ahM Ma ahN ahO ahP ahQ ahR Mb ahS ahT ahU ahV ahW Mc ahX ahY Md Me Mf CI Mg:Value}
 {ahZ ah0:Tok}
 {CR:Addr}
 (aC:a9 K mainGlobals "Run"=some (some (.ref CR)))
 (a_0:a9 K mainGlobals "sends"=some (some (.ref BS)))
 (l_0:K.lookup BS=some ⟨adB,aaM,.func (a8 "sends" "sends" (bc pV) (aR pV) (ak pV) .none adC adD adE aaN Lh adF),acD⟩)
 (c_0:bt K Lh "sends"=true) (k_0:a7 K (.ref BS)=true)
 (a_1:a9 K mainGlobals "in_order"=some (some (.ref BU)))
 (l_1:K.lookup BU=some ⟨adG,aaO,.func (a8 "in_order" "in_order" (bc pW) (aR pW) (ak pW) .none adH adI adJ aaP Li adK),acE⟩)
 (c_1:bt K Li "in_order"=true) (k_1:a7 K (.ref BU)=true)
 (a_2:a9 K mainGlobals "parts"=some (some (.ref BV)))
 (l_2:K.lookup BV=some ⟨adL,aaQ,.func (a8 "parts" "parts" (bc pX) (aR pX) (ak pX) .none adM adN adO aaR Lj adP),acF⟩)
 (c_2:bt K Lj "parts"=true) (k_2:a7 K (.ref BV)=true)
 (a_3:a9 K mainGlobals "refuse_missing"=some (some (.ref BW)))
 (l_3:K.lookup BW=some ⟨adQ,aaS,.func (a8 "refuse_missing" "refuse_missing" (bc pY) (aR pY) (ak pY) .none adR adS adT aaT Lk adU),acG⟩)
 (c_3:bt K Lk "refuse_missing"=true) (k_3:a7 K (.ref BW)=true)
 (a_4:a9 K mainGlobals "refuse_miscounted"=some (some (.ref BX)))
 (l_4:K.lookup BX=some ⟨adV,aaU,.func (a8 "refuse_miscounted" "refuse_miscounted" (bc pZ) (aR pZ) (ak pZ) .none adW adX adY aaV Ll adZ),acH⟩)
 (c_4:bt K Ll "refuse_miscounted"=true) (k_4:a7 K (.ref BX)=true)
 (a_5:a9 K mainGlobals "graphs"=some (some (.ref BY)))
 (l_5:K.lookup BY=some ⟨ad0,aaW,.func (a8 "graphs" "graphs" (bc nN) (aR nN) (ak nN) .none ad1 ad2 ad3 aaX Lm ad4),acI⟩)
 (c_5:bt K Lm "graphs"=true) (k_5:a7 K (.ref BY)=true)
 (a_6:a9 K mainGlobals "placed_sends"=some (some (.ref BZ)))
 (l_6:K.lookup BZ=some ⟨ad5,aaY,.func (a8 "placed_sends" "placed_sends" (bc p6) (aR p6) (ak p6) .none ad6 ad7 ad8 aaZ Ln ad9),acJ⟩)
 (c_6:bt K Ln "placed_sends"=true) (k_6:a7 K (.ref BZ)=true)
 (a_7:a9 K mainGlobals "placed_parts"=some (some (.ref B0)))
 (l_7:K.lookup B0=some ⟨aea,aa0,.func (a8 "placed_parts" "placed_parts" (bc nO) (aR nO) (ak nO) .none aeb aec aed aa1 Lo aee),acK⟩)
 (c_7:bt K Lo "placed_parts"=true) (k_7:a7 K (.ref B0)=true)
 (a_8:a9 K mainGlobals "path_parameter"=some (some (.ref B1)))
 (l_8:K.lookup B1=some ⟨aef,aa2,.func (a8 "path_parameter" "path_parameter" (bc p7) (aR p7) (ak p7) .none aeg aeh aei aa3 Lp aej),acL⟩)
 (c_8:bt K Lp "path_parameter"=true) (k_8:a7 K (.ref B1)=true)
 (a_9:a9 K mainGlobals "told_row"=some (some (.ref B2)))
 (l_9:K.lookup B2=some ⟨aek,aa4,.func (a8 "told_row" "told_row" (bc nP) (aR nP) (ak nP) .none ael aem aen aa5 Lq aeo),acM⟩)
 (c_9:bt K Lq "told_row"=true) (k_9:a7 K (.ref B2)=true)
 (a_a:a9 K mainGlobals "told_number"=some (some (.ref B3)))
 (l_a:K.lookup B3=some ⟨aep,aa6,.func (a8 "told_number" "told_number" (bc p8) (aR p8) (ak p8) .none aeq aer aes aa7 Lr aet),acN⟩)
 (c_a:bt K Lr "told_number"=true) (k_a:a7 K (.ref B3)=true)
 (a_b:a9 K mainGlobals "composed"=some (some (.ref B4)))
 (l_b:K.lookup B4=some ⟨aeu,aa8,.func (a8 "composed" "composed" (bc nQ) (aR nQ) (ak nQ) .none aev aew aex aa9 Ls aey),acO⟩)
 (c_b:bt K Ls "composed"=true) (k_b:a7 K (.ref B4)=true)
 (a_c:a9 K mainGlobals "fit"=some (some (.ref B5)))
 (l_c:K.lookup B5=some ⟨aez,aba,.func (a8 "fit" "fit" (bc p9) (aR p9) (ak p9) .none aeA aeB aeC abb Lu aeD),acP⟩)
 (c_c:bt K Lu "fit"=true) (k_c:a7 K (.ref B5)=true)
 (a_d:a9 K mainGlobals "composed_row"=some (some (.ref B6)))
 (l_d:K.lookup B6=some ⟨aeE,abd,.func (a8 "composed_row" "composed_row" (bc nR) (aR nR) (ak nR) .none aeF aeG aeH abe Lv aeI),acQ⟩)
 (c_d:bt K Lv "composed_row"=true) (k_d:a7 K (.ref B6)=true)
 (a_e:a9 K mainGlobals "largest_between"=some (some (.ref B7)))
 (l_e:K.lookup B7=some ⟨aeJ,abf,.func (a8 "largest_between" "largest_between" (bc nS) (aR nS) (ak nS) .none aeK aeL aeM abg Lw aeN),acR⟩)
 (c_e:bt K Lw "largest_between"=true) (k_e:a7 K (.ref B7)=true)
 (a_f:a9 K mainGlobals "joined_number"=some (some (.ref B8)))
 (l_f:K.lookup B8=some ⟨aeO,abh,.func (a8 "joined_number" "joined_number" (bc p_) (aR p_) (ak p_) .none aeP aeQ aeR abi Lx aeS),acS⟩)
 (c_f:bt K Lx "joined_number"=true) (k_f:a7 K (.ref B8)=true)
 (a_g:a9 K mainGlobals "closure"=some (some (.ref B9)))
 (l_g:K.lookup B9=some ⟨aeT,abj,.func (a8 "closure" "closure" (bc qa) (aR qa) (ak qa) .none aeU aeV aeW abk Ly aeX),acT⟩)
 (c_g:bt K Ly "closure"=true) (k_g:a7 K (.ref B9)=true)
 (a_h:a9 K mainGlobals "judged"=some (some (.ref B_)))
 (l_h:K.lookup B_=some ⟨aeY,abl,.func (a8 "judged" "judged" (bc qc) (aR qc) (ak qc) .none aeZ ae0 ae1 abm Lz ae2),acU⟩)
 (c_h:bt K Lz "judged"=true) (k_h:a7 K (.ref B_)=true)
 (a_i:a9 K mainGlobals "reached"=some (some (.ref B')))
 (l_i:K.lookup B'=some ⟨ae3,abn,.func (a8 "reached" "reached" (bc mw) (aR mw) (ak mw) .none ae4 ae5 ae6 abo LA ae7),acV⟩)
 (c_i:bt K LA "reached"=true) (k_i:a7 K (.ref B')=true)
 (a_j:a9 K mainGlobals "closure_of"=some (some (.ref Cb)))
 (l_j:K.lookup Cb=some ⟨ae8,abp,.func (a8 "closure_of" "closure_of" (bc qf) (aR qf) (ak qf) .none ae9 afa afb abq LB afc),acW⟩)
 (c_j:bt K LB "closure_of"=true) (k_j:a7 K (.ref Cb)=true)
 (a_k:a9 K mainGlobals "put_new"=some (some (.ref Cc)))
 (l_k:K.lookup Cc=some ⟨afd,abr,.func (a8 "put_new" "put_new" (bc nV) (aR nV) (ak nV) .none afe afg afh abt LC afi),acX⟩)
 (c_k:bt K LC "put_new"=true) (k_k:a7 K (.ref Cc)=true)
 (a_l:a9 K mainGlobals "telling_of"=some (some (.ref Cd)))
 (l_l:K.lookup Cd=some ⟨afj,abu,.func (a8 "telling_of" "telling_of" (bc nW) (aR nW) (ak nW) .none afk afl afm abv LD afn),acY⟩)
 (c_l:bt K LD "telling_of"=true) (k_l:a7 K (.ref Cd)=true)
 (a_m:a9 K mainGlobals "is_idle_round"=some (some (.ref Ce)))
 (l_m:K.lookup Ce=some ⟨afo,abw,.func (a8 "is_idle_round" "is_idle_round" (bc qg) (aR qg) (ak qg) .none afp afq afr abx LF afs),acZ⟩)
 (c_m:bt K LF "is_idle_round"=true) (k_m:a7 K (.ref Ce)=true)
 (a_n:a9 K mainGlobals "falls_here"=some (some (.ref Cf)))
 (l_n:K.lookup Cf=some ⟨aft,aby,.func (a8 "falls_here" "falls_here" (bc nX) (aR nX) (ak nX) .none afu afv afw abz LG afx),ac0⟩)
 (c_n:bt K LG "falls_here"=true) (k_n:a7 K (.ref Cf)=true)
 (a_o:a9 K mainGlobals "size"=some (some (.ref Cg)))
 (l_o:K.lookup Cg=some ⟨afy,abA,.func (a8 "size" "size" (bc qh) (aR qh) (ak qh) .none afz afA afB abB LH afC),ac1⟩)
 (c_o:bt K LH "size"=true) (k_o:a7 K (.ref Cg)=true)
 (a_p:a9 K mainGlobals "entries"=some (some (.ref Ci)))
 (l_p:K.lookup Ci=some ⟨afD,abC,.func (a8 "entries" "entries" (bc qi) (aR qi) (ak qi) .none afE afF afG abD LJ afH),ac2⟩)
 (c_p:bt K LJ "entries"=true) (k_p:a7 K (.ref Ci)=true)
 (a_q:a9 K mainGlobals "ended_run"=some (some (.ref Cj)))
 (l_q:K.lookup Cj=some ⟨afI,abE,.func (a8 "ended_run" "ended_run" (bc nY) (aR nY) (ak nY) .none afJ afK afL abF LK afM),ac3⟩)
 (c_q:bt K LK "ended_run"=true) (k_q:a7 K (.ref Cj)=true)
 (a_r:a9 K mainGlobals "numbered_bodies"=some (some (.ref Ck)))
 (l_r:K.lookup Ck=some ⟨afN,abG,.func (a8 "numbered_bodies" "numbered_bodies" (bc qj) (aR qj) (ak qj) .none afO afP afQ abH LL afR),ac4⟩)
 (c_r:bt K LL "numbered_bodies"=true) (k_r:a7 K (.ref Ck)=true)
 (a_s:a9 K mainGlobals "count_sends"=some (some (.ref Cm)))
 (l_s:K.lookup Cm=some ⟨afS,abI,.func (a8 "count_sends" "count_sends" (bc nZ) (aR nZ) (ak nZ) .none afT afU afV abJ LM afW),ac5⟩)
 (c_s:bt K LM "count_sends"=true) (k_s:a7 K (.ref Cm)=true)
 (a_t:a9 K mainGlobals "numbered"=some (some (.ref Cn)))
 (l_t:K.lookup Cn=some ⟨afX,abK,.func (a8 "numbered" "numbered" (bc n6) (aR n6) (ak n6) .none afY afZ af0 abL LN af1),ac6⟩)
 (c_t:bt K LN "numbered"=true) (k_t:a7 K (.ref Cn)=true)
 (a_u:a9 K mainGlobals "needed_parts"=some (some (.ref Co)))
 (l_u:K.lookup Co=some ⟨af2,abM,.func (a8 "needed_parts" "needed_parts" (bc qm) (aR qm) (ak qm) .none af3 af4 af5 abN LO af6),ac7⟩)
 (c_u:bt K LO "needed_parts"=true) (k_u:a7 K (.ref Co)=true)
 (a_v:a9 K mainGlobals "side"=some (some (.ref Cp)))
 (l_v:K.lookup Cp=some ⟨af7,abO,.func (a8 "side" "side" (bc qo) (aR qo) (ak qo) .none af8 af9 aga abP LP agb),ac8⟩)
 (c_v:bt K LP "side"=true) (k_v:a7 K (.ref Cp)=true)
 (a_w:a9 K mainGlobals "_law_cell_at"=some (some (.ref Cq)))
 (l_w:K.lookup Cq=some ⟨agc,abQ,.func (a8 "_law_cell_at" "_law_cell_at" (bc qp) (aR qp) (ak qp) .none agd age agf abR LQ agg),ac9⟩)
 (c_w:bt K LQ "_law_cell_at"=true) (k_w:a7 K (.ref Cq)=true)
 (a_x:a9 K mainGlobals "_law_names"=some (some (.ref Cr)))
 (l_x:K.lookup Cr=some ⟨agh,abS,.func (a8 "_law_names" "_law_names" (bc kQ) (aR kQ) (ak kQ) .none agi agj agk abT LR agl),ada⟩)
 (c_x:bt K LR "_law_names"=true) (k_x:a7 K (.ref Cr)=true)
 (a_y:a9 K mainGlobals "_law_next"=some (some (.ref Cs)))
 (l_y:K.lookup Cs=some ⟨agm,abU,.func (a8 "_law_next" "_law_next" (bc qq) (aR qq) (ak qq) .none agn ago agp abV LS agq),adb⟩)
 (c_y:bt K LS "_law_next"=true) (k_y:a7 K (.ref Cs)=true)
 (a_z:a9 K mainGlobals "_law_path"=some (some (.ref Ct)))
 (l_z:K.lookup Ct=some ⟨agr,abW,.func (a8 "_law_path" "_law_path" (bc qr) (aR qr) (ak qr) .none ags agt agu abX LU agv),ade⟩)
 (c_z:bt K LU "_law_path"=true) (k_z:a7 K (.ref Ct)=true)
 (a_10:a9 K mainGlobals "_law_arg"=some (some (.ref Cu)))
 (l_10:K.lookup Cu=some ⟨agw,abY,.func (a8 "_law_arg" "_law_arg" (bc qt) (aR qt) (ak qt) .none agx agy agz abZ LV agA),adf⟩)
 (c_10:bt K LV "_law_arg"=true) (k_10:a7 K (.ref Cu)=true)
 (a_11:a9 K mainGlobals "_law_send"=some (some (.ref Cv)))
 (l_11:K.lookup Cv=some ⟨agB,ab0,.func (a8 "_law_send" "_law_send" (bc n8) (aR n8) (ak n8) .none agC agD agE ab1 LX agF),adg⟩)
 (c_11:bt K LX "_law_send"=true) (k_11:a7 K (.ref Cv)=true)
 (a_12:a9 K mainGlobals "_law_body"=some (some (.ref Cw)))
 (l_12:K.lookup Cw=some ⟨agG,ab2,.func (a8 "_law_body" "_law_body" (bc qu) (aR qu) (ak qu) .none agH agI agJ ab3 LY agK),adh⟩)
 (c_12:bt K LY "_law_body"=true) (k_12:a7 K (.ref Cw)=true)
 (a_13:a9 K mainGlobals "_law_program"=some (some (.ref Cy)))
 (l_13:K.lookup Cy=some ⟨agL,ab4,.func (a8 "_law_program" "_law_program" (bc n_) (aR n_) (ak n_) .none agM agN agO ab5 LZ agP),adi⟩)
 (c_13:bt K LZ "_law_program"=true) (k_13:a7 K (.ref Cy)=true)
 (a_14:a9 K mainGlobals "_law_tame_send"=some (some (.ref Cz)))
 (l_14:K.lookup Cz=some ⟨agQ,ab6,.func (a8 "_law_tame_send" "_law_tame_send" (bc qv) (aR qv) (ak qv) .none agR agS agT ab7 L0 agU),adk⟩)
 (c_14:bt K L0 "_law_tame_send"=true) (k_14:a7 K (.ref Cz)=true)
 (a_15:a9 K mainGlobals "_law_tame"=some (some (.ref CB)))
 (l_15:K.lookup CB=some ⟨agV,ab8,.func (a8 "_law_tame" "_law_tame" (bc og) (aR og) (ak og) .none agW agX agY ab9 L1 agZ),adl⟩)
 (c_15:bt K L1 "_law_tame"=true) (k_15:a7 K (.ref CB)=true)
 (a_16:a9 K mainGlobals "_law_any"=some (some (.ref CC)))
 (l_16:K.lookup CC=some ⟨ag0,aca,.func (a8 "_law_any" "_law_any" (bc qw) (aR qw) (ak qw) .none ag1 ag2 ag3 acb L3 ag4),adm⟩)
 (c_16:bt K L3 "_law_any"=true) (k_16:a7 K (.ref CC)=true)
 (a_17:a9 K mainGlobals "_law_asked"=some (some (.ref CF)))
 (l_17:K.lookup CF=some ⟨ag5,acd,.func (a8 "_law_asked" "_law_asked" (bc oh) (aR oh) (ak oh) .none ag6 ag7 ag8 ace L4 ag9),adn⟩)
 (c_17:bt K L4 "_law_asked"=true) (k_17:a7 K (.ref CF)=true)
 (a_18:a9 K mainGlobals "_law_turned"=some (some (.ref CG)))
 (l_18:K.lookup CG=some ⟨aha,acf,.func (a8 "_law_turned" "_law_turned" (bc qy) (aR qy) (ak qy) .none ahb ahc ahd acg L5 ahe),ado⟩)
 (c_18:bt K L5 "_law_turned"=true) (k_18:a7 K (.ref CG)=true)
 (a_19:cM K (.ref CR) "__init__"=some (some (.ref w_))) (i_R_init:g0 K (.ref w_)=true)
 (l_19:K.lookup w_=some ⟨ahf,ach,.func (a8 "__init__" "Run.__init__" (bc qA) (aR qA) (ak qA) .none ahg ahh ahi aci L6 ahj),adp⟩)
 (c_19:bt K L6 "Run.__init__"=true) (k_19:a7 K (.ref w_)=true)
 (a_1a:cM K (.ref CR) "begin"=some (some (.ref xc))) (i_R_begin:g0 K (.ref xc)=true)
 (l_1a:K.lookup xc=some ⟨ahk,acj,.func (a8 "begin" "Run.begin" (bc qB) (aR qB) (ak qB) .none ahl ahm ahn ack L7 aho),adq⟩)
 (c_1a:bt K L7 "Run.begin"=true) (k_1a:a7 K (.ref xc)=true)
 (a_1b:cM K (.ref CR) "go_on"=some (some (.ref xf))) (i_R_go_on:g0 K (.ref xf)=true)
 (l_1b:K.lookup xf=some ⟨ahp,acn,.func (a8 "go_on" "Run.go_on" (bc qC) (aR qC) (ak qC) .none ahq ahr ahs aco L8 aht),adt⟩)
 (c_1b:bt K L8 "Run.go_on"=true) (k_1b:a7 K (.ref xf)=true)
 (a_1c:cM K (.ref CR) "prepare"=some (some (.ref xg))) (i_R_prepare:g0 K (.ref xg)=true)
 (l_1c:K.lookup xg=some ⟨ahu,acp,.func (a8 "prepare" "Run.prepare" (bc qD) (aR qD) (ak qD) .none ahv ahw ahx acq L9 ahy),adu⟩)
 (c_1c:bt K L9 "Run.prepare"=true) (k_1c:a7 K (.ref xg)=true)
 (a_1d:cM K (.ref CR) "finish"=some (some (.ref xh))) (i_R_finish:g0 K (.ref xh)=true)
 (l_1d:K.lookup xh=some ⟨ahz,acr,.func (a8 "finish" "Run.finish" (bc qE) (aR qE) (ak qE) .none ahA ahB ahC acs L_ ahD),adv⟩)
 (c_1d:bt K L_ "Run.finish"=true) (k_1d:a7 K (.ref xh)=true)
 (a_1e:cM K (.ref CR) "taken"=some (some (.ref xi))) (i_R_taken:g0 K (.ref xi)=true)
 (l_1e:K.lookup xi=some ⟨ahE,acu,.func (a8 "taken" "Run.taken" (bc qF) (aR qF) (ak qF) .none ahF ahG ahH acv L' ahI),adw⟩)
 (c_1e:bt K L' "Run.taken"=true) (k_1e:a7 K (.ref xi)=true)
 (a_1f:cM K (.ref CR) "choose"=some (some (.ref xj))) (i_R_choose:g0 K (.ref xj)=true)
 (l_1f:K.lookup xj=some ⟨ahJ,acw,.func (a8 "choose" "Run.choose" (bc qG) (aR qG) (ak qG) .none ahK ahL ahM acx Ma ahN),adx⟩)
 (c_1f:bt K Ma "Run.choose"=true) (k_1f:a7 K (.ref xj)=true)
 (a_1g:cM K (.ref CR) "join_pair"=some (some (.ref xk))) (i_R_join_pair:g0 K (.ref xk)=true)
 (l_1g:K.lookup xk=some ⟨ahO,acy,.func (a8 "join_pair" "Run.join_pair" (bc qH) (aR qH) (ak qH) .none ahP ahQ ahR acz Mb ahS),ady⟩)
 (c_1g:bt K Mb "Run.join_pair"=true) (k_1g:a7 K (.ref xk)=true)
 (a_1h:cM K (.ref CR) "parameter"=some (some (.ref xl))) (i_R_parameter:g0 K (.ref xl)=true)
 (l_1h:K.lookup xl=some ⟨ahT,acA,.func (a8 "parameter" "Run.parameter" (bc qI) (aR qI) (ak qI) .none ahU ahV ahW acB Mc ahX),adz⟩)
 (c_1h:bt K Mc "Run.parameter"=true) (k_1h:a7 K (.ref xl)=true)
 (a_1i:a9 K mainGlobals "law"=some (some (.ref CH)))
 (l_1i:K.lookup CH=some ⟨ahY,acC,.func (a8 "law" "law" (bc kS) (aR kS) (ak kS) .none Md Me Mf Lg CI Mg),adA⟩)
 (c_1i:bt K CI "law"=true) (k_1i:a7 K (.ref CH)=true)
 (z_1l:a9 K mainGlobals "len"=some none)
 (z_1m:a9 K mainGlobals "range"=some none)
 (z_1n:a9 K mainGlobals "isinstance"=some none)
 (z_1o:a9 K mainGlobals "int"=some none)
 (z_1p:a9 K mainGlobals "bool"=some none)
 (z_1q:a9 K mainGlobals "tuple"=some none)
 (z_1r:a9 K mainGlobals "dict"=some none)
 (z_1s:a9 K mainGlobals "list"=some none)
 (z_1t:a9 K mainGlobals "reversed"=some none)
 (z_16:a9 K mainGlobals "any"=some none)
 (z_1u:a9 K mainGlobals "enumerate"=some none)
 (z_1v:a9 K mainGlobals "max"=some none)
 (z_1w:a9 K mainGlobals "zip"=some none)
 (z_1j:a9 K mainGlobals "MOST_PAIRS"=some (some (.int 60 ahZ)))
 (z_1k:a9 K mainGlobals "MOST_IN_CLOSURE"=some (some (.int 40 ah0)))
 {CJ CM CN:Addr}
 (x_1x:a9 K mainGlobals "ErrandError"=some (some (.ref CJ)))
 (x_1y:a9 K mainGlobals "Apart"=some (some (.ref CM)))
 (x_1z:a9 K mainGlobals "TooMany"=some (some (.ref CN)))
 (x_20:zE K [(.err,CJ),(.apart,CM),(.many,CN)]=true)
 (pgC:ui K CR Str.empty=true) (hdC:xu K CR=true) (poC:C4 K CR=true) (saC:cM K (.ref CR) "__setattr__"=some (some (.builtin "object.__setattr__"))) (mkC:uj K CR=true) (kcC:a7 K (.ref CR)=true)
 (n_params:cM K (.ref CR) "params"=some none)
 (n_bodies:cM K (.ref CR) "bodies"=some none)
 (n_most:cM K (.ref CR) "most"=some none)
 (n_begun:cM K (.ref CR) "begun"=some none)
 (n_pending:cM K (.ref CR) "pending"=some none)
 (n_waiting:cM K (.ref CR) "waiting"=some none)
 (n_ending:cM K (.ref CR) "ending"=some none) :
 ∃fd:FuncData,(∀(s:Shared) (v:Value),BindsTo s fd ⟨[v],[]⟩ [("script",v)])/\∀base:Heap,K.In base->base.Ns mainGlobals mg->dj l.prog w K mg base (cc l.prog w) 90 fa fd ["script"] (iS K pF):=show _ by
 have e:=hfa.symm.trans (mO X G a_1i);cases e;have H_0:aA K mg "sends" pV ["program"]:=bP X G a_0 l_0 c_0 k_0 λ_ _ _ _ _ _ us hl=>by obtain⟨_,rfl⟩:=eR hl;rfl
 have H_1:aA K mg "in_order" pW ["body"]:=bP X G a_1 l_1 c_1 k_1 λ_ _ _ _ _ _ us hl=>by obtain⟨_,rfl⟩:=eR hl;rfl
 have H_2:aA K mg "parts" pX ["saying"]:=bP X G a_2 l_2 c_2 k_2 λ_ _ _ _ _ _ us hl=>by obtain⟨_,rfl⟩:=eR hl;rfl
 have Mh:aA K mg "refuse_missing" pY ["name","known"]:=bP X G a_3 l_3 c_3 k_3 λ_ _ _ _ _ _ us hl=>by obtain⟨_,_,rfl⟩:=ln2 hl;rfl
 have H_4:aA K mg "refuse_miscounted" pZ ["name","row","needed"]:=bP X G a_4 l_4 c_4 k_4 λ_ _ _ _ _ _ us hl=>by obtain⟨_,_,_,rfl⟩:=gV hl;rfl
 have H_5:aA K mg "graphs" nN ["program"]:=bP X G a_5 l_5 c_5 k_5 λ_ _ _ _ _ _ us hl=>by obtain⟨_,rfl⟩:=eR hl;rfl
 have H_6:aA K mg "placed_sends" p6 ["body"]:=bP X G a_6 l_6 c_6 k_6 λ_ _ _ _ _ _ us hl=>by obtain⟨_,rfl⟩:=eR hl;rfl
 have H_7:aA K mg "placed_parts" nO ["saying","known"]:=bP X G a_7 l_7 c_7 k_7 λ_ _ _ _ _ _ us hl=>by obtain⟨_,_,rfl⟩:=ln2 hl;rfl
 have H_8:aA K mg "path_parameter" p7 ["saying"]:=bP X G a_8 l_8 c_8 k_8 λ_ _ _ _ _ _ us hl=>by obtain⟨_,rfl⟩:=eR hl;rfl
 have H_9:aA K mg "told_row" nP ["param","sayings","known"]:=bP X G a_9 l_9 c_9 k_9 λ_ _ _ _ _ _ us hl=>by obtain⟨_,_,_,rfl⟩:=gV hl;rfl
 have H_a:aA K mg "told_number" p8 ["param","saying","known"]:=bP X G a_a l_a c_a k_a λ_ _ _ _ _ _ us hl=>by obtain⟨_,_,_,rfl⟩:=gV hl;rfl
 have H_b:aA K mg "composed" nQ ["one","other"]:=bP X G a_b l_b c_b k_b λ_ _ _ _ _ _ us hl=>by obtain⟨_,_,rfl⟩:=ln2 hl;rfl
 have H_c:aA K mg "fit" p9 ["one","other"]:=bP X G a_c l_c c_c k_c λ_ _ _ _ _ _ us hl=>by obtain⟨_,_,rfl⟩:=ln2 hl;rfl
 have H_d:aA K mg "composed_row" nR ["row","rows"]:=bP X G a_d l_d c_d k_d λ_ _ _ _ _ _ us hl=>by obtain⟨_,_,rfl⟩:=ln2 hl;rfl
 have H_e:aA K mg "largest_between" nS ["row","rows","column"]:=bP X G a_e l_e c_e k_e λ_ _ _ _ _ _ us hl=>by obtain⟨_,_,_,rfl⟩:=gV hl;rfl
 have H_f:aA K mg "joined_number" p_ ["one","other"]:=bP X G a_f l_f c_f k_f λ_ _ _ _ _ _ us hl=>by obtain⟨_,_,rfl⟩:=ln2 hl;rfl
 have H_g:aA K mg "closure" qa ["program"]:=bP X G a_g l_g c_g k_g λ_ _ _ _ _ _ us hl=>by obtain⟨_,rfl⟩:=eR hl;rfl
 have H_h:aA K mg "judged" qc ["program"]:=bP X G a_h l_h c_h k_h λ_ _ _ _ _ _ us hl=>by obtain⟨_,rfl⟩:=eR hl;rfl
 have H_i:aA K mg "reached" mw ["program","name"]:=bP X G a_i l_i c_i k_i λ_ _ _ _ _ _ us hl=>by obtain⟨_,_,rfl⟩:=ln2 hl;rfl
 have H_j:aA K mg "closure_of" qf ["numbered"]:=bP X G a_j l_j c_j k_j λ_ _ _ _ _ _ us hl=>by obtain⟨_,rfl⟩:=eR hl;rfl
 have H_k:aA K mg "put_new" nV ["found","graph","way"]:=bP X G a_k l_k c_k k_k λ_ _ _ _ _ _ us hl=>by obtain⟨_,_,_,rfl⟩:=gV hl;rfl
 have H_l:aA K mg "telling_of" nW ["pairs"]:=bP X G a_l l_l c_l k_l λ_ _ _ _ _ _ us hl=>by obtain⟨_,rfl⟩:=eR hl;rfl
 have H_m:aA K mg "is_idle_round" qg ["graph"]:=bP X G a_m l_m c_m k_m λ_ _ _ _ _ _ us hl=>by obtain⟨_,rfl⟩:=eR hl;rfl
 have H_n:aA K mg "falls_here" nX ["graph"]:=bP X G a_n l_n c_n k_n λ_ _ _ _ _ _ us hl=>by obtain⟨_,rfl⟩:=eR hl;rfl
 have H_o:aA K mg "size" qh ["tree"]:=bP X G a_o l_o c_o k_o λ_ _ _ _ _ _ us hl=>by obtain⟨_,rfl⟩:=eR hl;rfl
 have H_p:aA K mg "entries" qi ["program","name","trees","most"]:=bP X G a_p l_p c_p k_p λ_ _ _ _ _ _ us hl=>by obtain⟨_,_,_,_,rfl⟩:=tP hl;rfl
 have H_q:aA K mg "ended_run" nY ["program","name","trees","most"]:=bP X G a_q l_q c_q k_q λ_ _ _ _ _ _ us hl=>by obtain⟨_,_,_,_,rfl⟩:=tP hl;rfl
 have H_r:aA K mg "numbered_bodies" qj ["program"]:=bP X G a_r l_r c_r k_r λ_ _ _ _ _ _ us hl=>by obtain⟨_,rfl⟩:=eR hl;rfl
 have H_s:aA K mg "count_sends" nZ ["order"]:=bP X G a_s l_s c_s k_s λ_ _ _ _ _ _ us hl=>by obtain⟨_,rfl⟩:=eR hl;rfl
 have H_t:aA K mg "numbered" n6 ["order","number"]:=bP X G a_t l_t c_t k_t λ_ _ _ _ _ _ us hl=>by obtain⟨_,_,rfl⟩:=ln2 hl;rfl
 have H_u:aA K mg "needed_parts" qm ["saying"]:=bP X G a_u l_u c_u k_u λ_ _ _ _ _ _ us hl=>by obtain⟨_,rfl⟩:=eR hl;rfl
 have H_v:aA K mg "side" qo ["kind","tree"]:=bP X G a_v l_v c_v k_v λ_ _ _ _ _ _ us hl=>by obtain⟨_,_,rfl⟩:=ln2 hl;rfl
 have H_w:aA K mg "_law_cell_at" qp ["script","k"]:=bP X G a_w l_w c_w k_w λ_ _ _ _ _ _ us hl=>by obtain⟨_,_,rfl⟩:=ln2 hl;rfl
 have H_x:aA K mg "_law_names" kQ ["cell","many"]:=bP X G a_x l_x c_x k_x λ_ _ _ _ _ _ us hl=>by obtain⟨_,_,rfl⟩:=ln2 hl;rfl
 have H_y:aA K mg "_law_next" qq ["script","spot"]:=bP X G a_y l_y c_y k_y λ_ _ _ _ _ _ us hl=>by obtain⟨_,_,rfl⟩:=ln2 hl;rfl
 have H_z:aA K mg "_law_path" qr ["cell","params"]:=bP X G a_z l_z c_z k_z λ_ _ _ _ _ _ us hl=>by obtain⟨_,_,rfl⟩:=ln2 hl;rfl
 have ah1:aA K mg "_law_arg" qt ["cell","params"]:=bP X G a_10 l_10 c_10 k_10 λ_ _ _ _ _ _ us hl=>by obtain⟨_,_,rfl⟩:=ln2 hl;rfl
 have ah2:aA K mg "_law_send" n8 ["script","spot","names","counts","params"]:=bP X G a_11 l_11 c_11 k_11 λ_ _ _ _ _ _ us hl=>by obtain⟨_,_,_,_,_,rfl⟩:=wD hl;rfl
 have ah3:aA K mg "_law_body" qu ["script","spot","names","counts","params"]:=bP X G a_12 l_12 c_12 k_12 λ_ _ _ _ _ _ us hl=>by obtain⟨_,_,_,_,_,rfl⟩:=wD hl;rfl
 have ah4:aA K mg "_law_program" n_ ["script","spot","most"]:=bP X G a_13 l_13 c_13 k_13 λ_ _ _ _ _ _ us hl=>by obtain⟨_,_,_,rfl⟩:=gV hl;rfl
 have ah5:aA K mg "_law_tame_send" qv ["script","spot","names","counts","params"]:=bP X G a_14 l_14 c_14 k_14 λ_ _ _ _ _ _ us hl=>by obtain⟨_,_,_,_,_,rfl⟩:=wD hl;rfl
 have ah6:aA K mg "_law_tame" og ["script","spot","most"]:=bP X G a_15 l_15 c_15 k_15 λ_ _ _ _ _ _ us hl=>by obtain⟨_,_,_,rfl⟩:=gV hl;rfl
 have ah7:aA K mg "_law_any" qw ["script","spot","way","most"]:=bP X G a_16 l_16 c_16 k_16 λ_ _ _ _ _ _ us hl=>by obtain⟨_,_,_,_,rfl⟩:=tP hl;rfl
 have ah8:aA K mg "_law_asked" oh ["program","way"]:=bP X G a_17 l_17 c_17 k_17 λ_ _ _ _ _ _ us hl=>by obtain⟨_,_,rfl⟩:=ln2 hl;rfl
 have ah9:aA K mg "_law_turned" qy ["program","way","cell"]:=bP X G a_18 l_18 c_18 k_18 λ_ _ _ _ _ _ us hl=>by obtain⟨_,_,_,rfl⟩:=gV hl;rfl
 have aia:d_ K CR "__init__" "Run.__init__" qA ["self","params","bodies","most"]:=kL a_19 i_R_init l_19 c_19 k_19 λ_ _ _ _ _ _ us hl=>by obtain⟨_,_,_,_,rfl⟩:=tP hl;rfl
 have aib:d_ K CR "begin" "Run.begin" qB ["self","parent","number","name","trees"]:=kL a_1a i_R_begin l_1a c_1a k_1a λ_ _ _ _ _ _ us hl=>by obtain⟨_,_,_,_,_,rfl⟩:=wD hl;rfl
 have aic:d_ K CR "go_on" "Run.go_on" qC ["self"]:=kL a_1b i_R_go_on l_1b c_1b k_1b λ_ _ _ _ _ _ us hl=>by obtain⟨_,rfl⟩:=eR hl;rfl
 have aid:d_ K CR "prepare" "Run.prepare" qD ["self","saying","place"]:=kL a_1c i_R_prepare l_1c c_1c k_1c λ_ _ _ _ _ _ us hl=>by obtain⟨_,_,_,rfl⟩:=gV hl;rfl
 have aie:d_ K CR "finish" "Run.finish" qE ["self","saying","place"]:=kL a_1d i_R_finish l_1d c_1d k_1d λ_ _ _ _ _ _ us hl=>by obtain⟨_,_,_,rfl⟩:=gV hl;rfl
 have aif:d_ K CR "taken" "Run.taken" qF ["self","many"]:=kL a_1e i_R_taken l_1e c_1e k_1e λ_ _ _ _ _ _ us hl=>by obtain⟨_,_,rfl⟩:=ln2 hl;rfl
 have aih:d_ K CR "choose" "Run.choose" qG ["self","fork","place"]:=kL a_1f i_R_choose l_1f c_1f k_1f λ_ _ _ _ _ _ us hl=>by obtain⟨_,_,_,rfl⟩:=gV hl;rfl
 have aii:d_ K CR "join_pair" "Run.join_pair" qH ["self"]:=kL a_1g i_R_join_pair l_1g c_1g k_1g λ_ _ _ _ _ _ us hl=>by obtain⟨_,rfl⟩:=eR hl;rfl
 have aij:d_ K CR "parameter" "Run.parameter" qI ["self","name","place"]:=kL a_1h i_R_parameter l_1h c_1h k_1h λ_ _ _ _ _ _ us hl=>by obtain⟨_,_,_,rfl⟩:=gV hl;rfl
 have Gx:Gs K mg:=⟨hU X G z_1l,hU X G z_1m,hU X G z_1n,hU X G z_1o,hU X G z_1p,hU X G z_1q,hU X G z_1r,hU X G z_1s,hU X G z_1t,hU X G z_16,hU X G z_1u,hU X G z_1v,hU X G z_1w,⟨_,mO X G z_1j⟩,⟨_,mO X G z_1k⟩⟩;have Rx:kF K mg ES (sY [(Rf.err,CJ),(Rf.apart,CM),(Rf.many,CN)]):=UN x_20 λi hi=>by
  rcases(by simpa using hi:i=Rf.err∨i=Rf.apart∨i=Rf.many) with rfl|rfl|rfl
  ·exact mO X G x_1x
  ·exact mO X G x_1y
  ·exact mO X G x_1z
 have Tx:iw K mg CR:=⟨⟨pgC,hdC,poC,saC⟩,mkC,kcC,mO X G aC,n_params,n_bodies,n_most,n_begun,n_pending,n_waiting,n_ending⟩;have aik:=yI (st:=kS) l_1i c_1i k_1i;refine⟨a8 "law" "law" (bc kS) (aR kS) (ak kS) .none Md Me Mf Lg CI Mg,λs v=>.of_eq rfl,λbase _ _=>?_⟩;have mz:=YU (P:=l.prog) (w:=w) (base:=base) (k:=0) H_w Gx;have eh:=YW (P:=l.prog) (w:=w) (base:=base) (k:=1) H_y mz;have mD:=YY (P:=l.prog) (w:=w) (base:=base) (k:=0) H_x Gx;have kT:=Y4 (P:=l.prog) (w:=w) (base:=base) (k:=0) H_z Gx;have ix:=Y7 (k:=1) ah1 kT;have oq:=Y9 (k:=2) ah2 Gx eh ix;have AI:=Y' (k:=3) ah3 Gx (eh.mono (by decide)) (ix.mono (by decide)) (kT.mono (by decide)) oq;have AS:=Zd (k:=4) ah4 Gx (eh.mono (by decide)) (mD.mono (by decide)) AI;have xm:=Zu (P:=l.prog) (w:=w) (base:=base) (k:=0) H_2 Gx;have qM:=Zw (P:=l.prog) (w:=w) (base:=base) (k:=1) H_1 Gx (AV xm);have qL:=ZF (P:=l.prog) (w:=w) (base:=base) (k:=0) H_s Gx;have A3:=ZH (P:=l.prog) (w:=w) (base:=base) (k:=1) H_t Gx qL (AV xm);have ail:=ZK (P:=l.prog) (w:=w) (base:=base) (k:=2) H_r Gx qM A3 (qL.mono (by decide));have aim:=ZM (P:=l.prog) (w:=w) (base:=base) (k:=1) H_u Gx xm;have A8:=ZD (P:=l.prog) (w:=w) (base:=base) (k:=0) H_o Gx;have qQ:=ZU (P:=l.prog) (w:=w) (base:=base) (k:=0) aib Gx Tx;have qP:=ZW (P:=l.prog) (w:=w) (base:=base) (k:=0) aif Gx Tx;have A9:=ZZ (P:=l.prog) (w:=w) (base:=base) (k:=0) aih Gx Tx;have ain:=Z1 (k:=1) aii Gx Tx qP A8;have aio:=Z3 (P:=l.prog) (w:=w) (base:=base) (k:=0) aij Gx Tx;have A_:=ZP (P:=l.prog) (w:=w) (base:=base) (k:=0) H_v Gx;have Ba:=Z5 (k:=2) aie Gx Tx (qQ.mono (by decide)) (qP.mono (by decide)) (A9.mono (by decide)) ain (aio.mono (by decide)) (A_.mono (by decide));have Bb:=Z9 (k:=2) aid Gx Tx aim;have Be:=zo7 (k:=3) aic Gx Tx Ba Bb;have aip:=zll (k:=3) H_q Gx Tx ((J4 (k:=0) Mh).mono (by decide)) ((Zz (k:=0) H_4 Gx).mono (by decide)) (ail.mono (by decide)) (ZR (k:=2) aia Gx Tx) (qQ.mono (by decide)) Be;have BP:=zo3 (k:=5) H_p Gx Tx aip;have Mi:=zgf (P:=l.prog) (w:=w) (base:=base) (k:=0) H_8 Gx;have aiq:=zmm (k:=2) H_9 Gx (zi1 (k:=1) H_a Gx Mi);have air:=zh6 (k:=2) H_6 Gx (zh7 (k:=1) H_7 Gx (AV xm) Mi);have qS:=zrc (k:=3) H_5 Gx air aiq;have wJ:=Zh (k:=2) ah5 Gx eh ix;have AR:=Zn (k:=3) ah6 Gx (eh.mono (by decide)) (mD.mono (by decide)) wJ (ix.mono (by decide))
 have w9:=Zq (k:=5) ah7 (AR.mono (by decide)) AS;have ais:=zh9 (P:=l.prog) (w:=w) (base:=base) (k:=2) H_d Gx (zf2 (k:=1) H_e Gx (zg2 (k:=0) H_f Gx));have kX:=aaq (P:=l.prog) (w:=w) (base:=base) (k:=0) H_c;have qR:=zmp (k:=3) H_b Gx Rx (kX.mono (by decide)) ais;have wO:=zo1 (P:=l.prog) (w:=w) (base:=base) (k:=0) H_k Gx Rx;have Bw:=zkp (k:=4) H_j Gx Rx (wO.mono (by decide)) (kX.mono (by decide)) qR;have Bs:=zko (P:=l.prog) (w:=w) (base:=base) (k:=0) H_n Gx;have ait:=zg3 (k:=4) H_m Gx (kX.mono (by decide)) qR (Bs.mono (by decide));have Bx:=zkn (k:=5) H_l Gx ait;have qT:=zo4 (k:=5) H_g Gx (qS.mono (by decide)) Bw;have wZ:=zrb (k:=6) H_h Gx qT (Bx.mono (by decide));have qU:=aaf (k:=2) H_0 Gx qM;have BO:=zo0 (k:=3) H_i Gx ((J4 (k:=0) Mh).mono (by decide)) qU;have w8:=aaI (k:=40) ah8 Gx Rx (qU.mono (by decide)) (qS.mono (by decide)) (BO.mono (by decide)) ((zpl BP).mono (by decide)) (qT.mono (by decide)) (wZ.mono (by decide));have ud:=zra (k:=41) ah9 Gx w8;exact aaK aik Gx (mz.mono (by decide)) (w9.mono (by decide)) (ud.mono (by decide))
theorem walk{l:Dy}{q:Program}{loose:List Str}{XP:(Str->Option Value)->Heap->Prop}{YP:World->Heap->Prop}{d:DefRec}{K:Params->ao}(hn:l.most=some 63)(hdf:d.params.defaults=[])
 (hY:∀(w:World) (h:Heap),YP w h->(K w.params).In h)
 (F:∀(w:World) (mg:Str->Option Value) (fa:Addr) (h:Heap),(K w.params).In h->h.Ns mainGlobals mg->mg d.name=some (.ref fa) ->
  ∃fd:FuncData,(∀(s:Shared) (u:Value),BindsTo s fd ⟨[u],[]⟩ [("script",u)])/\∀base:Heap,(K w.params).In base->base.Ns mainGlobals mg->dj l.prog w (K w.params) mg base (cc l.prog w) 90 fa fd ["script"] (iS (K w.params) pF)) :
 M3 q loose XP YP l.row.toRowW d [] (λf vs=>Dx f vs) :=
 L2.Q4 (n:=63) (k:=90) (x:="script") (CX:=λw=>cc l.prog w) (sp:=λw=>iS (K w.params) pF) hn (by decide) hdf ⟨rfl,by decide,by decide⟩ hY F (λ_ _ a ns hl hO hS=>Ui hl hO hS) λ_ _ _ _ _ z=>by
  obtain⟨a,C,T,H',_,_,_,_,_,_,_,_,_,_,z⟩:=z;exact z
end LW
end
inductive PySem.W.Fast:Prop|tw2193774896274573275|tw6615478212790669186|tw10043906241021062339|tw6341880806925475174|tw9220003304973907412|tw15275123549675631570|tw14943185323626514699|tw7736353867833328489|tw10250035327565658075|tw7760412161768397860|tw4021545398855457510|tw3447092110911206493|tw10107867338706749511|tw11809399416320022154|tw9151464173168606784|tw15216908856465183981|tw10349726247927574150|tw2514266422201491844|tw6293528450515445557|tw9114178394385577912|tw6590833862958560506|tw3319143516915767355|tw10041480636758961309|tw4484186942236829655|tw11901769529976659724|tw6817802221109538585|tw13099261324567647414|tw16036073834733161431|tw7279216259126347123|tw519308969277922155|tw12860650035210983880|tw14591329978296233442|tw10288721118701090410|tw14310255251612204483|tw11261687712412279987|tw3677051299848278007|tw494141740316230035|tw7109610664844722492|tw1479227622048262842|tw12910136112504406636|tw13125634515348285857|tw12164601234340910310|tw18390632253743896210|tw7852221614431053086|tw16705098188047572784|tw6417481598867802582|tw433827759154483876|tw4568442879051260948|tw3528806753442723552|tw12836727661692042627|tw7432555744846608884|tw10128954132332290734|tw12726583233410119243|tw17760678373911349212|tw15468021503867709693|tw1805955162540303017|tw14246632679713639901|tw14293261867964970626|tw12621694283199760287|tw2064927575680149576|tw9588562745725749129|tw4759458487934543191|tw1675850778658896665|tw17651586110251329205|tw14080287753258158712|tw5819630012609602745|tw16073339996672563243|tw14515357422080284894|tw2680087127384022267|tw4343518144495837788|tw15718096608390708043|tw15678605503916658845|tw4203398304204238202|tw13930127111106729954|tw11340444329005100158|tw630218431242310625|tw3027399614954366923|tw12663187204451092818|tw10379882402482965619|tw11944262788361705099|tw2938439072643019939|tw11275632594240436384|tw3149457202640433728|tw10216997677400304687|tw1314965214786081816|tw12830446110785132022|tw18006334372049558992|tw9367584310209238545|tw18082620560261354128|tw15425333715853358484|tw10970645718934123325|tw2894637291241203182|tw10171367924202727255|tw1835526553217435806|tw18001691262931069422|tw11464298202645632353|tw3258908511397645807|tw12939870607387552219|tw8400142365703420725|tw915423582210689944|tw645013011097565153|tw14871195911636633034|tw9993401834267996746|tw4117705090606882503|tw7740577375293399857|tw3877243113717816311|tw15268207150923927194|tw17994731038004938663|tw13054934329258736504|tw18223798969645206742|tw4550065047924827260|tw15032633132156059063|tw2620862189642304184|tw14566325787998119947|tw4420745081910789064|tw1392055595173210113|tw17557923307147141009|tw9937701113429452552|tw13694320579377562981|tw4328155892603948531|tw9144692209399096468|tw928632406387768466|tw3793839054216288418|tw9608756148166484601|tw17120390808929751797|tw2792046223086930923|tw33010155344285658|tw7574928493043665112|tw3504352348470346651|tw14552980738370271141|tw3096112143528112292|tw4748420785824159727|tw9556872593450590253|tw10894662100469517203|tw8254616740423358773|tw13129048862522686791|tw5633347030231762026|tw1282255226441350109|tw11639787188424830187|tw14734723742469791782|tw16635503638019969175|tw16927807410514513402|tw5145810426863399101|tw13697989377994043035|tw5258271302544543300|tw14409955497077125450|tw5698282932164853335|tw8619927467970478494|tw13971993775766983625|tw9800361864964982935|tw8573081319518508402|tw9196739877899032446|tw3963277671865440791|tw11379717688267386386|tw3674670728755090234|tw14362069024522548748|tw2677763486340783611|tw5509612923416136577|tw7451735714293248613|tw15466378495383465590|tw13351839324721269355|tw10633629450354887902|tw16466363755678994141|tw8777040612894610852|tw13226866292123369723|tw6197443717184551435|tw8273991092430771200|tw8239400145761023424|tw7855086313715858396|tw1753064402582519734|tw1331962014393843334|tw7382121725379497517|tw6701312625742789661|tw12756661987842182994|tw8171442522206805468|tw13593069123016857216|tw5987380245673353950|tw12293026183406668692|tw6434142404210383809|tw295917553744747869|tw3494973598628937165|tw4132998328739501546|tw6156481754909254821|tw3803133611265261425|tw1914751240321167503|tw5143451805293619039|tw14194501541833962418|tw1111799065673860587|tw4210578195107294806|tw8837195559790279535|tw8822571868287653413|tw14447582662650356171|tw1187724462502888147|tw8069686449145126066|tw257721948801188670|tw15621836120165139760|tw15151493704699286682|tw9171551910090294926|tw4019358167715220756|tw12627963038113733338|tw9040393263635595807|tw17457936752444553661|tw3510287843638071237|tw14727664732891466584|tw3827916410338383277|tw10121101195837752539|tw14293267123666354800|tw3350141286118550535|tw9653786782220894473|tw10363275461084288718|tw13072674131728756965|tw9820761425153143676|tw7480285891162439855|tw9891302641204820614|tw15900743816636004049|tw9712485128943888434|tw8934752895481363702|tw1814953227837001297|tw560430503029341290|tw18044205366733163522|tw9033040291421366264|tw18236989444565103181|tw6837619408839244625|tw14978233792000414279|tw12495812076419450909|tw4125094333825701306|tw9717801723573871849|tw4290569991370595925|tw1196548262558396978|tw13231128891910554583|tw4572941148304592802|tw3414138685308980967|tw13998600749606952282|tw2377815146758072833|tw1660496487257159507|tw5115708095840480835|tw8454047602919726699|tw13859821773184553862|tw4481614426168407863|tw15843525385282806296|tw13015519454180116901|tw9806180532898380267|tw7450220565142489526|tw10084236038652424762|tw7306715830032676521|tw9520589678405483206|tw16163178201981160464|tw4367613247123309067
open PySem PySem.W PyProof.Rows
set_option maxRecDepth 100000 in
set_option maxHeartbeats 0 in
theorem PySem.Challenge.cw_errandend_k27_lists_told_holds : PySem.Challenge.rw_errandend_k27_lists_told.Holds := by
 w_on; o_law; k_head; (case hw => w_witness2)
 k_fill
 refine LW.walk (l := PySem.Challenge.rw_errandend_k27_lists_told) rfl rfl (fun w h Y => PySem.W.kIn_of Y) ?F
 case F =>
  intro w mg fa h KX G hmg
  refine' LW.all_mk KX G hmg ?aC ?a_0 ?l_0 ?c_0 ?k_0 ?a_1 ?l_1 ?c_1 ?k_1 ?a_2 ?l_2 ?c_2 ?k_2 ?a_3 ?l_3 ?c_3 ?k_3 ?a_4 ?l_4 ?c_4 ?k_4 ?a_5 ?l_5 ?c_5 ?k_5 ?a_6 ?l_6 ?c_6 ?k_6 ?a_7 ?l_7 ?c_7 ?k_7 ?a_8 ?l_8 ?c_8 ?k_8 ?a_9 ?l_9 ?c_9 ?k_9 ?a_a ?l_a ?c_a ?k_a ?a_b ?l_b ?c_b ?k_b ?a_c ?l_c ?c_c ?k_c ?a_d ?l_d ?c_d ?k_d ?a_e ?l_e ?c_e ?k_e ?a_f ?l_f ?c_f ?k_f ?a_g ?l_g ?c_g ?k_g ?a_h ?l_h ?c_h ?k_h ?a_i ?l_i ?c_i ?k_i ?a_j ?l_j ?c_j ?k_j ?a_k ?l_k ?c_k ?k_k ?a_l ?l_l ?c_l ?k_l ?a_m ?l_m ?c_m ?k_m ?a_n ?l_n ?c_n ?k_n ?a_o ?l_o ?c_o ?k_o ?a_p ?l_p ?c_p ?k_p ?a_q ?l_q ?c_q ?k_q ?a_r ?l_r ?c_r ?k_r ?a_s ?l_s ?c_s ?k_s ?a_t ?l_t ?c_t ?k_t ?a_u ?l_u ?c_u ?k_u ?a_v ?l_v ?c_v ?k_v ?a_w ?l_w ?c_w ?k_w ?a_x ?l_x ?c_x ?k_x ?a_y ?l_y ?c_y ?k_y ?a_z ?l_z ?c_z ?k_z ?a_10 ?l_10 ?c_10 ?k_10 ?a_11 ?l_11 ?c_11 ?k_11 ?a_12 ?l_12 ?c_12 ?k_12 ?a_13 ?l_13 ?c_13 ?k_13 ?a_14 ?l_14 ?c_14 ?k_14 ?a_15 ?l_15 ?c_15 ?k_15 ?a_16 ?l_16 ?c_16 ?k_16 ?a_17 ?l_17 ?c_17 ?k_17 ?a_18 ?l_18 ?c_18 ?k_18 ?a_19 ?i_R_init ?l_19 ?c_19 ?k_19 ?a_1a ?i_R_begin ?l_1a ?c_1a ?k_1a ?a_1b ?i_R_go_on ?l_1b ?c_1b ?k_1b ?a_1c ?i_R_prepare ?l_1c ?c_1c ?k_1c ?a_1d ?i_R_finish ?l_1d ?c_1d ?k_1d ?a_1e ?i_R_taken ?l_1e ?c_1e ?k_1e ?a_1f ?i_R_choose ?l_1f ?c_1f ?k_1f ?a_1g ?i_R_join_pair ?l_1g ?c_1g ?k_1g ?a_1h ?i_R_parameter ?l_1h ?c_1h ?k_1h ?a_1i ?l_1i ?c_1i ?k_1i ?z_1l ?z_1m ?z_1n ?z_1o ?z_1p ?z_1q ?z_1r ?z_1s ?z_1t ?z_16 ?z_1u ?z_1v ?z_1w ?z_1j ?z_1k ?x_1x ?x_1y ?x_1z ?x_20 ?pgC ?hdC ?poC ?saC ?mkC ?kcC ?n_params ?n_bodies ?n_most ?n_begun ?n_pending ?n_waiting ?n_ending
  (case aC=>k_is)
  (case a_0=>k_is)
  (case l_0=>k_is)
  (case c_0=>k_is)
  (case k_0=>k_is)
  (case a_1=>k_is)
  (case l_1=>k_is)
  (case c_1=>k_is)
  (case k_1=>k_is)
  (case a_2=>k_is)
  (case l_2=>k_is)
  (case c_2=>k_is)
  (case k_2=>k_is)
  (case a_3=>k_is)
  (case l_3=>k_is)
  (case c_3=>k_is)
  (case k_3=>k_is)
  (case a_4=>k_is)
  (case l_4=>k_is)
  (case c_4=>k_is)
  (case k_4=>k_is)
  (case a_5=>k_is)
  (case l_5=>k_is)
  (case c_5=>k_is)
  (case k_5=>k_is)
  (case a_6=>k_is)
  (case l_6=>k_is)
  (case c_6=>k_is)
  (case k_6=>k_is)
  (case a_7=>k_is)
  (case l_7=>k_is)
  (case c_7=>k_is)
  (case k_7=>k_is)
  (case a_8=>k_is)
  (case l_8=>k_is)
  (case c_8=>k_is)
  (case k_8=>k_is)
  (case a_9=>k_is)
  (case l_9=>k_is)
  (case c_9=>k_is)
  (case k_9=>k_is)
  (case a_a=>k_is)
  (case l_a=>k_is)
  (case c_a=>k_is)
  (case k_a=>k_is)
  (case a_b=>k_is)
  (case l_b=>k_is)
  (case c_b=>k_is)
  (case k_b=>k_is)
  (case a_c=>k_is)
  (case l_c=>k_is)
  (case c_c=>k_is)
  (case k_c=>k_is)
  (case a_d=>k_is)
  (case l_d=>k_is)
  (case c_d=>k_is)
  (case k_d=>k_is)
  (case a_e=>k_is)
  (case l_e=>k_is)
  (case c_e=>k_is)
  (case k_e=>k_is)
  (case a_f=>k_is)
  (case l_f=>k_is)
  (case c_f=>k_is)
  (case k_f=>k_is)
  (case a_g=>k_is)
  (case l_g=>k_is)
  (case c_g=>k_is)
  (case k_g=>k_is)
  (case a_h=>k_is)
  (case l_h=>k_is)
  (case c_h=>k_is)
  (case k_h=>k_is)
  (case a_i=>k_is)
  (case l_i=>k_is)
  (case c_i=>k_is)
  (case k_i=>k_is)
  (case a_j=>k_is)
  (case l_j=>k_is)
  (case c_j=>k_is)
  (case k_j=>k_is)
  (case a_k=>k_is)
  (case l_k=>k_is)
  (case c_k=>k_is)
  (case k_k=>k_is)
  (case a_l=>k_is)
  (case l_l=>k_is)
  (case c_l=>k_is)
  (case k_l=>k_is)
  (case a_m=>k_is)
  (case l_m=>k_is)
  (case c_m=>k_is)
  (case k_m=>k_is)
  (case a_n=>k_is)
  (case l_n=>k_is)
  (case c_n=>k_is)
  (case k_n=>k_is)
  (case a_o=>k_is)
  (case l_o=>k_is)
  (case c_o=>k_is)
  (case k_o=>k_is)
  (case a_p=>k_is)
  (case l_p=>k_is)
  (case c_p=>k_is)
  (case k_p=>k_is)
  (case a_q=>k_is)
  (case l_q=>k_is)
  (case c_q=>k_is)
  (case k_q=>k_is)
  (case a_r=>k_is)
  (case l_r=>k_is)
  (case c_r=>k_is)
  (case k_r=>k_is)
  (case a_s=>k_is)
  (case l_s=>k_is)
  (case c_s=>k_is)
  (case k_s=>k_is)
  (case a_t=>k_is)
  (case l_t=>k_is)
  (case c_t=>k_is)
  (case k_t=>k_is)
  (case a_u=>k_is)
  (case l_u=>k_is)
  (case c_u=>k_is)
  (case k_u=>k_is)
  (case a_v=>k_is)
  (case l_v=>k_is)
  (case c_v=>k_is)
  (case k_v=>k_is)
  (case a_w=>k_is)
  (case l_w=>k_is)
  (case c_w=>k_is)
  (case k_w=>k_is)
  (case a_x=>k_is)
  (case l_x=>k_is)
  (case c_x=>k_is)
  (case k_x=>k_is)
  (case a_y=>k_is)
  (case l_y=>k_is)
  (case c_y=>k_is)
  (case k_y=>k_is)
  (case a_z=>k_is)
  (case l_z=>k_is)
  (case c_z=>k_is)
  (case k_z=>k_is)
  (case a_10=>k_is)
  (case l_10=>k_is)
  (case c_10=>k_is)
  (case k_10=>k_is)
  (case a_11=>k_is)
  (case l_11=>k_is)
  (case c_11=>k_is)
  (case k_11=>k_is)
  (case a_12=>k_is)
  (case l_12=>k_is)
  (case c_12=>k_is)
  (case k_12=>k_is)
  (case a_13=>k_is)
  (case l_13=>k_is)
  (case c_13=>k_is)
  (case k_13=>k_is)
  (case a_14=>k_is)
  (case l_14=>k_is)
  (case c_14=>k_is)
  (case k_14=>k_is)
  (case a_15=>k_is)
  (case l_15=>k_is)
  (case c_15=>k_is)
  (case k_15=>k_is)
  (case a_16=>k_is)
  (case l_16=>k_is)
  (case c_16=>k_is)
  (case k_16=>k_is)
  (case a_17=>k_is)
  (case l_17=>k_is)
  (case c_17=>k_is)
  (case k_17=>k_is)
  (case a_18=>k_is)
  (case l_18=>k_is)
  (case c_18=>k_is)
  (case k_18=>k_is)
  (case a_19=>k_is)
  (case i_R_init=>k_is)
  (case l_19=>k_is)
  (case c_19=>k_is)
  (case k_19=>k_is)
  (case a_1a=>k_is)
  (case i_R_begin=>k_is)
  (case l_1a=>k_is)
  (case c_1a=>k_is)
  (case k_1a=>k_is)
  (case a_1b=>k_is)
  (case i_R_go_on=>k_is)
  (case l_1b=>k_is)
  (case c_1b=>k_is)
  (case k_1b=>k_is)
  (case a_1c=>k_is)
  (case i_R_prepare=>k_is)
  (case l_1c=>k_is)
  (case c_1c=>k_is)
  (case k_1c=>k_is)
  (case a_1d=>k_is)
  (case i_R_finish=>k_is)
  (case l_1d=>k_is)
  (case c_1d=>k_is)
  (case k_1d=>k_is)
  (case a_1e=>k_is)
  (case i_R_taken=>k_is)
  (case l_1e=>k_is)
  (case c_1e=>k_is)
  (case k_1e=>k_is)
  (case a_1f=>k_is)
  (case i_R_choose=>k_is)
  (case l_1f=>k_is)
  (case c_1f=>k_is)
  (case k_1f=>k_is)
  (case a_1g=>k_is)
  (case i_R_join_pair=>k_is)
  (case l_1g=>k_is)
  (case c_1g=>k_is)
  (case k_1g=>k_is)
  (case a_1h=>k_is)
  (case i_R_parameter=>k_is)
  (case l_1h=>k_is)
  (case c_1h=>k_is)
  (case k_1h=>k_is)
  (case a_1i=>k_is)
  (case l_1i=>k_is)
  (case c_1i=>k_is)
  (case k_1i=>k_is)
  (case z_1l=>k_is)
  (case z_1m=>k_is)
  (case z_1n=>k_is)
  (case z_1o=>k_is)
  (case z_1p=>k_is)
  (case z_1q=>k_is)
  (case z_1r=>k_is)
  (case z_1s=>k_is)
  (case z_1t=>k_is)
  (case z_16=>k_is)
  (case z_1u=>k_is)
  (case z_1v=>k_is)
  (case z_1w=>k_is)
  (case z_1j=>k_is)
  (case z_1k=>k_is)
  (case x_1x=>k_is)
  (case x_1y=>k_is)
  (case x_1z=>k_is)
  (case x_20=>kernel_rfl)
  (case pgC=>k_is)
  (case hdC=>k_is)
  (case poC=>k_is)
  (case saC=>k_is)
  (case mkC=>k_is)
  (case kcC=>k_is)
  (case n_params=>k_is)
  (case n_bodies=>k_is)
  (case n_most=>k_is)
  (case n_begun=>k_is)
  (case n_pending=>k_is)
  (case n_waiting=>k_is)
  (case n_ending=>k_is)
#print axioms PySem.Challenge.cw_errandend_k27_lists_told_holds
