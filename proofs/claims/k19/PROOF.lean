import PyProof.Rows.All
import Wide.All
import OpenK.AllK
import Wide.FinOn
import Lean
import PyProof.EqAt
import PyProof.EqKinds
import PyProof.TupleCall
import PySem.Challenge.RW_errandend_k19_tellings_held
set_option Elab.async false
set_option linter.all false
set_option maxRecDepth 100000
noncomputable section
local macro_rules|`(show _ by $t)=>`((by exact ?n:type_of% (let_mvar% ?n:=(by $t :_);?n)))
open Array renaming getElem?_toList→xk,length_toList→Cs,getElem?_eq_getElem→DA,forIn_toList→LX,toList→L_,getElem?_eq_none→Ni
open Bool renaming false_ne_true→cT,eq_iff_iff→fv,and_eq_true→gq,false_eq_true→iM,and_self→nU,and_assoc→L0,not_true→L1,or_false→Ms,and_false→Mz,eq_false_iff→Nz
open False renaming elim→gN
open Function renaming comp_def→M5
open Int renaming toNat_natCast→fb,emod_nonneg→fc,toNat→jA,emod_lt_of_pos→n_,le_refl→xI
open List renaming length_map→az,getElem?_map→aK,getElem?_eq_getElem→aU,range→aZ,mem_cons→br,length_append→bx,mem_append→bF,mem_map→bG,getD_eq_getElem?_getD→bJ,getElem?_eq_some_iff→bO,mem_of_getElem?→bS,map_cons→bT,size_toArray→cu,mem_singleton→cz,map_append→cA,mem_cons_self→cF,not_mem_nil→cG,length_cons→cK,mem_cons_of_mem→cL,getElem?_eq_none→dh,map_map→dC,length_take→dP,replicate→fK,length_drop→fL,length_nil→fO,mem_range→gb,mem_append_right→gg,take_succ→gu,getElem_of_mem→gO,ext_getElem?→gP,take_length→iN,lookup_cons→iO,mem_map_of_mem→iQ,getElem?_range→iS,nodup_cons→kc,map_nil→kd,take_of_length_le→ke,getElem_mem→kf,any_eq_true→kg,cons_append→lq,mem_append_left→lu,getElem?_append_left→lB,length_singleton→lC,mem_of_mem_take→lF,map_take→lJ,length→mG,any_cons→mH,find?_cons→mI,all_eq_true→mK,length_pos_iff→mL,append_nil→nV,all_cons→nW,foldl_cons→n8,flatten_cons→og,all_map→qo,mem_filterMap→qr,getElem?_append_right→qt,mem_filter→tR,length_set→tW,length_range→tZ,drop_zero→t5,forIn_cons→t7,range_succ→ua,map_congr_left→ub,any_map→ud,forIn_nil→xr,drop_eq_nil_of_le→xy,take_append_drop→xA,filter_append→xH,lookup_append→xJ,drop_eq_getElem_cons→xU,drop_length→xV,map_set→xX,mem_or_eq_of_mem_set→xY,mem_of_mem_eraseIdx→xZ,length_eraseIdx_le→x_,filterMap_cons→Cq,any_eq_false→Cw,of_mem_zip→CC,eraseIdx_cons_succ→CZ,range'→Df,mem_of_mem_drop→Dg,length_filter_le→Dl,length_reverse→Dm,append_assoc→Dp,takeWhile_cons→Dq,mem_flatten→Dr,flatten_append→Ds,mem_zipIdx_iff_getElem?→Dy,map_drop→DB,range_succ_eq_map→LY,getElem?_set_self→L4,getElem?_set_ne→L5,getElem?_replicate→Mj,take_sublist→Mk,length_replicate→Ml,eraseIdxIfInBounds_toArray→MB,length_dropLast→MC,nodup_iff_pairwise_ne→MM,pairwise_map→MN,zipIdx_cons→MS,zipIdx_nil→MT,getElem?_zip_eq_some→MW,length_erase_of_mem→MX,length_pos_of_mem→MY,mem_erase_of_ne→MZ,getElem?_reverse→M1,nil_append→M4,getElem?_eq_none_iff→M6,getElem?_zipIdx→Nf,any_toArray→Ng,find?_eq_none→Nv,pairwise_cons→Nx,getElem_zipIdx→Ny,mem_of_find?_eq_some→NA
open List.Pairwise renaming imp_of_mem→agz
open List.cons renaming injEq→qC
open Nat renaming le_refl→a8,le_trans→b5,ne_of_lt→dj,lt_of_lt_of_le→dO,zero_le→eO,lt_irrefl→ju,ne_of_gt→kb,le_of_lt→nX,add_assoc→qm,sub_zero→t6,le_add_right→t_,min_eq_left→xw,min_eq_right→xx,lt_of_le_of_lt→C6,lt_trans→C8,sub_self→DD,succ_min_succ→LZ,le_of_not_lt→MD,strongRecOn→M',mul_le_mul_right→Nw
open Ne renaming symm→bE
open Option renaming map_eq_some_iff→bW,bind_eq_some_iff→fP,isSome_map→xl,map_some→xK,isSome_iff_exists→CF,isSome_some→C7,getD_none→Mu,getD_some→MG
open Option.some renaming inj→dN,injEq→lD
open Prod renaming fst→b8
open Prod.mk renaming injEq→kh
open PyProof.Rows renaming boot_tuple→fw,boot_list→iR,callWith_type1→mE,slot_tuple_getitem→nZ,boot_max→xT,boot_isinstance→xW,entry_tuple_getitem→Mo,args_tuple_getitem→Mp,subscriptTail_builtinR→Mq
open PyProof.Rows.IsTup renaming new→CU
open PySem renaming wpAny_bind→ak,wpAny_pure→aF,boot_len→dD,wpAny_field→d0,wpAny_mono→fJ,wpAny_call_entry→ig,wpAny_setField_rec→ip,wpAny_seqItems→jr,mem_of_lookup→jv,wpAny_callSpecial?_slot→jw,wpAny_newObj_type→jy,wpAny_truthy_bool→j_,wpAny_holding→j',strLen_append→ki,wpAny_rule→lr,Addr→mJ,wpAny_passesOwn→nY,wpAny_typeOf→n5,wpAny_pyIter_tuple→qq,wpAny_letGo→qA,wpAny_attempt→qB,lookup_relabel_local→qD,wpAny_specialOf→tQ,wpAny_execs_nil→tU,call_meets→tY,eqIsQuiet_byValue→w_,wpAny_isInstance→xa,wpAny_pyIter_list→xc,wpAny_getItem_str_slice→xo,post_val_or_str→xp,typeLookup_type→xt,builtinLookup_eq_fast→xu,wpAny_setField→xC,wpAny_onRaise→xF,wpAny_updateSeq→xN,plainId_quiet→xO,wpAny_dictEntries→xP,wpAny_typeNameOfWhole_keyiter→xQ,wpAny_typeNameOf_keyiter→xR,wpAny_Name→Cr,wpAny_standAt→Ct,sizeLine_eq→Cu,wpAny_Call_Name_kw→CG,concat_meets→CH,noFill_tuple_add→CI,seq_tuple_add→CJ,seqIndex_of→CV,seqIndex_neg→CW,typeIs_str→CY,call→C3,codeAny_mono→C4,wpAny_updateSeq_pair→Dh,isSubtype_stop→Di,codeAny_builtin→Du,wpAny_dictEpoch→Dz,Within→L3,wpAny_loadName_local→L6,wpAny_loadName_cell→L7,wpAny_isTrue_Compare1→L9,wpAny_assign_Name→L',wpAny_pyNext_list_item→Ma,wpAny_pyNext_list_end→Mb,wpAny_sequenceKey→Mn,slot_list_getitem→Mr,wpAny_pyIter_revIter→M0,wpAny_comprehension_free→M3,wpAny_pyIter_slot→M9,wpAny_notOrdered_dict→Nj,wpAny_isOneOf_keyiter→Nt
open PySem.Around renaming under_plainId→Dv
open PySem.Builtin.Dict renaming updateFrom→Nk,showsAll→Nn
open PySem.Builtin.Dict_items renaming ownsTuple→Np
open PySem.Builtin.List renaming listTooLong→C2,listExtendWith→Dx,listItems→Nc,listSameRef→Nd
open PySem.Builtin.Range renaming rangeSize→agl
open PySem.Builtin.Slice renaming slicePlaces→xg,sliceAdjust→CQ,sliceApplied→Mm,slicePartIndex→agu,sliceFields→agv
open PySem.Builtin.SmallTypes renaming nextOf→lH,ownedTupleIsFree→qz,ownedTupleHandOut→t9
open PySem.Builtin.Str renaming strSliceIndices→MF
open PySem.Builtin.Tuple renaming tupleHashOf→ql,tupleExact→xh,tupleItemsOf→Cn,tupleIsExact→MH
open PySem.Calls renaming Name_function_global→L8,spliced_nil→Mh,spliced_cons→Mi,callWith_builtin→Mx,evalArgs_plain→My
open PySem.EqMixed renaming eq_bool_str→agm,eq_int_str→agn,eq_str_bool→ago,eq_str_int→agp,ne_bool_str→agq,ne_int_str→agr,ne_str_bool→ags,ne_str_int→agt
open PySem.F renaming plainAttrs_list→d6,slot_list_append→fN,type_list_append→gh,slot_list_pop→qw,slot_enumerate_next→uc,slot_dict_keyiterator_next→ue,slot_tuple_hash→w9,slot_list_extend→xj,slot_tuple_iterator_next→xB,slot_zip_next→xG,type_list_pop→xS,slot_tuple_add→CM,entry_tuple_add→CN,args_tuple_add_2→CP,slot_list_getattribute→De,plain_extend_loop→Dw,type_list_extend→DC,entry_list_pop→MA,excBase_ValueError→MK,entry_tuple_iterator_next→MO,args_tuple_iterator_next_1→MP,entry_zip_next→MU,args_zip_next_1→MV,entry_enumerate_next→M7,args_enumerate_next_1→M8,slot_enumerate_iter→M_,slot_dict_len→Nh,slot_dict_iter→Nl,entry_dict_keyiterator_next→Nq,args_dict_keyiterator_next_1→Nr
open PySem.Heap renaming lt_size→bq,get?_push_of_some→bC,get?_push_size→du,SameBut→gc,size_push→jz,get?_update_self→qu,get?_update_other→qv,ExtBut→t8,MadeExcOf→C9,FlyingW→C_,IsTuple→Dj
open PySem.Heap.IsSliceOf renaming new→agw
open PySem.Heap.SameBut renaming update→xE
open PySem.Heap.UpToSlots renaming of_keeps→MJ
open PySem.Obj renaming mapSeq→fM,data_mapFields→xD,isFreed_of_fields→MQ,cls_mapFields→MR,mapFields→Nu
open PySem.PassesOwn renaming never→dk
open PySem.SeqAt renaming EqAt→tX,in_listAt→Mv,notIn_listAt→Mw
open PySem.SeqAt.EqAt renaming int_str→LU,str_int→LV
open PySem.Shared renaming heap→Dk
open PySem.Str renaming ofString→ik,length→xi,append→xm,empty→Cy
open PySem.Txt renaming slice→xn
open PySem.Value renaming isInt→LR,isStrOf→LS
open PySem.Value.type renaming inj→xM
open PySem.W renaming Frag→ax,nsIn→ba,fnOf→bt,keepIn→bI,codeIn→bL,mg_none_of→gQ,kia_one→ij,kitCls→iP,hideAll→j9,kitOne→mF,mg_of→n6,of_hideAll→qp,excIn→qy,hideAll_none→tS,findIn→tV,hideAll_get→xb,cellsFrom_some→xf,funFrames_hide→xq,instObj→Co,methodObj→Cp,lookIn→Cv,mroIn→Cz,kitx_list→CB,OpenLaw→C5,Looks→Dd,plainGet→Mc,specialIn→Md,takesIn→Me,kitx_tuple→Mf,kitx_dict→Mg,WalkO→ME,subIn→MI,kit_cls→ML
open PySem.W.Looks renaming of_pure→agx,ld→agy
local macro_rules|`(tactic|lia)=>`(tactic|omega)
local macro_rules|`(tactic|cbv)=>`(tactic|decide +kernel)
namespace L2
open PySem PySem.Spec PyProof.Rows
abbrev Key:=Sum Int Str
def oh:Key->Value->Bool
 | .inl k,v=>LR k v
 | .inr x,v=>LS x v
def NB(w:World):Key->Int
 | .inl k=>hashInt k
 | .inr x=>hashStr w x
theorem kj:∀{k:Key} {v:Value},oh k v=true->(∃i t,k=Sum.inl i/\v=Value.int i t)∨(∃x t,k=Sum.inr x/\v=Value.str x t)
 | .inl i,v,h=>by
  obtain⟨t,e⟩:=Value.isInt_shape (k:=i) (v:=v) h;exact .inl ⟨i,t,rfl,e⟩
 | .inr x,v,h=>by
  obtain⟨t,e⟩:=Value.isStrOf_shape (x:=x) (v:=v) h;exact .inr ⟨x,t,rfl,e⟩
theorem NC(i:Int)(t:Tok):oh (.inl i) (.int i t)=true:=by simp[oh,LR]
theorem ND(x:Str)(t:Tok):oh (.inr x) (.str x t)=true:=by simp[oh,LS]
theorem NF(a b:Int):decide ((Sum.inl a:Key)=Sum.inl b)=(a==b):=show _ by
 by_cases e:a=b
 ·subst e;simp
 ·have h:¬(Sum.inl a:Key)=Sum.inl b:=λq=>e (Sum.inl.inj q);rw[decide_eq_false h];exact(beq_eq_false_iff_ne.mpr e).symm
theorem NG(a b:Str):decide ((Sum.inr a:Key)=Sum.inr b)=decide (a=b):=show _ by
 by_cases e:a=b
 ·subst e;simp
 ·have h:¬(Sum.inr a:Key)=Sum.inr b:=λq=>e (Sum.inr.inj q);rw[decide_eq_false h,decide_eq_false e]
theorem NH(a:Int)(b:Str):decide ((Sum.inl a:Key)=Sum.inr b)=false:=decide_eq_false (λq=>nomatch q)
theorem NI(a:Str)(b:Int):decide ((Sum.inr a:Key)=Sum.inl b)=false:=decide_eq_false (λq=>nomatch q)
def gv(prog:Program)(w:World):PySem.KeyKind prog w Key where
 is:=oh
 hash:=NB w
 inj:=λv a b ha hb=>by
  rcases kj ha with⟨i,t,rfl,rfl⟩|⟨x,t,rfl,rfl⟩
  ·rcases kj hb with⟨j,u,rfl,e⟩|⟨y,u,rfl,e⟩
   ·injection e with e1 _;rw[e1]
   ·exact nomatch e
  ·rcases kj hb with⟨j,u,rfl,e⟩|⟨y,u,rfl,e⟩
   ·exact nomatch e
   ·injection e with e1 _;rw[e1]
 byValue:=λk v h=>by
  rcases kj h with⟨i,t,rfl,rfl⟩|⟨x,t,rfl,rfl⟩<;>rfl
 pyHash:=λhv h=>by
  rcases kj hv with⟨i,t,rfl,rfl⟩|⟨x,t,rfl,rfl⟩
  ·exact wpAny_pyHash_int h
  ·exact wpAny_pyHash_str h
 eqBool:=λhu hv h=>by
  rcases kj hu with⟨i,t,rfl,rfl⟩|⟨x,t,rfl,rfl⟩
  ·rcases kj hv with⟨j,u,rfl,rfl⟩|⟨y,u,rfl,rfl⟩
   ·rw[NF]at h;exact wpAny_eqBool_int h
   ·rw[NH]at h;exact LU i t y u _ _ _ _ h
  ·rcases kj hv with⟨j,u,rfl,rfl⟩|⟨y,u,rfl,rfl⟩
   ·rw[NI]at h;exact LV x t j u _ _ _ _ h
   ·rw[NG]at h;exact wpAny_eqBool_str h
 «strs»:=λk x t v h=>by
  rcases kj h with⟨i,u,rfl,e⟩|⟨y,u,rfl,e⟩
  ·exact nomatch e
  ·injection e with e1 _;subst e1;cases v<;>rfl
theorem ya(prog:Program)(w:World)(i:Int)(t:Tok):(gv prog w).is (.inl i) (.int i t)=true:=NC i t
theorem yb(prog:Program)(w:World)(x:Str)(t:Tok):(gv prog w).is (.inr x) (.str x t)=true:=ND x t
end L2
namespace L2
open PySem PySem.Spec PyProof.Rows SeqAt
inductive DK where
 |int (i:Int)|str (x:Str)|tup (ks:List DK)
mutual
def DK.beq:DK->DK->Bool
 | .int a,.int b=>decide (a=b)
 | .str a,.str b=>decide (a=b)
 | .tup a,.tup b=>DK.gw a b
 |_,_=>false
def DK.gw:List DK->List DK->Bool
 |[],[]=>true
 |a::as,b::bs=>a.beq b&&DK.gw as bs
 |_,_=>false
end
mutual
theorem DK.beq_eq:∀{a b:DK},a.beq b=true->a=b
 | .int a,.int b,h=>by simp only[DK.beq,decide_eq_true_eq]at h;rw[h]
 | .str a,.str b,h=>by simp only[DK.beq,decide_eq_true_eq]at h;rw[h]
 | .tup a,.tup b,h=>by simp only[DK.beq]at h;rw[DK.DE h]
 | .int _,.str _,h=>by simp[DK.beq]at h
 | .int _,.tup _,h=>by simp[DK.beq]at h
 | .str _,.int _,h=>by simp[DK.beq]at h
 | .str _,.tup _,h=>by simp[DK.beq]at h
 | .tup _,.int _,h=>by simp[DK.beq]at h
 | .tup _,.str _,h=>by simp[DK.beq]at h
theorem DK.DE:∀{as bs:List DK},DK.gw as bs=true->as=bs
 |[],[],_=>rfl
 |a::as,b::bs,h=>by
  simp only[DK.gw,gq]at h;rw[DK.beq_eq h.1,DK.DE h.2]
 |[],_::_,h=>by simp[DK.gw]at h
 |_::_,[],h=>by simp[DK.gw]at h
end
mutual
theorem DK.beq_refl:∀a:DK,a.beq a=true
 | .int a=>by simp[DK.beq]
 | .str a=>by simp[DK.beq]
 | .tup as=>by simp only[DK.beq];exact DK.DF as
theorem DK.DF:∀as:List DK,DK.gw as as=true
 |[]=>by simp[DK.gw]
 |a::as=>by simp only[DK.gw,DK.beq_refl a,DK.DF as,nU]
end
instance:DecidableEq DK:=λa b=>if h:a.beq b=true then .isTrue (DK.beq_eq h) else .isFalse λe=>h (e▸DK.beq_refl a)
mutual
def DK.deep:DK->Nat
 | .tup ks=>DK.dv ks+1
 |_=>0
def DK.dv:List DK->Nat
 |[]=>0
 |k::ks=>max k.deep (DK.dv ks)
end
mutual
inductive d7(h:Heap):DK->Value->Prop where
 |int (i:Int) (t:Tok):d7 h (.int i) (.int i t)
 |str (x:Str) (t:Tok):d7 h (.str x) (.str x t)
 |tup {ks:List DK} {a:Addr} {o:Obj} {items:Array Value} {n:Nat}:h.get? a=some o->o.cls=.type "tuple"->o.data=.seq items n->dX h ks items.toList->d7 h (.tup ks) (.ref a)
inductive dX(h:Heap):List DK->List Value->Prop where
 |nil:dX h [] []
 |cons {k:DK} {v:Value} {ks:List DK} {vs:List Value}:d7 h k v->dX h ks vs->dX h (k::ks) (v::vs)
end
mutual
theorem d7.inj{h:Heap}:∀{x y:DK} {v:Value},d7 h x v->d7 h y v->x=y
 |_,_,_,.int i t,e=>by cases e;rfl
 |_,_,_,.str x t,e=>by cases e;rfl
 |_,_,_,.tup h1 _ h3 h4,e=>by
  cases e with
  |tup g1 _ g3 g4 =>
   rw[h1]at g1;cases g1;rw[h3]at g3;cases g3;rw[dX.inj h4 g4]
theorem dX.inj{h:Heap}:∀{xs ys:List DK} {vs:List Value},dX h xs vs->dX h ys vs->xs=ys
 |_,_,_,.nil,e=>by cases e;rfl
 |_,_,_,.cons h1 h2,e=>by
  cases e with
  |cons g1 g2=>rw[d7.inj h1 g1,dX.inj h2 g2]
end
mutual
theorem d7.mono{h h':Heap}(k:∀a o items n,h.get? a=some o->o.data=.seq items n->h'.get? a=some o):∀{x:DK} {v:Value},d7 h x v->d7 h' x v
 |_,_,.int i t=>.int i t
 |_,_,.str x t=>.str x t
 |_,_,.tup h1 h2 h3 h4=>.tup (k _ _ _ _ h1 h3) h2 h3 (dX.mono k h4)
theorem dX.mono{h h':Heap}(k:∀a o items n,h.get? a=some o->o.data=.seq items n->h'.get? a=some o):∀{xs:List DK} {vs:List Value},dX h xs vs->dX h' xs vs
 |_,_,.nil=>.nil
 |_,_,.cons h1 h2=>.cons (d7.mono k h1) (dX.mono k h2)
end
section
variable(P:Program)(w:World)
mutual
def km:DK->Int
 | .int i=>(gv P w).hash (.inl i)
 | .str x=>(gv P w).hash (.inr x)
 | .tup ks=>reduceHash (ql (iq ks))
def iq:List DK->List Int
 |[]=>[]
 |k::ks=>km k::iq ks
end
end
mutual
def ko:DK->Nat
 | .int _=>1
 | .str _=>1
 | .tup ks=>lK ks+1
def lK:List DK->Nat
 |[]=>0
 |k::ks=>ko k+lK ks
end
theorem yc(P:Program)(w:World):∀(ks:List DK) (k:DK),iq P w (ks++[k])=iq P w ks++[km P w k]
 |[],k=>by simp[iq]
 |x::ks,k=>by rw[lq,iq,iq,yc P w ks k,lq]
theorem yd:∀(ks:List DK) (k:DK),lK (ks++[k])=lK ks+ko k
 |[],k=>by simp[lK]
 |x::ks,k=>by rw[lq,lK,lK,yd ks k];lia
theorem DG:∀(a b:List DK),DK.dv (a++b)=max (DK.dv a) (DK.dv b)
 |[],b=>by simp[DK.dv]
 |x::a,b=>by rw[lq,DK.dv,DK.dv,DG a b];lia
section
variable{P:Program}{w:World}
theorem NJ:∀(n:Nat) {A:Around} {E:Value->Shared->Prop} {s:Shared} {k:DK} {v:Value} {Q:Int->Shared->Prop},k.deep<=n->A.units+n<cLine->d7 s.heap k v->Q (km P w k) {s with toks:=s.toks+ko k} ->
 wpAny (model P w) A (PySem.pyHash v) Q E s:=show _ by
 intro n
 induction n with
 |zero =>
  intro A E s k v Q hn hu hk h;cases hk with
  |int i t=>rw[km,ko]at h;exact(gv P w).pyHash (k:=.inl i) (ya _ _ i t) h
  |str x t=>rw[km,ko]at h;exact(gv P w).pyHash (k:=.inr x) (yb _ _ x t) h
  |tup h1 h2 h3 h4=>simp[DK.deep]at hn
 |succ n ih =>
  intro A E s k v Q hn hu hk h;cases hk with
  |int i t=>rw[km,ko]at h;exact(gv P w).pyHash (k:=.inl i) (ya _ _ i t) h
  |str x t=>rw[km,ko]at h;exact(gv P w).pyHash (k:=.inr x) (yb _ _ x t) h
  |@tup ks a o items m h1 h2 h3 h4 =>
   have hT:s.TypeIs (.ref a) "tuple":=⟨o,h1,h2⟩;have hu0:A.units<cLine:=by lia
   rw[DK.deep]at hn;unfold pyHash
   first|unfold pyHashByItsType|skip
   first|refine ak (wpAny_cRoomFor_or (.inr hu0) ?_)|skip
   refine ak (tQ hT w9.lookup ?_);show wpAny _ _ (if(some (Value.builtin "tuple.__hash__")==some Value.none)=true then _ else _) Q E s;rw[if_neg (by rw[beq_builtin_none];exact cT)];refine ak (tQ hT w9.lookup ?_);show wpAny _ _ (callSpecialIfBoundUnlessNone? (.ref a) "__hash__" _ >>= _) Q E s;refine ak (wpAny_callSpecialIfBoundUnlessNone?_slot hT w9 (ig w9 hT F.entry_tuple_hash ?_ (F.args_tuple_hash_1 _)));show wpAny _ _ (Cn (.ref a) >>= _) _ _ s;refine ak (wpAny_tupleItemsOf h1 h3 ?_);refine ak ?_;rw[<-LX];refine wpAny_forIn_list _
    (λrest (b:Array Int) s'=>∃done left,ks=done++left/\dX s.heap left rest/\b.toList=iq P w done/\s'={s with toks:=s.toks+lK done})
    _ ?_ ?_ _ _ ⟨[],ks,rfl,h4,rfl,rfl⟩
   ·rintro x rest b s' ⟨done,left,rfl,hl,hb,rfl⟩;cases hl with
    |@cons k _ ks' _ g1 hl' =>
     have hd:k.deep<=n:=by
      rw[DG,DK.dv]at hn;lia
     refine ak (ih hd ?_ g1 ?_)
     ·show A.units+1+n<cLine;lia
     first
      |exact aF ⟨done++[k],ks',by simp,hl',by simp[hb,yc],by simp[yd,qm]⟩
      |exact ak (aF (aF ⟨done++[k],ks',by simp,hl',by simp[hb,yc],by simp[yd,qm]⟩))
   ·rintro b s' ⟨done,left,rfl,hl,hb,rfl⟩;cases hl;rw[nV]at h;show wpAny _ _ (retInt (ql b.toList)) _ _ _;rw[hb];refine wpAny_ret_mkInt ?_;show wpAny _ _ (if(decide (-(2:Int)^63<=ql (iq P w done))&&decide (ql (iq P w done)<2^63))=true then _ else _) Q E _;rw[km,ko]at h;unfold reduceHash at h;by_cases hr:(decide (-(2:Int)^63<=ql (iq P w done))&&decide (ql (iq P w done)<2^63))=true
    ·rw[if_pos hr];rw[if_pos hr]at h;exact aF (by simpa[qm]using h)
    ·rw[if_neg hr];rw[if_neg hr]at h;exact ak (lr (aF (by simpa[qm]using h)))
def qE(ds es:List DK)(i:Nat):Bool:=match ds[i]?,es[i]? with
 |some d,some e=>d.beq e
 |_,_=>true
theorem NK(ds es:List DK)(d e:DK)(n:Nat):(aZ (n+1)).all (qE (d::ds) (e::es))=(d.beq e&&(aZ n).all (qE ds es)):=by
 rw[LY,nW,qo];rfl
theorem DH:∀ds es:List DK,DK.gw ds es=((aZ (min ds.length es.length)).all (qE ds es)&&ds.length==es.length)
 |[],[]=>by simp[DK.gw]
 |[],_::_=>by simp[DK.gw]
 |_::_,[]=>by simp[DK.gw]
 |d::ds,e::es=>by
  have ih:=DH ds es;simp only[DK.gw,cK];rw[LZ,NK,ih,L0];congr 2;rw[fv];simp
theorem dX.len{h:Heap}:∀{ks:List DK} {vs:List Value},dX h ks vs->ks.length=vs.length
 |_,_,.nil=>rfl
 |_,_,.cons _ q=>by simp[dX.len q]
theorem dX.at{h:Heap}:∀{ks:List DK} {vs:List Value} {i:Nat} {v:Value},dX h ks vs->vs[i]?=some v->∃d,ks[i]?=some d/\d7 h d v
 |_,_,_,_,.nil,e=>by simp at e
 |_,_,0,_,.cons r _,e=>by simp at e;subst e;exact⟨_,rfl,r⟩
 |_,_,i+1,v,.cons _ q,e=>by
  obtain⟨d,h1,h2⟩:=dX.at (i:=i) (v:=v) q (by simpa using e);exact⟨d,by simpa using h1,h2⟩
theorem DI:∀{ds:List DK} {i:Nat} {d:DK},ds[i]?=some d->d.deep<=DK.dv ds
 |[],_,_,e=>by simp at e
 |x::xs,0,_,e=>by simp at e;subst e;simp only[DK.dv];lia
 |x::xs,i+1,d,e=>by
  have:=DI (ds:=xs) (i:=i) (d:=d) (by simpa using e);simp only[DK.dv];lia
theorem NL{s:Shared}:∀(n:Nat) (A:Around) (d e:DK) (u u':Value),d.deep<=n->A.units+n<cLine->d7 s.heap d u->d7 s.heap e u'->RcAt A s u u' (d.beq e)/\EqAt A s u u' (d.beq e):=show _ by
 have NM:∀a b:Int,(a==b)=decide (a=b):=λa b=>rfl;have flat:∀(A:Around) (d e:DK) (u u':Value),d.deep=0->A.units<cLine->d7 s.heap d u->d7 s.heap e u'->RcAt A s u u' (d.beq e)/\EqAt A s u u' (d.beq e):=by
  intro A d e u u' hn hu hd he;cases hd with
  |int a t =>
   cases he with
   |int b t'=>rw[DK.beq,<-NM];exact⟨RcAt.int_int a t b t',EqAt.int_int a t b t'⟩
   |str b t'=>exact⟨RcAt.int_str a t b t',EqAt.int_str a t b t'⟩
   |tup h1 h2 h3 h4=>exact⟨RcAt.int_tuple a t ⟨_,h1,h2,_,h3⟩ hu,EqAt.int_tuple a t ⟨_,h1,h2,_,h3⟩ hu⟩
  |str a t =>
   cases he with
   |int b t'=>exact⟨RcAt.str_int a t b t',EqAt.str_int a t b t'⟩
   |str b t' =>
    have e:(a==b)=decide (a=b):=by
     by_cases c:a=b
     ·subst c;simp
     ·rw[decide_eq_false c];simpa using c
    rw[DK.beq,<-e];exact⟨RcAt.str_str a t b t',EqAt.str_str a t b t'⟩
   |tup h1 h2 h3 h4=>exact⟨RcAt.str_tuple a t ⟨_,h1,h2,_,h3⟩ hu,EqAt.str_tuple a t ⟨_,h1,h2,_,h3⟩ hu⟩
  |tup h1 h2 h3 h4=>simp[DK.deep]at hn
 intro n
 induction n with
 |zero=>exact λA d e u u' hn hu hd he=>flat A d e u u' (by lia) (by lia) hd he
 |succ n ih =>
  intro A d e u u' hn hu hd he;have hu':A.units<cLine:=by lia
  by_cases h0:d.deep=0
  ·exact flat A d e u u' h0 hu' hd he
  have hd0:=hd;cases hd with
  |int a t=>simp[DK.deep]at h0
  |str a t=>simp[DK.deep]at h0
  |@tup ks a o items m h1 h2 h3 h4 =>
   have ht:s.heap.IsTuple a items:=⟨_,h1,h2,_,h3⟩;have NN:=he;cases he with
   |int b t=>exact⟨RcAt.tuple_int b t ht hu',EqAt.tuple_int b t ht hu'⟩
   |str b t=>exact⟨RcAt.tuple_str b t ht hu',EqAt.tuple_str b t ht hu'⟩
   |@tup ls b o' items' m' g1 g2 g3 g4 =>
    have fQ:s.heap.IsTuple b items':=⟨_,g1,g2,_,g3⟩;rw[DK.deep]at hn;have e:((aZ (min items.size items'.size)).all (qE ks ls)&&items.size==items'.size)=DK.beq (.tup ks) (.tup ls):=by
     rw[DK.beq,DH,h4.len,g4.len];simp
    have rc:RcAt A s (.ref a) (.ref b) (DK.beq (.tup ks) (.tup ls)):=by
     rw[<-e];refine RcAt.tuples ht fQ hu' λj j1 j2=>?_;obtain⟨dx,lL,qF⟩:=h4.at (i:=j) (v:=items[j]) (by simp[j1]);obtain⟨dy,qG,qH⟩:=g4.at (i:=j) (v:=items'[j]) (by simp[j2]);have DJ:=DI lL;have:=(ih A.in1 dx dy _ _ (by lia) (by show A.units+1+n<cLine;lia) qF qH).2;unfold qE;rw[lL,qG];exact this
    refine⟨rc,?_⟩;by_cases hab:a=b
    ·subst hab;have ed:DK.tup ks=DK.tup ls:=d7.inj hd0 NN;rw[<-ed,DK.beq_refl];exact EqAt.same _
    ·exact EqAt.of_refs hab rc
theorem DK.NO(a b:DK):a.beq b=decide (a=b):=by
 by_cases c:a=b
 ·subst c;rw[DK.beq_refl];simp
 ·rw[decide_eq_false c];cases q:a.beq b with
  |false=>rfl
  |true=>exact absurd (DK.beq_eq q) c
theorem NP:∀(n:Nat) {A:Around} {E:Value->Shared->Prop} {s:Shared} {k:DK} {v:Value} {Q:Bool->Shared->Prop},k.deep<=n->d7 s.heap k v->Q true s->wpAny (model P w) A (eqIsQuiet n v) Q E s:=show _ by
 intro n
 induction n with
 |zero =>
  intro A E s k v Q hn hk h;cases hk with
  |int i t=>rw[w_ _ rfl];exact aF h
  |str x t=>rw[w_ _ rfl];exact aF h
  |tup h1 h2 h3 h4=>simp[DK.deep]at hn
 |succ n ih =>
  intro A E s k v Q hn hk h;cases hk with
  |int i t=>rw[w_ _ rfl];exact aF h
  |str x t=>rw[w_ _ rfl];exact aF h
  |@tup ks a o items m h1 h2 h3 h4 =>
   have hT:s.TypeIs (.ref a) "tuple":=⟨o,h1,h2⟩;rw[DK.deep]at hn;unfold eqIsQuiet;refine ak (tQ hT F.slot_tuple_eq.lookup ?_);show wpAny _ _ (isInstance (.ref a) (.type "tuple") >>= _) _ _ s;refine ak (xa hT isSubtype_tuple_tuple ?_);simp only[L1,iM,if_false];refine ak (jr h1 h3 ?_);refine ak ?_;show wpAny _ _ (forIn items _ _) _ _ s;rw[<-LX];refine wpAny_forIn_list _ (λrest r s'=>r.1=none/\s'=s/\∃ls,dX s.heap ls rest/\DK.dv ls<=n) _ ?_ ?_ _ _ ⟨rfl,rfl,ks,h4,by lia⟩
   ·rintro v rest r s' ⟨hr,rfl,ls,hls,hdl⟩;cases hls with
    |@cons l _ ls' _ g1 g2 =>
     rw[DK.dv]at hdl;refine ak (ih (k:=l) (by lia) g1 ?_);simp only[L1,iM,if_false];exact aF ⟨rfl,rfl,ls',g2,by lia⟩
   ·rintro⟨r1,r2⟩ s' ⟨hr,rfl,_⟩;simp only at hr;subst hr;exact aF h
end
def ye(h:Heap)(k:DK)(a:Addr):Prop:=d7 h k (.ref a)/\k.deep<=4
def gx(P:Program)(w:World):HeapKind P w DK where
 is:=ye
 hash:=km P w
 draws:=ko
 room:=λA=>A.units+4<cLine
 inj:=λhx hy=>hx.1.inj hy.1
 keeps:=λ{h h' k a d o es ep} x ho hd hs=>⟨x.1.mono λb u items n hb hu=>by
  have hne:b≠d:=by
   rintro rfl;obtain rfl:u=o:=dN (hb.symm.trans ho);rw[hd]at hu;exact nomatch hu
  exact(hs.2 b hne).trans hb,x.2⟩
 pyHash:=λhu hk h=>NJ 4 hk.2 hu hk.1 h
 eqBool:=λ{A E s x y a b Q} hu hx hy h=>by
  have:=(NL 4 A x y (.ref a) (.ref b) hx.2 hu hx.1 hy.1).2;rw[DK.NO]at this;exact this _ _ _ _ h
 quiet:=λ{A E s k a Q} hk h=>NP 8 (b5 hk.2 (by decide)) hk.1 h
end L2
namespace L2
open PySem PySem.Spec PyProof.Rows
inductive V where
 |non|bl (b:Bool)|int (i:Int)|str (x:Str)|gR (b:Array UInt8)|flt (b:UInt64)|ref (a:Addr)|ty (n:String)
 deriving DecidableEq
def RelV:V->Value->Prop
 | .non,u=>u=Value.none
 | .bl b,u=>u=Value.bool b
 | .int i,u=>∃t,u=Value.int i t
 | .str x,u=>∃t,u=Value.str x t
 | .gR b,u=>∃t,u=Value.bytes b t
 | .flt b,u=>∃t,u=Value.float b t
 | .ref a,u=>u=Value.ref a
 | .ty n,u=>u=Value.type n
abbrev Vals:List V->List Value->Prop:=Paired RelV
theorem Vals.length{xs:List V}{us:List Value}(r:Vals xs us):xs.length=us.length:=Paired.length r
theorem Vals.get:∀{xs:List V} {us:List Value} {i:Nat} {x:V},Vals xs us->xs[i]?=some x->∃u,us[i]?=some u/\RelV x u
 |_,_,_,_,.nil,e=>by simp at e
 |_,_,0,_,.cons r _,e=>by simp at e;subst e;exact⟨_,rfl,r⟩
 |_,_,i+1,x,.cons _ t,e=>by
  obtain⟨u,h1,h2⟩:=Vals.get (i:=i) (x:=x) t (by simpa using e);exact⟨u,by simpa using h1,h2⟩
theorem Vals.set{x:V}{u:Value}(r:RelV x u):∀{xs:List V} {us:List Value} (i:Nat),Vals xs us->Vals (xs.set i x) (us.set i u)
 |_,_,_,.nil=>.nil
 |_,_,0,.cons _ t=>.cons r t
 |_,_,i+1,.cons q t=>.cons q (Vals.set r i t)
theorem Vals.append:∀{xs ys:List V} {us ws:List Value},Vals xs us->Vals ys ws->Vals (xs++ys) (us++ws)
 |_,_,_,_,.nil,s=>s
 |_,_,_,_,.cons r t,s=>.cons r (Vals.append t s)
theorem Vals.take:∀{xs:List V} {us:List Value} (n:Nat),Vals xs us->Vals (xs.take n) (us.take n)
 |_,_,0,_=>.nil
 |_,_,_+1,.nil=>.nil
 |_,_,n+1,.cons r t=>.cons r (Vals.take n t)
theorem Vals.drop:∀{xs:List V} {us:List Value} (n:Nat),Vals xs us->Vals (xs.drop n) (us.drop n)
 |_,_,0,r=>r
 |_,_,_+1,.nil=>.nil
 |_,_,n+1,.cons _ t=>Vals.drop n t
def mM:Option V->Option Value->Prop
 |some v,some u=>RelV v u
 |none,none=>True
 |_,_=>False
def KV{κ:Type}:List (κ×V)->List (κ×Value)->Prop:=Paired λ(p:κ×V) (q:κ×Value)=>p.1=q.1/\RelV p.2 q.2
def kV:Key->V
 | .inl i=>.int i
 | .inr x=>.str x
inductive HO where
 |lst (xs:List V)
 |tup (xs:List V)
 |dK (kvs:List (Key×V))|dT (kvs:List (DK×V))
 |set (S:Int->Bool) (n:Nat)
 |ins (C dx:Addr) (fs:List (Str×V))
 |own (x:Addr)
 |xd (fs:List (Str×V))
 |met (f x:Addr)
 |uf (lo hi:Int)
 |dQ (o:Obj) (u:HO)
 |lM (ps:Array Value)
 |ext (φ:Heap->Prop)
abbrev Hp:=Addr->Option HO
def upd(H:Hp)(a:Addr)(o:HO):Hp:=λb=>if b=a then some o else H b
theorem eP{H:Hp}{a:Addr}{o:HO}:upd H a o a=some o:=by unfold upd;rw[if_pos rfl]
theorem bo{H:Hp}{a b:Addr}{o:HO}(h:b≠a):upd H a o b=H b:=by unfold upd;rw[if_neg h]
theorem NQ{H:Hp}{a:Addr}{o u:HO}:upd (upd H a o) a u=upd H a u:=by
 funext b;unfold upd;split<;>rfl
theorem NR{H:Hp}{a b:Addr}{o u:HO}(h:H a=some o)(h':H b=some u)(d:o≠u):a≠b:=by
 intro e;subst e;rw[h]at h';exact d (dN h')
theorem ir{H:Hp}{a b:Addr}{o:HO}(h:H a=some o)(h':H b=none):a≠b:=by
 intro e;subst e;rw[h]at h';cases h'
mutual
inductive iu(H:Hp):DK->V->Prop where
 |int (i:Int):iu H (.int i) (.int i)
 |str (x:Str):iu H (.str x) (.str x)
 |tup {a:Addr} {ks:List DK} {vs:List V}:H a=some (.tup vs)->iw H ks vs->iu H (.tup ks) (.ref a)
inductive iw(H:Hp):List DK->List V->Prop where
 |nil:iw H [] []
 |cons {k:DK} {v:V} {ks:List DK} {vs:List V}:iu H k v->iw H ks vs->iw H (k::ks) (v::vs)
end
mutual
theorem iu.mono{H H':Hp}(ht:∀b xs,H b=some (.tup xs)->H' b=some (.tup xs)):∀{k:DK} {v:V},iu H k v->iu H' k v
 |_,_,.int i=>.int i
 |_,_,.str x=>.str x
 |_,_,.tup h1 h2=>.tup (ht _ _ h1) (iw.mono ht h2)
theorem iw.mono{H H':Hp}(ht:∀b xs,H b=some (.tup xs)->H' b=some (.tup xs)):∀{ks:List DK} {vs:List V},iw H ks vs->iw H' ks vs
 |_,_,.nil=>.nil
 |_,_,.cons h1 h2=>.cons (iu.mono ht h1) (iw.mono ht h2)
end
structure eQ(H:Hp)(k:DK)(a:Addr):Prop where
 at_:iu H k (.ref a)
 deep:k.deep<=4
theorem eQ.mono{H H':Hp}{k:DK}{a:Addr}(x:eQ H k a)(ht:∀b xs,H b=some (.tup xs)->H' b=some (.tup xs)):eQ H' k a:=⟨x.at_.mono ht,x.deep⟩
section
variable(P:Program)(w:World)
def cM(H:Hp)(h:Heap)(a:Addr):HO->Prop
 | .lst xs=>xs.length<=sizeLine/\∃(its:List Value) (n:Nat),Vals xs its/\h.get? a=some {cls:=.type "list",data:=.seq its.toArray n}
 | .tup xs=>xs.length<=sizeLine/\∃its:List Value,Vals xs its/\IsTup h a its.toArray/\∀o,h.get? a=some o->o.dict=none
 | .dK kvs=>kvs.length<=sizeLine/\(a==sysModules)=false/\∃vs,KV kvs vs/\h.DictOf (gv P w) a vs
 | .dT kvs=>kvs.length<=sizeLine/\(a==sysModules)=false/\∃xs:List (DK×Addr×Value),
  Paired (λ(p:DK×V) (q:DK×Addr×Value)=>p.1=q.1/\eQ H p.1 q.2.1/\RelV p.2 q.2.2) kvs xs /\
  ∃o es ep,h.get? a=some o/\o.ExactDict/\o.data=.dict es ep/\es.toList=xs.map (entryOfKey (gx P w))/\(xs.map (·.1)).Nodup
 | .set S n=>h.SetOf (intKind P w) a S n
 | .ins C dx fs=>H dx=some (.own a)/\fs.length<=1000/\dx≠a/\h.get? a=some (Co C dx) /\
  ∃mA,h.Ns1 dx mA/\(∀f,mM (fs.lookup f) (mA f))/\L3 mA (fs.map (·.1))
 | .own _=>∃o,h.get? a=some o
 | .xd fs=>∃mA,h.Ns1 a mA/\∀f,mM (fs.lookup f) (mA f)
 | .uf lo hi=>∃t u v,h.get? a=some {cls:=.type "range",data:=.fields #[.int lo t,.int hi u,.int 1 v]}
 | .dQ o u=>h.get? a=some o/\cM H h a u
 | .lM ps=>h.get? a=some {cls:=.none,data:=.fields ps}
 | .met f x=>h.get? a=some (Cp (.ref f) (.ref x))
 | .ext φ=>φ h/\(∃o,h.get? a=some o)/\∀h1 h2:Heap,φ h1->(∀o,h1.get? a=some o->h2.get? a=some o)->φ h2
def cw(H:Hp)(h:Heap):Prop:=∀a o,H a=some o->cM P w H h a o
end
section
variable{P:Program}{w:World}{H H':Hp}{h h':Heap}{a:Addr}{o:HO}
theorem cM.lt(x:cM P w H h a o):a<h.objs.size:=show _ by
 cases o with
 |lst xs=>obtain⟨_,_,_,_,e⟩:=x;exact bq e
 |tup xs=>obtain⟨_,_,_,p,_⟩:=x;exact p.lt
 |dK kvs=>obtain⟨_,_,_,_,o,_,_,e,_⟩:=x;exact bq e
 |dT kvs=>obtain⟨_,_,_,_,o,_,_,e,_⟩:=x;exact bq e
 |set S n=>obtain⟨o,_,_,_,e,_⟩:=x;exact bq e
 |ins C dx fs=>obtain⟨_,_,_,e,_⟩:=x;exact bq e
 |own y=>obtain⟨_,e⟩:=x;exact bq e
 |xd fs=>obtain⟨_,⟨_,_,_,e,_⟩,_⟩:=x;exact bq e
 |uf lo hi=>obtain⟨_,_,_,e⟩:=x;exact bq e
 |dQ ob u=>obtain⟨e,_⟩:=x;exact bq e
 |lM ps=>exact bq (show h.get? a=some _ from x)
 |met f y=>exact bq (show h.get? a=some _ from x)
 |ext φ=>obtain⟨_,⟨_,e⟩,_⟩:=x;exact bq e
theorem Paired.kq{α β:Type}{F G:α->β->Prop}:∀{l₁:List α} {l₂:List β},Paired F l₁ l₂->(∀a b,F a b->G a b)->Paired G l₁ l₂
 |_,_,.nil,_=>.nil
 |_,_,.cons r t,f=>.cons (f _ _ r) (Paired.kq t f)
theorem cM.stay(x:cM P w H h a o)(k:∀b u,(b=a∨H b=some (.own a))->h.get? b=some u->h'.get? b=some u)
 (ho:∀b,H b=some (.own a)->H' b=some (.own a)) (ht:∀b xs,H b=some (.tup xs)->H' b=some (.tup xs)):cM P w H' h' a o:=show _ by
 induction o with
 |lst xs=>obtain⟨z,its,n,r,e⟩:=x;exact⟨z,its,n,r,k _ _ (.inl rfl) e⟩
 |tup xs=>obtain⟨z,its,r,⟨ob,e,c⟩,nd⟩:=x;exact⟨z,its,r,⟨ob,k _ _ (.inl rfl) e,c⟩,λo q=>by rw[k _ _ (.inl rfl) e]at q;cases q;exact nd _ e⟩
 |dK kvs=>obtain⟨z,y,vs,r,ob,es,ep,e,c⟩:=x;exact⟨z,y,vs,r,ob,es,ep,k _ _ (.inl rfl) e,c⟩
 |dT kvs =>
  obtain⟨z,y,xs,r,ob,es,ep,e,c⟩:=x;exact⟨z,y,xs,Paired.kq r λp q z=>⟨z.1,z.2.1.mono ht,z.2.2⟩,ob,es,ep,k _ _ (.inl rfl) e,c⟩
 |set S n=>obtain⟨ob,es,ep,t,e,c⟩:=x;exact⟨ob,es,ep,t,k _ _ (.inl rfl) e,c⟩
 |ins C dx fs =>
  obtain⟨d,z,ne,e,mA,⟨od,es,ep,e2,c⟩,r⟩:=x;exact⟨ho _ d,z,ne,k _ _ (.inl rfl) e,mA,⟨od,es,ep,k _ _ (.inr d) e2,c⟩,r⟩
 |own y=>obtain⟨ob,e⟩:=x;exact⟨ob,k _ _ (.inl rfl) e⟩
 |xd fs=>obtain⟨mA,⟨od,es,ep,e,c⟩,r⟩:=x;exact⟨mA,⟨od,es,ep,k _ _ (.inl rfl) e,c⟩,r⟩
 |uf lo hi=>obtain⟨t,u,v,e⟩:=x;exact⟨t,u,v,k _ _ (.inl rfl) e⟩
 |dQ ob u ih=>obtain⟨e,q⟩:=x;exact⟨k _ _ (.inl rfl) e,ih q⟩
 |lM ps =>
  have e:h.get? a=some {cls:=.none,data:=.fields ps}:=x;show h'.get? a=some {cls:=.none,data:=.fields ps};exact k a _ (.inl rfl) e
 |met f y =>
  have e:h.get? a=some (Cp (.ref f) (.ref y)):=x;show h'.get? a=some (Cp (.ref f) (.ref y));exact k a _ (.inl rfl) e
 |ext φ=>obtain⟨p,⟨o,e⟩,st⟩:=x;exact⟨st _ _ p λo q=>k _ _ (.inl rfl) q,⟨o,k _ _ (.inl rfl) e⟩,st⟩
theorem cw.lt(x:cw P w H h)(e:H a=some o):a<h.objs.size:=(x a o e).lt
theorem cw.fresh(x:cw P w H h)(e:h.objs.size<=a):H a=none:=by
 cases q:H a with
 |none=>rfl
 |some u=>exact absurd (dO (x.lt q) e) (ju _)
theorem cw.kept(x:cw P w H h)(k:∀b u,h.get? b=some u->h'.get? b=some u):cw P w H h':=λa o e =>
 (x a o e).stay (λb u _ q=>k b u q) (λ_ q=>q) λ_ _ q=>q
theorem cw.laid(x:cw P w H h)(k:∀b u,h.get? b=some u->h'.get? b=some u)(hp:h.objs.size<=a)(new:cM P w (upd H a o) h' a o):cw P w (upd H a o) h':=λb u e=>by
 have hn:=x.fresh hp;by_cases hb:b=a
 ·subst hb;rw[eP]at e;cases e;exact new
 ·rw[bo hb]at e;exact(x b u e).stay (λc v _ q=>k c v q) (λc q=>by rw[bo (ir q hn)];exact q) λc xs q=>by rw[bo (ir q hn)];exact q
end
def Rd(H:Hp)(a:Addr)(u:HO):Prop:=H a=some u∨∃o,H a=some (.dQ o u)
theorem Rd.ok{P:Program}{w:World}{H:Hp}{h:Heap}{a:Addr}{u:HO}(r:Rd H a u)(x:cw P w H h):cM P w H h a u:=by
 rcases r with r|⟨o,r⟩
 ·exact x a u r
 ·obtain⟨_,q⟩:=x a _ r;exact q
def qI:Option HO->Prop
 |some (.lst _)=>True
 |some (.dK _)=>True
 |some (.dT _)=>True
 |some (.set _ _)=>True
 |some (.ins _ _ _)=>True
 |some (.ext _)=>True
 |_=>False
section
variable{P:Program}{w:World}{H:Hp}{h h':Heap}{x e:Addr}{o':HO}
theorem cw.write(ok:cw P w H h)(mu:qI (H x))(he:e=x∨H e=some (.own x))(k:∀b u,b≠e->h.get? b=some u->h'.get? b=some u)(heo:∃u,h'.get? e=some u)
 (new:cM P w (upd H x o') h' x o'):cw P w (upd H x o') h':=λb u q=>by
 have DL:∀c y,H c=some (.own y)->c≠x:=λc y r z=>by subst z;rw[r]at mu;exact mu
 have NS:∀c xs,H c=some (.tup xs)->c≠x:=λc xs r z=>by subst z;rw[r]at mu;exact mu
 by_cases hb:b=x
 ·subst hb;rw[eP]at q;cases q;exact new
 ·rw[bo hb]at q;by_cases hbe:b=e
  ·have q':H b=some (.own x):=show _ by
    rcases he with z|z
    ·exact absurd (hbe.trans z) hb
    ·rw[hbe];exact z
   rw[q]at q';cases q';obtain⟨v,hv⟩:=heo;exact⟨v,by rw[hbe];exact hv⟩
  ·refine(ok b u q).stay (λc v hc r=>k c v ?_ r) (λc r=>by rw[bo (DL c b r)];exact r) λc xs r=>by rw[bo (NS c xs r)];exact r
   rcases hc with rfl|hc
   ·exact hbe
   ·rintro rfl;rcases he with z|z
    ·exact DL c b hc z
    ·rw[hc]at z;cases z;exact hb rfl
end
structure Un(fs ex:List Addr)(H H':Hp)(h h':Heap):Prop where
 keep:∀b o,h.get? b=some o->H b=none->b∉fs->b∉ex->h'.get? b=some o
 slot:∀b o,h.get? b=some o->H b=none->b∈fs->b∉ex->∃sl,h'.get? b=some {o with slots:=sl}
 free:∀b o,h.get? b=some o->H b=none->b∉ex->H' b=none
 there:∀b o,h.get? b=some o->b∉ex->∃o',h'.get? b=some o'
 tups:∀b xs,H b=some (.tup xs)->H' b=some (.tup xs)
 gy:∀b o u,H b=some (.dQ o u)->H' b=some (.dQ o u)
 ix:∀b ps,H b=some (.lM ps)->∃more,H' b=some (.lM (ps++more))
section
variable{fs fs' ex ex':List Addr}{H H1 H2:Hp}{h h1 h2 h':Heap}{a x e:Addr}{o:HO}
theorem Un.any(u:Un fs ex H H1 h h1){b:Addr}{ob:Obj}(q:h.get? b=some ob)(n:H b=none)(hx:b∉ex):∃sl,h1.get? b=some {ob with slots:=sl}:=show _ by
 by_cases hb:b∈fs
 ·exact u.slot b ob q n hb hx
 ·exact⟨ob.slots,u.keep b ob q n hb hx⟩
theorem Un.kept(k:∀b u,h.get? b=some u->h'.get? b=some u):Un fs ex H H h h' :=
 ⟨λb ob q _ _ _=>k b ob q,λb ob q _ _ _=>⟨ob.slots,k b ob q⟩,λ_ _ _ n _=>n,λb ob q _=>⟨ob,k b ob q⟩,λ_ _ q=>q,λ_ _ _ q=>q,λ_ ps q=>⟨#[],by rw[q];simp⟩⟩
theorem Un.refl:Un fs ex H H h h:=Un.kept λ_ _ q=>q
theorem Un.laid(k:∀b u,h.get? b=some u->h'.get? b=some u)(hp:h.objs.size<=a)(hn:H a=none):Un fs ex H (upd H a o) h h' where
 keep:=λb u q _ _ _=>k b u q
 slot:=λb u q _ _ _=>⟨u.slots,k b u q⟩
 free:=λb u q n _=>by rw[bo (dj (dO (bq q) hp))];exact n
 there:=λb u q _=>⟨u,k b u q⟩
 tups:=λb xs q=>by rw[bo (ir q hn)];exact q
 gy:=λb u xs q=>by rw[bo (ir q hn)];exact q
 ix:=λb ps q=>⟨#[],by rw[bo (ir q hn),q];simp⟩
theorem Un.write(mu:qI (H x))(he:e=x∨H e=some (.own x))(k:∀b u,b≠e->h.get? b=some u->h'.get? b=some u)(heo:∃u,h'.get? e=some u):Un fs ex H (upd H x o) h h':=show _ by
 have hx:∀b,H b=none->b≠x:=λb n z=>by subst z;rw[n]at mu;exact mu
 have hb:∀b,H b=none->b≠e:=λb n z=>by
  subst z;rcases he with r|r
  ·exact hx b n r
  ·rw[n]at r;cases r
 have hm:∀b u,H b=some u->¬qI (some u)->b≠x:=λb u q nm z=>by subst z;rw[q]at mu;exact nm mu
 refine⟨λb u q n _ _=>k b u (hb b n) q,λb u q n _ _=>⟨u.slots,k b u (hb b n) q⟩,λb u q n _=>by rw[bo (hx b n)];exact n,λb u q _=>?_,
  λb xs q=>by rw[bo (hm b _ q λz=>z)];exact q,λb u xs q=>by rw[bo (hm b _ q λz=>z)];exact q,λb ps q=>⟨#[],by rw[bo (hm b _ q λz=>z),q];simp⟩⟩
 by_cases hbe:b=e
 ·subst hbe;exact heo
 ·exact⟨u,k b u hbe q⟩
end
def ug(h:Heap)(H:Hp):List Addr:=(aZ h.objs.size).filter λa=>(H a).isSome
def ku(h:Heap)(H:Hp):Heap:=j9 h (ug h H)
theorem NT(h:Heap)(H:Hp):(ku h H).objs.size=h.objs.size:=PySem.W.hideAll_size _ _
theorem NU{h:Heap}{H:Hp}{b:Addr}{o:Obj}(e:h.get? b=some o)(n:H b=none):(ku h H).get? b=some o :=
 xb _ e λhm=>by
  have q:(H b).isSome=true:=(tR.mp hm).2;rw[n]at q;simp at q
theorem NV{h:Heap}{H:Hp}{b:Addr}{o:Obj}(e:(ku h H).get? b=some o):h.get? b=some o/\H b=none:=show _ by
 have e':h.get? b=some o:=qp (ug h H) e;refine⟨e',?_⟩;cases q:H b with
 |none=>rfl
 |some x =>
  have hm:b∈ug h H:=tR.mpr ⟨gb.mpr (bq e'),by simp[q]⟩;have z:(ku h H).get? b=none:=tS (ug h H) hm;rw[z]at e;cases e
def NW(g h:Heap)(L:Addr):List (Addr×Obj):=(aZ h.objs.size).filterMap λa=>if a=L∨(g.get? a).isSome=true then none else(h.get? a).map λo=>(a,o)
def rest(g h:Heap)(L d:Addr):List (Addr×Obj):=(NW g h L).filter λp=>decide (p.1≠d)
end L2
namespace L2
open PySem PySem.Spec PyProof.Rows
structure Mod(K:ax)(mg:Str->Option Value)(base:Heap):Prop where
 jB:K.In base
 glob:base.Ns mainGlobals mg
 blt:∃mb,base.Ns builtinsNs mb/\∀x:Str,x≠"__name__"->mb x=bootBuiltins x
 nolimit:base.NoLimit
structure Cx where
 prog:Program
 w:World
 K:ax
 mg:Str->Option Value
 base:Heap
 A:Around
 N:List Str
 s₀:Shared
 H₀:Hp
 env:Env
 outer:List Env
 stack:List Env
 ex:List Addr
 fn:Str->Bool
 calm:Bool
 pn:List (Addr×Obj)
 xe:Value->Shared->Prop
def frs(l:List Env):List Addr:=l.filterMap (·.frame)
abbrev Cx.fs(X:Cx):List Addr:=frs X.outer
def uh(sc:Scope)(x:Str):Prop:=sc.names.lookup x=some .local∨sc.names.lookup x=some .cell∨sc.names.lookup x=some .free
def Loc(sc:Scope)(x:Str):Prop:=sc.names.lookup x=some .local∨sc.names.lookup x=some .cell
def Look(env:Env)(h:Heap)(m:Str->Option Value)(x:Str)(u:Value):Prop :=
 (env.kindOf x=some .local/\m x=some u)∨((env.kindOf x=some .cell∨env.kindOf x=some .free)/\∃c,env.cells.lookup x=some c/\h.IsCell c (some u))
structure Cx.Ok(X:Cx):Prop where
 mod:Mod X.K X.mg X.base
 kind:X.env.scope.kind=.function
 glob:X.env.globals=mainGlobals
 blt:X.env.builtins=builtinsNs
 above:X.s₀.heap.objs.size<=X.env.locals
 inj:∀x y c,X.env.cells.lookup x=some c->X.env.cells.lookup y=some c->x=y
 has:∀x,(X.env.kindOf x=some .cell∨X.env.kindOf x=some .free)->∃c,X.env.cells.lookup x=some c
 cab:∀x c,X.fn x=true->X.env.cells.lookup x=some c->X.s₀.heap.objs.size<=c
 hd:X.calm=true->X.A.handled=none
 frames:X.A.frames=some X.stack
 mO:X.stack=X.outer∨(X.stack=X.env::X.outer/\X.env.frame=some X.env.locals)
 qJ:∀b∈X.ex,b≠X.env.locals/\∀x c,X.env.cells.lookup x=some c->c≠b
 bs:∀b o,X.base.get? b=some o->X.s₀.heap.get? b=some o/\X.H₀ b=none
 iy:X.base.objs.size<=X.s₀.heap.objs.size
 lN:∀b o,X.base.get? b=some o->b∉X.ex
 lP:∀b∈X.ex,b∉X.fs
 fR:X.s₀.heap.FunFrames X.base X.outer
 jC:∀b∈X.fs,X.H₀ b=none
structure Inv(X:Cx)(pins:List (Addr×Obj))(σ:List (Option V))(H:Hp)(s:Shared):Prop where
 ok:X.Ok
 os:s.os=X.s₀.os
 bare:AllBare s.gens
 base:Un X.fs X.ex X.H₀ H X.s₀.heap s.heap
 loc:∃m,s.heap.Ns X.env.locals m/\∀(i:Nat) (x:Str) (v:V),X.N[i]?=some x->σ[i]?=some (some v)->uh X.env.scope x->∃u,RelV v u/\Look X.env s.heap m x u
 cell:∀x c,X.env.cells.lookup x=some c->∃v,s.heap.IsCell c v
 free:H X.env.locals=none
 fS:∀x c,X.env.cells.lookup x=some c->H c=none
 pin:∀p∈X.pn++pins,s.heap.get? p.1=some p.2/\H p.1=none/\p.1≠X.env.locals/\p.1∉X.fs/\∀v,p.2.data≠.cell v
 hok:cw X.prog X.w H s.heap
 len:σ.length=X.N.length
section
variable{X:Cx}{pins:List (Addr×Obj)}{σ:List (Option V)}{H H':Hp}{s:Shared}{h':Heap}
theorem Cx.Ok.NX(ok:X.Ok){b:Addr}{o:Obj}(e:X.base.get? b=some o):b∉X.fs:=λhb=>by
 have:=(ok.fR.mem hb).1;rw[e]at this;cases this
theorem Inv.bs(I:Inv X pins σ H s):∀b o,X.base.get? b=some o->s.heap.get? b=some o/\H b=none:=λb o e =>
 ⟨I.base.keep b o (I.ok.bs b o e).1 (I.ok.bs b o e).2 (I.ok.NX e) (I.ok.lN b o e),I.base.free b o (I.ok.bs b o e).1 (I.ok.bs b o e).2 (I.ok.lN b o e)⟩
theorem Inv.bk(I:Inv X pins σ H s):∀b o,X.base.get? b=some o->s.heap.get? b=some o:=λb o e=>(I.bs b o e).1
theorem Inv.mod(I:Inv X pins σ H s):Mod X.K X.mg X.base:=I.ok.mod
theorem Inv.eR(I:Inv X pins σ H s):X.K.In s.heap:=I.ok.mod.jB.keeps I.bk
theorem Inv.lt(I:Inv X pins σ H s):X.env.locals<s.heap.objs.size:=let⟨_,hn,_⟩:=I.loc;hn.lt
theorem Inv.sz(I:Inv X pins σ H s):X.s₀.heap.objs.size<=s.heap.objs.size:=b5 I.ok.above (nX I.lt)
theorem Inv.NY(I:Inv X pins σ H s){a:Addr}(h:s.heap.objs.size<=a):a∉X.fs:=λhb=>by
 obtain⟨_,o,ho,_⟩:=I.ok.fR.mem hb;exact absurd (dO (bq ho) (b5 I.sz h)) (ju _)
theorem Inv.mP(I:Inv X pins σ H s):∀x c,X.env.cells.lookup x=some c->c≠X.env.locals:=λx c e z=>by
 obtain⟨v,o,ho,hd⟩:=I.cell x c e;obtain⟨m,⟨o',es,ep,ho',hd',_⟩,_⟩:=I.loc;rw[z,ho']at ho;cases ho;rw[hd']at hd;cases hd
theorem Inv.fR(I:Inv X pins σ H s):s.heap.FunFrames X.base X.outer:=show _ by
 have all:∀(l:List Env),(∀b∈frs l,b∈X.fs)->X.s₀.heap.FunFrames X.base l->s.heap.FunFrames X.base l:=by
  intro l
  induction l with
  |nil=>intro _ _;trivial
  |cons env r ih =>
   intro hs hl;obtain⟨hk,⟨L,o,hf,hn,ho,hd⟩,hr⟩:=hl;have hL:L∈X.fs:=hs L (by unfold frs;rw[Cq,hf];exact cF);obtain⟨sl,e⟩:=I.base.slot L o ho (I.ok.jC L hL) hL λz=>I.ok.lP L z hL;exact⟨hk,⟨L,_,hf,hn,e,hd⟩,ih (λb hb=>hs b (by unfold frs;rw[Cq,hf];exact cL _ hb)) hr⟩
 exact all X.outer (λ_ hb=>hb) I.ok.fR
theorem Inv.stack(I:Inv X pins σ H s):s.heap.FunFrames X.base X.stack:=show _ by
 rcases I.ok.mO with e|⟨e,hf⟩
 ·rw[e];exact I.fR
 ·rw[e];obtain⟨m,hn,_⟩:=I.loc;refine .cons (by rw[I.ok.kind];decide) hf hn ?_ I.fR;exact Heap.get?_none_of_le (b5 I.ok.iy I.ok.above)
theorem Inv.ui(I:Inv X pins σ H s):∀b∈frs X.stack,b∈X.env.locals::X.fs:=λb hb=>by
 rcases I.ok.mO with e|⟨e,hf⟩
 ·rw[e]at hb;exact cL _ hb
 ·rw[e]at hb;unfold frs at hb;rw[Cq,hf]at hb;exact hb
theorem Inv.uj(I:Inv X pins σ H s):∀b∈frs X.stack,H b=none:=λb hb=>by
 rcases br.mp (I.ui b hb) with e|hb
 ·rw[e];exact I.free
 ·obtain⟨_,o,ho,_⟩:=I.ok.fR.mem hb;exact I.base.free b o ho (I.ok.jC b hb) λz=>I.ok.lP b z hb
theorem Inv.step{g':Array GenState}{t':Nat}{d':Drawn}{ch:List Addr}(I:Inv X pins σ H s)
 (hch:∀b∈ch,(b∈X.ex∨X.s₀.heap.objs.size<=b)/\b≠X.env.locals/\(∀x c,X.env.cells.lookup x=some c->c≠b)/\∀p∈X.pn++pins,p.1≠b)
 (keep:∀b o,b≠X.env.locals->b∉X.fs->b∉ch->s.heap.get? b=some o->H b=none->h'.get? b=some o)
 (slot:∀b o,b≠X.env.locals->b∈X.fs->b∉ch->s.heap.get? b=some o->H b=none->∃sl,h'.get? b=some {o with slots:=sl}) (free:∀b o,b∉ch->s.heap.get? b=some o->H b=none->H' b=none)
 (there:∀b o,b∉ch->s.heap.get? b=some o->∃o',h'.get? b=some o')
 (tups:∀b xs,H b=some (.tup xs)->H' b=some (.tup xs)) (gy:∀b o u,H b=some (.dQ o u)->H' b=some (.dQ o u)) (ix:∀b ps,H b=some (.lM ps)->∃more,H' b=some (.lM (ps++more)))
 (ns:∀m,s.heap.Ns X.env.locals m->h'.Ns X.env.locals m) (hok:cw X.prog X.w H' h') (hg:AllBare g') :
 Inv X pins σ H' {s with heap:=h',gens:=g',drawn:=d',toks:=t'}:=show _ by
 have DM:∀b o,X.s₀.heap.get? b=some o->b≠X.env.locals:=λb o e=>dj (dO (bq e) I.ok.above);have uk:∀b o,X.s₀.heap.get? b=some o->b∉X.ex->b∉ch:=λb o e hx hb=>by
  rcases(hch b hb).1 with z|z
  ·exact hx z
  ·exact absurd (dO (bq e) z) (ju _)
 have cellK:∀x c,X.env.cells.lookup x=some c->∀v,s.heap.IsCell c v->h'.IsCell c v:=λx c e v cU=>by
  obtain⟨o,ho,hd⟩:=cU;have qK:c∉ch:=λz=>(hch c z).2.2.1 x c e rfl;by_cases hc:c∈X.fs
  ·obtain⟨sl,q⟩:=slot c o (I.mP x c e) hc qK ho (I.fS x c e);exact⟨_,q,hd⟩
  ·exact⟨o,keep c o (I.mP x c e) hc qK ho (I.fS x c e),hd⟩
 refine⟨I.ok,I.os,hg,⟨λb o e n hb hx=>?_,λb o e n hb hx=>?_,λb o e n hx=>?_,λb o e hx=>?_,λb xs e=>tups b xs (I.base.tups b xs e),λb o xs e=>gy b o xs (I.base.gy b o xs e),λb ps e=>?_⟩,?_,λx c e=>?_,?_,λx c e=>?_,λp hp=>?_,hok,I.len⟩
 ·exact keep b o (DM b o e) hb (uk b o e hx) (I.base.keep b o e n hb hx) (I.base.free b o e n hx)
 ·obtain⟨sl,e1⟩:=I.base.slot b o e n hb hx;obtain⟨sl',e2⟩:=slot b _ (DM b o e) hb (uk b o e hx) e1 (I.base.free b o e n hx);exact⟨sl',e2⟩
 ·obtain⟨o',e1⟩:=I.base.there b o e hx;exact free b o' (uk b o e hx) e1 (I.base.free b o e n hx)
 ·obtain⟨o',e1⟩:=I.base.there b o e hx;exact there b o' (uk b o e hx) e1
 ·obtain⟨m1,e1⟩:=I.base.ix b ps e;obtain⟨m2,e2⟩:=ix b _ e1;exact⟨m1++m2,by rw[e2,Array.append_assoc]⟩
 ·obtain⟨m,hn,hl⟩:=I.loc;refine⟨m,ns m hn,λi x v e1 e2 e3=>?_⟩;obtain⟨u,r,l⟩:=hl i x v e1 e2 e3;refine⟨u,r,?_⟩;rcases l with l|⟨k,c,e,z⟩
  ·exact .inl l
  ·exact .inr ⟨k,c,e,cellK x c e _ z⟩
 ·obtain⟨v,z⟩:=I.cell x c e;exact⟨v,cellK x c e v z⟩
 ·obtain⟨m,⟨o,_,_,ho,_⟩,_⟩:=I.loc;exact free _ o (λz=>(hch _ z).2.1 rfl) ho I.free
 ·obtain⟨v,o,ho,hd⟩:=I.cell x c e;exact free c o (λz=>(hch c z).2.2.1 x c e rfl) ho (I.fS x c e)
 ·obtain⟨e,n,ne,nf,d⟩:=I.pin p hp;have qK:p.1∉ch:=λz=>(hch p.1 z).2.2.2 p hp rfl;exact⟨keep p.1 p.2 ne nf qK e n,free p.1 p.2 qK e n,ne,nf,d⟩
theorem Inv.un{t':Nat}(I:Inv X pins σ H s)(u:Un X.fs [] H H' s.heap h')(hok:cw X.prog X.w H' h'):Inv X pins σ H' {s with heap:=h',toks:=t'}:=show _ by
 obtain⟨m,⟨o,es,ep,ho,r⟩,_⟩:=id I.loc;obtain⟨sl,hL⟩:=u.any ho I.free (by simp);exact I.step (g':=s.gens) (d':=s.drawn) (ch:=[]) (λ_ z=>nomatch z) (λb o _ hb _ e n=>u.keep b o e n hb (by simp)) (λb o _ hb _ e n=>u.slot b o e n hb (by simp)) (λb o _ e n=>u.free b o e n (by simp)) (λb o _ e=>u.there b o e (by simp)) u.tups u.gy u.ix (λm' hm=>by
  obtain⟨o',es',ep',ho',r'⟩:=hm;rw[ho]at ho';cases ho';exact⟨_,es',ep',hL,r'⟩) hok I.bare
theorem Inv.call{g':Array GenState}{t':Nat}{d':Drawn}{ch:List Addr}(I:Inv X pins σ H s)(u:Un (frs X.stack) ch H H' s.heap h')(hok:cw X.prog X.w H' h')(hg:AllBare g')
 (hch:∀b∈ch,(b∈X.ex∨X.s₀.heap.objs.size<=b)/\b≠X.env.locals/\(∀x c,X.env.cells.lookup x=some c->c≠b)/\∀p∈X.pn++pins,p.1≠b) :
 Inv X pins σ H' {s with heap:=h',gens:=g',drawn:=d',toks:=t'}:=show _ by
 obtain⟨m,⟨o,es,ep,ho,r⟩,_⟩:=id I.loc;obtain⟨sl,hL⟩:=u.any ho I.free λz=>(hch _ z).2.1 rfl;exact I.step (ch:=ch) hch (λb o hL hb hc e n=>u.keep b o e n (λz=>(br.mp (I.ui b z)).elim hL hb) hc) (λb o _ _ hc e n=>u.any e n hc) (λb o hc e n=>u.free b o e n hc) (λb o hc e=>u.there b o e hc) u.tups u.gy u.ix (λm' hm=>by
  obtain⟨o',es',ep',ho',r'⟩:=hm;rw[ho]at ho';cases ho';exact⟨_,es',ep',hL,r'⟩) hok hg
theorem Inv.turned{t':Nat}{it:Addr}(I:Inv X pins σ H s)(k:∀b o,b≠it->s.heap.get? b=some o->h'.get? b=some o)(hn:H it=none)(hL:it≠X.env.locals)
 (h1:it∈X.ex∨X.s₀.heap.objs.size<=it) (h2:∀x c,X.env.cells.lookup x=some c->c≠it) (h3:∀p∈X.pn++pins,p.1≠it):Inv X pins σ H {s with heap:=h',toks:=t'}:=show _ by
 have lQ:∀b u,H b=some u->b≠it:=λb u e z=>by rw[z,hn]at e;cases e
 refine I.step (g':=s.gens) (d':=s.drawn) (ch:=[it]) (λb hb=>?_) (λb o _ _ hc e _=>k b o (λz=>hc (by simp[z])) e) (λb o _ _ hc e _=>⟨o.slots,k b o (λz=>hc (by simp[z])) e⟩) (λ_ _ _ _ n=>n)
  (λb o hc e=>⟨o,k b o (λz=>hc (by simp[z])) e⟩) (λ_ _ e=>e) (λ_ _ _ e=>e) (λb ps e=>⟨#[],by rw[e];simp⟩) (λm hm=>?_) (λb u e=>?_) I.bare
 ·have e:b=it:=by simpa using hb
  subst e;exact⟨h1,hL,h2,h3⟩
 ·obtain⟨o,es,ep,ho,r⟩:=hm;exact⟨o,es,ep,k _ o (bE hL) ho,r⟩
 ·refine(I.hok b u e).stay (λc v hc q=>k c v ?_ q) (λ_ q=>q) λ_ _ q=>q;rcases hc with z|z
  ·rw[z];exact lQ b u e
  ·exact lQ c _ z
theorem Inv.tok(I:Inv X pins σ H s)(t:Nat):Inv X pins σ H {s with toks:=t}:=I.un (h':=s.heap) (t':=t) Un.refl I.hok
theorem Inv.kept{t':Nat}(I:Inv X pins σ H s)(k:∀b u,s.heap.get? b=some u->h'.get? b=some u):Inv X pins σ H {s with heap:=h',toks:=t'}:=I.un (Un.kept k) (I.hok.kept k)
theorem Inv.laid{a:Addr}{o:HO}{t':Nat}(I:Inv X pins σ H s)(k:∀b u,s.heap.get? b=some u->h'.get? b=some u)(hp:s.heap.objs.size<=a)(new:cM X.prog X.w (upd H a o) h' a o) :
 Inv X pins σ (upd H a o) {s with heap:=h',toks:=t'}:=I.un (Un.laid k hp (I.hok.fresh hp)) (I.hok.laid k hp new)
theorem Inv.write{x e:Addr}{o:HO}{t':Nat}(I:Inv X pins σ H s)(mu:qI (H x))(he:e=x∨H e=some (.own x))(k:∀b u,b≠e->s.heap.get? b=some u->h'.get? b=some u)(heo:∃u,h'.get? e=some u)
 (new:cM X.prog X.w (upd H x o) h' x o):Inv X pins σ (upd H x o) {s with heap:=h',toks:=t'}:=I.un (Un.write mu he k heo) (I.hok.write mu he k heo new)
theorem Inv.DN{iz:List (Addr×Obj)}(I:Inv X pins σ H s)(h:∀p∈iz,s.heap.get? p.1=some p.2/\H p.1=none/\p.1≠X.env.locals/\p.1∉X.fs/\∀v,p.2.data≠.cell v):Inv X iz σ H s :=
 ⟨I.ok,I.os,I.bare,I.base,I.loc,I.cell,I.free,I.fS,λp hp=>(bF.mp hp).elim (λz=>I.pin p (lu _ z)) (h p),I.hok,I.len⟩
theorem DO{N:List Str}(hN:N.Nodup){i j:Nat}{x:Str}(a:N[i]?=some x)(b:N[j]?=some x):i=j:=by
 obtain⟨h1,e1⟩:=bO.mp a;obtain⟨h2,e2⟩:=bO.mp b;exact(List.getElem_inj hN).mp (e1.trans e2.symm)
theorem DP{M:Model}{A:Around}{E:Value->Shared->Prop}{i:Nat}{x:Str}{v:V}{u:Value}{Q:Unit->Shared->Prop}(I:Inv X pins σ H s)(hN:X.N.Nodup)(hi:X.N[i]?=some x)(hx:Loc X.env.scope x)(r:RelV v u)
 (h:∀s',Inv X pins (σ.set i (some v)) H s'->(∃a,gc a s.heap s'.heap/\(a=X.env.locals∨X.env.cells.lookup x=some a))->Q () s') (hf:X.fn x=true∨X.env.scope.names.lookup x=some .local:=by first|exact .inl rfl|exact .inr rfl|assumption):wpAny M A (storeName X.env x u) Q E s:=show _ by
 obtain⟨m,hn,hl⟩:=id I.loc;have hcls:(X.env.scope.kind == .class||(X.env.scope.kind == .module&&X.env.locals != X.env.globals))=false:=by rw[I.ok.kind];rfl
 have DQ:i<σ.length:=by rw[I.len];exact(bO.mp hi).1
 have mP:=I.mP;have tracked:∀{a:Addr} {h':Heap},(∃o,s.heap.get? a=some o/\H a=none)->gc a s.heap h'->cw X.prog X.w H h':=λ{a h'} ha hs b ob e=>by
  obtain⟨_,_,hfree⟩:=ha;refine(I.hok b ob e).stay (λc w' hc q=>(hs.2 c ?_).trans q) (λ_ q=>q) λ_ _ q=>q;rintro rfl;rcases hc with rfl|hc
  ·rw[hfree]at e;cases e
  ·rw[hfree]at hc;cases hc
 rcases hx with hk|hk
 ·refine wpAny_storeName_local hk hn (λh' hn' hs=>?_) hcls;obtain⟨oL,_,_,hoL,_⟩:=id hn;refine h _ ⟨I.ok,I.os,I.bare,⟨λb o e n hb hx=>?_,λb o e n hb hx=>?_,I.base.free,λb o e hx=>?_,I.base.tups,I.base.gy,I.base.ix⟩,⟨_,hn',λj y v' e1 e2 e3=>?_⟩,λy c e=>?_,I.free,I.fS,λp hp=>?_,tracked ⟨oL,hoL,I.free⟩ hs,by simpa using I.len⟩ ⟨_,hs,.inl rfl⟩
  ·exact(hs.2 b (dj (dO (bq e) I.ok.above))).trans (I.base.keep b o e n hb hx)
  ·obtain⟨sl,e1⟩:=I.base.slot b o e n hb hx;exact⟨sl,(hs.2 b (dj (dO (bq e) I.ok.above))).trans e1⟩
  ·obtain⟨o',e1⟩:=I.base.there b o e hx;exact⟨o',(hs.2 b (dj (dO (bq e) I.ok.above))).trans e1⟩
  ·by_cases hj:j=i
   ·subst hj;rw[hi]at e1;cases e1;rw[L4 DQ]at e2;cases e2;exact⟨u,r,.inl ⟨hk,by simp⟩⟩
   ·rw[L5 (bE hj)]at e2;obtain⟨u',r',q⟩:=hl j y v' e1 e2 e3;refine⟨u',r',?_⟩;rcases q with⟨k,e⟩|⟨k,c,e,z⟩
    ·refine .inl ⟨k,?_⟩;have:y≠x:=λe=>hj (DO hN e1 (e▸hi));simp[this,e]
    ·exact .inr ⟨k,c,e,z.sameBut hs (mP y c e)⟩
  ·obtain⟨w',z⟩:=I.cell y c e;exact⟨w',z.sameBut hs (mP y c e)⟩
  ·obtain⟨e,n,ne,nf,d⟩:=I.pin p hp;exact⟨(hs.2 p.1 ne).trans e,n,ne,nf,d⟩
 ·have hfn:X.fn x=true:=by
   rcases hf with z|z
   ·exact z
   ·rw[z]at hk;cases hk
  obtain⟨c,hc⟩:=I.ok.has x (.inl hk);obtain⟨w',z⟩:=I.cell x c hc;refine wpAny_storeName_cell I.ok.kind hk hc z (λh' hc' hs=>?_);obtain⟨oc,hoc,NZ⟩:=id z;refine h {s with heap:=h'} ⟨I.ok,I.os,I.bare,⟨λb o e n hb hx=>?_,λb o e n hb hx=>?_,I.base.free,λb o e hx=>?_,I.base.tups,I.base.gy,I.base.ix⟩,⟨m,hn.sameBut hs (bE (mP x c hc)),λj y v' e1 e2 e3=>?_⟩,λy c' e=>?_,I.free,I.fS,λp hp=>?_,tracked ⟨oc,hoc,I.fS x c hc⟩ hs,by simpa using I.len⟩ ⟨c,hs,.inr hc⟩
  ·exact(hs.2 b (dj (dO (bq e) (I.ok.cab x c hfn hc)))).trans (I.base.keep b o e n hb hx)
  ·obtain⟨sl,e1⟩:=I.base.slot b o e n hb hx;exact⟨sl,(hs.2 b (dj (dO (bq e) (I.ok.cab x c hfn hc)))).trans e1⟩
  ·obtain⟨o',e1⟩:=I.base.there b o e hx;exact⟨o',(hs.2 b (dj (dO (bq e) (I.ok.cab x c hfn hc)))).trans e1⟩
  ·by_cases hj:j=i
   ·subst hj;rw[hi]at e1;cases e1;rw[L4 DQ]at e2;cases e2;exact⟨u,r,.inr ⟨.inl hk,c,hc,hc'⟩⟩
   ·rw[L5 (bE hj)]at e2;obtain⟨u',r',q⟩:=hl j y v' e1 e2 e3;refine⟨u',r',?_⟩;rcases q with q|⟨k,c',e,z'⟩
    ·exact .inl q
    ·refine .inr ⟨k,c',e,z'.sameBut hs ?_⟩;rintro rfl;exact hj (DO hN e1 (I.ok.inj _ _ _ e hc▸hi))
  ·by_cases hcc:c'=c
   ·subst hcc;exact⟨_,hc'⟩
   ·obtain⟨w2,z2⟩:=I.cell y c' e;exact⟨w2,z2.sameBut hs hcc⟩
  ·obtain⟨e,n,ne,nf,d⟩:=I.pin p hp;refine⟨(hs.2 p.1 ?_).trans e,n,ne,nf,d⟩;intro q;rw[q,hoc]at e;have q':oc=p.2:=dN e;exact d w' (by rw[<-q'];exact NZ)
theorem yf{M:Model}{A:Around}{E:Value->Shared->Prop}{i:Nat}{x:Str}{v:V}{u:Value}{Q:Unit->Shared->Prop}(I:Inv X pins σ H s)(hN:X.N.Nodup)(hi:X.N[i]?=some x)(hx:Loc X.env.scope x)(r:RelV v u)
 (h:∀s',Inv X pins (σ.set i (some v)) H s'->Q () s') (hf:X.fn x=true∨X.env.scope.names.lookup x=some .local:=by first|exact .inl rfl|exact .inr rfl|assumption):wpAny M A (storeName X.env x u) Q E s :=
 DP I hN hi hx r (λs' I' _=>h s' I') hf
theorem Inv.qL{s':Shared}{ch:List Addr}(I:Inv X pins σ H s)(ho:s'.os=s.os)(u:Un (frs X.stack) ch H H' s.heap s'.heap)(hok:cw X.prog X.w H' s'.heap)(hg:AllBare s'.gens)
 (hch:∀b∈ch,(b∈X.ex∨X.s₀.heap.objs.size<=b)/\b≠X.env.locals/\(∀x c,X.env.cells.lookup x=some c->c≠b)/\∀p∈X.pn++pins,p.1≠b):Inv X pins σ H' s':=show _ by
 obtain⟨h',g',d',t',o'⟩:=s';have e:o'=s.os:=ho;subst e;exact I.call (g':=g') (t':=t') (d':=d') u hok hg hch
end
abbrev XK:=Value->Option Addr->Hp->Prop
abbrev St:=List (Option V)
abbrev VK:=V->Hp->Prop
abbrev TE:=St->Hp->VK->Prop
abbrev TT:=St->Hp->(Bool->Hp->Prop)->Prop
abbrev TA:=St->Hp->(List V->Hp->Prop)->Prop
structure Ends where
 nx:St->Hp->Prop
 rt:VK
 bk:St->Hp->Prop:=λ_ _=>False
 ct:St->Hp->Prop:=λ_ _=>False
abbrev TS:=Ends->St->Hp->Prop
inductive EP(X:Cx)(pins:List (Addr×Obj))(σ:St)(Q:VK)(u:Value)(s':Shared):Prop where
 |mk (v:V) (H':Hp) (I:Inv X pins σ H' s') (r:RelV v u) (q:Q v H')
def TP(X:Cx)(pins:List (Addr×Obj))(σ:St)(Q:Bool->Hp->Prop)(b:Bool)(s':Shared):Prop:=∃H',Inv X pins σ H' s'/\Q b H'
inductive AP(X:Cx)(pins:List (Addr×Obj))(σ:St)(Q:List V->Hp->Prop)(us:List Value)(s':Shared):Prop where
 |mk (vs:List V) (H':Hp) (I:Inv X pins σ H' s') (r:Vals vs us) (q:Q vs H')
def SP(X:Cx)(pins:List (Addr×Obj))(D:Ends)(f:Flow)(s':Shared):Prop :=
 match f with
 | .next=>∃σ' H',Inv X pins σ' H' s'/\D.nx σ' H'
 | .brk=>∃σ' H',Inv X pins σ' H' s'/\D.bk σ' H'
 | .cont=>∃σ' H',Inv X pins σ' H' s'/\D.ct σ' H'
 | .ret u=>∃v σ' H',Inv X pins σ' H' s'/\RelV v u/\D.rt v H'
def PE(X:Cx)(e:Expr)(t:TE):Prop :=
 ∀(pins:List (Addr×Obj)) (s:Shared) (σ:St) (H:Hp) (Q:VK),Inv X pins σ H s->t σ H Q->wpAny (model X.prog X.w) X.A (eval e X.env) (EP X pins σ Q) X.xe s
def PT(X:Cx)(e:Expr)(t:TT):Prop :=
 ∀(pins:List (Addr×Obj)) (s:Shared) (σ:St) (H:Hp) (Q:Bool->Hp->Prop),Inv X pins σ H s->t σ H Q->wpAny (model X.prog X.w) X.A (isTrue e X.env (eval e X.env)) (TP X pins σ Q) X.xe s
def PW(X:Cx)(e:Expr)(t:TT):Prop :=
 ∀(whole:Sem Value) (pins:List (Addr×Obj)) (s:Shared) (σ:St) (H:Hp) (Q:Bool->Hp->Prop),Inv X pins σ H s->t σ H Q->wpAny (model X.prog X.w) X.A (isTrue e X.env whole) (TP X pins σ Q) X.xe s
theorem PW.pt{X:Cx}{e:Expr}{t:TT}(h:PW X e t):PT X e t:=h _
def PA(X:Cx)(es:List Expr)(t:TA):Prop :=
 ∀(pos:Pos) (pins:List (Addr×Obj)) (s:Shared) (σ:St) (H:Hp) (Q:List V->Hp->Prop),Inv X pins σ H s->t σ H Q->wpAny (model X.prog X.w) X.A (spliced (backTo pos (starEach es X.env))) (AP X pins σ Q) X.xe s
def PS(X:Cx)(st:Stmt)(t:TS):Prop :=
 ∀(pins:List (Addr×Obj)) (s:Shared) (σ:St) (H:Hp) (D:Ends),Inv X pins σ H s->t D σ H->wpAny (model X.prog X.w) X.A (exec st X.env) (SP X pins D) X.xe s
def fe(X:Cx)(st:List Stmt)(t:TS):Prop :=
 ∀(pins:List (Addr×Obj)) (s:Shared) (σ:St) (H:Hp) (D:Ends),Inv X pins σ H s->t D σ H->wpAny (model X.prog X.w) X.A (execs st X.env) (SP X pins D) X.xe s
theorem aO{α:Type}{t:Sem α}{Q Q':α->Shared->Prop}{M:Model}{A:Around}{E:Value->Shared->Prop}{s:Shared}(h:wpAny M A t Q E s)(hQ:∀a s,Q a s->Q' a s):wpAny M A t Q' E s:=fJ h hQ λ_ _ x=>x
section
variable{X:Cx}
def DS(i:Nat):TE:=λσ H Q=>∃v,σ[i]?=some (some v)/\Q v H
def tC(v:V):TE:=λ_ H Q=>Q v H
theorem N1{i:Nat}{x:Str}{pos:Pos}(hN:X.N[i]?=some x)(hv:uh X.env.scope x)(hd:(x==("__debug__":Str))=false:=by decide)(hcd:(x==("__classdict__":Str))=false:=by decide):PE X (.Name x pos) (DS i):=show _ by
 intro pins s σ H Q I h;obtain⟨v,e,h⟩:=h;obtain⟨m,hn,hl⟩:=I.loc;obtain⟨u,r,l⟩:=hl i x v hN e hv;have fin:EP X pins σ Q u s:=⟨v,H,I,r,h⟩;rcases l with⟨hk,hm⟩|⟨hk,c,hc,hcell⟩
 ·exact Cr (L6 I.ok.kind hk hn hm fin) hd
 ·rcases hk with hk|hk
  ·exact Cr (L7 I.ok.kind hk hc hcell fin) hd
  ·exact Cr (wpAny_loadName_free I.ok.kind hk hc hcell fin hcd) hd
theorem N2{i j pos}:PE X (.Constant (.int i) j pos) (tC (.int i)):=λ_ _ _ H _ I h=>wpAny_Constant_int ⟨.int i,H,I.tok _,⟨_,rfl⟩,h⟩
theorem N3{b j pos}:PE X (.Constant (.bool b) j pos) (tC (.bl b)):=λ_ _ _ H _ I h=>Constant_bool ⟨.bl b,H,I,rfl,h⟩
theorem N4{j pos}:PE X (.Constant .none j pos) (tC .non):=λ_ _ _ H _ I h=>Constant_none ⟨.non,H,I,rfl,h⟩
theorem N5{x j pos}:PE X (.Constant (.str x) j pos) (tC (.str x)):=λ_ _ _ H _ I h=>Calls.Constant_str ⟨.str x,H,I.tok _,⟨_,rfl⟩,h⟩
def Gl(X:Cx)(x:Str):Prop:=X.env.kindOf x=some .globalImplicit
theorem um{E:Value->Shared->Prop}{pins:List (Addr×Obj)}{s:Shared}{σ:St}{H:Hp}{x:Str}{u:Value}{pos:Pos}{Q:Value->Shared->Prop}(I:Inv X pins σ H s)(hg:Gl X x)(hm:X.mg x=some u)(h:Q u s)
 (hd:(x==("__debug__":Str))=false:=by decide):wpAny (model X.prog X.w) X.A (eval (.Name x pos) X.env) Q E s :=
 L8 I.ok.kind hg (Calls.loadGlobal_global (by rw[I.ok.glob];exact I.mod.glob.keeps I.bk) hm h) hd
theorem jD{E:Value->Shared->Prop}{pins:List (Addr×Obj)}{s:Shared}{σ:St}{H:Hp}{x:Str}{u:Value}{pos:Pos}{Q:Value->Shared->Prop}(I:Inv X pins σ H s)(hg:Gl X x)(hm:X.mg x=none)(hv:bootBuiltins x=some u)(h:Q u s)
 (hn:x≠"__name__":=by decide) (hd:(x==("__debug__":Str))=false:=by decide):wpAny (model X.prog X.w) X.A (eval (.Name x pos) X.env) Q E s:=show _ by
 obtain⟨mb,h1,h2⟩:=I.mod.blt;exact L8 I.ok.kind hg (Calls.loadGlobal_builtin (by rw[I.ok.glob];exact I.mod.glob.keeps I.bk) hm (by rw[I.ok.blt];exact h1.keeps I.bk) ((h2 x hn).trans hv) h) hd
theorem N6{x:Str}{v:V}{u:Value}{pos:Pos}(hg:Gl X x)(hm:X.mg x=some u)(r:RelV v u)(hd:(x==("__debug__":Str))=false:=by decide):PE X (.Name x pos) (tC v) :=
 λ_ _ _ H _ I h=>um I hg hm ⟨v,H,I,r,h⟩ hd
theorem N7{x:Str}{v:V}{u:Value}{pos:Pos}(hg:Gl X x)(hm:X.mg x=none)(hv:bootBuiltins x=some u)(r:RelV v u)(hn:x≠"__name__":=by decide)(hd:(x==("__debug__":Str))=false:=by decide):PE X (.Name x pos) (tC v) :=
 λ_ _ _ H _ I h=>jD I hg hm hv ⟨v,H,I,r,h⟩ hn hd
variable{a b:Expr}{ta tb:TE}{pos:Pos}
def PC(X:Cx)(op:CmpOp)(a b:Expr)(t:TE):Prop :=
 ∀(pins:List (Addr×Obj)) (s:Shared) (σ:St) (H:Hp) (Q:VK),Inv X pins σ H s->t σ H Q ->
  wpAny (model X.prog X.w) X.A (eval a X.env) (λv s₁=>wpAny (model X.prog X.w) X.A (eval b X.env) (λu s₂=>wpAny (model X.prog X.w) X.A (compareOp op v u) (EP X pins σ Q) X.xe s₂) X.xe s₁) X.xe s
theorem DT(b:Expr){op:CmpOp}(h:op≠.In)(h2:op≠.NotIn):behindInMarks op b=false:=show _ by
 have e1:(op==CmpOp.In)=false:=by cases op<;>first|rfl|exact absurd rfl h
 have e2:(op==CmpOp.NotIn)=false:=by cases op<;>first|rfl|exact absurd rfl h2
 cases b<;>simp[behindInMarks,e1,e2]
def tB(t:TE):TT:=λσ H Q=>t σ H λx H1=>∃c,x=.bl c/\Q c H1
theorem N8{op:CmpOp}{t:TE}(h:PC X op a b t)(h1:behindInMarks op b=false:=by first|exact DT _ (by decide) (by decide)|rfl):PE X (.Compare a [op] [b] pos) t:=λpins s σ H Q I hw=>wpAny_Compare1 (h pins s σ H Q I hw) h1
theorem N9{op:CmpOp}{t:TE}(h:PC X op a b t)(h1:behindInMarks op b=false:=by first|exact DT _ (by decide) (by decide)|rfl):PT X (.Compare a [op] [b] pos) (tB t):=show _ by
 intro pins s σ H Q I hw;refine L9 (aO (h pins s σ H _ I hw) λv s1 h1=>aO h1 λu s2 h2=>aO h2 λc s3 ⟨x,H1,I1,r1,q1⟩=>?_) h1;obtain⟨d,rfl,q⟩:=q1;cases r1;exact j_ ⟨H1,I1,q⟩
theorem N_{e:Expr}{t:TE}(h:PE X e t)(he:∀whole,isTrue e X.env whole=(do let v <-whole;standAt e.pos;holding [v] (truthy v)):=by intro _;rfl):PT X e (tB t):=show _ by
 intro pins s σ H Q I hw;refine isTrue_plain (aO (h pins s σ H _ I hw) λv s1 ⟨x,H1,I1,r1,q1⟩=>?_) (he _);obtain⟨d,rfl,q⟩:=q1;cases r1;exact j_ ⟨H1,I1,q⟩
variable{tA uo:TT}{rest:List Expr}
def N'(t u:TT):TT:=λσ H Q=>t σ H λc H1=>if c=true then u σ H1 Q else Q false H1
def Oa(t u:TT):TT:=λσ H Q=>t σ H λc H1=>if c=true then Q true H1 else u σ H1 Q
def Ob(t:TT):TT:=λσ H Q=>t σ H λc H1=>Q (!c) H1
theorem Oc(ha:PT X a tA):PW X (.BoolOp .And [a] pos) tA:=show _ by
 intro wh pins s σ H Q I h;refine isTrue_and (aO (ha pins s σ H Q I h) λc s1 e=>?_);cases c with
 |true=>exact isTrue_and_nil e
 |false=>exact e
theorem Od(ha:PT X a tA):PW X (.BoolOp .Or [a] pos) tA:=show _ by
 intro wh pins s σ H Q I h;refine isTrue_or (aO (ha pins s σ H Q I h) λc s1 e=>?_);cases c with
 |false=>exact isTrue_or_nil e
 |true=>exact e
theorem Oe(ha:PT X a tA)(hb:PW X (.BoolOp .And (b::rest) pos) uo):PW X (.BoolOp .And (a::b::rest) pos) (N' tA uo):=show _ by
 intro wh pins s σ H Q I h;refine isTrue_and (aO (ha pins s σ H _ I h) λc s1 ⟨H1,I1,q1⟩=>?_);cases c with
 |true=>exact hb wh pins s1 σ H1 Q I1 q1
 |false=>exact⟨H1,I1,q1⟩
theorem Of(ha:PT X a tA)(hb:PW X (.BoolOp .Or (b::rest) pos) uo):PW X (.BoolOp .Or (a::b::rest) pos) (Oa tA uo):=show _ by
 intro wh pins s σ H Q I h;refine isTrue_or (aO (ha pins s σ H _ I h) λc s1 ⟨H1,I1,q1⟩=>?_);cases c with
 |true=>exact⟨H1,I1,q1⟩
 |false=>exact hb wh pins s1 σ H1 Q I1 q1
theorem Og(ha:PT X a tA):PT X (.UnaryOp .Not a pos) (Ob tA):=by
 intro pins s σ H Q I h;exact isTrue_not (ha pins s σ H (λc H1=>Q (!c) H1) I h)
def Oh(ta tb:TE):TE:=λσ H Q=>ta σ H λx H1=>∃c,x=.bl c/\if c=true then tb σ H1 Q else Q (.bl false) H1
def Oi(ta tb:TE):TE:=λσ H Q=>ta σ H λx H1=>∃c,x=.bl c/\if c=true then Q (.bl true) H1 else tb σ H1 Q
def Oj(ta:TE):TE:=λσ H Q=>ta σ H λx H1=>∃c,x=.bl c/\Q (.bl (!c)) H1
theorem Ol{op}{t:TE}(h:PE X a t):PE X (.BoolOp op [a] pos) t:=λpins s σ H Q I hw=>BoolOp_one (h pins s σ H Q I hw)
theorem Om(ha:PE X a ta)(hb:PE X (.BoolOp .And (b::rest) pos) tb):PE X (.BoolOp .And (a::b::rest) pos) (Oh ta tb):=show _ by
 intro pins s σ H Q I h;refine BoolOp_and (aO (ha pins s σ H _ I h) λv s1 ⟨x,H1,I1,r1,q1⟩=>?_);obtain⟨c,rfl,q1⟩:=q1;cases r1;refine j_ ?_;cases c with
 |true=>exact hb pins s1 σ H1 Q I1 q1
 |false=>exact⟨.bl false,H1,I1,rfl,q1⟩
theorem Oo(ha:PE X a ta)(hb:PE X (.BoolOp .Or (b::rest) pos) tb):PE X (.BoolOp .Or (a::b::rest) pos) (Oi ta tb):=show _ by
 intro pins s σ H Q I h;refine BoolOp_or (aO (ha pins s σ H _ I h) λv s1 ⟨x,H1,I1,r1,q1⟩=>?_);obtain⟨c,rfl,q1⟩:=q1;cases r1;refine j_ ?_;cases c with
 |false=>exact hb pins s1 σ H1 Q I1 q1
 |true=>exact⟨.bl true,H1,I1,rfl,q1⟩
theorem Oq(ha:PE X a ta):PE X (.UnaryOp .Not a pos) (Oj ta):=show _ by
 intro pins s σ H Q I h;refine UnaryOp_ (aO (ha pins s σ H _ I h) λv s1 ⟨x,H1,I1,r1,q1⟩=>?_);obtain⟨c,rfl,q1⟩:=q1;cases r1;exact not_of (j_ ⟨.bl (!c),H1,I1,rfl,q1⟩)
def Ot(t:TT)(ta tb:TE):TE:=λσ H Q=>t σ H λc H1=>if c=true then ta σ H1 Q else tb σ H1 Q
theorem Ou{c:Expr}(hc:PT X c tA)(ha:PE X a ta)(hb:PE X b tb):PE X (.IfExp c a b pos) (Ot tA ta tb):=show _ by
 intro pins s σ H Q I h;refine wpAny_IfExp (aO (hc pins s σ H _ I h) λd s1 ⟨H1,I1,q1⟩=>?_);cases d with
 |true=>exact ha pins s1 σ H1 Q I1 q1
 |false=>exact hb pins s1 σ H1 Q I1 q1
end
def bc(K:ax)(H:Hp)(a:Addr)(xs:List V):Prop :=
 Rd H a (.lst xs) ∨
  ∃(o:Obj) (its:Array Value) (n:Nat),K.lookup a=some o/\o.cls=.type "list"/\o.dict=none/\o.data=.seq its n/\its.size<=sizeLine/\Vals xs its.toList
def bz(K:ax)(H:Hp)(a:Addr)(xs:List V):Prop :=
 H a=some (.tup xs)
def Ov:Value->Option V
 | .none=>some .non
 | .bool b=>some (.bl b)
 | .int i _=>some (.int i)
 | .str x _=>some (.str x)
 | .bytes b _=>some (.gR b)
 | .float b _=>some (.flt b)
 | .ref a=>some (.ref a)
 | .type n=>some (.ty n)
 |_=>none
theorem RelV.abs{x:V}{u:Value}(r:RelV x u):Ov u=some x:=show _ by
 cases x with
 |non=>cases r;rfl
 |bl _=>cases r;rfl
 |int _=>obtain⟨t,rfl⟩:=r;rfl
 |str _=>obtain⟨t,rfl⟩:=r;rfl
 |gR _=>obtain⟨t,rfl⟩:=r;rfl
 |flt _=>obtain⟨t,rfl⟩:=r;rfl
 |ref _=>cases r;rfl
 |ty _=>cases r;rfl
theorem RelV.inj{x y:V}{u:Value}(r:RelV x u)(q:RelV y u):x=y:=dN (r.abs.symm.trans q.abs)
theorem Vals.inj:∀{xs ys:List V} {us:List Value},Vals xs us->Vals ys us->xs=ys
 |_,_,_,.nil,.nil=>rfl
 |_,_,_,.cons r t,.cons r' t'=>by rw[r.inj r',Vals.inj t t']
section
variable{X:Cx}{pins:List (Addr×Obj)}{σ:St}{H:Hp}{s:Shared}{a:Addr}{xs ys:List V}
theorem bc.of{K:ax}(h:H a=some (.lst xs)):bc K H a xs:=.inl (.inl h)
theorem bz.of{K:ax}(h:H a=some (.tup xs)):bz K H a xs:=h
theorem Inv.list(I:Inv X pins σ H s)(h:bc X.K H a xs):∃its:List Value,Vals xs its/\PlainL s.heap a its.toArray/\xs.length<=sizeLine:=show _ by
 rcases h with h|⟨o,its,n,hk,hc,hd,hs,hz,r⟩
 ·obtain⟨z,its,n,r,e⟩:=h.ok I.hok;exact⟨its,r,⟨_,n,e,rfl,rfl,rfl⟩,z⟩
 ·refine⟨its.toList,r,⟨o,n,I.eR a o hk,hc,hd,by simpa using hs⟩,?_⟩;have e:=r.length;simp only[Cs]at e;lia
theorem Inv.tuple(I:Inv X pins σ H s)(h:bz X.K H a xs):∃its:List Value,Vals xs its/\IsTup s.heap a its.toArray/\xs.length<=sizeLine:=show _ by
 obtain⟨z,its,r,p,_⟩:=(show cM X.prog X.w H s.heap a (.tup xs) from I.hok a _ h);exact⟨its,r,p,z⟩
theorem Inv.uq(I:Inv X pins σ H s)(h:bc X.K H a xs)(h':bc X.K H a ys):xs=ys:=show _ by
 obtain⟨its,r,⟨o,n,e,_,_,d⟩,_⟩:=I.list h;obtain⟨its',r',⟨o',n',e',_,_,d'⟩,_⟩:=I.list h';rw[e]at e';cases e';rw[d]at d';injection d' with d1 _;have:its=its':=by simpa using congrArg L_ d1
 subst this;exact r.inj r'
theorem Inv.qM(I:Inv X pins σ H s)(h:bz X.K H a xs)(h':bz X.K H a ys):xs=ys:=show _ by
 obtain⟨its,r,⟨o,e,_,n,d⟩,_⟩:=I.tuple h;obtain⟨its',r',⟨o',e',_,n',d'⟩,_⟩:=I.tuple h';rw[e]at e';cases e';rw[d]at d';injection d' with d1 _;have:its=its':=by simpa using congrArg L_ d1
 subst this;exact r.inj r'
end
abbrev Cx.jE(X:Cx)(E:Value->Shared->Prop):Cx:={X with xe:=E}
abbrev Cx.iA(X:Cx):Cx:=X.jE λ_ _=>False
theorem Cx.Ok.jE{X:Cx}(ok:X.Ok)(E:Value->Shared->Prop):(X.jE E).Ok :=
 ⟨ok.mod,ok.kind,ok.glob,ok.blt,ok.above,ok.inj,ok.has,ok.cab,ok.hd,ok.frames,ok.mO,ok.qJ,ok.bs,ok.iy,ok.lN,ok.lP,ok.fR,ok.jC⟩
theorem Cx.Ok.lR{X:Cx}{E:Value->Shared->Prop}(ok:(X.jE E).Ok):X.Ok :=
 ⟨ok.mod,ok.kind,ok.glob,ok.blt,ok.above,ok.inj,ok.has,ok.cab,ok.hd,ok.frames,ok.mO,ok.qJ,ok.bs,ok.iy,ok.lN,ok.lP,ok.fR,ok.jC⟩
section
variable{X:Cx}{pins:List (Addr×Obj)}{σ:St}{H:Hp}{s:Shared}{E:Value->Shared->Prop}
theorem Inv.jE(I:Inv X pins σ H s)(E:Value->Shared->Prop):Inv (X.jE E) pins σ H s:=⟨I.ok.jE E,I.os,I.bare,I.base,I.loc,I.cell,I.free,I.fS,I.pin,I.hok,I.len⟩
theorem Inv.lR(I:Inv (X.jE E) pins σ H s):Inv X pins σ H s:=⟨I.ok.lR,I.os,I.bare,I.base,I.loc,I.cell,I.free,I.fS,I.pin,I.hok,I.len⟩
theorem SP.lR{D:Ends}{f:Flow}{s':Shared}(h:SP (X.jE E) pins D f s'):SP X pins D f s':=show _ by
 cases f with
 |next=>obtain⟨σ',H',I,q⟩:=h;exact⟨σ',H',I.lR,q⟩
 |brk=>obtain⟨σ',H',I,q⟩:=h;exact⟨σ',H',I.lR,q⟩
 |cont=>obtain⟨σ',H',I,q⟩:=h;exact⟨σ',H',I.lR,q⟩
 |ret u=>obtain⟨v,σ',H',I,r,q⟩:=h;exact⟨v,σ',H',I.lR,r,q⟩
theorem fe.iA{st:List Stmt}{t:TS}(h:fe X.iA st t):fe X st t:=λpins s σ H D I hw =>
 fJ (h pins s σ H D (I.jE _) hw) (λ_ _ q=>q.lR) λ_ _ z=>gN z
end
section
variable{X:Cx}{st:Stmt}{rest:List Stmt}{t u:TS}{e:Expr}{te:TE}{pos:Pos}
def Ow:TS:=λD σ H=>D.nx σ H
def Ox(t u:TS):TS:=λD σ H=>t {D with nx:=u D} σ H
theorem Oy:fe X [] Ow:=λ_ _ σ H _ I h=>tU ⟨σ,H,I,h⟩
theorem Oz(h1:PS X st t)(h2:fe X rest u):fe X (st::rest) (Ox t u):=show _ by
 intro pins s σ H D I h;refine wpAny_execs_cons (aO (h1 pins s σ H {D with nx:=u D} I h) λf s1 q=>?_);cases f with
 |next =>
  obtain⟨σ',H',I',q⟩:=q;exact h2 pins s1 σ' H' D I' q
 |ret v=>exact q
 |brk=>exact q
 |cont=>exact q
theorem OA(h1:PS X st t):fe X [st] t:=show _ by
 intro pins s σ H D I h;refine wpAny_execs_cons (aO (h1 pins s σ H D I h) λf s1 q=>?_);cases f with
 |next=>exact tU q
 |ret v=>exact q
 |brk=>exact q
 |cont=>exact q
theorem Inv.quiet{pins:List (Addr×Obj)}{σ:St}{H:Hp}{s:Shared}(I:Inv X pins σ H s):interactive X.env=false:=by simp[interactive,I.ok.kind]
def OB(te:TE):TS:=λD σ H=>te σ H λ_ H1=>D.nx σ H1
theorem OC(he:PE X e te)(hs:swapsWith e none pos.line X.env=pure false:=by rfl):PS X (.Expr e pos) (OB te):=show _ by
 intro pins s σ H D I h;exact wpAny_Expr_any (aO (he pins s σ H _ I h) λv s1 iT=>by obtain⟨x,H1,I1,r1,q1⟩:=iT;exact⟨σ,H1,I1,q1⟩) I.quiet hs
def OD(te:TE):TS:=λD σ H=>te σ H D.rt
theorem OE(he:PE X e te):PS X (.Return (some e) pos) (OD te):=show _ by
 intro pins s σ H D I h;exact wpAny_Return_some (aO (he pins s σ H _ I h) λv s1 qN=>by obtain⟨x,H1,I1,r1,q1⟩:=qN;exact⟨x,σ,H1,I1,r1,q1⟩)
def OF:TS:=λD _ H=>D.rt .non H
theorem OG:PS X (.Return none pos) OF:=λ_ _ σ H _ I h=>wpAny_Return_none ⟨.non,σ,H,I,rfl,h⟩
def OH(c:TT)(t u:TS):TS:=λD σ H=>c σ H λb H1=>if b=true then t D σ H1 else u D σ H1
theorem OI{c:Expr}{a b:List Stmt}{tc:TT}(hc:PT X c tc)(ha:fe X a t)(hb:fe X b u):PS X (.If c a b pos) (OH tc t u):=show _ by
 intro pins s σ H D I h;refine wpAny_If (aO (hc pins s σ H _ I h) λd s1 ⟨H1,I1,q1⟩=>?_);cases d with
 |true=>exact ha pins s1 σ H1 D I1 q1
 |false=>exact hb pins s1 σ H1 D I1 q1
end
abbrev TG:=V->St->Hp->(St->Hp->Prop)->Prop
abbrev kx:=List V->St->Hp->(St->Hp->Prop)->Prop
def PG(X:Cx)(target:Expr)(t:TG):Prop :=
 ∀(pins:List (Addr×Obj)) (s:Shared) (σ:St) (H:Hp) (v:V) (u:Value) (Q:St->Hp->Prop),Inv X pins σ H s->RelV v u->t v σ H Q ->
  wpAny (model X.prog X.w) X.A (assign target X.env u) (λ_ s'=>∃σ' H',Inv X pins σ' H' s'/\Q σ' H') X.xe s
def jF(X:Cx)(ts:List Expr)(t:kx):Prop :=
 ∀(pins:List (Addr×Obj)) (s:Shared) (σ:St) (H:Hp) (vs:List V) (us:List Value) (Q:St->Hp->Prop),Inv X pins σ H s->Vals vs us->t vs σ H Q ->
  wpAny (model X.prog X.w) X.A (assignInOrder ((assignEach ts X.env).map (·.2)) us) (λ_ s'=>∃σ' H',Inv X pins σ' H' s'/\Q σ' H') X.xe s
abbrev yg:=V->V->V->Hp->(Hp->Prop)->Prop
def DU(X:Cx)(t:yg):Prop :=
 ∀(pins:List (Addr×Obj)) (s:Shared) (σ:St) (H:Hp) (o i v:V) (ov iv u:Value) (Q:Hp->Prop),Inv X pins σ H s->RelV o ov->RelV i iv->RelV v u->t o i v H Q ->
  wpAny (model X.prog X.w) X.A (setItem ov iv u) (λ_ s'=>∃H',Inv X pins σ H' s'/\Q H') X.xe s
abbrev ur:=V->V->Hp->VK->Prop
def yh(X:Cx)(op:Operator)(t:ur):Prop :=
 ∀(pins:List (Addr×Obj)) (s:Shared) (σ:St) (H:Hp) (x y:V) (v u:Value) (Q:VK),Inv X pins σ H s->RelV x v->RelV y u->t x y H Q ->
  wpAny (model X.prog X.w) X.A (inplaceOp op v u) (EP X pins σ Q) X.xe s
section
variable{X:Cx}{pos:Pos}
def uu(i:Nat):TG:=λv σ H Q=>Q (σ.set i (some v)) H
theorem OJ{i:Nat}{x:Str}(hN:X.N.Nodup)(hi:X.N[i]?=some x)(hx:Loc X.env.scope x)(hf:X.fn x=true∨X.env.scope.names.lookup x=some .local:=by first|exact .inl rfl|exact .inr rfl|assumption):PG X (.Name x pos) (uu i):=show _ by
 intro pins s σ H v u Q I r h;exact L' (yf I hN hi hx r (λs' I'=>⟨_,H,I',h⟩) hf)
def OK:kx:=λvs σ H Q=>vs=[]/\Q σ H
def OL(t:TG)(u:kx):kx:=λvs σ H Q=>∃v r,vs=v::r/\t v σ H λσ' H'=>u r σ' H' Q
theorem OM:jF X [] OK:=by
 intro pins s σ H vs us Q I r h;obtain⟨e,h⟩:=h;subst e;cases r;exact assignInOrder_nil ⟨σ,H,I,h⟩
theorem ON{e:Expr}{es:List Expr}{t:TG}{u:kx}(h1:PG X e t)(h2:jF X es u)
 (hs:(assignEach (e::es) X.env).map (·.2)=assign e X.env::(assignEach es X.env).map (·.2):=by rfl):jF X (e::es) (OL t u):=show _ by
 intro pins s σ H vs us Q I r h;obtain⟨v,vr,e1,h⟩:=h;subst e1;cases r with
 |cons r rr =>
  rw[hs];refine assignInOrder_cons (aO (h1 pins s σ H _ _ _ I r h) λ_ s1 ⟨fT,H1,I1,q1⟩=>?_);exact h2 pins s1 fT H1 _ _ Q I1 rr q1
def OO(K:ax)(n:Nat)(t:kx):TG:=λv σ H Q=>∃a xs,v=.ref a/\bz K H a xs/\xs.length=n/\t xs σ H Q
theorem OP{es:List Expr}{k:Nat}{t:kx}{n:Nat}(hc:X.calm=true)(h:jF X es t)
 (hn:(assignEach es X.env).length=n:=by rfl) (hst:(assignEach es X.env).findIdx? (·.1)=none:=by rfl):PG X (.Tuple es k pos) (OO X.K n t):=show _ by
 intro pins s σ H v u Q I r hw;obtain⟨a,xs,e1,hq,hl,hw⟩:=hw;subst e1;cases r;obtain⟨its,rv,ht,hz⟩:=I.tuple hq;refine assign_Tuple_tuple (I.ok.hd hc) ht (by simp[hn,<-hl,rv.length]) hst λh' hx=>?_;have I1:Inv X pins σ H {s with heap:=h'}:=I.kept (t':=s.toks) λb o e=>hx b o (dj (bq e)) e;exact h pins _ σ H xs _ Q I1 (by simpa using rv) hw
def OQ(to ti:TE)(t:yg):TG:=λv σ H Q=>to σ H λo H1=>ti σ H1 λi H2=>t o i v H2 λH3=>Q σ H3
theorem OS{o i:Expr}{to ti:TE}{t:yg}(ho:PE X o to)(hi:PE X i ti)(hs:DU X t)
 (ha:∀v,assign (.Subscript o i pos) X.env v=(do
  let ov <-holding [v] (eval o X.env)
  let iv <-holding [v,ov] (eval i X.env)
  standAt pos
  holding [v,ov,iv] (setItem ov iv v)
  release [v,ov,iv] []):=by intro _;rfl):PG X (.Subscript o i pos) (OQ to ti t):=show _ by
 intro pins s σ H v u Q I r h;rw[ha];refine ak (j' (aO (ho pins s σ H _ I h) λov s1 ⟨x,H1,I1,r1,q1⟩=>?_));refine ak (j' (aO (hi pins s1 σ H1 _ I1 q1) λiv s2 ⟨y,H2,I2,r2,q2⟩=>?_));refine ak (Ct (ak (j' (aO (hs pins s2 σ H2 x y v ov iv u _ I2 r1 r2 r q2) λ_ s3 ⟨H3,I3,q3⟩=>?_))));exact wpAny_release ⟨σ,H3,I3,q3⟩
def uv(te:TE)(g:TG):TS:=λD σ H=>te σ H λx H1=>g x σ H1 D.nx
theorem OT{tg e:Expr}{te:TE}{g:TG}(he:PE X e te)(hg:PG X tg g)(hs:swapsWithSole [tg] e pos.line X.env=pure false:=by rfl)(hw:swappedStores [tg] e X.env=pure none:=by rfl)
 (h1:(assignEach [tg] X.env).map (·.2)=[assign tg X.env]:=by rfl):PS X (.Assign [tg] e pos) (uv te g):=show _ by
 intro pins s σ H D I h;refine wpAny_Assign_stores (aO (he pins s σ H _ I h) λv s1 ⟨x,H1,I1,r1,q1⟩=>?_) hs hw;rw[h1];exact aO (hg pins s1 σ H1 x v _ I1 r1 q1) λ_ s2 q=>q
theorem OU{i:Nat}{x:Str}{e:Expr}{te:TE}{pos':Pos}(hN:X.N.Nodup)(hi:X.N[i]?=some x)(hx:Loc X.env.scope x)(he:PE X e te)(hs:swapsWith e (some (.Name x pos')) pos.line X.env=pure false:=by rfl)(hf:X.fn x=true∨X.env.scope.names.lookup x=some .local:=by first|exact .inl rfl|exact .inr rfl|assumption) :
 PS X (.Assign [.Name x pos'] e pos) (uv te (uu i)):=show _ by
 intro pins s σ H D I h;refine wpAny_Assign_Name (aO (he pins s σ H _ I h) λv s1 ⟨y,H1,I1,r1,q1⟩=>?_) hs;exact yf I1 hN hi hx r1 (λs2 I2=>⟨_,H1,I2,q1⟩) hf
def OV(i:Nat)(te:TE)(ti:ur):TS:=λD σ H=>∃x,σ[i]?=some (some x)/\te σ H λy H1=>ti x y H1 λz H2=>D.nx (σ.set i (some z)) H2
theorem OW{i:Nat}{x:Str}{e:Expr}{te:TE}{op:Operator}{ti:ur}{pos':Pos}(hN:X.N.Nodup)(hi:X.N[i]?=some x)(hx:Loc X.env.scope x)(he:PE X e te)(ho:yh X op ti)(hf:X.fn x=true∨X.env.scope.names.lookup x=some .local:=by first|exact .inl rfl|exact .inr rfl|assumption) :
 PS X (.AugAssign (.Name x pos') op e pos) (OV i te ti):=show _ by
 intro pins s σ H D I h;obtain⟨v,e1,h⟩:=h;obtain⟨m,hn,hl⟩:=I.loc;have OX:uh X.env.scope x:=by rcases hx with k|k;exact .inl k;exact .inr (.inl k)
 obtain⟨u,r,l⟩:=hl i x v hi e1 OX;refine wpAny_AugAssign_Name ?_;have go:wpAny (model X.prog X.w) X.A (eval e X.env) (λw s₂=>wpAny (model X.prog X.w) X.A (inplaceOp op u w) (λr s₃=>wpAny (model X.prog X.w) X.A (storeName X.env x r) (λ_=>SP X pins D .next) X.xe s₃) X.xe s₂) X.xe s:=by
  refine aO (he pins s σ H _ I h) λw s1 ⟨y,H1,I1,r1,q1⟩=>?_;refine aO (ho pins s1 σ H1 v y u w _ I1 r r1 q1) λz s2 ⟨zv,H2,I2,r2,q2⟩=>?_;exact yf I2 hN hi hx r2 (λs3 I3=>⟨_,H2,I3,q2⟩) hf
 rcases l with⟨hk,hm⟩|⟨hk,c,hc,hcell⟩
 ·exact L6 I.ok.kind hk hn hm go
 ·rcases hk with hk|hk
  ·exact L7 I.ok.kind hk hc hcell go
  ·rcases hx with k|k
   ·have:X.env.scope.names.lookup x=some .free:=hk;rw[k]at this;cases this
   ·have:X.env.scope.names.lookup x=some .free:=hk;rw[k]at this;cases this
def DV(f:Int->Int->Int):ur:=λx y H Q=>∃i j,x=.int i/\y=.int j/\Q (.int (f i j)) H
theorem OY:yh X .Add (DV λi j=>i+j):=show _ by
 intro pins s σ H x y v u Q I r1 r2 h;obtain⟨i,j,e1,e2,q⟩:=h;subst e1;subst e2;obtain⟨t,rfl⟩:=r1;obtain⟨t',rfl⟩:=r2;exact iadd_int ⟨.int _,H,I.tok _,⟨_,rfl⟩,q⟩
end
section
variable{X:Cx}{pos:Pos}
def OZ(c:TT)(tb:TS):TS:=λD σ H=>∃W:Nat->St->Hp->Prop,(∃m,W m σ H)/\∀m σ H,W m σ H ->
 c σ H λb H1=>if b=true then ∃N:St->Hp->Prop,(∀σ' H',N σ' H'->∃m',m'<m/\W m' σ' H')/\tb {D with nx:=N,ct:=N,bk:=D.nx} σ H1 else D.nx σ H1
theorem O0{c:Expr}{body:List Stmt}{tc:TT}{tb:TS}(hp:PassesOwn (model X.prog X.w) X.A X.env X.xe)(hc:PT X c tc)(hb:fe X body tb):PS X (.While c body [] pos) (OZ tc tb):=show _ by
 intro pins s σ H D I h;obtain⟨W,⟨m0,w0⟩,turn⟩:=h;refine wpAny_While (codeAny_whileLoop (λn s'=>∃σ' H',Inv X pins σ' H' s'/\W n σ' H') ?_ m0 ⟨σ,H,I,w0⟩);rintro n s1 ⟨fT,H1,I1,w1⟩;refine nY hp (aO (hc pins s1 fT H1 _ I1 (turn n fT H1 w1)) λb s2 ⟨H2,I2,q2⟩=>?_);cases b with
 |true =>
  obtain⟨N,hN,q2⟩:=q2;rw[if_pos rfl];refine nY hp (aO (hb pins s2 fT H2 _ I2 q2) λf s3 q3=>?_);cases f with
  |next =>
   obtain⟨iU,H3,I3,n3⟩:=q3;obtain⟨m',hm,w3⟩:=hN iU H3 n3;exact⟨m',hm,iU,H3,I3,w3⟩
  |cont =>
   obtain⟨iU,H3,I3,n3⟩:=q3;obtain⟨m',hm,w3⟩:=hN iU H3 n3;exact⟨m',hm,iU,H3,I3,w3⟩
  |brk=>exact q3
  |ret v=>exact q3
 |false =>
  rw[if_neg cT];exact tU ⟨fT,H2,I2,q2⟩
end
structure It where
 go:Nat->Hp->Prop
 lU:Nat->Hp->V->Hp->Prop
 stop:Nat->Hp->Prop
def d8(X:Cx)(pins:List (Addr×Obj))(H:Hp)(b:Addr):Prop :=
 H b=none/\b≠X.env.locals/\b∉X.fs/\(b∈X.ex∨X.s₀.heap.objs.size<=b)/\(∀x c,X.env.cells.lookup x=some c->c≠b)/\∀p∈X.pn++pins,p.1≠b
theorem Inv.lV{X:Cx}{pins:List (Addr×Obj)}{σ:St}{H H':Hp}{s:Shared}{b:Addr}(I:Inv X pins σ H s)(hb:s.heap.objs.size<=b)(hn:H' b=none):d8 X pins H' b:=show _ by
 refine⟨hn,kb (dO I.lt hb),I.NY hb,.inr (b5 I.sz hb),λx c e z=>?_,λp hp z=>?_⟩
 ·obtain⟨v,q⟩:=I.cell x c e;exact absurd (dO q.lt (by rw[z];exact hb)) (ju _)
 ·exact absurd (dO (bq (I.pin p hp).1) (by rw[z];exact hb)) (ju _)
structure Turn(P:Program)(w:World)(K:ax)(tg:Expr)(J:It)(fp:List Addr)(it:Addr)(tn:Nat->Heap->Prop):Prop where
 mem:it∈fp
 obj:∀i h,tn i h->∀b∈fp,∃o,h.get? b=some o/\∀v,o.data≠.cell v
 keep:∀i h h',tn i h->(∀b∈fp,∀o,h.get? b=some o->h'.get? b=some o)->tn i h'
 item:∀(X:Cx),X.prog=P->X.w=w->X.K=K->X.calm=true->∀(i:Nat) (pins:List (Addr×Obj)) (s:Shared) (σ:St) (H:Hp) (E:Value->Shared->Prop),Inv X pins σ H s->(∀b∈fp,d8 X pins H b)->tn i s.heap->J.go i H ->
  wpAny (model P w) X.A (pyNext (.ref it)) (λr s1=>∃u,r=some u /\
   wpAny (model P w) X.A (letOwnedTupleGo tg (.ref it) u) (λ_ s2=>∃x H',Inv X pins σ H' s2/\RelV x u/\J.lU i H x H'/\tn (i+1) s2.heap/\∀b∈fp,H' b=none) E s1) E s
 done:∀(X:Cx),X.prog=P->X.w=w->X.K=K->X.calm=true->∀(i:Nat) (pins:List (Addr×Obj)) (s:Shared) (σ:St) (H:Hp) (E:Value->Shared->Prop),Inv X pins σ H s->(∀b∈fp,d8 X pins H b)->tn i s.heap->J.stop i H ->
  wpAny (model P w) X.A (pyNext (.ref it)) (λr s1=>r=none/\Inv X pins σ H s1) E s
 self:∀(A:Around) (i:Nat) (s:Shared) (Q:Value->Shared->Prop) (E:Value->Shared->Prop),tn i s.heap->Q (.ref it) s->wpAny (model P w) A (pyIter (.ref it)) Q E s
abbrev TI:=St->Hp->(It->Hp->Prop)->Prop
def yi(X:Cx)(pins:List (Addr×Obj))(σ:St)(tg:Expr)(R:It->Hp->Prop)(itv:Value)(s2:Shared):Prop :=
 ∃(it:Addr) (fp:List Addr) (tn:Nat->Heap->Prop) (J:It) (H':Hp),itv=.ref it/\Inv X pins σ H' s2/\Turn X.prog X.w X.K tg J fp it tn/\tn 0 s2.heap/\(∀b∈fp,d8 X pins H' b)/\R J H'
def PI(X:Cx)(tg iter:Expr)(wi:TI):Prop :=
 ∀(pins:List (Addr×Obj)) (s:Shared) (σ:St) (H:Hp) (R:It->Hp->Prop),Inv X pins σ H s->wi σ H R ->
  wpAny (model X.prog X.w) X.A (eval iter X.env) (λv s1=>wpAny (model X.prog X.w) X.A (pyIter v) (yi X pins σ tg R) X.xe s1) X.xe s
theorem uw {M:Model} {A:Around} {E:Value→Shared→Prop} {s:Shared} {tg:Expr} {it:Addr} {u:Value} {o:Obj} {n:String} {vs:Array Value} {Q:Unit→Shared→Prop} (ho:s.heap.get? it=some o) (hc:o.cls=.type n) (hd:o.data=.fields vs)
    (hn:["enumerate","zip","dict_itemiterator","dict_reverseitemiterator","odict_iterator","itertools.zip_longest","itertools.pairwise"].contains n=false) (hQ:Q () s):wpAny M A (letOwnedTupleGo tg (.ref it) u) Q E s:=show _ by
  unfold letOwnedTupleGo
  cases tg<;>first
    | exact aF hQ
    | (cases u<;>first
        | exact aF hQ
        | (refine ak (wpAny_load ho ?_)
           rw [hc,hd]
           show wpAny M A (if (["enumerate","zip","dict_itemiterator","dict_reverseitemiterator","odict_iterator","itertools.zip_longest","itertools.pairwise"].contains n&&vs[0]?==some (rawInt _))=true then _ else _) Q E s
           rw [if_neg (by intro h;rw [hn,Bool.false_and] at h;cases h)]
           exact aF hQ))
def DW(K:ax)(a:Addr):It :=
 ⟨λi H=>∃xs x,bc K H a xs/\xs[i]?=some x,λi H x H'=>H'=H/\∀xs,bc K H a xs->xs[i]?=some x,λi H=>∃xs,bc K H a xs/\xs.length<=i⟩
def DX(K:ax)(a:Addr):It :=
 ⟨λi H=>∃xs x,bz K H a xs/\xs[i]?=some x,λi H x H'=>H'=H/\∀xs,bz K H a xs->xs[i]?=some x,λi H=>∃xs,bz K H a xs/\xs.length<=i⟩
def qO(lo:Int)(n:Nat):It:=⟨λi _=>i<n,λi H x H'=>H'=H/\x=.int (lo+i),λi _=>n<=i⟩
theorem O1{P:Program}{w:World}{K:ax}{tg:Expr}(a it:Addr):Turn P w K tg (DW K a) [it] it (λi h=>h.IsListIter it a i) where
 mem:=show _ by simp
 obj:=λi h st b hb=>by
  have e:b=it:=by simpa using hb
  subst e;obtain⟨o,e,c,d⟩:=st;exact⟨o,e,λv z=>by rw[d]at z;cases z⟩
 keep:=λi h h' st k=>st.at λo e=>k it (by simp) o e
 item:=by
  intro X hP hw hK hc i pins s σ H E I hf st hg;subst hP hw hK;obtain⟨xs,x,hq,hx⟩:=hg;obtain⟨its,rv,p,hz⟩:=I.list hq;obtain⟨u,hu,ru⟩:=rv.get hx;obtain⟨f0,f1,f2,f3,f4,f5⟩:=hf it (by simp);refine Ma st p.isList (x:=u) (by simpa using hu) λh' st' sb=>?_;have I1:Inv X pins σ H {s with heap:=h'}:=I.turned (t':=s.toks) (λb o hb e=>(sb.2 b hb).trans e) f0 f1 f3 f4 f5;obtain⟨o,e,c,d⟩:=id st';exact⟨u,rfl,uw (s:={s with heap:=h'}) e c d (by decide) ⟨x,H,I1,ru,⟨rfl,λys hy=>by rw[I.uq hy hq];exact hx⟩,st',λb hb=>(hf b hb).1⟩⟩
 done:=by
  intro X hP hw hK hc i pins s σ H E I hf st hg;subst hP hw hK;obtain⟨xs,hq,hx⟩:=hg;obtain⟨its,rv,p,hz⟩:=I.list hq;obtain⟨f0,f1,f2,f3,f4,f5⟩:=hf it (by simp);have hl:=rv.length;exact Mb (I.ok.hd hc) st p.isList (by simp;lia) λh' eb=>⟨rfl,I.turned (t':=s.toks) (λb o hb e=>eb b o hb e) f0 f1 f3 f4 f5⟩
 self:=λ_ _ _ _ _ st h=>wpAny_pyIter_listiter st h
theorem O2{P:Program}{w:World}{K:ax}{tg:Expr}(a it:Addr):Turn P w K tg (DX K a) [it] it (λi h=>h.IsTupleIter it a i) where
 mem:=show _ by simp
 obj:=λi h st b hb=>by
  have e:b=it:=by simpa using hb
  subst e;obtain⟨o,e,c,d⟩:=st;exact⟨o,e,λv z=>by rw[d]at z;cases z⟩
 keep:=λi h h' st k=>st.at λo e=>k it (by simp) o e
 item:=by
  intro X hP hw hK hc i pins s σ H E I hf st hg;subst hP hw hK;obtain⟨xs,x,hq,hx⟩:=hg;obtain⟨its,rv,p,hz⟩:=I.tuple hq;obtain⟨u,hu,ru⟩:=rv.get hx;obtain⟨f0,f1,f2,f3,f4,f5⟩:=hf it (by simp);refine wpAny_pyNext_tuple_item st (show s.heap.IsTuple a its.toArray from p) (x:=u) (by simpa using hu) λh' st' sb=>?_;have I1:Inv X pins σ H {s with heap:=h'}:=I.turned (t':=s.toks) (λb o hb e=>(sb.2 b hb).trans e) f0 f1 f3 f4 f5;obtain⟨o,e,c,d⟩:=id st';exact⟨u,rfl,uw (s:={s with heap:=h'}) e c d (by decide) ⟨x,H,I1,ru,⟨rfl,λys hy=>by rw[I.qM hy hq];exact hx⟩,st',λb hb=>(hf b hb).1⟩⟩
 done:=by
  intro X hP hw hK hc i pins s σ H E I hf st hg;subst hP hw hK;obtain⟨xs,hq,hx⟩:=hg;obtain⟨its,rv,p,hz⟩:=I.tuple hq;obtain⟨f0,f1,f2,f3,f4,f5⟩:=hf it (by simp);have hl:=rv.length;exact wpAny_pyNext_tuple_end (I.ok.hd hc) st (show s.heap.IsTuple a its.toArray from p) (by simp;lia) λh' eb=>⟨rfl,I.turned (t':=s.toks) (λb o hb e=>eb b o hb e) f0 f1 f3 f4 f5⟩
 self:=λ_ _ _ _ _ st h=>wpAny_pyIter_tupleiter st h
theorem O3{P:Program}{w:World}{K:ax}{tg:Expr}(it:Addr)(lo:Int)(n:Nat):Turn P w K tg (qO lo n) [it] it (λi h=>IsRangeIter h it (lo+(i:Nat)*1) ((n:Int)-(i:Nat)) 1) where
 mem:=show _ by simp
 obj:=λi h st b hb=>by
  have e:b=it:=by simpa using hb
  subst e;exact⟨_,st,λv z=>by
   have z':Data.fields _=Data.cell v:=z;cases z'⟩
 keep:=λi h h' st k=>k it (by simp) _ st
 item:=by
  intro X hP hw hK hc i pins s σ H E I hf st hg;subst hP hw hK;obtain⟨f0,f1,f2,f3,f4,f5⟩:=hf it (by simp);have W:=Walks.range (prog:=X.prog) (w:=X.w) (I.ok.hd hc) it lo 1 n;refine W.item i s _ _ hg st λv h' tk hv st' kk=>?_;obtain⟨t,rfl⟩:=hv;have I1:Inv X pins σ H {s with heap:=h',toks:=tk}:=I.turned (λb o hb e=>kk b o (by simpa using hb) e) f0 f1 f3 f4 f5;refine⟨_,rfl,uw (s:={s with heap:=h',toks:=tk}) (n:="range_iterator") st' rfl rfl (by decide) ⟨.int (lo+i),H,I1,⟨t,?_⟩,⟨rfl,rfl⟩,st',λb hb=>(hf b hb).1⟩⟩;rw[Int.mul_one]
 done:=by
  intro X hP hw hK hc i pins s σ H E I hf st hg;subst hP hw hK;obtain⟨f0,f1,f2,f3,f4,f5⟩:=hf it (by simp);exact wpAny_pyNext_range_end (I.ok.hd hc) st (by have:n<=i:=hg;lia) λh' eb=>⟨rfl,I.turned (t':=s.toks) (λb o hb e=>eb b o hb e) f0 f1 f3 f4 f5⟩
 self:=λ_ _ _ _ _ st h=>wpAny_pyIter_rangeiter st h
section
variable{X:Cx}{tg:Expr}
def O4(K:ax)(tl:TE):TI:=λσ H R=>tl σ H λx H1=>∃a,x=.ref a/\(∃xs,bc K H1 a xs)/\R (DW K a) H1
def O5(K:ax)(tl:TE):TI:=λσ H R=>tl σ H λx H1=>∃a,x=.ref a/\(∃xs,bz K H1 a xs)/\R (DX K a) H1
theorem O6{l:Expr}{tl:TE}(hl:PE X l tl):PI X tg l (O4 X.K tl):=show _ by
 intro pins s σ H R I h;refine aO (hl pins s σ H _ I h) λv s1 ⟨x,H1,I1,r1,q1⟩=>?_;obtain⟨a,e,⟨xs,hq⟩,q⟩:=q1;subst e;cases r1;obtain⟨its,rv,p,hz⟩:=I1.list hq;refine xc p.isList ?_;refine⟨s1.heap.objs.size,[s1.heap.objs.size],_,_,H1,rfl,I1.kept (t':=s1.toks) λb o e=>bC _ e,O1 a _,⟨_,du _ rfl,rfl,rfl⟩,λb hb=>?_,q⟩;have e:b=s1.heap.objs.size:=by simpa using hb
 subst e;exact I1.lV (a8 _) (I1.hok.fresh (a8 _))
theorem O7{l:Expr}{tl:TE}(hl:PE X l tl):PI X tg l (O5 X.K tl):=show _ by
 intro pins s σ H R I h;refine aO (hl pins s σ H _ I h) λv s1 ⟨x,H1,I1,r1,q1⟩=>?_;obtain⟨a,e,⟨xs,hq⟩,q⟩:=q1;subst e;cases r1;obtain⟨its,rv,p,hz⟩:=I1.tuple hq;refine qq (show s1.heap.IsTuple a its.toArray from p) ?_;refine⟨s1.heap.objs.size,[s1.heap.objs.size],_,_,H1,rfl,I1.kept (t':=s1.toks) λb o e=>bC _ e,O2 a _,⟨_,du _ rfl,rfl,rfl⟩,λb hb=>?_,q⟩;have e:b=s1.heap.objs.size:=by simpa using hb
 subst e;exact I1.lV (a8 _) (I1.hok.fresh (a8 _))
theorem DY{pins:List (Addr×Obj)}{σ:St}{H:Hp}{s:Shared}{R:It->Hp->Prop}{E:Value->Shared->Prop}{lo hi:Int}{t u v:Tok}{tk:Nat}(I:Inv X pins σ H s)(h1:-(2^62)<=lo)(h2:lo<2^62)(h3:-(2^62)<=hi)(h4:hi<2^62)
 (q:R (qO lo (hi-lo).toNat) H):wpAny (model X.prog X.w) X.A (pyIter (.ref s.heap.objs.size)) (yi X pins σ tg R) E {s with heap:=s.heap.push {cls:=.type "range",data:=.fields #[.int lo t,.int hi u,.int 1 v]},toks:=tk}:=show _ by
 refine wpAny_pyIter_range (IsRange.new ..) (small_one h1 h2 h3 h4) ?_;have I1:Inv X pins σ H {s with heap:=s.heap.push {cls:=.type "range",data:=.fields #[.int lo t,.int hi u,.int 1 v]},toks:=tk}:=I.kept λb o e=>bC _ e;refine⟨(s.heap.push {cls:=.type "range",data:=.fields #[.int lo t,.int hi u,.int 1 v]}).objs.size,[(s.heap.push {cls:=.type "range",data:=.fields #[.int lo t,.int hi u,.int 1 v]}).objs.size],_,_,H,rfl,
  I1.kept (t':=tk) λb o e=>bC _ e,O3 _ lo (hi-lo).toNat,?_,λb hb=>?_,q⟩
 ·have e1:lo+((0:Nat):Int)*1=lo:=by simp
  have e2:(((hi-lo).toNat:Nat):Int)-((0:Nat):Int)=agl lo hi 1:=by rw[rangeSize_one];split<;>lia
  show IsRangeIter _ _ (lo+((0:Nat):Int)*1) ((((hi-lo).toNat:Nat):Int)-((0:Nat):Int)) 1;rw[e1,e2];exact du _ rfl
 ·have e:b=(s.heap.push {cls:=.type "range",data:=.fields #[.int lo t,.int hi u,.int 1 v]}).objs.size:=by simpa using hb
  subst e;exact I1.lV (a8 _) (I1.hok.fresh (a8 _))
def O8(ta:TA):TI:=λσ H R=>ta σ H λvs H1=>∃j:Int,vs=[.int j]/\-(2^62)<=j/\j<2^62/\R (qO 0 j.toNat) H1
def O9(ta:TA):TI:=λσ H R=>ta σ H λvs H1=>∃i j:Int,vs=[.int i,.int j]/\(-(2^62)<=i/\i<2^62/\-(2^62)<=j/\j<2^62)/\R (qO i (j-i).toNat) H1
theorem O_{a:Expr}{ta:TA}{p pos:Pos}(hg:Gl X "range")(hm:X.mg "range"=none)(ha:PA X [a] ta)(hs:starEach [a] X.env=[(false,eval a X.env)]:=by rfl):PI X tg (.Call (.Name "range" p) [a] [] pos) (O8 ta):=show _ by
 intro pins s σ H R I h;refine Call_ (jD I hg hm boot_range (mE (aO (ha pos pins s σ H _ I h) λus s1 ⟨vs,H1,I1,r1,q1⟩=>?_) hs rfl));obtain⟨j,e,q1,q2,q⟩:=q1;subst e;cases r1 with
 |cons r rr =>
  cases rr;obtain⟨t,rfl⟩:=r;exact call_range_1 (DY I1 (by lia) (by lia) q1 q2 (by simpa using q))
theorem O'{a b:Expr}{ta:TA}{p pos:Pos}(hg:Gl X "range")(hm:X.mg "range"=none)(ha:PA X [a,b] ta)(hs:starEach [a,b] X.env=[(false,eval a X.env),(false,eval b X.env)]:=by rfl)(hs2:starEach [b] X.env=[(false,eval b X.env)]:=by rfl) :
 PI X tg (.Call (.Name "range" p) [a,b] [] pos) (O9 ta):=show _ by
 intro pins s σ H R I h;refine Call_ (jD I hg hm boot_range (mE (aO (ha pos pins s σ H _ I h) λus s1 ⟨vs,H1,I1,r1,q1⟩=>?_) (by rw[hs,hs2]) (by rw[hs2];rfl)));obtain⟨i,j,e,⟨q1,q2,q3,q4⟩,q⟩:=q1;subst e;cases r1 with
 |cons r rr =>
  cases rr with
  |cons r' rr =>
   cases rr;obtain⟨t,rfl⟩:=r;obtain⟨t',rfl⟩:=r';exact call_range_2 (DY I1 q1 q2 q3 q4 q)
def Pa(wi:TI)(g:TG)(tb:TS):TS:=λD σ H=>wi σ H λJ H1=>∃W:Nat->Nat->St->Hp->Prop,(∃m,W 0 m σ H1)/\∀i m σ H,W i m σ H ->
 (J.stop i H/\D.nx σ H)∨(J.go i H/\∃N:St->Hp->Prop,(∀σ' H',N σ' H'->∃m',m'<m/\W (i+1) m' σ' H')/\∀x H',J.lU i H x H'->g x σ H' λjG H2=>tb {D with nx:=N,ct:=N,bk:=D.nx} jG H2)
def qP(fp:List Addr)(h:Heap):List (Addr×Obj):=fp.filterMap λb=>(h.get? b).map λo=>(b,o)
theorem ux{fp:List Addr}{h:Heap}{b:Addr}{o:Obj}(hb:b∈fp)(e:h.get? b=some o):(b,o)∈qP fp h:=qr.mpr ⟨b,hb,by rw[e];rfl⟩
theorem Pb{fp:List Addr}{h:Heap}{p:Addr×Obj}(hp:p∈qP fp h):p.1∈fp/\h.get? p.1=some p.2:=show _ by
 obtain⟨b,hb,e⟩:=qr.mp hp;cases q:h.get? b with
 |none=>rw[q]at e;cases e
 |some o =>
  rw[q]at e;have e':(b,o)=p:=dN e;subst e';exact⟨hb,q⟩
theorem Inv.pinned{pins:List (Addr×Obj)}{σ:St}{H:Hp}{s:Shared}{fp:List Addr}(I:Inv X pins σ H s)(hf:∀b∈fp,d8 X pins H b)(ho:∀b∈fp,∃o,s.heap.get? b=some o/\∀v,o.data≠.cell v):Inv X (pins++qP fp s.heap) σ H s :=
 I.DN λp hp=>(bF.mp hp).elim (λz=>I.pin p (gg _ z)) λz=>by
  obtain⟨hb,e⟩:=Pb z;obtain⟨f0,f1,f2,_⟩:=hf p.1 hb;obtain⟨o,e',d⟩:=ho p.1 hb;rw[e]at e';cases e';exact⟨e,f0,f1,f2,d⟩
theorem Inv.uy{pins pl:List (Addr×Obj)}{σ:St}{H:Hp}{s:Shared}(I:Inv X (pins++pl) σ H s):Inv X pins σ H s:=I.DN λp hp=>I.pin p (gg _ (lu _ hp))
theorem Pc{iter:Expr}{body:List Stmt}{wi:TI}{g:TG}{tb:TS}{pos:Pos}(hp:PassesOwn (model X.prog X.w) X.A X.env X.xe)(hc:X.calm=true)(hi:PI X tg iter wi)(hg:PG X tg g)(hb:fe X body tb)
 (hs:∀x,foldedSetIterable iter X.env x=pure x:=by intro _;rfl):PS X (.For tg iter body [] pos) (Pa wi g tb):=show _ by
 intro pins s σ H D I h;refine wpAny_For (aO (hi pins s σ H _ I h) λv s1 h1=>aO h1 λitv s2 h2=>?_) hs;obtain⟨it,fp,tn,J,H2,e,I2,T,st2,f2,W,⟨m0,w0⟩,turn⟩:=h2;subst e;have mQ:∀{H':Hp},(∀b∈fp,H' b=none)->∀b∈fp,d8 X pins H' b:=λhn b hb=>⟨hn b hb,(f2 b hb).2⟩;refine codeAny_forLoop_any (λn s'=>∃i σ' H',Inv X pins σ' H' s'/\tn i s'.heap/\(∀b∈fp,H' b=none)/\W i n σ' H') ?_ m0 ⟨0,σ,H2,I2,st2,λb hb=>(f2 b hb).1,w0⟩;rintro n s3 ⟨i,iU,H3,I3,st3,iV,w3⟩;rcases turn i n iU H3 w3 with⟨stop,qn⟩|⟨go,N,hN,step⟩
 ·refine nY hp (aO (T.done X rfl rfl rfl hc i pins s3 iU H3 X.xe I3 (mQ iV) st3 stop) λr s4 ⟨hr,I4⟩=>?_);subst hr;exact tU ⟨iU,H3,I4,qn⟩
 ·refine nY hp (aO (T.item X rfl rfl rfl hc i pins s3 iU H3 X.xe I3 (mQ iV) st3 go) λr s4 ⟨u,hr,h4⟩=>?_);subst hr;refine nY hp (aO h4 λ_ s5 ⟨x,H5,I5,r5,y5,oj,uz⟩=>?_);have Pd:=I5.pinned (mQ uz) (T.obj _ _ oj);refine nY hp (aO (hg _ s5 iU H5 x u _ Pd r5 (step x H5 y5)) λ_ s6 ⟨Pe,H6,I6,q6⟩=>?_);refine nY hp (aO (hb _ s6 Pe H6 _ I6 q6) λf s7 q7=>?_);have again:∀{iW:St} {H7:Hp},Inv X (pins++qP fp s5.heap) iW H7 s7->N iW H7->∃m,m<n/\∃i σ' H',Inv X pins σ' H' s7/\tn i s7.heap/\(∀b∈fp,H' b=none)/\W i m σ' H':=λ{iW H7} I7 n7=>by
   obtain⟨m',hm,w7⟩:=hN iW H7 n7;refine⟨m',hm,i+1,iW,H7,I7.uy,T.keep _ _ _ oj λb hb o e=>(I7.pin (b,o) (gg _ (gg _ (ux hb e)))).1,λb hb=>?_,w7⟩;obtain⟨o,e,d⟩:=T.obj _ _ oj b hb;exact(I7.pin (b,o) (gg _ (gg _ (ux hb e)))).2.1
  cases f with
  |next=>obtain⟨iW,H7,I7,n7⟩:=q7;exact again I7 n7
  |cont=>obtain⟨iW,H7,I7,n7⟩:=q7;exact again I7 n7
  |brk=>obtain⟨iW,H7,I7,q7⟩:=q7;exact⟨iW,H7,I7.uy,q7⟩
  |ret v=>obtain⟨x7,iW,H7,I7,r7,q7⟩:=q7;exact⟨x7,iW,H7,I7.uy,r7,q7⟩
end
abbrev R2:=V->V->Hp->VK->Prop
def cj(X:Cx)(f:Value->Value->Sem Value)(r:R2):Prop :=
 ∀(pins:List (Addr×Obj)) (s:Shared) (σ:St) (H:Hp) (x y:V) (v u:Value) (Q:VK),Inv X pins σ H s->RelV x v->RelV y u->r x y H Q ->
  wpAny (model X.prog X.w) X.A (f v u) (EP X pins σ Q) X.xe s
def yj(X:Cx)(f:Value->Sem Value)(r:V->Hp->VK->Prop):Prop :=
 ∀(pins:List (Addr×Obj)) (s:Shared) (σ:St) (H:Hp) (x:V) (v:Value) (Q:VK),Inv X pins σ H s->RelV x v->r x H Q ->
  wpAny (model X.prog X.w) X.A (f v) (EP X pins σ Q) X.xe s
def fg(X:Cx)(f:Value)(r:List V->Hp->VK->Prop):Prop :=
 ∀(pins:List (Addr×Obj)) (s:Shared) (σ:St) (H:Hp) (xs:List V) (us:List Value) (Q:VK),Inv X pins σ H s->Vals xs us->r xs H Q ->
  wpAny (model X.prog X.w) X.A (call f us) (EP X pins σ Q) X.xe s
def Pf(X:Cx)(r:V->Hp->(Bool->Hp->Prop)->Prop):Prop :=
 ∀(pins:List (Addr×Obj)) (s:Shared) (σ:St) (H:Hp) (x:V) (v:Value) (Q:Bool->Hp->Prop),Inv X pins σ H s->RelV x v->r x H Q ->
  wpAny (model X.prog X.w) X.A (truthy v) (TP X pins σ Q) X.xe s
def qQ(r:R2)(ta tb:TE):TE:=λσ H Q=>ta σ H λx H1=>tb σ H1 λy H2=>r x y H2 Q
def Ph(r:V->Hp->VK->Prop)(ta:TE):TE:=λσ H Q=>ta σ H λx H1=>r x H1 Q
def rI(C:Int->Int->Prop)(g:Int->Int->V):R2:=λx y H Q=>∃i j,x=.int i/\y=.int j/\C i j/\Q (g i j) H
def jH(g:Int->Int->V):R2:=λx y H Q=>∃i j,x=.int i/\y=.int j/\Q (g i j) H
def rU(g:Int->V):V->Hp->VK->Prop:=λx H Q=>∃i,x=.int i/\Q (g i) H
section
variable{X:Cx}{a b c:Expr}{ta tb tc:TE}{pos:Pos}
theorem yk(ha:PE X a ta)(hb:PE X b tb){pins:List (Addr×Obj)}{s:Shared}{σ:St}{H:Hp}{R:V->V->Hp->Prop}(I:Inv X pins σ H s)
 (h:ta σ H λx H1=>tb σ H1 λy H2=>R x y H2) {Q:Value->Shared->Prop} {f:Value->Value->Sem Value}
 (hf:∀v u s2 x y H2,Inv X pins σ H2 s2->RelV x v->RelV y u->R x y H2->wpAny (model X.prog X.w) X.A (f v u) Q X.xe s2) :
 wpAny (model X.prog X.w) X.A (eval a X.env) (λv s₁=>wpAny (model X.prog X.w) X.A (eval b X.env) (λu s₂=>wpAny (model X.prog X.w) X.A (f v u) Q X.xe s₂) X.xe s₁) X.xe s:=show _ by
 refine aO (ha pins s σ H _ I h) λv s1 ⟨x,H1,I1,r1,q1⟩=>?_;refine aO (hb pins s1 σ H1 _ I1 q1) λu s2 ⟨y,H2,I2,r2,q2⟩=>?_;exact hf v u s2 x y H2 I2 r1 r2 q2
theorem Pj{op:Operator}{r:R2}(ho:cj X (binaryOp op) r)(ha:PE X a ta)(hb:PE X b tb):PE X (.BinOp a op b pos) (qQ r ta tb):=show _ by
 intro pins s σ H Q I h;exact wpAny_BinOp (yk ha hb I h λv u s2 x y H2 I2 rx ry q=>ho pins s2 σ H2 x y v u Q I2 rx ry q)
theorem Pk{op:UnaryOp}{r:V->Hp->VK->Prop}(ho:yj X (unaryOp op) r)(ha:PE X a ta):PE X (.UnaryOp op a pos) (Ph r ta):=show _ by
 intro pins s σ H Q I h;exact UnaryOp_ (aO (ha pins s σ H _ I h) λv s1 qR=>by obtain⟨x,H1,I1,r1,q1⟩:=qR;exact ho pins s1 σ H1 x v Q I1 r1 q1)
theorem uA{f:Value->Value->Sem Value}{C:Int->Int->Prop}{g:Int->Int->Int}
 (rule:∀(i j:Int) (t u:Tok) (s:Shared) (Q:Value->Shared->Prop) (E:Value->Shared->Prop),C i j->Q (.int (g i j) s.toks) {s with toks:=s.toks+1}->wpAny (model X.prog X.w) X.A (f (.int i t) (.int j u)) Q E s) :
 cj X f (rI C λi j=>.int (g i j)):=show _ by
 intro pins s σ H x y v u Q I rx ry h;obtain⟨i,j,rfl,rfl,hc,q⟩:=h;obtain⟨t,rfl⟩:=rx;obtain⟨t',rfl⟩:=ry;exact rule i j t t' s _ _ hc ⟨.int (g i j),H,I.tok _,⟨_,rfl⟩,q⟩
theorem DZ{f:Value->Value->Sem Value}{g:Int->Int->Int}
 (rule:∀(i j:Int) (t u:Tok) (s:Shared) (Q:Value->Shared->Prop) (E:Value->Shared->Prop),Q (.int (g i j) s.toks) {s with toks:=s.toks+1}->wpAny (model X.prog X.w) X.A (f (.int i t) (.int j u)) Q E s) :
 cj X f (jH λi j=>.int (g i j)):=show _ by
 intro pins s σ H x y v u Q I rx ry h;obtain⟨i,j,rfl,rfl,q⟩:=h;obtain⟨t,rfl⟩:=rx;obtain⟨t',rfl⟩:=ry;exact rule i j t t' s _ _ ⟨.int (g i j),H,I.tok _,⟨_,rfl⟩,q⟩
theorem uB{f:Value->Value->Sem Value}{g:Int->Int->Bool}
 (rule:∀(i j:Int) (t u:Tok) (s:Shared) (Q:Value->Shared->Prop) (E:Value->Shared->Prop),Q (.bool (g i j)) s->wpAny (model X.prog X.w) X.A (f (.int i t) (.int j u)) Q E s) :
 cj X f (jH λi j=>.bl (g i j)):=show _ by
 intro pins s σ H x y v u Q I rx ry h;obtain⟨i,j,rfl,rfl,q⟩:=h;obtain⟨t,rfl⟩:=rx;obtain⟨t',rfl⟩:=ry;exact rule i j t t' s _ _ ⟨.bl (g i j),H,I,rfl,q⟩
def D4(i j:Int):Prop:=0<j/\j<1073741824
def ym(i j:Int):Prop:=0<=j/\j<=1000000/\i.natAbs<2^64
def qS(i j:Int):Prop:=(-(2^64)<i/\i<2^64)∨(-(2^64)<j/\j<2^64)
theorem qS.ok{i j:Int}(h:qS i j):IntMulOk i j:=by
 rcases h with⟨h1,h2⟩|⟨h1,h2⟩
 ·exact .of_left (intBits_le_64 h1 h2)
 ·exact .of_right (intBits_le_64 h1 h2)
theorem gS:cj X (binaryOp .Add) (jH λi j=>.int (i+j)):=DZ λ_ _ _ _ _ _ _ q=>add_int q
theorem yn:cj X (binaryOp .Sub) (jH λi j=>.int (i-j)):=DZ λ_ _ _ _ _ _ _ q=>sub_int q
theorem yo:cj X (binaryOp .Mult) (rI qS λi j=>.int (i*j)):=uA λ_ _ _ _ _ _ _ hc q=>mul_int q hc.ok
theorem cN:cj X (binaryOp .FloorDiv) (rI D4 λi j=>.int (i/j)):=uA λi j _ _ _ _ _ hc q=>by
 have h1:(0:Int)<j:=hc.1;have h2:j<1073741824:=hc.2;exact floordiv_int (by lia) (by rw[Int.fdiv_eq_ediv_of_nonneg i (by lia)];exact q) (.inl (PyProof.noPylong_small (by lia)))
theorem bK:cj X (binaryOp .Mod) (rI (λ_ j=>0<j) λi j=>.int (i%j)):=uA λi j _ _ _ _ _ hc q=>by
 have h1:(0:Int)<j:=hc;exact mod_int' (by lia) (by rw[Int.fmod_eq_emod_of_nonneg i (by lia)];exact q)
theorem qT:cj X (binaryOp .Pow) (rI ym λi j=>.int (i^j.toNat)):=uA λ_ _ _ _ _ _ _ hc q=>pow_int_small hc.1 hc.2.1 hc.2.2 q
theorem Pl{f:Value->Sem Value}{g:Int->Int}
 (rule:∀(i:Int) (t:Tok) (s:Shared) (Q:Value->Shared->Prop) (E:Value->Shared->Prop),Q (.int (g i) s.toks) {s with toks:=s.toks+1}->wpAny (model X.prog X.w) X.A (f (.int i t)) Q E s) :
 yj X f (rU λi=>.int (g i)):=show _ by
 intro pins s σ H x v Q I rx h;obtain⟨i,rfl,q⟩:=h;obtain⟨t,rfl⟩:=rx;exact rule i t s _ _ ⟨.int (g i),H,I.tok _,⟨_,rfl⟩,q⟩
theorem Pm:yj X (unaryOp .USub) (rU λi=>.int (-i)):=Pl λ_ _ _ _ _ q=>neg_int q
end
def D5:V->V->Bool
 | .non,.non=>true | .non,.int _=>true | .int _,.non=>true | .non,.bl _=>true | .bl _,.non=>true | .non,.str _=>true | .str _,.non=>true
 | .int _,.int _=>true | .bl _,.bl _=>true | .str _,.str _=>true | .gR _,.gR _=>true
 | .int _,.str _=>true | .str _,.int _=>true | .bl _,.str _=>true | .str _,.bl _=>true
 |_,_=>false
def yp:R2:=λx y H Q=>D5 x y=true/\Q (.bl (decide (x=y))) H
def yq:R2:=λx y H Q=>D5 x y=true/\Q (.bl (!decide (x=y))) H
theorem yr{i j:Int}:decide (V.int i=V.int j)=(i==j):=by
 rw[fv];simp
theorem D6{i j:Bool}:decide (V.bl i=V.bl j)=(i==j):=by
 rw[fv];simp
theorem D7{i j:Str}:decide (V.str i=V.str j)=(i==j):=by
 rw[fv];simp
theorem D8{i j:Array UInt8}:decide (V.gR i=V.gR j)=(i.toList==j.toList):=by
 rw[fv];cases i;cases j;simp
section
variable{X:Cx}{a b c:Expr}{ta tb tc:TE}{pos:Pos}
theorem cO{pins:List (Addr×Obj)}{σ:St}{H:Hp}{s:Shared}{Q:VK}{k k':Bool}(I:Inv X pins σ H s)(q:Q (.bl k) H)(e:k=k'):EP X pins σ Q (.bool k') s:=by
 subst e;exact⟨.bl k,H,I,rfl,q⟩
theorem bP:cj X (compareOp .Eq) yp:=show _ by
 intro pins s σ H x y v u Q I rx ry h;obtain⟨hs,q⟩:=h;cases x with
 |non =>
  cases rx;cases y with
  |non=>cases ry;exact PySem.EqNone.eq_none_none (cO I q (by simp))
  |bl j=>cases ry;exact PySem.EqNone.eq_none_bool (cO I q (by simp))
  |int j=>obtain⟨t',rfl⟩:=ry;exact PySem.EqNone.eq_none_int (cO I q (by simp))
  |str j=>obtain⟨t',rfl⟩:=ry;exact PySem.EqNone.eq_none_str (cO I q (by simp))
  |_=>exact absurd (show false=true from hs) cT
 |bl i =>
  cases rx;cases y with
  |non=>cases ry;exact PySem.EqNone.eq_bool_none (cO I q (by simp))
  |bl j=>cases ry;exact eq_bool (cO I q D6)
  |str j=>obtain⟨t',rfl⟩:=ry;exact agm (cO I q (by simp))
  |_=>exact absurd (show false=true from hs) cT
 |int i =>
  obtain⟨t,rfl⟩:=rx;cases y with
  |non=>cases ry;exact PySem.EqNone.eq_int_none (cO I q (by simp))
  |int j=>obtain⟨t',rfl⟩:=ry;exact eq_int (cO I q yr)
  |str j=>obtain⟨t',rfl⟩:=ry;exact agn (cO I q (by simp))
  |_=>exact absurd (show false=true from hs) cT
 |str i =>
  obtain⟨t,rfl⟩:=rx;cases y with
  |non=>cases ry;exact PySem.EqNone.eq_str_none (cO I q (by simp))
  |bl j=>cases ry;exact ago (cO I q (by simp))
  |int j=>obtain⟨t',rfl⟩:=ry;exact agp (cO I q (by simp))
  |str j=>obtain⟨t',rfl⟩:=ry;exact eq_str (cO I q D7)
  |_=>exact absurd (show false=true from hs) cT
 |gR i =>
  obtain⟨t,rfl⟩:=rx;cases y with
  |gR j=>obtain⟨t',rfl⟩:=ry;exact PySem.W.eq_bytes (cO I q D8)
  |_=>exact absurd (show false=true from hs) cT
 |_=>cases y<;>exact absurd (show false=true from hs) cT
theorem mR:cj X (compareOp .NotEq) yq:=show _ by
 intro pins s σ H x y v u Q I rx ry h;obtain⟨hs,q⟩:=h;cases x with
 |non =>
  cases rx;cases y with
  |non=>cases ry;exact PySem.EqNone.ne_none_none (cO I q (by simp))
  |bl j=>cases ry;exact PySem.EqNone.ne_none_bool (cO I q (by simp))
  |int j=>obtain⟨t',rfl⟩:=ry;exact PySem.EqNone.ne_none_int (cO I q (by simp))
  |str j=>obtain⟨t',rfl⟩:=ry;exact PySem.EqNone.ne_none_str (cO I q (by simp))
  |_=>exact absurd (show false=true from hs) cT
 |bl i =>
  cases rx;cases y with
  |non=>cases ry;exact PySem.EqNone.ne_bool_none (cO I q (by simp))
  |bl j=>cases ry;exact ne_bool (cO I q (congrArg not D6))
  |str j=>obtain⟨t',rfl⟩:=ry;exact agq (cO I q (by simp))
  |_=>exact absurd (show false=true from hs) cT
 |int i =>
  obtain⟨t,rfl⟩:=rx;cases y with
  |non=>cases ry;exact PySem.EqNone.ne_int_none (cO I q (by simp))
  |int j=>obtain⟨t',rfl⟩:=ry;exact ne_int (cO I q (congrArg not yr))
  |str j=>obtain⟨t',rfl⟩:=ry;exact agr (cO I q (by simp))
  |_=>exact absurd (show false=true from hs) cT
 |str i =>
  obtain⟨t,rfl⟩:=rx;cases y with
  |non=>cases ry;exact PySem.EqNone.ne_str_none (cO I q (by simp))
  |bl j=>cases ry;exact ags (cO I q (by simp))
  |int j=>obtain⟨t',rfl⟩:=ry;exact agt (cO I q (by simp))
  |str j=>obtain⟨t',rfl⟩:=ry;exact ne_str (cO I q (congrArg not D7))
  |_=>exact absurd (show false=true from hs) cT
 |gR i =>
  obtain⟨t,rfl⟩:=rx;cases y with
  |gR j=>obtain⟨t',rfl⟩:=ry;exact PySem.W.ne_bytes (cO I q (congrArg not D8))
  |_=>exact absurd (show false=true from hs) cT
 |_=>cases y<;>exact absurd (show false=true from hs) cT
theorem lW:cj X (compareOp .Lt) (jH λi j=>.bl (decide (i<j))):=uB λ_ _ _ _ _ _ _ q=>lt_int q
theorem Pn:cj X (compareOp .LtE) (jH λi j=>.bl (decide (i<=j))):=uB λ_ _ _ _ _ _ _ q=>le_int q
theorem yt:cj X (compareOp .Gt) (jH λi j=>.bl (decide (j<i))):=uB λ_ _ _ _ _ _ _ q=>gt_int q
theorem D9:cj X (compareOp .GtE) (jH λi j=>.bl (decide (j<=i))):=uB λ_ _ _ _ _ _ _ q=>ge_int q
theorem yu:cj X (compareOp .Is) (λx y H Q=>y=.non/\Q (.bl (decide (x=.non))) H):=show _ by
 intro pins s σ H x y v u Q I rx ry h;obtain⟨rfl,q⟩:=h;cases ry;refine is_none_gen (cO I q ?_);cases x<;>first
  |(cases rx;rfl)
  |(obtain⟨t,rfl⟩:=rx;rfl)
theorem qU:cj X (compareOp .IsNot) (λx y H Q=>y=.non/\Q (.bl (!decide (x=.non))) H):=show _ by
 intro pins s σ H x y v u Q I rx ry h;obtain⟨rfl,q⟩:=h;cases ry;refine isnot_none_gen (cO I q ?_);cases x<;>first
  |(cases rx;rfl)
  |(obtain⟨t,rfl⟩:=rx;rfl)
theorem aV(b:Expr){op:CmpOp}(h:op≠.In:=by decide)(h2:op≠.NotIn:=by decide):behindInMarks op b=false:=show _ by
 have e1:(op==CmpOp.In)=false:=by cases op<;>first|rfl|exact absurd rfl h
 have e2:(op==CmpOp.NotIn)=false:=by cases op<;>first|rfl|exact absurd rfl h2
 cases b<;>simp[behindInMarks,e1,e2]
theorem Po{op:CmpOp}{r:R2}(ho:cj X (compareOp op) r)(ha:PE X a ta)(hb:PE X b tb)(hm:behindInMarks op b=false):PE X (.Compare a [op] [b] pos) (qQ r ta tb):=show _ by
 intro pins s σ H Q I h;exact wpAny_Compare1 (yk ha hb I h λv u s2 x y H2 I2 rx ry q=>ho pins s2 σ H2 x y v u Q I2 rx ry q) hm
def yw(t:TE):TT:=λσ H Q=>t σ H λx H'=>∃k,x=.bl k/\Q k H'
theorem Pp{op:CmpOp}{r:R2}(ho:cj X (compareOp op) r)(ha:PE X a ta)(hb:PE X b tb)(hm:behindInMarks op b=false):PT X (.Compare a [op] [b] pos) (yw (qQ r ta tb)):=show _ by
 intro pins s σ H Q I h;refine L9 (aO (ha pins s σ H _ I h) λv s1 ⟨x,H1,I1,r1,q1⟩=>aO (hb pins s1 σ H1 _ I1 q1) λu s2 ⟨y,H2,I2,r2,q2⟩ =>
  aO (ho pins s2 σ H2 x y v u _ I2 r1 r2 q2) λc s3 ⟨z,H3,I3,r3,k,e,q3⟩=>?_) hm
 subst e;cases r3;exact j_ ⟨H3,I3,q3⟩
def D_(r r':R2)(ta tb tc:TE):TE:=λσ H Q=>ta σ H λx H1=>tb σ H1 λy H2=>r x y H2 λz H3=>∃k,z=.bl k /\
 (if k=true then tc σ H3 λw' H4=>r' y w' H4 Q else Q (.bl false) H3)
theorem Pq{op op':CmpOp}{r r':R2}(ho:cj X (compareOp op) r)(ho':cj X (compareOp op') r')(ha:PE X a ta)(hb:PE X b tb)(hc:PE X c tc)
 (hm:lastMarks [op,op'] [b,c]=false:=by with_unfolding_all rfl):PT X (.Compare a [op,op'] [b,c] pos) (yw (D_ r r' ta tb tc)):=show _ by
 intro pins s σ H Q I h;refine isTrue_chain (aO (ha pins s σ H _ I h) λv s1 ⟨x,H1,I1,r1,q1⟩=>test_link (aO (hb pins s1 σ H1 _ I1 q1) λu s2 ⟨y,H2,I2,r2,q2⟩ =>
  aO (ho pins s2 σ H2 x y v u _ I2 r1 r2 q2) λd s3 ⟨z,H3,I3,r3,k,e,q3⟩=>?_)) hm
 subst e;cases r3;refine j_ ?_;cases k with
 |false =>
  obtain⟨k',e',q'⟩:=q3;cases e';exact ite_ff ⟨H3,I3,q'⟩
 |true =>
  refine ite_tt (test_last (aO (hc pins s3 σ H3 _ I3 q3) λw' s4 ⟨z',H4,I4,r4,q4⟩=>aO (ho' pins s4 σ H4 y z' u w' _ I4 r2 r4 q4) λd' s5 ⟨z2,H5,I5,r5,k2,e2,q5⟩=>?_));subst e2;cases r5;exact j_ ⟨H5,I5,q5⟩
def yx(K:ax)(x:V)(H:Hp)(k:Bool):Prop :=
 match x with
 | .non=>k=false
 | .bl b=>k=b
 | .int i=>k=(i != 0)
 | .str y=>y.length<=sizeLine/\k=((y.length:Int) != 0)
 | .gR y=>y.size<=sizeLine/\k=((y.size:Int) != 0)
 | .ref p=>(∃xs,bc K H p xs/\k=!xs.isEmpty)∨(∃xs,bz K H p xs/\k=!xs.isEmpty)∨∃kvs,H p=some (.dK kvs)/\k=!kvs.isEmpty
 |_=>False
theorem Pt{κ:Type}{kvs:List (κ×V)}{vs:List (κ×Value)}(r:KV kvs vs):(!vs.isEmpty)=!kvs.isEmpty:=by
 cases r<;>rfl
theorem D'{xs:List V}{its:List Value}(r:Vals xs its):(!its.toArray.isEmpty)=!xs.isEmpty:=by
 cases r<;>simp
theorem mS:(sizeLine:Nat)<2^63:=by rw[Cu];decide
theorem Pu:Pf X (λx H Q=>∃k,yx X.K x H k/\Q k H):=show _ by
 intro pins s σ H x v Q I rx h;obtain⟨k,e,q⟩:=h;have hl:=mS;have hs:sizeLine=16777216:=Cu;cases x with
 |non =>
  cases rx;have e':k=false:=e;subst e';exact truthy_none ⟨H,I,q⟩
 |bl b =>
  cases rx;have e':k=b:=e;subst e';exact j_ ⟨H,I,q⟩
 |int i =>
  obtain⟨t,rfl⟩:=rx;have e':k=(i != 0):=e;subst e';exact PySem.P.truthy_int ⟨H,I,q⟩
 |str y =>
  obtain⟨t,rfl⟩:=rx;obtain⟨hy,e'⟩:y.length<=sizeLine/\k=((y.length:Int) != 0):=e;subst e';exact PySem.P.truthy_str (by lia) ⟨H,I.tok _,q⟩
 |gR y =>
  obtain⟨t,rfl⟩:=rx;obtain⟨hy,e'⟩:y.size<=sizeLine/\k=((y.size:Int) != 0):=e;subst e';exact PySem.W.truthy_bytes (by lia) ⟨H,I.tok _,q⟩
 |ref p =>
  cases rx;have e':(∃xs,bc X.K H p xs/\k=!xs.isEmpty)∨(∃xs,bz X.K H p xs/\k=!xs.isEmpty)∨∃kvs,H p=some (.dK kvs)/\k=!kvs.isEmpty:=e;rcases e' with⟨xs,hx,e'⟩|⟨xs,hx,e'⟩|⟨kvs,hx,e'⟩
  ·subst e';obtain⟨its,r,pl,hz⟩:=I.list hx;have hlen:=r.length;exact wpAny_truthy_list pl.isList (by simp only[cu];lia) ⟨H,I.tok _,by rw[D' r];exact q⟩
  ·subst e';obtain⟨its,r,pl,hz⟩:=I.tuple hx;have hlen:=r.length;exact truthy_tuple pl (by simp only[cu];lia) ⟨H,I.tok _,by rw[D' r];exact q⟩
  ·subst e';obtain⟨hz,hS,vs,r,m⟩:kvs.length<=sizeLine/\(p==sysModules)=false/\∃vs,KV kvs vs/\s.heap.DictOf (gv X.prog X.w) p vs:=I.hok p _ hx;have hlen:kvs.length=vs.length:=Paired.length r;exact wpAny_truthy_dict hS m (by lia) ⟨H,I.tok _,by rw[Pt r];exact q⟩
 |_=>exact(show False from e).elim
theorem Pw(ha:PE X a ta)(he:∀whole,isTrue a X.env whole=(do let v <-whole;standAt a.pos;holding [v] (truthy v))) :
 PT X a (λσ H Q=>ta σ H λx H'=>∃k,yx X.K x H' k/\Q k H'):=show _ by
 intro pins s σ H Q I h;exact isTrue_plain (aO (ha pins s σ H _ I h) λv s1 yy=>by obtain⟨x,H1,I1,r1,q1⟩:=yy;exact Pu pins s1 σ H1 x v Q I1 r1 q1) (he _)
theorem mT:cj X (binaryOp .Add) (λx y H Q=>∃i j,x=.str i/\y=.str j/\i.length+j.length<=sizeLine/\Q (.str (i++j)) H):=show _ by
 intro pins s σ H x y v u Q I rx ry h;obtain⟨i,j,rfl,rfl,hz,q⟩:=h;obtain⟨t,rfl⟩:=rx;obtain⟨t',rfl⟩:=ry;exact add_str (λt' tk=>⟨.str (i++j),H,I.tok _,⟨_,rfl⟩,q⟩) hz
theorem vals1{x:V}{us:List Value}(r:Vals [x] us):∃u,us=[u]/\RelV x u:=by
 cases r with
 |cons r1 r2=>cases r2;exact⟨_,rfl,r1⟩
theorem vals2{x y:V}{us:List Value}(r:Vals [x,y] us):∃u w',us=[u,w']/\RelV x u/\RelV y w':=by
 cases r with
 |cons r1 r2 =>
  cases r2 with
  |cons r3 r4=>cases r4;exact⟨_,_,rfl,r1,r3⟩
theorem Ea(hc:X.calm=true):fg X (.builtin "max") (λxs H Q=>∃i j,xs=[.int i,.int j]/\Q (.int (if j>i then j else i)) H):=show _ by
 intro pins s σ H xs us Q I r h;obtain⟨i,j,rfl,q⟩:=h;obtain⟨u,w',rfl,⟨t,rfl⟩,⟨t',rfl⟩⟩:=vals2 r;refine max_two_ints (I.ok.hd hc) λh' tk k=>⟨_,H,I.kept k,?_,q⟩;by_cases hj:j>i
 ·rw[if_pos hj,if_pos hj];exact⟨_,rfl⟩
 ·rw[if_neg hj,if_neg hj];exact⟨_,rfl⟩
end
structure yz(h:Heap)(x dx C:Addr)(mA:Str->Option Value):Prop where
 obj:h.get? x=some (Co C dx)
 ns:h.Ns1 dx mA
 ne:dx≠x
theorem Py{h:Heap}{dx:Addr}{mA:Str->Option Value}(n:h.Ns1 dx mA):∃od,h.get? dx=some od/\∀name,Cv name od=some (mA name):=show _ by
 obtain⟨o,es,ep,ho,hd,hk,_,hm⟩:=n;refine⟨o,ho,λname=>?_⟩;have e:=hm name;unfold nsFind findBy at e;rw[<-Array.find?_toList]at e;unfold Cv;rw[hd];dsimp only
 split
 ·rename_i y q
  rw[q]at e;exact congrArg some e
 ·rename_i q
  rw[q]at e;have a:es.toList.any (·.refKey)=false:=by
   rw[Cw];intro y hy;obtain⟨z,t,hkey⟩:=hk y (Array.mem_toList_iff.mp hy);simp[DictEntry.refKey,hkey]
  have a':¬es.toList.any (·.refKey)=true:=by rw[a];exact cT
  rw[if_neg a'];exact congrArg some e
theorem yz.look{h:Heap}{x dx C:Addr}{mA:Str->Option Value}(I:yz h x dx C mA):∃od,PySem.W.InstAt h x (Co C dx) C (some od)/\∀name,Cv name od=some (mA name) :=
 let⟨od,ho,hl⟩:=Py I.ns
 ⟨od,⟨I.obj,rfl,rfl,ho⟩,hl⟩
section
variable{P:Program}{w:World}{H H':Hp}{h h':Heap}{a C dx:Addr}{fs fs':List (Str×V)}
theorem Pz(hok:cw P w H h)(e:H a=some (.ins C dx fs)):∃mA,yz h a dx C mA/\(∀f,mM (fs.lookup f) (mA f))/\L3 mA (fs.map (·.1))/\fs.length<=1000/\H dx=some (.own a):=show _ by
 obtain⟨d,z,ne,ob,mA,n,r,q⟩:=(show cM P w H h a (.ins C dx fs) from hok a _ e);exact⟨mA,⟨ob,n,ne⟩,r,q,z,d⟩
end
structure yA(K:ax)(C:Addr):Prop where
 pg:Mc K C Cy=true
 hd:PySem.W.hasDictIn K C=true
 po:PySem.W.plainOver K C=true
 sa:tV K (.ref C) "__setattr__"=some (some (.builtin "object.__setattr__"))
theorem yA.get{K:ax}{C:Addr}(c:yA K C)(f:Str):Mc K C f=true:=c.pg
section
variable{X:Cx}{pins:List (Addr×Obj)}{σ:St}{H:Hp}{s:Shared}{A:Around}{E:Value->Shared->Prop}{Q:Value->Shared->Prop}{c:Value}{b:Bool}
inductive gU(K:ax)(H:Hp):V->Value->Prop where
 |non:gU K H .non (.type "NoneType")
 |bl (x:Bool):gU K H (.bl x) (.type "bool")
 |int (i:Int):gU K H (.int i) (.type "int")
 |str (x:Str):gU K H (.str x) (.type "str")
 |flt (x:UInt64):gU K H (.flt x) (.type "float")
 |lst {a:Addr} {xs:List V} (e:H a=some (.lst xs)):gU K H (.ref a) (.type "list")
 |dQ {a:Addr} {o:Obj} {xs:List V} (e:H a=some (.dQ o (.lst xs))):gU K H (.ref a) (.type "list")
 |tup {a:Addr} {xs:List V} (e:H a=some (.tup xs)):gU K H (.ref a) (.type "tuple")
 |dK {a:Addr} {kvs:List (Key×V)} (e:H a=some (.dK kvs)):gU K H (.ref a) (.type "dict")
 |dT {a:Addr} {kvs:List (DK×V)} (e:H a=some (.dT kvs)):gU K H (.ref a) (.type "dict")
 |ins {a C dx:Addr} {fs:List (Str×V)} (e:H a=some (.ins C dx fs)) (cl:yA K C) (ha:tV K (.ref C) "__class__"=some (some (.builtin "object.__class__")))
  (hn:Md K (.builtin "object.__class__") "__get__"=some (some (.builtin "getset_descriptor.__get__"))) (htk:Me K (.builtin "object.__class__")=some true)
  (hm:Cz K C (.type "object")=some true):gU K H (.ref a) (.ref C)
theorem PB{x:V}{u t:Value}(I:Inv X pins σ H s)(rx:RelV x u)(ty:gU X.K H x t)(e:mF X.K t c=some b)(h:∀tk,Q (.bool b) {s with toks:=tk}) :
 wpAny (model X.prog X.w) A (call (.builtin "isinstance") [u,c]) Q E s:=show _ by
 cases ty with
 |non=>cases (show u=Value.none from rx);exact ij PySem.W.kitx_none I.eR True.intro e (λz=>nomatch z) h
 |bl y=>cases (show u=Value.bool y from rx);exact ij PySem.W.kitx_bool I.eR True.intro e (λz=>nomatch z) h
 |int i=>obtain⟨t,q⟩:=(show ∃t,u=Value.int i t from rx);cases q;exact ij PySem.W.kitx_int I.eR True.intro e (λz=>nomatch z) h
 |str y=>obtain⟨t,q⟩:=(show ∃t,u=Value.str y t from rx);cases q;exact ij PySem.W.kitx_str I.eR True.intro e (λz=>nomatch z) h
 |flt y=>obtain⟨t,q⟩:=(show ∃t,u=Value.float y t from rx);cases q;exact ij PySem.W.kitx_float I.eR True.intro e (λz=>nomatch z) h
 |@lst a xs ea =>
  cases (show u=Value.ref a from rx);obtain⟨_,_,n,_,h1⟩:=(show cM X.prog X.w H s.heap a (.lst xs) from I.hok a _ ea);exact ij CB I.eR ⟨_,h1,rfl⟩ e (λz=>nomatch z) h
 |@dQ a ob xs ea =>
  cases (show u=Value.ref a from rx);obtain⟨_,_,_,n,_,h1⟩:=(show cM X.prog X.w H s.heap a (.dQ ob (.lst xs)) from I.hok a _ ea);exact ij CB I.eR ⟨_,h1,rfl⟩ e (λz=>nomatch z) h
 |@tup a xs ea =>
  cases (show u=Value.ref a from rx);obtain⟨_,_,_,p,_⟩:=(show cM X.prog X.w H s.heap a (.tup xs) from I.hok a _ ea);obtain⟨o,h1,h2,_⟩:=p;exact ij Mf I.eR ⟨o,h1,h2⟩ e (λz=>nomatch z) h
 |@dK a kvs ea =>
  cases (show u=Value.ref a from rx);obtain⟨_,_,vs,_,p⟩:=(show cM X.prog X.w H s.heap a (.dK kvs) from I.hok a _ ea);obtain⟨o,es,ep,h1,h2,_⟩:=p;exact ij Mg I.eR ⟨o,h1,h2.1⟩ e (λz=>nomatch z) h
 |@dT a kvs ea =>
  cases (show u=Value.ref a from rx);obtain⟨_,_,xs,_,o,es,ep,h1,h2,_⟩:=(show cM X.prog X.w H s.heap a (.dT kvs) from I.hok a _ ea);exact ij Mg I.eR ⟨o,h1,h2.1⟩ e (λz=>nomatch z) h
 |@ins a C dx fs ea cl ha hn htk hm =>
  cases (show u=Value.ref a from rx);obtain⟨mA,O,_⟩:=Pz I.hok ea;obtain⟨od,J,_⟩:=O.look;exact ij (PySem.W.kitx_own (cl.get _) cl.hd ha hn htk hm) I.eR J e (λz=>nomatch z) h
end
structure cP(k:Nat)(A:Around):Prop where
 hd:A.handled=none
 dp:A.depth+3*k+5<recursionLimit
 un:A.units+16*k+200<cLine
theorem cP.mono{j k:Nat}{A:Around}(r:cP k A)(h:j<=k):cP j A:=⟨r.hd,by have:=r.dp;lia,by have:=r.un;lia⟩
theorem cP.deeper{k:Nat}{A:Around}(r:cP (k+1) A)(env:Env):cP k (A.deeper env) :=
 ⟨r.hd,by have:=r.dp;show A.depth+1+3*k+5<_;lia,by have:=r.un;show A.units+3+16*k+200<_;lia⟩
theorem cP.depth{k:Nat}{A:Around}(r:cP k A):A.depth<recursionLimit:=by have:=r.dp;lia
theorem cP.units{k:Nat}{A:Around}(r:cP k A):A.units+64<cLine:=by have:=r.un;lia
def PD:TA:=λ_ H Q=>Q [] H
def PF(ta:TE)(tr:TA):TA:=λσ H Q=>ta σ H λx H1=>tr σ H1 λxs H2=>Q (x::xs) H2
section
variable{X:Cx}{e:Expr}{es:List Expr}{te:TE}{t:TA}{pos:Pos}
theorem PH:PA X [] PD:=λ_ _ _ _ H Q I h=>Mh ⟨[],H,I,.nil,h⟩
theorem PJ(ha:PE X e te)(hr:PA X es t)(hs:starEach (e::es) X.env=(false,eval e X.env)::starEach es X.env:=by rfl):PA X (e::es) (PF te t):=show _ by
 intro pos pins s σ H Q I h;rw[hs];show wpAny _ _ (spliced ((false,eval e X.env)::backTo pos (starEach es X.env))) _ _ s;refine Mi (aO (ha pins s σ H _ I h) λu s1 ⟨x,H1,I1,r1,q1⟩=>?_);exact aO (hr pos pins s1 σ H1 _ I1 q1) λus s2 qV=>by obtain⟨xs,H2,I2,r2,q2⟩:=qV;exact⟨x::xs,H2,I2,.cons r1 r2,q2⟩
def PK(t:TA):TE:=λσ H Q=>t σ H λxs H1=>xs.length<=sizeLine/\∀p,H1 p=none->Q (.ref p) (upd H1 p (.tup xs))
def PL(t:TA):TE:=λσ H Q=>t σ H λxs H1=>xs.length<=sizeLine/\∀p,H1 p=none->Q (.ref p) (upd H1 p (.lst xs))
theorem PM{x1}(h:PA X es t):PE X (.Tuple es x1 pos) (PK t):=show _ by
 intro pins s σ H Q I hq;refine wpAny_Tuple_spliced (aO (h pos pins s σ H _ I hq) λus s1 ⟨xs,H1,I1,r,z,q⟩=>⟨by rw[<-r.length];exact z,?_⟩);have hf:H1 s1.heap.objs.size=none:=I1.hok.fresh (a8 _);refine⟨.ref s1.heap.objs.size,upd H1 s1.heap.objs.size (.tup xs),I1.laid (t':=s1.toks) (λb u e=>bC _ e) (a8 _) ?_,rfl,q _ hf⟩;exact⟨z,us,r,⟨_,du _ rfl,rfl,_,rfl⟩,λo q=>by rw[du _ rfl]at q;cases q;rfl⟩
theorem PN(h:PA X es t):PE X (.List es pos) (PL t):=show _ by
 intro pins s σ H Q I hq;refine wpAny_List_spliced (aO (h pos pins s σ H _ I hq) λus s1 ⟨xs,H1,I1,r,z,q⟩=>⟨by rw[<-r.length];exact z,?_⟩);have hf:H1 s1.heap.objs.size=none:=I1.hok.fresh (a8 _);refine⟨.ref s1.heap.objs.size,upd H1 s1.heap.objs.size (.lst xs),I1.laid (t':=s1.toks) (λb u e=>bC _ e) (a8 _) ?_,rfl,q _ hf⟩;exact⟨z,us,0,r,du _ rfl⟩
end
abbrev Sp:=List V->Hp->VK->XK->Prop
abbrev gV:=List Env->Hp->Shared->XK->Value->Shared->Prop
structure uC(P:Program)(w:World)(K:ax)(mg:Str->Option Value)(base:Heap)(A:Around)(outer:List Env)(s:Shared)(H:Hp):Prop where
 frames:A.frames=some outer
 mod:Mod K mg base
 bs:∀b o,base.get? b=some o->s.heap.get? b=some o/\H b=none
 iy:base.objs.size<=s.heap.objs.size
 fR:s.heap.FunFrames base outer
 jC:∀b∈frs outer,H b=none
 hok:cw P w H s.heap
 bare:AllBare s.gens
def CE(outer:List Env)(P:Program)(w:World)(H:Hp)(s:Shared)(Q:VK)(u:Value)(s':Shared):Prop :=
 ∃v H',s'.os=s.os/\AllBare s'.gens/\Un (frs outer) [] H H' s.heap s'.heap/\cw P w H' s'.heap/\RelV v u/\Q v H'
def CR(CX:gV)(outer:List Env)(P:Program)(w:World)(H:Hp)(s:Shared)(Q:VK)(E:XK)(r:Result)(s':Shared):Prop :=
 match r with
 | .ok (.ret u)=>CE outer P w H s Q u s'
 | .ok _=>False
 | .error e=>CX outer H s E e s'
structure d9(P:Program)(w:World)(K:ax)(mg:Str->Option Value)(base:Heap)(CX:gV)(k:Nat)(f:Addr)(fd:FuncData)(ps:List Str)(sp:Sp):Prop where
 len:∀vs H Q E,sp vs H Q E->vs.length=ps.length
 run:∀(A:Around) (outer:List Env) (s:Shared) (H:Hp) (args:Args) (us:List Value) (vs:List V) (Q:VK) (E:XK),cP k A->uC P w K mg base A outer s H->BindsTo s fd args (ps.zip us)->Vals vs us->sp vs H Q E ->
  codeAny (model P w) A (.call (.ref f) args) (CR CX outer P w H s Q E) s
theorem d9.mono{P:Program}{w:World}{K:ax}{mg:Str->Option Value}{base:Heap}{CX:gV}{j k:Nat}{f:Addr}{fd:FuncData}{ps:List Str}{sp:Sp}(F:d9 P w K mg base CX j f fd ps sp)(h:j<=k) :
 d9 P w K mg base CX k f fd ps sp:=⟨F.len,λA outer s H args us vs Q E hr=>F.run A outer s H args us vs Q E (hr.mono h)⟩
theorem d9.imp{P:Program}{w:World}{K:ax}{mg:Str->Option Value}{base:Heap}{CX:gV}{k:Nat}{f:Addr}{fd:FuncData}{ps:List Str}{sp gW:Sp}(F:d9 P w K mg base CX k f fd ps sp)
 (h:∀vs H Q E,gW vs H Q E->sp vs H Q E):d9 P w K mg base CX k f fd ps gW :=
 ⟨λvs H Q E q=>F.len vs H Q E (h _ _ _ _ q),λA outer s H args us vs Q E hr he hb hv hs=>F.run A outer s H args us vs Q E hr he hb hv (h _ _ _ _ hs)⟩
section
variable{X:Cx}{pins:List (Addr×Obj)}{σ:St}{H:Hp}{s s':Shared}
theorem Inv.env0(I:Inv X pins σ H s):uC X.prog X.w X.K X.mg X.base X.A X.stack s H :=
 ⟨I.ok.frames,I.ok.mod,I.bs,b5 I.ok.iy I.sz,I.stack,I.uj,I.hok,I.bare⟩
theorem Inv.after{Q:VK}{u:Value}(I:Inv X pins σ H s)(h:CE X.stack X.prog X.w H s Q u s'):EP X pins σ Q u s':=show _ by
 obtain⟨v,H',os,bare,un,hok,r,q⟩:=h;obtain⟨hh,g,d,t,os'⟩:=s';obtain rfl:os'=s.os:=os;exact⟨v,H',I.call (h':=hh) (g':=g) (d':=d) (t':=t) (ch:=[]) un hok bare (λb z=>absurd z (by simp)),r,q⟩
end
def Binds(K:ax)(fd:FuncData)(ps:List Str)(ds:List Value):Prop :=
 ∀(s:Shared) (us:List Value),K.In s.heap->(us++ds).length=ps.length->BindsTo s fd ⟨us,[]⟩ (ps.zip (us++ds))
theorem Binds.all{K:ax}{fd:FuncData}{ps:List Str}(h:∀us:List Value,us.length=ps.length->bindArgs fd ⟨us,[]⟩=pure (ps.zip us)):Binds K fd ps []:=λs us _ hl=>by
 rw[nV]at hl ⊢;exact .of_eq (h us hl)
def Passes(CX:gV)(X:Cx)(E:XK):Prop:=∀(pins:List (Addr×Obj)) (σ:St) (H:Hp) (s:Shared) (e:Value) (s':Shared),Inv X pins σ H s->CX X.stack H s E e s'->X.xe e s'
structure bf(N P:List Str)(sc:Scope):Prop where
 kind:sc.kind=.function
 co:sc.isCoroutine=false
 gen:sc.isGenerator=false
 nd:N.Nodup
 pre:N.take P.length=P
 par:∀x∈P,sc.names.lookup x=some .local∨sc.names.lookup x=some .cell
 PQ:∀y∈sc.names,y.2≠.free
theorem Eb{kindOf:Str->Option NameKind}{x:Str}:∀{binds:List (Str×Value)} {m:Str->Option Value},(∀v,(x,v)∉binds)->bindL kindOf binds m x=m x
 |[],_,_=>rfl
 |(n,v)::r,m,h=>by
  unfold bindL;rw[Eb λw hw=>h w (cL _ hw)]
  split
  ·have:x≠n:=show _ by rintro rfl;exact h v cF
   simp[this]
  ·rfl
theorem Ec{kindOf:Str->Option NameKind}{x:Str}:∀{binds:List (Str×Value)} {m:Str->Option Value},(∀v,(x,v)∉binds)->bindC kindOf binds m x=m x
 |[],_,_=>rfl
 |(n,v)::r,m,h=>by
  unfold bindC;rw[Ec λw hw=>h w (cL _ hw)]
  split
  ·rfl
  ·have:x≠n:=show _ by rintro rfl;exact h v cF
   simp[this]
theorem Ed{kindOf:Str->Option NameKind}{x:Str}{v:Value}:∀{P:List Str} {vs:List Value} {i:Nat} {m:Str->Option Value},P.Nodup->P[i]?=some x->vs[i]?=some v->kindOf x=some .local ->
 bindL kindOf (P.zip vs) m x=some v
 |[],_,_,_,_,h,_,_=>by simp at h
 |_::_,[],_,_,_,_,h,_=>by simp at h
 |p::P,w::vs,0,m,nd,h1,h2,hk=>by
  simp at h1 h2;subst h1;subst h2;show bindL kindOf ((p,w)::P.zip vs) m p=_;unfold bindL;rw[Eb λv hv=>(kc.mp nd).1 (CC hv).1,if_pos hk];simp
 |p::P,w::vs,i+1,m,nd,h1,h2,hk=>by
  show bindL kindOf ((p,w)::P.zip vs) m x=_;unfold bindL;exact Ed (i:=i) (kc.mp nd).2 (by simpa using h1) (by simpa using h2) hk
theorem Ee{kindOf:Str->Option NameKind}{x:Str}{v:Value}:∀{P:List Str} {vs:List Value} {i:Nat} {m:Str->Option Value},P.Nodup->P[i]?=some x->vs[i]?=some v->kindOf x≠some .local ->
 bindC kindOf (P.zip vs) m x=some v
 |[],_,_,_,_,h,_,_=>by simp at h
 |_::_,[],_,_,_,_,h,_=>by simp at h
 |p::P,w::vs,0,m,nd,h1,h2,hk=>by
  simp at h1 h2;subst h1;subst h2;show bindC kindOf ((p,w)::P.zip vs) m p=_;unfold bindC;rw[Ec λv hv=>(kc.mp nd).1 (CC hv).1,if_neg hk];simp
 |p::P,w::vs,i+1,m,nd,h1,h2,hk=>by
  show bindC kindOf ((p,w)::P.zip vs) m x=_;unfold bindC;exact Ee (i:=i) (kc.mp nd).2 (by simpa using h1) (by simpa using h2) hk
def start(N:List Str)(vs:List V):St:=vs.map some++fK (N.length-vs.length) none
def dm(CX:gV)(P:Program)(w:World)(K:ax)(mg:Str->Option Value)(base:Heap)(N:List Str)(qual:Str)(scope:Scope)(f:Addr)(cd:Value)(A:Around)(outer:List Env)(s:Shared)(H:Hp)(E:XK):Cx where
 prog:=P
 w:=w
 K:=K
 mg:=mg
 base:=base
 A:=A.deeper (envOfC qual scope s.heap.objs.size f cd)
 N:=N
 s₀:=s
 H₀:=H
 env:=envOfC qual scope s.heap.objs.size f cd
 outer:=outer
 stack:=envOfC qual scope s.heap.objs.size f cd::outer
 ex:=[]
 calm:=true
 fn:=λ_=>true
 pn:=[]
 xe:=λe s'=>wpAny (model P w) (A.deeper (envOfC qual scope s.heap.objs.size f cd)) (leaving (envOfC qual scope s.heap.objs.size f cd) e) (λ_ s''=>CX outer H s E e s'') (λe' s''=>CX outer H s E e' s'') s'
theorem Ef{sc:Scope}{n:Nat}{x:Str}(h:sc.names.lookup x=some .cell):∃c,(cellsFrom n sc.names []).lookup x=some c:=by
 have q:=xf sc.names n [] (.inl h);exact CF.mp q
theorem PR{CX:gV}{P:Program}{w:World}{K:ax}{mg:Str->Option Value}{base:Heap}{N ps:List Str}{qual:Str}{scope:Scope}{f:Addr}{cd:Value}{A:Around}{outer:List Env}{s s1:Shared}{H:Hp}{E:XK}{us:List Value}{vs:List V}
 (S:bf N ps scope) (hd:A.handled=none) (e0:uC P w K mg base A outer s H) (hl:vs.length=ps.length) (r:Vals vs us)
 (x:InCallC s s.heap.objs.size (bindL (envOfC qual scope s.heap.objs.size f cd).kindOf (ps.zip us) λ_=>none) (cellsFrom (s.heap.objs.size+1) scope.names []) (bindC (envOfC qual scope s.heap.objs.size f cd).kindOf (ps.zip us) λ_=>none) s1) :
 Inv (dm CX P w K mg base N qual scope f cd A outer s H E) [] (start N vs) H s1:=show _ by
 have hpl:ps.length<=N.length:=by have:=congrArg mG S.pre;rw[dP]at this;lia
 obtain⟨h1,tk,rfl,hk⟩:=x.done;have qW:∀b:Addr,b∉(dm CX P w K mg base N qual scope f cd A outer s H E).ex:=λb z=>absurd (show b∈([]:List Addr) from z) (by simp);refine⟨⟨e0.mod,S.kind,rfl,rfl,a8 _,λy z c h1 h2=>?_,λy hy=>?_,λy c _ h=>?_,λ_=>hd,Around.frames_deeper e0.frames,.inr ⟨rfl,rfl⟩,λb z=>absurd z (qW b),e0.bs,e0.iy,λb _ _=>qW b,λb z=>absurd z (qW b),e0.fR,e0.jC⟩,
  rfl,e0.bare,Un.kept hk,⟨_,x.toInCall.ns,λi y v h1 h2 h3=>?_⟩,λy c h=>⟨_,x.cell y c h⟩,e0.hok.fresh (a8 _),λy c h=>?_,λp hp=>absurd (show p∈([]:List (Addr×Obj)) from hp) (by simp),e0.hok.kept hk,?_⟩
 ·exact name_of_addr x.apart (jv h1) (jv h2)
 ·have hy:scope.names.lookup y=some .cell∨scope.names.lookup y=some .free:=hy;rcases hy with hy|hy
  ·exact Ef hy
  ·exact absurd rfl (S.PQ _ (jv hy))
 ·exact nX (x.above y c (jv h))
 ·have hi:i<vs.length:=by
   unfold start at h2;by_cases hi:i<vs.length
   ·exact hi
   ·rw[qt (by simpa using hi)]at h2;rw[Mj]at h2
    split at h2<;>cases h2
  have ha:vs[i]?=some v:=by
   unfold start at h2;rw[lB (by simpa using hi),aK]at h2;cases e:vs[i]? with
   |none=>rw[e]at h2;cases h2
   |some a=>rw[e]at h2;cases h2;rfl
  obtain⟨u,hu,rv⟩:=r.get ha;have hp:ps[i]?=some y:=by
   rw[<-S.pre,List.getElem?_take_of_lt (by lia)];exact h1
  have Eg:ps.Nodup:=by rw[<-S.pre];exact S.nd.sublist (Mk _ _)
  refine⟨u,rv,?_⟩;rcases S.par y (bS hp) with k|k
  ·exact .inl ⟨k,Ed Eg hp hu k⟩
  ·obtain⟨c,e⟩:=Ef (n:=s.heap.objs.size+1) k;refine .inr ⟨.inl k,c,e,?_⟩;have q:=x.cell y c e;rw[Ee Eg hp hu (by show scope.names.lookup y≠_;rw[k];decide)]at q;exact q
 ·exact e0.hok.fresh (nX (x.above y c (jv h)))
 ·unfold start;show _=N.length;rw[bx,az,Ml];lia
theorem yB{CX:gV}{P:Program}{w:World}{K:ax}{mg:Str->Option Value}{base:Heap}{k:Nat}{f:Addr}{name qual:Str}{params:Arguments}{body:List Stmt}{scope:Scope}{dV kV doc pm cdv ct oc:Value}{an od:Option Addr}
 {osl:Array (Option Value)} {N ps:List Str} {sp:Sp} (lk:K.lookup f=some ⟨oc,od,.func (bt name qual params body scope dV kV doc pm an cdv ct),osl⟩) (hcd:bL K cdv qual=true) (S:bf N ps scope)
 (len:∀vs H Q E,sp vs H Q E->vs.length=ps.length)
 (hbody:∀(A:Around) (outer:List Env) (s:Shared) (H:Hp) (vs:List V) (Q:VK) (E:XK),cP k (A.deeper (envOfC qual scope s.heap.objs.size f cdv))->sp vs H Q E ->
  ∃t,fe (dm CX P w K mg base N qual scope f cdv A outer s H E) body t/\t {nx:=λ_ H'=>Q .non H',rt:=Q} (start N vs) H) :
 d9 P w K mg base CX (k+1) f (bt name qual params body scope dV kV doc pm an cdv ct) ps sp:=show _ by
 refine⟨len,λA outer s H args us vs Q E hr e0 hb r hsp=>?_⟩;have hl:=len _ _ _ _ hsp;have KX:K.In s.heap:=e0.mod.jB.keeps λb o e=>(e0.bs b o e).1;have lim:s.heap.NoLimit:=e0.mod.nolimit.keeps λb o e=>(e0.bs b o e).1;have hkind:∀y∈ps.zip us,scope.names.lookup y.1=some .local∨(scope.names.lookup y.1=some .cell/\((cellsFrom (s.heap.objs.size+1) scope.names []).lookup y.1).isSome=true):=λqX hy=>by
  obtain⟨n,v⟩:=qX;rcases S.par n (CC hy).1 with q|q
  ·exact .inl q
  ·exact .inr ⟨q,xf _ _ _ (.inl q)⟩
 refine codeAny_call_function hr.depth (KX _ _ lk) rfl S.co S.gen rfl (PySem.W.codeRec_of KX hcd) (hb _ _ _ _ ?_);refine wpAny_newFunctionEnv_cells S.kind hkind λenv he s1 x=>?_;subst he;refine⟨lim.keeps x.toInCall.keep,codeAny_func ?_⟩;obtain⟨t,ht,hq⟩:=hbody A outer s H vs Q E (hr.deeper _) hsp;have I:Inv (dm CX P w K mg base N qual scope f cdv A outer s H E) [] (start N vs) H s1:=PR S hr.hd e0 hl r x;refine fJ (ht [] s1 (start N vs) H _ I hq) (λfl s' hs=>?_) λe s' hs=>hs;have fin:∀{σ':St} {H':Hp} {v:V} {u:Value},Inv (dm CX P w K mg base N qual scope f cdv A outer s H E) [] σ' H' s'->RelV v u->Q v H'->CE outer P w H s Q u s' :=
  λ{σ' H' v u} J rv q=>⟨v,H',J.os,J.bare,J.base,J.hok,rv,q⟩
 cases fl with
 |ret u =>
  obtain⟨v,σ',H',J,rv,q⟩:=hs;exact fin J rv q
 |next =>
  obtain⟨σ',H',J,q⟩:=hs;exact fin (v:=V.non) (u:=Value.none) J rfl q
 |brk =>
  obtain⟨_,_,_,q⟩:=hs;exact gN q
 |cont =>
  obtain⟨_,_,_,q⟩:=hs;exact gN q
section
variable{X:Cx}{x:Str}{p pos:Pos}{e:Expr}{es:List Expr}{t:TA}{id T:String}{r:List V->Hp->VK->Prop}
def yC(r:List V->Hp->VK->Prop)(t:TA):TE:=λσ H Q=>t σ H λvs H1=>r vs H1 Q
theorem PU(hc:fg X (.builtin id) r)(hg:Gl X x)(hm:X.mg x=none)(hv:bootBuiltins x=some (.builtin id))(ha:PA X (e::es) t)(hn:x≠"__name__":=by decide)(hdb:(x==("__debug__":Str))=false:=by decide)
 (he:starEach (e::es) X.env=(false,eval e X.env)::starEach es X.env:=by rfl) (hpl:(backTo pos (starEach es X.env)).any (·.1)=false:=by rfl):PE X (.Call (.Name x p) (e::es) [] pos) (yC r t):=show _ by
 intro pins s σ H Q I h;refine CG (jD I hg hm hv ?_ hn hdb);exact PyProof.Rows.callWith_builtin1 (aO (ha pos pins s σ H _ I h) λus s1 qY=>by obtain⟨vs,H1,I1,r1,q1⟩:=qY;exact hc pins s1 σ H1 vs us Q I1 r1 q1) he hpl
theorem PV(hc:fg X (.type T) r)(hg:Gl X x)(hm:X.mg x=none)(hv:bootBuiltins x=some (.type T))(ha:PA X (e::es) t)(hn:x≠"__name__":=by decide)(hdb:(x==("__debug__":Str))=false:=by decide)
 (he:starEach (e::es) X.env=(false,eval e X.env)::starEach es X.env:=by rfl) (hpl:(backTo pos (starEach es X.env)).any (·.1)=false:=by rfl):PE X (.Call (.Name x p) (e::es) [] pos) (yC r t):=show _ by
 intro pins s σ H Q I h;refine CG (jD I hg hm hv ?_ hn hdb);exact mE (aO (ha pos pins s σ H _ I h) λus s1 qZ=>by obtain⟨vs,H1,I1,r1,q1⟩:=qZ;exact hc pins s1 σ H1 vs us Q I1 r1 q1) he hpl
end
end L2
namespace HT
open PySem PyProof.Rows
section
open PySem.SeqAt
open PySem.AutoSeq1 (wpAny_loadPart')
open PySem.MeetsSeq PySem.MeetsSeq2 PySem.MeetsSeq3
end
section
variable{prog:Program}{w:World}{A:Around}{E:Value->Shared->Prop}{s:Shared}
theorem PX{t b:Addr}{vs ws:List Value}{Q:Value->Shared->Prop}(ht:IsTup s.heap t vs.toArray)(hb:IsTup s.heap b ws.toArray)(hv:vs≠[])
 (h1:ws=[]->Q (.ref t) s) (h2:ws≠[]->Q (.ref s.heap.objs.size) {s with heap:=s.heap.push {cls:=.type "tuple",data:=.seq (vs++ws).toArray}})
 (hsz:vs.length+ws.length<=sizeLine):wpAny (model prog w) A (binaryOp .Add (.ref t) (.ref b)) Q E s:=show _ by
 obtain⟨⟨cls,dd,data,sl⟩,ho,hc,n,hd⟩:=id ht;obtain⟨⟨cls2,dd2,data2,sl2⟩,ho2,hc2,n2,hd2⟩:=id hb;simp only at hc hd hc2 hd2;subst hc hd hc2 hd2;have e:vs.toArray++ws.toArray=(vs++ws).toArray:=by simp
 by_cases hw:ws=[]
 ·exact CH ⟨_,ho,rfl⟩ ⟨_,ho2,rfl⟩ CI CJ CM CN (CP _ _)
   (tuple_addW1 t b vs.toArray ws.toArray n n2 dd dd2 sl sl2 (by simpa using hv) (by simp[hw])) ⟨ho,ho2,h1 hw⟩
 ·refine CH ⟨_,ho,rfl⟩ ⟨_,ho2,rfl⟩ CI CJ CM CN (CP _ _)
   (tuple_addW2 t b vs.toArray ws.toArray n n2 dd dd2 sl sl2 (by simpa using hv) (by simpa using hw) (by rw[cu,cu];exact hsz)) ⟨ho,ho2,?_⟩
  rw[e];exact h2 hw
def aP(n d:Nat):Option Int->Nat
 |none=>d
 |some v=>if v<0 then(v+(n:Int)).toNat else min v.toNat n
theorem uD(n d:Nat):aP n d none=d:=rfl
theorem uE(n d k:Nat):aP n d (some (k:Int))=min k n:=by
 show(if(k:Int)<0 then((k:Int)+(n:Int)).toNat else min (k:Int).toNat n)=min k n;rw[if_neg (by lia),fb]
theorem yD(n d:Nat)(hd:d<=n)(o:Option Int):aP n d o<=n:=show _ by
 cases o with
 |none=>exact hd
 |some v =>
  show(if v<0 then(v+(n:Int)).toNat else min v.toNat n)<=n;by_cases hv:v<0
  ·rw[if_pos hv];lia
  ·rw[if_neg hv];exact Nat.min_le_right _ _
theorem Eh(v:Int)(n d:Nat):(if v<0 then max (v+(n:Int)) 0 else min v (n:Int))=((aP n d (some v):Nat):Int):=show _ by
 show(if v<0 then max (v+(n:Int)) 0 else min v (n:Int))=(((if v<0 then(v+(n:Int)).toNat else min v.toNat n):Nat):Int);by_cases hv:v<0
 ·simp only[if_pos hv];lia
 ·simp only[if_neg hv];lia
theorem PY(lo hi:Option Int)(n:Nat):CQ lo hi 1 (n:Int)=(((aP n 0 lo:Nat):Int),((aP n n hi:Nat):Int)):=show _ by
 have h1:¬((1:Int)<0):=by lia
 unfold CQ;simp only[h1,if_false];refine Prod.ext ?_ ?_
 ·cases lo with
  |none=>rfl
  |some v=>exact Eh v n 0
 ·cases hi with
  |none=>rfl
  |some v=>exact Eh v n n
theorem PZ(i j:Nat):xg (i:Int) (j:Int) 1=j-i:=by
 unfold xg;have h1:(1:Int)>0:=by lia
 simp only[h1,if_true,Int.ediv_one]
 split<;>lia
theorem Ei{v:Value}{o:Option Int}{Q:Option Int->Shared->Prop}(p:IsPart v o)(h:Q o s):wpAny (model prog w) A (agu v) Q E s:=show _ by
 cases p with
 |none=>exact slicePart_none h
 |int i t=>exact slicePart_int h
theorem Ej{sl:Addr}{vl vu:Value}{lo hi:Option Int}{n:Nat}{Q:Int×Int×Nat->Shared->Prop}(hs:s.heap.IsSliceOf sl vl vu .none)(pl:IsPart vl lo)(pu:IsPart vu hi)
 (h:Q (((aP n 0 lo:Nat):Int),1,aP n n hi-aP n 0 lo) s):wpAny (model prog w) A (Mm (.ref sl) (pure (n:Int))) Q E s:=show _ by
 obtain⟨os,hos,hcs,hds⟩:=id hs;unfold Mm agv;refine ak (ak (d0 hos hds (x:=vl) rfl (ak (d0 hos hds (x:=vu) rfl (ak (d0 hos hds (x:=.none) rfl (aF ?_)))))));refine ak (slicePart_none ?_);show wpAny _ _ (if((1:Int)==0)=true then _ else _) _ _ s;rw[if_neg (by decide)];refine ak (Ei pl (ak (Ei pu (ak (aF ?_)))));show wpAny _ _ (match CQ lo hi 1 (n:Int) with|(lo,hi)=>pure (lo,(1:Int),xg lo hi 1)) _ _ s;rw[PY lo hi n];show wpAny _ _ (pure (((aP n 0 lo:Nat):Int),(1:Int),xg ((aP n 0 lo:Nat):Int) ((aP n n hi:Nat):Int) 1)) _ _ s;rw[PZ];exact aF h
theorem P0(xs:Array Value)(i k:Nat):((aZ k).filterMap λ(m:Nat)=>xs[((i:Int)+(m:Int)*1).toNat]?).toArray=((xs.toList.drop i).take k).toArray:=show _ by
 have e:(λ(m:Nat)=>xs[((i:Int)+(m:Int)*1).toNat]?)=λm=>xs[i+m]?:=by
  funext m;have:((i:Int)+(m:Int)*1).toNat=i+m:=by lia
  rw[this]
 rw[e];have:=pick_run xs i k;rw[List.filterMap_map]at this;have e2:((λx=>xs[x]?) ∘ λx=>i+x)=λm=>xs[i+m]?:=rfl;rw[e2]at this;rw[this]
theorem P1{t sl:Addr}{items:Array Value}{vl vu:Value}{lo hi:Option Int}{Q:Value->Shared->Prop}(ht:IsTup s.heap t items)(hs:s.heap.IsSliceOf sl vl vu .none)(pl:IsPart vl lo)(pu:IsPart vu hi)
 (hw:¬(aP items.size 0 lo=0/\aP items.size items.size hi=items.size))
 (h:Q (.ref s.heap.objs.size) {s with heap:=s.heap.push {cls:=.type "tuple",data:=.seq ((items.toList.drop (aP items.size 0 lo)).take (aP items.size items.size hi-aP items.size 0 lo)).toArray}})
 (hsz:items.size<=sizeLine):wpAny (model prog w) A (getItem (.ref t) (.ref sl)) Q E s:=show _ by
 have uF:sizeOk (.seq ((items.toList.drop (aP items.size 0 lo)).take (aP items.size items.size hi-aP items.size 0 lo)).toArray):=by
  show((items.toList.drop (aP items.size 0 lo)).take (aP items.size items.size hi-aP items.size 0 lo)).toArray.size<=sizeLine;rw[cu,dP,fL,Cs];lia
 have hj:aP items.size items.size hi<=items.size:=yD _ _ (a8 _) hi;obtain⟨os,hos,hcs,hds⟩:=id hs;have hTs:s.TypeIs (.ref sl) "slice":=⟨os,hos,hcs⟩;unfold getItem
 try with_reducible refine j' ?_
 first|refine ak (aF ?_)|skip
 refine ak (Mn ht.typeIs (by decide) ?_);refine ak (jw (name:=ik "__getitem__") ht.typeIs nZ
  (ig nZ ht.typeIs Mo ?_ (Mp _ _)))
 show wpAny _ _ (Cn (.ref t) >>= _) _ _ s;refine ak (tupleItemsOf_ ht ?_);refine ak (n5 hTs ?_);rw[if_pos (by decide)];refine ak (Ej hs pl pu ?_);have hno:¬((((aP items.size 0 lo:Nat):Int)==0&&(1:Int)==1&&(aP items.size items.size hi-aP items.size 0 lo)==items.size)=true):=by
  intro q;rw[gq,gq]at q;have q1:((aP items.size 0 lo:Nat):Int)=0:=eq_of_beq q.1.1;have q2:aP items.size items.size hi-aP items.size 0 lo=items.size:=eq_of_beq q.2;exact hw ⟨by lia,by lia⟩
 show wpAny _ _ (if(((aP items.size 0 lo:Nat):Int)==0&&(1:Int)==1&&(aP items.size items.size hi-aP items.size 0 lo)==items.size)=true then _ else _) _ _ s;rw[if_neg hno,P0]
 first
  |exact ak (m:=xh _) (jy (aF ⟨_,rfl,aF h⟩) uF)
  |exact ak (m:=xh _) (jy (ak (aF (aF ⟨_,rfl,aF h⟩))) uF)
  |exact ak (ak (m:=xh _) (jy (aF (aF ⟨_,rfl,aF h⟩)) uF))
  |exact ak (ak (m:=xh _) (jy (aF ⟨_,rfl,aF h⟩) uF))
end
end HT
namespace L2
open PySem PySem.Spec PyProof.Rows
abbrev TO:=St->Hp->(Option Int->Hp->Prop)->Prop
def PO(X:Cx)(e:Option Expr)(t:TO):Prop :=
 ∀(pins:List (Addr×Obj)) (s:Shared) (σ:St) (H:Hp) (Q:Option Int->Hp->Prop),Inv X pins σ H s->t σ H Q ->
  wpAny (model X.prog X.w) X.A (evalPart e X.env) (λu s'=>∃o H',Inv X pins σ H' s'/\IsPart u o/\Q o H') X.xe s
def P2:TO:=λ_ H Q=>Q none H
def P4(t:TE):TO:=λσ H Q=>t σ H λx H1=>∃i,x=.int i/\Q (some i) H1
section
variable{X:Cx}{e:Expr}{te:TE}{lo hi:Option Expr}{tl th:TO}{pos p2:Pos}
theorem P5:PO X none P2:=by
 intro pins s σ H Q I h;rw[evalPart_none];exact aF ⟨none,H,I,.none,h⟩
theorem P6(h:PE X e te):PO X (some e) (P4 te):=show _ by
 intro pins s σ H Q I hw;rw[evalPart_some];refine aO (h pins s σ H _ I hw) λu s1 ⟨x,H1,I1,r1,q1⟩=>?_;obtain⟨i,rfl,q⟩:=q1;obtain⟨t,rfl⟩:=r1;exact⟨some i,H1,I1,.int i t,q⟩
def om(X:Cx)(r:V->Option Int->Option Int->Hp->VK->Prop):Prop :=
 ∀(pins:List (Addr×Obj)) (s:Shared) (σ:St) (H:Hp) (x:V) (v vl vu:Value) (lo hi:Option Int) (sl:Addr) (Q:VK),Inv X pins σ H s->RelV x v->s.heap.IsSliceOf sl vl vu .none->IsPart vl lo->IsPart vu hi->r x lo hi H Q ->
  ∃T id,typeLookup (.type T) "__getitem__"=pure (some (.builtin id))/\s.TypeIs v T/\wpAny (model X.prog X.w) X.A (getItem v (.ref sl)) (EP X pins σ Q) X.xe s
def P7(r:V->Option Int->Option Int->Hp->VK->Prop)(te:TE)(tl th:TO):TE:=λσ H Q=>te σ H λx H1=>tl σ H1 λl H2=>th σ H2 λu H3=>r x l u H3 Q
theorem P8{r:V->Option Int->Option Int->Hp->VK->Prop}(hr:om X r)(he:PE X e te)(hl:PO X lo tl)(hu:PO X hi th):PE X (.Subscript e (.Slice lo hi none p2) pos) (P7 r te tl th):=show _ by
 intro pins s σ H Q I h;refine Subscript_ (aO (he pins s σ H _ I h) λv s1 ⟨x,H1,I1,r1,q1⟩=>?_);refine wpAny_Slice (aO (hl pins s1 σ H1 _ I1 q1) λvl s2 ⟨l,H2,I2,pl,q2⟩=>aO (hu pins s2 σ H2 _ I2 q2) λvu s3 ⟨u,H3,I3,pu,q3⟩=>?_);rw[evalPart_none];refine aF ?_;have I4:Inv X pins σ H3 {s3 with heap:=s3.heap.push {cls:=.type "slice",data:=.fields #[vl,vu,.none]}}:=I3.kept (t':=s3.toks) λb ob q=>bC _ q;obtain⟨T,id,hT,ht,hg⟩:=hr pins {s3 with heap:=s3.heap.push {cls:=.type "slice",data:=.fields #[vl,vu,.none]}} σ H3 x v vl vu l u s3.heap.objs.size Q I4 r1 (agw ..) pl pu q3;show wpAny (model X.prog X.w) X.A (subscriptTail e (.Slice lo hi none p2) v (.ref s3.heap.objs.size)) (EP X pins σ Q) X.xe {s3 with heap:=s3.heap.push {cls:=.type "slice",data:=.fields #[vl,vu,.none]}};exact tail_any (ops:=[.ref s3.heap.objs.size,v]) ht hT hg (by with_unfolding_all rfl)
def ky(xs:List V)(lo hi:Option Int):List V:=(xs.drop (HT.aP xs.length 0 lo)).take (HT.aP xs.length xs.length hi-HT.aP xs.length 0 lo)
theorem Ek(xs:List V)(lo hi:Option Int):(ky xs lo hi).length<=xs.length:=by
 unfold ky;rw[dP,fL];lia
def P9(K:ax):V->Option Int->Option Int->Hp->VK->Prop:=λx lo hi H Q=>∃a xs,x=.ref a/\bz K H a xs /\
 ¬(HT.aP xs.length 0 lo=0/\HT.aP xs.length xs.length hi=xs.length)/\∀p,H p=none->Q (.ref p) (upd H p (.tup (ky xs lo hi)))
theorem P_:om X (P9 X.K):=show _ by
 intro pins s σ H x v vl vu lo hi sl Q I rx hs pl pu h;obtain⟨a,xs,rfl,hx,hw,q⟩:=h;cases rx;obtain⟨its,r,ht,hz⟩:=I.tuple hx;have hlen:its.toArray.size=xs.length:=by rw[cu];exact r.length.symm
 refine⟨"tuple",_,nZ.lookup,ht.typeIs,?_⟩;refine HT.P1 ht hs pl pu (by rw[hlen];exact hw) ?_ (by rw[hlen];exact hz);rw[hlen];refine⟨.ref s.heap.objs.size,_,I.laid (t':=s.toks) (o:=.tup (ky xs lo hi)) (λb ob q=>bC _ q) (a8 _) ?_,rfl,q _ (I.hok.fresh (a8 _))⟩;exact⟨b5 (Ek xs lo hi) hz,_,(r.drop (HT.aP xs.length 0 lo)).take (HT.aP xs.length xs.length hi-HT.aP xs.length 0 lo),CU _ _,λo q=>by rw[du _ rfl]at q;cases q;rfl⟩
def El(K:ax):R2:=λx y H Q=>∃a b xs ys,x=.ref a/\y=.ref b/\bz K H a xs/\bz K H b ys/\xs≠[]/\xs.length+ys.length<=sizeLine /\
 (ys=[]->Q (.ref a) H)/\(ys≠[]->∀p,H p=none->Q (.ref p) (upd H p (.tup (xs++ys))))
theorem Vals.uG{xs:List V}{us:List Value}(r:Vals xs us):us=[]↔xs=[]:=by
 cases r with
 |nil=>simp
 |cons _ _=>simp
theorem yE:cj X (binaryOp .Add) (El X.K):=show _ by
 intro pins s σ H x y v u Q I rx ry h;obtain⟨a,b,xs,ys,rfl,rfl,ha,hb,hx,hz,q1,q2⟩:=h;cases rx;cases ry;obtain⟨its,r1,p1,_⟩:=I.tuple ha;obtain⟨its2,r2,p2,_⟩:=I.tuple hb;refine HT.PX p1 p2 (λz=>hx (r1.uG.mp z)) (λz=>⟨.ref a,H,I,rfl,q1 (r2.uG.mp z)⟩) (λz=>?_) (by rw[<-r1.length,<-r2.length];exact hz);refine⟨.ref s.heap.objs.size,_,I.laid (t':=s.toks) (o:=.tup (xs++ys)) (λb ob q=>bC _ q) (a8 _) ?_,rfl,q2 (λw=>z (r2.uG.mpr w)) _ (I.hok.fresh (a8 _))⟩;exact⟨by rw[bx];exact hz,_,r1.append r2,CU _ _,λo q=>by rw[du _ rfl]at q;cases q;rfl⟩
end
def gz(n:Nat)(i:Int):Option Nat:=if 0<=i then(if i<n then some i.toNat else none) else if -(n:Int)<=i then some (i+n).toNat else none
def cy{α:Type}(xs:List α)(i:Int):Option α:=(gz xs.length i).bind λj=>xs[j]?
theorem Em{n:Nat}{i:Int}{j:Nat}(h:gz n i=some j):seqIndex? i n=some j/\j<n/\-(n:Int)<=i/\i<n:=show _ by
 unfold gz at h;by_cases h0:0<=i
 ·rw[if_pos h0]at h;by_cases h1:i<n
  ·rw[if_pos h1]at h;have e:i.toNat=j:=dN h;exact⟨by rw[CV h0 h1,e],by lia,by lia,h1⟩
  ·rw[if_neg h1]at h;cases h
 ·rw[if_neg h0]at h;by_cases h1:-(n:Int)<=i
  ·rw[if_pos h1]at h;have e:(i+n).toNat=j:=dN h;exact⟨by rw[CW (by lia) h1,e],by lia,h1,by lia⟩
  ·rw[if_neg h1]at h;cases h
theorem yF{α:Type}{xs:List α}{i:Int}{v:α}(h:cy xs i=some v):∃j,seqIndex? i xs.length=some j/\xs[j]?=some v/\j<xs.length/\-(xs.length:Int)<=i/\i<xs.length:=show _ by
 unfold cy at h;cases e:gz xs.length i with
 |none=>rw[e]at h;cases h
 |some j =>
  rw[e]at h;obtain⟨h1,h2,h3,h4⟩:=Em e;exact⟨j,h1,h,h2,h3,h4⟩
theorem gA{α:Type}{xs:List α}{j:Nat}{v:α}(h:xs[j]?=some v):cy xs (j:Int)=some v:=show _ by
 have hj:j<xs.length:=(bO.mp h).1;have e:gz xs.length (j:Int)=some j:=by
  unfold gz;rw[if_pos (by lia),if_pos (by lia)];simp
 unfold cy;rw[e];exact h
def En(b:Expr):Prop:=∀o i,subscripted b false o i=operate [o,i] (getItem o i)
def q_(X:Cx)(r:R2):Prop :=
 ∀(value slice:Expr) (pins:List (Addr×Obj)) (s:Shared) (σ:St) (H:Hp) (x y:V) (v u:Value) (Q:VK),Inv X pins σ H s->RelV x v->RelV y u->r x y H Q ->
  subscripted slice false v u=operate [v,u] (getItem v u)->wpAny (model X.prog X.w) X.A (subscriptTail value slice v u) (EP X pins σ Q) X.xe s
def uH(X:Cx)(id:String)(r:V->List V->Hp->VK->Prop):Prop :=
 ∀(pins:List (Addr×Obj)) (s:Shared) (σ:St) (H:Hp) (x:V) (xs:List V) (v:Value) (us:List Value) (Q:VK),Inv X pins σ H s->RelV x v->Vals xs us->r x xs H Q ->
  wpAny (model X.prog X.w) X.A (call (.builtin id) (v::us)) (EP X pins σ Q) X.xe s
section
variable{X:Cx}{a b:Expr}{ta tb:TE}{pos:Pos}
theorem P'{r:R2}(hr:q_ X r)(ha:PE X a ta)(hb:PE X b tb)(hs:En b):PE X (.Subscript a b pos) (qQ r ta tb):=show _ by
 intro pins s σ H Q I h;exact Subscript_ (yk ha hb I h λv u s2 x y H2 I2 rx ry q=>hr a b pins s2 σ H2 x y v u Q I2 rx ry q (hs _ _))
def Eo(K:ax):R2:=λx y H Q=>∃p xs i v,x=.ref p/\y=.int i/\bc K H p xs/\cy xs i=some v/\Q v H
def Ep(K:ax):R2:=λx y H Q=>∃p xs i v,x=.ref p/\y=.int i/\bz K H p xs/\cy xs i=some v/\Q v H
def Es:R2:=λx y H Q=>∃z i c,x=.str z/\y=.int i/\z.length<=sizeLine/\cy z.cps.toList i=some c/\Q (.str ⟨#[c]⟩) H
theorem cV:q_ X (Eo X.K):=show _ by
 intro value slice pins s σ H x y v u Q I rx ry h hs;obtain⟨p,xs,i,z,rfl,rfl,hq,he,q⟩:=h;cases rx;obtain⟨t,rfl⟩:=ry;obtain⟨its,r,pl,hz⟩:=I.list hq;obtain⟨j,h1,h2,h3,h4,h5⟩:=yF he;obtain⟨w,ew,iX⟩:=r.get h2;have hl:=r.length;have hn:=mS;have fin:EP X pins σ Q w s:=⟨z,H,I,iX,q⟩;by_cases h0:0<=i
 ·have hj:i.toNat=j:=by
   rw[CV h0 h5]at h1;exact dN h1
  exact item_listR pl.isList h0 (by lia) (by rw[hj];simpa using ew) fin hs
 ·have hj:(i+(its.toArray.size:Int)).toNat=j:=by
   rw[CW (by lia) h4]at h1;rw[cu,<-hl];exact dN h1
  exact Mq (x:=w) pl.isList.typeIs Mr.lookup
   (wpAny_getItem_list_neg (Q:=λr s'=>r=w/\EP X pins σ Q r s') pl.isList (by lia) (by rw[cu]<;>lia) (by lia) (by rw[hj];simpa using ew) ⟨rfl,fin⟩) hs
theorem aG:q_ X (Ep X.K):=show _ by
 intro value slice pins s σ H x y v u Q I rx ry h hs;obtain⟨p,xs,i,z,rfl,rfl,hq,he,q⟩:=h;cases rx;obtain⟨t,rfl⟩:=ry;obtain⟨its,r,pl,hz⟩:=I.tuple hq;obtain⟨j,h1,h2,h3,h4,h5⟩:=yF he;obtain⟨w,ew,iX⟩:=r.get h2;have hl:=r.length;have hn:=mS;have fin:EP X pins σ Q w s:=⟨z,H,I,iX,q⟩;exact Mq (x:=w) pl.typeIs nZ.lookup
  (getItem_tuple (j:=j) (Q:=λr s'=>r=w/\EP X pins σ Q r s') pl (by lia) (by lia) (by rw[cu,<-hl];exact h1) (by simpa using ew) ⟨rfl,fin⟩) hs
theorem Et:q_ X Es:=show _ by
 intro value slice pins s σ H x y v u Q I rx ry h hs;obtain⟨z,i,c,rfl,rfl,hz,he,q⟩:=h;obtain⟨t,rfl⟩:=rx;obtain⟨t',rfl⟩:=ry;obtain⟨j,h1,h2,h3,h4,h5⟩:=yF he;have hl:z.cps.toList.length=z.length:=by simp[xi]
 rw[hl]at h1 h4 h5;have hn:=mS;exact tail_any (CY s z t) slot_str_getitem.lookup (getItem_str (c:=c) (by
  have e1:decide (i < -(2^63:Int))=false:=decide_eq_false (by lia);have e2:decide (i>=2^63)=false:=decide_eq_false (by lia);rw[e1,e2,Ms]) (by rw[h1];simpa using h2) ⟨.str ⟨#[c]⟩,H,I.tok _,⟨_,rfl⟩,q⟩) hs
theorem Qa(its:List Value)(n j:Nat)(u:Value):fM (·.setIfInBounds j u) {cls:=.type "list",data:=.seq its.toArray n}={cls:=.type "list",data:=.seq (its.set j u).toArray n}:=by
 simp[fM]
theorem Inv.lst{pins:List (Addr×Obj)}{σ:St}{H:Hp}{s:Shared}{p:Addr}{xs:List V}(I:Inv X pins σ H s)(h:H p=some (.lst xs)) :
 ∃(its:List Value) (n:Nat),Vals xs its/\s.heap.get? p=some {cls:=.type "list",data:=.seq its.toArray n}/\xs.length<=sizeLine:=show _ by
 obtain⟨z,its,n,r,e⟩:=I.hok p _ h;exact⟨its,n,r,e,z⟩
theorem Inv.Qb{pins:List (Addr×Obj)}{σ:St}{H:Hp}{s:Shared}{p:Addr}{xs ys:List V}{its its':List Value}{n n':Nat}{f:Obj->Obj}(I:Inv X pins σ H s)(h:H p=some (.lst xs))
 (ho:s.heap.get? p=some {cls:=.type "list",data:=.seq its.toArray n}) (hf:f {cls:=.type "list",data:=.seq its.toArray n}={cls:=.type "list",data:=.seq its'.toArray n'}) (r:Vals ys its') (hz:ys.length<=sizeLine) (t:Nat) :
 Inv X pins σ (upd H p (.lst ys)) {s with heap:=s.heap.update p f,toks:=t}:=show _ by
 have e:(s.heap.update p f).get? p=some {cls:=.type "list",data:=.seq its'.toArray n'}:=by
  rw[qu f ho (by rw[hf]<;>rfl),hf]
 refine I.write (x:=p) (e:=p) (by rw[h];trivial) (.inl rfl) (λb u hb q=>(qv _ _ (bE hb)).trans q) ⟨_,e⟩ ?_;exact⟨hz,its',n',r,e⟩
def Qc:V->V->V->Hp->(Hp->Prop)->Prop:=λo i v H Q=>∃p xs k j,o=.ref p/\i=.int k/\H p=some (.lst xs)/\gz xs.length k=some j/\Q (upd H p (.lst (xs.set j v)))
theorem set_list:DU X Qc:=show _ by
 intro pins s σ H o i v ov iv u Q I ro ri rv h;obtain⟨p,xs,k,j,rfl,rfl,hp,hj,q⟩:=h;cases ro;obtain⟨t,rfl⟩:=ri;obtain⟨its,n,r,ho,hz⟩:=I.lst hp;obtain⟨h1,h2,h3,h4⟩:=Em hj;have hl:=r.length;have hn:=mS;have I':Inv X pins σ (upd H p (.lst (xs.set j v))) {s with heap:=s.heap.update p (fM (·.setIfInBounds j u))} :=
  I.Qb hp ho (Qa its n j u) (r.set rv j) (by rw[tW];exact hz) s.toks
 by_cases h0:0<=k
 ·have hk:k.toNat=j:=by
   rw[CV h0 h4]at h1;exact dN h1
  exact PySem.W.ki_setAt ho h0 (by lia) (by rw[cu,<-hl];exact h4) (by rw[hk];exact⟨_,I',q⟩)
 ·have hk:(k+(its.toArray.size:Int)).toNat=j:=by
   rw[CW (by lia) h3]at h1;rw[cu,<-hl];exact dN h1
  exact PySem.W.ki_setBack ho (by lia) (by rw[cu,<-hl];exact h3) (by lia) (by rw[hk];exact⟨_,I',q⟩)
theorem Qd(lo hi:Option Int)(n:Nat):(sliceBounds lo hi none n).1=((HT.aP n 0 lo:Nat):Int)/\(sliceBounds lo hi none n).2.1=((HT.aP n n hi:Nat):Int)/\(sliceBounds lo hi none n).2.2=1:=show _ by
 refine⟨?_,?_,rfl⟩
 ·cases lo with
  |none=>simp[sliceBounds,HT.aP]
  |some i =>
   simp only[sliceBounds,HT.aP,Mu,show(1:Int)>0 by decide,if_true];by_cases h:i<0
   ·simp only[h,if_true]<;>lia
   ·simp only[h,if_false]<;>lia
 ·cases hi with
  |none=>simp[sliceBounds,HT.aP]
  |some i =>
   simp only[sliceBounds,HT.aP,Mu,show(1:Int)>0 by decide,if_true];by_cases h:i<0
   ·simp only[h,if_true]<;>lia
   ·simp only[h,if_false]<;>lia
theorem Qf(its:List Value)(lo hi:Option Int):slicePick its.toArray lo hi none=((its.drop (HT.aP its.length 0 lo)).take (HT.aP its.length its.length hi-HT.aP its.length 0 lo)).toArray:=show _ by
 obtain⟨h1,h2,h3⟩:=Qd lo hi its.toArray.size;unfold slicePick;rw[h1,h2,h3];simp only[sliceRange_one,pick_run,cu]<;>rfl
def Eu(K:ax):V->Option Int->Option Int->Hp->VK->Prop:=λx lo hi H Q=>∃a xs,x=.ref a/\bc K H a xs/\∀p,H p=none->Q (.ref p) (upd H p (.lst (ky xs lo hi)))
theorem jI:om X (Eu X.K):=show _ by
 intro pins s σ H x v vl vu lo hi sl Q I rx hs pl pu h;obtain⟨a,xs,rfl,hx,q⟩:=h;cases rx;obtain⟨its,r,ht,hz⟩:=I.list hx;have hlen:=r.length;refine⟨"list",_,Mr.lookup,ht.isList.typeIs,?_⟩;refine wpAny_getItem_list_slice ht.isList hs pl pu .none (by simp) ?_ (by rw[cu]<;>lia);rw[Qf,<-hlen];refine⟨.ref s.heap.objs.size,_,I.laid (t':=s.toks) (o:=.lst (ky xs lo hi)) (λb ob q=>bC _ q) (a8 _) ?_,rfl,q _ (I.hok.fresh (a8 _))⟩;exact⟨b5 (Ek xs lo hi) hz,_,0,(r.drop (HT.aP xs.length 0 lo)).take (HT.aP xs.length xs.length hi-HT.aP xs.length 0 lo),du _ rfl⟩
def jJ:V->Bool
 | .non=>true
 | .bl _=>true
 | .int _=>true
 | .str _=>true
 |_=>false
def iY:V->V->Bool
 | .non,.non=>true
 | .bl a,.bl b=>a==b
 | .bl a,.int b=>(if a then 1 else 0)==b
 | .int a,.bl b=>a==(if b then 1 else 0)
 | .int a,.int b=>a==b
 | .str a,.str b=>a==b
 |_,_=>false
theorem Qg{A:Around}{s:Shared}{y x:V}{u v:Value}(ry:RelV y u)(rx:RelV x v)(fy:jJ y=true)(fx:jJ x=true):tX A s u v (iY y x):=show _ by
 cases y with
 |non =>
  cases ry;cases x with
  |non=>cases rx;exact SeqAt.EqAt.same _
  |bl b=>cases rx;exact SeqAt.EqAt.none_bool b
  |int b=>obtain⟨t,rfl⟩:=rx;exact SeqAt.EqAt.none_int b t
  |str b=>obtain⟨t,rfl⟩:=rx;exact SeqAt.EqAt.none_str b t
  |_=>exact absurd (show false=true from fx) cT
 |bl a =>
  cases ry;cases x with
  |non=>cases rx;exact SeqAt.EqAt.bool_none a
  |bl b=>cases rx;exact SeqAt.EqAt.bool_bool a b
  |int b=>obtain⟨t,rfl⟩:=rx;exact SeqAt.EqAt.bool_int a b t
  |str b=>obtain⟨t,rfl⟩:=rx;exact SeqAt.EqAt.bool_str a b t
  |_=>exact absurd (show false=true from fx) cT
 |int a =>
  obtain⟨t',rfl⟩:=ry;cases x with
  |non=>cases rx;exact SeqAt.EqAt.int_none a t'
  |bl b=>cases rx;exact SeqAt.EqAt.int_bool a t' b
  |int b=>obtain⟨t,rfl⟩:=rx;exact SeqAt.EqAt.int_int a t' b t
  |str b=>obtain⟨t,rfl⟩:=rx;exact LU a t' b t
  |_=>exact absurd (show false=true from fx) cT
 |str a =>
  obtain⟨t',rfl⟩:=ry;cases x with
  |non=>cases rx;exact SeqAt.EqAt.str_none a t'
  |bl b=>cases rx;exact SeqAt.EqAt.str_bool a t' b
  |int b=>obtain⟨t,rfl⟩:=rx;exact LV a t' b t
  |str b=>obtain⟨t,rfl⟩:=rx;exact SeqAt.EqAt.str_str a t' b t
  |_=>exact absurd (show false=true from fx) cT
 |_=>exact absurd (show false=true from fy) cT
def gj(x:V)(u:Value):Bool:=match u with
 | .none=>iY .non x
 | .bool b=>iY (.bl b) x
 | .int i _=>iY (.int i) x
 | .str z _=>iY (.str z) x
 |_=>false
theorem Ew{x y:V}{u:Value}(r:RelV y u)(f:jJ y=true):gj x u=iY y x:=show _ by
 cases y with
 |non=>cases r;rfl
 |bl b=>cases r;rfl
 |int i=>obtain⟨t,rfl⟩:=r;rfl
 |str z=>obtain⟨t,rfl⟩:=r;rfl
 |_=>exact absurd (show false=true from f) cT
theorem rf{x:V}:∀{xs:List V} {us:List Value},Vals xs us->xs.all jJ=true->us.any (gj x)=xs.any λy=>iY y x
 |_,_,.nil,_=>rfl
 |y::xs,u::us,.cons r t,f=>by
  rw[nW,gq]at f;rw[mH,mH,Ew r f.1,rf t f.2]
theorem rg{A:Around}{s:Shared}{x:V}{v:Value}(rx:RelV x v)(fx:jJ x=true):∀{xs:List V} {us:List Value},Vals xs us->xs.all jJ=true->∀u∈us,tX A s u v (gj x u)
 |_,_,.nil,_=>λu hu=>by cases hu
 |y::xs,u::us,.cons r t,f=>λu' hu=>by
  rw[nW,gq]at f;rcases br.mp hu with rfl|hu
  ·rw[Ew r f.1];exact Qg r rx f.1 fx
  ·exact rg rx fx t f.2 u' hu
def inV(x:V)(xs:List V):Bool:=xs.any λy=>iY y x
def yG(K:ax)(neg:Bool):R2:=λx y H Q=>∃p xs,y=.ref p/\(bc K H p xs∨bz K H p xs)/\jJ x=true/\xs.all jJ=true/\Q (.bl (if neg then !inV x xs else inV x xs)) H
theorem rh:cj X (compareOp .In) (yG X.K false):=show _ by
 intro pins s σ H x y v u Q I rx ry h;obtain⟨p,xs,rfl,hq,fx,fs,q⟩:=h;cases ry;rcases hq with hq|hq
 ·obtain⟨its,r,pl,hz⟩:=I.list hq;refine Mv (gj x) pl.isList (λw hw=>rg rx fx r fs w (by simpa using hw)) ⟨.bl _,H,I,rfl,?_⟩;rw[show its.toArray.any (gj x)=its.any (gj x) by simp,rf r fs];exact q
 ·obtain⟨its,r,pl,hz⟩:=I.tuple hq;refine SeqAt.in_tupleAt (gj x) pl (λw hw=>rg rx fx r fs w (by simpa using hw)) ⟨.bl _,H,I,rfl,?_⟩;rw[show its.toArray.any (gj x)=its.any (gj x) by simp,rf r fs];exact q
theorem Qh:cj X (compareOp .NotIn) (yG X.K true):=show _ by
 intro pins s σ H x y v u Q I rx ry h;obtain⟨p,xs,rfl,hq,fx,fs,q⟩:=h;cases ry;rcases hq with hq|hq
 ·obtain⟨its,r,pl,hz⟩:=I.list hq;refine Mw (gj x) pl.isList (λw hw=>rg rx fx r fs w (by simpa using hw)) ⟨.bl _,H,I,rfl,?_⟩;rw[show its.toArray.any (gj x)=its.any (gj x) by simp,rf r fs];exact q
 ·obtain⟨its,r,pl,hz⟩:=I.tuple hq;refine SeqAt.notIn_tupleAt (gj x) pl (λw hw=>rg rx fx r fs w (by simpa using hw)) ⟨.bl _,H,I,rfl,?_⟩;rw[show its.toArray.any (gj x)=its.any (gj x) by simp,rf r fs];exact q
theorem dG:fg X (.builtin "len") (λxs H Q=>∃p ys,xs=[.ref p]/\(bc X.K H p ys∨bz X.K H p ys)/\Q (.int ys.length) H):=show _ by
 intro pins s σ H xs us Q I r h;obtain⟨p,ys,rfl,hq,q⟩:=h;obtain⟨u,rfl,rx⟩:=vals1 r;cases rx;have hn:=mS;rcases hq with hq|hq
 ·obtain⟨its,r',pl,hz⟩:=I.list hq;have hlen:=r'.length;exact Calls.call_len_list pl.isList (by simp only[cu]<;>lia) ⟨.int ys.length,H,I.tok _,⟨s.toks+1,by rw[cu,hlen]⟩,q⟩
 ·obtain⟨its,r',pl,hz⟩:=I.tuple hq;have hlen:=r'.length;exact len_tuple pl (by simp only[cu]<;>lia) ⟨.int ys.length,H,I.tok _,⟨s.toks+1,by rw[cu,hlen]⟩,q⟩
theorem Qi:fg X (.builtin "len") (λxs H Q=>∃z,xs=[.str z]/\z.length<=sizeLine/\Q (.int z.length) H):=show _ by
 intro pins s σ H xs us Q I r h;obtain⟨z,rfl,hz,q⟩:=h;obtain⟨u,rfl,t,rfl⟩:=vals1 r;have hn:=mS;exact len_str (by lia) ⟨.int z.length,H,I.tok _,⟨_,rfl⟩,q⟩
theorem kz:fg X (.type "list") (λxs H Q=>∃p ys,xs=[.ref p]/\(bc X.K H p ys∨bz X.K H p ys)/\∀l,H l=none->Q (.ref l) (upd H l (.lst ys))):=show _ by
 intro pins s σ H xs us Q I r h;obtain⟨p,ys,rfl,hq,q⟩:=h;obtain⟨u,rfl,rx⟩:=vals1 r;cases rx;have fin:∀(its:List Value),Vals ys its->ys.length<=sizeLine->∀(h':Heap) (c':Nat),(∀b o',s.heap.get? b=some o'->h'.get? b=some o') ->
  h'.get? s.heap.objs.size=some {cls:=.type "list",dict:=none,data:=.seq its.toArray c',slots:=#[]}->EP X pins σ Q (.ref s.heap.objs.size) {s with heap:=h'}:=λits r' hz h' c' kp e =>
  ⟨.ref s.heap.objs.size,_,I.laid (t':=s.toks) kp (a8 _) (show cM X.prog X.w _ h' _ (.lst ys) from⟨hz,its,c',r',e⟩),rfl,q _ (I.hok.fresh (a8 _))⟩
 rcases hq with hq|hq
 ·obtain⟨its,r',pl,hz⟩:=I.list hq;have hlen:=r'.length;obtain⟨o,ho,hc,n,hd⟩:=pl.isList;exact call_list_seq p (.inl rfl) ho hc hd (λh' c' kp e=>fin its r' hz h' c' kp e) (by simp only[cu]<;>lia)
 ·obtain⟨its,r',pl,hz⟩:=I.tuple hq;have hlen:=r'.length;obtain⟨o,ho,hc,n,hd⟩:=pl;exact call_list_seq p (.inr rfl) ho hc hd (λh' c' kp e=>fin its r' hz h' c' kp e) (by simp only[cu]<;>lia)
theorem fA:fg X (.type "tuple") (λxs H Q=>∃p ys,xs=[.ref p]/\((bc X.K H p ys/\∀l,H l=none->Q (.ref l) (upd H l (.tup ys)))∨(bz X.K H p ys/\Q (.ref p) H))):=show _ by
 intro pins s σ H xs us Q I r h;obtain⟨p,ys,rfl,h⟩:=h;obtain⟨u,rfl,rx⟩:=vals1 r;cases rx;rcases h with⟨hq,q⟩|⟨hq,q⟩
 ·obtain⟨its,r',pl,hz⟩:=I.list hq;have hlen:=r'.length;refine call_tuple_list pl.isList (λh' kp=>?_) (by simp only[cu]<;>lia);have I1:Inv X pins σ H {s with heap:=h'}:=I.kept (t':=s.toks) kp;have I2:Inv X pins σ (upd H h'.objs.size (.tup ys)) {s with heap:=h'.push {cls:=.type "tuple",data:=.seq its.toArray}} :=
   I1.laid (t':=s.toks) (λb o e=>bC _ e) (a8 _) (show cM X.prog X.w _ _ _ (.tup ys) from⟨hz,its,r',CU _ _,λo q=>by rw[du _ rfl]at q;cases q;rfl⟩)
  exact⟨.ref h'.objs.size,_,I2,rfl,q _ (I1.hok.fresh (a8 _))⟩
 ·obtain⟨its,r',pl,hz⟩:=I.tuple hq;exact call_tuple_same pl ⟨.ref p,H,I,rfl,q⟩
def uI(K:ax)(T:String)(x:V)(H:Hp):Prop:=match x with
 | .str _=>T="str"
 | .int _=>T="int"
 | .ref p=>(T="list"/\∃xs,bc K H p xs)∨(T="tuple"/\∃o,K.lookup p=some o/\o.cls=.type "tuple"/\o.dict=none) ∨
  (T="dict"/\((∃kvs,H p=some (.dK kvs))∨∃kvs,H p=some (.dT kvs)))∨(T="set"/\∃S n,H p=some (.set S n))
 |_=>False
theorem Ey{pins:List (Addr×Obj)}{σ:St}{H:Hp}{s:Shared}{T:String}{x:V}{v:Value}(I:Inv X pins σ H s)(r:RelV x v)(ty:uI X.K T x H) :
 s.TypeIs v T/\∀a,v=.ref a->∃ob,s.heap.get? a=some ob/\ob.dict=none:=show _ by
 cases x with
 |str z =>
  obtain⟨t,rfl⟩:=r;cases (show T="str" from ty);exact⟨CY s z t,λ_ e=>nomatch e⟩
 |int i =>
  obtain⟨t,rfl⟩:=r;cases (show T="int" from ty);exact⟨typeIs_int s i t,λ_ e=>nomatch e⟩
 |ref p =>
  cases r;rcases ty with⟨rfl,xs,hq⟩|⟨rfl,o,hk,hc,hd⟩|⟨rfl,hk⟩|⟨rfl,S,n,hk⟩
  ·obtain⟨its,_,pl,_⟩:=I.list hq;refine⟨pl.isList.typeIs,λa e=>?_⟩;cases e;obtain⟨o,n,e,c,hd,_⟩:=pl;exact⟨o,e,hd⟩
  ·refine⟨⟨o,I.eR p o hk,hc⟩,λa e=>?_⟩;cases e;exact⟨o,I.eR _ o hk,hd⟩
  ·have z:∃o,s.heap.get? p=some o/\o.ExactDict:=by
    rcases hk with⟨kvs,hk⟩|⟨kvs,hk⟩
    ·obtain⟨_,_,_,_,o,_,_,e,ex,_⟩:=I.hok p _ hk;exact⟨o,e,ex⟩
    ·obtain⟨_,_,_,_,o,_,_,e,ex,_⟩:=I.hok p _ hk;exact⟨o,e,ex⟩
   obtain⟨o,e,ex⟩:=z;refine⟨⟨o,e,ex.1⟩,λa e2=>?_⟩;cases e2;exact⟨o,e,ex.2.1⟩
  ·obtain⟨o,_,_,_,e,ex,_⟩:=I.hok p _ hk;refine⟨⟨o,e,ex.1⟩,λa e2=>?_⟩;cases e2;exact⟨o,e,ex.2.1⟩
 |_=>exact gN ty
def Qj(K:ax)(T:String)(r:V->List V->Hp->VK->Prop)(to:TE):TE:=λσ H Q=>to σ H λx H1=>uI K T x H1/\r x [] H1 Q
def Qk(K:ax)(T:String)(r:V->List V->Hp->VK->Prop)(to:TE)(t:TA):TE:=λσ H Q=>to σ H λx H1=>uI K T x H1/\t σ H1 λxs H2=>r x xs H2 Q
variable{o e:Expr}{es:List Expr}{to:TE}{t:TA}{name:Str}{apos cpos:Pos}{T id:String}{r:V->List V->Hp->VK->Prop}
theorem Ql(pa:PlainAttrs T)(slot:Slot T name id)(hty:typeOf (.builtin id)=pure (.type "method_descriptor"))(hm:uH X id r)(ho:PE X o to)
 (hbase:attributeBase o name X.env (eval o X.env)=eval o X.env:=by rfl) (hline:(apos.endLine==cpos.line)=true:=by rfl):PE X (.Call (.Attribute o name apos) [] [] cpos) (Qj X.K T r to):=show _ by
 intro pins s σ H Q I h;refine wpAny_Call_method0_late hbase hline (aO (ho pins s σ H _ I h) λv s1 ⟨x,H1,I1,r1,ty,q1⟩=>?_);obtain⟨h1,h2⟩:=Ey I1 r1 ty;exact⟨T,id,pa,slot,hty,h1,h2,Mx rfl (PySem.evalArgs_none (hm pins s1 σ H1 x [] v [] Q I1 r1 .nil q1))⟩
theorem Qm(pa:PlainAttrs T)(slot:Slot T name id)(hty:typeOf (.builtin id)=pure (.type "method_descriptor"))(hm:uH X id r)(ho:PE X o to)(ha:PA X (e::es) t)
 (hbase:attributeBase o name X.env (eval o X.env)=eval o X.env:=by rfl)
 (hfew:((backTo cpos (starEach (e::es) X.env)).all (λx=>!x.1)&&(backToKw cpos (keywordEach [] X.env)).all (λx=>x.1.isSome)
  && decide ((e::es).length+([]:List Keyword).length+(if([]:List Keyword).isEmpty then 0 else 1)<30))=true:=by rfl)
 (hline:(apos.endLine==cpos.line)=true:=by rfl) (hs:starEach (e::es) X.env=(false,eval e X.env)::starEach es X.env:=by rfl) (hplain:(backTo cpos (starEach es X.env)).any (·.1)=false:=by rfl) :
 PE X (.Call (.Attribute o name apos) (e::es) [] cpos) (Qk X.K T r to t):=show _ by
 intro pins s σ H Q I h;refine wpAny_Call_method_late hbase hfew hline rfl (aO (ho pins s σ H _ I h) λv s1 ⟨x,H1,I1,r1,ty,q1⟩=>?_);obtain⟨h1,h2⟩:=Ey I1 r1 ty;refine⟨T,id,pa,slot,hty,h1,h2,?_⟩;have hA:=ha cpos pins s1 σ H1 _ I1 q1;rw[hs]at hA ⊢;refine Mx (by show(false||(backTo cpos (starEach es X.env)).any (·.1))=false;rw[hplain]<;>rfl) (My ?_);exact aO hA λus s2 rj=>by obtain⟨vs,H2,I2,r2,q2⟩:=rj;exact hm pins s2 σ H2 x vs v us Q I2 r1 r2 q2
end
def rk(X:Cx)(id:String)(r:V->List V->Hp->VK->Prop):Prop :=
 ∀(pins:List (Addr×Obj)) (s:Shared) (σ:St) (H:Hp) (x:V) (xs:List V) (v:Value) (us:List Value) (Q:VK),Inv X pins σ H s->RelV x v->Vals xs us->r x xs H Q ->
  wpAny (model X.prog X.w) X.A (call (.builtin id) (v::us)) (EP X pins σ Q) X.xe s
theorem Vals.one:∀{x:V} {us:List Value},Vals [x] us->∃u,us=[u]/\RelV x u
 |_,_,.cons r .nil=>⟨_,rfl,r⟩
theorem Vals.zero:∀{us:List Value},Vals [] us->us=[]
 |_,.nil=>rfl
theorem Vals.dropLast{xs:List V}{us:List Value}(h:Vals xs us):Vals xs.dropLast us.dropLast:=show _ by
 induction h with
 |nil=>exact .nil
 |cons r t ih =>
  cases t with
  |nil=>exact .nil
  |cons q t'=>exact .cons r ih
theorem Vals.eraseIdx:∀{xs:List V} {us:List Value} (i:Nat),Vals xs us->Vals (xs.eraseIdx i) (us.eraseIdx i)
 |_,_,_,.nil=>.nil
 |_,_,0,.cons _ t=>t
 |_,_,i+1,.cons r t=>.cons r (Vals.eraseIdx i t)
theorem Qn{α:Type}(l:List α):l.eraseIdx (l.length-1)=l.dropLast:=show _ by
 induction l with
 |nil=>rfl
 |cons a r ih =>
  cases r with
  |nil=>rfl
  |cons b r =>
   have e:(a::b::r).length-1=((b::r).length-1)+1:=by
    have h1:(a::b::r).length=r.length+2:=rfl;have h2:(b::r).length=r.length+1:=rfl;lia
   rw[e,CZ,ih]
   all_goals rfl
theorem Ez{α:Type}:∀(l:List α) (i:Nat),(l.eraseIdx i).length<=l.length
 |[],_=>a8 _
 |_::_,0=>Nat.le_succ _
 |_::r,i+1=>Nat.succ_le_succ (Ez r i)
section
variable{X:Cx}{pins:List (Addr×Obj)}{σ:St}{H:Hp}{s:Shared}{l b:Addr}{xs ys zs:List V}
theorem Inv.rm{its its':List Value}{n:Nat}{f:Array Value->Array Value}{t':Nat}(I:Inv X pins σ H s)(hH:H l=some (.lst xs))
 (e:s.heap.get? l=some {cls:=.type "list",data:=.seq its.toArray n}) (hf:f its.toArray=its'.toArray) (hv:Vals ys its') (hz:ys.length<=sizeLine) :
 Inv X pins σ (upd H l (.lst ys)) {s with heap:=s.heap.update l (fM f),toks:=t'}:=show _ by
 have q:=PySem.IsL.update e f;rw[hf]at q;refine I.write (x:=l) (e:=l) (by rw[hH];exact trivial) (.inl rfl) (λb' u hb hu=>(qv s.heap (fM f) (bE hb)).trans hu) ⟨_,q⟩ ?_;exact⟨hz,its',_,hv,q⟩
theorem Inv.uJ{its:List Value}{t':Nat}(I:Inv X pins σ H s)(hv:Vals ys its)(hz:ys.length<=sizeLine) :
 Inv X pins σ (upd H s.heap.objs.size (.lst ys)) {s with heap:=s.heap.push {cls:=.type "list",data:=.seq its.toArray},toks:=t'} :=
 I.laid (λ_ _ q=>bC _ q) (a8 _) ⟨hz,its,0,hv,du _ rfl⟩
theorem Inv.fresh(I:Inv X pins σ H s):H s.heap.objs.size=none:=I.hok.fresh (a8 _)
theorem Inv.kA(I:Inv X pins σ H s)(hH:H l=some (.lst xs)):xs.length<=sizeLine/\∃(its:List Value) (n:Nat),Vals xs its/\xs.length=its.length/\s.heap.get? l=some {cls:=.type "list",data:=.seq its.toArray n}:=show _ by
 obtain⟨z,its,n,r,e⟩:=I.hok l _ hH;exact⟨z,its,n,r,r.length,e⟩
theorem Qo{n:Nat}(h:n<=sizeLine):C2 n=false:=by
 unfold C2;exact decide_eq_false (by lia)
end
section
variable{X:Cx}
def EA:V->List V->Hp->VK->Prop:=λx vs H Q=>∃l xs y,x=.ref l/\vs=[y]/\H l=some (.lst xs)/\xs.length<sizeLine/\Q .non (upd H l (.lst (xs++[y])))
theorem fB:rk X "list.append" EA:=show _ by
 intro pins s σ H x vs v us Q I rx rv h;obtain⟨l,xs,y,rfl,rfl,hH,hz,q⟩:=h;cases rx;obtain⟨u,rfl,ru⟩:=rv.one;obtain⟨z,its,n,r,hl,e⟩:=I.kA hH;refine tY fN ⟨_,e,rfl⟩ F.entry_list_append (F.args_list_append_2 _ _) (PySem.list_append l its.toArray n u (by rw[cu];lia)) ⟨e,?_⟩;refine⟨.non,_,I.rm (its':=its++[u]) hH e (by simp) (r.append (.cons ru .nil)) ?_,rfl,q⟩;rw[bx,lC];lia
def EB:V->List V->Hp->VK->Prop:=λx vs H Q=>∃l b xs zs,x=.ref l/\vs=[.ref b]/\H l=some (.lst xs)/\H b=some (.lst zs)/\xs.length+zs.length<=sizeLine/\Q .non (upd H l (.lst (xs++zs)))
theorem yH:rk X "list.extend" EB:=show _ by
 intro pins s σ H x vs v us Q I rx rv h;obtain⟨l,b,xs,zs,rfl,rfl,hH,hB,hz,q⟩:=h;cases rx;obtain⟨u,rfl,ru⟩:=rv.one;cases ru;obtain⟨z,its,n,r,hl,e⟩:=I.kA hH;obtain⟨z2,its2,n2,r2,hl2,e2⟩:=I.kA hB;have hsz:its.toArray.size+its2.toArray.size<=sizeLine:=by rw[cu,cu];lia
 have Qp:¬(!its.toArray.isEmpty&&C2 (its.toArray.size+its2.toArray.size))=true:=by
  rw[Qo hsz,Mz];exact cT
 refine tY xj ⟨_,e,rfl⟩ F.entry_list_extend (F.args_list_extend_2 _ _)
  (AutoSeq1.list_extend_list_list_0 l its.toArray n b its2.toArray n2 Qp (by rw[cu];lia) (by lia)) ⟨e,e2,?_⟩
 refine⟨.non,_,I.rm (its':=its++its2) hH e (by simp) (r.append r2) ?_,rfl,q⟩;rw[bx];lia
def Qq:V->List V->Hp->VK->Prop:=λx vs H Q=>∃l xs y,x=.ref l/\vs=[]/\H l=some (.lst xs)/\xs[xs.length-1]?=some y/\Q y (upd H l (.lst xs.dropLast))
theorem Qr:rk X "list.pop" Qq:=show _ by
 intro pins s σ H x vs v us Q I rx rv h;obtain⟨l,xs,y,rfl,rfl,hH,hy,q⟩:=h;cases rx;have hus:=rv.zero;subst hus;obtain⟨z,its,n,r,hl,e⟩:=I.kA hH;obtain⟨u,hu,ru⟩:=r.get hy;have hy':its.toArray[its.toArray.size-1]?=some u:=by
  show its.toArray[its.length-1]?=some u;rw[<-xk,<-hl];exact hu
 refine tY qw ⟨_,e,rfl⟩ MA (F.args_list_pop_1 _) (MeetsSeq.list_pop_last l its.toArray n u hy' (by rw[cu];lia)) ⟨e,?_⟩;refine⟨y,_,I.rm (its':=its.dropLast) hH e ?_ r.dropLast ?_,ru,q⟩
 ·show its.toArray.eraseIdxIfInBounds (its.toArray.size-1)=its.dropLast.toArray;rw[cu,MB,Qn]
 ·rw[MC];lia
def EC:V->List V->Hp->VK->Prop:=λx vs H Q=>∃l xs i k y,x=.ref l/\vs=[.int i]/\H l=some (.lst xs)/\-(2^63)<=i/\i<2^63/\seqIndex? i xs.length=some k/\xs[k]?=some y/\Q y (upd H l (.lst (xs.eraseIdx k)))
theorem ED:rk X "list.pop" EC:=show _ by
 intro pins s σ H x vs v us Q I rx rv h;obtain⟨l,xs,i,k,y,rfl,rfl,hH,h1,h2,hk,hy,q⟩:=h;cases rx;obtain⟨u,rfl,ru⟩:=rv.one;obtain⟨t,rfl⟩:=ru;obtain⟨z,its,n,r,hl,e⟩:=I.kA hH;obtain⟨w,hw,iX⟩:=r.get hy;refine tY qw ⟨_,e,rfl⟩ MA (F.args_list_pop_2 _ _)
  (MeetsSeq.list_pop_at l its.toArray n i t k w (fitsIndex_both h1 h2) (by rw[cu,<-hl];exact hk) (by rw[<-xk];exact hw) (by rw[cu];lia)) ⟨e,?_⟩
 refine⟨y,_,I.rm (its':=its.eraseIdx k) hH e ?_ (r.eraseIdx k) ?_,iX,q⟩
 ·show its.toArray.eraseIdxIfInBounds k=(its.eraseIdx k).toArray;rw[MB]
 ·have:=Ez xs k;lia
def EF:R2:=λx y H Q=>∃l b xs zs,x=.ref l/\y=.ref b/\H l=some (.lst xs)/\H b=some (.lst zs)/\xs.length+zs.length<=sizeLine/\∀p,H p=none->Q (.ref p) (upd H p (.lst (xs++zs)))
theorem oo:cj X (binaryOp .Add) EF:=show _ by
 intro pins s σ H x y v u Q I rx ry h;obtain⟨l,b,xs,zs,rfl,rfl,hH,hB,hz,q⟩:=h;cases rx;cases ry;obtain⟨z,its,n,r,hl,e⟩:=I.kA hH;obtain⟨z2,its2,n2,r2,hl2,e2⟩:=I.kA hB;refine PySem.P.add_list e e2 ?_ (by rw[cu,cu];lia);have ea:its.toArray++its2.toArray=(its++its2).toArray:=by simp
 rw[ea];exact⟨.ref _,_,I.uJ (t':=s.toks) (r.append r2) (by rw[bx];lia),rfl,q _ I.fresh⟩
end
end L2
namespace EG
open PySem PySem.W PySem.Calls PyProof.Rows
theorem Qt{P:Params}{h:Heap}:∀(ns:List Int) (vs:List Value),WellAll P h vs (ns.map WData.int)->IntsAre vs ns:=show _ by
 intro ns
 induction ns with
 |nil =>
  intro vs w;rw[kd]at w;cases w;exact .nil
 |cons n ns ih =>
  intro vs w;rw[bT]at w;cases w with
  |cons a b =>
   cases a;exact .cons _ _ (ih _ b)
theorem Qu{l:OpenLaw}{n:Nat}(hn:l.most=some n){P:Params}{h:Heap}{args:List WData}{vals:List Value}
 (hpre:l.row.toRowW.claim.pre args=true) (hwl:WellAll P h vals args) :
 ∃a vs ns,vals=[Value.ref a]/\args=[WData.list (ns.map WData.int)]/\h.get? a=some {cls:=.type "list",data:=.seq vs.toArray}/\IntsAre vs ns/\ns.length<=n:=show _ by
 have hsh:WShape.hasAll [] args [.list .int]=true:=(pre_splitW hpre).1;have hc:l.pre.holds [] {args:=args}=true:=(pre_splitW hpre).2;obtain⟨d,r,rfl,h1,h2⟩:=hasAllW_cons hsh;obtain rfl:=hasAllW_nil h2;obtain⟨xs,rfl,h3⟩:=hasW_list h1;obtain⟨ns,rfl⟩:=items_int h3;have hlen:ns.length<=n:=by
  unfold OpenLaw.pre at hc;have h4:(WTm.not (.lt (.lit (.int (n:Int))) (.len (.arg 0)))).holds [] {args:=[.list (ns.map .int)]}=true:=by
   have h4:=(holds_andW hc).1;rw[hn]at h4;exact h4
  have h5:=condW_of h4 (w_not (w_lt w_lit (w_len_list (w_arg rfl))));rw[az]at h5;refine MD λq=>?_;have q':(n:Int)<((ns.length:Nat):Int):=by lia
  first
   |(rw[decide_eq_true q']at h5;exact absurd h5 (by decide))
   |(simp at h5;lia)
 cases hwl with
 |cons w1 w2 =>
  cases w2;cases w1 with
  |list ho hall=>exact⟨_,_,ns,rfl,rfl,ho,Qt ns _ hall,hlen⟩
theorem Qv(l:OpenLaw)(args:List WData):l.row.toRowW.claim.post args (.bool true) args=true :=
 postW_of (r:=l.row.toRowW) (X:=(true==true))
  (show WShape.has [] (.bool true) .bool=true by first|rfl|decide|simp[WShape.has,WShape.arms,WShape.armsAll])
  (show(WTm.eq .res (.lit (.bool true))).value [] {args:=args,res:=some (.bool true),after:=args}=some (.bool (true==true)) from w_eq_bool (w_res rfl) w_lit) rfl
theorem Qw{l:OpenLaw}{n:Nat}{q:Program}{loose:List Str}{XP:(Str->Option Value)->Heap->Prop}{YP:World->Heap->Prop}{d:DefRec}
 (hn:l.most=some n) (hdf:d.params.defaults=[])
 (call:∀(w:World) (s₀ s₁:Shared) (mg mb:Str->Option Value) (fa:Addr) (o:Obj) (pm cd doc:Value) (a:Addr) (vs:List Value) (ns:List Int),
  Ground q loose [] XP w s₀ mg mb s₁.heap->YP w s₁.heap ->
  s₁.heap.get? fa=some o->o.data=.func (docDef d.name d.params d.body d.scope pm cd doc)->s₁.heap.CodeRec cd d.name->mg d.name=some (.ref fa) ->
  s₁.heap.get? a=some {cls:=.type "list",data:=.seq vs.toArray}->IntsAre vs ns->ns.length<=n->s₁.gens=#[] ->
  codeAny (model l.prog w) callerA (.call (.ref fa) ⟨[.ref a],[]⟩) (λr s'=>r=.ok (.ret (.bool true))/\OldK s₁.heap s'.heap/\s'.os=s₁.os/\AllBare s'.gens) s₁) :
 WalkO q loose XP YP l.row.toRowW d [] (λf vs=>C3 f vs):=show _ by
 intro w s₀ s₁ mg mb G Y fa o pm cd doc dV kV ho hd hcd hD hmg hg args vals as hpre hlay hrd hwl hlo;obtain rfl:dV=.none:=Dflts.none hD hdf;obtain rfl:kV=.none:=Dflts.noKw hD;obtain⟨a,vs,ns,rfl,rfl,hobj,hints,hlen⟩:=Qu hn hpre hwl;refine enter_call (C4 (call w s₀ s₁ mg mb fa o pm cd doc a vs ns G Y ho (fd_plain hd) hcd hmg hobj hints hlen hg) λr s' hq=>?_);obtain⟨rfl,h2,h3,h4⟩:=hq;exact⟨.inl ⟨.bool true,.bool true,[],rfl,λ_=>rfl,.bool true,Qv l _,λ_=>⟨List.Pairwise.nil,λ_ hm=>(nomatch hm)⟩⟩,h2,h3,h4⟩
end EG
namespace L2
open PySem PySem.Spec PyProof.Rows
theorem rp:∀{vs:List Value} {ns:List Int},IntsAre vs ns->Vals (ns.map V.int) vs
 |_,_,.nil=>.nil
 |_,_,.cons n t h=>.cons ⟨t,rfl⟩ (rp h)
def rq(H:Hp):Prop:=∀b,H b=none∨∃o xs,H b=some (.dQ o (.lst xs))
theorem Qx{P:Program}{w:World}{K:ax}{mg mb:Str->Option Value}{CX:gV}{k:Nat}{fa a:Addr}{fd:FuncData}{x:Str}{sp:Sp}{s₁:Shared}{vs:List Value}{ns:List Int}
 (KX:K.In s₁.heap) (hns:s₁.heap.Ns mainGlobals mg) (hb:s₁.heap.Ns builtinsNs mb) (hbb:∀x:Str,x≠"__name__"->mb x=bootBuiltins x) (hlim:s₁.heap.NoLimit) (hg:s₁.gens=#[])
 (ha:s₁.heap.get? a=some {cls:=.type "list",data:=.seq vs.toArray}) (hi:IntsAre vs ns) (hl:ns.length<=sizeLine) (hr:cP k callerA)
 (F:∀base:Heap,K.In base->base.Ns mainGlobals mg->d9 P w K mg base CX k fa fd [x] sp) (hbind:∀(s:Shared) (u:Value),BindsTo s fd ⟨[u],[]⟩ [(x,u)])
 (hsp:∀H:Hp,rq H->bc K H a (ns.map V.int)->sp [.ref a] H (λv _=>v=.bl true) λ_ _ _=>False)
 (yI:∀H e s',CX [] H s₁ (λ_ _ _=>False) e s'->False) :
 codeAny (model P w) callerA (.call (.ref fa) ⟨[.ref a],[]⟩) (λr s'=>r=.ok (.ret (.bool true))/\OldK s₁.heap s'.heap/\s'.os=s₁.os/\AllBare s'.gens) s₁:=show _ by
 have rv:=rp hi;have lenV:=hi.length;have core:∀H:Hp,rq H->bc K H a (ns.map V.int)->cw P w H s₁.heap->(∀b,H b≠none->b=a)->(H a≠none->K.lookup a=none) ->
  codeAny (model P w) callerA (.call (.ref fa) ⟨[.ref a],[]⟩) (λr s'=>r=.ok (.ret (.bool true))/\OldK s₁.heap s'.heap/\s'.os=s₁.os/\AllBare s'.gens) s₁:=by
  intro H hO hS hok hA hK;have EH:∀{b:Addr} {o:Obj},s₁.heap.get? b=some o->H b=none->(ku s₁.heap H).get? b=some o:=λe n=>NU e n;have qW:∀{b:Addr} {o:Obj} {es:Array DictEntry} {ep:Nat},s₁.heap.get? b=some o->o.data=.dict es ep->H b=none:=λ{b o es ep} e d=>by
   cases q:H b with
   |none=>rfl
   |some u =>
    have e':b=a:=hA b (by rw[q];simp);subst e';rw[ha]at e;cases e;have d':Data.seq vs.toArray _=Data.dict es ep:=d;cases d'
  have uK:∀{b:Addr} {m:Str->Option Value},s₁.heap.Ns b m->(ku s₁.heap H).Ns b m:=λ{b m} rA=>by obtain⟨o,es,ep,e,d,r⟩:=rA;exact⟨o,es,ep,EH e (qW e d),d,r⟩
  have EI:K.In (ku s₁.heap H):=λb o e=>EH (KX b o e) (by
   cases q:H b with
   |none=>rfl
   |some u =>
    have e':b=a:=hA b (by rw[q];simp);subst e';rw[hK (by rw[q];simp)]at e;cases e)
  have hM:Mod K mg (ku s₁.heap H):=⟨EI,uK hns,⟨mb,uK hb,hbb⟩,let⟨mc,h1,h2⟩:=hlim;⟨mc,uK h1,h2⟩⟩;have e0:uC P w K mg (ku s₁.heap H) callerA [] s₁ H:=⟨rfl,hM,λb o e=>NV e,Nat.le_of_eq (NT _ _),trivial,λb hb=>absurd (show b∈([]:List Addr) from hb) (by simp),hok,.of_eq hg⟩;refine C4 ((F _ EI (uK hns)).run callerA [] s₁ H ⟨[.ref a],[]⟩ [.ref a] [.ref a] _ _ hr e0 (hbind s₁ (.ref a)) (.cons rfl .nil) (hsp H hO hS)) λr s' h=>?_;cases r with
  |error e=>exact(yI H e s' h).elim
  |ok fl =>
   cases fl with
   |next=>exact gN h
   |brk=>exact gN h
   |cont=>exact gN h
   |ret u =>
    obtain⟨v,H',os,bare,un,hok',r',q⟩:=h;have q':v=.bl true:=q;subst q';obtain rfl:u=Value.bool true:=r';refine⟨rfl,OldK.of_keep λb o e=>?_,os,bare⟩;cases q:H b with
    |none=>exact un.keep b o e q (by intro z;exact absurd (show b∈([]:List Addr) from z) (by simp)) (by simp)
    |some u =>
     rcases hO b with z|⟨ob,xs,z⟩
     ·rw[q]at z;cases z
     ·have z2:=un.gy b ob _ z;obtain⟨e1,_⟩:=hok b _ z;obtain⟨e2,_⟩:=hok' b _ z2;rw[e]at e1;cases e1;exact e2
 cases hk:K.lookup a with
 |some o =>
  have e:=KX a o hk;rw[ha]at e;cases e;refine core (λ_=>none) (λ_=>.inl rfl) (.inr ⟨_,vs.toArray,_,hk,rfl,rfl,rfl,by rw[cu,lenV];exact hl,by simpa using rv⟩) (λb u z=>by have z':(none:Option HO)=some u:=z;cases z') (λb z=>absurd rfl z) λz=>absurd rfl z
 |none =>
  refine core (λb=>if b=a then some (.dQ {cls:=.type "list",data:=.seq vs.toArray} (.lst (ns.map V.int))) else none) (λb=>?_) (.inl (.inr ⟨{cls:=.type "list",data:=.seq vs.toArray},if_pos rfl⟩)) (λb u z=>?_) (λb z=>?_) λ_=>hk
  ·by_cases hb:b=a
   ·exact .inr ⟨_,_,if_pos hb⟩
   ·exact .inl (if_neg hb)
  ·by_cases hb:b=a
   ·have z':=(if_pos hb).symm.trans z;cases z';subst hb;exact⟨ha,by rw[az];exact hl,vs,_,rv,ha⟩
   ·have z':=(if_neg hb).symm.trans z;cases z'
  ·by_cases hb:b=a
   ·exact hb
   ·exact absurd (if_neg hb) z
theorem Qy{l:C5}{n k:Nat}{q:Program}{loose:List Str}{XP:(Str->Option Value)->Heap->Prop}{YP:World->Heap->Prop}{d:DefRec}{K:Params->ax}{CX:World->gV}{sp:World->Sp}{x:Str}
 (hn:l.most=some n) (hn2:n<=sizeLine) (hdf:d.params.defaults=[]) (hr:cP k callerA)
 (hY:∀(w:World) (h:Heap),YP w h->(K w.params).In h)
 (F:∀(w:World) (mg:Str->Option Value) (fa:Addr) (h:Heap),(K w.params).In h->h.Ns mainGlobals mg->mg d.name=some (.ref fa) ->
  ∃fd:FuncData,(∀(s:Shared) (u:Value),BindsTo s fd ⟨[u],[]⟩ [(x,u)]) /\
   ∀base:Heap,(K w.params).In base->base.Ns mainGlobals mg->d9 l.prog w (K w.params) mg base (CX w) k fa fd [x] (sp w))
 (hsp:∀(w:World) (H:Hp) (a:Addr) (ns:List Int),ns.length<=n->rq H->bc (K w.params) H a (ns.map V.int)->sp w [.ref a] H (λv _=>v=.bl true) λ_ _ _=>False)
 (yI:∀(w:World) (H:Hp) (s:Shared) (e:Value) (s':Shared),CX w [] H s (λ_ _ _=>False) e s'->False) :
 ME q loose XP YP l.row.toRowW d [] (λf vs=>C3 f vs):=show _ by
 refine EG.Qw hn hdf λw s₀ s₁ mg mb fa o pm cd doc a vs ns G Y ho hd hcd hmg hobj hints hlen hg=>?_;have KX:=hY w _ Y;obtain⟨fd,hb,hF⟩:=F w mg fa _ KX G.T.g hmg;exact Qx KX G.T.g G.T.b G.T.builtins G.T.nolimit hg hobj hints (b5 hlen hn2) hr hF hb (λH hO hS=>hsp w H a ns hlen hO hS) λH e s'=>yI w H s₁ e s'
def bA(s:Stmt):Arguments:=match s with
 | .FunctionDef _ a _ _ _ _ _ _ _ _=>a
 |_=>{posonlyargs:=[],args:=[],vararg:=none,kwonlyargs:=[],kw_defaults:=[],kwarg:=none,defaults:=[]}
def a_(s:Stmt):List Stmt:=match s with
 | .FunctionDef _ _ b _ _ _ _ _ _ _=>b
 |_=>[]
def av(s:Stmt):Scope:=match s with
 | .FunctionDef _ _ _ _ _ _ sc _ _ _=>sc
 |_=>{kind:=.function,names:=[],isGenerator:=false,isCoroutine:=false}
abbrev E0:XK:=λ_ _ _=>False
structure oq(K:ax)(x qual:Str)(st:Stmt)(f:Addr)(fd:FuncData):Prop where
 ex:∃(oc:Value) (od:Option Addr) (kV doc pm:Value) (an:Option Addr) (cdv ct:Value) (osl:Array (Option Value)),
  fd=bt x qual (bA st) (a_ st) (av st) .none kV doc pm an cdv ct/\K.lookup f=some ⟨oc,od,.func fd,osl⟩/\bL K cdv qual=true
 kp:bI K (.ref f)=true
section
variable{P:Program}{w:World}{K:PySem.W.Frag}{mg:Str->Option Value}{base:Heap}
theorem oq.binds{x qual:Str}{st:Stmt}{f:Addr}{fd:FuncData}{ps:List Str}(F:oq K x qual st f fd)
 (h:∀(kV doc pm:Value) (an:Option Addr) (cdv ct:Value) (us:List Value),us.length=ps.length->bindArgs (bt x qual (bA st) (a_ st) (av st) .none kV doc pm an cdv ct) ⟨us,[]⟩=pure (ps.zip us)):Binds K fd ps []:=show _ by
 obtain⟨oc,od,kV,doc,pm,an,cdv,ct,osl,rfl,lk,hcd⟩:=F.ex;exact .all (h kV doc pm an cdv ct)
theorem EJ{x qual:Str}{st:Stmt}{f:Addr}{oc:Value}{od an:Option Addr}{osl:Array (Option Value)}{kV doc pm cdv ct:Value}(l:K.lookup f=some ⟨oc,od,.func (bt x qual (bA st) (a_ st) (av st) .none kV doc pm an cdv ct),osl⟩)
 (c:bL K cdv qual=true) (k:bI K (.ref f)=true):oq K x qual st f (bt x qual (bA st) (a_ st) (av st) .none kV doc pm an cdv ct):=⟨⟨oc,od,kV,doc,pm,an,cdv,ct,osl,rfl,l,c⟩,k⟩
end
theorem EK{A:Around}{k:Nat}(hr:cP k A):A.units+5<cLine:=C6 (Nat.add_le_add_left (by decide:5<=64) _) hr.units
theorem uL{A B:Prop}(h:B):if false=true then A else B:=by
 rw[if_neg cT];exact h
theorem uM{A B:Prop}(h:A):if true=true then A else B:=by
 rw[if_pos rfl];exact h
theorem yJ{c A B:Prop}[Decidable c](hc:c)(h:B):if(!decide c)=true then A else B:=by
 rw[decide_eq_true hc];exact uL h
section
variable{κ:Type}[DecidableEq κ]
def gX(kvs:List (κ×V))(k:κ):Option V:=(kvs.find? λkv=>decide (kv.1=k)).map (·.2)
def putK(kvs:List (κ×V))(k:κ)(v:V):List (κ×V) :=
 if(kvs.any λkv=>decide (kv.1=k))=true then kvs.map (λkv=>if kv.1=k then(kv.1,v) else kv) else kvs++[(k,v)]
theorem uN{p:κ×V}{r:List (κ×V)}{k:κ}(e:p.1=k):gX (p::r) k=some p.2:=by simp[gX,mI,e]
theorem uO{p:κ×V}{r:List (κ×V)}{k:κ}(e:¬p.1=k):gX (p::r) k=gX r k:=by simp[gX,mI,e]
theorem EL(k:κ):∀kvs:List (κ×V),(kvs.any λkv=>decide (kv.1=k))=(gX kvs k).isSome
 |[]=>rfl
 |p::r=>by
  rw[mH];by_cases e:p.1=k
  ·simp only[uN e,decide_eq_true e,Bool.true_or,C7]
  ·rw[uO e,decide_eq_false e,Bool.false_or];exact EL k r
theorem EM(kvs:List (κ×V))(k:κ)(v:V):(putK kvs k v).length<=kvs.length+1:=by
 unfold putK
 split
 ·rw[az];lia
 ·rw[bx,cK,fO];lia
theorem mM.rB{o:Option V}{u:Option Value}(r:mM o u):o.isSome=u.isSome:=show _ by
 cases o with
 |none=>cases u with
  |none=>rfl
  |some _=>exact(show False from r).elim
 |some _=>cases u with
  |none=>exact(show False from r).elim
  |some _=>rfl
theorem KV.val{kvs:List (κ×V)}{vs:List (κ×Value)}(r:KV kvs vs)(k:κ):mM (gX kvs k) (valueAt vs k):=show _ by
 unfold KV at r
 induction r with
 |nil=>exact True.intro
 |@cons p q ps qs h t ih =>
  obtain⟨h1,h2⟩:=h;by_cases e:p.1=k
  ·have e':q.1=k:=h1.symm.trans e;have b:valueAt (q::qs) k=some q.2:=by simp[valueAt,mI,e']
   rw[uN e,b];exact h2
  ·have e':¬q.1=k:=λz=>e (h1.trans z);have b:valueAt (q::qs) k=valueAt qs k:=by simp[valueAt,mI,e']
   rw[uO e,b];exact ih
theorem KV.any{kvs:List (κ×V)}{vs:List (κ×Value)}(r:KV kvs vs)(k:κ):(kvs.any λkv=>decide (kv.1=k))=vs.any λkv=>decide (kv.1=k):=show _ by
 unfold KV at r
 induction r with
 |nil=>rfl
 |cons h t ih=>rw[mH,mH,ih,h.1]
theorem KV.repl{kvs:List (κ×V)}{vs:List (κ×Value)}(r:KV kvs vs)(k:κ){y:V}{u:Value}(ry:RelV y u) :
 KV (kvs.map λkv=>if kv.1=k then(kv.1,y) else kv) (vs.map λkv=>if kv.1=k then(kv.1,u) else kv):=show _ by
 unfold KV at r ⊢
 induction r with
 |nil=>exact .nil
 |@cons p q ps qs h t ih =>
  rw[bT,bT];refine .cons ?_ ih;obtain⟨h1,h2⟩:=h;by_cases e:p.1=k
  ·rw[if_pos e,if_pos (h1.symm.trans e)];exact⟨h1,ry⟩
  ·rw[if_neg e,if_neg (λz=>e (h1.trans z))];exact⟨h1,h2⟩
theorem KV.put{kvs:List (κ×V)}{vs:List (κ×Value)}(r:KV kvs vs)(k:κ){y:V}{u:Value}(ry:RelV y u):KV (putK kvs k y) (stored vs k u):=show _ by
 unfold putK stored;rw[r.any k];by_cases e:(vs.any λkv=>decide (kv.1=k))=true
 ·rw[if_pos e,if_pos e];exact r.repl k ry
 ·rw[if_neg e,if_neg e];exact Paired.snoc r ⟨rfl,ry⟩
theorem KV.length{kvs:List (κ×V)}{vs:List (κ×Value)}(r:KV kvs vs):kvs.length=vs.length:=Paired.length r
end
theorem yK{P:Program}{w:World}{k:Key}{u:Value}(r:RelV (kV k) u):(gv P w).is k u=true:=show _ by
 cases k with
 |inl i=>obtain⟨t,e⟩:=(show ∃t,u=Value.int i t from r);subst e;exact ya P w i t
 |inr x=>obtain⟨t,e⟩:=(show ∃t,u=Value.str x t from r);subst e;exact yb P w x t
abbrev KT(H:Hp):List (DK×V)->List (DK×Addr×Value)->Prop:=Paired λp q=>p.1=q.1/\eQ H p.1 q.2.1/\RelV p.2 q.2.2
theorem KT.val{H:Hp}{kvs:List (DK×V)}{xs:List (DK×Addr×Value)}(r:KT H kvs xs)(k:DK):mM (gX kvs k) ((atKey xs k).map (·.2)):=show _ by
 induction r with
 |nil=>exact True.intro
 |@cons p q ps qs h t ih =>
  obtain⟨h1,_,h2⟩:=h;by_cases e:p.1=k
  ·have e':q.1=k:=h1.symm.trans e;have b:atKey (q::qs) k=some q.2:=by simp[atKey,mI,e']
   rw[uN e,b];exact h2
  ·have e':¬q.1=k:=λz=>e (h1.trans z);have b:atKey (q::qs) k=atKey qs k:=by simp[atKey,mI,e']
   rw[uO e,b];exact ih
theorem KT.repl{H:Hp}{kvs:List (DK×V)}{xs:List (DK×Addr×Value)}(r:KT H kvs xs)(k:DK){y:V}{u:Value}(ry:RelV y u) :
 KT H (kvs.map λkv=>if kv.1=k then(kv.1,y) else kv) (xs.map (putAt k u)):=show _ by
 induction r with
 |nil=>exact .nil
 |@cons p q ps qs h t ih =>
  rw[bT,bT];refine .cons ?_ ih;obtain⟨h1,h2,h3⟩:=h;unfold putAt;by_cases e:p.1=k
  ·rw[if_pos e,if_pos (h1.symm.trans e)];exact⟨h1,h2,ry⟩
  ·rw[if_neg e,if_neg (λz=>e (h1.trans z))];exact⟨h1,h2,h3⟩
theorem KT.put{H:Hp}{kvs:List (DK×V)}{xs:List (DK×Addr×Value)}(r:KT H kvs xs)(k:DK){b:Addr}{y:V}{u:Value}(hb:eQ H k b)(ry:RelV y u) :
 KT H (putK kvs k y) (storedH xs k b u):=show _ by
 have e:(kvs.any λkv=>decide (kv.1=k))=(atKey xs k).isSome:=by
  rw[EL,(r.val k).rB,xl]
 unfold putK storedH;rw[e];by_cases q:(atKey xs k).isSome=true
 ·rw[if_pos q,if_pos q];exact r.repl k ry
 ·rw[if_neg q,if_neg q];exact Paired.snoc r ⟨rfl,hb,ry⟩
theorem KT.keeps{H H':Hp}{kvs:List (DK×V)}{xs:List (DK×Addr×Value)}(r:KT H kvs xs)(ht:∀b ys,H b=some (.tup ys)->H' b=some (.tup ys)):KT H' kvs xs :=
 Paired.kq r λ_ _ z=>⟨z.1,z.2.1.mono ht,z.2.2⟩
section
variable{P:Program}{w:World}{H:Hp}{h:Heap}{a:Addr}
theorem EN{u:HO}(ok:cw P w H h)(e:Rd H a u):cM P w H h a u:=e.ok ok
theorem yL{kvs:List (Key×V)}(ok:cw P w H h)(e:Rd H a (.dK kvs)):kvs.length<=sizeLine/\(a==sysModules)=false/\∃vs,KV kvs vs/\h.DictOf (gv P w) a vs :=
 show cM P w H h a (.dK kvs) from EN ok e
theorem Qz{kvs:List (Key×V)}(ok:cw P w H h)(e:H a=some (.dK kvs)):kvs.length<=sizeLine/\(a==sysModules)=false/\∃vs,KV kvs vs/\h.DictOf (gv P w) a vs:=yL ok (.inl e)
mutual
theorem key_is{H:Hp}{h:Heap}(ok:cw P w H h):∀{k:DK} {v:V} {u:Value},iu H k v->RelV v u->d7 h k u
 |_,_,_,.int i,r=>by obtain⟨t,e⟩:=r;subst e;exact .int i t
 |_,_,_,.str x,r=>by obtain⟨t,e⟩:=r;subst e;exact .str x t
 |_,_,_,.tup (a:=a) (vs:=vs) h1 h2,r=>by
  obtain⟨_,its,rv,⟨o,g1,g2,n,g3⟩,_⟩:=(show cM P w H h a (.tup vs) from ok a _ h1);cases (show _=Value.ref a from r);exact .tup g1 g2 g3 (by simpa using EO ok h2 rv)
theorem EO{H:Hp}{h:Heap}(ok:cw P w H h):∀{ks:List DK} {vs:List V} {us:List Value},iw H ks vs->Vals vs us->dX h ks us
 |_,_,_,.nil,r=>by cases r;exact .nil
 |_,_,_,.cons h1 h2,r=>by
  cases r with
  |cons r1 r2=>exact .cons (key_is ok h1 r1) (EO ok h2 r2)
end
theorem rC{k:DK}(ok:cw P w H h)(e:eQ H k a):(gx P w).is h k a:=⟨key_is ok e.at_ rfl,e.deep⟩
theorem yM{A:Around}(hu:A.units+5<cLine):(gx P w).room A.in1:=by
 show A.units+1+4<cLine;lia
theorem yN{kvs:List (DK×V)}(ok:cw P w H h)(e:Rd H a (.dT kvs)):kvs.length<=sizeLine/\(a==sysModules)=false /\
 ∃xs,KT H kvs xs/\h.DictOfH (gx P w) a xs:=show _ by
 obtain⟨z,y,xs,r,o,es,ep,h1,h2,h3,h4,h5⟩:=(show cM P w H h a (.dT kvs) from EN ok e);refine⟨z,y,xs,r,o,es,ep,h1,h2,h3,h4,λx hx=>?_,h5⟩;have all:∀{l:List (DK×V)} {m:List (DK×Addr×Value)},KT H l m->∀x∈m,(gx P w).is h x.1 x.2.1:=by
  intro l m q
  induction q with
  |nil=>intro x hx;exact nomatch hx
  |@cons p q ps qs hq t ih =>
   intro x hx;rcases br.mp hx with e|hx
   ·subst e;exact rC ok (by rw[<-hq.1];exact hq.2.1)
   ·exact ih x hx
 exact all r x hx
theorem ER{kvs:List (DK×V)}(ok:cw P w H h)(e:H a=some (.dT kvs)):kvs.length<=sizeLine/\(a==sysModules)=false /\
 ∃xs,KT H kvs xs/\h.DictOfH (gx P w) a xs:=yN ok (.inl e)
end
def lX(H:Hp)(a:Addr)(y:V)(r:Option V):Prop :=
 (∃kvs k,Rd H a (.dK kvs)/\y=kV k/\r=gX kvs k)∨∃kvs k b,Rd H a (.dT kvs)/\y=.ref b/\eQ H k b/\r=gX kvs k
def rD(H:Hp)(a:Addr)(y v:V)(H':Hp):Prop :=
 (∃kvs k,H a=some (.dK kvs)/\y=kV k/\kvs.length<sizeLine/\H'=upd H a (.dK (putK kvs k v))) ∨
 ∃kvs k b,H a=some (.dT kvs)/\y=.ref b/\eQ H k b/\kvs.length<sizeLine/\H'=upd H a (.dT (putK kvs k v))
theorem lX.t{H:Hp}{a b:Addr}{kvs:List (DK×V)}{k:DK}(e:H a=some (.dT kvs))(eb:eQ H k b):lX H a (.ref b) (gX kvs k):=.inr ⟨kvs,k,b,.inl e,rfl,eb,rfl⟩
theorem rD.t{H:Hp}{a b:Addr}{kvs:List (DK×V)}{k:DK}{v:V}(e:H a=some (.dT kvs))(eb:eQ H k b)(hl:kvs.length<sizeLine) :
 rD H a (.ref b) v (upd H a (.dT (putK kvs k v))):=.inr ⟨kvs,k,b,e,rfl,eb,hl,rfl⟩
section
variable{X:Cx}{pins:List (Addr×Obj)}{σ:St}{H:Hp}{s:Shared}{a:Addr}{y v:V}{u r:Value}{o:Option V}{A:Around}{E:Value->Shared->Prop}
theorem Inv.big(I:Inv X pins σ H s):sysModules<s.heap.objs.size:=by
 have h:mainGlobals<s.heap.objs.size:=(I.mod.glob.keeps I.bk).lt;exact C8 (by decide) h
theorem QB{Q:Value->Shared->Prop}(hu:A.units+5<cLine)(I:Inv X pins σ H s)(g:lX H a y o)(ry:RelV y u)(h:∀s',Inv X pins σ H s'->Q (.bool o.isSome) s') :
 wpAny (model X.prog X.w) A (compareOp .In u (.ref a)) Q E s:=show _ by
 rcases g with⟨kvs,k,e,ey,l⟩|⟨kvs,k,b,e,ey,eb,l⟩
 ·subst ey;obtain⟨z,hd,vs,rel,dd⟩:=yL I.hok e;refine wpAny_in_of (yK ry) hd dd.mapOf ?_;rw[<-(rel.val k).rB,<-l];exact h _ (I.tok _)
 ·subst ey;cases (show u=Value.ref b from ry);obtain⟨z,hd,xs,rel,dd⟩:=yN I.hok e;refine wpAny_in_heap (yM hu) (rC I.hok eb) hd dd ?_;have q:=(rel.val k).rB;rw[xl]at q;rw[<-q,<-l];exact h _ (I.tok _)
theorem QC{Q:Value->Shared->Prop}(hu:A.units+5<cLine)(I:Inv X pins σ H s)(g:lX H a y o)(ry:RelV y u)(h:∀s',Inv X pins σ H s'->Q (.bool (!o.isSome)) s') :
 wpAny (model X.prog X.w) A (compareOp .NotIn u (.ref a)) Q E s:=show _ by
 rcases g with⟨kvs,k,e,ey,l⟩|⟨kvs,k,b,e,ey,eb,l⟩
 ·subst ey;obtain⟨z,hd,vs,rel,dd⟩:=yL I.hok e;refine wpAny_notIn_of (yK ry) hd dd.mapOf ?_;rw[<-(rel.val k).rB,<-l];exact h _ (I.tok _)
 ·subst ey;cases (show u=Value.ref b from ry);obtain⟨z,hd,xs,rel,dd⟩:=yN I.hok e;refine wpAny_notIn_heap (yM hu) (rC I.hok eb) hd dd ?_;have q:=(rel.val k).rB;rw[xl]at q;rw[<-q,<-l];exact h _ (I.tok _)
theorem ET{h':Heap}{t':Nat}{ob:HO}(I:Inv X pins σ H s)(mu:qI (H a))(hs:gc a s.heap h')(he:∃q,h'.get? a=some q)(new:cM X.prog X.w (upd H a ob) h' a ob) :
 Inv X pins σ (upd H a ob) {s with heap:=h',toks:=t'} :=
 I.write (x:=a) (e:=a) mu (.inl rfl) (λb q hb z=>(hs.2 b hb).trans z) he new
theorem QD{P:Program}{w:World}{H':Hp}{h':Heap}{kvs:List (Key×V)}{vs:List (Key×Value)}(z:kvs.length<=sizeLine)(hd:(a==sysModules)=false)(rel:KV kvs vs)(dd:h'.DictOf (gv P w) a vs) :
 cM P w H' h' a (.dK kvs):=⟨z,hd,vs,rel,dd⟩
theorem QE{H':Hp}{Q:Unit->Shared->Prop}(hu:A.units+5<cLine)(I:Inv X pins σ H s)(g:rD H a y v H')(ry:RelV y u)(rv:RelV v r)(h:∀s',Inv X pins σ H' s'->Q () s') :
 wpAny (model X.prog X.w) A (setItem (.ref a) u r) Q E s:=show _ by
 rcases g with⟨kvs,k,e,ey,l,eH⟩|⟨kvs,k,b,e,ey,eb,l,eH⟩
 ·subst ey eH;obtain⟨z,hd,vs,rel,dd⟩:=Qz I.hok e;have hz:vs.length<=sizeLine:=by rw[<-rel.length];exact z
  have hl:(putK kvs k v).length<=sizeLine:=by have:=EM kvs k v;lia
  refine wpAny_setItem_pairs (hsz:=hz) (yK ry) dd λh' uP hs=>h _ ?_;have he:∃q,h'.get? a=some q:=let⟨q,_,_,hq,_⟩:=uP;⟨q,hq⟩
  exact ET I (by rw[e];exact True.intro) hs he (QD hl hd (rel.put k rv) uP)
 ·subst ey eH;cases (show u=Value.ref b from ry);obtain⟨z,hd,xs,rel,dd⟩:=ER I.hok e;have hz:xs.length<=sizeLine:=by rw[<-Paired.length rel];exact z
  have hl:(putK kvs k v).length<=sizeLine:=by have:=EM kvs k v;lia
  refine wpAny_setItem_heap (hsz:=hz) (yM hu) (rC I.hok eb) dd λh' uP hs=>h _ ?_;obtain⟨q,es,ep,hq,h2,h3,h4,_,h5⟩:=uP;refine ET I (by rw[e];exact True.intro) hs ⟨q,hq⟩ ⟨hl,hd,_,(rel.put k eb rv).keeps λc ys ec=>?_,q,es,ep,hq,h2,h3,h4,h5⟩;rw[bo (NR ec e (λz=>nomatch z))];exact ec
end
def EU(ty td:TE):TE:=λσ H Q=>ty σ H λy H1=>td σ H1 λx H2=>∃a o,x=.ref a/\lX H2 a y o/\Q (.bl o.isSome) H2
def EV(ty td:TE):TE:=λσ H Q=>ty σ H λy H1=>td σ H1 λx H2=>∃a o,x=.ref a/\lX H2 a y o/\Q (.bl (!o.isSome)) H2
def QF(td ty tv:TE):TS:=λD σ H=>tv σ H λv H1=>td σ H1 λx H2=>ty σ H2 λy H3=>∃a H4,x=.ref a/\rD H3 a y v H4/\D.nx σ H4
section
variable{X:Cx}{o i e value:Expr}{pos pos' tpos:Pos}{td ty tv:TE}
theorem QG(hu:X.A.units+5<cLine)(hi:PE X i ty)(ho:PE X o td):PC X .In i o (EU ty td):=show _ by
 intro pins s σ H Q I h;refine aO (hi pins s σ H _ I h) λiv s1 ⟨y,H1,I1,ry,q1⟩=>aO (ho pins s1 σ H1 _ I1 q1) λu s2 ⟨x,H2,I2,rx,a,ov,ex,g,q2⟩=>?_;subst ex;obtain rfl:u=Value.ref a:=rx;exact QB hu I2 g ry λs3 I3=>⟨.bl ov.isSome,H2,I3,rfl,q2⟩
theorem QH(hu:X.A.units+5<cLine)(hi:PE X i ty)(ho:PE X o td):PC X .NotIn i o (EV ty td):=show _ by
 intro pins s σ H Q I h;refine aO (hi pins s σ H _ I h) λiv s1 ⟨y,H1,I1,ry,q1⟩=>aO (ho pins s1 σ H1 _ I1 q1) λu s2 ⟨x,H2,I2,rx,a,ov,ex,g,q2⟩=>?_;subst ex;obtain rfl:u=Value.ref a:=rx;exact QC hu I2 g ry λs3 I3=>⟨.bl (!ov.isSome),H2,I3,rfl,q2⟩
theorem QI(hu:X.A.units+5<cLine)(ho:PE X o td)(hi:PE X i ty)(hv:PE X value tv)(hs:swapsWith value (some (.Subscript o i pos')) pos.line X.env=pure false) :
 PS X (.Assign [.Subscript o i pos'] value pos) (QF td ty tv):=show _ by
 intro pins s σ H D I h;refine wpAny_Assign_Subscript (aO (hv pins s σ H _ I h) λr s1 ⟨v,H1,I1,rv,q1⟩=>aO (ho pins s1 σ H1 _ I1 q1) λu s2 ⟨x,H2,I2,rx,q2⟩=>aO (hi pins s2 σ H2 _ I2 q2) λiv s3 ⟨y,H3,I3,ry,a,H4,ex,g,q3⟩=>?_) hs;subst ex;obtain rfl:u=Value.ref a:=rx;exact QE hu I3 g ry rv λs4 I4=>⟨σ,H4,I4,q3⟩
end
theorem QJ{P:Program}{w:World}{H:Hp}(h:Heap)(hb:sysModules<h.objs.size):cM P w H (h.push {cls:=.type "dict",data:=.dict #[]}) h.objs.size (.dT []) :=
 ⟨eO _,beq_eq_false_iff_ne.mpr (bE (dj hb)),[],.nil,_,#[],0,du _ rfl,⟨rfl,rfl,rfl⟩,rfl,rfl,List.nodup_nil⟩
def QK:TE:=λ_ H Q=>∀p,H p=none->Q (.ref p) (upd H p (.dT []))
section
variable{X:Cx}{pos:Pos}
theorem QL:PE X (.Dict [] [] pos) QK:=λpins s σ H Q I h =>
 wpAny_Dict_empty ⟨.ref s.heap.objs.size,_,I.laid (a:=s.heap.objs.size) (o:=.dT []) (t':=s.toks) (λ_ _ q=>bC _ q) (a8 _) (QJ s.heap I.big),rfl,h _ (I.hok.fresh (a8 _))⟩
end
end L2
namespace L2
open PySem PySem.Spec PyProof.Rows
end L2
namespace EE
open PySem PySem.Spec PyProof.Rows L2
structure aE(K:ax)(mg:Str->Option Value)(x:Str)(st:Stmt)(ps:List Str):Prop where
 ex:∃f fd,oq K x x st f fd/\Binds K fd ps []/\mg x=some (.ref f)
section
variable{P:Program}{w:World}{K:PySem.W.Frag}{mg:Str->Option Value}{base:Heap}
theorem bU{h:Heap}{x:Str}{st:Stmt}{ps:List Str}{f:Addr}{oc:Value}{od an:Option Addr}{osl:Array (Option Value)}{kV doc pm cdv ct:Value}(X:K.In h)(G:h.Ns mainGlobals mg)
 (a:ba K mainGlobals x=some (some (.ref f))) (l:K.lookup f=some ⟨oc,od,.func (bt x x (bA st) (a_ st) (av st) .none kV doc pm an cdv ct),osl⟩)
 (c:bL K cdv x=true) (k:bI K (.ref f)=true)
 (hb:∀(kV doc pm:Value) (an:Option Addr) (cdv ct:Value) (us:List Value),us.length=ps.length->bindArgs (bt x x (bA st) (a_ st) (av st) .none kV doc pm an cdv ct) ⟨us,[]⟩=pure (ps.zip us)):aE K mg x st ps:=show _ by
 have F:=EJ (st:=st) l c k;exact⟨f,_,F,F.binds hb,n6 X G a⟩
end
section
variable{X:Cx}{k:Nat}{ps:List Str}{sp:Sp}{x:Str}{p pos:Pos}{e:Expr}{es:List Expr}{t:TA}
theorem QM{i:Int}(h:∃t,X.mg x=some (.int i t))(hg:Gl X x)(hd:(x==("__debug__":Str))=false:=by decide):PE X (.Name x pos) (tC (.int i)):=show _ by
 obtain⟨t,e⟩:=h;exact N6 (v:=.int i) hg e ⟨t,rfl⟩ hd
theorem QN(K:ax)(n:String):mF K (.type n) (.type n)=some true:=by
 unfold mF;rw[if_pos (by simp)]
def EW:V->List V->Hp->VK->Prop:=λx vs H Q=>∃l ys y,x=.ref l/\vs=[]/\H l=some (.lst (ys++[y]))/\Q y (upd H l (.lst ys))
theorem EX:rk X "list.pop" EW:=show _ by
 intro pins s σ H x vs v us Q I rx rv h;obtain⟨l,ys,y,rfl,rfl,hH,q⟩:=h;refine Qr pins s σ H _ _ v us Q I rx rv ⟨l,ys++[y],y,rfl,rfl,hH,by simp,?_⟩;rw[List.dropLast_concat];exact q
end
theorem EY{c A B:Prop}[Decidable c](hc:¬c)(h:A):if(!decide c)=true then A else B:=by
 rw[decide_eq_false hc];exact uM h
theorem rE{c A B:Prop}[Decidable c](hc:c)(h:A):if decide c=true then A else B:=by
 rw[decide_eq_true hc];exact uM h
theorem uQ{c A B:Prop}[Decidable c](hc:¬c)(h:B):if decide c=true then A else B:=by
 rw[decide_eq_false hc];exact uL h
theorem QP{c A B:Prop}[Decidable c](h1:c->A)(h2:¬c->B):if decide c=true then A else B:=by
 by_cases h:c
 ·exact rE h (h1 h)
 ·exact uQ h (h2 h)
theorem snoc_cases{α:Type}(xs:List α):xs=[]∨∃ys y,xs=ys++[y]:=show _ by
 cases xs with
 |nil=>exact .inl rfl
 |cons a r=>exact .inr ⟨(a::r).dropLast,(a::r).getLast (by simp),(List.dropLast_concat_getLast (by simp)).symm⟩
inductive uR where
 |b6
 |pair (l r:uR)
def uR.size:uR->Nat
 | .b6=>0
 | .pair l r=>l.size+r.size+1
def TR(H:Hp):uR->V->Prop
 | .b6,v=>v=.non
 | .pair l r,v=>∃a x y,v=.ref a/\H a=some (.tup [x,y])/\TR H l x/\TR H r y
end EE
namespace EE
open PySem PySem.Spec PyProof.Rows L2 SeqAt
inductive Dt where
 |non|bl (b:Bool)|int (i:Int)|str (x:Str)|tup (xs:List Dt)|lst (xs:List Dt)
mutual
def aW:Dt->Dt->Bool
 | .non,.non=>true
 | .bl a,.bl b=>a==b
 | .bl a,.int b=>(if a then 1 else 0)==b
 | .int a,.bl b=>a==(if b then 1 else 0)
 | .int a,.int b=>a==b
 | .str a,.str b=>a==b
 | .tup xs,.tup ys=>gB xs ys
 | .lst xs,.lst ys=>gB xs ys
 |_,_=>false
def gB:List Dt->List Dt->Bool
 |[],[]=>true
 |x::xs,y::ys=>aW x y&&gB xs ys
 |_,_=>false
end
mutual
def cW:Dt->Nat
 | .tup xs=>d_ xs+1
 | .lst xs=>d_ xs+1
 |_=>0
def d_:List Dt->Nat
 |[]=>0
 |x::xs=>max (cW x) (d_ xs)
end
mutual
theorem mU:∀d:Dt,aW d d=true
 | .non=>rfl
 | .bl b=>by simp[aW]
 | .int i=>by simp[aW]
 | .str x=>by simp[aW]
 | .tup xs=>by simp only[aW];exact yO xs
 | .lst xs=>by simp only[aW];exact yO xs
theorem yO:∀ds:List Dt,gB ds ds=true
 |[]=>rfl
 |d::ds=>by simp only[gB,mU d,yO ds,nU]
end
mutual
def iZ:Dt->Bool
 | .bl _=>false
 | .tup xs=>i5 xs
 | .lst xs=>i5 xs
 |_=>true
def i5:List Dt->Bool
 |[]=>true
 |x::xs=>iZ x&&i5 xs
end
mutual
theorem EZ:∀{d e:Dt},iZ d=true->iZ e=true->aW d e=true->d=e
 | .non,.non,_,_,_=>rfl
 | .int a,.int b,_,_,h=>by simp only[aW,beq_iff_eq]at h;rw[h]
 | .str a,.str b,_,_,h=>by simp only[aW,beq_iff_eq]at h;rw[h]
 | .tup xs,.tup ys,p,q,h=>by
  simp only[aW]at h;simp only[iZ]at p q;rw[yP p q h]
 | .lst xs,.lst ys,p,q,h=>by
  simp only[aW]at h;simp only[iZ]at p q;rw[yP p q h]
 | .bl _,_,p,_,_=>by simp[iZ]at p
 |_,.bl _,_,q,_=>by simp[iZ]at q
 | .non,.int _,_,_,h=>by simp[aW]at h
 | .non,.str _,_,_,h=>by simp[aW]at h
 | .non,.tup _,_,_,h=>by simp[aW]at h
 | .non,.lst _,_,_,h=>by simp[aW]at h
 | .int _,.non,_,_,h=>by simp[aW]at h
 | .int _,.str _,_,_,h=>by simp[aW]at h
 | .int _,.tup _,_,_,h=>by simp[aW]at h
 | .int _,.lst _,_,_,h=>by simp[aW]at h
 | .str _,.non,_,_,h=>by simp[aW]at h
 | .str _,.int _,_,_,h=>by simp[aW]at h
 | .str _,.tup _,_,_,h=>by simp[aW]at h
 | .str _,.lst _,_,_,h=>by simp[aW]at h
 | .tup _,.non,_,_,h=>by simp[aW]at h
 | .tup _,.int _,_,_,h=>by simp[aW]at h
 | .tup _,.str _,_,_,h=>by simp[aW]at h
 | .tup _,.lst _,_,_,h=>by simp[aW]at h
 | .lst _,.non,_,_,h=>by simp[aW]at h
 | .lst _,.int _,_,_,h=>by simp[aW]at h
 | .lst _,.str _,_,_,h=>by simp[aW]at h
 | .lst _,.tup _,_,_,h=>by simp[aW]at h
theorem yP:∀{ds es:List Dt},i5 ds=true->i5 es=true->gB ds es=true->ds=es
 |[],[],_,_,_=>rfl
 |d::ds,e::es,p,q,h=>by
  simp only[i5,gq]at p q;simp only[gB,gq]at h;rw[EZ p.1 q.1 h.1,yP p.2 q.2 h.2]
 |[],_::_,_,_,h=>by simp[gB]at h
 |_::_,[],_,_,h=>by simp[gB]at h
end
mutual
inductive DR(K:ax)(H:Hp):Dt->V->Prop where
 |non:DR K H .non .non
 |bl (b:Bool):DR K H (.bl b) (.bl b)
 |int (i:Int):DR K H (.int i) (.int i)
 |str (x:Str):DR K H (.str x) (.str x)
 |tup {a:Addr} {xs:List V} {ds:List Dt}:bz K H a xs->dR K H ds xs->DR K H (.tup ds) (.ref a)
 |lst {a:Addr} {xs:List V} {ds:List Dt}:bc K H a xs->dR K H ds xs->DR K H (.lst ds) (.ref a)
inductive dR(K:ax)(H:Hp):List Dt->List V->Prop where
 |nil:dR K H [] []
 |cons {d:Dt} {v:V} {ds:List Dt} {vs:List V}:DR K H d v->dR K H ds vs->dR K H (d::ds) (v::vs)
end
section
variable{X:Cx}{pins:List (Addr×Obj)}{σ:L2.St}{H:Hp}{s:Shared}
theorem E1{a:Addr}{xs ys:List V}(I:Inv X pins σ H s)(h:bc X.K H a xs)(h':bz X.K H a ys):False:=show _ by
 obtain⟨its,_,p,_⟩:=I.list h;obtain⟨its',_,q,_⟩:=I.tuple h';exact ne_of_list_tuple p.isList (show s.heap.IsTuple a its'.toArray from q) rfl
mutual
theorem DR.inj(I:Inv X pins σ H s):∀{d e:Dt} {v:V},DR X.K H d v->DR X.K H e v->d=e
 |_,_,_,.non,h=>by cases h;rfl
 |_,_,_,.bl _,h=>by cases h;rfl
 |_,_,_,.int _,h=>by cases h;rfl
 |_,_,_,.str _,h=>by cases h;rfl
 |_,_,_,.tup p q,h=>by
  cases h with
  |tup p' q' =>
   have e:=I.qM p p';subst e;rw[dR.inj I q q']
  |lst p' q'=>exact(E1 I p' p).elim
 |_,_,_,.lst p q,h=>by
  cases h with
  |lst p' q' =>
   have e:=I.uq p p';subst e;rw[dR.inj I q q']
  |tup p' q'=>exact(E1 I p p').elim
theorem dR.inj(I:Inv X pins σ H s):∀{ds es:List Dt} {vs:List V},dR X.K H ds vs->dR X.K H es vs->ds=es
 |_,_,_,.nil,h=>by cases h;rfl
 |_,_,_,.cons p q,h=>by
  cases h with
  |cons p' q'=>rw[DR.inj I p p',dR.inj I q q']
end
theorem dR.len:∀{ds:List Dt} {vs:List V},dR X.K H ds vs->ds.length=vs.length
 |_,_,.nil=>rfl
 |_,_,.cons _ q=>by simp[dR.len q]
theorem dR.at:∀{ds:List Dt} {vs:List V} {i:Nat} {v:V},dR X.K H ds vs->vs[i]?=some v->∃d,ds[i]?=some d/\DR X.K H d v
 |_,_,_,_,.nil,e=>by simp at e
 |_,_,0,_,.cons r _,e=>by simp at e;subst e;exact⟨_,rfl,r⟩
 |_,_,i+1,v,.cons _ q,e=>by
  obtain⟨d,h1,h2⟩:=dR.at (i:=i) (v:=v) q (by simpa using e);exact⟨d,by simpa using h1,h2⟩
def iB(ds es:List Dt)(i:Nat):Bool:=match ds[i]?,es[i]? with
 |some d,some e=>aW d e
 |_,_=>true
theorem QQ(ds es:List Dt)(d e:Dt)(n:Nat):(aZ (n+1)).all (iB (d::ds) (e::es))=(aW d e&&(aZ n).all (iB ds es)):=by
 rw[LY,nW,qo];rfl
theorem uS:∀ds es:List Dt,gB ds es=((aZ (min ds.length es.length)).all (iB ds es)&&ds.length==es.length)
 |[],[]=>rfl
 |[],_::_=>by simp[gB]
 |_::_,[]=>by simp[gB]
 |d::ds,e::es=>by
  have ih:=uS ds es;simp only[gB,cK];rw[LZ,QQ,ih,L0];congr 2;rw[fv];simp
theorem yQ:∀{ds:List Dt} {i:Nat} {d:Dt},ds[i]?=some d->cW d<=d_ ds
 |[],_,_,e=>by simp at e
 |x::xs,0,_,e=>by simp at e;subst e;simp only[d_];lia
 |x::xs,i+1,d,e=>by
  have:=yQ (ds:=xs) (i:=i) (d:=d) (by simpa using e);simp only[d_];lia
theorem uT{xs:List V}{us:List Value}{j:Nat}(r:Vals xs us)(h:j<us.toArray.size):∃x,xs[j]?=some x/\RelV x us.toArray[j]:=show _ by
 have hl:=r.length;have hj:j<xs.length:=by simpa[hl]using h
 have e:xs[j]?=some xs[j]:=aU hj;obtain⟨u,hu,ru⟩:=r.get e;refine⟨_,e,?_⟩;have:us.toArray[j]=u:=by
  have z:us[j]?=some us[j]:=aU (by simpa using h);rw[z]at hu;simpa using dN hu
 rw[this];exact ru
theorem units_in1{A:Around}:A.in1.units=A.units+1:=rfl
theorem uU(I:Inv X pins σ H s):∀(n:Nat) (A:Around) (d e:Dt) (v v':V) (u u':Value),cW d<=n->A.units+n<cLine->DR X.K H d v->DR X.K H e v'->RelV v u->RelV v' u' ->
 RcAt A s u u' (aW d e)/\EqAt A s u u' (aW d e):=show _ by
 intro n
 induction n with
 |zero =>
  intro A d e v v' u u' hn hu hd he r r';have hu':A.units<cLine:=by lia
  cases hd with
  |non =>
   cases r;cases he with
   |non=>cases r';exact⟨RcAt.none_none,EqAt.same _⟩
   |bl b=>cases r';exact⟨RcAt.none_bool b,EqAt.none_bool b⟩
   |int b=>obtain⟨t,rfl⟩:=r';exact⟨RcAt.none_int b t,EqAt.none_int b t⟩
   |str b=>obtain⟨t,rfl⟩:=r';exact⟨RcAt.none_str b t,EqAt.none_str b t⟩
   |tup p q =>
    cases r';obtain⟨its,_,ht,_⟩:=I.tuple p;exact⟨RcAt.none_tuple ht hu',EqAt.none_tuple ht hu'⟩
   |lst p q =>
    cases r';obtain⟨its,_,ht,_⟩:=I.list p;exact⟨RcAt.none_list ht.isList hu',EqAt.none_list ht.isList hu'⟩
  |bl a =>
   cases r;cases he with
   |non=>cases r';exact⟨RcAt.bool_none a,EqAt.bool_none a⟩
   |bl b=>cases r';exact⟨RcAt.bool_bool a b,EqAt.bool_bool a b⟩
   |int b=>obtain⟨t,rfl⟩:=r';exact⟨RcAt.bool_int a b t,EqAt.bool_int a b t⟩
   |str b=>obtain⟨t,rfl⟩:=r';exact⟨RcAt.bool_str a b t,EqAt.bool_str a b t⟩
   |tup p q =>
    cases r';obtain⟨its,_,ht,_⟩:=I.tuple p;exact⟨RcAt.bool_tuple a ht hu',EqAt.bool_tuple a ht hu'⟩
   |lst p q =>
    cases r';obtain⟨its,_,ht,_⟩:=I.list p;exact⟨RcAt.bool_list a ht.isList hu',EqAt.bool_list a ht.isList hu'⟩
  |int a =>
   obtain⟨t0,rfl⟩:=r;cases he with
   |non=>cases r';exact⟨RcAt.int_none a t0,EqAt.int_none a t0⟩
   |bl b=>cases r';exact⟨RcAt.int_bool a t0 b,EqAt.int_bool a t0 b⟩
   |int b=>obtain⟨t,rfl⟩:=r';exact⟨RcAt.int_int a t0 b t,EqAt.int_int a t0 b t⟩
   |str b=>obtain⟨t,rfl⟩:=r';exact⟨RcAt.int_str a t0 b t,EqAt.int_str a t0 b t⟩
   |tup p q =>
    cases r';obtain⟨its,_,ht,_⟩:=I.tuple p;exact⟨RcAt.int_tuple a t0 ht hu',EqAt.int_tuple a t0 ht hu'⟩
   |lst p q =>
    cases r';obtain⟨its,_,ht,_⟩:=I.list p;exact⟨RcAt.int_list a t0 ht.isList hu',EqAt.int_list a t0 ht.isList hu'⟩
  |str a =>
   obtain⟨t0,rfl⟩:=r;cases he with
   |non=>cases r';exact⟨RcAt.str_none a t0,EqAt.str_none a t0⟩
   |bl b=>cases r';exact⟨RcAt.str_bool a t0 b,EqAt.str_bool a t0 b⟩
   |int b=>obtain⟨t,rfl⟩:=r';exact⟨RcAt.str_int a t0 b t,EqAt.str_int a t0 b t⟩
   |str b=>obtain⟨t,rfl⟩:=r';exact⟨RcAt.str_str a t0 b t,EqAt.str_str a t0 b t⟩
   |tup p q =>
    cases r';obtain⟨its,_,ht,_⟩:=I.tuple p;exact⟨RcAt.str_tuple a t0 ht hu',EqAt.str_tuple a t0 ht hu'⟩
   |lst p q =>
    cases r';obtain⟨its,_,ht,_⟩:=I.list p;exact⟨RcAt.str_list a t0 ht.isList hu',EqAt.str_list a t0 ht.isList hu'⟩
  |tup p q=>simp[cW]at hn
  |lst p q=>simp[cW]at hn
 |succ n ih =>
  intro A d e v v' u u' hn hu hd he r r';by_cases h0:cW d<=n
  ·exact ih A d e v v' u u' h0 (by lia) hd he r r'
  have hu':A.units<cLine:=by lia
  have items:∀{xs ys:List V} {ds es:List Dt} {its its2:List Value},d_ ds<=n->dR X.K H ds xs->dR X.K H es ys->Vals xs its->Vals ys its2 ->
   ∀j (h1:j<its.toArray.size) (h2:j<its2.toArray.size),EqAt A.in1 s its.toArray[j] its2.toArray[j] (iB ds es j):=λ{xs ys ds es its its2} hdd q q' rv rv' j h1 h2=>by
   obtain⟨x,hx,rx⟩:=uT rv h1;obtain⟨y,hy,ry⟩:=uT rv' h2;obtain⟨dx,lL,qF⟩:=q.at hx;obtain⟨dy,qG,qH⟩:=q'.at hy;have DJ:=yQ lL;have:=(ih A.in1 dx dy x y _ _ (by lia) (by rw[units_in1];lia) qF qH rx ry).2;unfold iB;rw[lL,qG];exact this
  cases hd with
  |non=>exact absurd (eO _) h0
  |bl _=>exact absurd (eO _) h0
  |int _=>exact absurd (eO _) h0
  |str _=>exact absurd (eO _) h0
  |@tup a xs ds p q =>
   cases r;obtain⟨its,rv,ht,_⟩:=I.tuple p;cases he with
   |non=>cases r';exact⟨RcAt.tuple_none ht hu',EqAt.tuple_none ht hu'⟩
   |bl b=>cases r';exact⟨RcAt.tuple_bool b ht hu',EqAt.tuple_bool b ht hu'⟩
   |int b=>obtain⟨t,rfl⟩:=r';exact⟨RcAt.tuple_int b t ht hu',EqAt.tuple_int b t ht hu'⟩
   |str b=>obtain⟨t,rfl⟩:=r';exact⟨RcAt.tuple_str b t ht hu',EqAt.tuple_str b t ht hu'⟩
   |@tup b ys es p' q' =>
    cases r';obtain⟨its2,lY,fQ,_⟩:=I.tuple p';have hdd:d_ ds<=n:=by simp only[cW]at hn;lia
    have e:((aZ (min its.toArray.size its2.toArray.size)).all (iB ds es)&&its.toArray.size==its2.toArray.size)=aW (.tup ds) (.tup es):=by
     simp only[aW];rw[uS,q.len,q'.len,rv.length,lY.length];simp
    have rc:RcAt A s (.ref a) (.ref b) (aW (.tup ds) (.tup es)):=by
     rw[<-e];exact RcAt.tuples ht fQ hu' (items hdd q q' rv lY)
    refine⟨rc,?_⟩;by_cases hab:a=b
    ·subst hab;have ed:Dt.tup ds=Dt.tup es:=DR.inj I (.tup p q) (.tup p' q');rw[<-ed,mU];exact EqAt.same _
    ·exact EqAt.of_refs hab rc
   |@lst b ys es p' q' =>
    cases r';obtain⟨its2,_,fQ,_⟩:=I.list p';exact⟨RcAt.tuple_list ht fQ.isList hu',EqAt.tuple_list ht fQ.isList hu'⟩
  |@lst a xs ds p q =>
   cases r;obtain⟨its,rv,ht,_⟩:=I.list p;cases he with
   |non=>cases r';exact⟨RcAt.list_none ht.isList hu',EqAt.list_none ht.isList hu'⟩
   |bl b=>cases r';exact⟨RcAt.list_bool b ht.isList hu',EqAt.list_bool b ht.isList hu'⟩
   |int b=>obtain⟨t,rfl⟩:=r';exact⟨RcAt.list_int b t ht.isList hu',EqAt.list_int b t ht.isList hu'⟩
   |str b=>obtain⟨t,rfl⟩:=r';exact⟨RcAt.list_str b t ht.isList hu',EqAt.list_str b t ht.isList hu'⟩
   |@tup b ys es p' q' =>
    cases r';obtain⟨its2,_,fQ,_⟩:=I.tuple p';exact⟨RcAt.list_tuple ht.isList fQ hu',EqAt.list_tuple ht.isList fQ hu'⟩
   |@lst b ys es p' q' =>
    cases r';obtain⟨its2,lY,fQ,_⟩:=I.list p';have hdd:d_ ds<=n:=by simp only[cW]at hn;lia
    have rc:RcAt A s (.ref a) (.ref b) (aW (.lst ds) (.lst es)):=by
     simp only[aW];rw[uS,q.len,q'.len,rv.length,lY.length];by_cases hsz:its.length=its2.length
     ·have e:((aZ (min its.length its2.length)).all (iB ds es)&&its.length==its2.length)=(aZ its.toArray.size).all (iB ds es):=by
       simp[hsz]
      rw[e];exact RcAt.lists ht.isList fQ.isList (by simpa using hsz) hu' (items hdd q q' rv lY)
     ·have e:((aZ (min its.length its2.length)).all (iB ds es)&&its.length==its2.length)=false:=by
       rw[beq_eq_false_iff_ne.mpr hsz,Mz]
      rw[e];exact RcAt.lists_lengths ht.isList fQ.isList (by simpa using hsz) hu'
    refine⟨rc,?_⟩;by_cases hab:a=b
    ·subst hab;have ed:Dt.lst ds=Dt.lst es:=DR.inj I (.lst p q) (.lst p' q');rw[<-ed,mU];exact EqAt.same _
    ·exact EqAt.of_refs hab rc
theorem uV{n:Nat}(hu:X.A.units+n<cLine):cj X (compareOp .Eq) (λx y H Q=>∃d e,DR X.K H d x/\DR X.K H e y/\cW d<=n/\Q (.bl (aW d e)) H):=show _ by
 intro pins s σ H x y v u Q I rx ry h;obtain⟨d,e,hd,he,hn,q⟩:=h;exact(uU I n X.A d e x y v u hn hu hd he rx ry).1 X.prog X.w X.xe _ ⟨.bl (aW d e),H,I,rfl,q⟩
end
end EE
namespace EE
open PySem PySem.Spec PyProof.Rows L2
def textOf(cs:List Nat):Str:=⟨cs.toArray⟩
theorem gC(cs:List Nat):(textOf cs).length=cs.length:=by simp[textOf,xi]
theorem rF(a b:List Nat):textOf a++textOf b=textOf (a++b):=by
 show xm (textOf a) (textOf b)=textOf (a++b);simp[textOf,xm]
def kB(cs:List Nat)(lo hi:Option Int):List Nat:=(cs.drop (HT.aP cs.length 0 lo)).take (HT.aP cs.length cs.length hi-HT.aP cs.length 0 lo)
theorem QR(lo hi:Option Int)(n:Nat):MF lo hi 1 n=sliceRange ((HT.aP n 0 lo:Nat):Int) ((HT.aP n n hi:Nat):Int) 1:=show _ by
 have a:∀(i:Int) (d:Nat),max 0 (min (if i<0 then i+(n:Int) else i) (n:Int))=((HT.aP n d (some i):Nat):Int):=by
  intro i d;simp only[HT.aP];by_cases h:i<0
  ·simp only[h,if_true];lia
  ·simp only[h,if_false];lia
 unfold MF;cases lo with
 |none =>
  cases hi with
  |none=>rfl
  |some j =>
   show sliceRange (0:Int) (max 0 (min (if j<0 then j+(n:Int) else j) (n:Int))) 1=_;rw[a j n];rfl
 |some i =>
  cases hi with
  |none =>
   show sliceRange (max 0 (min (if i<0 then i+(n:Int) else i) (n:Int))) (n:Int) 1=_;rw[a i 0];rfl
  |some j =>
   show sliceRange (max 0 (min (if i<0 then i+(n:Int) else i) (n:Int))) (max 0 (min (if j<0 then j+(n:Int) else j) (n:Int))) 1=_;rw[a i 0,a j n]
theorem QS(x:Str)(lo hi:Option Int):xn x lo hi=textOf (kB x.cps.toList lo hi):=show _ by
 have hl:x.cps.toList.length=x.length:=by simp[xi]
 have l1:HT.aP x.length 0 lo<=x.length:=HT.yD _ _ (eO _) lo;have l2:HT.aP x.length x.length hi<=x.length:=HT.yD _ _ (a8 _) hi;unfold xn kB;rw[QR,sliceRange_one,hl,pick_run];by_cases h:((1:Int)==1&&((aZ (HT.aP x.length x.length hi-HT.aP x.length 0 lo)).map (HT.aP x.length 0 lo+·)).length==x.length)=true
 ·rw[if_pos h];simp only[az,tZ,gq,beq_iff_eq]at h;have h2:=h.2;have e1:HT.aP x.length 0 lo=0:=by lia
  have e2:HT.aP x.length x.length hi=x.length:=by lia
  rw[e1,e2,t5,t6,<-hl,iN];simp[textOf]
 ·rw[if_neg h];rfl
def E2:V->Option Int->Option Int->Hp->VK->Prop:=λx lo hi H Q=>∃z,x=.str z/\z.length<=sizeLine/\Q (.str (textOf (kB z.cps.toList lo hi))) H
theorem ou{X:Cx}:om X E2:=show _ by
 intro pins s σ H x v vl vu lo hi sl Q I rx hs pl pu h;obtain⟨z,rfl,hz,q⟩:=h;obtain⟨t,rfl⟩:=rx;refine⟨"str",_,slot_str_getitem.lookup,CY s z t,?_⟩;have fin:∀t' k,EP X pins σ Q (.str (xn z lo hi) t') {s with toks:=k}:=λt' k=>⟨.str _,H,I.tok _,⟨_,rfl⟩,by rw[QS];exact q⟩;have len:(xn z lo hi).length<=sizeLine:=b5 (Txt.slice_le z lo hi) hz;obtain⟨o,ho,hc,hd⟩:=hs;cases pl with
 |none =>
  cases pu with
  |none=>exact xo (l:=none) (u:=none) (st:=none) ⟨o,ho,hc,hd⟩ rfl (xp ⟨len,fin⟩)
  |int j tj=>exact xo (l:=none) (u:=some (j,tj)) (st:=none) ⟨o,ho,hc,hd⟩ rfl (xp ⟨len,fin⟩)
 |int i ti =>
  cases pu with
  |none=>exact xo (l:=some (i,ti)) (u:=none) (st:=none) ⟨o,ho,hc,hd⟩ rfl (xp ⟨len,fin⟩)
  |int j tj=>exact xo (l:=some (i,ti)) (u:=some (j,tj)) (st:=none) ⟨o,ho,hc,hd⟩ rfl (xp ⟨len,fin⟩)
theorem E4{α β:Type}(f:α->β->Sem (ForInStep β))(g:β->α->β):∀(l:List α) (b:β),(∀x∈l,∀b,f x b=pure (.yield (g b x)))->forIn l b f=pure (l.foldl g b)
 |[],b,_=>rfl
 |x::l,b,h=>by
  rw[t7,h x cF b];exact E4 f g l (g b x) λy hy=>h y (cL _ hy)
def kC(env:Env)(acc:List (Str×Addr))(y:Str×NameKind):List (Str×Addr):=if y.2 == .free then(y.1,(env.cells.lookup y.1).getD 0)::acc else acc
def iC(scope:Scope)(env:Env):List (Str×Addr):=scope.names.foldl (kC env) []
theorem E5{scope:Scope}{env:Env}(h:∀y∈scope.names,y.2=.free->∃c,env.cells.lookup y.1=some c):closureFor scope env=pure (iC scope env):=show _ by
 simp only[closureFor];rw[E4 _ (kC env) scope.names [] (λy hy b=>?_)]
 ·rfl
 ·obtain⟨n,k⟩:=y;by_cases hk:k=.free
  ·subst hk;obtain⟨c,e⟩:=h _ hy rfl;have e':env.cells.lookup n=some c:=e;simp only[kC,beq_self_eq_true,if_true,cellOf,e',MG];rfl
  ·have:(k==NameKind.free)=false:=by simpa using hk
   simp only[kC,this,iM,if_false]
theorem E6{env:Env}:∀(names:List (Str×NameKind)) (acc:List (Str×Addr)),(∀y∈names,y.2=.free->∃c,env.cells.lookup y.1=some c)->(∀y c,acc.lookup y=some c->env.cells.lookup y=some c) ->
 ∀y c,(names.foldl (kC env) acc).lookup y=some c->env.cells.lookup y=some c
 |[],acc,_,h,y,c,e=>h y c e
 |(n,k)::r,acc,hf,h,y,c,e=>by
  rw[n8]at e;refine E6 r _ (λz hz=>hf z (cL _ hz)) (λy c e=>?_) y c e;unfold kC at e;by_cases hk:k=.free
  ·subst hk;obtain⟨c0,e0⟩:=hf _ cF rfl;have e0':env.cells.lookup n=some c0:=e0;simp only[beq_self_eq_true,if_true,e0',MG,iO]at e;by_cases hy:y=n
   ·subst hy;simp at e;rw[<-e];exact e0'
   ·have hb:(y==n)=false:=show _ by simpa using hy
    simp only[hb]at e;exact h y c e
  ·have hb:(k==NameKind.free)=false:=by simpa using hk
   simp only[hb,iM,if_false]at e;exact h y c e
theorem yR{env:Env}:∀(names:List (Str×NameKind)) (acc:List (Str×Addr)) (y:Str),(y,NameKind.free)∈names∨(∃c,acc.lookup y=some c)->∃c,(names.foldl (kC env) acc).lookup y=some c
 |[],acc,y,h=>by
  rcases h with h|h
  ·simp at h
  ·exact h
 |(n,k)::r,acc,y,h=>by
  rw[n8];refine yR r _ y ?_;rcases h with h|⟨c,h⟩
  ·rcases br.mp h with h|h
   ·cases h;exact .inr ⟨(env.cells.lookup n).getD 0,by simp[kC]⟩
   ·exact .inl h
  ·refine .inr ?_;unfold kC;by_cases hk:k=.free
   ·subst hk;simp only[beq_self_eq_true,if_true,iO];by_cases hy:y=n
    ·subst hy;simp
    ·have hb:(y==n)=false:=show _ by simpa using hy
     simp only[hb];exact⟨c,h⟩
   ·have hb:(k==NameKind.free)=false:=by simpa using hk
    simp only[hb,iM,if_false];exact⟨c,h⟩
theorem E7{scope:Scope}{env:Env}{y:Str}{k:NameKind}(h:(relabel scope env).names.lookup y=some k):∃k',(y,k')∈scope.names/\(k=k'∨(k'=.free/\k=.cell)):=show _ by
 have go:∀(l:List (Str×NameKind)),(l.map λ(n,k)=>if(k == .free&&env.scope.kind == .function&&env.kindOf n==some .cell) then(n,NameKind.cell) else(n,k)).lookup y=some k->∃k',(y,k')∈l/\(k=k'∨(k'=.free/\k=.cell)):=by
  intro l
  induction l with
  |nil=>intro h;simp at h
  |cons a r ih =>
   obtain⟨n,k0⟩:=a;intro h;rw[bT]at h;by_cases hc:(k0==NameKind.free&&env.scope.kind == .function&&env.kindOf n==some .cell)=true
   ·simp only[hc,if_true,iO]at h;by_cases hy:y=n
    ·subst hy;simp only[beq_self_eq_true]at h;refine⟨k0,cF,.inr ⟨?_,by simpa using h.symm⟩⟩;simp only[gq]at hc;simpa using hc.1.1
    ·have hb:(y==n)=false:=by simpa using hy
     simp only[hb]at h;obtain⟨k',m,q⟩:=ih h;exact⟨k',cL _ m,q⟩
   ·dsimp only at h;rw[if_neg hc]at h;by_cases hy:y=n
    ·subst hy;simp at h;exact⟨k0,cF,.inl h.symm⟩
    ·have hb:(y==n)=false:=by simpa using hy
     simp only[iO,hb]at h;obtain⟨k',m,q⟩:=ih h;exact⟨k',cL _ m,q⟩
 exact go scope.names h
theorem QU{scope:Scope}{env:Env}{y:Str}(hk:env.scope.kind=.function)(hc:env.kindOf y=some .cell)(h:scope.names.lookup y=some .free):(relabel scope env).names.lookup y=some .cell:=show _ by
 have go:∀(l:List (Str×NameKind)),l.lookup y=some .free->(l.map λ(n,k)=>if(k == .free&&env.scope.kind == .function&&env.kindOf n==some .cell) then(n,NameKind.cell) else(n,k)).lookup y=some .cell:=by
  intro l
  induction l with
  |nil=>intro h;simp at h
  |cons a r ih =>
   obtain⟨n,k0⟩:=a;intro h;rw[bT];by_cases hy:y=n
   ·subst hy;simp only[iO,beq_self_eq_true,lD]at h;subst h;simp[hk,hc]
   ·have hb:(y==n)=false:=by simpa using hy
    simp only[iO,hb]at h;by_cases hcc:(k0==NameKind.free&&env.scope.kind == .function&&env.kindOf n==some .cell)=true
    ·simp only[hcc,if_true,iO,hb];exact ih h
    ·dsimp only;rw[if_neg hcc];simp only[iO,hb];exact ih h
 exact go scope.names h
def yS(X:Cx)(scope:Scope)(C:Addr)(N:List Str)(fp:List Addr)(pins:List (Addr×Obj))(s:Shared)(H:Hp):Cx where
 prog:=X.prog
 w:=X.w
 K:=X.K
 mg:=X.mg
 base:=X.base
 A:=X.A
 N:=N
 s₀:=s
 H₀:=H
 env:=compEnvC scope (iC scope X.env) C X.env
 outer:=X.stack
 stack:=X.stack
 ex:=fp
 fn:=λ_=>false
 calm:=true
 pn:=X.pn++pins
 xe:=λ_ _=>False
def pick(σ:L2.St)(js:List Nat):L2.St:=js.map λj=>(σ[j]?).getD none
section
variable{X:Cx}{elt iter:Expr}{x:Str}{px pos:Pos}{scope bQ:Scope}{M N:List Str}{js:List Nat}{wi:TI}{te:TE}
theorem ow(hjs:M.map some=js.map λj=>N[j]?):(∀(k:Nat) (y:Str),M[k]?=some y->∃j:Nat,js[k]?=some j/\N[j]?=some y)/\js.length=M.length:=show _ by
 constructor
 ·intro k y h;have e:(M.map some)[k]?=some (some y):=by rw[aK,h];rfl
  rw[hjs,aK]at e;cases q:js[k]? with
  |none=>rw[q]at e;cases e
  |some j =>
   rw[q]at e;exact⟨j,rfl,by simpa using e⟩
 ·have:=congrArg mG hjs;simpa using this.symm
end
def lZ(K:ax)(H:Hp)(a:Addr)(xs:List V):Prop:=(∃o,H a=some (.dQ o (.lst xs))) ∨
 ∃(o:Obj) (its:Array Value) (n:Nat),K.lookup a=some o/\o.cls=.type "list"/\o.dict=none/\o.data=.seq its n/\its.size<=sizeLine/\Vals xs its.toList
theorem lZ.sq{K:ax}{H:Hp}{a:Addr}{xs:List V}(h:lZ K H a xs):bc K H a xs:=by
 rcases h with⟨o,h⟩|h
 ·exact .inl (.inr ⟨o,h⟩)
 ·exact .inr h
theorem lZ.of{K:ax}{H:Hp}{a:Addr}{xs:List V}(h:bc K H a xs)(o:rq H):lZ K H a xs:=show _ by
 rcases h with(h|h)|h
 ·rcases o a with e|⟨ob,ys,e⟩
  ·rw[e]at h;cases h
  ·rw[e]at h;cases h
 ·exact .inl h
 ·exact .inr h
theorem QV:bootBuiltins "reversed"=some (.type "reversed"):=by cbv
end EE
namespace E3
open PySem PySem.Spec PyProof.Rows L2 EE
inductive D where
 |non|bl (b:Bool)|int (i:Int)|str (x:Str)|tup (xs:List D)|bD (xs:List D)|ref (a:Addr)|ty (n:String)
inductive O where
 |lst (xs:List D)|l0 (kvs:List (Key×D))|exc (C:Addr)|ins (C:Addr) (fs:List (Str×D))|tab (kvs:List (DK×D))
abbrev ah:=Addr->Option O
abbrev aL:=List (Option D)
abbrev K3:=D->ah->Prop
abbrev X3:=Addr->Addr->ah->Prop
abbrev bX:=aL->X3
def up(S:ah)(a:Addr)(o:O):ah:=λb=>if b=a then some o else S b
def emp:ah:=λ_=>none
theorem ao{S:ah}{a:Addr}{o:O}:up S a o a=some o:=if_pos rfl
theorem a9{S:ah}{a b:Addr}{o:O}(h:b≠a):up S a o b=S b:=if_neg h
theorem yT{S:ah}{a:Addr}{o u:O}:up (up S a o) a u=up S a u:=by
 funext b;unfold up;split<;>rfl
theorem ne3{S:ah}{a b:Addr}{o:O}(h:S a=some o)(h':S b=none):a≠b:=by
 intro e;subst e;rw[h]at h';cases h'
theorem au{S:ah}{a b:Addr}{o u:O}(h:S b=some u)(h':S a=none):up S a o b=some u:=by rw[a9 (ne3 h h')];exact h
structure Zt where
 p:Addr->Prop
 base:Hp
instance:CoeFun Zt (λ_=>Addr->Prop):=⟨Zt.p⟩
def QW(a C:Addr):Heap->Prop:=λh=>∃o,h.get? a=some o/\o.cls=.ref C/\∃xs n,o.data=.fields xs/\n=xs.size
mutual
inductive Rp(K:ax)(H:Hp):D->V->Prop where
 |non:Rp K H .non .non
 |bl (b:Bool):Rp K H (.bl b) (.bl b)
 |int (i:Int):Rp K H (.int i) (.int i)
 |str (x:Str):Rp K H (.str x) (.str x)
 |ref (a:Addr):Rp K H (.ref a) (.ref a)
 |ty (n:String):Rp K H (.ty n) (.ty n)
 |tup {a:Addr} {xs:List V} {ds:List D}:bz K H a xs->a7 K H ds xs->Rp K H (.tup ds) (.ref a)
 |bD {a:Addr} {xs:List V} {ds:List D}:lZ K H a xs->a7 K H ds xs->Rp K H (.bD ds) (.ref a)
inductive a7(K:ax)(H:Hp):List D->List V->Prop where
 |nil:a7 K H [] []
 |cons {d:D} {v:V} {ds:List D} {vs:List V}:Rp K H d v->a7 K H ds vs->a7 K H (d::ds) (v::vs)
end
structure Kp(Z:Zt)(H H':Hp):Prop where
 tup:∀b xs,H b=some (.tup xs)->H' b=some (.tup xs)
 dQ:∀b o u,H b=some (.dQ o u)->H' b=some (.dQ o u)
 hid:∀b,Z b->H' b=H b
theorem Kp.refl(Z:Zt)(H:Hp):Kp Z H H:=⟨λ_ _ h=>h,λ_ _ _ h=>h,λ_ _=>rfl⟩
theorem Kp.trans{Z:Zt}{H H1 H2:Hp}(a:Kp Z H H1)(b:Kp Z H1 H2):Kp Z H H2 :=
 ⟨λc xs h=>b.tup _ _ (a.tup _ _ h),λc o u h=>b.dQ _ _ _ (a.dQ _ _ _ h),λc z=>(b.hid c z).trans (a.hid c z)⟩
theorem Kp.i6{K:ax}{Z:Zt}{H H':Hp}{a:Addr}{xs:List V}(k:Kp Z H H')(h:bz K H a xs):bz K H' a xs:=by
 exact k.tup _ _ h
theorem Kp.yU{K:ax}{Z:Zt}{H H':Hp}{a:Addr}{xs:List V}(k:Kp Z H H')(h:lZ K H a xs):lZ K H' a xs:=by
 rcases h with⟨o,h⟩|h
 ·exact .inl ⟨o,k.dQ _ _ _ h⟩
 ·exact .inr h
mutual
theorem Rp.mono{K:ax}{Z:Zt}{H H':Hp}(k:Kp Z H H'):∀{d:D} {v:V},Rp K H d v->Rp K H' d v
 |_,_,.non=>.non
 |_,_,.bl b=>.bl b
 |_,_,.int i=>.int i
 |_,_,.str x=>.str x
 |_,_,.ref a=>.ref a
 |_,_,.ty n=>.ty n
 |_,_,.tup h r=>.tup (k.i6 h) (a7.mono k r)
 |_,_,.bD h r=>.bD (k.yU h) (a7.mono k r)
theorem a7.mono{K:ax}{Z:Zt}{H H':Hp}(k:Kp Z H H'):∀{ds:List D} {vs:List V},a7 K H ds vs->a7 K H' ds vs
 |_,_,.nil=>.nil
 |_,_,.cons h r=>.cons (Rp.mono k h) (a7.mono k r)
end
section
variable{K:PySem.W.Frag}{H:Hp}
theorem a7.len:∀{ds:List D} {vs:List V},a7 K H ds vs->ds.length=vs.length
 |_,_,.nil=>rfl
 |_,_,.cons _ r=>by simp[a7.len r]
theorem a7.at:∀{ds:List D} {vs:List V} {i:Nat} {d:D},a7 K H ds vs->ds[i]?=some d->∃v,vs[i]?=some v/\Rp K H d v
 |_,_,_,_,.nil,e=>by simp at e
 |_,_,0,_,.cons r _,e=>by simp at e;subst e;exact⟨_,rfl,r⟩
 |_,_,i+1,d,.cons _ q,e=>by
  obtain⟨v,h1,h2⟩:=a7.at (i:=i) (d:=d) q (by simpa using e);exact⟨v,by simpa using h1,h2⟩
theorem a7.append:∀{ds es:List D} {vs ws:List V},a7 K H ds vs->a7 K H es ws->a7 K H (ds++es) (vs++ws)
 |_,_,_,_,.nil,s=>s
 |_,_,_,_,.cons r t,s=>.cons r (a7.append t s)
theorem a7.take:∀{ds:List D} {vs:List V} (n:Nat),a7 K H ds vs->a7 K H (ds.take n) (vs.take n)
 |_,_,0,_=>.nil
 |_,_,_+1,.nil=>.nil
 |_,_,n+1,.cons r t=>.cons r (a7.take n t)
theorem a7.drop:∀{ds:List D} {vs:List V} (n:Nat),a7 K H ds vs->a7 K H (ds.drop n) (vs.drop n)
 |_,_,0,r=>r
 |_,_,_+1,.nil=>.nil
 |_,_,n+1,.cons _ t=>a7.drop n t
theorem a7.set{d:D}{v:V}(r:Rp K H d v):∀{ds:List D} {vs:List V} (i:Nat),a7 K H ds vs->a7 K H (ds.set i d) (vs.set i v)
 |_,_,_,.nil=>.nil
 |_,_,0,.cons _ t=>.cons r t
 |_,_,i+1,.cons q t=>.cons q (a7.set r i t)
theorem a7.snoc_inv:∀{ds:List D} {d:D} {vs:List V},a7 K H (ds++[d]) vs->∃ws w,vs=ws++[w]/\a7 K H ds ws/\Rp K H d w
 |[],d,_,.cons r .nil=>⟨[],_,rfl,.nil,r⟩
 |_::ds,d,_,.cons r q=>by
  obtain⟨ws,w,rfl,a,b⟩:=a7.snoc_inv (ds:=ds) q;exact⟨_::ws,w,rfl,.cons r a,b⟩
theorem a7.ints:∀(ns:List Int),a7 K H (ns.map D.int) (ns.map V.int)
 |[]=>.nil
 |n::ns=>.cons (.int n) (a7.ints ns)
end
def OR(K:ax)(H:Hp)(a:Addr):O->Prop
 | .lst ds=>∃vs,H a=some (.lst vs)/\a7 K H ds vs
 | .l0 kvs=>∃ws,H a=some (.dK ws)/\Paired (λ(p:Key×D) (q:Key×V)=>p.1=q.1/\Rp K H p.2 q.2) kvs ws
 | .exc C=>H a=some (.ext (QW a C))
 | .ins C fs=>∃dx ws,H a=some (.ins C dx ws)/\Paired (λ(p:Str×D) (q:Str×V)=>p.1=q.1/\Rp K H p.2 q.2) fs ws
 | .tab kvs=>∃ws,H a=some (.dT ws)/\Paired (λ(p:DK×D) (q:DK×V)=>p.1=q.1/\Rp K H p.2 q.2) kvs ws
structure Rl(K:ax)(Z:Zt)(S:ah)(H:Hp):Prop where
 obj:∀a o,S a=some o->OR K H a o
 hid:∀a,Z a->S a=none/\H a≠none
 old:Kp Z Z.base H
theorem OR.there{K:ax}{H:Hp}{a:Addr}{o:O}(h:OR K H a o):H a≠none:=show _ by
 cases o with
 |lst ds=>obtain⟨vs,e,_⟩:=h;rw[e];simp
 |l0 ds=>obtain⟨vs,e,_⟩:=h;rw[e];simp
 |tab ds=>obtain⟨vs,e,_⟩:=h;rw[e];simp
 |exc C=>have e:H a=_:=h;rw[e];simp
 |ins C fs=>obtain⟨dx,vs,e,_⟩:=h;rw[e];simp
theorem OR.QX{K:ax}{H:Hp}{a:Addr}{o:O}(h:OR K H a o):(∀xs,H a≠some (.tup xs))/\∀q u,H a≠some (.dQ q u):=show _ by
 cases o with
 |lst ds=>obtain⟨vs,e,_⟩:=h;rw[e];exact⟨λ_ z=>(nomatch z),λ_ _ z=>(nomatch z)⟩
 |l0 ds=>obtain⟨vs,e,_⟩:=h;rw[e];exact⟨λ_ z=>(nomatch z),λ_ _ z=>(nomatch z)⟩
 |tab ds=>obtain⟨vs,e,_⟩:=h;rw[e];exact⟨λ_ z=>(nomatch z),λ_ _ z=>(nomatch z)⟩
 |exc C=>have e:H a=_:=h;rw[e];exact⟨λ_ z=>(nomatch z),λ_ _ z=>(nomatch z)⟩
 |ins C fs=>obtain⟨dx,vs,e,_⟩:=h;rw[e];exact⟨λ_ z=>(nomatch z),λ_ _ z=>(nomatch z)⟩
theorem Rl.fresh{K:ax}{Z:Zt}{S:ah}{H:Hp}{p:Addr}(r:Rl K Z S H)(h:H p=none):S p=none/\¬Z p:=show _ by
 constructor
 ·cases e:S p with
  |none=>rfl
  |some o=>exact absurd h (r.obj p o e).there
 ·exact λz=>(r.hid p z).2 h
theorem Kp.new{Z:Zt}{H:Hp}{p:Addr}{o:HO}(h:H p=none)(hz:¬Z p):Kp Z H (upd H p o) :=
 ⟨λb xs e=>by rw[bo (ir e h)];exact e,λb q u e=>by rw[bo (ir e h)];exact e,λb z=>bo λe=>hz (e▸z)⟩
theorem Kp.at{K:ax}{Z:Zt}{S:ah}{H:Hp}{p:Addr}{o:O}{q:HO}(r:Rl K Z S H)(h:S p=some o):Kp Z H (upd H p q):=show _ by
 have n:=(r.obj p o h).QX;refine⟨λb xs e=>?_,λb q u e=>?_,λb z=>?_⟩
 ·rw[bo];exact e;rintro rfl;exact n.1 _ e
 ·rw[bo];exact e;rintro rfl;exact n.2 _ _ e
 ·rw[bo];rintro rfl;rw[(r.hid _ z).1]at h;cases h
theorem OR.keep{K:ax}{Z:Zt}{H H':Hp}{a:Addr}{o:O}(h:OR K H a o)(k:Kp Z H H')(e:H' a=H a):OR K H' a o:=show _ by
 cases o with
 |lst ds=>obtain⟨vs,h1,h2⟩:=h;exact⟨vs,e.trans h1,h2.mono k⟩
 |l0 ds=>obtain⟨vs,h1,h2⟩:=h;exact⟨vs,e.trans h1,Paired.kq h2 λp q z=>⟨z.1,z.2.mono k⟩⟩
 |tab ds=>obtain⟨vs,h1,h2⟩:=h;exact⟨vs,e.trans h1,Paired.kq h2 λp q z=>⟨z.1,z.2.mono k⟩⟩
 |exc C=>exact e.trans h
 |ins C fs=>obtain⟨dx,vs,h1,h2⟩:=h;exact⟨dx,vs,e.trans h1,Paired.kq h2 λp q z=>⟨z.1,z.2.mono k⟩⟩
theorem Rl.put{K:ax}{Z:Zt}{S:ah}{H:Hp}{p:Addr}{o:O}{q:HO}(r:Rl K Z S H)(k:Kp Z H (upd H p q))(hz:¬Z p)(h:OR K (upd H p q) p o):Rl K Z (up S p o) (upd H p q):=show _ by
 refine⟨λb u e=>?_,λb z=>?_,r.old.trans k⟩
 ·by_cases hb:b=p
  ·subst hb;rw[ao]at e;cases e;exact h
  ·rw[a9 hb]at e;exact(r.obj b u e).keep k (bo hb)
 ·have hb:b≠p:=λe=>hz (e▸z);rw[a9 hb,bo hb];exact r.hid b z
theorem Rl.ox{K:ax}{Z:Zt}{S:ah}{H:Hp}{p:Addr}{o:O}(r:Rl K Z S H)(h:S p=some o):¬Z p:=λz=>by
 rw[(r.hid _ z).1]at h;cases h
theorem Rl.lay{K:ax}{Z:Zt}{S:ah}{H:Hp}{p:Addr}{q:HO}(r:Rl K Z S H)(h:H p=none):Rl K Z S (upd H p q):=show _ by
 obtain⟨hs,hz⟩:=r.fresh h;refine⟨λb u e=>(r.obj b u e).keep (Kp.new h hz) (bo (ne3 e hs)),λb z=>?_,r.old.trans (Kp.new h hz)⟩;have hb:b≠p:=λe=>hz (e▸z);rw[bo hb];exact r.hid b z
def RO(K:ax)(H:Hp)(o:Option D)(p:Option V):Prop:=∀d,o=some d->∃v,p=some v/\Rp K H d v
abbrev SR(K:ax)(H:Hp):aL->L2.St->Prop:=Paired (RO K H)
theorem RO.mono{K:ax}{Z:Zt}{H H':Hp}(k:Kp Z H H'){o:Option D}{p:Option V}(h:RO K H o p):RO K H' o p:=λd e=>by
 obtain⟨v,h1,h2⟩:=h d e;exact⟨v,h1,h2.mono k⟩
theorem SR.mono{K:ax}{Z:Zt}{H H':Hp}(k:Kp Z H H'){σ:aL}{τ:L2.St}(h:SR K H σ τ):SR K H' σ τ:=Paired.kq h λ_ _ q=>q.mono k
theorem SR.at{K:ax}{H:Hp}:∀{σ:aL} {τ:L2.St} {i:Nat} {d:D},SR K H σ τ->σ[i]?=some (some d)->∃v,τ[i]?=some (some v)/\Rp K H d v
 |_,_,_,_,.nil,e=>by simp at e
 |_,_,0,_,.cons r _,e=>by
  simp at e;obtain⟨v,h1,h2⟩:=r _ e;exact⟨v,by simp[h1],h2⟩
 |_,_,i+1,d,.cons _ q,e=>by
  obtain⟨v,h1,h2⟩:=SR.at (i:=i) (d:=d) q (by simpa using e);exact⟨v,by simpa using h1,h2⟩
theorem SR.set{K:ax}{H:Hp}{d:D}{v:V}(r:Rp K H d v):∀{σ:aL} {τ:L2.St} (i:Nat),SR K H σ τ->SR K H (σ.set i (some d)) (τ.set i (some v))
 |_,_,_,.nil=>.nil
 |_,_,0,.cons _ t=>.cons (λe he=>by cases he;exact⟨v,rfl,r⟩) t
 |_,_,i+1,.cons q t=>.cons q (SR.set r i t)
theorem SR.uW{K:ax}{H:Hp}:∀{ds:List D} {vs:List V},a7 K H ds vs->SR K H (ds.map some) (vs.map some)
 |_,_,.nil=>.nil
 |_,_,.cons r t=>.cons (λe he=>by cases he;exact⟨_,rfl,r⟩) (SR.uW t)
theorem SR.nones{K:ax}{H:Hp}:∀n:Nat,SR K H (fK n none) (fK n none)
 |0=>.nil
 |n+1=>.cons (λd e=>by cases e) (SR.nones n)
theorem jK{α β:Type}{F:α->β->Prop}:∀{a b:List α} {c d:List β},Paired F a c->Paired F b d->Paired F (a++b) (c++d)
 |_,_,_,_,.nil,s=>s
 |_,_,_,_,.cons r t,s=>.cons r (jK t s)
abbrev aQ:=aL->ah->K3->Prop
abbrev cJ:=aL->ah->(Bool->ah->Prop)->Prop
abbrev cX:=aL->ah->(List D->ah->Prop)->Prop
structure gY where
 nx:aL->ah->Prop
 rt:K3
 bk:aL->ah->Prop:=λ_ _=>False
 ct:aL->ah->Prop:=λ_ _=>False
abbrev cB:=gY->aL->ah->Prop
section
variable(K:PySem.W.Frag)(Z:Zt)
def CK(H:Hp)(Q3:K3)(Q:VK):Prop:=∀d S v H',Kp Z H H'->Rp K H' d v->Rl K Z S H'->Q3 d S->Q v H'
def CT(H:Hp)(Q3:Bool->ah->Prop)(Q:Bool->Hp->Prop):Prop:=∀b S H',Kp Z H H'->Rl K Z S H'->Q3 b S->Q b H'
def CA(H:Hp)(Q3:List D->ah->Prop)(Q:List V->Hp->Prop):Prop:=∀ds S vs H',Kp Z H H'->a7 K H' ds vs->Rl K Z S H'->Q3 ds S->Q vs H'
def CS(H:Hp)(Q3:aL->ah->Prop)(Q:L2.St->Hp->Prop):Prop:=∀σ S τ H',Kp Z H H'->SR K H' σ τ->Rl K Z S H'->Q3 σ S->Q τ H'
structure CD(H:Hp)(D3:gY)(D:Ends):Prop where
 nx:CS K Z H D3.nx D.nx
 bk:CS K Z H D3.bk D.bk
 ct:CS K Z H D3.ct D.ct
 rt:CK K Z H D3.rt D.rt
inductive lE(t:aQ)(τ:L2.St)(H:Hp)(Q:VK):Prop where
 |mk (σ:aL) (S:ah) (Q3:K3) (hs:SR K H σ τ) (hr:Rl K Z S H) (ht:t σ S Q3) (hc:CK K Z H Q3 Q)
inductive lT(t:cJ)(τ:L2.St)(H:Hp)(Q:Bool->Hp->Prop):Prop where
 |mk (σ:aL) (S:ah) (Q3:Bool->ah->Prop) (hs:SR K H σ τ) (hr:Rl K Z S H) (ht:t σ S Q3) (hc:CT K Z H Q3 Q)
inductive lA(t:cX)(τ:L2.St)(H:Hp)(Q:List V->Hp->Prop):Prop where
 |mk (σ:aL) (S:ah) (Q3:List D->ah->Prop) (hs:SR K H σ τ) (hr:Rl K Z S H) (ht:t σ S Q3) (hc:CA K Z H Q3 Q)
inductive lS(t:cB)(D:Ends)(τ:L2.St)(H:Hp):Prop where
 |mk (D3:gY) (σ:aL) (S:ah) (hs:SR K H σ τ) (hr:Rl K Z S H) (ht:t D3 σ S) (hc:CD K Z H D3 D)
end
variable{K:PySem.W.Frag}{Z:Zt}
theorem CK.mono{H H':Hp}{Q3:K3}{Q:VK}(k:Kp Z H H')(h:CK K Z H Q3 Q):CK K Z H' Q3 Q:=λd S v H2 k2=>h d S v H2 (k.trans k2)
theorem CT.mono{H H':Hp}{Q3:Bool->ah->Prop}{Q:Bool->Hp->Prop}(k:Kp Z H H')(h:CT K Z H Q3 Q):CT K Z H' Q3 Q:=λd S H2 k2=>h d S H2 (k.trans k2)
theorem CS.mono{H H':Hp}{Q3:aL->ah->Prop}{Q:L2.St->Hp->Prop}(k:Kp Z H H')(h:CS K Z H Q3 Q):CS K Z H' Q3 Q:=λd S v H2 k2=>h d S v H2 (k.trans k2)
theorem CD.mono{H H':Hp}{D3:gY}{D:Ends}(k:Kp Z H H')(h:CD K Z H D3 D):CD K Z H' D3 D:=⟨h.nx.mono k,h.bk.mono k,h.ct.mono k,h.rt.mono k⟩
structure QY(h:Heap)(a C T:Addr):Prop where
 ne:T≠a
 exc:∃oe vs a0,h.get? a=some oe/\oe.cls=.ref C/\oe.data=.fields vs/\vs[0]?=some a0/\vs[1]?=some (.ref T)
 tb:∃oT ts,h.get? T=some oT/\oT.data=.fields ts/\ts[3]?=some .none
def cC(P:Program)(w:World):gV:=λouter H s E e s'=>∃(a C T:Addr) (H':Hp),e=.ref a/\s'.os=s.os/\AllBare s'.gens/\Un (frs outer) [] H H' s.heap s'.heap/\cw P w H' s'.heap /\
 QY s'.heap a C T/\H' a=none/\H' T=none/\s.heap.get? a=none/\s.heap.get? T=none/\E (.ref C) (some a) H'
def yV(CX:gV)(X:Cx)(E:XK)(τ:L2.St):Prop:=∀(pins:List (Addr×Obj)) (H:Hp) (s:Shared) (e:Value) (s':Shared),Inv X pins τ H s->CX X.stack H s E e s'->X.xe e s'
def E8(X:Cx)(E:XK)(τ:L2.St):Prop:=∀(pins:List (Addr×Obj)) (H:Hp) (s s3:Shared) (e C:Addr) (args:List Value),Inv X pins τ H s->C9 s.heap s3.heap e (.ref C) args->s3.os=s.os->s3.gens=s.gens->E (.ref C) (some e) H->X.xe (.ref e) s3
theorem QZ{P:Program}{w:World}{X:Cx}{τ:L2.St}:yV (cC P w) X E0 τ:=λ_ _ _ _ _ _ h=>by
 obtain⟨a,C,T,H',_,_,_,_,_,_,_,_,_,_,z⟩:=h;exact z.elim
abbrev dw:bX:=λ_ _ _ _=>False
def E9(K:ax)(Z:Zt)(H:Hp)(W3:X3)(E:XK):Prop:=∀C a S H',Kp Z H H'->Rl K Z S H'->H' a=none->W3 C a S->E (.ref C) (some a) H'
structure ZX(X:Cx)(W3:bX) where
 z:Zt
 E:L2.St->XK
 pass:∀τ,yV (cC X.prog X.w) X (E τ) τ
 rz:∀τ,E8 X (E τ) τ
 ce:∀σ τ C a S H,SR X.K H σ τ->Rl X.K z S H->H a=none->W3 σ C a S->E τ (.ref C) (some a) H
def ZX.no(X:Cx)(z:Zt):ZX X dw:=⟨z,λ_=>E0,λ_=>QZ,λ_ _ _ _ _ _ _ _ _ _ _ _ z=>z.elim,λ_ _ _ _ _ _ _ _ _ z=>z.elim⟩
def aM(X:Cx)(W3:bX)(e:Expr)(t:aQ):Prop:=∀Z:ZX X W3,PE X e (lE X.K Z.z t)
def eG(X:Cx)(W3:bX)(e:Expr)(t:cJ):Prop:=∀Z:ZX X W3,PT X e (lT X.K Z.z t)
def cH(X:Cx)(W3:bX)(e:Expr)(t:cJ):Prop:=∀Z:ZX X W3,PW X e (lT X.K Z.z t)
def fD(X:Cx)(W3:bX)(es:List Expr)(t:cX):Prop:=∀Z:ZX X W3,PA X es (lA X.K Z.z t)
def fh(X:Cx)(W3:bX)(st:Stmt)(t:cB):Prop:=∀Z:ZX X W3,PS X st (lS X.K Z.z t)
def dz(X:Cx)(W3:bX)(st:List Stmt)(t:cB):Prop:=∀Z:ZX X W3,fe X st (lS X.K Z.z t)
theorem PE.imp{X:Cx}{e:Expr}{t u:TE}(h:PE X e t)(f:∀σ H Q,u σ H Q->t σ H Q):PE X e u:=λpins s σ H Q I q=>h pins s σ H Q I (f _ _ _ q)
theorem PT.imp{X:Cx}{e:Expr}{t u:TT}(h:PT X e t)(f:∀σ H Q,u σ H Q->t σ H Q):PT X e u:=λpins s σ H Q I q=>h pins s σ H Q I (f _ _ _ q)
theorem PW.imp{X:Cx}{e:Expr}{t u:TT}(h:PW X e t)(f:∀σ H Q,u σ H Q->t σ H Q):PW X e u:=λw pins s σ H Q I q=>h w pins s σ H Q I (f _ _ _ q)
theorem PA.imp{X:Cx}{e:List Expr}{t u:TA}(h:PA X e t)(f:∀σ H Q,u σ H Q->t σ H Q):PA X e u:=λp pins s σ H Q I q=>h p pins s σ H Q I (f _ _ _ q)
theorem PS.imp{X:Cx}{st:Stmt}{t u:TS}(h:PS X st t)(f:∀D σ H,u D σ H->t D σ H):PS X st u:=λpins s σ H D I q=>h pins s σ H D I (f _ _ _ q)
theorem fe.imp{X:Cx}{st:List Stmt}{t u:TS}(h:fe X st t)(f:∀D σ H,u D σ H->t D σ H):fe X st u:=λpins s σ H D I q=>h pins s σ H D I (f _ _ _ q)
end E3
namespace E3
open PySem PySem.Spec PyProof.Rows L2 EE
section
variable{X:Cx}{W3:bX}{a b c e:Expr}{es:List Expr}{pos:Pos}
def v3(i:Nat):aQ:=λσ S Q=>∃d,σ[i]?=some (some d)/\Q d S
def c3(d:D):aQ:=λ_ S Q=>Q d S
theorem Q0{i:Nat}(h:PE X e (DS i)):aM X W3 e (v3 i):=λZ=>PE.imp h λτ H Q cU=>by
 obtain⟨σ,S,Q3,hs,hr,⟨d,e,q⟩,c⟩:=cU;obtain⟨v,h1,h2⟩:=hs.at e;exact⟨v,h1,c d S v H (Kp.refl _ _) h2 hr q⟩
theorem aa(i:Nat){x:Str}{pos:Pos}(hN:X.N[i]?=some x:=by rfl)(hv:uh X.env.scope x:=by first|exact Or.inl rfl|exact Or.inr (Or.inl rfl)|exact Or.inr (Or.inr rfl))(hd:(x==("__debug__":Str))=false:=by decide)
 (hcd:(x==("__classdict__":Str))=false:=by decide):aM X W3 (.Name x pos) (v3 i):=Q0 (N1 hN hv hd hcd)
theorem oy{v:V}{d:D}(h:PE X e (tC v))(r:∀H,Rp X.K H d v):aM X W3 e (c3 d):=λZ=>PE.imp h λτ H Q eS=>by obtain⟨σ,S,Q3,hs,hr,q,c⟩:=eS;exact c d S v H (Kp.refl _ _) (r H) hr q
theorem aj{i j}:aM X W3 (.Constant (.int i) j pos) (c3 (.int i)):=oy N2 λ_=>.int _
theorem fU{b j}:aM X W3 (.Constant (.bool b) j pos) (c3 (.bl b)):=oy N3 λ_=>.bl _
theorem gk{j}:aM X W3 (.Constant .none j pos) (c3 .non):=oy N4 λ_=>.non
theorem bh{x j}:aM X W3 (.Constant (.str x) j pos) (c3 (.str x)):=oy N5 λ_=>.str _
theorem uX{x:Str}{n:String}(hg:Gl X x)(hm:X.mg x=none)(hv:bootBuiltins x=some (.type n))(hn:x≠"__name__":=by decide)(hd:(x==("__debug__":Str))=false:=by decide):aM X W3 (.Name x pos) (c3 (.ty n)) :=
 oy (N7 (v:=.ty n) hg hm hv rfl hn hd) λ_=>.ty _
theorem Q1{x:Str}{i:Int}(h:∃t,X.mg x=some (.int i t))(hg:Gl X x)(hd:(x==("__debug__":Str))=false:=by decide):aM X W3 (.Name x pos) (c3 (.int i)) :=
 oy (QM h hg hd) λ_=>.int _
abbrev R3:=D->D->ah->K3->Prop
def cY(K:ax)(r3:R3)(r:R2):Prop:=∀(Z:Zt) x y S Q3 v w H Q,Rp K H x v->Rp K H y w->Rl K Z S H->r3 x y S Q3->CK K Z H Q3 Q->r v w H Q
def o3(r:R3)(ta tb:aQ):aQ:=λσ S Q=>ta σ S λx S1=>tb σ S1 λy S2=>r x y S2 Q
def i7(t:aQ):cJ:=λσ S Q=>t σ S λx S'=>∃k,x=.bl k/\Q k S'
variable{ta tb tc:aQ}{tA tB:cJ}{t:cX}
theorem uY{K:ax}{Z:Zt}{r3:R3}{r:R2}(hd:cY K r3 r){τ:L2.St}{H:Hp}{Q:VK}(h:lE K Z (o3 r3 ta tb) τ H Q):qQ r (lE K Z ta) (lE K Z tb) τ H Q:=show _ by
 obtain⟨σ,S,Q3,hs,hr,ht,hc⟩:=h;refine⟨σ,S,_,hs,hr,ht,λx S1 v H1 k1 r1 l1 q1=>?_⟩;refine⟨σ,S1,_,hs.mono k1,l1,q1,λy S2 w H2 k2 r2 l2 q2=>?_⟩;exact hd Z x y S2 Q3 v w H2 Q (r1.mono k2) r2 l2 q2 (hc.mono (k1.trans k2))
theorem aD{op:Operator}{r3:R3}{r:R2}(ho:cj X (binaryOp op) r)(hd:cY X.K r3 r)(ha:aM X W3 a ta)(hb:aM X W3 b tb):aM X W3 (.BinOp a op b pos) (o3 r3 ta tb) :=
 λZ=>PE.imp (Pj ho (ha Z) (hb Z)) λ_ _ _ h=>uY hd h
theorem i8{op:CmpOp}{r3:R3}{r:R2}(ho:cj X (compareOp op) r)(hd:cY X.K r3 r)(ha:aM X W3 a ta)(hb:aM X W3 b tb)(hm:behindInMarks op b=false):aM X W3 (.Compare a [op] [b] pos) (o3 r3 ta tb) :=
 λZ=>PE.imp (Po ho (ha Z) (hb Z) hm) λ_ _ _ h=>uY hd h
theorem uZ{K:ax}{Z:Zt}{t3:aQ}{t2:TE}(hd:∀τ H Q,lE K Z t3 τ H Q->t2 τ H Q){τ:L2.St}{H:Hp}{Q:Bool->Hp->Prop}(h:lT K Z (i7 t3) τ H Q):yw t2 τ H Q:=show _ by
 obtain⟨σ,S,Q3,hs,hr,ht,hc⟩:=h;refine hd τ H _ ⟨σ,S,_,hs,hr,ht,λx S1 v H1 k1 r1 l1 q1=>?_⟩;obtain⟨k,rfl,q⟩:=q1;cases r1;exact⟨k,rfl,hc k S1 H1 k1 l1 q⟩
theorem aX{op:CmpOp}{r3:R3}{r:R2}(ho:cj X (compareOp op) r)(hd:cY X.K r3 r)(ha:aM X W3 a ta)(hb:aM X W3 b tb)(hm:behindInMarks op b=false):eG X W3 (.Compare a [op] [b] pos) (i7 (o3 r3 ta tb)) :=
 λZ=>PT.imp (Pp ho (ha Z) (hb Z) hm) λ_ _ _ h=>uZ (λ_ _ _ h=>uY hd h) h
theorem aA{r3:R3}{r:R2}(ho:q_ X r)(hd:cY X.K r3 r)(ha:aM X W3 a ta)(hb:aM X W3 b tb)(hs:En b):aM X W3 (.Subscript a b pos) (o3 r3 ta tb) :=
 λZ=>PE.imp (P' ho (ha Z) (hb Z) hs) λ_ _ _ h=>uY hd h
theorem gZ(h:aM X W3 e ta)(he:∀whole,isTrue e X.env whole=(do let v <-whole;standAt e.pos;holding [v] (truthy v)):=by intro _;rfl):eG X W3 e (i7 ta) :=
 λZ=>PT.imp (N_ (h Z) he) λ_ _ _ q=>uZ (t2:=lE X.K Z.z ta) (λ_ _ _ z=>z) q
def u3(r:D->ah->K3->Prop)(ta:aQ):aQ:=λσ S Q=>ta σ S λx S1=>r x S1 Q
theorem Q2(ha:aM X W3 a ta):aM X W3 (.UnaryOp .USub a pos) (u3 (λx S Q=>∃i,x=.int i/\Q (.int (-i)) S) ta):=λZ=>PE.imp (Pk Pm (ha Z)) λτ H Q i9=>by
 obtain⟨σ,S,Q3,hs,hr,ht,hc⟩:=i9;refine⟨σ,S,_,hs,hr,ht,λx S1 v H1 k1 r1 l1 q1=>?_⟩;obtain⟨i,rfl,q⟩:=q1;cases r1;exact⟨i,rfl,hc _ S1 _ H1 k1 (.int _) l1 q⟩
def E_(t u:cJ):cJ:=λσ S Q=>t σ S λc S1=>if c=true then u σ S1 Q else Q false S1
def or3(t u:cJ):cJ:=λσ S Q=>t σ S λc S1=>if c=true then Q true S1 else u σ S1 Q
def Fb(t:cJ):cJ:=λσ S Q=>t σ S λc S1=>Q (!c) S1
def Fc(ta tb:aQ):aQ:=λσ S Q=>ta σ S λx S1=>∃c,x=.bl c/\if c=true then tb σ S1 Q else Q (.bl false) S1
def Fe(ta tb:aQ):aQ:=λσ S Q=>ta σ S λx S1=>∃c,x=.bl c/\if c=true then Q (.bl true) S1 else tb σ S1 Q
def Ff(ta:aQ):aQ:=λσ S Q=>ta σ S λx S1=>∃c,x=.bl c/\Q (.bl (!c)) S1
def Fg(t:cJ)(ta tb:aQ):aQ:=λσ S Q=>t σ S λc S1=>if c=true then ta σ S1 Q else tb σ S1 Q
variable{rest:List Expr}
theorem gD(ha:eG X W3 a tA):cH X W3 (.BoolOp .And [a] pos) tA:=λZ=>Oc (ha Z)
theorem i_(ha:eG X W3 a tA):cH X W3 (.BoolOp .Or [a] pos) tA:=λZ=>Od (ha Z)
theorem w_and(ha:eG X W3 a tA)(hb:cH X W3 (.BoolOp .And (b::rest) pos) tB):cH X W3 (.BoolOp .And (a::b::rest) pos) (E_ tA tB):=λZ=>PW.imp (Oe (ha Z) (hb Z)) λτ H Q iT=>by
 obtain⟨σ,S,Q3,hs,hr,ht,hc⟩:=iT;refine⟨σ,S,_,hs,hr,ht,λc S1 H1 k1 l1 q1=>?_⟩;cases c with
 |true=>exact⟨σ,S1,Q3,hs.mono k1,l1,q1,hc.mono k1⟩
 |false=>exact hc false S1 H1 k1 l1 q1
theorem w_or(ha:eG X W3 a tA)(hb:cH X W3 (.BoolOp .Or (b::rest) pos) tB):cH X W3 (.BoolOp .Or (a::b::rest) pos) (or3 tA tB):=λZ=>PW.imp (Of (ha Z) (hb Z)) λτ H Q qN=>by
 obtain⟨σ,S,Q3,hs,hr,ht,hc⟩:=qN;refine⟨σ,S,_,hs,hr,ht,λc S1 H1 k1 l1 q1=>?_⟩;cases c with
 |true=>exact hc true S1 H1 k1 l1 q1
 |false=>exact⟨σ,S1,Q3,hs.mono k1,l1,q1,hc.mono k1⟩
theorem cH.pt(h:cH X W3 e tA):eG X W3 e tA:=λZ=>(h Z).pt
theorem l7(ha:eG X W3 a tA):eG X W3 (.UnaryOp .Not a pos) (Fb tA):=λZ=>PT.imp (Og (ha Z)) λτ H Q rG=>by obtain⟨σ,S,Q3,hs,hr,ht,hc⟩:=rG;exact⟨σ,S,_,hs,hr,ht,λc S1 H1 k1 l1 q1=>hc (!c) S1 H1 k1 l1 q1⟩
theorem rH{op}(h:aM X W3 a ta):aM X W3 (.BoolOp op [a] pos) ta:=λZ=>Ol (h Z)
theorem rJ(ha:aM X W3 a ta)(hb:aM X W3 (.BoolOp .And (b::rest) pos) tb):aM X W3 (.BoolOp .And (a::b::rest) pos) (Fc ta tb):=λZ=>PE.imp (Om (ha Z) (hb Z)) λτ H Q yW=>by
 obtain⟨σ,S,Q3,hs,hr,ht,hc⟩:=yW;refine⟨σ,S,_,hs,hr,ht,λx S1 v H1 k1 r1 l1 q1=>?_⟩;obtain⟨c,rfl,q1⟩:=q1;cases r1;refine⟨c,rfl,?_⟩;cases c with
 |true=>exact⟨σ,S1,Q3,hs.mono k1,l1,q1,hc.mono k1⟩
 |false=>exact hc _ S1 _ H1 k1 (.bl _) l1 q1
theorem Q4(ha:aM X W3 a ta)(hb:aM X W3 (.BoolOp .Or (b::rest) pos) tb):aM X W3 (.BoolOp .Or (a::b::rest) pos) (Fe ta tb):=λZ=>PE.imp (Oo (ha Z) (hb Z)) λτ H Q qR=>by
 obtain⟨σ,S,Q3,hs,hr,ht,hc⟩:=qR;refine⟨σ,S,_,hs,hr,ht,λx S1 v H1 k1 r1 l1 q1=>?_⟩;obtain⟨c,rfl,q1⟩:=q1;cases r1;refine⟨c,rfl,?_⟩;cases c with
 |true=>exact hc _ S1 _ H1 k1 (.bl _) l1 q1
 |false=>exact⟨σ,S1,Q3,hs.mono k1,l1,q1,hc.mono k1⟩
theorem Q5(ha:aM X W3 a ta):aM X W3 (.UnaryOp .Not a pos) (Ff ta):=λZ=>PE.imp (Oq (ha Z)) λτ H Q Q6=>by
 obtain⟨σ,S,Q3,hs,hr,ht,hc⟩:=Q6;refine⟨σ,S,_,hs,hr,ht,λx S1 v H1 k1 r1 l1 q1=>?_⟩;obtain⟨c,rfl,q1⟩:=q1;cases r1;exact⟨c,rfl,hc _ S1 _ H1 k1 (.bl _) l1 q1⟩
theorem oA(hc:eG X W3 c tA)(ha:aM X W3 a ta)(hb:aM X W3 b tb):aM X W3 (.IfExp c a b pos) (Fg tA ta tb):=λZ=>PE.imp (Ou (hc Z) (ha Z) (hb Z)) λτ H Q yy=>by
 obtain⟨σ,S,Q3,hs,hr,ht,hc⟩:=yy;refine⟨σ,S,_,hs,hr,ht,λc S1 H1 k1 l1 q1=>?_⟩;cases c with
 |true=>exact⟨σ,S1,Q3,hs.mono k1,l1,q1,hc.mono k1⟩
 |false=>exact⟨σ,S1,Q3,hs.mono k1,l1,q1,hc.mono k1⟩
def IsL(S:ah)(x:D)(ds:List D):Prop:=(∃a,x=.ref a/\S a=some (.lst ds))∨x=.bD ds
theorem IsL.down{K:ax}{Z:Zt}{S:ah}{H:Hp}{x:D}{ds:List D}{v:V}(h:IsL S x ds)(r:Rp K H x v)(l:Rl K Z S H):∃a vs,v=.ref a/\bc K H a vs/\a7 K H ds vs:=show _ by
 rcases h with⟨a,rfl,e⟩|rfl
 ·cases r;obtain⟨vs,h1,h2⟩:=l.obj a _ e;exact⟨a,vs,rfl,bc.of h1,h2⟩
 ·cases r with
  |bD h1 h2=>exact⟨_,_,rfl,h1.sq,h2⟩
def rK(S:ah):D->Bool->Prop
 | .non,k=>k=false
 | .bl b,k=>k=b
 | .int i,k=>k=(i != 0)
 | .str y,k=>y.length<=sizeLine/\k=((y.length:Int) != 0)
 | .tup ds,k=>k=!ds.isEmpty
 | .bD ds,k=>k=!ds.isEmpty
 | .ref a,k=>(∃ds,S a=some (.lst ds)/\k=!ds.isEmpty)∨∃kvs,S a=some (.l0 kvs)/\k=!kvs.isEmpty
 | .ty _,_=>False
theorem a7.empty{K:ax}{H:Hp}{ds:List D}{vs:List V}(r:a7 K H ds vs):ds.isEmpty=vs.isEmpty:=by cases r<;>rfl
theorem rK.down{K:ax}{Z:Zt}{S:ah}{H:Hp}{x:D}{v:V}{k:Bool}(h:rK S x k)(r:Rp K H x v)(l:Rl K Z S H):yx K v H k:=show _ by
 cases r with
 |non=>exact h
 |bl b=>exact h
 |int i=>exact h
 |str x=>exact h
 |ty n=>exact h
 |tup h1 h2=>exact .inr (.inl ⟨_,h1,by rw[<-h2.empty];exact h⟩)
 |bD h1 h2=>exact .inl ⟨_,h1.sq,by rw[<-h2.empty];exact h⟩
 |ref a =>
  rcases h with⟨ds,e,q⟩|⟨kvs,e,q⟩
  ·obtain⟨vs,h1,h2⟩:=l.obj a _ e;exact .inl ⟨vs,bc.of h1,by rw[<-h2.empty];exact q⟩
  ·obtain⟨ws,h1,h2⟩:=l.obj a _ e;refine .inr (.inr ⟨ws,h1,?_⟩);cases h2<;>exact q
def Fh(ta:aQ):cJ:=λσ S Q=>ta σ S λx S1=>∃k,rK S1 x k/\Q k S1
theorem rL(ha:aM X W3 a ta)(he:∀whole,isTrue a X.env whole=(do let v <-whole;standAt a.pos;holding [v] (truthy v))):eG X W3 a (Fh ta):=λZ=>PT.imp (Pw (ha Z) he) λτ H Q qV=>by
 obtain⟨σ,S,Q3,hs,hr,ht,hc⟩:=qV;refine⟨σ,S,_,hs,hr,ht,λx S1 v H1 k1 r1 l1 q1=>?_⟩;obtain⟨k,h,q⟩:=q1;exact⟨k,h.down r1 l1,hc k S1 H1 k1 l1 q⟩
def iD:cX:=λ_ S Q=>Q [] S
def fE(ta:aQ)(tr:cX):cX:=λσ S Q=>ta σ S λx S1=>tr σ S1 λxs S2=>Q (x::xs) S2
theorem ai:fD X W3 [] iD:=λZ=>PA.imp PH λτ H Q yX=>by obtain⟨σ,S,Q3,hs,hr,ht,hc⟩:=yX;exact hc [] S [] H (Kp.refl _ _) .nil hr ht
theorem ae(ha:aM X W3 e ta)(hr:fD X W3 es t)(hs:starEach (e::es) X.env=(false,eval e X.env)::starEach es X.env:=by rfl):fD X W3 (e::es) (fE ta t):=λZ=>PA.imp (PJ (ha Z) (hr Z) hs) λτ H Q qX=>by
 obtain⟨σ,S,Q3,hs,hr,ht,hc⟩:=qX;refine⟨σ,S,_,hs,hr,ht,λx S1 v H1 k1 r1 l1 q1=>?_⟩;exact⟨σ,S1,_,hs.mono k1,l1,q1,λxs S2 vs H2 k2 r2 l2 q2=>hc (x::xs) S2 (v::vs) H2 (k1.trans k2) (.cons (r1.mono k2) r2) l2 q2⟩
def cQ(S:ah)(ds:List D)(Q:K3):Prop:=∀p,S p=none->Q (.ref p) (up S p (.lst ds))
theorem cQ.down{K:ax}{Z:Zt}{S:ah}{H:Hp}{ds:List D}{vs:List V}{Q3:K3}{Q:VK}(h:cQ S ds Q3)(r:a7 K H ds vs)(l:Rl K Z S H)(c:CK K Z H Q3 Q):∀p,H p=none->Q (.ref p) (upd H p (.lst vs)):=λp hp=>by
 obtain⟨hs,hz⟩:=l.fresh hp;have k:=Kp.new (o:=HO.lst vs) hp hz;exact c _ _ _ _ k (.ref p) (l.put (o:=.lst ds) k hz ⟨vs,eP,r.mono k⟩) (h p hs)
theorem tup.down{K:ax}{Z:Zt}{S:ah}{H:Hp}{ds:List D}{vs:List V}{Q3:K3}{Q:VK}(h:Q3 (.tup ds) S)(r:a7 K H ds vs)(l:Rl K Z S H)(c:CK K Z H Q3 Q):∀p,H p=none->Q (.ref p) (upd H p (.tup vs)):=λp hp=>by
 obtain⟨hs,hz⟩:=l.fresh hp;have k:=Kp.new (o:=HO.tup vs) hp hz;exact c _ _ _ _ k (.tup (bz.of eP) (r.mono k)) (l.lay hp) h
def Fi(t:cX):aQ:=λσ S Q=>t σ S λxs S1=>xs.length<=sizeLine/\Q (.tup xs) S1
def Fj(t:cX):aQ:=λσ S Q=>t σ S λxs S1=>xs.length<=sizeLine/\cQ S1 xs Q
theorem bM{x1}(h:fD X W3 es t):aM X W3 (.Tuple es x1 pos) (Fi t):=λZ=>PE.imp (PM (h Z)) λτ H Q ⟨σ,S,Q3,hs,hr,ht,hc⟩ =>
 ⟨σ,S,_,hs,hr,ht,λxs S1 vs H1 k1 r1 l1 qY=>by obtain⟨z,q⟩:=qY;exact⟨by rw[<-r1.len];exact z,tup.down q r1 l1 (hc.mono k1)⟩⟩
theorem dA(h:fD X W3 es t):aM X W3 (.List es pos) (Fj t):=λZ=>PE.imp (PN (h Z)) λτ H Q ⟨σ,S,Q3,hs,hr,ht,hc⟩ =>
 ⟨σ,S,_,hs,hr,ht,λxs S1 vs H1 k1 r1 l1 qZ=>by obtain⟨z,q⟩:=qZ;exact⟨by rw[<-r1.len];exact z,cQ.down q r1 l1 (hc.mono k1)⟩⟩
def fV(K:ax)(r3:List D->ah->K3->Prop)(r:List V->Hp->VK->Prop):Prop:=∀(Z:Zt) ds S Q3 vs H Q,a7 K H ds vs->Rl K Z S H->r3 ds S Q3->CK K Z H Q3 Q->r vs H Q
def oB(r:List D->ah->K3->Prop)(t:cX):aQ:=λσ S Q=>t σ S λvs S1=>r vs S1 Q
variable{x:Str}{p:Pos}{id T:String}{r3:List D->ah->K3->Prop}{r:List V->Hp->VK->Prop}
theorem Fk{K:ax}{Z:Zt}(hd:fV K r3 r){τ:L2.St}{H:Hp}{Q:VK}(h:lE K Z (oB r3 t) τ H Q):yC r (lA K Z t) τ H Q:=show _ by
 obtain⟨σ,S,Q3,hs,hr,ht,hc⟩:=h;exact⟨σ,S,_,hs,hr,ht,λds S1 vs H1 k1 r1 l1 q1=>hd Z ds S1 Q3 vs H1 Q r1 l1 q1 (hc.mono k1)⟩
theorem b9(hc:fg X (.builtin id) r)(hd:fV X.K r3 r)(hg:Gl X x)(hm:X.mg x=none)(hv:bootBuiltins x=some (.builtin id))(ha:fD X W3 (e::es) t)(hn:x≠"__name__":=by decide)(hdb:(x==("__debug__":Str))=false:=by decide)
 (he:starEach (e::es) X.env=(false,eval e X.env)::starEach es X.env:=by rfl) (hpl:(backTo pos (starEach es X.env)).any (·.1)=false:=by rfl):aM X W3 (.Call (.Name x p) (e::es) [] pos) (oB r3 t) :=
 λZ=>PE.imp (PU hc hg hm hv (ha Z) hn hdb he hpl) λ_ _ _ h=>Fk hd h
theorem cZ(hc:fg X (.type T) r)(hd:fV X.K r3 r)(hg:Gl X x)(hm:X.mg x=none)(hv:bootBuiltins x=some (.type T))(ha:fD X W3 (e::es) t)(hn:x≠"__name__":=by decide)(hdb:(x==("__debug__":Str))=false:=by decide)
 (he:starEach (e::es) X.env=(false,eval e X.env)::starEach es X.env:=by rfl) (hpl:(backTo pos (starEach es X.env)).any (·.1)=false:=by rfl):aM X W3 (.Call (.Name x p) (e::es) [] pos) (oB r3 t) :=
 λZ=>PE.imp (PV hc hg hm hv (ha Z) hn hdb he hpl) λ_ _ _ h=>Fk hd h
def oC(K:ax)(r3:D->List D->ah->K3->Prop)(r:V->List V->Hp->VK->Prop):Prop:=∀(Z:Zt) x ds S Q3 v vs H Q,Rp K H x v->a7 K H ds vs->Rl K Z S H->r3 x ds S Q3->CK K Z H Q3 Q->r v vs H Q
def mV(T:String)(x:D)(S:ah):Prop:=(T="str"/\∃z,x=.str z)∨(T="list"/\∃ds,IsL S x ds)∨(T="dict"/\∃a kvs,x=.ref a/\S a=some (.l0 kvs))
theorem mV.down{K:ax}{Z:Zt}{S:ah}{H:Hp}{T:String}{x:D}{v:V}(h:mV T x S)(r:Rp K H x v)(l:Rl K Z S H):uI K T v H:=show _ by
 rcases h with⟨rfl,z,rfl⟩|⟨rfl,ds,h⟩|⟨rfl,a,kvs,rfl,e⟩
 ·cases r;rfl
 ·obtain⟨a,vs,rfl,h1,_⟩:=h.down r l;exact .inl ⟨rfl,vs,h1⟩
 ·cases r;obtain⟨ws,h1,_⟩:=l.obj a _ e;exact .inr (.inr (.inl ⟨rfl,.inl ⟨ws,h1⟩⟩))
def Fl(T:String)(r:D->List D->ah->K3->Prop)(to:aQ):aQ:=λσ S Q=>to σ S λx S1=>mV T x S1/\r x [] S1 Q
def yY(T:String)(r:D->List D->ah->K3->Prop)(to:aQ)(t:cX):aQ:=λσ S Q=>to σ S λx S1=>mV T x S1/\t σ S1 λxs S2=>r x xs S2 Q
variable{o:Expr}{to:aQ}{name:Str}{apos cpos:Pos}{m3:D->List D->ah->K3->Prop}{m:V->List V->Hp->VK->Prop}
theorem Fm(pa:PlainAttrs T)(slot:Slot T name id)(hty:typeOf (.builtin id)=pure (.type "method_descriptor"))(hm:uH X id m)(hd:oC X.K m3 m)(ho:aM X W3 o to)
 (hbase:attributeBase o name X.env (eval o X.env)=eval o X.env:=by rfl) (hline:(apos.endLine==cpos.line)=true:=by rfl):aM X W3 (.Call (.Attribute o name apos) [] [] cpos) (Fl T m3 to) :=
 λZ=>PE.imp (Ql pa slot hty hm (ho Z) hbase hline) λτ H Q ⟨σ,S,Q3,hs,hr,ht,hc⟩ =>
  ⟨σ,S,_,hs,hr,ht,λx S1 v H1 k1 r1 l1 rj=>by obtain⟨ty,q⟩:=rj;exact⟨ty.down r1 l1,hd Z.z x [] S1 Q3 v [] H1 Q r1 .nil l1 q (hc.mono k1)⟩⟩
theorem eh(pa:PlainAttrs T)(slot:Slot T name id)(hty:typeOf (.builtin id)=pure (.type "method_descriptor"))(hm:uH X id m)(hd:oC X.K m3 m)(ho:aM X W3 o to)(ha:fD X W3 (e::es) t)
 (hbase:attributeBase o name X.env (eval o X.env)=eval o X.env:=by rfl)
 (hfew:((backTo cpos (starEach (e::es) X.env)).all (λx=>!x.1)&&(backToKw cpos (keywordEach [] X.env)).all (λx=>x.1.isSome)
  && decide ((e::es).length+([]:List Keyword).length+(if([]:List Keyword).isEmpty then 0 else 1)<30))=true:=by rfl)
 (hline:(apos.endLine==cpos.line)=true:=by rfl) (hs:starEach (e::es) X.env=(false,eval e X.env)::starEach es X.env:=by rfl) (hplain:(backTo cpos (starEach es X.env)).any (·.1)=false:=by rfl) :
 aM X W3 (.Call (.Attribute o name apos) (e::es) [] cpos) (yY T m3 to t) :=
 λZ=>PE.imp (Qm pa slot hty hm (ho Z) (ha Z) hbase hfew hline hs hplain) λτ H Q ⟨σ,S,Q3,hs,hr,ht,hc⟩ =>
  ⟨σ,S,_,hs,hr,ht,λx S1 v H1 k1 r1 l1 Q7=>by obtain⟨ty,q⟩:=Q7;exact⟨ty.down r1 l1,σ,S1,_,hs.mono k1,l1,q,λds S2 vs H2 k2 r2 l2 q2=>hd Z.z x ds S2 Q3 v vs H2 Q (r1.mono k2) r2 l2 q2 (hc.mono (k1.trans k2))⟩⟩
abbrev mW:=aL->ah->(Option Int->ah->Prop)->Prop
def CO(K:ax)(Z:Zt)(H:Hp)(Q3:Option Int->ah->Prop)(Q:Option Int->Hp->Prop):Prop:=∀d S H',Kp Z H H'->Rl K Z S H'->Q3 d S->Q d H'
def lO(K:ax)(Z:Zt)(t:mW):TO:=λτ H Q=>∃σ S Q3,SR K H σ τ/\Rl K Z S H/\t σ S Q3/\CO K Z H Q3 Q
def rM(X:Cx)(W3:bX)(e:Option Expr)(t:mW):Prop:=∀Z:ZX X W3,PO X e (lO X.K Z.z t)
def Fn:mW:=λ_ S Q=>Q none S
def part3(t:aQ):mW:=λσ S Q=>t σ S λx S1=>∃i,x=.int i/\Q (some i) S1
theorem PO.imp{X:Cx}{e:Option Expr}{t u:TO}(h:PO X e t)(f:∀σ H Q,u σ H Q->t σ H Q):PO X e u:=λpins s σ H Q I q=>h pins s σ H Q I (f _ _ _ q)
theorem eI:rM X W3 none Fn:=λZ=>PO.imp P5 λτ H Q z_18=>by obtain⟨σ,S,Q3,hs,hr,ht,hc⟩:=z_18;exact hc none S H (Kp.refl _ _) hr ht
theorem eJ(h:aM X W3 e ta):rM X W3 (some e) (part3 ta):=λZ=>PO.imp (P6 (h Z)) λτ H Q rA=>by
 obtain⟨σ,S,Q3,hs,hr,ht,hc⟩:=rA;refine⟨σ,S,_,hs,hr,ht,λx S1 v H1 k1 r1 l1 q1=>?_⟩;obtain⟨i,rfl,q⟩:=q1;cases r1;exact⟨i,rfl,hc _ S1 H1 k1 l1 q⟩
def u4(K:ax)(r3:D->Option Int->Option Int->ah->K3->Prop)(r:V->Option Int->Option Int->Hp->VK->Prop):Prop:=∀(Z:Zt) x lo hi S Q3 v H Q,Rp K H x v->Rl K Z S H->r3 x lo hi S Q3->CK K Z H Q3 Q->r v lo hi H Q
def Fo(r:D->Option Int->Option Int->ah->K3->Prop)(te:aQ)(tl th:mW):aQ:=λσ S Q=>te σ S λx S1=>tl σ S1 λl S2=>th σ S2 λu S3=>r x l u S3 Q
theorem eK{lo hi:Option Expr}{tl th:mW}{p2:Pos}{s3:D->Option Int->Option Int->ah->K3->Prop}{s2:V->Option Int->Option Int->Hp->VK->Prop}(hr:om X s2)(hd:u4 X.K s3 s2)(he:aM X W3 e ta)(hl:rM X W3 lo tl)(hu:rM X W3 hi th) :
 aM X W3 (.Subscript e (.Slice lo hi none p2) pos) (Fo s3 ta tl th):=λZ=>PE.imp (P8 hr (he Z) (hl Z) (hu Z)) λτ H Q yZ=>by obtain⟨σ,S,Q3,hs,hr,ht,hc⟩:=yZ;exact 
 ⟨σ,S,_,hs,hr,ht,λx S1 v H1 k1 r1 l1 q1=>⟨σ,S1,_,hs.mono k1,l1,q1,λl S2 H2 k2 l2 q2=>⟨σ,S2,_,hs.mono (k1.trans k2),l2,q2,λu S3 H3 k3 l3 q3 =>
  hd Z.z x l u S3 Q3 v H3 Q (r1.mono (k2.trans k3)) l3 q3 (hc.mono (k1.trans (k2.trans k3)))⟩⟩⟩
def kD:Key->D
 | .inl i=>.int i
 | .inr x=>.str x
def Q8(kvs:List (Key×D))(k:Key):Option D:=(kvs.find? λkv=>decide (kv.1=k)).map (·.2)
end
section
variable{X:Cx}{W3:bX}{st:Stmt}{rest:List Stmt}{t u:cB}{e:Expr}{te:aQ}{pos:Pos}
def Fp:cB:=λD σ S=>D.nx σ S
def rN(t u:cB):cB:=λD σ S=>t {D with nx:=u D} σ S
theorem bj:dz X W3 [] Fp:=λZ=>fe.imp Oy λD τ H cU=>by obtain⟨D3,σ,S,hs,hr,ht,hc⟩:=cU;exact hc.nx σ S τ H (Kp.refl _ _) hs hr ht
theorem aq(h1:fh X W3 st t)(h2:dz X W3 rest u):dz X W3 (st::rest) (rN t u):=λZ=>fe.imp (Oz (h1 Z) (h2 Z)) λD τ H ⟨D3,σ,S,hs,hr,ht,hc⟩ =>
 ⟨_,σ,S,hs,hr,ht,⟨λσ' S' bp H' k r l q=>⟨D3,σ',S',r,l,q,hc.mono k⟩,hc.bk,hc.ct,hc.rt⟩⟩
theorem aB(h1:fh X W3 st t):dz X W3 [st] t:=λZ=>OA (h1 Z)
def y0(te:aQ):cB:=λD σ S=>te σ S λ_ S1=>D.nx σ S1
theorem dY(he:aM X W3 e te)(hs:swapsWith e none pos.line X.env=pure false:=by rfl):fh X W3 (.Expr e pos) (y0 te):=λZ=>PS.imp (OC (he Z) hs) λD τ H ⟨D3,σ,S,hs,hr,ht,hc⟩ =>
 ⟨σ,S,_,hs,hr,ht,λd S' v H' k r l q=>hc.nx σ S' τ H' k (hs.mono k) l q⟩
def Fq(te:aQ):cB:=λD σ S=>te σ S D.rt
theorem aS(he:aM X W3 e te):fh X W3 (.Return (some e) pos) (Fq te):=λZ=>PS.imp (OE (he Z)) λD τ H rG=>by obtain⟨D3,σ,S,hs,hr,ht,hc⟩:=rG;exact⟨σ,S,_,hs,hr,ht,hc.rt⟩
def Fs:cB:=λD _ S=>D.rt .non S
theorem Q9:fh X W3 (.Return none pos) Fs:=λZ=>PS.imp OG λD τ H yW=>by obtain⟨D3,σ,S,hs,hr,ht,hc⟩:=yW;exact hc.rt .non S .non H (Kp.refl _ _) .non hr ht
def rO(c:cJ)(t u:cB):cB:=λD σ S=>c σ S λb S1=>if b=true then t D σ S1 else u D σ S1
theorem bN{c:Expr}{a b:List Stmt}{tc:cJ}(hc:eG X W3 c tc)(ha:dz X W3 a t)(hb:dz X W3 b u):fh X W3 (.If c a b pos) (rO tc t u):=λZ=>PS.imp (OI (hc Z) (ha Z) (hb Z)) λD τ H qR=>by
 obtain⟨D3,σ,S,hs,hr,ht,hc⟩:=qR;refine⟨σ,S,_,hs,hr,ht,λb S' H' k l q=>?_⟩;cases b with
 |true=>exact⟨D3,σ,S',hs.mono k,l,q,hc.mono k⟩
 |false=>exact⟨D3,σ,S',hs.mono k,l,q,hc.mono k⟩
abbrev eo:=D->aL->ah->(aL->ah->Prop)->Prop
def lG(K:ax)(Z:Zt)(t:eo):TG:=λv τ H Q=>∃d σ S Q3,Rp K H d v/\SR K H σ τ/\Rl K Z S H/\t d σ S Q3/\CS K Z H Q3 Q
def gE(X:Cx)(W3:bX)(tg:Expr)(t:eo):Prop:=∀Z:ZX X W3,PG X tg (lG X.K Z.z t)
theorem PG.imp{X:Cx}{e:Expr}{t u:TG}(h:PG X e t)(f:∀v σ H Q,u v σ H Q->t v σ H Q):PG X e u:=λpins s σ H v w Q I r q=>h pins s σ H v w Q I r (f _ _ _ _ q)
def jL(i:Nat):eo:=λv σ S Q=>Q (σ.set i (some v)) S
theorem ck{i:Nat}{x:Str}(hN:X.N.Nodup)(hi:X.N[i]?=some x)(hx:Loc X.env.scope x)(hf:X.fn x=true∨X.env.scope.names.lookup x=some .local:=by first|exact .inl rfl|exact .inr rfl|assumption):gE X W3 (.Name x pos) (jL i) :=
 λZ=>PG.imp (OJ hN hi hx hf) λv τ H Q qV=>by obtain⟨d,σ,S,Q3,r,hs,hr,ht,hc⟩:=qV;exact hc _ S _ H (Kp.refl _ _) (hs.set r i) hr ht
abbrev jM:=List D->aL->ah->(aL->ah->Prop)->Prop
def Q_(K:ax)(Z:Zt)(t:jM):kx:=λv τ H Q=>∃d σ S Q3,a7 K H d v/\SR K H σ τ/\Rl K Z S H/\t d σ S Q3/\CS K Z H Q3 Q
def rP(X:Cx)(W3:bX)(tg:List Expr)(t:jM):Prop:=∀Z:ZX X W3,jF X tg (Q_ X.K Z.z t)
theorem jF.imp{X:Cx}{e:List Expr}{t u:kx}(h:jF X e t)(f:∀v σ H Q,u v σ H Q->t v σ H Q):jF X e u:=λpins s σ H v w Q I r q=>h pins s σ H v w Q I r (f _ _ _ _ q)
def u5:jM:=λvs σ S Q=>vs=[]/\Q σ S
def oD(t:eo)(u:jM):jM:=λvs σ S Q=>∃v r,vs=v::r/\t v σ S λσ' S'=>u r σ' S' Q
theorem u6:rP X W3 [] u5:=λZ=>jF.imp OM λv τ H Q yX=>by
 obtain⟨d,σ,S,Q3,r,hs,hr,⟨e,q⟩,hc⟩:=yX;subst e;cases r;exact⟨rfl,hc σ S τ H (Kp.refl _ _) hs hr q⟩
theorem l8{es:List Expr}{t:eo}{u:jM}(h1:gE X W3 e t)(h2:rP X W3 es u)
 (hs:(assignEach (e::es) X.env).map (·.2)=assign e X.env::(assignEach es X.env).map (·.2):=by rfl):rP X W3 (e::es) (oD t u):=λZ=>jF.imp (ON (h1 Z) (h2 Z) hs) λv τ H Q qX=>by
 obtain⟨d,σ,S,Q3,r,hs,hr,⟨d1,dr,e,q⟩,hc⟩:=qX;subst e;cases r with
 |cons r rr=>exact⟨_,_,rfl,d1,σ,S,_,r,hs,hr,q,λσ' S' bp H' k r' l q'=>⟨dr,σ',S',Q3,rr.mono k,r',l,q',hc.mono k⟩⟩
def u7(n:Nat)(t:jM):eo:=λv σ S Q=>∃xs,v=.tup xs/\xs.length=n/\t xs σ S Q
theorem u9{es:List Expr}{k:Nat}{t:jM}{n:Nat}(hc:X.calm=true)(h:rP X W3 es t)
 (hn:(assignEach es X.env).length=n:=by rfl) (hst:(assignEach es X.env).findIdx? (·.1)=none:=by rfl):gE X W3 (.Tuple es k pos) (u7 n t):=λZ=>PG.imp (OP hc (h Z) hn hst) λv τ H Q qY=>by
 obtain⟨d,σ,S,Q3,r,hs,hr,⟨xs,e,hl,q⟩,hc⟩:=qY;subst e;cases r with
 |tup h1 h2=>exact⟨_,_,rfl,h1,by rw[<-h2.len];exact hl,xs,σ,S,Q3,h2,hs,hr,q,hc⟩
def y1(te:aQ)(g:eo):cB:=λD σ S=>te σ S λx S1=>g x σ S1 D.nx
theorem Ra{K:ax}{Z:Zt}{g:eo}{D:Ends}{τ:L2.St}{H:Hp}(h:lS K Z (y1 te g) D τ H):uv (lE K Z te) (lG K Z g) D τ H:=show _ by
 obtain⟨D3,σ,S,hs,hr,ht,hc⟩:=h;exact⟨σ,S,_,hs,hr,ht,λd S' v H' k r l q=>⟨d,σ,S',_,r,hs.mono k,l,q,hc.nx.mono k⟩⟩
theorem y6{tg:Expr}{g:eo}(he:aM X W3 e te)(hg:gE X W3 tg g)(hs:swapsWithSole [tg] e pos.line X.env=pure false:=by rfl)(hw:swappedStores [tg] e X.env=pure none:=by rfl)
 (h1:(assignEach [tg] X.env).map (·.2)=[assign tg X.env]:=by rfl):fh X W3 (.Assign [tg] e pos) (y1 te g):=λZ=>PS.imp (OT (he Z) (hg Z) hs hw h1) λD τ H h=>Ra h
def rQ(i:Nat)(te:aQ):cB:=λD σ S=>te σ S λx S1=>D.nx (σ.set i (some x)) S1
theorem aI{i:Nat}{x:Str}{pos':Pos}(hN:X.N.Nodup)(hi:X.N[i]?=some x)(hx:Loc X.env.scope x)(he:aM X W3 e te)(hs:swapsWith e (some (.Name x pos')) pos.line X.env=pure false:=by rfl)(hf:X.fn x=true∨X.env.scope.names.lookup x=some .local:=by first|exact .inl rfl|exact .inr rfl|assumption) :
 fh X W3 (.Assign [.Name x pos'] e pos) (rQ i te):=λZ=>PS.imp (OU hN hi hx (he Z) hs hf) λD τ H qZ=>by obtain⟨D3,σ,S,hs,hr,ht,hc⟩:=qZ;exact 
 ⟨σ,S,_,hs,hr,ht,λd S' v H' k r l q=>hc.nx _ S' _ H' k ((hs.mono k).set r i) l q⟩
def Ft(to ti:aQ):eo:=λv σ S Q=>to σ S λo S1=>ti σ S1 λi S2=>∃p xs k j,o=.ref p/\i=.int k/\S2 p=some (.lst xs)/\gz xs.length k=some j/\Q σ (up S2 p (.lst (xs.set j v)))
theorem y8{o i:Expr}{to ti:aQ}(ho:aM X W3 o to)(hi:aM X W3 i ti)
 (ha:∀v,assign (.Subscript o i pos) X.env v=(do
  let ov <-holding [v] (eval o X.env)
  let iv <-holding [v,ov] (eval i X.env)
  standAt pos
  holding [v,ov,iv] (setItem ov iv v)
  release [v,ov,iv] []):=by intro _;rfl):gE X W3 (.Subscript o i pos) (Ft to ti):=λZ=>PG.imp (OS (ho Z) (hi Z) set_list ha) λv τ H Q rj=>by
 obtain⟨d,σ,S,Q3,r,hs,hr,ht,hc⟩:=rj;refine⟨σ,S,_,hs,hr,ht,λx1 S1 v1 H1 k1 r1 l1 q1=>⟨σ,S1,_,hs.mono k1,l1,q1,λx2 S2 v2 H2 k2 r2 l2 q2=>?_⟩⟩;obtain⟨p,xs,k,j,rfl,rfl,e,hj,q⟩:=q2;cases r1;cases r2;obtain⟨vs,h1,h2⟩:=l2.obj p _ e;have kk:Kp Z.z H2 (upd H2 p (.lst (vs.set j v))):=Kp.at l2 e;refine⟨p,vs,k,j,rfl,rfl,h1,by rw[<-h2.len];exact hj,?_⟩;have k12:=k1.trans (k2.trans kk);exact hc σ _ τ _ k12 (hs.mono k12) (l2.put (o:=.lst (xs.set j d)) kk (l2.ox e) ⟨_,eP,(h2.mono kk).set (r.mono k12) j⟩) q
def Fu(i:Nat)(te:aQ)(f:Int->Int->Int):cB:=λD σ S=>∃a,σ[i]?=some (some (.int a))/\te σ S λy S1=>∃b,y=.int b/\D.nx (σ.set i (some (.int (f a b)))) S1
theorem Rb{i:Nat}{x:Str}{op:Operator}{f:Int->Int->Int}{pos':Pos}(hN:X.N.Nodup)(hi:X.N[i]?=some x)(hx:Loc X.env.scope x)(he:aM X W3 e te)(ho:yh X op (DV f))(hf:X.fn x=true∨X.env.scope.names.lookup x=some .local:=by first|exact .inl rfl|exact .inr rfl|assumption) :
 fh X W3 (.AugAssign (.Name x pos') op e pos) (Fu i te f):=λZ=>PS.imp (OW hN hi hx (he Z) ho hf) λD τ H z_18=>by
 obtain⟨D3,σ,S,hs,hr,⟨a,ea,ht⟩,hc⟩:=z_18;obtain⟨v,h1,h2⟩:=hs.at ea;cases h2;refine⟨_,h1,σ,S,_,hs,hr,ht,λy S' v H' k r l q=>?_⟩;obtain⟨b,rfl,q⟩:=q;cases r;exact⟨a,b,rfl,rfl,hc.nx _ S' _ H' k ((hs.mono k).set (.int _) i) l q⟩
def Fv(c:cJ)(tb:cB):cB:=λD σ S=>∃W:Nat->aL->ah->Prop,(∃m,W m σ S)/\∀m σ S,W m σ S ->
 c σ S λb S1=>if b=true then tb {D with nx:=λσ' S'=>∃m',m'<m/\W m' σ' S',ct:=λσ' S'=>∃m',m'<m/\W m' σ' S',bk:=D.nx} σ S1 else D.nx σ S1
theorem rR{c:Expr}{body:List Stmt}{tc:cJ}{tb:cB}(hp:PassesOwn (model X.prog X.w) X.A X.env X.xe)(hc:eG X W3 c tc)(hb:dz X W3 body tb):fh X W3 (.While c body [] pos) (Fv tc tb):=λZ=>PS.imp (O0 hp (hc Z) (hb Z)) λD τ H rA=>by
 obtain⟨D3,σ,S,hs,hr,⟨W,⟨m0,w0⟩,turn⟩,hc⟩:=rA;refine⟨λm bp H'=>∃σ' S',Kp Z.z H H'/\SR X.K H' σ' bp/\Rl X.K Z.z S' H'/\W m σ' S',⟨m0,σ,S,Kp.refl _ _,hs,hr,w0⟩,?_⟩;rintro m Rc H1 ⟨fT,S1,k1,s1,l1,w1⟩;refine⟨fT,S1,_,s1,l1,turn m fT S1 w1,λb S2 H2 k2 l2 q2=>?_⟩;cases b with
 |true =>
  rw[if_pos rfl]at q2 ⊢;refine⟨λbp H'=>∃m',m'<m/\∃σ' S',Kp Z.z H H'/\SR X.K H' σ' bp/\Rl X.K Z.z S' H'/\W m' σ' S',λbp H' z=>z,_,fT,S2,s1.mono k2,l2,q2,⟨?_,?_,?_,?_⟩⟩
  ·exact λσ' S' bp H' k r l yZ=>by obtain⟨m',hm,w⟩:=yZ;exact⟨m',hm,σ',S',k1.trans (k2.trans k),r,l,w⟩
  ·exact hc.nx.mono (k1.trans k2)
  ·exact λσ' S' bp H' k r l Rg=>by obtain⟨m',hm,w⟩:=Rg;exact⟨m',hm,σ',S',k1.trans (k2.trans k),r,l,w⟩
  ·exact hc.rt.mono (k1.trans k2)
 |false =>
  rw[if_neg cT]at q2 ⊢;exact hc.nx fT S2 Rc H2 (k1.trans k2) (s1.mono k2) l2 q2
end
abbrev fi:=aL->ah->(List D->(ah->Prop)->ah->Prop)->Prop
structure Wk(K:ax)(Z:Zt)(J:It)(ds:List D)(Al:ah->Prop)(H0:Hp):Prop where
 go:∀i d S H,Kp Z H0 H->Rl K Z S H->Al S->ds[i]?=some d->J.go i H/\∀v H',J.lU i H v H'->Kp Z H H'/\Rp K H' d v/\(∀S',Rl K Z S' H->Rl K Z S' H')/\∀b,H b≠none->H' b=H b
 stop:∀S H,Kp Z H0 H->Rl K Z S H->Al S->J.stop ds.length H
def lI(K:ax)(Z:Zt)(t:fi):TI:=λτ H R=>∃σ S R3,SR K H σ τ/\Rl K Z S H/\t σ S R3/\∀ds Al S' J H',Kp Z H H'->Rl K Z S' H'->R3 ds Al S'->Wk K Z J ds Al H'->R J H'
def fW(X:Cx)(W3:bX)(tg iter:Expr)(t:fi):Prop:=∀Z:ZX X W3,PI X tg iter (lI X.K Z.z t)
theorem PI.imp{X:Cx}{tg e:Expr}{t u:TI}(h:PI X tg e t)(f:∀σ H R,u σ H R->t σ H R):PI X tg e u:=λpins s σ H Q I q=>h pins s σ H Q I (f _ _ _ q)
section
variable{X:Cx}{W3:bX}{tg l:Expr}{tl:aQ}{pos:Pos}
def Fw(tl:aQ):fi:=λσ S R=>tl σ S λx S1=>(∃a ds,x=.ref a/\S1 a=some (.lst ds)/\R ds (λS=>S a=some (.lst ds)) S1)∨∃ds,x=.bD ds/\R ds (λ_=>True) S1
theorem eu(hl:aM X W3 l tl):fW X W3 tg l (Fw tl):=λZ=>PI.imp (O6 (hl Z)) λτ H R Rh=>by
 obtain⟨σ,S,R3,hs,hr,ht,hc⟩:=Rh;refine⟨σ,S,_,hs,hr,ht,λx S1 v H1 k1 r1 l1 q1=>?_⟩;rcases q1 with⟨a,ds,rfl,e,q⟩|⟨ds,rfl,q⟩
 ·cases r1;obtain⟨vs,h1,h2⟩:=l1.obj a _ e;refine⟨a,rfl,⟨vs,bc.of h1⟩,hc ds _ S1 _ H1 k1 l1 q ⟨λi d S2 H2 k2 l2 al hd=>?_,λS2 H2 k2 l2 al=>?_⟩⟩
  ·obtain⟨ws,h3,h4⟩:=l2.obj a _ al;obtain⟨v,hv,rv⟩:=h4.at hd;refine⟨⟨ws,v,bc.of h3,hv⟩,λv' H' y=>?_⟩;obtain⟨rfl,y⟩:=y;have:=y ws (bc.of h3);rw[hv]at this;cases this;exact⟨Kp.refl _ _,rv,λ_ z=>z,λ_ _=>rfl⟩
  ·obtain⟨ws,h3,h4⟩:=l2.obj a _ al;exact⟨ws,bc.of h3,by rw[h4.len];exact a8 _⟩
 ·cases r1 with
  |@bD a vs _ h1 h2 =>
   refine⟨a,rfl,⟨vs,h1.sq⟩,hc ds _ S1 _ H1 k1 l1 q ⟨λi d S2 H2 k2 l2 al hd=>?_,λS2 H2 k2 l2 al=>?_⟩⟩
   ·obtain⟨v,hv,rv⟩:=h2.at hd;have h3:=(k2.yU h1).sq;refine⟨⟨vs,v,h3,hv⟩,λv' H' y=>?_⟩;obtain⟨rfl,y⟩:=y;have:=y vs h3;rw[hv]at this;cases this;exact⟨Kp.refl _ _,rv.mono k2,λ_ z=>z,λ_ _=>rfl⟩
   ·exact⟨vs,(k2.yU h1).sq,by rw[h2.len];exact a8 _⟩
def Fx(tl:aQ):fi:=λσ S R=>tl σ S λx S1=>∃ds,x=.tup ds/\R ds (λ_=>True) S1
theorem gF(hl:aM X W3 l tl):fW X W3 tg l (Fx tl):=λZ=>PI.imp (O7 (hl Z)) λτ H R Ri=>by
 obtain⟨σ,S,R3,hs,hr,ht,hc⟩:=Ri;refine⟨σ,S,_,hs,hr,ht,λx S1 v H1 k1 r1 l1 q1=>?_⟩;obtain⟨ds,rfl,q⟩:=q1;cases r1 with
 |@tup a vs _ h1 h2 =>
  refine⟨a,rfl,⟨vs,h1⟩,hc ds _ S1 _ H1 k1 l1 q ⟨λi d S2 H2 k2 l2 al hd=>?_,λS2 H2 k2 l2 al=>?_⟩⟩
  ·obtain⟨v,hv,rv⟩:=h2.at hd;have h3:=k2.i6 h1;refine⟨⟨vs,v,h3,hv⟩,λv' H' y=>?_⟩;obtain⟨rfl,y⟩:=y;have:=y vs h3;rw[hv]at this;cases this;exact⟨Kp.refl _ _,rv.mono k2,λ_ z=>z,λ_ _=>rfl⟩
  ·exact⟨vs,k2.i6 h1,by rw[h2.len];exact a8 _⟩
def nums(lo:Int)(n:Nat):List D:=(aZ n).map λi:Nat=>.int (lo+(i:Int))
theorem fj{lo:Int}{n i:Nat}{d:D}(h:(nums lo n)[i]?=some d):i<n/\d=.int (lo+(i:Int)):=show _ by
 unfold nums at h;rw[aK]at h;cases e:(aZ n)[i]? with
 |none=>rw[e]at h;cases h
 |some c =>
  rw[e]at h;cases h;obtain⟨h1,h2⟩:=bO.mp e;rw[List.getElem_range]at h2;subst h2;exact⟨by simpa using h1,rfl⟩
theorem dE{lo:Int}{n:Nat}:(nums lo n).length=n:=by simp[nums]
def Fy(ta:cX):fi:=λσ S R=>ta σ S λvs S1=>∃j:Int,vs=[.int j]/\-(2^62)<=j/\j<2^62/\R (nums 0 j.toNat) (λ_=>True) S1
def Fz(ta:cX):fi:=λσ S R=>ta σ S λvs S1=>∃i j:Int,vs=[.int i,.int j]/\(-(2^62)<=i/\i<2^62/\-(2^62)<=j/\j<2^62)/\R (nums i (j-i).toNat) (λ_=>True) S1
theorem FA{K:ax}{Z:Zt}{lo:Int}{n:Nat}{H:Hp}:Wk K Z (qO lo n) (nums lo n) (λ_=>True) H:=show _ by
 refine⟨λi d S2 H2 k2 l2 al hd=>?_,λS2 H2 k2 l2 al=>?_⟩
 ·obtain⟨hi,rfl⟩:=fj hd;refine⟨hi,λv' H' y=>?_⟩;obtain⟨rfl,rfl⟩:=y;exact⟨Kp.refl _ _,.int _,λ_ z=>z,λ_ _=>rfl⟩
 ·show n<=(nums lo n).length;rw[dE];exact a8 _
theorem fX{a:Expr}{ta:cX}{p:Pos}(hg:Gl X "range")(hm:X.mg "range"=none)(ha:fD X W3 [a] ta)(hs:starEach [a] X.env=[(false,eval a X.env)]:=by rfl):fW X W3 tg (.Call (.Name "range" p) [a] [] pos) (Fy ta) :=
 λZ=>PI.imp (O_ hg hm (ha Z) hs) λτ H R Rj=>by
 obtain⟨σ,S,R3,hs,hr,ht,hc⟩:=Rj;refine⟨σ,S,_,hs,hr,ht,λxs S1 y9 H1 k1 r1 l1 q1=>?_⟩;obtain⟨j,rfl,h1,h2,q⟩:=q1;cases r1 with
 |cons r1 rr =>
  cases rr;cases r1;exact⟨j,rfl,h1,h2,hc _ _ S1 _ H1 k1 l1 q FA⟩
theorem Rk{a b:Expr}{ta:cX}{p:Pos}(hg:Gl X "range")(hm:X.mg "range"=none)(ha:fD X W3 [a,b] ta)(hs:starEach [a,b] X.env=[(false,eval a X.env),(false,eval b X.env)]:=by rfl)(hs2:starEach [b] X.env=[(false,eval b X.env)]:=by rfl) :
 fW X W3 tg (.Call (.Name "range" p) [a,b] [] pos) (Fz ta):=λZ=>PI.imp (O' hg hm (ha Z) hs hs2) λτ H R Rm=>by
 obtain⟨σ,S,R3,hs,hr,ht,hc⟩:=Rm;refine⟨σ,S,_,hs,hr,ht,λxs S1 y9 H1 k1 r1 l1 q1=>?_⟩;obtain⟨i,j,rfl,h1,q⟩:=q1;cases r1 with
 |cons r1 rr =>
  cases rr with
  |cons r2 rr =>
   cases rr;cases r1;cases r2;exact⟨i,j,rfl,h1,hc _ _ S1 _ H1 k1 l1 q FA⟩
def FC(wi:fi)(g:eo)(tb:cB):cB:=λD σ S=>wi σ S λds Al S1=>∃W:Nat->aL->ah->Prop,W 0 σ S1/\(∀i σ S,W i σ S->Al S) /\
 (∀i d σ S,ds[i]?=some d->W i σ S->g d σ S λjG S2=>tb {D with nx:=W (i+1),ct:=W (i+1),bk:=D.nx} jG S2)/\∀σ S,W ds.length σ S->D.nx σ S
theorem c7{iter:Expr}{body:List Stmt}{wi:fi}{g:eo}{tb:cB}(hp:PassesOwn (model X.prog X.w) X.A X.env X.xe)(hc:X.calm=true)(hi:fW X W3 tg iter wi)(hg:gE X W3 tg g)(hb:dz X W3 body tb)
 (hs:∀x,foldedSetIterable iter X.env x=pure x:=by intro _;rfl):fh X W3 (.For tg iter body [] pos) (FC wi g tb):=λZ=>PS.imp (Pc hp hc (hi Z) (hg Z) (hb Z) hs) λD τ H Ro=>by
 obtain⟨D3,σ,S,hs,hr,ht,hc⟩:=Ro;refine⟨σ,S,_,hs,hr,ht,λds Al S1 J H1 k1 l1 q1 wk=>?_⟩;obtain⟨W,w0,al,turn,done⟩:=q1;refine⟨λi m bp H'=>m=ds.length-i/\i<=ds.length/\∃σ' S',Kp Z.z H1 H'/\SR X.K H' σ' bp/\Rl X.K Z.z S' H'/\W i σ' S',⟨ds.length,by simp,eO _,σ,S1,Kp.refl _ _,hs.mono k1,l1,w0⟩,?_⟩;rintro i m Rq H2 ⟨rfl,hi,jG,S2,k2,s2,l2,w2⟩;by_cases hlt:i<ds.length
 ·have hd:ds[i]?=some ds[i]:=aU hlt;obtain⟨go,yl⟩:=wk.go i _ S2 H2 k2 l2 (al _ _ _ w2) hd;refine .inr ⟨go,λbp H'=>i<ds.length/\∃σ' S',Kp Z.z H1 H'/\SR X.K H' σ' bp/\Rl X.K Z.z S' H'/\W (i+1) σ' S',λbp H' z=>⟨ds.length-(i+1),by lia,rfl,z.1,z.2⟩,λv H3 y=>?_⟩;obtain⟨k3,rv,l3,_⟩:=yl v H3 y;refine⟨_,jG,S2,_,rv,s2.mono k3,l3 _ l2,turn i _ jG S2 hd w2,λFD S4 y_ H4 k4 s4 l4 q4=>?_⟩;have k14:=k2.trans (k3.trans k4);refine⟨_,FD,S4,s4,l4,q4,⟨?_,?_,?_,?_⟩⟩
  ·exact λσ' S' bp H' k r l w=>⟨hlt,σ',S',k14.trans k,r,l,w⟩
  ·exact hc.nx.mono (k1.trans k14)
  ·exact λσ' S' bp H' k r l w=>⟨hlt,σ',S',k14.trans k,r,l,w⟩
  ·exact hc.rt.mono (k1.trans k14)
 ·have e:i=ds.length:=show _ by lia
  subst e;exact .inl ⟨wk.stop S2 H2 k2 l2 (al _ _ _ w2),hc.nx jG S2 Rq H2 (k1.trans k2) s2 l2 (done jG S2 w2)⟩
def dH(σ:aL)(js:List Nat):aL:=js.map λj=>(σ[j]?).getD none
theorem SR.picks{K:ax}{H:Hp}{σ:aL}{τ:L2.St}(h:SR K H σ τ)(js:List Nat):SR K H (dH σ js) (pick τ js):=show _ by
 unfold dH pick
 induction js with
 |nil=>exact .nil
 |cons j js ih =>
  refine .cons (λd e=>?_) ih;dsimp only at e ⊢;cases q:σ[j]? with
  |none=>rw[q]at e;cases e
  |some o =>
   rw[q]at e;have e:o=some d:=e;subst e;obtain⟨v,h1,h2⟩:=h.at q;exact⟨v,by rw[h1];rfl,h2⟩
def za(K:ax)(te:aQ):TE:=λτ H Q=>∃Z:Zt,lE K Z te τ H Q
theorem aM.ex{X:Cx}{e:Expr}{te:aQ}(h:aM X dw e te):PE X e (za X.K te):=λpins s σ H Q I Rr=>by obtain⟨Z,q⟩:=Rr;exact h (ZX.no X Z) pins s σ H Q I q
abbrev Zt.hide(Z:Zt)(H:Hp)(p:Addr):Zt:=⟨λa=>Z a∨a=p,H⟩
theorem Rl.hide{K:ax}{Z:Zt}{S:ah}{H:Hp}{p:Addr}(l:Rl K Z S H)(hs:S p=none)(hh:H p≠none):Rl K (Z.hide H p) S H :=
 ⟨l.obj,λa z=>z.elim (l.hid a) λe=>e▸⟨hs,hh⟩,Kp.refl _ _⟩
theorem Rl.fk{K:ax}{Z Z':Zt}{S:ah}{H:Hp}(l:Rl K Z' S H)(h:∀a,Z a->Z' a)(o:Kp Z Z.base H):Rl K Z S H:=⟨l.obj,λa z=>l.hid a (h a z),o⟩
theorem Kp.fk{Z Z':Zt}{H H':Hp}(k:Kp Z' H H')(h:∀a,Z a->Z' a):Kp Z H H':=⟨k.tup,k.dQ,λa z=>k.hid a (h a z)⟩
variable{elt iter:Expr}{x:Str}{px:Pos}{scope bQ:Scope}{M N:List Str}{js:List Nat}{wi:fi}{te:aQ}
end
section
variable{K:PySem.W.Frag}
def i3(g:Int->Int->D):R3:=λx y S Q=>∃i j,x=.int i/\y=.int j/\Q (g i j) S
def rS(C:Int->Int->Prop)(g:Int->Int->D):R3:=λx y S Q=>∃i j,x=.int i/\y=.int j/\C i j/\Q (g i j) S
theorem fY{g:Int->Int->Int}:cY K (i3 λi j=>.int (g i j)) (jH λi j=>.int (g i j)):=show _ by
 intro Z x y S Q3 v w H Q rx ry l h c;obtain⟨i,j,rfl,rfl,q⟩:=h;cases rx;cases ry;exact⟨i,j,rfl,rfl,c _ S _ H (Kp.refl _ _) (.int _) l q⟩
theorem gG{g:Int->Int->Bool}:cY K (i3 λi j=>.bl (g i j)) (jH λi j=>.bl (g i j)):=show _ by
 intro Z x y S Q3 v w H Q rx ry l h c;obtain⟨i,j,rfl,rfl,q⟩:=h;cases rx;cases ry;exact⟨i,j,rfl,rfl,c _ S _ H (Kp.refl _ _) (.bl _) l q⟩
theorem aN{C:Int->Int->Prop}{g:Int->Int->Int}:cY K (rS C λi j=>.int (g i j)) (rI C λi j=>.int (g i j)):=show _ by
 intro Z x y S Q3 v w H Q rx ry l h c;obtain⟨i,j,rfl,rfl,h,q⟩:=h;cases rx;cases ry;exact⟨i,j,rfl,rfl,h,c _ S _ H (Kp.refl _ _) (.int _) l q⟩
def FF:R3:=λx y S Q=>∃i j,x=.str i/\y=.str j/\i.length+j.length<=sizeLine/\Q (.str (i++j)) S
theorem mX:cY K FF (λx y H Q=>∃i j,x=.str i/\y=.str j/\i.length+j.length<=sizeLine/\Q (.str (i++j)) H):=show _ by
 intro Z x y S Q3 v w H Q rx ry l h c;obtain⟨i,j,rfl,rfl,h,q⟩:=h;cases rx;cases ry;exact⟨i,j,rfl,rfl,h,c _ S _ H (Kp.refl _ _) (.str _) l q⟩
def rT:D->Bool
 | .non=>true
 |_=>false
theorem FH{H:Hp}{x:D}{v:V}(r:Rp K H x v):rT x=decide (v=.non):=by
 cases r<;>rfl
def FI:R3:=λx y S Q=>y=.non/\Q (.bl (rT x)) S
def FJ:R3:=λx y S Q=>y=.non/\Q (.bl (!rT x)) S
theorem zb:cY K FI (λx y H Q=>y=.non/\Q (.bl (decide (x=.non))) H):=show _ by
 intro Z x y S Q3 v w H Q rx ry l h c;obtain⟨rfl,q⟩:=h;cases ry;rw[<-FH rx];exact⟨rfl,c _ S _ H (Kp.refl _ _) (.bl _) l q⟩
theorem rV:cY K FJ (λx y H Q=>y=.non/\Q (.bl (!decide (x=.non))) H):=show _ by
 intro Z x y S Q3 v w H Q rx ry l h c;obtain⟨rfl,q⟩:=h;cases ry;rw[<-FH rx];exact⟨rfl,c _ S _ H (Kp.refl _ _) (.bl _) l q⟩
def FK:R3:=i3 λi j=>.bl (decide (i=j))
def zc:R3:=λx y S Q=>∃i j,x=.str i/\y=.str j/\Q (.bl (decide (i=j))) S
def FL:R3:=λx y S Q=>∃i j,x=.str i/\y=.str j/\Q (.bl (!decide (i=j))) S
theorem Rt{i j:Int}:decide (V.int i=V.int j)=decide (i=j):=by rw[yr];rfl
theorem FN{i j:Str}:decide (V.str i=V.str j)=decide (i=j):=by
 by_cases h:i=j
 ·subst h;simp
 ·have:V.str i≠V.str j:=λe=>h (V.str.inj e);simp[h]
theorem dn:cY K FK yp:=by
 intro Z x y S Q3 v w H Q rx ry l h c;obtain⟨i,j,rfl,rfl,q⟩:=h;cases rx;cases ry;refine⟨rfl,?_⟩;rw[Rt];exact c _ S _ H (Kp.refl _ _) (.bl _) l q
theorem eT:cY K zc yp:=by
 intro Z x y S Q3 v w H Q rx ry l h c;obtain⟨i,j,rfl,rfl,q⟩:=h;cases rx;cases ry;refine⟨rfl,?_⟩;rw[FN];exact c _ S _ H (Kp.refl _ _) (.bl _) l q
theorem oE:cY K FL yq:=by
 intro Z x y S Q3 v w H Q rx ry l h c;obtain⟨i,j,rfl,rfl,q⟩:=h;cases rx;cases ry;refine⟨rfl,?_⟩;rw[FN];exact c _ S _ H (Kp.refl _ _) (.bl _) l q
mutual
inductive Dn(S:ah):D->Dt->Prop where
 |non:Dn S .non .non
 |bl (b:Bool):Dn S (.bl b) (.bl b)
 |int (i:Int):Dn S (.int i) (.int i)
 |str (x:Str):Dn S (.str x) (.str x)
 |tup {ds:List D} {es:List Dt}:dS S ds es->Dn S (.tup ds) (.tup es)
 |bD {ds:List D} {es:List Dt}:dS S ds es->Dn S (.bD ds) (.lst es)
 |ref {a:Addr} {ds:List D} {es:List Dt}:S a=some (.lst ds)->dS S ds es->Dn S (.ref a) (.lst es)
inductive dS(S:ah):List D->List Dt->Prop where
 |nil:dS S [] []
 |cons {d:D} {e:Dt} {ds:List D} {es:List Dt}:Dn S d e->dS S ds es->dS S (d::ds) (e::es)
end
mutual
theorem Dn.down{Z:Zt}{S:ah}{H:Hp}(l:Rl K Z S H):∀{d:D} {e:Dt} {v:V},Dn S d e->Rp K H d v->DR K H e v
 |_,_,_,.non,r=>by cases r;exact .non
 |_,_,_,.bl _,r=>by cases r;exact .bl _
 |_,_,_,.int _,r=>by cases r;exact .int _
 |_,_,_,.str _,r=>by cases r;exact .str _
 |_,_,_,.tup h,r=>by cases r with|tup p q=>exact .tup p (dS.down l h q)
 |_,_,_,.bD h,r=>by cases r with|bD p q=>exact .lst p.sq (dS.down l h q)
 |_,_,_,.ref e h,r=>by
  cases r;obtain⟨vs,h1,h2⟩:=l.obj _ _ e;exact .lst (bc.of h1) (dS.down l h h2)
theorem dS.down{Z:Zt}{S:ah}{H:Hp}(l:Rl K Z S H):∀{ds:List D} {es:List Dt} {vs:List V},dS S ds es->a7 K H ds vs->dR K H es vs
 |_,_,_,.nil,r=>by cases r;exact .nil
 |_,_,_,.cons h t,r=>by cases r with|cons p q=>exact .cons (Dn.down l h p) (dS.down l t q)
end
mutual
def D.dt:D->Dt
 | .non=>.non
 | .bl b=>.bl b
 | .int i=>.int i
 | .str x=>.str x
 | .tup ds=>.tup (D.cR ds)
 | .bD ds=>.lst (D.cR ds)
 | .ref _=>.non
 | .ty _=>.non
def D.cR:List D->List Dt
 |[]=>[]
 |d::ds=>d.dt::D.cR ds
end
mutual
def D.pure:D->Bool
 | .tup ds=>D.gH ds
 | .bD ds=>D.gH ds
 | .ref _=>false
 | .ty _=>false
 |_=>true
def D.gH:List D->Bool
 |[]=>true
 |d::ds=>d.pure&&D.gH ds
end
mutual
theorem Dn.of{S:ah}:∀{d:D},d.pure=true->Dn S d d.dt
 | .non,_=>.non
 | .bl _,_=>.bl _
 | .int _,_=>.int _
 | .str _,_=>.str _
 | .tup ds,h=>by simp only[D.pure]at h;simp only[D.dt];exact .tup (dS.of h)
 | .bD ds,h=>by simp only[D.pure]at h;simp only[D.dt];exact .bD (dS.of h)
 | .ref _,h=>by simp[D.pure]at h
 | .ty _,h=>by simp[D.pure]at h
theorem dS.of{S:ah}:∀{ds:List D},D.gH ds=true->dS S ds (D.cR ds)
 |[],_=>.nil
 |d::ds,h=>by
  simp only[D.gH,gq]at h;simp only[D.cR];exact .cons (Dn.of h.1) (dS.of h.2)
end
theorem D.l9:∀{ds:List D},D.gH ds=true↔∀d∈ds,d.pure=true
 |[]=>by simp[D.gH]
 |d::ds=>by simp[D.gH,D.l9 (ds:=ds)]
theorem D.jN:∀ds:List D,D.cR ds=ds.map D.dt
 |[]=>rfl
 |d::ds=>by simp only[D.cR,bT,D.jN ds]
def oF(n:Nat):R3:=λx y S Q=>∃d e,Dn S x d/\Dn S y e/\cW d<=n/\Q (.bl (aW d e)) S
theorem u_{n:Nat}:cY K (oF n) (λx y H Q=>∃d e,DR K H d x/\DR K H e y/\cW d<=n/\Q (.bl (aW d e)) H):=show _ by
 intro Z x y S Q3 v w H Q rx ry l h c;obtain⟨d,e,h1,h2,hn,q⟩:=h;exact⟨d,e,h1.down l rx,h2.down l ry,hn,c _ S _ H (Kp.refl _ _) (.bl _) l q⟩
def jO:D->Bool
 | .non=>true
 | .bl _=>true
 | .int _=>true
 | .str _=>true
 |_=>false
def vD:D->V
 | .non=>.non
 | .bl b=>.bl b
 | .int i=>.int i
 | .str x=>.str x
 |_=>.non
theorem FO{H:Hp}{x:D}{v:V}(r:Rp K H x v)(h:jO x=true):v=vD x/\jJ v=true:=by
 cases r<;>first|exact⟨rfl,rfl⟩|(simp[jO]at h)
theorem zd{H:Hp}:∀{ds:List D} {vs:List V},a7 K H ds vs->ds.all jO=true->vs=ds.map vD/\vs.all jJ=true
 |_,_,.nil,_=>⟨rfl,rfl⟩
 |_,_,.cons r t,h=>by
  simp only[nW,gq]at h;obtain⟨e1,f1⟩:=FO r h.1;obtain⟨e2,f2⟩:=zd t h.2;subst e1;subst e2;exact⟨rfl,by simp only[nW,f1,f2,nU]⟩
def memD(x:D)(ds:List D):Bool:=inV (vD x) (ds.map vD)
def va(neg:Bool):R3:=λx y S Q=>∃ds,(IsL S y ds∨y=.tup ds)/\jO x=true/\ds.all jO=true/\Q (.bl (if neg then !memD x ds else memD x ds)) S
theorem oG{neg:Bool}:cY K (va neg) (yG K neg):=show _ by
 intro Z x y S Q3 v w H Q rx ry l h c;obtain⟨ds,hy,fx,fd,q⟩:=h;obtain⟨e1,f1⟩:=FO rx fx;subst e1;rcases hy with hy|rfl
 ·obtain⟨a,vs,rfl,h1,h2⟩:=hy.down ry l;obtain⟨e2,f2⟩:=zd h2 fd;subst e2;exact⟨a,_,rfl,.inl h1,f1,f2,c _ S _ H (Kp.refl _ _) (.bl _) l q⟩
 ·cases ry with
  |tup h1 h2 =>
   obtain⟨e2,f2⟩:=zd h2 fd;subst e2;exact⟨_,_,rfl,.inr h1,f1,f2,c _ S _ H (Kp.refl _ _) (.bl _) l q⟩
theorem FP(x:Str)(xs:List Str):memD (.str x) (xs.map D.str)=decide (x∈xs):=show _ by
 unfold memD inV
 induction xs with
 |nil=>rfl
 |cons y ys ih =>
  simp only[bT,mH,br];rw[ih];by_cases h:y=x
  ·subst h;simp[iY,vD]
  ·have h':¬x=y:=λz=>h z.symm;simp[iY,vD,h,h']
theorem FQ(xs:List Str):(xs.map D.str).all jO=true:=by
 induction xs with
 |nil=>rfl
 |cons y ys ih=>simp only[bT,nW,ih];rfl
def vb:R3:=λx y S Q=>∃ds i d,IsL S x ds/\y=.int i/\cy ds i=some d/\Q d S
def kE:R3:=λx y S Q=>∃ds i d,x=.tup ds/\y=.int i/\cy ds i=some d/\Q d S
def FR:R3:=λx y S Q=>∃z i c,x=.str z/\y=.int i/\z.length<=sizeLine/\cy z.cps.toList i=some c/\Q (.str ⟨#[c]⟩) S
theorem a7.cy{H:Hp}{ds:List D}{vs:List V}{i:Int}{d:D}(r:a7 K H ds vs)(h:L2.cy ds i=some d):∃v,L2.cy vs i=some v/\Rp K H d v:=show _ by
 unfold L2.cy at h ⊢;rw[r.len]at h;cases e:gz vs.length i with
 |none=>rw[e]at h;cases h
 |some j =>
  rw[e]at h;exact r.at h
theorem c8:cY K vb (Eo K):=show _ by
 intro Z x y S Q3 v w H Q rx ry l h c;obtain⟨ds,i,d,h1,rfl,h2,q⟩:=h;cases ry;obtain⟨a,vs,rfl,h3,h4⟩:=h1.down rx l;obtain⟨u,h5,h6⟩:=h4.cy h2;exact⟨a,vs,i,u,rfl,rfl,h3,h5,c d S u H (Kp.refl _ _) h6 l q⟩
theorem aH:cY K kE (Ep K):=show _ by
 intro Z x y S Q3 v w H Q rx ry l h c;obtain⟨ds,i,d,rfl,rfl,h2,q⟩:=h;cases ry;cases rx with
 |tup h3 h4 =>
  obtain⟨u,h5,h6⟩:=h4.cy h2;exact⟨_,_,i,u,rfl,rfl,h3,h5,c d S u H (Kp.refl _ _) h6 l q⟩
theorem FT:cY K FR Es:=by
 intro Z x y S Q3 v w H Q rx ry l h c;obtain⟨z,i,k,rfl,rfl,hz,h2,q⟩:=h;cases ry;cases rx;exact⟨z,i,k,rfl,rfl,hz,h2,c _ S _ H (Kp.refl _ _) (.str _) l q⟩
def cutD(xs:List D)(lo hi:Option Int):List D:=(xs.drop (HT.aP xs.length 0 lo)).take (HT.aP xs.length xs.length hi-HT.aP xs.length 0 lo)
theorem a7.cut{H:Hp}{ds:List D}{vs:List V}(r:a7 K H ds vs)(lo hi:Option Int):a7 K H (cutD ds lo hi) (ky vs lo hi):=by
 unfold cutD ky;rw[r.len];exact(r.drop _).take _
def FU:D->Option Int->Option Int->ah->K3->Prop:=λx lo hi S Q=>∃ds,IsL S x ds/\cQ S (cutD ds lo hi) Q
def FV:D->Option Int->Option Int->ah->K3->Prop:=λx lo hi S Q=>∃ds,x=.tup ds/\Q (.tup (cutD ds lo hi)) S
def FW:D->Option Int->Option Int->ah->K3->Prop:=λx lo hi S Q=>∃z,x=.str z/\z.length<=sizeLine/\Q (.str (textOf (kB z.cps.toList lo hi))) S
theorem jP:u4 K FU (Eu K):=by
 intro Z x lo hi S Q3 v H Q rx l h c;obtain⟨ds,h1,q⟩:=h;obtain⟨a,vs,rfl,h3,h4⟩:=h1.down rx l;exact⟨a,vs,rfl,h3,cQ.down q (h4.cut lo hi) l c⟩
theorem oH:u4 K FW E2:=by
 intro Z x lo hi S Q3 v H Q rx l h c;obtain⟨z,rfl,hz,q⟩:=h;cases rx;exact⟨z,rfl,hz,c _ S _ H (Kp.refl _ _) (.str _) l q⟩
def FX:R3:=λx y S Q=>∃a b ds es,x=.ref a/\y=.ref b/\S a=some (.lst ds)/\S b=some (.lst es)/\ds.length+es.length<=sizeLine/\cQ S (ds++es) Q
theorem oI:cY K FX EF:=show _ by
 intro Z x y S Q3 v w H Q rx ry l h c;obtain⟨a,b,ds,es,rfl,rfl,h1,h2,hz,q⟩:=h;cases rx;cases ry;obtain⟨vs,h3,h4⟩:=l.obj a _ h1;obtain⟨ws,h5,h6⟩:=l.obj b _ h2;exact⟨a,b,vs,ws,rfl,rfl,h3,h5,by rw[<-h4.len,<-h6.len];exact hz,cQ.down q (h4.append h6) l c⟩
def FY:R3:=λx y S Q=>∃ds es,x=.tup ds/\y=.tup es/\ds≠[]/\ds.length+es.length<=sizeLine/\Q (.tup (ds++es)) S
def oJ:List D->ah->K3->Prop:=λxs S Q=>∃x ds,xs=[x]/\(IsL S x ds∨x=.tup ds)/\Q (.int ds.length) S
theorem dI:fV K oJ (λxs H Q=>∃p ys,xs=[.ref p]/\(bc K H p ys∨bz K H p ys)/\Q (.int ys.length) H):=show _ by
 intro Z ds S Q3 vs H Q r l h c;obtain⟨x,es,rfl,hx,q⟩:=h;cases r with
 |cons r rr =>
  cases rr;rcases hx with hx|rfl
  ·obtain⟨a,ws,rfl,h3,h4⟩:=hx.down r l;refine⟨a,ws,rfl,.inl h3,?_⟩;rw[<-h4.len];exact c _ S _ H (Kp.refl _ _) (.int _) l q
  ·cases r with
   |tup h3 h4 =>
    refine⟨_,_,rfl,.inr h3,?_⟩;rw[<-h4.len];exact c _ S _ H (Kp.refl _ _) (.int _) l q
def FZ:List D->ah->K3->Prop:=λxs S Q=>∃z,xs=[.str z]/\z.length<=sizeLine/\Q (.int z.length) S
theorem Ru:fV K FZ (λxs H Q=>∃z,xs=[.str z]/\z.length<=sizeLine/\Q (.int z.length) H):=show _ by
 intro Z ds S Q3 vs H Q r l h c;obtain⟨z,rfl,hz,q⟩:=h;cases r with
 |cons r rr =>
  cases rr;cases r;exact⟨z,rfl,hz,c _ S _ H (Kp.refl _ _) (.int _) l q⟩
def ze:List D->ah->K3->Prop:=λxs S Q=>∃x ds,xs=[x]/\(IsL S x ds∨x=.tup ds)/\cQ S ds Q
theorem kF:fV K ze (λxs H Q=>∃p ys,xs=[.ref p]/\(bc K H p ys∨bz K H p ys)/\∀l,H l=none->Q (.ref l) (upd H l (.lst ys))):=show _ by
 intro Z ds S Q3 vs H Q r l h c;obtain⟨x,es,rfl,hx,q⟩:=h;cases r with
 |cons r rr =>
  cases rr;rcases hx with hx|rfl
  ·obtain⟨a,ws,rfl,h3,h4⟩:=hx.down r l;exact⟨a,ws,rfl,.inl h3,cQ.down q h4 l c⟩
  ·cases r with
   |tup h3 h4=>exact⟨_,_,rfl,.inr h3,cQ.down q h4 l c⟩
def F3:List D->ah->K3->Prop:=λxs S Q=>∃x ds,xs=[x]/\(IsL S x ds∨x=.tup ds)/\Q (.tup ds) S
theorem fF:fV K F3 (λxs H Q=>∃p ys,xs=[.ref p]/\((bc K H p ys/\∀l,H l=none->Q (.ref l) (upd H l (.tup ys)))∨(bz K H p ys/\Q (.ref p) H))):=show _ by
 intro Z ds S Q3 vs H Q r l h c;obtain⟨x,es,rfl,hx,q⟩:=h;cases r with
 |cons r rr =>
  cases rr;rcases hx with hx|rfl
  ·obtain⟨a,ws,rfl,h3,h4⟩:=hx.down r l;exact⟨a,ws,rfl,.inl ⟨h3,tup.down q h4 l c⟩⟩
  ·cases r with
   |tup h3 h4=>exact⟨_,_,rfl,.inr ⟨h3,c _ S _ H (Kp.refl _ _) (.tup h3 h4) l q⟩⟩
def vc:D->List D->ah->K3->Prop:=λx ys S Q=>∃a ds y,x=.ref a/\ys=[y]/\S a=some (.lst ds)/\ds.length<sizeLine/\Q .non (up S a (.lst (ds++[y])))
theorem fZ:oC K vc EA:=show _ by
 intro Z x ds S Q3 v vs H Q rx r l h c;obtain⟨a,es,y,rfl,rfl,e,hz,q⟩:=h;cases rx;cases r with
 |@cons _ w _ _ r rr =>
  cases rr;obtain⟨ws,h1,h2⟩:=l.obj a _ e;have kk:Kp Z H (upd H a (.lst (ws++[w]))):=Kp.at l e;exact⟨a,ws,w,rfl,rfl,h1,by rw[<-h2.len];exact hz,c _ _ _ _ kk .non (l.put (o:=.lst (es++[y])) kk (l.ox e) ⟨_,eP,(h2.mono kk).append (.cons (r.mono kk) .nil)⟩) q⟩
def F4:D->List D->ah->K3->Prop:=λx ys S Q=>∃a ds y,x=.ref a/\ys=[]/\S a=some (.lst (ds++[y]))/\Q y (up S a (.lst ds))
theorem F5:oC K F4 EW:=show _ by
 intro Z x ds S Q3 v vs H Q rx r l h c;obtain⟨a,es,y,rfl,rfl,e,q⟩:=h;cases rx;cases r;obtain⟨ws,h1,h2⟩:=l.obj a _ e;obtain⟨us,u,rfl,h3,h4⟩:=h2.snoc_inv;have kk:Kp Z H (upd H a (.lst us)):=Kp.at l e;exact⟨a,us,u,rfl,rfl,h1,c _ _ _ _ kk (h4.mono kk) (l.put (o:=.lst es) kk (l.ox e) ⟨_,eP,h3.mono kk⟩) q⟩
def F6:D->List D->ah->K3->Prop:=λx ys S Q=>∃a b ds es,x=.ref a/\ys=[.ref b]/\S a=some (.lst ds)/\S b=some (.lst es)/\ds.length+es.length<=sizeLine/\Q .non (up S a (.lst (ds++es)))
theorem zf:oC K F6 EB:=show _ by
 intro Z x ds S Q3 v vs H Q rx r l h c;obtain⟨a,b,es,fs,rfl,rfl,e,e2,hz,q⟩:=h;cases rx;cases r with
 |cons r rr =>
  cases rr;cases r;obtain⟨ws,h1,h2⟩:=l.obj a _ e;obtain⟨us,h3,h4⟩:=l.obj b _ e2;have kk:Kp Z H (upd H a (.lst (ws++us))):=Kp.at l e;exact⟨a,b,ws,us,rfl,rfl,h1,h3,by rw[<-h2.len,<-h4.len];exact hz,c _ _ _ _ kk .non (l.put (o:=.lst (es++fs)) kk (l.ox e) ⟨_,eP,(h2.mono kk).append (h4.mono kk)⟩) q⟩
end
end E3
namespace E3
open PySem PySem.Spec PyProof.Rows L2 EE
section
variable{prog:Program}{w:World}{A:Around}{E:Value->Shared->Prop}{s:Shared}
theorem Rv{t sl:Addr}{items:Array Value}{vl vu:Value}{lo hi:Option Int}{Q:Value->Shared->Prop}(ht:IsTup s.heap t items)(hs:s.heap.IsSliceOf sl vl vu .none)(pl:IsPart vl lo)(pu:IsPart vu hi)
 (hw:HT.aP items.size 0 lo=0/\HT.aP items.size items.size hi=items.size) (h:Q (.ref t) s):wpAny (model prog w) A (getItem (.ref t) (.ref sl)) Q E s:=show _ by
 obtain⟨os,hos,hcs,hds⟩:=id hs;have hTs:s.TypeIs (.ref sl) "slice":=⟨os,hos,hcs⟩;obtain⟨o,ho,hc,hd⟩:=id ht;unfold getItem
 try with_reducible refine j' ?_
 first|refine ak (aF ?_)|skip
 refine ak (Mn ht.typeIs (by decide) ?_);refine ak (jw (name:=ik "__getitem__") ht.typeIs nZ
  (ig nZ ht.typeIs Mo ?_ (Mp _ _)))
 show wpAny _ _ (Cn (.ref t) >>= _) _ _ s;refine ak (tupleItemsOf_ ht ?_);refine ak (n5 hTs ?_);rw[if_pos (by decide)];refine ak (HT.Ej hs pl pu ?_);have Rw:(((HT.aP items.size 0 lo:Nat):Int)==0&&(1:Int)==1&&(HT.aP items.size items.size hi-HT.aP items.size 0 lo)==items.size)=true:=by
  rw[hw.1,hw.2];simp
 show wpAny _ _ (if(((HT.aP items.size 0 lo:Nat):Int)==0&&(1:Int)==1&&(HT.aP items.size items.size hi-HT.aP items.size 0 lo)==items.size)=true then _ else _) _ _ s;rw[if_pos Rw];refine ak (m:=MH (Value.ref t)) ?_;unfold MH
 first
  |refine ak (n5 ht.typeIs (aF ?_))
  |exact ak (n5 ht.typeIs (aF ?_))
 rw[if_pos (by decide)];exact ak (lr (aF ⟨_,rfl,aF h⟩))
end
section
variable{X:Cx}
def F7(K:ax):V->Option Int->Option Int->Hp->VK->Prop:=λx lo hi H Q=>∃a xs,x=.ref a/\bz K H a xs /\
 ((HT.aP xs.length 0 lo=0/\HT.aP xs.length xs.length hi=xs.length)->Q (.ref a) H)/\(¬(HT.aP xs.length 0 lo=0/\HT.aP xs.length xs.length hi=xs.length)->∀p,H p=none->Q (.ref p) (upd H p (.tup (ky xs lo hi))))
theorem vd:om X (F7 X.K):=show _ by
 intro pins s σ H x v vl vu lo hi sl Q I rx hs pl pu h;obtain⟨a,xs,rfl,hx,h1,h2⟩:=h;by_cases hw:HT.aP xs.length 0 lo=0/\HT.aP xs.length xs.length hi=xs.length
 ·cases rx;obtain⟨its,r,ht,hz⟩:=I.tuple hx;have hlen:its.toArray.size=xs.length:=by rw[cu];exact r.length.symm
  refine⟨"tuple",_,nZ.lookup,ht.typeIs,?_⟩;refine Rv ht hs pl pu (by rw[hlen];exact hw) ?_;exact⟨.ref a,H,I,rfl,h1 hw⟩
 ·exact P_ pins s σ H _ v vl vu lo hi sl Q I rx hs pl pu ⟨a,xs,rfl,hx,hw,h2 hw⟩
theorem Ry{xs:List D}{lo hi:Option Int}(h:HT.aP xs.length 0 lo=0/\HT.aP xs.length xs.length hi=xs.length):cutD xs lo hi=xs:=by
 unfold cutD;rw[h.1,h.2,t5,t6,iN]
theorem ve{K:ax}:u4 K FV (F7 K):=show _ by
 intro Z x lo hi S Q3 v H Q rx l h c;obtain⟨ds,rfl,q⟩:=h;cases rx with
 |@tup a vs _ h3 h4 =>
  refine⟨a,vs,rfl,h3,λe=>?_,λ_=>tup.down q (h4.cut lo hi) l c⟩;rw[<-h4.len]at e;rw[Ry e]at q;exact c _ S _ H (Kp.refl _ _) (.tup h3 h4) l q
theorem F8{K:ax}:cY K FY (El K):=show _ by
 intro Z x y S Q3 v w H Q rx ry l h c;obtain⟨ds,es,rfl,rfl,hn,hz,q⟩:=h;cases rx with
 |@tup a vs _ h1 h2 =>
  cases ry with
  |@tup b ws _ h3 h4 =>
   refine⟨a,b,vs,ws,rfl,rfl,h1,h3,?_,by rw[<-h2.len,<-h4.len];exact hz,λe=>?_,λ_=>tup.down q (h2.append h4) l c⟩
   ·rintro rfl;cases h2;exact hn rfl
   ·subst e;cases h4;rw[nV]at q;exact c _ S _ H (Kp.refl _ _) (.tup h1 h2) l q
def vf(S:ah):D->String->Prop
 | .non,n=>n="NoneType"
 | .bl _,n=>n="bool"
 | .int _,n=>n="int"
 | .str _,n=>n="str"
 | .tup _,n=>n="tuple"
 | .bD _,n=>n="list"
 | .ref a,n=>(n="list"/\∃ds,S a=some (.lst ds))∨(n="dict"/\∃kvs,S a=some (.l0 kvs))
 | .ty _,_=>False
inductive oK(K:ax)(H:Hp):V->String->Prop where
 |of {x:V} {n:String}:gU K H x (.type n)->oK K H x n
 |tup {a:Addr} {xs:List V}:bz K H a xs->oK K H (.ref a) "tuple"
 |lst {a:Addr} {xs:List V}:bc K H a xs->oK K H (.ref a) "list"
theorem vg:fg X (.builtin "isinstance") (λxs H Q=>∃x n m b,xs=[x,.ty n]/\oK X.K H x m/\mF X.K (.type m) (.type n)=some b/\Q (.bl b) H):=show _ by
 intro pins s σ H xs us Q I r h;obtain⟨x,n,m,b,rfl,ty,e,q⟩:=h;obtain⟨u,c,rfl,rx,rc⟩:=vals2 r;obtain rfl:c=Value.type n:=rc;cases ty with
 |of t=>exact PB I rx t e λtk=>⟨.bl b,H,I.tok _,rfl,q⟩
 |@tup a xs ht =>
  cases (show u=Value.ref a from rx);obtain⟨_,_,⟨o,h1,h2,_⟩,_⟩:=I.tuple ht;exact ij Mf I.eR ⟨o,h1,h2⟩ e (λz=>nomatch z) λtk=>⟨.bl b,H,I.tok _,rfl,q⟩
 |@lst a xs ht =>
  cases (show u=Value.ref a from rx);obtain⟨_,_,⟨o,n,h1,h2,_⟩,_⟩:=I.list ht;exact ij CB I.eR ⟨o,h1,h2⟩ e (λz=>nomatch z) λtk=>⟨.bl b,H,I.tok _,rfl,q⟩
theorem vf.down{K:ax}{Z:Zt}{S:ah}{H:Hp}{x:D}{v:V}{n:String}(h:vf S x n)(r:Rp K H x v)(l:Rl K Z S H):oK K H v n:=show _ by
 cases r with
 |non=>cases h;exact .of .non
 |bl b=>cases h;exact .of (.bl b)
 |int i=>cases h;exact .of (.int i)
 |str x=>cases h;exact .of (.str x)
 |tup h1 h2=>cases h;exact .tup h1
 |bD h1 h2=>cases h;exact .lst h1.sq
 |ty n=>exact h.elim
 |ref a =>
  rcases h with⟨rfl,ds,e⟩|⟨rfl,kvs,e⟩
  ·obtain⟨vs,h1,_⟩:=l.obj a _ e;exact .lst (bc.of h1)
  ·obtain⟨vs,h1,_⟩:=l.obj a _ e;exact .of (.dK h1)
def jB(m n:String):Option Bool:=if m=n then some true else if m="bool"/\n="int" then some true else
 if m∈["NoneType","bool","int","str","tuple","list","dict"]/\n∈["bool","int","str","tuple","list","dict"] then some false else none
theorem Rz{K:ax}{m n:String}{b:Bool}(h:jB m n=some b):mF K (.type m) (.type n)=some b:=show _ by
 by_cases e:m=n
 ·subst e;rw[jB,if_pos rfl]at h;cases h;exact QN K m
 rw[jB,if_neg e]at h;by_cases e2:m="bool"/\n="int"
 ·rw[if_pos e2]at h;cases h;obtain⟨rfl,rfl⟩:=e2;unfold mF iP MI;dsimp only;cbv
 rw[if_neg e2]at h;by_cases e3:m∈["NoneType","bool","int","str","tuple","list","dict"]/\n∈["bool","int","str","tuple","list","dict"]
 ·rw[if_pos e3]at h;cases h;obtain⟨h1,h2⟩:=e3;simp only[br,cG,or_false]at h1 h2;unfold mF iP MI;dsimp only;rcases h1 with rfl|rfl|rfl|rfl|rfl|rfl|rfl<;>rcases h2 with rfl|rfl|rfl|rfl|rfl|rfl<;>first|exact absurd rfl e|exact absurd ⟨rfl,rfl⟩ e2|cbv
 ·rw[if_neg e3]at h;cases h
def F9:List D->ah->K3->Prop:=λxs S Q=>∃x n m b,xs=[x,.ty n]/\vf S x m/\jB m n=some b/\Q (.bl b) S
theorem vh{K:ax}:fV K F9 (λxs H Q=>∃x n m b,xs=[x,.ty n]/\oK K H x m/\mF K (.type m) (.type n)=some b/\Q (.bl b) H):=show _ by
 intro Z ds S Q3 vs H Q r l h c;obtain⟨x,n,m,b,rfl,ty,e,q⟩:=h;cases r with
 |cons r rr =>
  cases rr with
  |cons r2 rr =>
   cases rr;cases r2;exact⟨_,n,m,b,rfl,ty.down r l,Rz e,c _ S _ H (Kp.refl _ _) (.bl _) l q⟩
end
abbrev aY:=List D->ah->K3->X3->Prop
inductive jb(K:ax)(sp:aY)(vs:List V)(H:Hp)(Q:VK)(E:XK):Prop where
 |mk (Z:Zt) (ds:List D) (S:ah) (Q3:K3) (E3:X3) (h1:a7 K H ds vs) (h2:Rl K Z S H) (h3:sp ds S Q3 E3) (h4:CK K Z H Q3 Q) (h5:E9 K Z H E3 E)
structure ay(P:Program)(w:World)(K:ax)(mg:Str->Option Value)(base:Heap)(k:Nat)(x:Str)(ps:List Str)(sp:aY):Prop where
 ex:∃f fd,d9 P w K mg base (cC P w) k f fd ps (jb K sp)/\Binds K fd ps []/\bI K (.ref f)=true/\mg x=some (.ref f)
def eL(N:List Str)(ds:List D):aL:=ds.map some++fK (N.length-ds.length) none
section
variable{P:Program}{w:World}{K:PySem.W.Frag}{mg:Str->Option Value}{base:Heap}
theorem ay.mono{j k:Nat}{x:Str}{ps:List Str}{sp:aY}(C:ay P w K mg base j x ps sp)(h:j<=k):ay P w K mg base k x ps sp:=by
 obtain⟨f,fd,F,r⟩:=C.ex;exact⟨f,fd,F.mono h,r⟩
theorem ay.imp{k:Nat}{x:Str}{ps:List Str}{sp gW:aY}(C:ay P w K mg base k x ps sp)(h:∀ds S Q E,gW ds S Q E->sp ds S Q E):ay P w K mg base k x ps gW:=show _ by
 obtain⟨f,fd,F,r⟩:=C.ex;refine⟨f,fd,F.imp λvs H Q E cU=>by obtain⟨Z,ds,S,Q3,E3,h1,h2,h3,h4,h5⟩:=cU;exact⟨Z,ds,S,Q3,E3,h1,h2,h _ _ _ _ h3,h4,h5⟩,r⟩
def l_(S A B:ah):Prop:=∀a,(S a=A a/\B a=none)∨(A a=none/\S a=B a)
def Sub(A B:ah):Prop:=∀a o,A a=some o->B a=some o
def fr(sp:aY):aY:=λds S Q E=>∃S0 F,l_ S S0 F/\sp ds S0 (λd S1=>∃S2,Sub S2 S1/\∀S',l_ S' S2 F->Q d S') (λC a S1=>∃S2,Sub S2 S1/\∀S',l_ S' S2 F->E C a S')
theorem Rl.sub{Z:Zt}{S S':ah}{H:Hp}(l:Rl K Z S H)(h:Sub S' S):Rl K Z S' H:=show _ by
 refine⟨λa o e=>l.obj a o (h a o e),λa z=>⟨?_,(l.hid a z).2⟩,l.old⟩;cases e:S' a with
 |none=>rfl
 |some o =>
  have:=h a o e;rw[(l.hid a z).1]at this;cases this
def join(A B:ah):ah:=λa=>match A a with
 |some o=>some o
 |none=>B a
abbrev Zt.with(Z:Zt)(H:Hp)(F:ah):Zt:=⟨λa=>Z a∨F a≠none,H⟩
theorem Rl.frame{Z:Zt}{S S0 F S1 S2:ah}{H H':Hp}(l:Rl K Z S H)(hs:l_ S S0 F)(k:Kp (Z.with H F) H H')(l1:Rl K (Z.with H F) S1 H')(h2:Sub S2 S1) :
 l_ (join S2 F) S2 F/\Rl K Z (join S2 F) H':=show _ by
 have l2:=l1.sub h2;have RA:∀a,F a≠none->S2 a=none:=λa z=>(l2.hid a (.inr z)).1;refine⟨λa=>?_,λa o e=>?_,λa z=>?_,l.old.trans (k.fk λa z=>.inl z)⟩
 ·cases e:F a with
  |none =>
   refine .inl ⟨?_,rfl⟩;unfold join;cases e2:S2 a with
   |none=>exact e
   |some o=>rfl
  |some o =>
   have:=RA a (by rw[e];simp);refine .inr ⟨this,?_⟩;unfold join;rw[this];exact e
 ·unfold join at e;cases e2:S2 a with
  |some q =>
   rw[e2]at e;cases e;exact l2.obj a _ e2
  |none =>
   rw[e2]at e;have e:F a=some o:=e;have hne:F a≠none:=by rw[e];simp
   have hS:S a=some o:=by
    rcases hs a with⟨_,z⟩|⟨_,z⟩
    ·exact absurd z hne
    ·rw[z];exact e
   exact(l.obj a o hS).keep k (k.hid a (.inr hne))
 ·have z1:=l2.hid a (.inl z);have z2:=(l.hid a z).1;refine⟨?_,z1.2⟩;unfold join;rw[z1.1];show F a=none;rcases hs a with⟨_,q⟩|⟨_,q⟩
  ·exact q
  ·rw[<-q];exact z2
theorem ay.frame{k:Nat}{x:Str}{ps:List Str}{sp:aY}(C:ay P w K mg base k x ps sp):ay P w K mg base k x ps (fr sp):=show _ by
 obtain⟨f,fd,F0,r⟩:=C.ex;refine⟨f,fd,F0.imp λvs H Q E ⟨Z,ds,S,Q3,E3,h1,l,⟨S0,F,hs,h3⟩,cq,ce⟩=>?_,r⟩;refine⟨Z.with H F,ds,S0,_,_,h1,⟨λa o e=>?_,λa z=>?_,Kp.refl _ _⟩,h3,?_,?_⟩
 ·refine l.obj a o ?_;rcases hs a with⟨q,_⟩|⟨q,_⟩
  ·rw[q];exact e
  ·rw[q]at e;cases e
 ·rcases z with z|z
  ·have z2:=l.hid a z;refine⟨?_,z2.2⟩;rcases hs a with⟨q,_⟩|⟨q,_⟩
   ·rw[<-q];exact z2.1
   ·exact q
  ·rcases hs a with⟨_,q⟩|⟨q,q2⟩
   ·exact absurd q z
   ·refine⟨q,?_⟩;cases e:F a with
    |none=>exact absurd e z
    |some o=>exact(l.obj a o (q2.trans e)).there
 ·rintro d S1 v H' k1 r1 l1 ⟨S2,hsub,q⟩;obtain⟨gW,l'⟩:=l.frame hs k1 l1 hsub;exact cq d _ v H' (k1.fk λa z=>.inl z) r1 l' (q _ gW)
 ·rintro C a S1 H' k1 l1 ha ⟨S2,hsub,q⟩;obtain⟨gW,l'⟩:=l.frame hs k1 l1 hsub;exact ce C a _ H' (k1.fk λa z=>.inl z) l' ha (q _ gW)
theorem vi(S:ah):l_ S emp S:=λ_=>.inr ⟨rfl,rfl⟩
theorem vj{S F:ah}(h:l_ S emp F):S=F:=by
 funext a;rcases h a with⟨q,z⟩|⟨_,q⟩
 ·rw[q,z];rfl
 ·exact q
theorem vk(S:ah):Sub emp S:=λa o e=>(nomatch e)
def one(p:Addr)(o:O):ah:=λa=>if a=p then some o else none
theorem RB{S F:ah}{p:Addr}{o:O}(h:l_ S (one p o) F):F p=none/\S=up F p o:=show _ by
 have hp:F p=none:=by
  rcases h p with⟨_,z⟩|⟨q,_⟩
  ·exact z
  ·simp[one]at q
 refine⟨hp,funext λa=>?_⟩;by_cases e:a=p
 ·subst e;rw[ao];rcases h a with⟨q,_⟩|⟨q,_⟩
  ·rw[q];simp[one]
  ·simp[one]at q
 ·rw[a9 e];rcases h a with⟨q,z⟩|⟨_,q⟩
  ·rw[q,z];simp[one,e]
  ·exact q
theorem sub_one{S:ah}{p:Addr}{o:O}(h:S p=some o):Sub (one p o) S:=λa u e=>by
 unfold one at e
 split at e
 ·subst a;cases e;exact h
 ·cases e
def vS(A:List D->(D->Prop)->Prop):aY:=λds S Q _=>A ds λd=>Q d S
def rW(A:List D->(List D->Prop)->Prop):aY:=λds S Q _=>A ds λys=>cQ S ys Q
variable{x:Str}{st:Stmt}{N ps:List Str}{k:Nat}
abbrev Zt.at(Z:Zt)(H:Hp):Zt:=⟨Z.p,H⟩
theorem Rl.into{Z:Zt}{S:ah}{H:Hp}(l:Rl K Z S H):Rl K (Z.at H) S H:=⟨l.obj,l.hid,Kp.refl _ _⟩
theorem Rl.out{Z:Zt}{S S':ah}{H H':Hp}(l':Rl K (Z.at H) S' H')(l:Rl K Z S H)(k:Kp (Z.at H) H H'):Rl K Z S' H':=⟨l'.obj,l'.hid,l.old.trans (k.fk λ_ z=>z)⟩
def F_{X:Cx}(Z:Zt)(H:Hp):ZX X dw:=ZX.no X (Z.at H)
theorem _root_.EE.aE.oM{sp:aY}(h:aE K mg x st ps)(S:bf N ps (av st))(len:∀vs H Q E,sp vs H Q E->vs.length=ps.length)
 (hbody:∀(f:Addr) (cdv:Value) (A:Around) (outer:List Env) (s:Shared) (H:Hp) (E:XK) (ds:List D) (S:ah) (Q:K3) (E3:X3),cP k (A.deeper (envOfC x (av st) s.heap.objs.size f cdv))->sp ds S Q E3 ->
  ∃t Q',dz (dm (cC P w) P w K mg base N x (av st) f cdv A outer s H E).iA dw (a_ st) t/\t {nx:=λ_ S'=>Q' .non S',rt:=Q'} (eL N ds) S/\∀d S',Q' d S'->Q d S'):ay P w K mg base (k+1) x ps sp:=show _ by
 obtain⟨f,fd,F,b,m⟩:=h.ex;obtain⟨oc,od,kV,doc,pm,an,cdv,ct,osl,rfl,lk,hcd⟩:=F.ex;refine⟨f,_,yB lk hcd S (λvs H Q E eS=>by obtain⟨Z,ds,S,Q3,E3,h1,_,h3,_,_⟩:=eS;rw[<-h1.len];exact len _ _ _ _ h3) λA outer s H vs Q E hr ⟨Z,ds,S3,Q3,E3,h1,h2,h3,h4,_⟩=>?_,b,F.kp,m⟩;obtain⟨t,Q',ht,q,hw⟩:=hbody f cdv A outer s H E ds S3 Q3 E3 hr h3;refine⟨_,(ht (F_ Z H)).iA,_,eL N ds,S3,?_,h2.into,q,⟨?_,?_,?_,?_⟩⟩
 ·unfold eL L2.start;rw[h1.len];exact jK (SR.uW h1) (SR.nones _)
 ·intro σ S' τ H' kk _ l q';exact h4 .non S' .non H' (kk.fk λ_ z=>z) .non (l.out h2 kk) (hw _ _ q')
 ·exact λ_ _ _ _ _ _ _ z=>z
 ·exact λ_ _ _ _ _ _ _ z=>z
 ·exact λd S' v H' kk r l q'=>h4 d S' v H' (kk.fk λ_ z=>z) r (l.out h2 kk) (hw _ _ q')
theorem _root_.EE.aE.val{A:List D->(D->Prop)->Prop}(h:aE K mg x st ps)(S:bf N ps (av st))(len:∀ds q,A ds q->ds.length=ps.length)
 (hbody:∀(f:Addr) (cdv:Value) (Ar:Around) (outer:List Env) (s:Shared) (H:Hp) (E:XK) (ds:List D) (q:D->Prop),cP k (Ar.deeper (envOfC x (av st) s.heap.objs.size f cdv))->A ds q ->
  ∃t,dz (dm (cC P w) P w K mg base N x (av st) f cdv Ar outer s H E).iA dw (a_ st) t/\t {nx:=λ_ _=>q .non,rt:=λd _=>q d} (eL N ds) emp):ay P w K mg base (k+1) x ps (vS A):=show _ by
 have C:ay P w K mg base (k+1) x ps (λds S Q E=>S=emp/\∃q,A ds q/\∀d S',q d->Q d S'):=by
  refine h.oM S (λvs H Q E i9=>by obtain⟨_,q,z,_⟩:=i9;exact len _ _ z) λf cdv Ar outer s H E ds S3 Q E3 hr z=>?_;obtain⟨rfl,q,z,hq⟩:=z;obtain⟨t,h1,h2⟩:=hbody f cdv Ar outer s H E ds _ hr z;exact⟨t,λd _=>q d,h1,h2,hq⟩
 exact C.frame.imp λds S Q E z=>⟨emp,S,vi S,rfl,_,z,λd S1 hq=>⟨emp,vk _,λS' h=>vj h▸hq⟩⟩
theorem _root_.EE.aE.lst{A:List D->(List D->Prop)->Prop}(h:aE K mg x st ps)(S:bf N ps (av st))(len:∀ds q,A ds q->ds.length=ps.length)
 (hbody:∀(f:Addr) (cdv:Value) (Ar:Around) (outer:List Env) (s:Shared) (H:Hp) (E:XK) (ds:List D) (q:List D->Prop),cP k (Ar.deeper (envOfC x (av st) s.heap.objs.size f cdv))->A ds q ->
  ∃t,dz (dm (cC P w) P w K mg base N x (av st) f cdv Ar outer s H E).iA dw (a_ st) t/\t {nx:=λ_ _=>False,rt:=λd S'=>∃p ys,d=.ref p/\S' p=some (.lst ys)/\q ys} (eL N ds) emp):ay P w K mg base (k+1) x ps (rW A):=show _ by
 have C:ay P w K mg base (k+1) x ps (λds S Q E=>S=emp/\∃q,A ds q/\∀d S',(∃p ys,d=.ref p/\S' p=some (.lst ys)/\q ys)->Q d S'):=by
  refine h.oM S (λvs H Q E iT=>by obtain⟨_,q,z,_⟩:=iT;exact len _ _ z) λf cdv Ar outer s H E ds S3 Q E3 hr z=>?_;obtain⟨rfl,q,z,hq⟩:=z;obtain⟨t,h1,h2⟩:=hbody f cdv Ar outer s H E ds _ hr z;refine⟨t,λd S'=>∃p ys,d=.ref p/\S' p=some (.lst ys)/\q ys,h1,?_,hq⟩;have e:(λ(_:aL) (_:ah)=>False)=λ(_:aL) (S':ah)=>∃p ys,D.non=.ref p/\S' p=some (.lst ys)/\q ys:=by
   funext _ S';refine propext ⟨gN,λz=>?_⟩;obtain⟨p,ys,z,_⟩:=z;cases z
  rw[<-e];exact h2
 refine C.frame.imp λds S Q E z=>⟨emp,S,vi S,rfl,_,z,λd S1 ⟨p,ys,e,hp,hq⟩=>⟨one p (.lst ys),sub_one hp,λS' h=>?_⟩⟩;obtain⟨h1,rfl⟩:=RB h;subst e;exact hq p h1
section
variable{X:Cx}{CX:gV}{k:Nat}{f C:Addr}{fd:FuncData}{ps:List Str}{sp:Sp}{vm:List V}{ds:List Value}{E:L2.St->XK}{x:Str}{p pos:Pos}{e:Expr}{es:List Expr}{t:TA}
theorem RC(F:d9 X.prog X.w X.K X.mg X.base CX k f fd ps sp)(hr:cP k X.A)(hg:Gl X x)(hm:X.mg x=some (.ref f))(hk:bI X.K (.ref f)=true)(hb:Binds X.K fd ps ds)(hd:Vals vm ds)(hx:∀τ,yV CX X (E τ) τ)
 (ha:PA X (e::es) t) (hdb:(x==("__debug__":Str))=false:=by decide) (he:starEach (e::es) X.env=(false,eval e X.env)::starEach es X.env:=by rfl) (hpl:(backTo pos (starEach es X.env)).any (·.1)=false:=by rfl) :
 PE X (.Call (.Name x p) (e::es) [] pos) (λτ H Q=>t τ H λvs H1=>sp (vs++vm) H1 Q (E τ)):=show _ by
 intro pins s σ H Q I h;refine CG (um I hg hm ?_ hdb);refine PySem.W.callWith_K (h₀:=X.base) I.ok.mod.jB hk (aO (ha pos pins s σ H _ I h) λus s1 ⟨vs,H1,I1,r,q⟩=>⟨I1.eR,?_⟩) he hpl;have r2:Vals (vs++vm) (us++ds):=r.append hd;have hl:(us++ds).length=ps.length:=by rw[<-r2.length];exact F.len _ _ _ _ q
 refine wpAny_call (C4 (F.run X.A X.stack s1 H1 ⟨us,[]⟩ (us++ds) (vs++vm) Q (E σ) hr I1.env0 (hb s1 us I1.eR hl) r2 q) λr s' hq=>?_);cases r with
 |error e=>exact hx σ pins H1 s1 e s' I1 hq
 |ok fl =>
  cases fl with
  |ret u=>exact I1.after hq
  |next=>exact gN hq
  |brk=>exact gN hq
  |cont=>exact gN hq
end
def oN(sp:aY)(W3:bX)(t:cX):aQ:=λσ S Q=>t σ S λds S1=>sp ds S1 Q (W3 σ)
variable{X:Cx}{W3:bX}{y:Str}{pos p:Pos}{e:Expr}{es:List Expr}{t:cX}{sp:aY}
theorem aJ(C:ay X.prog X.w X.K X.mg X.base k y ps sp)(hr:cP k X.A)(hg:Gl X y)(ha:fD X W3 (e::es) t)
 (hdb:(y==("__debug__":Str))=false:=by decide) (he:starEach (e::es) X.env=(false,eval e X.env)::starEach es X.env:=by rfl) (hpl:(backTo pos (starEach es X.env)).any (·.1)=false:=by rfl) :
 aM X W3 (.Call (.Name y p) (e::es) [] pos) (oN sp W3 t):=show _ by
 obtain⟨f,fd,F,b,kp,m⟩:=C.ex;refine λZ=>PE.imp (RC F hr hg m kp b .nil Z.pass (ha Z) hdb he hpl) λτ H Q ⟨σ,S,Q3,hs,hr,ht,hc⟩=>?_;refine⟨σ,S,_,hs,hr,ht,λds S1 vs H1 k1 r1 l1 q1=>?_⟩;exact⟨Z.z,ds,S1,Q3,W3 σ,by rw[nV];exact r1,l1,q1,hc.mono k1,λC a S2 H2 k2 l2 ha z=>Z.ce σ τ C a S2 H2 (hs.mono (k1.trans k2)) l2 ha z⟩
end
section
variable{σ:aL}{S:ah}{Q:K3}{QT:Bool->ah->Prop}{QA:List D->ah->Prop}{QO:Option Int->ah->Prop}{ta tb te:aQ}{tA tB:cJ}{t u:cB}{al:cX}{r:R3}{n b c:aL->ah->Prop}{rt:K3}{i:Nat}
theorem RD(h:t ⟨u ⟨n,rt,b,c⟩,rt,b,c⟩ σ S):rN t u ⟨n,rt,b,c⟩ σ S:=h
theorem RE(h:n σ S):Fp ⟨n,rt,b,c⟩ σ S:=h
theorem RF(h:te σ S λ_ S1=>n σ S1):y0 te ⟨n,rt,b,c⟩ σ S:=h
theorem RG(h:te σ S rt):Fq te ⟨n,rt,b,c⟩ σ S:=h
theorem RH(h:rt .non S):Fs ⟨n,rt,b,c⟩ σ S:=h
theorem RJ(h:te σ S λx S1=>n (σ.set i (some x)) S1):rQ i te ⟨n,rt,b,c⟩ σ S:=h
theorem RK{g:eo}(h:te σ S λx S1=>g x σ S1 n):y1 te g ⟨n,rt,b,c⟩ σ S:=h
theorem RL{f:Int->Int->Int}{a:Int}(ha:σ[i]?=some (some (.int a)))(h:te σ S λy S1=>∃b,y=.int b/\n (σ.set i (some (.int (f a b)))) S1):Fu i te f ⟨n,rt,b,c⟩ σ S:=⟨a,ha,h⟩
theorem RM{k:Int}{P:Int->Prop}(h:P k):∃b,D.int k=.int b/\P b:=⟨k,rfl,h⟩
theorem RN(h:tA σ S λb' S1=>if b'=true then t ⟨n,rt,b,c⟩ σ S1 else u ⟨n,rt,b,c⟩ σ S1):rO tA t u ⟨n,rt,b,c⟩ σ S:=h
theorem RP{v:D}{Qs:aL->ah->Prop}(h:Qs (σ.set i (some v)) S):jL i v σ S Qs:=h
theorem RQ{d:D}(h:σ[i]?=some (some d))(q:Q d S):v3 i σ S Q:=⟨d,h,q⟩
theorem RR{d:D}(q:Q d S):c3 d σ S Q:=q
theorem RS(h:ta σ S λx S1=>tb σ S1 λy S2=>r x y S2 Q):o3 r ta tb σ S Q:=h
theorem RT{g:Int->Int->D}{k j:Int}(q:Q (g k j) S):i3 g (.int k) (.int j) S Q:=⟨k,j,rfl,rfl,q⟩
theorem RU{g:Int->Int->D}{k j:Int}(h:0<j)(q:Q (g k j) S):rS (λ_ j=>0<j) g (.int k) (.int j) S Q:=⟨k,j,rfl,rfl,h,q⟩
theorem RV{g:Int->Int->D}{k j:Int}(h:0<j/\j<1073741824)(q:Q (g k j) S):rS D4 g (.int k) (.int j) S Q:=⟨k,j,rfl,rfl,h,q⟩
theorem mY{x y:Str}(h:x.length+y.length<=sizeLine)(q:Q (.str (x++y)) S):FF (.str x) (.str y) S Q:=⟨x,y,rfl,rfl,h,q⟩
theorem RW{x:D}(q:Q (.bl (rT x)) S):FI x .non S Q:=⟨rfl,q⟩
theorem RX{x:D}(q:Q (.bl (!rT x)) S):FJ x .non S Q:=⟨rfl,q⟩
theorem RY{k j:Int}(q:Q (.bl (decide (k=j))) S):FK (.int k) (.int j) S Q:=⟨k,j,rfl,rfl,q⟩
theorem RZ{k j:Str}(q:Q (.bl (decide (k=j))) S):zc (.str k) (.str j) S Q:=⟨k,j,rfl,rfl,q⟩
theorem R0{k j:Str}(q:Q (.bl (!decide (k=j))) S):FL (.str k) (.str j) S Q:=⟨k,j,rfl,rfl,q⟩
theorem R4(h:te σ S λx S'=>∃k,x=.bl k/\QT k S'):i7 te σ S QT:=h
theorem R5{k:Bool}{P:Bool->Prop}(h:P k):∃b,D.bl k=.bl b/\P b:=⟨k,rfl,h⟩
theorem R6(h:te σ S λx S1=>∃k,rK S1 x k/\QT k S1):Fh te σ S QT:=h
theorem Ga{a:Addr}{ds:List D}{P:Bool->Prop}(hS:S a=some (.lst ds))(h:P (!ds.isEmpty)):∃k,rK S (.ref a) k/\P k:=⟨_,.inl ⟨ds,hS,rfl⟩,h⟩
theorem R7(h:tA σ S λc' S1=>if c'=true then tB σ S1 QT else QT false S1):E_ tA tB σ S QT:=h
theorem R8(h:tA σ S λc' S1=>if c'=true then QT true S1 else tB σ S1 QT):or3 tA tB σ S QT:=h
theorem R9(h:tA σ S λc' S1=>QT (!c') S1):Fb tA σ S QT:=h
theorem R_(h:ta σ S λx S1=>∃c',x=.bl c'/\if c'=true then tb σ S1 Q else Q (.bl false) S1):Fc ta tb σ S Q:=h
theorem Sa(h:ta σ S λx S1=>∃c',x=.bl c'/\if c'=true then Q (.bl true) S1 else tb σ S1 Q):Fe ta tb σ S Q:=h
theorem Sb(h:ta σ S λx S1=>∃c',x=.bl c'/\Q (.bl (!c')) S1):Ff ta σ S Q:=h
theorem Sd(h:tA σ S λc' S1=>if c'=true then ta σ S1 Q else tb σ S1 Q):Fg tA ta tb σ S Q:=h
theorem Se(h:QA [] S):iD σ S QA:=h
theorem Sf(h:te σ S λx S1=>al σ S1 λxs S2=>QA (x::xs) S2):fE te al σ S QA:=h
theorem Sg(h:al σ S λxs S1=>xs.length<=sizeLine/\Q (.tup xs) S1):Fi al σ S Q:=h
theorem Si(h:al σ S λxs S1=>xs.length<=sizeLine/\cQ S1 xs Q):Fj al σ S Q:=h
theorem Sj{α:Type}{xs:List α}{P:Prop}(h:xs.length<=sizeLine)(q:P):xs.length<=sizeLine/\P:=⟨h,q⟩
theorem Sk{f:List D->ah->K3->Prop}(h:al σ S λvs S1=>f vs S1 Q):oB f al σ S Q:=h
theorem Sl{sp:aY}{W3:bX}(h:al σ S λds S1=>sp ds S1 Q (W3 σ)):oN sp W3 al σ S Q:=h
theorem Sm{T:String}{m:D->List D->ah->K3->Prop}(h:te σ S λx S1=>mV T x S1/\al σ S1 λxs S2=>m x xs S2 Q):yY T m te al σ S Q:=h
theorem Sn{T:String}{m:D->List D->ah->K3->Prop}(h:te σ S λx S1=>mV T x S1/\m x [] S1 Q):Fl T m te σ S Q:=h
theorem Gb{a:Addr}{ds:List D}{P:Prop}(h:S a=some (.lst ds))(q:P):mV "list" (.ref a) S/\P:=⟨.inr (.inl ⟨rfl,ds,.inl ⟨a,rfl,h⟩⟩),q⟩
theorem fG{a:Addr}{ds:List D}{y:D}(h:S a=some (.lst ds))(hz:ds.length<sizeLine)(q:Q .non (up S a (.lst (ds++[y])))):vc (.ref a) [y] S Q:=⟨a,ds,y,rfl,rfl,h,hz,q⟩
theorem Gc{a:Addr}{ds:List D}{y:D}(h:S a=some (.lst (ds++[y])))(q:Q y (up S a (.lst ds))):F4 (.ref a) [] S Q:=⟨a,ds,y,rfl,rfl,h,q⟩
theorem oO{a a':Addr}{ds es:List D}(h:S a=some (.lst ds))(h':S a'=some (.lst es))(hz:ds.length+es.length<=sizeLine)(q:Q .non (up S a (.lst (ds++es)))):F6 (.ref a) [.ref a'] S Q:=⟨a,a',ds,es,rfl,rfl,h,h',hz,q⟩
theorem ma{ds:List D}{k:Int}{d:D}(h:cy ds k=some d)(q:Q d S):kE (.tup ds) (.int k) S Q:=⟨ds,k,d,rfl,rfl,h,q⟩
theorem de{a:Addr}{ds:List D}{k:Int}{d:D}(hS:S a=some (.lst ds))(h:cy ds k=some d)(q:Q d S):vb (.ref a) (.int k) S Q:=⟨ds,k,d,.inl ⟨a,rfl,hS⟩,rfl,h,q⟩
theorem Ge{ds:List D}{k:Int}{d:D}(h:cy ds k=some d)(q:Q d S):vb (.bD ds) (.int k) S Q:=⟨ds,k,d,.inr rfl,rfl,h,q⟩
theorem Gf{z:Str}{k:Int}{cp:Nat}(hz:z.length<=sizeLine)(h:cy z.cps.toList k=some cp)(q:Q (.str ⟨#[cp]⟩) S):FR (.str z) (.int k) S Q:=⟨z,k,cp,rfl,rfl,hz,h,q⟩
theorem Gg{a:Addr}{ds:List D}(hS:S a=some (.lst ds))(q:Q (.int ds.length) S):oJ [.ref a] S Q:=⟨_,ds,rfl,.inl (.inl ⟨a,rfl,hS⟩),q⟩
theorem So{ds:List D}(q:Q (.int ds.length) S):oJ [.bD ds] S Q:=⟨_,ds,rfl,.inl (.inr rfl),q⟩
theorem Sq{ds:List D}(q:Q (.int ds.length) S):oJ [.tup ds] S Q:=⟨_,ds,rfl,.inr rfl,q⟩
theorem Sr{z:Str}(hz:z.length<=sizeLine)(q:Q (.int z.length) S):FZ [.str z] S Q:=⟨z,rfl,hz,q⟩
theorem rX{a:Addr}{ds:List D}(hS:S a=some (.lst ds))(q:cQ S ds Q):ze [.ref a] S Q:=⟨_,ds,rfl,.inl (.inl ⟨a,rfl,hS⟩),q⟩
theorem gm{ds:List D}(q:cQ S ds Q):ze [.tup ds] S Q:=⟨_,ds,rfl,.inr rfl,q⟩
theorem Gh{a:Addr}{ds:List D}(hS:S a=some (.lst ds))(q:Q (.tup ds) S):F3 [.ref a] S Q:=⟨_,ds,rfl,.inl (.inl ⟨a,rfl,hS⟩),q⟩
theorem Ss{x:D}{m k:String}{b':Bool}(h:vf S x m)(hk:jB m k=some b')(q:Q (.bl b') S):F9 [x,.ty k] S Q:=⟨x,k,m,b',rfl,h,hk,q⟩
theorem Su{f:D->Option Int->Option Int->ah->K3->Prop}{tl th:mW}(h:te σ S λx S1=>tl σ S1 λl S2=>th σ S2 λu' S3=>f x l u' S3 Q):Fo f te tl th σ S Q:=h
theorem Sv(h:QO none S):Fn σ S QO:=h
theorem Sw(h:te σ S λx S1=>∃k,x=.int k/\QO (some k) S1):part3 te σ S QO:=h
theorem Gi{a:Addr}{ds:List D}{lo hi:Option Int}(hS:S a=some (.lst ds))(q:cQ S (cutD ds lo hi) Q):FU (.ref a) lo hi S Q:=⟨ds,.inl ⟨a,rfl,hS⟩,q⟩
theorem Sx{ds:List D}{lo hi:Option Int}(q:Q (.tup (cutD ds lo hi)) S):FV (.tup ds) lo hi S Q:=⟨ds,rfl,q⟩
theorem oP{z:Str}{lo hi:Option Int}(hz:z.length<=sizeLine)(q:Q (.str (textOf (kB z.cps.toList lo hi))) S):FW (.str z) lo hi S Q:=⟨z,rfl,hz,q⟩
theorem jc{a a':Addr}{ds es:List D}(h:S a=some (.lst ds))(h':S a'=some (.lst es))(hz:ds.length+es.length<=sizeLine)(q:cQ S (ds++es) Q):FX (.ref a) (.ref a') S Q:=⟨a,a',ds,es,rfl,rfl,h,h',hz,q⟩
theorem Gj{ds es:List D}(hn:ds≠[])(hz:ds.length+es.length<=sizeLine)(q:Q (.tup (ds++es)) S):FY (.tup ds) (.tup es) S Q:=⟨ds,es,rfl,rfl,hn,hz,q⟩
theorem Sz{wi:fi}{g:eo}(h:wi σ S λds Al S1=>∃W:Nat->aL->ah->Prop,W 0 σ S1/\(∀i σ S,W i σ S->Al S) /\
 (∀i d σ S,ds[i]?=some d->W i σ S->g d σ S λjG S2=>t ⟨W (i+1),rt,n,W (i+1)⟩ jG S2)/\∀σ S,W ds.length σ S->n σ S):FC wi g t ⟨n,rt,b,c⟩ σ S:=h
theorem rY(W:Nat->aL->ah->Prop)(m:Nat)(h0:W m σ S)(h:∀m σ S,W m σ S->tA σ S λb S1=>if b=true then t ⟨λσ' S'=>∃m',m'<m/\W m' σ' S',rt,n,λσ' S'=>∃m',m'<m/\W m' σ' S'⟩ σ S1 else n σ S1) :
 Fv tA t ⟨n,rt,b,c⟩ σ S:=⟨W,⟨m,h0⟩,h⟩
abbrev RI:=List D->(ah->Prop)->ah->Prop
variable{R:RI}
def Gk(R:RI)(x:D)(S:ah):Prop:=(∃a ds,x=.ref a/\S a=some (.lst ds)/\R ds (λS=>S a=some (.lst ds)) S)∨∃ds,x=.bD ds/\R ds (λ_=>True) S
theorem SA(h:te σ S λx S1=>Gk R x S1):Fw te σ S R:=h
theorem Gm{a:Addr}{ds:List D}(hS:S a=some (.lst ds))(q:R ds (λS=>S a=some (.lst ds)) S):Gk R (.ref a) S:=.inl ⟨a,ds,rfl,hS,q⟩
def zg(R:RI)(x:D)(S:ah):Prop:=∃ds,x=.tup ds/\R ds (λ_=>True) S
theorem SD(h:te σ S λx S1=>zg R x S1):Fx te σ S R:=h
theorem SE{ds:List D}(q:R ds (λ_=>True) S):zg R (.tup ds) S:=⟨ds,rfl,q⟩
theorem SF{z:Str}{P:Str->Prop}(h:P z):∃y,D.str z=.str y/\P y:=⟨z,rfl,h⟩
def Gn(R:RI)(vs:List D)(S:ah):Prop:=∃j:Int,vs=[.int j]/\-(2^62)<=j/\j<2^62/\R (nums 0 j.toNat) (λ_=>True) S
theorem SG(h:al σ S λvs S1=>Gn R vs S1):Fy al σ S R:=h
theorem SH{j:Int}(h1:-(2^62)<=j/\j<2^62)(q:R (nums 0 j.toNat) (λ_=>True) S):Gn R [.int j] S:=⟨j,rfl,h1.1,h1.2,q⟩
def Gp(R:RI)(vs:List D)(S:ah):Prop:=∃i j:Int,vs=[.int i,.int j]/\(-(2^62)<=i/\i<2^62/\-(2^62)<=j/\j<2^62)/\R (nums i (j-i).toNat) (λ_=>True) S
theorem SI(h:al σ S λvs S1=>Gp R vs S1):Fz al σ S R:=h
theorem SJ{i j:Int}(h1:-(2^62)<=i/\i<2^62/\-(2^62)<=j/\j<2^62)(q:R (nums i (j-i).toNat) (λ_=>True) S):Gp R [.int i,.int j] S:=⟨i,j,rfl,h1,q⟩
def Gq(v:D)(Qs:aL->ah->Prop)(σ:aL)(o i:D)(S:ah):Prop:=∃p xs k j,o=.ref p/\i=.int k/\S p=some (.lst xs)/\gz xs.length k=some j/\Qs σ (up S p (.lst (xs.set j v)))
theorem SK{v:D}{Qs:aL->ah->Prop}(h:te σ S λo S1=>ta σ S1 λi S2=>Gq v Qs σ o i S2):Ft te ta v σ S Qs:=h
theorem oQ{a:Addr}{xs:List D}{k:Int}{j:Nat}{v:D}{Qs:aL->ah->Prop}(hS:S a=some (.lst xs))(hj:gz xs.length k=some j)(q:Qs σ (up S a (.lst (xs.set j v)))):Gq v Qs σ (.ref a) (.int k) S:=⟨a,xs,k,j,rfl,rfl,hS,hj,q⟩
end
theorem d9.frame{P:Program}{w:World}{K:ax}{mg:Str->Option Value}{base:Heap}{k:Nat}{f:Addr}{fd:FuncData}{ps:List Str}{sp:aY}(F:d9 P w K mg base (cC P w) k f fd ps (jb K sp)):d9 P w K mg base (cC P w) k f fd ps (jb K (fr sp)):=show _ by
 refine L2.d9.imp F λvs H Q E ⟨Z,ds,S,Q3,E3,h1,l,⟨S0,F,hs,h3⟩,cq,ce⟩=>?_;refine⟨Z.with H F,ds,S0,_,_,h1,⟨λa o e=>?_,λa z=>?_,Kp.refl _ _⟩,h3,?_,?_⟩
 ·refine l.obj a o ?_;rcases hs a with⟨q,_⟩|⟨q,_⟩
  ·rw[q];exact e
  ·rw[q]at e;cases e
 ·rcases z with z|z
  ·have z2:=l.hid a z;refine⟨?_,z2.2⟩;rcases hs a with⟨q,_⟩|⟨q,_⟩
   ·rw[<-q];exact z2.1
   ·exact q
  ·rcases hs a with⟨_,q⟩|⟨q,q2⟩
   ·exact absurd q z
   ·refine⟨q,?_⟩;cases e:F a with
    |none=>exact absurd e z
    |some o=>exact(l.obj a o (q2.trans e)).there
 ·rintro d S1 v H' k1 r1 l1 ⟨S2,hsub,q⟩;obtain⟨gW,l'⟩:=l.frame hs k1 l1 hsub;exact cq d _ v H' (k1.fk λa z=>.inl z) r1 l' (q _ gW)
 ·rintro C a S1 H' k1 l1 ha ⟨S2,hsub,q⟩;obtain⟨gW,l'⟩:=l.frame hs k1 l1 hsub;exact ce C a _ H' (k1.fk λa z=>.inl z) l' ha (q _ gW)
def oR:aY:=vS λds q=>∃ns:List Int,ds=[.bD (ns.map D.int)]/\ns.length<=63/\q (.bl true)
theorem SM{P:Program}{w:World}{K:ax}{mg:Str->Option Value}{base:Heap}{k:Nat}{st:Stmt}{f:Addr}{fd:FuncData}{N:List Str}(F:oq K "law" "law" st f fd)(S:bf N ["script"] (av st))
 (hbody:∀(cdv:Value) (A:Around) (outer:List Env) (s:Shared) (H:Hp) (E:XK) (ns:List Int),cP k (A.deeper (envOfC "law" (av st) s.heap.objs.size f cdv))->ns.length<=63 ->
  ∃t,dz (dm (cC P w) P w K mg base N "law" (av st) f cdv A outer s H E).iA dw (a_ st) t/\t {nx:=λ_ _=>False,rt:=λd _=>d=.bl true} (eL N [.bD (ns.map D.int)]) emp) :
 d9 P w K mg base (cC P w) (k+1) f fd ["script"] (jb K oR):=show _ by
 obtain⟨oc,od,kV,doc,pm,an,cdv,ct,osl,rfl,lk,hcd⟩:=F.ex;refine L2.d9.imp (sp:=jb K (fr λds S Q E=>S=emp/\∃ns:List Int,ds=[.bD (ns.map D.int)]/\ns.length<=63/\∀S',Q (.bl true) S')) (d9.frame ?_) λvs H Q E cU=>by obtain⟨Z,ds,S,Q3,E3,h1,l,⟨ns,e,h63,q⟩,h,h'⟩:=cU;exact⟨Z,ds,S,Q3,E3,h1,l,⟨emp,S,vi S,rfl,ns,e,h63,λS1=>⟨emp,vk _,λS' hS=>vj hS▸q⟩⟩,h,h'⟩
 refine yB lk hcd S (λvs H Q E eS=>by obtain⟨Z,ds,S,Q3,E3,h1,_,⟨_,ns,z,_⟩,_,_⟩:=eS;rw[<-h1.len,z];rfl) λA outer s H vs Q E hr ⟨Z,ds,S3,Q3,E3,h1,h2,⟨e1,ns,e2,h63,hq⟩,h4,_⟩=>?_;subst e1 e2;obtain⟨t,ht,q⟩:=hbody cdv A outer s H E ns hr h63;refine⟨_,(ht (F_ Z H)).iA,_,eL N [.bD (ns.map D.int)],emp,?_,h2.into,q,⟨?_,?_,?_,?_⟩⟩
 ·unfold eL L2.start;rw[h1.len];exact jK (SR.uW h1) (SR.nones _)
 ·exact λ_ _ _ _ _ _ _ z=>z.elim
 ·exact λ_ _ _ _ _ _ _ z=>z
 ·exact λ_ _ _ _ _ _ _ z=>z
 ·intro d S' v H' kk r l e;have e:d=.bl true:=e;subst e;exact h4 _ S' v H' (kk.fk λ_ z=>z) r (l.out h2 kk) (hq S')
theorem SN{K:ax}{H:Hp}{a:Addr}{ns:List Int}(hl:ns.length<=63)(hO:rq H)(h:bc K H a (ns.map V.int)):jb K oR [.ref a] H (λv _=>v=.bl true) λ_ _ _=>False:=show _ by
 refine⟨⟨λ_=>False,H⟩,[.bD (ns.map D.int)],emp,λd _=>d=.bl true,λ_ _ _=>False,.cons (.bD (lZ.of h hO) (a7.ints ns)) .nil,⟨λa o e=>(nomatch e),λa z=>z.elim,Kp.refl _ _⟩,⟨ns,rfl,hl,rfl⟩,?_,λ_ _ _ _ _ _ _ z=>z⟩;intro d S v H' _ r _ e;have e:d=.bl true:=e;subst e;cases r;rfl
theorem kG{A:Around}{k:Nat}(hr:cP k A):A.units+200<cLine:=by have:=hr.un;lia
theorem Sub.refl(S:ah):Sub S S:=λ_ _ h=>h
theorem Sub.trans{A B C:ah}(h:Sub A B)(h':Sub B C):Sub A C:=λa o e=>h' a o (h a o e)
theorem Sub.up{A B:ah}{p:Addr}{o:O}(h:Sub A B)(hp:B p=none):Sub A (up B p o):=λa u e=>au (h a u e) hp
theorem Sub.free{A B:ah}{p:Addr}(h:Sub A B)(hp:B p=none):A p=none:=by
 cases e:A p with
 |none=>rfl
 |some o=>rw[h p o e]at hp;cases hp
theorem Sub.upd{A B:ah}{p:Addr}{o:O}(h:Sub A B):Sub (E3.up A p o) (E3.up B p o):=λa u e=>by
 by_cases c:a=p
 ·subst c;rw[ao]at e ⊢;exact e
 ·rw[a9 c]at e ⊢;exact h a u e
theorem Sub.at{A B:ah}{p:Addr}{o:O}(h:Sub A B)(hp:A p=none):Sub A (E3.up B p o):=λa u e=>by
 rw[a9 (ne3 e hp)];exact h a u e
section
variable{P:Program}{w:World}{K:PySem.W.Frag}{mg:Str->Option Value}{base:Heap}{x:Str}{st:Stmt}{N ps:List Str}{k:Nat}
theorem ay.drop{sp:aY}(C:ay P w K mg base k x ps sp):ay P w K mg base k x ps (λds S Q E=>sp ds S (λd S1=>∃S2,Sub S2 S1/\Q d S2) E):=show _ by
 obtain⟨f,fd,F0,r⟩:=C.ex;refine⟨f,fd,F0.imp λvs H Q E ⟨Z,ds,S,Q3,E3,h1,l,h3,cq,ce⟩=>⟨Z,ds,S,_,E3,h1,l,h3,?_,ce⟩,r⟩;rintro d S1 v H' k1 r1 l1 ⟨S2,hsub,q⟩;exact cq d S2 v H' k1 r1 (l1.sub hsub) q
def f6(A:List D->ah->(D->Prop)->Prop):aY:=λds S Q _=>A ds S λd=>Q d S
def jQ(A:List D->ah->(List D->Prop)->Prop):aY:=λds S Q _=>A ds S λys=>cQ S ys Q
def kH(A:List D->ah->(D->Addr->O->Prop)->Prop):aY:=λds S Q _=>A ds S λd a o=>Q d (up S a o)
theorem _root_.EE.aE.f6{A:List D->ah->(D->Prop)->Prop}(h:aE K mg x st ps)(S:bf N ps (av st))(len:∀ds S q,A ds S q->ds.length=ps.length)
 (hbody:∀(f:Addr) (cdv:Value) (Ar:Around) (outer:List Env) (s:Shared) (H:Hp) (E:XK) (ds:List D) (S:ah) (q:D->Prop),cP k (Ar.deeper (envOfC x (av st) s.heap.objs.size f cdv))->A ds S q ->
  ∃t,dz (dm (cC P w) P w K mg base N x (av st) f cdv Ar outer s H E).iA dw (a_ st) t/\t {nx:=λ_ S'=>Sub S S'/\q .non,rt:=λd S'=>Sub S S'/\q d} (eL N ds) S):ay P w K mg base (k+1) x ps (f6 A):=show _ by
 have C:ay P w K mg base (k+1) x ps (λds S Q E=>∃q,A ds S q/\∀d S',Sub S S'/\q d->Q d S'):=by
  refine h.oM S (λvs H Q E cU=>by obtain⟨q,z,_⟩:=cU;exact len _ _ _ z) λf cdv Ar outer s H E ds S3 Q E3 hr ⟨q,z,hq⟩=>?_;obtain⟨t,h1,h2⟩:=hbody f cdv Ar outer s H E ds S3 _ hr z;exact⟨t,λd S'=>Sub S3 S'/\q d,h1,h2,hq⟩
 exact C.drop.imp λds S Q E z=>⟨_,z,λd S1 hq=>⟨S,hq.1,hq.2⟩⟩
theorem _root_.EE.aE.jQ{A:List D->ah->(List D->Prop)->Prop}(h:aE K mg x st ps)(S:bf N ps (av st))(len:∀ds S q,A ds S q->ds.length=ps.length)
 (hbody:∀(f:Addr) (cdv:Value) (Ar:Around) (outer:List Env) (s:Shared) (H:Hp) (E:XK) (ds:List D) (S:ah) (q:List D->Prop),cP k (Ar.deeper (envOfC x (av st) s.heap.objs.size f cdv))->A ds S q ->
  ∃t,dz (dm (cC P w) P w K mg base N x (av st) f cdv Ar outer s H E).iA dw (a_ st) t /\
   t {nx:=λ_ _=>False,rt:=λd S'=>∃p ys,d=.ref p/\S p=none/\Sub S S'/\S' p=some (.lst ys)/\q ys} (eL N ds) S):ay P w K mg base (k+1) x ps (jQ A):=show _ by
 have C:ay P w K mg base (k+1) x ps (λds S Q E=>∃q,A ds S q/\∀d S',(∃p ys,d=.ref p/\S p=none/\Sub S S'/\S' p=some (.lst ys)/\q ys)->Q d S'):=by
  refine h.oM S (λvs H Q E eS=>by obtain⟨q,z,_⟩:=eS;exact len _ _ _ z) λf cdv Ar outer s H E ds S3 Q E3 hr ⟨q,z,hq⟩=>?_;obtain⟨t,h1,h2⟩:=hbody f cdv Ar outer s H E ds S3 _ hr z;refine⟨t,λd S'=>∃p ys,d=.ref p/\S3 p=none/\Sub S3 S'/\S' p=some (.lst ys)/\q ys,h1,?_,hq⟩;have e:(λ(_:aL) (_:ah)=>False)=λ(_:aL) (S':ah)=>∃p ys,D.non=.ref p/\S3 p=none/\Sub S3 S'/\S' p=some (.lst ys)/\q ys:=by
   funext _ S';refine propext ⟨gN,λz=>?_⟩;obtain⟨p,ys,z,_⟩:=z;cases z
  rw[<-e];exact h2
 refine C.drop.imp λds S Q E z=>⟨_,z,λd S1 ⟨p,ys,e,hp,hs,hp1,hq⟩=>⟨up S p (.lst ys),?_,?_⟩⟩
 ·intro a o ha;by_cases c:a=p
  ·subst c;rw[ao]at ha;cases ha;exact hp1
  ·rw[a9 c]at ha;exact hs a o ha
 ·subst e;exact hq p hp
theorem _root_.EE.aE.kH{A:List D->ah->(D->Addr->O->Prop)->Prop}(h:aE K mg x st ps)(S:bf N ps (av st))(len:∀ds S q,A ds S q->ds.length=ps.length)
 (hbody:∀(f:Addr) (cdv:Value) (Ar:Around) (outer:List Env) (s:Shared) (H:Hp) (E:XK) (ds:List D) (S:ah) (q:D->Addr->O->Prop),cP k (Ar.deeper (envOfC x (av st) s.heap.objs.size f cdv))->A ds S q ->
  ∃t,dz (dm (cC P w) P w K mg base N x (av st) f cdv Ar outer s H E).iA dw (a_ st) t/\t {nx:=λ_ S'=>∃a o,Sub (up S a o) S'/\q .non a o,rt:=λd S'=>∃a o,Sub (up S a o) S'/\q d a o} (eL N ds) S):ay P w K mg base (k+1) x ps (kH A):=show _ by
 have C:ay P w K mg base (k+1) x ps (λds S Q E=>∃q,A ds S q/\∀d S',(∃a o,Sub (up S a o) S'/\q d a o)->Q d S'):=by
  refine h.oM S (λvs H Q E i9=>by obtain⟨q,z,_⟩:=i9;exact len _ _ _ z) λf cdv Ar outer s H E ds S3 Q E3 hr ⟨q,z,hq⟩=>?_;obtain⟨t,h1,h2⟩:=hbody f cdv Ar outer s H E ds S3 _ hr z;exact⟨t,λd S'=>∃a o,Sub (up S3 a o) S'/\q d a o,h1,h2,hq⟩
 exact C.drop.imp λds S Q E z=>⟨_,z,λd S1 iT=>by obtain⟨a,o,hs,hq⟩:=iT;exact⟨_,hs,hq⟩⟩
theorem _root_.EE.aE.SO{sp:aY}(h:aE K mg x st ps)(no:∀ds S Q E,¬sp ds S Q E)(j:Nat):ay P w K mg base j x ps sp:=show _ by
 obtain⟨f,fd,F,b,m⟩:=h.ex;have Gu:∀vs H Q E,¬jb K sp vs H Q E:=λvs H Q E qN=>by obtain⟨Z,ds,S,Q3,E3,_,_,z,_,_⟩:=qN;exact no _ _ _ _ z
 exact⟨f,fd,⟨λvs H Q E h=>absurd h (Gu vs H Q E),λA outer s H args us vs Q E _ _ _ _ h=>absurd h (Gu vs H Q E)⟩,b,F.kp,m⟩
end
section
variable{P:Program}{w:World}{K:PySem.W.Frag}{mg:Str->Option Value}{base:Heap}{x:Str}{st:Stmt}{N ps:List Str}{k:Nat}
def mZ(A:List D->ah->(List D->Addr->O->Prop)->Prop):aY:=λds S Q _=>A ds S λys a o=>∀p,S p=none->Q (.ref p) (up (up S a o) p (.lst ys))
theorem _root_.EE.aE.mZ{A:List D->ah->(List D->Addr->O->Prop)->Prop}(h:aE K mg x st ps)(S:bf N ps (av st))(len:∀ds S q,A ds S q->ds.length=ps.length)
 (hbody:∀(f:Addr) (cdv:Value) (Ar:Around) (outer:List Env) (s:Shared) (H:Hp) (E:XK) (ds:List D) (S:ah) (q:List D->Addr->O->Prop),cP k (Ar.deeper (envOfC x (av st) s.heap.objs.size f cdv))->A ds S q ->
  ∃t,dz (dm (cC P w) P w K mg base N x (av st) f cdv Ar outer s H E).iA dw (a_ st) t /\
   t {nx:=λ_ _=>False,rt:=λd S'=>∃p ys a o,d=.ref p/\S p=none/\S a≠none/\Sub (up S a o) S'/\S' p=some (.lst ys)/\q ys a o} (eL N ds) S):ay P w K mg base (k+1) x ps (mZ A):=show _ by
 have C:ay P w K mg base (k+1) x ps (λds S Q E=>∃q,A ds S q/\∀d S',(∃p ys a o,d=.ref p/\S p=none/\S a≠none/\Sub (up S a o) S'/\S' p=some (.lst ys)/\q ys a o)->Q d S'):=by
  refine h.oM S (λvs H Q E rG=>by obtain⟨q,z,_⟩:=rG;exact len _ _ _ z) λf cdv Ar outer s H E ds S3 Q E3 hr ⟨q,z,hq⟩=>?_;obtain⟨t,h1,h2⟩:=hbody f cdv Ar outer s H E ds S3 _ hr z;refine⟨t,λd S'=>∃p ys a o,d=.ref p/\S3 p=none/\S3 a≠none/\Sub (up S3 a o) S'/\S' p=some (.lst ys)/\q ys a o,h1,?_,hq⟩;have e:(λ(_:aL) (_:ah)=>False)=λ(_:aL) (S':ah)=>∃p ys a o,D.non=.ref p/\S3 p=none/\S3 a≠none/\Sub (up S3 a o) S'/\S' p=some (.lst ys)/\q ys a o:=by
   funext _ S';refine propext ⟨gN,λz=>?_⟩;obtain⟨p,ys,_,_,z,_⟩:=z;cases z
  rw[<-e];exact h2
 refine C.drop.imp λds S Q E z=>⟨_,z,λd S1 ⟨p,ys,a,o,e,hp,ha,hs,hp1,hq⟩=>⟨up (up S a o) p (.lst ys),?_,?_⟩⟩
 ·intro b u hb;by_cases c:b=p
  ·subst c;rw[ao]at hb;cases hb;exact hp1
  ·rw[a9 c]at hb;exact hs b u hb
 ·subst e;exact hq p hp
end
section
variable{σ:aL}{S:ah}{Q:K3}
theorem SQ{g:Int->Int->D}{k j:Int}(h:ym k j)(q:Q (g k j) S):rS ym g (.int k) (.int j) S Q:=⟨k,j,rfl,rfl,h,q⟩
theorem Gv{g:Int->Int->D}{k j:Int}(h:qS k j)(q:Q (g k j) S):rS qS g (.int k) (.int j) S Q:=⟨k,j,rfl,rfl,h,q⟩
theorem SS{σ:aL}{te:aQ}(h:te σ S λx S1=>∃i,x=.int i/\Q (.int (-i)) S1):u3 (λx S Q=>∃i,x=.int i/\Q (.int (-i)) S) te σ S Q:=h
end
end E3
namespace E3
def Px(sp:mJ)(S X:ah):Prop:=∀a u,a≠sp->S a=some u->X a=some u
theorem Px.refl(sp:mJ)(S:ah):Px sp S S:=λ_ _ _ h=>h
theorem Px.at{sp:mJ}{S X:ah}{o:O}(h:Px sp S X):Px sp S (up X sp o):=λa u n e=>by rw[a9 n];exact h a u n e
theorem Px.new{sp p:mJ}{S X:ah}{o:O}(h:Px sp S X)(hp:X p=none):Px sp S (up X p o):=λa u n e=>au (h a u n e) hp
theorem Px.sub{sp:mJ}{S X:ah}{o:O}(h:Px sp S X)(hx:X sp=some o):Sub (up S sp o) X:=λa u e=>by
 by_cases c:a=sp
 ·subst c;rw[ao]at e;rw[hx];exact e
 ·rw[a9 c]at e;exact h a u c e
end E3
namespace E3
theorem Px.fresh{sp p:mJ}{S X:ah}{o:O}(h:Px sp S X)(hp:S p=none):Px sp S (up X p o):=λa u n e=>by rw[a9 (ne3 e hp)];exact h a u n e
theorem Px.free{sp p:mJ}{S X:ah}(h:Px sp S X)(hp:X p=none)(n:p≠sp):S p=none:=by
 cases e:S p with
 |none=>rfl
 |some o=>rw[h p o n e]at hp;cases hp
end E3
namespace E3
theorem Px.ext{sp:mJ}{S X Y:ah}(h:Px sp S X)(h':Sub X Y):Px sp S Y:=λa u n e=>h' a u (h a u n e)
end E3
namespace E3
open PySem PySem.Spec PyProof.Rows L2 EE
theorem SU{P:Program}{w:World}{H:Hp}{h:Heap}{a:Addr}{o:HO}(x:cM P w H h a o):∃u,h.get? a=some u:=show _ by
 cases o with
 |lst xs=>obtain⟨_,_,_,_,e⟩:=x;exact⟨_,e⟩
 |tup xs=>obtain⟨_,_,_,⟨o,e,_⟩,_⟩:=x;exact⟨_,e⟩
 |dK kvs=>obtain⟨_,_,_,_,o,_,_,e,_⟩:=x;exact⟨_,e⟩
 |dT kvs=>obtain⟨_,_,_,_,o,_,_,e,_⟩:=x;exact⟨_,e⟩
 |set S n=>obtain⟨o,_,_,_,e,_⟩:=x;exact⟨_,e⟩
 |ins C dx fs=>obtain⟨_,_,_,e,_⟩:=x;exact⟨_,e⟩
 |own y=>exact x
 |xd fs=>obtain⟨_,⟨_,_,_,e,_⟩,_⟩:=x;exact⟨_,e⟩
 |uf lo hi=>obtain⟨_,_,_,e⟩:=x;exact⟨_,e⟩
 |dQ ob u=>obtain⟨e,_⟩:=x;exact⟨_,e⟩
 |lM ps=>exact⟨_,show h.get? a=some _ from x⟩
 |met f y=>exact⟨_,show h.get? a=some _ from x⟩
 |ext φ=>exact x.2.1
theorem vn{P:Program}{w:World}{H:Hp}{h:Heap}{a:Addr}(x:cw P w H h)(e:h.get? a=none):H a=none:=by
 cases q:H a with
 |none=>rfl
 |some o=>obtain⟨u,z⟩:=SU (x a o q);rw[e]at z;cases z
section
variable{P:Program}{w:World}{K:PySem.W.Frag}{mg:Str->Option Value}{base:Heap}{N:List Str}{qual:Str}{scope:Scope}{f:Addr}{cd:Value}{A:Around}{outer:List Env}{s s2:Shared}{H H1:Hp}{E:XK}
 {pins:List (Addr×Obj)} {σ:L2.St} {a C:Addr}
theorem zh(I:Inv (dm (cC P w) P w K mg base N qual scope f cd A outer s H E) pins σ H1 s2):s2.heap.FunFrames base (envOfC qual scope s.heap.objs.size f cd::outer):=show _ by
 obtain⟨m,⟨o,es,ep,ho,hd,_⟩,_⟩:=I.loc;have hk:scope.kind=.function:=I.ok.kind;refine⟨?_,⟨s.heap.objs.size,o,rfl,?_,ho,λvs z=>?_⟩,I.fR⟩
 ·show scope.kind≠.module;rw[hk];intro z;cases z
 ·cases q:base.get? s.heap.objs.size with
  |none=>rfl
  |some u=>exact absurd (dO (bq q) I.ok.iy) (ju _)
 ·rw[hd]at z;cases z
theorem Gw{a0:Value}{h':Heap}(hold:List Addr)(I:Inv (dm (cC P w) P w K mg base N qual scope f cd A outer s H E) pins σ H1 s2)(hh:∀b∈hold,H1 b=none/\s.heap.get? b=none)(na:H1 a=none/\s.heap.get? a=none)
 (fl:C_ (j9 s2.heap (hold++frs (envOfC qual scope s.heap.objs.size f cd::outer))) outer a (.ref C) a0 h') (us:s2.heap.UpToSlots h') (q:E (.ref C) (some a) H1) {s3:Shared} (h3:s3.heap=h') (ho:s3.os=s2.os) (hg:s3.gens=s2.gens) :
 cC P w outer H s E (.ref a) s3:=show _ by
 have all:=zh I;have zi:frs (envOfC qual scope s.heap.objs.size f cd::outer)=s.heap.objs.size::frs outer:=rfl;have hL:s.heap.get? s.heap.objs.size=none:=by
  cases q:s.heap.get? s.heap.objs.size with
  |none=>rfl
  |some u=>exact absurd (bq q) (ju _)
 have frame:∀b,b∈frs (envOfC qual scope s.heap.objs.size f cd::outer)->H1 b=none/\∃o,s2.heap.get? b=some o/\∀vs,o.data≠.fields vs:=by
  intro b hb;refine⟨?_,(all.mem hb).2⟩;rw[zi]at hb;rcases br.mp hb with rfl|hb
  ·exact I.free
  ·obtain⟨_,o,e,_⟩:=I.ok.fR.mem hb;exact I.base.free b o e (I.ok.jC b hb) (by exact cG)
 have keep:∀b o,s2.heap.get? b=some o->b∉hold->b∉frs (envOfC qual scope s.heap.objs.size f cd::outer)->h'.get? b=some o:=λb o e n1 n2 =>
  fl.1 b o (xb _ e λz=>(bF.mp z).elim n1 n2)
 have slot:∀b o,s2.heap.get? b=some o->b∈frs (envOfC qual scope s.heap.objs.size f cd::outer)->∃sl,h'.get? b=some {o with slots:=sl}:=λb o e hb=>by
  obtain⟨_,o',e',hn⟩:=frame b hb;rw[e]at e';cases e';exact us b o e hn
 have rZ:∀b o,s.heap.get? b=some o->b∉hold:=λb o e z=>by rw[(hh b z).2]at e;cases e
 have nL:∀b o,s.heap.get? b=some o->b∉frs outer->b∉frs (envOfC qual scope s.heap.objs.size f cd::outer):=λb o e n z=>by
  rw[zi]at z;rcases br.mp z with rfl|z
  ·rw[hL]at e;cases e
  ·exact n z
 obtain⟨f1,f2,f3,oe,vs,T,oT,ts,he,⟨hc,h0⟩,hd,h1,hnT,hTe,hT,hdT,SV⟩:=fl;have SW:T∉frs (envOfC qual scope s.heap.objs.size f cd::outer):=λz=>by
  obtain⟨_,o',e',hn⟩:=frame T z;obtain⟨sl,e2⟩:=us T o' e' hn;rw[hT]at e2;cases e2;exact hn _ hdT
 have tT:H1 T=none/\s.heap.get? T=none:=by
  by_cases hz:T∈hold
  ·exact hh T hz
  ·have n2:s2.heap.get? T=none:=by
    cases q:s2.heap.get? T with
    |none=>rfl
    |some o =>
     rw[xb _ q λz=>(bF.mp z).elim hz SW]at hnT;cases hnT
   refine⟨vn I.hok n2,?_⟩;cases q:s.heap.get? T with
   |none=>rfl
   |some o =>
    obtain⟨o',e'⟩:=I.base.there T o q (by exact cG);rw[n2]at e';cases e'
 refine⟨a,C,T,H1,rfl,ho.trans I.os,?_,?_,?_,?_,na.1,tT.1,na.2,tT.2,q⟩
 ·rw[hg];exact I.bare
 ·rw[h3];refine⟨λb o e n hf hx=>?_,λb o e n hf hx=>?_,λb o e n hx=>I.base.free b o e n (by exact cG),λb o e hx=>?_,I.base.tups,I.base.gy,I.base.ix⟩
  ·exact keep b o (I.base.keep b o e n hf (by exact cG)) (rZ b o e) (nL b o e hf)
  ·obtain⟨sl,e1⟩:=I.base.slot b o e n hf (by exact cG);obtain⟨sl',e2⟩:=slot b _ e1 (by rw[zi];exact .tail _ hf);exact⟨sl',e2⟩
  ·obtain⟨o',e1⟩:=I.base.there b o e (by exact cG);by_cases hb:b∈frs (envOfC qual scope s.heap.objs.size f cd::outer)
   ·obtain⟨sl,e2⟩:=slot b _ e1 hb;exact⟨_,e2⟩
   ·exact⟨_,keep b _ e1 (rZ b o e) hb⟩
 ·rw[h3];intro b o e;refine(I.hok b o e).stay (λc u hc q=>?_) (λ_ q=>q) λ_ _ q=>q;have r0:H1 c≠none:=by
   rcases hc with rfl|z
   ·rw[e];simp
   ·rw[z];simp
  exact keep c u q (λz=>r0 (hh c z).1) λz=>r0 (frame c z).1
 ·rw[h3];exact⟨hTe,⟨oe,vs,a0,he,hc,hd,h0,h1⟩,⟨oT,ts,hT,hdT,SV⟩⟩
theorem SX:Passes (cC P w) (dm (cC P w) P w K mg base N qual scope f cd A outer s H E) E:=show _ by
 rintro pins σ H1 s1 e s' I ⟨a,C,T,H',he,hos,hb,u,hok,m6,ha,hT,na,nT,z⟩;subst he;have I':=I.qL hos u hok hb λ_ z=>nomatch z;have all:=zh I';have old:∀b,s1.heap.get? b=none->s.heap.get? b=none:=λb e=>by
  cases q:s.heap.get? b with
  |none=>rfl
  |some o =>
   obtain⟨o',e'⟩:=I.base.there b o q (by exact cG);rw[e]at e';cases e'
 obtain⟨oe,vs,a0,e1,e2,e3,e4,e5⟩:=m6.exc;obtain⟨oT,ts,t1,t2,t3⟩:=m6.tb;have hl:∀env∈(envOfC qual scope s.heap.objs.size f cd::outer),∀b,env.frame=some b->b∈[a,T]++frs (envOfC qual scope s.heap.objs.size f cd::outer):=λenv he b hb=>gg _ (qr.mpr ⟨env,he,hb⟩);show wpAny _ _ (leaving (envOfC qual scope s.heap.objs.size f cd) (.ref a)) _ _ s';refine wpAny_leaves_onW (base:=j9 s'.heap ([a,T]++frs (envOfC qual scope s.heap.objs.size f cd::outer))) I'.ok.frames rfl ⟨λb o q=>qp _ q,tS _ (by simp),xq all hl,
  oe,vs,T,oT,ts,e1,⟨e2,e4⟩,e3,e5,tS _ (by simp),m6.ne,t1,t2,t3⟩ λh' x1 x2=>?_
 refine Gw [a,T] I' (λb hb=>?_) ⟨ha,old a na⟩ x1 x2 z rfl rfl rfl;rcases br.mp hb with rfl|hb
 ·exact⟨ha,old b na⟩
 ·rcases br.mp hb with rfl|hb
  ·exact⟨hT,old b nT⟩
  ·cases hb
theorem leave_new{args:List Value}{s3:Shared}{e:Addr}(I:Inv (dm (cC P w) P w K mg base N qual scope f cd A outer s H E) pins σ H1 s2)(hx:C9 s2.heap s3.heap e (.ref C) args)(ho:s3.os=s2.os)(hg:s3.gens=s2.gens)(q:E (.ref C) (some e) H1) :
 (dm (cC P w) P w K mg base N qual scope f cd A outer s H E).xe (.ref e) s3:=show _ by
 have all:=zh I;have hl:∀env∈(envOfC qual scope s.heap.objs.size f cd::outer),∀b,env.frame=some b->b∈[]++frs (envOfC qual scope s.heap.objs.size f cd::outer):=λenv he b hb=>gg _ (qr.mpr ⟨env,he,hb⟩);show wpAny _ _ (leaving (envOfC qual scope s.heap.objs.size f cd) (.ref e)) _ _ s3;refine wpAny_leaves_madeW (base:=j9 s2.heap ([]++frs (envOfC qual scope s.heap.objs.size f cd::outer))) (h:=s2.heap) I.ok.frames rfl (λb o q=>qp _ q) (xq all hl) hx λh' t x1 _ _ x4=>?_;refine Gw [] I (λb hb=>nomatch hb) ⟨vn I.hok hx.new,?_⟩ x1 ((MJ hx.keeps).trans x4) q rfl ho hg;cases q:s.heap.get? e with
 |none=>rfl
 |some o =>
  obtain⟨o',e'⟩:=I.base.there e o q (by exact cG);rw[hx.new]at e';cases e'
end
section
variable{P:Program}{w:World}{K:PySem.W.Frag}{mg:Str->Option Value}{base:Heap}{x:Str}{st:Stmt}{N ps:List Str}{k:Nat}
def SY{f:Addr}{cdv:Value}{A:Around}{outer:List Env}{s:Shared}{H:Hp}{E:XK}{scope:Scope}(Z:Zt)(W:X3)(o:Kp Z Z.base H)(ce:E9 K Z H W E):ZX (dm (cC P w) P w K mg base N x scope f cdv A outer s H E) (λ_=>W) where
 z:=Z.at H
 E:=λ_=>E
 pass:=λτ pins H s e s' I q=>SX pins τ H s e s' I q
 rz:=λ_ _ _ _ _ _ _ _ I hx ho hg q=>leave_new I hx ho hg q
 ce:=λ_ _ C a S H' _ l ha q=>ce C a S H' (l.old.fk λ_ z=>z) ⟨l.obj,l.hid,o.trans (l.old.fk λ_ z=>z)⟩ ha q
theorem _root_.EE.aE.r8{sp:aY}(h:aE K mg x st ps)(S:bf N ps (av st))(len:∀vs H Q E,sp vs H Q E->vs.length=ps.length)
 (hbody:∀(f:Addr) (cdv:Value) (A:Around) (outer:List Env) (s:Shared) (H:Hp) (E:XK) (ds:List D) (S:ah) (Q:K3) (W:X3),cP k (A.deeper (envOfC x (av st) s.heap.objs.size f cdv))->sp ds S Q W ->
  ∃t Q' W',dz (dm (cC P w) P w K mg base N x (av st) f cdv A outer s H E) (λ_=>W') (a_ st) t/\t {nx:=λ_ S'=>Q' .non S',rt:=Q'} (eL N ds) S/\(∀d S',Q' d S'->Q d S')/\∀C a S',W' C a S'->W C a S'):ay P w K mg base (k+1) x ps sp:=show _ by
 obtain⟨f,fd,F,b,m⟩:=h.ex;obtain⟨oc,od,kV,doc,pm,an,cdv,ct,osl,rfl,lk,hcd⟩:=F.ex;refine⟨f,_,yB lk hcd S (λvs H Q E cU=>by obtain⟨Z,ds,S,Q3,E3,h1,_,h3,_,_⟩:=cU;rw[<-h1.len];exact len _ _ _ _ h3) λA outer s H vs Q E hr ⟨Z,ds,S3,Q3,E3,h1,h2,h3,h4,h5⟩=>?_,b,F.kp,m⟩;obtain⟨t,Q',W',ht,q,hw,hx⟩:=hbody f cdv A outer s H E ds S3 Q3 E3 hr h3;refine⟨_,ht (SY Z W' h2.old λC a S' H' kk l ha z=>h5 C a S' H' kk l ha (hx _ _ _ z)),_,eL N ds,S3,?_,h2.into,q,⟨?_,?_,?_,?_⟩⟩
 ·unfold eL L2.start;rw[h1.len];exact jK (SR.uW h1) (SR.nones _)
 ·intro σ S' τ H' kk _ l q';exact h4 .non S' .non H' (kk.fk λ_ z=>z) .non (l.out h2 kk) (hw _ _ q')
 ·exact λ_ _ _ _ _ _ _ z=>z
 ·exact λ_ _ _ _ _ _ _ z=>z
 ·exact λd S' v H' kk r l q'=>h4 d S' v H' (kk.fk λ_ z=>z) r (l.out h2 kk) (hw _ _ q')
def vX(A:List D->(D->Prop)->(Addr->Prop)->Prop):aY:=λds S Q W=>A ds (λd=>Q d S) λC=>∀a,W C a S
theorem _root_.EE.aE.S9{A:List D->(D->Prop)->(Addr->Prop)->Prop}(h:aE K mg x st ps)(S:bf N ps (av st))(len:∀ds q qx,A ds q qx->ds.length=ps.length)
 (hbody:∀(f:Addr) (cdv:Value) (Ar:Around) (outer:List Env) (s:Shared) (H:Hp) (E:XK) (ds:List D) (q:D->Prop) (qx:Addr->Prop),cP k (Ar.deeper (envOfC x (av st) s.heap.objs.size f cdv))->A ds q qx ->
  ∃t,dz (dm (cC P w) P w K mg base N x (av st) f cdv Ar outer s H E) (λ_ C _ _=>qx C) (a_ st) t/\t {nx:=λ_ _=>q .non,rt:=λd _=>q d} (eL N ds) emp):ay P w K mg base (k+1) x ps (vX A):=show _ by
 have C:ay P w K mg base (k+1) x ps (λds S Q E=>S=emp/\∃q qx,A ds q qx/\(∀d S',q d->Q d S')/\∀C a S',qx C->E C a S'):=by
  refine h.r8 S (λvs H Q E eS=>by obtain⟨_,q,qx,z,_⟩:=eS;exact len _ _ _ z) λf cdv Ar outer s H E ds S3 Q E3 hr z=>?_;obtain⟨rfl,q,qx,z,hq,hx⟩:=z;obtain⟨t,h1,h2⟩:=hbody f cdv Ar outer s H E ds _ _ hr z;exact⟨t,λd _=>q d,λC _ _=>qx C,h1,h2,hq,hx⟩
 exact C.frame.imp λds S Q E z=>⟨emp,S,vi S,rfl,_,_,z,λd S1 hq=>⟨emp,vk _,λS' h=>vj h▸hq⟩,λC a S1 hx=>⟨emp,vk _,λS' h=>vj h▸hx a⟩⟩
theorem m7{qual:Str}{scope:Scope}{f:Addr}{cd:Value}{A:Around}{outer:List Env}{s:Shared}{H:Hp}{E:XK} :
 PassesOwn (model P w) (dm (cC P w) P w K mg base N qual scope f cd A outer s H E).A (dm (cC P w) P w K mg base N qual scope f cd A outer s H E).env (dm (cC P w) P w K mg base N qual scope f cd A outer s H E).xe:=PassesOwn.leaving
end
abbrev vo:List Value:=[.type "ValueError",.type "Exception",.type "BaseException",.type "object"]
theorem S_{K:ax}{h:Heap}{C:Addr}{bmB:List Value}{newId:String}(X:K.In h)(q:qy K C bmB newId=true) :
 ∃bm N nm qn bs hdct sn sub ab col dd q0 q1 q2 q3 q5 mN,h.get? C=some (excClassObj nm qn C N bs bm hdct sn sub ab col dd q0 q1 q2 q3 q5 newId)/\h.Ns N mN/\mN "__init__"=none/\OwnTail h bmB bm:=show _ by
 unfold qy at q
 split at q
 ·rename_i dd cd sl ho
  split at q
  ·rename_i Ca bm q0 q1 q2 q3 n q5 hmr hsz
   simp only[gq,beq_iff_eq,Bool.not_eq_true']at q;obtain⟨⟨⟨⟨⟨rfl,rfl⟩,hde⟩,ht⟩,hns⟩,hin⟩:=q;obtain⟨nm,bs,mro,ns,qn,hd,sn,sub,ab,col,del⟩:=cd;dsimp only at hmr hde hns hin;subst hmr hde;have Ta:sl=#[q0,q1,q2,q3,some (.builtin n),q5]:=by
    obtain⟨l⟩:=sl;simp only at hsz;rw[hsz]
   subst Ta;exact⟨bm,ns,nm,qn,bs,hd,sn,sub,ab,col,dd,q0,q1,q2,q3,q5,_,X _ _ ho,.of_isNs (PySem.W.isNs_of_in X hns),PySem.W.nsMap_none_of_in X hns hin,PySem.W.tail_of_in X ht⟩
  ·cases q
 ·cases q
section
variable{X:Cx}{x:Str}{C:Addr}{np cpos pos:Pos}{e:Expr}{es:List Expr}
theorem Tb{ta:TA}{E:L2.St->XK}(hm:X.mg x=some (.ref C))(q:qy X.K C vo "ValueError.__new__"=true)(hc:X.calm=true)(hg:Gl X x)(rz:∀τ,E8 X (E τ) τ)(ha:PA X (e::es) ta)
 (hd:(x==("__debug__":Str))=false:=by decide) (he:starEach (e::es) X.env=(false,eval e X.env)::starEach es X.env:=by rfl) (hpl:(backTo cpos (starEach es X.env)).any (·.1)=false:=by rfl) :
 PS X (.Raise (some (.Call (.Name x np) (e::es) [] cpos)) none pos) (λ_ τ H=>ta τ H λvs H1=>vs.length<=sizeLine/\∀a,H1 a=none->E τ (.ref C) (some a) H1):=show _ by
 intro pins s σ H D I h;obtain⟨bm,N,nm,qn,bs,hdct,sn,sub,ab,col,dd,k0,k1,k2,k3,k5,mN,hC,hN,hni,T⟩:=S_ I.mod.jB q;refine wpAny_Raise_call_subT (C:=C) (nm:=nm) (q:=qn) (N:=N) (bs:=bs) (bm:=bm) (hdct:=hdct) (sn:=sn) (sub:=sub) (ab:=ab) (col:=col) (dd:=dd) (k0:=k0) (k1:=k1) (k2:=k2) (k3:=k3) (k5:=k5)
  MK (mN:=mN) (T.hasType MK.hasBase) (I.ok.hd hc) (by rw[he];show(false||(backTo cpos (starEach es X.env)).any (·.1))=false;rw[hpl];rfl) hni (um I hg hm ⟨rfl,?_⟩ hd)
 have h1:=ha cpos pins s σ H _ I h;rw[he]at h1 ⊢;refine My (fJ h1 (λus s1 ⟨vs,H1,I1,r,hl,z⟩=>?_) λ_ _ y=>y);have keep:∀b o,X.base.get? b=some o->s1.heap.get? b=some o:=I1.bk;refine⟨rfl,by show us.length<=sizeLine;rw[<-r.length];exact hl,keep _ _ hC,hN.keeps keep,T.keeps keep,λh' a hx=>?_⟩;exact rz σ pins H1 s1 _ a C us I1 hx rfl rfl (z a (vn I1.hok hx.new))
def Gy(W3:bX)(C:Addr)(ta:cX):cB:=λ_ σ S=>ta σ S λds S1=>ds.length<=sizeLine/\∀a,W3 σ C a S1
variable{W3:bX}
theorem r9{ta:cX}(hm:X.mg x=some (.ref C))(q:qy X.K C vo "ValueError.__new__"=true)(hc:X.calm=true)(hg:Gl X x)(ha:fD X W3 (e::es) ta)
 (hd:(x==("__debug__":Str))=false:=by decide) (he:starEach (e::es) X.env=(false,eval e X.env)::starEach es X.env:=by rfl) (hpl:(backTo cpos (starEach es X.env)).any (·.1)=false:=by rfl) :
 fh X W3 (.Raise (some (.Call (.Name x np) (e::es) [] cpos)) none pos) (Gy W3 C ta):=λZ=>PS.imp (Tb hm q hc hg Z.rz (ha Z) hd he hpl) λD τ H cU=>by obtain⟨D3,σ,S,hs,hr,ht,hcd⟩:=cU;exact 
 ⟨σ,S,_,hs,hr,ht,λds S1 vs H1 k1 r1 l1 q1=>⟨by rw[<-r1.len];exact q1.1,λa ha=>Z.ce σ τ C a S1 H1 (hs.mono k1) l1 ha (q1.2 a)⟩⟩
def zj:D->Str->Prop
 | .str y,z=>z=y/\y.length<=sizeLine
 | .int a,z=>z=toString a/\a.natAbs.log2<1920
 |_,_=>False
def Gz(te:aQ):aQ:=λσ S Q=>te σ S λd S1=>∃y,zj d y/\Q (.str y) S1
theorem GA{te:aQ}(he:aM X W3 e te):aM X W3 (.FormattedValue e (-1) none pos) (Gz te):=show _ by
 rintro Z pins s τ H Q I ⟨σ,S,Q3,hs,hr,ht,hc⟩;refine wpAny_FormattedValue_plain (fJ (he Z pins s τ H (λv H1=>∃y,(v=.str y/\y.length<=sizeLine∨∃a:Int,v=.int a/\y=toString a/\a.natAbs.log2<1920)/\Q (.str y) H1) I ⟨σ,S,_,hs,hr,ht,λd S1 v H1 k1 r1 l1 q1=>?_⟩) (λu s1 z=>?_) λ_ _ y=>y)
 ·obtain⟨y,f,q⟩:=q1;cases r1 with
  |str x=>obtain⟨rfl,hl⟩:=f;exact⟨_,.inl ⟨rfl,hl⟩,hc _ S1 _ H1 k1 (.str _) l1 q⟩
  |int a=>obtain⟨rfl,hl⟩:=f;exact⟨_,.inr ⟨a,rfl,rfl,hl⟩,hc _ S1 _ H1 k1 (.str _) l1 q⟩
  |_=>exact f.elim
 ·obtain⟨v,H1,I1,r,y,hv,q⟩:=z;rcases hv with⟨rfl,hl⟩|⟨a,rfl,rfl,hl⟩
  ·obtain⟨t,rfl⟩:=r;exact wpAny_formatField_str ⟨.str y,H1,I1,⟨_,rfl⟩,q⟩ ⟨.str y,H1,I1.tok _,⟨_,rfl⟩,q⟩ hl
  ·obtain⟨t,rfl⟩:=r;exact wpAny_formatField_int hl ⟨.str _,H1,I1.tok _,⟨_,rfl⟩,q⟩
def r_(X:Cx)(W3:bX)(es:List Expr)(t:Str->aQ):Prop:=∀(Z:ZX X W3) (pins:List (Addr×Obj)) (s:Shared) (τ:L2.St) (H:Hp) (Q:VK) (acc:Str),Inv X pins τ H s->lE X.K Z.z (t acc) τ H Q ->
 Joins (model X.prog X.w) X.A X.xe (evalEach es X.env) acc (λout s1=>out.length<=sizeLine/\∃H1,Inv X pins τ H1 s1/\Q (.str out) H1) s
def GB(acc:Str):aQ:=λ_ S Q=>acc.length<=sizeLine/\Q (.str acc) S
def GC(te:aQ)(t:Str->aQ)(acc:Str):aQ:=λσ S Q=>te σ S λd S1=>∃y,d=.str y/\(acc++y).length<=sizeLine/\t (acc++y) σ S1 Q
theorem GD:r_ X W3 [] GB:=λZ pins s τ H Q acc I eS=>by obtain⟨σ,S,Q3,hs,hr,ht,hc⟩:=eS;exact⟨ht.1,H,I,hc _ S _ H (Kp.refl _ _) (.str _) hr ht.2⟩
theorem sd{te:aQ}{t:Str->aQ}(he:aM X W3 e te)(ht:r_ X W3 es t):r_ X W3 (e::es) (GC te t):=show _ by
 rintro Z pins s τ H Q acc I ⟨σ,S,Q3,hs,hr,h,hc⟩;refine fJ (he Z pins s τ H (λv H1=>∃y,v=.str y/\(acc++y).length<=sizeLine/\lE X.K Z.z (t (acc++y)) τ H1 Q) I ⟨σ,S,_,hs,hr,h,λd S1 v H1 k1 r1 l1 q1=>?_⟩) (λu s1 z=>?_) λ_ _ y=>y
 ·obtain⟨y,rfl,hl,q⟩:=q1;cases r1;exact⟨y,rfl,hl,σ,S1,Q3,hs.mono k1,l1,q,hc.mono k1⟩
 ·obtain⟨v,H1,I1,r,y,rfl,hl,q⟩:=z;obtain⟨t',rfl⟩:=r;exact⟨y,t',rfl,hl,ht Z pins s1 τ H1 Q _ I1 q⟩
theorem GF{e2:Expr}{t:Str->aQ}(h:r_ X W3 (e::e2::es) t):aM X W3 (.JoinedStr (e::e2::es) pos) (t Cy):=show _ by
 intro Z pins s τ H Q I hq;have j:=h Z pins s τ H Q _ I hq;refine wpAny_JoinedStr ?_;have mono:∀(l:List (Sem Value)) (acc:Str) (s:Shared) {R R':Str->Shared->Prop},(∀o s,R o s->R' o s)->Joins (model X.prog X.w) X.A X.xe l acc R s->Joins (model X.prog X.w) X.A X.xe l acc R' s:=by
  intro l
  induction l with
  |nil=>exact λacc s R R' f q=>f _ _ q
  |cons a l ih=>exact λacc s R R' f q=>fJ q (λv s1 i9=>by obtain⟨y,t,e,hl,z⟩:=i9;exact⟨y,t,e,hl,ih _ _ f z⟩) λ_ _ z=>z
 exact mono _ _ _ (λo s1 iT=>by obtain⟨hl,H1,I1,q⟩:=iT;exact⟨hl,.str o,H1,I1.tok _,⟨_,rfl⟩,q⟩) j
end
section
variable{σ:aL}{S:ah}{Q:K3}{te:aQ}{al:cX}{n b c:aL->ah->Prop}{rt:K3}{W3:bX}{C:Addr}
theorem Tc(h:al σ S λds S1=>ds.length<=sizeLine/\∀a,W3 σ C a S1):Gy W3 C al ⟨n,rt,b,c⟩ σ S:=h
theorem Td(h:te σ S λd S1=>∃y,zj d y/\Q (.str y) S1):Gz te σ S Q:=h
theorem zk{a:Int}{P:Str->Prop}(hl:a.natAbs.log2<1920)(q:P (toString a)):∃z,zj (.int a) z/\P z:=⟨_,⟨rfl,hl⟩,q⟩
theorem zl{acc:Str}(hl:acc.length<=sizeLine)(q:Q (.str acc) S):GB acc σ S Q:=⟨hl,q⟩
theorem Te{t:Str->aQ}{acc:Str}(h:te σ S λd S1=>∃y,d=.str y/\(acc++y).length<=sizeLine/\t (acc++y) σ S1 Q):GC te t acc σ S Q:=h
end
abbrev _root_.L2.Cx.caught(X:Cx)(v:Value):Cx:={X with A:=X.A.mark (some v),calm:=false,xe:=λ_ _=>False}
abbrev _root_.L2.Cx.tried(X:Cx)(xe:Value->Shared->Prop)(pn:List (Addr×Obj)):Cx:={X with xe:=xe,pn:=pn}
section
variable{X:Cx}{pins pn:List (Addr×Obj)}{τ:L2.St}{H H1:Hp}{s s1:Shared}{a C:Addr}{v:Value}{xe:Value->Shared->Prop}
theorem Tf(ok:X.Ok):(X.caught v).Ok:=⟨ok.mod,ok.kind,ok.glob,ok.blt,ok.above,ok.inj,ok.has,ok.cab,(λz=>nomatch z),ok.frames,ok.mO,ok.qJ,ok.bs,ok.iy,ok.lN,ok.lP,ok.fR,ok.jC⟩
theorem Tg(ok:X.Ok):(X.tried xe pn).Ok:=⟨ok.mod,ok.kind,ok.glob,ok.blt,ok.above,ok.inj,ok.has,ok.cab,ok.hd,ok.frames,ok.mO,ok.qJ,ok.bs,ok.iy,ok.lN,ok.lP,ok.fR,ok.jC⟩
theorem GG(I:Inv X pins τ H s):Inv (X.caught v) pins τ H s:=⟨Tf I.ok,I.os,I.bare,I.base,I.loc,I.cell,I.free,I.fS,I.pin,I.hok,I.len⟩
theorem vq(ok:X.Ok)(I:Inv (X.caught v) pins τ H s):Inv X pins τ H s:=⟨ok,I.os,I.bare,I.base,I.loc,I.cell,I.free,I.fS,I.pin,I.hok,I.len⟩
theorem Th(I:Inv X pins τ H s):Inv (X.tried xe (X.pn++pins)) [] τ H s:=⟨Tg I.ok,I.os,I.bare,I.base,I.loc,I.cell,I.free,I.fS,λp hp=>I.pin p (by simpa using hp),I.hok,I.len⟩
theorem oS{iz:List (Addr×Obj)}(ok:X.Ok)(I:Inv (X.tried xe (X.pn++pins)) iz τ H s):Inv X pins τ H s:=⟨ok,I.os,I.bare,I.base,I.loc,I.cell,I.free,I.fS,λp hp=>I.pin p (lu _ hp),I.hok,I.len⟩
theorem Ti{D:Ends}{f:Flow}(ok:X.Ok)(h:SP (X.caught v) pins D f s):SP X pins D f s:=show _ by
 cases f with
 |next=>obtain⟨σ',H',I,q⟩:=h;exact⟨σ',H',vq ok I,q⟩
 |brk=>obtain⟨σ',H',I,q⟩:=h;exact⟨σ',H',vq ok I,q⟩
 |cont=>obtain⟨σ',H',I,q⟩:=h;exact⟨σ',H',vq ok I,q⟩
 |ret u=>obtain⟨v,σ',H',I,r,q⟩:=h;exact⟨v,σ',H',vq ok I,r,q⟩
theorem Tj{D:Ends}{f:Flow}(ok:X.Ok)(h:SP (X.tried xe (X.pn++pins)) [] D f s):SP X pins D f s:=show _ by
 cases f with
 |next=>obtain⟨σ',H',I,q⟩:=h;exact⟨σ',H',oS ok I,q⟩
 |brk=>obtain⟨σ',H',I,q⟩:=h;exact⟨σ',H',oS ok I,q⟩
 |cont=>obtain⟨σ',H',I,q⟩:=h;exact⟨σ',H',oS ok I,q⟩
 |ret u=>obtain⟨v,σ',H',I,r,q⟩:=h;exact⟨v,σ',H',oS ok I,r,q⟩
structure g9(X:Cx)(pins:List (Addr×Obj))(τ:L2.St)(H:Hp)(a C:Addr)(s:Shared):Prop where
 ex:∃(s1:Shared) (H1:Hp) (g:Heap) (hold:List Addr) (a0:Value),Inv X pins τ H1 s1/\Un (frs X.stack) [] H1 H s1.heap g/\cw X.prog X.w H g/\(∀b∈hold,H b=none/\s1.heap.get? b=none)/\(H a=none/\s1.heap.get? a=none) /\
  C_ (j9 g (hold++frs X.stack)) X.stack a (.ref C) a0 s.heap/\g.UpToSlots s.heap/\s.os=s1.os/\AllBare s.gens
theorem g9.exc(h:g9 X pins τ H a C s):∃o vs,s.heap.get? a=some o/\o.cls=.ref C/\o.data=.fields vs:=show _ by
 obtain⟨s1,H1,g,hold,a0,I,u,ok,hh,na,fl,us,ho,hb⟩:=h.ex;obtain⟨oe,vs,h1,h2,h3,h4⟩:=fl.first;exact⟨oe,vs,h1,h2,h3⟩
theorem g9.un(h:g9 X pins τ H a C s)(o:Option HO)(hO:∀q,o=some q->cM X.prog X.w (upd H a q) s.heap a q):Inv X pins τ (match o with|some q=>upd H a q|none=>H) s:=show _ by
 obtain⟨s1,H1,g,hold,a0,I,u,ok,hh,na,fl,us,ho,hb⟩:=h.ex;have I':s.heap=s.heap:=rfl;have fr:∀b∈frs X.stack,H b=none/\∃o,g.get? b=some o/\∀vs,o.data≠.fields vs:=by
  intro b hb;obtain⟨o,e,hn⟩:=(I.stack.mem hb).2;obtain⟨sl,e'⟩:=u.slot b o e (I.uj b hb) hb (by exact cG);exact⟨u.free b o e (I.uj b hb) (by exact cG),_,e',hn⟩
 have keep:∀b o,g.get? b=some o->b∉hold->b∉frs X.stack->s.heap.get? b=some o:=λb o e n1 n2=>fl.1 b o (xb _ e λz=>(bF.mp z).elim n1 n2);have slot:∀b o,g.get? b=some o->b∈frs X.stack->∃sl,s.heap.get? b=some {o with slots:=sl}:=λb o e hb=>by
  obtain⟨_,o',e',hn⟩:=fr b hb;rw[e]at e';cases e';exact us b o e hn
 have rZ:∀b o,s1.heap.get? b=some o->b∉hold:=λb o e z=>by rw[(hh b z).2]at e;cases e
 have Tn:∀b o,s1.heap.get? b=some o->b≠a:=λb o e z=>by rw[z,na.2]at e;cases e
 have un:Un (frs X.stack) [] H1 H s1.heap s.heap:=by
  refine⟨λb o e n hf hx=>?_,λb o e n hf hx=>?_,u.free,λb o e hx=>?_,u.tups,u.gy,u.ix⟩
  ·exact keep b o (u.keep b o e n hf hx) (rZ b o e) hf
  ·obtain⟨sl,e1⟩:=u.slot b o e n hf hx;obtain⟨sl',e2⟩:=slot b _ e1 hf;exact⟨sl',e2⟩
  ·obtain⟨o',e1⟩:=u.there b o e hx;by_cases hb:b∈frs X.stack
   ·obtain⟨sl,e2⟩:=slot b _ e1 hb;exact⟨_,e2⟩
   ·exact⟨_,keep b _ e1 (rZ b o e) hb⟩
 have hok:cw X.prog X.w H s.heap:=by
  intro b o e;refine(ok b o e).stay (λc u hc q=>?_) (λ_ q=>q) λ_ _ q=>q;have r0:H c≠Option.none:=by
   rcases hc with rfl|z
   ·rw[e];simp
   ·rw[z];simp
  exact keep c u q (λz=>r0 (hh c z).1) λz=>r0 (fr c z).1
 cases o with
 |none=>exact I.qL ho un hok hb λ_ z=>nomatch z
 |some q =>
  have n1:∀b o,H b=some o->b≠a:=λb o e z=>by rw[z,na.1]at e;cases e
  refine I.qL ho ⟨un.keep,un.slot,λb o e n hx=>?_,un.there,λb xs e=>?_,λb o u e=>?_,λb ps e=>?_⟩ (λb o e=>?_) hb λ_ z=>nomatch z
  ·show upd H a q b=Option.none;rw[bo (Tn b o e)];exact un.free b o e n hx
  ·show upd H a q b=_;rw[bo (n1 b _ (un.tups b xs e))];exact un.tups b xs e
  ·show upd H a q b=_;rw[bo (n1 b _ (un.gy b o u e))];exact un.gy b o u e
  ·obtain⟨more,e1⟩:=un.ix b ps e;refine⟨more,?_⟩;show upd H a q b=_;rw[bo (n1 b _ e1)];exact e1
  ·have e:upd H a q b=some o:=e;by_cases hb:b=a
   ·subst hb;rw[eP]at e;cases e;exact hO _ rfl
   ·rw[bo hb]at e;refine(hok b o e).stay (λc u hc q=>q) (λc z=>?_) λc xs z=>?_
    ·show upd H a q c=_;rw[bo (n1 c _ z)];exact z
    ·show upd H a q c=_;rw[bo (n1 c _ z)];exact z
theorem g9.inv(h:g9 X pins τ H a C s):Inv X pins τ H s:=h.un none λ_ z=>nomatch z
theorem g9.lands{M:Model}{A:Around}{E:Value->Shared->Prop}{Q:Unit->Shared->Prop}(h:g9 X pins τ H a C s)(k:∀s',g9 X pins τ H a C s'->Q () s'):wpAny M A (setFlight (.ref a) none) Q E s:=show _ by
 obtain⟨s1,H1,g,hold,a0,I,u,ok,hh,na,fl,us,ho,hb⟩:=h.ex;exact lands_againW fl λh' vv us'=>k _ ⟨s1,H1,g,hold,a0,I,u,ok,hh,na,vv,us.trans us',ho,hb⟩
theorem To{E:XK}{e:Value}{s':Shared}{M:Model}{Ex:Value->Shared->Prop}{Q:Unit->Shared->Prop}(hst:X.stack=X.env::X.outer)(hf:X.env.frame=some X.env.locals)(I:Inv X pins τ H1 s1)(cx:cC X.prog X.w X.stack H1 s1 E e s')
 (k:∀a C H s5,e=.ref a->E (.ref C) (some a) H->g9 X pins τ H a C s5->Q () s5) :
 wpAny M X.A (noteFrame e X.env) (λ_ s2=>wpAny M X.A (setFlight e none) Q Ex s2) Ex s':=show _ by
 obtain⟨a,C,T,H',he,hos,hb,u,hok,m6,ha,hT,na,nT,z⟩:=cx;subst he;have I':=I.qL hos u hok hb λ_ z=>nomatch z;have all:=I'.stack;obtain⟨oe,vs,a0,e1,e2,e3,e4,e5⟩:=m6.exc;obtain⟨oT,ts,t1,t2,t3⟩:=m6.tb;have hl:∀env∈X.stack,∀b,env.frame=some b->b∈[a,T]++frs X.stack:=λenv he b hb=>gg _ (qr.mpr ⟨env,he,hb⟩);have fl:C_ (j9 s'.heap ([a,T]++frs X.stack)) X.stack a (.ref C) a0 s'.heap:=⟨λb o q=>qp _ q,tS _ (by simp),xq all hl,
  oe,vs,T,oT,ts,e1,⟨e2,e4⟩,e3,e5,tS _ (by simp),m6.ne,t1,t2,t3⟩
 have vv:=fl;rw[hst]at vv;refine wpAny_looks_onW (by rw[I.ok.frames,hst]) hf vv λh4 held Tp=>?_;refine wpAny_landsW held λh5 se zm=>?_;rw[<-hst]at se;refine k a C H' _ rfl z ⟨s1,H1,s'.heap,[a,T],a0,I,u,hok,λb hb=>?_,⟨ha,na⟩,se,Tp.trans zm,hos,hb⟩;rcases br.mp hb with rfl|hb
 ·exact⟨ha,na⟩
 ·rcases br.mp hb with rfl|hb
  ·exact⟨hT,nT⟩
  ·cases hb
theorem Tq{args:List Value}{s3:Shared}{M:Model}{Ex:Value->Shared->Prop}{Q:Unit->Shared->Prop}(hst:X.stack=X.env::X.outer)(hf:X.env.frame=some X.env.locals)(I:Inv X pins τ H1 s1)(hx:C9 s1.heap s3.heap a (.ref C) args)
 (ho:s3.os=s1.os) (hg:s3.gens=s1.gens) (k:∀s5,g9 X pins τ H1 a C s5->Q () s5) :
 wpAny M X.A (noteFrame (.ref a) X.env) (λ_ s2=>wpAny M X.A (setFlight (.ref a) none) Q Ex s2) Ex s3:=show _ by
 obtain⟨t,he,htn,ht⟩:=hx.there;have all:=I.stack;have hl:∀env∈X.stack,∀b,env.frame=some b->b∈[]++frs X.stack:=λenv he b hb=>gg _ (qr.mpr ⟨env,he,hb⟩);have ff:=xq (as:=[]++frs X.stack) all hl;have fresh:∀b,s1.heap.get? b=none->(j9 s1.heap ([]++frs X.stack)).get? b=none:=λb hb=>by
  cases q:(j9 s1.heap ([]++frs X.stack)).get? b with
  |none=>rfl
  |some o=>have:=qp _ q;rw[hb]at this;cases this
 have Tr:=ff;rw[hst]at Tr;unfold noteFrame;simp only[hf];refine ak (d0 he rfl (x:=.none) rfl ?_);rw[if_neg (by decide)];refine wpAny_entryW (base:=j9 s1.heap ([]++frs (X.env::X.outer))) (outer:=X.outer) (by rw[I.ok.frames,hst]) ?_ hf he (λb o hb=>?_) ?_ rfl (by simp) (a0:=.ref t) rfl λh4 ⟨n1,n2,n3,n4⟩=>?_
 ·rw[<-hst];exact ff.of_keeps λb o hb _=>⟨o,hx.keeps b o hb,rfl⟩
 ·rw[<-hst]at hb;exact hx.keeps b o (qp _ hb)
 ·rw[<-hst];exact fresh a hx.new
 ·refine wpAny_landsW (base:=j9 s1.heap ([]++frs (X.env::X.outer))) (l:=X.env::X.outer) (L:=X.env.locals) (cls:=.ref C) (a0:=.ref t) ⟨n1,by rw[<-hst];exact fresh a hx.new,n2,n3⟩ λh5 se zm=>?_;rw[<-hst]at se;have hbare:AllBare s3.gens:=by rw[hg];exact I.bare
  have hno:∀b∈([]:List Addr),H1 b=Option.none/\s1.heap.get? b=Option.none:=λb hb=>absurd hb cG;exact k _ ⟨s1,H1,s1.heap,[],.ref t,I,Un.refl,I.hok,hno,⟨vn I.hok hx.new,hx.new⟩,se,((MJ hx.keeps).trans n4).trans zm,ho,hbare⟩
end
theorem Ts{K:ax}{M:Model}{A:Around}{E:Value->Shared->Prop}{s:Shared}{a C Dc:Addr}{o:Obj}{b:Bool}{Q:Bool->Shared->Prop}(X:K.In s.heap)(h1:s.heap.get? a=some o)(h2:o.cls=.ref C)(hk:iP K (.ref C) (.ref Dc)=some b)
 (hb:iP K (.ref Dc) (.type "BaseException")=some true) (q:Q b s):wpAny M A (excMatches (.ref a) (.ref Dc)) Q E s:=show _ by
 obtain⟨t1,t2,t3⟩:=ML (M:=M) X hk;obtain⟨_,_,t4⟩:=ML (M:=M) X hb;have LI:Dd M s.heap (isInstance (.ref Dc) (.type "tuple")) false:=t1.andThen (agx tc_notTuple);have LE:Dd M s.heap (isExcClass (.ref Dc)) true:=t2.andThen (by simpa using t4);have LT:Dd M s.heap (typeOf (.ref a)) (.ref C):=h2▸(agy h1).andThen .now;unfold excMatches;refine ak (LI.here ?_);rw[if_neg (by decide)];refine ak (aF ?_);dsimp only;rw[t7];refine ak (ak (ak (LE.here ?_)));rw[if_neg (by decide)];refine aF ?_;dsimp only;rw[xr];refine aF (ak (LT.here ?_));rw[t7];refine ak (ak (ak (t3.here ?_)));cases b
 ·rw[if_neg (by decide)];refine aF ?_;dsimp only;rw[xr];exact aF (aF q)
 ·rw[if_pos rfl];exact aF (aF (aF q))
section
variable{X:Cx}{W3:bX}{pins:List (Addr×Obj)}{τ:L2.St}{H:Hp}{s:Shared}
def vw(X:Cx)(hs:List ExceptHandler)(r:gY->bX):Prop:=∀(z:Zt) (pins:List (Addr×Obj)) (s:Shared) (τ:L2.St) (σ:aL) (H:Hp) (S:ah) (D:Ends) (D3:gY) (a C:Addr),g9 X pins τ H a C s->SR X.K H σ τ->Rl X.K z S H->CD X.K z H D3 D->r D3 σ C a S ->
 wpAny (model X.prog X.w) X.A (handleBy (.ref a) X.env hs) (SP X pins D) X.xe s
theorem GH:vw X [] (λ_ _ _ _ _=>False):=λ_ _ _ _ _ _ _ _ _ _ _ _ _ _ _ h=>h.elim
def GI(K:ax)(Dc:Addr)(t:cB)(r:gY->bX):gY->bX:=λD3 σ C a S=>∃b,iP K (.ref C) (.ref Dc)=some b/\if b=true then t D3 σ S else r D3 σ C a S
variable{x n:Str}{Dc:Addr}{i:Nat}{np pos:Pos}{b0:Stmt}{suite:List Stmt}{rest:List ExceptHandler}{t:cB}{r:gY->bX}
theorem GJ(hm:X.mg x=some (.ref Dc))(hb:iP X.K (.ref Dc) (.type "BaseException")=some true)(hg:Gl X x)
 (ht:∀v,dz (X.caught v) dw (b0::suite) t) (hr:vw X rest r) (hd:(x==("__debug__":Str))=false:=by decide):vw X (.ExceptHandler (some (.Name x np)) none (b0::suite) pos::rest) (GI X.K Dc t r):=show _ by
 intro z pins s τ σ H S D D3 a C jd hs l cd h;obtain⟨b,hk,h⟩:=h;have I:=jd.inv;obtain⟨o,vs,h1,h2,h3⟩:=jd.exc;refine wpAny_handleBy_cons (codeAny_handlers_test (um (X:=X.caught (.ref a)) (GG I) hg hm (Ts I.eR h1 h2 hk hb ?_) hd)) (by intro q;cases q);cases b with
 |false=>exact hr z pins s τ σ H S D D3 a C jd hs l cd h
 |true =>
  refine codeAny_handlers_suite (jd.lands λs6 h6=>?_);refine fJ (ht (.ref a) (ZX.no _ z) pins s6 _ _ D (GG h6.inv) ⟨_,_,_,hs,l,h,cd⟩) (λf s8 q=>?_) λ_ _ z=>z.elim;exact Ti I.ok q
def GK(tb:bX->cB)(r:gY->bX):cB:=λD3 σ S=>tb (r D3) D3 σ S
theorem GL{K:ax}{Z:Zt}{S S':ah}{H H':Hp}{D3:gY}{D:Ends}(l:Rl K Z S H)(hc:CD K Z H D3 D)(l':Rl K (Z.at H) S' H'):CD K (Z.at H) H' D3 D:=show _ by
 have k0:Kp Z H H':=l'.old.fk λ_ z=>z;have out:∀{S2:ah} {H2:Hp},Kp (Z.at H) H' H2->Rl K (Z.at H) S2 H2->Kp Z H H2/\Rl K Z S2 H2:=λk l2=>⟨k0.trans (k.fk λ_ z=>z),l2.out l (l'.old.trans k)⟩;exact⟨λσ' S2 bp H2 k s2 l2 q=>hc.nx _ _ _ _ (out k l2).1 s2 (out k l2).2 q,λσ' S2 bp H2 k s2 l2 q=>hc.bk _ _ _ _ (out k l2).1 s2 (out k l2).2 q,λσ' S2 bp H2 k s2 l2 q=>hc.ct _ _ _ _ (out k l2).1 s2 (out k l2).2 q,
  λd S2 v H2 k r l2 q=>hc.rt _ _ _ _ (out k l2).1 r (out k l2).2 q⟩
theorem GN{body:List Stmt}{h0:ExceptHandler}{hs:List ExceptHandler}{tb:bX->cB}(hst:X.stack=X.env::X.outer)(hf:X.env.frame=some X.env.locals)
 (hb:∀xe pn (W:bX),dz (X.tried xe pn) W body (tb W)) (hh:vw X (h0::hs) r):fh X W3 (.Try body (h0::hs) [] [] pos) (GK tb r):=show _ by
 rintro Z pins s τ H D I ⟨D3,σ,S,Tt,l,ht,hc⟩;refine wpAny_Try_except ?_;have main:∀bp a C H' s5 σ' S',g9 X pins bp H' a C s5->SR X.K H' σ' bp->Rl X.K (Z.z.at H) S' H'->r D3 σ' C a S'->wpAny (model X.prog X.w) X.A (handleBy (.ref a) X.env (h0::hs)) (SP X pins D) X.xe s5 :=
  λbp a C H' s5 σ' S' jd sr l' w=>hh (Z.z.at H) pins s5 bp σ' H' S' D D3 a C jd sr l' (GL l hc l') w
 let GO:Value->Shared->Prop:=λe s1=>wpAny (model X.prog X.w) X.A (noteFrame e X.env) (λ_ s2=>wpAny (model X.prog X.w) X.A (setFlight e none) (λ_ s3=>wpAny (model X.prog X.w) X.A (handleBy e X.env (h0::hs)) (SP X pins D) X.xe s3) X.xe s2) X.xe s1
 let zx:ZX (X.tried GO (X.pn++pins)) (r D3):={
  z:=Z.z.at H
  E:=λτ cv oa H'=>∃C a σ S,cv=.ref C/\oa=some a/\SR X.K H' σ τ/\Rl X.K (Z.z.at H) S H'/\r D3 σ C a S
  pass:=λbp iz H1 s1 e s' I1 cx=>To hst hf (oS I.ok I1) cx λa C H' s5 he hE jd=>by
   subst he;obtain⟨C',a',σ',S',e1,e2,sr,l',w⟩:=hE;cases e1;cases e2;exact main bp a C H' s5 σ' S' jd sr l' w
  rz:=λbp iz H1 s1 s3 a C args I1 hx ho hg hE=>Tq hst hf (oS I.ok I1) hx ho hg λs5 jd=>by
   obtain⟨C',a',σ',S',e1,e2,sr,l',w⟩:=hE;cases e1;cases e2;exact main bp a C H1 s5 σ' S' jd sr l' w
  ce:=λσ τ C a S H' sr l' _ w=>⟨C,a,σ,S,rfl,rfl,sr,l',w⟩}
 refine fJ (hb GO (X.pn++pins) (r D3) zx [] s τ H D (Th I) ⟨D3,σ,S,Tt,l.into,ht,GL l hc l.into⟩) (λf s1 q=>?_) λ_ _ z=>z;have q:=Tj I.ok q;cases f with
 |next=>exact tU q
 |brk=>exact q
 |cont=>exact q
 |ret u=>exact q
end
section
variable{σ:aL}{S:ah}{n b c:aL->ah->Prop}{rt:K3}{K:PySem.W.Frag}{C Dc a:Addr}{i:Nat}{t:cB}{r:gY->bX}
theorem Tu{tb:bX->cB}(h:tb (r ⟨n,rt,b,c⟩) ⟨n,rt,b,c⟩ σ S):GK tb r ⟨n,rt,b,c⟩ σ S:=h
theorem GP(hk:iP K (.ref C) (.ref Dc)=some true)(h:t ⟨n,rt,b,c⟩ σ S):GI K Dc t r ⟨n,rt,b,c⟩ σ C a S:=⟨true,hk,by rw[if_pos rfl];exact h⟩
end
end E3
namespace E3
section
open PySem PySem.Spec PyProof.Rows L2 EE PySem.W Builtin Builtin.ObjectAttr Builtin.Getset_descriptor
end
open PySem PySem.Spec PyProof.Rows L2 EE
def vx(K:ax)(C:Addr):Bool:=qy K C vo "ValueError.__new__"&&tV K (.ref C) "__getattribute__"==some (some (.builtin "BaseException.__getattribute__"))&&tV K (.ref C) "__getattr__"==some none &&
 tV K (.ref C) "__class__"==some (some (.builtin "object.__class__"))&&Md K (.builtin "object.__class__") "__get__"==some (some (.builtin "getset_descriptor.__get__"))&&Me K (.builtin "object.__class__")==some true &&
 Cz K C (.type "object")==some true&&Cz K C (.type "BaseException")==some true&&iP K (.ref C) (.type "BaseException")==some true&&iP K (.ref C) (.type "ValueError")==some true&&(PySem.W.clsIn K C).isSome
inductive Rf where
 |err|text|twice|such|count|apart|many|way
 deriving DecidableEq
def Rf.nm:Rf->Str
 | .err=>"ErrandError" | .text=>"BadText" | .twice=>"Twice" | .such=>"NoSuch" | .count=>"WrongCount" | .apart=>"Apart" | .many=>"TooMany" | .way=>"NoWay"
def Rf.sub(i j:Rf):Bool:=decide (i=j)||decide (j=.err)
structure je(K:ax)(mg:Str->Option Value)(es:List Rf)(adr:Rf->Addr):Prop where
 bound:∀i∈es,mg i.nm=some (.ref (adr i))
 one:∀i∈es,vx K (adr i)=true
 two:∀i∈es,∀j∈es,iP K (.ref (adr i)) (.ref (adr j))=some (i.sub j)
section
variable{K:PySem.W.Frag}{mg:Str->Option Value}{es:List Rf}{adr:Rf->Addr}(R:je K mg es adr){i j:Rf}
include R
theorem je.exc(hi:i∈es):qy K (adr i) vo "ValueError.__new__"=true:=by
 have e:=R.one i hi;unfold vx at e;simp only[gq]at e;exact e.1.1.1.1.1.1.1.1.1.1
theorem je.base(hi:i∈es):iP K (.ref (adr i)) (.type "BaseException")=some true:=by
 have e:=R.one i hi;unfold vx at e;simp only[gq,beq_iff_eq]at e;exact e.1.1.2
end
def zo(K:ax)(l:List (Rf×Addr)):Bool:=l.all λp=>vx K p.2&&l.all λq=>iP K (.ref p.2) (.ref q.2)==some (p.1.sub q.1)
def sf(l:List (Rf×Addr))(i:Rf):Addr:=(l.lookup i).getD 0
theorem lookup_mem{i:Rf}:∀{l:List (Rf×Addr)},i∈l.map (·.1)->(i,sf l i)∈l
 |(j,b)::l,h=>by
  unfold sf;by_cases e:i=j
  ·subst e;simp[List.lookup]
  ·have:(i==j)=false:=show _ by simpa using e
   rw[List.lookup,this];rcases br.mp h with z|z
   ·exact absurd z e
   ·exact .tail _ (lookup_mem (l:=l) z)
theorem Tv{K:ax}{mg:Str->Option Value}{l:List (Rf×Addr)}(h:zo K l=true)(hm:∀i∈l.map (·.1),mg i.nm=some (.ref (sf l i))):je K mg (l.map (·.1)) (sf l):=show _ by
 unfold zo at h;simp only[mK,gq,beq_iff_eq]at h;exact⟨hm,λi hi=>(h _ (lookup_mem hi)).1,λi hi j hj=>(h _ (lookup_mem hi)).2 _ (lookup_mem hj)⟩
section
variable{P:Program}{w:World}{K:PySem.W.Frag}{mg:Str->Option Value}{base:Heap}{x:Str}{st:Stmt}{N ps:List Str}{k:Nat}
theorem ay.vy{sp:aY}(C:ay P w K mg base k x ps sp):ay P w K mg base k x ps (λds S Q E=>sp ds S (λd S1=>∃S2,Sub S2 S1/\Q d S2) λC a S1=>∃S2,Sub S2 S1/\E C a S2):=show _ by
 obtain⟨f,fd,F0,r⟩:=C.ex;refine⟨f,fd,F0.imp λvs H Q E ⟨Z,ds,S,Q3,E3,h1,l,h3,cq,ce⟩=>⟨Z,ds,S,_,_,h1,l,h3,?_,?_⟩,r⟩
 ·rintro d S1 v H' k1 r1 l1 ⟨S2,hsub,q⟩;exact cq d S2 v H' k1 r1 (l1.sub hsub) q
 ·rintro C a S1 H' k1 l1 ha ⟨S2,hsub,q⟩;exact ce C a S2 H' k1 (l1.sub hsub) ha q
def vz(A:List D->ah->(D->Prop)->(Addr->Prop)->Prop):aY:=λds S Q W=>A ds S (λd=>Q d S) λC=>∀a,W C a S
def vA(A:List D->ah->(D->Addr->O->Prop)->(Addr->Prop)->Prop):aY:=λds S Q W=>A ds S (λd a o=>Q d (up S a o)) λC=>∀a,W C a S
theorem _root_.EE.aE.vz{A:List D->ah->(D->Prop)->(Addr->Prop)->Prop}(h:aE K mg x st ps)(S:bf N ps (av st))(len:∀ds S q qx,A ds S q qx->ds.length=ps.length)
 (hbody:∀(f:Addr) (cdv:Value) (Ar:Around) (outer:List Env) (s:Shared) (H:Hp) (E:XK) (ds:List D) (S:ah) (q:D->Prop) (qx:Addr->Prop),cP k (Ar.deeper (envOfC x (av st) s.heap.objs.size f cdv))->A ds S q qx ->
  ∃t,dz (dm (cC P w) P w K mg base N x (av st) f cdv Ar outer s H E) (λ_ C _ S'=>Sub S S'/\qx C) (a_ st) t/\t {nx:=λ_ S'=>Sub S S'/\q .non,rt:=λd S'=>Sub S S'/\q d} (eL N ds) S):ay P w K mg base (k+1) x ps (vz A):=show _ by
 have C:ay P w K mg base (k+1) x ps (λds S Q E=>∃q qx,A ds S q qx/\(∀d S',Sub S S'/\q d->Q d S')/\∀C a S',Sub S S'/\qx C->E C a S'):=by
  refine h.r8 S (λvs H Q E cU=>by obtain⟨q,qx,z,_⟩:=cU;exact len _ _ _ _ z) λf cdv Ar outer s H E ds S3 Q E3 hr ⟨q,qx,z,hq,hx⟩=>?_;obtain⟨t,h1,h2⟩:=hbody f cdv Ar outer s H E ds S3 _ _ hr z;exact⟨t,λd S'=>Sub S3 S'/\q d,λC _ S'=>Sub S3 S'/\qx C,h1,h2,hq,hx⟩
 exact C.vy.imp λds S Q E z=>⟨_,_,z,λd S1 hq=>⟨S,hq.1,hq.2⟩,λC a S1 hx=>⟨S,hx.1,hx.2 a⟩⟩
theorem _root_.EE.aE.vA{A:List D->ah->(D->Addr->O->Prop)->(Addr->Prop)->Prop}(h:aE K mg x st ps)(S:bf N ps (av st))(len:∀ds S q qx,A ds S q qx->ds.length=ps.length)
 (hbody:∀(f:Addr) (cdv:Value) (Ar:Around) (outer:List Env) (s:Shared) (H:Hp) (E:XK) (ds:List D) (S:ah) (q:D->Addr->O->Prop) (qx:Addr->Prop),cP k (Ar.deeper (envOfC x (av st) s.heap.objs.size f cdv))->A ds S q qx ->
  ∃t,dz (dm (cC P w) P w K mg base N x (av st) f cdv Ar outer s H E) (λ_ C _ S'=>Sub S S'/\qx C) (a_ st) t /\
   t {nx:=λ_ S'=>∃a o,Sub (up S a o) S'/\q .non a o,rt:=λd S'=>∃a o,Sub (up S a o) S'/\q d a o} (eL N ds) S):ay P w K mg base (k+1) x ps (vA A):=show _ by
 have C:ay P w K mg base (k+1) x ps (λds S Q E=>∃q qx,A ds S q qx/\(∀d S',(∃a o,Sub (up S a o) S'/\q d a o)->Q d S')/\∀C a S',Sub S S'/\qx C->E C a S'):=by
  refine h.r8 S (λvs H Q E eS=>by obtain⟨q,qx,z,_⟩:=eS;exact len _ _ _ _ z) λf cdv Ar outer s H E ds S3 Q E3 hr ⟨q,qx,z,hq,hx⟩=>?_;obtain⟨t,h1,h2⟩:=hbody f cdv Ar outer s H E ds S3 _ _ hr z;exact⟨t,λd S'=>∃a o,Sub (up S3 a o) S'/\q d a o,λC _ S'=>Sub S3 S'/\qx C,h1,h2,hq,hx⟩
 exact C.vy.imp λds S Q E z=>⟨_,_,z,λd S1 i9=>by obtain⟨a,o,hs,hq⟩:=i9;exact⟨_,hs,hq⟩,λC a S1 hx=>⟨S,hx.1,hx.2 a⟩⟩
end
theorem Tw:typeLookup (.type "list") "keys"=pure none:=by rw[xt,xu];kernel_rfl
theorem GQ:typeLookup (.type "list") "__getattr__"=pure none:=by rw[xt,xu];kernel_rfl
section
variable{prog:Program}{w:World}{A:Around}{E:Value->Shared->Prop}{a:Addr}{its:Array Value}{n:Nat}
theorem Tx(a:Addr)(u:Tok)(its:Array Value)(n:Nat):Meets (Builtin.«object.__getattribute__» ⟨[.ref a,.str "keys" u],[]⟩) (λA R s=>s.heap.get? a=some {cls:=.type "list",data:=.seq its n}/\raisesAttr (.ref a) "keys" A R s) :=
 Meets.of_wp λprog w A R s hs=>by
  obtain⟨hx,hs⟩:=hs;obtain⟨hp,g,d,tk,os⟩:=s;have hT:(⟨hp,g,d,tk,os⟩:Shared).TypeIs (.ref a) "list":=⟨_,hx,rfl⟩;have f4:=Tw;have f5:=GQ;unfold Builtin.«object.__getattribute__»
  repeat (any_goals (first|assumption|wp_step))
  exact wpAny_raiseAttrError hs.1 hs.2 (attrMsg_fits (by cbv) (by decide))
theorem Tz{s:Shared}{Q:Option Value->Shared->Prop}(hh:A.handled=none)(hx:s.heap.get? a=some {cls:=.type "list",data:=.seq its n})
 (h:∀h' tk,(∀b ob,s.heap.get? b=some ob->h'.get? b=some ob)->Q none {s with heap:=h',toks:=tk}):wpAny (model prog w) A (getAttr? (.ref a) "keys") Q E s:=show _ by
 obtain⟨hp,g,d,tk,os⟩:=s;have hT:∀(tk:Nat),(⟨hp,g,d,tk,os⟩:Shared).TypeIs (.ref a) "list":=λ_=>⟨_,hx,rfl⟩;have f1:=sub_AttributeError;have f3:=De.lookup;have f4:=De.bind (.ref a);have f5:=GQ;unfold getAttr? getAttrBy?
 repeat (any_goals (first|assumption|((with_reducible show wpAny _ _ (call (Value.builtin "list.__getattribute__") _ _) _ _ _);refine tY De (hT _) F.entry_list_ga (F.args_list_getattribute_2 _ _) (Tx a _ its n) ⟨hx,hh,λh' tk' e hx=>?_⟩)|wp_step))
 obtain⟨t',u',he⟩:=hx.there;show wpAny _ _ (getattributeRaised _ _ _ _ _ _ _) _ _ _;unfold getattributeRaised
 repeat (any_goals (first|assumption|wp_step))
 exact h _ _ hx.keeps
end
section
variable{prog:Program}{w:World}{A:Around}{E:Value->Shared->Prop}
theorem vB:plainId "dict.update.loop"=true:=by cbv
theorem GR:entryFor table "dict.update.loop"=some Builtin.«dict.update.loop»:=entryFor_of_fast (by kernel_rfl)
theorem TB:(Value.type "list" != Value.type "dict")=true:=by decide
end
section
variable{X:Cx}{W3:bX}
def TC(Q:K3)(x y:D)(S:ah):Prop:=(∃a kvs k,x=.ref a/\S a=some (.l0 kvs)/\y=kD k/\Q (.bl (!(Q8 kvs k).isSome)) S)∨∃ds,x=.tup ds/\jO y=true/\ds.all jO=true/\Q (.bl (!memD y ds)) S
def agA(ty td:aQ):aQ:=λσ S Q=>ty σ S λy S1=>td σ S1 λx S2=>TC Q x y S2
section
variable{σ:aL}{S:ah}{Q:K3}{te ta:aQ}
theorem TF{x:D}{ds:List D}(hx:jO x=true)(hd:ds.all jO=true)(q:Q (.bl (memD x ds)) S):va false x (.tup ds) S Q:=⟨ds,.inr rfl,hx,hd,q⟩
end
theorem GS{b:Bool}{A B:Prop}(h:b=true)(q:A):if b=true then A else B:=by rw[if_pos h];exact q
theorem GU{b:Bool}{A B:Prop}(h:b=false)(q:B):if b=true then A else B:=by rw[if_neg (by rw[h];exact cT)];exact q
end
theorem c9{n:Nat}(h:n<=1000000):n<=sizeLine:=b5 h (by decide)
theorem eU{n:Nat}(h:n<=1000000):n<sizeLine:=C6 h (by decide)
theorem kI{α:Type}{xs:List α}{i:Int}{v:α}(h0:0<=i)(h:xs[i.toNat]?=some v):cy xs i=some v:=by
 have e:i=((i.toNat:Nat):Int):=by lia
 rw[e];exact gA h
theorem TH{α:Type}{x:α}{xs:List α}:cy (x::xs) 0=some x:=gA (j:=0) rfl
theorem sg{n:Nat}{i:Int}{j:Nat}(h:i=(j:Int))(hj:j<n):gz n i=some j:=by
 subst h;unfold gz;rw[if_pos (by lia),if_pos (by lia)];simp
theorem GV{α:Type}{x:α}{xs:List α}:gz (x::xs).length 0=some 0:=sg rfl (by simp)
theorem kJ{xs:List D}{p:Int}(h0:0<=p):cutD xs none (some p)=xs.take p.toNat:=show _ by
 unfold cutD;have e:p=((p.toNat:Nat):Int):=by lia
 rw[e,HT.uD,HT.uE,t5,t6,<-e];by_cases h:p.toNat<=xs.length
 ·rw[xw h]
 ·rw[xx (by lia),ke (by lia),ke (by lia)]
theorem oU{xs:List D}{p:Int}(h0:0<=p):cutD xs (some p) none=xs.drop p.toNat:=show _ by
 unfold cutD;have e:p=((p.toNat:Nat):Int):=by lia
 rw[e,HT.uD,HT.uE,<-e];by_cases h:p.toNat<=xs.length
 ·rw[xw h,ke (by rw[fL];lia)]
 ·rw[xx (by lia),xy (a8 _),xy (by lia)];simp
theorem vC{cs:List Nat}{p:Int}(h0:0<=p):kB cs none (some p)=cs.take p.toNat:=show _ by
 unfold kB;have e:p=((p.toNat:Nat):Int):=by lia
 rw[e,HT.uD,HT.uE,t5,t6,<-e];by_cases h:p.toNat<=cs.length
 ·rw[xw h]
 ·rw[xx (by lia),ke (by lia),ke (by lia)]
theorem GW{cs:List Nat}{p:Int}(h0:0<=p):kB cs (some p) none=cs.drop p.toNat:=show _ by
 unfold kB;have e:p=((p.toNat:Nat):Int):=by lia
 rw[e,HT.uD,HT.uE,<-e];by_cases h:p.toNat<=cs.length
 ·rw[xw h,ke (by rw[fL];lia)]
 ·rw[xx (by lia),xy (a8 _),xy (by lia)];simp
def eV(x:Str):Prop:=∃cs:List Nat,x=textOf cs/\1<=cs.length/\cs.length<=8/\∀c∈cs,97<=c/\c<=122
theorem TJ{a b:List Nat}(h:textOf a=textOf b):a=b:=by
 have:=congrArg (λx:Str=>x.cps.toList) h;simpa[textOf]using this
theorem jR(cs:List Nat):(textOf cs).cps.toList=cs:=by simp[textOf]
theorem GX:("abcdefghijklmnopqrstuvwxyz":Str)=textOf (Df 97 26):=by cbv
theorem GY:("abcdefghijkl":Str)=textOf (Df 97 12):=by cbv
theorem vE:("abcd":Str)=textOf [97,98,99,100]:=by cbv
theorem GZ{n:Nat}{i:Int}(h0:0<=i)(h1:i<n):cy (Df 97 n) i=some (97+i.toNat):=by
 refine kI h0 ?_;rw[List.getElem?_range' (by lia)];simp
def g_(cs:List Nat)(p k:Nat):List Nat:=(cs.take p++[97+k])++cs.drop p
def jf(cs:List Nat)(k:Nat):List Nat:=cs.take 4++[97,98,99,100].take (k+1)
def oV(cs:List Nat)(k:Nat):List Nat:=[97,98,99,100].drop (3-k)++cs.take 4
def vF(cs:List Nat):Prop:=∀c∈cs,97<=c/\c<=122
structure Row(n:Nat)(xs:List Str):Prop where
 len:xs.length=n
 nd:xs.Nodup
 ok:∀x∈xs,eV x
theorem zp{n:Nat}{f:Nat->List Nat}(inj:∀i j,i<n->j<n->f i=f j->i=j)(ok:∀i,i<n->eV (textOf (f i))):Row n ((aZ n).map λk=>textOf (f k)):=show _ by
 refine⟨by simp,?_,λx hx=>?_⟩
 ·rw[MM,MN];have:=List.nodup_range (n:=n);rw[MM]at this;refine agz (λ{a b} ha hb hab e=>hab ?_) this;exact inj a b (gb.mp ha) (gb.mp hb) (TJ e)
 ·obtain⟨k,hk,rfl⟩:=bG.mp hx;exact ok k (gb.mp hk)
theorem TK{n p:Nat}{cs:List Nat}(hl:vF cs)(h7:cs.length<=7)(hn:n<=12):Row n ((aZ n).map λk=>textOf (g_ cs p k)):=show _ by
 refine zp (λi j hi hj e=>?_) λi hi=>⟨_,rfl,?_,?_,?_⟩
 ·unfold g_ at e;have e2:=List.append_inj_left' e rfl;have e3:=List.append_inj_right e2 rfl;simp at e3;exact e3
 ·simp[g_];lia
 ·simp only[g_,bx,dP,cK,fO,fL];lia
 ·intro c hc;simp only[g_,bF,cz]at hc;rcases hc with(hc|rfl)|hc
  ·exact hl c (lF hc)
  ·lia
  ·exact hl c (Dg hc)
theorem row2{n:Nat}{cs:List Nat}(hl:vF cs)(hn:n<=4):Row n ((aZ n).map λk=>textOf (jf cs k)):=show _ by
 refine zp (λi j hi hj e=>?_) λi hi=>⟨_,rfl,?_,?_,?_⟩
 ·have:=congrArg mG e;simp only[jf,bx,dP,cK,fO]at this;lia
 ·simp only[jf,bx,dP,cK,fO];lia
 ·simp only[jf,bx,dP,cK,fO];lia
 ·intro c hc;simp only[jf,bF]at hc;rcases hc with hc|hc
  ·exact hl c (lF hc)
  ·have:=lF hc;simp only[br,cG,or_false]at this;lia
theorem TL{n:Nat}{cs:List Nat}(hl:vF cs)(hn:n<=4):Row n ((aZ n).map λk=>textOf (oV cs k)):=show _ by
 refine zp (λi j hi hj e=>?_) λi hi=>⟨_,rfl,?_,?_,?_⟩
 ·have:=congrArg mG e;simp only[oV,bx,dP,fL,cK,fO]at this;lia
 ·simp only[oV,bx,dP,fL,cK,fO];lia
 ·simp only[oV,bx,dP,fL,cK,fO];lia
 ·intro c hc;simp only[oV,bF]at hc;rcases hc with hc|hc
  ·have:=Dg hc;simp only[br,cG,or_false]at this;lia
  ·exact hl c (lF hc)
theorem Row.turn{n t:Nat}{xs:List Str}(r:Row n xs):Row n (xs.drop t++xs.take t):=show _ by
 have e:=xA t xs;have pm:(xs.drop t++xs.take t).Perm xs:=by
  have:=List.perm_append_comm (l₁:=xs.drop t) (l₂:=xs.take t);rw[e]at this;exact this
 exact⟨pm.length_eq.trans r.len,pm.nodup_iff.mpr r.nd,λx hx=>r.ok x (pm.mem_iff.mp hx)⟩
inductive Sy where
 |name (x:Str)|b6|pair (a b:Sy)|left (a:Sy)|right (a:Sy)|fork (a b c:Sy)|send (x:Str) (as:List Sy)
mutual
def Sy.d:Sy->D
 | .name x=>.tup [.str "name",.str x]
 | .b6=>.tup [.str "bud"]
 | .pair a b=>.tup [.str "pair",a.d,b.d]
 | .left a=>.tup [.str "left",a.d]
 | .right a=>.tup [.str "right",a.d]
 | .fork a b c=>.tup [.str "fork",a.d,b.d,c.d]
 | .send x as=>.tup [.str "send",.str x,.tup (Sy.ds as)]
def Sy.ds:List Sy->List D
 |[]=>[]
 |a::as=>a.d::Sy.ds as
end
mutual
def Sy.deep:Sy->Nat
 | .name _=>1
 | .b6=>1
 | .pair a b=>max a.deep b.deep+1
 | .left a=>a.deep+1
 | .right a=>a.deep+1
 | .fork a b c=>max a.deep (max b.deep c.deep)+1
 | .send _ as=>Sy.dv as+1
def Sy.dv:List Sy->Nat
 |[]=>0
 |a::as=>max a.deep (Sy.dv as)
end
def Sy.parts:Sy->List Sy
 | .name _=>[]
 | .b6=>[]
 | .pair a b=>[a,b]
 | .left a=>[a]
 | .right a=>[a]
 | .fork a b c=>[a,b,c]
 | .send _ as=>as
mutual
def Sy.pre:Sy->List Sy
 | .name x=>[.name x]
 | .b6=>[.b6]
 | .pair a b=>.pair a b::(a.pre++b.pre)
 | .left a=>.left a::a.pre
 | .right a=>.right a::a.pre
 | .fork a b c=>.fork a b c::(a.pre++(b.pre++c.pre))
 | .send x as=>.send x as::Sy.bV as
def Sy.bV:List Sy->List Sy
 |[]=>[]
 |a::as=>a.pre++Sy.bV as
end
theorem Sy.m8(s:Sy):s.pre=s::Sy.bV s.parts:=by
 cases s<;>simp[Sy.pre,Sy.parts,Sy.bV]
theorem Sy.kK:∀as:List Sy,Sy.ds as=as.map Sy.d
 |[]=>rfl
 |a::as=>by simp only[Sy.ds,bT,Sy.kK as]
theorem Sy.zr:∀as bs:List Sy,Sy.bV (as++bs)=Sy.bV as++Sy.bV bs
 |[],bs=>by simp[Sy.bV]
 |a::as,bs=>by simp[Sy.bV,Sy.zr as bs]
mutual
def Sy.wf(ar:Str->Option Nat)(ps:List Str):Sy->Prop
 | .name x=>x∈ps
 | .b6=>True
 | .pair a b=>a.wf ar ps/\b.wf ar ps
 | .left a=>a.wf ar ps
 | .right a=>a.wf ar ps
 | .fork a b c=>a.wf ar ps/\b.wf ar ps/\c.wf ar ps
 | .send x as=>ar x=some as.length/\1<=as.length/\as.length<=4/\Sy.m9 ar ps as
def Sy.m9(ar:Str->Option Nat)(ps:List Str):List Sy->Prop
 |[]=>True
 |a::as=>a.wf ar ps/\Sy.m9 ar ps as
end
theorem Sy.zt{ar:Str->Option Nat}{ps:List Str}:∀{as:List Sy},Sy.m9 ar ps as↔∀a∈as,a.wf ar ps
 |[]=>by simp[Sy.m9]
 |a::as=>by simp[Sy.m9,Sy.zt (as:=as)]
theorem Sy.m_:∀{as:List Sy} {n:Nat},(∀a∈as,a.deep<=n)->Sy.dv as<=n
 |[],_,_=>eO _
 |a::as,n,h=>by
  simp only[Sy.dv];have h1:=h a cF;have h2:=Sy.m_ (as:=as) (n:=n) λb hb=>h b (cL _ hb);lia
theorem Sy.vG:∀{as:List Sy} {a:Sy},a∈as->a.deep<=Sy.dv as
 |b::as,a,h=>by
  simp only[Sy.dv];rcases br.mp h with rfl|h
  ·lia
  ·have:=Sy.vG h;lia
def Sy.sends(s:Sy):Nat:=(s.pre.filter λa=>match a with | .send _ _=>true|_=>false).length
def Sy.eB(as:List Sy):Nat:=((Sy.bV as).filter λa=>match a with | .send _ _=>true|_=>false).length
theorem Sy.kL(a:Sy)(as:List Sy):Sy.eB (a::as)=a.sends+Sy.eB as:=by simp[Sy.eB,Sy.sends,Sy.bV]
theorem Sy.TM(as bs:List Sy):Sy.eB (as++bs)=Sy.eB as+Sy.eB bs:=by simp[Sy.eB,Sy.zr]
def dq:List Str->List Nat->Str->Option Nat
 |x::xs,n::ns,y=>if y=x then some n else dq xs ns y
 |_,_,_=>none
theorem vH:∀{xs:List Str} {ns:List Nat} {i:Nat} {x:Str} {n:Nat},xs.Nodup->xs[i]?=some x->ns[i]?=some n->dq xs ns x=some n
 |[],_,_,_,_,_,h,_=>by simp at h
 |_::_,[],_,_,_,_,_,h=>by simp at h
 |y::xs,m::ns,0,x,n,_,h1,h2=>by
  simp at h1 h2;subst h1 h2;simp[dq]
 |y::xs,m::ns,i+1,x,n,nd,h1,h2=>by
  have hx:x∈xs:=bS (by simpa using h1);have hne:x≠y:=λz=>(kc.mp nd).1 (z▸hx);rw[dq,if_neg hne];exact vH (kc.mp nd).2 (by simpa using h1) (by simpa using h2)
structure Er where
 name:Str
 ps:List Str
 body:Sy
def Er.d(e:Er):D:=.tup [.str e.name,.tup (e.ps.map D.str),e.body.d]
end E3
namespace E3
open PySem PySem.Spec PyProof.Rows L2 EE
theorem sh{α:Type}{xs:List α}(c:Int)(h:0<xs.length):∃(j:Nat) (v:α),c%(xs.length:Int)=(j:Int)/\j<xs.length/\xs[j]?=some v:=show _ by
 have h0:=fc c (show(xs.length:Int)≠0 by lia);have h1:=n_ c (show(0:Int)<xs.length by lia);have hj:(c%(xs.length:Int)).toNat<xs.length:=by lia
 exact⟨(c%(xs.length:Int)).toNat,xs[(c%(xs.length:Int)).toNat],by lia,hj,aU hj⟩
theorem jS{α:Type}{f:α->D}{xs:List α}(c:Int)(h:0<xs.length):∃(j:Nat) (v:α),c%((xs.map f).length:Int)=(j:Int)/\xs[j]?=some v/\cy (xs.map f) (c%((xs.map f).length:Int))=some (f v):=show _ by
 obtain⟨j,v,e,hj,hv⟩:=sh (xs:=xs) c h;have e':c%((xs.map f).length:Int)=(j:Int):=by rw[az];exact e
 refine⟨j,v,e',hv,?_⟩;rw[e'];refine gA ?_;rw[aK,hv];rfl
theorem Sy.nc(s:Sy):s.sends=(match s with | .send _ _=>1|_=>0)+Sy.eB s.parts:=by
 cases s<;>simp[Sy.sends,Sy.eB,Sy.pre,Sy.parts,Sy.bV]<;>lia
def aR(prog:List Er):Str->Option Nat:=dq (prog.map Er.name) (prog.map λe=>e.ps.length)
theorem G0{aT:List Er}{names:List Str}{counts:List Nat}(h1:aT.map Er.name=names)(h2:(aT.map λe=>e.ps.length)=counts):aR aT=dq names counts:=by
 unfold aR;rw[h1,h2]
theorem G1{n c:Nat}{xs:List Str}(r:Row n xs)(hc:c<=n):(xs.take c).length=c/\(xs.take c).Nodup/\∀x∈xs.take c,eV x:=by
 refine⟨by rw[dP,r.len];lia,r.nd.sublist (Mk _ _),λx hx=>r.ok x (lF hx)⟩
def Sy.nm:Sy->Option Str
 | .send x _=>some x
 |_=>none
def Sy.TN(s:Sy):List Str:=s.pre.filterMap Sy.nm
def agB(prog:List Er):List (Str×Str):=(prog.map λe=>e.body.TN.map λto=>(e.name,to)).flatten
theorem si{ds:List Dt}{n:Nat}(h:∀d∈ds,cW d<=n):d_ ds<=n:=by
 induction ds with
 |nil=>simp[d_]
 |cons d r ih =>
  simp only[d_];have h1:=h d cF;have h2:=ih λe he=>h e (cL _ he);lia
end E3
namespace EE
open PySem PySem.Spec PyProof.Rows L2
def ng(X:Cx)(ifs:List Expr)(t:TT):Prop :=
 ∀(pins:List (Addr×Obj)) (s:Shared) (σ:L2.St) (H:Hp) (Q:Bool->Hp->Prop),Inv X pins σ H s->t σ H Q ->
  wpAny (model X.prog X.w) X.A (forIn ifs true λc r=>if r=true then do let ok <-isTrue c X.env (eval c X.env);pure (ForInStep.yield ok) else pure (ForInStep.yield r)) (TP X pins σ Q) X.xe s
def TQ:TT:=λ_ H Q=>Q true H
theorem TU{X:Cx}:ng X [] TQ:=λ_ _ _ _ _ I h=>wpAny_tests_nil ⟨_,I,h⟩
theorem TV{X:Cx}{c:Expr}{t:TT}(h:PT X c t):ng X [c] t:=λpins s σ H Q I q=>wpAny_tests_one (h pins s σ H Q I q)
def vI(wi:TI)(g:TG)(tt:TT)(te:TE)(n:Nat)(js:List Nat):TE:=λσ H Q=>wi σ H λJ H1=>∀D,H1 D=none->∃W:Nat->Nat->L2.St->Hp->Prop,(∃m,W 0 m (fK n none++pick σ js) (upd H1 D (.lst []))) /\
 ∀i m τ H2,W i m τ H2->(J.stop i H2/\Q (.ref D) H2)∨(J.go i H2/\∃N:L2.St->Hp->Prop,(∀bp H',N bp H'->∃m',m'<m/\W (i+1) m' bp H')/\∀v H',J.lU i H2 v H' ->
  g v τ H' λbp H3=>tt bp H3 λb H4=>if b=true then te bp H4 λy H5=>∃ys,H5 D=some (.lst ys)/\ys.length<sizeLine/\N bp (upd H5 D (.lst (ys++[y]))) else N bp H4)
section
variable{X:Cx}{elt iter tg:Expr}{ifs:List Expr}{pos:Pos}{scope:Scope}{O M:List Str}{js:List Nat}{wi:TI}{g:TG}{tt:TT}{te:TE}
theorem TX{prog:Program}{w:World}{A:Around}{R:Result->Shared->Prop}{s:Shared}{it acc:Value}{env:Env}(I:Nat->Shared->Prop)
 (turn:∀n s,I n s->wpAny (model prog w) A (pyNext it) (λr s₁=>match r with
  |none=>R (.ok .next) s₁
  |some v=>wpAny (model prog w) A (letOwnedTupleGo tg it v) (λ_ s₂=>wpAny (model prog w) A (assign tg env v) (λ_ s₃ =>
   wpAny (model prog w) A (forIn ifs true λc r=>if r=true then do let ok <-isTrue c env (eval c env);pure (ForInStep.yield ok) else pure (ForInStep.yield r)) (λok s₄ =>
    if ok=true then wpAny (model prog w) A (eval elt env) (λy s₅=>wpAny (model prog w) A (call (.builtin "list.append") [acc,y]) (λ_ s₆=>∃m,m<n/\I m s₆) (λ_ _=>False) s₅) (λ_ _=>False) s₄
    else ∃m,m<n/\I m s₄) (λ_ _=>False) s₃) (λ_ _=>False) s₂) (λ_ _=>False) s₁) (λ_ _=>False) s)
 (n:Nat) (h:I n s):codeAny (model prog w) A (.compLoop (.ListComp elt [⟨tg,iter,ifs,0⟩] scope pos) 0 it acc env) R s:=show _ by
 refine codeAny_loop rfl I (λn s hI=>?_) n h;show wpAny _ _ ((compTurn (.ListComp elt [⟨tg,iter,ifs,0⟩] scope pos) 0 it acc env).onRaise (λx=>do noteFrame x env;theTreesLotGoes x)) _ _ s;refine wpAny_noted ?_;rw[compTurn_list];refine ak (Ct (ak (fJ (turn n s hI) (λr s₁ h₁=>?_) λ_ _ z=>z.elim)));cases r with
 |none=>exact aF h₁
 |some v =>
  refine ak (fJ h₁ (λ_ s₂ h₂=>ak (fJ h₂ (λ_ s₃ h₃=>ak (fJ h₃ (λok s₄ h₄=>?_) λ_ _ z=>z.elim)) λ_ _ z=>z.elim)) λ_ _ z=>z.elim);cases ok with
  |false=>exact aF ⟨rfl,h₄⟩
  |true=>exact ak (ak (fJ h₄ (λy s₅ h₅=>ak (fJ h₅ (λ_ s₆ h₆=>aF (aF ⟨rfl,h₆⟩)) λ_ _ z=>z.elim)) λ_ _ z=>z.elim))
end
theorem vJ{X:Cx}{pins:List (Addr×Obj)}{σ:L2.St}{H:Hp}{s:Shared}{h':Heap}{t':Nat}{fp:List Addr}(I:Inv X pins σ H s)(k:∀b o,b∉fp->s.heap.get? b=some o->h'.get? b=some o)(hf:∀b∈fp,d8 X pins H b):Inv X pins σ H {s with heap:=h',toks:=t'}:=show _ by
 have lQ:∀b u,H b=some u->b∉fp:=λb u e z=>by
  rw[(hf b z).1]at e;cases e
 refine I.step (g':=s.gens) (d':=s.drawn) (ch:=fp) (λb hb=>?_) (λb o _ _ hc e _=>k b o hc e) (λb o _ _ hc e _=>⟨o.slots,k b o hc e⟩) (λ_ _ _ _ n=>n) (λb o hc e=>⟨o,k b o hc e⟩) (λ_ _ e=>e) (λ_ _ _ e=>e)
  (λb ps e=>⟨#[],by rw[e];simp⟩) (λm hm=>?_) (λb u e=>?_) I.bare
 ·obtain⟨f0,f1,f2,f3,f4,f5⟩:=hf b hb;exact⟨f3,f1,f4,f5⟩
 ·obtain⟨o,es,ep,ho,r⟩:=hm;exact⟨o,es,ep,k _ o (λz=>(hf _ z).2.1 rfl) ho,r⟩
 ·refine(I.hok b u e).stay (λc v hc q=>k c v ?_ q) (λ_ q=>q) λ_ _ q=>q;rcases hc with z|z
  ·rw[z];exact lQ b u e
  ·exact lQ c _ z
section
variable{prog:Program}{w:World}{A:Around}{E:Value->Shared->Prop}{s:Shared}
theorem vK{j t:Addr}{k:Nat}{its:Array Value}{x:Value}{Q:Value->Shared->Prop}(hj:s.heap.IsTupleIter j t k)(ht:s.heap.IsTuple t its)(hx:its[k]?=some x)
 (hQ:∀h',h'.IsTupleIter j t (k+1)->gc j s.heap h'->Q x {s with heap:=h'}):wpAny (model prog w) A (lH (.ref j)) Q E s:=show _ by
 obtain⟨ob,hob,hcl,hda⟩:=id hj;obtain⟨ot,hot,_,nt,hdt⟩:=ht;unfold lH;refine ak (jw (name:=ik "__next__") hj.typeIs xB (ig xB hj.typeIs MO ?_ (MP _)));show wpAny _ _ (field (.ref j) 0 >>= _) _ _ s;refine ak (d0 hob hda (x:=.ref t) rfl ?_);show wpAny _ _ (if(Value.ref t==Value.none)=true then _ else _) _ _ _;rw[if_neg (λz:(Value.ref t==Value.none)=true=>cT z)];show wpAny _ _ (field (.ref j) 1 >>= _) _ _ s;refine ak (d0 hob hda (x:=.int k 0) rfl ?_);show wpAny _ _ (seqItems? (.ref t) >>= _) _ _ _;refine ak (jr hot hdt ?_);simp only[fb,hx];refine ak (xC hob hda (by simp) (aF ⟨x,rfl,aF (hQ _ ⟨_,qu _ hob (MQ (xD hda _)),(MR ..).trans hcl,?_⟩ (xE ..))⟩));rw[xD hda];simp[rawInt]
theorem vL{j t:Addr}{k:Nat}{its:Array Value}{Q:Value->Shared->Prop}(hh:A.handled=none)(hj:s.heap.IsTupleIter j t k)(ht:s.heap.IsTuple t its)(hx:its[k]?=none)
 (hE:∀h' e,t8 j s.heap h'->(∃o,h'.get? e=some o/\o.cls=.type "StopIteration")->E (.ref e) {s with heap:=h'}):wpAny (model prog w) A (lH (.ref j)) Q E s:=show _ by
 obtain⟨ob,hob,hcl,hda⟩:=id hj;obtain⟨ot,hot,_,nt,hdt⟩:=ht;unfold lH;refine ak (jw (name:=ik "__next__") hj.typeIs xB (ig xB hj.typeIs MO ?_ (MP _)));show wpAny _ _ (field (.ref j) 0 >>= _) _ _ s;refine ak (d0 hob hda (x:=.ref t) rfl ?_);show wpAny _ _ (if(Value.ref t==Value.none)=true then _ else _) _ _ _;rw[if_neg (λz:(Value.ref t==Value.none)=true=>cT z)];show wpAny _ _ (field (.ref j) 1 >>= _) _ _ s;refine ak (d0 hob hda (x:=.int k 0) rfl ?_);show wpAny _ _ (seqItems? (.ref t) >>= _) _ _ _;refine ak (jr hot hdt ?_);simp only[fb,hx];refine ak (lr (ak (xC hob hda (by simp) ?_)));show wpAny _ _ (newExc (.type "StopIteration") [] >>= _) _ _ _;refine ak ?_;simp only[newExc,newTuple];refine ak (jy ?_ (by size_fits));refine ak (m:=firstArgMember _ _) (wpAny_of_eq (a:=Value.none) (by first|rfl|(simp only[firstArgMember];rfl)) (jy ?_ (by size_fits)));simp only[raiseNew];refine ak (wpAny_handled ?_)
 first
  |rw[show A.in1.handled=none from hh]
  |rw[hh]
 exact ak (aF (wpAny_throw (hE _ _ (((xE ..).extBut.push _).push _) ⟨_,du _ rfl,rfl⟩)))
end
section
variable{prog:Program}{w:World}{A:Around}{E:Value->Shared->Prop}{s:Shared}{z TI TO i1 i2 a b:Addr}{k:Nat}{xs ys:Array Value}{x y p q:Value}
structure ZN(z TI TO i1 i2:Addr):Prop where
 a:TI≠z
 b:TO≠z
 c:i1≠z
 d:i2≠z
 e:TI≠TO
 f:TI≠i1
 g:TI≠i2
 h:TO≠i1
 i:TO≠i2
 j:i1≠i2
structure ZA(z TO i1 i2 a:Addr):Prop where
 z:a≠z
 o:a≠TO
 i:a≠i1
 j:a≠i2
theorem jT{h h':Heap}{a c:Addr}{xs:Array Value}(x:h.IsTuple a xs)(e:t8 c h h')(n:a≠c):h'.IsTuple a xs:=by
 obtain⟨o,ho,r⟩:=x;exact⟨o,e _ _ n ho,r⟩
theorem TY{Q:Value->Shared->Prop}(N:ZN z TI TO i1 i2)(Na:ZA z TO i1 i2 a)(Nb:ZA z TO i1 i2 b)
 (hz:IsZip s.heap z TI TO .none) (hI:IsPair s.heap TI (.ref i1) (.ref i2)) (hO:IsPair s.heap TO p q) (h1:s.heap.IsTupleIter i1 a k) (h2:s.heap.IsTupleIter i2 b k) (ha:s.heap.IsTuple a xs) (hb:s.heap.IsTuple b ys) (hx:xs[k]?=some x) (hy:ys[k]?=some y)
 (hQ:∀h5 h8,h5.objs.size=s.heap.objs.size->(∀c o,c≠z->c≠TO->c≠i1->c≠i2->s.heap.get? c=some o->h5.get? c=some o)->IsPair h5 TO x y->h5.IsTupleIter i1 a (k+1)->h5.IsTupleIter i2 b (k+1) ->
  (∃o,h5.get? z=some o)->gc z (h5.push {cls:=.type "tuple",data:=.seq #[x,y]}) h8->IsZip h8 z TI TO (rawInt h5.objs.size)->Q (.ref h5.objs.size) {s with heap:=h8}) :
 wpAny (model prog w) A (Builtin.«zip.__next__» ⟨[.ref z],[]⟩) (λfin s'=>∃v,fin=.done (.ret v)/\Q v s') E s:=show _ by
 show wpAny _ _ (field (.ref z) 2 >>= _) _ _ s;refine ak (d0 hz rfl (x:=.bool false) rfl ?_);show wpAny _ _ (field (.ref z) 3 >>= _) _ _ s;refine ak (d0 hz rfl (x:=.ref TI) rfl (ak (jr hI rfl ?_)));show wpAny _ _ (qz (.ref z) >>= _) _ _ s;refine ak ?_;unfold qz;refine ak (d0 hz rfl (x:=.none) rfl (aF ?_));simp only[if_true];refine ak (lr (ak (d0 hz rfl (x:=.ref TO) rfl (ak (ip hz (by simp) λg1 hz1 e1=>?_)))));replace hz1:IsZip g1 z TI TO .ellipsis:=hz1;refine ak ?_;simp only[MS,MT,t7,xr];refine ak (ak (xF ?_));show wpAny _ _ (lH (.ref i1) >>= _) _ _ _;refine ak (vK (h1.extBut e1.extBut N.c) (jT ha e1.extBut Na.z) hx λg2 G2 e2=>aF ?_);have o2:IsPair g2 TO p q:=e2.extBut _ _ N.h (e1.extBut _ _ N.b hO);refine ak (jr o2 rfl (ak (Dh o2 λg3 o3 e3=>?_)));replace o3:IsPair g3 TO x q:=o3;refine ak (qA (aF (ak (ak (xF ?_)))));show wpAny _ _ (lH (.ref i2) >>= _) _ _ _;refine ak (vK (((h2.extBut e1.extBut N.d).extBut e2.extBut N.j.symm).extBut e3.extBut N.i.symm) (jT (jT (jT hb e1.extBut Nb.z) e2.extBut Nb.i) e3.extBut Nb.o) hy λg4 j4 e4=>aF ?_);have o4:IsPair g4 TO x q:=e4.extBut _ _ N.i o3;refine ak (jr o4 rfl (ak (Dh o4 λg5 o5 e5=>?_)));replace o5:IsPair g5 TO x y:=o5;refine ak (qA (aF (aF (ak (jr o5 rfl (ak (wpAny_newTuple ?_)))))));have hsz:g5.objs.size=s.heap.objs.size:=by rw[e5.1,e4.1,e3.1,e2.1,e1.1]
 have z5:IsZip g5 z TI TO .ellipsis:=e5.extBut _ _ N.b.symm (e4.extBut _ _ N.d.symm (e3.extBut _ _ N.b.symm (e2.extBut _ _ N.c.symm hz1)));show wpAny _ _ (t9 (.ref z) (.ref g5.objs.size) >>= _) _ _ _;refine ak ?_;unfold t9;have z6:IsZip (g5.push {cls:=.type "tuple",data:=.seq #[x,y]}) z TI TO .ellipsis:=bC _ z5;refine ak (ip z6 (by simp) λg7 z7 e7=>?_);replace z7:IsZip g7 z TI TO (rawInt g5.objs.size):=z7;refine ip z7 (by simp) λg8 z8 e8=>aF ⟨_,rfl,?_⟩;replace z8:IsZip g8 z TI TO (rawInt g5.objs.size):=z8;exact hQ g5 g8 hsz (λc o c1 c2 c3 c4 e=>e5.extBut _ _ c2 (e4.extBut _ _ c4 (e3.extBut _ _ c2 (e2.extBut _ _ c3 (e1.extBut _ _ c1 e))))) o5
  (((G2.extBut e3.extBut N.h.symm).extBut e4.extBut N.j).extBut e5.extBut N.h.symm) (j4.extBut e5.extBut N.i.symm) ⟨_,z5⟩ ⟨e8.1.trans e7.1,λc n=>(e8.2 c n).trans (e7.2 c n)⟩ z8
theorem TZ{Q:Fin->Shared->Prop}(hh:A.handled=none)(N:ZN z TI TO i1 i2)(Na:ZA z TO i1 i2 a)(Nb:ZA z TO i1 i2 b)
 (hz:IsZip s.heap z TI TO .none) (hI:IsPair s.heap TI (.ref i1) (.ref i2)) (hO:IsPair s.heap TO p q) (h1:s.heap.IsTupleIter i1 a k) (h2:s.heap.IsTupleIter i2 b k) (ha:s.heap.IsTuple a xs) (hb:s.heap.IsTuple b ys) (hend:xs[k]?=none∨ys[k]?=none)
 (hE:∀h' e,(∀c o,c≠z->c≠TO->c≠i1->c≠i2->s.heap.get? c=some o->h'.get? c=some o)->(∃o,h'.get? e=some o/\o.cls=.type "StopIteration")->E (.ref e) {s with heap:=h'}) :
 wpAny (model prog w) A (Builtin.«zip.__next__» ⟨[.ref z],[]⟩) Q E s:=show _ by
 show wpAny _ _ (field (.ref z) 2 >>= _) _ _ s;refine ak (d0 hz rfl (x:=.bool false) rfl ?_);show wpAny _ _ (field (.ref z) 3 >>= _) _ _ s;refine ak (d0 hz rfl (x:=.ref TI) rfl (ak (jr hI rfl ?_)));show wpAny _ _ (qz (.ref z) >>= _) _ _ s;refine ak ?_;unfold qz;refine ak (d0 hz rfl (x:=.none) rfl (aF ?_));simp only[if_true];refine ak (lr (ak (d0 hz rfl (x:=.ref TO) rfl (ak (ip hz (by simp) λg1 hz1 e1=>?_)))));replace hz1:IsZip g1 z TI TO .ellipsis:=hz1;refine ak ?_;simp only[MS,MT,t7,xr];refine ak (ak (xF ?_));show wpAny _ _ (lH (.ref i1) >>= _) _ _ _;cases hx:xs[k]? with
 |none =>
  refine ak (vL hh (h1.extBut e1.extBut N.c) (jT ha e1.extBut Na.z) hx λg2 e e2 ⟨oe,hoe,hce⟩=>?_);have z2:IsZip g2 z TI TO .ellipsis:=e2 _ _ N.c.symm hz1;have ez:e≠z:=λx=>by
   subst x;rw[z2]at hoe;cases hoe;simp at hce
  exact ip z2 (by simp) λg3 _ e3=>hE g3 e (λc o c1 _ c3 _ x=>e3.extBut _ _ c1 (e2 _ _ c3 (e1.extBut _ _ c1 x))) ⟨oe,e3.extBut _ _ ez hoe,hce⟩
 |some x =>
  have hy:ys[k]?=none:=by
   rcases hend with h|h
   ·rw[hx]at h;cases h
   ·exact h
  refine ak (vK (h1.extBut e1.extBut N.c) (jT ha e1.extBut Na.z) hx λg2 G2 e2=>aF ?_);have o2:IsPair g2 TO p q:=e2.extBut _ _ N.h (e1.extBut _ _ N.b hO);refine ak (jr o2 rfl (ak (Dh o2 λg3 o3 e3=>?_)));refine ak (qA (aF (ak (ak (xF ?_)))));show wpAny _ _ (lH (.ref i2) >>= _) _ _ _;refine ak (vL hh (((h2.extBut e1.extBut N.d).extBut e2.extBut N.j.symm).extBut e3.extBut N.i.symm) (jT (jT (jT hb e1.extBut Nb.z) e2.extBut Nb.i) e3.extBut Nb.o) hy λg4 e e4 ⟨oe,hoe,hce⟩=>?_);have z4:IsZip g4 z TI TO .ellipsis:=e4 _ _ N.d.symm (e3.extBut _ _ N.b.symm (e2.extBut _ _ N.c.symm hz1));have ez:e≠z:=λx=>by
   subst x;rw[z4]at hoe;cases hoe;simp at hce
  exact ip z4 (by simp) λg5 _ e5=>hE g5 e (λc o c1 c2 c3 c4 x=>e5.extBut _ _ c1 (e4 _ _ c4 (e3.extBut _ _ c2 (e2.extBut _ _ c3 (e1.extBut _ _ c1 x))))) ⟨oe,e5.extBut _ _ ez hoe,hce⟩
end
def zu (K:ax) (a b:Addr):It :=
  ⟨λi H=>∃xs ys x y,bz K H a xs∧bz K H b ys∧xs[i]?=some x∧ys[i]?=some y,
   λi H v H'=>∃T x y,v=.ref T∧H T=none∧H'=upd H T (.tup [x,y])∧(∀xs,bz K H a xs→xs[i]?=some x)∧∀ys,bz K H b ys→ys[i]?=some y,
   λi H=>∃xs ys,bz K H a xs∧bz K H b ys∧(xs.length≤i∨ys.length≤i)⟩
def ZT(z TI TO i1 i2 a b:Addr)(i:Nat)(h:Heap):Prop:=IsZip h z TI TO .none/\IsPair h TI (.ref i1) (.ref i2)/\(∃x y,IsPair h TO x y)/\h.IsTupleIter i1 a i/\h.IsTupleIter i2 b i
theorem T1{P:Program}{w:World}{K:ax}{es:List Expr}{kt:Nat}{tp:Pos}(z TI TO i1 i2 a b:Addr)(N:ZN z TI TO i1 i2)(Na:ZA z TO i1 i2 a)(Nb:ZA z TO i1 i2 b) :
 Turn P w K (.Tuple es kt tp) (zu K a b) [z,TI,TO,i1,i2] z (ZT z TI TO i1 i2 a b) where
 mem:=cF
 obj:=λi h st c hc=>by
  obtain⟨s1,s2,⟨x,y,s3⟩,⟨o4,s4,_,d4⟩,⟨o5,s5,_,d5⟩⟩:=st;simp only[br,cG,or_false]at hc;rcases hc with rfl|rfl|rfl|rfl|rfl
  ·exact⟨_,s1,λv e=>nomatch e⟩
  ·exact⟨_,s2,λv e=>nomatch e⟩
  ·exact⟨_,s3,λv e=>nomatch e⟩
  ·exact⟨_,s4,λv e=>by rw[d4]at e;cases e⟩
  ·exact⟨_,s5,λv e=>by rw[d5]at e;cases e⟩
 keep:=λi h h' st kk=>by
  obtain⟨s1,s2,⟨x,y,s3⟩,s4,s5⟩:=st;exact⟨kk z (by simp) _ s1,kk TI (by simp) _ s2,⟨x,y,kk TO (by simp) _ s3⟩,s4.at λo e=>kk i1 (by simp) o e,s5.at λo e=>kk i2 (by simp) o e⟩
 item:=show _ by
  intro X hP hw hK hc i pins s σ H E I hf st hg;subst hP hw hK;obtain⟨xs,ys,x,y,hq,hq',hx,hy⟩:=hg;obtain⟨its,rv,pt,hz⟩:=I.tuple hq;obtain⟨jts,rv',kM,hz'⟩:=I.tuple hq';obtain⟨u,hu,ru⟩:=rv.get hx;obtain⟨u',hu',T3⟩:=rv'.get hy;obtain⟨s1,s2,⟨p,q,s3⟩,s4,s5⟩:=st;have hT:s.TypeIs (.ref z) "zip":=⟨_,s1,rfl⟩;unfold pyNext;refine ak (qB (jw (name:=ik "__next__") hT xG (ig xG hT MU
   (TY N Na Nb s1 s2 s3 s4 s5 (show s.heap.IsTuple a its.toArray from pt) (show s.heap.IsTuple b jts.toArray from kM) (x:=u) (y:=u') (by simpa using hu) (by simpa using hu') λh5 h8 sz k5 o5 t1 t2 zz e8 z8=>aF ?_) (MV _))))
  refine⟨_,rfl,wpAny_letOwnedTupleGo_zip z8 λh9 z9 e9=>?_⟩;have fz:∀c o,s.heap.get? c=some o->c∉[z,TI,TO,i1,i2]->h5.get? c=some o:=λc o e n=>by
   simp only[br,cG,or_false,not_or]at n;exact k5 c o n.1 n.2.2.1 n.2.2.2.1 n.2.2.2.2 e
  have I5:Inv X pins σ H {s with heap:=h5}:=vJ (t':=s.toks) I (λc o n e=>fz c o e n) hf;have hfr:H h5.objs.size=none:=I5.hok.fresh (a8 _);have I6:Inv X pins σ (upd H h5.objs.size (.tup [x,y])) {s with heap:=h5.push {cls:=.type "tuple",data:=.seq #[u,u']}} :=
   I5.laid (t':=s.toks) (λb u e=>bC _ e) (a8 _) ⟨(by decide:2<=sizeLine),[u,u'],.cons ru (.cons T3 .nil),⟨_,du _ rfl,rfl,_,rfl⟩,λo q=>by rw[du _ rfl]at q;cases q;rfl⟩
  obtain⟨oz,T4⟩:=zz;have T5:z<h5.objs.size:=bq T4;obtain⟨f0,f1,f2,f3,f4,f5⟩:=hf z cF;have f0':upd H h5.objs.size (.tup [x,y]) z=none:=by rw[bo (dj T5)];exact f0
  have I8:Inv X pins σ (upd H h5.objs.size (.tup [x,y])) {s with heap:=h8}:=I6.turned (t':=s.toks) (λc o n e=>(e8.2 c n).trans e) f0' f1 f3 f4 f5;have I9:Inv X pins σ (upd H h5.objs.size (.tup [x,y])) {s with heap:=h9}:=I8.turned (t':=s.toks) (λc o n e=>(e9.2 c n).trans e) f0' f1 f3 f4 f5;have vM:∀c o,c≠z->h5.get? c=some o->h9.get? c=some o:=λc o n e=>(e9.2 c n).trans ((e8.2 c n).trans (bC _ e));refine⟨.ref h5.objs.size,_,I9,rfl,⟨_,x,y,rfl,hfr,rfl,λzs hy=>by rw[I.qM hy hq];exact hx,λzs hy'=>by rw[I.qM hy' hq'];exact hy⟩,
   ⟨z9,vM _ _ N.a (k5 _ _ N.a N.e N.f N.g s2),⟨_,_,vM _ _ N.b o5⟩,t1.at λo e=>vM _ o N.c e,t2.at λo e=>vM _ o N.d e⟩,λc hc=>?_⟩
  have cl:c<h5.objs.size:=by
   rw[sz];simp only[br,cG,or_false]at hc;obtain⟨o4,s4,_⟩:=s4;obtain⟨o5,s5,_⟩:=s5;rcases hc with rfl|rfl|rfl|rfl|rfl
   ·exact bq s1
   ·exact bq s2
   ·exact bq s3
   ·exact bq s4
   ·exact bq s5
  rw[bo (dj cl)];exact(hf c hc).1
 done:=by
  intro X hP hw hK hc i pins s σ H E I hf st hg;subst hP hw hK;obtain⟨xs,ys,hq,hq',hend⟩:=hg;obtain⟨its,rv,pt,hz⟩:=I.tuple hq;obtain⟨jts,rv',kM,hz'⟩:=I.tuple hq';have hl:=rv.length;have hl':=rv'.length;obtain⟨s1,s2,⟨p,q,s3⟩,s4,s5⟩:=st;have hT:s.TypeIs (.ref z) "zip":=⟨_,s1,rfl⟩;unfold pyNext;refine ak (qB (jw (name:=ik "__next__") hT xG (ig xG hT MU
   (TZ (I.ok.hd hc) N Na Nb s1 s2 s3 s4 s5 (show s.heap.IsTuple a its.toArray from pt) (show s.heap.IsTuple b jts.toArray from kM) ?_ λh' e kk ⟨oe,hoe,hce⟩=>?_) (MV _))))
  ·rcases hend with h|h
   ·exact .inl (by simp;lia)
   ·exact .inr (by simp;lia)
  ·refine ak (xa (T:="StopIteration") (b:=true) ⟨oe,hoe,hce⟩ Di (aF ⟨rfl,vJ (t':=s.toks) I (λc o n e=>?_) hf⟩));simp only[br,cG,or_false,not_or]at n;exact kk c o n.1 n.2.2.1 n.2.2.2.1 n.2.2.2.2 e
 self:=λ_ _ _ _ _ st h=>wpAny_pyIter_zip st.1 h
def zH(h:Heap)(a b:Addr):Heap:=((((h.push {cls:=.type "tuple_iterator",data:=.fields #[.ref a,.int 0 0]}).push {cls:=.type "tuple_iterator",data:=.fields #[.ref b,.int 0 0]}).push
 {cls:=.type "tuple",data:=.seq #[.ref h.objs.size,.ref (h.objs.size+1)]}).push {cls:=.type "tuple",data:=.seq #[.none,.none]}).push
 {cls:=.type "zip",data:=.fields #[.none,.bool false,.bool false,.ref (h.objs.size+2),.ref (h.objs.size+3)]}
theorem sj{h:Heap}{o:Obj}{n:Nat}(e:h.objs.size=n)(hf:o.isFreed=false:=by rfl):(h.push o).get? n=some o:=by
 rw[<-e];exact du _ hf
theorem zw(h:Heap)(a b:Addr):IsZip (zH h a b) (h.objs.size+4) (h.objs.size+2) (h.objs.size+3) .none:=sj (by simp[jz])
theorem T6(h:Heap)(a b:Addr):IsPair (zH h a b) (h.objs.size+2) (.ref h.objs.size) (.ref (h.objs.size+1)):=bC _ (bC _ (sj (by simp[jz])))
theorem T7(h:Heap)(a b:Addr):IsPair (zH h a b) (h.objs.size+3) .none .none:=bC _ (sj (by simp[jz]))
theorem T8(h:Heap)(a b:Addr):(zH h a b).IsTupleIter h.objs.size a 0:=⟨_,bC _ (bC _ (bC _ (bC _ (sj rfl)))),rfl,rfl⟩
theorem T9(h:Heap)(a b:Addr):(zH h a b).IsTupleIter (h.objs.size+1) b 0:=⟨_,bC _ (bC _ (bC _ (sj (by simp[jz])))),rfl,rfl⟩
theorem T_{h:Heap}{a b c:Addr}{o:Obj}(e:h.get? c=some o):(zH h a b).get? c=some o :=
 bC _ (bC _ (bC _ (bC _ (bC _ e))))
theorem Ua(a b:Addr)(xs ys:Array Value):Meets (Builtin.«zip.__new__» ⟨[.type "zip",.ref a,.ref b],[]⟩) (λ_ R s=>s.heap.IsTuple a xs/\s.heap.IsTuple b ys/\R (.ok (.ret (.ref (s.heap.objs.size+4)))) {s with heap:=zH s.heap a b}) :=
 .of_wp λprog w A R s h=>by
  obtain⟨hp,g,d,tk,os⟩:=s;obtain⟨ha,hb,h⟩:=h;have hsub:=sub_zip;have ha':Dj (Dk ⟨hp,g,d,tk,os⟩) a xs:=ha;have hb':Dj (Dk ⟨hp.push {cls:=.type "tuple_iterator",data:=.fields #[.ref a,.int 0 0]},g,d,tk,os⟩) b ys:=show _ by
   obtain⟨o,e,r⟩:=hb;exact⟨o,bC _ e,r⟩
  wp_walk using qq ha',qq hb'
  refine⟨_,rfl,?_⟩;simp only[jz];exact h
section
variable{X:Cx}{es:List Expr}{kt:Nat}{tp:Pos}
theorem Ub{prog:Program}{w:World}{A:Around}{E:Value->Shared->Prop}{s:Shared}{a b:Addr}{xs ys:Array Value}{Q:Value->Shared->Prop}(ha:s.heap.IsTuple a xs)(hb:s.heap.IsTuple b ys)(h:Q (.ref (s.heap.objs.size+4)) {s with heap:=zH s.heap a b}) :
 wpAny (model prog w) A (call (.type "zip") [.ref a,.ref b]) Q E s:=show _ by
 refine callType_new PySem.F.called_zip (by decide) (PySem.F.typeCall_zip_2 _ _) (PySem.F.newCall_zip_2 _ _) (λobj=>PySem.F.args_object_init_3 obj _ _) PySem.F.entry_zip_new (Ua a b xs ys) ⟨ha,hb,?_⟩;show _/\_;exact⟨⟨_,zw s.heap a b,rfl⟩,h⟩
def Uc(K:ax)(ta:TA):TI:=λσ H R=>ta σ H λvs H1=>∃a b,vs=[.ref a,.ref b]/\(∃xs,bz K H1 a xs)/\(∃ys,bz K H1 b ys)/\R (zu K a b) H1
theorem Ud{a b:Expr}{ta:TA}{p pos:Pos}(hg:Gl X "zip")(hm:X.mg "zip"=none)(ha:PA X [a,b] ta)(hs:starEach [a,b] X.env=[(false,eval a X.env),(false,eval b X.env)])(hs2:starEach [b] X.env=[(false,eval b X.env)]) :
 PI X (.Tuple es kt tp) (.Call (.Name "zip" p) [a,b] [] pos) (Uc X.K ta):=show _ by
 intro pins s σ H R I h;refine Call_ (jD I hg hm boot_zip (mE (aO (ha pos pins s σ H _ I h) λus s1 ⟨vs,H1,I1,r1,q1⟩=>?_) (by rw[hs,hs2]) (by rw[hs2];rfl)));obtain⟨x,y,e,⟨xs,hx⟩,⟨ys,hy⟩,q⟩:=q1;subst e;obtain⟨u,u',rfl,r,r'⟩:=vals2 r1;cases r;cases r';obtain⟨its,rv,pt,_⟩:=I1.tuple hx;obtain⟨jts,rv',kM,_⟩:=I1.tuple hy;refine Ub (show s1.heap.IsTuple x its.toArray from pt) (show s1.heap.IsTuple y jts.toArray from kM) (wpAny_pyIter_zip (zw s1.heap x y) ?_);have lx:x<s1.heap.objs.size:=by
  obtain⟨o,e,_⟩:=pt;exact bq e
 have ly:y<s1.heap.objs.size:=by
  obtain⟨o,e,_⟩:=kM;exact bq e
 have I2:Inv X pins σ H1 {s1 with heap:=zH s1.heap x y}:=I1.kept (t':=s1.toks) λ_ _ e=>T_ e;have nd:∀(i j:Nat),i≠j->s1.heap.objs.size+i≠s1.heap.objs.size+j:=λi j h e=>h (Nat.add_left_cancel e);have nx:∀{c:Addr} (i:Nat),c<s1.heap.objs.size->c≠s1.heap.objs.size+i:=λi h=>dj (dO h (t_ _ _));refine⟨s1.heap.objs.size+4,[s1.heap.objs.size+4,s1.heap.objs.size+2,s1.heap.objs.size+3,s1.heap.objs.size,s1.heap.objs.size+1],_,_,H1,rfl,I2,
  T1 _ _ _ _ _ x y ⟨nd 2 4 (by decide),nd 3 4 (by decide),nd 0 4 (by decide),nd 1 4 (by decide),nd 2 3 (by decide),nd 2 0 (by decide),nd 2 1 (by decide),nd 3 0 (by decide),nd 3 1 (by decide),nd 0 1 (by decide)⟩ ⟨nx 4 lx,nx 3 lx,nx 0 lx,nx 1 lx⟩ ⟨nx 4 ly,nx 3 ly,nx 0 ly,nx 1 ly⟩,
  ⟨zw ..,T6 ..,⟨_,_,T7 ..⟩,T8 ..,T9 ..⟩,λc hc=>?_,q⟩
 have cl:s1.heap.objs.size<=c:=by
  simp only[br,cG,or_false]at hc;rcases hc with rfl|rfl|rfl|rfl|rfl
  ·exact t_ _ _
  ·exact t_ _ _
  ·exact t_ _ _
  ·exact a8 _
  ·exact t_ _ _
 exact I1.lV cl (I1.hok.fresh cl)
end
end EE
namespace E3
open PySem PySem.Spec PyProof.Rows L2 EE
def zy(K:ax)(g:eo):TG:=λv τ H Q=>∃Z:Zt,lG K Z g v τ H Q
def sk(K:ax)(t:cJ):TT:=λτ H Q=>∃Z:Zt,lT K Z t τ H Q
theorem gE.ex{X:Cx}{e:Expr}{g:eo}(h:gE X dw e g):PG X e (zy X.K g):=λpins s σ H v u Q I r cU=>by obtain⟨Z,q⟩:=cU;exact h (ZX.no X Z) pins s σ H v u Q I r q
theorem eG.ex{X:Cx}{e:Expr}{t:cJ}(h:eG X dw e t):PT X e (sk X.K t):=λpins s σ H Q I eS=>by obtain⟨Z,q⟩:=eS;exact h (ZX.no X Z) pins s σ H Q I q
def jg(X:Cx)(ifs:List Expr)(t:cJ):Prop:=ng X ifs (sk X.K t)
theorem jg.ex{X:Cx}{ifs:List Expr}{t:cJ}(h:jg X ifs t):ng X ifs (sk X.K t):=h
def md:cJ:=λ_ S Q=>Q true S
theorem dU{X:Cx}:jg X [] md:=λpins s σ H Q I i9=>by obtain⟨Z,_,S,_,_,hr,ht,hc⟩:=i9;exact TU pins s σ H Q I (hc true S H (Kp.refl _ _) hr ht)
theorem Ue{X:Cx}{c:Expr}{t:cJ}(h:eG X dw c t):jg X [c] t:=TV h.ex
def sm(n:Nat)(g:eo)(Sh:D->aL->Prop):Prop:=∀d ρ,Sh d ρ->ρ.length=n/\∀fT S Q,Q (ρ++fT) S->g d (fK n none++fT) S Q
def jU:D->aL->Prop:=λd ρ=>ρ=[some d]
def zA:D->aL->Prop:=λd ρ=>∃a b,d=.tup [a,b]/\ρ=[some a,some b]
theorem vN:sm 1 (jL 0) jU:=λd ρ h=>by
 cases h;exact⟨rfl,λfT S Q q=>q⟩
theorem Ug:sm 2 (u7 2 (oD (jL 0) (oD (jL 1) u5))) zA:=λd ρ h=>by
 obtain⟨a,b,rfl,rfl⟩:=h;exact⟨rfl,λfT S Q q=>⟨_,rfl,rfl,a,_,rfl,b,_,rfl,rfl,q⟩⟩
def jV(wi:fi)(Sh:D->aL->Prop)(tt:cJ)(te:aQ)(js:List Nat):aQ:=λσ S Q=>wi σ S λds Al S1=>∃W:Nat->List D->ah->Prop,W 0 [] S1/\(∀i ys S,W i ys S->Al S/\ys.length<sizeLine) /\
 (∀i d ys S,ds[i]?=some d->W i ys S->∃ρ,Sh d ρ/\tt (ρ++dH σ js) S λb S2=>if b=true then te (ρ++dH σ js) S2 λy S3=>W (i+1) (ys++[y]) S3 else W (i+1) ys S2)/\∀ys S,W ds.length ys S->cQ S ys Q
theorem SR.blank{K:ax}{H:Hp}{r:aL}:∀{ρ:aL} {τ:L2.St},SR K H (ρ++r) τ->SR K H (fK ρ.length none++r) τ
 |[],_,h=>h
 |_::ρ,_,.cons _ t=>.cons (λd e=>by cases e) (SR.blank (ρ:=ρ) t)
theorem vO{K:ax}{Z:Zt}{wi:fi}{Sh:D->aL->Prop}{g:eo}{tt:cJ}{te:aQ}{n:Nat}{js:List Nat}{τ:L2.St}{H:Hp}{Q:VK}(hsh:sm n g Sh)(h:lE K Z (jV wi Sh tt te js) τ H Q) :
 vI (lI K Z wi) (zy K g) (sk K tt) (za K te) n js τ H Q:=show _ by
 obtain⟨σ,S,Q3,hs,hr,ht,hc⟩:=h;refine⟨σ,S,_,hs,hr,ht,λds Al S1 J H1 k1 l1 q1 wk=>?_⟩;intro p hp;obtain⟨W,w0,al,turn,done⟩:=q1;obtain⟨hsp,oW⟩:=l1.fresh hp;have kp:Kp Z H1 (upd H1 p (.lst [])):=Kp.new hp oW;have Uh:SR K (upd H1 p (.lst [])) (fK n none++dH σ js) (fK n none++pick τ js):=jK (SR.nones n) ((hs.mono (k1.trans kp)).picks js);refine⟨λi m bp H'=>m=ds.length-i/\i<=ds.length/\SR K H' (fK n none++dH σ js) bp/\∃ys vs S',Kp Z H1 H'/\H' p=some (.lst vs)/\a7 K H' ys vs/\S' p=none/\Rl K Z S' H'/\W i ys S',
  ⟨ds.length,by simp,eO _,Uh,[],[],S1,kp,eP,.nil,hsp,l1.lay hp,w0⟩,?_⟩
 rintro i m bp H2 ⟨rfl,hi,Ui,ys,vs,S2,k2,hp2,ry,hs2,l2,w2⟩;obtain⟨G3,hz⟩:=al _ _ _ w2;by_cases hlt:i<ds.length
 ·have hd:ds[i]?=some ds[i]:=aU hlt;obtain⟨go,yl⟩:=wk.go i _ S2 H2 k2 l2 G3 hd;refine .inr ⟨go,λbp H'=>i<ds.length/\SR K H' (fK n none++dH σ js) bp/\∃ys vs S',Kp Z H1 H'/\H' p=some (.lst vs)/\a7 K H' ys vs/\S' p=none/\Rl K Z S' H'/\W (i+1) ys S',
   λbp H' z=>⟨ds.length-(i+1),by lia,rfl,z.1,z.2⟩,λv H3 y=>?_⟩
  obtain⟨k3,rv,l3,o3⟩:=yl v H3 y;have hp3:H3 p=some (.lst vs):=(o3 p (by rw[hp2];simp)).trans hp2;obtain⟨ρ,so,step⟩:=turn i _ ys S2 hd w2;obtain⟨hn,hg⟩:=hsh _ ρ so;refine⟨Z.hide H3 p,ds[i],_,S2,λσ' S'=>σ'=ρ++dH σ js/\S'=S2,rv,Ui.mono k3,(l3 _ l2).hide hs2 (by rw[hp3];simp),hg _ _ _ ⟨rfl,rfl⟩,?_⟩;rintro FD S4 y_ H4 k4 vP l4 ⟨rfl,rfl⟩;refine⟨Z.hide H3 p,_,_,_,vP,l4,step,?_⟩;intro b S5 H5 k5 l5 q5;have G4:∀{S6:ah} {H6:Hp},Kp (Z.hide H3 p) H4 H6->Rl K (Z.hide H3 p) S6 H6->H6 p=some (.lst vs)/\Kp Z H3 H6/\Rl K Z S6 H6/\S6 p=none:=λ{S6 H6} k6 l6=>by
   have kk:=(k4.trans k6).fk (Z:=Z) λa z=>.inl z;exact⟨((k4.trans k6).hid p (.inr rfl)).trans hp3,kk,l6.fk (Z:=Z) (λa z=>.inl z) ((l3 _ l2).old.trans kk),(l6.hid p (.inr rfl)).1⟩
  have bl:∀{H6:Hp},SR K H6 (ρ++dH σ js) y_->SR K H6 (fK n none++dH σ js) y_:=λ{H6} z=>by
   have:=SR.blank z;rw[hn]at this;exact this
  cases b with
  |false =>
   rw[if_neg cT];obtain⟨su,kk,Uj,Uk⟩:=G4 k5 l5;exact⟨hlt,bl (vP.mono k5),ys,vs,S5,k2.trans (k3.trans kk),su,ry.mono (k3.trans kk),Uk,Uj,q5⟩
  |true =>
   rw[if_pos rfl];refine⟨Z.hide H3 p,_,S5,_,vP.mono k5,l5,q5,?_⟩;intro d S6 w H6 k6 r6 l6 q6;obtain⟨zB,G5,zC,G6⟩:=G4 (k5.trans k6) l6;have kk:Kp Z H6 (upd H6 p (.lst (vs++[w]))):=by
    refine⟨λb xs e=>?_,λb q u e=>?_,λb z=>?_⟩
    ·rw[bo];exact e;rintro rfl;rw[zB]at e;cases e
    ·rw[bo];exact e;rintro rfl;rw[zB]at e;cases e
    ·rw[bo];rintro rfl;exact oW z
   have hlen:ys.length=vs.length:=ry.len;refine⟨vs,zB,by lia,hlt,bl ((vP.mono (k5.trans k6)).mono kk),ys++[d],vs++[w],S6,k2.trans (k3.trans (G5.trans kk)),eP,(ry.mono (k3.trans (G5.trans kk))).append (.cons (r6.mono kk) .nil),G6,
    ⟨λb u e=>(zC.obj b u e).keep kk (bo (ne3 e G6)),λb z=>?_,zC.old.trans kk⟩,q6⟩
   have hb:b≠p:=λe=>oW (e▸z);rw[bo hb];exact zC.hid b z
 ·have e:i=ds.length:=by lia
  subst e;refine .inl ⟨wk.stop S2 H2 k2 l2 G3,?_⟩;refine hc (.ref p) (up S2 p (.lst ys)) (.ref p) H2 (k1.trans k2) (.ref p) ⟨λb u e=>?_,λb z=>?_,l2.old⟩ (done ys S2 w2 p hs2)
  ·by_cases hb:b=p
   ·subst hb;rw[ao]at e;cases e;exact⟨vs,hp2,ry⟩
   ·rw[a9 hb]at e;exact l2.obj b u e
  ·have hb:b≠p:=λe=>oW (e▸z);rw[a9 hb];exact l2.hid b z
section
variable{σ:aL}{S:ah}{Q:K3}{wi:fi}{js:List Nat}{tt:cJ}{te:aQ}{Sh:D->aL->Prop}
theorem Ul(h:wi σ S λds Al S1=>∃W:Nat->List D->ah->Prop,W 0 [] S1/\(∀i ys S,W i ys S->Al S/\ys.length<sizeLine) /\
 (∀i d ys S,ds[i]?=some d->W i ys S->∃ρ,Sh d ρ/\tt (ρ++dH σ js) S λb S2=>if b=true then te (ρ++dH σ js) S2 λy S3=>W (i+1) (ys++[y]) S3 else W (i+1) ys S2)/\∀ys S,W ds.length ys S->cQ S ys Q):jV wi Sh tt te js σ S Q:=h
theorem zD{ds:List D}{Al:ah->Prop}{S1:ah}(p:Nat->Bool)(f:Nat->D)(hz:ds.length<=100000)(hA:Al S1)
 (h:∀i d,ds[i]?=some d->∃ρ,Sh d ρ/\(∀P:Bool->ah->Prop,P (p i) S1->tt (ρ++dH σ js) S1 P)/\(p i=true->∀P:K3,P (f i) S1->te (ρ++dH σ js) S1 P)) (q:cQ S1 (((aZ ds.length).filter p).map f) Q) :
 ∃W:Nat->List D->ah->Prop,W 0 [] S1/\(∀i ys S,W i ys S->Al S/\ys.length<sizeLine) /\
 (∀i d ys S,ds[i]?=some d->W i ys S->∃ρ,Sh d ρ/\tt (ρ++dH σ js) S λb S2=>if b=true then te (ρ++dH σ js) S2 λy S3=>W (i+1) (ys++[y]) S3 else W (i+1) ys S2)/\∀ys S,W ds.length ys S->cQ S ys Q:=show _ by
 refine⟨λi ys S=>i<=ds.length/\ys=((aZ i).filter p).map f/\S=S1,⟨eO _,rfl,rfl⟩,?_,?_,?_⟩
 ·rintro i ys S ⟨hi,rfl,rfl⟩;refine⟨hA,?_⟩;rw[az];have:=Dl p (aZ i);rw[tZ]at this;exact eU (b5 this (b5 hi (b5 hz (by decide))))
 ·rintro i d ys S hd ⟨hi,rfl,rfl⟩;obtain⟨ρ,so,h1,h2⟩:=h i d hd;have hi':=(bO.mp hd).1;refine⟨ρ,so,h1 _ ?_⟩;cases c:p i with
  |true =>
   rw[if_pos rfl];refine h2 c _ ⟨hi',?_,rfl⟩;rw[ua,xH,cA];simp[c]
  |false =>
   rw[if_neg (by decide)];refine⟨hi',?_,rfl⟩;rw[ua,xH,cA];simp[c]
 ·rintro ys S ⟨_,rfl,rfl⟩;exact q
theorem G7{n:Nat}{f:Nat->D}:((aZ n).filter λ_=>true).map f=(aZ n).map f:=by rw[List.filter_eq_self.mpr λ_ _=>rfl]
theorem vQ{d:D}{P:aL->Prop}(h:P [some d]):∃ρ,jU d ρ/\P ρ:=⟨_,rfl,h⟩
theorem G8{a b:D}{P:aL->Prop}(h:P [some a,some b]):∃ρ,zA (.tup [a,b]) ρ/\P ρ:=⟨_,⟨a,b,rfl,rfl⟩,h⟩
theorem vR{P:Bool->ah->Prop}(h:P true S):md σ S P:=h
end
def jW(as bs:List D):List D:=(as.zip bs).map λp=>.tup [p.1,p.2]
def G9(ta:cX):fi:=λσ S R=>ta σ S λxs S1=>∃as bs,xs=[.tup as,.tup bs]/\R (jW as bs) (λ_=>True) S1
theorem Um{K:ax}{Z:Zt}{a b:Addr}{xs ys:List V}{as bs:List D}{H1:Hp}(h1:bz K H1 a xs)(r1:a7 K H1 as xs)(h2:bz K H1 b ys)(r2:a7 K H1 bs ys):Wk K Z (zu K a b) (jW as bs) (λ_=>True) H1:=show _ by
 constructor
 ·intro i d S H k l _ hd;unfold jW at hd;rw[aK]at hd;obtain⟨p,hp,rfl⟩:=bW.mp hd;obtain⟨ha,hb⟩:=MW.mp hp;obtain⟨x,hx,rx⟩:=r1.at ha;obtain⟨y,hy,ry⟩:=r2.at hb;refine⟨⟨xs,ys,x,y,k.i6 h1,k.i6 h2,hx,hy⟩,?_⟩;rintro v H' ⟨T,x',y',rfl,hT,rfl,fx,fy⟩;have ex:x'=x:=by
   have:=fx _ (k.i6 h1);rw[hx]at this;exact(dN this).symm
  have ey:y'=y:=by
   have:=fy _ (k.i6 h2);rw[hy]at this;exact(dN this).symm
  subst ex ey;obtain⟨_,hz⟩:=l.fresh hT;have kn:Kp Z H (upd H T (.tup [x',y'])):=Kp.new hT hz;exact⟨kn,.tup eP (.cons (rx.mono (k.trans kn)) (.cons (ry.mono (k.trans kn)) .nil)),λS' l'=>l'.lay hT,λb hb=>bo λe=>hb (e▸hT)⟩
 ·intro S H k l _;refine⟨xs,ys,k.i6 h1,k.i6 h2,?_⟩;have e1:=r1.len;have e2:=r2.len;simp only[jW,az,List.length_zip];lia
section
variable{X:Cx}{W3:bX}{es:List Expr}{kt:Nat}{tp pos p:Pos}{a b:Expr}{ta:cX}{σ:aL}{S:ah}{R:RI}{al:cX}
theorem Uo(hg:Gl X "zip")(hm:X.mg "zip"=none)(ha:fD X W3 [a,b] ta)(hs:starEach [a,b] X.env=[(false,eval a X.env),(false,eval b X.env)]:=by rfl)(hs2:starEach [b] X.env=[(false,eval b X.env)]:=by rfl) :
 fW X W3 (.Tuple es kt tp) (.Call (.Name "zip" p) [a,b] [] pos) (G9 ta):=λZ=>PI.imp (Ud hg hm (ha Z) hs hs2) λτ H R iT=>by
 obtain⟨σ,S,R3,hs,hr,ht,hc⟩:=iT;refine⟨σ,S,_,hs,hr,ht,λds S1 vs H1 k1 r1 l1 q1=>?_⟩;obtain⟨as,bs,rfl,q⟩:=q1;cases r1 with
 |cons ra rr =>
  cases rr with
  |cons rb rn =>
   cases rn;cases ra with
   |tup h1 h2 =>
    cases rb with
    |tup h3 h4=>exact⟨_,_,rfl,⟨_,h1⟩,⟨_,h3⟩,hc (jW as bs) _ S1 _ H1 k1 l1 q (Um h1 h2 h3 h4)⟩
def G_(R:RI)(xs:List D)(S:ah):Prop:=∃as bs,xs=[.tup as,.tup bs]/\R (jW as bs) (λ_=>True) S
theorem Up(h:al σ S λxs S1=>G_ R xs S1):G9 al σ S R:=h
theorem Uq{as bs:List D}(q:R (jW as bs) (λ_=>True) S):G_ R [.tup as,.tup bs] S:=⟨as,bs,rfl,q⟩
end
end E3
namespace EE
open PySem PySem.Spec PyProof.Rows L2
theorem rp:∀{ns:List Int} {us:List Value},Vals (ns.map V.int) us->∃ps:List (Int×Tok),us=ps.map (λp=>.int p.1 p.2)/\ps.map (·.1)=ns
 |[],_,.nil=>⟨[],rfl,rfl⟩
 |n::ns,_,.cons r t=>by
  obtain⟨tk,rfl⟩:=r;obtain⟨ps,rfl,e⟩:=rp t;exact⟨(n,tk)::ps,rfl,by rw[bT,e]⟩
theorem zE:∀{bs:List Bool} {us:List Value},Vals (bs.map V.bl) us->us=bs.map Value.bool
 |[],_,.nil=>rfl
 |b::bs,_,.cons r t=>by
  cases r;rw[zE t];rfl
section
variable{X:Cx}
theorem Ur(hc:X.calm=true):fg X (.builtin "max") (λxs H Q=>∃(a:Addr) (ns:List Int),xs=[.ref a]/\bc X.K H a (ns.map V.int)/\ns≠[]/\∀M,M∈ns->(∀b∈ns,b<=M)->Q (.int M) H):=show _ by
 intro pins s σ H xs us Q I r h;obtain⟨a,ns,rfl,hq,hne,q⟩:=h;obtain⟨u,rfl,r1⟩:=vals1 r;cases r1;obtain⟨its,rv,p,hz⟩:=I.list hq;obtain⟨ps,rfl,rfl⟩:=rp rv;have hl:0<ps.length:=by
  cases ps with
  |nil=>exact absurd rfl hne
  |cons _ _=>simp
 have num:∀(j:Nat) (hj:j<ps.length),numAt ps.toArray j=(ps[j]).1:=λj hj=>by simp[numAt,hj]
 refine max_intList (xs:=ps.toArray) (I.ok.hd hc) (by have:=p.isList;simpa[intItems]using this) (by simpa using hl) λv h' tk hv k=>?_;obtain⟨t,rfl⟩:=intItems_at hv;have best:=argBest_gt (numAt ps.toArray) (ps.toArray.size-1);have hsz:ps.toArray.size=ps.length:=by simp
 have hlt:argBest (λi j=>decide (numAt ps.toArray i>numAt ps.toArray j)) (ps.toArray.size-1)<ps.length:=by lia
 refine⟨.int (numAt ps.toArray (argBest (λi j=>decide (numAt ps.toArray i>numAt ps.toArray j)) (ps.toArray.size-1))),H,I.kept k,⟨t,rfl⟩,q _ ?_ λb hb=>?_⟩
 ·rw[num _ hlt];exact bG.mpr ⟨_,kf hlt,rfl⟩
 ·obtain⟨p,hp,rfl⟩:=bG.mp hb;obtain⟨j,hj,rfl⟩:=gO hp;have:=best.2 j (by lia);rw[num j hj]at this;exact this
theorem Us(hc:X.calm=true):fg X (.builtin "max") (λxs H Q=>∃i j k,xs=[.int i,.int j,.int k]/\Q (.int (max (max i j) k)) H):=show _ by
 intro pins s σ H xs us Q I r h;obtain⟨i,j,k,rfl,q⟩:=h;cases r with
 |cons r1 rr =>
  obtain⟨u,w',rfl,⟨t',rfl⟩,⟨t'',rfl⟩⟩:=vals2 rr;obtain⟨t,rfl⟩:=r1;refine max_three_ints (I.ok.hd hc) λh' tk kk=>⟨_,H,I.kept kk,?_,q⟩;by_cases h1:j>i
  ·rw[if_pos h1];by_cases h2:k>j
   ·rw[if_pos h2,show max (max i j) k=k by lia];exact⟨_,rfl⟩
   ·rw[if_neg h2,show max (max i j) k=j by lia];exact⟨_,rfl⟩
  ·rw[if_neg h1];by_cases h2:k>i
   ·rw[if_pos h2,show max (max i j) k=k by lia];exact⟨_,rfl⟩
   ·rw[if_neg h2,show max (max i j) k=i by lia];exact⟨_,rfl⟩
theorem range_all(bs:List Bool):((aZ bs.length).all λi=>bs.getD i true)=bs.all id:=show _ by
 rw[fv,mK,mK];constructor
 ·intro h b hb;obtain⟨j,hj,rfl⟩:=gO hb;have:=h j (gb.mpr hj);rw[bJ,aU hj]at this;exact this
 ·intro h j hj;have hj':=gb.mp hj;rw[bJ,aU hj'];exact h _ (kf hj')
theorem range_any(bs:List Bool):((aZ bs.length).any λi=>bs.getD i true)=bs.any id:=show _ by
 rw[fv,kg,kg];constructor
 ·rintro⟨j,hj,h⟩;have hj':=gb.mp hj;rw[bJ,aU hj']at h;exact⟨_,kf hj',h⟩
 ·rintro⟨b,hb,h⟩;obtain⟨j,hj,rfl⟩:=gO hb;refine⟨j,gb.mpr hj,?_⟩;rw[bJ,aU hj];exact h
theorem G'{prog:Program}{w:World}{A:Around}{bs:List Bool}:TruthOf prog w A (λi v=>(bs.map Value.bool).toArray[i]?=some v) (λi=>bs.getD i true):=show _ by
 intro i v s Q E hP hQ;rw[List.getElem?_toArray,aK]at hP;obtain⟨b,hb,rfl⟩:=bW.mp hP;dsimp only at hQ;rw[bJ,hb]at hQ;exact j_ hQ
theorem Ha(hc:X.calm=true):fg X (.builtin "all") (λxs H Q=>∃(a:Addr) (bs:List Bool),xs=[.ref a]/\bc X.K H a (bs.map V.bl)/\Q (.bl (bs.all id)) H):=show _ by
 intro pins s σ H xs us Q I r h;obtain⟨a,bs,rfl,hq,q⟩:=h;obtain⟨u,rfl,r1⟩:=vals1 r;cases r1;obtain⟨its,rv,p,hz⟩:=I.list hq;obtain rfl:=zE rv;have pl:=p.isList;have hlt:a<s.heap.objs.size:=by
  obtain⟨_,e,_⟩:=pl;exact bq e
 refine call_all_walk (xc pl ⟨_,_,_,_,_,_,_,rfl,Walks.list (A:=X.A.in1) (I.ok.hd hc) s.heap.objs.size a (dj hlt) (bs.map Value.bool).toArray,⟨⟨_,du _ rfl,rfl,rfl⟩,pl.push _⟩,G',λh' tk hk=>?_⟩);have hz:(bs.map Value.bool).toArray.size=bs.length:=by simp
 rw[hz,range_all];refine⟨.bl _,H,I.kept λb o e=>hk b o (λhm=>?_) (bC _ e),rfl,q⟩;have e1:b=s.heap.objs.size:=by simpa using hm
 exact absurd (bq e) (by rw[e1];exact ju _)
theorem zF(hc:X.calm=true):fg X (.builtin "any") (λxs H Q=>∃(a:Addr) (bs:List Bool),xs=[.ref a]/\bc X.K H a (bs.map V.bl)/\Q (.bl (bs.any id)) H):=show _ by
 intro pins s σ H xs us Q I r h;obtain⟨a,bs,rfl,hq,q⟩:=h;obtain⟨u,rfl,r1⟩:=vals1 r;cases r1;obtain⟨its,rv,p,hz⟩:=I.list hq;obtain rfl:=zE rv;have pl:=p.isList;have hlt:a<s.heap.objs.size:=by
  obtain⟨_,e,_⟩:=pl;exact bq e
 refine call_any_walk (xc pl ⟨_,_,_,_,_,_,_,rfl,Walks.list (A:=X.A.in1) (I.ok.hd hc) s.heap.objs.size a (dj hlt) (bs.map Value.bool).toArray,⟨⟨_,du _ rfl,rfl,rfl⟩,pl.push _⟩,G',λh' tk hk=>?_⟩);have hz:(bs.map Value.bool).toArray.size=bs.length:=by simp
 rw[hz,range_any];refine⟨.bl _,H,I.kept λb o e=>hk b o (λhm=>?_) (bC _ e),rfl,q⟩;have e1:b=s.heap.objs.size:=by simpa using hm
 exact absurd (bq e) (by rw[e1];exact ju _)
end
end EE
namespace E3
open PySem PySem.Spec PyProof.Rows L2 EE
section
variable{K:PySem.W.Frag}
theorem Ut{H:Hp}{ns:List Int}{vs:List V}(h:a7 K H (ns.map D.int) vs):vs=ns.map V.int:=show _ by
 induction ns generalizing vs with
 |nil=>cases h;rfl
 |cons n ns ih =>
  rw[bT]at h;cases h with
  |cons h t=>cases h;rw[ih t];rfl
theorem Uu{H:Hp}{bs:List Bool}{vs:List V}(h:a7 K H (bs.map D.bl) vs):vs=bs.map V.bl:=show _ by
 induction bs generalizing vs with
 |nil=>cases h;rfl
 |cons n ns ih =>
  rw[bT]at h;cases h with
  |cons h t=>cases h;rw[ih t];rfl
def Hb:List D->ah->K3->Prop:=λxs S Q=>∃(x:D) (ns:List Int),xs=[x]/\IsL S x (ns.map D.int)/\ns≠[]/\∀M,M∈ns->(∀b∈ns,b<=M)->Q (.int M) S
theorem Uv:fV K Hb (λxs H Q=>∃(a:Addr) (ns:List Int),xs=[.ref a]/\bc K H a (ns.map V.int)/\ns≠[]/\∀M,M∈ns->(∀b∈ns,b<=M)->Q (.int M) H):=show _ by
 intro Z ds S Q3 vs H Q r l h c;obtain⟨x,ns,rfl,hx,hne,q⟩:=h;cases r with
 |cons r rr =>
  cases rr;obtain⟨a,ws,rfl,h1,h2⟩:=hx.down r l;rw[Ut h2]at h1;exact⟨a,ns,rfl,h1,hne,λM h3 h4=>c _ S _ H (Kp.refl _ _) (.int _) l (q M h3 h4)⟩
def Hc:List D->ah->K3->Prop:=λxs S Q=>∃i j,xs=[.int i,.int j]/\Q (.int (if j>i then j else i)) S
theorem Hd:fV K Hc (λxs H Q=>∃i j,xs=[.int i,.int j]/\Q (.int (if j>i then j else i)) H):=show _ by
 intro Z ds S Q3 vs H Q r l h c;obtain⟨i,j,rfl,q⟩:=h;cases r with
 |cons r rr =>
  cases rr with
  |cons r' rr =>
   cases rr;cases r;cases r';exact⟨i,j,rfl,c _ S _ H (Kp.refl _ _) (.int _) l q⟩
def He:List D->ah->K3->Prop:=λxs S Q=>∃i j k,xs=[.int i,.int j,.int k]/\Q (.int (max (max i j) k)) S
theorem Uw:fV K He (λxs H Q=>∃i j k,xs=[.int i,.int j,.int k]/\Q (.int (max (max i j) k)) H):=show _ by
 intro Z ds S Q3 vs H Q r l h c;obtain⟨i,j,k,rfl,q⟩:=h;cases r with
 |cons r rr =>
  cases rr with
  |cons r' rr =>
   cases rr with
   |cons r'' rr =>
    cases rr;cases r;cases r';cases r'';exact⟨i,j,k,rfl,c _ S _ H (Kp.refl _ _) (.int _) l q⟩
def Hf(f:List Bool->Bool):List D->ah->K3->Prop:=λxs S Q=>∃(x:D) (bs:List Bool),xs=[x]/\IsL S x (bs.map D.bl)/\Q (.bl (f bs)) S
theorem sv{f:List Bool->Bool}:fV K (Hf f) (λxs H Q=>∃(a:Addr) (bs:List Bool),xs=[.ref a]/\bc K H a (bs.map V.bl)/\Q (.bl (f bs)) H):=show _ by
 intro Z ds S Q3 vs H Q r l h c;obtain⟨x,bs,rfl,hx,q⟩:=h;cases r with
 |cons r rr =>
  cases rr;obtain⟨a,ws,rfl,h1,h2⟩:=hx.down r l;rw[Uu h2]at h1;exact⟨a,bs,rfl,h1,c _ S _ H (Kp.refl _ _) (.bl _) l q⟩
def zG(r r':R3)(ta tb tc:aQ):aQ:=λσ S Q=>ta σ S λx S1=>tb σ S1 λy S2=>r x y S2 λz S3=>∃k,z=.bl k/\(if k=true then tc σ S3 λu S4=>r' y u S4 Q else Q (.bl false) S3)
theorem Ux{Z:Zt}{r r':R2}{r3 r3':R3}{ta tb tc:aQ}{τ:L2.St}{H:Hp}{Q:VK}(hd:cY K r3 r)(hd':cY K r3' r')(h:lE K Z (zG r3 r3' ta tb tc) τ H Q):D_ r r' (lE K Z ta) (lE K Z tb) (lE K Z tc) τ H Q:=show _ by
 obtain⟨σ,S,Q3,hs,hr,ht,hc⟩:=h;refine⟨σ,S,_,hs,hr,ht,λx S1 v H1 k1 r1 l1 q1=>⟨σ,S1,_,hs.mono k1,l1,q1,λy S2 w H2 k2 r2 l2 q2=>?_⟩⟩;refine hd Z x y S2 _ v w H2 _ (r1.mono k2) r2 l2 q2 λz S3 u H3 k3 r3 l3 q3=>?_;obtain⟨k,rfl,q3⟩:=q3;cases r3;refine⟨k,rfl,?_⟩;cases k with
 |false =>
  rw[if_neg cT]at q3 ⊢;exact hc (.bl false) S3 _ H3 (k1.trans (k2.trans k3)) (.bl false) l3 q3
 |true =>
  rw[if_pos rfl]at q3 ⊢;exact⟨σ,S3,_,hs.mono (k1.trans (k2.trans k3)),l3,q3,λu S4 u' H4 k4 r4 l4 q4=>hd' Z y u S4 _ w u' H4 _ (r2.mono (k3.trans k4)) r4 l4 q4 (hc.mono (k1.trans (k2.trans (k3.trans k4))))⟩
end
section
variable{X:Cx}{W3:bX}{a b c:Expr}{ta tb tc:aQ}{pos:Pos}{op op':CmpOp}{r r':R2}{r3 r3':R3}
theorem Uy(ho:cj X (compareOp op) r)(hd:cY X.K r3 r)(ho':cj X (compareOp op') r')(hd':cY X.K r3' r')(ha:aM X W3 a ta)(hb:aM X W3 b tb)(hc:aM X W3 c tc)(hm:lastMarks [op,op'] [b,c]=false:=by with_unfolding_all rfl) :
 eG X W3 (.Compare a [op,op'] [b,c] pos) (i7 (zG r3 r3' ta tb tc)):=λZ=>PT.imp (Pq ho ho' (ha Z) (hb Z) (hc Z) hm) λ_ _ _ h=>uZ (λ_ _ _ h=>Ux hd hd' h) h
end
section
variable{σ:aL}{S:ah}{Q:K3}{ta tb tc:aQ}{r r':R3}
theorem Uz(h:ta σ S λx S1=>tb σ S1 λy S2=>r x y S2 λz S3=>∃k,z=.bl k/\(if k=true then tc σ S3 λu S4=>r' y u S4 Q else Q (.bl false) S3)):zG r r' ta tb tc σ S Q:=h
theorem UA{a:Addr}{ns:List Int}(hS:S a=some (.lst (ns.map D.int)))(hn:ns≠[])(q:∀M,M∈ns->(∀b∈ns,b<=M)->Q (.int M) S):Hb [.ref a] S Q:=⟨_,ns,rfl,.inl ⟨a,rfl,hS⟩,hn,q⟩
theorem UB{i j:Int}(q:Q (.int (if j>i then j else i)) S):Hc [.int i,.int j] S Q:=⟨i,j,rfl,q⟩
theorem UC{i j k:Int}(q:Q (.int (max (max i j) k)) S):He [.int i,.int j,.int k] S Q:=⟨i,j,k,rfl,q⟩
theorem sy{f:List Bool->Bool}{a:Addr}{bs:List Bool}(hS:S a=some (.lst (bs.map D.bl)))(q:Q (.bl (f bs)) S):Hf f [.ref a] S Q:=⟨_,bs,rfl,.inl ⟨a,rfl,hS⟩,q⟩
end
def Hg(c:cJ)(t u:cB):cB:=rO c t u
theorem jh{X:Cx}{W3:bX}{c:Expr}{a b:List Stmt}{tc:cJ}{t u:cB}{pos:Pos}(hc:eG X W3 c tc)(ha:dz X W3 a t)(hb:dz X W3 b u):fh X W3 (.If c a b pos) (Hg tc t u):=bN hc ha hb
theorem iE{tc:cJ}{t u:cB}{n:aL->ah->Prop}{rt:K3}{bk ct:aL->ah->Prop}{σ:aL}{S:ah}(Mid:aL->ah->Prop)(h1:∀n':aL->ah->Prop,(∀σ S,Mid σ S->n' σ S)->rO tc t u ⟨n',rt,bk,ct⟩ σ S)
 (h2:∀σ S,Mid σ S->n σ S):Hg tc t u ⟨n,rt,bk,ct⟩ σ S:=h1 n h2
def jn(a b:Int):Int:=if a=0∨b=0 then 0 else if b>a then b else a
abbrev cI:=List (List Int)
def at2(B:cI)(j k:Nat):Int:=(B.getD j []).getD k 0
def eX(f:Nat->Int)(n:Nat):Int:=(aZ n).foldl (λacc j=>max acc (f j)) 0
def dot(row:List Int)(B:cI)(k:Nat):Int:=eX (λj=>jn (row.getD j 0) (at2 B j k)) row.length
def iF(A B:cI):cI:=A.map λrow=>(aZ (B.headD []).length).map λk=>dot row B k
structure Mt(m n:Nat)(A:cI):Prop where
 len:A.length=m
 row:∀r∈A,r.length=n
 num:∀r∈A,∀x∈r,0<=x/\x<=2
theorem zI{f:Nat->Int}{t:Int}:∀(l:List Nat) (z:Int),t<=l.foldl (λacc j=>max acc (f j)) z↔t<=z∨∃j∈l,t<=f j
 |[],z=>by simp
 |j::l,z=>by
  rw[n8,zI l];constructor
  ·rintro(h|⟨i,hi,h⟩)
   ·rcases Int.le_total z (f j) with c|c
    ·rw[Int.max_eq_right c]at h;exact .inr ⟨j,cF,h⟩
    ·rw[Int.max_eq_left c]at h;exact .inl h
   ·exact .inr ⟨i,cL _ hi,h⟩
  ·rintro(h|⟨i,hi,h⟩)
   ·exact .inl (by lia)
   ·rcases br.mp hi with rfl|hi
    ·exact .inl (by lia)
    ·exact .inr ⟨i,hi,h⟩
theorem Hh{f:Nat->Int}{n:Nat}{t:Int}(ht:1<=t):t<=eX f n↔∃j,j<n/\t<=f j:=show _ by
 unfold eX;rw[zI];constructor
 ·rintro(h|⟨j,hj,h⟩)
  ·lia
  ·exact⟨j,gb.mp hj,h⟩
 ·rintro⟨j,hj,h⟩;exact .inr ⟨j,gb.mpr hj,h⟩
theorem zJ{f:Nat->Int}{n:Nat}:0<=eX f n:=by
 unfold eX;rw[zI];exact .inl (xI _)
theorem Hi{f:Nat->Int}{n:Nat}{t:Int}(h0:0<=t)(h:∀j,j<n->f j<=t):eX f n<=t:=show _ by
 rcases Int.lt_or_le t (eX f n) with c|c
 ·obtain⟨j,hj,q⟩:=(Hh (show 1<=t+1 by lia)).mp (show t+1<=eX f n by lia);have:=h j hj;lia
 ·exact c
theorem UD{f:Nat->Int}{n:Nat}{M:Int}(h0:∀j,j<n->0<=f j)(hm:M∈(aZ n).map f)(hb:∀b∈(aZ n).map f,b<=M):M=eX f n:=show _ by
 obtain⟨j,hj,rfl⟩:=bG.mp hm;have hj:=gb.mp hj;have a:eX f n<=f j:=Hi (h0 j hj) λi hi=>hb _ (bG.mpr ⟨i,gb.mpr hi,rfl⟩);have b:f j<=eX f n:=by
  rcases Int.lt_or_le (f j) 1 with c|c
  ·exact Int.le_trans (show f j<=0 by lia) zJ
  ·exact(Hh c).mpr ⟨j,hj,xI _⟩
 lia
theorem UE{f:Nat->Int}{n:Nat}:eX f (n+1)=max (eX f n) (f n):=by
 unfold eX;rw[ua,List.foldl_append];rfl
theorem UG{a b:Int}(ha:0<=a)(hb:0<=b):0<=jn a b:=by
 unfold jn
 split
 ·exact xI _
 ·split<;>lia
theorem UH{a b:Int}(ha:a<=2)(hb:b<=2):jn a b<=2:=by
 unfold jn
 split
 ·decide
 ·split<;>lia
theorem getD_mem{l:List Int}{j:Nat}(h:j<l.length):l.getD j 0∈l:=by
 rw[bJ,aU h];exact kf h
theorem oX{l:cI}{j:Nat}(h:j<l.length):l.getD j []∈l:=by
 rw[bJ,aU h];exact kf h
theorem vT{row:List Int}(h:∀x∈row,0<=x/\x<=2)(j:Nat):0<=row.getD j 0/\row.getD j 0<=2:=by
 by_cases hj:j<row.length
 ·exact h _ (getD_mem hj)
 ·rw[bJ,dh (by lia)];exact⟨by decide,by decide⟩
theorem Mt.at{m n:Nat}{B:cI}(h:Mt m n B)(j k:Nat):0<=at2 B j k/\at2 B j k<=2:=by
 unfold at2;by_cases hj:j<B.length
 ·exact vT (h.num _ (oX hj)) k
 ·rw[bJ (l:=B),dh (by lia)];simp
theorem UI{m n:Nat}{B:cI}{row:List Int}(h:Mt m n B)(hr:∀x∈row,0<=x/\x<=2)(k:Nat):0<=dot row B k/\dot row B k<=2 :=
 ⟨zJ,Hi (by decide) λj _=>UH (vT hr j).2 (h.at j k).2⟩
theorem Mt.head{m n:Nat}{B:cI}(h:Mt m n B)(hm:0<m):(B.headD []).length=n:=by
 cases B with
 |nil =>
  have:=h.len;simp at this;lia
 |cons r _=>exact h.row r cF
theorem Mt.cmp{m n p:Nat}{A B:cI}(hA:Mt m n A)(hB:Mt n p B)(hn:0<n):Mt m p (iF A B):=show _ by
 refine⟨by rw[iF,az];exact hA.len,λr hr=>?_,λr hr x hx=>?_⟩
 ·obtain⟨row,_,rfl⟩:=bG.mp hr;rw[az,tZ,hB.head hn]
 ·obtain⟨row,hrow,rfl⟩:=bG.mp hr;obtain⟨k,_,rfl⟩:=bG.mp hx;exact UI hB (hA.num row hrow) k
def bg(r:List Int):D:=.tup (r.map D.int)
def eC(A:cI):D:=.tup (A.map bg)
def c_(f t:Str)(A:cI):D:=.tup [.str f,.str t,eC A]
theorem UJ{x a b:Int}:memD (.int x) [.int a,.int b]=decide (a=x∨b=x):=by
 rw[fv];simp[memD,inV,vD,iY]
theorem ji(r:List Int):D.gH (r.map D.int)=true:=D.l9.mpr λd hd=>by
 obtain⟨x,_,rfl⟩:=bG.mp hd;rfl
theorem jj(r:List Int):d_ (D.cR (r.map D.int))<=1:=by
 rw[D.jN];refine si λd hd=>?_;obtain⟨e,he,rfl⟩:=bG.mp hd;obtain⟨x,_,rfl⟩:=bG.mp he;simp[D.dt,cW]
theorem UK(f t:Str)(A:cI):(c_ f t A).pure=true:=by
 have h:D.gH (A.map bg)=true:=D.l9.mpr λd hd=>by
  obtain⟨r,_,rfl⟩:=bG.mp hd;simp only[bg,D.pure];exact ji r
 simp only[c_,eC,D.pure,D.gH,h,nU]
theorem UL(f t:Str)(A:cI):cW (c_ f t A).dt<=10:=show _ by
 have h:d_ (D.cR (A.map bg))<=3:=by
  rw[D.jN];refine si λd hd=>?_;obtain⟨e,he,rfl⟩:=bG.mp hd;obtain⟨r,_,rfl⟩:=bG.mp he;have:=jj r;simp only[bg,D.dt,cW];lia
 simp only[c_,eC,D.dt,D.cR,cW,d_];lia
section
variable{S:ah}{Q:K3}{f t:Str}{A:cI}{r:List Int}{R:RI}
theorem UM(q:Q (.str f) S):kE (c_ f t A) (.int 0) S Q:=⟨_,0,_,rfl,rfl,rfl,q⟩
theorem UN(q:Q (.int (A.length:Int)) S):oJ [eC A] S Q:=⟨_,A.map bg,rfl,.inr rfl,by rw[az];exact q⟩
theorem UO(q:Q (.int (r.length:Int)) S):oJ [bg r] S Q:=⟨_,r.map D.int,rfl,.inr rfl,by rw[az];exact q⟩
theorem UP(q:R (A.map bg) (λ_=>True) S):zg R (eC A) S:=⟨_,rfl,q⟩
theorem sA{k:Nat}{i:Int}(e:i=(k:Int))(hk:k<A.length)(q:Q (bg (A.getD k [])) S):kE (eC A) (.int i) S Q:=by
 subst e;refine⟨A.map bg,_,_,rfl,rfl,gA ?_,q⟩;rw[aK,bJ,aU hk];rfl
theorem sC{k:Nat}{i:Int}(e:i=(k:Int))(hk:k<r.length)(q:Q (.int (r.getD k 0)) S):kE (bg r) (.int i) S Q:=by
 subst e;refine⟨r.map D.int,_,_,rfl,rfl,gA ?_,q⟩;rw[aK,bJ,aU hk];rfl
end
section
variable{P:Program}{w:World}{K:PySem.W.Frag}{mg:Str->Option Value}{base:Heap}{x:Str}{st:Stmt}{N ps:List Str}{k:Nat}
def oY(A:List D->ah->(List D->Prop)->(Addr->Prop)->Prop):aY:=λds S Q W=>A ds S (λys=>cQ S ys Q) λC=>∀a,W C a S
theorem _root_.EE.aE.oY{A:List D->ah->(List D->Prop)->(Addr->Prop)->Prop}(h:aE K mg x st ps)(S:bf N ps (av st))(len:∀ds S q qx,A ds S q qx->ds.length=ps.length)
 (hbody:∀(f:Addr) (cdv:Value) (Ar:Around) (outer:List Env) (s:Shared) (H:Hp) (E:XK) (ds:List D) (S:ah) (q:List D->Prop) (qx:Addr->Prop),cP k (Ar.deeper (envOfC x (av st) s.heap.objs.size f cdv))->A ds S q qx ->
  ∃t,dz (dm (cC P w) P w K mg base N x (av st) f cdv Ar outer s H E) (λ_ C _ S'=>Sub S S'/\qx C) (a_ st) t /\
   t {nx:=λ_ _=>False,rt:=λd S'=>∃p ys,d=.ref p/\S p=none/\Sub S S'/\S' p=some (.lst ys)/\q ys} (eL N ds) S):ay P w K mg base (k+1) x ps (oY A):=show _ by
 have C:ay P w K mg base (k+1) x ps (λds S Q E=>∃q qx,A ds S q qx/\(∀d S',(∃p ys,d=.ref p/\S p=none/\Sub S S'/\S' p=some (.lst ys)/\q ys)->Q d S')/\∀C a S',Sub S S'/\qx C->E C a S'):=by
  refine h.r8 S (λvs H Q E cU=>by obtain⟨q,qx,z,_⟩:=cU;exact len _ _ _ _ z) λf cdv Ar outer s H E ds S3 Q E3 hr ⟨q,qx,z,hq,hx⟩=>?_;obtain⟨t,h1,h2⟩:=hbody f cdv Ar outer s H E ds S3 _ _ hr z;refine⟨t,λd S'=>∃p ys,d=.ref p/\S3 p=none/\Sub S3 S'/\S' p=some (.lst ys)/\q ys,λC _ S'=>Sub S3 S'/\qx C,h1,?_,hq,hx⟩;have e:(λ(_:aL) (_:ah)=>False)=λ(_:aL) (S':ah)=>∃p ys,D.non=.ref p/\S3 p=none/\Sub S3 S'/\S' p=some (.lst ys)/\q ys:=by
   funext _ S';refine propext ⟨gN,λz=>?_⟩;obtain⟨p,ys,z,_⟩:=z;cases z
  rw[<-e];exact h2
 refine C.vy.imp λds S Q E z=>⟨_,_,z,λd S1 ⟨p,ys,e,hp,hs,hp1,hq⟩=>⟨up S p (.lst ys),?_,?_⟩,λC a S1 hx=>⟨S,hx.1,hx.2 a⟩⟩
 ·intro a o ha;by_cases c:a=p
  ·subst c;rw[ao]at ha;cases ha;exact hp1
  ·rw[a9 c]at ha;exact hs a o ha
 ·subst e;exact hq p hp
end
open Classical in
theorem zK{α:Type}[DecidableEq α]:∀{ks ns:List α},ks.Nodup->(∀x∈ks,x∈ns)->ks.length<=ns.length
 |[],_,_,_=>eO _
 |k::ks,ns,h,hs=>by
  have hk:=hs k cF;have h1:=MX hk;have h2:0<ns.length:=MY hk;have h3:=zK (ks:=ks) (ns:=ns.erase k) (kc.mp h).2 λx hx=>by
   have hne:x≠k:=λe=>(kc.mp h).1 (e▸hx);exact(MZ hne).mpr (hs x (cL _ hx))
  simp only[cK];lia
end E3
namespace EE
open PySem PySem.Spec PyProof.Rows L2
section
variable{X:Cx}
def Hj(K:ax)(n:Nat):R2:=λx y H Q=>∃ds es,DR K H (.tup ds) x/\DR K H (.tup es) y/\cW (.tup ds)<=n/\Q (.bl (!aW (.tup ds) (.tup es))) H
theorem UQ{n:Nat}(hu:X.A.units+n<cLine):cj X (compareOp .NotEq) (Hj X.K n):=show _ by
 intro pins s σ H x y v u Q I rx ry h;obtain⟨ds,es,hd,he,hn,q⟩:=h;have hu':X.A.units<cLine:=by lia
 cases hd with
 |@tup a xs _ p q1 =>
  cases rx;obtain⟨its,rv,ht,_⟩:=I.tuple p;cases he with
  |@tup b ys _ p' q2 =>
   cases ry;obtain⟨its2,lY,fQ,_⟩:=I.tuple p';have hdd:d_ ds<=n-1/\1<=n:=by
    simp only[cW]at hn;lia
   have each:∀j (h1:j<its.toArray.size) (h2:j<its2.toArray.size),tX X.A.in1 s its.toArray[j] its2.toArray[j] (iB ds es j):=λj h1 h2=>by
    obtain⟨x,hx,rx⟩:=uT rv h1;obtain⟨y,hy,ry⟩:=uT lY h2;obtain⟨dx,lL,qF⟩:=q1.at hx;obtain⟨dy,qG,qH⟩:=q2.at hy;have DJ:=yQ lL;have:=(uU I (n-1) X.A.in1 dx dy x y _ _ (by lia) (by rw[units_in1];lia) qF qH rx ry).2;unfold iB;rw[lL,qG];exact this
   have e:((aZ (min its.toArray.size its2.toArray.size)).all (iB ds es)&&its.toArray.size==its2.toArray.size)=aW (.tup ds) (.tup es):=by
    simp only[aW];rw[uS,q1.len,q2.len,rv.length,lY.length];simp
   have rc:=SeqAt.RcNeAt.tuples ht fQ hu' each;rw[e]at rc;exact rc X.prog X.w X.xe _ ⟨.bl _,H,I,rfl,q⟩
end
end EE
namespace E3
open PySem PySem.Spec PyProof.Rows L2 EE
def zL(n:Nat):R3:=λx y S Q=>∃ds es,Dn S x (.tup ds)/\Dn S y (.tup es)/\cW (.tup ds)<=n/\Q (.bl (!aW (.tup ds) (.tup es))) S
theorem UR{K:ax}{n:Nat}:cY K (zL n) (Hj K n):=by
 intro Z x y S Q3 v w H Q rx ry l h c;obtain⟨d,e,h1,h2,hn,q⟩:=h;exact⟨d,e,h1.down l rx,h2.down l ry,hn,c _ S _ H (Kp.refl _ _) (.bl _) l q⟩
end E3
namespace EE
open PySem PySem.Spec PyProof.Rows L2
def US(σ:List Str)(v:Str):List Str:=if v∈σ then σ else σ++[v]
def met(vs:List Str):List Str:=vs.foldl US []
end EE
namespace E3
open PySem PySem.Spec PyProof.Rows L2 EE
end E3
namespace EE
open PySem PySem.Spec PyProof.Rows L2
def Hk(K:ax)(a:Addr)(n:Nat):It :=
 ⟨λi H=>i<n/\∃xs,bc K H a xs/\xs.length=n,λi H x H'=>H'=H/\∀xs,bc K H a xs->xs[n-1-i]?=some x,λi _=>n<=i⟩
theorem UT{P:Program}{w:World}{K:ax}{tg:Expr}(a it:Addr)(n:Nat):Turn P w K tg (Hk K a n) [it] it (λi h=>i<=n/\h.IsRevIter it a ((n:Int)-1-(i:Int))) where
 mem:=show _ by simp
 obj:=λi h st b hb=>by
  have e:b=it:=by simpa using hb
  subst e;obtain⟨_,o,e,c,d⟩:=st;exact⟨o,e,λv z=>by rw[d]at z;cases z⟩
 keep:=λi h h' st k=>let⟨hi,o,ho,r⟩:=st;⟨hi,o,k it (by simp) o ho,r⟩
 item:=by
  intro X hP hw hK hc i pins s σ H E I hf st hg;subst hP hw hK;obtain⟨hi,xs,hq,hn⟩:=hg;obtain⟨its,rv,p,hz⟩:=I.list hq;have hl:=rv.length;have hx:xs[n-1-i]?=some xs[n-1-i]:=aU (by lia);obtain⟨u,hu,ru⟩:=rv.get hx;obtain⟨f0,f1,f2,f3,f4,f5⟩:=hf it (by simp);have e1:(n:Int)-1-(i:Int)=((n-1-i:Nat):Int):=by lia
  have st2:=st.2;rw[e1]at st2;refine wpAny_pyNext_rev_item st2 p.isList (x:=u) (by simpa using hu) λh' st' sb=>?_;have I1:Inv X pins σ H {s with heap:=h'}:=I.turned (t':=s.toks) (λb o hb e=>(sb.2 b hb).trans e) f0 f1 f3 f4 f5;obtain⟨o,e,c,d⟩:=id st';have e2:((n-1-i:Nat):Int)-1=(n:Int)-1-((i+1:Nat):Int):=by lia
  refine⟨u,rfl,uw (s:={s with heap:=h'}) e c d (by decide) ⟨xs[n-1-i],H,I1,ru,⟨rfl,λys hy=>by rw[I.uq hy hq];exact hx⟩,⟨hi,?_⟩,λb hb=>(hf b hb).1⟩⟩;rw[<-e2];exact st'
 done:=by
  intro X hP hw hK hc i pins s σ H E I hf st hg;subst hP hw hK;obtain⟨f0,f1,f2,f3,f4,f5⟩:=hf it (by simp);have hg':n<=i:=hg;have e1:(n:Int)-1-(i:Int)=-1:=by have:=st.1;lia
  have st2:=st.2;rw[e1]at st2;exact wpAny_pyNext_rev_end (I.ok.hd hc) st2 λh' eb=>⟨rfl,I.turned (t':=s.toks) (λb o hb e=>eb b o hb e) f0 f1 f3 f4 f5⟩
 self:=λ_ _ _ _ _ st h=>M0 st.2 h
def UU(K:ax)(te:TA):TI:=λσ H R=>te σ H λvs H1=>∃a xs,vs=[.ref a]/\bc K H1 a xs/\R (Hk K a xs.length) H1
theorem UW{X:Cx}{tg a:Expr}{ta:TA}{p pos:Pos}(hg:Gl X "reversed")(hm:X.mg "reversed"=none)(ha:PA X [a] ta)(hs:starEach [a] X.env=[(false,eval a X.env)]:=by rfl):PI X tg (.Call (.Name "reversed" p) [a] [] pos) (UU X.K ta):=show _ by
 intro pins s σ H R I h;refine Call_ (jD I hg hm QV (mE (aO (ha pos pins s σ H _ I h) λus s1 ⟨vs,H1,I1,r1,q1⟩=>?_) hs rfl));obtain⟨b,xs,e,hq,q⟩:=q1;subst e;cases r1 with
 |cons r rr =>
  cases rr;cases r;obtain⟨its,rv,pt,hz⟩:=I1.list hq;have hl:=rv.length;refine call_reversed_list pt.isList ?_;have I2:Inv X pins σ H1 {s1 with heap:=s1.heap.push (revObj b ((its.toArray.size:Int)-1))}:=I1.kept (t':=s1.toks) λc o e=>bC _ e;have st:(s1.heap.push (revObj b ((its.toArray.size:Int)-1))).IsRevIter s1.heap.objs.size b ((its.toArray.size:Int)-1):=⟨_,du _ rfl,rfl,rfl⟩;refine M0 st ?_;have e1:(its.toArray.size:Int)-1=(xs.length:Int)-1-((0:Nat):Int):=by simp only[cu];lia
  refine⟨s1.heap.objs.size,[s1.heap.objs.size],_,_,H1,rfl,I2,UT b _ xs.length,⟨eO _,by rw[<-e1];exact st⟩,λc hc=>?_,q⟩;have e:c=s1.heap.objs.size:=by simpa using hc
  subst e;exact I1.lV (a8 _) (I1.hok.fresh (a8 _))
end EE
namespace E3
open PySem PySem.Spec PyProof.Rows L2 EE
section
variable{X:Cx}{W3:bX}{tg:Expr}{pos:Pos}
def Hl(ta:cX):fi:=λσ S R=>ta σ S λxs S1=>∃a ds,xs=[.ref a]/\S1 a=some (.lst ds)/\R ds.reverse (λS=>S a=some (.lst ds)) S1
theorem Hm{a:Expr}{ta:cX}{p:Pos}(hg:Gl X "reversed")(hm:X.mg "reversed"=none)(ha:fD X W3 [a] ta)(hs:starEach [a] X.env=[(false,eval a X.env)]:=by rfl):fW X W3 tg (.Call (.Name "reversed" p) [a] [] pos) (Hl ta) :=
 λZ=>PI.imp (UW hg hm (ha Z) hs) λτ H R cU=>by
 obtain⟨σ,S,R3,hs,hr,ht,hc⟩:=cU;refine⟨σ,S,_,hs,hr,ht,λxs S1 y9 H1 k1 r1 l1 q1=>?_⟩;obtain⟨b,ds,rfl,e,q⟩:=q1;cases r1 with
 |cons r1 rr =>
  cases rr;cases r1;obtain⟨vs,h1,h2⟩:=l1.obj b _ e;have hl:=h2.len;refine⟨b,vs,rfl,bc.of h1,hc _ _ S1 _ H1 k1 l1 q ⟨λi d S2 H2 k2 l2 al hd=>?_,λS2 H2 k2 l2 al=>?_⟩⟩
  ·have hi:i<ds.length:=show _ by
    have:=(bO.mp hd).1;simpa using this
   rw[M1 hi]at hd;obtain⟨ws,h3,h4⟩:=l2.obj b _ al;have Hn:=h4.len;obtain⟨v,hv,rv⟩:=h4.at hd;rw[hl]at hv;refine⟨⟨by lia,ws,bc.of h3,by lia⟩,λv' H' y=>?_⟩;obtain⟨rfl,y⟩:=y;have:=y ws (bc.of h3);rw[hv]at this;cases this;exact⟨Kp.refl _ _,rv,λ_ z=>z,λ_ _=>rfl⟩
  ·show vs.length<=ds.reverse.length;rw[Dm,hl];exact a8 _
end
end E3
namespace EE
open PySem PySem.Spec PyProof.Rows L2
theorem mf:∀(names:List (Str×NameKind)) (n:Nat) (acc:List (Str×Addr)),cellsFrom n names acc=cellsFrom n names []++acc
 |[],_,_=>rfl
 |(y,k)::r,n,acc=>by
  unfold cellsFrom
  split
  ·rw[mf r (n+1) ((y,n)::acc),mf r (n+1) [(y,n)],Dp];rfl
  ·exact mf r n acc
theorem zM:∀(names:List (Str×NameKind)) (n:Nat) (y:Str) (c:Addr),(y,c)∈cellsFrom n names []->(y,NameKind.cell)∈names
 |[],_,_,_,h=>by cases h
 |(x,k)::r,n,y,c,h=>by
  unfold cellsFrom at h
  split at h
  ·rename_i hk
   rw[mf,bF]at h;rcases h with h|h
   ·exact cL _ (zM r _ y c h)
   ·have e:(y,c)=(x,n):=show _ by simpa using h
    cases e;rw[show k=NameKind.cell by simpa using hk];exact cF
  ·exact cL _ (zM r n y c h)
theorem UX{M:Model}{A:Around}{E:Value->Shared->Prop}{s:Shared}{scope:Scope}{globals:Addr}{cl:List (Str×Addr)}{qual:Str}{func:Option Addr}{code:Value}{env:Env}{Q:Env->Shared->Prop}(_hk:scope.kind=.function)
 (hQ:∀h',h'.Ns s.heap.objs.size (λ_=>none)->(∀b o,s.heap.get? b=some o->h'.get? b=some o)->CellsOk h' (s.heap.objs.size+1) (cellsFrom (s.heap.objs.size+1) scope.names []) ->
  Q {scope:=scope,locals:=s.heap.objs.size,globals:=globals,cells:=cellsFrom (s.heap.objs.size+1) scope.names cl,qual:=qual,func:=func,code:=env.code,frame:=env.frame,builtins:=env.builtins} {s with heap:=h'}) :
 wpAny M A (newFunctionEnv scope globals cl [] qual func code (some env)) Q E s:=show _ by
 simp only[newFunctionEnv,C7,if_true];refine ak (wpAny_alloc ?_);refine ak (wpAny_layCells _ (λname kind cells=>by cases hkc:kind==NameKind.cell<;>simp[hkc]) _ _ _ _ ?_);have ok:=cellsFrom_ok scope.names (s.heap.push {cls:=.type "dict",data:=.dict #[]}) (s.heap.objs.size+1) [] ⟨λ_ _ hm=>(nomatch hm),List.Pairwise.nil⟩ (by rw[jz];exact a8 _);rw[jz]at ok;rw[show({s with heap:=s.heap.push {cls:=.type "dict",data:=.dict #[]}}:Shared).heap.objs.size=s.heap.objs.size+1 from jz ..];refine ak (aF (aF ?_));exact hQ _ ((Heap.Ns.new s.heap (.type "dict")).keeps (pushCells_keeps _ _)) (λb o e=>pushCells_keeps _ _ b o (bC _ e)) ok
structure eY(bQ:Scope)(O M:List Str)(scope:Scope):Prop where
 kind:scope.kind=.function
 cell:∀y∈scope.names,y.2=.cell->scope.names.lookup y.1=some .cell
 names:∀y∈scope.names,y.2=.local->scope.names.lookup y.1=some .local
 free:∀y∈scope.names,y.2=.free->bQ.names.lookup y.1=some .cell
 nd:(O++M).Nodup
 mine:∀y∈M,scope.names.lookup y=some .free
def bR(X:Cx)(scope:Scope)(C:Addr)(N:List Str)(fp:List Addr)(pins:List (Addr×Obj))(s:Shared)(H:Hp):Cx :=
 {yS X scope C N fp pins s H with env:=compEnvC scope (cellsFrom (C+1) scope.names (iC scope X.env)) C X.env,fn:=λy=>scope.names.lookup y==some .cell}
section
variable{X:Cx}{pins:List (Addr×Obj)}{σ:L2.St}{H:Hp}{s:Shared}{scope:Scope}{O M:List Str}{js:List Nat}{C:Addr}{fp:List Addr}
theorem eY.cells(S:eY X.env.scope O M scope)(I:Inv X pins σ H s):∀y∈scope.names,y.2=.free->∃c,X.env.cells.lookup y.1=some c:=λy hy hk=>I.ok.has y.1 (.inl (S.free y hy hk))
theorem eY.sub(S:eY X.env.scope O M scope)(I:Inv X pins σ H s){y:Str}{c:Addr}(e:(iC scope X.env).lookup y=some c):X.env.cells.lookup y=some c :=
 E6 scope.names [] (S.cells I) (λ_ _ h=>by simp at h) y c e
theorem eY.get(S:eY X.env.scope O M scope)(I:Inv X pins σ H s){s1:Shared}(ok:CellsOk s1.heap (C+1) (cellsFrom (C+1) scope.names [])){y:Str}{c:Addr}(e:(cellsFrom (C+1) scope.names (iC scope X.env)).lookup y=some c) :
 ((y,c)∈cellsFrom (C+1) scope.names []/\(s1.heap.IsCell c none/\C+1<=c))∨X.env.cells.lookup y=some c:=show _ by
 rw[mf,xJ]at e;cases q:(cellsFrom (C+1) scope.names []).lookup y with
 |none=>rw[q]at e;exact .inr (S.sub I (by simpa using e))
 |some c' =>
  rw[q]at e;have e':c'=c:=by simpa using e
  subst e';exact .inl ⟨jv q,ok.empty y c' (jv q)⟩
theorem UY{s1:Shared}{m:Str->Option Value}(S:eY X.env.scope O M scope)(hc:X.calm=true)(I:Inv X pins σ H s)(hjs:∀(k:Nat) (y:Str),M[k]?=some y->∃j:Nat,js[k]?=some j/\X.N[j]?=some y)(hlen:js.length=M.length)
 (hf:∀b∈fp,d8 X pins H b) (hfl:∀b∈fp,b<s.heap.objs.size) (hC:s.heap.objs.size<=C) (hn:s1.heap.Ns C m) (hk:∀b o,s.heap.get? b=some o->s1.heap.get? b=some o)
 (ok:CellsOk s1.heap (C+1) (cellsFrom (C+1) scope.names [])) (hos:s1.os=s.os) (hg:AllBare s1.gens) :
 Inv (bR X scope C (O++M) fp pins s H) [] (fK O.length none++pick σ js) H s1:=show _ by
 have UZ:∀b∈fp,b∉frs X.stack:=λb hb z=>by
  obtain⟨f0,f1,f2,_⟩:=hf b hb;rcases br.mp (I.ui b z) with e|e
  ·exact f1 e
  ·exact f2 e
 have cellK:∀(c:Addr) (v:Option Value),s.heap.IsCell c v->s1.heap.IsCell c v:=λc v cU=>by obtain⟨o,e,d⟩:=cU;exact⟨o,hk c o e,d⟩
 have old:∀{y:Str} {c:Addr},X.env.cells.lookup y=some c->c<C+1:=λ{y c} e=>by
  obtain⟨v,o,q,_⟩:=I.cell y c e;exact Nat.lt_succ_of_lt (dO (bq q) hC)
 have some_of:∀{y:Str},((∃c,(cellsFrom (C+1) scope.names []).lookup y=some c)∨∃c,(iC scope X.env).lookup y=some c)->∃c,(cellsFrom (C+1) scope.names (iC scope X.env)).lookup y=some c:=λ{y} h=>by
  rw[mf,xJ];cases q:(cellsFrom (C+1) scope.names []).lookup y with
  |some c=>exact⟨c,by simp⟩
  |none =>
   rcases h with⟨c,h⟩|⟨c,h⟩
   ·rw[q]at h;cases h
   ·exact⟨c,by simpa using h⟩
 refine⟨⟨I.ok.mod,S.kind,I.ok.glob,I.ok.blt,hC,λy z c h1 h2=>?_,λy hy=>?_,λy c h e=>?_,λ_=>I.ok.hd hc,I.ok.frames,.inl rfl,λb hb=>?_,I.bs,
  b5 I.ok.iy I.sz,λb o e hb=>?_,UZ,I.stack,I.uj⟩,hos,hg,Un.kept hk,⟨m,hn,λi y v h1 h2 h3=>?_⟩,λy c e=>?_,I.hok.fresh hC,λy c e=>?_,λp hp=>?_,I.hok.kept hk,?_⟩
 ·rcases S.get I ok h1 with⟨m1,g1⟩|o1<;>rcases S.get I ok h2 with⟨m2,g2⟩|o2
  ·exact name_of_addr ok.apart m1 m2
  ·exact absurd g1.2 (Nat.not_le.mpr (old o2))
  ·exact absurd g2.2 (Nat.not_le.mpr (old o1))
  ·exact I.ok.inj y z c o1 o2
 ·have hy':(relabel scope X.env).names.lookup y=some .cell∨(relabel scope X.env).names.lookup y=some .free:=hy;have cl:(y,NameKind.cell)∈scope.names->∃c,(cellsFrom (C+1) scope.names []).lookup y=some c:=λmm =>
   CF.mp (xf _ _ _ (.inl (S.cell _ mm rfl)))
  have fr:(y,NameKind.cell)∈scope.names∨(y,NameKind.free)∈scope.names:=by
   rcases hy' with h|h
   ·obtain⟨k',mm,e|e⟩:=E7 h
    ·rw[<-e]at mm;exact .inl mm
    ·rw[e.1]at mm;exact .inr mm
   ·obtain⟨k',mm,e|e⟩:=E7 h
    ·rw[<-e]at mm;exact .inr mm
    ·exact absurd e.2 (by intro z;cases z)
  rcases fr with fr|fr
  ·exact some_of (.inl (cl fr))
  ·exact some_of (.inr (yR scope.names [] y (.inl fr)))
 ·have h':scope.names.lookup y=some .cell:=by simpa[bR]using h
  obtain⟨c',q⟩:=CF.mp (xf scope.names (C+1) [] (.inl h'));have e':(cellsFrom (C+1) scope.names (iC scope X.env)).lookup y=some c:=e;rw[mf,xJ,q]at e';have e2:c'=c:=by simpa using e'
  subst e2;exact b5 hC (nX (ok.empty y c' (jv q)).2)
 ·obtain⟨f0,f1,f2,f3,f4,f5⟩:=hf b hb;refine⟨dj (dO (hfl b hb) hC),λy c e=>?_⟩;rcases S.get I ok e with⟨_,h⟩|h
  ·exact λz=>ju _ (dO (dO (hfl b hb) hC) (z▸nX h.2))
  ·exact f4 y c h
 ·obtain⟨f0,f1,f2,f3,f4,f5⟩:=hf b hb;rcases f3 with f3|f3
  ·exact I.ok.lN b o e f3
  ·exact absurd (bq e) (Nat.not_lt.mpr (b5 I.ok.iy f3))
 ·have zN:(O++M)[i]?=some y:=h1;by_cases hi:i<O.length
  ·rw[lB (by simpa using hi),Mj,if_pos hi]at h2;have h2':(none:Option V)=some v:=dN h2;cases h2'
  ·have hge:O.length<=i:=MD hi;rw[qt hge]at zN;rw[qt (by simpa using hge),Ml]at h2;obtain⟨j,ej,eN⟩:=hjs _ y zN;have U0:σ[j]?=some (some v):=by
    unfold pick at h2;rw[aK,ej]at h2;have z:(σ[j]?).getD none=some v:=by simpa using h2
    cases q:σ[j]? with
    |none=>rw[q]at z;cases z
    |some o=>rw[q]at z;rw[show o=some v from z]
   have hfree:=S.mine y (bS zN);have hcell:X.env.kindOf y=some .cell:=S.free (y,.free) (jv hfree) rfl;obtain⟨m0,_,hl0⟩:=I.loc;obtain⟨u,r,l⟩:=hl0 j y v eN U0 (.inr (.inl hcell));refine⟨u,r,.inr ⟨.inl (QU I.ok.kind hcell hfree),?_⟩⟩;obtain⟨c',e'⟩:=yR (env:=X.env) scope.names [] y (.inl (jv hfree));have e2:=S.sub I (show(iC scope X.env).lookup y=some c' from e');have e3:(cellsFrom (C+1) scope.names (iC scope X.env)).lookup y=some c':=by
    rw[mf,xJ];cases q:(cellsFrom (C+1) scope.names []).lookup y with
    |none=>exact e'
    |some c2 =>
     have:=S.cell _ (zM _ _ _ _ (jv q)) rfl;rw[hfree]at this;cases this
   rcases l with⟨z,_⟩|⟨_,c,hcc,hic⟩
   ·rw[hcell]at z;cases z
   ·rw[hcc]at e2;have:c=c':=dN e2;subst this;exact⟨c,e3,cellK c _ hic⟩
 ·rcases S.get I ok e with⟨_,h⟩|h
  ·exact⟨none,h.1⟩
  ·obtain⟨v,h⟩:=I.cell y c h;exact⟨v,cellK c v h⟩
 ·rcases S.get I ok e with⟨_,h⟩|h
  ·exact I.hok.fresh (b5 hC (nX h.2))
  ·exact I.fS y c h
 ·have hp':p∈X.pn++pins:=by simpa[bR,yS]using hp
  obtain⟨e,n,ne,nf,d⟩:=I.pin p hp';refine⟨hk _ _ e,n,dj (dO (bq e) hC),λz=>?_,d⟩;rcases br.mp (I.ui p.1 z) with q|q
  ·exact ne q
  ·exact nf q
 ·show(fK O.length none++pick σ js).length=(O++M).length;simp[pick,hlen]
theorem Ho{N:List Str}{iz:List (Addr×Obj)}{σ':L2.St}{H':Hp}{s':Shared}{h':Heap}(I:Inv X pins σ H s)(hf:∀b∈fp,d8 X pins H b)(J:Inv (bR X scope C N fp pins s H) iz σ' H' s')
 (hC:s.heap.objs.size<=C) (hs:gc C s'.heap h'):Inv X pins σ H' {s' with heap:=h'}:=show _ by
 have u0:Un (frs X.stack) fp H H' s.heap s'.heap:=J.base;have nC:∀b o,s.heap.get? b=some o->b≠C:=λb o e z=>absurd (bq e) (by rw[z];exact Nat.not_lt.mpr hC);have u:Un (frs X.stack) fp H H' s.heap h':=⟨λb o e n hb hx=>(hs.2 b (nC b o e)).trans (u0.keep b o e n hb hx),λb o e n hb hx=>let⟨sl,q⟩:=u0.slot b o e n hb hx;⟨sl,(hs.2 b (nC b o e)).trans q⟩,u0.free,
  λb o e hx=>let⟨o',q⟩:=u0.there b o e hx;⟨o',(hs.2 b (nC b o e)).trans q⟩,u0.tups,u0.gy,u0.ix⟩
 have fC:H' C=none:=J.free;have hok:cw X.prog X.w H' h':=λb ob e=>(J.hok b ob e).stay (λc w hc q=>(hs.2 c (λz=>by
  subst z;rcases hc with z|z
  ·rw[<-z,fC]at e;cases e
  ·rw[fC]at z;cases z)).trans q) (λ_ q=>q) λ_ _ q=>q
 exact I.qL (s':={s' with heap:=h'}) (ch:=fp) J.os u hok J.bare λb hb=>by
  obtain⟨f0,f1,f2,f3,f4,f5⟩:=hf b hb;exact⟨f3,f1,f4,f5⟩
end
section
variable{X:Cx}{elt iter tg:Expr}{ifs:List Expr}{pos:Pos}{scope:Scope}{O M:List Str}{js:List Nat}{wi:TI}{g:TG}{tt:TT}{te:TE}
theorem Hq{pins:List (Addr×Obj)}{σ:L2.St}{H2:Hp}{s2:Shared}{it D:Addr}{fp:List Addr}{tn:Nat->Heap->Prop}{J:It}{W:Nat->Nat->L2.St->Hp->Prop}{Qe:Hp->Prop}{R:Addr->Result->Shared->Prop}{E:Value->Shared->Prop}{m0:Nat}
 (S:eY X.env.scope O M scope) (hc:X.calm=true) (hjs:∀(k:Nat) (y:Str),M[k]?=some y->∃j:Nat,js[k]?=some j/\X.N[j]?=some y) (hlen:js.length=M.length)
 (hg:∀(C:Addr) (fp:List Addr) (pins:List (Addr×Obj)) (s:Shared) (H:Hp),PG (bR X scope C (O++M) fp pins s H) tg g)
 (ht:∀(C:Addr) (fp:List Addr) (pins:List (Addr×Obj)) (s:Shared) (H:Hp),ng (bR X scope C (O++M) fp pins s H) ifs tt)
 (he:∀(C:Addr) (fp:List Addr) (pins:List (Addr×Obj)) (s:Shared) (H:Hp),PE (bR X scope C (O++M) fp pins s H) elt te)
 (I:Inv X pins σ H2 s2) (T:Turn X.prog X.w X.K tg J fp it tn) (st:tn 0 s2.heap) (hf:∀b∈fp,d8 X pins H2 b) (w0:W 0 m0 (fK O.length none++pick σ js) H2)
 (turn:∀i m τ H3,W i m τ H3->(J.stop i H3/\Qe H3)∨(J.go i H3/\∃N:L2.St->Hp->Prop,(∀bp H',N bp H'->∃m',m'<m/\W (i+1) m' bp H')/\∀v H',J.lU i H3 v H' ->
  g v τ H' λbp H4=>tt bp H4 λb H5=>if b=true then te bp H5 λy H6=>∃ys,H6 D=some (.lst ys)/\ys.length<sizeLine/\N bp (upd H6 D (.lst (ys++[y]))) else N bp H5))
 (fin:∀(C:Addr) (s':Shared) (H':Hp) (iz:List (Addr×Obj)) (σ':L2.St),s2.heap.objs.size<=C->Inv (bR X scope C (O++M) fp pins s2 H2) iz σ' H' s'->Qe H'->R C (.ok .next) s') :
 wpAny (model X.prog X.w) X.A (newFunctionEnv scope X.env.globals (iC scope X.env) [] X.env.qual none .none (some X.env)) (λcenv s4 =>
  codeAny (model X.prog X.w) X.A (.compStart (.ListComp elt [⟨tg,iter,ifs,0⟩] scope pos) 0 (.ref it) (.ref D) {cenv with scope:=relabel scope X.env}) (R cenv.locals) s4) E s2:=show _ by
 refine UX S.kind λh1 hns old ok=>?_;have hfl:∀b∈fp,b<s2.heap.objs.size:=λb hb=>by
  obtain⟨o,e,_⟩:=T.obj 0 _ st b hb;exact bq e
 have I4:Inv (bR X scope s2.heap.objs.size (O++M) fp pins s2 H2) [] (fK O.length none++pick σ js) H2 {s2 with heap:=h1} :=
  UY S hc I hjs hlen hf hfl (a8 _) hns old ok rfl I.bare
 have nh:tn 0 h1:=T.keep _ _ _ st λb hb o e=>old b o e;have mQ:∀{H':Hp},(∀b∈fp,H' b=none)->∀b∈fp,d8 (bR X scope s2.heap.objs.size (O++M) fp pins s2 H2) [] H' b:=λ{H'} hn b hb=>by
  obtain⟨f0,f1,f2,f3,f4,f5⟩:=hf b hb;refine⟨hn b hb,dj (hfl b hb),I4.ok.lP b hb,.inl hb,λy c e=>?_,λp hp=>f5 p ?_⟩
  ·rcases S.get (s1:={s2 with heap:=h1}) I ok e with⟨_,h⟩|h
   ·exact λz=>ju _ (dO (hfl b hb) (z▸nX h.2))
   ·exact f4 y c h
  ·simpa[bR,yS]using hp
 have loop:∀s3:Shared,s3={s2 with heap:=h1} ->
  codeAny (model X.prog X.w) X.A (.compLoop (.ListComp elt [⟨tg,iter,ifs,0⟩] scope pos) 0 (.ref it) (.ref D) (compEnvC scope (cellsFrom (s2.heap.objs.size+1) scope.names (iC scope X.env)) s2.heap.objs.size X.env)) (R s2.heap.objs.size) s3:=by
  rintro s3 rfl;refine TX (λn s'=>∃(i:Nat) (τ:L2.St) (H':Hp),Inv (bR X scope s2.heap.objs.size (O++M) fp pins s2 H2) [] τ H' s'/\tn i s'.heap/\(∀b∈fp,H' b=none)/\W i n τ H') ?_ m0
   ⟨0,_,H2,I4,nh,λb hb=>(hf b hb).1,w0⟩
  rintro n s5 ⟨i,τ,H5,I5,oj,uz,w5⟩;rcases turn i n τ H5 w5 with⟨stop,qe⟩|⟨go,N,hN,step⟩
  ·refine aO (T.done (bR X scope s2.heap.objs.size (O++M) fp pins s2 H2) rfl rfl rfl rfl i [] s5 _ H5 (λ_ _=>False) I5 (mQ uz) oj stop) λr s6 ⟨hr,I6⟩=>?_;subst hr;exact fin _ s6 H5 [] _ (a8 _) I6 qe
  ·refine aO (T.item (bR X scope s2.heap.objs.size (O++M) fp pins s2 H2) rfl rfl rfl rfl i [] s5 _ H5 (λ_ _=>False) I5 (mQ uz) oj go) λr s6 ⟨u,hr,h6⟩=>?_;subst hr;refine aO h6 λ_ s7 ⟨v,H7,I7,r7,y7,zO,U1⟩=>?_;have U2:=I7.pinned (mQ U1) (T.obj _ _ zO);have back:∀{σ9:L2.St} {H9:Hp} {s9:Shared},Inv (bR X scope s2.heap.objs.size (O++M) fp pins s2 H2) ([]++qP fp s7.heap) σ9 H9 s9->N σ9 H9 ->
    ∃m,m<n/\∃(i:Nat) (τ:L2.St) (H':Hp),Inv (bR X scope s2.heap.objs.size (O++M) fp pins s2 H2) [] τ H' s9/\tn i s9.heap/\(∀b∈fp,H' b=none)/\W i m τ H':=by
    intro σ9 H9 s9 I9 n9;obtain⟨m',hm,U3⟩:=hN σ9 H9 n9;refine⟨m',hm,i+1,σ9,H9,I9.uy,T.keep _ _ _ zO λb hb o e=>(I9.pin (b,o) (gg _ (gg _ (ux hb e)))).1,λb hb=>?_,U3⟩;obtain⟨o,e,d⟩:=T.obj _ _ zO b hb;exact(I9.pin (b,o) (gg _ (gg _ (ux hb e)))).2.1
   refine aO (hg s2.heap.objs.size fp pins s2 H2 _ s7 _ H7 v u _ U2 r7 (step v H7 y7)) λ_ s8 ⟨U4,H8,I8,q8⟩=>?_;refine aO (ht s2.heap.objs.size fp pins s2 H2 _ s8 _ H8 _ I8 q8) λok s9 ⟨H9,I9,q9⟩=>?_;cases ok with
   |false=>exact back I9 q9
   |true =>
    refine aO (he s2.heap.objs.size fp pins s2 H2 _ s9 _ H9 _ I9 q9) λyv U5 ⟨y,U6,U7,r10,ys,hD,hz,U8⟩=>?_;refine aO (fB (X:=bR X scope s2.heap.objs.size (O++M) fp pins s2 H2) _ U5 _ U6 (.ref D) [y] (.ref D) [yv] (λ_ H'=>N U4 H') U7 rfl (.cons r10 .nil) ⟨D,ys,y,rfl,rfl,hD,hz,U8⟩) λ_ s11 ⟨_,H11,U9,_,U_⟩=>?_;exact back U9 U_
 exact codeAny_compStart_list (loop _ rfl) (fJ (T.self X.A 0 _ _ _ nh (loop _ rfl)) (λ_ _ z=>z) λ_ _ z=>z)
theorem Hr(S:eY X.env.scope O M scope)(hc:X.calm=true)(hjs:∀(k:Nat) (y:Str),M[k]?=some y->∃j:Nat,js[k]?=some j/\X.N[j]?=some y)(hlen:js.length=M.length)(hi:PI X tg iter wi)
 (hg:∀(C:Addr) (fp:List Addr) (pins:List (Addr×Obj)) (s:Shared) (H:Hp),PG (bR X scope C (O++M) fp pins s H) tg g)
 (ht:∀(C:Addr) (fp:List Addr) (pins:List (Addr×Obj)) (s:Shared) (H:Hp),ng (bR X scope C (O++M) fp pins s H) ifs tt)
 (he:∀(C:Addr) (fp:List Addr) (pins:List (Addr×Obj)) (s:Shared) (H:Hp),PE (bR X scope C (O++M) fp pins s H) elt te) (hs:∀v,foldedSetIterable iter X.env v=pure v:=by intro _;rfl) :
 PE X (.ListComp elt [⟨tg,iter,ifs,0⟩] scope pos) (vI wi g tt te O.length js):=show _ by
 intro pins s σ H Q I h;rw[eval_ListComp];refine M3 (use:=none) rfl hs (E5 (S.cells I)) S.kind S.names (aO (hi pins s σ H _ I h) λxv s1 h1=>aO h1 λitv s2 h2=>?_);obtain⟨it,fp,tn,J,H1,rfl,I2,T,st2,f2,q⟩:=h2;refine jy ?_ (by show 0<=sizeLine;decide);have hD:H1 s2.heap.objs.size=none:=I2.hok.fresh (a8 _);obtain⟨W,⟨m0,w0⟩,turn⟩:=q _ hD;have I3:Inv X pins σ (upd H1 s2.heap.objs.size (.lst [])) {s2 with heap:=s2.heap.push {cls:=.type "list",data:=.seq ([]:List Value).toArray}}:=I2.uJ (t':=s2.toks) .nil (eO _);have iV:∀b∈fp,d8 X pins (upd H1 s2.heap.objs.size (.lst [])) b:=λb hb=>by
  obtain⟨f0,f⟩:=f2 b hb;obtain⟨o,e,_⟩:=T.obj 0 _ st2 b hb;exact⟨by rw[bo (dj (bq e))];exact f0,f⟩
 refine Hq (Qe:=λH'=>Q (.ref s2.heap.objs.size) H') (R:=λC=>compPost (model X.prog X.w) X.A X.xe none (EP X pins σ Q) (.ref s2.heap.objs.size) C) S hc hjs hlen hg ht he I3 T (T.keep _ _ _ st2 λb hb o e=>bC _ e) iV w0 turn ?_;intro C s' H' iz σ' hC Jv qe;obtain⟨m,hn,_⟩:=Jv.loc;exact⟨m,hn,λh' hs'=>⟨.ref _,H',Ho I3 iV Jv hC hs',rfl,qe⟩⟩
end
end EE
namespace E3
open PySem PySem.Spec PyProof.Rows L2 EE
section
variable{X:Cx}{W3:bX}{elt iter tg:Expr}{ifs:List Expr}{x x':Str}{px vU pos tp:Pos}{kt:Nat}{scope bQ:Scope}{O M N:List Str}{js:List Nat}{wi:fi}{g:eo}{Sh:D->aL->Prop}{tt:cJ}{te:aQ}
theorem U'{scope:Scope}{env:Env}{y:Str}(h:scope.names.lookup y=some .cell):(relabel scope env).names.lookup y=some .cell:=show _ by
 have go:∀(l:List (Str×NameKind)),l.lookup y=some .cell->(l.map λ(n,k)=>if(k == .free&&env.scope.kind == .function&&env.kindOf n==some .cell) then(n,NameKind.cell) else(n,k)).lookup y=some .cell:=by
  intro l
  induction l with
  |nil=>intro h;simp at h
  |cons a r ih =>
   obtain⟨n,k0⟩:=a;intro h;rw[bT];by_cases hy:y=n
   ·subst hy;simp only[iO,beq_self_eq_true,lD]at h;subst h;simp
   ·have hb:(y==n)=false:=by simpa using hy
    simp only[iO,hb]at h;by_cases hcc:(k0==NameKind.free&&env.scope.kind == .function&&env.kindOf n==some .cell)=true
    ·simp only[hcc,if_true,iO,hb];exact ih h
    ·dsimp only;rw[if_neg hcc];simp only[iO,hb];exact ih h
 exact go scope.names h
theorem Va(S:eY bQ [x] M scope)(hx:scope.names.lookup x=some .cell)(hjs:M.map some=js.map λj=>N[j]?)(hc:X.calm=true)(hi:fW X W3 (.Name x px) iter wi)
 (ht:∀(C:Addr) (fp:List Addr) (pins:List (Addr×Obj)) (s:Shared) (H:Hp),jg (bR X scope C ([x]++M) fp pins s H) ifs tt)
 (he:∀(C:Addr) (fp:List Addr) (pins:List (Addr×Obj)) (s:Shared) (H:Hp),aM (bR X scope C ([x]++M) fp pins s H) dw elt te)
 (hJ:X.env.scope=bQ:=by rfl) (hN:X.N=N:=by rfl) (hs:∀v,foldedSetIterable iter X.env v=pure v:=by intro _;rfl) :
 aM X W3 (.ListComp elt [⟨.Name x px,iter,ifs,0⟩] scope pos) (jV wi jU tt te js):=λZ=>by
 subst hJ hN;have hg:∀(C:Addr) (fp:List Addr) (pins:List (Addr×Obj)) (s:Shared) (H:Hp),gE (bR X scope C ([x]++M) fp pins s H) dw (.Name x px) (jL 0):=λC fp pins s H =>
  ck (i:=0) S.nd rfl (.inr (U' hx)) (.inl (by show(scope.names.lookup x==some .cell)=true;rw[hx];rfl))
 exact PE.imp (Hr S hc (ow hjs).1 (ow hjs).2 (hi Z) (λC fp pins s H=>(hg C fp pins s H).ex) (λC fp pins s H=>(ht C fp pins s H).ex) (λC fp pins s H=>(he C fp pins s H).ex) hs) λ_ _ _ h=>vO vN h
def Hs(scope bQ:Scope):Scope:={scope with names:=scope.names.map λ(n,k)=>if(k == .free&&bQ.kind == .function&&bQ.names.lookup n==some .cell) then(n,.cell) else(n,k)}
end
section
variable{σ:aL}{Q:K3}{js:List Nat}{te:aQ}{Sh:D->aL->Prop}
theorem sD{ds:List D}{Al:ah->Prop}{S1:ah}(f:Nat->D)(hz:ds.length<=10000)(hA:∀S,Sub S1 S->Al S)
 (h:∀i d S,ds[i]?=some d->Sub S1 S->∃ρ,Sh d ρ/\∀P:K3,(∀S',Sub S S'->P (f i) S')->te (ρ++dH σ js) S P) (q:∀S,Sub S1 S->cQ S ((aZ ds.length).map f) Q) :
 ∃W:Nat->List D->ah->Prop,W 0 [] S1/\(∀i ys S,W i ys S->Al S/\ys.length<sizeLine) /\
 (∀i d ys S,ds[i]?=some d->W i ys S->∃ρ,Sh d ρ/\md (ρ++dH σ js) S λb S2=>if b=true then te (ρ++dH σ js) S2 λy S3=>W (i+1) (ys++[y]) S3 else W (i+1) ys S2)/\∀ys S,W ds.length ys S->cQ S ys Q:=show _ by
 refine⟨λi ys S=>i<=ds.length/\ys=(aZ i).map f/\Sub S1 S,⟨eO _,rfl,Sub.refl _⟩,?_,?_,?_⟩
 ·rintro i ys S ⟨hi,rfl,hs⟩;refine⟨hA S hs,?_⟩;rw[az,tZ];exact C6 (b5 hi hz) (by decide)
 ·rintro i d ys S hd ⟨hi,rfl,hs⟩;obtain⟨ρ,so,h⟩:=h i d S hd hs;refine⟨ρ,so,vR ?_⟩;rw[if_pos rfl];refine h _ λS' hs'=>⟨(bO.mp hd).1,?_,hs.trans hs'⟩;rw[ua,cA];rfl
 ·rintro ys S ⟨_,rfl,hs⟩;exact q S hs
end
end E3
namespace EE
open PySem PySem.Spec PyProof.Rows L2
section
variable{X:Cx}
def Ht(K:ax):R2:=λx y H Q=>∃a b xs ys,x=.ref a/\y=.ref b/\bz K H a xs/\bz K H b ys/\xs.length+ys.length<=sizeLine /\
 (xs=[]->Q (.ref b) H)/\(xs≠[]->(ys=[]->Q (.ref a) H)/\(ys≠[]->∀p,H p=none->Q (.ref p) (upd H p (.tup (xs++ys)))))
theorem Hu:cj X (binaryOp .Add) (Ht X.K):=show _ by
 intro pins s σ H x y v u Q I rx ry h;obtain⟨a,b,xs,ys,rfl,rfl,ha,hb,hz,q0,q1⟩:=h;by_cases hx:xs=[]
 ·cases rx;cases ry;obtain⟨its,r1,p1,_⟩:=I.tuple ha;obtain⟨its2,r2,p2,_⟩:=I.tuple hb;have hi:its=[]:=r1.uG.mpr hx;obtain⟨⟨cls,dd,data,sl⟩,ho,hc,n,hd⟩:=id p1;obtain⟨⟨cls2,dd2,data2,sl2⟩,ho2,hc2,n2,hd2⟩:=id p2;simp only at hc hd hc2 hd2;subst hc hd hc2 hd2;exact CH ⟨_,ho,rfl⟩ ⟨_,ho2,rfl⟩ CI CJ CM CN (CP _ _)
   (tuple_addW0 a b its.toArray its2.toArray n n2 dd dd2 sl sl2 (by simp[hi])) ⟨ho,ho2,⟨.ref b,H,I,rfl,q0 hx⟩⟩
 ·exact yE pins s σ H (.ref a) (.ref b) v u Q I rx ry ⟨a,b,xs,ys,rfl,rfl,ha,hb,hx,hz,(q1 hx).1,(q1 hx).2⟩
theorem Hv:fg X (.type "int") (λxs H Q=>∃b:Bool,xs=[.bl b]/\Q (.int (if b then 1 else 0)) H):=show _ by
 intro pins s σ H xs us Q I r h;obtain⟨b,rfl,q⟩:=h;obtain⟨u,rfl,r1⟩:=vals1 r;obtain rfl:u=Value.bool b:=r1;exact call_int_bool ⟨.int (if b then 1 else 0),H,I.tok _,⟨_,rfl⟩,q⟩
end
end EE
namespace E3
open PySem PySem.Spec PyProof.Rows L2 EE
section
variable{K:PySem.W.Frag}{S:ah}{Q:K3}
def Hw:R3:=λx y S Q=>∃ds es,x=.tup ds/\y=.tup es/\ds.length+es.length<=sizeLine/\Q (.tup (ds++es)) S
theorem Hz:cY K Hw (Ht K):=show _ by
 intro Z x y S Q3 v w H Q rx ry l h c;obtain⟨ds,es,rfl,rfl,hz,q⟩:=h;cases rx with
 |@tup a vs _ h1 h2 =>
  cases ry with
  |@tup b ws _ h3 h4 =>
   refine⟨a,b,vs,ws,rfl,rfl,h1,h3,by rw[<-h2.len,<-h4.len];exact hz,λe=>?_,λ_=>⟨λe=>?_,λ_=>tup.down q (h2.append h4) l c⟩⟩
   ·subst e;cases h2;rw[M4]at q;exact c _ S _ H (Kp.refl _ _) (.tup h3 h4) l q
   ·subst e;cases h4;rw[nV]at q;exact c _ S _ H (Kp.refl _ _) (.tup h1 h2) l q
theorem zP{ds es:List D}(hz:ds.length+es.length<=sizeLine)(q:Q (.tup (ds++es)) S):Hw (.tup ds) (.tup es) S Q:=⟨ds,es,rfl,rfl,hz,q⟩
def HA:List D->ah->K3->Prop:=λxs S Q=>∃b:Bool,xs=[.bl b]/\Q (.int (if b then 1 else 0)) S
theorem HB:fV K HA (λxs H Q=>∃b:Bool,xs=[.bl b]/\Q (.int (if b then 1 else 0)) H):=show _ by
 intro Z ds S Q3 vs H Q r l h c;obtain⟨b,rfl,q⟩:=h;cases r with
 |cons r rr =>
  cases rr;cases r;exact⟨b,rfl,c _ S _ H (Kp.refl _ _) (.int _) l q⟩
theorem Vb{b:Bool}(q:Q (.int (if b then 1 else 0)) S):HA [.bl b] S Q:=⟨b,rfl,q⟩
theorem Vc{a:Addr}{xs:List Str}{z:Str}(hS:S a=some (.lst (xs.map D.str)))(q:Q (.bl (decide (z∈xs))) S):va false (.str z) (.ref a) S Q :=
 ⟨_,.inl (.inl ⟨a,rfl,hS⟩),rfl,FQ xs,by rw[FP,if_neg cT];exact q⟩
theorem Vd{xs:List Str}{z:Str}(q:Q (.bl (!decide (z∈xs))) S):va true (.str z) (.tup (xs.map D.str)) S Q :=
 ⟨_,.inr rfl,rfl,FQ xs,by rw[FP,if_pos rfl];exact q⟩
theorem Ve{xs:List D}:cutD xs none (some (-1))=xs.dropLast:=by
 unfold cutD HT.aP;simp only[t5,t6];rw[if_pos (by decide),List.dropLast_eq_take];congr 1;lia
end
section
variable{σ:aL}{S:ah}{R:RI}{al:cX}
def HC(R:RI)(xs:List D)(S:ah):Prop:=∃a ds,xs=[.ref a]/\S a=some (.lst ds)/\R ds.reverse (λS=>S a=some (.lst ds)) S
theorem Vf(h:al σ S λxs S1=>HC R xs S1):Hl al σ S R:=h
theorem HD{a:Addr}{ds:List D}(hS:S a=some (.lst ds))(q:R ds.reverse (λS=>S a=some (.lst ds)) S):HC R [.ref a] S:=⟨a,ds,rfl,hS,q⟩
end
def Sy.base:Sy->Option Str
 | .name x=>some x
 | .left a=>a.base
 | .right a=>a.base
 |_=>none
def sE:Option Str->D
 |some x=>.str x
 |none=>.non
def Sy.bases(a:Sy):List Str:=a.base.toList
def Sy.pp(ext:Sy->List Str):Sy->List Str->List (Sy×List Str)
 | .fork a b c,k=>[(a,k),(b,k++ext a),(c,k)]
 |s,k=>s.parts.map λa=>(a,k)
mutual
def Sy.bY(ext:Sy->List Str):Sy->List Str->List (Sy×List Str)
 | .name x,k=>[(.name x,k)]
 | .b6,k=>[(.b6,k)]
 | .pair a b,k=>(.pair a b,k)::(a.bY ext k++b.bY ext k)
 | .left a,k=>(.left a,k)::a.bY ext k
 | .right a,k=>(.right a,k)::a.bY ext k
 | .fork a b c,k=>(.fork a b c,k)::(a.bY ext k++(b.bY ext (k++ext a)++c.bY ext k))
 | .send x as,k=>(.send x as,k)::Sy.mh ext as k
def Sy.mh(ext:Sy->List Str):List Sy->List Str->List (Sy×List Str)
 |[],_=>[]
 |a::as,k=>a.bY ext k++Sy.mh ext as k
end
def dJ(ext:Sy->List Str)(ps:List (Sy×List Str)):List (Sy×List Str):=(ps.map λp=>p.1.bY ext p.2).flatten
theorem HE(ext:Sy->List Str)(k:List Str):∀as:List Sy,Sy.mh ext as k=dJ ext (as.map λa=>(a,k))
 |[]=>rfl
 |a::as=>by rw[Sy.mh,HE ext k as];rfl
theorem oZ(ext:Sy->List Str)(s:Sy)(k:List Str):s.bY ext k=(s,k)::dJ ext (s.pp ext k):=by
 cases s<;>simp[Sy.bY,Sy.pp,Sy.parts,dJ]
 rw[HE];simp[dJ,M5]
theorem vV(ext:Sy->List Str)(as bs:List (Sy×List Str)):dJ ext (as++bs)=dJ ext as++dJ ext bs:=by simp[dJ]
theorem zQ(ext:Sy->List Str)(a:Sy×List Str)(bs:List (Sy×List Str)):dJ ext (a::bs)=a.1.bY ext a.2++dJ ext bs:=by simp[dJ]
theorem zR(ext:Sy->List Str):∀as:List (Sy×List Str),as.length<=(dJ ext as).length
 |[]=>by simp
 |a::as=>by
  have:=zR ext as;rw[zQ,oZ];simp;lia
theorem HF(ext:Sy->List Str)(s:Sy)(k:List Str):(s.pp ext k).map (·.1)=s.parts:=by cases s<;>simp[Sy.pp,Sy.parts,M5]
mutual
theorem Sy.hU(ext:Sy->List Str):∀(s:Sy) (k:List Str),(s.bY ext k).map (·.1)=s.pre
 | .name _,_=>rfl
 | .b6,_=>rfl
 | .pair a b,k=>by simp[Sy.bY,Sy.pre,Sy.hU ext a,Sy.hU ext b]
 | .left a,k=>by simp[Sy.bY,Sy.pre,Sy.hU ext a]
 | .right a,k=>by simp[Sy.bY,Sy.pre,Sy.hU ext a]
 | .fork a b c,k=>by simp[Sy.bY,Sy.pre,Sy.hU ext a,Sy.hU ext b,Sy.hU ext c]
 | .send x as,k=>by simp[Sy.bY,Sy.pre,Sy.HG ext as]
theorem Sy.HG(ext:Sy->List Str):∀(as:List Sy) (k:List Str),(Sy.mh ext as k).map (·.1)=Sy.bV as
 |[],_=>rfl
 |a::as,k=>by simp[Sy.mh,Sy.bV,Sy.hU ext a,Sy.HG ext as]
end
mutual
theorem Sy.kN{e1 e2:Sy->List Str}{R:List Str->List Str->Prop}{A:Sy->Prop}(hA:∀a b c,A (.fork a b c)->A a)(step:∀a k1 k2,A a->R k1 k2->R (k1++e1 a) (k2++e2 a)) :
 ∀(s:Sy) (k1 k2:List Str),(∀a∈s.pre,A a)->R k1 k2->Paired (λp q=>p.1=q.1/\R p.2 q.2) (s.bY e1 k1) (s.bY e2 k2)
 | .name _,k1,k2,_,r=>.cons ⟨rfl,r⟩ .nil
 | .b6,k1,k2,_,r=>.cons ⟨rfl,r⟩ .nil
 | .pair a b,k1,k2,h,r=>.cons ⟨rfl,r⟩ (jK (Sy.kN hA step a k1 k2 (λx hx=>h x (by simp[Sy.pre,hx])) r) (Sy.kN hA step b k1 k2 (λx hx=>h x (by simp[Sy.pre,hx])) r))
 | .left a,k1,k2,h,r=>.cons ⟨rfl,r⟩ (Sy.kN hA step a k1 k2 (λx hx=>h x (by simp[Sy.pre,hx])) r)
 | .right a,k1,k2,h,r=>.cons ⟨rfl,r⟩ (Sy.kN hA step a k1 k2 (λx hx=>h x (by simp[Sy.pre,hx])) r)
 | .fork a b c,k1,k2,h,r=>.cons ⟨rfl,r⟩ (jK (Sy.kN hA step a k1 k2 (λx hx=>h x (by simp[Sy.pre,hx])) r)
  (jK (Sy.kN hA step b _ _ (λx hx=>h x (by simp[Sy.pre,hx])) (step a k1 k2 (hA a b c (h _ (by simp[Sy.pre]))) r)) (Sy.kN hA step c k1 k2 (λx hx=>h x (by simp[Sy.pre,hx])) r)))
 | .send x as,k1,k2,h,r=>.cons ⟨rfl,r⟩ (Sy.HH hA step as k1 k2 (λx hx=>h x (by simp[Sy.pre,hx])) r)
theorem Sy.HH{e1 e2:Sy->List Str}{R:List Str->List Str->Prop}{A:Sy->Prop}(hA:∀a b c,A (.fork a b c)->A a)(step:∀a k1 k2,A a->R k1 k2->R (k1++e1 a) (k2++e2 a)) :
 ∀(as:List Sy) (k1 k2:List Str),(∀a∈Sy.bV as,A a)->R k1 k2->Paired (λp q=>p.1=q.1/\R p.2 q.2) (Sy.mh e1 as k1) (Sy.mh e2 as k2)
 |[],_,_,_,_=>.nil
 |a::as,k1,k2,h,r=>jK (Sy.kN hA step a k1 k2 (λx hx=>h x (by simp[Sy.bV,hx])) r) (Sy.HH hA step as k1 k2 (λx hx=>h x (by simp[Sy.bV,hx])) r)
end
def b_(p:Sy×List Str):D:=.tup [p.1.d,.tup (p.2.map D.str)]
def bb(p:Str)(a:Sy)(k:List Str):Int :=
 match a with
 | .b6=>if p∈k then 2 else 1
 | .name x=>if x=p then 1 else 0
 |a=>if a.base=some p then(if p∈k then 2 else 1) else 0
def cS(told:Str->Sy->List Str->Int)(e:Er)(q:Sy×List Str):List (Str×Str×cI) :=
 match q.1 with
 | .send x as=>[(e.name,x,e.ps.map λp=>as.map λa=>told p a q.2)]
 |_=>[]
def af(g:Str×Str×cI):D:=c_ g.1 g.2.1 g.2.2
def dB(told:Str->Sy->List Str->Int)(ext:Sy->List Str)(prog:List Er):List (Str×Str×cI):=(prog.map λe=>((e.body.bY ext []).map (cS told e)).flatten).flatten
section
variable{K:PySem.W.Frag}{S:ah}{Q:K3}
def HI:R3:=λx y S Q=>∃(o:Option Str) (p:Str),x=sE o/\y=.str p/\Q (.bl (!decide (o=some p))) S
theorem Vg:cY K HI yq:=show _ by
 intro Z x y S Q3 v w H Q rx ry l h c;obtain⟨o,p,rfl,rfl,q⟩:=h;cases ry;cases o with
 |none =>
  cases rx;refine⟨rfl,?_⟩;have e:decide (V.non=V.str p)=decide ((none:Option Str)=some p):=by simp
  rw[e];exact c _ S _ H (Kp.refl _ _) (.bl _) l q
 |some x =>
  cases rx;refine⟨rfl,?_⟩;have e:decide (V.str x=V.str p)=decide (some x=some p):=by rw[fv];simp
  rw[e];exact c _ S _ H (Kp.refl _ _) (.bl _) l q
theorem Vh{o:Option Str}{p:Str}(q:Q (.bl (!decide (o=some p))) S):HI (sE o) (.str p) S Q:=⟨o,p,rfl,rfl,q⟩
end
end E3
namespace E3
open PySem PySem.Spec PyProof.Rows L2 EE
def Sy.txt:Sy->Str
 | .name x=>x
 | .left a=>(a.txt++" ")++"left"
 | .right a=>(a.txt++" ")++"right"
 |_=>""
def Sy.da:Sy->List Str
 | .name x=>[x]
 | .left a=>a.da++[(a.txt++" ")++"left"]
 | .right a=>a.da++[(a.txt++" ")++"right"]
 |_=>[]
def Sy.pfx(s:Sy):List Str:=if s.base.isSome then s.da else[]
def wrap:List Bool->Sy->Sy
 |[],r=>r
 |true::l,r=>.left (wrap l r)
 |false::l,r=>.right (wrap l r)
def mi(b:Bool):Str:=if b then "left" else "right"
theorem zS:∀(bs:List Bool) (r:Sy),(wrap bs r).base=r.base
 |[],_=>rfl
 |true::l,r=>zS l r
 |false::l,r=>zS l r
theorem vW:∀(bs:List Bool) (b:Bool) (r:Sy),wrap (bs++[b]) r=wrap bs (wrap [b] r)
 |[],_,_=>rfl
 |true::l,b,r=>by simp only[lq,wrap,vW l b r]
 |false::l,b,r=>by simp only[lq,wrap,vW l b r]
theorem HJ(b:Bool)(l:List Bool)(r:Sy):(wrap (b::l) r).txt=((wrap l r).txt++" ")++mi b:=by cases b<;>rfl
theorem HK(b:Bool)(l:List Bool)(r:Sy):(wrap (b::l) r).da=(wrap l r).da++[((wrap l r).txt++" ")++mi b]:=by cases b<;>rfl
theorem zT:∀(bs:List Bool) (r:Sy),(wrap bs r).deep=bs.length+r.deep
 |[],_=>by simp[wrap]
 |true::l,r=>by simp only[wrap,Sy.deep,zT l r,cK];lia
 |false::l,r=>by simp only[wrap,Sy.deep,zT l r,cK];lia
theorem o6:∀{s:Sy} {x:Str},s.base=some x->∃l,s.da=x::l
 | .name y,x,h=>by cases h;exact⟨[],rfl⟩
 | .left a,x,h=>let⟨l,e⟩:=o6 (s:=a) h;⟨l++[(a.txt++" ")++"left"],by simp[Sy.da,e]⟩
 | .right a,x,h=>let⟨l,e⟩:=o6 (s:=a) h;⟨l++[(a.txt++" ")++"right"],by simp[Sy.da,e]⟩
 | .b6,_,h=>by cases h
 | .pair _ _,_,h=>by cases h
 | .fork _ _ _,_,h=>by cases h
 | .send _ _,_,h=>by cases h
def cb(p:Str)(a:Sy)(k:List Str):Int :=
 match a with
 | .b6=>1+(if p∈k then 1 else 0)
 |a=>if a.base=some p then 1+(if ∃t∈a.pfx.dropLast,t∈k then 1 else 0) else 0
theorem eq_nil{S:ah}{a b:Addr}{ds:List D}{n:Nat}{Q:K3}(ha:S a=some (.lst ds))(hb:S b=some (.lst []))(hp:∀d∈ds,d.pure=true)(hd:∀d∈ds,cW d.dt+1<=n)(h1:1<=n)(q:Q (.bl ds.isEmpty) S):oF n (.ref a) (.ref b) S Q:=show _ by
 refine⟨.lst (D.cR ds),.lst [],.ref ha (dS.of (D.l9.mpr hp)),.ref hb .nil,?_,?_⟩
 ·simp only[cW];have:d_ (D.cR ds)<=n-1:=by
   rw[D.jN];refine si λd hd'=>?_;obtain⟨x,hx,rfl⟩:=bG.mp hd';have:=hd x hx;lia
  lia
 ·have e:aW (.lst (D.cR ds)) (.lst [])=ds.isEmpty:=by cases ds<;>simp[aW,gB,D.cR]
  rw[e];exact q
theorem HL(a b:Str):(a++b).cps.toList=a.cps.toList++b.cps.toList:=by
 show(xm a b).cps.toList=_;simp[xm]
theorem HM{a b:Str}(h:a.cps.toList=b.cps.toList):a=b:=by
 cases a;cases b;congr 1;exact Array.toList_inj.mp h
def stem(t:Str):List Nat:=t.cps.toList.takeWhile (λc=>c != 32)
theorem zU{p:Nat->Bool}:∀(a b:List Nat),(∀c∈a,p c=true)->(a++b).takeWhile p=a++b.takeWhile p
 |[],_,_=>rfl
 |c::a,b,h=>by
  rw[lq,Dq,if_pos (h c cF),zU a b λd hd=>h d (cL _ hd)];rfl
theorem eV.stem{x:Str}(h:eV x):stem x=x.cps.toList:=by
 obtain⟨cs,rfl,_,_,h⟩:=h;unfold E3.stem;rw[jR];have:=zU cs [] (p:=λc=>c != 32) λc hc=>by
  have:=h c hc;simp;lia
 simpa using this
theorem HN:∀(a b:List Nat),(∃c∈a,c=32)->(a++b).takeWhile (λc=>c != 32)=a.takeWhile (λc=>c != 32)
 |[],_,⟨c,h,_⟩=>by simp at h
 |d::a,b,⟨c,h,e⟩=>by
  rw[lq,Dq,Dq];by_cases hd:d=32
  ·subst hd;rfl
  ·have hb:(d != 32)=true:=show _ by simpa using hd
   rw[if_pos hb,if_pos hb];rcases br.mp h with z|z
   ·exact absurd (z▸e) hd
   ·rw[HN a b ⟨c,z,e⟩]
theorem vY{t u:Str}{x:Str}(hx:eV x)(h:stem t=x.cps.toList)(h2:t=x∨∃c∈t.cps.toList,c=32):stem ((t++" ")++u)=x.cps.toList/\∃c∈((t++" ")++u).cps.toList,c=32:=show _ by
 have eb:(" ":Str).cps.toList=[32]:=by cbv
 have e:((t++" ")++u).cps.toList=t.cps.toList++(32::u.cps.toList):=by
  rw[HL,HL,eb];simp
 refine⟨?_,32,by rw[e];simp,rfl⟩;unfold stem;rw[e];rcases h2 with rfl|h2
 ·obtain⟨cs,rfl,_,_,hc⟩:=hx;rw[jR,zU _ _ λc hh=>by have:=hc c hh;simp;lia];simp
 ·rw[HN _ _ h2];exact h
theorem vZ{x:Str}(hx:eV x):∀{s:Sy},s.base=some x->stem s.txt=x.cps.toList/\(s.txt=x∨∃c∈s.txt.cps.toList,c=32)
 | .name y,h=>by cases h;exact⟨hx.stem,.inl rfl⟩
 | .left a,h=>let⟨h1,h2⟩:=vZ hx (s:=a) h;let⟨h3,h4⟩:=vY (u:="left") hx h1 h2;⟨h3,.inr h4⟩
 | .right a,h=>let⟨h1,h2⟩:=vZ hx (s:=a) h;let⟨h3,h4⟩:=vY (u:="right") hx h1 h2;⟨h3,.inr h4⟩
 | .b6,h=>by cases h
 | .pair _ _,h=>by cases h
 | .fork _ _ _,h=>by cases h
 | .send _ _,h=>by cases h
theorem sF{x:Str}(hx:eV x):∀{s:Sy},s.base=some x->∀t∈s.da,stem t=x.cps.toList
 | .name y,h,t,ht=>by cases h;rw[cz.mp ht];exact hx.stem
 | .left a,h,t,ht=>by
  rcases bF.mp ht with ht|ht
  ·exact sF hx (s:=a) h t ht
  ·rw[cz.mp ht];have:=vZ hx (s:=a) h;exact(vY hx this.1 this.2).1
 | .right a,h,t,ht=>by
  rcases bF.mp ht with ht|ht
  ·exact sF hx (s:=a) h t ht
  ·rw[cz.mp ht];have:=vZ hx (s:=a) h;exact(vY hx this.1 this.2).1
 | .b6,h,_,_=>by cases h
 | .pair _ _,h,_,_=>by cases h
 | .fork _ _ _,h,_,_=>by cases h
 | .send _ _,h,_,_=>by cases h
def kO(k1 k2:List Str):Prop:=∀p,eV p->(p∈k1↔p∈k2)/\∀t∈k2,stem t=p.cps.toList->p∈k2
theorem kO.nil:kO [] []:=λp _=>⟨Iff.rfl,λt ht=>by simp at ht⟩
theorem kO.step{a:Sy}{k1 k2:List Str}(ha:∀x,a.base=some x->eV x)(r:kO k1 k2):kO (k1++a.bases) (k2++a.pfx):=show _ by
 cases hb:a.base with
 |none =>
  have e1:a.bases=[]:=by unfold Sy.bases;rw[hb];rfl
  have e2:a.pfx=[]:=by unfold Sy.pfx;rw[hb];rfl
  rw[e1,e2,nV,nV];exact r
 |some x =>
  have hx:=ha x hb;have e1:a.bases=[x]:=by unfold Sy.bases;rw[hb];rfl
  have e2:a.pfx=a.da:=by unfold Sy.pfx;rw[hb];rfl
  obtain⟨l,el⟩:=o6 hb;have hmem:x∈a.da:=by rw[el];exact cF
  intro p hp;obtain⟨r1,r2⟩:=r p hp;rw[e1,e2];refine⟨⟨λh=>?_,λh=>?_⟩,λt ht es=>?_⟩
  ·rcases bF.mp h with h|h
   ·exact lu _ (r1.mp h)
   ·rw[cz.mp h];exact gg _ hmem
  ·rcases bF.mp h with h|h
   ·exact lu _ (r1.mpr h)
   ·have h1:=sF hx hb p h;rw[hp.stem]at h1;rw[HM h1];simp
  ·rcases bF.mp ht with ht|ht
   ·exact lu _ (r2 t ht es)
   ·have h1:=sF hx hb t ht;rw[es]at h1;rw[HM h1];exact gg _ hmem
theorem Vi{p:Str}{a:Sy}{k1 k2:List Str}(hp:eV p)(r:kO k1 k2):bb p a k1=cb p a k2:=show _ by
 obtain⟨r1,r2⟩:=r p hp;have long:a.base=some p->2<=a.pfx.length->((∃t∈a.pfx.dropLast,t∈k2)↔p∈k1):=λhb hl=>by
  have e2:a.pfx=a.da:=by unfold Sy.pfx;rw[hb];rfl
  obtain⟨l,el⟩:=o6 hb;rw[e2]at hl ⊢;refine⟨λcU=>by obtain⟨t,ht,hk⟩:=cU;exact r1.mpr (r2 t hk (sF hp hb t (List.dropLast_subset _ ht))),λh=>⟨p,?_,r1.mp h⟩⟩;rw[el]at hl ⊢;cases l with
  |nil=>simp at hl
  |cons y l=>simp
 have HP:∀b:Sy,b.base=some p->1<=b.da.length:=λb hb=>by
  obtain⟨l,el⟩:=o6 hb;rw[el];simp
 cases a with
 |b6 =>
  simp only[bb,cb];by_cases h:p∈k1
  ·rw[if_pos h,if_pos (r1.mp h)];rfl
  ·rw[if_neg h,if_neg (λz=>h (r1.mpr z))];rfl
 |name x =>
  simp only[bb,cb,Sy.base,Sy.pfx,Sy.da,C7,if_true,List.dropLast_singleton];by_cases h:x=p
  ·rw[if_pos h,if_pos (by rw[h]),if_neg (by simp)];rfl
  ·rw[if_neg h,if_neg (by simpa using h)]
 |left b =>
  simp only[bb,cb];by_cases h:(Sy.left b).base=some p
  ·have:=long h (by
    have e2:(Sy.left b).pfx=(Sy.left b).da:=by unfold Sy.pfx;rw[h];rfl
    have:=HP b h;rw[e2];simp only[Sy.da,bx,cK,fO];lia)
   rw[if_pos h,if_pos h];by_cases h1:p∈k1
   ·rw[if_pos h1,if_pos (this.mpr h1)];rfl
   ·rw[if_neg h1,if_neg (λz=>h1 (this.mp z))];rfl
  ·rw[if_neg h,if_neg h]
 |right b =>
  simp only[bb,cb];by_cases h:(Sy.right b).base=some p
  ·have:=long h (by
    have e2:(Sy.right b).pfx=(Sy.right b).da:=by unfold Sy.pfx;rw[h];rfl
    have:=HP b h;rw[e2];simp only[Sy.da,bx,cK,fO];lia)
   rw[if_pos h,if_pos h];by_cases h1:p∈k1
   ·rw[if_pos h1,if_pos (this.mpr h1)];rfl
   ·rw[if_neg h1,if_neg (λz=>h1 (this.mp z))];rfl
  ·rw[if_neg h,if_neg h]
 |pair _ _=>simp[bb,cb,Sy.base]
 |fork _ _ _=>simp[bb,cb,Sy.base]
 |send _ _=>simp[bb,cb,Sy.base]
mutual
theorem Sy.hV{ar:Str->Option Nat}{ps:List Str}:∀{s:Sy},s.wf ar ps->∀a∈s.pre,a.wf ar ps
 | .name x,h,a,ha=>by simp only[Sy.pre,cz]at ha;subst ha;exact h
 | .b6,h,a,ha=>by simp only[Sy.pre,cz]at ha;subst ha;exact h
 | .pair x y,h,a,ha=>by
  simp only[Sy.pre,br,bF]at ha;rcases ha with rfl|ha|ha
  ·exact h
  ·simp only[Sy.wf]at h;exact Sy.hV h.1 a ha
  ·simp only[Sy.wf]at h;exact Sy.hV h.2 a ha
 | .left x,h,a,ha=>by
  simp only[Sy.pre,br]at ha;rcases ha with rfl|ha
  ·exact h
  ·simp only[Sy.wf]at h;exact Sy.hV h a ha
 | .right x,h,a,ha=>by
  simp only[Sy.pre,br]at ha;rcases ha with rfl|ha
  ·exact h
  ·simp only[Sy.wf]at h;exact Sy.hV h a ha
 | .fork x y z,h,a,ha=>by
  simp only[Sy.pre,br,bF]at ha;rcases ha with rfl|ha|ha|ha
  ·exact h
  ·simp only[Sy.wf]at h;exact Sy.hV h.1 a ha
  ·simp only[Sy.wf]at h;exact Sy.hV h.2.1 a ha
  ·simp only[Sy.wf]at h;exact Sy.hV h.2.2 a ha
 | .send x as,h,a,ha=>by
  simp only[Sy.pre,br]at ha;rcases ha with rfl|ha
  ·exact h
  ·simp only[Sy.wf]at h;exact Sy.HQ h.2.2.2 a ha
theorem Sy.HQ{ar:Str->Option Nat}{ps:List Str}:∀{as:List Sy},Sy.m9 ar ps as->∀a∈Sy.bV as,a.wf ar ps
 |[],_,a,ha=>by simp[Sy.bV]at ha
 |x::xs,h,a,ha=>by
  simp only[Sy.bV,bF]at ha;simp only[Sy.m9]at h;rcases ha with ha|ha
  ·exact Sy.hV h.1 a ha
  ·exact Sy.HQ h.2 a ha
end
theorem v5{ar:Str->Option Nat}{ps:List Str}:∀{s:Sy} {x:Str},s.wf ar ps->s.base=some x->x∈ps
 | .name y,x,h,hb=>by cases hb;exact h
 | .left a,x,h,hb=>v5 (s:=a) (by simpa only[Sy.wf]using h) hb
 | .right a,x,h,hb=>v5 (s:=a) (by simpa only[Sy.wf]using h) hb
 | .b6,_,_,hb=>by cases hb
 | .pair _ _,_,_,hb=>by cases hb
 | .fork _ _ _,_,_,hb=>by cases hb
 | .send _ _,_,_,hb=>by cases hb
theorem HR{ar:Str->Option Nat}{ps:List Str}{s:Sy}(h:s.wf ar ps):s.parts.length<=4:=by
 cases s<;>simp[Sy.parts]
 simp only[Sy.wf]at h;exact h.2.2.1
theorem Vj{e:Er}{s:Sy}{k1 k2:List Str}(hps:∀x∈e.ps,eV x)(r:kO k1 k2):cS bb e (s,k1)=cS cb e (s,k2):=show _ by
 cases s with
 |send x as =>
  simp only[cS];congr 3;refine ub λp hp=>?_;exact ub λa _=>Vi (hps p hp) r
 |_=>rfl
theorem HS{α β:Type}{F:α->α->Prop}{f g:α->List β}:∀{xs ys:List α},Paired F xs ys->(∀x y,F x y->f x=g y)->(xs.map f).flatten=(ys.map g).flatten
 |_,_,.nil,_=>rfl
 |_,_,.cons h r,hf=>by rw[bT,bT,og,og,hf _ _ h,HS r hf]
theorem Vk{ar:Str->Option Nat}:∀{prog:List Er},(∀e∈prog,(∀x∈e.ps,eV x)/\e.body.wf ar e.ps)->dB bb Sy.bases prog=dB cb Sy.pfx prog:=show _ by
 intro prog h;unfold dB;congr 1;refine ub λe he=>?_;obtain⟨hps,hw⟩:=h e he;refine HS (Sy.kN (R:=kO) (A:=λa=>a.wf ar e.ps) (λa b c z=>by simp only[Sy.wf]at z;exact z.1) (λa k1 k2 ha r=>r.step λx hx=>hps x (v5 ha hx)) e.body [] [] (λa ha=>Sy.hV hw a ha) kO.nil) ?_;rintro⟨s1,k1⟩ ⟨s2,k2⟩ ⟨e1,r⟩;dsimp only at e1 r;subst e1;exact Vj hps r
theorem Vl{told:Str->Sy->List Str->Int}{e:Er}{q:Sy×List Str}:(cS told e q).length<=1:=by
 obtain⟨s,k⟩:=q;cases s<;>simp[cS]
theorem HU{told:Str->Sy->List Str->Int}{e:Er}:∀l:List (Sy×List Str),((l.map (cS told e)).flatten).length<=l.length
 |[]=>by simp
 |q::l=>by
  have h1:=Vl (told:=told) (e:=e) (q:=q);have h2:=HU (told:=told) (e:=e) l;rw[bT,og,bx,cK];lia
theorem Vm(ext:Sy->List Str)(s:Sy)(k:List Str):(s.bY ext k).length=s.pre.length:=by
 rw[<-Sy.hU ext s k,az]
theorem HV{told:Str->Sy->List Str->Int}{e:Er}:∀l:List (Sy×List Str),((l.map (cS told e)).flatten).length=((l.map b8).filter λa=>match a with | .send _ _=>true|_=>false).length
 |[]=>rfl
 |(s,k)::l=>by
  have ih:=HV (told:=told) (e:=e) l;rw[bT,og,bx,bT,ih];cases s<;>simp[cS,List.filter_cons]
  lia
theorem Vn{told:Str->Sy->List Str->Int}{ext:Sy->List Str}{e:Er}:(((e.body.bY ext []).map (cS told e)).flatten).length=e.body.sends:=by
 rw[HV,Sy.hU];rfl
theorem zV{told:Str->Sy->List Str->Int}{ext:Sy->List Str}{z:Nat}:∀{prog:List Er},(∀e∈prog,e.body.sends<=z)->(dB told ext prog).length<=prog.length*z
 |[],_=>by simp[dB]
 |e::prog,h=>by
  have h1:=Vn (told:=told) (ext:=ext) (e:=e);have h0:=h e cF;have h2:=zV (told:=told) (ext:=ext) (prog:=prog) λb hb=>h b (cL _ hb);have e1:dB told ext (e::prog)=((e.body.bY ext []).map (cS told e)).flatten++dB told ext prog:=show _ by simp[dB]
  rw[e1,bx,cK,Nat.succ_mul];lia
theorem HW{ext:Sy->List Str}{m:Nat}(he:∀a,(ext a).length<=m):∀(n:Nat) (s:Sy) (k:List Str),s.deep<=n->∀p∈s.bY ext k,p.2.length<=k.length+n*m
 |0,s,k,h,p,hp=>by cases s<;>simp[Sy.deep]at h
 |n+1,s,k,h,p,hp=>by
  rw[oZ]at hp;rcases br.mp hp with rfl|hp
  ·dsimp only;lia
  ·unfold dJ at hp;obtain⟨l,hl,hp⟩:=Dr.mp hp;obtain⟨⟨a,k'⟩,ha,rfl⟩:=bG.mp hl;have hk:k'.length<=k.length+m/\a.deep<=n:=show _ by
    cases s with
    |fork x y z =>
     simp only[Sy.pp,br,cG,or_false,kh]at ha;simp only[Sy.deep]at h;have:=he x;rcases ha with⟨rfl,rfl⟩|⟨rfl,rfl⟩|⟨rfl,rfl⟩
     ·exact⟨by lia,by lia⟩
     ·exact⟨by rw[bx];lia,by lia⟩
     ·exact⟨by lia,by lia⟩
    |name x=>simp[Sy.pp,Sy.parts]at ha
    |b6=>simp[Sy.pp,Sy.parts]at ha
    |pair x y =>
     simp only[Sy.pp,Sy.parts,bT,kd,br,cG,or_false,kh]at ha;simp only[Sy.deep]at h;rcases ha with⟨rfl,rfl⟩|⟨rfl,rfl⟩<;>exact⟨by lia,by lia⟩
    |left x =>
     simp only[Sy.pp,Sy.parts,bT,kd,br,cG,or_false,kh]at ha;simp only[Sy.deep]at h;obtain⟨rfl,rfl⟩:=ha;exact⟨by lia,by lia⟩
    |right x =>
     simp only[Sy.pp,Sy.parts,bT,kd,br,cG,or_false,kh]at ha;simp only[Sy.deep]at h;obtain⟨rfl,rfl⟩:=ha;exact⟨by lia,by lia⟩
    |send x as =>
     simp only[Sy.pp,Sy.parts,bG,kh]at ha;obtain⟨b,hb,rfl,rfl⟩:=ha;have:=Sy.vG hb;simp only[Sy.deep]at h;exact⟨by lia,by lia⟩
   have:=HW he n a k' hk.2 p hp;have e:(n+1)*m=n*m+m:=Nat.succ_mul n m;lia
theorem Vo(a:Sy):a.bases.length<=1:=by
 unfold Sy.bases;cases a.base<;>simp
theorem zW:∀s:Sy,s.da.length<=s.deep
 | .name _=>by simp[Sy.da,Sy.deep]
 | .left a=>by have:=zW a;simp only[Sy.da,Sy.deep,bx,cK,fO];lia
 | .right a=>by have:=zW a;simp only[Sy.da,Sy.deep,bx,cK,fO];lia
 | .b6=>by simp[Sy.da]
 | .pair _ _=>by simp[Sy.da]
 | .fork _ _ _=>by simp[Sy.da]
 | .send _ _=>by simp[Sy.da]
theorem zX(s:Sy):s.pfx.length<=s.deep:=by
 unfold Sy.pfx
 split
 ·exact zW s
 ·simp
theorem zY{a b:Sy}:∀{as:List Sy},a∈as->b∈a.pre->b∈Sy.bV as
 |c::as,h,hb=>by
  rw[Sy.bV,bF];rcases br.mp h with rfl|h
  ·exact .inl hb
  ·exact .inr (zY h hb)
theorem HX{a:Sy}:∀{as:List Sy},a∈as->a.pre.length<=(Sy.bV as).length
 |c::as,h=>by
  rw[Sy.bV,bx];rcases br.mp h with rfl|h
  ·lia
  ·have:=HX h;lia
structure o7(n:Nat)(e:Er)(s:Sy)(k:List Str):Prop where
 deep:s.deep<=n
 HY:n<=50
 kl:k.length+n*100<=10000
 ps:e.ps.length<=1000
 size:s.pre.length<=100000
 all:∀a∈s.pre,a.parts.length<=1000/\∀x,a.base=some x->x.length<=1000
theorem o7.part{n:Nat}{e:Er}{s:Sy}{k:List Str}(h:o7 (n+1) e s k){a:Sy}{k':List Str}(ha:(a,k')∈s.pp Sy.pfx k):o7 n e a k':=show _ by
 have hmem:a∈s.parts:=by rw[<-HF Sy.pfx s k];exact iQ (f:=b8) ha
 have hpre:∀b∈a.pre,b∈s.pre:=λb hb=>by rw[Sy.m8];exact cL _ (zY hmem hb)
 have hsz:a.pre.length<=s.pre.length:=by
  have:=HX hmem;rw[Sy.m8 s,cK];lia
 have h1:=h.deep;have h2:=h.HY;have h3:=h.kl;have hd:a.deep<=n/\k'.length<=k.length+100:=by
  cases s with
  |fork x y z =>
   simp only[Sy.pp,br,cG,or_false,kh]at ha;simp only[Sy.deep]at h1;have:=zX x;rcases ha with⟨rfl,rfl⟩|⟨rfl,rfl⟩|⟨rfl,rfl⟩
   ·exact⟨by lia,by lia⟩
   ·exact⟨by lia,by rw[bx];lia⟩
   ·exact⟨by lia,by lia⟩
  |name x=>simp[Sy.pp,Sy.parts]at ha
  |b6=>simp[Sy.pp,Sy.parts]at ha
  |pair x y =>
   simp only[Sy.pp,Sy.parts,bT,kd,br,cG,or_false,kh]at ha;simp only[Sy.deep]at h1;rcases ha with⟨rfl,rfl⟩|⟨rfl,rfl⟩<;>exact⟨by lia,by lia⟩
  |left x =>
   simp only[Sy.pp,Sy.parts,bT,kd,br,cG,or_false,kh]at ha;simp only[Sy.deep]at h1;obtain⟨rfl,rfl⟩:=ha;exact⟨by lia,by lia⟩
  |right x =>
   simp only[Sy.pp,Sy.parts,bT,kd,br,cG,or_false,kh]at ha;simp only[Sy.deep]at h1;obtain⟨rfl,rfl⟩:=ha;exact⟨by lia,by lia⟩
  |send x as =>
   simp only[Sy.pp,Sy.parts,bG,kh]at ha;obtain⟨b,hb,rfl,rfl⟩:=ha;have:=Sy.vG hb;simp only[Sy.deep]at h1;exact⟨by lia,by lia⟩
 exact⟨hd.1,by lia,by have:=hd.2;lia,h.ps,by have:=h.size;lia,λb hb=>h.all b (hpre b hb)⟩
def eD(e:Er)(s:Sy)(k:List Str)(j:Nat):List (Str×Str×cI):=cS cb e (s,k)++((dJ Sy.pfx ((s.pp Sy.pfx k).take j)).map (cS cb e)).flatten
theorem zZ{e:Er}{s:Sy}{k:List Str}:eD e s k 0=cS cb e (s,k):=by simp[eD,dJ]
theorem Vp{e:Er}{s:Sy}{k:List Str}{j:Nat}(h:s.parts.length<=j):eD e s k j=((s.bY Sy.pfx k).map (cS cb e)).flatten:=show _ by
 have hl:(s.pp Sy.pfx k).length=s.parts.length:=by rw[<-HF Sy.pfx s k,az]
 unfold eD;rw[ke (by lia),oZ];simp
theorem HZ{e:Er}{s:Sy}{k:List Str}{j:Nat}{a:Sy}{k':List Str}(h:(s.pp Sy.pfx k)[j]?=some (a,k')):eD e s k (j+1)=eD e s k j++((a.bY Sy.pfx k').map (cS cb e)).flatten:=show _ by
 unfold eD;have ht:(s.pp Sy.pfx k).take (j+1)=(s.pp Sy.pfx k).take j++[(a,k')]:=by rw[gu,h];rfl
 rw[ht,vV];simp[dJ]
theorem Vq{e:Er}{s:Sy}{k:List Str}{j:Nat}:(eD e s k j).length<=s.pre.length:=show _ by
 have h1:=HU (told:=cb) (e:=e) (s.bY Sy.pfx k);rw[Vm]at h1;refine b5 ?_ h1;rw[oZ]
 conv=>rhs;rw[<-xA j (s.pp Sy.pfx k)]
 unfold eD;rw[vV];simp only[bT,og,cA,Ds,bx];lia
theorem H_{s:Sy}{k:List Str}{j:Nat}{a:Sy}(h:s.parts[j]?=some a)(hf:∀x y z,s=.fork x y z->j≠1):(s.pp Sy.pfx k)[j]?=some (a,k):=show _ by
 cases s with
 |fork x y z =>
  have hj:=hf x y z rfl
  match j,h,hj with
  |0,h,_=>cases h;rfl
  |1,_,hj=>exact absurd rfl hj
  |2,h,_=>cases h;rfl
  |j+3,h,_=>simp[Sy.parts]at h
 |name x=>simp[Sy.parts]at h
 |b6=>simp[Sy.parts]at h
 |pair x y=>simp only[Sy.pp,aK,h,xK]
 |left x=>simp only[Sy.pp,aK,h,xK]
 |right x=>simp only[Sy.pp,aK,h,xK]
 |send x as=>simp only[Sy.pp,aK,h,xK]
end E3
namespace CL
section
variable{α:Type}[DecidableEq α]
abbrev Fd(α:Type):=List (α×List Int)
def putN(f:Fd α)(g:α)(w:List Int):Option (Fd α):=if g∈f.map b8 then some f else if 40<=f.length then none else some (f++[(g,w)])
def hW:List (Int×α)->Fd α->Option (Fd α)
 |[],f=>some f
 |(n,g)::nb,f=>(putN f g [n]).bind (hW nb)
def put2(fit:α->α->Bool)(cmp:α->α->α)(a:α×List Int):List (Int×α)->Fd α->Option (Fd α)
 |[],f=>some f
 |(n,g)::nb,f=>(if fit a.1 g then putN f (cmp a.1 g) (a.2++[n]) else some f).bind (put2 fit cmp a nb)
def f7(fit:α->α->Bool)(cmp:α->α->α)(nb:List (Int×α)):Nat->Nat->Fd α->Option (Fd α)
 |0,_,f=>some f
 |k+1,place,f=>match f[place]? with
  |none=>some f
  |some a=>(put2 fit cmp a nb f).bind (f7 fit cmp nb k (place+1))
def jk(fit:α->α->Bool)(cmp:α->α->α)(nb:List (Int×α)):Option (Fd α):=(hW nb []).bind (f7 fit cmp nb 41 0)
structure Ok(f:Fd α):Prop where
 nd:(f.map b8).Nodup
 len:f.length<=40
theorem Ok.nil:Ok ([]:Fd α):=⟨by simp,by simp⟩
structure Step(f f':Fd α):Prop where
 ok:Ok f'
 pre:∃r,f'=f++r
theorem Step.trans{f g h:Fd α}(a:Step f g)(b:Step g h):Step f h:=by
 obtain⟨r,e⟩:=a.pre;obtain⟨r',e'⟩:=b.pre;exact⟨b.ok,r++r',by rw[e',e,Dp]⟩
theorem Step.mem{f g:Fd α}(a:Step f g){x:α}(h:x∈f.map b8):x∈g.map b8:=by
 obtain⟨r,e⟩:=a.pre;rw[e,cA];exact lu _ h
theorem Step.at{f g:Fd α}(a:Step f g){i:Nat}{x:α×List Int}(h:f[i]?=some x):g[i]?=some x:=by
 obtain⟨r,e⟩:=a.pre;rw[e,lB (bO.mp h).1];exact h
theorem v7{f f':Fd α}{g:α}{w:List Int}(h:Ok f)(e:putN f g w=some f'):Step f f'/\g∈f'.map b8:=show _ by
 unfold putN at e
 split at e
 ·rename_i hg
  cases e;exact⟨⟨h,[],by simp⟩,hg⟩
 ·rename_i hg
  split at e
  ·cases e
  ·rename_i hl
   cases e;refine⟨⟨⟨?_,?_⟩,_,rfl⟩,by simp⟩
   ·rw[cA,List.nodup_append];refine⟨h.nd,by simp,λa ha b hb=>?_⟩;simp only[bT,kd,cz]at hb;subst hb;rintro rfl;exact hg ha
   ·rw[bx,lC];lia
theorem z0:∀{nb:List (Int×α)} {f f':Fd α},Ok f->hW nb f=some f'->Step f f'/\∀p∈nb,p.2∈f'.map b8
 |[],f,f',h,e=>by cases e;exact⟨⟨h,[],by simp⟩,λp hp=>by cases hp⟩
 |(n,g)::nb,f,f',h,e=>by
  rw[hW,fP]at e;obtain⟨f1,e1,e2⟩:=e;obtain⟨s1,m1⟩:=v7 h e1;obtain⟨s2,m2⟩:=z0 s1.ok e2;refine⟨s1.trans s2,λp hp=>?_⟩;rcases br.mp hp with rfl|hp
  ·exact s2.mem m1
  ·exact m2 p hp
variable{fit:α->α->Bool}{cmp:α->α->α}
theorem z_{a:α×List Int}:∀{nb:List (Int×α)} {f f':Fd α},Ok f->put2 fit cmp a nb f=some f'->Step f f'/\∀p∈nb,fit a.1 p.2=true->cmp a.1 p.2∈f'.map b8
 |[],f,f',h,e=>by cases e;exact⟨⟨h,[],by simp⟩,λp hp=>by cases hp⟩
 |(n,g)::nb,f,f',h,e=>by
  rw[put2,fP]at e;obtain⟨f1,e1,e2⟩:=e;have s1:Step f f1/\(fit a.1 g=true->cmp a.1 g∈f1.map b8):=show _ by
   split at e1
   ·obtain⟨s1,m1⟩:=v7 h e1;exact⟨s1,λ_=>m1⟩
   ·rename_i hf
    cases e1;exact⟨⟨h,[],by simp⟩,λz=>absurd z hf⟩
  obtain⟨s2,m2⟩:=z_ s1.1.ok e2;refine⟨s1.1.trans s2,λp hp hf=>?_⟩;rcases br.mp hp with rfl|hp
  ·exact s2.mem (s1.2 hf)
  ·exact m2 p hp hf
theorem Ia{nb:List (Int×α)}:∀{k place:Nat} {f f':Fd α},Ok f->41<=place+k->f7 fit cmp nb k place f=some f' ->
 Step f f'/\∀i x,place<=i->f'[i]?=some x->∀p∈nb,fit x.1 p.2=true->cmp x.1 p.2∈f'.map b8
 |0,place,f,f',h,hk,e=>by
  cases e;refine⟨⟨h,[],by simp⟩,λi x hi hx=>?_⟩;have:=(bO.mp hx).1;have:=h.len;lia
 |k+1,place,f,f',h,hk,e=>by
  rw[f7]at e;cases ha:f[place]? with
  |none =>
   rw[ha]at e;cases e;refine⟨⟨h,[],by simp⟩,λi x hi hx=>?_⟩;have h1:=(bO.mp hx).1;have h2:=M6.mp ha;lia
  |some a =>
   rw[ha]at e;dsimp only at e;rw[fP]at e;obtain⟨f1,e1,e2⟩:=e;obtain⟨s1,m1⟩:=z_ h e1;obtain⟨s2,m2⟩:=Ia s1.ok (by lia) e2;refine⟨s1.trans s2,λi x hi hx p hp hf=>?_⟩;by_cases sG:i=place
   ·subst sG;have:=(s1.trans s2).at ha;rw[hx]at this;cases this;exact s2.mem (m1 p hp hf)
   ·exact m2 i x (by lia) hx p hp hf
structure Vr(fit:α->α->Bool)(cmp:α->α->α)(nb:List (Int×α))(F:Fd α):Prop where
 ok:Ok F
 own:∀p∈nb,p.2∈F.map b8
 up:∀a∈F.map b8,∀p∈nb,fit a p.2=true->cmp a p.2∈F.map b8
theorem Aa{nb:List (Int×α)}{F:Fd α}(e:jk fit cmp nb=some F):Vr fit cmp nb F:=show _ by
 unfold jk at e;rw[fP]at e;obtain⟨f1,e1,e2⟩:=e;obtain⟨s1,m1⟩:=z0 Ok.nil e1;obtain⟨s2,m2⟩:=Ia s1.ok (by lia) e2;refine⟨s2.ok,λp hp=>s2.mem (m1 p hp),λa ha p hp hf=>?_⟩;obtain⟨x,hx,rfl⟩:=bG.mp ha;obtain⟨i,hi,rfl⟩:=gO hx;exact m2 i _ (by lia) (aU hi) p hp hf
theorem zK{β:Type}[DecidableEq β]:∀{l c:List β},l.Nodup->(∀x∈l,x∈c)->l.length<=c.length
 |[],_,_,_=>eO _
 |x::l,c,h,hs=>by
  have hx:=hs x cF;have h1:=zK (l:=l) (c:=c.erase x) (kc.mp h).2 λy hy=>by
   refine(MZ ?_).mpr (hs y (cL _ hy));rintro rfl;exact(kc.mp h).1 hy
  rw[MX hx]at h1;have:0<c.length:=MY hx;rw[cK];lia
section
variable{β:Type}[DecidableEq β]{φ:α->β}{Gd:α->Prop}{C:List β}(inj:∀a b,Gd a->Gd b->φ a=φ b->a=b)
include inj
end
theorem Vs{nb:List (Int×α)}{k place:Nat}{f:Fd α}(h:f.length<=place):f7 fit cmp nb k place f=some f:=by
 cases k with
 |zero=>rfl
 |succ k=>rw[f7,dh h]
section
variable{Pr:α->Prop}
theorem Ib{f f':Fd α}{g:α}{w:List Int}(h:∀a∈f.map b8,Pr a)(hg:Pr g)(e:putN f g w=some f'):∀a∈f'.map b8,Pr a:=show _ by
 unfold putN at e
 split at e
 ·cases e;exact h
 ·split at e
  ·cases e
  ·cases e;intro a ha;rw[cA]at ha;rcases bF.mp ha with ha|ha
   ·exact h a ha
   ·simp only[bT,kd,cz]at ha;rw[ha];exact hg
theorem Ic:∀{l:List (Int×α)} {f f':Fd α},(∀p∈l,Pr p.2)->(∀a∈f.map b8,Pr a)->hW l f=some f'->∀a∈f'.map b8,Pr a
 |[],f,f',_,h,e=>by cases e;exact h
 |(n,g)::l,f,f',hl,h,e=>by
  rw[hW,fP]at e;obtain⟨f1,e1,e2⟩:=e;exact Ic (λp hp=>hl p (cL _ hp)) (Ib h (hl (n,g) cF) e1) e2
theorem Ig{a:α×List Int}:∀{l:List (Int×α)} {f f':Fd α},(∀p∈l,fit a.1 p.2=true->Pr (cmp a.1 p.2))->(∀a∈f.map b8,Pr a)->put2 fit cmp a l f=some f'->∀a∈f'.map b8,Pr a
 |[],f,f',_,h,e=>by cases e;exact h
 |(n,g)::l,f,f',hl,h,e=>by
  rw[put2,fP]at e;obtain⟨f1,e1,e2⟩:=e;refine Ig (λp hp=>hl p (cL _ hp)) ?_ e2
  split at e1
  ·rename_i hf
   exact Ib h (hl (n,g) cF hf) e1
  ·cases e1;exact h
theorem Ih{nb:List (Int×α)}(hn:∀a,Pr a->∀p∈nb,fit a p.2=true->Pr (cmp a p.2)):∀{k place:Nat} {f f':Fd α},(∀a∈f.map b8,Pr a)->f7 fit cmp nb k place f=some f'->∀a∈f'.map b8,Pr a
 |0,_,f,f',h,e=>by cases e;exact h
 |k+1,place,f,f',h,e=>by
  rw[f7]at e;cases ha:f[place]? with
  |none=>rw[ha]at e;cases e;exact h
  |some a =>
   rw[ha]at e;dsimp only at e;rw[fP]at e;obtain⟨f1,e1,e2⟩:=e;exact Ih hn (Ig (hn a.1 (h a.1 (iQ (f:=b8) (bS ha)))) h e1) e2
theorem Vt{nb:List (Int×α)}{F:Fd α}(h0:∀p∈nb,Pr p.2)(hn:∀a,Pr a->∀p∈nb,fit a p.2=true->Pr (cmp a p.2))(e:jk fit cmp nb=some F):∀a∈F.map b8,Pr a:=show _ by
 unfold jk at e;rw[fP]at e;obtain⟨f1,e1,e2⟩:=e;exact Ih hn (Ic h0 (λa ha=>by simp at ha) e1) e2
end
end
end CL
namespace EE
open PySem PySem.Spec PyProof.Rows L2
abbrev jX(h:Heap)(e it:Addr)(i:Int)(f0 f1 old:Value):Prop :=
 h.get? e=some {cls:=.type "enumerate",dict:=none,data:=.fields #[f0,f1,.ref it,rawInt i,.none,old],slots:=#[]}
def hX(h:Heap)(e it:Addr)(i:Int):Prop:=∃f0 b old,(f0=.none∨∃a:Nat,f0=rawInt a)/\jX h e it i f0 (.bool b) old
section
variable{prog:Program}{w:World}{A:Around}{E:Value->Shared->Prop}{s:Shared}
theorem Vu{M:Model}{a:Addr}{Q:Option Obj->Shared->Prop}(h:Q (s.heap.get? a) s):wpAny M A (loadIfAlive a) Q E s:=λΓ p _=>by
 unfold loadIfAlive;rw[Sem.wp_loadIfAlive];exact h
theorem Vv{e it:Addr}{fp:List Addr}{n i:Nat}{P:Nat->Value->Prop}{St:Nat->Heap->Prop}{Q:Value->Shared->Prop}
 (D:Draws prog w A it fp n P St) (he:hX s.heap e it i) (hst:St i s.heap) (hlt:i<n) (hne:e≠it) (hef:e∉fp)
 (hQ:∀x h' tk,P i x->hX h' e it ((i:Int)+1)->St (i+1) h' ->
  h'.get? s.heap.objs.size=some {cls:=.type "tuple",data:=.seq #[.int i tk,x]}->h'.objs.size=s.heap.objs.size+1 ->
  (∀b o,b≠e->b≠it->s.heap.get? b=some o->h'.get? b=some o)->Q (.ref s.heap.objs.size) {s with heap:=h',toks:=tk+1}) :
 wpAny (model prog w) A (Builtin.«enumerate.__next__» ⟨[.ref e],[]⟩) (λfin s'=>∃v,fin=.done (.ret v)/\Q v s') E s:=show _ by
 obtain⟨f0,b,old,ni,he⟩:=he;obtain⟨hp,g,d,tk₀,os⟩:=s;show wpAny _ _ (field (.ref e) 2 >>= _) _ _ _;refine ak (d0 he rfl (x:=.ref it) rfl ?_);refine ak (D.item i _ _ _ hlt hst λx h₁ tk hPx hit₁ hs₁=>?_);replace hs₁:gc it hp h₁:=hs₁;have he₁:jX h₁ e it i f0 (.bool b) old:=(hs₁.2 e hne).trans he;show wpAny _ _ (field (.ref e) 3 >>= _) _ _ ⟨h₁,g,d,tk,os⟩;refine ak (d0 he₁ rfl (x:=rawInt i) rfl ?_);show wpAny _ _ (field (.ref e) 4 >>= _) _ _ ⟨h₁,g,d,tk,os⟩;refine ak (d0 he₁ rfl (x:=.none) rfl ?_);show wpAny _ _ (mkInt i >>= _) _ _ ⟨h₁,g,d,tk,os⟩;refine ak (wpAny_mkInt ?_);show wpAny _ _ (setField (.ref e) 3 (rawInt ((i:Int)+1)) >>= _) _ _ ⟨h₁,g,d,tk+1,os⟩;refine ak (ip he₁ (by simp) λh₂ he₂ hs₂=>?_);replace hs₂:gc e h₁ h₂:=hs₂;replace he₂:jX h₂ e it ((i:Int)+1) f0 (.bool b) old:=he₂;show wpAny _ _ (setField (.ref e) 4 .none >>= _) _ _ ⟨h₂,g,d,tk+1,os⟩;refine ak (ip he₂ (by simp) λh₃ he₃ hs₃=>?_);replace hs₃:gc e h₂ h₃:=hs₃;replace he₃:jX h₃ e it ((i:Int)+1) f0 (.bool b) old:=he₃;show wpAny _ _ (newTuple [.int i tk,x] >>= _) _ _ ⟨h₃,g,d,tk+1,os⟩;refine ak (wpAny_newTuple ?_);have he₄:jX (h₃.push {cls:=.type "tuple",data:=.seq #[.int i tk,x]}) e it ((i:Int)+1) f0 (.bool b) old:=bC _ he₃;generalize hh₄:h₃.push {cls:=.type "tuple",data:=.seq #[.int i tk,x]}=h₄ at he₄;have hsz:h₃.objs.size=hp.objs.size:=by rw[hs₃.1,hs₂.1,hs₁.1]
 have hel:e<hp.objs.size:=bq he;have ht₄:h₄.get? hp.objs.size=some {cls:=.type "tuple",data:=.seq #[.int i tk,x]}:=by rw[<-hh₄,<-hsz];exact du _ rfl
 have hz₄:h₄.objs.size=hp.objs.size+1:=by rw[<-hh₄,jz,hsz]
 have hk₄:∀b o,b≠e->b≠it->hp.get? b=some o->h₄.get? b=some o:=λb o hbe hbi hb=>by
  rw[<-hh₄];exact bC _ (hs₃.extBut b o hbe (hs₂.extBut b o hbe (hs₁.extBut b o hbi hb)))
 have hit₄:St (i+1) h₄:=D.frame _ _ _ hit₁ λb hb o y=>by
  have hbe:b≠e:=λq=>hef (q▸hb);rw[<-hh₄];exact bC _ (hs₃.extBut b o hbe (hs₂.extBut b o hbe y))
 show wpAny _ _ (qz (.ref e) >>= _) _ _ ⟨h₄,g,d,tk+1,os⟩;rw[hsz];clear hh₄ he₃ hs₃ he₂ hs₂ he₁ hs₁ hit₁ hsz h₃ h₂ h₁;have free:wpAny (model prog w) A (do
  rule "enumerate.__next__.owned-tuple-again"
  let old <-field (.ref e) 5
  setField (.ref e) 5 x
  t9 (.ref e) (.ref hp.objs.size)
  letGo [old] [.ref hp.objs.size]
  PySem.ret (.ref hp.objs.size)) (λfin s'=>∃v,fin=.done (.ret v)/\Q v s') E ⟨h₄,g,d,tk+1,os⟩:=by
  refine ak (lr ?_);refine ak (d0 he₄ rfl (x:=old) rfl ?_);refine ak (ip he₄ (by simp) λh₅ he₅ hs₅=>?_);replace hs₅:gc e h₄ h₅:=hs₅;replace he₅:jX h₅ e it ((i:Int)+1) f0 (.bool b) x:=he₅;show wpAny _ _ (t9 (.ref e) (.ref hp.objs.size) >>= _) _ _ ⟨h₅,g,d,tk+1,os⟩;refine ak ?_;unfold t9;refine ak (ip he₅ (by simp) λh₆ he₆ hs₆=>?_);replace hs₆:gc e h₅ h₆:=hs₆;replace he₆:jX h₆ e it ((i:Int)+1) (rawInt hp.objs.size) (.bool b) x:=he₆;refine ip he₆ (by simp) λh₇ he₇ hs₇=>?_;replace hs₇:gc e h₆ h₇:=hs₇;replace he₇:jX h₇ e it ((i:Int)+1) (rawInt hp.objs.size) (.bool false) x:=he₇;refine ak (qA (aF ⟨_,rfl,hQ x h₇ tk hPx ⟨_,_,_,.inr ⟨_,rfl⟩,he₇⟩ ?_ ?_ ?_ ?_⟩))
  ·exact D.frame _ _ _ hit₄ λb hb o y=>by
    have hbe:b≠e:=λq=>hef (q▸hb);exact hs₇.extBut b o hbe (hs₆.extBut b o hbe (hs₅.extBut b o hbe y))
  ·exact hs₇.extBut _ _ (kb hel) (hs₆.extBut _ _ (kb hel) (hs₅.extBut _ _ (kb hel) ht₄))
  ·rw[hs₇.1,hs₆.1,hs₅.1,hz₄]
  ·exact λb o hbe hbi hb=>hs₇.extBut b o hbe (hs₆.extBut b o hbe (hs₅.extBut b o hbe (hk₄ b o hbe hbi hb)))
 have keep:∀h₅ b',jX h₅ e it ((i:Int)+1) f0 (.bool b') old->gc e h₄ h₅->wpAny (model prog w) A (PySem.ret (.ref hp.objs.size)) (λfin s'=>∃v,fin=.done (.ret v)/\Q v s') E ⟨h₅,g,d,tk+1,os⟩:=λh₅ b' he₅ hs₅=>by
  refine aF ⟨_,rfl,hQ x h₅ tk hPx ⟨_,_,_,ni,he₅⟩ ?_ ?_ ?_ ?_⟩
  ·exact D.frame _ _ _ hit₄ λb hb o y=>by
    have hbe:b≠e:=λq=>hef (q▸hb);exact hs₅.extBut b o hbe y
  ·exact hs₅.extBut _ _ (kb hel) ht₄
  ·rw[hs₅.1,hz₄]
  ·exact λb o hbe hbi hb=>hs₅.extBut b o hbe (hk₄ b o hbe hbi hb)
 refine ak ?_;unfold qz;refine ak (d0 he₄ rfl (x:=f0) rfl ?_);rcases ni with rfl|⟨a,rfl⟩
 ·refine aF ?_;simp only[if_true];exact free
 ·show wpAny _ _ (loadIfAlive (jA a) >>= _) _ _ _;refine ak (Vu ?_);cases hal:h₄.get? (jA a) with
  |none =>
   simp only[hal,Option.isNone_none,if_true];refine aF ?_;simp only[if_true];exact free
  |some o =>
   simp only[hal,Option.isNone_some,iM,if_false];refine ak (d0 he₄ rfl (x:=.bool b) rfl ?_);cases b with
   |true =>
    simp only[bne_self_eq_false,iM,if_false];refine aF ?_;simp only[iM,if_false];exact keep h₄ true he₄ ⟨rfl,λ_ _=>rfl⟩
   |false =>
    rw[if_pos (by decide)];refine ak (ip he₄ (by simp) λh₅ he₅ hs₅=>?_);refine aF ?_;simp only[iM,if_false];exact keep h₅ true he₅ hs₅
theorem Ii{e it:Addr}{fp:List Addr}{n i:Nat}{P:Nat->Value->Prop}{St:Nat->Heap->Prop}{Q:Option Value->Shared->Prop}
 (D:Draws prog w A.in1 it fp n P St) (he:hX s.heap e it i) (hst:St i s.heap) (hlt:i<n) (hne:e≠it) (hef:e∉fp)
 (hQ:∀x h' tk,P i x->hX h' e it ((i:Int)+1)->St (i+1) h' ->
  h'.get? s.heap.objs.size=some {cls:=.type "tuple",data:=.seq #[.int i tk,x]}->h'.objs.size=s.heap.objs.size+1 ->
  (∀b o,b≠e->b≠it->s.heap.get? b=some o->h'.get? b=some o)->Q (some (.ref s.heap.objs.size)) {s with heap:=h',toks:=tk+1}) :
 wpAny (model prog w) A (pyNext (.ref e)) Q E s:=show _ by
 have hT:s.TypeIs (.ref e) "enumerate":=by obtain⟨_,_,_,_,he⟩:=he;exact⟨_,he,rfl⟩
 unfold pyNext;exact ak (qB (jw (name:=ik "__next__") hT uc
  (ig uc hT M7
   (Vv D he hst hlt hne hef λx h' tk a b c d k q=>aF (hQ x h' tk a b c d k q)) (M8 _))))
theorem Ij{e it:Addr}{i:Int}{Q:Option Value->Shared->Prop}(he:hX s.heap e it i)
 (hd:∀(Q':Value->Shared->Prop) (E':Value->Shared->Prop),(∀h' x,t8 it s.heap h'->(∃o,h'.get? x=some o/\o.cls=.type "StopIteration")->E' (.ref x) {s with heap:=h'})->wpAny (model prog w) A.in1 (lH (.ref it)) Q' E' s)
 (hQ:∀h',t8 it s.heap h'->Q none {s with heap:=h'}):wpAny (model prog w) A (pyNext (.ref e)) Q E s:=show _ by
 obtain⟨_,_,_,_,he⟩:=he;have hT:s.TypeIs (.ref e) "enumerate":=⟨_,he,rfl⟩;unfold pyNext;refine ak (qB (jw (name:=ik "__next__") hT uc
  (ig uc hT M7 ?_ (M8 _))))
 show wpAny _ _ (field (.ref e) 2 >>= _) _ _ _;refine ak (d0 he rfl (x:=.ref it) rfl ?_);refine ak (hd _ _ λh' x he' hx'=>?_);obtain⟨o,ho,hc⟩:=hx';refine ak (xa (T:="StopIteration") (b:=true) ⟨o,ho,hc⟩ Di ?_);exact aF (hQ _ he')
theorem sH{e it:Addr}{i:Int}{Q:Value->Shared->Prop}(he:hX s.heap e it i)(h:Q (.ref e) s):wpAny (model prog w) A (pyIter (.ref e)) Q E s:=show _ by
 obtain⟨_,_,_,_,he⟩:=he;have hT:s.TypeIs (.ref e) "enumerate":=⟨_,he,rfl⟩;refine M9 hT M_ (ig M_ hT PySem.F.entry_enumerate_iter ?_ (PySem.F.args_enumerate_iter_1 _));show wpAny _ _ (ret (.ref e)) _ _ s;exact aF ⟨_,rfl,"enumerate",_,hT,uc.lookup,h⟩
theorem Ik{tg:Expr}{e it a:Addr}{i:Int}{Q:Unit->Shared->Prop}(he:hX s.heap e it i)(hQ:∀h',hX h' e it i->gc e s.heap h'->Q () {s with heap:=h'}) :
 wpAny (model prog w) A (letOwnedTupleGo tg (.ref e) (.ref a)) Q E s:=show _ by
 have h0:=he;obtain⟨f0,b,old,ni,he⟩:=he;have same:Q () s:=hQ s.heap h0 ⟨rfl,λ_ _=>rfl⟩;have go:wpAny (model prog w) A (letOwnedTupleGo (.Tuple [] 0 default) (.ref e) (.ref a)) Q E s:=by
  unfold letOwnedTupleGo;refine ak (wpAny_load he ?_);dsimp only
  split
  ·refine ak (lr ?_);show wpAny _ A (setField (.ref e) 0 .none) Q E s;exact ip he (by simp) λh' he' hs'=>hQ h' ⟨_,_,_,.inl rfl,he'⟩ hs'
  ·exact aF same
 cases tg<;>first
  |exact aF same
  |exact go
end
theorem Vw{prog:Program}{w:World}{A:Around}(hh:A.handled=none)(it l:Addr)(hne:l≠it)(items:Array Value) :
 Draws prog w A it [it,l] items.size (λi v=>items[i]?=some v) (λi h=>h.IsTupleIter it l i/\h.IsTuple l items) where
 live:=λ_ _ st=>let⟨o,ho,_⟩:=st.1;⟨o,ho⟩
 frame:=λ_ _ _ st hk=>⟨st.1.at λo e=>hk it (by simp) o e,let⟨o,ho,r⟩:=st.2;⟨o,hk l (by simp) o ho,r⟩⟩
 item:=λi s Q E hi st hQ=>by
  refine vK st.1 st.2 (x:=items[i]) (by simp[hi]) λh' hit' hs'=>?_;exact hQ _ h' s.toks (by simp[hi]) ⟨hit',jT st.2 hs'.extBut hne⟩ hs'
 done:=λs Q E st hE=>vL hh st.1 st.2 (by simp) hE
theorem Vx(l:Addr)(items:Array Value) :
 Meets (Builtin.«enumerate.__new__» ⟨[.type "enumerate",.ref l],[]⟩) (λ_ R s=>s.heap.IsTuple l items /\
  R (.ok (.ret (.ref (s.heap.push {cls:=.type "tuple_iterator",data:=.fields #[.ref l,.int 0 0]}).objs.size)))
   {s with heap:=(s.heap.push {cls:=.type "tuple_iterator",data:=.fields #[.ref l,.int 0 0]}).push {cls:=.type "enumerate",data:=.fields #[.none,.bool false,.ref s.heap.objs.size,rawInt 0,.none,.none]}}) :=
 .of_wp λprog w A R s h=>by
  obtain⟨hp,g,d,tk,os⟩:=s;obtain⟨hl,h⟩:=h;have hsub:=sub_enumerate;have hL:Dj (Dk ⟨hp,g,d,tk,os⟩) l items:=hl
  wp_walk
  refine wpAny_stack_any λst=>aF ?_
  split
  ·rename_i c _ _ _ _ _
   cases (c==Value.type "enumerate")
   ·wp_walk using qq hL
    exact⟨_,rfl,h⟩
   ·wp_walk using qq hL
    exact⟨_,rfl,h⟩
  ·wp_walk using qq hL
   exact⟨_,rfl,h⟩
section
variable{prog:Program}{w:World}{A:Around}{E:Value->Shared->Prop}{s:Shared}
theorem Il{l:Addr}{items:Array Value}{Q:Value->Shared->Prop}(hL:s.heap.IsTuple l items)
 (h:∀h',hX h' (s.heap.objs.size+1) s.heap.objs.size 0->h'.IsTupleIter s.heap.objs.size l 0->h'.objs.size=s.heap.objs.size+2 ->
  (∀b o,s.heap.get? b=some o->h'.get? b=some o)->Q (.ref (s.heap.objs.size+1)) {s with heap:=h'}) :
 wpAny (model prog w) A (call (.type "enumerate") [.ref l]) Q E s:=show _ by
 refine callType_new PySem.F.called_enumerate (by decide) (PySem.F.typeCall_enumerate_1 _) (PySem.F.newCall_enumerate_1 _) (λobj=>PySem.F.args_object_init_2 obj _) PySem.F.entry_enumerate_new
  (Vx l items) ⟨hL,?_⟩
 have hz:(s.heap.push {cls:=.type "tuple_iterator",data:=.fields #[.ref l,.int 0 0]}).objs.size=s.heap.objs.size+1:=jz ..;show _/\_;rw[hz];have he:jX ((s.heap.push {cls:=.type "tuple_iterator",data:=.fields #[.ref l,.int 0 0]}).push
  {cls:=.type "enumerate",data:=.fields #[.none,.bool false,.ref s.heap.objs.size,rawInt 0,.none,.none]}) (s.heap.objs.size+1) s.heap.objs.size 0 .none (.bool false) .none:=by
  have:=du (s.heap.push {cls:=.type "tuple_iterator",data:=.fields #[.ref l,.int 0 0]})
   (o:={cls:=.type "enumerate",data:=.fields #[.none,.bool false,.ref s.heap.objs.size,rawInt 0,.none,.none]}) rfl
  rw[hz]at this;exact this
 refine⟨⟨_,he,rfl⟩,h _ ⟨_,_,_,.inl rfl,he⟩ ⟨_,bC _ (du _ rfl),rfl,rfl⟩ (by rw[jz,hz]) λb o x=>bC _ (bC _ x)⟩
theorem Io{l:Addr}{items:Array Value}{Q:Value->Shared->Prop}(hL:s.heap.IsList l items)
 (h:∀h',hX h' (s.heap.objs.size+1) s.heap.objs.size 0->h'.IsListIter s.heap.objs.size l 0->h'.objs.size=s.heap.objs.size+2 ->
  (∀b o,s.heap.get? b=some o->h'.get? b=some o)->Q (.ref (s.heap.objs.size+1)) {s with heap:=h'}) :
 wpAny (model prog w) A (call (.type "enumerate") [.ref l]) Q E s :=
 call_enumerate_list hL λh' he hi hz hk=>h h' ⟨_,_,_,.inl rfl,he⟩ hi hz hk
end
theorem Vy{X:Cx}{pins:List (Addr×Obj)}{σ:L2.St}{H:Hp}{s:Shared}{h':Heap}{t':Nat}{fp:List Addr}{a:Addr}{o:HO}(I:Inv X pins σ H s)(k:∀b u,b∉fp->s.heap.get? b=some u->h'.get? b=some u)(hf:∀b∈fp,d8 X pins H b)
 (hp:s.heap.objs.size<=a) (new:cM X.prog X.w (upd H a o) h' a o):Inv X pins σ (upd H a o) {s with heap:=h',toks:=t'}:=show _ by
 have hn:H a=none:=I.hok.fresh hp;have lQ:∀b u,H b=some u->b∉fp:=λb u e z=>by
  rw[(hf b z).1]at e;cases e
 refine I.step (g':=s.gens) (d':=s.drawn) (ch:=fp) (λb hb=>?_) (λb o _ _ hc e _=>k b o hc e) (λb o _ _ hc e _=>⟨o.slots,k b o hc e⟩) (λb u _ e n=>?_) (λb o hc e=>⟨o,k b o hc e⟩) (λb xs e=>?_) (λb u v e=>?_)
  (λb ps e=>⟨#[],by rw[bo (ir e hn),e];simp⟩) (λm hm=>?_) (λb u e=>?_) I.bare
 ·obtain⟨f0,f1,f2,f3,f4,f5⟩:=hf b hb;exact⟨f3,f1,f4,f5⟩
 ·rw[bo (dj (dO (bq e) hp))];exact n
 ·rw[bo (ir e hn)];exact e
 ·rw[bo (ir e hn)];exact e
 ·obtain⟨o,es,ep,ho,r⟩:=hm;exact⟨o,es,ep,k _ o (λz=>(hf _ z).2.1 rfl) ho,r⟩
 ·by_cases hb:b=a
  ·subst hb;rw[eP]at e;cases e;exact new
  ·rw[bo hb]at e;refine(I.hok b u e).stay (λc v hc q=>k c v ?_ q) (λc q=>by rw[bo (ir q hn)];exact q) λc xs q=>by rw[bo (ir q hn)];exact q
   rcases hc with z|z
   ·rw[z];exact lQ b u e
   ·exact lQ c _ z
def jY(sq:Hp->List V->Prop):It :=
 ⟨λi H=>∃xs,sq H xs/\i<xs.length,λi H x H'=>∃p y,x=.ref p/\H p=none/\H'=upd H p (.tup [.int i,y])/\∀xs,sq H xs->xs[i]?=some y,λi H=>∃xs,sq H xs/\xs.length<=i⟩
theorem Ip{X:Cx}{pins:List (Addr×Obj)}{σ:L2.St}{H:Hp}{s:Shared}{h':Heap}{e it:Addr}{i:Nat}{tk:Nat}{u:Value}{y:V}(I:Inv X pins σ H s)(hf:∀b∈[e,it],d8 X pins H b)(ru:RelV y u)
 (hT:h'.get? s.heap.objs.size=some {cls:=.type "tuple",data:=.seq #[.int i tk,u]}) (k:∀b o,b≠e->b≠it->s.heap.get? b=some o->h'.get? b=some o) :
 Inv X pins σ (upd H s.heap.objs.size (.tup [.int i,y])) {s with heap:=h',toks:=tk+1} :=
 Vy (fp:=[e,it]) I (λb o n q=>k b o (λz=>n (by simp[z])) (λz=>n (by simp[z])) q) hf (a8 _) ⟨(by decide:2<=sizeLine),[.int i tk,u],.cons ⟨tk,rfl⟩ (.cons ru .nil),⟨_,hT,rfl,_,rfl⟩,λo q=>by rw[hT]at q;cases q;rfl⟩
theorem Iq{P:Program}{w:World}{K:ax}{tg:Expr}(l e it:Addr)(hne:e≠it):Turn P w K tg (jY λH xs=>bc K H l xs) [e,it] e (λi h=>hX h e it i/\h.IsListIter it l i) where
 mem:=cF
 obj:=λi h st c hc=>by
  obtain⟨⟨f0,b,old,_,s1⟩,⟨o2,s2,_,d2⟩⟩:=st;simp only[br,cG,or_false]at hc;rcases hc with rfl|rfl
  ·exact⟨_,s1,λv z=>nomatch z⟩
  ·exact⟨_,s2,λv z=>by rw[d2]at z;cases z⟩
 keep:=λi h h' st kk=>by
  obtain⟨⟨f0,b,old,ni,s1⟩,s2⟩:=st;exact⟨⟨f0,b,old,ni,kk e (by simp) _ s1⟩,s2.at λo q=>kk it (by simp) o q⟩
 item:=show _ by
  intro X hP hw hK hc i pins s σ H E I hf st hg;subst hP hw hK;obtain⟨xs,hq,hi⟩:=hg;obtain⟨its,rv,pt,hz⟩:=I.list hq;have hl:=rv.length;obtain⟨u,hu,ru⟩:=rv.get (aU hi);have ps:s.heap.IsList l its.toArray:=pt.isList;have hle:l≠e:=by
   rintro rfl;obtain⟨o,q,c,_⟩:=ps;obtain⟨_,_,_,_,q2⟩:=st.1;rw[q2]at q;cases q;exact absurd (xM c) (by decide)
  have hli:l≠it:=by
   rintro rfl;obtain⟨o,q,c,_⟩:=ps;obtain⟨o2,q2,c2,_⟩:=st.2;rw[q2]at q;cases q;rw[c2]at c;exact absurd (xM c) (by decide)
  refine Ii (Draws.list (A:=X.A.in1) (show X.A.in1.handled=none from I.ok.hd hc) it l hli its.toArray) st.1 ⟨st.2,ps⟩ (by rw[cu];lia) hne (by simp[hne,bE hle]) λx h' tk hx he hst hT hsz k=>?_;have ex:u=x:=by
   have e1:its[i]?=some x:=by simpa using hx
   rw[hu]at e1;exact dN e1
  subst ex;refine⟨_,rfl,Ik (s:={s with heap:=h',toks:=tk+1}) he λh2 he2 sb=>?_⟩;have el:e<s.heap.objs.size:=by obtain⟨_,_,_,_,q⟩:=st.1;exact bq q
  have il:it<s.heap.objs.size:=by obtain⟨_,q,_⟩:=st.2;exact bq q
  have k2:∀b o,b≠e->b≠it->s.heap.get? b=some o->h2.get? b=some o:=λb o n1 n2 q=>(sb.2 b n1).trans (k b o n1 n2 q);have e1:((i:Int)+1)=((i+1:Nat):Int):=by lia
  rw[e1]at he2;have Im:=Ip (s:=s) (i:=i) (y:=xs[i]) (tk:=tk) I hf ru ((sb.2 _ (kb el)).trans hT) k2;refine⟨.ref s.heap.objs.size,_,Im,rfl,⟨_,xs[i],rfl,I.hok.fresh (a8 _),rfl,λzs hy=>by rw[I.uq hy hq];exact aU hi⟩,
   ⟨he2,hst.1.at λo q=>(sb.2 it (bE hne)).trans q⟩,λc hc'=>?_⟩
  simp only[br,cG,or_false]at hc';rcases hc' with rfl|rfl
  ·rw[bo (dj el)];exact(hf _ (by simp)).1
  ·rw[bo (dj il)];exact(hf _ (by simp)).1
 done:=by
  intro X hP hw hK hc i pins s σ H E I hf st hg;subst hP hw hK;obtain⟨xs,hq,hi⟩:=hg;obtain⟨its,rv,pt,hz⟩:=I.list hq;have hl:=rv.length;have ps:s.heap.IsList l its.toArray:=pt.isList;refine Ij st.1 (λQ' E' hE=>wpAny_nextOf_list_end (I.ok.hd hc) st.2 ps (by simp;lia) hE) λh' eb=>⟨rfl,vJ (t':=s.toks) (fp:=[e,it]) I (λc o n q=>eb c o (λz=>n (by simp[z])) q) hf⟩
 self:=λ_ _ _ _ _ st h=>sH st.1 h
theorem Ir{P:Program}{w:World}{K:ax}{tg:Expr}(l e it:Addr)(hne:e≠it):Turn P w K tg (jY λH xs=>bz K H l xs) [e,it] e (λi h=>hX h e it i/\h.IsTupleIter it l i) where
 mem:=cF
 obj:=λi h st c hc=>by
  obtain⟨⟨f0,b,old,_,s1⟩,⟨o2,s2,_,d2⟩⟩:=st;simp only[br,cG,or_false]at hc;rcases hc with rfl|rfl
  ·exact⟨_,s1,λv z=>nomatch z⟩
  ·exact⟨_,s2,λv z=>by rw[d2]at z;cases z⟩
 keep:=λi h h' st kk=>by
  obtain⟨⟨f0,b,old,ni,s1⟩,s2⟩:=st;exact⟨⟨f0,b,old,ni,kk e (by simp) _ s1⟩,s2.at λo q=>kk it (by simp) o q⟩
 item:=show _ by
  intro X hP hw hK hc i pins s σ H E I hf st hg;subst hP hw hK;obtain⟨xs,hq,hi⟩:=hg;obtain⟨its,rv,pt,hz⟩:=I.tuple hq;have hl:=rv.length;obtain⟨u,hu,ru⟩:=rv.get (aU hi);have ps:s.heap.IsTuple l its.toArray:=pt;have hle:l≠e:=by
   rintro rfl;obtain⟨o,q,c,_⟩:=ps;obtain⟨_,_,_,_,q2⟩:=st.1;rw[q2]at q;cases q;exact absurd (xM c) (by decide)
  have hli:l≠it:=by
   rintro rfl;obtain⟨o,q,c,_⟩:=ps;obtain⟨o2,q2,c2,_⟩:=st.2;rw[q2]at q;cases q;rw[c2]at c;exact absurd (xM c) (by decide)
  refine Ii (Vw (A:=X.A.in1) (show X.A.in1.handled=none from I.ok.hd hc) it l hli its.toArray) st.1 ⟨st.2,ps⟩ (by rw[cu];lia) hne (by simp[hne,bE hle]) λx h' tk hx he hst hT hsz k=>?_;have ex:u=x:=by
   have e1:its[i]?=some x:=by simpa using hx
   rw[hu]at e1;exact dN e1
  subst ex;refine⟨_,rfl,Ik (s:={s with heap:=h',toks:=tk+1}) he λh2 he2 sb=>?_⟩;have el:e<s.heap.objs.size:=by obtain⟨_,_,_,_,q⟩:=st.1;exact bq q
  have il:it<s.heap.objs.size:=by obtain⟨_,q,_⟩:=st.2;exact bq q
  have k2:∀b o,b≠e->b≠it->s.heap.get? b=some o->h2.get? b=some o:=λb o n1 n2 q=>(sb.2 b n1).trans (k b o n1 n2 q);have e1:((i:Int)+1)=((i+1:Nat):Int):=by lia
  rw[e1]at he2;have Im:=Ip (s:=s) (i:=i) (y:=xs[i]) (tk:=tk) I hf ru ((sb.2 _ (kb el)).trans hT) k2;refine⟨.ref s.heap.objs.size,_,Im,rfl,⟨_,xs[i],rfl,I.hok.fresh (a8 _),rfl,λzs hy=>by rw[I.qM hy hq];exact aU hi⟩,
   ⟨he2,hst.1.at λo q=>(sb.2 it (bE hne)).trans q⟩,λc hc'=>?_⟩
  simp only[br,cG,or_false]at hc';rcases hc' with rfl|rfl
  ·rw[bo (dj el)];exact(hf _ (by simp)).1
  ·rw[bo (dj il)];exact(hf _ (by simp)).1
 done:=by
  intro X hP hw hK hc i pins s σ H E I hf st hg;subst hP hw hK;obtain⟨xs,hq,hi⟩:=hg;obtain⟨its,rv,pt,hz⟩:=I.tuple hq;have hl:=rv.length;have ps:s.heap.IsTuple l its.toArray:=pt;refine Ij st.1 (λQ' E' hE=>vL (I.ok.hd hc) st.2 ps (by simp;lia) hE) λh' eb=>⟨rfl,vJ (t':=s.toks) (fp:=[e,it]) I (λc o n q=>eb c o (λz=>n (by simp[z])) q) hf⟩
 self:=λ_ _ _ _ _ st h=>sH st.1 h
section
variable{X:Cx}{tg a:Expr}{ta:TA}{p pos:Pos}
def Ab(K:ax)(ta:TA):TI:=λσ H R=>ta σ H λvs H1=>∃l,vs=[.ref l]/\(((∃xs,bc K H1 l xs)/\R (jY λH xs=>bc K H l xs) H1)∨((∃xs,bz K H1 l xs)/\R (jY λH xs=>bz K H l xs) H1))
theorem Vz{pins:List (Addr×Obj)}{σ:L2.St}{H1:Hp}{s1:Shared}{l:Addr}{R:It->Hp->Prop}(I1:Inv X pins σ H1 s1)(q:((∃xs,bc X.K H1 l xs)/\R (jY λH xs=>bc X.K H l xs) H1)∨((∃xs,bz X.K H1 l xs)/\R (jY λH xs=>bz X.K H l xs) H1)) :
 wpAny (model X.prog X.w) X.A (call (.type "enumerate") [.ref l]) (λv s2=>wpAny (model X.prog X.w) X.A (pyIter v) (yi X pins σ tg R) X.xe s2) X.xe s1:=show _ by
 have hne:s1.heap.objs.size+1≠s1.heap.objs.size:=by lia
 have fin:∀(h':Heap),(∀b o,s1.heap.get? b=some o->h'.get? b=some o)->Inv X pins σ H1 {s1 with heap:=h'}/\∀b∈[s1.heap.objs.size+1,s1.heap.objs.size],d8 X pins H1 b:=λh' k=>⟨I1.kept (t':=s1.toks) k,λb hb=>by
  have cl:s1.heap.objs.size<=b:=by
   simp only[br,cG,or_false]at hb;lia
  exact I1.lV cl (I1.hok.fresh cl)⟩
 rcases q with⟨⟨xs,hx⟩,q⟩|⟨⟨xs,hx⟩,q⟩
 ·obtain⟨its,rv,pt,_⟩:=I1.list hx;refine Io pt.isList λh' he hi hz k=>sH he ?_;obtain⟨I2,f2⟩:=fin h' k;exact⟨_,_,_,_,H1,rfl,I2,Iq l _ _ hne,⟨he,hi⟩,f2,q⟩
 ·obtain⟨its,rv,pt,_⟩:=I1.tuple hx;refine Il (show s1.heap.IsTuple l its.toArray from pt) λh' he hi hz k=>sH he ?_;obtain⟨I2,f2⟩:=fin h' k;exact⟨_,_,_,_,H1,rfl,I2,Ir l _ _ hne,⟨he,hi⟩,f2,q⟩
theorem VA(hg:Gl X "enumerate")(hm:X.mg "enumerate"=none)(ha:PA X [a] ta)(hs:starEach [a] X.env=[(false,eval a X.env)]:=by rfl):PI X tg (.Call (.Name "enumerate" p) [a] [] pos) (Ab X.K ta):=show _ by
 intro pins s σ H R I h;refine Call_ (jD I hg hm boot_enumerate (mE (aO (ha pos pins s σ H _ I h) λus s1 ⟨vs,H1,I1,r1,q1⟩=>?_) hs rfl));obtain⟨l,rfl,q⟩:=q1;obtain⟨u,rfl,r⟩:=vals1 r1;cases r;exact Vz I1 q
end
def sI(X:Cx):Cx:={X with A:=X.A.in1.in1}
theorem inv2{X:Cx}{pins:List (Addr×Obj)}{σ:L2.St}{H:Hp}{s:Shared}(I:Inv X pins σ H s):Inv (sI X) pins σ H s :=
 ⟨⟨I.ok.mod,I.ok.kind,I.ok.glob,I.ok.blt,I.ok.above,I.ok.inj,I.ok.has,I.ok.cab,I.ok.hd,I.ok.frames,I.ok.mO,I.ok.qJ,I.ok.bs,I.ok.iy,I.ok.lN,I.ok.lP,I.ok.fR,I.ok.jC⟩,I.os,I.bare,I.base,I.loc,I.cell,I.free,I.fS,I.pin,I.hok,I.len⟩
theorem Iu{X:Cx}{pins:List (Addr×Obj)}{σ:L2.St}{H:Hp}{s:Shared}(I:Inv (sI X) pins σ H s)(ok:X.Ok):Inv X pins σ H s:=⟨ok,I.os,I.bare,I.base,I.loc,I.cell,I.free,I.fS,I.pin,I.hok,I.len⟩
theorem Iv{X:Cx}{pins:List (Addr×Obj)}{H:Hp}{b:Addr}(h:d8 X pins H b):d8 (sI X) pins H b:=h
section
variable{X:Cx}{pins:List (Addr×Obj)}{σ:L2.St}{J:It}{fp:List Addr}{it D:Addr}{tn:Nat->Heap->Prop}{R:Result->Shared->Prop}
theorem VB(hc:X.calm=true)(ok:X.Ok){nx:Str}{px:Pos}(T:Turn X.prog X.w X.K (.Name nx px) J fp it tn)(W:Nat->Nat->Hp->Prop)
 (turn:∀i m H2,W i m H2->(J.stop i H2/\∀s',Inv X pins σ H2 s'->R (.ok (.ret .none)) s')∨(J.go i H2/\∀v H',J.lU i H2 v H'->∃ys,H' D=some (.lst ys)/\ys.length<sizeLine/\∃m',m'<m/\W (i+1) m' (upd H' D (.lst (ys++[v]))))) :
 ∀(m i:Nat) (H2:Hp) (s:Shared),W i m H2->Inv X pins σ H2 s->(∀b∈fp,d8 X pins H2 b)->tn i s.heap->codeAny (model X.prog X.w) X.A.in1 (.builtin "list.extend.loop" ⟨[.ref D,.ref it,.none],[]⟩) R s:=show _ by
 intro m
 induction m using M' with
 |ind m ih =>
  intro i H2 s w I hf st;refine Du PySem.F.entry_extend_loop ?_;rw[Dv Dw _];show wpAny _ X.A.in1.in1 (pyNext (.ref it) >>= _) _ _ s;rcases turn i m H2 w with⟨stop,fin⟩|⟨go,step⟩
  ·refine ak (aO (T.done (sI X) rfl rfl rfl hc i pins s σ H2 _ (inv2 I) (λb hb=>Iv (hf b hb)) st stop) λr s1 ⟨hr,I1⟩=>?_);subst hr;exact aF (fin s1 (Iu I1 ok))
  ·refine ak (aO (T.item (sI X) rfl rfl rfl hc i pins s σ H2 _ (inv2 I) (λb hb=>Iv (hf b hb)) st go) λr s1 ⟨u,hr,h1⟩=>?_);subst hr;show wpAny _ X.A.in1.in1 (letOwnedTupleGo (.Name nx px) (.ref it) u >>= λ_=>updateSeq D (·.push u) >>= λ_=>again (.builtin "list.extend.loop" ⟨[.ref D,.ref it,.none],[]⟩)) _ _ s1;refine ak (aO h1 λ_ s2 ⟨v,H3,I3,rv,hy,st3,iV⟩=>?_);obtain⟨ys,hD,hz,m',hm,w'⟩:=step v H3 hy;have Iw:=Iu I3 ok;obtain⟨z,its,n,r,hl,e⟩:=Iw.kA hD;have I4:=Iw.rm (its':=its++[u]) (f:=(·.push u)) (t':=s2.toks) hD e (by simp) (r.append (.cons rv .nil)) (by rw[bx,lC];lia);have hDf:∀b∈fp,b≠D:=λb hb z=>by rw[z]at hb;rw[iV D hb]at hD;cases hD
   refine ak (xN e rfl (aF ⟨xO Dw _,ih m' hm (i+1) _ _ w' I4 (λb hb=>?_) (T.keep _ _ _ st3 λb hb o q=>?_)⟩) ?_)
   ·obtain⟨f0,f⟩:=hf b hb;exact⟨by rw[bo (hDf b hb)];exact iV b hb,f⟩
   ·exact(qv _ _ (bE (hDf b hb))).trans q
   ·simp only[cu,Array.size_push];have:=r.length;lia
end
namespace FE
theorem VC:typeLookup (.type "enumerate") "__len__"=pure none:=by rw[xt,xu];kernel_rfl
theorem VD:typeLookup (.type "enumerate") "__length_hint__"=pure none:=by rw[xt,xu];kernel_rfl
end FE
section
variable{X:Cx}{a:Expr}{ta:TA}{p p2 pos pos2:Pos}{g:TG}{tt:TT}{te:TE}
theorem VE(hc:X.calm=true)(gl:Gl X "list")(ml:X.mg "list"=none)(ge:Gl X "enumerate")(me:X.mg "enumerate"=none)(ha:PA X [a] ta)
 (hg:∀v o H Q,g v [o] H Q->Q [some v] H) (ht:∀τ H Q,tt τ H Q->Q true H) (he:∀v H Q,te [some v] H Q->Q v H)
 (hs:starEach [.Call (.Name "enumerate" p2) [a] [] pos2] X.env=[(false,eval (.Call (.Name "enumerate" p2) [a] [] pos2) X.env)]:=by rfl) (hs2:starEach [a] X.env=[(false,eval a X.env)]:=by rfl) :
 PE X (.Call (.Name "list" p) [.Call (.Name "enumerate" p2) [a] [] pos2] [] pos) (vI (Ab X.K ta) g tt te 1 []):=show _ by
 intro pins s σ H Q I h;refine Call_ (jD I gl ml iR (mE ?_ hs rfl));rw[hs];show wpAny _ _ (spliced ((false,eval (.Call (.Name "enumerate" p2) [a] [] pos2) X.env)::backTo pos [])) _ _ s;refine Mi (Call_ (jD I ge me boot_enumerate (mE (aO (ha pos2 pins s σ H _ I h) λus s1 ⟨vs,H1,I1,r1,q1⟩=>?_) hs2 rfl)));obtain⟨l,rfl,q⟩:=q1;obtain⟨u,rfl,r⟩:=vals1 r1;cases r;have main:∀(J:It) (tn:Nat->Heap->Prop) (h':Heap),Turn X.prog X.w X.K (.Name "x" p) J [s1.heap.objs.size+1,s1.heap.objs.size] (s1.heap.objs.size+1) tn->tn 0 h'->(∀i h,tn i h->hX h (s1.heap.objs.size+1) s1.heap.objs.size i)->h'.objs.size=s1.heap.objs.size+2 ->
  (∀b o,s1.heap.get? b=some o->h'.get? b=some o) ->
  (∀D,H1 D=none->∃W:Nat->Nat->L2.St->Hp->Prop,(∃m,W 0 m (fK 1 none++pick σ []) (upd H1 D (.lst []))) /\
   ∀i m τ H2,W i m τ H2->(J.stop i H2/\Q (.ref D) H2)∨(J.go i H2/\∃N:L2.St->Hp->Prop,(∀bp H',N bp H'->∃m',m'<m/\W (i+1) m' bp H')/\∀v H',J.lU i H2 v H' ->
    g v τ H' λbp H3=>tt bp H3 λb H4=>if b=true then te bp H4 λy H5=>∃ys,H5 D=some (.lst ys)/\ys.length<sizeLine/\N bp (upd H5 D (.lst (ys++[y]))) else N bp H4)) ->
  wpAny (model X.prog X.w) X.A (spliced (backTo pos [])) (λvs s3=>wpAny (model X.prog X.w) X.A (call (.type "list") (.ref (s1.heap.objs.size+1)::vs)) (EP X pins σ Q) X.xe s3) X.xe {s1 with heap:=h'}:=λJ tn h' T st hE hz k q=>by
  refine Mh ?_;have I2:Inv X pins σ H1 {s1 with heap:=h'}:=I1.kept (t':=s1.toks) k;have f2:∀b∈[s1.heap.objs.size+1,s1.heap.objs.size],d8 X pins H1 b:=λb hb=>by
   have cl:s1.heap.objs.size<=b:=by
    simp only[br,cG,or_false]at hb;lia
   exact I1.lV cl (I1.hok.fresh cl)
  have VF:H1 h'.objs.size=none:=I2.hok.fresh (a8 _);obtain⟨W,⟨m0,w0⟩,turn⟩:=q h'.objs.size VF;have I3:Inv X pins σ (upd H1 h'.objs.size (.lst [])) {s1 with heap:=h'.push {cls:=.type "list",data:=.seq #[]}}:=I2.uJ (its:=[]) (t':=s1.toks) .nil (eO _);have st3:tn 0 (h'.push {cls:=.type "list",data:=.seq #[]}):=T.keep _ _ _ st λb hb o q=>bC _ q;have ne3:∀b∈[s1.heap.objs.size+1,s1.heap.objs.size],b≠h'.objs.size:=λb hb=>by
   simp only[br,cG,or_false]at hb;rw[hz];lia
  have f3:∀b∈[s1.heap.objs.size+1,s1.heap.objs.size],d8 X pins (upd H1 h'.objs.size (.lst [])) b:=λb hb=>by
   obtain⟨f0,f⟩:=f2 b hb;exact⟨by rw[bo (ne3 b hb)];exact f0,f⟩
  refine callType_codes (Q₁:=λobj s₁=>obj=.ref h'.objs.size/\s₁={s1 with heap:=h'.push {cls:=.type "list",data:=.seq #[]}}) PySem.F.called_list (PySem.F.typeCall_list_1 _) PySem.F.entry_list_init
   (code_list_new (s:={s1 with heap:=h'}) _ ⟨rfl,rfl⟩) λobj s₁ h₁=>?_
  obtain⟨rfl,rfl⟩:=h₁;have hS:(h'.push {cls:=.type "list",data:=.seq #[]}).get? h'.objs.size=some {cls:=.type "list",data:=.seq #[]}:=du _ rfl;refine⟨⟨_,hS,rfl⟩,PySem.F.args_list_init_2 _ _,?_⟩;show wpAny _ X.A.in1.in1 (do let old <-Nc (.ref h'.objs.size);Builtin.List.listUpdate (.ref h'.objs.size) (λ_=>#[]);letGo old.toList.reverse;Dx (.ref h'.objs.size) (.ref (s1.heap.objs.size+1)) .none) _ _ _;refine ak ?_;unfold Nc;refine ak (jr hS rfl (aF ?_));show wpAny _ X.A.in1.in1 (updateSeq h'.objs.size (λ_=>#[]) >>= λ_=>letGo (#[]:Array Value).toList.reverse >>= λ_=>Dx (.ref h'.objs.size) (.ref (s1.heap.objs.size+1)) .none) _ _ _;have upI:∀{Hx:Hp} {sx:Shared} (f:Array Value->Array Value) (its its':List Value) (n:Nat),Inv X pins σ Hx sx->Hx h'.objs.size=some (.lst [])->sx.heap.get? h'.objs.size=some {cls:=.type "list",data:=.seq its.toArray n}->True:=λ_ _ _ _ _ _ _=>trivial;refine ak (xN hS rfl ?_);have e4:=qu (fM (λ_=>(#[]:Array Value))) hS rfl;have k4:∀b o,b≠h'.objs.size->(h'.push {cls:=.type "list",data:=.seq #[]}).get? b=some o->((h'.push {cls:=.type "list",data:=.seq #[]}).update h'.objs.size (fM (λ_=>(#[]:Array Value)))).get? b=some o:=λb o n q=>(qv _ _ (bE n)).trans q;refine ak (qA ?_);unfold Dx;have nh:tn 0 ((h'.push {cls:=.type "list",data:=.seq #[]}).update h'.objs.size (fM (λ_=>(#[]:Array Value)))):=T.keep _ _ _ st3 λb hb o q=>k4 b o (ne3 b hb) q;generalize hg4:(h'.push {cls:=.type "list",data:=.seq #[]}).update h'.objs.size (fM (λ_=>(#[]:Array Value)))=h4 at e4 k4 nh;have Ac:({s1 with heap:=h4}:Shared).TypeIs (.ref (s1.heap.objs.size+1)) "enumerate":=by obtain⟨_,_,_,_,q⟩:=hE 0 _ nh;exact⟨_,q,rfl⟩
  refine ak (n5 Ac ?_);have h1:Nd (.ref h'.objs.size) (.ref (s1.heap.objs.size+1))=false:=by
   have:h'.objs.size≠s1.heap.objs.size+1:=by rw[hz];lia
   simp[Nd,this]
  have h2:(Value.type "enumerate"==Value.type "list")=false:=by decide
  have h3:(Value.type "enumerate"==Value.type "tuple")=false:=by decide
  simp only[h1,h2,h3,Ms,iM,if_false];refine ak (sH (s:={s1 with heap:=h4}) (hE 0 _ nh) ?_);refine ak (j' ?_);unfold Builtin.List.listLengthHint;refine ak (tQ Ac FE.VC ?_);show wpAny _ X.A.in1.in1 (specialOf (Value.ref (s1.heap.objs.size+1)) (ik "__length_hint__") >>= _) _ _ _;refine ak (tQ Ac FE.VD ?_);refine aF ?_;show wpAny _ X.A.in1.in1 (rule "list.extend.makes-room" >>= λ_=>Builtin.List.listTouch (.ref h'.objs.size) >>= λ_ =>
   again (.builtin "list.extend.loop" ⟨[.ref h'.objs.size,.ref (s1.heap.objs.size+1),.none],[]⟩)) _ _ _
  refine ak (lr ?_);refine ak ?_;show wpAny _ X.A.in1.in1 (updateSeq h'.objs.size (·.push .none) >>= λ_=>updateSeq h'.objs.size (·.pop)) _ _ _;refine ak (xN e4 rfl ?_);have e5:=qu (fM (·.push Value.none)) e4 rfl;refine xN (hz:=by seq_fits) e5 rfl ?_;have e6:=qu (fM (·.pop)) e5 rfl;have k6:∀b o,b≠h'.objs.size->h4.get? b=some o->((h4.update h'.objs.size (fM (·.push Value.none))).update h'.objs.size (fM (·.pop))).get? b=some o :=
   λb o n q=>(qv _ _ (bE n)).trans ((qv _ _ (bE n)).trans q)
  have I6:Inv X pins σ (upd H1 h'.objs.size (.lst [])) {s1 with heap:=(h4.update h'.objs.size (fM (·.push Value.none))).update h'.objs.size (fM (·.pop))}:=by
   have:=I3.write (x:=h'.objs.size) (e:=h'.objs.size) (o:=.lst []) (t':=s1.toks) (h':=(h4.update h'.objs.size (fM (·.push Value.none))).update h'.objs.size (fM (·.pop))) (by rw[eP];trivial) (.inl rfl) (λb u n q=>k6 b u n (k4 b u n q)) ⟨_,e6⟩ ⟨eO _,[],_,.nil,e6⟩;rw[NQ]at this;exact this
  refine aF ⟨xO Dw _,?_⟩;refine VB (X:=X) (pins:=pins) (σ:=σ) (D:=h'.objs.size) hc I.ok T (λi m Hx=>∃o,W i m [o] Hx) ?_ m0 0 _ _ ⟨none,w0⟩ I6 f3 (T.keep _ _ _ nh λb hb o q=>k6 b o (ne3 b hb) q);rintro i m H2 ⟨o,w⟩;rcases turn i m [o] H2 w with⟨stop,qe⟩|⟨go,N,hN,step⟩
  ·exact .inl ⟨stop,λs' I'=>⟨rfl,.ref _,H2,I',rfl,qe⟩⟩
  ·refine .inr ⟨go,λv Hy hy=>?_⟩;have:=ht _ _ _ (hg v o Hy _ (step v Hy hy));rw[if_pos rfl]at this;obtain⟨ys,h1,h2,h3⟩:=he v Hy _ this;obtain⟨m',hm,w'⟩:=hN _ _ h3;exact⟨ys,h1,h2,m',hm,_,w'⟩
 have Iy:s1.heap.objs.size+1≠s1.heap.objs.size:=by lia
 rcases q with⟨⟨xs,hx⟩,q⟩|⟨⟨xs,hx⟩,q⟩
 ·obtain⟨its,rv,pt,_⟩:=I1.list hx;exact Io pt.isList λh' hen hi hz k=>main _ _ h' (Iq l _ _ Iy) ⟨hen,hi⟩ (λi h z=>z.1) hz k q
 ·obtain⟨its,rv,pt,_⟩:=I1.tuple hx;exact Il (show s1.heap.IsTuple l its.toArray from pt) λh' hen hi hz k=>main _ _ h' (Ir l _ _ Iy) ⟨hen,hi⟩ (λi h z=>z.1) hz k q
end
end EE
namespace E3
open PySem PySem.Spec PyProof.Rows L2 EE
def fH(ds:List D):List D:=ds.zipIdx.map λp=>.tup [.int (p.2:Int),p.1]
theorem Ad{ds:List D}{i:Nat}:(fH ds)[i]?=(ds[i]?).map λd=>D.tup [.int (i:Int),d]:=by
 unfold fH;rw[aK,Nf];cases ds[i]?<;>simp
theorem sJ{ds:List D}:(fH ds).length=ds.length:=by simp[fH]
def v8(R:RI)(xs:List D)(S:ah):Prop:=∃x ds,xs=[x]/\((∃a,x=.ref a/\S a=some (.lst ds)/\R (fH ds) (λS=>S a=some (.lst ds)) S)∨(x=.tup ds/\R (fH ds) (λ_=>True) S))
def v9(ta:cX):fi:=λσ S R=>ta σ S λxs S1=>v8 R xs S1
theorem Iz{K:ax}{Z:Zt}{sq:Hp->List V->Prop}{xs:List V}{d:D}{x:V}{i:Nat}{S:ah}{H:Hp}(l:Rl K Z S H)(hs:sq H xs)(hx:xs[i]?=some x)(rx:Rp K H d x) :
 (jY sq).go i H/\∀v H',(jY sq).lU i H v H'->Kp Z H H'/\Rp K H' (.tup [.int (i:Int),d]) v/\(∀S',Rl K Z S' H->Rl K Z S' H')/\∀b,H b≠none->H' b=H b:=show _ by
 refine⟨⟨xs,hs,(bO.mp hx).1⟩,?_⟩;rintro v H' ⟨T,y,rfl,hT,rfl,fy⟩;have ey:y=x:=by
  have:=fy _ hs;rw[hx]at this;exact(dN this).symm
 subst ey;obtain⟨_,hz⟩:=l.fresh hT;have kn:Kp Z H (upd H T (.tup [.int i,y])):=Kp.new hT hz;exact⟨kn,.tup eP (.cons (.int _) (.cons (rx.mono kn) .nil)),λS' l'=>l'.lay hT,λb hb=>bo λe=>hb (e▸hT)⟩
theorem VG{K:ax}{Z:Zt}{a:Addr}{xs:List V}{ds:List D}{H1:Hp}(h1:bz K H1 a xs)(r1:a7 K H1 ds xs):Wk K Z (jY λH xs=>bz K H a xs) (fH ds) (λ_=>True) H1:=show _ by
 constructor
 ·intro i d S H k l _ hd;rw[Ad]at hd;obtain⟨e,he,rfl⟩:=bW.mp hd;obtain⟨x,hx,rx⟩:=r1.at he;exact Iz l (k.i6 h1) hx (rx.mono k)
 ·intro S H k l _;refine⟨xs,k.i6 h1,?_⟩;rw[sJ,r1.len];exact a8 _
theorem VH{K:ax}{Z:Zt}{a:Addr}{ds:List D}{H1:Hp}:Wk K Z (jY λH xs=>bc K H a xs) (fH ds) (λS=>S a=some (.lst ds)) H1:=show _ by
 constructor
 ·intro i d S H k l al hd;rw[Ad]at hd;obtain⟨e,he,rfl⟩:=bW.mp hd;obtain⟨ws,h3,h4⟩:=l.obj a _ al;obtain⟨x,hx,rx⟩:=h4.at he;exact Iz l (bc.of h3) hx rx
 ·intro S H k l al;obtain⟨ws,h3,h4⟩:=l.obj a _ al;refine⟨ws,bc.of h3,?_⟩;rw[sJ,h4.len];exact a8 _
theorem IA{K:ax}{Z:Zt}{ta:cX}{τ:L2.St}{H:Hp}{R:It->Hp->Prop}(h:lI K Z (v9 ta) τ H R):Ab K (lA K Z ta) τ H R:=show _ by
 obtain⟨σ,S,R3,hs,hr,ht,hc⟩:=h;refine⟨σ,S,_,hs,hr,ht,λxs S1 y9 H1 k1 r1 l1 q1=>?_⟩;obtain⟨x,ds,rfl,q⟩:=q1;cases r1 with
 |cons r1 rr =>
  cases rr;rcases q with⟨a,rfl,hS,q⟩|⟨rfl,q⟩
  ·cases r1;obtain⟨vs,h1,h2⟩:=l1.obj a _ hS;exact⟨a,rfl,.inl ⟨⟨vs,bc.of h1⟩,hc _ _ S1 _ H1 k1 l1 q VH⟩⟩
  ·cases r1 with
   |tup h1 h2=>exact⟨_,rfl,.inr ⟨⟨_,h1⟩,hc _ _ S1 _ H1 k1 l1 q (VG h1 h2)⟩⟩
section
variable{X:Cx}{W3:bX}{tg:Expr}{pos pos2 p p2:Pos}{a:Expr}{ta:cX}{σ:aL}{S:ah}{R:RI}{al:cX}
theorem VI(hg:Gl X "enumerate")(hm:X.mg "enumerate"=none)(ha:fD X W3 [a] ta)(hs:starEach [a] X.env=[(false,eval a X.env)]:=by rfl):fW X W3 tg (.Call (.Name "enumerate" p) [a] [] pos) (v9 ta) :=
 λZ=>PI.imp (VA hg hm (ha Z) hs) λ_ _ _ h=>IA h
theorem VJ(h:al σ S λxs S1=>v8 R xs S1):v9 al σ S R:=h
theorem IB{b:Addr}{ds:List D}(hS:S b=some (.lst ds))(q:R (fH ds) (λS=>S b=some (.lst ds)) S):v8 R [.ref b] S:=⟨_,ds,rfl,.inl ⟨b,rfl,hS,q⟩⟩
theorem VL{ds:List D}(q:R (fH ds) (λ_=>True) S):v8 R [.tup ds] S:=⟨_,ds,rfl,.inr ⟨rfl,q⟩⟩
theorem VM(gl:Gl X "list")(ml:X.mg "list"=none)(ge:Gl X "enumerate")(me:X.mg "enumerate"=none)(hc:X.calm=true)(ha:fD X W3 [a] ta)
 (hs:starEach [.Call (.Name "enumerate" p2) [a] [] pos2] X.env=[(false,eval (.Call (.Name "enumerate" p2) [a] [] pos2) X.env)]:=by rfl) (hs2:starEach [a] X.env=[(false,eval a X.env)]:=by rfl) :
 aM X W3 (.Call (.Name "list" p) [.Call (.Name "enumerate" p2) [a] [] pos2] [] pos) (jV (v9 ta) jU md (v3 0) []):=λZ=>by
 refine PE.imp (VE (g:=zy X.K (jL 0)) (tt:=sk X.K md) (te:=za X.K (v3 0)) hc gl ml ge me (ha Z) ?_ ?_ ?_ hs hs2) λτ H Q h=>?_
 ·rintro v o H Q ⟨Z',d,σ,S,Q3,rd,rs,rl,t,c⟩;cases rs with
  |cons r1 r2 =>
   cases r2;exact c _ S [some v] H (Kp.refl _ _) (.cons (λd' e=>by cases e;exact⟨v,rfl,rd⟩) .nil) rl t
 ·rintro τ H Q ⟨Z',σ,S,Q3,rs,rl,t,c⟩;exact c true S H (Kp.refl _ _) rl t
 ·rintro v H Q ⟨Z',σ,S,Q3,rs,rl,⟨d,hd,q⟩,c⟩;obtain⟨v',h1,h2⟩:=rs.at hd;have e:v'=v:=show _ by simpa using h1.symm
  subst e;exact c d S v' H (Kp.refl _ _) h2 rl q
 ·exact IA (vO vN h)
theorem VN{n:Nat}{xs:List D}{t:jM}{Q:aL->ah->Prop}(hn:xs.length=n)(h:t xs σ S Q):u7 n t (.tup xs) σ S Q:=⟨xs,rfl,hn,h⟩
theorem VO{v:D}{r:List D}{t:eo}{u:jM}{Q:aL->ah->Prop}(h:t v σ S λσ' S'=>u r σ' S' Q):oD t u (v::r) σ S Q:=⟨v,r,rfl,h⟩
theorem VP{Q:aL->ah->Prop}(h:Q σ S):u5 [] σ S Q:=⟨rfl,h⟩
end
end E3
namespace EE
open PySem PySem.Spec PyProof.Rows L2
section
variable{X:Cx}
theorem IC{n:Nat}(hu:X.A.units+(n+1)<cLine):cj X (compareOp .In) (λx y H Q=>∃d p xs ds,DR X.K H d x/\y=.ref p/\bc X.K H p xs/\dR X.K H ds xs/\(∀e∈ds,cW e<=n)/\Q (.bl (ds.any λe=>aW e d)) H):=show _ by
 intro pins s σ H x y v u Q I rx ry h;obtain⟨d,p,xs,ds,hd,rfl,hq,hds,hn,q⟩:=h;cases ry;obtain⟨its,r,pl,hz⟩:=I.list hq;have hl1:=r.length;have hl2:=hds.len;have hl3:ds.length=its.length:=by lia
 have each:∀(i:Nat) (w:Value),its[i]?=some w->∃e z,ds[i]?=some e/\DR X.K H e z/\RelV z w/\tX X.A.in1 s w v (aW e d):=λi w hw=>by
  have hi:i<xs.length:=by have:=(bO.mp hw).1;lia
  obtain⟨w',hw',iX⟩:=r.get (aU hi);rw[hw]at hw';cases hw';obtain⟨e,he,hde⟩:=hds.at (aU hi);exact⟨e,xs[i],he,hde,iX,(uU I n X.A.in1 e d xs[i] x w v (hn e (bS he)) (by show X.A.units+1+n<cLine;lia) hde hd iX rx).2⟩
 classical
 refine Mv (λw=>decide (∃(i:Nat) (e:Dt),its[i]?=some w/\ds[i]?=some e/\aW e d=true)) pl.isList (λw hw=>?_) ⟨.bl _,H,I,rfl,?_⟩
 ·obtain⟨i,hi,ew⟩:=gO (show w∈its by simpa using hw);have sL:its[i]?=some w:=by rw[aU hi,ew]
  obtain⟨e,z,he,hde,rz,Ae⟩:=each i w sL;have ef:decide (∃(i:Nat) (e:Dt),its[i]?=some w/\ds[i]?=some e/\aW e d=true)=aW e d:=by
   rw[fv,decide_eq_true_iff];refine⟨λ⟨j,e',h1,h2,h3⟩=>?_,λh3=>⟨i,e,sL,he,h3⟩⟩;obtain⟨e2,z2,he2,Af,Ag,_⟩:=each j w h1;rw[h2]at he2;cases he2;have ez:z2=z:=Ag.inj rz;subst ez;rw[DR.inj I hde Af];exact h3
  rw[ef];exact Ae
 ·have eb:(its.toArray.any λw=>decide (∃(i:Nat) (e:Dt),its[i]?=some w/\ds[i]?=some e/\aW e d=true))=ds.any λe=>aW e d:=by
   rw[fv];simp only[Ng,kg,decide_eq_true_iff];constructor
   ·rintro⟨w,_,i,e,_,h2,h3⟩;exact⟨e,bS h2,h3⟩
   ·rintro⟨e,he,h3⟩;obtain⟨i,hi,rfl⟩:=gO he;exact⟨its[i],kf _,i,_,aU (by lia),aU hi,h3⟩
  rw[eb];exact q
end
end EE
namespace E3
open PySem PySem.Spec PyProof.Rows L2 EE
section
variable{P:Program}{w:World}{K:PySem.W.Frag}{mg:Str->Option Value}{base:Heap}{x:Str}{st:Stmt}{N ps:List Str}{k:Nat}
def mj(A:List D->ah->(D->ah->Prop)->(Addr->Prop)->Prop):aY:=λds S Q W=>A ds S Q λC=>∀a,W C a S
theorem _root_.EE.aE.mj{A:List D->ah->(D->ah->Prop)->(Addr->Prop)->Prop}(h:aE K mg x st ps)(S:bf N ps (av st))(len:∀ds S q qx,A ds S q qx->ds.length=ps.length)
 (hbody:∀(f:Addr) (cdv:Value) (Ar:Around) (outer:List Env) (s:Shared) (H:Hp) (E:XK) (ds:List D) (S:ah) (q:D->ah->Prop) (qx:Addr->Prop),cP k (Ar.deeper (envOfC x (av st) s.heap.objs.size f cdv))->A ds S q qx ->
  ∃t,dz (dm (cC P w) P w K mg base N x (av st) f cdv Ar outer s H E) (λ_ C _ S'=>Sub S S'/\qx C) (a_ st) t /\
   t {nx:=λ_ S'=>∃T,Sub T S'/\q .non T,rt:=λd S'=>∃T,Sub T S'/\q d T} (eL N ds) S):ay P w K mg base (k+1) x ps (mj A):=show _ by
 have C:ay P w K mg base (k+1) x ps (λds S Q E=>∃q qx,A ds S q qx/\(∀d S',(∃T,Sub T S'/\q d T)->Q d S')/\∀C a S',Sub S S'/\qx C->E C a S'):=by
  refine h.r8 S (λvs H Q E cU=>by obtain⟨q,qx,z,_⟩:=cU;exact len _ _ _ _ z) λf cdv Ar outer s H E ds S3 Q E3 hr ⟨q,qx,z,hq,hx⟩=>?_;obtain⟨t,h1,h2⟩:=hbody f cdv Ar outer s H E ds S3 _ _ hr z;exact⟨t,λd S'=>∃T,Sub T S'/\q d T,λC _ S'=>Sub S3 S'/\qx C,h1,h2,hq,hx⟩
 exact C.vy.imp λds S Q E z=>⟨_,_,z,λd S1 eS=>by obtain⟨T,hs,hq⟩:=eS;exact⟨T,hs,hq⟩,λC a S1 hx=>⟨S,hx.1,hx.2 a⟩⟩
end
section
variable{K:PySem.W.Frag}{S:ah}{Q:K3}
def ID(n:Nat):R3:=λx y S Q=>∃d a xs ds,Dn S x d/\y=.ref a/\S a=some (.lst xs)/\dS S xs ds/\(∀e∈ds,cW e<=n)/\Q (.bl (ds.any λe=>aW e d)) S
theorem IE{n:Nat}:cY K (ID n) (λx y H Q=>∃d p xs ds,DR K H d x/\y=.ref p/\bc K H p xs/\dR K H ds xs/\(∀e∈ds,cW e<=n)/\Q (.bl (ds.any λe=>aW e d)) H):=show _ by
 intro Z x y S Q3 v w H Q rx ry l h c;obtain⟨d,a,xs,ds,h1,rfl,h2,h3,hn,q⟩:=h;cases ry;obtain⟨vs,h4,h5⟩:=l.obj a _ h2;exact⟨d,a,vs,ds,h1.down l rx,rfl,bc.of h4,h3.down l h5,hn,c _ S _ H (Kp.refl _ _) (.bl _) l q⟩
end
abbrev Gr:=Str×Str×cI
abbrev df(g h:Gr):Bool:=decide (g.2.1=h.1)
def bu(g h:Gr):Gr:=(g.1,h.2.1,iF g.2.2 h.2.2)
def iG(w:List Int):D:=.tup (w.map D.int)
def dM(p:Gr×List Int):D:=.tup [af p.1,iG p.2]
def kP(p:Int×Gr):D:=.tup [.int p.1,af p.2]
theorem kQ(g:Gr):(af g).pure=true:=UK ..
theorem sM(g:Gr):cW (af g).dt<=10:=UL ..
theorem IF:∀r:List Int,D.cR (r.map D.int)=r.map Dt.int
 |[]=>rfl
 |x::r=>by rw[bT,bT,D.cR,IF r];rfl
theorem IG:∀A:cI,D.cR (A.map bg)=A.map λr=>Dt.tup (r.map Dt.int)
 |[]=>rfl
 |r::A=>by rw[bT,bT,D.cR,IG A];simp only[bg,D.dt,IF]
theorem Ah(g:Gr):(af g).dt=.tup [.str g.1,.str g.2.1,.tup (g.2.2.map λr=>Dt.tup (r.map Dt.int))]:=by
 simp only[af,c_,eC,D.dt,D.cR,IG]
theorem IH:∀r:List Int,i5 (r.map Dt.int)=true
 |[]=>rfl
 |x::r=>by simp only[bT,i5,iZ,IH r,nU]
theorem II:∀A:cI,i5 (A.map λr=>Dt.tup (r.map Dt.int))=true
 |[]=>rfl
 |r::A=>by simp only[bT,i5,iZ,IH r,II A,nU]
theorem IJ(g:Gr):iZ (af g).dt=true:=by
 rw[Ah];simp only[iZ,i5,II,nU]
theorem IK:∀{r r':List Int},r.map Dt.int=r'.map Dt.int->r=r'
 |[],[],_=>rfl
 |[],_::_,h=>by cases h
 |_::_,[],h=>by cases h
 |x::r,y::r',h=>by
  simp only[bT,qC,Dt.int.injEq]at h;rw[h.1,IK h.2]
theorem IL:∀{A B:cI},(A.map λr=>Dt.tup (r.map Dt.int))=(B.map λr=>Dt.tup (r.map Dt.int))->A=B
 |[],[],_=>rfl
 |[],_::_,h=>by cases h
 |_::_,[],h=>by cases h
 |r::A,r'::B,h=>by
  simp only[bT,qC,Dt.tup.injEq]at h;rw[IK h.1,IL h.2]
theorem VQ{g h:Gr}(e:(af g).dt=(af h).dt):g=h:=show _ by
 rw[Ah,Ah]at e;simp only[Dt.tup.injEq,qC,Dt.str.injEq,and_true]at e;obtain⟨g1,g2,g3⟩:=g;obtain⟨h1,h2,h3⟩:=h;obtain⟨e1,e2,e3⟩:=e;dsimp only at e1 e2 e3;rw[e1,e2,IL e3]
theorem v_(g h:Gr):aW (af g).dt (af h).dt=decide (g=h):=show _ by
 by_cases e:g=h
 ·rw[e,mU];simp
 ·rw[decide_eq_false e];cases c:aW (af g).dt (af h).dt with
  |false=>rfl
  |true=>exact absurd (VQ (EZ (IJ g) (IJ h) c)) e
section
variable{S:ah}{Q:K3}
theorem IM{a:Addr}{gs:List Gr}{g:Gr}{n:Nat}(hn:10<=n)(hS:S a=some (.lst (gs.map af)))(q:Q (.bl (decide (g∈gs))) S):ID n (af g) (.ref a) S Q:=show _ by
 refine⟨(af g).dt,a,gs.map af,D.cR (gs.map af),Dn.of (kQ g),rfl,hS,dS.of (D.l9.mpr λd hd=>?_),λe he=>?_,?_⟩
 ·obtain⟨h,_,rfl⟩:=bG.mp hd;exact kQ h
 ·rw[D.jN]at he;obtain⟨d,hd,rfl⟩:=bG.mp he;obtain⟨h,_,rfl⟩:=bG.mp hd;exact b5 (sM h) hn
 ·have e:((D.cR (gs.map af)).any λe=>aW e (af g).dt)=decide (g∈gs):=by
   rw[D.jN,dC,ud,fv,kg,decide_eq_true_iff];constructor
   ·rintro⟨h,hh,e⟩;have e2:aW (af h).dt (af g).dt=true:=e;rw[v_,decide_eq_true_iff]at e2;rw[<-e2];exact hh
   ·intro h;exact⟨g,h,by show aW (af g).dt (af g).dt=true;exact mU _⟩
  rw[e];exact q
theorem VR{g h:Gr}{n:Nat}(hn:10<=n)(q:Q (.bl (decide (g=h))) S):oF n (af g) (af h) S Q :=
 ⟨_,_,Dn.of (kQ g),Dn.of (kQ h),b5 (sM g) hn,by rw[v_];exact q⟩
end
structure Gd(ar:Str->Option Nat)(g:Gr):Prop where
 ex:∃m n,ar g.1=some m/\ar g.2.1=some n/\1<=m/\1<=n/\m<=4/\n<=4/\Mt m n g.2.2
theorem Gd.cmp{ar:Str->Option Nat}{g h:Gr}(hg:Gd ar g)(hh:Gd ar h)(hf:g.2.1=h.1):Gd ar (bu g h):=show _ by
 obtain⟨m,n,e1,e2,m1,n1,m4,n4,hM⟩:=hg.ex;obtain⟨m',n',e1',e2',m1',VS,m4',VT,hM'⟩:=hh.ex;rw[hf,e1']at e2;cases e2;exact⟨m,n',e1,e2',m1,VS,m4,VT,hM.cmp hM' (by lia)⟩
def kR(A:cI):Bool:=(aZ A.length).any λi=>decide ((A.getD i []).getD i 0=2)
def cE(g:Gr):Bool:=df g g&&(decide (bu g g=g)&&!kR g.2.2)
abbrev eZ(nb:List (Int×Gr)):Option (CL.Fd Gr):=CL.jk df bu nb
def jl(F:CL.Fd Gr):Option (List Int):=(F.find? λp=>cE p.1).map (·.2)
def dg(gs:List Gr):List (Int×Gr):=gs.zipIdx.map λp=>((p.2:Int),p.1)
theorem VU(gs:List Gr):fH (gs.map af)=(dg gs).map kP:=by
 unfold fH dg;apply gP;intro i;simp only[aK,Nf];cases gs[i]?<;>simp[kP]
theorem Ai{gs:List Gr}{p:Int×Gr}(h:p∈dg gs):p.2∈gs:=by
 unfold dg at h;obtain⟨q,hq,rfl⟩:=bG.mp h;exact List.fst_mem_of_mem_zipIdx hq
theorem VV(gs:List Gr):(dg gs).length=gs.length:=by simp[dg]
theorem Aj{gs:List Gr}{g:Gr}(h:g∈gs):∃p∈dg gs,p.2=g:=by
 obtain⟨i,hi,rfl⟩:=gO h;refine⟨((i:Int),gs[i]),?_,rfl⟩;unfold dg;exact bG.mpr ⟨(gs[i],i),Dy.mpr (aU hi),rfl⟩
end E3
namespace E3
abbrev cD(counts:List Nat):List D:=counts.map λc:Nat=>D.int (c:Int)
end E3
namespace E3
open PySem PySem.Spec PyProof.Rows L2 EE
def VW(Nm:List Str)(g:Gr):Prop:=g.1∈Nm/\g.2.1∈Nm
def tb(xs ys:List Str)(x:Str):Str:=ys.getD (xs.idxOf x) ""
theorem IP:∀{xs:List Str} {ns:List Nat} {y:Str} {n:Nat},dq xs ns y=some n->y∈xs
 |[],_,_,_,h=>by simp[dq]at h
 |_::_,[],_,_,h=>by simp[dq]at h
 |x::xs,m::ns,y,n,h=>by
  rw[dq]at h
  split at h
  ·rename_i e;rw[e];exact cF
  ·exact cL _ (IP h)
end E3
namespace CL
end CL
namespace E3
open PySem PySem.Spec PyProof.Rows L2 EE
end E3
namespace EE
open PySem PySem.Spec PyProof.Rows L2
end EE
namespace E3
open PySem PySem.Spec PyProof.Rows L2 EE
section
variable{σ:aL}{S:ah}{Q:K3}{QT:Bool->ah->Prop}{QA:List D->ah->Prop}{ta tb te:aQ}{tA:cJ}{t u u':cB}{al:cX}{r:R3}{n b c:aL->ah->Prop}{rt:K3}{i i' IQ:Nat}{d e d2 d3:D}{D3:gY}{sp:aY}{W3:bX}{f:List D->ah->K3->Prop}{ds:List D}{k:Int}{a:Addr}
theorem VX(h:te σ S λx S1=>u D3 (σ.set i (some x)) S1):rN (rQ i te) u D3 σ S:=h
theorem VY(h:tA σ S λb' S1=>if b'=true then t ⟨u' ⟨n,rt,b,c⟩,rt,b,c⟩ σ S1 else u ⟨u' ⟨n,rt,b,c⟩,rt,b,c⟩ σ S1):rN (rO tA t u) u' ⟨n,rt,b,c⟩ σ S:=h
theorem VZ(h:σ[i]?=some (some (.ref a)))(hS:S a=some (.lst ds))(q:te σ S λy S1=>vc (.ref a) [y] S1 λ_ S2=>u D3 σ S2):rN (y0 (yY "list" vc (v3 i) (fE te iD))) u D3 σ S :=
 ⟨_,h,.inr (.inl ⟨rfl,ds,.inl ⟨a,rfl,hS⟩⟩),q⟩
theorem V0(h:σ[i]?=some (some (.tup ds)))(hd:cy ds k=some d)(q:Q d S):o3 kE (v3 i) (c3 (.int k)) σ S Q:=⟨_,h,ds,k,d,rfl,rfl,hd,q⟩
theorem V1{es:List D}{j:Int}(h:σ[i]?=some (some (.tup ds)))(hd:cy ds k=some (.tup es))(he:cy es j=some d)(q:Q d S):o3 kE (o3 kE (v3 i) (c3 (.int k))) (c3 (.int j)) σ S Q:=⟨_,h,ds,k,_,rfl,rfl,hd,es,j,d,rfl,rfl,he,q⟩
theorem V2{x z:Str}(h:σ[i]?=some (some (.tup ds)))(hx:cy ds k=some (.str x))(q:QT (decide (x=z)) S):i7 (o3 zc (o3 kE (v3 i) (c3 (.int k))) (c3 (.str z))) σ S QT:=⟨_,h,ds,k,_,rfl,rfl,hx,x,z,rfl,rfl,_,rfl,q⟩
theorem V3(h:σ[i]?=some (some d))(q:r d e S λz S'=>∃k,z=.bl k/\QT k S'):i7 (o3 r (v3 i) (c3 e)) σ S QT:=⟨d,h,q⟩
theorem V4(h:σ[i]?=some (some d))(h':σ[i']?=some (some e))(q:r d e S λz S'=>∃k,z=.bl k/\QT k S'):i7 (o3 r (v3 i) (v3 i')) σ S QT:=⟨d,h,e,h',q⟩
theorem V5(q:ta σ S λx S1=>r x e S1 λz S'=>∃k,z=.bl k/\QT k S'):i7 (o3 r ta (c3 e)) σ S QT:=q
theorem V6(q:ta σ S λx S1=>tb σ S1 λy S2=>r x y S2 λz S'=>∃k,z=.bl k/\QT k S'):i7 (o3 r ta tb) σ S QT:=q
theorem V7(h:σ[i]?=some (some d))(q:r d e S Q):o3 r (v3 i) (c3 e) σ S Q:=⟨d,h,q⟩
theorem V8(h:σ[i]?=some (some d))(h':σ[i']?=some (some e))(q:r d e S Q):o3 r (v3 i) (v3 i') σ S Q:=⟨d,h,e,h',q⟩
theorem V9(h:σ[i]?=some (some d))(q:tb σ S λy S2=>r d y S2 Q):o3 r (v3 i) tb σ S Q:=⟨d,h,q⟩
theorem V_(q:tb σ S λy S2=>r d y S2 Q):o3 r (c3 d) tb σ S Q:=q
theorem V'(q:ta σ S λx S1=>r x e S1 Q):o3 r ta (c3 e) σ S Q:=q
theorem Wa(h:σ[i]?=some (some d))(q:f [d] S Q):oB f (fE (v3 i) iD) σ S Q:=⟨d,h,q⟩
theorem Wb(q:te σ S λx S1=>f [x] S1 Q):oB f (fE te iD) σ S Q:=q
theorem Wc(h:σ[i]?=some (some d))(q:sp [d] S Q (W3 σ)):oN sp W3 (fE (v3 i) iD) σ S Q:=⟨d,h,q⟩
theorem Wd(q:te σ S λx S1=>sp [x] S1 Q (W3 σ)):oN sp W3 (fE te iD) σ S Q:=q
theorem We(h:σ[i]?=some (some d))(h2:σ[i']?=some (some d2))(q:sp [d,d2] S Q (W3 σ)):oN sp W3 (fE (v3 i) (fE (v3 i') iD)) σ S Q:=⟨d,h,d2,h2,q⟩
theorem Wf(h:σ[i]?=some (some d))(h2:σ[i']?=some (some d2))(h3:σ[IQ]?=some (some d3))(q:sp [d,d2,d3] S Q (W3 σ)):oN sp W3 (fE (v3 i) (fE (v3 i') (fE (v3 IQ) iD))) σ S Q:=⟨d,h,d2,h2,d3,h3,q⟩
theorem Wg(h:σ[i]?=some (some d))(q:QA [d] S):fE (v3 i) iD σ S QA:=⟨d,h,q⟩
theorem Wh(h:σ[i]?=some (some d))(q:al σ S λxs S2=>QA (d::xs) S2):fE (v3 i) al σ S QA:=⟨d,h,q⟩
theorem Wi(q:QA [d] S):fE (c3 d) iD σ S QA:=q
theorem Wj(q:al σ S λxs S2=>QA (d::xs) S2):fE (c3 d) al σ S QA:=q
theorem Wl(q:te σ S λx S1=>QA [x] S1):fE te iD σ S QA:=q
end
end E3
namespace EE
open PySem PySem.Spec PyProof.Rows L2
end EE
namespace E3
open PySem PySem.Spec PyProof.Rows L2 EE
end E3
namespace EE
open PySem PySem.Spec PyProof.Rows L2
end EE
namespace E3
open PySem PySem.Spec PyProof.Rows L2 EE
end E3
namespace EE
open PySem PySem.Spec PyProof.Rows L2 Builtin Builtin.Str
end EE
namespace E3
open PySem PySem.Spec PyProof.Rows L2 EE
end E3
namespace EE
open PySem PySem.Spec PyProof.Rows L2
end EE
namespace E3
open PySem PySem.Spec PyProof.Rows L2 EE
end E3
namespace EE
open PySem PySem.Spec PyProof.Rows L2
theorem Wm{prog:Program}{w:World}{K:Type}[DecidableEq K](knd:HeapKind prog w K)(d:Addr)(hd:(d==sysModules)=false) :
 MeetsIn prog w (Builtin.«dict.__len__» ⟨[.ref d],[]⟩) (λ_ R s=>∃kvs,s.heap.DictOfH knd d kvs/\R (.ok (.ret (.int kvs.length s.toks))) {s with toks:=s.toks+1}) :=
 .of_wp λA R s cU=>by
  obtain⟨kvs,hm,h⟩:=cU;obtain⟨o,es,ep,ho,hc,hdat,hk,hp,hn⟩:=hm;show wpAny _ _ (dictSize d >>= _) _ _ s;unfold dictSize;refine ak (ak (xP ho hdat (aF ?_)));show wpAny _ _ (Builtin.Dict.pendingCount d >>= _) _ _ s;refine ak (wpAny_pendingCount_other hd ?_);refine wpAny_ret_mkInt ?_;have:es.size=kvs.length:=size_of_entries hk;rw[Nat.add_zero,this];exact h
theorem Wn{prog:Program}{w:World}{K:Type}[DecidableEq K]{knd:HeapKind prog w K}{A:Around}{E:Value->Shared->Prop}{s:Shared}{d:Addr}{kvs:List (K×Addr×Value)}{Q:Value->Shared->Prop}(hd:(d==sysModules)=false)(hm:s.heap.DictOfH knd d kvs)(hfit:(kvs.length:Int)<2^63)
 (h:Q (.int kvs.length (s.toks+1)) {s with toks:=s.toks+1+1}):wpAny (model prog w) A (Builtin.«len» ⟨[.ref d],[]⟩) (λfin s'=>∃r,fin=.done (.ret r)/\Q r s') E s:=show _ by
 unfold Builtin.«len»;refine ak (m:=oneArg "len" _) (aF ?_);refine ak (m:=callSpecial? (.ref d) (ik "__len__")) (jw (name:=ik "__len__") hm.typeIs Nh
  (call_meetsIn Nh hm.typeIs F.entry_dict_len (F.args_dict_len_1 _) (Wm knd d hd) ⟨kvs,hm,?_⟩))
 show wpAny _ _ _ _ _ {s with toks:=s.toks+1};refine ak (j' (aF ?_));refine ak (qA ?_);show wpAny _ _ (if((kvs.length:Nat):Int)<0 then _ else _) _ _ _;rw[if_neg (by lia)];show wpAny _ _ (if((kvs.length:Nat):Int)>=2^63 then _ else _) _ _ _;rw[if_neg (by lia)];exact ak (wpAny_mkInt (aF ⟨_,rfl,h⟩))
theorem Wo{X:Cx}:fg X (.builtin "len") (λxs H Q=>∃a kvs,xs=[V.ref a]/\H a=some (.dT kvs)/\Q (.int kvs.length) H):=show _ by
 intro pins s σ H xs us Q I r h;obtain⟨a,kvs,rfl,e,q⟩:=h;obtain⟨u,rfl,ru⟩:=r.one;cases ru;obtain⟨z,hd,xs,rel,dd⟩:=ER I.hok e;have hl:kvs.length=xs.length:=Paired.length rel;refine Calls.call_function_entry kind_len plain_len entry_len (args_len1 _) (Wn hd dd (by rw[<-hl];rw[Cu]at z;lia) ⟨.int kvs.length,H,I.tok _,⟨_,by rw[hl]⟩,q⟩)
end EE
namespace E3
open PySem PySem.Spec PyProof.Rows L2 EE
mutual
def dZ:D->Option DK
 | .int i=>some (.int i)
 | .str x=>some (.str x)
 | .tup ds=>(jZ ds).map .tup
 |_=>none
def jZ:List D->Option (List DK)
 |[]=>some []
 |d::ds=>(dZ d).bind λk=>(jZ ds).map (k::·)
end
mutual
theorem IS{K:ax}{H:Hp}:∀{d:D} {v:V} {k:DK},Rp K H d v->dZ d=some k->iu H k v
 |_,_,_,.int i,e=>by simp only[dZ,lD]at e;subst e;exact .int i
 |_,_,_,.str x,e=>by simp only[dZ,lD]at e;subst e;exact .str x
 |_,_,_,.tup h1 h2,e=>by
  rw[dZ]at e;obtain⟨ks,e1,e2⟩:=bW.mp e;subst e2;exact .tup h1 (IT h2 e1)
 |_,_,_,.non,e=>by simp[dZ]at e
 |_,_,_,.bl _,e=>by simp[dZ]at e
 |_,_,_,.ref _,e=>by simp[dZ]at e
 |_,_,_,.ty _,e=>by simp[dZ]at e
 |_,_,_,.bD _ _,e=>by simp[dZ]at e
theorem IT{K:ax}{H:Hp}:∀{ds:List D} {vs:List V} {ks:List DK},a7 K H ds vs->jZ ds=some ks->iw H ks vs
 |_,_,_,.nil,e=>by simp only[jZ,lD]at e;subst e;exact .nil
 |_,_,_,.cons h1 h2,e=>by
  rw[jZ]at e;obtain⟨k,e1,e2⟩:=fP.mp e;obtain⟨ks,e3,e4⟩:=bW.mp e2;subst e4;exact .cons (IS h1 e1) (IT h2 e3)
end
theorem wa{K:ax}{H:Hp}{ds:List D}{v:V}{k:DK}(r:Rp K H (.tup ds) v)(e:dZ (.tup ds)=some k)(hd:k.deep<=4):∃b,v=.ref b/\eQ H k b:=by
 have h:=IS r e;cases r with
 |tup h1 h2=>exact⟨_,rfl,h,hd⟩
def hZ(kvs:List (DK×D))(k:DK):Option D:=(kvs.find? λkv=>decide (kv.1=k)).map (·.2)
def gI(kvs:List (DK×D))(k:DK)(v:D):List (DK×D):=if(kvs.any λkv=>decide (kv.1=k))=true then kvs.map λkv=>if kv.1=k then(kv.1,v) else kv else kvs++[(k,v)]
abbrev TR(K:ax)(H:Hp):=Paired (λ(p:DK×D) (q:DK×V)=>p.1=q.1/\Rp K H p.2 q.2)
theorem TR.val{K:ax}{H:Hp}{kvs:List (DK×D)}{ws:List (DK×V)}(r:TR K H kvs ws)(k:DK):RO K H (hZ kvs k) (gX ws k)/\(hZ kvs k).isSome=(gX ws k).isSome:=show _ by
 induction r with
 |nil=>exact⟨λd e=>(nomatch e),rfl⟩
 |@cons p q ps qs h t ih =>
  obtain⟨h1,h2⟩:=h;by_cases e:p.1=k
  ·have e2:q.1=k:=h1▸e;have a:hZ (p::ps) k=some p.2:=by simp[hZ,mI,e]
   rw[a,uN e2];exact⟨λd z=>by cases z;exact⟨_,rfl,h2⟩,rfl⟩
  ·have e2:¬q.1=k:=h1▸e;have a:hZ (p::ps) k=hZ ps k:=by simp[hZ,mI,e]
   rw[a,uO e2];exact ih
theorem TR.any{K:ax}{H:Hp}{kvs:List (DK×D)}{ws:List (DK×V)}(r:TR K H kvs ws)(k:DK):(kvs.any λkv=>decide (kv.1=k))=ws.any λkv=>decide (kv.1=k):=show _ by
 induction r with
 |nil=>rfl
 |@cons p q ps qs h t ih=>rw[mH,mH,ih,h.1]
theorem TR.repl{K:ax}{H:Hp}(k:DK){d:D}{v:V}(h:Rp K H d v):∀{kvs:List (DK×D)} {ws:List (DK×V)},TR K H kvs ws->TR K H (kvs.map λkv=>if kv.1=k then(kv.1,d) else kv) (ws.map λkv=>if kv.1=k then(kv.1,v) else kv)
 |_,_,.nil=>.nil
 |_,_,.cons (a:=p) (b:=q) ⟨e,r⟩ t=>by
  refine .cons ?_ (TR.repl k h t);dsimp only;by_cases c:q.1=k
  ·rw[if_pos c,if_pos (e▸c)];exact⟨e,h⟩
  ·rw[if_neg c,if_neg (e▸c)];exact⟨e,r⟩
theorem TR.put{K:ax}{H:Hp}{kvs:List (DK×D)}{ws:List (DK×V)}(r:TR K H kvs ws)(k:DK){d:D}{v:V}(h:Rp K H d v):TR K H (gI kvs k d) (putK ws k v):=show _ by
 unfold gI putK;rw[r.any k]
 split
 ·exact TR.repl k h r
 ·exact jK r (.cons ⟨rfl,h⟩ .nil)
def IU:aQ:=λ_ S Q=>∀p,S p=none->Q (.ref p) (up S p (.tab []))
def sN(neg:Bool)(Q:K3)(x y:D)(S:ah):Prop:=∃a kvs ds k,x=.ref a/\S a=some (.tab kvs)/\y=.tup ds/\dZ (.tup ds)=some k/\k.deep<=4/\Q (.bl (if neg then !(hZ kvs k).isSome else(hZ kvs k).isSome)) S
def sO(neg:Bool)(ty td:aQ):aQ:=λσ S Q=>ty σ S λy S1=>td σ S1 λx S2=>sN neg Q x y S2
def o8(n:aL->ah->Prop)(σ:aL)(v x y:D)(S:ah):Prop:=∃a kvs ds k,x=.ref a/\S a=some (.tab kvs)/\y=.tup ds/\dZ (.tup ds)=some k/\k.deep<=4/\kvs.length<sizeLine/\n σ (up S a (.tab (gI kvs k v)))
def IV(td ty tv:aQ):cB:=λD σ S=>tv σ S λv S1=>td σ S1 λx S2=>ty σ S2 λy S3=>o8 D.nx σ v x y S3
section
variable{X:Cx}{W3:bX}{o i value:Expr}{pos pos':Pos}{td ty tv:aQ}
theorem Wp:aM X W3 (.Dict [] [] pos) IU:=λZ=>PE.imp QL λτ H Q ⟨σ,S,Q3,hs,hr,ht,hc⟩=>λp hp=>by
 obtain⟨h1,hz⟩:=hr.fresh hp;have k:=Kp.new (o:=HO.dT []) hp hz;exact hc _ _ _ _ k (.ref p) (hr.put (o:=.tab []) k hz ⟨[],eP,.nil⟩) (ht p h1)
theorem Wq{K:ax}{Z:Zt}{τ:L2.St}{H:Hp}{Q:VK}(h:lE K Z (sO false ty td) τ H Q):EU (lE K Z ty) (lE K Z td) τ H Q:=show _ by
 obtain⟨σ,S,Q3,hs,hr,ht,hc⟩:=h;refine⟨σ,S,_,hs,hr,ht,λy S1 w H1 k1 r1 l1 q1=>⟨σ,S1,_,hs.mono k1,l1,q1,λx S2 v H2 k2 r2 l2 q2=>?_⟩⟩;obtain⟨a,kvs,ds,k,rfl,e,rfl,ek,hd,q⟩:=q2;cases r2;obtain⟨ws,h1,h2⟩:=l2.obj a _ e;obtain⟨b,rfl,kr⟩:=wa (r1.mono k2) ek hd;refine⟨a,_,rfl,lX.t h1 kr,?_⟩;rw[<-(TR.val h2 k).2];exact hc _ S2 _ H2 (k1.trans k2) (.bl _) l2 q
theorem Wr{K:ax}{Z:Zt}{τ:L2.St}{H:Hp}{Q:VK}(h:lE K Z (sO true ty td) τ H Q):EV (lE K Z ty) (lE K Z td) τ H Q:=show _ by
 obtain⟨σ,S,Q3,hs,hr,ht,hc⟩:=h;refine⟨σ,S,_,hs,hr,ht,λy S1 w H1 k1 r1 l1 q1=>⟨σ,S1,_,hs.mono k1,l1,q1,λx S2 v H2 k2 r2 l2 q2=>?_⟩⟩;obtain⟨a,kvs,ds,k,rfl,e,rfl,ek,hd,q⟩:=q2;cases r2;obtain⟨ws,h1,h2⟩:=l2.obj a _ e;obtain⟨b,rfl,kr⟩:=wa (r1.mono k2) ek hd;refine⟨a,_,rfl,lX.t h1 kr,?_⟩;rw[<-(TR.val h2 k).2];exact hc _ S2 _ H2 (k1.trans k2) (.bl _) l2 q
theorem IW(hu:X.A.units+5<cLine)(hi:aM X W3 i ty)(ho:aM X W3 o td)(h1:behindInMarks .NotIn o=false:=by with_unfolding_all rfl):eG X W3 (.Compare i [.NotIn] [o] pos) (i7 (sO true ty td)) :=
 λZ=>PT.imp (N9 (QH hu (hi Z) (ho Z)) h1) λ_ _ _ h=>uZ (λ_ _ _ h=>Wr h) h
theorem Ws(hu:X.A.units+5<cLine)(hi:aM X W3 i ty)(ho:aM X W3 o td)(h1:behindInMarks .In o=false:=by with_unfolding_all rfl):aM X W3 (.Compare i [.In] [o] pos) (sO false ty td) :=
 λZ=>PE.imp (N8 (QG hu (hi Z) (ho Z)) h1) λ_ _ _ h=>Wq h
theorem IX(hu:X.A.units+5<cLine)(ho:aM X W3 o td)(hi:aM X W3 i ty)(hv:aM X W3 value tv)(hs:swapsWith value (some (.Subscript o i pos')) pos.line X.env=pure false) :
 fh X W3 (.Assign [.Subscript o i pos'] value pos) (IV td ty tv):=λZ=>PS.imp (QI hu (ho Z) (hi Z) (hv Z) hs) λD τ H eS=>by
 obtain⟨D3,σ,S,hs,hr,ht,hc⟩:=eS;refine⟨σ,S,_,hs,hr,ht,λd S1 v H1 k1 r1 l1 q1=>⟨σ,S1,_,hs.mono k1,l1,q1,λx S2 w H2 k2 r2 l2 q2=>⟨σ,S2,_,hs.mono (k1.trans k2),l2,q2,λy S3 z H3 k3 r3 l3 q3=>?_⟩⟩⟩;obtain⟨a,kvs,ds,k,rfl,e,rfl,ek,hd,hz,q⟩:=q3;cases r2;obtain⟨ws,h1,h2⟩:=l3.obj a _ e;obtain⟨b,rfl,kr⟩:=wa r3 ek hd;have kk:Kp Z.z H3 (upd H3 a (.dT (putK ws k v))):=Kp.at l3 e;have h2':TR X.K H3 kvs ws:=h2;refine⟨a,_,rfl,rD.t h1 kr (by rw[<-Paired.length h2'];exact hz),?_⟩;have k12:=k1.trans (k2.trans (k3.trans kk));refine hc.nx σ _ τ _ k12 (hs.mono k12) (l3.put (o:=.tab (gI kvs k d)) kk (l3.ox e) ⟨_,eP,?_⟩) q;have h3:TR X.K (upd H3 a (.dT (putK ws k v))) kvs ws:=Paired.kq h2' λp q z=>⟨z.1,z.2.mono kk⟩;exact h3.put k ((r1.mono (k2.trans k3)).mono kk)
end
def IY:List D->ah->K3->Prop:=λxs S Q=>∃a kvs,xs=[.ref a]/\S a=some (.tab kvs)/\Q (.int kvs.length) S
theorem Wt{K:ax}:fV K IY (λxs H Q=>∃a kvs,xs=[V.ref a]/\H a=some (.dT kvs)/\Q (.int kvs.length) H):=show _ by
 intro Z ds S Q3 vs H Q r l h c;obtain⟨a,kvs,rfl,e,q⟩:=h;cases r with
 |cons r rr =>
  cases rr;cases r;obtain⟨ws,h1,h2⟩:=l.obj a _ e;refine⟨a,ws,rfl,h1,?_⟩;rw[<-Paired.length h2];exact c _ S _ H (Kp.refl _ _) (.int _) l q
theorem Wu{S:ah}{Q:K3}{a:Addr}{kvs:List (DK×D)}(hS:S a=some (.tab kvs))(q:Q (.int kvs.length) S):IY [.ref a] S Q:=⟨a,kvs,rfl,hS,q⟩
section
variable{σ:aL}{S:ah}{Q:K3}{td ty tv:aQ}{n b c:aL->ah->Prop}{rt:K3}
theorem Wv(h:∀p,S p=none->Q (.ref p) (up S p (.tab []))):IU σ S Q:=h
theorem Ww{neg:Bool}(h:ty σ S λy S1=>td σ S1 λx S2=>sN neg Q x y S2):sO neg ty td σ S Q:=h
theorem Wx(h:tv σ S λv S1=>td σ S1 λx S2=>ty σ S2 λy S3=>o8 n σ v x y S3):IV td ty tv ⟨n,rt,b,c⟩ σ S:=h
theorem Wy{neg:Bool}{a:Addr}{kvs:List (DK×D)}{ds:List D}{k:DK}(hS:S a=some (.tab kvs))(ek:dZ (.tup ds)=some k)(hd:k.deep<=4)(q:Q (.bl (if neg then !(hZ kvs k).isSome else(hZ kvs k).isSome)) S):sN neg Q (.ref a) (.tup ds) S:=⟨a,kvs,ds,k,rfl,hS,rfl,ek,hd,q⟩
theorem IZ{v:D}{a:Addr}{kvs:List (DK×D)}{ds:List D}{k:DK}(hS:S a=some (.tab kvs))(ek:dZ (.tup ds)=some k)(hd:k.deep<=4)(hz:kvs.length<sizeLine)(q:n σ (up S a (.tab (gI kvs k v)))):o8 n σ v (.ref a) (.tup ds) S:=⟨a,kvs,ds,k,rfl,hS,rfl,ek,hd,hz,q⟩
end
end E3
namespace EE
open PySem PySem.Spec PyProof.Rows L2
end EE
namespace E3
open PySem PySem.Spec PyProof.Rows L2 EE
end E3
namespace EE
open PySem PySem.Spec PyProof.Rows L2
section
variable{X:Cx}{elt iter tg:Expr}{ifs:List Expr}{pos:Pos}{scope:Scope}{O M:List Str}{js:List Nat}{wi:TI}{g:TG}{tt:TT}{te:TE}
theorem Wz{i:Nat}{y:Str}{py spos:Pos}(S:eY X.env.scope O M scope)(hc:X.calm=true)(hjs:∀(k:Nat) (y:Str),M[k]?=some y->∃j:Nat,js[k]?=some j/\X.N[j]?=some y)(hlen:js.length=M.length)(hi:PI X tg iter wi)
 (hg:∀(C:Addr) (fp:List Addr) (pins:List (Addr×Obj)) (s:Shared) (H:Hp),PG (bR X scope C (O++M) fp pins s H) tg g)
 (ht:∀(C:Addr) (fp:List Addr) (pins:List (Addr×Obj)) (s:Shared) (H:Hp),ng (bR X scope C (O++M) fp pins s H) ifs tt)
 (he:∀(C:Addr) (fp:List Addr) (pins:List (Addr×Obj)) (s:Shared) (H:Hp),PE (bR X scope C (O++M) fp pins s H) elt te)
 (hN:X.N.Nodup) (hy:X.N[i]?=some y) (hl:X.env.scope.names.lookup y=some .local)
 (hsw:swapsWith (.ListComp elt [⟨tg,iter,ifs,0⟩] scope pos) (some (.Name y py)) spos.line X.env=pure true:=by rfl) (hs:∀v,foldedSetIterable iter X.env v=pure v:=by intro _;rfl) :
 PS X (.Assign [.Name y py] (.ListComp elt [⟨tg,iter,ifs,0⟩] scope pos) spos) (uv (vI wi g tt te O.length js) (uu i)):=show _ by
 intro pins s σ H D0 I h;rw[exec_Assign_Name_used _ _ _ _ hsw];refine ak (Ct (ak ?_));show wpAny _ X.A (do let _ <-comprehension (.ListComp elt [⟨tg,iter,ifs,0⟩] scope pos) scope X.env _ (newList []) false (eval iter X.env) (some (assign (.Name y py) X.env))) _ _ s;refine ak (fJ (M3 (use:=some (assign (.Name y py) X.env)) (Q:=λ_ s'=>SP X pins D0 .next s') rfl hs (E5 (S.cells I)) S.kind S.names
  (aO (hi pins s σ H _ I h) λxv s1 h1=>aO h1 λitv s2 h2=>?_)) (λ_ s' hq=>aF (aF hq)) λ_ _ e=>e)
 obtain⟨it,fp,tn,J,H1,rfl,I2,T,st2,f2,q⟩:=h2;refine jy ?_ (by show 0<=sizeLine;decide);have hD:H1 s2.heap.objs.size=none:=I2.hok.fresh (a8 _);obtain⟨W,⟨m0,w0⟩,turn⟩:=q _ hD;have I3:Inv X pins σ (upd H1 s2.heap.objs.size (.lst [])) {s2 with heap:=s2.heap.push {cls:=.type "list",data:=.seq ([]:List Value).toArray}}:=I2.uJ (t':=s2.toks) .nil (eO _);have iV:∀b∈fp,d8 X pins (upd H1 s2.heap.objs.size (.lst [])) b:=λb hb=>by
  obtain⟨f0,f⟩:=f2 b hb;obtain⟨o,e,_⟩:=T.obj 0 _ st2 b hb;exact⟨by rw[bo (dj (bq e))];exact f0,f⟩
 refine Hq (Qe:=λH'=>uu i (.ref s2.heap.objs.size) σ H' D0.nx) (R:=λC=>compPost (model X.prog X.w) X.A X.xe (some (assign (.Name y py) X.env)) (λ_ s'=>SP X pins D0 .next s') (.ref s2.heap.objs.size) C) S hc hjs hlen hg ht he I3 T
  (T.keep _ _ _ st2 λb hb o e=>bC _ e) iV w0 turn ?_
 intro C s' H' iz σ' hC Jv qe;have Ie:Inv X pins σ H' s':=Ho I3 iV Jv hC (Heap.SameBut.refl ..);obtain⟨m,hn,_⟩:=Jv.loc;have fC:=I3.lV (H':=H') hC Jv.free;obtain⟨c0,c1,c2,c3,c4,c5⟩:=fC;show wpAny _ X.A (assign (.Name y py) X.env (.ref s2.heap.objs.size)) (λ_ s''=>∃m,s''.heap.Ns C m/\∀h',gc C s''.heap h'->SP X pins D0 .next {s'' with heap:=h'}) X.xe s';refine L' (DP Ie hN hy (.inl hl) (show RelV (.ref s2.heap.objs.size) (.ref s2.heap.objs.size) from rfl) (λs'' WA ⟨a,hsb,ha⟩=>?_) (.inr hl));have WB:C≠a:=by
  rcases ha with rfl|ha
  ·exact c1
  ·exact bE (c4 _ _ ha)
 exact⟨m,hn.sameBut hsb WB,λh' hs'=>⟨_,H',WA.turned (t':=s''.toks) (λb o hb e=>(hs'.2 b hb).trans e) c0 c1 c3 c4 c5,qe⟩⟩
end
end EE
namespace E3
open PySem PySem.Spec PyProof.Rows L2 EE
section
variable{X:Cx}{W3:bX}{elt iter tg:Expr}{ifs:List Expr}{x x':Str}{px vU pos tp:Pos}{kt:Nat}{scope bQ:Scope}{O M N:List Str}{js:List Nat}{wi:fi}{g:eo}{Sh:D->aL->Prop}{tt:cJ}{te:aQ}
theorem lo1(S:eY bQ [x] M scope)(hx:scope.names.lookup x=some .local)(C:Addr)(fp:List Addr)(pins:List (Addr×Obj))(s:Shared)(H:Hp):gE (bR X scope C ([x]++M) fp pins s H) dw (.Name x px) (jL 0) :=
 ck (i:=0) S.nd rfl (.inl (qD hx)) (.inr (qD hx))
theorem lo2(S:eY bQ [x,x'] M scope)(hx:scope.names.lookup x=some .local/\scope.names.lookup x'=some .local)(C:Addr)(fp:List Addr)(pins:List (Addr×Obj))(s:Shared)(H:Hp) :
 gE (bR X scope C ([x,x']++M) fp pins s H) dw (.Tuple [.Name x px,.Name x' vU] kt tp) (u7 2 (oD (jL 0) (oD (jL 1) u5))) :=
 u9 rfl (l8 (ck (i:=0) S.nd rfl (.inl (qD hx.1)) (.inr (qD hx.1))) (l8 (ck (i:=1) S.nd rfl (.inl (qD hx.2)) (.inr (qD hx.2))) u6))
theorem I0(S:eY bQ O M scope)(hjs:M.map some=js.map λj=>N[j]?)(hc:X.calm=true)(hsh:sm O.length g Sh)(hi:fW X W3 tg iter wi)
 (hg:∀(C:Addr) (fp:List Addr) (pins:List (Addr×Obj)) (s:Shared) (H:Hp),gE (bR X scope C (O++M) fp pins s H) dw tg g)
 (ht:∀(C:Addr) (fp:List Addr) (pins:List (Addr×Obj)) (s:Shared) (H:Hp),jg (bR X scope C (O++M) fp pins s H) ifs tt)
 (he:∀(C:Addr) (fp:List Addr) (pins:List (Addr×Obj)) (s:Shared) (H:Hp),aM (bR X scope C (O++M) fp pins s H) dw elt te)
 (hJ:X.env.scope=bQ) (hN:X.N=N) (hs:∀v,foldedSetIterable iter X.env v=pure v) :
 aM X W3 (.ListComp elt [⟨tg,iter,ifs,0⟩] scope pos) (jV wi Sh tt te js):=λZ=>by
 subst hJ hN;exact PE.imp (Hr S hc (ow hjs).1 (ow hjs).2 (hi Z) (λC fp pins s H=>(hg C fp pins s H).ex) (λC fp pins s H=>(ht C fp pins s H).ex) (λC fp pins s H=>(he C fp pins s H).ex) hs) λ_ _ _ h=>vO hsh h
theorem WC{i:Nat}{y:Str}{py spos:Pos}(S:eY bQ O M scope)(hjs:M.map some=js.map λj=>N[j]?)(hc:X.calm=true)(hsh:sm O.length g Sh)(hi:fW X W3 tg iter wi)
 (hg:∀(C:Addr) (fp:List Addr) (pins:List (Addr×Obj)) (s:Shared) (H:Hp),gE (bR X scope C (O++M) fp pins s H) dw tg g)
 (ht:∀(C:Addr) (fp:List Addr) (pins:List (Addr×Obj)) (s:Shared) (H:Hp),jg (bR X scope C (O++M) fp pins s H) ifs tt)
 (he:∀(C:Addr) (fp:List Addr) (pins:List (Addr×Obj)) (s:Shared) (H:Hp),aM (bR X scope C (O++M) fp pins s H) dw elt te)
 (Ak:X.N.Nodup) (hy:X.N[i]?=some y) (hl:X.env.scope.names.lookup y=some .local) (hJ:X.env.scope=bQ) (hN:X.N=N)
 (hsw:swapsWith (.ListComp elt [⟨tg,iter,ifs,0⟩] scope pos) (some (.Name y py)) spos.line X.env=pure true) (hs:∀v,foldedSetIterable iter X.env v=pure v) :
 fh X W3 (.Assign [.Name y py] (.ListComp elt [⟨tg,iter,ifs,0⟩] scope pos) spos) (rQ i (jV wi Sh tt te js)):=λZ=>by
 subst hJ hN;exact PS.imp (Wz S hc (ow hjs).1 (ow hjs).2 (hi Z) (λC fp pins s H=>(hg C fp pins s H).ex) (λC fp pins s H=>(ht C fp pins s H).ex) (λC fp pins s H=>(he C fp pins s H).ex) Ak hy hl hsw hs) λD τ H ⟨D3,σ,S,hs,hr,ht,hc⟩ =>
  vO hsh ⟨σ,S,_,hs,hr,ht,λd S' v H' k r l q=>hc.nx _ S' _ H' k ((hs.mono k).set r i) l q⟩
theorem h_(S:eY bQ [x] M scope)(hx:scope.names.lookup x=some .local)(hjs:M.map some=js.map λj=>N[j]?)(hc:X.calm=true)(hi:fW X W3 (.Name x px) iter wi)
 (ht:∀(C:Addr) (fp:List Addr) (pins:List (Addr×Obj)) (s:Shared) (H:Hp),jg (bR X scope C ([x]++M) fp pins s H) ifs tt)
 (he:∀(C:Addr) (fp:List Addr) (pins:List (Addr×Obj)) (s:Shared) (H:Hp),aM (bR X scope C ([x]++M) fp pins s H) dw elt te)
 (hJ:X.env.scope=bQ:=by rfl) (hN:X.N=N:=by rfl) (hs:∀v,foldedSetIterable iter X.env v=pure v:=by intro _;rfl) :
 aM X W3 (.ListComp elt [⟨.Name x px,iter,ifs,0⟩] scope pos) (jV wi jU tt te js):=I0 S hjs hc vN hi (lo1 S hx) ht he hJ hN hs
theorem kS{i:Nat}{y:Str}{py spos:Pos}(S:eY bQ [x] M scope)(hx:scope.names.lookup x=some .local)(hjs:M.map some=js.map λj=>N[j]?)(hc:X.calm=true)(hi:fW X W3 (.Name x px) iter wi)
 (ht:∀(C:Addr) (fp:List Addr) (pins:List (Addr×Obj)) (s:Shared) (H:Hp),jg (bR X scope C ([x]++M) fp pins s H) ifs tt)
 (he:∀(C:Addr) (fp:List Addr) (pins:List (Addr×Obj)) (s:Shared) (H:Hp),aM (bR X scope C ([x]++M) fp pins s H) dw elt te)
 (Ak:X.N.Nodup) (hy:X.N[i]?=some y) (hl:X.env.scope.names.lookup y=some .local) (hJ:X.env.scope=bQ:=by rfl) (hN:X.N=N:=by rfl)
 (hsw:swapsWith (.ListComp elt [⟨.Name x px,iter,ifs,0⟩] scope pos) (some (.Name y py)) spos.line X.env=pure true:=by rfl) (hs:∀v,foldedSetIterable iter X.env v=pure v:=by intro _;rfl) :
 fh X W3 (.Assign [.Name y py] (.ListComp elt [⟨.Name x px,iter,ifs,0⟩] scope pos) spos) (rQ i (jV wi jU tt te js)):=WC S hjs hc vN hi (lo1 S hx) ht he Ak hy hl hJ hN hsw hs
theorem I_(S:eY bQ [x,x'] M scope)(hx:scope.names.lookup x=some .local/\scope.names.lookup x'=some .local)(hjs:M.map some=js.map λj=>N[j]?)(hc:X.calm=true)(hi:fW X W3 (.Tuple [.Name x px,.Name x' vU] kt tp) iter wi)
 (ht:∀(C:Addr) (fp:List Addr) (pins:List (Addr×Obj)) (s:Shared) (H:Hp),jg (bR X scope C ([x,x']++M) fp pins s H) ifs tt)
 (he:∀(C:Addr) (fp:List Addr) (pins:List (Addr×Obj)) (s:Shared) (H:Hp),aM (bR X scope C ([x,x']++M) fp pins s H) dw elt te)
 (hJ:X.env.scope=bQ:=by rfl) (hN:X.N=N:=by rfl) (hs:∀v,foldedSetIterable iter X.env v=pure v:=by intro _;rfl) :
 aM X W3 (.ListComp elt [⟨.Tuple [.Name x px,.Name x' vU] kt tp,iter,ifs,0⟩] scope pos) (jV wi zA tt te js):=I0 S hjs hc Ug hi (lo2 S hx) ht he hJ hN hs
theorem WD{X:Cx}{sc0 Am:Scope}{C0:Addr}{N0:List Str}{sP:List Addr}{sQ:List (Addr×Obj)}{s0:Shared}{H0:Hp}(S:eY (Hs sc0 Am) [x] M scope)(hx:scope.names.lookup x=some .local)(hjs:M.map some=js.map λj=>N0[j]?)(hi:fW (bR X sc0 C0 N0 sP sQ s0 H0) W3 (.Name x px) iter wi)
 (ht:∀(C:Addr) (fp:List Addr) (pins:List (Addr×Obj)) (s:Shared) (H:Hp),jg (bR (bR X sc0 C0 N0 sP sQ s0 H0) scope C ([x]++M) fp pins s H) ifs tt)
 (he:∀(C:Addr) (fp:List Addr) (pins:List (Addr×Obj)) (s:Shared) (H:Hp),aM (bR (bR X sc0 C0 N0 sP sQ s0 H0) scope C ([x]++M) fp pins s H) dw elt te)
 (hJ:X.env.scope=Am:=by rfl) (hs:∀v,foldedSetIterable iter (bR X sc0 C0 N0 sP sQ s0 H0).env v=pure v:=by intro _;rfl) :
 aM (bR X sc0 C0 N0 sP sQ s0 H0) W3 (.ListComp elt [⟨.Name x px,iter,ifs,0⟩] scope pos) (jV wi jU tt te js):=show _ by
 subst hJ;exact h_ (bQ:=Hs sc0 X.env.scope) (N:=N0) S hx hjs rfl hi ht he rfl rfl hs
end
section
variable{σ:aL}{Q:K3}{js:List Nat}{te:aQ}
theorem f9{ds:List D}{Al:ah->Prop}{S1:ah}(f:Nat->D)(hz:ds.length<=10000)(hA:Al S1)
 (h:∀i d,ds[i]?=some d->∀P:K3,P (f i) S1->te (some d::dH σ js) S1 P) (q:cQ S1 ((aZ ds.length).map f) Q) :
 ∃W:Nat->List D->ah->Prop,W 0 [] S1/\(∀i ys S,W i ys S->Al S/\ys.length<sizeLine) /\
 (∀i d ys S,ds[i]?=some d->W i ys S->∃ρ,jU d ρ/\md (ρ++dH σ js) S λb S2=>if b=true then te (ρ++dH σ js) S2 λy S3=>W (i+1) (ys++[y]) S3 else W (i+1) ys S2)/\∀ys S,W ds.length ys S->cQ S ys Q:=show _ by
 refine zD (tt:=md) (λ_=>true) f (b5 hz (by decide)) hA (λi d hd=>⟨[some d],rfl,λP hP=>hP,λ_ P hP=>h i d hd P hP⟩) ?_;rw[G7];exact q
theorem Ja{ds:List D}{Al:ah->Prop}{S1:ah}(f:Nat->D)(hz:ds.length<=10000)(hA:∀S,Sub S1 S->Al S)
 (h:∀i d S,ds[i]?=some d->Sub S1 S->∀P:K3,(∀S',Sub S S'->P (f i) S')->te (some d::dH σ js) S P) (q:∀S,Sub S1 S->cQ S ((aZ ds.length).map f) Q) :
 ∃W:Nat->List D->ah->Prop,W 0 [] S1/\(∀i ys S,W i ys S->Al S/\ys.length<sizeLine) /\
 (∀i d ys S,ds[i]?=some d->W i ys S->∃ρ,jU d ρ/\md (ρ++dH σ js) S λb S2=>if b=true then te (ρ++dH σ js) S2 λy S3=>W (i+1) (ys++[y]) S3 else W (i+1) ys S2)/\∀ys S,W ds.length ys S->cQ S ys Q :=
 sD (Sh:=jU) f hz hA (λi d S hd hs=>⟨[some d],rfl,h i d S hd hs⟩) q
end
section
variable{K:PySem.W.Frag}
theorem Jb{H:Hp}:∀{ds:List D} {vs:List V},a7 K H ds vs->∀k,a7 K H (ds.eraseIdx k) (vs.eraseIdx k)
 |_,_,.nil,_=>.nil
 |_,_,.cons _ t,0=>t
 |_,_,.cons h t,k+1=>.cons h (Jb t k)
def Jc:D->List D->ah->K3->Prop:=λx vs S Q=>∃a ds k y,x=.ref a/\vs=[.int ((k:Nat):Int)]/\S a=some (.lst ds)/\k<=100000/\ds[k]?=some y/\Q y (up S a (.lst (ds.eraseIdx k)))
theorem Jd:oC K Jc EC:=show _ by
 intro Z x ds S Q3 v vs H Q rx r l h c;obtain⟨a,es,k,y,rfl,rfl,e,hk9,ey,q⟩:=h;cases rx;obtain⟨ws,h1,h2⟩:=l.obj a _ e;obtain⟨u,hu,ru⟩:=h2.at ey;have kk:Kp Z H (upd H a (.lst (ws.eraseIdx k))):=Kp.at l e;have hk:k<ws.length:=(bO.mp hu).1;cases r with
 |cons r1 rr =>
  cases rr;cases r1;refine⟨a,ws,(k:Int),k,u,rfl,rfl,h1,?_,?_,?_,hu,c _ _ _ _ kk (ru.mono kk) (l.put (o:=.lst (es.eraseIdx k)) kk (l.ox e) ⟨_,eP,Jb (h2.mono kk) k⟩) q⟩
  ·lia
  ·lia
  ·unfold seqIndex?;have h3:¬((k:Int)<0):=by lia
   have h4:(k:Int)<(ws.length:Int):=by lia
   simp[h3,h4]
theorem wb{S:ah}{Q:K3}{a:Addr}{ds:List D}{i:Int}{k:Nat}{y:D}(hi:i=(k:Int))(hS:S a=some (.lst ds))(hk:k<=100000)(hy:ds[k]?=some y)(q:Q y (up S a (.lst (ds.eraseIdx k)))):Jc (.ref a) [.int i] S Q:=⟨a,ds,k,y,rfl,by rw[hi],hS,hk,hy,q⟩
end
end E3
namespace PySem.SeqAt
open AutoSeq1 (wpAny_loadPart')
open MeetsSeq MeetsSeq2 MeetsSeq3
section
variable{prog:Program}{w:World}{A:Around}{i j:Int}{t u:Tok}{Q E:Value->Shared->Prop}{s:Shared}
open PySem.Spec PyProof.Rows in
open PySem.Spec PyProof.Rows in
end
end PySem.SeqAt
namespace EE
open PySem PySem.Spec PyProof.Rows L2
end EE
namespace E3
open PySem PySem.Spec PyProof.Rows L2 EE
section
variable{prog:Program}{w:World}{A:Around}{E:Value->Shared->Prop}
def sR(kvs:List (DK×Addr×Value)):List (DK×Addr×Value)->List (DK×Addr×Value)
 |[]=>kvs
 |(k,a,v)::r=>sR (storedH kvs k a v) r
inductive j0(h:Heap):List Value->List (DK×Addr×Value)->Prop where
 |nil:j0 h [] []
 |cons {t a:Addr} {v:Value} {k:DK} {r:List Value} {ps:List (DK×Addr×Value)}:IsTup h t #[.ref a,v]->ye h k a->j0 h r ps->j0 h (.ref t::r) ((k,a,v)::ps)
theorem j0.keep{h h':Heap}(hs:∀a o items n,h.get? a=some o->o.data=.seq items n->h'.get? a=some o):∀{r:List Value} {ps:List (DK×Addr×Value)},j0 h r ps->j0 h' r ps
 |_,_,.nil=>.nil
 |_,_,.cons ⟨ob,e,c,n,q⟩ hk t=>.cons ⟨ob,hs _ _ _ _ e q,c,n,q⟩ ⟨hk.1.mono hs,hk.2⟩ (j0.keep hs t)
theorem DictOfH.An{h h':Heap}{d:Addr}{xs:List (DK×Addr×Value)}(hd:h.DictOfH (gx prog w) d xs)(hs:∀a o items n,h.get? a=some o->o.data=.seq items n->h'.get? a=some o)(he:h'.get? d=h.get? d):h'.DictOfH (gx prog w) d xs:=show _ by
 obtain⟨o,es,ep,h1,h2,h3,h4,h5,h6⟩:=hd;exact⟨o,es,ep,he.trans h1,h2,h3,h4,λx hx=>⟨(h5 x hx).1.mono hs,(h5 x hx).2⟩,h6⟩
theorem WE{d it l:Addr}{R:Result->Shared->Prop}(hh:A.handled=none)(hu:A.units+5<cLine)(Ao:d≠it)(hdl:d≠l)(WG:it≠l) :
 ∀(r:List Value) (ps:List (DK×Addr×Value)) (i:Nat) (s:Shared) (kvs:List (DK×Addr×Value)) (its:Array Value),its.toList.drop i=r->j0 s.heap r ps->s.heap.IsListIter it l i->s.heap.IsList l its->s.heap.DictOfH (gx prog w) d kvs->kvs.length+ps.length<=sizeLine ->
 (∀h' tk,h'.DictOfH (gx prog w) d (sR kvs ps)->(∀b ob,b≠d->b≠it->s.heap.get? b=some ob->h'.get? b=some ob)->R (.ok (.ret .none)) {s with heap:=h',toks:=tk}) ->
 codeAny (model prog w) A (.builtin "dict.update.loop" ⟨[.ref d,.ref it,rawInt i,.none],[]⟩) R s:=show _ by
 intro r
 induction r with
 |nil =>
  intro ps i s kvs its hr hp hit hl hd hz hR;cases hp;refine Du GR ?_;rw[Dv vB _];show wpAny _ A.in1 (pyNext (.ref it) >>= _) _ _ s;have hlen:its[i]?=none:=by
   refine Ni ?_;have:=congrArg mG hr;simp at this;lia
  obtain⟨oi,ei,ci,di⟩:=id hit;refine ak (Mb hh hit hl hlen λh' eb=>?_);show wpAny _ _ (Builtin.Dict.addKeywords d [] >>= _) _ _ _;refine ak (aF (aF ?_));obtain⟨od,es,ep,ed,xd⟩:=id hd;refine hR h' s.toks (DictOfH.An hd (λb ob items n e q=>eb b ob ?_ e) ((eb d od Ao ed).trans ed.symm)) λb ob _ hb e=>eb b ob hb e;rintro rfl;rw[ei]at e;cases e;rw[di]at q;cases q
 |cons x r ih =>
  intro ps i s kvs its hr hp hit hl hd hz hR;cases hp with
  |@cons t a v k _ ps ht hk hp =>
  refine Du GR ?_;rw[Dv vB _];show wpAny _ A.in1 (pyNext (.ref it) >>= _) _ _ s;have hx:its[i]?=some (.ref t):=by
   have:(its.toList.drop i)[0]?=some (.ref t):=by rw[hr];rfl
   simpa using this
  obtain⟨oi,ei,ci,di⟩:=id hit;refine ak (Ma hit hl hx λh1 st1 wc=>?_);have seq1:∀b ob items n,s.heap.get? b=some ob->ob.data=.seq items n->h1.get? b=some ob:=λb ob items n e q=>by
   refine(wc.2 b ?_).trans e;rintro rfl;rw[ei]at e;cases e;rw[di]at q;cases q
  have ht1:IsTup h1 t #[.ref a,v]:=by
   obtain⟨ob,e,c,n,q⟩:=ht;exact⟨ob,seq1 _ _ _ _ e q,c,n,q⟩
  have hT1:(⟨h1,s.gens,s.drawn,s.toks,s.os⟩:Shared).TypeIs (.ref t) "tuple":=ht1.typeIs;obtain⟨o1,e1,c1,n1,q1⟩:=id ht1;have hd1:h1.DictOfH (gx prog w) d kvs:=DictOfH.An hd seq1 (wc.2 d Ao);have hk1:ye h1 k a:=⟨hk.1.mono seq1,hk.2⟩;refine ak (j' ?_);refine ak ?_;refine wpAny_tryCatch ?_;unfold Builtin.Dict.pairItems;refine ak (n5 hT1 ?_);rw[if_pos (by decide)];refine ak (jr (s:=⟨h1,s.gens,s.drawn,s.toks,s.os⟩) e1 q1 (aF ?_));show wpAny _ _ (holding [.ref a,v] (dictSet d (.ref a) v)) _ _ _;obtain⟨od,es,ep,WH,xd,xe,_⟩:=id hd1;refine j' (wpAny_dictSet_heap (s:=⟨h1,s.gens,s.drawn,s.toks,s.os⟩) (knd:=gx prog w) ?room hk1 hd1 (λh2 hd2 wd=>?_) (by have:((k,a,v)::ps).length=ps.length+1:=rfl;lia))
  case room =>
   show(Around.in1 A).units+4<cLine;rw[EE.units_in1];lia
  have WI:(i:Int)+1=((i+1:Nat):Int):=by lia
  rw[WI];have WJ:∀b ob items n,h1.get? b=some ob->ob.data=.seq items n->h2.get? b=some ob:=λb ob items n e q=>by
   refine(wd.2 b ?_).trans e;rintro rfl;rw[WH]at e;cases e;rw[xe]at q;cases q
  have jd:(storedH kvs k a v).length<=kvs.length+1:=by
   unfold storedH
   split
   ·rw[az];lia
   ·simp
  refine aF ⟨xO vB _,ih ps (i+1) _ (storedH kvs k a v) its ?_ ?_ ?_ ?_ hd2 ?_ λh' tk hd' hk'=>?_⟩
  ·have:=congrArg List.tail hr;rw[List.tail_drop]at this;exact this
  ·exact hp.keep λb ob items n e q=>WJ b ob items n (seq1 b ob items n e q) q
  ·exact st1.at λo e=>(wd.2 it (bE Ao)).trans e
  ·obtain⟨o,e,c⟩:=hl;exact⟨o,(wd.2 l (bE hdl)).trans ((wc.2 l (bE WG)).trans e),c⟩
  ·have:((k,a,v)::ps).length=ps.length+1:=rfl;lia
  ·exact hR h' tk hd' λb ob h1 h2 e=>hk' b ob h1 h2 ((wd.2 b h1).trans ((wc.2 b h2).trans e))
theorem WK{s:Shared}{l:Addr}{its:Array Value}{n:Nat}{ps:List (DK×Addr×Value)}{Q:Value->Shared->Prop}(hh:A.handled=none)(hu:A.units+6<cLine)
 (hl:s.heap.get? l=some {cls:=.type "list",data:=.seq its n}) (hp:j0 s.heap its.toList ps) (hz:ps.length<=sizeLine)
 (h:∀h' tk,h'.DictOfH (gx prog w) s.heap.objs.size (sR [] ps)->(∀b ob,s.heap.get? b=some ob->h'.get? b=some ob)->Q (.ref s.heap.objs.size) {s with heap:=h',toks:=tk}) :
 wpAny (model prog w) A (call (.type "dict") [.ref l]) Q E s:=show _ by
 refine callType_codes (Q₁:=λobj s₁=>obj=.ref s.heap.objs.size/\s₁={s with heap:=s.heap.push {cls:=.type "dict",data:=.dict #[]}}) F.kt_called_dict (F.kt_typeCall_dict_1 _) F.entry_dict_init (kt_code_dict_new _ ⟨rfl,rfl⟩) ?_;rintro obj s₁ ⟨rfl,rfl⟩;have hnew:(s.heap.push {cls:=.type "dict",data:=.dict #[]}).DictOfH (gx prog w) s.heap.objs.size []:=Heap.DictOfH.new s.heap;have hl1:(s.heap.push {cls:=.type "dict",data:=.dict #[]}).get? l=some {cls:=.type "list",data:=.seq its n}:=bC _ hl;refine⟨hnew.typeIs,F.args_dict_init_2 _ _,?_⟩;unfold Builtin.«dict.__init__»;refine ak ?_;unfold Builtin.Dict.selfAndRest;refine ak (Nj hnew.typeIs ?_);show wpAny _ _ (pure (s.heap.objs.size,[Value.ref l])) _ _ _;refine aF ?_;show wpAny _ _ (Nk "dict.__init__" s.heap.objs.size (.ref l) [] .none) _ _ _;unfold Nk;refine ak (n5 (T:="list") ⟨_,hl1,rfl⟩ ?_);rw[if_pos TB];refine ak (Tz (by first|exact hh|(show A.handled=none;exact hh)) hl1 λh2 tk2 k2=>?_);rw[if_pos (show(none:Option Value).isNone=true from rfl)];refine ak (lr ?_);have hl2:h2.get? l=some {cls:=.type "list",data:=.seq its n}:=k2 _ _ hl1;have WL:h2.IsList l its:=⟨_,hl2,rfl,n,rfl⟩;refine ak (xc (s:={heap:=h2,gens:=s.gens,drawn:=s.drawn,toks:=tk2,os:=s.os}) WL ?_);have hlt:s.heap.objs.size<h2.objs.size:=by
  have:=k2 s.heap.objs.size _ (du _ rfl);exact bq this
 have hll:l<s.heap.objs.size:=bq hl;refine aF ⟨xO vB _,WE (A:=A.in1) (d:=s.heap.objs.size) (it:=h2.objs.size) (l:=l) (show A.in1.handled=none from hh) (by rw[EE.units_in1];lia) (dj hlt) (kb hll) (kb (C8 hll hlt)) its.toList ps 0 _ [] its rfl ?_ ⟨{cls:=.type "list_iterator",data:=.fields #[.ref l,.int 0 0]},du _ rfl,rfl,rfl⟩ ?_ ?_ ?_ λh' tk hd' hk'=>?_⟩
 ·clear hl h;have kk:∀b ob,s.heap.get? b=some ob->(h2.push {cls:=.type "list_iterator",data:=.fields #[.ref l,rawInt 0]}).get? b=some ob:=λb ob e=>bC _ (k2 b ob (bC _ e));exact hp.keep λb ob _ _ e _=>kk b ob e
 ·exact⟨_,bC _ hl2,rfl,n,rfl⟩
 ·exact DictOfH.An hnew (λb ob _ _ e _=>bC _ (k2 b ob e)) (by obtain⟨o,es,ep,e,_⟩:=hnew;rw[e];exact bC _ (k2 _ _ e))
 ·simpa using hz
 ·refine⟨rfl,h h' tk hd' λb ob e=>hk' b ob ?_ ?_ (bC _ (k2 b ob (bC _ e)))⟩
  ·exact dj (bq e)
  ·exact dj (C8 (bq e) hlt)
end
section
variable{X:Cx}{W3:bX}
theorem Je{pins:List (Addr×Obj)}{σ:L2.St}{H:Hp}{s:Shared}(I:Inv X pins σ H s):∀{kvs:List (DK×V)} {xs:List V} {us:List Value},Paired (λ(kv:DK×V) (x:V)=>∃t b,x=.ref t/\bz X.K H t [.ref b,kv.2]/\eQ H kv.1 b) kvs xs->Vals xs us ->
 ∃ps,j0 s.heap us ps/\KT H kvs ps
 |_,_,_,.nil,.nil=>⟨[],.nil,.nil⟩
 |_,_,_,.cons (a:=kv) ⟨t,b,e,ht,hk⟩ q,.cons r rr=>by
  subst e;cases r;obtain⟨ps,h1,h2⟩:=Je I q rr;obtain⟨its,rv,p,_⟩:=I.tuple ht;cases rv with
  |cons ra rv =>
   cases rv with
   |cons rb rv =>
    cases rv;cases ra;exact⟨(kv.1,b,_)::ps,.cons p (rC I.hok hk) h1,.cons ⟨rfl,hk,rb⟩ h2⟩
theorem Jf{H:Hp}:∀{more:List (DK×V)} {rs:List (DK×Addr×Value)} {kvs:List (DK×V)} {vs:List (DK×Addr×Value)},KT H more rs->KT H kvs vs->KT H (more.foldl (λacc kv=>putK acc kv.1 kv.2) kvs) (sR vs rs)
 |_,_,_,_,.nil,h=>h
 |_,_,_,_,.cons (a:=p) (b:=q) ⟨e,hk,r⟩ t,h=>by
  obtain⟨k,v⟩:=p;obtain⟨k',b,v'⟩:=q;obtain rfl:k=k':=e;simp only[n8,sR];exact Jf t (KT.put h k hk r)
theorem Jg:∀(more kvs:List (DK×V)),(more.foldl (λacc kv=>putK acc kv.1 kv.2) kvs).length<=kvs.length+more.length
 |[],kvs=>by simp
 |(k,v)::more,kvs=>by
  simp only[n8,cK];have h1:=Jg more (putK kvs k v);have h2:(putK kvs k v).length<=kvs.length+1:=show _ by
   unfold putK
   split
   ·rw[az];lia
   ·simp
  lia
theorem WM(hu:X.A.units+200<cLine)(hc:X.calm=true:=by rfl):fg X (.type "dict") (λxs H Q=>∃l ys kvs,xs=[.ref l]/\H l=some (.lst ys)/\Paired (λ(kv:DK×V) (x:V)=>∃t b,x=.ref t/\bz X.K H t [.ref b,kv.2]/\eQ H kv.1 b) kvs ys /\
 ∀p,H p=none->Q (.ref p) (upd H p (.dT (kvs.foldl (λacc kv=>putK acc kv.1 kv.2) [])))):=show _ by
 intro pins s σ H xs us Q I r h;obtain⟨l,ys,kvs,rfl,hH,hp,q⟩:=h;obtain⟨u,rfl,ru⟩:=vals1 r;cases ru;obtain⟨z,its,n,rv,hl,e⟩:=I.kA hH;obtain⟨ps,h1,h2⟩:=Je I hp rv;have hl1:kvs.length=ys.length:=Paired.length hp;have hl2:kvs.length=ps.length:=Paired.length h2;refine WK (I.ok.hd hc) (by lia) e (by simpa using h1) (by lia) λh' tk hd' hk'=>?_;have fr:=I.fresh;refine⟨.ref s.heap.objs.size,_,I.laid (t':=tk) hk' (a8 _) ?_,rfl,q _ fr⟩;have hkv:=Jf h2 (kvs:=[]) (vs:=[]) .nil;have hle:=Jg kvs [];obtain⟨o,es,ep,g1,g2,g3,g4,_,g6⟩:=hd';exact⟨by simp at hle;lia,beq_eq_false_iff_ne.mpr (kb I.big),_,hkv.keeps (λb ys hb=>by
  have hne:b≠s.heap.objs.size:=by rintro rfl;rw[fr]at hb;cases hb
  rw[bo hne];exact hb),o,es,ep,g1,g2,g3,g4,g6⟩
def Jh:List D->ah->K3->Prop:=λxs S Q=>∃(a:Addr) (ys:List D) (kvs:List (DK×D)),xs=[.ref a]/\S a=some (.lst ys)/\Paired (λ(kv:DK×D) (y:D)=>∃ds,y=.tup [.tup ds,kv.2]/\dZ (.tup ds)=some kv.1/\kv.1.deep<=4) kvs ys /\
 ∀p,S p=none->Q (.ref p) (up S p (.tab (kvs.foldl (λacc kv=>gI acc kv.1 kv.2) [])))
theorem Ji{K:ax}{H:Hp}:∀{kvs:List (DK×D)} {ys:List D} {us:List V},Paired (λ(kv:DK×D) (y:D)=>∃ds,y=.tup [.tup ds,kv.2]/\dZ (.tup ds)=some kv.1/\kv.1.deep<=4) kvs ys->a7 K H ys us ->
 ∃ws:List (DK×V),TR K H kvs ws/\Paired (λ(kv:DK×V) (x:V)=>∃t b,x=.ref t/\bz K H t [.ref b,kv.2]/\eQ H kv.1 b) ws us
 |_,_,_,.nil,.nil=>⟨[],.nil,.nil⟩
 |_,_,_,.cons (a:=kv) ⟨ds,e,ek,hd⟩ q,.cons r rr=>by
  subst e;obtain⟨ws,h2,h3⟩:=Ji q rr;cases r with
  |tup h1 h4 =>
   cases h4 with
   |cons ra h4 =>
    cases h4 with
    |cons rb h4 =>
     cases h4;obtain⟨b,rfl,kr⟩:=wa ra ek hd;exact⟨(kv.1,_)::ws,.cons ⟨rfl,rb⟩ h2,.cons ⟨_,b,rfl,h1,kr⟩ h3⟩
theorem TR.fold{K:ax}{H:Hp}:∀{kvs:List (DK×D)} {ws:List (DK×V)} {as:List (DK×D)} {bs:List (DK×V)},TR K H kvs ws->TR K H as bs->TR K H (kvs.foldl (λacc kv=>gI acc kv.1 kv.2) as) (ws.foldl (λacc kv=>putK acc kv.1 kv.2) bs)
 |_,_,_,_,.nil,h=>h
 |_,_,_,_,.cons (a:=p) (b:=q) ⟨e,r⟩ t,h=>by
  obtain⟨k,v⟩:=p;obtain⟨k',v'⟩:=q;obtain rfl:k=k':=e;simp only[n8];exact TR.fold t (TR.put h k r)
theorem WN{K:ax}:fV K Jh (λxs H Q=>∃l ys kvs,xs=[.ref l]/\H l=some (.lst ys)/\Paired (λ(kv:DK×V) (x:V)=>∃t b,x=.ref t/\bz K H t [.ref b,kv.2]/\eQ H kv.1 b) kvs ys /\
 ∀p,H p=none->Q (.ref p) (upd H p (.dT (kvs.foldl (λacc kv=>putK acc kv.1 kv.2) [])))):=show _ by
 intro Z ds S Q3 vs H Q r l h c;obtain⟨a,ys,kvs,rfl,e,hp,q⟩:=h;cases r with
 |cons r rr =>
  cases rr;cases r;obtain⟨us,h1,h2⟩:=l.obj a _ e;obtain⟨ws,h3,h4⟩:=Ji hp h2;refine⟨a,us,ws,rfl,h1,h4,λp hp=>?_⟩;obtain⟨hs,hz⟩:=l.fresh hp;have k:=Kp.new (o:=HO.dT (ws.foldl (λacc kv=>putK acc kv.1 kv.2) [])) hp hz;refine c _ _ _ _ k (.ref p) (l.put (o:=.tab (kvs.foldl (λacc kv=>gI acc kv.1 kv.2) [])) k hz ⟨_,eP,?_⟩) (q p hs);have h5:TR K (upd H p (.dT (ws.foldl (λacc kv=>putK acc kv.1 kv.2) []))) kvs ws:=Paired.kq h3 λp q z=>⟨z.1,z.2.mono k⟩;exact TR.fold h5 .nil
theorem WO{S:ah}{Q:K3}{a:Addr}{ys:List D}{kvs:List (DK×D)}(hS:S a=some (.lst ys))(hp:Paired (λ(kv:DK×D) (y:D)=>∃ds,y=.tup [.tup ds,kv.2]/\dZ (.tup ds)=some kv.1/\kv.1.deep<=4) kvs ys)(q:∀p,S p=none->Q (.ref p) (up S p (.tab (kvs.foldl (λacc kv=>gI acc kv.1 kv.2) [])))):Jh [.ref a] S Q:=⟨a,ys,kvs,rfl,hS,hp,q⟩
end
def iH(h:Heap)(d:Addr)(es:Array DictEntry)(ep:Nat):Prop:=∃o,h.get? d=some o/\o.ExactDict/\o.data=.dict es ep
section
variable{prog:Program}{w:World}{A:Around}{E:Value->Shared->Prop}{s:Shared}{d it:Addr}{es:Array DictEntry}{ep i:Nat}
theorem iH.typeIs(x:iH s.heap d es ep):s.TypeIs (.ref d) "dict":=by
 obtain⟨o,h1,h2,_⟩:=x;exact⟨o,h1,h2.1⟩
theorem iH.keep{h h':Heap}(x:iH h d es ep)(k:∀o,h.get? d=some o->h'.get? d=some o):iH h' d es ep:=by
 obtain⟨o,h1,h2⟩:=x;exact⟨o,k o h1,h2⟩
theorem iH.lt{h:Heap}(x:iH h d es ep):d<h.objs.size:=by
 obtain⟨o,h1,_⟩:=x;exact bq h1
theorem WQ{Q:Value->Shared->Prop}(hd:(d==sysModules)=false)(hm:iH s.heap d es ep)
 (hQ:Q (.ref s.heap.objs.size) {s with heap:=s.heap.push {cls:=.type "dict_keyiterator",data:=.fields #[.ref d,.int 0 0,.int es.size 0,.int ep 0]}}):wpAny (model prog w) A (pyIter (.ref d)) Q E s:=show _ by
 have hT:=hm.typeIs;obtain⟨o,ho,hc,hdat⟩:=id hm;apply M9 hT Nl;refine ig Nl hT F.entry_dict_iter ?_ (F.args_dict_iter_1 _);unfold Builtin.«dict.__iter__» Builtin.Dict.dictSlotNone;refine ak (ak (Nj hT (aF ?_)));show wpAny _ _ (Nn d >>= _) _ _ s;unfold Nn;rw[if_neg (by rw[hd];decide)];refine ak (aF (ak (xP ho hdat (ak (Dz ho hdat ?_)))));refine ak (jy (aF ⟨_,rfl,"dict_keyiterator",_,⟨_,du _ rfl,rfl⟩,ue.lookup,?_⟩));simpa[rawInt]using hQ
theorem WR{Q:Option Value->Shared->Prop}(hit:s.heap.IsKeyIter it d i es.size ep)(hm:iH s.heap d es ep)(hi:i<es.size)
 (hQ:∀h',h'.IsKeyIter it d (i+1) es.size ep->gc it s.heap h'->Q (some es[i].key) {s with heap:=h'}):wpAny (model prog w) A (pyNext (.ref it)) Q E s:=show _ by
 have hT:=hit.typeIs;obtain⟨o,ho,hc,hd⟩:=id hit;obtain⟨od,hod,hcd,hdd⟩:=id hm;have hown:Np "dict_keyiterator"=false:=by decide
 unfold pyNext;refine ak (qB (jw (name:=ik "__next__") hT ue ?_));refine ig ue hT Nq ?_ (Nr _);refine ak (aF (ak (ak ?_)))
 first|refine ak (xQ hT (aF ?_))|refine ak (xR hT (aF ?_))
 refine ak (wpAny_fieldsOf ho hd ?_);simp only[hown,iM,if_false];show wpAny _ _ (if(Value.ref d==Value.none)=true then _ else _) _ _ s;rw[if_neg (λz:(Value.ref d==Value.none)=true=>cT z)];refine ak (aF (ak (xP hod hdd ?_)));rw[if_neg (by simp)];refine ak (aF (ak (Dz hod hdd ?_)));rw[if_neg (by simp)];refine aF ?_;simp only[show ¬((i:Int)<0) from by lia,if_false,fb,DA hi];refine ak ?_
 first|refine ak (xQ hT (aF ?_))|refine ak (xR hT (aF ?_))
 refine ak (Nt hT ?_);show wpAny _ _ (setField (.ref it) 1 (rawInt ((i:Int)+1)) >>= _) _ _ s;refine ak (xC ho hd (by simp) ?_);have hit':(s.heap.update it (Nu (·.setIfInBounds 1 (rawInt ((i:Int)+1))))).IsKeyIter it d (i+1) es.size ep :=
  ⟨_,qu _ ho (MQ (xD hd _)),(MR ..).trans hc,by rw[xD hd];simp[rawInt]⟩
 refine ak (j' (ak (Nt (s:={s with heap:=s.heap.update it (Nu (·.setIfInBounds 1 (rawInt ((i:Int)+1))))}) hit'.typeIs ?_)));show wpAny _ _ (pure es[i].key) _ _ _;exact aF (aF ⟨_,rfl,aF (hQ _ hit' (xE ..))⟩)
theorem WS{Q:Option Value->Shared->Prop}(hh:A.handled=none)(hit:s.heap.IsKeyIter it d es.size es.size ep)(hm:iH s.heap d es ep)(hQ:∀h',t8 it s.heap h'->Q none {s with heap:=h'}):wpAny (model prog w) A (pyNext (.ref it)) Q E s:=show _ by
 have hT:=hit.typeIs;obtain⟨o,ho,hc,hd⟩:=id hit;obtain⟨od,hod,hcd,hdd⟩:=id hm;have hown:Np "dict_keyiterator"=false:=by decide
 unfold pyNext;refine ak (qB (jw (name:=ik "__next__") hT ue ?_));refine ig ue hT Nq ?_ (Nr _);refine ak (aF (ak (ak ?_)))
 first|refine ak (xQ hT (aF ?_))|refine ak (xR hT (aF ?_))
 refine ak (wpAny_fieldsOf ho hd ?_);simp only[hown,iM,if_false];show wpAny _ _ (if(Value.ref d==Value.none)=true then _ else _) _ _ s;rw[if_neg (λz:(Value.ref d==Value.none)=true=>cT z)];refine ak (aF (ak (xP hod hdd ?_)));rw[if_neg (by simp)];refine ak (aF (ak (Dz hod hdd ?_)));rw[if_neg (by simp)];refine aF ?_;simp only[show ¬(((es.size:Nat):Int)<0) from by lia,if_false,fb,Ni (a8 es.size)];refine ak ?_
 first|refine ak (xQ hT (aF ?_))|refine ak (xR hT (aF ?_))
 show wpAny _ _ (setField (.ref it) 0 .none >>= _) _ _ s;refine ak (xC ho hd (by simp) ?_);show wpAny _ _ (newExc (.type "StopIteration") [] >>= _) _ _ _;refine ak ?_;simp only[newExc,newTuple];refine ak (jy ?_ (by size_fits));refine ak (m:=firstArgMember _ _) (wpAny_of_eq (a:=Value.none) (by first|rfl|(simp only[firstArgMember];rfl)) (jy ?_ (by size_fits)));simp only[raiseNew];refine ak (wpAny_handled ?_);rw[show A.in1.handled=none from hh];refine ak (aF (wpAny_throw ?_));refine ak (xa (T:="StopIteration") (b:=true) ⟨_,du _ rfl,rfl⟩ Di (aF ?_));exact hQ _ (((xE ..).extBut.push _).push _)
theorem WT(hh:A.handled=none)(I d:Addr)(hne:d≠I)(es:Array DictEntry)(ep:Nat):Walks prog w A I [I,d] [I] es.size (λi v=>∃e,es[i]?=some e/\v=e.key) (λi h=>h.IsKeyIter I d i es.size ep/\iH h d es ep) where
 sub:=λb hb=>by simp at hb;simp[hb]
 frame:=λ_ _ _ st hk=>⟨st.1.at λo e=>hk I (by simp) o e,st.2.keep λo e=>hk d (by simp) o e⟩
 item:=λi s Q E hi st hQ=>by
  refine WR st.1 st.2 hi λh' hit' hs'=>?_;exact hQ _ h' s.toks ⟨es[i],by simp[hi],rfl⟩ ⟨hit',st.2.keep λo e=>hs'.extBut d o hne e⟩ λb o hb e=>hs'.extBut b o (λh=>hb (by simp[h])) e
 done:=λs Q E st hQ=>WS hh st.1 st.2 λh' he'=>hQ h' s.toks λb o hb e=>he' b o (λh=>hb (by simp[h])) e
 self:=λ_ _ _ _ st hQ=>wpAny_pyIter_keyiter st.1 hQ
theorem WU(lo:(d==sysModules)=false):PySem.W.KdlSrc prog w "dict" d d es.size (λi v=>∃e,es[i]?=some e/\v=e.key) (λh=>iH h d es ep) where
 type:=λ_ hm=>hm.typeIs
 there:=λ_ hm=>⟨hm.lt,hm.lt⟩
 keep:=λ_ _ hm hk=>hm.keep λo e=>hk d (.inl rfl) o e
 notList:=show _ by decide
 notTuple:=by decide
 hint:=λ_ _ _ _ hm hq=>PySem.W.kdl_hint_dict hm.typeIs hq
 iter:=λ_ _ hh hm=>⟨_,_,(λ_ _ hq=>WQ lo hm hq),WT hh _ d (dj hm.lt) es ep,⟨⟨_,du _ rfl,rfl,rfl⟩,hm.keep λo e=>bC _ e⟩⟩
end
mutual
def fm:DK->D
 | .int i=>.int i
 | .str x=>.str x
 | .tup ks=>.tup (jm ks)
def jm:List DK->List D
 |[]=>[]
 |k::ks=>fm k::jm ks
end
mutual
theorem Jj{K:ax}{H:Hp}:∀{k:DK} {v:V},iu H k v->Rp K H (fm k) v
 |_,_,.int i=>by rw[fm];exact .int i
 |_,_,.str x=>by rw[fm];exact .str x
 |_,_,.tup h1 h2=>by rw[fm];exact .tup h1 (Jk h2)
theorem Jk{K:ax}{H:Hp}:∀{ks:List DK} {vs:List V},iw H ks vs->a7 K H (jm ks) vs
 |_,_,.nil=>by rw[jm];exact .nil
 |_,_,.cons h1 h2=>by rw[jm];exact .cons (Jj h1) (Jk h2)
end
section
variable{X:Cx}
theorem Jl(hc:X.calm=true:=by rfl):fg X (.type "list") (λxs H Q=>∃p kvs,xs=[V.ref p]/\H p=some (.dT kvs)/\∀bs:List Addr,Paired (λ(kv:DK×V) (b:Addr)=>eQ H kv.1 b) kvs bs->∀l,H l=none->Q (.ref l) (upd H l (.lst (bs.map V.ref)))):=show _ by
 intro pins s σ H xs us Q I r h;obtain⟨p,kvs,rfl,hH,q⟩:=h;obtain⟨u,rfl,rx⟩:=vals1 r;cases rx;obtain⟨hl,lo,ys,hp,o,es,ep,g1,g2,g3,g4,g5⟩:=I.hok p _ hH;have hes:es.size=ys.length:=by rw[<-Cs,g4,az]
 have hlen:kvs.length=ys.length:=Paired.length hp;refine PySem.W.kdl_call (WU (es:=es) (ep:=ep) lo) (I.ok.hd hc) ⟨o,g1,g2,g3⟩ (by lia) λh' tk acc' c' hk hS hacc=>?_;have hacc':acc'.toList=(ys.map λy=>y.2.1).map Value.ref:=by
  apply gP;intro i;rw[dC,aK];by_cases hi:i<acc'.size
  ·obtain⟨e,he,hv⟩:=hacc.2 i _ (DA hi);rw[<-xk,g4,aK]at he;obtain⟨y,hy,rfl⟩:=bW.mp he;rw[hy,xk,DA hi,hv];rfl
  ·have h1:=hacc.1;rw[dh (by simpa using hi),dh (by lia)];rfl
 have hb:Paired (λ(kv:DK×V) (b:Addr)=>eQ H kv.1 b) kvs (ys.map λy=>y.2.1):=by
  clear hacc' hacc hes hlen g4 g5 hl q hH
  induction hp with
  |nil=>exact .nil
  |cons z t ih=>exact .cons z.2.1 ih
 have hv:Vals ((ys.map λy=>y.2.1).map V.ref) acc'.toList:=by
  rw[hacc'];generalize ys.map (λy=>y.2.1)=bs
  induction bs with
  |nil=>exact .nil
  |cons b bs ih=>exact .cons rfl ih
 refine⟨.ref s.heap.objs.size,_,I.laid (t':=tk) hk (a8 _) (show cM X.prog X.w _ h' _ (.lst ((ys.map λy=>y.2.1).map V.ref)) from⟨by simp;lia,acc'.toList,c',hv,by simpa using hS⟩),rfl,q _ hb _ (I.hok.fresh (a8 _))⟩
end
def Jm:List D->ah->K3->Prop:=λxs S Q=>∃a kvs,xs=[.ref a]/\S a=some (.tab kvs)/\cQ S (kvs.map λkv:DK×D=>fm kv.1) Q
theorem Jn{K:ax}:fV K Jm (λxs H Q=>∃p kvs,xs=[V.ref p]/\H p=some (.dT kvs)/\∀bs:List Addr,Paired (λ(kv:DK×V) (b:Addr)=>eQ H kv.1 b) kvs bs->∀l,H l=none->Q (.ref l) (upd H l (.lst (bs.map V.ref)))):=show _ by
 intro Z ds S Q3 vs H Q r l h c;obtain⟨a,kvs,rfl,e,q⟩:=h;cases r with
 |cons r rr =>
  cases rr;cases r;obtain⟨ws,h1,h2⟩:=l.obj a _ e;refine⟨a,ws,rfl,h1,λbs hb=>cQ.down q ?_ l c⟩;clear q e h1
  induction hb generalizing kvs with
  |nil=>cases h2;exact .nil
  |cons z t ih =>
   cases h2 with
   |cons y u =>
    refine .cons ?_ (ih _ u);show Rp K H (fm _) _;rw[y.1];exact Jj z.at_
theorem Ap{S:ah}{Q:K3}{a:Addr}{kvs:List (DK×D)}(hS:S a=some (.tab kvs))(q:cQ S (kvs.map λkv:DK×D=>fm kv.1) Q):Jm [.ref a] S Q:=⟨a,kvs,rfl,hS,q⟩
end E3
namespace EE
open PySem PySem.Spec PyProof.Rows L2
section
variable{X:Cx}
theorem WV{n:Nat}(hu:X.A.units+(n+1)<cLine):cj X (compareOp .NotIn) (λx y H Q=>∃d p xs ds,DR X.K H d x/\y=.ref p/\bc X.K H p xs/\dR X.K H ds xs/\(∀e∈ds,cW e<=n)/\Q (.bl (!(ds.any λe=>aW e d))) H):=show _ by
 intro pins s σ H x y v u Q I rx ry h;obtain⟨d,p,xs,ds,hd,rfl,hq,hds,hn,q⟩:=h;cases ry;obtain⟨its,r,pl,hz⟩:=I.list hq;have hl1:=r.length;have hl2:=hds.len;have hl3:ds.length=its.length:=by lia
 have each:∀(i:Nat) (w:Value),its[i]?=some w->∃e z,ds[i]?=some e/\DR X.K H e z/\RelV z w/\tX X.A.in1 s w v (aW e d):=λi w hw=>by
  have hi:i<xs.length:=by have:=(bO.mp hw).1;lia
  obtain⟨w',hw',iX⟩:=r.get (aU hi);rw[hw]at hw';cases hw';obtain⟨e,he,hde⟩:=hds.at (aU hi);exact⟨e,xs[i],he,hde,iX,(uU I n X.A.in1 e d xs[i] x w v (hn e (bS he)) (by show X.A.units+1+n<cLine;lia) hde hd iX rx).2⟩
 classical
 refine Mw (λw=>decide (∃(i:Nat) (e:Dt),its[i]?=some w/\ds[i]?=some e/\aW e d=true)) pl.isList (λw hw=>?_) ⟨.bl _,H,I,rfl,?_⟩
 ·obtain⟨i,hi,ew⟩:=gO (show w∈its by simpa using hw);have sL:its[i]?=some w:=by rw[aU hi,ew]
  obtain⟨e,z,he,hde,rz,Ae⟩:=each i w sL;have ef:decide (∃(i:Nat) (e:Dt),its[i]?=some w/\ds[i]?=some e/\aW e d=true)=aW e d:=by
   rw[fv,decide_eq_true_iff];refine⟨λ⟨j,e',h1,h2,h3⟩=>?_,λh3=>⟨i,e,sL,he,h3⟩⟩;obtain⟨e2,z2,he2,Af,Ag,_⟩:=each j w h1;rw[h2]at he2;cases he2;have ez:z2=z:=Ag.inj rz;subst ez;rw[DR.inj I hde Af];exact h3
  rw[ef];exact Ae
 ·have eb:(its.toArray.any λw=>decide (∃(i:Nat) (e:Dt),its[i]?=some w/\ds[i]?=some e/\aW e d=true))=ds.any λe=>aW e d:=by
   rw[fv];simp only[Ng,kg,decide_eq_true_iff];constructor
   ·rintro⟨w,_,i,e,_,h2,h3⟩;exact⟨e,bS h2,h3⟩
   ·rintro⟨e,he,h3⟩;obtain⟨i,hi,rfl⟩:=gO he;exact⟨its[i],kf _,i,_,aU (by lia),aU hi,h3⟩
  rw[eb];exact q
end
end EE
namespace E3
open PySem PySem.Spec PyProof.Rows L2 EE
def Jo(n:Nat):R3:=λx y S Q=>∃d a xs ds,Dn S x d/\y=.ref a/\S a=some (.lst xs)/\dS S xs ds/\(∀e∈ds,cW e<=n)/\Q (.bl (!(ds.any λe=>aW e d))) S
theorem WW{K:ax}{n:Nat}:cY K (Jo n) (λx y H Q=>∃d p xs ds,DR K H d x/\y=.ref p/\bc K H p xs/\dR K H ds xs/\(∀e∈ds,cW e<=n)/\Q (.bl (!(ds.any λe=>aW e d))) H):=show _ by
 intro Z x y S Q3 v w H Q rx ry l h c;obtain⟨d,a,xs,ds,h1,rfl,h2,h3,hn,q⟩:=h;cases ry;obtain⟨vs,h4,h5⟩:=l.obj a _ h2;exact⟨d,a,vs,ds,h1.down l rx,rfl,bc.of h4,h3.down l h5,hn,c _ S _ H (Kp.refl _ _) (.bl _) l q⟩
theorem WX{S:ah}{Q:K3}{a:Addr}{gs:List Gr}{g:Gr}{n:Nat}(hn:10<=n)(hS:S a=some (.lst (gs.map af)))(q:Q (.bl (!decide (g∈gs))) S):Jo n (af g) (.ref a) S Q:=show _ by
 refine⟨(af g).dt,a,gs.map af,D.cR (gs.map af),Dn.of (kQ g),rfl,hS,dS.of (D.l9.mpr λd hd=>?_),λe he=>?_,?_⟩
 ·obtain⟨h,_,rfl⟩:=bG.mp hd;exact kQ h
 ·rw[D.jN]at he;obtain⟨d,hd,rfl⟩:=bG.mp he;obtain⟨h,_,rfl⟩:=bG.mp hd;exact b5 (sM h) hn
 ·have e:((D.cR (gs.map af)).any λe=>aW e (af g).dt)=decide (g∈gs):=by
   rw[D.jN,dC,ud,fv,kg,decide_eq_true_iff];constructor
   ·rintro⟨h,hh,e⟩;have e2:aW (af h).dt (af g).dt=true:=e;rw[v_,decide_eq_true_iff]at e2;rw[<-e2];exact hh
   ·intro h;exact⟨g,h,by show aW (af g).dt (af g).dt=true;exact mU _⟩
  rw[e];exact q
end E3
namespace EE
open PySem PySem.Spec PyProof.Rows L2
theorem WY{X:Cx}:cj X (compareOp .NotEq) (λx y H Q=>∃a b:Bool,x=V.bl a/\y=V.bl b/\Q (.bl (!(a==b))) H):=show _ by
 intro pins s σ H x y v u Q I rx ry h;obtain⟨a,b,rfl,rfl,q⟩:=h;cases rx;cases ry;exact SeqAt.RcNeAt.bool_bool a b X.prog X.w X.xe _ ⟨.bl _,H,I,rfl,q⟩
end EE
namespace E3
open PySem PySem.Spec PyProof.Rows L2 EE
def Jp:R3:=λx y S Q=>∃a b:Bool,x=.bl a/\y=.bl b/\Q (.bl (!(a==b))) S
theorem WZ{K:ax}:cY K Jp (λx y H Q=>∃a b:Bool,x=V.bl a/\y=V.bl b/\Q (.bl (!(a==b))) H):=show _ by
 intro Z x y S Q3 v w H Q rx ry l h c;obtain⟨a,b,rfl,rfl,q⟩:=h;cases rx;cases ry;exact⟨a,b,rfl,rfl,c _ S _ H (Kp.refl _ _) (.bl _) l q⟩
theorem fo{S:ah}{Q:K3}{a b:Bool}(q:Q (.bl (!(a==b))) S):Jp (.bl a) (.bl b) S Q:=⟨a,b,rfl,rfl,q⟩
end E3
set_option maxHeartbeats 4000000
namespace LW
open PySem PySem.Spec PyProof.Rows L2 EE E3
seal aM eG cH fD fh dz rM gE rP fW r_
local macro_rules|`(tactic|nofun)=>do let w:=λ(s:String)=>(s.splitOn " ").toArray.map λx=>Lean.mkIdent (.mkStr (.mkSimple "E3") x);let at_ <-`(tactic|(first|exact rfl|exact TH|exact agC|exact agD|exact agE));let v0 <-(w "V3 V7 Wa Wc Wg").mapM λn=>`(Lean.Parser.Tactic.tacticSeq|apply $n);let v1 <-(w "V4 V8 We").mapM λn=>`(Lean.Parser.Tactic.tacticSeq|apply $n);let v3 <-(w "V9 Wh RQ").mapM λn=>`(Lean.Parser.Tactic.tacticSeq|apply $n);let a1 <-(w "VX VY V5 V6 V_ V' Wb Wd Wi Wj Wl RD RJ RR RS RT Sf Se RN R4 R5 RM RG RF RE RH RK RP RY RZ R0 RW RX SS R7 R8 R9 R_ Sa Sb Sd R6 Sg Si Sk Sl Sm Sn Sq So gm Su Sv Sw Sx Ul vR Up Vf VJ VL VO VP Vb Vd Vh Uq Uz UB UC Sz SA SD SF SG SI SE Tc Td Te Tu Wv Ww Wx SK UM UN UO UP").mapM λn=>`(Lean.Parser.Tactic.tacticSeq|apply $n);let a2 <-(w "Ga Gb Gg rX Gh Gi IB HD Vc Gm").mapM λn=>`(Lean.Parser.Tactic.tacticSeq|refine $n (by assumption) ?_);let a3 <-(w "Ga Gb Gg Gh Gi IB HD Gm").mapM λn=>`(Lean.Parser.Tactic.tacticSeq|refine $n ao ?_);let al:=a1++a2++a3;`(tactic|repeat (first|((with_reducible apply VZ);(exact rfl);(first|assumption|exact ao))|((with_reducible apply V2);(exact rfl);$at_)|((with_reducible apply V0);(exact rfl);$at_)|((with_reducible apply V1);(exact rfl);$at_;$at_)|((with_reducible first $[| $v0]*);(exact rfl))|((with_reducible first $[| $v1]*);(exact rfl);(exact rfl))|((with_reducible apply Wf);(exact rfl);(exact rfl);(exact rfl))|((with_reducible first $[| $v3]*);(exact rfl))|(with_reducible first $[| $al]*)|(with_reducible first|refine rE rfl ?_|refine yJ rfl ?_|refine uM ?_|refine uL ?_|refine rE (by assumption) ?_|refine uQ (by assumption) ?_|refine EY (by assumption) ?_|refine yJ (by assumption) ?_)|((with_reducible refine RU ?_ ?_);(first|decide|omega))|((with_reducible refine RV ?_ ?_);(first|exact⟨by decide,by decide⟩|omega))|((with_reducible refine SQ ?_ ?_);exact⟨by decide,by decide,by decide⟩)|((with_reducible refine Gv ?_ ?_);(first|exact .inl ⟨by decide,by decide⟩|exact .inr ⟨by decide,by decide⟩))|((with_reducible refine Sj ?_ ?_);exact c9 (Nat.le_of_ble_eq_true rfl))|((with_reducible apply ma);$at_)|((with_reducible apply de (by assumption));$at_)|((with_reducible apply de ao);$at_)|((with_reducible apply Ge);exact rfl)|((with_reducible apply RL);exact rfl)|((with_reducible apply Ss);(exact rfl);(exact rfl))|((with_reducible refine VN ?_ ?_);exact rfl)|((with_reducible refine zP ?_ ?_);exact c9 (Nat.le_of_ble_eq_true rfl))|((with_reducible refine TF ?_ ?_ ?_);(exact rfl);(exact rfl))|((with_reducible apply oQ (by assumption));(first|exact rfl|exact GV|exact W0))|((with_reducible apply oQ ao);(first|exact rfl|exact GV|exact W0))|((with_reducible refine GS ?_ ?_);exact rfl)|((with_reducible refine GU ?_ ?_);exact rfl)|((with_reducible refine SJ ?_ ?_);(first|exact⟨by decide,by decide,by decide,by decide⟩|exact⟨by omega,by omega,by omega,by omega⟩))|((with_reducible refine SH ?_ ?_);(first|exact⟨by decide,by decide⟩|exact⟨by omega,by omega⟩))|((with_reducible refine Sr ?_ ?_);assumption)|(with_reducible first|refine GS (by decide +kernel) ?_|refine GU (by decide +kernel) ?_|refine rE (by omega) ?_|refine uQ (by omega) ?_|refine EY (by omega) ?_|refine yJ (by omega) ?_)))
def top(i:Nat):Stmt:=PySem.Challenge.pw_errandend_k19_tellings_held.main.body.getD i (.Pass ⟨0,0,0,0⟩)
abbrev o9:Stmt:=top 6
theorem W1:bf ["saying"] ["saying"] (av o9):=⟨rfl,rfl,rfl,by cbv,rfl,by cbv,by cbv⟩
abbrev nk:Stmt:=top 8
theorem o_:bf ["program","found","errand","placed","send","rows"] ["program"] (av nk):=⟨rfl,rfl,rfl,by cbv,rfl,by cbv,by cbv⟩
abbrev ph:Stmt:=top 9
theorem sS:bf ["body","found","pending","placed","inner"] ["body"] (av ph):=⟨rfl,rfl,rfl,by cbv,rfl,by cbv,by cbv⟩
abbrev nr:Stmt:=top 10
theorem Aq:bf ["saying","known","param","inner"] ["saying","known"] (av nr):=⟨rfl,rfl,rfl,by cbv,rfl,by cbv,by cbv⟩
abbrev pj:Stmt:=top 11
theorem As:bf ["saying","rest"] ["saying"] (av pj):=⟨rfl,rfl,rfl,by cbv,rfl,by cbv,by cbv⟩
abbrev nu:Stmt:=top 12
theorem W2:bf ["param","sayings","known"] ["param","sayings","known"] (av nu):=⟨rfl,rfl,rfl,by cbv,rfl,by cbv,by cbv⟩
abbrev pv:Stmt:=top 13
theorem W4:bf ["param","saying","known"] ["param","saying","known"] (av pv):=⟨rfl,rfl,rfl,by cbv,rfl,by cbv,by cbv⟩
abbrev nv:Stmt:=top 14
theorem Jq:bf ["one","other","rows"] ["one","other"] (av nv):=⟨rfl,rfl,rfl,by cbv,rfl,by cbv,by cbv⟩
abbrev pA:Stmt:=top 15
theorem W5:bf ["one","other"] ["one","other"] (av pA):=⟨rfl,rfl,rfl,by cbv,rfl,by cbv,by cbv⟩
abbrev ny:Stmt:=top 16
theorem W6:bf ["row","rows"] ["row","rows"] (av ny):=⟨rfl,rfl,rfl,by cbv,rfl,by cbv,by cbv⟩
abbrev nz:Stmt:=top 17
theorem W7:bf ["row","rows","column"] ["row","rows","column"] (av nz):=⟨rfl,rfl,rfl,by cbv,rfl,by cbv,by cbv⟩
abbrev pB:Stmt:=top 18
theorem W8:bf ["one","other"] ["one","other"] (av pB):=⟨rfl,rfl,rfl,by cbv,rfl,by cbv,by cbv⟩
abbrev pC:Stmt:=top 21
theorem W9:bf ["program"] ["program"] (av pC):=⟨rfl,rfl,rfl,by cbv,rfl,by cbv,by cbv⟩
abbrev pD:Stmt:=top 22
theorem W_:bf ["program"] ["program"] (av pD):=⟨rfl,rfl,rfl,by cbv,rfl,by cbv,by cbv⟩
abbrev pE:Stmt:=top 23
theorem kT:bf ["numbered","found","number","graph","place","ahead"] ["numbered"] (av pE):=⟨rfl,rfl,rfl,by cbv,rfl,by cbv,by cbv⟩
abbrev nA:Stmt:=top 24
theorem Xa:bf ["found","graph","way"] ["found","graph","way"] (av nA):=⟨rfl,rfl,rfl,by cbv,rfl,by cbv,by cbv⟩
abbrev nB:Stmt:=top 25
theorem Au:bf ["pairs","graph","way"] ["pairs"] (av nB):=⟨rfl,rfl,rfl,by cbv,rfl,by cbv,by cbv⟩
abbrev pF:Stmt:=top 26
theorem Xb:bf ["graph"] ["graph"] (av pF):=⟨rfl,rfl,rfl,by cbv,rfl,by cbv,by cbv⟩
abbrev nD:Stmt:=top 27
theorem Xc:bf ["graph"] ["graph"] (av nD):=⟨rfl,rfl,rfl,by cbv,rfl,by cbv,by cbv⟩
abbrev pG:Stmt:=top 28
theorem Xd:bf ["program","telling"] ["program","telling"] (av pG):=⟨rfl,rfl,rfl,by cbv,rfl,by cbv,by cbv⟩
abbrev pH:Stmt:=top 29
theorem Jr:bf ["program","way","graph"] ["program","way"] (av pH):=⟨rfl,rfl,rfl,by cbv,rfl,by cbv,by cbv⟩
abbrev kU:Stmt:=top 30
theorem sT:bf ["sent","told","there","graph","behind"] ["sent","told"] (av kU):=⟨rfl,rfl,rfl,by cbv,rfl,by cbv,by cbv⟩
abbrev pI:Stmt:=top 31
theorem pJ:bf ["program","way","sent","number","graph"] ["program","way"] (av pI):=⟨rfl,rfl,rfl,by cbv,rfl,by cbv,by cbv⟩
abbrev pK:Stmt:=top 33
theorem Xe:bf ["script","k"] ["script","k"] (av pK):=⟨rfl,rfl,rfl,by cbv,rfl,by cbv,by cbv⟩
abbrev kW:Stmt:=top 34
theorem jo:bf ["cell","many","base","left","k","place","found","turn"] ["cell","many"] (av kW):=⟨rfl,rfl,rfl,by cbv,rfl,by cbv,by cbv⟩
abbrev pL:Stmt:=top 35
theorem Xf:bf ["script","spot"] ["script","spot"] (av pL):=⟨rfl,rfl,rfl,by cbv,rfl,by cbv,by cbv⟩
abbrev pM:Stmt:=top 36
theorem we:bf ["cell","params","saying","k"] ["cell","params"] (av pM):=⟨rfl,rfl,rfl,by cbv,rfl,by cbv,by cbv⟩
abbrev pN:Stmt:=top 37
theorem Xg:bf ["cell","params"] ["cell","params"] (av pN):=⟨rfl,rfl,rfl,by cbv,rfl,by cbv,by cbv⟩
abbrev nE:Stmt:=top 38
theorem Js:bf ["script","spot","names","counts","params","to"] ["script","spot","names","counts","params"] (av nE):=⟨rfl,rfl,rfl,by cbv,rfl,by cbv,by cbv⟩
abbrev pO:Stmt:=top 39
theorem jq:bf ["script","spot","names","counts","params","shape","inner","other","row","last"] ["script","spot","names","counts","params"] (av pO):=⟨rfl,rfl,rfl,by cbv,rfl,by cbv,by cbv⟩
abbrev nF:Stmt:=top 40
theorem kX:bf ["script","spot","most","head","many","names","params","counts","program","k","mine"] ["script","spot","most"] (av nF):=⟨rfl,rfl,rfl,by cbv,rfl,by cbv,by cbv⟩
abbrev pP:Stmt:=top 41
theorem mn:bf ["script","spot","names","counts","params","to","row","k","cell","one"] ["script","spot","names","counts","params"] (av pP):=⟨rfl,rfl,rfl,by cbv,rfl,by cbv,by cbv⟩
abbrev nG:Stmt:=top 42
theorem ia:bf ["script","spot","most","head","many","names","params","counts","program","k","mine","shape","first","last"] ["script","spot","most"] (av nG):=⟨rfl,rfl,rfl,by cbv,rfl,by cbv,by cbv⟩
abbrev pQ:Stmt:=top 43
theorem Xh:bf ["script","spot","way","most"] ["script","spot","way","most"] (av pQ):=⟨rfl,rfl,rfl,by cbv,rfl,by cbv,by cbv⟩
abbrev pR:Stmt:=top 44
theorem mo:bf ["one","other","rows","row","new","k","best","j"] ["one","other"] (av pR):=⟨rfl,rfl,rfl,by cbv,rfl,by cbv,by cbv⟩
abbrev pS:Stmt:=top 45
theorem Jt:bf ["graph","k"] ["graph"] (av pS):=⟨rfl,rfl,rfl,by cbv,rfl,by cbv,by cbv⟩
abbrev pT:Stmt:=top 46
theorem nH:bf ["saying","steps","path","found","step"] ["saying"] (av pT):=⟨rfl,rfl,rfl,by cbv,rfl,by cbv,by cbv⟩
abbrev nI:Stmt:=top 47
theorem Ju:bf ["param","saying","known","found"] ["param","saying","known"] (av nI):=⟨rfl,rfl,rfl,by cbv,rfl,by cbv,by cbv⟩
abbrev mq:Stmt:=top 48
theorem nJ:bf ["errand","saying","known","found","rows","one","k","more"] ["errand","saying","known"] (av mq):=⟨rfl,rfl,rfl,by cbv,rfl,by cbv,by cbv⟩
abbrev pU:Stmt:=top 49
theorem Av:bf ["program","found","errand"] ["program"] (av pU):=⟨rfl,rfl,rfl,by cbv,rfl,by cbv,by cbv⟩
abbrev pV:Stmt:=top 50
theorem sU:bf ["own","way","graph","number"] ["own","way"] (av pV):=⟨rfl,rfl,rfl,by cbv,rfl,by cbv,by cbv⟩
abbrev mr:Stmt:=top 51
theorem wg:bf ["own","telling","graph","one"] ["own","telling"] (av mr):=⟨rfl,rfl,rfl,by cbv,rfl,by cbv,by cbv⟩
abbrev mv:Stmt:=top 52
theorem wj:bf ["graph","cell","rows","at","k"] ["graph","cell"] (av mv):=⟨rfl,rfl,rfl,by cbv,rfl,by cbv,by cbv⟩
abbrev pW:Stmt:=top 53
theorem kY:bf ["program","cell","one","other","left","rows","x","row","y"] ["program","cell"] (av pW):=⟨rfl,rfl,rfl,by cbv,rfl,by cbv,by cbv⟩
abbrev pX:Stmt:=top 54
theorem pY:bf ["own","most","seen","graph","todo","one"] ["own","most"] (av pX):=⟨rfl,rfl,rfl,by cbv,rfl,by cbv,by cbv⟩
abbrev pZ:Stmt:=top 55
theorem j3:bf ["program","own","told","way","cell","row","at","left","k"] ["program","own","told","way","cell"] (av pZ):=⟨rfl,rfl,rfl,by cbv,rfl,by cbv,by cbv⟩
abbrev kZ:Stmt:=top 56
theorem iI:bf ["script","program","own","told","way","telling","kept","due","found"] ["script"] (av kZ):=⟨rfl,rfl,rfl,by cbv,rfl,by cbv,by cbv⟩
inductive ib{gJ α1:Type}(p:gJ->α1->Prop):Prop where
 |mk (a0:gJ) (a1:α1) (h:p a0 a1)
inductive mw{gJ α1 α2:Type}(p:gJ->α1->α2->Prop):Prop where
 |mk (a0:gJ) (a1:α1) (a2:α2) (h:p a0 a1 a2)
inductive j5{gJ α1 α2 α3:Type}(p:gJ->α1->α2->α3->Prop):Prop where
 |mk (a0:gJ) (a1:α1) (a2:α2) (a3:α3) (h:p a0 a1 a2 a3)
inductive wm{gJ α1 α2 α3 sV:Type}(p:gJ->α1->α2->α3->sV->Prop):Prop where
 |mk (a0:gJ) (a1:α1) (a2:α2) (a3:α3) (a4:sV) (h:p a0 a1 a2 a3 a4)
inductive Xi{gJ α1 α2 α3 sV Jw Jx:Type}(p:gJ->α1->α2->α3->sV->Jw->Jx->Prop):Prop where
 |mk (a0:gJ) (a1:α1) (a2:α2) (a3:α3) (a4:sV) (a5:Jw) (a6:Jx) (h:p a0 a1 a2 a3 a4 a5 a6)
theorem sW{us:List Value}{n:Nat}(h:us.length=n+1):∃a t,us=a::t/\t.length=n:=by
 cases us with
 |nil=>cases h
 |cons a t=>exact⟨a,t,rfl,Nat.succ.inj h⟩
theorem Xj{us:List Value}(h:us.length=0):us=[]:=List.eq_nil_of_length_eq_zero h
theorem gK{us:List Value}(h:us.length=1):∃a0,us=[a0]:=by
 obtain⟨a0,t,rfl,g⟩:=sW h;obtain rfl:=Xj g;exact⟨a0,rfl⟩
theorem ln2{us:List Value}(h:us.length=2):∃a0 a1,us=[a0,a1]:=by
 obtain⟨a0,t,rfl,g⟩:=sW h;obtain⟨a1,rfl⟩:=gK g;exact⟨a0,a1,rfl⟩
theorem k7{us:List Value}(h:us.length=3):∃a0 a1 a2,us=[a0,a1,a2]:=by
 obtain⟨a0,t,rfl,g⟩:=sW h;obtain⟨a1,a2,rfl⟩:=ln2 g;exact⟨a0,a1,a2,rfl⟩
theorem Jy{us:List Value}(h:us.length=4):∃a0 a1 a2 a3,us=[a0,a1,a2,a3]:=by
 obtain⟨a0,t,rfl,g⟩:=sW h;obtain⟨a1,a2,a3,rfl⟩:=k7 g;exact⟨a0,a1,a2,a3,rfl⟩
theorem wo{us:List Value}(h:us.length=5):∃a0 a1 a2 a3 a4,us=[a0,a1,a2,a3,a4]:=by
 obtain⟨a0,t,rfl,g⟩:=sW h;obtain⟨a1,a2,a3,a4,rfl⟩:=Jy g;exact⟨a0,a1,a2,a3,a4,rfl⟩
structure Gs(K:ax)(mg:Str->Option Value):Prop where
 len:mg "len"=none
 range:mg "range"=none
 wq:mg "isinstance"=none
 tuple:mg "tuple"=none
 list:mg "list"=none
 dict:mg "dict"=none
 int:mg "int"=none
 bool:mg "bool"=none
 Jz:mg "reversed"=none
 any:mg "any"=none
 all:mg "all"=none
 enumerate:mg "enumerate"=none
 max:mg "max"=none
 zip:mg "zip"=none
 Xk:∃t,mg "MOST_IN_CLOSURE"=some (.int 40 t)
abbrev ES:List Rf:=[.err,.apart,.many,.way]
section
variable{P:Program}{w:World}{K:PySem.W.Frag}{mg:Str->Option Value}{base:Heap}{adr:Rf->Addr}
def cellAt(ns:List Int)(k:Int):Int:=ns.getD k.toNat 0
inductive Xl (ds:List D)(q:D->Prop):Prop where
 |mk (ns:List Int) (k:Int) (_:ds=[.bD (ns.map D.int),.int k]) (_:0<=k) (_:q (.int (cellAt ns k)))
def wt :aY:=vS Xl
theorem Xm{k:Nat}(h:aE K mg "_law_cell_at" pK ["script","k"])(G:Gs K mg):ay P w K mg base (k+1) "_law_cell_at" ["script","k"] wt:=show _ by
 refine h.val Xe (by rintro ds q ⟨ns,k,e,_⟩;rw[e];rfl) λf cdv A outer s H E ds q hr ⟨ns,k,e,h0,hq⟩=>?_;subst e;refine⟨_,(aq (bN (aX lW gG (aa 1) (b9 dG dI rfl G.len dD (ae (aa 0) ai)) (aV _)) (aB (aS (aA cV c8 (aa 0) (aa 1) (λ_ _=>rfl)))) bj)
 (aB (aS aj))),?_⟩
 nofun;have hl:(ns.map D.int).length=ns.length:=az _;refine QP (λc=>?_) (λc=>?_)
 ·rw[hl]at c;have hk:k.toNat<ns.length:=by lia
  nofun;refine Ge (kI h0 (v:=.int (cellAt ns k)) ?_) hq;rw[aK,aU hk];simp[cellAt,bJ,aU hk]
 ·rw[hl]at c;have hk:ns.length<=k.toNat:=by lia
  nofun;have e:cellAt ns k=0:=by simp[cellAt,bJ,dh hk]
  rw[e]at hq;exact hq
inductive Xn (ds:List D)(S:ah)(q:D->Addr->O->Prop):Prop where
 |mk (ns:List Int) (sp:Addr) (i:Int) (rs:List D) (_:ds=[.bD (ns.map D.int),.ref sp]) (_:S sp=some (.lst (.int i::rs))) (_:0<=i) (_:q (.int (cellAt ns i)) sp (.lst (.int (i+1)::rs)))
def p6 :aY:=kH Xn
theorem Xo{k:Nat}(h:aE K mg "_law_next" pL ["script","spot"])(mx:ay P w K mg base k "_law_cell_at" ["script","k"] wt):ay P w K mg base (k+1) "_law_next" ["script","spot"] p6:=show _ by
 refine h.kH Xf (by rintro ds S q ⟨ns,sp,i,rs,e,_⟩;rw[e];rfl) λf cdv A outer s H E ds S q hr ⟨ns,sp,i,rs,e,hS,hi,hq⟩=>?_;subst e;refine⟨_,(aq (y6 (aD gS fY (aA cV c8 (aa 1) aj (λ_ _=>rfl)) aj) (y8 (aa 1) aj))
 (aB (aS (aJ mx hr rfl (ae (aa 0) (ae (aD yn fY (aA cV c8 (aa 1) aj (λ_ _=>rfl)) aj) ai)))))),?_⟩
 nofun;refine⟨ns,i+1-1,rfl,by lia,sp,_,Sub.refl _,?_⟩;have e:i+1-1=i:=by lia
 rw[e];exact hq
inductive Xp (ds:List D)(q:List D->Prop):Prop where
 |mk (c n:Int) (_:ds=[.int c,.int n]) (_:0<=c) (_:1<=n) (_:n<=12) (_:∀xs:List Str,Row n.toNat xs->q (xs.map D.str))
def Aw :aY:=rW Xp
theorem Xq{k:Nat}(h:aE K mg "_law_names" kW ["cell","many"])(G:Gs K mg):ay P w K mg base (k+1) "_law_names" ["cell","many"] Aw:=show _ by
 refine h.lst jo (by rintro ds q ⟨c,n,e,_⟩;rw[e];rfl) λf cdv A outer s H E ds q hr ⟨c,n,e,hc,hn1,hn2,hq⟩=>?_;subst e;refine⟨_,(aq (aI (i:=2) jo.nd rfl (Or.inr rfl) bh)
 (aq (aI (i:=3) jo.nd rfl (Or.inl rfl) (aD cN aN (aa 0) aj))
 (aq (c7 dk rfl (fX rfl G.range (ae (aD bK aN (aa 0) aj) ai)) (ck (i:=4) jo.nd rfl (Or.inl rfl)) (aq (aI (i:=2) jo.nd rfl (Or.inr rfl) (aD mT mX (aa 2) (aA Et FT bh (aD bK aN (aa 3) aj) (λ_ _=>rfl))))
 (aB (aI (i:=3) jo.nd rfl (Or.inl rfl) (aD cN aN (aa 3) aj)))))
 (aq (aI (i:=5) jo.nd rfl (Or.inr rfl) (aD bK aN (aD cN aN (aa 0) aj) (aD gS fY (b9 Qi Ru rfl G.len dD (ae (aa 2) ai)) aj)))
 (aq (kS (i:=6) (bQ:=av kW) (N:=["cell","many","base","left","k","place","found","turn"]) (M:=["base","place"]) (js:=[2,5]) ⟨rfl,by cbv,by cbv,by cbv,by cbv,by cbv⟩ (by cbv) (by cbv) rfl (fX rfl G.range (ae (aa 1) ai)) (λ_ _ _ _ _=>dU) (λ_ _ _ _ _=>(aD mT mX (aD mT mX (eK ou oH (aa 1) eI (eJ (aa 2))) (aA Et FT bh (aa 0) (λ_ _=>rfl))) (eK ou oH (aa 1) (eJ (aa 2)) eI))) jo.nd rfl rfl)
 (aq (jh (cH.pt (w_and (aX lW gG (aa 1) aj (aV _)) (gD (aX bP dn (aD bK aN (aD cN aN (aa 0) aj) aj) aj (aV _))))) (aB (kS (i:=6) (bQ:=av kW) (N:=["cell","many","base","left","k","place","found","turn"]) (M:=["base"]) (js:=[2]) ⟨rfl,by cbv,by cbv,by cbv,by cbv,by cbv⟩ (by cbv) (by cbv) rfl (fX rfl G.range (ae (aa 1) ai)) (λ_ _ _ _ _=>dU) (λ_ _ _ _ _=>(aD mT mX (eK ou oH (aa 1) eI (eJ aj)) (eK ou oH bh eI (eJ (aD gS fY (aa 0) aj))))) jo.nd rfl rfl)) bj)
 (aq (jh (cH.pt (w_and (aX lW gG (aa 1) aj (aV _)) (gD (aX bP dn (aD bK aN (aD cN aN (aa 0) aj) aj) aj (aV _))))) (aB (kS (i:=6) (bQ:=av kW) (N:=["cell","many","base","left","k","place","found","turn"]) (M:=["base"]) (js:=[2]) ⟨rfl,by cbv,by cbv,by cbv,by cbv,by cbv⟩ (by cbv) (by cbv) rfl (fX rfl G.range (ae (aa 1) ai)) (λ_ _ _ _ _=>dU) (λ_ _ _ _ _=>(aD mT mX (eK ou oH bh (eJ (aD yn fY aj (aa 0))) eI) (eK ou oH (aa 1) eI (eJ aj)))) jo.nd rfl rfl)) bj)
 (aq (aI (i:=7) jo.nd rfl (Or.inl rfl) (aD bK aN (aD cN aN (aa 0) aj) (aa 1)))
 (aB (aS (aD oo oI (eK jI jP (aa 6) (eJ (aa 7)) eI) (eK jI jP (aa 6) eI (eJ (aa 7)))))))))))))),?_⟩
 nofun;refine⟨λi σ S=>mw λ(lf:Int) (cs:List Nat) (x4:Option D)=>σ=[some (.int c),some (.int n),some (.str (textOf cs)),some (.int lf),x4,none,none,none]/\cs.length=i/\vF cs/\S=emp,
  ⟨_,[],none,rfl,rfl,λc hc=>by simp at hc,rfl⟩,λ_ _ _ _=>trivial,?turn,?done⟩
 case turn =>
  rintro i d σ S hd ⟨lf,cs,x4,rfl,hl,hL,rfl⟩;obtain⟨hi,rfl⟩:=fj hd;have Xr:=n_ lf (show(0:Int)<26 by decide);have Xs:=fc lf (show(26:Int)≠0 by decide);nofun;refine Gf (cp:=97+(lf%26).toNat) ?_ ?_ ?_
  ·rw[GX,gC];decide
  ·rw[GX,jR];exact GZ Xs Xr
  refine mY (y:=textOf [97+(lf%26).toNat]) ?_ ?_
  ·rw[gC,gC];refine c9 ?_;simp only[cK,fO];lia
  rw[rF];nofun;refine⟨_,cs++[97+(lf%26).toNat],_,rfl,by simp[hl],λd hd=>?_,rfl⟩;rcases bF.mp hd with hd|hd
  ·exact hL d hd
  ·simp at hd;lia
 rintro σ S ⟨lf,cs,x4,rfl,hl,hL,rfl⟩;rw[dE]at hl;have Xt:cs.length<=7:=by lia
 have lz:∀ds:List Nat,ds.length<=100->(textOf ds).length<=sizeLine:=λds h=>by rw[gC];exact c9 (by lia)
 have hz:=lz cs (by lia);nofun;rw[gC];have p0:=fc (c/11) (show((cs.length:Int)+1)≠0 by lia);obtain⟨pl,Xu⟩:∃pl,(c/11)%((cs.length:Int)+1)=pl:=⟨_,rfl⟩;rw[Xu]at p0 ⊢;refine f9 (λk=>.str (textOf (g_ cs pl.toNat k))) (by rw[dE];exact b5 (show n.toNat<=12 by lia) (by decide)) trivial ?e1 ?_
 case e1 =>
  intro i d hd P hP;obtain⟨hi,rfl⟩:=fj hd;nofun;refine oP hz ?_;rw[jR,vC p0];nofun;refine Gf (cp:=97+i) ?_ ?_ ?_
  ·rw[GY,gC];decide
  ·rw[GY,jR,GZ (by lia) (by lia)];simp
  refine mY (y:=textOf [97+i]) ?_ ?_
  ·rw[gC,gC,dP];exact c9 (by simp only[cK,fO];lia)
  rw[rF];nofun;refine oP hz ?_;rw[jR,GW p0];refine mY ?_ ?_
  ·rw[gC,gC,bx,dP,fL];exact c9 (by simp only[cK,fO];lia)
  rw[rF];exact hP
 rw[dE];intro D1 hD1;have JA:n.toNat<=12:=by lia
 have m1:∀f:Nat->List Nat,((aZ n.toNat).map λk=>D.str (textOf (f k)))=((aZ n.toNat).map λk=>textOf (f k)).map D.str:=λf=>by rw[dC];rfl
 rw[m1];have R1:Row n.toNat ((aZ n.toNat).map λk=>textOf (g_ cs pl.toNat k)):=TK hL Xt (by lia);nofun;refine iE (λσ T=>ib λ(r:Addr) (xs:List Str)=>σ=[some (.int c),some (.int n),some (.str (textOf cs)),some (.int lf),x4,some (.int pl),some (.ref r),none]/\T r=some (.lst (xs.map D.str))/\Row n.toNat xs) ?_ ?_
 ·intro n' hn';by_cases h5:n<5
  case neg =>
   nofun;exact hn' _ _ ⟨D1,_,rfl,ao,R1⟩
  by_cases e1:c/17%3=1
  case neg =>
   nofun;exact hn' _ _ ⟨D1,_,rfl,ao,R1⟩
  nofun;refine f9 (λk=>.str (textOf (jf cs k))) (by rw[dE];exact b5 JA (by decide)) trivial ?e2 ?_
  case e2 =>
   intro i d hd P hP;obtain⟨hi,rfl⟩:=fj hd;nofun;refine oP hz ?_;rw[jR,vC (by decide)];nofun;refine oP (by rw[vE];exact lz _ (by decide)) ?_;rw[vE,jR,vC (by lia)];have ei:((0:Int)+(i:Int)+1).toNat=i+1:=by lia
   rw[ei];refine mY ?_ ?_
   ·rw[gC,gC,dP,dP];exact c9 (by lia)
   rw[rF];exact hP
  rw[dE];intro D2 hD2;rw[m1];nofun;exact hn' _ _ ⟨D2,_,rfl,ao,row2 hL (by lia)⟩
 clear R1;rintro σ T ⟨r,xs,rfl,hr1,R⟩;nofun;refine iE (λσ T=>ib λ(r:Addr) (xs:List Str)=>σ=[some (.int c),some (.int n),some (.str (textOf cs)),some (.int lf),x4,some (.int pl),some (.ref r),none]/\T r=some (.lst (xs.map D.str))/\Row n.toNat xs) ?_ ?_
 ·intro n' hn';by_cases h5:n<5
  case neg =>
   nofun;exact hn' _ _ ⟨r,xs,rfl,hr1,R⟩
  by_cases e2:c/17%3=2
  case neg =>
   nofun;exact hn' _ _ ⟨r,xs,rfl,hr1,R⟩
  nofun;refine f9 (λk=>.str (textOf (oV cs k))) (by rw[dE];exact b5 JA (by decide)) trivial ?e3 ?_
  case e3 =>
   intro i d hd P hP;obtain⟨hi,rfl⟩:=fj hd;nofun;refine oP (by rw[vE];exact lz _ (by decide)) ?_;rw[vE,jR,GW (by lia)];have ei:((3:Int)-(0+(i:Int))).toNat=3-i:=by lia
   rw[ei];nofun;refine oP hz ?_;rw[jR,vC (by decide)];refine mY ?_ ?_
   ·rw[gC,gC,dP,fL];exact c9 (by simp only[cK,fO];lia)
   rw[rF];exact hP
  rw[dE];intro D2 hD2;rw[m1];nofun;exact hn' _ _ ⟨D2,_,rfl,ao,TL hL (by lia)⟩
 rintro σ T' ⟨r,xs,rfl,hr1,R⟩;have t0:=fc (c/13) (show n≠0 by lia);nofun;rw[oU t0];intro p1 hp1;have hD4:=au (o:=.lst ((xs.map D.str).drop (c/13%n).toNat)) hr1 hp1;nofun;rw[kJ t0];intro p2 hp2;have Xv:=R.len;refine jc (au ao hp2) ao ?_ ?_
 ·rw[fL,dP,az];exact c9 (by lia)
 intro r hr';refine⟨r,_,rfl,ao,?_⟩;have:=hq _ (R.turn (t:=(c/13%n).toNat));rw[cA,DB,lJ]at this;exact this
inductive Xw (ds:List D)(q:D->Prop):Prop where
 |mk (s:Sy) (_:ds=[s.d]) (_:q (.tup (s.parts.map Sy.d)))
def JB :aY:=vS Xw
theorem Xx{k:Nat}(h:aE K mg "parts" o9 ["saying"])(G:Gs K mg):ay P w K mg base (k+1) "parts" ["saying"] JB:=show _ by
 refine h.val W1 (by rintro ds q ⟨s,e,_⟩;rw[e];rfl) λf cdv A outer s0 H E ds q hr hA=>?_;obtain⟨s,rfl,hq⟩:=hA;refine⟨_,(aq (bN (aX rh oG (aA aG aH (aa 0) aj (λ_ _=>rfl)) (bM (ae bh (ae bh ai))) (by with_unfolding_all rfl)) (aB (aS (bM ai))) bj)
 (aq (bN (aX bP eT (aA aG aH (aa 0) aj (λ_ _=>rfl)) bh (aV _)) (aB (aS (aA aG aH (aa 0) aj (λ_ _=>rfl)))) bj)
 (aB (aS (eK vd ve (aa 0) (eJ aj) eI))))),?_⟩
 cases s with
 |name x =>
  simp only[Sy.d];nofun;exact hq
 |b6 =>
  simp only[Sy.d];nofun;exact hq
 |pair a b =>
  simp only[Sy.d];nofun;exact hq
 |left a =>
  simp only[Sy.d];nofun;exact hq
 |right a =>
  simp only[Sy.d];nofun;exact hq
 |fork a b c =>
  simp only[Sy.d];nofun;exact hq
 |send x as =>
  simp only[Sy.d];nofun;rw[Sy.kK];exact hq
inductive Xy (ds:List D)(q:D->Prop):Prop where
 |mk (s:Sy) (_:ds=[s.d]) (_:q (sE s.base))
def Ax :aY:=vS Xy
theorem Xz{k:Nat}(h:aE K mg "path_parameter" pj ["saying"])(G:Gs K mg):ay P w K mg base (k+1) "path_parameter" ["saying"] Ax:=show _ by
 refine h.val As (by rintro ds q ⟨s,e,_⟩;rw[e];rfl) λf cdv A outer s0 H E ds q hr hA=>?_;obtain⟨s,rfl,hq⟩:=hA;refine⟨_,(aq (aI (i:=1) As.nd rfl (Or.inl rfl) (aa 0))
 (aq (rR dk (aX rh oG (aA aG aH (aa 1) aj (λ_ _=>rfl)) (bM (ae bh (ae bh ai))) (by with_unfolding_all rfl)) (aB (aI (i:=1) As.nd rfl (Or.inl rfl) (aA aG aH (aa 1) aj (λ_ _=>rfl)))))
 (aB (aS (oA (aX bP eT (aA aG aH (aa 1) aj (λ_ _=>rfl)) bh (aV _)) (aA aG aH (aa 1) aj (λ_ _=>rfl)) gk))))),?_⟩
 nofun;refine rY (λm σ S=>∃r:Sy,σ=[some s.d,some r.d]/\r.base=s.base/\m=r.deep) _ ⟨s,rfl,rfl,rfl⟩ ?_;rintro m σ S ⟨r,rfl,hb,rfl⟩;rw[<-hb]at hq;cases r with
 |left a =>
  simp only[Sy.d];nofun;exact⟨a.deep,by simp only[Sy.deep];lia,a,rfl,hb,rfl⟩
 |right a =>
  simp only[Sy.d];nofun;exact⟨a.deep,by simp only[Sy.deep];lia,a,rfl,hb,rfl⟩
 |name x =>
  simp only[Sy.d];nofun;exact hq
 |b6 =>
  simp only[Sy.d];nofun;exact hq
 |pair a b =>
  simp only[Sy.d];nofun;exact hq
 |fork a b c =>
  simp only[Sy.d];nofun;exact hq
 |send x as =>
  simp only[Sy.d];nofun;exact hq
inductive XA (ds:List D)(q:D->Prop):Prop where
 |mk (p:Str) (s:Sy) (k:List Str) (_:ds=[.str p,s.d,.tup (k.map D.str)]) (_:q (.int (bb p s k)))
def JC :aY:=vS XA
theorem XB{k:Nat}(h:aE K mg "told_number" pv ["param","saying","known"])(G:Gs K mg)(Ay:ay P w K mg base k "path_parameter" ["saying"] Ax) :
 ay P w K mg base (k+1) "told_number" ["param","saying","known"] JC:=show _ by
 refine h.val W4 (by rintro ds q ⟨_,_,_,e,_⟩;rw[e];rfl) λf cdv A outer s0 H E ds q hr hA=>?_;obtain⟨p,s,kn,rfl,hq⟩:=hA;refine⟨_,(aq (bN (cH.pt (w_and (aX mR oE (aA aG aH (aa 1) aj (λ_ _=>rfl)) bh (aV _)) (gD (aX mR Vg (aJ Ay hr rfl (ae (aa 1) ai)) (aa 0) (aV _))))) (aB (aS aj)) bj)
 (aq (bN (cH.pt (w_or (aX bP eT (aA aG aH (aa 1) aj (λ_ _=>rfl)) bh (aV _)) (i_ (aX Qh oG (aa 0) (aa 2) (by with_unfolding_all rfl))))) (aB (aS aj)) bj)
 (aB (aS aj)))),?_⟩
 by_cases hk:p∈kn
 ·cases s with
  |b6 =>
   simp only[Sy.d];nofun;simpa[bb,hk]using hq
  |name x =>
   by_cases hs:Sy.base (.name x)=some p
   ·simp only[Sy.d];nofun;refine⟨(.name x),rfl,?_⟩;nofun;have hs':=hs;simp only[Sy.base,lD]at hs';simpa[bb,hs']using hq
   ·simp only[Sy.d];nofun;refine⟨(.name x),rfl,?_⟩;nofun;have hs':=hs;simp only[Sy.base,lD]at hs';simpa[bb,hs']using hq
  |pair a b =>
   by_cases hs:Sy.base (.pair a b)=some p
   ·simp only[Sy.d];nofun;refine⟨(.pair a b),rfl,?_⟩;nofun;simpa[bb,hs,hk]using hq
   ·simp only[Sy.d];nofun;refine⟨(.pair a b),rfl,?_⟩;nofun;simpa[bb,hs,hk]using hq
  |left a =>
   by_cases hs:Sy.base (.left a)=some p
   ·simp only[Sy.d];nofun;refine⟨(.left a),rfl,?_⟩;nofun;simpa[bb,hs,hk]using hq
   ·simp only[Sy.d];nofun;refine⟨(.left a),rfl,?_⟩;nofun;simpa[bb,hs,hk]using hq
  |right a =>
   by_cases hs:Sy.base (.right a)=some p
   ·simp only[Sy.d];nofun;refine⟨(.right a),rfl,?_⟩;nofun;simpa[bb,hs,hk]using hq
   ·simp only[Sy.d];nofun;refine⟨(.right a),rfl,?_⟩;nofun;simpa[bb,hs,hk]using hq
  |fork a b c =>
   by_cases hs:Sy.base (.fork a b c)=some p
   ·simp only[Sy.d];nofun;refine⟨(.fork a b c),rfl,?_⟩;nofun;simpa[bb,hs,hk]using hq
   ·simp only[Sy.d];nofun;refine⟨(.fork a b c),rfl,?_⟩;nofun;simpa[bb,hs,hk]using hq
  |send x as =>
   by_cases hs:Sy.base (.send x as)=some p
   ·simp only[Sy.d];nofun;refine⟨(.send x as),rfl,?_⟩;nofun;simpa[bb,hs,hk]using hq
   ·simp only[Sy.d];nofun;refine⟨(.send x as),rfl,?_⟩;nofun;simpa[bb,hs,hk]using hq
 ·cases s with
  |b6 =>
   simp only[Sy.d];nofun;simpa[bb,hk]using hq
  |name x =>
   by_cases hs:Sy.base (.name x)=some p
   ·simp only[Sy.d];nofun;refine⟨(.name x),rfl,?_⟩;nofun;have hs':=hs;simp only[Sy.base,lD]at hs';simpa[bb,hs']using hq
   ·simp only[Sy.d];nofun;refine⟨(.name x),rfl,?_⟩;nofun;have hs':=hs;simp only[Sy.base,lD]at hs';simpa[bb,hs']using hq
  |pair a b =>
   by_cases hs:Sy.base (.pair a b)=some p
   ·simp only[Sy.d];nofun;refine⟨(.pair a b),rfl,?_⟩;nofun;simpa[bb,hs,hk]using hq
   ·simp only[Sy.d];nofun;refine⟨(.pair a b),rfl,?_⟩;nofun;simpa[bb,hs,hk]using hq
  |left a =>
   by_cases hs:Sy.base (.left a)=some p
   ·simp only[Sy.d];nofun;refine⟨(.left a),rfl,?_⟩;nofun;simpa[bb,hs,hk]using hq
   ·simp only[Sy.d];nofun;refine⟨(.left a),rfl,?_⟩;nofun;simpa[bb,hs,hk]using hq
  |right a =>
   by_cases hs:Sy.base (.right a)=some p
   ·simp only[Sy.d];nofun;refine⟨(.right a),rfl,?_⟩;nofun;simpa[bb,hs,hk]using hq
   ·simp only[Sy.d];nofun;refine⟨(.right a),rfl,?_⟩;nofun;simpa[bb,hs,hk]using hq
  |fork a b c =>
   by_cases hs:Sy.base (.fork a b c)=some p
   ·simp only[Sy.d];nofun;refine⟨(.fork a b c),rfl,?_⟩;nofun;simpa[bb,hs,hk]using hq
   ·simp only[Sy.d];nofun;refine⟨(.fork a b c),rfl,?_⟩;nofun;simpa[bb,hs,hk]using hq
  |send x as =>
   by_cases hs:Sy.base (.send x as)=some p
   ·simp only[Sy.d];nofun;refine⟨(.send x as),rfl,?_⟩;nofun;simpa[bb,hs,hk]using hq
   ·simp only[Sy.d];nofun;refine⟨(.send x as),rfl,?_⟩;nofun;simpa[bb,hs,hk]using hq
inductive XC (ds:List D)(q:D->Prop):Prop where
 |mk (p:Str) (as:List Sy) (k:List Str) (_:ds=[.str p,.tup (as.map Sy.d),.tup (k.map D.str)]) (_:as.length<=1000) (_:q (bg (as.map λa=>bb p a k)))
def JD :aY:=vS XC
theorem XD{k:Nat}(h:aE K mg "told_row" nu ["param","sayings","known"])(G:Gs K mg)(XE:ay P w K mg base k "told_number" ["param","saying","known"] JC) :
 ay P w K mg base (k+1) "told_row" ["param","sayings","known"] JD:=show _ by
 refine h.val W2 (by rintro ds q ⟨_,_,_,e,_⟩;rw[e];rfl) λf cdv A outer s0 H E ds q hr hA=>?_;obtain⟨p,as,kn,rfl,hl,hq⟩:=hA;refine⟨_,(aB (aS (cZ fA fF rfl G.tuple fw (ae (h_ (bQ:=av nu) (N:=["param","sayings","known"]) (M:=["param","known"]) (js:=[0,2]) ⟨rfl,by cbv,by cbv,by cbv,by cbv,by cbv⟩ (by cbv) (by cbv) rfl (gF (aa 1)) (λ_ _ _ _ _=>dU) (λ_ _ _ _ _=>(aJ XE hr rfl (ae (aa 1) (ae (aa 0) (ae (aa 2) ai)))))) ai)))),?_⟩;nofun;refine f9 (λi=>.int (bb p (as.getD i .b6) kn)) (by rw[az];lia) trivial ?_ ?_
 ·intro i d hd P hP;rw[aK]at hd;obtain⟨a,ha,rfl⟩:=bW.mp hd;rw[bJ,ha]at hP;nofun;exact⟨p,a,kn,rfl,hP⟩
 have el:((aZ (as.map Sy.d).length).map λi=>D.int (bb p (as.getD i .b6) kn))=(as.map λa=>bb p a kn).map D.int:=by
  rw[az,dC];apply gP;intro i;rw[aK,aK];by_cases hi:i<as.length
  ·rw[iS hi,aU hi];simp[bJ,hi]
  ·rw[dh (by simpa using hi),dh (by lia)];rfl
 rw[el];intro p1 hp1;nofun;exact hq
inductive XF (ds:List D)(q:List D->Prop):Prop where
 |mk (s:Sy) (k:List Str) (_:ds=[s.d,.tup (k.map D.str)]) (_:k.length<=1000) (_:s.parts.length<=1000) (_:q ((s.pp Sy.bases k).map b_))
def JE :aY:=rW XF
theorem XG{k:Nat}(h:aE K mg "placed_parts" nr ["saying","known"])(G:Gs K mg)(XH:ay P w K mg base k "parts" ["saying"] JB)(Ay:ay P w K mg base k "path_parameter" ["saying"] Ax) :
 ay P w K mg base (k+1) "placed_parts" ["saying","known"] JE:=show _ by
 refine h.lst Aq (by rintro ds q ⟨_,_,e,_⟩;rw[e];rfl) λf cdv A outer s0 H E ds q hr hA=>?_;obtain⟨s,kn,rfl,hk,hp,hq⟩:=hA;refine⟨_,(aq (bN (aX mR oE (aA aG aH (aa 0) aj (λ_ _=>rfl)) bh (aV _)) (aB (aS (h_ (bQ:=av nr) (N:=["saying","known","param","inner"]) (M:=["known"]) (js:=[1]) ⟨rfl,by cbv,by cbv,by cbv,by cbv,by cbv⟩ (by cbv) (by cbv) rfl (gF (aJ XH hr rfl (ae (aa 0) ai))) (λ_ _ _ _ _=>dU) (λ_ _ _ _ _=>(bM (ae (aa 0) (ae (aa 1) ai))))))) bj)
 (aq (aI (i:=2) Aq.nd rfl (Or.inl rfl) (aJ Ay hr rfl (ae (aA aG aH (aa 0) aj (λ_ _=>rfl)) ai)))
 (aq (aI (i:=3) Aq.nd rfl (Or.inl rfl) (oA (aX yu zb (aa 2) gk (aV _)) (aa 1) (aD Hu Hz (aa 1) (bM (ae (aa 2) ai)))))
 (aB (aS (dA (ae (bM (ae (aA aG aH (aa 0) aj (λ_ _=>rfl)) (ae (aa 1) ai))) (ae (bM (ae (aA aG aH (aa 0) aj (λ_ _=>rfl)) (ae (aa 3) ai))) (ae (bM (ae (aA aG aH (aa 0) aj (λ_ _=>rfl)) (ae (aa 1) ai))) ai))))))))),?_⟩
 by_cases hf:∃a b c,s=.fork a b c
 ·obtain⟨a,b,c,rfl⟩:=hf;simp only[Sy.d];nofun;refine⟨a,rfl,?_⟩;cases hb:a.base with
  |none =>
   simp only[sE];nofun;intro p1 hp1;nofun;refine⟨p1,_,rfl,ao,?_⟩;simpa[Sy.pp,b_,Sy.bases,hb]using hq
  |some x =>
   simp only[sE];nofun;refine zP (by rw[az];exact c9 (by simp;lia)) ?_;nofun;intro p1 hp1;nofun;refine⟨p1,_,rfl,ao,?_⟩;simpa[Sy.pp,b_,Sy.bases,hb]using hq
 ·have et:∃t r,s.d=.tup (.str t::r)/\¬t="fork":=by
   cases s<;>first|exact⟨_,_,rfl,by decide⟩|exact(hf ⟨_,_,_,rfl⟩).elim
  obtain⟨t,r,ed,ht⟩:=et;have ep:s.pp Sy.bases kn=s.parts.map λa=>(a,kn):=by
   cases s<;>first|rfl|exact(hf ⟨_,_,_,rfl⟩).elim
  have es:D.tup (.str t::r)=s.d:=ed.symm;rw[ed];nofun;refine⟨s,by rw[ed],?_⟩;nofun;refine f9 (λi=>.tup [(s.parts.getD i .b6).d,.tup (kn.map D.str)]) (by rw[az];lia) trivial ?_ ?_
  ·intro i d hd P hP;rw[aK]at hd;obtain⟨a,ha,rfl⟩:=bW.mp hd;rw[bJ,ha]at hP;nofun;exact hP
  have el:((aZ (s.parts.map Sy.d).length).map λi=>D.tup [(s.parts.getD i .b6).d,.tup (kn.map D.str)])=(s.pp Sy.bases kn).map b_:=by
   rw[az,ep,dC];apply gP;intro i;rw[aK,aK];by_cases hi:i<s.parts.length
   ·rw[iS hi,aU hi];simp[bJ,hi,b_]
   ·rw[dh (by simpa using hi),dh (by lia)];rfl
  rw[el];intro p1 hp1;nofun;exact⟨p1,_,rfl,ao,hq⟩
inductive XI (ds:List D)(q:List D->Prop):Prop where
 |mk (s:Sy) (_:ds=[s.d]) (_:s.pre.length<=100000) (_:(∀p∈s.bY Sy.bases [],p.2.length<=1000/\p.1.parts.length<=1000)) (_:q (((s.bY Sy.bases []).filter λp=>p.1.nm.isSome).map b_))
def JF :aY:=rW XI
theorem XJ{k:Nat}(h:aE K mg "placed_sends" ph ["body"])(G:Gs K mg)(XM:ay P w K mg base k "placed_parts" ["saying","known"] JE) :
 ay P w K mg base (k+1) "placed_sends" ["body"] JF:=show _ by
 refine h.lst sS (by rintro ds q ⟨s,e,_⟩;rw[e];rfl) λf cdv A outer s0 H E ds q hr hA=>?_;obtain⟨s,rfl,hz,hk,hq⟩:=hA;refine⟨_,(aq (aI (i:=1) sS.nd rfl (Or.inl rfl) (dA ai))
 (aq (aI (i:=2) sS.nd rfl (Or.inl rfl) (dA (ae (bM (ae (aa 0) (ae (bM ai) ai))) ai)))
 (aq (rR dk (rL (aa 2) (λ_=>rfl)) (aq (aI (i:=3) sS.nd rfl (Or.inl rfl) (Fm d6 qw xS EX F5 (aa 2)))
 (aq (bN (aX bP eT (aA aG aH (aA aG aH (aa 3) aj (λ_ _=>rfl)) aj (λ_ _=>rfl)) bh (aV _)) (aB (dY (eh d6 fN gh fB fZ (aa 1) (ae (aa 3) ai)))) bj)
 (aB (c7 dk rfl (Hm rfl G.Jz (ae (aJ XM hr rfl (ae (aA aG aH (aa 3) aj (λ_ _=>rfl)) (ae (aA aG aH (aa 3) aj (λ_ _=>rfl)) ai))) ai)) (ck (i:=4) sS.nd rfl (Or.inl rfl)) (aB (dY (eh d6 fN gh fB fZ (aa 2) (ae (aa 4) ai)))))))))
 (aB (aS (aa 1)))))),?_⟩
 have hz':(s.bY Sy.bases []).length<=100000:=by
  have:=congrArg mG (Sy.hU Sy.bases s []);rw[az]at this;lia
 nofun;intro pf hpf;nofun;intro pe hpe;have hne:pf≠pe:=ne3 ao hpe;nofun;refine rY (λm σ S=>j5 λ(fs ps:List (Sy×List Str)) (x3 x4:Option D)=>σ=[some s.d,some (.ref pf),some (.ref pe),x3,x4]/\S pf=some (.lst ((fs.filter λp=>p.1.nm.isSome).map b_))/\S pe=some (.lst (ps.map b_))/\fs++dJ Sy.bases ps.reverse=s.bY Sy.bases []/\m=(dJ Sy.bases ps.reverse).length)
  _ ⟨[],[(s,[])],none,none,rfl,au ao hpe,ao,by simp[dJ],rfl⟩ ?_
 rintro m σ S ⟨fs,ps,x3,x4,rfl,hf,he,hfs,rfl⟩;nofun;rcases snoc_cases ps with rfl|⟨ps',s',rfl⟩
 ·refine uL ?_;nofun;refine⟨pf,_,rfl,hf,?_⟩;have e:fs=s.bY Sy.bases []:=by simpa[dJ]using hfs
  rw[e];exact hq
 ·have eb:(!((ps'++[s']).map b_).isEmpty)=true:=by simp
  rw[eb];refine uM ?_;have hlen:=congrArg mG hfs;rw[bx]at hlen;have er:(ps'++[s']).reverse=s'::ps'.reverse:=by simp
  rw[er,zQ,oZ]at hfs hlen;simp only[bx,cK]at hlen;have hmem:s'∈s.bY Sy.bases []:=by
   rw[<-hfs];simp
  obtain⟨k1,k2⟩:=hk s' hmem;have hfl:(fs.filter λp=>p.1.nm.isSome).length<=fs.length:=Dl _ _;have he':S pe=some (.lst (ps'.map b_++[b_ s'])):=by rw[he];simp
  obtain⟨s1,kn⟩:=s';dsimp only at hlen hfs k1 k2;have et:∃t r,s1.d=.tup (.str t::r)/\(s1.nm.isSome=true->t="send")/\(s1.nm.isSome=false->¬t="send"):=by
   cases s1<;>exact⟨_,_,rfl,λz=>by first|rfl|(simp[Sy.nm]at z),λz=>by first|decide|(simp[Sy.nm]at z)⟩
  obtain⟨t,r,ed,ht1,fQ⟩:=et;nofun;refine Gc he' ?_;have ev:b_ (s1,kn)=.tup [.tup (.str t::r),.tup (kn.map D.str)]:=by unfold b_;rw[ed]
  rw[ev];have hf1:up S pe (.lst (ps'.map b_)) pf=some (.lst ((fs.filter λp=>p.1.nm.isSome).map b_)):=by rw[a9 hne];exact hf
  have sX:up S pe (.lst (ps'.map b_)) pe=some (.lst (ps'.map b_)):=ao;have done:∀(S3:ah) (x4:Option D),S3 pf=some (.lst (((fs++[(s1,kn)]).filter λp=>p.1.nm.isSome).map b_))->S3 pe=some (.lst ((ps'++(s1.pp Sy.bases kn).reverse).map b_)) ->
   ∃m',m'<(dJ Sy.bases (ps'++[(s1,kn)]).reverse).length/\j5 λ(fs ps:List (Sy×List Str)) (x3 XN:Option D)=>[some s.d,some (.ref pf),some (.ref pe),some (.tup [.tup (.str t::r),.tup (kn.map D.str)]),x4]=[some s.d,some (D.ref pf),some (.ref pe),x3,XN] /\
    S3 pf=some (.lst ((fs.filter λp=>p.1.nm.isSome).map b_))/\S3 pe=some (.lst (ps.map b_))/\fs++dJ Sy.bases ps.reverse=s.bY Sy.bases []/\m'=(dJ Sy.bases ps.reverse).length:=λS3 x4 g1 g2=>by
   refine⟨_,?_,fs++[(s1,kn)],ps'++(s1.pp Sy.bases kn).reverse,_,_,rfl,g1,g2,?_,rfl⟩
   ·rw[er,zQ,oZ];simp only[List.reverse_append,List.reverse_reverse,vV,bx,cK];lia
   ·rw[<-hfs];simp[vV]
  have hpl:(s1.pp Sy.bases kn).length<=(dJ Sy.bases (s1.pp Sy.bases kn)).length:=zR _ _;have hpl':ps'.length<=(dJ Sy.bases ps'.reverse).length:=by
   have:=zR Sy.bases ps'.reverse;simpa using this
  have el:(((s1.pp Sy.bases kn).map b_).reverse).length=(s1.pp Sy.bases kn).length:=by simp
  cases hnm:s1.nm.isSome;have e1:=fQ hnm;nofun;have g1:up S pe (.lst (ps'.map b_)) pf=some (.lst (((fs++[(s1,kn)]).filter λp=>p.1.nm.isSome).map b_)):=by
   rw[hf1];simp[xH,hnm]
  have g2:=sX;generalize up S pe (.lst (ps'.map b_))=S2 at g1 g2 ⊢
  rotate_left
  have e1:=ht1 hnm;subst e1;nofun;refine fG hf1 (by rw[az];exact eU (by lia)) ?_;have g1:up (up S pe (.lst (ps'.map b_))) pf (.lst (((fs.filter λp=>p.1.nm.isSome).map b_)++[.tup [.tup (.str "send"::r),.tup (kn.map D.str)]])) pf=some (.lst (((fs++[(s1,kn)]).filter λp=>p.1.nm.isSome).map b_)):=by
   rw[ao];simp[xH,hnm,b_,ed]
  have g2:up (up S pe (.lst (ps'.map b_))) pf (.lst (((fs.filter λp=>p.1.nm.isSome).map b_)++[.tup [.tup (.str "send"::r),.tup (kn.map D.str)]])) pe=some (.lst (ps'.map b_)):=by
   rw[a9 (bE hne)];exact sX
  generalize up (up S pe (.lst (ps'.map b_))) pf (.lst (((fs.filter λp=>p.1.nm.isSome).map b_)++[.tup [.tup (.str "send"::r),.tup (kn.map D.str)]]))=S2 at g1 g2 ⊢;nofun
  all_goals
   refine⟨s1,kn,by rw[ed],k1,k2,?_⟩;intro pl wu;have n1:pf≠pl:=ne3 g1 wu;have n2:pe≠pl:=ne3 g2 wu;nofun;refine⟨λi σ S'=>∃x4,σ=[some s.d,some (.ref pf),some (.ref pe),_,x4]/\S' pl=some (.lst ((s1.pp Sy.bases kn).map b_))/\S' pf=some (.lst (((fs++[(s1,kn)]).filter λp=>p.1.nm.isSome).map b_)) /\
    S' pe=some (.lst (ps'.map b_++(((s1.pp Sy.bases kn).map b_).reverse).take i)),⟨_,rfl,ao,au g1 wu,by rw[au g2 wu];simp⟩,λi σ S' ⟨_,_,g,_⟩=>g,?_,?_⟩
   ·rintro i d σ S' hd ⟨y4,rfl,h1,h2,h3⟩;have hi:=(bO.mp hd).1;rw[el]at hi;nofun;refine fG h3 ?_ ?_
    ·rw[bx,dP,az,el];exact eU (by lia)
    refine⟨_,rfl,by rw[a9 (bE n2)];exact h1,by rw[a9 hne];exact h2,?_⟩;rw[ao,gu,hd,Dp];rfl
   ·rintro σ S' ⟨y4,rfl,h1,h2,h3⟩;refine done S' _ h2 ?_;rw[h3,ke (a8 _),cA,List.map_reverse]
def Az(e:Er):Prop:=e.body.pre.length<=100000/\(∀p∈e.body.bY Sy.bases [],p.2.length<=1000/\p.1.parts.length<=1000)/\e.ps.length<=1000
inductive XO (ds:List D)(S:ah)(q:List D->Prop):Prop where
 |mk (a:Addr) (prog:List Er) (_:ds=[.ref a]) (_:S a=some (.lst (prog.map Er.d))) (_:(∀e∈prog,Az e)) (_:(dB bb Sy.bases prog).length<=100000) (_:q ((dB bb Sy.bases prog).map af))
def wx :aY:=jQ XO
theorem JG{told:Str->Sy->List Str->Int}{ext:Sy->List Str}{prog:List Er}{i:Nat}{e:Er}(he:prog[i]?=some e):dB told ext (prog.take (i+1))=dB told ext (prog.take i)++((e.body.bY ext []).map (cS told e)).flatten:=show _ by
 have htk:prog.take (i+1)=prog.take i++[e]:=by rw[gu,he];rfl
 rw[htk];simp[dB]
theorem JH{told:Str->Sy->List Str->Int}{ext:Sy->List Str}{prog:List Er}(i:Nat):(dB told ext (prog.take i)).length<=(dB told ext prog).length:=by
 conv=>rhs;rw[<-xA i prog]
 simp only[dB,cA,Ds,bx];lia
theorem JI{told:Str->Sy->List Str->Int}{e:Er}:∀l:List (Sy×List Str),((l.filter λp=>p.1.nm.isSome).map (cS told e)).flatten=(l.map (cS told e)).flatten
 |[]=>rfl
 |(s,k)::l=>by
  have ih:=JI (told:=told) (e:=e) l;cases s with
  |send x as =>
   have e1:(((Sy.send x as,k):Sy×List Str)::l).filter (λp=>p.1.nm.isSome)=(Sy.send x as,k)::l.filter λp=>p.1.nm.isSome:=rfl;rw[e1,bT,og,bT,og,ih]
  |name x=>exact ih
  |b6=>exact ih
  |pair _ _=>exact ih
  |left _=>exact ih
  |right _=>exact ih
  |fork _ _ _=>exact ih
theorem XQ{k:Nat}(h:aE K mg "graphs" nk ["program"])(G:Gs K mg)(XR:ay P w K mg base k "placed_sends" ["body"] JF)(C0:ay P w K mg base k "told_row" ["param","sayings","known"] JD) :
 ay P w K mg base (k+1) "graphs" ["program"] wx:=show _ by
 have XS:=C0;refine h.jQ o_ (by rintro ds S q ⟨_,_,e,_⟩;rw[e];rfl) λf cdv A outer s0 H E ds S q hr hA=>?_;obtain⟨pr,prog,rfl,hS,hok,hz,hq⟩:=hA;refine⟨_,(aq (aI (i:=1) o_.nd rfl (Or.inl rfl) (dA ai))
 (aq (c7 dk rfl (eu (aa 0)) (ck (i:=2) o_.nd rfl (Or.inl rfl)) (aB (c7 dk rfl (eu (aJ XR hr rfl (ae (aA aG aH (aa 2) aj (λ_ _=>rfl)) ai))) (ck (i:=3) o_.nd rfl (Or.inr rfl)) (aq (aI (i:=4) o_.nd rfl (Or.inr rfl) (aA aG aH (aa 3) aj (λ_ _=>rfl)))
 (aq (kS (i:=5) (bQ:=av nk) (N:=["program","found","errand","placed","send","rows"]) (M:=["send","placed"]) (js:=[4,3]) ⟨rfl,by cbv,by cbv,by cbv,by cbv,by cbv⟩ (by cbv) (by cbv) rfl (gF (aA aG aH (aa 2) aj (λ_ _=>rfl))) (λ_ _ _ _ _=>dU) (λ_ _ _ _ _=>(aJ XS hr rfl (ae (aa 0) (ae (aA aG aH (aa 1) aj (λ_ _=>rfl)) (ae (aA aG aH (aa 2) aj (λ_ _=>rfl)) ai))))) o_.nd rfl rfl)
 (aB (dY (eh d6 fN gh fB fZ (aa 1) (ae (bM (ae (aA aG aH (aa 2) aj (λ_ _=>rfl)) (ae (aA aG aH (aa 4) aj (λ_ _=>rfl)) (ae (cZ fA fF rfl G.tuple fw (ae (aa 5) ai)) ai)))) ai)))))))))
 (aB (aS (aa 1))))),?_⟩
 nofun;intro pf hpf;have hne:pr≠pf:=ne3 hS hpf;have hS1:=au (o:=.lst []) hS hpf;nofun;refine⟨λi σ S'=>j5 λx2 x3 x4 x5=>σ=[some (.ref pr),some (.ref pf),x2,x3,x4,x5]/\Sub S S'/\S' pf=some (.lst ((dB bb Sy.bases (prog.take i)).map af)),⟨none,none,none,none,rfl,(Sub.refl S).up hpf,by rw[ao];rfl⟩,
  λi σ S' ⟨x2,x3,x4,x5,_,h1,_⟩=>h1 _ _ hS,?_,?_⟩
 ·rintro i d σ S' hd ⟨x2,x3,x4,x5,rfl,h1,h2⟩;rw[aK]at hd;obtain⟨e,he,rfl⟩:=bW.mp hd;have p7:e∈prog:=bS he;obtain⟨o1,o2,o3⟩:=hok e p7;have hsn:=JG (told:=bb) (ext:=Sy.bases) he;have hbd:=JH (told:=bb) (ext:=Sy.bases) (prog:=prog) (i+1);rw[hsn,bx]at hbd;unfold Er.d;nofun;refine⟨e.body,rfl,o1,o2,?_⟩;intro pl hpl;have XT:pf≠pl:=ne3 h2 hpl;obtain⟨L,hL⟩:∃L,L=(e.body.bY Sy.bases []).filter λp=>p.1.nm.isSome:=⟨_,rfl⟩;rw[<-hL];have hLf:(L.map (cS bb e)).flatten=((e.body.bY Sy.bases []).map (cS bb e)).flatten:=by rw[hL];exact JI _
  nofun;refine⟨λj σ S2=>mw λx3 x4 x5=>σ=[some (.ref pr),some (.ref pf),some e.d,x3,x4,x5]/\Sub S S2/\S2 pl=some (.lst (L.map b_))/\S2 pf=some (.lst ((dB bb Sy.bases (prog.take i)++((L.take j).map (cS bb e)).flatten).map af)),
   ⟨_,_,_,rfl,h1.up hpl,ao,by rw[au h2 hpl];simp⟩,λj σ S2 ⟨_,_,_,_,_,g,_⟩=>g,?_,?_⟩
  ·rintro j d σ S2 hd ⟨y3,y4,y5,rfl,g1,g2,g3⟩;rw[aK]at hd;obtain⟨⟨a,kn⟩,ha,rfl⟩:=bW.mp hd;have haL:(a,kn)∈L:=bS ha;rw[hL,tR]at haL;obtain⟨p1,p2⟩:=o2 _ haL.1;have XU:L.take (j+1)=L.take j++[(a,kn)]:=by rw[gu,ha];rfl
   have wz:((L.take j).map (cS bb e)).flatten.length<=(((e.body.bY Sy.bases []).map (cS bb e)).flatten).length:=by
    rw[<-hLf]
    conv=>rhs;rw[<-xA j L]
    simp only[cA,Ds,bx];lia
   cases a with
   |send x as =>
    have p8:as.length<=1000:=p2;unfold b_ Er.d;simp only[Sy.d,Sy.kK];nofun;refine f9 (λi=>bg (as.map λa=>bb (e.ps.getD i "") a kn)) (by rw[az];lia) trivial ?_ ?_
    ·intro i d hd P hP;rw[aK]at hd;obtain⟨p,hp,rfl⟩:=bW.mp hd;rw[bJ,hp]at hP;nofun;exact⟨p,as,kn,rfl,p8,hP⟩
    have el:((aZ (e.ps.map D.str).length).map λi=>bg (as.map λa=>bb (e.ps.getD i "") a kn))=(e.ps.map λp=>as.map λa=>bb p a kn).map bg:=by
     rw[az,dC];apply gP;intro i;rw[aK,aK];by_cases hi:i<e.ps.length
     ·rw[iS hi,aU hi];simp[bJ,hi]
     ·rw[dh (by simpa using hi),dh (by lia)];rfl
    rw[el];intro p3 hp3;have g4:=au (o:=.lst ((e.ps.map λp=>as.map λa=>bb p a kn).map bg)) g3 hp3;have n3:pf≠p3:=ne3 g3 hp3;nofun;refine fG g4 (by rw[az,bx];exact eU (by lia)) ?_;refine⟨_,_,_,rfl,?_,?_,?_⟩
    ·intro b o hb;rw[a9]
     ·exact(g1.up hp3) b o hb
     ·rintro rfl;rw[hpf]at hb;cases hb
    ·rw[a9 (bE XT)];exact au g2 hp3
    ·rw[ao,XU];simp[cS,af,c_,eC]
   |name x=>simp[Sy.nm]at haL
   |b6=>simp[Sy.nm]at haL
   |pair _ _=>simp[Sy.nm]at haL
   |left _=>simp[Sy.nm]at haL
   |right _=>simp[Sy.nm]at haL
   |fork _ _ _=>simp[Sy.nm]at haL
  ·rintro σ S2 ⟨y3,y4,y5,rfl,g1,g2,g3⟩;refine⟨_,_,_,_,rfl,g1,?_⟩;rw[g3,az,iN,hsn,hLf]
 ·rintro σ S' ⟨x2,x3,x4,x5,rfl,h1,h2⟩;rw[az,iN]at h2;nofun;exact⟨pf,_,rfl,hpf,h1,h2,hq⟩
inductive XW (ds:List D)(q:D->Prop):Prop where
 |mk (a b:Int) (_:ds=[.int a,.int b]) (_:q (.int (jn a b)))
def JJ :aY:=vS XW
theorem XX{k:Nat}(h:aE K mg "joined_number" pB ["one","other"])(G:Gs K mg):ay P w K mg base (k+1) "joined_number" ["one","other"] JJ:=show _ by
 refine h.val W8 (by rintro ds q ⟨a,b,e,_⟩;rw[e];rfl) λf cdv A outer s0 H E ds q hr hA=>?_;obtain⟨a,b,rfl,hq⟩:=hA;unfold jn at hq;refine⟨_,(aB (aS (oA (aX rh oG aj (bM (ae (aa 0) (ae (aa 1) ai))) (by with_unfolding_all rfl)) aj (b9 (Ea rfl) Hd rfl G.max xT (ae (aa 0) (ae (aa 1) ai)))))),?_⟩;nofun;rw[UJ];by_cases hc:a=0∨b=0
 ·rw[if_pos hc]at hq;refine rE hc ?_;nofun;exact hq
 ·rw[if_neg hc]at hq;refine uQ hc ?_;nofun;exact hq
inductive XY (ds:List D)(q:D->Prop):Prop where
 |mk (row:List Int) (B:cI) (n p k:Nat) (_:ds=[bg row,eC B,.int k]) (_:Mt n p B) (_:row.length=n) (_:(∀x∈row,0<=x/\x<=2)) (_:0<n) (_:n<=1000) (_:k<p) (_:q (.int (dot row B k)))
def JK :aY:=vS XY
theorem XZ{k:Nat}(h:aE K mg "largest_between" nz ["row","rows","column"])(G:Gs K mg)(X0:ay P w K mg base k "joined_number" ["one","other"] JJ) :
 ay P w K mg base (k+1) "largest_between" ["row","rows","column"] JK:=show _ by
 refine h.val W7 (by rintro ds q ⟨_,_,_,_,_,e,_⟩;rw[e];rfl) λf cdv A outer s0 H E ds q hr hA=>?_;obtain⟨row,B,n,p,c,rfl,hB,hl,hr',hn,hn',hc,hq⟩:=hA;refine⟨_,(aB (aS (b9 (Ur rfl) Uv rfl G.max xT (ae (I_ (bQ:=av nz) (N:=["row","rows","column"]) (M:=["column"]) (js:=[2]) ⟨rfl,by cbv,by cbv,by cbv,by cbv,by cbv⟩ (by cbv) (by cbv) rfl (Uo rfl G.zip (ae (aa 0) (ae (aa 1) ai))) (λ_ _ _ _ _=>dU) (λ_ _ _ _ _=>(aJ X0 hr rfl (ae (aa 0) (ae (aA aG aH (aa 1) (aa 2) (λ_ _=>rfl)) ai))))) ai)))),?_⟩;unfold bg eC;nofun;have hz:(jW (row.map D.int) (B.map bg)).length=n:=by simp[jW,hl,hB.len]
 refine zD (λ_=>true) (λj=>.int (jn (row.getD j 0) (at2 B j c))) (by rw[hz];lia) trivial ?_ ?_
 ·intro j d hd;obtain⟨hj,_⟩:=bO.mp hd;rw[hz]at hj;have ed:d=.tup [.int (row.getD j 0),bg (B.getD j [])]:=by
   have h1:(row.map D.int)[j]?=some (.int (row.getD j 0)):=by rw[aK,aU (by lia),bJ,aU (by lia)];rfl
   have hjB:j<B.length:=by rw[hB.len];exact hj
   have h2:(B.map bg)[j]?=some (bg (B.getD j [])):=by rw[aK,aU hjB,bJ,aU hjB];rfl
   unfold jW at hd;have oW:((row.map D.int).zip (B.map bg))[j]?=some (D.int (row.getD j 0),bg (B.getD j [])):=MW.mpr ⟨h1,h2⟩;rw[aK,oW]at hd;exact(dN hd).symm
  rw[ed];refine G8 ⟨λP hP=>?_,λ_ P hP=>?_⟩
  ·nofun;exact hP
  ·unfold bg;have j6:c<(B.getD j []).length:=by rw[hB.row _ (oX (by rw[hB.len];exact hj))];exact hc
   nofun;refine ma (kI (by lia) (v:=.int (at2 B j c)) ?_) ?_
   ·rw[aK,fb,aU j6];unfold at2;rw[bJ (l:=B.getD j []),aU j6];rfl
   nofun;exact⟨_,_,rfl,hP⟩
 rw[G7,hz];intro p1 hp1;nofun;have el:((aZ n).map λj=>D.int (jn (row.getD j 0) (at2 B j c)))=((aZ n).map λj=>jn (row.getD j 0) (at2 B j c)).map D.int:=by rw[dC];rfl
 rw[el];refine UA ao (λe=>?_) λM h1 h2=>?_
 ·have:=congrArg mG e;simp at this;lia
 have e:=UD (λj _=>UG (vT hr' j).1 (hB.at j c).1) h1 h2;have e2:dot row B c=M:=by unfold dot;rw[hl];exact e.symm
 rw[e2]at hq;exact hq
inductive X1 (ds:List D)(q:D->Prop):Prop where
 |mk (row:List Int) (B:cI) (n p:Nat) (_:ds=[bg row,eC B]) (_:Mt n p B) (_:row.length=n) (_:(∀x∈row,0<=x/\x<=2)) (_:0<n) (_:n<=1000) (_:p<=1000) (_:q (bg ((aZ p).map λk=>dot row B k)))
def JL :aY:=vS X1
theorem X2{k:Nat}(h:aE K mg "composed_row" ny ["row","rows"])(G:Gs K mg)(X4:ay P w K mg base k "largest_between" ["row","rows","column"] JK) :
 ay P w K mg base (k+1) "composed_row" ["row","rows"] JL:=show _ by
 refine h.val W6 (by rintro ds q ⟨_,_,_,_,e,_⟩;rw[e];rfl) λf cdv A outer s0 H E ds q hr hA=>?_;obtain⟨row,B,n,p,rfl,hB,hl,hr',hn,hn',hp,hq⟩:=hA;have h0:(B.getD 0 []).length=p:=hB.row _ (oX (by rw[hB.len];exact hn));refine⟨_,(aB (aS (cZ fA fF rfl G.tuple fw (ae (h_ (bQ:=av ny) (N:=["row","rows"]) (M:=["row","rows"]) (js:=[0,1]) ⟨rfl,by cbv,by cbv,by cbv,by cbv,by cbv⟩ (by cbv) (by cbv) rfl (fX rfl G.range (ae (b9 dG dI rfl G.len dD (ae (aA aG aH (aa 1) aj (λ_ _=>rfl)) ai)) ai)) (λ_ _ _ _ _=>dU) (λ_ _ _ _ _=>(aJ X4 hr rfl (ae (aa 1) (ae (aa 2) (ae (aa 0) ai)))))) ai)))),?_⟩;nofun;refine sA (k:=0) rfl (by rw[hB.len];exact hn) ?_;nofun;rw[h0];refine f9 (λk=>.int (dot row B k)) (by rw[dE];lia) trivial ?_ ?_
 ·intro i d hd P hP;obtain⟨hi,rfl⟩:=fj hd;nofun;refine⟨row,B,n,p,i,?_,hB,hl,hr',hn,hn',by lia,hP⟩;rw[Int.zero_add]
 rw[dE,fb];intro p1 hp1;nofun;have el:((aZ p).map λk=>D.int (dot row B k))=((aZ p).map λk=>dot row B k).map D.int:=by rw[dC];rfl
 rw[el];exact hq
inductive X5 (ds:List D)(q:D->Prop):Prop where
 |mk (f t f' t':Str) (A B:cI) (_:ds=[c_ f t A,c_ f' t' B]) (_:q (.bl (decide (t=f'))))
def p9 :aY:=vS X5
theorem X6{k:Nat}(h:aE K mg "fit" pA ["one","other"]):ay P w K mg base (k+1) "fit" ["one","other"] p9:=show _ by
 refine h.val W5 (by rintro ds q ⟨_,_,_,_,_,_,e,_⟩;rw[e];rfl) λf cdv A outer s0 H E ds q hr hA=>?_;obtain⟨fr,t,f',t',A',B,rfl,hq⟩:=hA;refine⟨_,(aB (aS (i8 bP eT (aA aG aH (aa 0) aj (λ_ _=>rfl)) (aA aG aH (aa 1) aj (λ_ _=>rfl)) (aV _)))),?_⟩;unfold c_;nofun;exact hq
inductive X7(adr:Rf->Addr)(ds:List D)(q:D->Prop)(qx:Addr->Prop):Prop where
 |mk (f t f' t':Str) (A B:cI) (m n p:Nat) (_:ds=[c_ f t A,c_ f' t' B]) (_:m<=1000) (_:n<=1000) (_:p<=1000) (_:0<n) (_:(t=f'->Mt m n A/\Mt n p B/\q (c_ f t' (iF A B)))) (_:(t≠f'->qx (adr .apart)))
def sY(adr:Rf->Addr):aY:=vX (X7 adr)
theorem X8{k:Nat}(h:aE K mg "composed" nv ["one","other"])(G:Gs K mg)(R:je K mg ES adr)(gn:ay P w K mg base k "fit" ["one","other"] p9)(X9:ay P w K mg base k "composed_row" ["row","rows"] JL) :
 ay P w K mg base (k+1) "composed" ["one","other"] (sY adr):=show _ by
 refine h.S9 Jq (by rintro ds q qx ⟨_,_,_,_,_,_,_,_,_,e,_⟩;rw[e];rfl) λf cdv A outer s0 H E ds q qx hr hA=>?_;obtain⟨fr,t,f',t',A',B,m,n,p,rfl,hm,hn,hp,hn0,hy,hno⟩:=hA;refine⟨_,(aq (bN (l7 (gZ (aJ gn hr rfl (ae (aa 0) (ae (aa 1) ai))))) (aB (r9 (C:=adr .apart) (R.bound .apart (by decide)) (R.exc (by decide)) rfl rfl (ae bh ai))) bj)
 (aq (kS (i:=2) (bQ:=av nv) (N:=["one","other","rows"]) (M:=["other"]) (js:=[1]) ⟨rfl,by cbv,by cbv,by cbv,by cbv,by cbv⟩ (by cbv) (by cbv) rfl (gF (aA aG aH (aa 0) aj (λ_ _=>rfl))) (λ_ _ _ _ _=>dU) (λ_ _ _ _ _=>(aJ X9 hr rfl (ae (aa 0) (ae (aA aG aH (aa 1) aj (λ_ _=>rfl)) ai)))) Jq.nd rfl rfl)
 (aB (aS (bM (ae (aA aG aH (aa 0) aj (λ_ _=>rfl)) (ae (aA aG aH (aa 1) aj (λ_ _=>rfl)) (ae (cZ fA fF rfl G.tuple fw (ae (aa 2) ai)) ai)))))))),?_⟩
 by_cases hc:t=f'
 ·obtain⟨hA,hB,hq⟩:=hy hc;nofun;refine⟨fr,t,f',t',A',B,rfl,?_⟩;nofun;unfold c_;nofun;unfold eC;nofun;refine f9 (λi=>bg ((aZ p).map λk=>dot (A'.getD i []) B k)) (by rw[az,hA.len];lia) trivial ?_ ?_
  ·intro i d hd P hP;rw[aK]at hd;obtain⟨row,hrow,rfl⟩:=bW.mp hd;have hmem:=bS hrow;have eg:A'.getD i []=row:=by rw[bJ,hrow];rfl
   rw[eg]at hP;nofun;exact⟨row,B,n,p,rfl,hB,hA.row row hmem,hA.num row hmem,hn0,hn,hp,hP⟩
  have el:((aZ (A'.map bg).length).map λi=>bg ((aZ p).map λk=>dot (A'.getD i []) B k))=(iF A' B).map bg:=by
   unfold iF;rw[az,hB.head hn0,dC];apply gP;intro i;rw[aK,aK];by_cases hi:i<A'.length
   ·rw[iS hi,aU hi];simp[bJ,hi]
   ·rw[dh (by simpa using hi),dh (by lia)];rfl
  rw[el];intro p1 hp1;nofun;exact hq
 ·nofun;refine⟨fr,t,f',t',A',B,rfl,?_⟩;nofun;exact λa=>hno hc
inductive X_(adr:Rf->Addr)(ds:List D)(S:ah)(q:D->Addr->O->Prop)(qx:Addr->Prop):Prop where
 |mk (pf:Addr) (F:CL.Fd Gr) (g:Gr) (way:List Int) (_:ds=[.ref pf,af g,iG way]) (_:S pf=some (.lst (F.map dM))) (_:F.length<=40) (_:(∀F',CL.putN F g way=some F'->q .non pf (.lst (F'.map dM)))) (_:(CL.putN F g way=none->qx (adr .many)))
def JM(adr:Rf->Addr):aY:=vA (X_ adr)
theorem sub_self{S:ah}{a:Addr}{o:O}(h:S a=some o){S':ah}(hs:Sub S S'):Sub (up S a o) S':=λb u e=>by
 by_cases c:b=a
 ·subst c;rw[ao]at e;cases e;exact hs _ _ h
 ·rw[a9 c]at e;exact hs _ _ e
theorem X'{k:Nat}(h:aE K mg "put_new" nA ["found","graph","way"])(G:Gs K mg)(R:je K mg ES adr):ay P w K mg base (k+1) "put_new" ["found","graph","way"] (JM adr):=show _ by
 refine h.vA Xa (by rintro ds S q qx ⟨_,_,_,_,e,_⟩;rw[e];rfl) λf cdv A outer s0 H E ds S q qx hr hA=>?_;obtain⟨pf,F,g,way,rfl,hS,hl,hy,hn⟩:=hA;refine⟨_,(aq (bN (aX (IC (kG hr)) IE (aa 1) (h_ (bQ:=av nA) (N:=["found","graph","way"]) (M:=[]) (js:=[]) ⟨rfl,by cbv,by cbv,by cbv,by cbv,by cbv⟩ (by cbv) (by cbv) rfl (eu (aa 0)) (λ_ _ _ _ _=>dU) (λ_ _ _ _ _=>(aA aG aH (aa 0) aj (λ_ _=>rfl)))) (by with_unfolding_all rfl)) (aB Q9) bj)
 (aq (bN (aX D9 gG (b9 dG dI rfl G.len dD (ae (aa 0) ai)) (Q1 G.Xk rfl) (aV _)) (aB (r9 (C:=adr .many) (R.bound .many (by decide)) (R.exc (by decide)) rfl rfl (ae bh ai))) bj)
 (aB (dY (eh d6 fN gh fB fZ (aa 0) (ae (bM (ae (aa 1) (ae (aa 2) ai))) ai)))))),?_⟩
 nofun;refine f9 (λi=>af ((F.getD i (g,[])).1)) (by rw[az];lia) hS ?_ ?_
 ·intro i d hd P hP;rw[aK]at hd;obtain⟨p,hp,rfl⟩:=bW.mp hd;rw[bJ,hp]at hP;unfold dM;nofun;exact hP
 have el:((aZ (F.map dM).length).map λi=>af ((F.getD i (g,[])).1))=(F.map b8).map af:=by
  rw[az,dC];apply gP;intro i;rw[aK,aK];by_cases hi:i<F.length
  ·rw[iS hi,aU hi];simp[bJ,hi]
  ·rw[dh (by simpa using hi),dh (by lia)];rfl
 rw[el];intro p1 hp1;have h1:=au (o:=.lst ((F.map b8).map af)) hS hp1;have s1:Sub S (up S p1 (.lst ((F.map b8).map af))):=(Sub.refl S).up hp1;have h2:up S p1 (.lst ((F.map b8).map af)) p1=_:=ao;generalize up S p1 (.lst ((F.map b8).map af))=S1 at h1 h2 s1 ⊢;refine IM (by decide) h2 ?_;by_cases hm:g∈F.map b8
 ·rw[decide_eq_true hm];nofun;exact⟨pf,_,sub_self hS s1,hy F (by unfold CL.putN;rw[if_pos hm])⟩
 rw[decide_eq_false hm];have hlen:((F.map dM).length:Int)=(F.length:Int):=by rw[az]
 by_cases wA:40<=F.length
 ·have Ya:((F.map dM).length:Int)>=40:=by lia
  nofun;intro a;exact⟨s1,hn (by unfold CL.putN;rw[if_neg hm,if_pos wA])⟩
 ·have Ya:¬((F.map dM).length:Int)>=40:=by lia
  nofun;refine fG h1 (by rw[az];exact eU (by lia)) ?_;have e:F.map dM++[D.tup [af g,iG way]]=(F++[(g,way)]).map dM:=by simp[dM]
  rw[e];exact⟨pf,_,Sub.upd s1,hy (F++[(g,way)]) (by unfold CL.putN;rw[if_neg hm,if_neg wA])⟩
inductive Yb(adr:Rf->Addr)(ds:List D)(S:ah)(q:List D->Prop)(qx:Addr->Prop):Prop where
 |mk (pn:Addr) (nb:List (Int×Gr)) (ar:Str->Option Nat) (_:ds=[.ref pn]) (_:S pn=some (.lst (nb.map kP))) (_:nb.length<=1000) (_:(∀p∈nb,Gd ar p.2)) (_:(∀F,eZ nb=some F->q (F.map dM))) (_:(eZ nb=none->qx (adr .many)))
def JN(adr:Rf->Addr):aY:=oY (Yb adr)
structure FG(ar:Str->Option Nat)(F:CL.Fd Gr):Prop where
 gd:∀p∈F,Gd ar p.1
 wl:∀p∈F,p.2.length<=1000
theorem FG.put{ar:Str->Option Nat}{F F':CL.Fd Gr}{g:Gr}{w:List Int}(h:FG ar F)(hg:Gd ar g)(hw:w.length<=1000)(e:CL.putN F g w=some F'):FG ar F':=show _ by
 unfold CL.putN at e
 split at e
 ·cases e;exact h
 ·split at e
  ·cases e
  ·cases e;refine⟨λp hp=>?_,λp hp=>?_⟩
   ·rcases bF.mp hp with hp|hp
    ·exact h.gd p hp
    ·rw[cz.mp hp];exact hg
   ·rcases bF.mp hp with hp|hp
    ·exact h.wl p hp
    ·rw[cz.mp hp];exact hw
theorem JO{α:Type}{l:List α}{j:Nat}{x:α}(h:l[j]?=some x):l.drop j=x::l.drop (j+1):=by
 obtain⟨hj,rfl⟩:=bO.mp h;exact xU hj
theorem Yc{k:Nat}(h:aE K mg "closure_of" pE ["numbered"])(G:Gs K mg)(R:je K mg ES adr)(wB:ay P w K mg base k "put_new" ["found","graph","way"] (JM adr))(gn:ay P w K mg base k "fit" ["one","other"] p9)
 (iJ:ay P w K mg base k "composed" ["one","other"] (sY adr)):ay P w K mg base (k+1) "closure_of" ["numbered"] (JN adr):=show _ by
 refine h.oY kT (by rintro ds S q qx ⟨_,_,_,e,_⟩;rw[e];rfl) λf cdv A outer s0 H E ds S q qx hr hA=>?_;obtain⟨pn,nb,ar,rfl,hS,hnl,hgd,hy,hno⟩:=hA;refine⟨_,(aq (aI (i:=1) kT.nd rfl (Or.inl rfl) (dA ai))
 (aq (c7 m7 rfl (eu (aa 0)) (u9 rfl (l8 (ck (i:=2) kT.nd rfl (Or.inl rfl)) (l8 (ck (i:=3) kT.nd rfl (Or.inl rfl)) u6))) (aB (dY (aJ wB hr rfl (ae (aa 1) (ae (aa 3) (ae (bM (ae (aa 2) ai)) ai)))))))
 (aq (aI (i:=4) kT.nd rfl (Or.inl rfl) aj)
 (aq (rR m7 (aX lW gG (aa 4) (b9 dG dI rfl G.len dD (ae (aa 1) ai)) (aV _)) (aq (aI (i:=5) kT.nd rfl (Or.inl rfl) (aA cV c8 (aa 1) (aa 4) (λ_ _=>rfl)))
 (aq (c7 m7 rfl (eu (aa 0)) (u9 rfl (l8 (ck (i:=2) kT.nd rfl (Or.inl rfl)) (l8 (ck (i:=3) kT.nd rfl (Or.inl rfl)) u6))) (aB (bN (gZ (aJ gn hr rfl (ae (aA aG aH (aa 5) aj (λ_ _=>rfl)) (ae (aa 3) ai)))) (aB (dY (aJ wB hr rfl (ae (aa 1) (ae (aJ iJ hr rfl (ae (aA aG aH (aa 5) aj (λ_ _=>rfl)) (ae (aa 3) ai))) (ae (aD Hu Hz (aA aG aH (aa 5) aj (λ_ _=>rfl)) (bM (ae (aa 2) ai))) ai)))))) bj)))
 (aB (Rb (i:=4) kT.nd rfl (Or.inl rfl) aj OY)))))
 (aB (aS (aa 1))))))),?_⟩
 nofun;intro pf hpf;have hS1:=au (o:=.lst []) hS hpf;have hne:pn≠pf:=ne3 hS hpf;nofun;refine⟨λj σ S'=>mw λ(F:CL.Fd Gr) (x2 x3:Option D)=>σ=[some (.ref pn),some (.ref pf),x2,x3,none,none]/\Sub S S'/\S' pf=some (.lst (F.map dM))/\CL.Ok F/\FG ar F/\(∀p∈F,p.2.length<=1)/\CL.hW nb []=CL.hW (nb.drop j) F,
  ⟨[],_,_,rfl,(Sub.refl S).up hpf,ao,CL.Ok.nil,⟨by simp,by simp⟩,by simp,by simp⟩,λj σ S' ⟨_,_,_,_,h1,_⟩=>h1 _ _ hS,?turn,?done⟩
 case turn =>
  rintro j d σ S' hd ⟨F,x2,x3,rfl,h1,h2,hok,hfg,hw1,e1⟩;rw[aK]at hd;obtain⟨⟨n,g⟩,hp,rfl⟩:=bW.mp hd;have hpm:=bS hp;rw[JO hp,CL.hW]at e1;unfold kP;nofun;refine⟨pf,F,g,[n],rfl,h2,hok.len,λF' eF=>?_,λeF=>?_⟩
  ·have hst:=CL.v7 hok eF;refine⟨F',_,_,rfl,h1.at hpf,ao,hst.1.ok,hfg.put (hgd _ hpm) (by simp) eF,λp hp'=>?_,by rw[e1,eF];rfl⟩;unfold CL.putN at eF
   split at eF
   ·cases eF;exact hw1 p hp'
   ·split at eF
    ·cases eF
    ·cases eF;rcases bF.mp hp' with z|z
     ·exact hw1 p z
     ·rw[cz.mp z];simp
  ·intro a;refine⟨h1,hno ?_⟩;show CL.jk df bu nb=none;unfold CL.jk;rw[e1,eF];rfl
 rintro σ S' ⟨F,x2,x3,rfl,h1,h2,hok,hfg,hw1,e1⟩;rw[az,xV]at e1;have e2:eZ nb=CL.f7 df bu nb 41 0 F:=by
  show CL.jk df bu nb=_;unfold CL.jk;rw[e1];rfl
 clear e1;nofun;refine rY (λm σ T=>wm λ(F:CL.Fd Gr) (x2 x3 x5:Option D) (pl:Nat)=>σ=[some (.ref pn),some (.ref pf),x2,x3,some (.int (pl:Int)),x5]/\Sub S T/\T pf=some (.lst (F.map dM))/\CL.Ok F/\FG ar F/\(∀p∈F,p.2.length<=pl+1)/\pl+m=41/\eZ nb=CL.f7 df bu nb m pl F)
  41 ⟨F,x2,x3,none,0,rfl,h1,h2,hok,hfg,hw1,rfl,e2⟩ ?_
 clear h1 h2 hok hfg hw1 e2;rintro m σ T ⟨F,x2,x3,x5,pl,rfl,h1,h2,hok,hfg,hw1,hm,e1⟩;have wz:((F.map dM).length:Int)=(F.length:Int):=by rw[az]
 have wA:=hok.len;by_cases hlt:pl<F.length
 rotate_left
 ·have hlt':¬((pl:Int)<((F.map dM).length:Int)):=by lia
  nofun;rw[CL.Vs (by lia)]at e1;exact⟨pf,_,rfl,hpf,h1,h2,hy F e1⟩
 have hlt':((pl:Int)<((F.map dM).length:Int)):=by lia
 obtain⟨m,rfl⟩:∃m',m=m'+1:=⟨m-1,by lia⟩;obtain⟨a,ha⟩:∃a,F[pl]?=some a:=⟨_,aU hlt⟩;have p_:=bS ha;rw[CL.f7,ha]at e1;dsimp only at e1;obtain⟨ag,aw⟩:=a;have hga:=hfg.gd _ p_;have Yd:=hw1 _ p_;dsimp only at hga Yd;have hTn:=h1 _ _ hS;nofun;refine de h2 (d:=dM (ag,aw)) (gA (by rw[aK,ha];rfl)) ?_;nofun;refine⟨λj σ T'=>mw λ(F':CL.Fd Gr) (x2 x3:Option D)=>σ=[some (.ref pn),some (.ref pf),x2,x3,some (.int (pl:Int)),some (dM (ag,aw))]/\Sub S T'/\T' pf=some (.lst (F'.map dM))/\CL.Ok F'/\FG ar F'/\(∀p∈F',p.2.length<=pl+2)/\eZ nb=(CL.put2 df bu (ag,aw) (nb.drop j) F').bind (CL.f7 df bu nb m (pl+1)),
  ⟨F,_,_,rfl,h1,h2,hok,hfg,λp hp=>by have:=hw1 p hp;lia,by rw[e1];rfl⟩,λj σ T' ⟨_,_,_,_,h1,_⟩=>h1 _ _ hS,?agF,?Ye⟩
 case Ye =>
  rintro σ T' ⟨F',y2,y3,rfl,k1,k2,sZ,wC,kw,e3⟩;rw[az,xV]at e3;nofun;have ep:(pl:Int)+1=((pl+1:Nat):Int):=by lia
  rw[ep];exact⟨m,by lia,F',y2,y3,_,pl+1,rfl,k1,k2,sZ,wC,kw,by lia,e3⟩
 clear h1 h2 hok hfg hw1 hlt hlt' wz wA ha p_ e1;rintro j d σ T' hd ⟨F',y2,y3,rfl,k1,k2,sZ,wC,kw,e3⟩;rw[aK]at hd;obtain⟨⟨n,g⟩,hp,rfl⟩:=bW.mp hd;have hpm:=bS hp;have AA:=hgd _ hpm;dsimp only at AA;rw[JO hp,CL.put2]at e3;dsimp only at e3;unfold kP dM;nofun;refine⟨ag.1,ag.2.1,g.1,g.2.1,ag.2.2,g.2.2,rfl,?_⟩;by_cases hf:ag.2.1=g.1
 rotate_left
 ·have hff:¬(df ag g=true):=by simpa[df]using hf
  rw[if_neg hff]at e3;nofun;exact⟨F',_,_,rfl,k1,k2,sZ,wC,kw,e3⟩
 have hff:df ag g=true:=by simpa[df]using hf
 rw[if_pos hff]at e3;obtain⟨m1,n1,q1,q2,q3,q4,q5,q6,s_⟩:=hga.ex;obtain⟨m2,n2,r1,r2,r3,r4,r5,r6,Yf⟩:=AA.ex;have tf:m2=n1:=by rw[hf,r1]at q2;exact dN q2
 subst tf;nofun;refine⟨ag.1,ag.2.1,g.1,g.2.1,ag.2.2,g.2.2,m1,m2,n2,rfl,by lia,by lia,by lia,by lia,λ_=>⟨s_,Yf,?_⟩,λz=>absurd hf z⟩;unfold iG;nofun;refine zP (by rw[az];exact c9 (by simp;lia)) ?_;nofun;refine⟨pf,F',bu ag g,aw++[n],?_,k2,sZ.len,λF2 eF=>?_,λeF=>?_⟩
 ·simp[iG,af,bu]
 ·have hst:=CL.v7 sZ eF;refine⟨F2,_,_,rfl,k1.at hpf,ao,hst.1.ok,wC.put (hga.cmp AA hf) (by rw[bx];simp;lia) eF,λp hp'=>?_,by rw[e3,eF];rfl⟩;unfold CL.putN at eF
  split at eF
  ·cases eF;exact kw p hp'
  ·split at eF
   ·cases eF
   ·cases eF;rcases bF.mp hp' with z|z
    ·exact kw p z
    ·rw[cz.mp z,bx];simp;lia
 ·intro a;refine⟨k1,hno ?_⟩;rw[e3,eF];rfl
inductive Yg (ds:List D)(q:D->Prop):Prop where
 |mk (f t:Str) (A:cI) (n:Nat) (_:ds=[c_ f t A]) (_:Mt n n A) (_:n<=1000) (_:q (.bl (kR A)))
def JP :aY:=vS Yg
theorem Yh{k:Nat}(h:aE K mg "falls_here" nD ["graph"])(G:Gs K mg):ay P w K mg base (k+1) "falls_here" ["graph"] JP:=show _ by
 refine h.val Xc (by rintro ds q ⟨_,_,_,_,e,_⟩;rw[e];rfl) λf cdv A outer s0 H E ds q hr hA=>?_;obtain⟨fr,t,A',n,rfl,hM,hn,hq⟩:=hA;refine⟨_,(aB (aS (b9 (zF rfl) (sv (f:=λbs=>bs.any id)) rfl G.any boot_any (ae (I_ (bQ:=av nD) (N:=["graph"]) (M:=[]) (js:=[]) ⟨rfl,by cbv,by cbv,by cbv,by cbv,by cbv⟩ (by cbv) (by cbv) rfl (VI rfl G.enumerate (ae (aA aG aH (aa 0) aj (λ_ _=>rfl)) ai)) (λ_ _ _ _ _=>dU) (λ_ _ _ _ _=>(i8 bP dn (aA aG aH (aa 1) (aa 0) (λ_ _=>rfl)) aj (aV _)))) ai)))),?_⟩;unfold c_ eC;nofun;refine sD (λi=>.bl (decide ((A'.getD i []).getD i 0=2))) (by rw[sJ,az,hM.len];lia) (λ_ _=>trivial) ?_ ?_
 ·intro i d S hd hs;rw[Ad]at hd;obtain⟨d2,hd2,rfl⟩:=bW.mp hd;rw[aK]at hd2;obtain⟨row,hrow,rfl⟩:=bW.mp hd2;have hi:i<A'.length:=(bO.mp hrow).1;have hrl:=hM.row row (bS hrow);have hil:i<row.length:=by rw[hrl];have:=hM.len;lia
  refine G8 λP hP=>?_;rw[bJ (l:=A'),hrow]at hP;unfold bg;nofun;refine ma (d:=.int (row.getD i 0)) (gA (by rw[aK,aU hil];simp[bJ,hil])) ?_;nofun;exact hP _ (Sub.refl _)
 intro S hs p1 hp1;nofun;have eb:((aZ (fH (A'.map bg)).length).map λi=>D.bl (decide ((A'.getD i []).getD i 0=2)))=((aZ A'.length).map λi=>decide ((A'.getD i []).getD i 0=2)).map D.bl:=by rw[sJ,az,dC];rfl
 rw[eb];refine sy ao ?_;have ea:(((aZ A'.length).map λi=>decide ((A'.getD i []).getD i 0=2)).any id)=kR A':=by
  unfold kR;rw[ud];rfl
 rw[ea];nofun;exact hq
inductive Yi (ds:List D)(q:D->Prop):Prop where
 |mk (ar:Str->Option Nat) (g:Gr) (_:ds=[af g]) (_:Gd ar g) (_:q (.bl (cE g)))
def wD :aY:=vS Yi
theorem Yj{k:Nat}(h:aE K mg "is_idle_round" pF ["graph"])(G:Gs K mg)(gn:ay P w K mg base k "fit" ["one","other"] p9)(iJ:ay P w K mg base k "composed" ["one","other"] (sY adr))
 (AB:ay P w K mg base k "falls_here" ["graph"] JP):ay P w K mg base (k+1) "is_idle_round" ["graph"] wD:=show _ by
 refine h.val Xb (by rintro ds q ⟨_,_,e,_⟩;rw[e];rfl) λf cdv A outer s0 H E ds q hr hA=>?_;obtain⟨ar,g,rfl,hg,hq⟩:=hA;refine⟨_,(aB (aS (rJ (aJ gn hr rfl (ae (aa 0) (ae (aa 0) ai))) (rJ (i8 (uV (kG hr)) u_ (aJ iJ hr rfl (ae (aa 0) (ae (aa 0) ai))) (aa 0) (aV _)) (rH (Q5 (aJ AB hr rfl (ae (aa 0) ai)))))))),?_⟩;obtain⟨m1,n1,q1,q2,q3,q4,q5,q6,s_⟩:=hg.ex;nofun;refine⟨g.1,g.2.1,g.1,g.2.1,g.2.2,g.2.2,rfl,?_⟩;by_cases hf:g.2.1=g.1
 rotate_left
 ·have hi:cE g=false:=by simp[cE,df,hf]
  rw[hi]at hq;rw[decide_eq_false hf];nofun;exact hq
 have tf:n1=m1:=by rw[hf,q1]at q2;exact(dN q2).symm
 subst tf;rw[decide_eq_true hf];nofun;refine⟨g.1,g.2.1,g.1,g.2.1,g.2.2,g.2.2,n1,n1,n1,rfl,by lia,by lia,by lia,by lia,λ_=>⟨s_,s_,?_⟩,λz=>absurd hf z⟩;nofun;show oF _ (af (bu g g)) (af g) _ _;refine VR (by decide) ?_;by_cases hc:bu g g=g
 rotate_left
 ·have hi:cE g=false:=by simp[cE,df,hf,hc]
  rw[hi]at hq;rw[decide_eq_false hc];nofun;exact hq
 rw[decide_eq_true hc];nofun;refine⟨g.1,g.2.1,g.2.2,n1,rfl,s_,by lia,?_⟩;nofun;have hi:cE g=!kR g.2.2:=by simp[cE,df,hf,hc]
 rw[hi]at hq;exact hq
def JQ(w:List Int):D:=.tup [.str "open",iG w]
def wF(F:CL.Fd Gr)(S:ah)(q:D->ah->Prop):Prop:=(∀w,jl F=some w->q (JQ w) S)/\(jl F=none->∀p,S p=none->q (.tup [.str "ends",.ref p]) (up S p (.lst ((F.map b8).map af))))
inductive Yk (ds:List D)(S:ah)(q:D->ah->Prop)(_:Addr->Prop):Prop where
 |mk (pp:Addr) (F:CL.Fd Gr) (ar:Str->Option Nat) (_:ds=[.ref pp]) (_:S pp=some (.lst (F.map dM))) (_:F.length<=40) (_:(∀p∈F,Gd ar p.1)) (_:wF F S q)
def JR :aY:=mj Yk
theorem Yl{k:Nat}(h:aE K mg "telling_of" nB ["pairs"])(G:Gs K mg)(tm:ay P w K mg base k "is_idle_round" ["graph"] wD):ay P w K mg base (k+1) "telling_of" ["pairs"] JR:=show _ by
 refine h.mj Au (by rintro ds S q qx ⟨_,_,_,e,_⟩;rw[e];rfl) λf cdv A outer s0 H E ds S q qx hr hA=>?_;obtain⟨pp,F,ar,rfl,hS,hl,hgd,hy,hn⟩:=hA;refine⟨_,(aq (c7 m7 rfl (eu (aa 0)) (u9 rfl (l8 (ck (i:=1) Au.nd rfl (Or.inl rfl)) (l8 (ck (i:=2) Au.nd rfl (Or.inl rfl)) u6))) (aB (bN (gZ (aJ tm hr rfl (ae (aa 1) ai))) (aB (aS (bM (ae bh (ae (aa 2) ai))))) bj)))
 (aB (aS (bM (ae bh (ae (h_ (bQ:=av nB) (N:=["pairs","graph","way"]) (M:=[]) (js:=[]) ⟨rfl,by cbv,by cbv,by cbv,by cbv,by cbv⟩ (by cbv) (by cbv) rfl (eu (aa 0)) (λ_ _ _ _ _=>dU) (λ_ _ _ _ _=>(aA aG aH (aa 0) aj (λ_ _=>rfl)))) ai)))))),?_⟩
 nofun;refine⟨λj σ S'=>ib λ(x1 x2:Option D)=>σ=[some (.ref pp),x1,x2]/\S'=S/\∀i p,i<j->F[i]?=some p->cE p.1=false,⟨_,_,rfl,rfl,λi p hi=>by lia⟩,λj σ S' ⟨_,_,_,e,_⟩=>by rw[e];exact hS,?_,?_⟩
 ·rintro j d σ S' hd ⟨x1,x2,rfl,rfl,hb⟩;rw[aK]at hd;obtain⟨⟨g,wy⟩,hp,rfl⟩:=bW.mp hd;have hg:=hgd _ (bS hp);unfold dM;nofun;refine⟨ar,g,rfl,hg,?_⟩;cases hi:cE g with
  |true =>
   nofun;refine⟨S',Sub.refl _,hy wy ?_⟩;unfold jl;have:F.find? (λp=>cE p.1)=some (g,wy):=by
    rw[List.find?_eq_some_iff_getElem];obtain⟨hj,ej⟩:=bO.mp hp;refine⟨hi,j,hj,ej,λi hij=>?_⟩;have:=hb i F[i] hij (aU (by lia));simpa using this
   rw[this];rfl
  |false =>
   nofun;refine⟨_,_,rfl,rfl,λi p hij sG=>?_⟩;by_cases e:i=j
   ·subst e;rw[hp]at sG;cases sG;exact hi
   ·exact hb i p (by lia) sG
 rintro σ S' ⟨x1,x2,rfl,rfl,hb⟩;have htn:jl F=none:=by
  unfold jl;rw[Nv.mpr λp hp=>?_]
  ·rfl
  ·obtain⟨i,hi,rfl⟩:=gO hp;rw[hb i F[i] (by rw[az];exact hi) (aU hi)];decide
 nofun;refine f9 (λi=>af ((F.getD i (("","",[]),[])).1)) (by rw[az];lia) hS ?_ ?_
 ·intro i d hd P hP;rw[aK]at hd;obtain⟨p,hp,rfl⟩:=bW.mp hd;rw[bJ,hp]at hP;unfold dM;nofun;exact hP
 have el:((aZ (F.map dM).length).map λi=>af ((F.getD i (("","",[]),[])).1))=(F.map b8).map af:=by
  rw[az,dC];apply gP;intro i;rw[aK,aK];by_cases hi:i<F.length
  ·rw[iS hi,aU hi];simp[bJ,hi]
  ·rw[dh (by simpa using hi),dh (by lia)];rfl
 rw[el];intro p1 hp1;nofun;exact⟨_,Sub.refl _,hn htn p1 hp1⟩
structure Plain(ps:List Str)(n:Nat)(s:Sy):Prop where
 wf:∀ar,s.wf ar ps
 deep:s.deep<=n
 sends:s.sends=0
 size:s.pre.length+1<=2^n
theorem my(a:Sy)(as:List Sy):(Sy.bV (a::as)).length=a.pre.length+(Sy.bV as).length:=by simp[Sy.bV]
theorem nK(s:Sy):s.pre.length=1+(Sy.bV s.parts).length:=by rw[Sy.m8];simp;lia
theorem mz{ps:List Str}{x:Str}(h:x∈ps):Plain ps 1 (.name x):=⟨λ_=>h,by simp[Sy.deep],by simp[Sy.sends,Sy.pre],by simp[Sy.pre]⟩
theorem Plain.one{ps:List Str}{n:Nat}{s:Sy}(h:Plain ps n s):(Sy.bV [s]).length+2<=2^(n+1):=by
 have:=h.size;rw[my,Nat.pow_succ];simp[Sy.bV];lia
theorem Plain.left{ps:List Str}{n:Nat}{s:Sy}(h:Plain ps n s):Plain ps (n+1) (.left s):=⟨h.wf,by have:=h.deep;simp only[Sy.deep];lia,by rw[Sy.nc];simp only[Sy.parts,Sy.kL,h.sends];simp[Sy.eB,Sy.bV],
 by have:=h.one;rw[nK];simp only[Sy.parts];lia⟩
theorem Plain.right{ps:List Str}{n:Nat}{s:Sy}(h:Plain ps n s):Plain ps (n+1) (.right s):=⟨h.wf,by have:=h.deep;simp only[Sy.deep];lia,by rw[Sy.nc];simp only[Sy.parts,Sy.kL,h.sends];simp[Sy.eB,Sy.bV],
 by have:=h.one;rw[nK];simp only[Sy.parts];lia⟩
theorem Plain.pair{ps:List Str}{n:Nat}{s t:Sy}(h:Plain ps n s)(h':Plain ps n t):Plain ps (n+1) (.pair s t):=⟨λar=>⟨h.wf ar,h'.wf ar⟩,by have:=h.deep;have:=h'.deep;simp only[Sy.deep];lia,by rw[Sy.nc];simp only[Sy.parts,Sy.kL,h.sends,h'.sends];simp[Sy.eB,Sy.bV],
 by have:=h.size;have:=h'.size;rw[nK,Nat.pow_succ];simp only[Sy.parts,my];simp[Sy.bV];lia⟩
theorem Plain.mono{ps:List Str}{n m:Nat}{s:Sy}(h:Plain ps n s)(hm:n<=m):Plain ps m s:=⟨h.wf,b5 h.deep hm,h.sends,b5 h.size (Nat.pow_le_pow_right (by decide) hm)⟩
theorem JS{S:ah}{Q:K3}{a:Addr}{x y:D}{c:Int}(hS:S a=some (.lst [x,y]))(q0:Q x S)(q1:Q y S):vb (.ref a) (.int (c%2)) S Q:=show _ by
 have m2:c%2=0∨c%2=1:=by lia
 rcases m2 with m|m
 ·exact de hS (by rw[m];rfl) q0
 ·exact de hS (by rw[m];rfl) q1
inductive Ym (ds:List D)(q:D->Prop):Prop where
 |mk (cell:Int) (ps:List Str) (_:ds=[.int cell,.tup (ps.map D.str)]) (_:1<=ps.length) (_:ps.length<=4) (_:∀s:Sy,Plain ps 4 s->q s.d)
def AD :aY:=vS Ym
theorem Yn{k:Nat}(h:aE K mg "_law_path" pM ["cell","params"])(G:Gs K mg):ay P w K mg base (k+1) "_law_path" ["cell","params"] AD:=show _ by
 refine h.val we (by rintro ds q ⟨_,_,e,_⟩;rw[e];rfl) λf cdv A outer s0 H E ds q hr hA=>?_;obtain⟨cell,ps,rfl,l1,l4,hq⟩:=hA;obtain⟨jp,vp,ejp,Yo,hap⟩:=jS (f:=D.str) cell (show 0<ps.length by lia);have hpl:(0:Int)<((ps.map D.str).length:Int):=by rw[az];lia
 have n4:0<=cell/4%4/\cell/4%4<4:=by lia
 refine⟨_,(aq (aI (i:=2) we.nd rfl (Or.inl rfl) (bM (ae bh (ae (aA aG aH (aa 1) (aD bK aN (aa 0) (b9 dG dI rfl G.len dD (ae (aa 1) ai))) (λ_ _=>rfl)) ai))))
 (aq (c7 dk rfl (fX rfl G.range (ae (aD bK aN (aD cN aN (aa 0) aj) aj) ai)) (ck (i:=3) we.nd rfl (Or.inl rfl)) (aB (aI (i:=2) we.nd rfl (Or.inl rfl) (bM (ae (aA cV c8 (dA (ae bh (ae bh ai))) (aD bK aN (aD cN aN (aa 0) (aA cV c8 (dA (ae aj (ae aj (ae aj ai)))) (aa 3) (λ_ _=>rfl))) aj) (λ_ _=>rfl)) (ae (aa 2) ai))))))
 (aB (aS (aa 2))))),?_⟩
 nofun;refine ma hap ?_;nofun;refine⟨λi σ S=>ib λ(s:Sy) (x3:Option D)=>σ=[some (.int cell),some (.tup (ps.map D.str)),some s.d,x3]/\Plain ps (1+i) s,⟨.name vp,none,rfl,mz (bS Yo)⟩,λ_ _ _ _=>trivial,?_,?_⟩
 ·rintro i d σ S hd ⟨s,x3,rfl,hs⟩;obtain⟨hi,rfl⟩:=fj hd;nofun;intro p1 hp1;nofun;intro p2 hp2;nofun;have h3:i=0∨i=1∨i=2:=by lia
  have hl:=au (o:=.lst [.int 16,.int 32,.int 64]) (ao (S:=S) (a:=p1) (o:=.lst [.str "left",.str "right"])) hp2;rcases h3 with rfl|rfl|rfl
  all_goals
   nofun;refine JS hl ?_ ?_
   ·nofun;exact⟨.left s,_,rfl,by rw[<-qm];exact hs.left⟩
   ·nofun;exact⟨.right s,_,rfl,by rw[<-qm];exact hs.right⟩
 ·rintro σ S ⟨s,x3,rfl,hs⟩;rw[dE]at hs;nofun;exact hq s (hs.mono (by lia))
inductive Yp (ds:List D)(q:D->Prop):Prop where
 |mk (cell:Int) (ps:List Str) (_:ds=[.int cell,.tup (ps.map D.str)]) (_:1<=ps.length) (_:ps.length<=4) (_:∀s:Sy,Plain ps 5 s->q s.d)
def tq :aY:=vS Yp
theorem Yq{k:Nat}(h:aE K mg "_law_arg" pN ["cell","params"])(k8:ay P w K mg base k "_law_path" ["cell","params"] AD):ay P w K mg base (k+1) "_law_arg" ["cell","params"] tq:=show _ by
 refine h.val Xg (by rintro ds q ⟨_,_,e,_⟩;rw[e];rfl) λf cdv A outer s0 H E ds q hr hA=>?_;obtain⟨cell,ps,rfl,l1,l4,hq⟩:=hA;refine⟨_,(aq (bN (aX bP dn (aD bK aN (aa 0) aj) aj (aV _)) (aB (aS (bM (ae bh ai)))) bj)
 (aq (bN (aX bP dn (aD bK aN (aa 0) aj) aj (aV _)) (aB (aS (bM (ae bh (ae (aJ k8 hr rfl (ae (aD cN aN (aa 0) aj) (ae (aa 1) ai))) (ae (aJ k8 hr rfl (ae (aD cN aN (aa 0) aj) (ae (aa 1) ai))) ai)))))) bj)
 (aB (aS (aJ k8 hr rfl (ae (aD cN aN (aa 0) aj) (ae (aa 1) ai))))))),?_⟩
 by_cases h0:cell%9=0
 ·nofun;exact hq .b6 ⟨λ_=>trivial,by simp[Sy.deep],by simp[Sy.sends,Sy.pre],by simp[Sy.pre]⟩
 by_cases h1:cell%9=1
 ·nofun;refine⟨_,ps,rfl,l1,l4,λa ha=>?_⟩;nofun;refine⟨_,ps,rfl,l1,l4,λb hb=>?_⟩;nofun;exact hq (.pair a b) (ha.pair hb)
 ·nofun;refine⟨_,ps,rfl,l1,l4,λa ha=>?_⟩;nofun;exact hq a (ha.mono (by decide))
structure nM(ar:Str->Option Nat)(ps:List Str)(x:Str)(as:List Sy):Prop where
 ar:ar x=some as.length
 l1:1<=as.length
 l4:as.length<=4
 plain:∀a∈as,Plain ps 5 a
inductive Yr (ds:List D)(S:ah)(q:D->Addr->O->Prop):Prop where
 |mk (ns:List Int) (sp nm ct:Addr) (i:Int) (rest:List D) (names ps:List Str) (counts:List Nat) (_:ds=[.bD (ns.map D.int),.ref sp,.ref nm,.ref ct,.tup (ps.map D.str)]) (_:S sp=some (.lst (.int i::rest))) (_:S nm=some (.lst (names.map D.str))) (_:S ct=some (.lst (cD counts))) (_:sp≠nm) (_:sp≠ct) (_:0<=i) (_:1<=ps.length) (_:ps.length<=4) (_:1<=names.length) (_:names.Nodup) (_:names.length=counts.length) (_:(∀c∈counts,1<=c/\c<=4)) (_:∀(x:Str) (as:List Sy) (i2:Int),nM (dq names counts) ps x as->0<=i2->q (Sy.send x as).d sp (.lst (.int i2::rest)))
def tu :aY:=kH Yr
theorem Ys{k:Nat}(h:aE K mg "_law_send" nE ["script","spot","names","counts","params"])(G:Gs K mg)(eE:ay P w K mg base k "_law_next" ["script","spot"] p6)(iK:ay P w K mg base k "_law_arg" ["cell","params"] tq) :
 ay P w K mg base (k+1) "_law_send" ["script","spot","names","counts","params"] tu:=show _ by
 refine h.kH Js (by rintro ds S q ⟨_,_,_,_,_,_,_,_,_,e,_⟩;rw[e];rfl) λf cdv A outer s0 H E ds S q hr hA=>?_;obtain⟨ns,sp,nm,ct,i,rest,names,ps,counts,rfl,hsp,hnm,hct,n1,n2,hi,l1,l4,m1,nd,j6,hc4,hq⟩:=hA;refine⟨_,(aq (aI (i:=5) Js.nd rfl (Or.inl rfl) (aD bK aN (aJ eE hr rfl (ae (aa 0) (ae (aa 1) ai))) (b9 dG dI rfl G.len dD (ae (aa 2) ai))))
 (aB (aS (bM (ae bh (ae (aA cV c8 (aa 2) (aa 5) (λ_ _=>rfl)) (ae (cZ fA fF rfl G.tuple fw (ae (h_ (bQ:=av nE) (N:=["script","spot","names","counts","params","to"]) (M:=["script","spot","params"]) (js:=[0,1,4]) ⟨rfl,by cbv,by cbv,by cbv,by cbv,by cbv⟩ (by cbv) (by cbv) rfl (fX rfl G.range (ae (aA cV c8 (aa 3) (aa 5) (λ_ _=>rfl)) ai)) (λ_ _ _ _ _=>dU) (λ_ _ _ _ _=>(aJ iK hr rfl (ae (aJ eE hr rfl (ae (aa 1) (ae (aa 2) ai))) (ae (aa 3) ai))))) ai)) ai))))))),?_⟩
 have hnl:(0:Int)<((names.map D.str).length:Int):=by rw[az];lia
 have g_:∀o,up S sp o nm=some (.lst (names.map D.str)):=λo=>by rw[a9 (bE n1)];exact hnm
 have tw:∀o,up S sp o ct=some (.lst (cD counts)):=λo=>by rw[a9 (bE n2)];exact hct
 nofun;refine⟨ns,sp,i,rest,rfl,hsp,hi,?_⟩;have jf:=g_ (.lst (.int (i+1)::rest));have wG:=tw (.lst (.int (i+1)::rest));obtain⟨jt,vt,AE,tx,hat⟩:=jS (f:=D.str) (cellAt ns i) (show 0<names.length by lia);have AF:jt<counts.length:=by rw[<-j6];exact(bO.mp tx).1
 obtain⟨cn,hcn⟩:∃cn,counts[jt]?=some cn:=⟨_,aU AF⟩;have AG:=hc4 cn (bS hcn);have har:dq names counts vt=some cn:=vH nd tx hcn;nofun;refine de jf hat ?_;nofun;refine de wG (d:=.int cn) (by rw[AE];refine gA ?_;rw[aK,hcn];rfl) ?_;nofun;refine⟨λj ys S'=>∃as:List Sy,ys=as.map Sy.d/\as.length=j/\j<=cn/\(∀a∈as,Plain ps 5 a)/\S'=up S sp (.lst (.int (i+1+j)::rest)),⟨[],rfl,rfl,eO _,by simp,by simp⟩,?_,?_,?_⟩
 ·rintro j ys S' ⟨as,rfl,hl,hj,_,rfl⟩;exact⟨trivial,by rw[az];exact eU (by lia)⟩
 ·rintro j d ys S' hd ⟨as,rfl,hl,hj,hpl,rfl⟩;obtain⟨hj',rfl⟩:=fj hd;refine vQ (vR ?_);rw[if_pos rfl];nofun;refine⟨ns,sp,i+1+j,rest,rfl,ao,by lia,?_⟩;nofun;refine⟨_,ps,rfl,l1,l4,λa ha=>?_⟩;refine⟨as++[a],by simp,by simp[hl],by lia,λb hb=>?_,?_⟩
  ·rcases bF.mp hb with hb|hb
   ·exact hpl b hb
   ·rw[cz.mp hb];exact ha
  ·rw[yT];have:i+1+(j:Int)+1=i+1+((j+1:Nat):Int):=by lia
   rw[this]
 rintro ys S' ⟨as,rfl,hl,hj,hpl,rfl⟩;rw[dE,fb]at hl;intro p1 hp1;nofun;have e:D.tup [.str "send",.str vt,.tup (as.map Sy.d)]=(Sy.send vt as).d:=by simp only[Sy.d,Sy.kK]
 rw[e];exact⟨sp,_,((Px.refl sp S).at.new hp1).sub (au ao hp1),hq vt as _ ⟨by rw[hl];exact har,by lia,by lia,hpl⟩ (by lia)⟩
structure Bd(ar:Str->Option Nat)(ps:List Str)(n m z:Nat)(s:Sy):Prop where
 wf:s.wf ar ps
 deep:s.deep<=n
 sends:s.sends<=m
 size:s.pre.length<=z
theorem Plain.bd{ar:Str->Option Nat}{ps:List Str}{n:Nat}{s:Sy}(h:Plain ps n s):Bd ar ps n 0 (2^n) s:=⟨h.wf ar,h.deep,by rw[h.sends];exact a8 _,by have:=h.size;lia⟩
theorem Bd.mono{ar:Str->Option Nat}{ps:List Str}{n m z n' m' z':Nat}{s:Sy}(h:Bd ar ps n m z s)(h1:n<=n')(h2:m<=m')(h3:z<=z'):Bd ar ps n' m' z' s:=⟨h.wf,b5 h.deep h1,b5 h.sends h2,b5 h.size h3⟩
theorem Bd.pair{ar:Str->Option Nat}{ps:List Str}{n m z m' z':Nat}{s t:Sy}(h:Bd ar ps n m z s)(h':Bd ar ps n m' z' t):Bd ar ps (n+1) (m+m') (1+z+z') (.pair s t) :=
 ⟨⟨h.wf,h'.wf⟩,by have:=h.deep;have:=h'.deep;simp only[Sy.deep];lia,by have:=h.sends;have:=h'.sends;rw[Sy.nc];simp only[Sy.parts,Sy.kL];simp[Sy.eB,Sy.bV];lia,
  by have:=h.size;have:=h'.size;rw[nK];simp only[Sy.parts,my];simp[Sy.bV];lia⟩
theorem Bd.fork{ar:Str->Option Nat}{ps:List Str}{n m z m' z' m2 z2:Nat}{s t u:Sy}(h:Bd ar ps n m z s)(h':Bd ar ps n m' z' t)(h2:Bd ar ps n m2 z2 u):Bd ar ps (n+1) (m+m'+m2) (1+z+z'+z2) (.fork s t u) :=
 ⟨⟨h.wf,h'.wf,h2.wf⟩,by have:=h.deep;have:=h'.deep;have:=h2.deep;simp only[Sy.deep];lia,by have:=h.sends;have:=h'.sends;have:=h2.sends;rw[Sy.nc];simp only[Sy.parts,Sy.kL];simp[Sy.eB,Sy.bV];lia,
  by have:=h.size;have:=h'.size;have:=h2.size;rw[nK];simp only[Sy.parts,my];simp[Sy.bV];lia⟩
theorem AH{ps:List Str}:∀{as:List Sy},(∀a∈as,Plain ps 5 a)->Sy.eB as=0/\(Sy.bV as).length<=31*as.length
 |[],_=>by simp[Sy.eB,Sy.bV]
 |a::as,h=>by
  have h1:=h a cF;have h2:=AH (as:=as) λb hb=>h b (cL _ hb);have:=h1.sends;have:=h1.size;rw[Sy.kL,my,cK];lia
theorem nM.bd{ar:Str->Option Nat}{ps:List Str}{x:Str}{as:List Sy}(h:nM ar ps x as):Bd ar ps 6 1 125 (.send x as):=show _ by
 obtain⟨h1,h2⟩:=AH h.plain;have:=h.l4;refine⟨⟨h.ar,h.l1,h.l4,Sy.zt.mpr λa ha=>(h.plain a ha).wf ar⟩,?_,?_,?_⟩
 ·have:=Sy.m_ (as:=as) (n:=5) λa ha=>(h.plain a ha).deep;simp only[Sy.deep];lia
 ·rw[Sy.nc];simp only[Sy.parts];lia
 ·rw[nK];simp only[Sy.parts];lia
theorem nM.put{ar:Str->Option Nat}{ps:List Str}{x:Str}{as:List Sy}{n m z:Nat}(h:nM ar ps x as)(hn:5<=n)(bs:List Sy)(hb:∀b∈bs,b.wf ar ps/\b.deep<=n)(hs:Sy.eB bs<=m)(hz:(Sy.bV bs).length<=z)(hl:bs.length<=as.length)(h1:1<=bs.length) :
 Bd ar ps (n+1) (m+1) (1+z+124) (.send x (bs++as.drop bs.length)):=show _ by
 have hp:∀a∈as.drop bs.length,Plain ps 5 a:=λa ha=>h.plain a (Dg ha);obtain⟨e1,e2⟩:=AH hp;have:=h.l4;have hlen:(bs++as.drop bs.length).length=as.length:=by rw[bx,fL];lia
 have hall:∀a∈bs++as.drop bs.length,a.wf ar ps/\a.deep<=n:=λa ha=>by
  rcases bF.mp ha with ha|ha
  ·exact hb a ha
  ·exact⟨(hp a ha).wf ar,b5 (hp a ha).deep hn⟩
 rw[fL]at e2;refine⟨⟨by rw[hlen];exact h.ar,by rw[hlen];exact h.l1,by rw[hlen];exact h.l4,Sy.zt.mpr λa ha=>(hall a ha).1⟩,?_,?_,?_⟩
 ·have:=Sy.m_ (as:=bs++as.drop bs.length) (n:=n) λa ha=>(hall a ha).2;simp only[Sy.deep];lia
 ·rw[Sy.nc];simp only[Sy.parts,Sy.TM];lia
 ·rw[nK];simp only[Sy.parts,Sy.zr,bx];lia
inductive Yt (ds:List D)(S:ah)(q:D->Addr->O->Prop):Prop where
 |mk (ns:List Int) (sp nm ct:Addr) (i:Int) (rest:List D) (names ps:List Str) (counts:List Nat) (_:ds=[.bD (ns.map D.int),.ref sp,.ref nm,.ref ct,.tup (ps.map D.str)]) (_:S sp=some (.lst (.int i::rest))) (_:S nm=some (.lst (names.map D.str))) (_:S ct=some (.lst (cD counts))) (_:sp≠nm) (_:sp≠ct) (_:0<=i) (_:1<=ps.length) (_:ps.length<=4) (_:1<=names.length) (_:names.Nodup) (_:names.length=counts.length) (_:(∀c∈counts,1<=c/\c<=4)) (_:∀(s:Sy) (i2:Int),Bd (dq names counts) ps 12 6 1500 s->0<=i2->q s.d sp (.lst (.int i2::rest)))
def JT :aY:=kH Yt
theorem Yu{k:Nat}(h:aE K mg "_law_body" pO ["script","spot","names","counts","params"])(G:Gs K mg)(eE:ay P w K mg base k "_law_next" ["script","spot"] p6)(iK:ay P w K mg base k "_law_arg" ["cell","params"] tq)
 (k8:ay P w K mg base k "_law_path" ["cell","params"] AD) (nN:ay P w K mg base k "_law_send" ["script","spot","names","counts","params"] tu) :
 ay P w K mg base (k+1) "_law_body" ["script","spot","names","counts","params"] JT:=show _ by
 refine h.kH jq (by rintro ds S q ⟨_,_,_,_,_,_,_,_,_,e,_⟩;rw[e];rfl) λf cdv A outer s0 H E ds S q hr hA=>?_;obtain⟨ns,sp,nm,ct,i,rest,names,ps,counts,rfl,hsp,hnm,hct,n1,n2,hi,l1,l4,m1,nd,j6,hc4,hq⟩:=hA;refine⟨_,(aq (aI (i:=5) jq.nd rfl (Or.inl rfl) (aJ eE hr rfl (ae (aa 0) (ae (aa 1) ai))))
 (aq (aI (i:=6) jq.nd rfl (Or.inl rfl) (aJ nN hr rfl (ae (aa 0) (ae (aa 1) (ae (aa 2) (ae (aa 3) (ae (aa 4) ai)))))))
 (aq (jh (aX bP dn (aD bK aN (aa 5) aj) aj (aV _)) (aB (aI (i:=6) jq.nd rfl (Or.inl rfl) (bM (ae bh (ae (aa 6) (ae (aJ k8 hr rfl (ae (aD cN aN (aa 5) aj) (ae (aa 4) ai))) ai)))))) bj)
 (aq (jh (aX bP dn (aD bK aN (aa 5) aj) aj (aV _)) (aq (aI (i:=7) jq.nd rfl (Or.inl rfl) (aJ nN hr rfl (ae (aa 0) (ae (aa 1) (ae (aa 2) (ae (aa 3) (ae (aa 4) ai)))))))
 (aq (aI (i:=8) jq.nd rfl (Or.inl rfl) (aD yE F8 (bM (ae (aa 6) ai)) (eK vd ve (aA aG aH (aa 7) aj (λ_ _=>rfl)) (eJ aj) eI)))
 (aq (jh (cH.pt (w_and (aX bP dn (aD bK aN (aD cN aN (aa 5) aj) aj) aj (aV _)) (gD (aX yt gG (b9 dG dI rfl G.len dD (ae (aa 8) ai)) aj (aV _))))) (aB (aI (i:=8) jq.nd rfl (Or.inl rfl) (aD yE F8 (bM (ae (aa 6) (ae (aJ nN hr rfl (ae (aa 0) (ae (aa 1) (ae (aa 2) (ae (aa 3) (ae (aa 4) ai)))))) ai))) (eK vd ve (aa 8) (eJ aj) eI)))) bj)
 (aB (aI (i:=6) jq.nd rfl (Or.inl rfl) (bM (ae bh (ae (aA aG aH (aa 7) aj (λ_ _=>rfl)) (ae (aa 8) ai))))))))) bj)
 (aq (jh (aX bP dn (aD bK aN (aa 5) aj) aj (aV _)) (aB (aI (i:=6) jq.nd rfl (Or.inl rfl) (bM (ae bh (ae (aa 6) (ae (aJ nN hr rfl (ae (aa 0) (ae (aa 1) (ae (aa 2) (ae (aa 3) (ae (aa 4) ai)))))) ai)))))) bj)
 (aq (aI (i:=9) jq.nd rfl (Or.inl rfl) (aJ iK hr rfl (ae (aD cN aN (aa 5) aj) (ae (aa 4) ai))))
 (aq (jh (aX bP dn (aD bK aN (aD cN aN (aa 5) aj) aj) aj (aV _)) (aB (aI (i:=9) jq.nd rfl (Or.inl rfl) (aJ nN hr rfl (ae (aa 0) (ae (aa 1) (ae (aa 2) (ae (aa 3) (ae (aa 4) ai)))))))) bj)
 (aq (jh (aX bP dn (aD bK aN (aD cN aN (aa 5) aj) aj) aj (aV _)) (aB (aS (aa 6))) bj)
 (aB (aS (bM (ae bh (ae (aJ k8 hr rfl (ae (aJ eE hr rfl (ae (aa 0) (ae (aa 1) ai))) (ae (aa 4) ai))) (ae (aa 6) (ae (aa 9) ai))))))))))))))),?_⟩
 have g_:∀o,up S sp o nm=some (.lst (names.map D.str)):=λo=>by rw[a9 (bE n1)];exact hnm
 have tw:∀o,up S sp o ct=some (.lst (cD counts)):=λo=>by rw[a9 (bE n2)];exact hct
 have fin:∀(s:Sy) (i2:Int),Bd (dq names counts) ps 12 6 1500 s->0<=i2->∃a o,Sub (up S a o) (up S sp (.lst (.int i2::rest)))/\q s.d a o:=λs i2 h1 h2=>⟨sp,_,Sub.refl _,hq s i2 h1 h2⟩;have snd:∀(i1:Int) (Q:K3),0<=i1->(∀(x:Str) (as:List Sy) (i2:Int),nM (dq names counts) ps x as->0<=i2->Q (Sy.send x as).d (up S sp (.lst (.int i2::rest)))) ->
  tu [.bD (ns.map D.int),.ref sp,.ref nm,.ref ct,.tup (ps.map D.str)] (up S sp (.lst (.int i1::rest))) Q (λ_ _ _=>False):=λi1 Q h1 h2 =>
  ⟨ns,sp,nm,ct,i1,rest,names,ps,counts,rfl,ao,g_ _,tw _,n1,n2,h1,l1,l4,m1,nd,j6,hc4,λx as i2 ho hi2=>by
   show Q _ (up (up S sp _) sp _);rw[yT];exact h2 x as i2 ho hi2⟩
 nofun;refine⟨ns,sp,i,rest,rfl,hsp,hi,?_⟩;generalize cellAt ns i=shape;nofun;refine snd _ _ (by lia) λx0 as0 i0 JU hi0=>?_;nofun;refine iE (λσ T=>∃(s:Sy),σ=[some (.bD (ns.map D.int)),some (.ref sp),some (.ref nm),some (.ref ct),some (.tup (ps.map D.str)),some (.int shape),some s.d,none,none,none]/\T=up S sp (.lst (.int i0::rest))/\Bd (dq names counts) ps 7 1 200 s) ?_ ?_
 ·intro n' hn';by_cases c1:shape%4=1
  ·nofun;refine⟨_,ps,rfl,l1,l4,λp hp=>?_⟩;nofun;exact hn' _ _ ⟨.pair (.send x0 as0) p,rfl,rfl,(JU.bd.pair (hp.bd.mono (n':=6) (by decide) (a8 _) (a8 _))).mono (by decide) (by decide) (by decide)⟩
  ·nofun;exact hn' _ _ ⟨.send x0 as0,rfl,rfl,JU.bd.mono (by decide) (by decide) (by decide)⟩
 rintro σ T ⟨s,rfl,rfl,hs⟩;nofun;refine iE (λσ T=>j5 λ(s:Sy) (x7 x8:Option D) (i1:Int)=>σ=[some (.bD (ns.map D.int)),some (.ref sp),some (.ref nm),some (.ref ct),some (.tup (ps.map D.str)),some (.int shape),some s.d,x7,x8,none]/\0<=i1/\T=up S sp (.lst (.int i1::rest))/\Bd (dq names counts) ps 8 3 600 s) ?_ ?_
 ·intro n' hn';by_cases c1:shape%4=2
  ·nofun;refine snd _ _ (by lia) λx1 as1 i1 ho1 hi1=>?_;simp only[Sy.d,Sy.kK];have hl1:=ho1.l1;have Hn:=ho1.l4;nofun;rw[oU (by decide)];refine Gj (by simp) (c9 (by simp;lia)) ?_;nofun;have er:[s.d]++(as1.map Sy.d).drop (jA 1)=([s]++as1.drop [s].length).map Sy.d:=by simp
   rw[er];refine iE (λσ T=>ib λ(bs:List Sy) (i2:Int)=>σ=[some (.bD (ns.map D.int)),some (.ref sp),some (.ref nm),some (.ref ct),some (.tup (ps.map D.str)),some (.int shape),some s.d,some (.tup [.str "send",.str x1,.tup (as1.map Sy.d)]),some (.tup ((bs++as1.drop bs.length).map Sy.d)),none] /\
    0<=i2/\T=up S sp (.lst (.int i2::rest))/\(∀b∈bs,b.wf (dq names counts) ps/\b.deep<=7)/\Sy.eB bs<=2/\(Sy.bV bs).length<=325/\bs.length<=as1.length/\1<=bs.length) ?_ ?_
   ·intro n2 hn2;have one:Sy.eB [s]<=1/\(Sy.bV [s]).length<=200:=by
     have:=hs.sends;have:=hs.size;rw[Sy.kL,my];simp[Sy.eB,Sy.bV];lia
    have stay:n2 [some (.bD (ns.map D.int)),some (.ref sp),some (.ref nm),some (.ref ct),some (.tup (ps.map D.str)),some (.int shape),some s.d,some (.tup [.str "send",.str x1,.tup (as1.map Sy.d)]),some (.tup (([s]++as1.drop [s].length).map Sy.d)),none] (up S sp (.lst (.int i1::rest))) :=
     hn2 _ _ ⟨[s],i1,rfl,hi1,rfl,λb hb=>by rw[cz.mp hb];exact⟨hs.wf,hs.deep⟩,by lia,by lia,by simpa using hl1,by simp⟩
    have agG:((([s]++as1.drop [s].length).map Sy.d).length:Int)=(as1.length:Int):=by
     rw[az,bx,fL];simp;lia
    by_cases c2:shape/20%3=1
    ·by_cases c3:(1:Int)<(as1.length:Int)
     ·nofun;refine snd _ _ (by lia) λx2 as2 i2 ho2 hi2=>?_;nofun;rw[oU (by decide)];refine Gj (by simp) (c9 (by simp;lia)) ?_;have e2:[s.d,(Sy.send x2 as2).d]++(([s]++as1.drop [s].length).map Sy.d).drop (jA 2)=([s,.send x2 as2]++as1.drop [s,.send x2 as2].length).map Sy.d:=by simp
      rw[e2];have b2:=ho2.bd;refine hn2 _ _ ⟨[s,.send x2 as2],i2,rfl,hi2,rfl,λb hb=>?_,?_,?_,?_,by simp⟩
      ·simp only[br,cG,or_false]at hb;rcases hb with rfl|rfl
       ·exact⟨hs.wf,hs.deep⟩
       ·exact⟨b2.wf,b5 b2.deep (by decide)⟩
      ·have:=hs.sends;have:=b2.sends;rw[Sy.kL,Sy.kL];simp[Sy.eB,Sy.bV];lia
      ·have:=hs.size;have:=b2.size;rw[my,my];simp[Sy.bV];lia
      ·simp;lia
     ·nofun;exact stay
    ·nofun;exact stay
   rintro σ T ⟨bs,i2,rfl,hi2,rfl,hb1,hb2,hb3,hb4,Yv⟩;nofun;refine hn' _ _ ⟨.send x1 (bs++as1.drop bs.length),_,_,i2,by simp only[Sy.d,Sy.kK];rfl,hi2,rfl,(ho1.put (by decide) bs hb1 hb2 hb3 hb4 Yv).mono (by decide) (by decide) (by decide)⟩
  ·nofun;exact hn' _ _ ⟨s,none,none,i0,rfl,hi0,rfl,hs.mono (by decide) (by decide) (by decide)⟩
 rintro σ T ⟨s,x7,x8,i1,rfl,hi1,rfl,hs⟩;nofun;refine iE (λσ T=>ib λ(s:Sy) (i2:Int)=>σ=[some (.bD (ns.map D.int)),some (.ref sp),some (.ref nm),some (.ref ct),some (.tup (ps.map D.str)),some (.int shape),some s.d,x7,x8,none]/\0<=i2/\T=up S sp (.lst (.int i2::rest))/\Bd (dq names counts) ps 9 4 800 s) ?_ ?_
 ·intro n' hn';by_cases c1:shape%4=3
  ·nofun;refine snd _ _ (by lia) λx2 as2 i2 ho2 hi2=>?_;nofun;exact hn' _ _ ⟨.pair s (.send x2 as2),i2,rfl,hi2,rfl,(hs.pair (ho2.bd.mono (n':=8) (by decide) (a8 _) (a8 _))).mono (by decide) (by decide) (by decide)⟩
  ·nofun;exact hn' _ _ ⟨s,i1,rfl,hi1,rfl,hs.mono (by decide) (by decide) (by decide)⟩
 rintro σ T ⟨s,i2,rfl,hi2,rfl,hs⟩;nofun;refine⟨_,ps,rfl,l1,l4,λa ha=>?_⟩;nofun;refine iE (λσ T=>ib λ(t:Sy) (i3:Int)=>σ=[some (.bD (ns.map D.int)),some (.ref sp),some (.ref nm),some (.ref ct),some (.tup (ps.map D.str)),some (.int shape),some s.d,x7,x8,some t.d]/\0<=i3/\T=up S sp (.lst (.int i3::rest))/\Bd (dq names counts) ps 9 1 125 t) ?_ ?_
 ·intro n' hn';by_cases c1:shape/4%5=1
  ·nofun;refine snd _ _ (by lia) λx2 as2 i3 ho2 k9=>?_;nofun;exact hn' _ _ ⟨.send x2 as2,i3,rfl,k9,rfl,ho2.bd.mono (by decide) (by decide) (by decide)⟩
  ·nofun;exact hn' _ _ ⟨a,i2,rfl,hi2,rfl,ha.bd.mono (by decide) (by decide) (by decide)⟩
 rintro σ T ⟨t,i3,rfl,k9,rfl,ht⟩;nofun;refine iE (λσ T=>σ=[some (.bD (ns.map D.int)),some (.ref sp),some (.ref nm),some (.ref ct),some (.tup (ps.map D.str)),some (.int shape),some s.d,x7,x8,some t.d]/\T=up S sp (.lst (.int i3::rest))) ?_ ?_
 ·intro n' hn';by_cases c1:shape/4%5=2
  ·nofun;exact fin s i3 (hs.mono (by decide) (by decide) (by decide)) k9
  ·nofun;exact hn' _ _ ⟨rfl,rfl⟩
 rintro σ T ⟨rfl,rfl⟩;nofun;refine⟨ns,sp,i3,rest,rfl,ao,k9,?_⟩;nofun;refine⟨_,ps,rfl,l1,l4,λp hp=>?_⟩;nofun;rw[yT];exact fin (.fork p s t) _ (((hp.bd.mono (n':=9) (by decide) (a8 _) (a8 _)).fork hs ht).mono (by decide) (by decide) (by decide)) (by lia)
structure Pg(prog:List Er):Prop where
 Yw:1<=prog.length
 len:prog.length<=12
 nd:(prog.map Er.name).Nodup
 nm:∀e∈prog,eV e.name
 ps:∀e∈prog,1<=e.ps.length/\e.ps.length<=4/\e.ps.Nodup/\∀x∈e.ps,eV x
 body:∀e∈prog,Bd (aR prog) e.ps 12 12 5000 e.body
structure JV(ar:Str->Option Nat)(e:Er):Prop where
 l1:1<=e.ps.length
 l4:e.ps.length<=4
 nd:e.ps.Nodup
 ok:∀x∈e.ps,eV x
 bd:Bd ar e.ps 12 6 1500 e.body
inductive Yx (ds:List D)(S:ah)(q:List D->Addr->O->Prop):Prop where
 |mk (ns:List Int) (sp:Addr) (i most:Int) (rest:List D) (_:ds=[.bD (ns.map D.int),.ref sp,.int most]) (_:S sp=some (.lst (.int i::rest))) (_:0<=i) (_:1<=most) (_:most<=12) (_:∀(prog:List Er) (i2:Int),Pg prog->prog.length<=most.toNat->0<=i2->q (prog.map Er.d) sp (.lst (.int i2::rest)))
def wH :aY:=mZ Yx
theorem Yy{k:Nat}(h:aE K mg "_law_program" nF ["script","spot","most"])(G:Gs K mg)(eE:ay P w K mg base k "_law_next" ["script","spot"] p6)(mB:ay P w K mg base k "_law_names" ["cell","many"] Aw)
 (AI:ay P w K mg base k "_law_body" ["script","spot","names","counts","params"] JT):ay P w K mg base (k+1) "_law_program" ["script","spot","most"] wH:=show _ by
 refine h.mZ kX (by rintro ds S q ⟨_,_,_,_,_,e,_⟩;rw[e];rfl) λf cdv A outer s H E ds S q hr hA=>?_;obtain⟨ns,sp,i,most,rest,rfl,hsp,hi,m1,AJ,hq⟩:=hA;refine⟨_,(aq (aI (i:=3) kX.nd rfl (Or.inr rfl) (aJ eE hr rfl (ae (aa 0) (ae (aa 1) ai))))
 (aq (aI (i:=4) kX.nd rfl (Or.inl rfl) (aD gS fY aj (aD bK aN (aa 3) (aa 2))))
 (aq (aI (i:=5) kX.nd rfl (Or.inl rfl) (aJ mB hr rfl (ae (aD bK aN (aD cN aN (aa 3) (aa 2)) (aD qT aN aj aj)) (ae (aa 4) ai))))
 (aq (aI (i:=6) kX.nd rfl (Or.inl rfl) (aJ mB hr rfl (ae (aD bK aN (aJ eE hr rfl (ae (aa 0) (ae (aa 1) ai))) (aD qT aN aj aj)) (ae aj ai))))
 (aq (kS (i:=7) (bQ:=av nF) (N:=["script","spot","most","head","many","names","params","counts","program","k","mine"]) (M:=["head"]) (js:=[3]) ⟨rfl,by cbv,by cbv,by cbv,by cbv,by cbv⟩ (by cbv) (by cbv) rfl (fX rfl G.range (ae (aa 4) ai)) (λ_ _ _ _ _=>dU) (λ_ _ _ _ _=>(aA cV c8 (dA (ae aj (ae aj (ae aj (ae aj (ae aj ai)))))) (aD bK aN (aD cN aN (aa 1) (aD yo aN aj (aD gS fY (aa 0) aj))) aj) (λ_ _=>rfl))) kX.nd rfl rfl)
 (aq (aI (i:=8) kX.nd rfl (Or.inl rfl) (dA ai))
 (aq (c7 dk rfl (fX rfl G.range (ae (aa 4) ai)) (ck (i:=9) kX.nd rfl (Or.inl rfl)) (aq (aI (i:=10) kX.nd rfl (Or.inl rfl) (cZ fA fF rfl G.tuple fw (ae (eK jI jP (aD oo oI (eK jI jP (aa 6) (eJ (aD bK aN (aa 9) aj)) eI) (eK jI jP (aa 6) eI (eJ (aD bK aN (aa 9) aj)))) eI (eJ (aA cV c8 (aa 7) (aa 9) (λ_ _=>rfl)))) ai)))
 (aB (dY (eh d6 fN gh fB fZ (aa 8) (ae (bM (ae (aA cV c8 (aa 5) (aa 9) (λ_ _=>rfl)) (ae (aa 10) (ae (aJ AI hr rfl (ae (aa 0) (ae (aa 1) (ae (aa 5) (ae (aa 7) (ae (aa 10) ai)))))) ai)))) ai))))))
 (aB (aS (aa 8)))))))))),?_⟩
 nofun;refine⟨ns,sp,i,rest,rfl,hsp,hi,?_⟩;generalize cellAt ns i=head;have hm0:=fc head (show most≠0 by lia);have hm1:=n_ head (show 0<most by lia);have Yz:(0:Int)<10^(jA 14):=by decide
 nofun;refine⟨_,_,rfl,fc _ (by decide),by lia,by lia,λnames Rn=>?_⟩;intro nm hnm;have n1:sp≠nm:=ne3 ao hnm;nofun;refine⟨ns,sp,i+1,rest,rfl,au ao hnm,by lia,?_⟩;generalize cellAt ns (i+1)=c2;nofun;refine⟨_,4,rfl,fc _ (by decide),by lia,by lia,λpp Rp=>?_⟩;intro pm hpm;nofun;generalize AK:1+head%most=many;have YA:1<=many:=by lia
 have h12:many<=most:=by lia
 obtain⟨cnt,tz⟩:∃cnt:Nat->Nat,∀k:Nat,cy [D.int 2,.int 1,.int 2,.int 2,.int 3] (head/(7*(0+(k:Int)+1))%5)=some (.int (cnt k:Int))/\1<=cnt k/\cnt k<=4:=by
  have:∀k:Nat,∃c:Nat,cy [D.int 2,.int 1,.int 2,.int 2,.int 3] (head/(7*(0+(k:Int)+1))%5)=some (.int (c:Int))/\1<=c/\c<=4:=λk=>by
   generalize head/(7*(0+(k:Int)+1))=x;have h5:x%5=0∨x%5=1∨x%5=2∨x%5=3∨x%5=4:=by lia
   rcases h5 with e|e|e|e|e
   ·exact⟨2,by rw[e];rfl,by decide,by decide⟩
   ·exact⟨1,by rw[e];rfl,by decide,by decide⟩
   ·exact⟨2,by rw[e];rfl,by decide,by decide⟩
   ·exact⟨2,by rw[e];rfl,by decide,by decide⟩
   ·exact⟨3,by rw[e];rfl,by decide,by decide⟩
  exact⟨λk=>(this k).choose,λk=>(this k).choose_spec⟩
 have bB:=au (o:=.lst (pp.map D.str)) (ao (S:=up (up S sp (.lst (.int (i+1)::rest))) nm (.lst (names.map D.str))) (a:=sp) (o:=.lst (.int (i+1+1)::rest))) hpm;have bw:up (up (up (up S sp (.lst (.int (i+1)::rest))) nm (.lst (names.map D.str))) sp (.lst (.int (i+1+1)::rest))) pm (.lst (pp.map D.str)) nm=some (.lst (names.map D.str)) :=
  au (by rw[a9 (bE n1)];exact ao) hpm
 have b7:up (up (up (up S sp (.lst (.int (i+1)::rest))) nm (.lst (names.map D.str))) sp (.lst (.int (i+1+1)::rest))) pm (.lst (pp.map D.str)) pm=some (.lst (pp.map D.str)):=ao;have bH:Px sp S (up (up (up (up S sp (.lst (.int (i+1)::rest))) nm (.lst (names.map D.str))) sp (.lst (.int (i+1+1)::rest))) pm (.lst (pp.map D.str))):=((Px.refl sp S).at.new hnm).at.new hpm;have tD:sp≠pm:=ne3 ao hpm;generalize up (up (up (up S sp (.lst (.int (i+1)::rest))) nm (.lst (names.map D.str))) sp (.lst (.int (i+1+1)::rest))) pm (.lst (pp.map D.str))=S4 at bB bw b7 bH ⊢;refine Ja (λk=>.int (cnt k)) (by rw[dE];lia) (λ_ _=>trivial) ?_ ?_
 ·intro j d S' hd hs' P hP;obtain⟨hj,rfl⟩:=fj hd;nofun;intro p1 hp1;nofun;refine de ao (tz j).1 ?_;exact hP _ ((Sub.refl S').up hp1)
 intro S5 k_;replace bB:=k_ _ _ bB;replace bw:=k_ _ _ bw;replace b7:=k_ _ _ b7;replace bH:=bH.ext k_;rw[dE];obtain⟨counts,nO⟩:∃counts,counts=(aZ many.toNat).map cnt:=⟨_,rfl⟩;have AL:((aZ many.toNat).map λk=>D.int (cnt k:Int))=cD counts:=by rw[nO,cD,dC];rfl
 rw[AL];have hc4:∀c∈counts,1<=c/\c<=4:=λc hc=>by
  rw[nO]at hc;obtain⟨k,_,rfl⟩:=bG.mp hc;exact(tz k).2
 have j6:counts.length=many.toNat:=by rw[nO];simp
 intro ct hct;nofun;intro pr hpr;have hnl:=Rn.len;rw[AK]at Rn hnl;have nP:sp≠nm:=n1;have nQ:sp≠ct:=ne3 bB hct;have ic:sp≠pr:=ne3 (au bB hct) hpr;have tE:nm≠pr:=ne3 (au bw hct) hpr;have AM:pm≠pr:=ne3 (au b7 hct) hpr;have tF:ct≠pr:=ne3 ao hpr;have nR:S pr=none:=(bH.new hct).free hpr (bE ic);replace bB:=au (o:=.lst []) (au (o:=.lst (cD counts)) bB hct) hpr;replace bw:=au (o:=.lst []) (au (o:=.lst (cD counts)) bw hct) hpr;replace b7:=au (o:=.lst []) (au (o:=.lst (cD counts)) b7 hct) hpr;replace bH:=(bH.new (o:=.lst (cD counts)) hct).new (o:=.lst []) hpr;have bZ:up (up S5 ct (.lst (cD counts))) pr (.lst []) ct=some (.lst (cD counts)):=au ao hpr;have cf:up (up S5 ct (.lst (cD counts))) pr (.lst []) pr=some (.lst []):=ao;generalize up (up S5 ct (.lst (cD counts))) pr (.lst [])=S6 at bB bw b7 bH bZ cf ⊢;nofun;refine⟨λj σ S'=>j5 λ(aT:List Er) (i1:Int) (x10 x11:Option D)=>σ=[some (.bD (ns.map D.int)),some (.ref sp),some (.int most),some (.int head),some (.int many),some (.ref nm),some (.ref pm),some (.ref ct),some (.ref pr),x10,x11] /\
  S' sp=some (.lst (.int i1::rest))/\S' nm=some (.lst (names.map D.str))/\S' pm=some (.lst (pp.map D.str))/\S' ct=some (.lst (cD counts))/\S' pr=some (.lst (aT.map Er.d))/\Px sp S S' /\
  aT.length=j/\0<=i1/\aT.map Er.name=names.take j/\(aT.map λe=>e.ps.length)=counts.take j/\(∀e∈aT,JV (dq names counts) e),
  ⟨[],i+1+1,none,none,rfl,bB,bw,b7,bZ,cf,bH,rfl,by lia,rfl,rfl,by simp⟩,λ_ _ _ _=>trivial,?turn,?done⟩
 case turn =>
  clear bB bw b7 bZ cf bH;rintro j d σ S' hd ⟨aT,i1,x10,x11,rfl,bB,bw,b7,bZ,cf,bH,hl,hi1,en,ec,hk⟩;obtain⟨hj,rfl⟩:=fj hd;have c0:=fc (0+(j:Int)) (show(4:Int)≠0 by decide);have ap:∀{α:Type} {f:α->D} {xs:List α} {v:α},xs[j]?=some v->cy (xs.map f) (0+(j:Int))=some (f v):=λ{α f xs v} hv=>by
   have e:(0:Int)+(j:Int)=((j:Nat):Int):=by lia
   rw[e];refine gA ?_;rw[aK,hv];rfl
  obtain⟨cn,hcn⟩:∃cn,counts[j]?=some cn:=⟨_,aU (by lia)⟩;obtain⟨nj,tG⟩:∃nj,names[j]?=some nj:=⟨_,aU (by lia)⟩;have AG:=hc4 cn (bS hcn);nofun;rw[oU c0];intro p1 hp1;have g1:=au (o:=.lst ((pp.map D.str).drop ((0+(j:Int))%4).toNat)) b7 hp1;nofun;rw[kJ c0];intro p2 hp2;have hpl:=Rp.len;refine jc (au ao hp2) ao ?_ ?_
  ·rw[fL,dP,az];exact c9 (by lia)
  intro p3 hp3;nofun;refine de (au (au (au bZ hp1) hp2) hp3) (ap hcn) ?_;nofun;rw[kJ (by lia),fb];intro p4 mC;nofun;obtain⟨mine,tH⟩:∃mine,mine=(pp.drop ((0+(j:Int))%4).toNat++pp.take ((0+(j:Int))%4).toNat).take cn:=⟨_,rfl⟩;have em:((pp.map D.str).drop ((0+(j:Int))%4).toNat++(pp.map D.str).take ((0+(j:Int))%4).toNat).take cn=mine.map D.str:=by
   rw[tH,<-DB,<-lJ,<-cA,<-lJ]
  rw[em];have hmo:mine.length=cn/\mine.Nodup/\∀x∈mine,eV x:=by
   rw[tH];exact G1 Rp.turn (by show cn<=4;lia)
  have hsub:=((((Sub.refl S').up (o:=.lst ((pp.map D.str).drop ((0+(j:Int))%4).toNat)) hp1).up (o:=.lst ((pp.map D.str).take ((0+(j:Int))%4).toNat)) hp2).up
   (o:=.lst ((pp.map D.str).drop ((0+(j:Int))%4).toNat++(pp.map D.str).take ((0+(j:Int))%4).toNat)) hp3).up (o:=.lst (mine.map D.str)) mC
  generalize up (up (up (up S' p1 _) p2 _) p3 _) p4 _=S5 at hsub ⊢;replace bB:=hsub _ _ bB;replace bw:=hsub _ _ bw;replace b7:=hsub _ _ b7;replace bZ:=hsub _ _ bZ;replace cf:=hsub _ _ cf;replace bH:=bH.ext hsub;nofun;refine de bw (ap tG) ?_;nofun;refine⟨ns,sp,nm,ct,i1,rest,names,mine,counts,rfl,bB,bw,bZ,nP,nQ,hi1,by lia,by lia,by lia,Rn.nd,by lia,hc4,λs i2 hbd hi2=>?_⟩;nofun;have YB:up S5 sp (.lst (.int i2::rest)) pr=some (.lst (aT.map Er.d)):=by rw[a9 (bE ic)];exact cf
  refine fG YB (by rw[az];exact eU (by lia)) ?_;have ee:aT.map Er.d++[D.tup [D.str nj,D.tup (mine.map D.str),s.d]]=(aT++[(⟨nj,mine,s⟩:Er)]).map Er.d:=by simp[Er.d]
  rw[ee];refine⟨aT++[(⟨nj,mine,s⟩:Er)],i2,_,_,rfl,?_,?_,?_,?_,ao,(bH.at).fresh nR,by simp[hl],hi2,?_,?_,?_⟩
  ·rw[a9 ic];exact ao
  ·rw[a9 tE,a9 (bE nP)];exact bw
  ·rw[a9 AM,a9 (bE tD)];exact b7
  ·rw[a9 tF,a9 (bE nQ)];exact bZ
  ·rw[gu,tG,cA,en];rfl
  ·rw[gu,hcn,cA,ec];show counts.take j++[mine.length]=_;rw[hmo.1];rfl
  ·intro e he;rcases bF.mp he with he|he
   ·exact hk e he
   ·rw[cz.mp he];exact⟨by show 1<=mine.length;lia,by show mine.length<=4;lia,hmo.2.1,hmo.2.2,hbd⟩
 rintro σ S' ⟨aT,i1,x10,x11,rfl,bB,bw,b7,bZ,cf,bH,hl,hi1,en,ec,hk⟩;rw[dE]at hl en ec;rw[ke (by lia)]at en ec;nofun;refine⟨pr,_,sp,_,rfl,nR,by rw[hsp];simp,bH.sub bB,cf,hq aT i1 ⟨by lia,by lia,?_,λe he=>?_,λe he=>?_,λe he=>?_⟩ (by lia) hi1⟩
 ·rw[en];exact Rn.nd
 ·exact Rn.ok _ (by rw[<-en];exact iQ he)
 ·exact⟨(hk e he).l1,(hk e he).l4,(hk e he).nd,(hk e he).ok⟩
 ·rw[G0 en ec];exact(hk e he).bd.mono (by decide) (by decide) (by decide)
abbrev JW:aY:=tu
theorem YC{k:Nat}(h:aE K mg "_law_tame_send" pP ["script","spot","names","counts","params"])(G:Gs K mg)(eE:ay P w K mg base k "_law_next" ["script","spot"] p6)(iK:ay P w K mg base k "_law_arg" ["cell","params"] tq) :
 ay P w K mg base (k+1) "_law_tame_send" ["script","spot","names","counts","params"] tu:=show _ by
 refine h.kH mn (by rintro ds S q ⟨_,_,_,_,_,_,_,_,_,e,_⟩;rw[e];rfl) λf cdv A outer s0 H E ds S q hr hA=>?_;obtain⟨ns,sp,nm,ct,i,rest,names,ps,counts,rfl,hsp,hnm,hct,n1,n2,hi,l1,l4,m1,nd,j6,hc4,hq⟩:=hA;refine⟨_,(aq (aI (i:=5) mn.nd rfl (Or.inl rfl) (aD bK aN (aJ eE hr rfl (ae (aa 0) (ae (aa 1) ai))) (b9 dG dI rfl G.len dD (ae (aa 2) ai))))
 (aq (aI (i:=6) mn.nd rfl (Or.inl rfl) (dA ai))
 (aq (c7 dk rfl (fX rfl G.range (ae (aA cV c8 (aa 3) (aa 5) (λ_ _=>rfl)) ai)) (ck (i:=7) mn.nd rfl (Or.inl rfl)) (aq (aI (i:=8) mn.nd rfl (Or.inl rfl) (aJ eE hr rfl (ae (aa 0) (ae (aa 1) ai))))
 (aq (aI (i:=9) mn.nd rfl (Or.inl rfl) (aJ iK hr rfl (ae (aa 8) (ae (aa 4) ai))))
 (aq (jh (aX bP dn (aa 7) aj (aV _)) (aq (aI (i:=9) mn.nd rfl (Or.inl rfl) (bM (ae (aA cV c8 (dA (ae bh (ae bh ai))) (aD bK aN (aD cN aN (aa 8) aj) aj) (λ_ _=>rfl)) (ae (bM (ae bh (ae (aA aG aH (aa 4) aj (λ_ _=>rfl)) ai))) ai))))
 (aB (jh (aX lW gG (aD bK aN (aa 8) aj) aj (aV _)) (aB (aI (i:=9) mn.nd rfl (Or.inl rfl) (bM (ae bh (ae (aa 9) ai))))) bj))) bj)
 (aB (dY (eh d6 fN gh fB fZ (aa 6) (ae (aa 9) ai))))))))
 (aB (aS (bM (ae bh (ae (aA cV c8 (aa 2) (aa 5) (λ_ _=>rfl)) (ae (cZ fA fF rfl G.tuple fw (ae (aa 6) ai)) ai))))))))),?_⟩
 have hnl:(0:Int)<((names.map D.str).length:Int):=by rw[az];lia
 have g_:∀o,up S sp o nm=some (.lst (names.map D.str)):=λo=>by rw[a9 (bE n1)];exact hnm
 have tw:∀o,up S sp o ct=some (.lst (cD counts)):=λo=>by rw[a9 (bE n2)];exact hct
 obtain⟨p0,hp0⟩:∃p0,ps[0]?=some p0:=⟨_,aU (by lia)⟩;have JX:cy (ps.map D.str) 0=some (.str p0):=gA (j:=0) (by rw[aK,hp0];rfl);have qa:p0∈ps:=bS hp0;nofun;refine⟨ns,sp,i,rest,rfl,hsp,hi,?_⟩;have jf:=g_ (.lst (.int (i+1)::rest));have wG:=tw (.lst (.int (i+1)::rest));obtain⟨jt,vt,AE,tx,hat⟩:=jS (f:=D.str) (cellAt ns i) (show 0<names.length by lia);have AF:jt<counts.length:=by rw[<-j6];exact(bO.mp tx).1
 obtain⟨cn,hcn⟩:∃cn,counts[jt]?=some cn:=⟨_,aU AF⟩;have AG:=hc4 cn (bS hcn);have har:dq names counts vt=some cn:=vH nd tx hcn;nofun;intro pr hpr;have ic:sp≠pr:=ne3 ao hpr;have nR:S pr=none:=by rw[a9 (bE ic)]at hpr;exact hpr
 have tE:nm≠pr:=ne3 jf hpr;have tF:ct≠pr:=ne3 wG hpr;have bB:=au (o:=.lst []) (ao (S:=S) (a:=sp) (o:=.lst (.int (i+1)::rest))) hpr;have bw:=au (o:=.lst []) jf hpr;have bZ:=au (o:=.lst []) wG hpr;have cf:up (up S sp (.lst (.int (i+1)::rest))) pr (.lst []) pr=some (.lst []):=ao;have bH:Px sp S (up (up S sp (.lst (.int (i+1)::rest))) pr (.lst [])):=(Px.refl sp S).at.new hpr;generalize up (up S sp (.lst (.int (i+1)::rest))) pr (.lst [])=S1 at bB bw bZ cf bH ⊢;nofun;refine de bZ (d:=.int cn) (by rw[AE];refine gA ?_;rw[aK,hcn];rfl) ?_;nofun;refine⟨λj σ S'=>wm λ(as:List Sy) (i1:Int) (x7 x8 x9:Option D)=>σ=[some (.bD (ns.map D.int)),some (.ref sp),some (.ref nm),some (.ref ct),some (.tup (ps.map D.str)),some (.int (cellAt ns i%((names.map D.str).length:Int))),some (.ref pr),x7,x8,x9] /\
  S' sp=some (.lst (.int i1::rest))/\S' nm=some (.lst (names.map D.str))/\S' ct=some (.lst (cD counts))/\S' pr=some (.lst (as.map Sy.d))/\Px sp S S'/\as.length=j/\0<=i1/\(∀a∈as,Plain ps 5 a),
  ⟨[],i+1,none,none,none,rfl,bB,bw,bZ,cf,bH,rfl,by lia,by simp⟩,λ_ _ _ _=>trivial,?turn,?done⟩
 case turn =>
  clear bB bw bZ cf bH;rintro j d σ S' hd ⟨as,i1,x7,x8,x9,rfl,bB,bw,bZ,cf,bH,hl,hi1,hpl⟩;obtain⟨hj,rfl⟩:=fj hd;rw[fb]at hj;nofun;refine⟨ns,sp,i1,rest,rfl,bB,hi1,?_⟩;nofun;replace bw:up S' sp (.lst (.int (i1+1)::rest)) nm=_:=(a9 (bE n1)).trans bw;replace bZ:up S' sp (.lst (.int (i1+1)::rest)) ct=_:=(a9 (bE n2)).trans bZ;replace cf:up S' sp (.lst (.int (i1+1)::rest)) pr=_:=(a9 (bE ic)).trans cf;replace bH:=bH.at (o:=.lst (.int (i1+1)::rest));replace bB:up S' sp (.lst (.int (i1+1)::rest)) sp=_:=ao;generalize up S' sp (.lst (.int (i1+1)::rest))=S2 at bB bw bZ cf bH ⊢;generalize cellAt ns i1=cell;refine⟨_,ps,rfl,l1,l4,λa ha=>?_⟩;nofun;refine iE (λσ T=>∃(s:Sy),σ=[some (.bD (ns.map D.int)),some (.ref sp),some (.ref nm),some (.ref ct),some (.tup (ps.map D.str)),some (.int (cellAt ns i%((names.map D.str).length:Int))),some (.ref pr),some (.int (0+(j:Int))),some (.int cell),some s.d]/\Sub S2 T/\Plain ps 5 s) ?_ ?_
  ·intro n' hn';by_cases hj0:(0:Int)+(j:Int)=0
   ·nofun;intro p1 hp1;nofun;have hP:∀b:Bool,Plain ps 2 (if b then .left (.name p0) else .right (.name p0)):=λb=>by cases b<;>first|exact(mz qa).right|exact(mz qa).left
    refine JS ao ?_ ?_
    ·nofun;refine ma JX ?_;nofun;refine iE (λσ T=>∃(s:Sy),σ=[some (.bD (ns.map D.int)),some (.ref sp),some (.ref nm),some (.ref ct),some (.tup (ps.map D.str)),some (.int (cellAt ns i%((names.map D.str).length:Int))),some (.ref pr),some (.int (0+(j:Int))),some (.int cell),some s.d]/\Sub S2 T/\Plain ps 5 s) ?_ ?_
     ·intro YD hn2';by_cases hc3:cell%9<3
      ·nofun;exact hn2' _ _ ⟨.right (.left (.name p0)),rfl,(Sub.refl S2).up hp1,(mz qa).left.right.mono (by decide)⟩
      ·nofun;exact hn2' _ _ ⟨.left (.name p0),rfl,(Sub.refl S2).up hp1,(mz qa).left.mono (by decide)⟩
     ·rintro σ T h;exact hn' _ _ h
    ·nofun;refine ma JX ?_;nofun;refine iE (λσ T=>∃(s:Sy),σ=[some (.bD (ns.map D.int)),some (.ref sp),some (.ref nm),some (.ref ct),some (.tup (ps.map D.str)),some (.int (cellAt ns i%((names.map D.str).length:Int))),some (.ref pr),some (.int (0+(j:Int))),some (.int cell),some s.d]/\Sub S2 T/\Plain ps 5 s) ?_ ?_
     ·intro YD hn2';by_cases hc3:cell%9<3
      ·nofun;exact hn2' _ _ ⟨.right (.right (.name p0)),rfl,(Sub.refl S2).up hp1,(mz qa).right.right.mono (by decide)⟩
      ·nofun;exact hn2' _ _ ⟨.right (.name p0),rfl,(Sub.refl S2).up hp1,(mz qa).right.mono (by decide)⟩
     ·rintro σ T h;exact hn' _ _ h
   ·nofun;exact hn' _ _ ⟨a,rfl,Sub.refl S2,ha⟩
  rintro σ T ⟨s,rfl,hs,hps⟩;replace bB:=hs _ _ bB;replace bw:=hs _ _ bw;replace bZ:=hs _ _ bZ;replace cf:=hs _ _ cf;replace bH:=bH.ext hs;nofun;refine fG cf (by rw[az];exact eU (by lia)) ?_;have ee:as.map Sy.d++[s.d]=(as++[s]).map Sy.d:=by simp
  rw[ee];refine⟨as++[s],i1+1,_,_,_,rfl,?_,?_,?_,ao,bH.fresh nR,by simp[hl],by lia,λb hb=>?_⟩
  ·rw[a9 ic];exact bB
  ·rw[a9 tE];exact bw
  ·rw[a9 tF];exact bZ
  ·rcases bF.mp hb with hb|hb
   ·exact hpl b hb
   ·rw[cz.mp hb];exact hps
 rintro σ S' ⟨as,i1,x7,x8,x9,rfl,YE,YF,agH,agI,YG,hl,hi1,hpl⟩;rw[dE,fb]at hl;nofun;refine de YF hat ?_;nofun;have e:D.tup [.str "send",.str vt,.tup (as.map Sy.d)]=(Sy.send vt as).d:=by simp only[Sy.d,Sy.kK]
 rw[e];exact⟨sp,_,YG.sub YE,hq vt as _ ⟨by rw[hl];exact har,by lia,by lia,hpl⟩ hi1⟩
abbrev YH:aY:=wH
theorem YI{k:Nat}(h:aE K mg "_law_tame" nG ["script","spot","most"])(G:Gs K mg)(eE:ay P w K mg base k "_law_next" ["script","spot"] p6)(mB:ay P w K mg base k "_law_names" ["cell","many"] Aw)
 (wI:ay P w K mg base k "_law_tame_send" ["script","spot","names","counts","params"] JW) (iK:ay P w K mg base k "_law_arg" ["cell","params"] tq):ay P w K mg base (k+1) "_law_tame" ["script","spot","most"] wH:=show _ by
 refine h.mZ ia (by rintro ds S q ⟨_,_,_,_,_,e,_⟩;rw[e];rfl) λf cdv A outer s H E ds S q hr hA=>?_;obtain⟨ns,sp,i,most,rest,rfl,hsp,hi,m1,AJ,hq⟩:=hA;refine⟨_,(aq (aI (i:=3) ia.nd rfl (Or.inr rfl) (aJ eE hr rfl (ae (aa 0) (ae (aa 1) ai))))
 (aq (aI (i:=4) ia.nd rfl (Or.inl rfl) (aD gS fY aj (aD bK aN (aa 3) (aa 2))))
 (aq (aI (i:=5) ia.nd rfl (Or.inl rfl) (aJ mB hr rfl (ae (aD bK aN (aD cN aN (aa 3) (aa 2)) (aD qT aN aj aj)) (ae (aa 4) ai))))
 (aq (aI (i:=6) ia.nd rfl (Or.inl rfl) (aJ mB hr rfl (ae (aD bK aN (aJ eE hr rfl (ae (aa 0) (ae (aa 1) ai))) (aD qT aN aj aj)) (ae aj ai))))
 (aq (kS (i:=7) (bQ:=av nG) (N:=["script","spot","most","head","many","names","params","counts","program","k","mine","shape","first","last"]) (M:=["head"]) (js:=[3]) ⟨rfl,by cbv,by cbv,by cbv,by cbv,by cbv⟩ (by cbv) (by cbv) rfl (fX rfl G.range (ae (aa 4) ai)) (λ_ _ _ _ _=>dU) (λ_ _ _ _ _=>(aA cV c8 (dA (ae aj (ae aj (ae aj (ae aj (ae aj ai)))))) (aD bK aN (aD cN aN (aa 1) (aD yo aN aj (aD gS fY (aa 0) aj))) aj) (λ_ _=>rfl))) ia.nd rfl rfl)
 (aq (aI (i:=8) ia.nd rfl (Or.inl rfl) (dA ai))
 (aq (c7 dk rfl (fX rfl G.range (ae (aa 4) ai)) (ck (i:=9) ia.nd rfl (Or.inl rfl)) (aq (aI (i:=10) ia.nd rfl (Or.inl rfl) (cZ fA fF rfl G.tuple fw (ae (eK jI jP (aD oo oI (eK jI jP (aa 6) (eJ (aD bK aN (aa 9) aj)) eI) (eK jI jP (aa 6) eI (eJ (aD bK aN (aa 9) aj)))) eI (eJ (aA cV c8 (aa 7) (aa 9) (λ_ _=>rfl)))) ai)))
 (aq (aI (i:=11) ia.nd rfl (Or.inl rfl) (aJ eE hr rfl (ae (aa 0) (ae (aa 1) ai))))
 (aq (aI (i:=12) ia.nd rfl (Or.inl rfl) (aJ wI hr rfl (ae (aa 0) (ae (aa 1) (ae (aa 5) (ae (aa 7) (ae (aa 10) ai)))))))
 (aq (jh (aX bP dn (aD bK aN (aa 11) aj) aj (aV _)) (aB (aI (i:=12) ia.nd rfl (Or.inl rfl) (bM (ae bh (ae (aa 12) (ae (aJ wI hr rfl (ae (aa 0) (ae (aa 1) (ae (aa 5) (ae (aa 7) (ae (aa 10) ai)))))) ai)))))) bj)
 (aq (aI (i:=13) ia.nd rfl (Or.inl rfl) (aJ iK hr rfl (ae (aD cN aN (aa 11) aj) (ae (aa 10) ai))))
 (aB (dY (eh d6 fN gh fB fZ (aa 8) (ae (bM (ae (aA cV c8 (aa 5) (aa 9) (λ_ _=>rfl)) (ae (aa 10) (ae (bM (ae bh (ae (bM (ae bh (ae (aA aG aH (aa 10) aj (λ_ _=>rfl)) ai))) (ae (aa 12) (ae (aa 13) ai))))) ai)))) ai))))))))))
 (aB (aS (aa 8)))))))))),?_⟩
 nofun;refine⟨ns,sp,i,rest,rfl,hsp,hi,?_⟩;generalize cellAt ns i=head;have hm0:=fc head (show most≠0 by lia);have hm1:=n_ head (show 0<most by lia);have Yz:(0:Int)<10^(jA 14):=by decide
 nofun;refine⟨_,_,rfl,fc _ (by decide),by lia,by lia,λnames Rn=>?_⟩;intro nm hnm;have n1:sp≠nm:=ne3 ao hnm;nofun;refine⟨ns,sp,i+1,rest,rfl,au ao hnm,by lia,?_⟩;generalize cellAt ns (i+1)=c2;nofun;refine⟨_,4,rfl,fc _ (by decide),by lia,by lia,λpp Rp=>?_⟩;intro pm hpm;nofun;generalize AK:1+head%most=many;have YA:1<=many:=by lia
 have h12:many<=most:=by lia
 obtain⟨cnt,tz⟩:∃cnt:Nat->Nat,∀k:Nat,cy [D.int 2,.int 1,.int 2,.int 2,.int 3] (head/(7*(0+(k:Int)+1))%5)=some (.int (cnt k:Int))/\1<=cnt k/\cnt k<=4:=by
  have:∀k:Nat,∃c:Nat,cy [D.int 2,.int 1,.int 2,.int 2,.int 3] (head/(7*(0+(k:Int)+1))%5)=some (.int (c:Int))/\1<=c/\c<=4:=λk=>by
   generalize head/(7*(0+(k:Int)+1))=x;have h5:x%5=0∨x%5=1∨x%5=2∨x%5=3∨x%5=4:=by lia
   rcases h5 with e|e|e|e|e
   ·exact⟨2,by rw[e];rfl,by decide,by decide⟩
   ·exact⟨1,by rw[e];rfl,by decide,by decide⟩
   ·exact⟨2,by rw[e];rfl,by decide,by decide⟩
   ·exact⟨2,by rw[e];rfl,by decide,by decide⟩
   ·exact⟨3,by rw[e];rfl,by decide,by decide⟩
  exact⟨λk=>(this k).choose,λk=>(this k).choose_spec⟩
 have bB:=au (o:=.lst (pp.map D.str)) (ao (S:=up (up S sp (.lst (.int (i+1)::rest))) nm (.lst (names.map D.str))) (a:=sp) (o:=.lst (.int (i+1+1)::rest))) hpm;have bw:up (up (up (up S sp (.lst (.int (i+1)::rest))) nm (.lst (names.map D.str))) sp (.lst (.int (i+1+1)::rest))) pm (.lst (pp.map D.str)) nm=some (.lst (names.map D.str)) :=
  au (by rw[a9 (bE n1)];exact ao) hpm
 have b7:up (up (up (up S sp (.lst (.int (i+1)::rest))) nm (.lst (names.map D.str))) sp (.lst (.int (i+1+1)::rest))) pm (.lst (pp.map D.str)) pm=some (.lst (pp.map D.str)):=ao;have bH:Px sp S (up (up (up (up S sp (.lst (.int (i+1)::rest))) nm (.lst (names.map D.str))) sp (.lst (.int (i+1+1)::rest))) pm (.lst (pp.map D.str))):=((Px.refl sp S).at.new hnm).at.new hpm;have tD:sp≠pm:=ne3 ao hpm;generalize up (up (up (up S sp (.lst (.int (i+1)::rest))) nm (.lst (names.map D.str))) sp (.lst (.int (i+1+1)::rest))) pm (.lst (pp.map D.str))=S4 at bB bw b7 bH ⊢;refine Ja (λk=>.int (cnt k)) (by rw[dE];lia) (λ_ _=>trivial) ?_ ?_
 ·intro j d S' hd hs' P hP;obtain⟨hj,rfl⟩:=fj hd;nofun;intro p1 hp1;nofun;refine de ao (tz j).1 ?_;exact hP _ ((Sub.refl S').up hp1)
 intro S5 k_;replace bB:=k_ _ _ bB;replace bw:=k_ _ _ bw;replace b7:=k_ _ _ b7;replace bH:=bH.ext k_;rw[dE];obtain⟨counts,nO⟩:∃counts,counts=(aZ many.toNat).map cnt:=⟨_,rfl⟩;have AL:((aZ many.toNat).map λk=>D.int (cnt k:Int))=cD counts:=by rw[nO,cD,dC];rfl
 rw[AL];have hc4:∀c∈counts,1<=c/\c<=4:=λc hc=>by
  rw[nO]at hc;obtain⟨k,_,rfl⟩:=bG.mp hc;exact(tz k).2
 have j6:counts.length=many.toNat:=by rw[nO];simp
 intro ct hct;nofun;intro pr hpr;have hnl:=Rn.len;rw[AK]at Rn hnl;have nP:sp≠nm:=n1;have nQ:sp≠ct:=ne3 bB hct;have ic:sp≠pr:=ne3 (au bB hct) hpr;have tE:nm≠pr:=ne3 (au bw hct) hpr;have AM:pm≠pr:=ne3 (au b7 hct) hpr;have tF:ct≠pr:=ne3 ao hpr;have nR:S pr=none:=(bH.new hct).free hpr (bE ic);replace bB:=au (o:=.lst []) (au (o:=.lst (cD counts)) bB hct) hpr;replace bw:=au (o:=.lst []) (au (o:=.lst (cD counts)) bw hct) hpr;replace b7:=au (o:=.lst []) (au (o:=.lst (cD counts)) b7 hct) hpr;replace bH:=(bH.new (o:=.lst (cD counts)) hct).new (o:=.lst []) hpr;have bZ:up (up S5 ct (.lst (cD counts))) pr (.lst []) ct=some (.lst (cD counts)):=au ao hpr;have cf:up (up S5 ct (.lst (cD counts))) pr (.lst []) pr=some (.lst []):=ao;generalize up (up S5 ct (.lst (cD counts))) pr (.lst [])=S6 at bB bw b7 bH bZ cf ⊢;nofun;refine⟨λj σ S'=>Xi λ(aT:List Er) (i1:Int) (x10 x11 x12 AN tI:Option D)=>σ=[some (.bD (ns.map D.int)),some (.ref sp),some (.int most),some (.int head),some (.int many),some (.ref nm),some (.ref pm),some (.ref ct),some (.ref pr),x10,x11,x12,AN,tI] /\
  S' sp=some (.lst (.int i1::rest))/\S' nm=some (.lst (names.map D.str))/\S' pm=some (.lst (pp.map D.str))/\S' ct=some (.lst (cD counts))/\S' pr=some (.lst (aT.map Er.d))/\Px sp S S' /\
  aT.length=j/\0<=i1/\aT.map Er.name=names.take j/\(aT.map λe=>e.ps.length)=counts.take j/\(∀e∈aT,JV (dq names counts) e),
  ⟨[],i+1+1,none,none,none,none,none,rfl,bB,bw,b7,bZ,cf,bH,rfl,by lia,rfl,rfl,by simp⟩,λ_ _ _ _=>trivial,?turn,?done⟩
 case turn =>
  clear bB bw b7 bZ cf bH;rintro j d σ S' hd ⟨aT,i1,x10,x11,x12,AN,tI,rfl,bB,bw,b7,bZ,cf,bH,hl,hi1,en,ec,hk⟩;obtain⟨hj,rfl⟩:=fj hd;have c0:=fc (0+(j:Int)) (show(4:Int)≠0 by decide);have ap:∀{α:Type} {f:α->D} {xs:List α} {v:α},xs[j]?=some v->cy (xs.map f) (0+(j:Int))=some (f v):=λ{α f xs v} hv=>by
   have e:(0:Int)+(j:Int)=((j:Nat):Int):=by lia
   rw[e];refine gA ?_;rw[aK,hv];rfl
  obtain⟨cn,hcn⟩:∃cn,counts[j]?=some cn:=⟨_,aU (by lia)⟩;obtain⟨nj,tG⟩:∃nj,names[j]?=some nj:=⟨_,aU (by lia)⟩;have AG:=hc4 cn (bS hcn);nofun;rw[oU c0];intro p1 hp1;have g1:=au (o:=.lst ((pp.map D.str).drop ((0+(j:Int))%4).toNat)) b7 hp1;nofun;rw[kJ c0];intro p2 hp2;have hpl:=Rp.len;refine jc (au ao hp2) ao ?_ ?_
  ·rw[fL,dP,az];exact c9 (by lia)
  intro p3 hp3;nofun;refine de (au (au (au bZ hp1) hp2) hp3) (ap hcn) ?_;nofun;rw[kJ (by lia),fb];intro p4 mC;nofun;obtain⟨mine,tH⟩:∃mine,mine=(pp.drop ((0+(j:Int))%4).toNat++pp.take ((0+(j:Int))%4).toNat).take cn:=⟨_,rfl⟩;have em:((pp.map D.str).drop ((0+(j:Int))%4).toNat++(pp.map D.str).take ((0+(j:Int))%4).toNat).take cn=mine.map D.str:=by
   rw[tH,<-DB,<-lJ,<-cA,<-lJ]
  rw[em];have hmo:mine.length=cn/\mine.Nodup/\∀x∈mine,eV x:=by
   rw[tH];exact G1 Rp.turn (by show cn<=4;lia)
  have hsub:=((((Sub.refl S').up (o:=.lst ((pp.map D.str).drop ((0+(j:Int))%4).toNat)) hp1).up (o:=.lst ((pp.map D.str).take ((0+(j:Int))%4).toNat)) hp2).up
   (o:=.lst ((pp.map D.str).drop ((0+(j:Int))%4).toNat++(pp.map D.str).take ((0+(j:Int))%4).toNat)) hp3).up (o:=.lst (mine.map D.str)) mC
  generalize up (up (up (up S' p1 _) p2 _) p3 _) p4 _=S5 at hsub ⊢;replace bB:=hsub _ _ bB;replace bw:=hsub _ _ bw;replace b7:=hsub _ _ b7;replace bZ:=hsub _ _ bZ;replace cf:=hsub _ _ cf;replace bH:=bH.ext hsub;obtain⟨q0,hq0⟩:∃q0,mine[0]?=some q0:=⟨_,aU (by lia)⟩;have hq0':cy (mine.map D.str) 0=some (.str q0):=gA (j:=0) (by rw[aK,hq0];rfl);have YJ:q0∈mine:=bS hq0;have snd:∀(T:ah) (i2:Int) (Q:K3),T sp=some (.lst (.int i2::rest))->T nm=some (.lst (names.map D.str))->T ct=some (.lst (cD counts))->0<=i2 ->
   (∀(x:Str) (as:List Sy) (i3:Int),nM (dq names counts) mine x as->0<=i3->Q (Sy.send x as).d (up T sp (.lst (.int i3::rest)))) ->
   JW [.bD (ns.map D.int),.ref sp,.ref nm,.ref ct,.tup (mine.map D.str)] T Q (λ_ _ _=>False):=λT i2 Q h1 h2 h3 h4 h5 =>
   ⟨ns,sp,nm,ct,i2,rest,names,mine,counts,rfl,h1,h2,h3,nP,nQ,h4,by lia,by lia,by lia,Rn.nd,by lia,hc4,λx as i3 ho k9=>h5 x as i3 ho k9⟩
  nofun;refine⟨ns,sp,i1,rest,rfl,bB,hi1,?_⟩;generalize cellAt ns i1=shape;replace bw:up S5 sp (.lst (.int (i1+1)::rest)) nm=_:=(a9 (bE nP)).trans bw;replace bZ:up S5 sp (.lst (.int (i1+1)::rest)) ct=_:=(a9 (bE nQ)).trans bZ;replace b7:up S5 sp (.lst (.int (i1+1)::rest)) pm=_:=(a9 (bE tD)).trans b7;replace cf:up S5 sp (.lst (.int (i1+1)::rest)) pr=_:=(a9 (bE ic)).trans cf;replace bH:=bH.at (o:=.lst (.int (i1+1)::rest));replace bB:up S5 sp (.lst (.int (i1+1)::rest)) sp=_:=ao;generalize up S5 sp (.lst (.int (i1+1)::rest))=S7 at bB bw b7 bZ cf bH ⊢;nofun;refine snd _ (i1+1) _ bB bw bZ (by lia) λx as i3 ho k9=>?_;replace bw:up S7 sp (.lst (.int i3::rest)) nm=_:=(a9 (bE nP)).trans bw;replace bZ:up S7 sp (.lst (.int i3::rest)) ct=_:=(a9 (bE nQ)).trans bZ;replace b7:up S7 sp (.lst (.int i3::rest)) pm=_:=(a9 (bE tD)).trans b7;replace cf:up S7 sp (.lst (.int i3::rest)) pr=_:=(a9 (bE ic)).trans cf;replace bH:=bH.at (o:=.lst (.int i3::rest));replace bB:up S7 sp (.lst (.int i3::rest)) sp=_:=ao;generalize up S7 sp (.lst (.int i3::rest))=S8 at bB bw b7 bZ cf bH ⊢;have hb1:=ho.bd;nofun;refine iE (λσ T=>mw λ(s:Sy) (i4:Int) (tI:Option D)=>σ=[some (.bD (ns.map D.int)),some (.ref sp),some (.int most),some (.int head),some (.int many),some (.ref nm),some (.ref pm),some (.ref ct),some (.ref pr),some (.int (0+(j:Int))),some (.tup (mine.map D.str)),some (.int shape),some s.d,tI] /\
   T sp=some (.lst (.int i4::rest))/\T nm=some (.lst (names.map D.str))/\T pm=some (.lst (pp.map D.str))/\T ct=some (.lst (cD counts))/\T pr=some (.lst (aT.map Er.d))/\Px sp S T/\0<=i4/\Bd (dq names counts) mine 7 2 251 s) ?_ ?_
  ·intro n' hn';by_cases hs1:shape%3=1
   ·nofun;refine snd _ i3 _ bB bw bZ k9 λx2 as2 i4 ho2 AO=>?_;nofun;refine hn' _ _ ⟨.pair (.send x as) (.send x2 as2),i4,_,rfl,ao,(a9 (bE nP)).trans bw,(a9 (bE tD)).trans b7,(a9 (bE nQ)).trans bZ,(a9 (bE ic)).trans cf,bH.at,AO,hb1.pair ho2.bd⟩
   ·nofun;exact hn' _ _ ⟨.send x as,i3,_,rfl,bB,bw,b7,bZ,cf,bH,k9,hb1.mono (by decide) (by decide) (by decide)⟩
  clear bB bw b7 bZ cf bH;rintro σ T ⟨s1,i4,y14,rfl,bB,bw,b7,bZ,cf,bH,AO,hbs⟩;nofun;refine⟨_,mine,rfl,by lia,by lia,λt ht=>?_⟩;nofun;refine de bw (ap tG) ?_;nofun;refine ma hq0' ?_;nofun;refine fG cf (by rw[az];exact eU (by lia)) ?_;obtain⟨s,hs⟩:∃s,s=Sy.fork (.name q0) s1 t:=⟨_,rfl⟩;have hbd:Bd (dq names counts) mine 12 6 1500 s:=by
   rw[hs];have h1:Bd (dq names counts) mine 7 0 2 (.name q0):=(mz YJ).bd.mono (by decide) (by decide) (by decide);have h3:Bd (dq names counts) mine 7 0 32 t:=ht.bd.mono (by decide) (by decide) (by decide);exact(h1.fork hbs h3).mono (by decide) (by decide) (by decide)
  have ee:aT.map Er.d++[D.tup [D.str nj,D.tup (mine.map D.str),D.tup [.str "fork",.tup [.str "name",.str q0],s1.d,t.d]]]=(aT++[(⟨nj,mine,s⟩:Er)]).map Er.d:=by rw[hs];simp[Er.d,Sy.d]
  rw[ee];refine⟨aT++[(⟨nj,mine,s⟩:Er)],i4,_,_,_,_,_,rfl,?_,?_,?_,?_,ao,bH.fresh nR,by simp[hl],AO,?_,?_,?_⟩
  ·rw[a9 ic];exact bB
  ·rw[a9 tE];exact bw
  ·rw[a9 AM];exact b7
  ·rw[a9 tF];exact bZ
  ·rw[gu,tG,cA,en];rfl
  ·rw[gu,hcn,cA,ec];show counts.take j++[mine.length]=_;rw[hmo.1];rfl
  ·intro e he;rcases bF.mp he with he|he
   ·exact hk e he
   ·rw[cz.mp he];exact⟨by show 1<=mine.length;lia,by show mine.length<=4;lia,hmo.2.1,hmo.2.2,hbd⟩
 rintro σ S' ⟨aT,i1,x10,x11,x12,AN,tI,rfl,bB,bw,b7,bZ,cf,bH,hl,hi1,en,ec,hk⟩;rw[dE]at hl en ec;rw[ke (by lia)]at en ec;nofun;refine⟨pr,_,sp,_,rfl,nR,by rw[hsp];simp,bH.sub bB,cf,hq aT i1 ⟨by lia,by lia,?_,λe he=>?_,λe he=>?_,λe he=>?_⟩ (by lia) hi1⟩
 ·rw[en];exact Rn.nd
 ·exact Rn.ok _ (by rw[<-en];exact iQ he)
 ·exact⟨(hk e he).l1,(hk e he).l4,(hk e he).nd,(hk e he).ok⟩
 ·rw[G0 en ec];exact(hk e he).bd.mono (by decide) (by decide) (by decide)
inductive YK (ds:List D)(S:ah)(q:List D->Addr->O->Prop):Prop where
 |mk (ns:List Int) (sp:Addr) (i way most:Int) (rest:List D) (_:ds=[.bD (ns.map D.int),.ref sp,.int way,.int most]) (_:S sp=some (.lst (.int i::rest))) (_:0<=i) (_:1<=most) (_:most<=12) (_:∀(prog:List Er) (i2:Int),Pg prog->prog.length<=most.toNat->0<=i2->q (prog.map Er.d) sp (.lst (.int i2::rest)))
def JY :aY:=mZ YK
theorem YL{k:Nat}(h:aE K mg "_law_any" pQ ["script","spot","way","most"])(AQ:ay P w K mg base k "_law_tame" ["script","spot","most"] YH)(AR:ay P w K mg base k "_law_program" ["script","spot","most"] wH) :
 ay P w K mg base (k+1) "_law_any" ["script","spot","way","most"] JY:=show _ by
 refine h.mZ Xh (by rintro ds S q ⟨_,_,_,_,_,_,e,_⟩;rw[e];rfl) λf cdv A outer s H E ds S q hr hA=>?_;obtain⟨ns,sp,i,way,most,rest,rfl,hsp,hi,m1,AJ,hq⟩:=hA;refine⟨_,(aq (bN (aX bP dn (aa 2) aj (aV _)) (aB (aS (aJ AQ hr rfl (ae (aa 0) (ae (aa 1) (ae (aa 3) ai)))))) bj)
 (aB (aS (aJ AR hr rfl (ae (aa 0) (ae (aa 1) (ae (aa 3) ai))))))),?_⟩
 by_cases hw:way=0
 all_goals
  nofun;refine⟨ns,sp,i,most,rest,rfl,hsp,hi,m1,AJ,λprog i2 hg hl hi2=>?_⟩;intro pr hpr;nofun;exact⟨pr,_,sp,_,rfl,hpr,by rw[hsp];simp,(Sub.refl _).up (by rw[a9 (ne3 hsp hpr).symm];exact hpr),ao,hq prog i2 hg hl hi2⟩
theorem AS(a b:Str):(a++b).length=a.length+b.length:=by
 show(a.cps++b.cps).size=_;simp[xi]
theorem JZ:∀(bs:List Bool) (r:Sy),(wrap bs r).txt.length<=r.txt.length+6*bs.length
 |[],_=>by simp[wrap]
 |b::l,r=>by
  have:=JZ l r;rw[HJ,AS,AS,cK];have e1:(" ":Str).length=1:=show _ by cbv
  have e2:(mi b).length<=5:=by cases b<;>cbv
  lia
inductive YM (ds:List D)(q:List D->Prop):Prop where
 |mk (s:Sy) (_:ds=[s.d]) (_:s.deep<=1000) (_:(∀x,s.base=some x->x.length<=1000)) (_:q (s.pfx.map D.str))
def AU :aY:=rW YM
theorem YN{k:Nat}(h:aE K mg "_law_prefixes" pT ["saying"])(G:Gs K mg):ay P w K mg base (k+1) "_law_prefixes" ["saying"] AU:=show _ by
 refine h.lst nH (by rintro ds q ⟨s,e,_⟩;rw[e];rfl) λf cdv A outer s0 H E ds q hr hA=>?_;obtain⟨s,rfl,hd,hx,hq⟩:=hA;refine⟨_,(aq (aI (i:=1) nH.nd rfl (Or.inl rfl) (dA ai))
 (aq (rR dk (cH.pt (w_or (aX bP eT (aA aG aH (aa 0) aj (λ_ _=>rfl)) bh (aV _)) (i_ (aX bP eT (aA aG aH (aa 0) aj (λ_ _=>rfl)) bh (aV _))))) (aq (dY (eh d6 fN gh fB fZ (aa 1) (ae (aA aG aH (aa 0) aj (λ_ _=>rfl)) ai)))
 (aB (aI (i:=0) nH.nd rfl (Or.inl rfl) (aA aG aH (aa 0) aj (λ_ _=>rfl))))))
 (aq (bN (aX mR oE (aA aG aH (aa 0) aj (λ_ _=>rfl)) bh (aV _)) (aB (aS (dA ai))) bj)
 (aq (aI (i:=2) nH.nd rfl (Or.inl rfl) (aA aG aH (aa 0) aj (λ_ _=>rfl)))
 (aq (aI (i:=3) nH.nd rfl (Or.inl rfl) (dA (ae (aa 2) ai)))
 (aq (c7 dk rfl (Hm rfl G.Jz (ae (aa 1) ai)) (ck (i:=4) nH.nd rfl (Or.inl rfl)) (aq (aI (i:=2) nH.nd rfl (Or.inl rfl) (aD mT mX (aD mT mX (aa 2) bh) (aa 4)))
 (aB (dY (eh d6 fN gh fB fZ (aa 3) (ae (aa 2) ai))))))
 (aB (aS (aa 3))))))))),?_⟩
 nofun;intro pt AV;nofun;refine rY (λm σ S=>ib λ(bs:List Bool) (r:Sy)=>σ=[some r.d,some (.ref pt),none,none,none]/\S pt=some (.lst (bs.map λb=>D.str (mi b)))/\wrap bs r=s/\m=r.deep) _ ⟨[],s,rfl,ao,rfl,rfl⟩ ?_;rintro m σ S ⟨bs,r,rfl,hS,hw,rfl⟩;have hdp:=zT bs r;rw[hw]at hdp;have hb:=zS bs r;rw[hw]at hb;cases r with
 |left a =>
  simp only[Sy.d];nofun;refine fG hS (by rw[az];exact eU (by lia)) ?_;nofun;exact⟨a.deep,by simp only[Sy.deep];lia,bs++[true],a,rfl,by rw[ao];simp[mi],by rw[vW];exact hw,rfl⟩
 |right a =>
  simp only[Sy.d];nofun;refine fG hS (by rw[az];exact eU (by lia)) ?_;nofun;exact⟨a.deep,by simp only[Sy.deep];lia,bs++[false],a,rfl,by rw[ao];simp[mi],by rw[vW];exact hw,rfl⟩
 |name x =>
  simp only[Sy.d];nofun;intro pf hpf;have hne:pt≠pf:=ne3 hS hpf;have hS2:=au (o:=.lst [.str x]) hS hpf;have hx':=hx x (by rw[hb];rfl);nofun;refine⟨λj σ S'=>∃x4,σ=[some (.tup [.str "name",.str x]),some (.ref pt),some (.str (wrap (bs.drop (bs.length-j)) (.name x)).txt),some (.ref pf),x4]/\S' pt=some (.lst (bs.map λb=>D.str (mi b)))/\S' pf=some (.lst ((wrap (bs.drop (bs.length-j)) (.name x)).da.map D.str)) /\
   (wrap (bs.drop (bs.length-j)) (.name x)).da.length=j+1,
   ⟨none,by simp[wrap,Sy.txt],hS2,by rw[ao];simp[wrap,Sy.da],by simp[wrap,Sy.da]⟩,λj σ S' ⟨_,_,g,_⟩=>g,?_,?_⟩
  ·rintro j d σ S' hd ⟨x4,rfl,g1,g2,g3⟩;have hj:=(bO.mp hd).1;rw[Dm,az]at hj;rw[M1 (by rw[az];exact hj),az,aK]at hd;obtain⟨b,J0,rfl⟩:=bW.mp hd;have AW:bs.drop (bs.length-(j+1))=b::bs.drop (bs.length-j):=by
    have hlt:bs.length-1-j<bs.length:=by lia
    have e1:bs.length-(j+1)=bs.length-1-j:=by lia
    rw[e1,xU hlt];have e2:bs.length-1-j+1=bs.length-j:=by lia
    rw[e2];rw[aU hlt]at J0;rw[dN J0]
   have wz:=JZ (bs.drop (bs.length-j)) (.name x);rw[fL]at wz;have Xv:(Sy.name x).txt.length<=1000:=hx';have e1:(" ":Str).length=1:=by cbv
   have e2:(mi b).length<=5:=by cases b<;>cbv
   nofun;refine mY (c9 (by lia)) ?_;nofun;refine mY (c9 (by rw[AS];lia)) ?_;nofun;refine fG g2 (by rw[az];exact eU (by lia)) ?_;refine⟨_,by rw[AW,HJ];rfl,by rw[a9 hne];exact g1,?_,?_⟩
   ·rw[ao,AW,HK];simp
   ·rw[AW,HK,bx,g3];rfl
  ·rintro σ S' ⟨x4,rfl,g1,g2,g3⟩;rw[Dm,az]at g2;have e0:bs.drop (bs.length-bs.length)=bs:=by simp
   rw[e0,hw]at g2;nofun;refine⟨pf,_,rfl,g2,?_⟩;have:s.pfx=s.da:=by unfold Sy.pfx;rw[hb];rfl
   rw[<-this];exact hq
 |b6 =>
  have e0:s.pfx=[]:=by unfold Sy.pfx;rw[hb];rfl
  rw[e0]at hq;simp only[Sy.d];nofun;intro p1 hp1;nofun;exact⟨p1,_,rfl,ao,hq⟩
 |pair a b =>
  have e0:s.pfx=[]:=by unfold Sy.pfx;rw[hb];rfl
  rw[e0]at hq;simp only[Sy.d];nofun;intro p1 hp1;nofun;exact⟨p1,_,rfl,ao,hq⟩
 |fork a b c =>
  have e0:s.pfx=[]:=by unfold Sy.pfx;rw[hb];rfl
  rw[e0]at hq;simp only[Sy.d];nofun;intro p1 hp1;nofun;exact⟨p1,_,rfl,ao,hq⟩
 |send x as =>
  have e0:s.pfx=[]:=by unfold Sy.pfx;rw[hb];rfl
  rw[e0]at hq;simp only[Sy.d];nofun;intro p1 hp1;nofun;exact⟨p1,_,rfl,ao,hq⟩
inductive YO (ds:List D)(S:ah)(q:D->Prop):Prop where
 |mk (p:Str) (s:Sy) (kn:Addr) (k:List Str) (_:ds=[.str p,s.d,.ref kn]) (_:S kn=some (.lst (k.map D.str))) (_:s.deep<=1000) (_:(∀x,s.base=some x->x.length<=1000)) (_:s.pfx.length<=1000) (_:q (.int (cb p s k)))
def J1 :aY:=f6 YO
theorem YQ{k:Nat}(h:aE K mg "_law_told" nI ["param","saying","known"])(G:Gs K mg)(qb:ay P w K mg base k "_law_prefixes" ["saying"] AU):ay P w K mg base (k+1) "_law_told" ["param","saying","known"] J1:=show _ by
 refine h.f6 Ju (by rintro ds S q ⟨_,_,_,_,e,_⟩;rw[e];rfl) λf cdv A outer s0 H E ds S q hr hA=>?_;obtain⟨p,s,kn,kk,rfl,hk,hd,hx,hpl,hq⟩:=hA;refine⟨_,(aq (bN (aX bP eT (aA aG aH (aa 1) aj (λ_ _=>rfl)) bh (aV _)) (aB (aS (aD gS fY aj (cZ Hv HB rfl G.int boot_int (ae (i8 rh oG (aa 0) (aa 2) (by with_unfolding_all rfl)) ai))))) bj)
 (aq (aI (i:=3) Ju.nd rfl (Or.inl rfl) (aJ qb hr rfl (ae (aa 1) ai)))
 (aq (bN (cH.pt (w_or (aX (uV (kG hr)) u_ (aa 3) (dA ai) (aV _)) (i_ (aX mR oE (aA cV c8 (aa 3) aj (λ_ _=>rfl)) (aa 0) (aV _))))) (aB (aS aj)) bj)
 (aB (aS (aD gS fY aj (cZ Hv HB rfl G.int boot_int (ae (b9 (zF rfl) (sv (f:=λbs=>bs.any id)) rfl G.any boot_any (ae (h_ (bQ:=av nI) (N:=["param","saying","known","found"]) (M:=["known"]) (js:=[2]) ⟨rfl,by cbv,by cbv,by cbv,by cbv,by cbv⟩ (by cbv) (by cbv) rfl (eu (eK jI jP (aa 3) eI (eJ (Q2 aj)))) (λ_ _ _ _ _=>dU) (λ_ _ _ _ _=>(i8 rh oG (aa 0) (aa 1) (by with_unfolding_all rfl)))) ai)) ai)))))))),?_⟩
 by_cases hb:s=.b6
 ·subst hb;simp only[Sy.d];nofun;refine⟨Sub.refl _,?_⟩;simpa[cb]using hq
 have et:∃t r,s.d=.tup (.str t::r)/\¬t="bud":=by
  cases s<;>first|exact⟨_,_,rfl,by decide⟩|exact(hb rfl).elim
 obtain⟨t,r,ed,ht⟩:=et;have hq':q (.int (if s.base=some p then 1+(if ∃t∈s.pfx.dropLast,t∈kk then 1 else 0) else 0)):=by
  have e:cb p s kk=if s.base=some p then 1+(if ∃t∈s.pfx.dropLast,t∈kk then 1 else 0) else 0:=by cases s<;>first|rfl|exact(hb rfl).elim
  rw[<-e];exact hq
 rw[ed];nofun;refine⟨s,by rw[ed],hd,hx,?_⟩;intro pf hpf;have f1:=au (o:=.lst (s.pfx.map D.str)) hk hpf;have s1:Sub S (up S pf (.lst (s.pfx.map D.str))):=(Sub.refl S).up hpf;have f2:up S pf (.lst (s.pfx.map D.str)) pf=some (.lst (s.pfx.map D.str)):=ao;generalize up S pf (.lst (s.pfx.map D.str))=S1 at f1 f2 s1 ⊢;nofun;intro p0 hp0;have g1:=au (o:=.lst []) f1 hp0;have g2:=au (o:=.lst []) f2 hp0;have s2:Sub S (up S1 p0 (.lst [])):=s1.up hp0;refine eq_nil g2 ao (λd hd=>?_) (λd hd=>?_) (by decide) ?_
 ·obtain⟨x,_,rfl⟩:=bG.mp hd;rfl
 ·obtain⟨x,_,rfl⟩:=bG.mp hd;simp[D.dt,cW]
 generalize up S1 p0 (.lst [])=S2 at g1 g2 s2 ⊢;cases hbs:s.base with
 |none =>
  have e0:s.pfx=[]:=by unfold Sy.pfx;rw[hbs];rfl
  rw[e0];rw[hbs]at hq';nofun;exact⟨s2,by simpa using hq'⟩
 |some x =>
  obtain⟨l,el⟩:=o6 hbs;have e0:s.pfx=x::l:=by unfold Sy.pfx;rw[hbs];exact el
  have g3:S2 pf=some (.lst (.str x::l.map D.str)):=by rw[g2,e0];rfl
  rw[e0]at hpl;rw[hbs,e0]at hq';rw[e0];by_cases hxp:x=p
  ·nofun;rw[Ve];obtain⟨dl,hdl⟩:∃dl,dl=(x::l).dropLast:=⟨_,rfl⟩;have ec:(D.str x::l.map D.str).dropLast=dl.map D.str:=by rw[hdl,<-bT,List.map_dropLast]
   have agJ:dl.length<=1000:=by rw[hdl,MC];lia
   rw[ec];intro pc J2;have c1:=au (o:=.lst (dl.map D.str)) g1 J2;have c2:up S2 pc (.lst (dl.map D.str)) pc=some (.lst (dl.map D.str)):=ao;have s3:=s2.up (o:=.lst (dl.map D.str)) J2;generalize up S2 pc (.lst (dl.map D.str))=S3 at c1 c2 s3 ⊢;nofun;refine f9 (λi=>.bl (decide (dl.getD i ""∈kk))) (by rw[az];lia) c2 ?_ ?_
   ·intro i d hd P hP;rw[aK]at hd;obtain⟨a,ha,rfl⟩:=bW.mp hd;rw[bJ,ha]at hP;nofun;exact hP
   intro p4 mC;nofun;have eb:((aZ (dl.map D.str).length).map λi=>D.bl (decide (dl.getD i ""∈kk)))=(dl.map λt=>decide (t∈kk)).map D.bl:=by
    rw[az,dC];apply gP;intro i;rw[aK,aK];by_cases hi:i<dl.length
    ·rw[iS hi,aU hi];simp[bJ,hi]
    ·rw[dh (by simpa using hi),dh (by lia)];rfl
   rw[eb];refine sy ao ?_;have ea:((dl.map λt=>decide (t∈kk)).any id)=decide (∃t∈dl,t∈kk):=by
    rw[fv];simp
   rw[ea];nofun;refine⟨s3.up mC,?_⟩;rw[if_pos (by rw[hxp]),<-hdl]at hq';by_cases hz:∃t∈dl,t∈kk
   ·rw[if_pos hz]at hq';rw[decide_eq_true hz];exact hq'
   ·rw[if_neg hz]at hq';rw[decide_eq_false hz];exact hq'
  ·nofun;exact⟨s2,by simpa[hxp]using hq'⟩
inductive YR(n:Nat)(ds:List D)(S:ah)(q:List D->Prop):Prop where
 |mk (e:Er) (s:Sy) (kn:Addr) (k:List Str) (_:ds=[e.d,s.d,.ref kn]) (_:S kn=some (.lst (k.map D.str))) (_:o7 n e s k) (_:q ((((s.bY Sy.pfx k).map (cS cb e)).flatten).map af))
def AX(n:Nat):aY:=jQ (YR n)
theorem J3(h:aE K mg "_law_graphs_in" mq ["errand","saying","known"])(G:Gs K mg)(C0:ay P w K mg base 1 "_law_prefixes" ["saying"] AU)(C1:ay P w K mg base 2 "_law_told" ["param","saying","known"] J1) :
 ∀n:Nat,ay P w K mg base (n+2) "_law_graphs_in" ["errand","saying","known"] (AX n)
 |0=>h.SO (by rintro ds S Q E ⟨e,s,_,_,_,_,hk,_⟩;have:=hk.deep;cases s<;>simp[Sy.deep]at this) _
 |n+1=>by
  have wJ:=J3 h G C0 C1 n;have qb:=C0.mono (show 1<=n+2 by lia);have AY:=C1.mono (show 2<=n+2 by lia);refine h.jQ nJ (by rintro ds S q ⟨_,_,_,_,e,_⟩;rw[e];rfl) λf cdv A outer s0 H E ds S q hr hA=>?_;obtain⟨e,s,kn,k,rfl,hS,hok,hq⟩:=hA;refine⟨_,(aq (aI (i:=3) nJ.nd rfl (Or.inl rfl) (dA ai))
 (aq (bN (aX bP eT (aA aG aH (aa 1) aj (λ_ _=>rfl)) bh (aV _)) (aq (aI (i:=4) nJ.nd rfl (Or.inl rfl) (cZ fA fF rfl G.tuple fw (ae (Va (bQ:=av mq) (N:=["errand","saying","known","found","rows","one","k","more"]) (M:=["saying","known"]) (js:=[1,2]) ⟨rfl,by cbv,by cbv,by cbv,by cbv,by cbv⟩ (by cbv) (by cbv) rfl (gF (aA aG aH (aa 0) aj (λ_ _=>rfl))) (λ_ _ _ _ _=>dU) (λ_ _ _ _ _=>(cZ fA fF rfl G.tuple fw (ae (WD (Am:=av mq) (M:=["x","known"]) (js:=[0,2]) ⟨rfl,by cbv,by cbv,by cbv,by cbv,by cbv⟩ (by cbv) (by cbv) (gF (aA aG aH (aa 1) aj (λ_ _=>rfl))) (λ_ _ _ _ _=>dU) (λ_ _ _ _ _=>(aJ AY hr rfl (ae (aa 1) (ae (aa 0) (ae (aa 2) ai)))))) ai)))) ai)))
 (aq (dY (eh d6 fN gh fB fZ (aa 3) (ae (bM (ae (aA aG aH (aa 0) aj (λ_ _=>rfl)) (ae (aA aG aH (aa 1) aj (λ_ _=>rfl)) (ae (aa 4) ai)))) ai)))
 (aq (c7 dk rfl (gF (aA aG aH (aa 1) aj (λ_ _=>rfl))) (ck (i:=5) nJ.nd rfl (Or.inl rfl)) (aB (dY (eh d6 xj DC yH zf (aa 3) (ae (aJ wJ hr rfl (ae (aa 0) (ae (aa 5) (ae (aa 2) ai)))) ai)))))
 (aB (aS (aa 3)))))) bj)
 (aq (bN (cH.pt (w_or (aX bP eT (aA aG aH (aa 1) aj (λ_ _=>rfl)) bh (aV _)) (i_ (aX bP eT (aA aG aH (aa 1) aj (λ_ _=>rfl)) bh (aV _))))) (aB (aS (aa 3))) bj)
 (aq (c7 dk rfl (Rk rfl G.range (ae aj (ae (b9 dG dI rfl G.len dD (ae (aa 1) ai)) ai))) (ck (i:=6) nJ.nd rfl (Or.inl rfl)) (aq (aI (i:=7) nJ.nd rfl (Or.inl rfl) (aa 2))
 (aq (bN (cH.pt (w_and (aX bP eT (aA aG aH (aa 1) aj (λ_ _=>rfl)) bh (aV _)) (gD (aX bP dn (aa 6) aj (aV _))))) (aB (aI (i:=7) nJ.nd rfl (Or.inl rfl) (aD oo oI (aa 2) (aJ qb hr rfl (ae (aA aG aH (aa 1) aj (λ_ _=>rfl)) ai))))) bj)
 (aB (dY (eh d6 xj DC yH zf (aa 3) (ae (aJ wJ hr rfl (ae (aa 0) (ae (aA aG aH (aa 1) (aa 6) (λ_ _=>rfl)) (ae (aa 7) ai)))) ai)))))))
 (aB (aS (aa 3))))))),?_⟩
  have hall:=hok.all;have agK:=hok.HY;have hkl:=hok.kl;have hdp:=hok.deep;have hsz:=hok.size;have hps:=hok.ps;have hfin:∀{S':ah} {pf:Addr} {j:Nat},S pf=none->Sub S S'->S' pf=some (.lst ((eD e s k j).map af))->s.parts.length<=j->∃p ys,D.ref pf=.ref p/\S p=none/\Sub S S'/\S' p=some (.lst ys)/\q ys:=λ{S' pf j} h1 h2 h3 h4=>by
   rw[Vp h4]at h3;exact⟨pf,_,rfl,h1,h2,h3,hq⟩
  have hstep:∀{S':ah} {pf:Addr} {j:Nat} {a:Sy} {k':List Str} {ka:Addr} {Q:K3},S pf=none->Sub S S'->S' pf=some (.lst ((eD e s k j).map af))->(s.pp Sy.pfx k)[j]?=some (a,k')->S' ka=some (.lst (k'.map D.str)) ->
   (∀pl:Addr,S' pl=none->∀ys:List D,(((eD e s k j).map af)++ys).length<=100000->ys=(((a.bY Sy.pfx k').map (cS cb e)).flatten).map af->Sub S (up (up S' pl (.lst ys)) pf (.lst (((eD e s k j).map af)++ys))) ->
    up (up S' pl (.lst ys)) pf (.lst (((eD e s k j).map af)++ys)) pf=some (.lst ((eD e s k (j+1)).map af))->Q (.ref pl) (up S' pl (.lst ys)))->AX n [e.d,a.d,.ref ka] S' Q (λ_ _ _=>False):=λ{S' pf j a k' ka Q} h1 h2 h3 h4 h5 h6=>by
   refine⟨e,a,ka,k',rfl,h5,hok.part (bS h4),λpl hpl=>h6 pl hpl _ ?_ rfl ?_ ?_⟩
   ·have:=Vq (e:=e) (s:=s) (k:=k) (j:=j+1);rw[HZ h4,bx]at this;rw[bx,az,az];lia
   ·exact(h2.up hpl).at h1
   ·rw[ao,HZ h4,cA]
  by_cases hsend:∃x as,s=.send x as
  ·obtain⟨x,as,rfl⟩:=hsend;have has:as.length<=1000:=(hall (Sy.send x as) (by rw[Sy.m8];exact cF)).1;have hin:∀a∈as,∀b∈a.pre,b∈(Sy.send x as).pre:=λa ha b hb=>by rw[Sy.m8];exact cL _ (zY ha hb)
   have YS:∀a:Sy,a∈a.pre:=λa=>by rw[Sy.m8];exact cF
   simp only[Sy.d,Sy.kK];unfold Er.d;nofun;intro pf hpf;have hS1:=au (o:=.lst []) hS hpf;nofun;refine sD (λi=>bg (as.map λa=>cb (e.ps.getD i "") a k)) (by rw[az];lia) (λ_ _=>trivial) ?_ ?_
   ·intro i d S2 hd s2;rw[aK]at hd;obtain⟨p,hp,rfl⟩:=bW.mp hd;refine⟨[some (.str p)],rfl,λP hP=>?_⟩;rw[bJ,hp]at hP;have k2:=s2 _ _ hS1;nofun;refine sD (λj=>.int (cb p (as.getD j .b6) k)) (by rw[az];lia) (λ_ _=>trivial) ?_ ?_
    ·intro j d S3 hd s3;rw[aK]at hd;obtain⟨a,ha,rfl⟩:=bW.mp hd;refine⟨[some a.d],rfl,λP hP=>?_⟩;rw[bJ,ha]at hP;have k3:=s3 _ _ k2;have p_:=bS ha;have had:=Sy.vG p_;simp only[Sy.deep]at hdp;have hpl:=zX a;nofun;exact⟨p,a,kn,k,rfl,k3,by lia,(hall a (hin a p_ a (YS a))).2,by lia,hP _ (Sub.refl _)⟩
    intro S3 s3;have el:((aZ (as.map Sy.d).length).map λj=>D.int (cb p (as.getD j .b6) k))=(as.map λa=>cb p a k).map D.int:=show _ by
     rw[az,dC];apply gP;intro i;rw[aK,aK];by_cases hi:i<as.length
     ·rw[iS hi,aU hi];simp[bJ,hi]
     ·rw[dh (by simpa using hi),dh (by lia)];rfl
    rw[el];intro p4 mC;nofun;exact hP _ (s3.up mC)
   intro S4 s4;have el:((aZ (e.ps.map D.str).length).map λi=>bg (as.map λa=>cb (e.ps.getD i "") a k))=(e.ps.map λp=>as.map λa=>cb p a k).map bg:=by
    rw[az,dC];apply gP;intro i;rw[aK,aK];by_cases hi:i<e.ps.length
    ·rw[iS hi,aU hi];simp[bJ,hi]
    ·rw[dh (by simpa using hi),dh (by lia)];rfl
   rw[el];intro p5 su;have g1:=au (o:=.lst ((e.ps.map λp=>as.map λa=>cb p a k).map bg)) (s4 _ _ hS1) su;have g2:=au (o:=.lst ((e.ps.map λp=>as.map λa=>cb p a k).map bg)) (s4 _ _ (show up S pf (.lst []) pf=some (.lst []) from ao)) su;have g3:Sub S (up S4 p5 (.lst ((e.ps.map λp=>as.map λa=>cb p a k).map bg))):=(((Sub.refl S).up hpf).trans s4).up su;have g0:up S4 p5 (.lst ((e.ps.map λp=>as.map λa=>cb p a k).map bg)) p5=_:=ao;generalize up S4 p5 (.lst ((e.ps.map λp=>as.map λa=>cb p a k).map bg))=S5 at g0 g1 g2 g3 ⊢;nofun;refine fG g2 (by decide) ?_;nofun;have e0:([]:List D)++[D.tup [.str e.name,.str x,.tup ((e.ps.map λp=>as.map λa=>cb p a k).map bg)]]=(eD e (.send x as) k 0).map af:=by
    rw[zZ];simp[cS,af,c_,eC]
   rw[e0];refine⟨λj σ S'=>j5 λx4 x5 x6 x7=>σ=[some e.d,some (Sy.send x as).d,some (.ref kn),some (.ref pf),x4,x5,x6,x7]/\Sub S S'/\S' pf=some (.lst ((eD e (.send x as) k j).map af)),
    ⟨_,_,_,_,by simp only[Sy.d,Sy.kK,Er.d];rfl,g3.at hpf,ao⟩,λ_ _ _ _=>trivial,?_,?_⟩
   ·rintro j d σ S' hd ⟨x4,x5,x6,x7,rfl,h1,h2⟩;rw[aK]at hd;obtain⟨a,ha,rfl⟩:=bW.mp hd;have hpp:=H_ (s:=.send x as) (k:=k) ha (λ_ _ _ z=>by cases z);nofun;refine hstep hpf h1 h2 hpp (h1 _ _ hS) λpl hpl ys hl hy q1 q2=>?_;nofun;refine oO (au h2 hpl) ao (by rw[<-bx];exact c9 (by lia)) ?_;exact⟨_,_,_,_,rfl,q1,q2⟩
   ·rintro σ S' ⟨x4,x5,x6,x7,rfl,h1,h2⟩;nofun;exact hfin hpf h1 h2 (by simp[Sy.parts])
  by_cases tJ:(∃x,s=.name x)∨s=.b6
  ·have hp0:s.parts=[]:=by rcases tJ with⟨x,rfl⟩|rfl<;>rfl
   have hg0:eD e s k 0=[]:=by rw[zZ];rcases tJ with⟨x,rfl⟩|rfl<;>rfl
   rcases tJ with⟨x,rfl⟩|rfl
   all_goals
    simp only[Sy.d];nofun;intro pf hpf;nofun;exact hfin (j:=0) hpf ((Sub.refl S).up hpf) (by rw[ao,hg0];rfl) (by rw[hp0];exact a8 _)
  have hg0:eD e s k 0=[]:=by
   rw[zZ];cases s<;>first|rfl|exact(hsend ⟨_,_,rfl⟩).elim
  have mC:s.parts.length<=3:=by
   cases s<;>first|exact(hsend ⟨_,_,rfl⟩).elim|exact a8 _|simp[Sy.parts]
  by_cases AZ:∃a b c,s=.fork a b c
  ·obtain⟨a,b,c,rfl⟩:=AZ;have had:a.deep<=50:=by simp only[Sy.deep]at hdp;lia
   have hab:=(hall a (by simp only[Sy.pre];exact cL _ (lu _ (by rw[Sy.m8];exact cF)))).2;have hpa:=zX a;have hl1:(([D.str "fork",a.d,b.d,c.d]:List D).length:Int)<=4:=by simp
   have hl0:(0:Int)<=(([D.str "fork",a.d,b.d,c.d]:List D).length:Int):=by simp
   simp only[Sy.d];nofun;intro pf hpf;have hS1:=au (o:=.lst []) hS hpf;nofun;refine⟨λj σ S'=>j5 λx4 x5 x6 x7=>σ=[some e.d,some (Sy.fork a b c).d,some (.ref kn),some (.ref pf),x4,x5,x6,x7]/\Sub S S'/\S' pf=some (.lst ((eD e (.fork a b c) k j).map af)),
    ⟨_,_,_,_,rfl,(Sub.refl S).up hpf,by rw[ao,hg0];rfl⟩,λ_ _ _ _=>trivial,?_,?_⟩
   ·rintro j d σ S' hd ⟨x4,x5,x6,x7,rfl,h1,h2⟩;obtain⟨hj,rfl⟩:=fj hd;have J4:j<3:=hj;simp only[Sy.d];rcases(by lia:j=0∨j=1∨j=2) with rfl|rfl|rfl
    ·nofun;refine hstep (k':=k) hpf h1 h2 rfl (h1 _ _ hS) λpl hpl ys hl hy q1 q2=>?_;nofun;refine oO (au h2 hpl) ao (by rw[<-bx];exact c9 (by lia)) ?_;exact⟨_,_,_,_,rfl,q1,q2⟩
    ·nofun;refine⟨a,rfl,by lia,hab,?_⟩;intro pp hpp;have m1:=au (o:=.lst (a.pfx.map D.str)) (h1 _ _ hS) hpp;refine jc m1 ao (by rw[az,az];exact c9 (by lia)) ?_;intro pk cg;rw[<-cA];have m2:=au (o:=.lst ((k++a.pfx).map D.str)) (au (o:=.lst (a.pfx.map D.str)) h2 hpp) cg;have m3:=(h1.up (o:=.lst (a.pfx.map D.str)) hpp).up (o:=.lst ((k++a.pfx).map D.str)) cg;have m4:up (up S' pp (.lst (a.pfx.map D.str))) pk (.lst ((k++a.pfx).map D.str)) pk=_:=ao;generalize up (up S' pp (.lst (a.pfx.map D.str))) pk (.lst ((k++a.pfx).map D.str))=S6 at m2 m3 m4 ⊢;nofun;refine hstep (k':=k++a.pfx) hpf m3 m2 rfl m4 λpl hpl ys hl hy q1 q2=>?_;nofun;refine oO (au m2 hpl) ao (by rw[<-bx];exact c9 (by lia)) ?_;exact⟨_,_,_,_,rfl,q1,q2⟩
    ·nofun;refine hstep (k':=k) hpf h1 h2 rfl (h1 _ _ hS) λpl hpl ys hl hy q1 q2=>?_;nofun;refine oO (au h2 hpl) ao (by rw[<-bx];exact c9 (by lia)) ?_;exact⟨_,_,_,_,rfl,q1,q2⟩
   ·rintro σ S' ⟨x4,x5,x6,x7,rfl,h1,h2⟩;nofun;exact hfin hpf h1 h2 (by simp[Sy.parts,dE])
  have et:∃t,s.d=.tup (.str t::s.parts.map Sy.d)/\¬t="send"/\¬t="name"/\¬t="bud"/\¬t="fork":=by
   cases s<;>first|exact⟨_,rfl,by decide,by decide,by decide,by decide⟩|exact(hsend ⟨_,_,rfl⟩).elim|exact(AZ ⟨_,_,_,rfl⟩).elim|exact(tJ (.inl ⟨_,rfl⟩)).elim|exact(tJ (.inr rfl)).elim
  obtain⟨t,ed,t1,t2,t3,t4⟩:=et;have hl1:((D.str t::s.parts.map Sy.d).length:Int)<=4:=by simp only[cK,az];lia
  have hl0:(0:Int)<=((D.str t::s.parts.map Sy.d).length:Int):=by lia
  rw[ed];nofun;intro pf hpf;have hS1:=au (o:=.lst []) hS hpf;nofun;refine⟨λj σ S'=>j5 λx4 x5 x6 x7=>σ=[some e.d,some (.tup (.str t::s.parts.map Sy.d)),some (.ref kn),some (.ref pf),x4,x5,x6,x7]/\Sub S S'/\S' pf=some (.lst ((eD e s k j).map af)),
   ⟨_,_,_,_,rfl,(Sub.refl S).up hpf,by rw[ao,hg0];rfl⟩,λ_ _ _ _=>trivial,?_,?_⟩
  ·rintro j d σ S' hd ⟨x4,x5,x6,x7,rfl,h1,h2⟩;obtain⟨hj,rfl⟩:=fj hd;have J4:j<s.parts.length:=by
    simp only[cK,az]at hj;lia
   obtain⟨a,ha⟩:∃a,s.parts[j]?=some a:=⟨_,aU J4⟩;have hpp:=H_ (k:=k) ha (λx y z z'=>absurd ⟨x,y,z,z'⟩ AZ);have hat:cy (D.str t::s.parts.map Sy.d) (1+(j:Int))=some a.d:=by
    have e:(1:Int)+(j:Int)=((j+1:Nat):Int):=by lia
    rw[e];refine gA ?_;rw[List.getElem?_cons_succ,aK,ha];rfl
   nofun;refine ma hat ?_;nofun;refine hstep hpf h1 h2 hpp (h1 _ _ hS) λpl hpl ys hl hy q1 q2=>?_;nofun;refine oO (au h2 hpl) ao (by rw[<-bx];exact c9 (by lia)) ?_;exact⟨_,_,_,_,rfl,q1,q2⟩
  ·rintro σ S' ⟨x4,x5,x6,x7,rfl,h1,h2⟩;nofun;refine hfin hpf h1 h2 ?_;rw[dE];simp only[cK,az];lia
inductive YT (ds:List D)(S:ah)(q:List D->Prop):Prop where
 |mk (a:Addr) (prog:List Er) (_:ds=[.ref a]) (_:S a=some (.lst (prog.map Er.d))) (_:(∀e∈prog,o7 20 e e.body [])) (_:(dB cb Sy.pfx prog).length<=100000) (_:q ((dB cb Sy.pfx prog).map af))
def J5 :aY:=jQ YT
theorem YU(h:aE K mg "_law_graphs" pU ["program"])(G:Gs K mg)(wJ:ay P w K mg base 22 "_law_graphs_in" ["errand","saying","known"] (AX 20)) :
 ay P w K mg base 23 "_law_graphs" ["program"] J5:=show _ by
 refine h.jQ Av (by rintro ds S q ⟨_,_,e,_⟩;rw[e];rfl) λf cdv A outer s0 H E ds S q hr hA=>?_;obtain⟨pr,prog,rfl,hS,hok,hz,hq⟩:=hA;refine⟨_,(aq (aI (i:=1) Av.nd rfl (Or.inl rfl) (dA ai))
 (aq (c7 dk rfl (eu (aa 0)) (ck (i:=2) Av.nd rfl (Or.inl rfl)) (aB (dY (eh d6 xj DC yH zf (aa 1) (ae (aJ wJ hr rfl (ae (aa 2) (ae (aA aG aH (aa 2) aj (λ_ _=>rfl)) (ae (dA ai) ai)))) ai)))))
 (aB (aS (aa 1))))),?_⟩
 nofun;intro pf hpf;have hS1:=au (o:=.lst []) hS hpf;nofun;refine⟨λi σ S'=>∃x2,σ=[some (.ref pr),some (.ref pf),x2]/\Sub S S'/\S' pf=some (.lst ((dB cb Sy.pfx (prog.take i)).map af)),⟨none,rfl,(Sub.refl S).up hpf,by rw[ao];rfl⟩,
  λi σ S' ⟨x2,_,h1,_⟩=>h1 _ _ hS,?_,?_⟩
 ·rintro i d σ S' hd ⟨x2,rfl,h1,h2⟩;rw[aK]at hd;obtain⟨e,he,rfl⟩:=bW.mp hd;have p7:e∈prog:=bS he;have hsn:=JG (told:=cb) (ext:=Sy.pfx) he;have hbd:=JH (told:=cb) (ext:=Sy.pfx) (prog:=prog) (i+1);rw[hsn,bx]at hbd;have ed:e.d=.tup [.str e.name,.tup (e.ps.map D.str),e.body.d]:=rfl;rw[ed];nofun;intro p0 hp0;nofun;refine⟨e,e.body,p0,[],rfl,ao,hok e p7,?_⟩;intro pl hpl;have m1:=au (o:=.lst ((((e.body.bY Sy.pfx []).map (cS cb e)).flatten).map af)) (au (o:=.lst []) h2 hp0) hpl;nofun;refine oO m1 ao (by rw[az,az];exact c9 (by lia)) ?_;refine⟨_,rfl,((h1.up hp0).up hpl).at hpf,?_⟩;rw[ao,hsn,cA]
 ·rintro σ S' ⟨x2,rfl,h1,h2⟩;rw[az,iN]at h2;nofun;exact⟨pf,_,rfl,hpf,h1,h2,hq⟩
abbrev aC(prog:List Er):List Gr:=dB bb Sy.bases prog
structure qc(ar:Str->Option Nat)(prog:List Er):Prop where
 gr:∀e∈prog,Az e
 len:(aC prog).length<=1000
 gd:∀g∈aC prog,Gd ar g
theorem YV{x:Str}(h:eV x):x.length<=1000:=by
 obtain⟨cs,rfl,_,h8,_⟩:=h;show(textOf cs).cps.size<=1000;simp only[textOf,cu];lia
theorem YW(p:Str)(a:Sy)(k:List Str):0<=bb p a k/\bb p a k<=2:=by
 cases a<;>simp only[bb]<;>(repeat split)<;>decide
theorem YX{prog:List Er}{g:Gr}:g∈aC prog↔∃e∈prog,g∈((e.body.bY Sy.bases []).map (cS bb e)).flatten:=show _ by
 unfold aC dB;rw[Dr];constructor
 ·rintro⟨l,hl,hg⟩;obtain⟨e,he,rfl⟩:=bG.mp hl;exact⟨e,he,hg⟩
 ·rintro⟨e,he,hg⟩;exact⟨_,iQ he,hg⟩
theorem A0{prog:List Er}(nd:(prog.map Er.name).Nodup){e:Er}(he:e∈prog):aR prog e.name=some e.ps.length:=show _ by
 obtain⟨i,hi,rfl⟩:=gO he;exact vH nd (i:=i) (by rw[aK,aU hi];rfl) (by rw[aK,aU hi];rfl)
theorem Pg.gd{prog:List Er}(h:Pg prog):∀g∈aC prog,Gd (aR prog) g/\VW (prog.map Er.name) g:=show _ by
 intro g hg;obtain⟨e,he,hg⟩:=YX.mp hg;obtain⟨l,hl,hg⟩:=Dr.mp hg;obtain⟨⟨s,k⟩,hs,rfl⟩:=bG.mp hl;have hm:s∈e.body.pre:=by rw[<-Sy.hU Sy.bases e.body []];exact iQ (f:=b8) hs
 have hw:=(h.body e he).wf;have hws:=Sy.hV hw s hm;obtain⟨p1,p4,_,_⟩:=h.ps e he;cases s with
 |send x as =>
  simp only[cS,cz]at hg;subst hg;simp only[Sy.wf]at hws;refine⟨⟨e.ps.length,as.length,A0 h.nd he,hws.1,p1,hws.2.1,p4,hws.2.2.1,by simp,λr hr=>?_,λr hr x hx=>?_⟩,iQ he,IP hws.1⟩
  ·obtain⟨p,_,rfl⟩:=bG.mp hr;simp
  ·obtain⟨p,_,rfl⟩:=bG.mp hr;obtain⟨a,_,rfl⟩:=bG.mp hx;exact YW p a k
 |_=>simp[cS]at hg
theorem Pg.YY{prog:List Er}(h:Pg prog):∀e∈prog,Az e:=λe he=>by
 have hb:=h.body e he;refine⟨by have:=hb.size;lia,λp hp=>⟨?_,?_⟩,by have:=(h.ps e he).2.1;lia⟩
 ·have:=HW Vo 12 e.body [] hb.deep p hp;simp only[fO]at this;lia
 ·have hm:p.1∈e.body.pre:=show _ by rw[<-Sy.hU Sy.bases e.body []];exact iQ (f:=b8) hp
  have:=HR (Sy.hV hb.wf p.1 hm);lia
theorem Pg.ok{prog:List Er}(h:Pg prog):qc (aR prog) prog:=show _ by
 refine⟨h.YY,?_,λg hg=>(h.gd g hg).1⟩;have h1:=zV (told:=bb) (ext:=Sy.bases) (λe he=>(h.body e he).sends);have h2:=h.len;have h3:prog.length*12<=12*12:=Nw _ h2;show(dB bb Sy.bases prog).length<=1000;lia
theorem Pg.gi{prog:List Er}(h:Pg prog):∀e∈prog,o7 20 e e.body []:=λe he=>by
 have hb:=h.body e he;refine⟨by have:=hb.deep;lia,by decide,by decide,by have:=(h.ps e he).2.1;lia,by have:=hb.size;lia,λa ha=>⟨?_,λx hx=>?_⟩⟩
 ·have:=HR (Sy.hV hb.wf a ha);lia
 ·exact YV ((h.ps e he).2.2.2 x (v5 (Sy.hV hb.wf a ha) hx))
theorem Pg.same{prog:List Er}(h:Pg prog):dB cb Sy.pfx prog=aC prog :=
 (Vk λe he=>⟨(h.ps e he).2.2.2,(h.body e he).wf⟩).symm
inductive YZ(adr:Rf->Addr)(ds:List D)(S:ah)(q:List D->Prop)(qx:Addr->Prop):Prop where
 |mk (pr:Addr) (prog:List Er) (ar:Str->Option Nat) (_:ds=[.ref pr]) (_:S pr=some (.lst (prog.map Er.d))) (_:qc ar prog) (_:(∀F,eZ (dg (aC prog))=some F->q (F.map dM))) (_:(eZ (dg (aC prog))=none->qx (adr .many)))
def J6(adr:Rf->Addr):aY:=oY (YZ adr)
theorem Y0{k:Nat}(h:aE K mg "closure" pC ["program"])(G:Gs K mg)(la:ay P w K mg base k "graphs" ["program"] wx)(A1:ay P w K mg base k "closure_of" ["numbered"] (JN adr)) :
 ay P w K mg base (k+1) "closure" ["program"] (J6 adr):=show _ by
 refine h.oY W9 (by rintro ds S q qx ⟨_,_,_,e,_⟩;rw[e];rfl) λf cdv A outer s0 H E ds S q qx hr hA=>?_;obtain⟨pr,prog,ar,rfl,hS,hok,hy,hn⟩:=hA;refine⟨_,(aB (aS (aJ A1 hr rfl (ae (VM rfl G.list rfl G.enumerate rfl (ae (aJ la hr rfl (ae (aa 0) ai)) ai)) ai)))),?_⟩;have hl:=hok.len;nofun;refine⟨pr,prog,rfl,hS,hok.gr,by show(aC prog).length<=100000;lia,?_⟩;intro pg tK;have g1:up S pg (.lst ((aC prog).map af)) pg=some (.lst ((aC prog).map af)):=ao;have s1:Sub S (up S pg (.lst ((aC prog).map af))):=(Sub.refl S).up tK;generalize up S pg (.lst ((aC prog).map af))=S1 at g1 s1 ⊢;nofun;refine sD (λi=>(fH ((aC prog).map af)).getD i .non) (by rw[sJ,az];lia) (λS hs=>hs _ _ g1) ?_ ?_
 ·intro i d S2 hd hs;refine vQ λP hP=>?_;rw[bJ,hd]at hP;nofun;exact hP _ (Sub.refl _)
 intro S2 s2;have el:((aZ (fH ((aC prog).map af)).length).map λi=>(fH ((aC prog).map af)).getD i .non)=(dg (aC prog)).map kP:=by
  rw[<-VU];apply gP;intro i;rw[aK];by_cases hi:i<(fH ((aC prog).map af)).length
  ·rw[iS hi,aU hi];simp[bJ,hi]
  ·rw[dh (by simpa using hi),dh (by lia)];rfl
 rw[el];intro pn hpn;have s3:Sub S (up S2 pn (.lst ((dg (aC prog)).map kP))):=(s1.trans s2).up hpn;have g3:up S2 pn (.lst ((dg (aC prog)).map kP)) pn=_:=ao;generalize up S2 pn (.lst ((dg (aC prog)).map kP))=S3 at s3 g3 ⊢;nofun;refine⟨pn,_,ar,rfl,g3,by rw[VV];exact hl,λp hp=>hok.gd _ (Ai hp),λF eF=>?_,λeF a=>⟨s3,hn eF⟩⟩;intro pf hpf;nofun;exact⟨pf,_,rfl,s3.free hpf,s3.up hpf,ao,hy F eF⟩
theorem J7{ar:Str->Option Nat}{nb:List (Int×Gr)}{F:CL.Fd Gr}(h:∀p∈nb,Gd ar p.2)(e:eZ nb=some F):∀p∈F,Gd ar p.1:=λp hp =>
 CL.Vt (Pr:=Gd ar) h (λa ha p hp hf=>ha.cmp (h p hp) (by simpa[df]using hf)) e p.1 (iQ (f:=b8) hp)
theorem Y1{F:CL.Fd Gr}{S S1:ah}{q:D->ah->Prop}(h:wF F S q)(hs:Sub S S1):wF F S1 λd T=>∃T',Sub T' T/\q d T' :=
 ⟨λw e=>⟨S,hs,h.1 w e⟩,λe p hp=>⟨_,hs.upd,h.2 e p (hs.free hp)⟩⟩
inductive Y2(adr:Rf->Addr)(ds:List D)(S:ah)(q:D->ah->Prop)(qx:Addr->Prop):Prop where
 |mk (pr:Addr) (prog:List Er) (ar:Str->Option Nat) (_:ds=[.ref pr]) (_:S pr=some (.lst (prog.map Er.d))) (_:qc ar prog) (_:(∀F,eZ (dg (aC prog))=some F->wF F S q)) (_:(eZ (dg (aC prog))=none->qx (adr .many)))
def J8(adr:Rf->Addr):aY:=mj (Y2 adr)
theorem Y3{k:Nat}(h:aE K mg "judged" pD ["program"])(G:Gs K mg)(A2:ay P w K mg base k "closure" ["program"] (J6 adr))(A3:ay P w K mg base k "telling_of" ["pairs"] JR) :
 ay P w K mg base (k+1) "judged" ["program"] (J8 adr):=show _ by
 refine h.mj W_ (by rintro ds S q qx ⟨_,_,_,e,_⟩;rw[e];rfl) λf cdv A outer s0 H E ds S q qx hr hA=>?_;obtain⟨pr,prog,ar,rfl,hS,hok,hy,hn⟩:=hA;refine⟨_,(aB (aS (aJ A3 hr rfl (ae (aJ A2 hr rfl (ae (aa 0) ai)) ai)))),?_⟩;nofun;refine⟨pr,prog,ar,rfl,hS,hok,λF eF=>?_,λeF a=>⟨Sub.refl _,hn eF⟩⟩;intro pf hpf;have hc:=CL.Aa eF;nofun;exact⟨pf,F,ar,rfl,ao,hc.ok.len,J7 (λp hp=>hok.gd _ (Ai hp)) eF,Y1 (hy F eF) ((Sub.refl S).up hpf)⟩
def dc(gs:List Gr)(n:Int):Gr:=gs.getD n.toNat ("","",[])
def f_(gs:List Gr):Gr->List Int->Option Gr
 |g,[]=>some g
 |g,n::l=>if g.2.1=(dc gs n).1 then f_ gs (bu g (dc gs n)) l else none
abbrev nS(gs:List Gr)(way:List Int):Prop:=∀n∈way,0<=n/\n<(gs.length:Int)
def wK(gs:List Gr):List Int->Option Gr
 |[]=>none
 |n::l=>f_ gs (dc gs n) l
def dF(gs:List Gr)(way:List Int):Option Gr:=if nS gs way then wK gs way else none
theorem tL{gs:List Gr}{n:Int}(h0:0<=n)(h:n<(gs.length:Int)):dc gs n∈gs:=by
 unfold dc;rw[bJ,aU (by lia)];exact kf _
theorem J9{gs:List Gr}{n:Int}:∀{l:List Int} {g h:Gr},f_ gs g l=some h->h.2.1=(dc gs n).1->f_ gs g (l++[n])=some (bu h (dc gs n))
 |[],g,h,e,hf=>by
  cases e;rw[M4,f_,if_pos hf,f_]
 |m::l,g,h,e,hf=>by
  rw[f_]at e;rw[lq,f_]
  split at e
  ·rename_i c
   rw[if_pos c];exact J9 e hf
  ·cases e
theorem Y4{gs:List Gr}{n:Int}(h0:0<=n)(h:n<(gs.length:Int)):dF gs [n]=some (dc gs n):=by
 unfold dF;rw[if_pos λx hx=>by rw[cz.mp hx];exact⟨h0,h⟩];rfl
theorem Y5{gs:List Gr}{w:List Int}{n:Int}{h:Gr}(e:dF gs w=some h)(h0:0<=n)(hl:n<(gs.length:Int))(hf:h.2.1=(dc gs n).1):dF gs (w++[n])=some (bu h (dc gs n)):=show _ by
 unfold dF at e ⊢
 split at e
 ·rename_i hr
  rw[if_pos λx hx=>by
   rcases bF.mp hx with hx|hx
   ·exact hr x hx
   ·rw[cz.mp hx];exact⟨h0,hl⟩]
  cases w with
  |nil=>cases e
  |cons m l=>exact J9 (l:=l) e hf
 ·cases e
section
variable{nb:List (Int×Gr)}{Pr:Gr×List Int->Prop}
theorem J_{f f':CL.Fd Gr}{g:Gr}{w:List Int}(h:∀p∈f,Pr p)(hg:Pr (g,w))(e:CL.putN f g w=some f'):∀p∈f',Pr p:=show _ by
 unfold CL.putN at e
 split at e
 ·cases e;exact h
 ·split at e
  ·cases e
  ·cases e;intro p hp;rcases bF.mp hp with hp|hp
   ·exact h p hp
   ·rw[cz.mp hp];exact hg
theorem J':∀{l:List (Int×Gr)} {f f':CL.Fd Gr},(∀p∈l,Pr (p.2,[p.1]))->(∀p∈f,Pr p)->CL.hW l f=some f'->∀p∈f',Pr p
 |[],f,f',_,h,e=>by cases e;exact h
 |(n,g)::l,f,f',hl,h,e=>by
  rw[CL.hW,fP]at e;obtain⟨f1,e1,e2⟩:=e;exact J' (λp hp=>hl p (cL _ hp)) (J_ h (hl (n,g) cF) e1) e2
theorem Ka{a:Gr×List Int}:∀{l:List (Int×Gr)} {f f':CL.Fd Gr},(∀p∈l,df a.1 p.2=true->Pr (bu a.1 p.2,a.2++[p.1]))->(∀p∈f,Pr p)->CL.put2 df bu a l f=some f'->∀p∈f',Pr p
 |[],f,f',_,h,e=>by cases e;exact h
 |(n,g)::l,f,f',hl,h,e=>by
  rw[CL.put2,fP]at e;obtain⟨f1,e1,e2⟩:=e;refine Ka (λp hp=>hl p (cL _ hp)) ?_ e2
  split at e1
  ·rename_i hf
   exact J_ h (hl (n,g) cF hf) e1
  ·cases e1;exact h
theorem Kb(hn:∀a,Pr a->∀p∈nb,df a.1 p.2=true->Pr (bu a.1 p.2,a.2++[p.1])):∀{k place:Nat} {f f':CL.Fd Gr},(∀p∈f,Pr p)->CL.f7 df bu nb k place f=some f'->∀p∈f',Pr p
 |0,_,f,f',h,e=>by cases e;exact h
 |k+1,place,f,f',h,e=>by
  rw[CL.f7]at e;cases ha:f[place]? with
  |none=>rw[ha]at e;cases e;exact h
  |some a =>
   rw[ha]at e;dsimp only at e;rw[fP]at e;obtain⟨f1,e1,e2⟩:=e;exact Kb hn (Ka (hn a (h a (bS ha))) h e1) e2
end
theorem Kc{gs:List Gr}{p:Int×Gr}(h:p∈dg gs):0<=p.1/\p.1<(gs.length:Int)/\dc gs p.1=p.2:=show _ by
 unfold dg at h;obtain⟨⟨g,i⟩,hq,rfl⟩:=bG.mp h;have hi:=Dy.mp hq;have hl:=(bO.mp hi).1;refine⟨by simp,by show(i:Int)<_;have:i<gs.length:=hl;lia,?_⟩;unfold dc;rw[bJ];show(gs[jA (i:Int)]?).getD _=g;rw[fb,hi];rfl
theorem Ke{gs:List Gr}{F:CL.Fd Gr}(e:eZ (dg gs)=some F):∀p∈F,dF gs p.2=some p.1:=show _ by
 show ∀p∈F,dF gs p.2=some p.1;unfold eZ CL.jk at e;rw[fP]at e;obtain⟨f1,e1,e2⟩:=e;refine Kb (Pr:=λp=>dF gs p.2=some p.1) (λa ha p hp hf=>?_) (J' (λp hp=>?_) (λp hp=>by cases hp) e1) e2
 ·obtain⟨h0,hl,eg⟩:=Kc hp;have hf':a.1.2.1=p.2.1:=of_decide_eq_true hf;have:=Y5 ha h0 hl (by rw[eg];exact hf');rw[eg]at this;exact this
 ·obtain⟨h0,hl,eg⟩:=Kc hp;have:=Y4 h0 hl;rw[eg]at this;exact this
theorem Aj{gs:List Gr}{g:Gr}(h:g∈gs):∃n,(n,g)∈dg gs:=by
 obtain⟨i,hi,e⟩:=gO h;refine⟨(i:Int),bG.mpr ⟨(g,i),?_,rfl⟩⟩;exact Dy.mpr (by rw[aU hi,e])
theorem Y6{gs:List Gr}{F:CL.Fd Gr}(e:eZ (dg gs)=some F):(F.map b8).Nodup/\(∀g∈gs,g∈F.map b8)/\∀a∈F.map b8,∀g∈gs,a.2.1=g.1->bu a g∈F.map b8:=show _ by
 have hc:=CL.Aa e;refine⟨hc.ok.nd,λg hg=>?_,λa ha g hg hf=>?_⟩
 ·obtain⟨n,hn⟩:=Aj hg;exact hc.own _ hn
 ·obtain⟨n,hn⟩:=Aj hg;exact hc.up a ha _ hn (decide_eq_true hf)
def j7(r:List Int):DK:=.tup (r.map DK.int)
def fq(g:Gr):DK:=.tup [.str g.1,.str g.2.1,.tup (g.2.2.map j7)]
theorem Kf:∀r:List Int,jZ (r.map D.int)=some (r.map DK.int)
 |[]=>rfl
 |x::r=>by simp[jZ,dZ,Kf r]
theorem Kg:∀A:cI,jZ (A.map bg)=some (A.map j7)
 |[]=>rfl
 |r::A=>by simp[jZ,dZ,bg,j7,Kf r,Kg A]
theorem wL(g:Gr):∃ds,af g=.tup ds/\dZ (.tup ds)=some (fq g):=by
 refine⟨_,rfl,?_⟩;simp[dZ,jZ,eC,fq,Kg]
theorem Kh:∀{r r':List Int},r.map DK.int=r'.map DK.int->r=r'
 |[],[],_=>rfl
 |[],_::_,h=>by cases h
 |_::_,[],h=>by cases h
 |x::r,y::r',h=>by
  simp only[bT,qC,DK.int.injEq]at h;rw[h.1,Kh h.2]
theorem Ki:∀{A B:cI},A.map j7=B.map j7->A=B
 |[],[],_=>rfl
 |[],_::_,h=>by cases h
 |_::_,[],h=>by cases h
 |r::A,r'::B,h=>by
  simp only[bT,qC,j7,DK.tup.injEq]at h;rw[Kh h.1,Ki (A:=A) (B:=B) h.2]
theorem Kj{g h:Gr}(e:fq g=fq h):g=h:=by
 obtain⟨g1,g2,g3⟩:=g;obtain⟨h1,h2,h3⟩:=h;unfold fq at e;simp only[DK.tup.injEq,qC,DK.str.injEq,and_true]at e;obtain⟨e1,e2,e3⟩:=e;rw[e1,e2,Ki e3]
theorem m_{n:Nat}:∀{l:List DK},(∀x∈l,x.deep<=n)->DK.dv l<=n
 |[],_=>by simp[DK.dv]
 |x::l,h=>by
  have h1:=h x cF;have h2:=m_ λy hy=>h y (cL _ hy);simp only[DK.dv];lia
theorem wM(g:Gr):(fq g).deep<=4:=show _ by
 have h1:DK.dv (g.2.2.map j7)<=2:=m_ λx hx=>by
  obtain⟨r,_,rfl⟩:=bG.mp hx;have h0:DK.dv (r.map DK.int)<=1:=m_ λy hy=>by
   obtain⟨z,_,rfl⟩:=bG.mp hy;simp[DK.deep]
  simp only[j7,DK.deep];lia
 simp only[fq,DK.deep,DK.dv];lia
def gT(ks:List Gr):List (DK×D):=ks.map λg=>(fq g,.bl true)
theorem Y7{ks:List Gr}{g:Gr}:(hZ (gT ks) (fq g)).isSome=decide (g∈ks):=show _ by
 rw[fv,decide_eq_true_iff];unfold hZ;rw[xl,List.find?_isSome];constructor
 ·rintro⟨x,hx,e⟩;obtain⟨q,hq,rfl⟩:=bG.mp hx;rw[<-Kj (of_decide_eq_true e)];exact hq
 ·intro h;exact⟨_,iQ (f:=λg=>(fq g,D.bl true)) h,by simp⟩
theorem A4{ks:List Gr}{g:Gr}(h:g∉ks):gI (gT ks) (fq g) (.bl true)=gT (ks++[g]):=show _ by
 unfold gI;rw[if_neg,gT,gT,cA]
 ·rfl
 ·intro z;obtain⟨x,hx,e⟩:=kg.mp z;obtain⟨q,hq,rfl⟩:=bG.mp hx;rw[Kj (of_decide_eq_true e)]at hq;exact h hq
section
variable{S:ah}{Q:K3}{n:aL->ah->Prop}{σ:aL}
theorem A5{neg:Bool}{a:Addr}{ks:List Gr}{g:Gr}(hS:S a=some (.tab (gT ks)))(q:Q (.bl (if neg then !decide (g∈ks) else decide (g∈ks))) S):sN neg Q (.ref a) (af g) S:=show _ by
 obtain⟨ds,e1,e2⟩:=wL g;rw[e1];exact Wy hS e2 (wM g) (by rw[Y7];exact q)
theorem Y8{a:Addr}{ks:List Gr}{g:Gr}(hS:S a=some (.tab (gT ks)))(hz:ks.length<=10000)(hg:g∉ks)(q:n σ (up S a (.tab (gT (ks++[g]))))):o8 n σ (.bl true) (.ref a) (af g) S:=show _ by
 obtain⟨ds,e1,e2⟩:=wL g;rw[e1];exact IZ hS e2 (wM g) (by unfold gT;rw[az];exact eU (by lia)) (by rw[A4 hg];exact q)
end
theorem Y9:((aZ 311).all λn=>decide ((toString ((n:Nat)-10:Int):Str).length<=10/\((n:Nat)-10:Int).natAbs.log2<1920))=true:=by cbv
theorem Kk{a:Int}(h0:-10<=a)(h:a<=300):(toString a:Str).length<=10/\a.natAbs.log2<1920:=show _ by
 have:=mK.mp Y9 (a+10).toNat (gb.mpr (by lia));have e:(((a+10).toNat:Nat)-10:Int)=a:=by lia
 rw[e]at this;exact of_decide_eq_true this
structure wN(way:List Int):Prop where
 len:way.length<=1000
 num:∀x∈way,-10<=x/\x<=300
inductive Y_(adr:Rf->Addr)(ds:List D)(S:ah)(q:D->Prop)(qx:Addr->Prop):Prop where
 |mk (pr:Addr) (prog:List Er) (ar:Str->Option Nat) (way:List Int) (_:ds=[.ref pr,iG way]) (_:S pr=some (.lst (prog.map Er.d))) (_:qc ar prog) (_:wN way) (_:(∀g,dF (aC prog) way=some g->q (af g))) (_:(dF (aC prog) way=none->qx (adr .way)))
def Kl(adr:Rf->Addr):aY:=vz (Y_ adr)
theorem Y'{k:Nat}(h:aE K mg "way_graph" pI ["program","way"])(G:Gs K mg)(R:je K mg ES adr)(la:ay P w K mg base k "graphs" ["program"] wx)(gn:ay P w K mg base k "fit" ["one","other"] p9)
 (iJ:ay P w K mg base k "composed" ["one","other"] (sY adr)):ay P w K mg base (k+1) "way_graph" ["program","way"] (Kl adr):=show _ by
 refine h.vz pJ (by rintro ds S q qx ⟨_,_,_,_,e,_⟩;rw[e];rfl) λf cdv A outer s0 H E ds S q qx hr hA=>?_;obtain⟨pr,prog,ar,way,rfl,hS,hok,hwl,hy,hn⟩:=hA;refine⟨_,(aq (aI (i:=2) pJ.nd rfl (Or.inl rfl) (aJ la hr rfl (ae (aa 0) ai)))
 (aq (c7 m7 rfl (gF (aa 1)) (ck (i:=3) pJ.nd rfl (Or.inl rfl)) (aB (bN (cH.pt (w_or (aX lW gG (aa 3) aj (aV _)) (i_ (aX D9 gG (aa 3) (b9 dG dI rfl G.len dD (ae (aa 2) ai)) (aV _))))) (aB (r9 (C:=adr .way) (R.bound .way (by decide)) (R.exc (by decide)) rfl rfl (ae (GF (sd bh (sd (GA (aa 3)) GD))) ai))) bj)))
 (aq (bN (aX bP dn (b9 dG dI rfl G.len dD (ae (aa 1) ai)) aj (aV _)) (aB (r9 (C:=adr .way) (R.bound .way (by decide)) (R.exc (by decide)) rfl rfl (ae bh ai))) bj)
 (aq (aI (i:=4) pJ.nd rfl (Or.inl rfl) (aA cV c8 (aa 2) (aA aG aH (aa 1) aj (λ_ _=>rfl)) (λ_ _=>rfl)))
 (aq (c7 m7 rfl (gF (eK vd ve (aa 1) (eJ aj) eI)) (ck (i:=3) pJ.nd rfl (Or.inl rfl)) (aq (bN (l7 (gZ (aJ gn hr rfl (ae (aa 4) (ae (aA cV c8 (aa 2) (aa 3) (λ_ _=>rfl)) ai))))) (aB (r9 (C:=adr .way) (R.bound .way (by decide)) (R.exc (by decide)) rfl rfl (ae (GF (sd bh (sd (GA (aa 3)) (sd bh GD)))) ai))) bj)
 (aB (aI (i:=4) pJ.nd rfl (Or.inl rfl) (aJ iJ hr rfl (ae (aa 4) (ae (aA cV c8 (aa 2) (aa 3) (λ_ _=>rfl)) ai)))))))
 (aB (aS (aa 4)))))))),?_⟩
 nofun;refine⟨pr,prog,rfl,hS,hok.gr,b5 hok.len (by decide),?_⟩;have small:∀{z:Str},z.length<=200->z.length<=sizeLine:=λh=>b5 h (by decide);have e0:Cy.length=0:=by cbv
 have e1:("no send has the number ":Str).length=23:=by cbv
 have e2:("the send ":Str).length=9:=by cbv
 have e3:(" begins at another errand":Str).length=25:=by cbv
 intro ps hps;have hgd:=hok.gd;have e_:(aC prog).length<=1000:=hok.len;have h1:up S ps (.lst ((aC prog).map af)) ps=_:=ao;have s1:Sub S (up S ps (.lst ((aC prog).map af))):=(Sub.refl S).up hps;unfold aC at *;generalize dB bb Sy.bases prog=gs at *;generalize up S ps (.lst (gs.map af))=S1 at h1 s1 ⊢;have hlen:((gs.map af).length:Int)=(gs.length:Int):=by rw[az]
 unfold iG;nofun;refine⟨λi σ S'=>∃x3,σ=[some (.ref pr),some (.tup (way.map D.int)),some (.ref ps),x3,none]/\S'=S1/\nS gs (way.take i),⟨none,rfl,rfl,by simp[nS]⟩,λ_ _ _ _=>trivial,?_,?_⟩
 ·rintro i d σ S' hd ⟨x3,rfl,rfl,hi⟩;rw[aK]at hd;obtain⟨n,hn',rfl⟩:=bW.mp hd;have hmem:=bS hn';have htk:way.take (i+1)=way.take i++[n]:=by rw[gu,hn'];rfl
  obtain⟨m1,g1⟩:=Kk (hwl.num n hmem).1 (hwl.num n hmem).2;by_cases c1:n<0
  ·nofun;refine⟨small (by simp only[ki];lia),?_⟩;nofun;refine zk g1 ?_;nofun;refine⟨small (by simp only[ki];lia),?_⟩;refine zl (small (by simp only[ki];lia)) ?_;nofun;exact λa=>⟨s1,hn (by unfold dF;rw[if_neg λz=>by have:=(z n hmem).1;lia])⟩
  by_cases c2:((gs.map af).length:Int)<=n
  ·nofun;refine⟨small (by simp only[ki];lia),?_⟩;nofun;refine zk g1 ?_;nofun;refine⟨small (by simp only[ki];lia),?_⟩;refine zl (small (by simp only[ki];lia)) ?_;nofun;exact λa=>⟨s1,hn (by unfold dF;rw[if_neg λz=>by have:=(z n hmem).2;lia])⟩
  nofun;refine⟨_,rfl,rfl,λx hx=>?_⟩;rw[htk]at hx;rcases bF.mp hx with hx|hx
  ·exact hi x hx
  ·rw[cz.mp hx];lia
 rintro σ S' ⟨x3,rfl,rfl,hin⟩;rw[az,iN]at hin;have eW:dF gs way=wK gs way:=by unfold dF;rw[if_pos hin]
 rw[eW]at hy hn;cases way with
 |nil =>
  nofun;exact λa=>⟨s1,hn rfl⟩
 |cons n l =>
  have hat:∀{x:Int},0<=x->x<(gs.length:Int)->(gs.map af)[x.toNat]?=some (af (dc gs x)):=λ{x} a b=>by
   rw[aK,aU (by lia)];unfold dc;rw[bJ,aU (by lia)];rfl
  have tM:=hin n cF;have hl0:¬((((n::l).map D.int).length:Int)=0):=by simp;lia
  nofun;refine de h1 (kI tM.1 (hat tM.1 tM.2)) ?_;nofun;have ec:E3.cutD (List.map D.int (n::l)) (some 1) none=l.map D.int:=by rw[oU (by decide)];rfl
  rw[ec];refine⟨λi σ S2=>ib λx3 g=>σ=[some (.ref pr),some (.tup ((n::l).map D.int)),some (.ref ps),x3,some (af g)]/\S2=S'/\Gd ar g/\wK gs (n::l)=f_ gs g (l.drop i),⟨_,_,rfl,rfl,hgd _ (tL tM.1 tM.2),rfl⟩,λ_ _ _ _=>trivial,?_,?_⟩
  ·rintro i d σ S2 hd ⟨x3,g,rfl,rfl,hG,eg⟩;rw[aK]at hd;obtain⟨y,hy',rfl⟩:=bW.mp hd;have hmem:y∈n::l:=cL _ (bS hy');have mD:=hin y hmem;have Km:=hgd _ (tL mD.1 mD.2);obtain⟨m1,g1⟩:=Kk (hwl.num y hmem).1 (hwl.num y hmem).2;obtain⟨hj,ej⟩:=bO.mp hy';rw[xU hj,ej,f_]at eg;nofun;refine de h1 (kI mD.1 (hat mD.1 mD.2)) ?_;refine⟨g.1,g.2.1,(dc gs y).1,(dc gs y).2.1,g.2.2,(dc gs y).2.2,rfl,?_⟩;by_cases hf:g.2.1=(dc gs y).1
   ·rw[decide_eq_true hf];rw[if_pos hf]at eg;obtain⟨m,c,q1,q2,p1,p2,p3,p4,hM⟩:=hG.ex;obtain⟨m',c',lb,wO,wQ,p8,wR,wU,hM'⟩:=Km.ex;rw[hf,lb]at q2;cases q2;nofun;refine de h1 (kI mD.1 (hat mD.1 mD.2)) ?_;refine⟨g.1,g.2.1,(dc gs y).1,(dc gs y).2.1,g.2.2,(dc gs y).2.2,m,c,c',rfl,by lia,by lia,by lia,by lia,λ_=>⟨hM,hM',?_⟩,λz=>absurd hf z⟩;exact⟨_,bu g (dc gs y),rfl,rfl,hG.cmp Km hf,eg⟩
   ·rw[decide_eq_false hf];rw[if_neg hf]at eg;nofun;refine⟨small (by simp only[ki];lia),?_⟩;nofun;refine zk g1 ?_;nofun;refine⟨small (by simp only[ki];lia),?_⟩;nofun;refine⟨small (by simp only[ki];lia),?_⟩;refine zl (small (by simp only[ki];lia)) ?_;nofun;exact λa=>⟨s1,hn eg⟩
  ·rintro σ S2 ⟨x3,g,rfl,rfl,hG,eg⟩;rw[az,xV,f_]at eg;nofun;exact⟨s1,hy g eg⟩
theorem Za{a b:Int}(ha:0<=a)(hb:0<=b):a*b>0↔¬(a=0∨b=0):=show _ by
 constructor
 ·intro h z;rcases z with rfl|rfl<;>simp at h
 ·intro h;have h1:0<a:=by lia
  have h2:0<b:=by lia
  exact Int.mul_pos h1 h2
inductive Zb (ds:List D)(q:D->Prop):Prop where
 |mk (f t f' t':Str) (A B:cI) (m n p:Nat) (_:ds=[c_ f t A,c_ f' t' B]) (_:Mt m n A) (_:Mt n p B) (_:0<n) (_:m<=1000) (_:n<=1000) (_:p<=1000) (_:q (c_ f t' (iF A B)))
def tN :aY:=vS Zb
theorem Zc{k:Nat}(h:aE K mg "_law_compose" pR ["one","other"])(G:Gs K mg):ay P w K mg base (k+1) "_law_compose" ["one","other"] tN:=show _ by
 refine h.val mo (by rintro ds q ⟨_,_,_,_,_,_,_,_,_,e,_⟩;rw[e];rfl) λf cdv A outer s0 H E ds q hr hA=>?_;obtain⟨fr,t,f',t',A',B,m,n,p,rfl,hA,hB,hn,hm',hn',hp',hq⟩:=hA;have hAl:=hA.len;have hBl:=hB.len;refine⟨_,(aq (aI (i:=2) mo.nd rfl (Or.inl rfl) (dA ai))
 (aq (c7 dk rfl (gF (aA aG aH (aa 0) aj (λ_ _=>rfl))) (ck (i:=3) mo.nd rfl (Or.inl rfl)) (aq (aI (i:=4) mo.nd rfl (Or.inl rfl) (dA ai))
 (aq (c7 dk rfl (fX rfl G.range (ae (b9 dG dI rfl G.len dD (ae (aA aG aH (aA aG aH (aa 1) aj (λ_ _=>rfl)) aj (λ_ _=>rfl)) ai)) ai)) (ck (i:=5) mo.nd rfl (Or.inl rfl)) (aq (aI (i:=6) mo.nd rfl (Or.inl rfl) aj)
 (aq (c7 dk rfl (fX rfl G.range (ae (b9 dG dI rfl G.len dD (ae (aa 3) ai)) ai)) (ck (i:=7) mo.nd rfl (Or.inl rfl)) (aB (bN (aX yt gG (aD yo aN (aA aG aH (aa 3) (aa 7) (λ_ _=>rfl)) (aA aG aH (aA aG aH (aA aG aH (aa 1) aj (λ_ _=>rfl)) (aa 7) (λ_ _=>rfl)) (aa 5) (λ_ _=>rfl))) aj (aV _)) (aB (aI (i:=6) mo.nd rfl (Or.inl rfl) (b9 (Us rfl) Uw rfl G.max xT (ae (aa 6) (ae (aA aG aH (aa 3) (aa 7) (λ_ _=>rfl)) (ae (aA aG aH (aA aG aH (aA aG aH (aa 1) aj (λ_ _=>rfl)) (aa 7) (λ_ _=>rfl)) (aa 5) (λ_ _=>rfl)) ai)))))) bj)))
 (aB (dY (eh d6 fN gh fB fZ (aa 4) (ae (aa 6) ai)))))))
 (aB (dY (eh d6 fN gh fB fZ (aa 2) (ae (cZ fA fF rfl G.tuple fw (ae (aa 4) ai)) ai)))))))
 (aB (aS (bM (ae (aA aG aH (aa 0) aj (λ_ _=>rfl)) (ae (aA aG aH (aa 1) aj (λ_ _=>rfl)) (ae (cZ fA fF rfl G.tuple fw (ae (aa 2) ai)) ai)))))))),?_⟩
 nofun;intro p1 hp1;nofun;refine⟨λi σ S=>wm λx3 x4 x5 x6 x7=>σ=[some (c_ fr t A'),some (c_ f' t' B),some (.ref p1),x3,x4,x5,x6,x7]/\S p1=some (.lst ((iF (A'.take i) B).map bg)),⟨_,_,_,_,_,rfl,by simp[iF,ao]⟩,λ_ _ _ _=>trivial,?turn,?done⟩
 case turn =>
  rintro i d σ S hd ⟨x3,x4,x5,x6,x7,rfl,k1⟩;rw[aK]at hd;obtain⟨row,hrow,rfl⟩:=bW.mp hd;have hmem:=bS hrow;have hrl:=hA.row row hmem;have hrn:=hA.num row hmem;nofun;intro p2 hp2;have Zd:p1≠p2:=ne3 k1 hp2;have k2:=au (o:=.lst []) k1 hp2;have k3:up S p2 (.lst []) p2=some (.lst []):=ao;nofun;generalize up S p2 (.lst [])=S1 at k2 k3 ⊢;have h0:(B.getD 0 []).length=p:=hB.row _ (oX (by lia));refine sA (k:=0) rfl (by lia) ?_;nofun;rw[h0];refine⟨λk σ S=>mw λx5 x6 x7=>σ=[some (c_ fr t A'),some (c_ f' t' B),some (.ref p1),some (bg row),some (.ref p2),x5,x6,x7]/\S p1=some (.lst ((iF (A'.take i) B).map bg))/\S p2=some (.lst (((aZ k).map λk=>dot row B k).map D.int)),
   ⟨_,_,_,rfl,k2,k3⟩,λ_ _ _ _=>trivial,?_,?_⟩
  ·rintro k d σ S hd ⟨x5,x6,x7,rfl,m1,m2⟩;obtain⟨hk,rfl⟩:=fj hd;rw[fb]at hk;nofun;refine⟨λj σ S'=>∃x7,σ=[some (c_ fr t A'),some (c_ f' t' B),some (.ref p1),some (bg row),some (.ref p2),some (.int (0+(k:Int))),some (.int (eX (λj=>jn (row.getD j 0) (at2 B j k)) j)),x7]/\S'=S,⟨_,rfl,rfl⟩,λ_ _ _ _=>trivial,?_,?_⟩
   ·rintro j d σ S' hd ⟨x7,rfl,rfl⟩;obtain⟨hj,rfl⟩:=fj hd;rw[fb]at hj;have hjB:j<B.length:=by lia
    have a1:=vT hrn j;have a2:=hB.at j k;have hkl:k<(B.getD j []).length:=by rw[hB.row _ (oX hjB)];exact hk
    have nn:0<=eX (λj=>jn (row.getD j 0) (at2 B j k)) j:=zJ;have A6:eX (λj=>jn (row.getD j 0) (at2 B j k)) (j+1)=max (eX (λj=>jn (row.getD j 0) (at2 B j k)) j) (jn (row.getD j 0) (at2 B j k)):=UE;obtain⟨best,hbest⟩:∃best,eX (λj=>jn (row.getD j 0) (at2 B j k)) j=best:=⟨_,rfl⟩;rw[hbest]at nn A6 ⊢;have mg:=Za a1.1 a2.1;nofun;refine sC (k:=j) (by lia) hj ?_;nofun;refine sA (k:=j) (by lia) hjB ?_;nofun;refine sC (k:=k) (by lia) hkl ?_;refine Gv (.inl ⟨by lia,by lia⟩) ?_;have ea:(B.getD j []).getD k 0=at2 B j k:=rfl;rw[ea];by_cases hz:row.getD j 0=0∨at2 B j k=0
    ·have hz':¬row.getD j 0*at2 B j k>0:=λz=>mg.mp z hz;nofun;refine⟨some (.int (0+(j:Int))),?_,rfl⟩;have:max best (jn (row.getD j 0) (at2 B j k))=best:=by
      unfold jn;rw[if_pos hz];lia
     rw[A6,this];rfl
    ·have hz':row.getD j 0*at2 B j k>0:=mg.mpr hz;nofun;refine sC (k:=j) (by lia) hj ?_;nofun;refine sA (k:=j) (by lia) hjB ?_;nofun;refine sC (k:=k) (by lia) hkl ?_;nofun;refine⟨some (.int (0+(j:Int))),?_,rfl⟩;have:max (max best (row.getD j 0)) (at2 B j k)=max best (jn (row.getD j 0) (at2 B j k)):=by
      unfold jn;rw[if_neg hz]
      split<;>lia
     rw[A6,<-this];rfl
   ·rintro σ S' ⟨x7,rfl,rfl⟩;rw[dE,fb];nofun;refine fG m2 (by rw[az,az,tZ];exact dO (show k<1001 by lia) (by decide)) ?_;refine⟨_,_,_,rfl,?_,?_⟩
    ·rw[a9 Zd];exact m1
    ·rw[ao,ua,cA,cA];rfl
  ·rintro σ S ⟨x5,x6,x7,rfl,m1,m2⟩;rw[dE,fb]at m2;nofun;have hlt:i<A'.length:=(bO.mp hrow).1;refine fG m1 (by rw[az,iF,az,dP];exact dO (show min i A'.length<1001 by lia) (by decide)) ?_;refine⟨_,_,_,_,_,rfl,?_⟩;rw[ao,gu,hrow];simp only[iF,cA,Option.toList,bT,kd,hB.head hn,bg]
 rintro σ S ⟨x3,x4,x5,x6,x7,rfl,k1⟩;rw[az,iN]at k1;nofun;exact hq
theorem Ze{g h:Gr}{S:ah}{Q:K3}(q:Q (.bl (!decide (g=h))) S):zL 200 (af g) (af h) S Q:=show _ by
 have a1:=kQ g;have a2:=kQ h;have a3:=sM g;have a4:=v_ g h;refine⟨D.cR [.str g.1,.str g.2.1,eC g.2.2],D.cR [.str h.1,.str h.2.1,eC h.2.2],Dn.of a1,Dn.of a2,b5 a3 (by decide),?_⟩;have e:aW (.tup (D.cR [.str g.1,.str g.2.1,eC g.2.2])) (.tup (D.cR [.str h.1,.str h.2.1,eC h.2.2]))=decide (g=h):=a4;rw[e];exact q
inductive Zf (ds:List D)(q:D->Prop):Prop where
 |mk (ar:Str->Option Nat) (g:Gr) (_:ds=[af g]) (_:Gd ar g) (_:q (.bl (cE g)))
def Kn :aY:=vS Zf
theorem Zg{k:Nat}(h:aE K mg "_law_idle" pS ["graph"])(G:Gs K mg)(gL:ay P w K mg base k "_law_compose" ["one","other"] tN):ay P w K mg base (k+1) "_law_idle" ["graph"] Kn:=show _ by
 refine h.val Jt (by rintro ds q ⟨_,_,e,_⟩;rw[e];rfl) λf cdv A outer s0 H E ds q hr hA=>?_;obtain⟨ar,g,rfl,hg,hq⟩:=hA;refine⟨_,(aq (bN (cH.pt (w_or (aX mR oE (aA aG aH (aa 0) aj (λ_ _=>rfl)) (aA aG aH (aa 0) aj (λ_ _=>rfl)) (aV _)) (i_ (aX (UQ (kG hr)) UR (aJ gL hr rfl (ae (aa 0) (ae (aa 0) ai))) (aa 0) (aV _))))) (aB (aS fU)) bj)
 (aq (c7 dk rfl (fX rfl G.range (ae (b9 dG dI rfl G.len dD (ae (aA aG aH (aa 0) aj (λ_ _=>rfl)) ai)) ai)) (ck (i:=1) Jt.nd rfl (Or.inl rfl)) (aB (bN (aX bP dn (aA aG aH (aA aG aH (aA aG aH (aa 0) aj (λ_ _=>rfl)) (aa 1) (λ_ _=>rfl)) (aa 1) (λ_ _=>rfl)) aj (aV _)) (aB (aS fU)) bj)))
 (aB (aS fU)))),?_⟩
 obtain⟨m1,n1,q1,q2,q3,q4,q5,q6,hM⟩:=hg.ex;by_cases hf:g.1=g.2.1
 rotate_left
 ·have hi:cE g=false:=by simp[cE,df,bE hf]
  rw[hi]at hq;unfold af;nofun;exact hq
 have tf:n1=m1:=by rw[<-hf,q1]at q2;exact(dN q2).symm
 subst tf;unfold af;nofun;refine⟨g.1,g.2.1,g.1,g.2.1,g.2.2,g.2.2,n1,n1,n1,rfl,hM,hM,by lia,by lia,by lia,by lia,?_⟩;nofun;show zL _ (af (bu g g)) (af g) _ _;refine Ze ?_;by_cases hc:bu g g=g
 rotate_left
 ·have hi:cE g=false:=by simp[cE,df,hc]
  rw[hi]at hq;rw[decide_eq_false hc];nofun;exact hq
 rw[decide_eq_true hc];have hi:cE g=!kR g.2.2:=by simp[cE,df,hf.symm,hc]
 rw[hi]at hq;have Zh:=hM.len;nofun;refine⟨λj σ S'=>∃x1,σ=[some (c_ g.1 g.2.1 g.2.2),x1]/\∀i,i<j->¬(g.2.2.getD i []).getD i 0=2,⟨_,rfl,λi hi=>by lia⟩,λ_ _ _ _=>trivial,?_,?_⟩
 ·rintro j d σ S' hd ⟨x1,rfl,hno⟩;obtain⟨hj,rfl⟩:=fj hd;rw[fb]at hj;rw[Int.zero_add];have hrl:(g.2.2.getD j []).length=n1:=hM.row _ (oX hj);nofun;refine sA (k:=j) rfl hj ?_;nofun;refine sC (k:=j) rfl (by lia) ?_;by_cases c:(g.2.2.getD j []).getD j 0=2
  ·nofun;have:kR g.2.2=true:=kg.mpr ⟨j,gb.mpr hj,decide_eq_true c⟩;rw[this]at hq;exact hq
  ·nofun;refine⟨_,rfl,λi hi=>?_⟩;by_cases e:i=j
   ·rw[e];exact c
   ·exact hno i (by lia)
 ·rintro σ S' ⟨x1,rfl,hno⟩;rw[dE,fb]at hno;nofun;have:kR g.2.2=false:=by
   unfold kR;rw[Cw];intro i hi z;exact hno i (gb.mp hi) (of_decide_eq_true z)
  rw[this]at hq;exact hq
def qd:Option Gr->D
 |none=>.non
 |some g=>af g
inductive Zi (ds:List D)(S:ah)(q:D->Prop):Prop where
 |mk (po:Addr) (gs:List Gr) (ar:Str->Option Nat) (way:List Int) (_:ds=[.ref po,iG way]) (_:S po=some (.lst (gs.map af))) (_:(∀g∈gs,Gd ar g)) (_:gs.length<=1000) (_:q (qd (dF gs way)))
def Ko :aY:=f6 Zi
theorem Zj{k:Nat}(h:aE K mg "_law_way_graph" pV ["own","way"])(G:Gs K mg)(gL:ay P w K mg base k "_law_compose" ["one","other"] tN):ay P w K mg base (k+1) "_law_way_graph" ["own","way"] Ko:=show _ by
 refine h.f6 sU (by rintro ds S q ⟨_,_,_,_,e,_⟩;rw[e];rfl) λf cdv A outer s0 H E ds S q hr hA=>?_;obtain⟨po,gs,ar,way,rfl,hS,hgd,e_,hq⟩:=hA;refine⟨_,(aq (bN (cH.pt (w_or (l7 (gZ (b9 vg vh rfl G.wq xW (ae (aa 1) (ae (uX (n:="tuple") rfl G.tuple fw) ai))))) (i_ (aX bP dn (b9 dG dI rfl G.len dD (ae (aa 1) ai)) aj (aV _))))) (aB (aS gk)) bj)
 (aq (aI (i:=2) sU.nd rfl (Or.inl rfl) gk)
 (aq (c7 dk rfl (gF (aa 1)) (ck (i:=3) sU.nd rfl (Or.inl rfl)) (aq (bN (cH.pt (w_or (l7 (gZ (b9 vg vh rfl G.wq xW (ae (aa 3) (ae (uX (n:="int") rfl G.int boot_int) ai))))) (w_or (gZ (b9 vg vh rfl G.wq xW (ae (aa 3) (ae (uX (n:="bool") rfl G.bool boot_bool) ai)))) (i_ (l7 (Uy Pn gG lW gG aj (aa 3) (b9 dG dI rfl G.len dD (ae (aa 0) ai)))))))) (aB (aS gk)) bj)
 (aB (bN (aX yu zb (aa 2) gk (aV _)) (aB (aI (i:=2) sU.nd rfl (Or.inl rfl) (aA cV c8 (aa 0) (aa 3) (λ_ _=>rfl)))) (aB (bN (aX mR oE (aA aG aH (aa 2) aj (λ_ _=>rfl)) (aA aG aH (aA cV c8 (aa 0) (aa 3) (λ_ _=>rfl)) aj (λ_ _=>rfl)) (aV _)) (aB (aS gk)) (aB (aI (i:=2) sU.nd rfl (Or.inl rfl) (aJ gL hr rfl (ae (aa 2) (ae (aA cV c8 (aa 0) (aa 3) (λ_ _=>rfl)) ai)))))))))))
 (aB (aS (aa 2)))))),?_⟩
 unfold iG;by_cases c0:way=[]
 ·subst c0;nofun;exact⟨Sub.refl _,hq⟩
 have hm:0<way.length:=mL.mpr c0;have c1:¬((way.map D.int).length:Int)=0:=by rw[az];lia
 have hlg:((gs.map af).length:Int)=(gs.length:Int):=by rw[az]
 nofun;refine⟨λj σ S'=>ib λ(o:Option Gr) (x3:Option D)=>σ=[some (.ref po),some (.tup (way.map D.int)),some (qd o),x3]/\S'=S/\nS gs (way.take j)/\(o=none->j=0)/\∀g,o=some g->Gd ar g/\wK gs way=f_ gs g (way.drop j),
  ⟨none,_,rfl,rfl,by simp[nS],λ_=>rfl,λg z=>(nomatch z)⟩,λ_ _ _ _=>trivial,?_,?_⟩
 ·rintro j d σ S' hd ⟨o,x3,rfl,rfl,hin,h0,hsm⟩;rw[aK]at hd;obtain⟨n,hn,rfl⟩:=bW.mp hd;have hmem:=bS hn;obtain⟨hj,ej⟩:=bO.mp hn;have htk:way.take (j+1)=way.take j++[n]:=by rw[gu,hn];rfl
  have out:(¬0<=n∨¬n<(gs.length:Int))->dF gs way=none:=λz=>by
   unfold dF;rw[if_neg λy=>by have:=y n hmem;lia]
  by_cases a1:0<=n
  rotate_left
  ·nofun;rw[out (.inl a1)]at hq;exact⟨Sub.refl _,hq⟩
  by_cases a2:n<((gs.map af).length:Int)
  rotate_left
  ·nofun;rw[out (.inr (by lia))]at hq;exact⟨Sub.refl _,hq⟩
  have Kq:nS gs (way.take (j+1)):=λx hx=>by
   rw[htk]at hx;rcases bF.mp hx with hx|hx
   ·exact hin x hx
   ·rw[cz.mp hx];lia
  have hl:n.toNat<gs.length:=by lia
  have hat:(gs.map af)[n.toNat]?=some (af (dc gs n)):=by
   unfold dc;rw[aK,aU hl,bJ (l:=gs),aU hl];rfl
  have A7:Gd ar (dc gs n):=hgd _ (tL a1 (by lia));cases o with
  |none =>
   have Zk:=h0 rfl;subst Zk;simp only[qd];nofun;refine de hS (kI a1 hat) ?_;refine⟨some (dc gs n),_,rfl,rfl,Kq,λz=>(nomatch z),λg z=>?_⟩;cases z;refine⟨A7,?_⟩;cases way with
   |nil=>exact absurd rfl c0
   |cons y l=>rw[<-ej];rfl
  |some g =>
   obtain⟨hG,eg⟩:=hsm g rfl;rw[xU hj,ej,f_]at eg;simp only[qd];unfold af;nofun;refine de hS (kI a1 hat) ?_;unfold af;nofun;by_cases hf:g.2.1=(dc gs n).1
   ·rw[if_pos hf]at eg;obtain⟨m,c,q1,q2,p1,p2,p3,p4,hM⟩:=hG.ex;obtain⟨m',c',lb,wO,wQ,p8,wR,wU,hM'⟩:=A7.ex;rw[hf,lb]at q2;cases q2;nofun;refine de hS (kI a1 hat) ?_;refine⟨g.1,g.2.1,(dc gs n).1,(dc gs n).2.1,g.2.2,(dc gs n).2.2,m,c,c',rfl,hM,hM',by lia,by lia,by lia,by lia,?_⟩;refine⟨some (bu g (dc gs n)),_,rfl,rfl,Kq,λz=>(nomatch z),λg' z=>?_⟩;cases z;exact⟨hG.cmp A7 hf,eg⟩
   ·rw[if_neg hf]at eg;nofun;have:dF gs way=none:=by
     unfold dF
     split
     ·exact eg
     ·rfl
    rw[this]at hq;exact⟨Sub.refl _,hq⟩
 ·rintro σ S' ⟨o,x3,rfl,rfl,hin,h0,hsm⟩;rw[az,iN]at hin;cases o with
  |none=>have:=h0 rfl;rw[az]at this;lia
  |some g =>
   obtain⟨hG,eg⟩:=hsm g rfl;rw[az,xV,f_]at eg;have:dF gs way=some g:=by unfold dF;rw[if_pos hin];exact eg
   rw[this]at hq;nofun;exact⟨Sub.refl _,hq⟩
abbrev Kt:=Int×Int
def tO(a b:Kt):Prop:=a.1<b.1∨a.1=b.1/\a.2<b.2
def qf(a b:Kt):Prop:=a.1<b.1∨a.1=b.1/\a.2<=b.2
theorem tO.le{a b:Kt}(h:tO a b):qf a b:=by unfold tO at h;unfold qf;lia
theorem qf.refl(a:Kt):qf a a:=.inr ⟨rfl,xI _⟩
def qg(F:CL.Fd Gr)(i:Nat)(w:List Int)(k:Kt):Prop:=(k.1=-1/\w=[k.2])∨∃(e:Nat) (a:Gr×List Int),k.1=(e:Int)/\e<i/\F[e]?=some a/\w=a.2++[k.2]
structure Kd(F:CL.Fd Gr)(ks:List Kt):Prop where
 len:ks.length=F.length
 way:∀(i:Nat) (p:Gr×List Int) (k:Kt),F[i]?=some p->ks[i]?=some k->qg F i p.2 k
 Kr:ks.Pairwise tO
structure fI(F:CL.Fd Gr)(ks:List Kt)(F':CL.Fd Gr)(ks':List Kt):Prop where
 f:∀(i:Nat) (p:Gr×List Int),F[i]?=some p->F'[i]?=some p
 k:∀(i:Nat) (p:Kt),ks[i]?=some p->ks'[i]?=some p
theorem fI.refl(F:CL.Fd Gr)(ks:List Kt):fI F ks F ks:=⟨λ_ _ h=>h,λ_ _ h=>h⟩
theorem fI.trans{F F' F2:CL.Fd Gr}{ks ks' iL:List Kt}(a:fI F ks F' ks')(b:fI F' ks' F2 iL):fI F ks F2 iL:=⟨λi p h=>b.f i p (a.f i p h),λi p h=>b.k i p (a.k i p h)⟩
def j8(F:CL.Fd Gr)(ks:List Kt)(g:Gr)(t:Kt):Prop:=∃(i:Nat) (p:Gr×List Int) (k:Kt),F[i]?=some p/\ks[i]?=some k/\p.1=g/\qf k t
theorem j8.go{F F':CL.Fd Gr}{ks ks':List Kt}{g:Gr}{t:Kt}(h:j8 F ks g t)(o:fI F ks F' ks'):j8 F' ks' g t:=by
 obtain⟨i,p,k,h1,h2,h3,h4⟩:=h;exact⟨i,p,k,o.f i p h1,o.k i k h2,h3,h4⟩
theorem Ks{F F':CL.Fd Gr}{ks:List Kt}{g:Gr}{w:List Int}{t:Kt}(h:Kd F ks)(hb:∀k∈ks,tO k t)(hk:qg F F.length w t)(e:CL.putN F g w=some F') :
 ∃ks',Kd F' ks'/\fI F ks F' ks'/\j8 F' ks' g t/\∀k∈ks',k∈ks∨k=t:=show _ by
 unfold CL.putN at e
 split at e
 ·rename_i hg
  cases e;refine⟨ks,h,fI.refl _ _,?_,λk hk=>.inl hk⟩;obtain⟨p,hp,rfl⟩:=bG.mp hg;obtain⟨i,hi,rfl⟩:=gO hp;have Ku:i<ks.length:=by rw[h.len];exact hi
  exact⟨i,_,ks[i],aU hi,aU Ku,rfl,(hb _ (kf Ku)).le⟩
 ·split at e
  ·cases e
  ·cases e;have go:fI F ks (F++[(g,w)]) (ks++[t]):=⟨λi p hp=>by rw[lB (bO.mp hp).1];exact hp,λi p hp=>by rw[lB (bO.mp hp).1];exact hp⟩;have mono:∀{i w k},qg F i w k->qg (F++[(g,w)]) i w k:=λ{i w k} q=>by
    rcases q with q|⟨e,a,q1,q2,q3,q4⟩
    ·exact .inl q
    ·refine .inr ⟨e,a,q1,q2,?_,q4⟩;rw[lB (bO.mp q3).1];exact q3
   have Kv:∀{i w' k},qg F i w' k->qg (F++[(g,w)]) i w' k:=λ{i w' k} q=>by
    rcases q with q|⟨e,a,q1,q2,q3,q4⟩
    ·exact .inl q
    ·exact .inr ⟨e,a,q1,q2,go.f e a q3,q4⟩
   refine⟨ks++[t],⟨by simp[h.len],λi p k hp hk'=>?_,?_⟩,go,?_,λk hk'=>?_⟩
   ·by_cases hi:i<F.length
    ·rw[lB hi]at hp;rw[lB (by rw[h.len];exact hi)]at hk';exact Kv (h.way i p k hp hk')
    ·have hl:=(bO.mp hp).1;rw[bx,lC]at hl;obtain rfl:i=F.length:=by lia
     rw[qt (a8 _),DD]at hp;rw[qt (by rw[h.len];exact a8 _),h.len,DD]at hk';cases hp;cases hk';exact Kv hk
   ·rw[List.pairwise_append];refine⟨h.Kr,List.pairwise_singleton _ _,λa ha b hb'=>?_⟩;rw[cz.mp hb'];exact hb a ha
   ·refine⟨F.length,(g,w),t,by simp,?_,rfl,qf.refl _⟩;rw[<-h.len];simp
   ·rcases bF.mp hk' with q|q
    ·exact .inl q
    ·exact .inr (cz.mp q)
theorem Kw:∀{l:List (Int×Gr)} {F F':CL.Fd Gr} {ks:List Kt},Kd F ks->(∀k∈ks,k.1=-1/\∀p∈l,k.2<p.1)->l.Pairwise (λp q=>p.1<q.1)->CL.hW l F=some F' ->
 ∃ks',Kd F' ks'/\fI F ks F' ks'/\(∀k∈ks',k.1=-1)/\∀p∈l,j8 F' ks' p.2 (-1,p.1)
 |[],F,F',ks,h,hb,_,e=>by
  cases e;exact⟨ks,h,fI.refl _ _,λk hk=>(hb k hk).1,λp hp=>by simp at hp⟩
 |(n,g)::l,F,F',ks,h,hb,hl,e=>by
  unfold CL.hW at e;obtain⟨F1,e1,e2⟩:=fP.mp e;obtain⟨A8,k1,o1,a1,m1⟩:=Ks (t:=(-1,n)) h (λk hk=>.inr ⟨(hb k hk).1,(hb k hk).2 _ cF⟩) (.inl ⟨rfl,rfl⟩) e1;have hl':=Nx.mp hl;obtain⟨iL,k2,o2,b2,a2⟩:=Kw k1 (λk hk=>by
   rcases m1 k hk with q|rfl
   ·exact⟨(hb k q).1,λp hp=>(hb k q).2 p (cL _ hp)⟩
   ·exact⟨rfl,λp hp=>hl'.1 p hp⟩) hl'.2 e2
  refine⟨iL,k2,o1.trans o2,b2,λp hp=>?_⟩;rcases br.mp hp with rfl|hp
  ·exact a1.go o2
  ·exact a2 p hp
theorem A9{a:Gr×List Int}{pl:Nat}:∀{l:List (Int×Gr)} {F F':CL.Fd Gr} {ks:List Kt},Kd F ks->F[pl]?=some a->(∀k∈ks,k.1<(pl:Int)∨k.1=(pl:Int)/\∀p∈l,k.2<p.1)->l.Pairwise (λp q=>p.1<q.1)->CL.put2 df bu a l F=some F' ->
 ∃ks',Kd F' ks'/\fI F ks F' ks'/\(∀k∈ks',k.1<=(pl:Int))/\∀p∈l,df a.1 p.2=true->j8 F' ks' (bu a.1 p.2) ((pl:Int),p.1)
 |[],F,F',ks,h,_,hb,_,e=>by
  cases e;exact⟨ks,h,fI.refl _ _,λk hk=>by rcases hb k hk with q|q<;>lia,λp hp=>by simp at hp⟩
 |(n,g)::l,F,F',ks,h,ha,hb,hl,e=>by
  unfold CL.put2 at e;obtain⟨F1,e1,e2⟩:=fP.mp e;have hl':=Nx.mp hl;by_cases hf:df a.1 g=true
  ·rw[if_pos hf]at e1;have hpl:=(bO.mp ha).1;obtain⟨A8,k1,o1,a1,m1⟩:=Ks (t:=((pl:Int),n)) h (λk hk=>by
    rcases hb k hk with q|q
    ·exact .inl q
    ·exact .inr ⟨q.1,q.2 _ cF⟩) (.inr ⟨pl,a,rfl,hpl,ha,rfl⟩) e1
   obtain⟨iL,k2,o2,b2,a2⟩:=A9 k1 (o1.f _ _ ha) (λk hk=>by
    rcases m1 k hk with q|rfl
    ·rcases hb k q with z|z
     ·exact .inl z
     ·exact .inr ⟨z.1,λp hp=>z.2 p (cL _ hp)⟩
    ·exact .inr ⟨rfl,λp hp=>hl'.1 p hp⟩) hl'.2 e2
   refine⟨iL,k2,o1.trans o2,b2,λp hp=>?_⟩;rcases br.mp hp with rfl|hp
   ·exact λ_=>a1.go o2
   ·exact a2 p hp
  ·rw[if_neg hf]at e1;cases e1;obtain⟨iL,k2,o2,b2,a2⟩:=A9 h ha (λk hk=>by
    rcases hb k hk with z|z
    ·exact .inl z
    ·exact .inr ⟨z.1,λp hp=>z.2 p (cL _ hp)⟩) hl'.2 e2
   refine⟨iL,k2,o2,b2,λp hp=>?_⟩;rcases br.mp hp with rfl|hp
   ·exact λz=>absurd z hf
   ·exact a2 p hp
theorem Kx{nb:List (Int×Gr)}(hn:nb.Pairwise (λp q=>p.1<q.1)):∀{n pl:Nat} {F F':CL.Fd Gr} {ks:List Kt},CL.Ok F->41<=pl+n->Kd F ks->(∀k∈ks,k.1<(pl:Int))->(∀(e:Nat) (a:Gr×List Int),e<pl->F[e]?=some a->∀p∈nb,df a.1 p.2=true->j8 F ks (bu a.1 p.2) ((e:Int),p.1))->CL.f7 df bu nb n pl F=some F' ->
 ∃ks',Kd F' ks'/\fI F ks F' ks'/\∀(e:Nat) (a:Gr×List Int),F'[e]?=some a->∀p∈nb,df a.1 p.2=true->j8 F' ks' (bu a.1 p.2) ((e:Int),p.1)
 |0,pl,F,F',ks,ok,hl,h,hb,hd,e=>by
  cases e;refine⟨ks,h,fI.refl _ _,λe a ha=>hd e a ?_ ha⟩;have:=(bO.mp ha).1;have:=ok.len;lia
 |n+1,pl,F,F',ks,ok,hl,h,hb,hd,e=>by
  unfold CL.f7 at e;cases ha:F[pl]? with
  |none =>
   rw[ha]at e;cases e;refine⟨ks,h,fI.refl _ _,λe a ha'=>hd e a ?_ ha'⟩;have h1:=(bO.mp ha').1;have h2:=M6.mp ha;lia
  |some a =>
   rw[ha]at e;obtain⟨F1,e1,e2⟩:=fP.mp e;obtain⟨A8,k1,o1,b1,a1⟩:=A9 h ha (λk hk=>.inl (hb k hk)) hn e1;have ok1:=(CL.z_ ok e1).1.ok;obtain⟨iL,k2,o2,a2⟩:=Kx hn (n:=n) (pl:=pl+1) ok1 (by lia) k1 (λk hk=>by have:=b1 k hk;lia) (λe x he hx p hp hf=>by
    by_cases z:e=pl
    ·rw[z,o1.f pl a ha]at hx;cases hx;rw[z];exact a1 p hp hf
    ·have hlt:e<F.length:=by
      have:=(bO.mp ha).1;lia
     have hx':F[e]?=some x:=by
      have h0:=o1.f e _ (aU hlt);rw[h0]at hx;rw[aU hlt];exact hx
     exact(hd e x (by lia) hx' p hp hf).go o1) e2
   exact⟨iL,k2,o1.trans o2,a2⟩
structure Full(gs:List Gr)(F:CL.Fd Gr)(ks:List Kt):Prop extends Kd F ks where
 own:∀p∈dg gs,j8 F ks p.2 (-1,p.1)
 all:∀(e:Nat) (a:Gr×List Int),F[e]?=some a->∀p∈dg gs,df a.1 p.2=true->j8 F ks (bu a.1 p.2) ((e:Int),p.1)
theorem Ky(gs:List Gr):(dg gs).Pairwise λp q=>p.1<q.1:=by
 unfold dg;rw[MN,List.pairwise_iff_getElem];intro i j hi hj hij;rw[Ny,Ny];simp only;lia
theorem Zl{gs:List Gr}{F:CL.Fd Gr}(e:eZ (dg gs)=some F):∃ks,Full gs F ks:=show _ by
 unfold eZ CL.jk at e;obtain⟨F1,e1,e2⟩:=fP.mp e;obtain⟨A8,k1,o1,b1,a1⟩:=Kw (ks:=[]) (F:=[]) ⟨rfl,λi p k h=>(by simp at h),.nil⟩ (λk hk=>by simp at hk) (Ky gs) e1;obtain⟨iL,k2,o2,a2⟩:=Kx (Ky gs) (CL.z0 CL.Ok.nil e1).1.ok (by decide) k1 (λk hk=>by rw[b1 k hk];decide) (λe a he=>absurd he (Nat.not_lt_zero _)) e2;exact⟨iL,⟨k2,λp hp=>(a1 p hp).go o2,a2⟩⟩
inductive lg where
 |ends (ts:List Gr)|cm (w:List Int)
def lh(gs ts:List Gr):Prop:=(∀g∈gs,g∈ts)/\∀t∈ts,cE t=false/\∀g∈gs,t.2.1=g.1->bu t g∈ts
def eM(gs:List Gr)(w:List Int):Bool:=match dF gs w with
 |some g=>cE g
 |none=>false
theorem Kz{gs:List Gr}{ar:Str->Option Nat}(hg:∀g∈gs,Gd ar g):∀{l:List Int} {g h:Gr},nS gs l->Gd ar g->f_ gs g l=some h->Gd ar h
 |[],g,h,_,hG,e=>by cases e;exact hG
 |n::l,g,h,hr,hG,e=>by
  unfold f_ at e
  split at e
  ·rename_i hf
   have hn:=hr n cF;exact Kz hg (λx hx=>hr x (cL _ hx)) (hG.cmp (hg _ (tL hn.1 hn.2)) hf) e
  ·cases e
theorem KA{gs:List Gr}{ar:Str->Option Nat}(hg:∀g∈gs,Gd ar g){w:List Int}{h:Gr}(e:dF gs w=some h):Gd ar h:=show _ by
 unfold dF at e
 split at e
 ·rename_i hr
  cases w with
  |nil=>cases e
  |cons n l =>
   have hn:=hr n cF;exact Kz hg (λx hx=>hr x (cL _ hx)) (hg _ (tL hn.1 hn.2)) e
 ·cases e
inductive Zm (ds:List D)(S:ah)(q:D->Prop):Prop where
 |mk (pr:Addr) (prog:List Er) (ar:Str->Option Nat) (w:List Int) (_:ds=[.ref pr,iG w]) (_:S pr=some (.lst (prog.map Er.d))) (_:qc ar prog) (_:wN w) (_:q (.bl (eM (aC prog) w)))
def KC :aY:=f6 Zm
theorem Zn{k:Nat}(h:aE K mg "is_idle_way" pH ["program","way"])(G:Gs K mg)(R:je K mg ES adr)(A_:ay P w K mg base k "way_graph" ["program","way"] (Kl adr))(tm:ay P w K mg base k "is_idle_round" ["graph"] wD):ay P w K mg base (k+1) "is_idle_way" ["program","way"] KC:=show _ by
 refine h.f6 Jr (by rintro ds S q ⟨_,_,_,_,e,_⟩;rw[e];rfl) λf cdv A outer s0 H E ds S q hr hA=>?_;obtain⟨pr,prog,ar,w,rfl,hS,hok,wV,hq⟩:=hA;refine⟨_,(aq (GN rfl rfl (λ_ _ _=>(aB (aI (i:=2) Jr.nd rfl (Or.inl rfl) (aJ A_ hr rfl (ae (aa 0) (ae (aa 1) ai)))))) (GJ (R.bound .way (by decide)) (R.base (i:=.way) (by decide)) rfl (λ_=>(aB (aS fU))) GH))
 (aB (aS (aJ tm hr rfl (ae (aa 2) ai))))),?_⟩
 nofun;refine⟨pr,prog,ar,w,rfl,hS,hok,wV,λg eg=>?_,λe x=>?_⟩
 ·nofun;refine⟨ar,g,rfl,KA hok.gd eg,?_⟩;have e:eM (aC prog) w=cE g:=by unfold eM;rw[eg]
  rw[e]at hq;exact⟨Sub.refl _,hq⟩
 ·have e0:eM (aC prog) w=false:=by unfold eM;rw[e]
  rw[e0]at hq;refine GP (R.two .way (by decide) .way (by decide)) ?_;nofun;exact⟨Sub.refl _,hq⟩
theorem range_getD{α:Type}(l:List α)(d:α):l=(aZ l.length).map λi=>l.getD i d:=show _ by
 apply gP;intro i;rw[aK];by_cases hi:i<l.length
 ·rw[iS hi,aU hi];simp[bJ,hi]
 ·rw[dh (by lia),dh (by simpa using hi)];rfl
theorem Zo{α β:Type}{l:List α}{p:α->Bool}{f:α->β}(d:α):((aZ l.length).filter λi=>p (l.getD i d)).map (λi=>f (l.getD i d))=(l.filter p).map f:=show _ by
 conv=>rhs;rw[range_getD l d,List.filter_map,dC]
 rfl
theorem Ba{α β:Type}{l:List α}{f:α->β}(d:α):((aZ l.length).map λi=>f (l.getD i d))=l.map f:=by
 conv=>rhs;rw[range_getD l d,dC]
 rfl
theorem KD{ks:List Gr}{g:Gr}(h:g∈ks):gI (gT ks) (fq g) (.bl true)=gT ks:=show _ by
 have h1:((gT ks).any λkv=>decide (kv.1=fq g))=true:=kg.mpr ⟨_,iQ (f:=λg=>(fq g,D.bl true)) h,by simp⟩;unfold gI;rw[if_pos h1];unfold gT;rw[dC];refine ub λx _=>?_;simp only[Function.comp]
 split<;>rfl
theorem Bb:∀(ts ks:List Gr),∃ks',(ts.map λg=>(fq g,D.bl true)).foldl (λacc kv=>gI acc kv.1 kv.2) (gT ks)=gT ks'/\(∀g,g∈ks'↔g∈ks∨g∈ts)
 |[],ks=>⟨ks,rfl,λg=>by simp⟩
 |t::ts,ks=>by
  rw[bT,n8];by_cases h:t∈ks
  ·obtain⟨ks',e1,e2⟩:=Bb ts ks;refine⟨ks',by rw[KD h];exact e1,λg=>?_⟩;rw[e2,br];constructor
   ·rintro(z|z)
    ·exact .inl z
    ·exact .inr (.inr z)
   ·rintro(z|z|z)
    ·exact .inl z
    ·rw[z];exact .inl h
    ·exact .inr z
  ·obtain⟨ks',e1,e2⟩:=Bb ts (ks++[t]);refine⟨ks',by rw[A4 h];exact e1,λg=>?_⟩;rw[e2,bF,cz,br,or_assoc]
inductive Zp (ds:List D)(S:ah)(q:D->Prop):Prop where
 |mk (ps pt:Addr) (gs ts:List Gr) (ar:Str->Option Nat) (_:ds=[.ref ps,.ref pt]) (_:S ps=some (.lst (gs.map af))) (_:S pt=some (.lst (ts.map af))) (_:(∀g∈gs,Gd ar g)) (_:(∀g∈ts,Gd ar g)) (_:gs.length<=1000) (_:ts.length<=1000) (_:(lh gs ts->q (.bl true))) (_:(¬lh gs ts->q (.bl false)))
def KE :aY:=f6 Zp
theorem Zq{k:Nat}(h:aE K mg "is_closed_up" kU ["sent","told"])(G:Gs K mg)(tm:ay P w K mg base k "is_idle_round" ["graph"] wD)(gn:ay P w K mg base k "fit" ["one","other"] p9)(iJ:ay P w K mg base k "composed" ["one","other"] (sY adr)):ay P w K mg base (k+1) "is_closed_up" ["sent","told"] KE:=show _ by
 refine h.f6 sT (by rintro ds S q ⟨_,_,_,_,_,e,_⟩;rw[e];rfl) λf cdv A outer s0 H E ds S q hr hA=>?_;obtain⟨ps,pt,gs,ts,ar,rfl,hS,hT,hgd,htd,e_,htl,hy,hn⟩:=hA;have hu:=EK hr;refine⟨_,(aq (aI (i:=2) sT.nd rfl (Or.inr rfl) (cZ (WM (kG hr)) WN rfl G.dict boot_dict (ae (h_ (bQ:=av kU) (N:=["sent","told","there","graph","behind"]) (M:=[]) (js:=[]) ⟨rfl,by cbv,by cbv,by cbv,by cbv,by cbv⟩ (by cbv) (by cbv) rfl (eu (aa 1)) (λ_ _ _ _ _=>dU) (λ_ _ _ _ _=>(bM (ae (aa 0) (ae fU ai))))) ai)))
 (aq (c7 dk rfl (eu (aa 0)) (ck (i:=3) sT.nd rfl (Or.inr rfl)) (aB (bN (IW hu (aa 3) (aa 2)) (aB (aS fU)) bj)))
 (aq (c7 dk rfl (eu (aa 1)) (ck (i:=3) sT.nd rfl (Or.inr rfl)) (aq (bN (gZ (aJ tm hr rfl (ae (aa 3) ai))) (aB (aS fU)) bj)
 (aq (kS (i:=4) (bQ:=av kU) (N:=["sent","told","there","graph","behind"]) (M:=["graph"]) (js:=[3]) ⟨rfl,by cbv,by cbv,by cbv,by cbv,by cbv⟩ (by cbv) (by cbv) rfl (eu (aa 0)) (λ_ _ _ _ _=>(Ue (gZ (aJ gn hr rfl (ae (aa 1) (ae (aa 0) ai)))))) (λ_ _ _ _ _=>(aJ iJ hr rfl (ae (aa 1) (ae (aa 0) ai)))) sT.nd rfl rfl)
 (aB (bN (l7 (gZ (b9 (Ha rfl) (sv (f:=λbs=>bs.all id)) rfl G.all boot_all (ae (h_ (bQ:=av kU) (N:=["sent","told","there","graph","behind"]) (M:=["there"]) (js:=[2]) ⟨rfl,by cbv,by cbv,by cbv,by cbv,by cbv⟩ (by cbv) (by cbv) rfl (eu (aa 4)) (λ_ _ _ _ _=>dU) (λ_ _ _ _ _=>(Ws hu (aa 0) (aa 1)))) ai)))) (aB (aS fU)) bj)))))
 (aB (aS fU))))),?_⟩
 nofun;refine f9 (λi=>.tup [af (ts.getD i ("","",[])),.bl true]) (by rw[az];lia) (by exact hT) ?_ ?_
 ·intro i d hd P hP;rw[aK]at hd;obtain⟨t,ht,rfl⟩:=bW.mp hd;rw[bJ,ht]at hP;nofun;exact hP
 have el:((aZ (ts.map af).length).map λi=>D.tup [af (ts.getD i ("","",[])),.bl true])=ts.map λt=>.tup [af t,.bl true]:=by
  rw[az];apply gP;intro i;rw[aK,aK];by_cases hi:i<ts.length
  ·rw[iS hi,aU hi];simp[bJ,hi]
  ·rw[dh (by simpa using hi),dh (by lia)];rfl
 rw[el];intro pl hpl;have a1:=au (o:=.lst (ts.map λt=>.tup [af t,.bl true])) hS hpl;have a2:=au (o:=.lst (ts.map λt=>.tup [af t,.bl true])) hT hpl;have a3:up S pl (.lst (ts.map λt=>.tup [af t,.bl true])) pl=_:=ao;have s1:Sub S (up S pl (.lst (ts.map λt=>.tup [af t,.bl true]))):=(Sub.refl S).up hpl;generalize up S pl (.lst (ts.map λt=>.tup [af t,.bl true]))=S1 at a1 a2 a3 s1 ⊢;have prs:∀ts:List Gr,Paired (λ(kv:DK×D) (y:D)=>∃ds,y=.tup [.tup ds,kv.2]/\dZ (.tup ds)=some kv.1/\kv.1.deep<=4) (ts.map λg=>(fq g,D.bl true)) (ts.map λt=>D.tup [af t,.bl true]):=λts=>by
  induction ts with
  |nil=>exact .nil
  |cons t ts ih =>
   obtain⟨ds,e1,e2⟩:=wL t;refine .cons ⟨ds,by show D.tup [af t,.bl true]=_;rw[e1],e2,wM t⟩ ih
 refine WO a3 (prs ts) ?_;obtain⟨ks,ek,hks⟩:=Bb ts [];rw[show(gT [])=[] from rfl]at ek;rw[ek];have hks:∀g,g∈ks↔g∈ts:=λg=>by rw[hks g];simp
 intro pd hpd;have b1:=au (o:=.tab (gT ks)) a1 hpd;have b2:=au (o:=.tab (gT ks)) a2 hpd;have b4:up S1 pd (.tab (gT ks)) pd=some (.tab (gT ks)):=ao;have s2:=s1.up (o:=.tab (gT ks)) hpd;generalize up S1 pd (.tab (gT ks))=S2 at b1 b2 b4 s2 ⊢;nofun;refine⟨λj σ S'=>∃(x3:Option D),σ=[some (.ref ps),some (.ref pt),some (.ref pd),x3,none]/\S'=S2/\∀g∈gs.take j,g∈ts,⟨none,rfl,rfl,by simp⟩,λj σ S' ⟨_,_,z,_⟩=>by rw[z];exact b1,?_,?_⟩
 ·rintro j d σ S' hd ⟨x3,rfl,rfl,hin⟩;rw[aK]at hd;obtain⟨g,hg,rfl⟩:=bW.mp hd;nofun;refine A5 b4 ?_;by_cases hgt:g∈ts
  ·rw[decide_eq_true ((hks g).mpr hgt)];nofun;refine⟨_,rfl,rfl,λx hx=>?_⟩;rw[gu,hg]at hx;rcases bF.mp hx with z|z
   ·exact hin x z
   ·simp at z;rw[z];exact hgt
  ·rw[decide_eq_false (λz=>hgt ((hks g).mp z))];nofun;exact⟨s2,hn λz=>hgt (z.1 g (bS hg))⟩
 rintro σ S' ⟨x3,rfl,lj,hin⟩;obtain rfl:S2=S':=lj.symm;rw[az,iN]at hin;nofun;refine⟨λj σ S'=>ib λ(x3 x4:Option D)=>σ=[some (.ref ps),some (.ref pt),some (.ref pd),x3,x4]/\Sub S2 S'/\∀t∈ts.take j,cE t=false/\∀g∈gs,t.2.1=g.1->bu t g∈ts,⟨_,_,rfl,Sub.refl _,by simp⟩,λj σ S' ⟨_,_,_,z,_⟩=>z _ _ b2,?_,?_⟩
 ·rintro j d σ S3 hd ⟨x3,x4,rfl,s3,hgo⟩;rw[aK]at hd;obtain⟨t,ht,rfl⟩:=bW.mp hd;have qh:=bS ht;have KG:=htd t qh;have c1:=s3 _ _ b1;have c4:=s3 _ _ b4;nofun;refine⟨ar,t,rfl,KG,?_⟩;cases hI:cE t with
  |true =>
   nofun;exact⟨s2.trans s3,hn λz=>by have:=(z.2 t qh).1;rw[hI]at this;cases this⟩
  |false =>
   nofun;refine zD (λi=>decide (t.2.1=(gs.getD i ("","",[])).1)) (λi=>af (bu t (gs.getD i ("","",[])))) (by rw[az];lia) (by exact c1) ?_ ?_
   ·intro i d hd;rw[aK]at hd;obtain⟨g,hg,rfl⟩:=bW.mp hd;have eg:gs.getD i ("","",[])=g:=by rw[bJ,hg];rfl
    rw[eg];refine vQ ⟨λP hP=>?_,λhf P hP=>?_⟩
    ·nofun;exact⟨t.1,t.2.1,g.1,g.2.1,t.2.2,g.2.2,rfl,⟨_,rfl,hP⟩⟩
    ·have hf:=of_decide_eq_true hf;obtain⟨m,c',q1,q2,p1,p2,p3,p4,hM⟩:=KG.ex;obtain⟨m',c2,lb,wO,wQ,p8,wR,wU,hM'⟩:=(hgd g (bS hg)).ex;rw[hf,lb]at q2;cases q2;nofun;exact⟨t.1,t.2.1,g.1,g.2.1,t.2.2,g.2.2,m,c',c2,rfl,by lia,by lia,by lia,by lia,λ_=>⟨hM,hM',hP⟩,λz=>absurd hf z⟩
   rw[az,Zo (l:=gs) (p:=λg=>decide (t.2.1=g.1)) (f:=λg=>af (bu t g)) ("","",[])];obtain⟨bs,hbs⟩:∃bs,bs=(gs.filter λg=>decide (t.2.1=g.1)).map (bu t):=⟨_,rfl⟩;have Zr:((gs.filter λg=>decide (t.2.1=g.1)).map λg=>af (bu t g))=bs.map af:=by rw[hbs,dC];rfl
   have hbl:bs.length<=1000:=by
    rw[hbs,az];exact b5 (Dl _ _) e_
   rw[Zr];intro pb hpb;have e4:=au (o:=.lst (bs.map af)) c4 hpb;have e5:up S3 pb (.lst (bs.map af)) pb=some (.lst (bs.map af)):=ao;have s4:=s3.up (o:=.lst (bs.map af)) hpb;generalize up S3 pb (.lst (bs.map af))=S4 at e4 e5 s4 ⊢;nofun;refine f9 (λi=>.bl (decide (bs.getD i ("","",[])∈ks))) (by rw[az];lia) (by exact e5) ?_ ?_
   ·intro i d hd P hP;rw[aK]at hd;obtain⟨b,hb,rfl⟩:=bW.mp hd;rw[bJ,hb]at hP;nofun;exact A5 e4 hP
   rw[az,Ba (l:=bs) (f:=λb=>D.bl (decide (b∈ks))) ("","",[])];have Bc:(bs.map λb=>D.bl (decide (b∈ks)))=(bs.map λb=>decide (b∈ks)).map D.bl:=by rw[dC];rfl
   rw[Bc];intro pa hpa;refine sy ao ?_;have s5:=s4.up (o:=.lst ((bs.map λb=>decide (b∈ks)).map D.bl)) hpa;generalize up S4 pa (.lst ((bs.map λb=>decide (b∈ks)).map D.bl))=S5 at s5 ⊢;by_cases hall:∀g∈gs,t.2.1=g.1->bu t g∈ts
   ·have ea:(bs.map λb=>decide (b∈ks)).all id=true:=by
     rw[qo,mK];intro b hb;rw[hbs]at hb;obtain⟨g,hg,rfl⟩:=bG.mp hb;have hg:=tR.mp hg;exact decide_eq_true ((hks _).mpr (hall g hg.1 (of_decide_eq_true hg.2)))
    rw[ea];nofun;refine⟨_,_,rfl,s5,λx hx=>?_⟩;rw[gu,ht]at hx;rcases bF.mp hx with z|z
    ·exact hgo x z
    ·simp at z;rw[z];exact⟨hI,hall⟩
   ·have ea:(bs.map λb=>decide (b∈ks)).all id=false:=by
     rw[Nz];intro z;rw[qo,mK]at z;refine hall λg hg hf=>(hks _).mp (of_decide_eq_true (z (bu t g) ?_));rw[hbs];exact iQ (tR.mpr ⟨hg,decide_eq_true hf⟩)
    rw[ea];nofun;exact⟨s2.trans s5,hn λz=>hall (z.2 t qh).2⟩
 rintro σ S' ⟨x3,x4,rfl,s3,hgo⟩;rw[az,iN]at hgo;nofun;exact⟨s2.trans s3,hy ⟨hin,hgo⟩⟩
def dW(pt:Addr):lg->D
 | .ends _=>.tup [.str "ends",.ref pt]
 | .cm w=>.tup [.str "open",iG w]
def wW(pt:Addr)(S:ah):lg->Prop
 | .ends ts=>S pt=some (.lst (ts.map af))
 | .cm _=>True
def wX(ar:Str->Option Nat):lg->Prop
 | .ends ts=>(∀g∈ts,Gd ar g)/\ts.length<=1000
 | .cm w=>wN w
def wY(gs:List Gr):lg->Prop
 | .ends ts=>lh gs ts
 | .cm w=>eM gs w=true
inductive Zs (ds:List D)(S:ah)(q:D->Prop):Prop where
 |mk (pr pt:Addr) (prog:List Er) (ar:Str->Option Nat) (tl:lg) (_:ds=[.ref pr,dW pt tl]) (_:S pr=some (.lst (prog.map Er.d))) (_:qc ar prog) (_:wW pt S tl) (_:wX ar tl) (_:(wY (aC prog) tl->q (.bl true))) (_:(¬wY (aC prog) tl->q (.bl false)))
def KH :aY:=f6 Zs
theorem Zu{k:Nat}(h:aE K mg "holds" pG ["program","telling"])(G:Gs K mg)(Be:ay P w K mg base k "is_idle_way" ["program","way"] KC)(Bf:ay P w K mg base k "is_closed_up" ["sent","told"] KE)(la:ay P w K mg base k "graphs" ["program"] wx):ay P w K mg base (k+1) "holds" ["program","telling"] KH:=show _ by
 refine h.f6 Xd (by rintro ds S q ⟨_,_,_,_,_,e,_⟩;rw[e];rfl) λf cdv A outer s0 H E ds S q hr hA=>?_;obtain⟨pr,pt,prog,ar,tl,rfl,hS,hok,hT,hto,hy,hn⟩:=hA;refine⟨_,(aq (bN (aX bP eT (aA aG aH (aa 1) aj (λ_ _=>rfl)) bh (aV _)) (aB (aS (aJ Be hr rfl (ae (aa 0) (ae (aA aG aH (aa 1) aj (λ_ _=>rfl)) ai))))) bj)
 (aB (aS (aJ Bf hr rfl (ae (aJ la hr rfl (ae (aa 0) ai)) (ae (aA aG aH (aa 1) aj (λ_ _=>rfl)) ai)))))),?_⟩
 cases tl with
 |cm w =>
  simp only[dW];nofun;refine⟨pr,prog,ar,w,rfl,hS,hok,hto,?_⟩;nofun;refine⟨Sub.refl _,?_⟩;cases e:eM (aC prog) w with
  |true=>exact hy e
  |false=>exact hn λz=>by rw[show eM (aC prog) w=true from z]at e;cases e
 |ends ts =>
  have hl:=hok.len;simp only[dW];nofun;refine⟨pr,prog,rfl,hS,hok.gr,by show(aC prog).length<=100000;lia,?_⟩;intro pg tK;nofun;refine⟨pg,pt,aC prog,ts,ar,rfl,ao,au hT tK,hok.gd,hto.1,hl,hto.2,λz=>⟨(Sub.refl S).up tK,hy z⟩,λz=>⟨(Sub.refl S).up tK,hn z⟩⟩
inductive Zv (ds:List D)(S:ah)(q:D->Prop):Prop where
 |mk (po pt:Addr) (gs:List Gr) (ar:Str->Option Nat) (tl:lg) (_:ds=[.ref po,dW pt tl]) (_:S po=some (.lst (gs.map af))) (_:(∀g∈gs,Gd ar g)) (_:gs.length<=1000) (_:wW pt S tl) (_:wX ar tl) (_:(wY gs tl->q (.bl true))) (_:(¬wY gs tl->q (.bl false)))
def KI :aY:=f6 Zv
theorem Zw{k:Nat}(h:aE K mg "_law_right" mr ["own","telling"])(G:Gs K mg)(Bg:ay P w K mg base k "_law_way_graph" ["own","way"] Ko)(qi:ay P w K mg base k "_law_idle" ["graph"] Kn)(gL:ay P w K mg base k "_law_compose" ["one","other"] tN):ay P w K mg base (k+1) "_law_right" ["own","telling"] KI:=show _ by
 refine h.f6 wg (by rintro ds S q ⟨_,_,_,_,_,e,_⟩;rw[e];rfl) λf cdv A outer s0 H E ds S q hr hA=>?_;obtain⟨po,pt,gs,ar,tl,rfl,hS,hgd,e_,hT,hto,hy,hn⟩:=hA;refine⟨_,(aq (bN (aX bP eT (aA aG aH (aa 1) aj (λ_ _=>rfl)) bh (aV _)) (aq (aI (i:=2) wg.nd rfl (Or.inl rfl) (aJ Bg hr rfl (ae (aa 0) (ae (aA aG aH (aa 1) aj (λ_ _=>rfl)) ai))))
 (aB (aS (rJ (i8 qU rV (aa 2) gk (aV _)) (rH (aJ qi hr rfl (ae (aa 2) ai))))))) bj)
 (aq (bN (gZ (b9 (zF rfl) (sv (f:=λbs=>bs.any id)) rfl G.any boot_any (ae (h_ (bQ:=av mr) (N:=["own","telling","graph","one"]) (M:=[]) (js:=[]) ⟨rfl,by cbv,by cbv,by cbv,by cbv,by cbv⟩ (by cbv) (by cbv) rfl (eu (aA aG aH (aa 1) aj (λ_ _=>rfl))) (λ_ _ _ _ _=>dU) (λ_ _ _ _ _=>(aJ qi hr rfl (ae (aa 0) ai)))) ai))) (aB (aS fU)) bj)
 (aq (bN (l7 (gZ (b9 (Ha rfl) (sv (f:=λbs=>bs.all id)) rfl G.all boot_all (ae (h_ (bQ:=av mr) (N:=["own","telling","graph","one"]) (M:=["telling"]) (js:=[1]) ⟨rfl,by cbv,by cbv,by cbv,by cbv,by cbv⟩ (by cbv) (by cbv) rfl (eu (aa 0)) (λ_ _ _ _ _=>dU) (λ_ _ _ _ _=>(i8 (IC (kG hr)) IE (aa 0) (aA aG aH (aa 1) aj (λ_ _=>rfl)) (by with_unfolding_all rfl)))) ai)))) (aB (aS fU)) bj)
 (aq (c7 dk rfl (eu (aA aG aH (aa 1) aj (λ_ _=>rfl))) (ck (i:=2) wg.nd rfl (Or.inl rfl)) (aB (c7 dk rfl (eu (aa 0)) (ck (i:=3) wg.nd rfl (Or.inl rfl)) (aB (bN (cH.pt (w_and (aX bP eT (aA aG aH (aa 2) aj (λ_ _=>rfl)) (aA aG aH (aa 3) aj (λ_ _=>rfl)) (aV _)) (gD (aX (WV (kG hr)) WW (aJ gL hr rfl (ae (aa 2) (ae (aa 3) ai))) (aA aG aH (aa 1) aj (λ_ _=>rfl)) (by with_unfolding_all rfl))))) (aB (aS fU)) bj)))))
 (aB (aS fU)))))),?_⟩
 cases tl with
 |cm w =>
  simp only[dW];nofun;refine⟨po,gs,ar,w,rfl,hS,hgd,e_,?_⟩;cases e:dF gs w with
  |none =>
   simp only[qd];nofun;exact⟨Sub.refl _,hn λz=>by have z:eM gs w=true:=z;unfold eM at z;rw[e]at z;cases z⟩
  |some g =>
   simp only[qd];have hnn:¬af g=D.non:=by simp[af,c_]
   nofun;refine⟨ar,g,rfl,KA hgd e,Sub.refl _,?_⟩;have ew:eM gs w=cE g:=by unfold eM;rw[e]
   cases hI:cE g with
   |true=>exact hy (ew.trans hI)
   |false=>exact hn λz=>by have z:eM gs w=true:=z;rw[ew,hI]at z;cases z
 |ends ts =>
  simp only[dW];have hT:S pt=some (.lst (ts.map af)):=hT;have htl:=hto.2;nofun;refine f9 (λi=>.bl (cE (ts.getD i ("","",[])))) (by rw[az];lia) (by exact hT) ?_ ?_
  ·intro i d hd P hP;rw[aK]at hd;obtain⟨t,ht,rfl⟩:=bW.mp hd;rw[bJ,ht]at hP;nofun;exact⟨ar,t,rfl,hto.1 t (bS ht),hP⟩
  rw[az,Ba (l:=ts) (f:=λb=>D.bl (cE b)) ("","",[])];have Bc:(ts.map λb=>D.bl (cE b))=(ts.map cE).map D.bl:=by rw[dC];rfl
  rw[Bc];intro p1 hp1;refine sy ao ?_;have a1:=au (o:=.lst ((ts.map cE).map D.bl)) hS hp1;have a2:=au (o:=.lst ((ts.map cE).map D.bl)) hT hp1;have s1:Sub S (up S p1 (.lst ((ts.map cE).map D.bl))):=(Sub.refl S).up hp1;generalize up S p1 (.lst ((ts.map cE).map D.bl))=S1 at a1 a2 s1 ⊢;cases wZ:(ts.map cE).any id with
  |true =>
   nofun;refine⟨s1,hn λz=>?_⟩;rw[ud]at wZ;obtain⟨t,ht,hi⟩:=kg.mp wZ;have:=(z.2 t ht).1;rw[show cE t=true from hi]at this;cases this
  |false =>
  have hid:∀t∈ts,cE t=false:=λt ht=>by
   rw[ud,Cw]at wZ;have:=wZ t ht;simpa using this
  nofun;refine f9 (λi=>.bl (decide (gs.getD i ("","",[])∈ts))) (by rw[az];lia) (by exact a1) ?_ ?_
  ·intro i d hd P hP;rw[aK]at hd;obtain⟨g,hg,rfl⟩:=bW.mp hd;rw[bJ,hg]at hP;nofun;exact IM (by decide) a2 hP
  rw[az,Ba (l:=gs) (f:=λb=>D.bl (decide (b∈ts))) ("","",[])];have Zx:(gs.map λb=>D.bl (decide (b∈ts)))=(gs.map λb=>decide (b∈ts)).map D.bl:=by rw[dC];rfl
  rw[Zx];intro p2 hp2;refine sy ao ?_;have b1:=au (o:=.lst ((gs.map λb=>decide (b∈ts)).map D.bl)) a1 hp2;have b2:=au (o:=.lst ((gs.map λb=>decide (b∈ts)).map D.bl)) a2 hp2;have s2:=s1.up (o:=.lst ((gs.map λb=>decide (b∈ts)).map D.bl)) hp2;generalize up S1 p2 (.lst ((gs.map λb=>decide (b∈ts)).map D.bl))=S2 at b1 b2 s2 ⊢;by_cases hown:∀g∈gs,g∈ts
  rotate_left
  ·have ea:(gs.map λb=>decide (b∈ts)).all id=false:=by
    rw[Nz];intro z;rw[qo,mK]at z;exact hown λg hg=>of_decide_eq_true (z g hg)
   rw[ea];nofun;exact⟨s2,hn λz=>hown z.1⟩
  have ea:(gs.map λb=>decide (b∈ts)).all id=true:=by
   rw[qo,mK];exact λg hg=>decide_eq_true (hown g hg)
  rw[ea];nofun;refine⟨λj σ S'=>ib λ(x2 x3:Option D)=>σ=[some (.ref po),some (.tup [.str "ends",.ref pt]),x2,x3]/\S'=S2/\∀t∈ts.take j,∀g∈gs,t.2.1=g.1->bu t g∈ts,⟨_,_,rfl,rfl,by simp⟩,λj σ S' ⟨_,_,_,z,_⟩=>by rw[z];exact b2,?_,?_⟩
  ·rintro j d σ S' hd ⟨x2,x3,rfl,lj,hgo⟩;obtain rfl:S2=S':=lj.symm;rw[aK]at hd;obtain⟨t,ht,rfl⟩:=bW.mp hd;have qh:=bS ht;nofun;refine⟨λi σ S'=>∃(x3:Option D),σ=[some (.ref po),some (.tup [.str "ends",.ref pt]),some (af t),x3]/\S'=S2/\∀g∈gs.take i,t.2.1=g.1->bu t g∈ts,⟨_,rfl,rfl,by simp⟩,λi σ S' ⟨_,_,z,_⟩=>by rw[z];exact b1,?_,?_⟩
   ·rintro i d σ S' hd ⟨x3,rfl,lj,hgi⟩;obtain rfl:S2=S':=lj.symm;rw[aK]at hd;obtain⟨g,hg,rfl⟩:=bW.mp hd;have qj:=bS hg;have step:(t.2.1=g.1->bu t g∈ts)->∀x∈gs.take (i+1),t.2.1=x.1->bu t x∈ts:=λh x hx=>by
     rw[gu,hg]at hx;rcases bF.mp hx with z|z
     ·exact hgi x z
     ·simp at z;rw[z];exact h
    by_cases hf:t.2.1=g.1
    rotate_left
    ·unfold af;nofun;exact⟨_,rfl,rfl,step λz=>absurd z hf⟩
    obtain⟨m,c',q1,q2,p1,p2,p3,p4,hM⟩:=(hto.1 t qh).ex;obtain⟨m',c2,lb,wO,wQ,p8,wR,wU,hM'⟩:=(hgd g qj).ex;rw[hf,lb]at q2;cases q2;unfold af;nofun;refine⟨t.1,t.2.1,g.1,g.2.1,t.2.2,g.2.2,m,c',c2,rfl,hM,hM',by lia,by lia,by lia,by lia,?_⟩;nofun;refine WX (g:=bu t g) (by decide) b2 ?_;by_cases hc:bu t g∈ts
    ·rw[decide_eq_true hc];nofun;exact⟨_,rfl,rfl,step λ_=>hc⟩
    ·rw[decide_eq_false hc];nofun;exact⟨s2,hn λz=>hc ((z.2 t qh).2 g qj hf)⟩
   ·rintro σ S' ⟨x3,rfl,lj,hgi⟩;rw[az,iN]at hgi;refine⟨_,_,rfl,lj,λx hx=>?_⟩;rw[gu,ht]at hx;rcases bF.mp hx with z|z
    ·exact hgo x z
    ·simp at z;rw[z];exact hgi
  rintro σ S' ⟨x2,x3,rfl,lj,hgo⟩;obtain rfl:S2=S':=lj.symm;rw[az,iN]at hgo;nofun;exact⟨s2,hy ⟨hown,λt ht=>⟨hid t ht,hgo t ht⟩⟩⟩
inductive Zy (ds:List D)(q:D->Prop):Prop where
 |mk (ar:Str->Option Nat) (g:Gr) (c:Int) (_:ds=[af g,.int c]) (_:Gd ar g) (_:∀h:Gr,Gd ar h->q (af h))
def KJ :aY:=vS Zy
theorem Zz{k:Nat}(h:aE K mg "_law_turned" mv ["graph","cell"])(G:Gs K mg):ay P w K mg base (k+1) "_law_turned" ["graph","cell"] KJ:=show _ by
 refine h.val wj (by rintro ds q ⟨_,_,_,e,_⟩;rw[e];rfl) λf cdv A outer s0 H E ds q hr hA=>?_;obtain⟨ar,g,c,rfl,hG,hq⟩:=hA;obtain⟨gf,gt,B⟩:=g;obtain⟨m,n,q1,q2,p1,p2,p3,p4,hM⟩:=hG.ex;obtain⟨l1,l2,l3⟩:=hM;refine⟨_,(aq (kS (i:=2) (bQ:=av mv) (N:=["graph","cell","rows","at","k"]) (M:=[]) (js:=[]) ⟨rfl,by cbv,by cbv,by cbv,by cbv,by cbv⟩ (by cbv) (by cbv) rfl (gF (aA aG aH (aa 0) aj (λ_ _=>rfl))) (λ_ _ _ _ _=>dU) (λ_ _ _ _ _=>(cZ kz kF rfl G.list iR (ae (aa 0) ai))) wj.nd rfl rfl)
 (aq (aI (i:=3) wj.nd rfl (Or.inl rfl) (aD bK aN (aa 1) (b9 dG dI rfl G.len dD (ae (aa 2) ai))))
 (aq (aI (i:=4) wj.nd rfl (Or.inl rfl) (aD bK aN (aD cN aN (aa 1) aj) (b9 dG dI rfl G.len dD (ae (aA cV c8 (aa 2) (aa 3) (λ_ _=>rfl)) ai))))
 (aq (y6 (aD bK aN (aD gS fY (aD gS fY (aA cV c8 (aA cV c8 (aa 2) (aa 3) (λ_ _=>rfl)) (aa 4) (λ_ _=>rfl)) aj) (aD bK aN (aD cN aN (aa 1) aj) aj)) aj) (y8 (aA cV c8 (aa 2) (aa 3) (λ_ _=>rfl)) (aa 4)))
 (aB (aS (bM (ae (aA aG aH (aa 0) aj (λ_ _=>rfl)) (ae (aA aG aH (aa 0) aj (λ_ _=>rfl)) (ae (cZ fA fF rfl G.tuple fw (ae (h_ (bQ:=av mv) (N:=["graph","cell","rows","at","k"]) (M:=[]) (js:=[]) ⟨rfl,by cbv,by cbv,by cbv,by cbv,by cbv⟩ (by cbv) (by cbv) rfl (eu (aa 2)) (λ_ _ _ _ _=>dU) (λ_ _ _ _ _=>(cZ fA fF rfl G.tuple fw (ae (aa 0) ai)))) ai)) ai)))))))))),?_⟩
 unfold af c_ eC;simp only at l1 l2 l3 q1 q2;nofun;refine⟨λi ys S=>∃as:List Addr,ys=as.map D.ref/\as.length=i/\as.length<=4/\∀(j:Nat) (a:Addr),as[j]?=some a->S a=some (.lst ((B.getD j []).map D.int)),⟨[],rfl,rfl,by simp,by simp⟩,λi ys S ⟨as,e,_,hl,_⟩=>⟨trivial,by rw[e,az];exact eU (by lia)⟩,?_,?_⟩
 ·rintro i d ys S hd ⟨as,rfl,hl,Hn,has⟩;rw[aK]at hd;obtain⟨r,hr',rfl⟩:=bW.mp hd;refine vQ (vR ?_);rw[if_pos rfl];unfold bg;nofun;intro p hp;refine⟨as++[p],by rw[cA];rfl,by simp[hl],?_,λj a ha=>?_⟩
  ·have:=(bO.mp hr').1;simp only at this;rw[bx,lC];lia
  by_cases hj:j<as.length
  ·rw[lB hj]at ha;exact au (has j a ha) hp
  ·have:=(bO.mp ha).1;rw[bx,lC]at this;obtain rfl:j=as.length:=by lia
   rw[qt (a8 _),DD]at ha;cases ha;rw[ao,bJ,hl,hr'];rfl
 rintro ys S ⟨as,rfl,hl,_,has⟩;have hl:as.length=B.length:=by simpa using hl
 intro pr hpr;have qk:up S pr (.lst (as.map D.ref)) pr=some (.lst (as.map D.ref)):=ao;replace has:∀(j:Nat) (a:Addr),as[j]?=some a->up S pr (.lst (as.map D.ref)) a=some (.lst ((B.getD j []).map D.int))/\pr≠a:=λj a ha=>⟨au (has j a ha) hpr,(ne3 (has j a ha) hpr).symm⟩;generalize up S pr (.lst (as.map D.ref))=S1 at has qk ⊢;have hm0:(0:Int)<((as.map D.ref).length:Int):=by rw[az];lia
 nofun;obtain⟨ja,a,eja,ha,hat⟩:=jS (f:=D.ref) c (show 0<as.length by lia);refine de qk hat ?_;obtain⟨Bh,hna⟩:=has ja a ha;obtain⟨row,hrow⟩:∃row,B[ja]?=some row:=⟨_,aU (by have:=(bO.mp ha).1;lia)⟩;have hrm:=bS hrow;rw[show B.getD ja []=row by rw[bJ,hrow];rfl]at Bh;have hrl:=l2 row hrm;have hr0:(0:Int)<((row.map D.int).length:Int):=by rw[az];lia
 obtain⟨jx,x,gp,hx,ZC⟩:=jS (f:=D.int) (c/4) (show 0<row.length by lia);nofun;refine de qk hat ?_;nofun;refine de Bh ZC ?_;nofun;refine de qk hat ?_;nofun;have hjx:jx<row.length:=(bO.mp hx).1;refine oQ (j:=jx) Bh (sg gp (by rw[az];exact hjx)) ?_;obtain⟨v,hv,v0,v2⟩:∃v,(x+1+c/16%2)%3=v/\0<=v/\v<=2:=⟨_,rfl,by lia,by lia⟩;rw[hv,show(row.map D.int).set jx (.int v)=(row.set jx v).map D.int by rw[xX]];have b1:up S1 a (.lst ((row.set jx v).map D.int)) pr=some (.lst (as.map D.ref)):=(a9 hna).trans qk;obtain⟨R,hR⟩:∃R:Nat->List Int,∀(j:Nat) (a':Addr),as[j]?=some a'->up S1 a (.lst ((row.set jx v).map D.int)) a'=some (.lst ((R j).map D.int))/\(R j).length=n/\∀x∈R j,0<=x/\x<=2:=by
  refine⟨λj=>if as[j]?=some a then row.set jx v else B.getD j [],λj a' ha'=>?_⟩;by_cases e:a'=a
  ·subst e;simp only[if_pos ha'];refine⟨ao,by rw[tW];exact hrl,λx hx=>?_⟩;rcases xY hx with z|z
   ·exact l3 row hrm x z
   ·rw[z];exact⟨v0,v2⟩
  ·have hne:¬as[j]?=some a:=λz=>by rw[ha']at z;exact e (dN z)
   simp only[if_neg hne];have hjl:j<B.length:=by have:=(bO.mp ha').1;lia
   have hm:B.getD j []∈B:=by rw[bJ,aU hjl];exact kf _
   exact⟨(a9 e).trans (has j a' ha').1,l2 _ hm,l3 _ hm⟩
 generalize up S1 a (.lst ((row.set jx v).map D.int))=S2 at b1 hR ⊢;nofun;refine f9 (λi=>bg (R i)) (by rw[az];lia) (by exact b1) ?_ ?_
 ·intro i d hd P hP;rw[aK]at hd;obtain⟨a',ha',rfl⟩:=bW.mp hd;have hS':=(hR i a' ha').1;nofun;exact hP
 have el:((aZ (as.map D.ref).length).map λi=>bg (R i))=((aZ as.length).map R).map bg:=by rw[az,dC];rfl
 rw[el];intro pz hpz;nofun;have KL:∀r∈(aZ as.length).map R,r.length=n/\∀x∈r,0<=x/\x<=2:=λr hr=>by
  obtain⟨i,hi,rfl⟩:=bG.mp hr;exact(hR i _ (aU (gb.mp hi))).2
 exact hq (gf,gt,(aZ as.length).map R) ⟨m,n,q1,q2,p1,p2,p3,p4,by simp;lia,λr hr=>(KL r hr).1,λr hr=>(KL r hr).2⟩
inductive ZD (ds:List D)(S:ah)(q:D->Prop):Prop where
 |mk (pr:Addr) (prog:List Er) (c:Int) (_:ds=[.ref pr,.int c]) (_:S pr=some (.lst (prog.map Er.d))) (_:Pg prog) (_:∀g:Gr,Gd (aR prog) g->q (af g))
def KN :aY:=f6 ZD
theorem ZE{k:Nat}(h:aE K mg "_law_more" pW ["program","cell"])(G:Gs K mg):ay P w K mg base (k+1) "_law_more" ["program","cell"] KN:=show _ by
 refine h.f6 kY (by rintro ds S q ⟨_,_,_,e,_⟩;rw[e];rfl) λf cdv A outer s0 H E ds S q hr hA=>?_;obtain⟨pr,prog,c,rfl,hS,hP,hq⟩:=hA;have hl0:0<prog.length:=hP.Yw;have agL:(0:Int)<((prog.map Er.d).length:Int):=by rw[az];lia
 obtain⟨j1,e1,ej1,sX,ZF⟩:=jS (f:=Er.d) c hl0;obtain⟨j2,e2,ej2,he2,ZG⟩:=jS (f:=Er.d) (c/4) hl0;refine⟨_,(aq (aI (i:=2) kY.nd rfl (Or.inl rfl) (aA cV c8 (aa 0) (aD bK aN (aa 1) (b9 dG dI rfl G.len dD (ae (aa 0) ai))) (λ_ _=>rfl)))
 (aq (aI (i:=3) kY.nd rfl (Or.inl rfl) (aA cV c8 (aa 0) (aD bK aN (aD cN aN (aa 1) aj) (b9 dG dI rfl G.len dD (ae (aa 0) ai))) (λ_ _=>rfl)))
 (aq (aI (i:=4) kY.nd rfl (Or.inl rfl) (aD cN aN (aa 1) aj))
 (aq (aI (i:=5) kY.nd rfl (Or.inl rfl) (dA ai))
 (aq (c7 dk rfl (gF (aA aG aH (aa 2) aj (λ_ _=>rfl))) (ck (i:=6) kY.nd rfl (Or.inl rfl)) (aq (aI (i:=7) kY.nd rfl (Or.inl rfl) (dA ai))
 (aq (c7 dk rfl (gF (aA aG aH (aa 3) aj (λ_ _=>rfl))) (ck (i:=8) kY.nd rfl (Or.inl rfl)) (aq (dY (eh d6 fN gh fB fZ (aa 7) (ae (aD bK aN (aa 4) aj) ai)))
 (aB (aI (i:=4) kY.nd rfl (Or.inl rfl) (aD cN aN (aa 4) aj)))))
 (aB (dY (eh d6 fN gh fB fZ (aa 5) (ae (cZ fA fF rfl G.tuple fw (ae (aa 7) ai)) ai)))))))
 (aB (aS (bM (ae (aA aG aH (aa 2) aj (λ_ _=>rfl)) (ae (aA aG aH (aa 3) aj (λ_ _=>rfl)) (ae (cZ fA fF rfl G.tuple fw (ae (aa 5) ai)) ai))))))))))),?_⟩
 nofun;refine de hS ZF ?_;nofun;refine de hS ZG ?_;nofun;have h1:=hP.ps e1 (bS sX);have h2:=hP.ps e2 (bS he2);intro pw KO;have a2:up S pw (.lst []) pw=some (.lst (([]:cI).map bg)):=ao;have s1:Sub S (up S pw (.lst [])):=(Sub.refl S).up KO;generalize up S pw (.lst [])=S1 at a2 s1 ⊢;rw[show Er.d e1=.tup [.str e1.name,.tup (e1.ps.map D.str),e1.body.d] from rfl,show Er.d e2=.tup [.str e2.name,.tup (e2.ps.map D.str),e2.body.d] from rfl];nofun;refine⟨λj σ S'=>wm λ(left:Int) (A:cI) (x6 x7 x8:Option D)=>σ=[some (.ref pr),some (.int c),some (.tup [.str e1.name,.tup (e1.ps.map D.str),e1.body.d]),some (.tup [.str e2.name,.tup (e2.ps.map D.str),e2.body.d]),some (.int left),some (.ref pw),x6,x7,x8]/\S' pw=some (.lst (A.map bg))/\Sub S S'/\A.length=j/\(∀r∈A,r.length=e2.ps.length)/\∀r∈A,∀x∈r,0<=x/\x<=2,
  ⟨_,[],_,_,_,rfl,a2,s1,rfl,by simp,by simp⟩,λ_ _ _ _=>trivial,?_,?_⟩
 ·rintro j d σ S' hd ⟨left,A,x6,x7,x8,rfl,m1,m2,hA,Bi,Bj⟩;have hj:=(bO.mp hd).1;rw[az]at hj;nofun;intro pq hpq;have nq:pw≠pq:=ne3 m1 hpq;have b1:=au (o:=.lst []) m1 hpq;have b2:up S' pq (.lst []) pq=some (.lst (([]:List Int).map D.int)):=ao;have s2:=m2.up (o:=.lst []) hpq;have zq:S pq=none:=m2.free hpq;generalize up S' pq (.lst [])=S2 at b1 b2 s2 ⊢;nofun;refine⟨λi σ S3=>mw λ(left:Int) (r:List Int) (x8:Option D)=>σ=[some (.ref pr),some (.int c),some (.tup [.str e1.name,.tup (e1.ps.map D.str),e1.body.d]),some (.tup [.str e2.name,.tup (e2.ps.map D.str),e2.body.d]),some (.int left),some (.ref pw),some d,some (.ref pq),x8]/\S3 pw=some (.lst (A.map bg))/\S3 pq=some (.lst (r.map D.int))/\Sub S S3/\r.length=i/\∀x∈r,0<=x/\x<=2,
   ⟨_,[],_,rfl,b1,b2,s2,rfl,by simp⟩,λ_ _ _ _=>trivial,?_,?_⟩
  ·rintro i d2 σ S3 hd2 ⟨left,r,x8,rfl,g1,g2,g3,hr1,hr2⟩;have hi:=(bO.mp hd2).1;rw[az]at hi;nofun;refine fG g2 (eU (by rw[az];lia)) ?_;have er:r.map D.int++[D.int (left%3)]=(r++[left%3]).map D.int:=by rw[cA];rfl
   rw[er];nofun;refine⟨_,r++[left%3],_,rfl,(a9 nq).trans g1,ao,g3.at zq,by simp[hr1],λx hx=>?_⟩;rcases bF.mp hx with z|z
   ·exact hr2 x z
   ·rw[cz.mp z];lia
  rintro σ S3 ⟨left,r,x8,rfl,g1,g2,g3,hr1,hr2⟩;rw[az]at hr1;nofun;refine fG g1 (eU (by rw[az];lia)) ?_;have eA:A.map bg++[D.tup (r.map D.int)]=(A++[r]).map bg:=by rw[cA];rfl
  rw[eA];refine⟨_,A++[r],_,_,_,rfl,ao,g3.at (Sub.free (Sub.refl S) KO),by simp[hA],λx hx=>?_,λx hx=>?_⟩
  ·rcases bF.mp hx with z|z
   ·exact Bi x z
   ·rw[cz.mp z];exact hr1
  ·rcases bF.mp hx with z|z
   ·exact Bj x z
   ·rw[cz.mp z];exact hr2
 rintro σ S' ⟨left,A,x6,x7,x8,rfl,m1,m2,hA,Bi,Bj⟩;rw[az]at hA;nofun;refine⟨m2,hq (e1.name,e2.name,A) ⟨e1.ps.length,e2.ps.length,A0 hP.nd (bS sX),A0 hP.nd (bS he2),h1.1,h2.1,h1.2.1,h2.2.1,hA,Bi,Bj⟩⟩
theorem Bk{α:Type}{f:α->DK}{h:α->D}(e:∀x,fm (f x)=h x):∀l:List α,jm (l.map f)=l.map h
 |[]=>rfl
 |x::l=>by rw[bT,jm,e,Bk e l];rfl
theorem ZH(g:Gr):fm (fq g)=af g:=by
 have h1:∀r:List Int,fm (j7 r)=bg r:=λr=>by
  unfold j7 bg;rw[fm,Bk (h:=D.int) λx=>by rw[fm]]
 unfold fq af c_ eC;rw[fm,jm,jm,jm,jm,fm,fm,fm,Bk h1]
theorem Bl(ks:List Gr):((gT ks).map λkv:DK×D=>fm kv.1)=ks.map af:=by
 unfold gT;rw[dC];exact ub λg _=>ZH g
def ins(ks:List Gr)(g:Gr):List Gr:=if g∈ks then ks else ks++[g]
theorem ZI{S:ah}{n:aL->ah->Prop}{σ:aL}{a:Addr}{ks:List Gr}{g:Gr}(hS:S a=some (.tab (gT ks)))(hz:ks.length<=10000)(q:n σ (up S a (.tab (gT (ins ks g))))):o8 n σ (.bl true) (.ref a) (af g) S:=show _ by
 obtain⟨ds,e1,e2⟩:=wL g;rw[e1];refine IZ hS e2 (wM g) (eU (by unfold gT;rw[az];lia)) ?_;unfold ins at q;by_cases h:g∈ks
 ·rw[if_pos h]at q;rw[KD h];exact q
 ·rw[if_neg h]at q;rw[A4 h];exact q
inductive ZJ (ds:List D)(S:ah)(q:List D->Prop):Prop where
 |mk (po:Addr) (gs:List Gr) (ar:Str->Option Nat) (most:Nat) (_:ds=[.ref po,.int (most:Int)]) (_:S po=some (.lst (gs.map af))) (_:(∀g∈gs,Gd ar g)) (_:gs.length<=400) (_:most<=200) (_:∀ks:List Gr,(∀g∈ks,Gd ar g)->ks.length<=900->q (ks.map af))
def KP :aY:=jQ ZJ
theorem ZK{k:Nat}(h:aE K mg "_law_all" pX ["own","most"])(G:Gs K mg)(gL:ay P w K mg base k "_law_compose" ["one","other"] tN):ay P w K mg base (k+1) "_law_all" ["own","most"] KP:=show _ by
 refine h.jQ pY (by rintro ds S q ⟨_,_,_,_,e,_⟩;rw[e];rfl) λf cdv A outer s0 H E ds S q hr hA=>?_;obtain⟨po,gs,ar,most,rfl,hS,hgd,e_,Zh,hq⟩:=hA;have hu:=EK hr;refine⟨_,(aq (aI (i:=2) pY.nd rfl (Or.inl rfl) Wp)
 (aq (c7 dk rfl (eu (aa 0)) (ck (i:=3) pY.nd rfl (Or.inl rfl)) (aB (IX hu (aa 2) (aa 3) fU rfl)))
 (aq (aI (i:=4) pY.nd rfl (Or.inl rfl) (cZ Jl Jn rfl G.list iR (ae (aa 2) ai)))
 (aq (rR dk (cH.pt (w_and (rL (aa 4) (λ_=>rfl)) (gD (aX lW gG (b9 Wo Wt rfl G.len dD (ae (aa 2) ai)) (aa 1) (aV _))))) (aq (aI (i:=3) pY.nd rfl (Or.inl rfl) (Fm d6 qw xS EX F5 (aa 4)))
 (aB (c7 dk rfl (eu (aa 0)) (ck (i:=5) pY.nd rfl (Or.inl rfl)) (aB (bN (cH.pt (w_and (aX bP eT (aA aG aH (aa 5) aj (λ_ _=>rfl)) (aA aG aH (aa 3) aj (λ_ _=>rfl)) (aV _)) (gD (IW hu (aJ gL hr rfl (ae (aa 3) (ae (aa 5) ai))) (aa 2))))) (aq (IX hu (aa 2) (aJ gL hr rfl (ae (aa 3) (ae (aa 5) ai))) fU rfl)
 (aB (dY (eh d6 fN gh fB fZ (aa 4) (ae (aJ gL hr rfl (ae (aa 3) (ae (aa 5) ai))) ai))))) bj))))))
 (aB (aS (cZ Jl Jn rfl G.list iR (ae (aa 2) ai)))))))),?_⟩
 nofun;intro sn hsn;have h1:up S sn (.tab []) sn=some (.tab (gT [])):=ao;have s1:Sub S (up S sn (.tab [])):=(Sub.refl S).up hsn;generalize up S sn (.tab [])=S1 at h1 s1 ⊢;have hS1:=s1 _ _ hS;nofun;refine⟨λj σ S'=>ib λ(ks:List Gr) (x3:Option D)=>σ=[some (.ref po),some (.int (most:Int)),some (.ref sn),x3,none,none]/\Sub S S'/\S' sn=some (.tab (gT ks))/\(∀g∈ks,Gd ar g)/\ks.length<=j,
  ⟨[],none,rfl,s1,h1,by simp,by simp⟩,λj σ S' ⟨_,_,_,h,_⟩=>h _ _ hS,?_,?_⟩
 ·rintro j d σ S' hd ⟨ks,x3,rfl,m1,m2,hk,hkl⟩;rw[aK]at hd;obtain⟨g,hg,rfl⟩:=bW.mp hd;have qj:=bS hg;have hjl:=(bO.mp hg).1;nofun;refine ZI m2 (by lia) ?_;refine⟨ins ks g,_,rfl,m1.at hsn,ao,λx hx=>?_,?_⟩
  ·unfold ins at hx
   split at hx
   ·exact hk x hx
   ·rcases bF.mp hx with z|z
    ·exact hk x z
    ·rw[cz.mp z];exact hgd g qj
  ·unfold ins
   split
   ·lia
   ·rw[bx,lC];lia
 rintro σ S3 ⟨ks,x3,rfl,m1,m2,hk,hkl⟩;rw[az]at hkl;nofun;refine Ap m2 ?_;rw[Bl];intro td htd;have z2:S td=none:=m1.free htd;have z3:sn≠td:=ne3 m2 htd;have s2:=m1.up (o:=.lst (ks.map af)) htd;have h2:=au (o:=.lst (ks.map af)) m2 htd;have h3:up S3 td (.lst (ks.map af)) td=some (.lst (ks.map af)):=ao;generalize up S3 td (.lst (ks.map af))=S2 at s2 h2 h3 ⊢;nofun;refine rY (λm σ S'=>j5 λ(ks ps:List Gr) (x3 x5:Option D)=>σ=[some (.ref po),some (.int (most:Int)),some (.ref sn),x3,some (.ref td),x5]/\Sub S S'/\S' sn=some (.tab (gT ks))/\S' td=some (.lst (ps.map af))/\(∀g∈ks,Gd ar g)/\(∀g∈ps,Gd ar g)/\ks.length<=most+gs.length/\ps.length<=ks.length/\m=2*(most+gs.length-ks.length)+ps.length) _
  ⟨ks,ks,_,_,rfl,s2,h2,h3,hk,hk,by lia,a8 _,rfl⟩ ?_
 clear m1 m2 hk hkl s2 h2 h3;rintro m σ S' ⟨ks,ps,x3,x5,rfl,m1,m2,m3,hk,hps,hkb,cg,hm'⟩;have hkl:(gT ks).length=ks.length:=by unfold gT;rw[az]
 nofun;rcases snoc_cases ps with rfl|⟨ps,p,rfl⟩
 ·nofun;refine Ap m2 ?_;rw[Bl];intro pz hpz;exact⟨pz,_,rfl,m1.free hpz,m1.up hpz,ao,hq ks hk (by lia)⟩
 have eb:(!((ps++[p]).map af).isEmpty)=true:=by simp
 rw[eb];nofun;refine Wu m2 ?_;rw[hkl];by_cases c0:(ks.length:Int)<(most:Int)
 rotate_left
 ·nofun;refine Ap m2 ?_;rw[Bl];intro pz hpz;exact⟨pz,_,rfl,m1.free hpz,m1.up hpz,ao,hq ks hk (by lia)⟩
 nofun;rw[cA]at m3;have agM:ps.length+1<=ks.length:=by simpa using cg
 have KQ:=hps p (by simp);refine Gc m3 ?_;have n1:Sub S (up S' td (.lst (ps.map af))):=m1.at z2;have n2:up S' td (.lst (ps.map af)) sn=_:=(a9 z3).trans m2;have n3:up S' td (.lst (ps.map af)) td=_:=ao;generalize up S' td (.lst (ps.map af))=S4 at n1 n2 n3 ⊢;have n4:=n1 _ _ hS;nofun;refine⟨λj σ T=>j5 λ(ks' ps':List Gr) (c:Nat) (x5:Option D)=>σ=[some (.ref po),some (.int (most:Int)),some (.ref sn),some (af p),some (.ref td),x5]/\Sub S T/\T sn=some (.tab (gT ks'))/\T td=some (.lst (ps'.map af))/\(∀g∈ks',Gd ar g)/\(∀g∈ps',Gd ar g)/\ks'.length=ks.length+c/\ps'.length=ps.length+c/\c<=j,
  ⟨ks,ps,0,_,rfl,n1,n2,n3,hk,λx hx=>hps x (lu _ hx),rfl,rfl,a8 _⟩,λj σ T ⟨_,_,_,_,_,h,_⟩=>h _ _ hS,?_,?_⟩
 ·rintro j d σ T hd ⟨ks',ps',c,x5,rfl,o1,o2,o3,hk',hp',e1,e2,hcj⟩;rw[aK]at hd;obtain⟨g,hg,rfl⟩:=bW.mp hd;have qj:=bS hg;have hjl:=(bO.mp hg).1;unfold af;by_cases hf:g.1=p.2.1
  rotate_left
  ·nofun;exact⟨ks',ps',c,_,rfl,o1,o2,o3,hk',hp',e1,e2,by lia⟩
  have KR:=hgd g qj;have KS:Gd ar (bu p g):=KQ.cmp KR hf.symm;obtain⟨m,c',q1,q2,p1,p2,p3,p4,hM⟩:=KQ.ex;obtain⟨m',c2,lb,wO,wQ,p8,wR,wU,hM'⟩:=KR.ex;rw[<-hf,lb]at q2;cases q2;nofun;refine⟨p.1,p.2.1,g.1,g.2.1,p.2.2,g.2.2,m,c',c2,rfl,hM,hM',by lia,by lia,by lia,by lia,?_⟩;nofun;show sN true _ _ (af (bu p g)) _;refine A5 o2 ?_;by_cases c3:bu p g∈ks'
  ·rw[decide_eq_true c3];nofun;exact⟨ks',ps',c,_,rfl,o1,o2,o3,hk',hp',e1,e2,by lia⟩
  ·rw[decide_eq_false c3];nofun;refine⟨p.1,p.2.1,g.1,g.2.1,p.2.2,g.2.2,m,c',c2,rfl,hM,hM',by lia,by lia,by lia,by lia,?_⟩;show o8 _ _ _ _ (af (bu p g)) _;refine Y8 o2 (by lia) c3 ?_;have u1:Sub S (up T sn (.tab (gT (ks'++[bu p g])))):=o1.at hsn;have u2:up T sn (.tab (gT (ks'++[bu p g]))) sn=_:=ao;have u3:up T sn (.tab (gT (ks'++[bu p g]))) td=_:=(a9 z3.symm).trans o3;generalize up T sn (.tab (gT (ks'++[bu p g])))=T2 at u1 u2 u3 ⊢;nofun;refine⟨p.1,p.2.1,g.1,g.2.1,p.2.2,g.2.2,m,c',c2,rfl,hM,hM',by lia,by lia,by lia,by lia,?_⟩;nofun;refine fG u3 (by rw[az];exact eU (by lia)) ?_;refine⟨ks'++[bu p g],ps'++[bu p g],c+1,_,rfl,u1.at z2,by rw[a9 z3];exact u2,by rw[ao,cA];rfl,λx hx=>?_,λx hx=>?_,by simp;lia,by simp;lia,by lia⟩
   ·rcases bF.mp hx with z|z
    ·exact hk' x z
    ·rw[cz.mp z];exact KS
   ·rcases bF.mp hx with z|z
    ·exact hp' x z
    ·rw[cz.mp z];exact KS
 ·rintro σ T ⟨ks',ps',c,x5,rfl,o1,o2,o3,hk',hp',e1,e2,hcj⟩;rw[az]at hcj;rw[bx,lC]at hm';refine⟨_,?_,ks',ps',_,_,rfl,o1,o2,o3,hk',hp',by lia,by lia,rfl⟩;lia
theorem tP{α β:Type}{f:α->β}:∀(l:List α) (k:Nat),(l.map f).eraseIdx k=(l.eraseIdx k).map f
 |[],_=>rfl
 |_::_,0=>rfl
 |x::l,k+1=>by rw[bT,CZ,CZ,bT,tP l k]
theorem Pg.gl{prog:List Er}(h:Pg prog):(aC prog).length<=144:=show _ by
 have h1:=zV (told:=bb) (ext:=Sy.bases) (λe he=>(h.body e he).sends);have h2:=h.len;have h3:prog.length*12<=12*12:=Nw _ h2;show(dB bb Sy.bases prog).length<=144;lia
def gM(pt:Addr):Option lg->D
 |none=>.non
 |some t=>dW pt t
inductive ZL (ds:List D)(S:ah)(q:D->ah->Prop)(_:Addr->Prop):Prop where
 |mk (pr po pt:Addr) (prog:List Er) (tl:Option lg) (way c:Int) (_:ds=[.ref pr,.ref po,gM pt tl,.int way,.int c]) (_:S pr=some (.lst (prog.map Er.d))) (_:S po=some (.lst ((aC prog).map af))) (_:Pg prog) (_:(∀t,tl=some t->wW pt S t)) (_:(∀ts,tl=some (.ends ts)->(∀g∈ts,Gd (aR prog) g)/\ts.length<=144)) (_:1<=way) (_:way<=6) (_:0<=c) (_:∀(S':ah) (kM:Addr) (t:lg),Sub S S'->wW kM S' t->wX (aR prog) t->q (dW kM t) S')
def KU :aY:=mj ZL
theorem ZM{k:Nat}(h:aE K mg "_law_spoilt" pZ ["program","own","told","way","cell"])(G:Gs K mg)(Bm:ay P w K mg base k "_law_more" ["program","cell"] KN)(Bn:ay P w K mg base k "_law_all" ["own","most"] KP)(Bo:ay P w K mg base k "_law_turned" ["graph","cell"] KJ):ay P w K mg base (k+1) "_law_spoilt" ["program","own","told","way","cell"] KU:=show _ by
 refine h.mj j3 (by rintro ds S q qx ⟨_,_,_,_,_,_,_,e,_⟩;rw[e];rfl) λf cdv A outer s0 H E ds S q qx hr hA=>?_;obtain⟨pr,po,pt,prog,tl,way,c,rfl,hS,hO,hP,hth,hto,w1,w6,hc,hq⟩:=hA;have hok:=hP.ok;have e_:=hP.gl;have fin:∀{S':ah} {p:Addr} {ts:List Gr},Sub S S'->S' p=some (.lst (ts.map af))->(∀g∈ts,Gd (aR prog) g)->ts.length<=1000->∃T,Sub T S'/\q (.tup [.str "ends",.ref p]) T:=λ{S' p ts} h1 h2 h3 h4=>⟨S',Sub.refl _,hq S' p (.ends ts) h1 h2 ⟨h3,h4⟩⟩;refine⟨_,(aq (bN (aX bP dn (aa 3) aj (aV _)) (aq (aI (i:=5) j3.nd rfl (Or.inl rfl) (oA (cH.pt (w_and (aX qU rV (aa 2) gk (aV _)) (gD (aX bP eT (aA aG aH (aa 2) aj (λ_ _=>rfl)) bh (aV _))))) (cZ kz kF rfl G.list iR (ae (aA aG aH (aa 2) aj (λ_ _=>rfl)) ai)) (cZ kz kF rfl G.list iR (ae (aa 1) ai))))
 (aB (aS (bM (ae bh (ae (aD oo oI (aa 5) (dA (ae (aJ Bm hr rfl (ae (aa 0) (ae (aa 4) ai))) ai))) ai)))))) bj)
 (aq (bN (aX bP dn (aa 3) aj (aV _)) (aq (aI (i:=5) j3.nd rfl (Or.inl rfl) (aJ Bn hr rfl (ae (aa 1) (ae aj ai))))
 (aq (bN (cH.pt (w_and (rL (aa 5) (λ_=>rfl)) (gD (aX bP dn (aD bK aN (aa 4) aj) aj (aV _))))) (aB (dY (eh d6 qw xS ED Jd (aa 5) (ae (aD bK aN (aD cN aN (aa 4) aj) (b9 dG dI rfl G.len dD (ae (aa 5) ai))) ai)))) bj)
 (aB (aS (bM (ae bh (ae (aa 5) ai))))))) bj)
 (aq (bN (aX bP dn (aa 3) aj (aV _)) (aq (aI (i:=5) j3.nd rfl (Or.inl rfl) (oA (cH.pt (w_and (aX qU rV (aa 2) gk (aV _)) (w_and (aX bP eT (aA aG aH (aa 2) aj (λ_ _=>rfl)) bh (aV _)) (gD (aX bP dn (aD bK aN (aa 4) aj) aj (aV _)))))) (cZ kz kF rfl G.list iR (ae (aA aG aH (aa 2) aj (λ_ _=>rfl)) ai)) (cZ kz kF rfl G.list iR (ae (aa 1) ai))))
 (aB (aS (bM (ae bh (ae (aD oo oI (aa 5) (eK jI jP (aa 5) eI (eJ aj))) ai)))))) bj)
 (aq (bN (cH.pt (w_or (aX bP dn (aa 3) aj (aV _)) (i_ (aX bP dn (aa 3) aj (aV _))))) (aq (aI (i:=5) j3.nd rfl (Or.inl rfl) (oA (cH.pt (w_and (aX qU rV (aa 2) gk (aV _)) (gD (aX bP eT (aA aG aH (aa 2) aj (λ_ _=>rfl)) bh (aV _))))) (cZ kz kF rfl G.list iR (ae (aA aG aH (aa 2) aj (λ_ _=>rfl)) ai)) (cZ kz kF rfl G.list iR (ae (aa 1) ai))))
 (aq (bN (cH.pt (w_and (rL (aa 5) (λ_=>rfl)) (gD (aX bP dn (aa 3) aj (aV _))))) (aB (dY (eh d6 qw xS ED Jd (aa 5) (ae (aD bK aN (aa 4) (b9 dG dI rfl G.len dD (ae (aa 5) ai))) ai)))) bj)
 (aq (bN (cH.pt (w_and (rL (aa 5) (λ_=>rfl)) (gD (aX bP dn (aa 3) aj (aV _))))) (aq (aI (i:=6) j3.nd rfl (Or.inl rfl) (aD bK aN (aa 4) (b9 dG dI rfl G.len dD (ae (aa 5) ai))))
 (aB (y6 (aJ Bo hr rfl (ae (aA cV c8 (aa 5) (aa 6) (λ_ _=>rfl)) (ae (aD cN aN (aa 4) aj) ai))) (y8 (aa 5) (aa 6))))) bj)
 (aB (aS (bM (ae bh (ae (aa 5) ai)))))))) bj)
 (aq (aI (i:=5) j3.nd rfl (Or.inl rfl) (dA ai))
 (aq (aI (i:=7) j3.nd rfl (Or.inl rfl) (aD cN aN (aa 4) aj))
 (aq (c7 m7 rfl (fX rfl G.range (ae (aD bK aN (aa 4) aj) ai)) (ck (i:=8) j3.nd rfl (Or.inl rfl)) (aq (dY (eh d6 fN gh fB fZ (aa 5) (ae (aD yn fY (aD bK aN (aa 7) (aD gS fY (b9 dG dI rfl G.len dD (ae (aa 1) ai)) aj)) aj) ai)))
 (aB (aI (i:=7) j3.nd rfl (Or.inl rfl) (aD cN aN (aa 7) (aD gS fY (b9 dG dI rfl G.len dD (ae (aa 1) ai)) aj))))))
 (aB (aS (bM (ae bh (ae (cZ fA fF rfl G.tuple fw (ae (aa 5) ai)) ai)))))))))))),?_⟩
 by_cases c6:way=6
 ·nofun;refine⟨po,aC prog,aR prog,54,rfl,hO,hok.gd,by lia,by decide,λks hk hkl=>?_⟩;intro p hp;have a1:up S p (.lst (ks.map af)) p=some (.lst (ks.map af)):=ao;have s1:Sub S (up S p (.lst (ks.map af))):=(Sub.refl S).up hp;generalize up S p (.lst (ks.map af))=S1 at a1 s1 ⊢;by_cases hne:ks=[]
  ·rw[hne]at a1;nofun;exact fin s1 a1 (by simp) (by simp)
  have h0:0<ks.length:=mL.mpr hne;have h0':(0:Int)<((ks.map af).length:Int):=by rw[az];lia
  have eb:(!(ks.map af).isEmpty)=true:=by
   cases ie:ks with
   |nil=>exact absurd ie hne
   |cons _ _=>rfl
  obtain⟨jx,x,gp,hjl,hjx⟩:=sh (xs:=ks) (c/3) h0;by_cases c3:c%3=1
  ·nofun;rw[eb];nofun;refine wb (k:=jx) (y:=af x) (by rw[az];exact gp) a1 (by lia) (by rw[aK,hjx];rfl) ?_;rw[tP];nofun;exact fin (s1.at hp) ao (λg hg=>hk g (xZ hg)) (b5 (x_ _ _) (by lia))
  ·nofun;rw[eb];nofun;exact fin s1 a1 hk (by lia)
 by_cases c4:way=4
 ·have m0:=fc c (show(5:Int)≠0 by decide);have m5:=n_ c (show(0:Int)<5 by decide);nofun;intro p hp;have a1:up S p (.lst []) p=some (.lst (([]:List Int).map D.int)):=ao;have s1:Sub S (up S p (.lst [])):=(Sub.refl S).up hp;generalize up S p (.lst [])=S1 at a1 s1 ⊢;nofun;refine⟨λj σ S'=>mw λ(left:Int) (r:List Int) (x8:Option D)=>σ=[some (.ref pr),some (.ref po),some (gM pt tl),some (.int way),some (.int c),some (.ref p),none,some (.int left),x8]/\S' p=some (.lst (r.map D.int))/\Sub S S'/\r.length=j/\∀x∈r,-10<=x/\x<=300,
   ⟨_,[],_,rfl,a1,s1,rfl,by simp⟩,λ_ _ _ _=>trivial,?_,?_⟩
  ·rintro j d σ S' hd ⟨left,r,x8,rfl,m1,m2,hr1,hr2⟩;have hj:=(bO.mp hd).1;rw[dE]at hj;have hO':=m2 _ _ hO;have hpos:(0:Int)<(((aC prog).map af).length:Int)+2:=by lia
   have hle:(((aC prog).map af).length:Int)<=144:=by rw[az];lia
   have n0:=fc left (show(((aC prog).map af).length:Int)+2≠0 by lia);have n1:=n_ left hpos;nofun;refine fG m1 (eU (by rw[az];lia)) ?_;have er:r.map D.int++[D.int (left%((((aC prog).map af).length:Int)+2)-1)]=(r++[left%((((aC prog).map af).length:Int)+2)-1]).map D.int:=by rw[cA];rfl
   rw[er];have m1':up S' p (.lst ((r++[left%((((aC prog).map af).length:Int)+2)-1]).map D.int)) p=_:=ao;have m2':Sub S (up S' p (.lst ((r++[left%((((aC prog).map af).length:Int)+2)-1]).map D.int))):=m2.at hp;generalize up S' p (.lst ((r++[left%((((aC prog).map af).length:Int)+2)-1]).map D.int))=S3 at m1' m2' ⊢;have hO2:=m2' _ _ hO;nofun;refine⟨_,r++[left%((((aC prog).map af).length:Int)+2)-1],_,rfl,m1',m2',by simp[hr1],λx hx=>?_⟩;rcases bF.mp hx with z|z
   ·exact hr2 x z
   ·rw[cz.mp z];lia
  rintro σ S' ⟨left,r,x8,rfl,m1,m2,hr1,hr2⟩;rw[dE]at hr1;nofun;exact⟨S',Sub.refl _,hq S' p (.cm r) m2 trivial ⟨by lia,hr2⟩⟩
 by_cases c5:way=5
 ·skip
  rcases tl with _|ts|w
  ·simp only[gM];nofun;intro p hp;have a1:up S p (.lst ((aC prog).map af)) p=some (.lst ((aC prog).map af)):=ao;have s1:Sub S (up S p (.lst ((aC prog).map af))):=(Sub.refl S).up hp;generalize up S p (.lst ((aC prog).map af))=S1 at a1 s1 ⊢;obtain⟨rs,aT⟩:∃rs,(aC prog)=rs:=⟨_,rfl⟩;have hrs:∀g∈rs,Gd (aR prog) g:=aT▸hok.gd;have hrl:rs.length<=144:=aT▸e_;rw[aT]at a1;have hS1:=s1 _ _ hS;nofun;refine⟨pr,prog,c,rfl,hS1,hP,λg hg=>?_⟩;nofun;intro p2 hp2;nofun;refine jc (au a1 hp2) ao (c9 (by rw[az];simp;lia)) ?_;rw[show rs.map af++[af g]=(rs++[g]).map af by rw[cA];rfl];intro p3 hp3;nofun;refine fin ((s1.up hp2).up hp3) ao (λx hx=>?_) (by simp;lia);rcases bF.mp hx with z|z
   ·exact hrs x z
   ·rw[cz.mp z];exact hg
  ·simp only[gM,dW];nofun;refine rX (hth _ rfl:S pt=some (.lst (ts.map af))) ?_;intro p hp;have a1:up S p (.lst (ts.map af)) p=some (.lst (ts.map af)):=ao;have s1:Sub S (up S p (.lst (ts.map af))):=(Sub.refl S).up hp;generalize up S p (.lst (ts.map af))=S1 at a1 s1 ⊢;obtain⟨rs,aT⟩:∃rs,ts=rs:=⟨_,rfl⟩;have hrs:∀g∈rs,Gd (aR prog) g:=aT▸(hto ts rfl).1;have hrl:rs.length<=144:=aT▸(hto ts rfl).2;rw[aT]at a1;have hS1:=s1 _ _ hS;nofun;refine⟨pr,prog,c,rfl,hS1,hP,λg hg=>?_⟩;nofun;intro p2 hp2;nofun;refine jc (au a1 hp2) ao (c9 (by rw[az];simp;lia)) ?_;rw[show rs.map af++[af g]=(rs++[g]).map af by rw[cA];rfl];intro p3 hp3;nofun;refine fin ((s1.up hp2).up hp3) ao (λx hx=>?_) (by simp;lia);rcases bF.mp hx with z|z
   ·exact hrs x z
   ·rw[cz.mp z];exact hg
  ·simp only[gM,dW];nofun;intro p hp;have a1:up S p (.lst ((aC prog).map af)) p=some (.lst ((aC prog).map af)):=ao;have s1:Sub S (up S p (.lst ((aC prog).map af))):=(Sub.refl S).up hp;generalize up S p (.lst ((aC prog).map af))=S1 at a1 s1 ⊢;obtain⟨rs,aT⟩:∃rs,(aC prog)=rs:=⟨_,rfl⟩;have hrs:∀g∈rs,Gd (aR prog) g:=aT▸hok.gd;have hrl:rs.length<=144:=aT▸e_;rw[aT]at a1;have hS1:=s1 _ _ hS;nofun;refine⟨pr,prog,c,rfl,hS1,hP,λg hg=>?_⟩;nofun;intro p2 hp2;nofun;refine jc (au a1 hp2) ao (c9 (by rw[az];simp;lia)) ?_;rw[show rs.map af++[af g]=(rs++[g]).map af by rw[cA];rfl];intro p3 hp3;nofun;refine fin ((s1.up hp2).up hp3) ao (λx hx=>?_) (by simp;lia);rcases bF.mp hx with z|z
   ·exact hrs x z
   ·rw[cz.mp z];exact hg
 by_cases c1:way=1
 ·skip
  rcases tl with _|ts|w
  ·simp only[gM];nofun;intro p hp;have a1:up S p (.lst ((aC prog).map af)) p=some (.lst ((aC prog).map af)):=ao;have s1:Sub S (up S p (.lst ((aC prog).map af))):=(Sub.refl S).up hp;generalize up S p (.lst ((aC prog).map af))=S1 at a1 s1 ⊢;obtain⟨rs,aT⟩:∃rs,(aC prog)=rs:=⟨_,rfl⟩;have hrs:∀g∈rs,Gd (aR prog) g:=aT▸hok.gd;have hrl:rs.length<=144:=aT▸e_;rw[aT]at a1;nofun;rw[kJ (by decide)];intro p2 hp2;refine jc (au a1 hp2) ao (c9 (by rw[dP,az];lia)) ?_;rw[show rs.map af++(rs.map af).take (jA 1)=(rs++rs.take 1).map af by rw[cA,lJ];rfl];intro p3 hp3;nofun;refine fin ((s1.up hp2).up hp3) ao (λx hx=>?_) (by simp;lia);rcases bF.mp hx with z|z
   ·exact hrs x z
   ·exact hrs x (lF z)
  ·simp only[gM,dW];by_cases cc:c%2=1
   ·nofun;refine rX (hth _ rfl:S pt=some (.lst (ts.map af))) ?_;intro p hp;have a1:up S p (.lst (ts.map af)) p=some (.lst (ts.map af)):=ao;have s1:Sub S (up S p (.lst (ts.map af))):=(Sub.refl S).up hp;generalize up S p (.lst (ts.map af))=S1 at a1 s1 ⊢;obtain⟨rs,aT⟩:∃rs,ts=rs:=⟨_,rfl⟩;have hrs:∀g∈rs,Gd (aR prog) g:=aT▸(hto ts rfl).1;have hrl:rs.length<=144:=aT▸(hto ts rfl).2;rw[aT]at a1;nofun;rw[kJ (by decide)];intro p2 hp2;refine jc (au a1 hp2) ao (c9 (by rw[dP,az];lia)) ?_;rw[show rs.map af++(rs.map af).take (jA 1)=(rs++rs.take 1).map af by rw[cA,lJ];rfl];intro p3 hp3;nofun;refine fin ((s1.up hp2).up hp3) ao (λx hx=>?_) (by simp;lia);rcases bF.mp hx with z|z
    ·exact hrs x z
    ·exact hrs x (lF z)
   ·nofun;intro p hp;have a1:up S p (.lst ((aC prog).map af)) p=some (.lst ((aC prog).map af)):=ao;have s1:Sub S (up S p (.lst ((aC prog).map af))):=(Sub.refl S).up hp;generalize up S p (.lst ((aC prog).map af))=S1 at a1 s1 ⊢;obtain⟨rs,aT⟩:∃rs,(aC prog)=rs:=⟨_,rfl⟩;have hrs:∀g∈rs,Gd (aR prog) g:=aT▸hok.gd;have hrl:rs.length<=144:=aT▸e_;rw[aT]at a1;nofun;rw[kJ (by decide)];intro p2 hp2;refine jc (au a1 hp2) ao (c9 (by rw[dP,az];lia)) ?_;rw[show rs.map af++(rs.map af).take (jA 1)=(rs++rs.take 1).map af by rw[cA,lJ];rfl];intro p3 hp3;nofun;refine fin ((s1.up hp2).up hp3) ao (λx hx=>?_) (by simp;lia);rcases bF.mp hx with z|z
    ·exact hrs x z
    ·exact hrs x (lF z)
  ·simp only[gM,dW];nofun;intro p hp;have a1:up S p (.lst ((aC prog).map af)) p=some (.lst ((aC prog).map af)):=ao;have s1:Sub S (up S p (.lst ((aC prog).map af))):=(Sub.refl S).up hp;generalize up S p (.lst ((aC prog).map af))=S1 at a1 s1 ⊢;obtain⟨rs,aT⟩:∃rs,(aC prog)=rs:=⟨_,rfl⟩;have hrs:∀g∈rs,Gd (aR prog) g:=aT▸hok.gd;have hrl:rs.length<=144:=aT▸e_;rw[aT]at a1;nofun;rw[kJ (by decide)];intro p2 hp2;refine jc (au a1 hp2) ao (c9 (by rw[dP,az];lia)) ?_;rw[show rs.map af++(rs.map af).take (jA 1)=(rs++rs.take 1).map af by rw[cA,lJ];rfl];intro p3 hp3;nofun;refine fin ((s1.up hp2).up hp3) ao (λx hx=>?_) (by simp;lia);rcases bF.mp hx with z|z
   ·exact hrs x z
   ·exact hrs x (lF z)
 by_cases c2:way=2
 ·skip
  rcases tl with _|ts|w
  ·simp only[gM];nofun;intro p hp;have a1:up S p (.lst ((aC prog).map af)) p=some (.lst ((aC prog).map af)):=ao;have s1:Sub S (up S p (.lst ((aC prog).map af))):=(Sub.refl S).up hp;generalize up S p (.lst ((aC prog).map af))=S1 at a1 s1 ⊢;obtain⟨rs,aT⟩:∃rs,(aC prog)=rs:=⟨_,rfl⟩;have hrs:∀g∈rs,Gd (aR prog) g:=aT▸hok.gd;have hrl:rs.length<=144:=aT▸e_;rw[aT]at a1;by_cases hne:rs=[]
   ·rw[hne]at a1;nofun;exact fin s1 a1 (by simp) (by simp)
   have h0:0<rs.length:=mL.mpr hne;have h0':(0:Int)<((rs.map af).length:Int):=by rw[az];lia
   have eb:(!(rs.map af).isEmpty)=true:=by
    cases ie:rs with
    |nil=>exact absurd ie hne
    |cons _ _=>rfl
   obtain⟨jx,x,gp,hjl,hjx⟩:=sh (xs:=rs) (c) h0;nofun;rw[eb];nofun;refine wb (k:=jx) (y:=af x) (by rw[az];exact gp) a1 (by lia) (by rw[aK,hjx];rfl) ?_;rw[tP];have a2:up S1 p (.lst ((rs.eraseIdx jx).map af)) p=_:=ao;have s2:Sub S (up S1 p (.lst ((rs.eraseIdx jx).map af))):=s1.at hp;generalize up S1 p (.lst ((rs.eraseIdx jx).map af))=S2 at a2 s2 ⊢;have hfin:=fin s2 a2 (λg hg=>hrs g (xZ hg)) (b5 (x_ _ _) (by lia));nofun;cases p7:(!((rs.eraseIdx jx).map af).isEmpty) with
   |true =>
    nofun;exact hfin
   |false =>
    nofun;exact hfin
  ·simp only[gM,dW];nofun;refine rX (hth _ rfl:S pt=some (.lst (ts.map af))) ?_;intro p hp;have a1:up S p (.lst (ts.map af)) p=some (.lst (ts.map af)):=ao;have s1:Sub S (up S p (.lst (ts.map af))):=(Sub.refl S).up hp;generalize up S p (.lst (ts.map af))=S1 at a1 s1 ⊢;obtain⟨rs,aT⟩:∃rs,ts=rs:=⟨_,rfl⟩;have hrs:∀g∈rs,Gd (aR prog) g:=aT▸(hto ts rfl).1;have hrl:rs.length<=144:=aT▸(hto ts rfl).2;rw[aT]at a1;by_cases hne:rs=[]
   ·rw[hne]at a1;nofun;exact fin s1 a1 (by simp) (by simp)
   have h0:0<rs.length:=mL.mpr hne;have h0':(0:Int)<((rs.map af).length:Int):=by rw[az];lia
   have eb:(!(rs.map af).isEmpty)=true:=by
    cases ie:rs with
    |nil=>exact absurd ie hne
    |cons _ _=>rfl
   obtain⟨jx,x,gp,hjl,hjx⟩:=sh (xs:=rs) (c) h0;nofun;rw[eb];nofun;refine wb (k:=jx) (y:=af x) (by rw[az];exact gp) a1 (by lia) (by rw[aK,hjx];rfl) ?_;rw[tP];have a2:up S1 p (.lst ((rs.eraseIdx jx).map af)) p=_:=ao;have s2:Sub S (up S1 p (.lst ((rs.eraseIdx jx).map af))):=s1.at hp;generalize up S1 p (.lst ((rs.eraseIdx jx).map af))=S2 at a2 s2 ⊢;have hfin:=fin s2 a2 (λg hg=>hrs g (xZ hg)) (b5 (x_ _ _) (by lia));nofun;cases p7:(!((rs.eraseIdx jx).map af).isEmpty) with
   |true =>
    nofun;exact hfin
   |false =>
    nofun;exact hfin
  ·simp only[gM,dW];nofun;intro p hp;have a1:up S p (.lst ((aC prog).map af)) p=some (.lst ((aC prog).map af)):=ao;have s1:Sub S (up S p (.lst ((aC prog).map af))):=(Sub.refl S).up hp;generalize up S p (.lst ((aC prog).map af))=S1 at a1 s1 ⊢;obtain⟨rs,aT⟩:∃rs,(aC prog)=rs:=⟨_,rfl⟩;have hrs:∀g∈rs,Gd (aR prog) g:=aT▸hok.gd;have hrl:rs.length<=144:=aT▸e_;rw[aT]at a1;by_cases hne:rs=[]
   ·rw[hne]at a1;nofun;exact fin s1 a1 (by simp) (by simp)
   have h0:0<rs.length:=mL.mpr hne;have h0':(0:Int)<((rs.map af).length:Int):=by rw[az];lia
   have eb:(!(rs.map af).isEmpty)=true:=by
    cases ie:rs with
    |nil=>exact absurd ie hne
    |cons _ _=>rfl
   obtain⟨jx,x,gp,hjl,hjx⟩:=sh (xs:=rs) (c) h0;nofun;rw[eb];nofun;refine wb (k:=jx) (y:=af x) (by rw[az];exact gp) a1 (by lia) (by rw[aK,hjx];rfl) ?_;rw[tP];have a2:up S1 p (.lst ((rs.eraseIdx jx).map af)) p=_:=ao;have s2:Sub S (up S1 p (.lst ((rs.eraseIdx jx).map af))):=s1.at hp;generalize up S1 p (.lst ((rs.eraseIdx jx).map af))=S2 at a2 s2 ⊢;have hfin:=fin s2 a2 (λg hg=>hrs g (xZ hg)) (b5 (x_ _ _) (by lia));nofun;cases p7:(!((rs.eraseIdx jx).map af).isEmpty) with
   |true =>
    nofun;exact hfin
   |false =>
    nofun;exact hfin
 have c3:way=3:=by lia
 rcases tl with _|ts|w
 ·simp only[gM];nofun;intro p hp;have a1:up S p (.lst ((aC prog).map af)) p=some (.lst ((aC prog).map af)):=ao;have s1:Sub S (up S p (.lst ((aC prog).map af))):=(Sub.refl S).up hp;generalize up S p (.lst ((aC prog).map af))=S1 at a1 s1 ⊢;obtain⟨rs,aT⟩:∃rs,(aC prog)=rs:=⟨_,rfl⟩;have hrs:∀g∈rs,Gd (aR prog) g:=aT▸hok.gd;have hrl:rs.length<=144:=aT▸e_;rw[aT]at a1;by_cases hne:rs=[]
  ·rw[hne]at a1;nofun;exact fin s1 a1 (by simp) (by simp)
  have h0:0<rs.length:=mL.mpr hne;have h0':(0:Int)<((rs.map af).length:Int):=by rw[az];lia
  have eb:(!(rs.map af).isEmpty)=true:=by
   cases ie:rs with
   |nil=>exact absurd ie hne
   |cons _ _=>rfl
  obtain⟨jx,x,gp,hjx,hat⟩:=jS (f:=af) (c) h0;nofun;rw[eb];nofun;rw[eb];nofun;refine de a1 hat ?_;nofun;refine⟨aR prog,x,_,rfl,hrs x (bS hjx),λy hy=>?_⟩;nofun;refine oQ (j:=jx) a1 (sg gp (by rw[az];exact(bO.mp hjx).1)) ?_;rw[show(rs.map af).set jx (af y)=(rs.set jx y).map af by rw[xX]];nofun;refine fin (s1.at hp) ao (λz hz=>?_) (by rw[tW];lia);rcases xY hz with q|q
  ·exact hrs z q
  ·rw[q];exact hy
 ·simp only[gM,dW];nofun;refine rX (hth _ rfl:S pt=some (.lst (ts.map af))) ?_;intro p hp;have a1:up S p (.lst (ts.map af)) p=some (.lst (ts.map af)):=ao;have s1:Sub S (up S p (.lst (ts.map af))):=(Sub.refl S).up hp;generalize up S p (.lst (ts.map af))=S1 at a1 s1 ⊢;obtain⟨rs,aT⟩:∃rs,ts=rs:=⟨_,rfl⟩;have hrs:∀g∈rs,Gd (aR prog) g:=aT▸(hto ts rfl).1;have hrl:rs.length<=144:=aT▸(hto ts rfl).2;rw[aT]at a1;by_cases hne:rs=[]
  ·rw[hne]at a1;nofun;exact fin s1 a1 (by simp) (by simp)
  have h0:0<rs.length:=mL.mpr hne;have h0':(0:Int)<((rs.map af).length:Int):=by rw[az];lia
  have eb:(!(rs.map af).isEmpty)=true:=by
   cases ie:rs with
   |nil=>exact absurd ie hne
   |cons _ _=>rfl
  obtain⟨jx,x,gp,hjx,hat⟩:=jS (f:=af) (c) h0;nofun;rw[eb];nofun;rw[eb];nofun;refine de a1 hat ?_;nofun;refine⟨aR prog,x,_,rfl,hrs x (bS hjx),λy hy=>?_⟩;nofun;refine oQ (j:=jx) a1 (sg gp (by rw[az];exact(bO.mp hjx).1)) ?_;rw[show(rs.map af).set jx (af y)=(rs.set jx y).map af by rw[xX]];nofun;refine fin (s1.at hp) ao (λz hz=>?_) (by rw[tW];lia);rcases xY hz with q|q
  ·exact hrs z q
  ·rw[q];exact hy
 ·simp only[gM,dW];nofun;intro p hp;have a1:up S p (.lst ((aC prog).map af)) p=some (.lst ((aC prog).map af)):=ao;have s1:Sub S (up S p (.lst ((aC prog).map af))):=(Sub.refl S).up hp;generalize up S p (.lst ((aC prog).map af))=S1 at a1 s1 ⊢;obtain⟨rs,aT⟩:∃rs,(aC prog)=rs:=⟨_,rfl⟩;have hrs:∀g∈rs,Gd (aR prog) g:=aT▸hok.gd;have hrl:rs.length<=144:=aT▸e_;rw[aT]at a1;by_cases hne:rs=[]
  ·rw[hne]at a1;nofun;exact fin s1 a1 (by simp) (by simp)
  have h0:0<rs.length:=mL.mpr hne;have h0':(0:Int)<((rs.map af).length:Int):=by rw[az];lia
  have eb:(!(rs.map af).isEmpty)=true:=by
   cases ie:rs with
   |nil=>exact absurd ie hne
   |cons _ _=>rfl
  obtain⟨jx,x,gp,hjx,hat⟩:=jS (f:=af) (c) h0;nofun;rw[eb];nofun;rw[eb];nofun;refine de a1 hat ?_;nofun;refine⟨aR prog,x,_,rfl,hrs x (bS hjx),λy hy=>?_⟩;nofun;refine oQ (j:=jx) a1 (sg gp (by rw[az];exact(bO.mp hjx).1)) ?_;rw[show(rs.map af).set jx (af y)=(rs.set jx y).map af by rw[xX]];nofun;refine fin (s1.at hp) ao (λz hz=>?_) (by rw[tW];lia);rcases xY hz with q|q
  ·exact hrs z q
  ·rw[q];exact hy
theorem ZO{gs:List Gr}{F:CL.Fd Gr}{w:List Int}(eF:eZ (dg gs)=some F)(e:jl F=some w):eM gs w=true:=show _ by
 unfold jl at e;obtain⟨p,hp,rfl⟩:=bW.mp e;have h1:=NA hp;have h2:=List.find?_some hp;unfold eM;rw[Ke eF p h1];exact h2
theorem ends_right{gs:List Gr}{F:CL.Fd Gr}(eF:eZ (dg gs)=some F)(e:jl F=none):lh gs (F.map b8):=show _ by
 obtain⟨_,hown,hup⟩:=Y6 eF;refine⟨hown,λt ht=>⟨?_,λg hg hf=>hup t ht g hg hf⟩⟩;obtain⟨p,hp,rfl⟩:=bG.mp ht;unfold jl at e;rw[Option.map_eq_none_iff,Nv]at e;have:=e p hp;simpa using this
theorem ft{S:ah}{Q:K3}{a b:Bool}{n:Nat}(q:Q (.bl (a==b)) S):oF n (.bl a) (.bl b) S Q:=⟨.bl a,.bl b,.bl a,.bl b,by simp[cW],q⟩
theorem ll(ts:List Gr):D.gH (ts.map af)=true:=D.l9.mpr λd hd=>by
 obtain⟨g,_,rfl⟩:=bG.mp hd;exact kQ g
theorem ji(w:List Int):D.gH (w.map D.int)=true:=D.l9.mpr λd hd=>by
 obtain⟨i,_,rfl⟩:=bG.mp hd;rfl
theorem lp(ts:List Gr):d_ (D.cR (ts.map af))<=10:=by
 rw[D.jN];refine si λd hd=>?_;obtain⟨u,hu,rfl⟩:=bG.mp hd;obtain⟨g,_,rfl⟩:=bG.mp hu;exact sM g
theorem jj(w:List Int):d_ (D.cR (w.map D.int))<=10:=by
 rw[D.jN];refine si λd hd=>?_;obtain⟨u,hu,rfl⟩:=bG.mp hd;obtain⟨i,_,rfl⟩:=bG.mp hu;exact eO _
theorem Kd.wl{F:CL.Fd Gr}{ks:List Kt}(h:Kd F ks):∀(i:Nat) (p:Gr×List Int),F[i]?=some p->p.2.length<=i+1:=show _ by
 intro i
 induction i using M' with
 |ind i ih =>
  intro p hp;have hi:=(bO.mp hp).1;rcases h.way i p _ hp (aU (by rw[h.len];exact hi)) with⟨_,e⟩|⟨e,a,_,he,ha,ew⟩
  ·rw[e];simp
  ·rw[ew,bx,lC];have:=ih e he a ha;lia
theorem ZP{gs:List Gr}{F:CL.Fd Gr}{w:List Int}(e_:gs.length<=144)(Bp:F.length<=40)(eF:eZ (dg gs)=some F)(e:jl F=some w):wN w:=show _ by
 obtain⟨ks,hfu⟩:=Zl eF;unfold jl at e;obtain⟨p,hp,rfl⟩:=bW.mp e;have hm:=NA hp;have h2:=Ke eF p hm;obtain⟨i,hi,e2⟩:=gO hm;have h1:=(Kd.mk hfu.len hfu.way hfu.Kr).wl i p (by rw[aU hi,e2]);unfold dF at h2
 split at h2
 ·rename_i hr
  exact⟨by lia,λx hx=>by have:=hr x hx;lia⟩
 ·cases h2
theorem fu{S:ah}{Q:K3}{a b:Addr}{x:Str}{es:List D}(hp:D.gH es=true)(hd:d_ (D.cR es)<=10)(ha:S a=some (.lst es))(hb:S b=some (.lst es))(q:Q (.bl true) S):oF 200 (.tup [.str x,.ref a]) (.tup [.str x,.ref b]) S Q:=show _ by
 refine⟨.tup [.str x,.lst (D.cR es)],.tup [.str x,.lst (D.cR es)],.tup (.cons (.str _) (.cons (.ref ha (dS.of hp)) .nil)),.tup (.cons (.str _) (.cons (.ref hb (dS.of hp)) .nil)),?_,?_⟩
 ·simp only[cW,d_];lia
 ·rw[mU];exact q
theorem ZQ{f:Addr}{fd:FuncData}(F:oq K "law" "law" kZ f fd)(G:Gs K mg)(R:je K mg ES adr)(mx:ay P w K mg base 39 "_law_cell_at" ["script","k"] wt)(Bq:ay P w K mg base 39 "_law_any" ["script","spot","way","most"] JY)(Br:ay P w K mg base 39 "_law_graphs" ["program"] J5)(Bs:ay P w K mg base 39 "judged" ["program"] (J8 adr))
 (Bt:ay P w K mg base 39 "_law_spoilt" ["program","own","told","way","cell"] KU) (Bu:ay P w K mg base 39 "_law_right" ["own","telling"] KI) (w4:ay P w K mg base 39 "holds" ["program","telling"] KH) :
 d9 P w K mg base (cC P w) 40 f fd ["script"] (jb K oR):=show _ by
 refine SM F iI λcdv A outer s0 H E ns hr h63=>?_;refine⟨_,(aq (aI (i:=1) iI.nd rfl (Or.inl rfl) (aJ Bq hr rfl (ae (aa 0) (ae (dA (ae aj ai)) (ae (aD bK aN (aJ mx hr rfl (ae (aa 0) (ae aj ai))) aj) (ae aj ai))))))
 (aq (aI (i:=2) iI.nd rfl (Or.inl rfl) (aJ Br hr rfl (ae (aa 1) ai)))
 (aq (aI (i:=3) iI.nd rfl (Or.inl rfl) gk)
 (aq (GN rfl rfl (λ_ _ _=>(aB (aI (i:=3) iI.nd rfl (Or.inl rfl) (aJ Bs hr rfl (ae (aa 1) ai))))) (GJ (R.bound .many (by decide)) (R.base (i:=.many) (by decide)) rfl (λ_=>(aB (aI (i:=3) iI.nd rfl (Or.inl rfl) gk))) GH))
 (aq (aI (i:=4) iI.nd rfl (Or.inl rfl) (aD bK aN (aD cN aN (aJ mx hr rfl (ae (aa 0) (ae aj ai))) aj) aj))
 (aq (aI (i:=5) iI.nd rfl (Or.inl rfl) (aa 3))
 (aq (bN (cH.pt (w_or (aX yt gG (aa 4) aj (aV _)) (i_ (aX yu zb (aa 3) gk (aV _))))) (aB (aI (i:=5) iI.nd rfl (Or.inl rfl) (aJ Bt hr rfl (ae (aa 1) (ae (aa 2) (ae (aa 3) (ae (b9 (Ea rfl) Hd rfl G.max xT (ae (aa 4) (ae aj ai))) (ae (aD bK aN (aJ mx hr rfl (ae (aa 0) (ae aj ai))) (aD qT aN aj aj)) ai)))))))) bj)
 (aq (aI (i:=6) iI.nd rfl (Or.inl rfl) (bM (ae (aA aG aH (aa 5) aj (λ_ _=>rfl)) (ae (cZ kz kF rfl G.list iR (ae (aA aG aH (aa 5) aj (λ_ _=>rfl)) ai)) ai))))
 (aq (aI (i:=7) iI.nd rfl (Or.inl rfl) (Q4 (rJ (i8 bP dn (aa 4) aj (aV _)) (rH (i8 qU rV (aa 3) gk (aV _)))) (rH (aJ Bu hr rfl (ae (aa 2) (ae (aa 5) ai))))))
 (aq (aI (i:=8) iI.nd rfl (Or.inl rfl) (aJ w4 hr rfl (ae (aa 1) (ae (aa 5) ai))))
 (aq (bN (cH.pt (w_or (l7 (gZ (b9 vg vh rfl G.wq xW (ae (aa 8) (ae (uX (n:="bool") rfl G.bool boot_bool) ai))))) (i_ (aX WY WZ (aa 8) (aa 7) (aV _))))) (aB (aS fU)) bj)
 (aB (aS (rJ (i8 (uV (kG hr)) u_ (bM (ae (aA aG aH (aa 5) aj (λ_ _=>rfl)) (ae (cZ kz kF rfl G.list iR (ae (aA aG aH (aa 5) aj (λ_ _=>rfl)) ai)) ai))) (aa 6) (aV _)) (rH (i8 (uV (kG hr)) u_ (aJ w4 hr rfl (ae (aa 1) (ae (aa 5) ai))) (aa 7) (aV _))))))))))))))))),?_⟩
 have cell:∀{k:Int} {S:ah} {Q:K3} {W:X3},0<=k->Q (.int (cellAt ns k)) S->wt [.bD (ns.map D.int),.int k] S Q W:=λh0 q=>⟨ns,_,rfl,h0,q⟩;nofun;intro sp hsp;nofun;refine cell (by decide) ?_;nofun;refine⟨ns,sp,2,_,2,[],rfl,ao,by decide,by decide,by decide,λprog i2 hg _ hi=>?_⟩;intro pr hpr;have n1:sp≠pr:=ne3 ao hpr;have qk:up (up emp sp (.lst [.int 2])) sp (.lst [.int i2]) pr=none:=by rw[a9 n1.symm];exact hpr
 have a2:up (up (up emp sp (.lst [.int 2])) sp (.lst [.int i2])) pr (.lst (prog.map Er.d)) pr=some (.lst (prog.map Er.d)):=ao;generalize up (up (up emp sp (.lst [.int 2])) sp (.lst [.int i2])) pr (.lst (prog.map Er.d))=S1 at a2 ⊢;have hok:=hg.ok;have e_:=hg.gl;nofun;refine⟨pr,prog,rfl,a2,hg.gi,by rw[hg.same];lia,?_⟩;rw[hg.same];intro po hpo;have b2:=au (o:=.lst ((aC prog).map af)) a2 hpo;have b3:up S1 po (.lst ((aC prog).map af)) po=some (.lst ((aC prog).map af)):=ao;generalize up S1 po (.lst ((aC prog).map af))=S2 at b2 b3 ⊢;have w0:=fc (cellAt ns 0/2) (show(7:Int)≠0 by decide);have w6:=n_ (cellAt ns 0/2) (show(0:Int)<7 by decide);nofun;cases eF:eZ (dg (aC prog)) with
 |none =>
  refine⟨pr,prog,aR prog,rfl,b2,hok,λF z=>(by rw[eF]at z;cases z),λ_ x=>?_⟩;refine GP (R.two .many (by decide) .many (by decide)) ?_;nofun;refine cell (by decide) ?_;by_cases hw:0<cellAt ns 0/2%7
  ·nofun;refine cell (by decide) ?_;nofun;refine⟨pr,po,po,prog,none,_,_,rfl,b2,b3,hg,λt z=>(by cases z),λts z=>(by cases z),by lia,by lia,fc _ (by decide),λS4 pq t hs ht hto=>?_⟩;have g2:=hs _ _ b2;have g3:=hs _ _ b3;cases t with
   |ends ts =>
    simp only[dW];have ht:S4 pq=some (.lst (ts.map af)):=ht;nofun;intro pk cg;have f2:=au (o:=.lst (ts.map af)) g2 cg;have f3:=au (o:=.lst (ts.map af)) g3 cg;have f5:up S4 pk (.lst (ts.map af)) pk=some (.lst (ts.map af)):=ao;have f4:=au (o:=.lst (ts.map af)) ht cg;generalize up S4 pk (.lst (ts.map af))=S5 at f2 f3 f4 f5 ⊢;by_cases hR:lh (aC prog) ts
    ·nofun;refine⟨po,pq,aC prog,aR prog,.ends ts,rfl,f3,hok.gd,by lia,f4,hto,λ_=>?_,λz=>absurd hR z⟩;nofun;refine⟨pr,pq,prog,aR prog,.ends ts,rfl,f2,hok,f4,hto,λ_=>?_,λz=>absurd hR z⟩;nofun;refine fo ?_;nofun;intro p2 hp2;nofun;refine fu (ll ts) (lp ts) ao (au f5 hp2) ?_;nofun;refine⟨pr,pq,prog,aR prog,.ends ts,rfl,au f2 hp2,hok,au f4 hp2,hto,λ_=>?_,λz=>absurd hR z⟩;nofun;refine ft ?_;rfl
    ·nofun;refine⟨po,pq,aC prog,aR prog,.ends ts,rfl,f3,hok.gd,by lia,f4,hto,λz=>absurd z hR,λ_=>?_⟩;nofun;refine⟨pr,pq,prog,aR prog,.ends ts,rfl,f2,hok,f4,hto,λz=>absurd z hR,λ_=>?_⟩;nofun;refine fo ?_;nofun;intro p2 hp2;nofun;refine fu (ll ts) (lp ts) ao (au f5 hp2) ?_;nofun;refine⟨pr,pq,prog,aR prog,.ends ts,rfl,au f2 hp2,hok,au f4 hp2,hto,λz=>absurd z hR,λ_=>?_⟩;nofun;refine ft ?_;rfl
   |cm w2 =>
    simp only[dW];nofun;refine gm (ds:=w2.map D.int) ?_;intro pk cg;have f2:=au (o:=.lst (w2.map D.int)) g2 cg;have f3:=au (o:=.lst (w2.map D.int)) g3 cg;have f5:up S4 pk (.lst (w2.map D.int)) pk=some (.lst (w2.map D.int)):=ao;generalize up S4 pk (.lst (w2.map D.int))=S5 at f2 f3 f5 ⊢;by_cases hR:eM (aC prog) w2=true
    ·nofun;refine⟨po,pq,aC prog,aR prog,.cm w2,rfl,f3,hok.gd,by lia,trivial,hto,λ_=>?_,λz=>absurd hR z⟩;nofun;refine⟨pr,pq,prog,aR prog,.cm w2,rfl,f2,hok,trivial,hto,λ_=>?_,λz=>absurd hR z⟩;nofun;refine fo ?_;nofun;refine gm (ds:=w2.map D.int) ?_;intro p2 hp2;nofun;refine fu (ji w2) (jj w2) ao (au f5 hp2) ?_;nofun;refine⟨pr,pq,prog,aR prog,.cm w2,rfl,au f2 hp2,hok,trivial,hto,λ_=>?_,λz=>absurd hR z⟩;nofun;refine ft ?_;rfl
    ·nofun;refine⟨po,pq,aC prog,aR prog,.cm w2,rfl,f3,hok.gd,by lia,trivial,hto,λz=>absurd z hR,λ_=>?_⟩;nofun;refine⟨pr,pq,prog,aR prog,.cm w2,rfl,f2,hok,trivial,hto,λz=>absurd z hR,λ_=>?_⟩;nofun;refine fo ?_;nofun;refine gm (ds:=w2.map D.int) ?_;intro p2 hp2;nofun;refine fu (ji w2) (jj w2) ao (au f5 hp2) ?_;nofun;refine⟨pr,pq,prog,aR prog,.cm w2,rfl,au f2 hp2,hok,trivial,hto,λz=>absurd z hR,λ_=>?_⟩;nofun;refine ft ?_;rfl
  ·nofun;refine cell (by decide) ?_;nofun;refine⟨pr,po,po,prog,none,_,_,rfl,b2,b3,hg,λt z=>(by cases z),λts z=>(by cases z),by lia,by lia,fc _ (by decide),λS4 pq t hs ht hto=>?_⟩;have g2:=hs _ _ b2;have g3:=hs _ _ b3;cases t with
   |ends ts =>
    simp only[dW];have ht:S4 pq=some (.lst (ts.map af)):=ht;nofun;intro pk cg;have f2:=au (o:=.lst (ts.map af)) g2 cg;have f3:=au (o:=.lst (ts.map af)) g3 cg;have f5:up S4 pk (.lst (ts.map af)) pk=some (.lst (ts.map af)):=ao;have f4:=au (o:=.lst (ts.map af)) ht cg;generalize up S4 pk (.lst (ts.map af))=S5 at f2 f3 f4 f5 ⊢;by_cases hR:lh (aC prog) ts
    ·nofun;refine⟨po,pq,aC prog,aR prog,.ends ts,rfl,f3,hok.gd,by lia,f4,hto,λ_=>?_,λz=>absurd hR z⟩;nofun;refine⟨pr,pq,prog,aR prog,.ends ts,rfl,f2,hok,f4,hto,λ_=>?_,λz=>absurd hR z⟩;nofun;refine fo ?_;nofun;intro p2 hp2;nofun;refine fu (ll ts) (lp ts) ao (au f5 hp2) ?_;nofun;refine⟨pr,pq,prog,aR prog,.ends ts,rfl,au f2 hp2,hok,au f4 hp2,hto,λ_=>?_,λz=>absurd hR z⟩;nofun;refine ft ?_;rfl
    ·nofun;refine⟨po,pq,aC prog,aR prog,.ends ts,rfl,f3,hok.gd,by lia,f4,hto,λz=>absurd z hR,λ_=>?_⟩;nofun;refine⟨pr,pq,prog,aR prog,.ends ts,rfl,f2,hok,f4,hto,λz=>absurd z hR,λ_=>?_⟩;nofun;refine fo ?_;nofun;intro p2 hp2;nofun;refine fu (ll ts) (lp ts) ao (au f5 hp2) ?_;nofun;refine⟨pr,pq,prog,aR prog,.ends ts,rfl,au f2 hp2,hok,au f4 hp2,hto,λz=>absurd z hR,λ_=>?_⟩;nofun;refine ft ?_;rfl
   |cm w2 =>
    simp only[dW];nofun;refine gm (ds:=w2.map D.int) ?_;intro pk cg;have f2:=au (o:=.lst (w2.map D.int)) g2 cg;have f3:=au (o:=.lst (w2.map D.int)) g3 cg;have f5:up S4 pk (.lst (w2.map D.int)) pk=some (.lst (w2.map D.int)):=ao;generalize up S4 pk (.lst (w2.map D.int))=S5 at f2 f3 f5 ⊢;by_cases hR:eM (aC prog) w2=true
    ·nofun;refine⟨po,pq,aC prog,aR prog,.cm w2,rfl,f3,hok.gd,by lia,trivial,hto,λ_=>?_,λz=>absurd hR z⟩;nofun;refine⟨pr,pq,prog,aR prog,.cm w2,rfl,f2,hok,trivial,hto,λ_=>?_,λz=>absurd hR z⟩;nofun;refine fo ?_;nofun;refine gm (ds:=w2.map D.int) ?_;intro p2 hp2;nofun;refine fu (ji w2) (jj w2) ao (au f5 hp2) ?_;nofun;refine⟨pr,pq,prog,aR prog,.cm w2,rfl,au f2 hp2,hok,trivial,hto,λ_=>?_,λz=>absurd hR z⟩;nofun;refine ft ?_;rfl
    ·nofun;refine⟨po,pq,aC prog,aR prog,.cm w2,rfl,f3,hok.gd,by lia,trivial,hto,λz=>absurd z hR,λ_=>?_⟩;nofun;refine⟨pr,pq,prog,aR prog,.cm w2,rfl,f2,hok,trivial,hto,λz=>absurd z hR,λ_=>?_⟩;nofun;refine fo ?_;nofun;refine gm (ds:=w2.map D.int) ?_;intro p2 hp2;nofun;refine fu (ji w2) (jj w2) ao (au f5 hp2) ?_;nofun;refine⟨pr,pq,prog,aR prog,.cm w2,rfl,au f2 hp2,hok,trivial,hto,λz=>absurd z hR,λ_=>?_⟩;nofun;refine ft ?_;rfl
 |some F =>
  refine⟨pr,prog,aR prog,rfl,b2,hok,λF' z=>?_,λz=>(by rw[eF]at z;cases z)⟩;rw[eF]at z;cases z;have hc:=CL.Aa eF;have Bp:F.length<=40:=hc.ok.len;have ZR:=J7 (λp hp=>hok.gd _ (Ai hp)) eF;refine⟨λw e=>?_,λe pt AV=>?_⟩
  ·have w8:=ZO eF e;have wV:=ZP e_ Bp eF e;unfold JQ;nofun;refine cell (by decide) ?_;by_cases hw:0<cellAt ns 0/2%7
   ·nofun;refine cell (by decide) ?_;nofun;refine⟨pr,po,po,prog,some (.cm w),_,_,rfl,b2,b3,hg,λt z=>(by cases z;trivial),λts z=>(by cases z),by lia,by lia,fc _ (by decide),λS4 pq t hs ht hto=>?_⟩;have g2:=hs _ _ b2;have g3:=hs _ _ b3;cases t with
    |ends ts =>
     simp only[dW];have ht:S4 pq=some (.lst (ts.map af)):=ht;nofun;intro pk cg;have f2:=au (o:=.lst (ts.map af)) g2 cg;have f3:=au (o:=.lst (ts.map af)) g3 cg;have f5:up S4 pk (.lst (ts.map af)) pk=some (.lst (ts.map af)):=ao;have f4:=au (o:=.lst (ts.map af)) ht cg;generalize up S4 pk (.lst (ts.map af))=S5 at f2 f3 f4 f5 ⊢;by_cases hR:lh (aC prog) ts
     ·nofun;refine⟨po,pq,aC prog,aR prog,.ends ts,rfl,f3,hok.gd,by lia,f4,hto,λ_=>?_,λz=>absurd hR z⟩;nofun;refine⟨pr,pq,prog,aR prog,.ends ts,rfl,f2,hok,f4,hto,λ_=>?_,λz=>absurd hR z⟩;nofun;refine fo ?_;nofun;intro p2 hp2;nofun;refine fu (ll ts) (lp ts) ao (au f5 hp2) ?_;nofun;refine⟨pr,pq,prog,aR prog,.ends ts,rfl,au f2 hp2,hok,au f4 hp2,hto,λ_=>?_,λz=>absurd hR z⟩;nofun;refine ft ?_;rfl
     ·nofun;refine⟨po,pq,aC prog,aR prog,.ends ts,rfl,f3,hok.gd,by lia,f4,hto,λz=>absurd z hR,λ_=>?_⟩;nofun;refine⟨pr,pq,prog,aR prog,.ends ts,rfl,f2,hok,f4,hto,λz=>absurd z hR,λ_=>?_⟩;nofun;refine fo ?_;nofun;intro p2 hp2;nofun;refine fu (ll ts) (lp ts) ao (au f5 hp2) ?_;nofun;refine⟨pr,pq,prog,aR prog,.ends ts,rfl,au f2 hp2,hok,au f4 hp2,hto,λz=>absurd z hR,λ_=>?_⟩;nofun;refine ft ?_;rfl
    |cm w2 =>
     simp only[dW];nofun;refine gm (ds:=w2.map D.int) ?_;intro pk cg;have f2:=au (o:=.lst (w2.map D.int)) g2 cg;have f3:=au (o:=.lst (w2.map D.int)) g3 cg;have f5:up S4 pk (.lst (w2.map D.int)) pk=some (.lst (w2.map D.int)):=ao;generalize up S4 pk (.lst (w2.map D.int))=S5 at f2 f3 f5 ⊢;by_cases hR:eM (aC prog) w2=true
     ·nofun;refine⟨po,pq,aC prog,aR prog,.cm w2,rfl,f3,hok.gd,by lia,trivial,hto,λ_=>?_,λz=>absurd hR z⟩;nofun;refine⟨pr,pq,prog,aR prog,.cm w2,rfl,f2,hok,trivial,hto,λ_=>?_,λz=>absurd hR z⟩;nofun;refine fo ?_;nofun;refine gm (ds:=w2.map D.int) ?_;intro p2 hp2;nofun;refine fu (ji w2) (jj w2) ao (au f5 hp2) ?_;nofun;refine⟨pr,pq,prog,aR prog,.cm w2,rfl,au f2 hp2,hok,trivial,hto,λ_=>?_,λz=>absurd hR z⟩;nofun;refine ft ?_;rfl
     ·nofun;refine⟨po,pq,aC prog,aR prog,.cm w2,rfl,f3,hok.gd,by lia,trivial,hto,λz=>absurd z hR,λ_=>?_⟩;nofun;refine⟨pr,pq,prog,aR prog,.cm w2,rfl,f2,hok,trivial,hto,λz=>absurd z hR,λ_=>?_⟩;nofun;refine fo ?_;nofun;refine gm (ds:=w2.map D.int) ?_;intro p2 hp2;nofun;refine fu (ji w2) (jj w2) ao (au f5 hp2) ?_;nofun;refine⟨pr,pq,prog,aR prog,.cm w2,rfl,au f2 hp2,hok,trivial,hto,λz=>absurd z hR,λ_=>?_⟩;nofun;refine ft ?_;rfl
   ·have ZS:cellAt ns 0/2%7=0:=by lia
    nofun;refine gm (ds:=w.map D.int) ?_;intro pk cg;have f2:=au (o:=.lst (w.map D.int)) b2 cg;have f3:=au (o:=.lst (w.map D.int)) b3 cg;have f5:up S2 pk (.lst (w.map D.int)) pk=some (.lst (w.map D.int)):=ao;generalize up S2 pk (.lst (w.map D.int))=S5 at f2 f3 f5 ⊢;have hR:eM (aC prog) w=true:=w8;nofun;refine⟨pr,po,prog,aR prog,.cm w,rfl,f2,hok,trivial,wV,λ_=>?_,λz=>absurd hR z⟩;nofun;refine fo ?_;nofun;refine gm (ds:=w.map D.int) ?_;intro p2 hp2;nofun;refine fu (ji w) (jj w) ao (au f5 hp2) ?_;nofun;refine⟨pr,po,prog,aR prog,.cm w,rfl,au f2 hp2,hok,trivial,wV,λ_=>?_,λz=>absurd hR z⟩;nofun;refine ft ?_;rfl
  ·have w8:=ends_right eF e;obtain⟨ts,hts⟩:∃ts,F.map b8=ts:=⟨_,rfl⟩;have KW:∀g∈ts,Gd (aR prog) g:=λg hg'=>by
    rw[<-hts]at hg';obtain⟨p,hp,rfl⟩:=bG.mp hg';exact ZR p hp
   have htl:ts.length<=40:=by rw[<-hts,az];exact Bp
   have KY:wX (aR prog) (.ends ts):=⟨KW,by lia⟩;rw[hts]at w8 ⊢;have c2:=au (o:=.lst (ts.map af)) b2 AV;have c3:=au (o:=.lst (ts.map af)) b3 AV;have c4:up S2 pt (.lst (ts.map af)) pt=some (.lst (ts.map af)):=ao;generalize up S2 pt (.lst (ts.map af))=S3 at c2 c3 c4 ⊢;nofun;refine cell (by decide) ?_;by_cases hw:0<cellAt ns 0/2%7
   ·nofun;refine cell (by decide) ?_;nofun;refine⟨pr,po,pt,prog,some (.ends ts),_,_,rfl,c2,c3,hg,λt z=>(by cases z;exact c4),λts z=>(by cases z;exact⟨KW,by lia⟩),by lia,by lia,fc _ (by decide),λS4 pq t hs ht hto=>?_⟩;have g2:=hs _ _ c2;have g3:=hs _ _ c3;cases t with
    |ends ts =>
     simp only[dW];have ht:S4 pq=some (.lst (ts.map af)):=ht;nofun;intro pk cg;have f2:=au (o:=.lst (ts.map af)) g2 cg;have f3:=au (o:=.lst (ts.map af)) g3 cg;have f5:up S4 pk (.lst (ts.map af)) pk=some (.lst (ts.map af)):=ao;have f4:=au (o:=.lst (ts.map af)) ht cg;generalize up S4 pk (.lst (ts.map af))=S5 at f2 f3 f4 f5 ⊢;by_cases hR:lh (aC prog) ts
     ·nofun;refine⟨po,pq,aC prog,aR prog,.ends ts,rfl,f3,hok.gd,by lia,f4,hto,λ_=>?_,λz=>absurd hR z⟩;nofun;refine⟨pr,pq,prog,aR prog,.ends ts,rfl,f2,hok,f4,hto,λ_=>?_,λz=>absurd hR z⟩;nofun;refine fo ?_;nofun;intro p2 hp2;nofun;refine fu (ll ts) (lp ts) ao (au f5 hp2) ?_;nofun;refine⟨pr,pq,prog,aR prog,.ends ts,rfl,au f2 hp2,hok,au f4 hp2,hto,λ_=>?_,λz=>absurd hR z⟩;nofun;refine ft ?_;rfl
     ·nofun;refine⟨po,pq,aC prog,aR prog,.ends ts,rfl,f3,hok.gd,by lia,f4,hto,λz=>absurd z hR,λ_=>?_⟩;nofun;refine⟨pr,pq,prog,aR prog,.ends ts,rfl,f2,hok,f4,hto,λz=>absurd z hR,λ_=>?_⟩;nofun;refine fo ?_;nofun;intro p2 hp2;nofun;refine fu (ll ts) (lp ts) ao (au f5 hp2) ?_;nofun;refine⟨pr,pq,prog,aR prog,.ends ts,rfl,au f2 hp2,hok,au f4 hp2,hto,λz=>absurd z hR,λ_=>?_⟩;nofun;refine ft ?_;rfl
    |cm w2 =>
     simp only[dW];nofun;refine gm (ds:=w2.map D.int) ?_;intro pk cg;have f2:=au (o:=.lst (w2.map D.int)) g2 cg;have f3:=au (o:=.lst (w2.map D.int)) g3 cg;have f5:up S4 pk (.lst (w2.map D.int)) pk=some (.lst (w2.map D.int)):=ao;generalize up S4 pk (.lst (w2.map D.int))=S5 at f2 f3 f5 ⊢;by_cases hR:eM (aC prog) w2=true
     ·nofun;refine⟨po,pq,aC prog,aR prog,.cm w2,rfl,f3,hok.gd,by lia,trivial,hto,λ_=>?_,λz=>absurd hR z⟩;nofun;refine⟨pr,pq,prog,aR prog,.cm w2,rfl,f2,hok,trivial,hto,λ_=>?_,λz=>absurd hR z⟩;nofun;refine fo ?_;nofun;refine gm (ds:=w2.map D.int) ?_;intro p2 hp2;nofun;refine fu (ji w2) (jj w2) ao (au f5 hp2) ?_;nofun;refine⟨pr,pq,prog,aR prog,.cm w2,rfl,au f2 hp2,hok,trivial,hto,λ_=>?_,λz=>absurd hR z⟩;nofun;refine ft ?_;rfl
     ·nofun;refine⟨po,pq,aC prog,aR prog,.cm w2,rfl,f3,hok.gd,by lia,trivial,hto,λz=>absurd z hR,λ_=>?_⟩;nofun;refine⟨pr,pq,prog,aR prog,.cm w2,rfl,f2,hok,trivial,hto,λz=>absurd z hR,λ_=>?_⟩;nofun;refine fo ?_;nofun;refine gm (ds:=w2.map D.int) ?_;intro p2 hp2;nofun;refine fu (ji w2) (jj w2) ao (au f5 hp2) ?_;nofun;refine⟨pr,pq,prog,aR prog,.cm w2,rfl,au f2 hp2,hok,trivial,hto,λz=>absurd z hR,λ_=>?_⟩;nofun;refine ft ?_;rfl
   ·have ZS:cellAt ns 0/2%7=0:=by lia
    nofun;intro pk cg;have f2:=au (o:=.lst (ts.map af)) c2 cg;have f3:=au (o:=.lst (ts.map af)) c3 cg;have f5:up S3 pk (.lst (ts.map af)) pk=some (.lst (ts.map af)):=ao;have f4:=au (o:=.lst (ts.map af)) c4 cg;generalize up S3 pk (.lst (ts.map af))=S5 at f2 f3 f4 f5 ⊢;have hR:lh (aC prog) ts:=w8;nofun;refine⟨pr,pt,prog,aR prog,.ends ts,rfl,f2,hok,f4,KY,λ_=>?_,λz=>absurd hR z⟩;nofun;refine fo ?_;nofun;intro p2 hp2;nofun;refine fu (ll ts) (lp ts) ao (au f5 hp2) ?_;nofun;refine⟨pr,pt,prog,aR prog,.ends ts,rfl,au f2 hp2,hok,au f4 hp2,KY,λ_=>?_,λz=>absurd hR z⟩;nofun;refine ft ?_;rfl
end
theorem all_mk{l:C5}{w:World}{K:ax}{h:Heap}{mg:Str->Option Value}{fa Bv Bw Bx By Bz BA BB BC BD BE BF BG BH BI BJ BK BL BM BN BO BP BQ BR BS BU BV BW BX BY BZ B0 B1 B2 B3 B4 B5 B6 B7 B8 B9 B_ B' Cb Cc Cd Ce Cf:Addr}
 (X:K.In h) (G:h.Ns mainGlobals mg) (hfa:mg "law"=some (.ref fa))
 {ZU ZV ZW ZY ZZ Z0 Z1 Z2 Z3 Z4 Z5 Z6 Z7 Z8 Z9 Z_ aaa aab aac aad aae aaf aag aah aai aaj aak aal aam aan aao aap aaq aar aas aat aau aav aaw aax aay aaz aaA aaB aaC aaD aaE aaF aaG aaH aaI aaJ aaK aaL aaM aaN aaO aaP aaQ aaR aaS aaT aaU aaV aaW aaX aaY aaZ aa0 aa1 aa2 aa3 aa4 aa5 aa6 aa7 aa8 aa9 aba abb abd abe abf abg abh abi abj abk abl abm abn abo abp KZ:Option Addr}
 {abq abr abt abu abv abw abx aby abz abA abB abC abD abE abF abG abH abI abJ abK abL abM abN abO abP abQ abR abS abT abU abV abW abX abY abZ ab0 ab1 ab2 ab3 ab4 ab5 ab6 ab7 ab8 ab9 aca acb:Array (Option Value)}
 {acd ace acf acg K0 ach aci acj ack acn K1 aco acp acq acr acs K2 acu acv acw acx acy K4 acz acA acB acC acD K5 acE acF acG acH acI K6 acJ acK acL acM acN K7 acO acP acQ acR acS K8 acT acU acV acW acX K9 acY acZ ac0 ac1 ac2 K_ ac3 ac4 ac5 ac6 ac7 K' ac8 ac9 ada adb ade La adf adg adh adi adk Lb adl adm adn ado adp Lc adq adt adu adv adw Ld adx ady adz adA adB Le adC adD adE adF adG Lf adH adI adJ adK adL Lg adM adN adO adP adQ Lh adR adS adT adU adV Li adW adX adY adZ ad0 Lj ad1 ad2 ad3 ad4 ad5 Lk ad6 ad7 ad8 ad9 aea Ll aeb aec aed aee aef Lm aeg aeh aei aej aek Ln ael aem aen aeo aep Lo aeq aer aes aet aeu Lp aev aew aex aey aez Lq aeA aeB aeC aeD aeE Lr aeF aeG aeH aeI aeJ Ls aeK aeL aeM aeN aeO Lu aeP aeQ aeR aeS aeT Lv aeU aeV aeW aeX aeY Lw aeZ ae0 ae1 ae2 ae3 Lx ae4 ae5 ae6 ae7 ae8 Ly ae9 afa afb afc afd Lz afe afg afh afi afj LA afk afl afm afn afo LB afp afq afr afs aft LC afu afv afw afx afy LD afz afA afB afC afD LF afE afF afG afH afI LG afJ afK afL afM afN LH afO afP afQ afR afS LJ afT afU afV afW afX LK afY afZ af0 af1 af2 LL af3 af4 LM LN LO Cg LP:Value}
 {af5:Tok}
 (a_0:ba K mainGlobals "parts"=some (some (.ref Bv)))
 (l_0:K.lookup Bv=some ⟨acd,ZU,.func (bt "parts" "parts" (bA o9) (a_ o9) (av o9) .none ace acf acg ZV K0 ach),abq⟩)
 (c_0:bL K K0 "parts"=true) (k_0:bI K (.ref Bv)=true)
 (a_1:ba K mainGlobals "graphs"=some (some (.ref Bw)))
 (l_1:K.lookup Bw=some ⟨aci,ZW,.func (bt "graphs" "graphs" (bA nk) (a_ nk) (av nk) .none acj ack acn ZY K1 aco),abr⟩)
 (c_1:bL K K1 "graphs"=true) (k_1:bI K (.ref Bw)=true)
 (a_2:ba K mainGlobals "placed_sends"=some (some (.ref Bx)))
 (l_2:K.lookup Bx=some ⟨acp,ZZ,.func (bt "placed_sends" "placed_sends" (bA ph) (a_ ph) (av ph) .none acq acr acs Z0 K2 acu),abt⟩)
 (c_2:bL K K2 "placed_sends"=true) (k_2:bI K (.ref Bx)=true)
 (a_3:ba K mainGlobals "placed_parts"=some (some (.ref By)))
 (l_3:K.lookup By=some ⟨acv,Z1,.func (bt "placed_parts" "placed_parts" (bA nr) (a_ nr) (av nr) .none acw acx acy Z2 K4 acz),abu⟩)
 (c_3:bL K K4 "placed_parts"=true) (k_3:bI K (.ref By)=true)
 (a_4:ba K mainGlobals "path_parameter"=some (some (.ref Bz)))
 (l_4:K.lookup Bz=some ⟨acA,Z3,.func (bt "path_parameter" "path_parameter" (bA pj) (a_ pj) (av pj) .none acB acC acD Z4 K5 acE),abv⟩)
 (c_4:bL K K5 "path_parameter"=true) (k_4:bI K (.ref Bz)=true)
 (a_5:ba K mainGlobals "told_row"=some (some (.ref BA)))
 (l_5:K.lookup BA=some ⟨acF,Z5,.func (bt "told_row" "told_row" (bA nu) (a_ nu) (av nu) .none acG acH acI Z6 K6 acJ),abw⟩)
 (c_5:bL K K6 "told_row"=true) (k_5:bI K (.ref BA)=true)
 (a_6:ba K mainGlobals "told_number"=some (some (.ref BB)))
 (l_6:K.lookup BB=some ⟨acK,Z7,.func (bt "told_number" "told_number" (bA pv) (a_ pv) (av pv) .none acL acM acN Z8 K7 acO),abx⟩)
 (c_6:bL K K7 "told_number"=true) (k_6:bI K (.ref BB)=true)
 (a_7:ba K mainGlobals "composed"=some (some (.ref BC)))
 (l_7:K.lookup BC=some ⟨acP,Z9,.func (bt "composed" "composed" (bA nv) (a_ nv) (av nv) .none acQ acR acS Z_ K8 acT),aby⟩)
 (c_7:bL K K8 "composed"=true) (k_7:bI K (.ref BC)=true)
 (a_8:ba K mainGlobals "fit"=some (some (.ref BD)))
 (l_8:K.lookup BD=some ⟨acU,aaa,.func (bt "fit" "fit" (bA pA) (a_ pA) (av pA) .none acV acW acX aab K9 acY),abz⟩)
 (c_8:bL K K9 "fit"=true) (k_8:bI K (.ref BD)=true)
 (a_9:ba K mainGlobals "composed_row"=some (some (.ref BE)))
 (l_9:K.lookup BE=some ⟨acZ,aac,.func (bt "composed_row" "composed_row" (bA ny) (a_ ny) (av ny) .none ac0 ac1 ac2 aad K_ ac3),abA⟩)
 (c_9:bL K K_ "composed_row"=true) (k_9:bI K (.ref BE)=true)
 (a_a:ba K mainGlobals "largest_between"=some (some (.ref BF)))
 (l_a:K.lookup BF=some ⟨ac4,aae,.func (bt "largest_between" "largest_between" (bA nz) (a_ nz) (av nz) .none ac5 ac6 ac7 aaf K' ac8),abB⟩)
 (c_a:bL K K' "largest_between"=true) (k_a:bI K (.ref BF)=true)
 (a_b:ba K mainGlobals "joined_number"=some (some (.ref BG)))
 (l_b:K.lookup BG=some ⟨ac9,aag,.func (bt "joined_number" "joined_number" (bA pB) (a_ pB) (av pB) .none ada adb ade aah La adf),abC⟩)
 (c_b:bL K La "joined_number"=true) (k_b:bI K (.ref BG)=true)
 (a_c:ba K mainGlobals "closure"=some (some (.ref BH)))
 (l_c:K.lookup BH=some ⟨adg,aai,.func (bt "closure" "closure" (bA pC) (a_ pC) (av pC) .none adh adi adk aaj Lb adl),abD⟩)
 (c_c:bL K Lb "closure"=true) (k_c:bI K (.ref BH)=true)
 (a_d:ba K mainGlobals "judged"=some (some (.ref BI)))
 (l_d:K.lookup BI=some ⟨adm,aak,.func (bt "judged" "judged" (bA pD) (a_ pD) (av pD) .none adn ado adp aal Lc adq),abE⟩)
 (c_d:bL K Lc "judged"=true) (k_d:bI K (.ref BI)=true)
 (a_e:ba K mainGlobals "closure_of"=some (some (.ref BJ)))
 (l_e:K.lookup BJ=some ⟨adt,aam,.func (bt "closure_of" "closure_of" (bA pE) (a_ pE) (av pE) .none adu adv adw aan Ld adx),abF⟩)
 (c_e:bL K Ld "closure_of"=true) (k_e:bI K (.ref BJ)=true)
 (a_f:ba K mainGlobals "put_new"=some (some (.ref BK)))
 (l_f:K.lookup BK=some ⟨ady,aao,.func (bt "put_new" "put_new" (bA nA) (a_ nA) (av nA) .none adz adA adB aap Le adC),abG⟩)
 (c_f:bL K Le "put_new"=true) (k_f:bI K (.ref BK)=true)
 (a_g:ba K mainGlobals "telling_of"=some (some (.ref BL)))
 (l_g:K.lookup BL=some ⟨adD,aaq,.func (bt "telling_of" "telling_of" (bA nB) (a_ nB) (av nB) .none adE adF adG aar Lf adH),abH⟩)
 (c_g:bL K Lf "telling_of"=true) (k_g:bI K (.ref BL)=true)
 (a_h:ba K mainGlobals "is_idle_round"=some (some (.ref BM)))
 (l_h:K.lookup BM=some ⟨adI,aas,.func (bt "is_idle_round" "is_idle_round" (bA pF) (a_ pF) (av pF) .none adJ adK adL aat Lg adM),abI⟩)
 (c_h:bL K Lg "is_idle_round"=true) (k_h:bI K (.ref BM)=true)
 (a_i:ba K mainGlobals "falls_here"=some (some (.ref BN)))
 (l_i:K.lookup BN=some ⟨adN,aau,.func (bt "falls_here" "falls_here" (bA nD) (a_ nD) (av nD) .none adO adP adQ aav Lh adR),abJ⟩)
 (c_i:bL K Lh "falls_here"=true) (k_i:bI K (.ref BN)=true)
 (a_j:ba K mainGlobals "holds"=some (some (.ref BO)))
 (l_j:K.lookup BO=some ⟨adS,aaw,.func (bt "holds" "holds" (bA pG) (a_ pG) (av pG) .none adT adU adV aax Li adW),abK⟩)
 (c_j:bL K Li "holds"=true) (k_j:bI K (.ref BO)=true)
 (a_k:ba K mainGlobals "is_idle_way"=some (some (.ref BP)))
 (l_k:K.lookup BP=some ⟨adX,aay,.func (bt "is_idle_way" "is_idle_way" (bA pH) (a_ pH) (av pH) .none adY adZ ad0 aaz Lj ad1),abL⟩)
 (c_k:bL K Lj "is_idle_way"=true) (k_k:bI K (.ref BP)=true)
 (a_l:ba K mainGlobals "is_closed_up"=some (some (.ref BQ)))
 (l_l:K.lookup BQ=some ⟨ad2,aaA,.func (bt "is_closed_up" "is_closed_up" (bA kU) (a_ kU) (av kU) .none ad3 ad4 ad5 aaB Lk ad6),abM⟩)
 (c_l:bL K Lk "is_closed_up"=true) (k_l:bI K (.ref BQ)=true)
 (a_m:ba K mainGlobals "way_graph"=some (some (.ref BR)))
 (l_m:K.lookup BR=some ⟨ad7,aaC,.func (bt "way_graph" "way_graph" (bA pI) (a_ pI) (av pI) .none ad8 ad9 aea aaD Ll aeb),abN⟩)
 (c_m:bL K Ll "way_graph"=true) (k_m:bI K (.ref BR)=true)
 (a_n:ba K mainGlobals "_law_cell_at"=some (some (.ref BS)))
 (l_n:K.lookup BS=some ⟨aec,aaE,.func (bt "_law_cell_at" "_law_cell_at" (bA pK) (a_ pK) (av pK) .none aed aee aef aaF Lm aeg),abO⟩)
 (c_n:bL K Lm "_law_cell_at"=true) (k_n:bI K (.ref BS)=true)
 (a_o:ba K mainGlobals "_law_names"=some (some (.ref BU)))
 (l_o:K.lookup BU=some ⟨aeh,aaG,.func (bt "_law_names" "_law_names" (bA kW) (a_ kW) (av kW) .none aei aej aek aaH Ln ael),abP⟩)
 (c_o:bL K Ln "_law_names"=true) (k_o:bI K (.ref BU)=true)
 (a_p:ba K mainGlobals "_law_next"=some (some (.ref BV)))
 (l_p:K.lookup BV=some ⟨aem,aaI,.func (bt "_law_next" "_law_next" (bA pL) (a_ pL) (av pL) .none aen aeo aep aaJ Lo aeq),abQ⟩)
 (c_p:bL K Lo "_law_next"=true) (k_p:bI K (.ref BV)=true)
 (a_q:ba K mainGlobals "_law_path"=some (some (.ref BW)))
 (l_q:K.lookup BW=some ⟨aer,aaK,.func (bt "_law_path" "_law_path" (bA pM) (a_ pM) (av pM) .none aes aet aeu aaL Lp aev),abR⟩)
 (c_q:bL K Lp "_law_path"=true) (k_q:bI K (.ref BW)=true)
 (a_r:ba K mainGlobals "_law_arg"=some (some (.ref BX)))
 (l_r:K.lookup BX=some ⟨aew,aaM,.func (bt "_law_arg" "_law_arg" (bA pN) (a_ pN) (av pN) .none aex aey aez aaN Lq aeA),abS⟩)
 (c_r:bL K Lq "_law_arg"=true) (k_r:bI K (.ref BX)=true)
 (a_s:ba K mainGlobals "_law_send"=some (some (.ref BY)))
 (l_s:K.lookup BY=some ⟨aeB,aaO,.func (bt "_law_send" "_law_send" (bA nE) (a_ nE) (av nE) .none aeC aeD aeE aaP Lr aeF),abT⟩)
 (c_s:bL K Lr "_law_send"=true) (k_s:bI K (.ref BY)=true)
 (a_t:ba K mainGlobals "_law_body"=some (some (.ref BZ)))
 (l_t:K.lookup BZ=some ⟨aeG,aaQ,.func (bt "_law_body" "_law_body" (bA pO) (a_ pO) (av pO) .none aeH aeI aeJ aaR Ls aeK),abU⟩)
 (c_t:bL K Ls "_law_body"=true) (k_t:bI K (.ref BZ)=true)
 (a_u:ba K mainGlobals "_law_program"=some (some (.ref B0)))
 (l_u:K.lookup B0=some ⟨aeL,aaS,.func (bt "_law_program" "_law_program" (bA nF) (a_ nF) (av nF) .none aeM aeN aeO aaT Lu aeP),abV⟩)
 (c_u:bL K Lu "_law_program"=true) (k_u:bI K (.ref B0)=true)
 (a_v:ba K mainGlobals "_law_tame_send"=some (some (.ref B1)))
 (l_v:K.lookup B1=some ⟨aeQ,aaU,.func (bt "_law_tame_send" "_law_tame_send" (bA pP) (a_ pP) (av pP) .none aeR aeS aeT aaV Lv aeU),abW⟩)
 (c_v:bL K Lv "_law_tame_send"=true) (k_v:bI K (.ref B1)=true)
 (a_w:ba K mainGlobals "_law_tame"=some (some (.ref B2)))
 (l_w:K.lookup B2=some ⟨aeV,aaW,.func (bt "_law_tame" "_law_tame" (bA nG) (a_ nG) (av nG) .none aeW aeX aeY aaX Lw aeZ),abX⟩)
 (c_w:bL K Lw "_law_tame"=true) (k_w:bI K (.ref B2)=true)
 (a_x:ba K mainGlobals "_law_any"=some (some (.ref B3)))
 (l_x:K.lookup B3=some ⟨ae0,aaY,.func (bt "_law_any" "_law_any" (bA pQ) (a_ pQ) (av pQ) .none ae1 ae2 ae3 aaZ Lx ae4),abY⟩)
 (c_x:bL K Lx "_law_any"=true) (k_x:bI K (.ref B3)=true)
 (a_y:ba K mainGlobals "_law_compose"=some (some (.ref B4)))
 (l_y:K.lookup B4=some ⟨ae5,aa0,.func (bt "_law_compose" "_law_compose" (bA pR) (a_ pR) (av pR) .none ae6 ae7 ae8 aa1 Ly ae9),abZ⟩)
 (c_y:bL K Ly "_law_compose"=true) (k_y:bI K (.ref B4)=true)
 (a_z:ba K mainGlobals "_law_idle"=some (some (.ref B5)))
 (l_z:K.lookup B5=some ⟨afa,aa2,.func (bt "_law_idle" "_law_idle" (bA pS) (a_ pS) (av pS) .none afb afc afd aa3 Lz afe),ab0⟩)
 (c_z:bL K Lz "_law_idle"=true) (k_z:bI K (.ref B5)=true)
 (a_10:ba K mainGlobals "_law_prefixes"=some (some (.ref B6)))
 (l_10:K.lookup B6=some ⟨afg,aa4,.func (bt "_law_prefixes" "_law_prefixes" (bA pT) (a_ pT) (av pT) .none afh afi afj aa5 LA afk),ab1⟩)
 (c_10:bL K LA "_law_prefixes"=true) (k_10:bI K (.ref B6)=true)
 (a_11:ba K mainGlobals "_law_told"=some (some (.ref B7)))
 (l_11:K.lookup B7=some ⟨afl,aa6,.func (bt "_law_told" "_law_told" (bA nI) (a_ nI) (av nI) .none afm afn afo aa7 LB afp),ab2⟩)
 (c_11:bL K LB "_law_told"=true) (k_11:bI K (.ref B7)=true)
 (a_12:ba K mainGlobals "_law_graphs_in"=some (some (.ref B8)))
 (l_12:K.lookup B8=some ⟨afq,aa8,.func (bt "_law_graphs_in" "_law_graphs_in" (bA mq) (a_ mq) (av mq) .none afr afs aft aa9 LC afu),ab3⟩)
 (c_12:bL K LC "_law_graphs_in"=true) (k_12:bI K (.ref B8)=true)
 (a_13:ba K mainGlobals "_law_graphs"=some (some (.ref B9)))
 (l_13:K.lookup B9=some ⟨afv,aba,.func (bt "_law_graphs" "_law_graphs" (bA pU) (a_ pU) (av pU) .none afw afx afy abb LD afz),ab4⟩)
 (c_13:bL K LD "_law_graphs"=true) (k_13:bI K (.ref B9)=true)
 (a_14:ba K mainGlobals "_law_way_graph"=some (some (.ref B_)))
 (l_14:K.lookup B_=some ⟨afA,abd,.func (bt "_law_way_graph" "_law_way_graph" (bA pV) (a_ pV) (av pV) .none afB afC afD abe LF afE),ab5⟩)
 (c_14:bL K LF "_law_way_graph"=true) (k_14:bI K (.ref B_)=true)
 (a_15:ba K mainGlobals "_law_right"=some (some (.ref B')))
 (l_15:K.lookup B'=some ⟨afF,abf,.func (bt "_law_right" "_law_right" (bA mr) (a_ mr) (av mr) .none afG afH afI abg LG afJ),ab6⟩)
 (c_15:bL K LG "_law_right"=true) (k_15:bI K (.ref B')=true)
 (a_16:ba K mainGlobals "_law_turned"=some (some (.ref Cb)))
 (l_16:K.lookup Cb=some ⟨afK,abh,.func (bt "_law_turned" "_law_turned" (bA mv) (a_ mv) (av mv) .none afL afM afN abi LH afO),ab7⟩)
 (c_16:bL K LH "_law_turned"=true) (k_16:bI K (.ref Cb)=true)
 (a_17:ba K mainGlobals "_law_more"=some (some (.ref Cc)))
 (l_17:K.lookup Cc=some ⟨afP,abj,.func (bt "_law_more" "_law_more" (bA pW) (a_ pW) (av pW) .none afQ afR afS abk LJ afT),ab8⟩)
 (c_17:bL K LJ "_law_more"=true) (k_17:bI K (.ref Cc)=true)
 (a_18:ba K mainGlobals "_law_all"=some (some (.ref Cd)))
 (l_18:K.lookup Cd=some ⟨afU,abl,.func (bt "_law_all" "_law_all" (bA pX) (a_ pX) (av pX) .none afV afW afX abm LK afY),ab9⟩)
 (c_18:bL K LK "_law_all"=true) (k_18:bI K (.ref Cd)=true)
 (a_19:ba K mainGlobals "_law_spoilt"=some (some (.ref Ce)))
 (l_19:K.lookup Ce=some ⟨afZ,abn,.func (bt "_law_spoilt" "_law_spoilt" (bA pZ) (a_ pZ) (av pZ) .none af0 af1 af2 abo LL af3),aca⟩)
 (c_19:bL K LL "_law_spoilt"=true) (k_19:bI K (.ref Ce)=true)
 (a_1a:ba K mainGlobals "law"=some (some (.ref Cf)))
 (l_1a:K.lookup Cf=some ⟨af4,abp,.func (bt "law" "law" (bA kZ) (a_ kZ) (av kZ) .none LM LN LO KZ Cg LP),acb⟩)
 (c_1a:bL K Cg "law"=true) (k_1a:bI K (.ref Cf)=true)
 (z_1c:ba K mainGlobals "len"=some none)
 (z_1d:ba K mainGlobals "range"=some none)
 (z_1e:ba K mainGlobals "isinstance"=some none)
 (z_1f:ba K mainGlobals "tuple"=some none)
 (z_1g:ba K mainGlobals "list"=some none)
 (z_1h:ba K mainGlobals "dict"=some none)
 (z_1i:ba K mainGlobals "int"=some none)
 (z_1j:ba K mainGlobals "bool"=some none)
 (z_1k:ba K mainGlobals "reversed"=some none)
 (z_x:ba K mainGlobals "any"=some none)
 (z_18:ba K mainGlobals "all"=some none)
 (z_1l:ba K mainGlobals "enumerate"=some none)
 (z_1m:ba K mainGlobals "max"=some none)
 (z_1n:ba K mainGlobals "zip"=some none)
 (z_1b:ba K mainGlobals "MOST_IN_CLOSURE"=some (some (.int 40 af5)))
 {Ci Cj Ck Cm:Addr}
 (x_1o:ba K mainGlobals "ErrandError"=some (some (.ref Ci)))
 (x_1p:ba K mainGlobals "Apart"=some (some (.ref Cj)))
 (x_1q:ba K mainGlobals "TooMany"=some (some (.ref Ck)))
 (x_1r:ba K mainGlobals "NoWay"=some (some (.ref Cm)))
 (x_18:zo K [(.err,Ci),(.apart,Cj),(.many,Ck),(.way,Cm)]=true) :
 ∃fd:FuncData,(∀(s:Shared) (v:Value),BindsTo s fd ⟨[v],[]⟩ [("script",v)])/\∀base:Heap,K.In base->base.Ns mainGlobals mg->d9 l.prog w K mg base (cC l.prog w) 40 fa fd ["script"] (jb K oR):=show _ by
 have e:=hfa.symm.trans (n6 X G a_1a);cases e;have H_0:aE K mg "parts" o9 ["saying"]:=bU X G a_0 l_0 c_0 k_0 λ_ _ _ _ _ _ us hl=>by obtain⟨_,rfl⟩:=gK hl;rfl
 have H_1:aE K mg "graphs" nk ["program"]:=bU X G a_1 l_1 c_1 k_1 λ_ _ _ _ _ _ us hl=>by obtain⟨_,rfl⟩:=gK hl;rfl
 have H_2:aE K mg "placed_sends" ph ["body"]:=bU X G a_2 l_2 c_2 k_2 λ_ _ _ _ _ _ us hl=>by obtain⟨_,rfl⟩:=gK hl;rfl
 have H_3:aE K mg "placed_parts" nr ["saying","known"]:=bU X G a_3 l_3 c_3 k_3 λ_ _ _ _ _ _ us hl=>by obtain⟨_,_,rfl⟩:=ln2 hl;rfl
 have H_4:aE K mg "path_parameter" pj ["saying"]:=bU X G a_4 l_4 c_4 k_4 λ_ _ _ _ _ _ us hl=>by obtain⟨_,rfl⟩:=gK hl;rfl
 have H_5:aE K mg "told_row" nu ["param","sayings","known"]:=bU X G a_5 l_5 c_5 k_5 λ_ _ _ _ _ _ us hl=>by obtain⟨_,_,_,rfl⟩:=k7 hl;rfl
 have H_6:aE K mg "told_number" pv ["param","saying","known"]:=bU X G a_6 l_6 c_6 k_6 λ_ _ _ _ _ _ us hl=>by obtain⟨_,_,_,rfl⟩:=k7 hl;rfl
 have H_7:aE K mg "composed" nv ["one","other"]:=bU X G a_7 l_7 c_7 k_7 λ_ _ _ _ _ _ us hl=>by obtain⟨_,_,rfl⟩:=ln2 hl;rfl
 have H_8:aE K mg "fit" pA ["one","other"]:=bU X G a_8 l_8 c_8 k_8 λ_ _ _ _ _ _ us hl=>by obtain⟨_,_,rfl⟩:=ln2 hl;rfl
 have H_9:aE K mg "composed_row" ny ["row","rows"]:=bU X G a_9 l_9 c_9 k_9 λ_ _ _ _ _ _ us hl=>by obtain⟨_,_,rfl⟩:=ln2 hl;rfl
 have H_a:aE K mg "largest_between" nz ["row","rows","column"]:=bU X G a_a l_a c_a k_a λ_ _ _ _ _ _ us hl=>by obtain⟨_,_,_,rfl⟩:=k7 hl;rfl
 have H_b:aE K mg "joined_number" pB ["one","other"]:=bU X G a_b l_b c_b k_b λ_ _ _ _ _ _ us hl=>by obtain⟨_,_,rfl⟩:=ln2 hl;rfl
 have H_c:aE K mg "closure" pC ["program"]:=bU X G a_c l_c c_c k_c λ_ _ _ _ _ _ us hl=>by obtain⟨_,rfl⟩:=gK hl;rfl
 have H_d:aE K mg "judged" pD ["program"]:=bU X G a_d l_d c_d k_d λ_ _ _ _ _ _ us hl=>by obtain⟨_,rfl⟩:=gK hl;rfl
 have H_e:aE K mg "closure_of" pE ["numbered"]:=bU X G a_e l_e c_e k_e λ_ _ _ _ _ _ us hl=>by obtain⟨_,rfl⟩:=gK hl;rfl
 have H_f:aE K mg "put_new" nA ["found","graph","way"]:=bU X G a_f l_f c_f k_f λ_ _ _ _ _ _ us hl=>by obtain⟨_,_,_,rfl⟩:=k7 hl;rfl
 have H_g:aE K mg "telling_of" nB ["pairs"]:=bU X G a_g l_g c_g k_g λ_ _ _ _ _ _ us hl=>by obtain⟨_,rfl⟩:=gK hl;rfl
 have H_h:aE K mg "is_idle_round" pF ["graph"]:=bU X G a_h l_h c_h k_h λ_ _ _ _ _ _ us hl=>by obtain⟨_,rfl⟩:=gK hl;rfl
 have H_i:aE K mg "falls_here" nD ["graph"]:=bU X G a_i l_i c_i k_i λ_ _ _ _ _ _ us hl=>by obtain⟨_,rfl⟩:=gK hl;rfl
 have H_j:aE K mg "holds" pG ["program","telling"]:=bU X G a_j l_j c_j k_j λ_ _ _ _ _ _ us hl=>by obtain⟨_,_,rfl⟩:=ln2 hl;rfl
 have H_k:aE K mg "is_idle_way" pH ["program","way"]:=bU X G a_k l_k c_k k_k λ_ _ _ _ _ _ us hl=>by obtain⟨_,_,rfl⟩:=ln2 hl;rfl
 have H_l:aE K mg "is_closed_up" kU ["sent","told"]:=bU X G a_l l_l c_l k_l λ_ _ _ _ _ _ us hl=>by obtain⟨_,_,rfl⟩:=ln2 hl;rfl
 have H_m:aE K mg "way_graph" pI ["program","way"]:=bU X G a_m l_m c_m k_m λ_ _ _ _ _ _ us hl=>by obtain⟨_,_,rfl⟩:=ln2 hl;rfl
 have H_n:aE K mg "_law_cell_at" pK ["script","k"]:=bU X G a_n l_n c_n k_n λ_ _ _ _ _ _ us hl=>by obtain⟨_,_,rfl⟩:=ln2 hl;rfl
 have H_o:aE K mg "_law_names" kW ["cell","many"]:=bU X G a_o l_o c_o k_o λ_ _ _ _ _ _ us hl=>by obtain⟨_,_,rfl⟩:=ln2 hl;rfl
 have H_p:aE K mg "_law_next" pL ["script","spot"]:=bU X G a_p l_p c_p k_p λ_ _ _ _ _ _ us hl=>by obtain⟨_,_,rfl⟩:=ln2 hl;rfl
 have H_q:aE K mg "_law_path" pM ["cell","params"]:=bU X G a_q l_q c_q k_q λ_ _ _ _ _ _ us hl=>by obtain⟨_,_,rfl⟩:=ln2 hl;rfl
 have H_r:aE K mg "_law_arg" pN ["cell","params"]:=bU X G a_r l_r c_r k_r λ_ _ _ _ _ _ us hl=>by obtain⟨_,_,rfl⟩:=ln2 hl;rfl
 have H_s:aE K mg "_law_send" nE ["script","spot","names","counts","params"]:=bU X G a_s l_s c_s k_s λ_ _ _ _ _ _ us hl=>by obtain⟨_,_,_,_,_,rfl⟩:=wo hl;rfl
 have H_t:aE K mg "_law_body" pO ["script","spot","names","counts","params"]:=bU X G a_t l_t c_t k_t λ_ _ _ _ _ _ us hl=>by obtain⟨_,_,_,_,_,rfl⟩:=wo hl;rfl
 have H_u:aE K mg "_law_program" nF ["script","spot","most"]:=bU X G a_u l_u c_u k_u λ_ _ _ _ _ _ us hl=>by obtain⟨_,_,_,rfl⟩:=k7 hl;rfl
 have H_v:aE K mg "_law_tame_send" pP ["script","spot","names","counts","params"]:=bU X G a_v l_v c_v k_v λ_ _ _ _ _ _ us hl=>by obtain⟨_,_,_,_,_,rfl⟩:=wo hl;rfl
 have H_w:aE K mg "_law_tame" nG ["script","spot","most"]:=bU X G a_w l_w c_w k_w λ_ _ _ _ _ _ us hl=>by obtain⟨_,_,_,rfl⟩:=k7 hl;rfl
 have H_x:aE K mg "_law_any" pQ ["script","spot","way","most"]:=bU X G a_x l_x c_x k_x λ_ _ _ _ _ _ us hl=>by obtain⟨_,_,_,_,rfl⟩:=Jy hl;rfl
 have H_y:aE K mg "_law_compose" pR ["one","other"]:=bU X G a_y l_y c_y k_y λ_ _ _ _ _ _ us hl=>by obtain⟨_,_,rfl⟩:=ln2 hl;rfl
 have H_z:aE K mg "_law_idle" pS ["graph"]:=bU X G a_z l_z c_z k_z λ_ _ _ _ _ _ us hl=>by obtain⟨_,rfl⟩:=gK hl;rfl
 have af6:aE K mg "_law_prefixes" pT ["saying"]:=bU X G a_10 l_10 c_10 k_10 λ_ _ _ _ _ _ us hl=>by obtain⟨_,rfl⟩:=gK hl;rfl
 have af7:aE K mg "_law_told" nI ["param","saying","known"]:=bU X G a_11 l_11 c_11 k_11 λ_ _ _ _ _ _ us hl=>by obtain⟨_,_,_,rfl⟩:=k7 hl;rfl
 have af8:aE K mg "_law_graphs_in" mq ["errand","saying","known"]:=bU X G a_12 l_12 c_12 k_12 λ_ _ _ _ _ _ us hl=>by obtain⟨_,_,_,rfl⟩:=k7 hl;rfl
 have af9:aE K mg "_law_graphs" pU ["program"]:=bU X G a_13 l_13 c_13 k_13 λ_ _ _ _ _ _ us hl=>by obtain⟨_,rfl⟩:=gK hl;rfl
 have aga:aE K mg "_law_way_graph" pV ["own","way"]:=bU X G a_14 l_14 c_14 k_14 λ_ _ _ _ _ _ us hl=>by obtain⟨_,_,rfl⟩:=ln2 hl;rfl
 have agb:aE K mg "_law_right" mr ["own","telling"]:=bU X G a_15 l_15 c_15 k_15 λ_ _ _ _ _ _ us hl=>by obtain⟨_,_,rfl⟩:=ln2 hl;rfl
 have agc:aE K mg "_law_turned" mv ["graph","cell"]:=bU X G a_16 l_16 c_16 k_16 λ_ _ _ _ _ _ us hl=>by obtain⟨_,_,rfl⟩:=ln2 hl;rfl
 have agd:aE K mg "_law_more" pW ["program","cell"]:=bU X G a_17 l_17 c_17 k_17 λ_ _ _ _ _ _ us hl=>by obtain⟨_,_,rfl⟩:=ln2 hl;rfl
 have age:aE K mg "_law_all" pX ["own","most"]:=bU X G a_18 l_18 c_18 k_18 λ_ _ _ _ _ _ us hl=>by obtain⟨_,_,rfl⟩:=ln2 hl;rfl
 have agf:aE K mg "_law_spoilt" pZ ["program","own","told","way","cell"]:=bU X G a_19 l_19 c_19 k_19 λ_ _ _ _ _ _ us hl=>by obtain⟨_,_,_,_,_,rfl⟩:=wo hl;rfl
 have Gx:Gs K mg:=⟨gQ X G z_1c,gQ X G z_1d,gQ X G z_1e,gQ X G z_1f,gQ X G z_1g,gQ X G z_1h,gQ X G z_1i,gQ X G z_1j,gQ X G z_1k,gQ X G z_x,gQ X G z_18,gQ X G z_1l,gQ X G z_1m,gQ X G z_1n,⟨_,n6 X G z_1b⟩⟩;have Rx:je K mg ES (sf [(Rf.err,Ci),(Rf.apart,Cj),(Rf.many,Ck),(Rf.way,Cm)]):=Tv x_18 λi hi=>by
  rcases(by simpa using hi:i=Rf.err∨i=Rf.apart∨i=Rf.many∨i=Rf.way) with rfl|rfl|rfl|rfl
  ·exact n6 X G x_1o
  ·exact n6 X G x_1p
  ·exact n6 X G x_1q
  ·exact n6 X G x_1r
 have agg:=EJ (st:=kZ) l_1a c_1a k_1a;refine⟨bt "law" "law" (bA kZ) (a_ kZ) (av kZ) .none LM LN LO KZ Cg LP,λs v=>.of_eq rfl,λbase _ _=>?_⟩;have mx:=Xm (P:=l.prog) (w:=w) (base:=base) (k:=0) H_n Gx;have eE:=Xo (P:=l.prog) (w:=w) (base:=base) (k:=1) H_p mx;have mB:=Xq (P:=l.prog) (w:=w) (base:=base) (k:=0) H_o Gx;have LQ:=Xz (P:=l.prog) (w:=w) (base:=base) (k:=0) H_4 Gx;have agh:=XD (k:=2) H_5 Gx (XB (k:=1) H_6 Gx LQ);have agi:=XJ (k:=2) H_2 Gx (XG (k:=1) H_3 Gx (Xx (k:=0) H_0 Gx) LQ);have la:=XQ (k:=3) H_1 Gx agi agh;have k8:=Yn (P:=l.prog) (w:=w) (base:=base) (k:=0) H_q Gx;have iK:=Yq (k:=1) H_r k8;have nN:=Ys (k:=2) H_s Gx eE iK;have AI:=Yu (k:=3) H_t Gx (eE.mono (by decide)) (iK.mono (by decide)) (k8.mono (by decide)) nN;have AR:=Yy (k:=4) H_u Gx (eE.mono (by decide)) (mB.mono (by decide)) AI;have wI:=YC (k:=2) H_v Gx eE iK;have AQ:=YI (k:=3) H_w Gx (eE.mono (by decide)) (mB.mono (by decide)) wI (iK.mono (by decide));have Bq:=YL (k:=5) H_x (AQ.mono (by decide)) AR;have agj:=X2 (P:=l.prog) (w:=w) (base:=base) (k:=2) H_9 Gx (XZ (k:=1) H_a Gx (XX (k:=0) H_b Gx));have gn:=X6 (P:=l.prog) (w:=w) (base:=base) (k:=0) H_8;have iJ:=X8 (k:=3) H_7 Gx Rx (gn.mono (by decide)) agj;have wB:=X' (P:=l.prog) (w:=w) (base:=base) (k:=0) H_f Gx Rx;have A1:=Yc (k:=4) H_e Gx Rx (wB.mono (by decide)) (gn.mono (by decide)) iJ;have AB:=Yh (P:=l.prog) (w:=w) (base:=base) (k:=0) H_i Gx;have qi:=Yj (k:=4) H_h Gx (gn.mono (by decide)) iJ (AB.mono (by decide));have A3:=Yl (k:=5) H_g Gx qi;have A2:=Y0 (k:=5) H_c Gx (la.mono (by decide)) A1;have Bs:=Y3 (k:=6) H_d Gx A2 (A3.mono (by decide));have qb:=YN (P:=l.prog) (w:=w) (base:=base) (k:=0) af6 Gx;have AY:=YQ (k:=1) af7 Gx qb;have Br:=YU af9 Gx (J3 af8 Gx qb AY 20);have A_:=Y' (k:=4) H_m Gx Rx (la.mono (by decide)) (gn.mono (by decide)) iJ;have gL:=Zc (P:=l.prog) (w:=w) (base:=base) (k:=0) H_y Gx;have agk:=Zg (k:=1) H_z Gx gL;have Bg:=Zj (k:=1) aga Gx gL;have Be:=Zn (k:=5) H_k Gx Rx A_ qi;have Bf:=Zq (k:=5) H_l Gx qi (gn.mono (by decide)) (iJ.mono (by decide));have w4:=Zu (k:=6) H_j Gx Be Bf (la.mono (by decide))
 have Bu:=Zw (k:=2) agb Gx Bg agk (gL.mono (by decide));have Bo:=Zz (P:=l.prog) (w:=w) (base:=base) (k:=0) agc Gx;have Bm:=ZE (P:=l.prog) (w:=w) (base:=base) (k:=0) agd Gx;have Bn:=ZK (k:=1) age Gx gL;have Bt:=ZM (k:=2) agf Gx (Bm.mono (by decide)) Bn (Bo.mono (by decide));exact ZQ agg Gx Rx (mx.mono (by decide)) (Bq.mono (by decide)) (Br.mono (by decide)) (Bs.mono (by decide)) (Bt.mono (by decide)) (Bu.mono (by decide)) (w4.mono (by decide))
theorem walk{l:C5}{q:Program}{loose:List Str}{XP:(Str->Option Value)->Heap->Prop}{YP:World->Heap->Prop}{d:DefRec}{K:Params->ax}(hn:l.most=some 63)(hdf:d.params.defaults=[])
 (hY:∀(w:World) (h:Heap),YP w h->(K w.params).In h)
 (F:∀(w:World) (mg:Str->Option Value) (fa:Addr) (h:Heap),(K w.params).In h->h.Ns mainGlobals mg->mg d.name=some (.ref fa) ->
  ∃fd:FuncData,(∀(s:Shared) (u:Value),BindsTo s fd ⟨[u],[]⟩ [("script",u)])/\∀base:Heap,(K w.params).In base->base.Ns mainGlobals mg->d9 l.prog w (K w.params) mg base (cC l.prog w) 40 fa fd ["script"] (jb (K w.params) oR)) :
 ME q loose XP YP l.row.toRowW d [] (λf vs=>C3 f vs) :=
 L2.Qy (n:=63) (k:=40) (x:="script") (CX:=λw=>cC l.prog w) (sp:=λw=>jb (K w.params) oR) hn (by decide) hdf ⟨rfl,by decide,by decide⟩ hY F (λ_ _ a ns hl hO hS=>SN hl hO hS) λ_ _ _ _ _ z=>by
  obtain⟨a,C,T,H',_,_,_,_,_,_,_,_,_,_,z⟩:=z;exact z
end LW
end
inductive PySem.W.Fast:Prop|tw12724217620535807801|tw9837492075108967480|tw13120882455732860419|tw16113734853828781045|tw2069825710558519473|tw17329098204561049978|tw13391478201982165272|tw11967289777538607635|tw6549836509235875179|tw8952813179782905434|tw17317383283999934617|tw14519592607833809165|tw2518982118037185262|tw1933192212344318311|tw2171728278773676034|tw16640520902354037320|tw16332879267799142571|tw14233848906650441099|tw12920949870759074066|tw1051500473866663112|tw126561067872853660|tw11729455002239642622|tw6029672082493409302|tw5180100170727126409|tw6910498560145141558|tw15081288968734077350|tw11125751337495364567|tw838699812103285889|tw5414299816015012274|tw15576298516255380922|tw4175622142454365030|tw2085908147524733440|tw15501518520399345822|tw15532227684124154732|tw7781982232207550696|tw2135376472387205417|tw3089122373319260094|tw12152361511388262890|tw13917258336344005837|tw14387517321093726058|tw7272182297610360535|tw6650433081682363658|tw5895595733960824636|tw4748402716544211097|tw9463720579809983711|tw3067961987713310763|tw7127727384467867504|tw15452312238473823413|tw1296662949851187596|tw13344982701706849439|tw7477824791084394358|tw11031449740867557463|tw14728084606018764739|tw18174915729147879007|tw13647385079893774947|tw7919037257719563142|tw11714598383465693961|tw1979383286780046523|tw16178086822237382749|tw16495673613187622510|tw15021786841191767275|tw3861408849242759161|tw4155048183670620824|tw3836503812866824812|tw14718046571015837471|tw9621425154668730544|tw4828995709465799266|tw4800491872983029844|tw10896973873962585828|tw17258800911657363196|tw8407298765588380310|tw7127020510232625243|tw4636632064401304239|tw8303999365966846750|tw9342076097320700465|tw8045802378449391218|tw13218589850613277643|tw10214793994373195247|tw3033137946714928784|tw11432560405580366226|tw8257084046334524706|tw9709389758484202978|tw3788502265883978801|tw986241441199420013|tw18235367403193119875|tw11492364453606544482|tw13841776776259013929|tw5347684092353496170|tw6044292020578518934|tw11029197681644731462|tw12143480862610659677|tw5729167748028315872|tw18279001260867936949|tw11961063147795218755|tw15074243457956680151|tw15861620684105175891|tw7360870085808381651|tw5991967043319858936|tw7385520236184503859|tw10415120761280805585|tw1348709505560462806|tw12976332900633447607|tw8430529204159539080|tw9712043569780157618|tw11761191338990454741|tw7501471454586178003|tw10063696201645602175|tw18410131342352044214|tw17614349638252541626|tw10469766574292511260|tw7012857459862556511|tw6144103730432592599|tw9220343931126652512|tw517133103141867778|tw8180376078195932730|tw4011640258874185238|tw10782461298268290420|tw7358623693266427665|tw6193351569226536893|tw15700240714179528468|tw12832900676655783265|tw10823118612473513620|tw11852757767620068018|tw3767032669547493667|tw6933703737796072636|tw11914620212858762211|tw14333749056604478493|tw12155729902959217142|tw3224962979415960394|tw15147121624710422985|tw16974488168725556859|tw14716533593054050958|tw9352591306352065318|tw1929653321505140409|tw10496653470082293437|tw5951673616349344396|tw6137128230752104922|tw10437304054063616893|tw11355558274193666324|tw8647647823768150322|tw5154338804185429274|tw12875771628862294343|tw4118277336525246964|tw2789894883248479618|tw10740492636114487725|tw1121147256210128830|tw1409050355748423484|tw2228252258341392267|tw2564460467118949915|tw16546331213394536815|tw16785609395705428321|tw2080810940234641943|tw7342236642544752309|tw1495064766132595558|tw2095835987240814053|tw8228713774156114631|tw3556258428049394456|tw4180408336496884785|tw5657127891642693652|tw10849427128459039822|tw14286459303552144669|tw985161515550892137|tw6883599037601053170|tw12652390361104870754|tw7455083368755773143|tw12276777103420324406|tw10279858320777901699|tw989416211837858671|tw3114420755687316208|tw16984867523619623737|tw15552781640034225916|tw8946761317369852624|tw17407070459278805341|tw5429325271634917213|tw2090808086299548061|tw1520931247341011718|tw9053194236150463405|tw13417819556072420607|tw4878837060424106217|tw7491097590884872827|tw18130323941234711005|tw10287255052501285725|tw11376920247364721748|tw2408450773470397391|tw16475730212568351083|tw14169383865247420960|tw13273234814623543675|tw1359198989233106714|tw5453786727201097503|tw17686743216728719627|tw3171167639766323533|tw8869235204988964305|tw1031099380988362858|tw494998157203100957|tw13215419536674065956|tw3702747953183368707|tw5005179951254575717|tw1743466856723223716|tw9224401836440179209|tw847447051549298035|tw9771254166214066493|tw6059688646443986688
open PySem PySem.W PyProof.Rows
set_option maxRecDepth 100000 in
set_option maxHeartbeats 0 in
theorem PySem.Challenge.cw_errandend_k19_tellings_held_holds : PySem.Challenge.rw_errandend_k19_tellings_held.Holds := by
 w_on; o_law; k_head; (case hw => w_witness2)
 k_fill
 refine LW.walk (l := PySem.Challenge.rw_errandend_k19_tellings_held) rfl rfl (fun w h Y => PySem.W.kIn_of Y) ?F
 case F =>
  intro w mg fa h KX G hmg
  refine' LW.all_mk KX G hmg ?a_0 ?l_0 ?c_0 ?k_0 ?a_1 ?l_1 ?c_1 ?k_1 ?a_2 ?l_2 ?c_2 ?k_2 ?a_3 ?l_3 ?c_3 ?k_3 ?a_4 ?l_4 ?c_4 ?k_4 ?a_5 ?l_5 ?c_5 ?k_5 ?a_6 ?l_6 ?c_6 ?k_6 ?a_7 ?l_7 ?c_7 ?k_7 ?a_8 ?l_8 ?c_8 ?k_8 ?a_9 ?l_9 ?c_9 ?k_9 ?a_a ?l_a ?c_a ?k_a ?a_b ?l_b ?c_b ?k_b ?a_c ?l_c ?c_c ?k_c ?a_d ?l_d ?c_d ?k_d ?a_e ?l_e ?c_e ?k_e ?a_f ?l_f ?c_f ?k_f ?a_g ?l_g ?c_g ?k_g ?a_h ?l_h ?c_h ?k_h ?a_i ?l_i ?c_i ?k_i ?a_j ?l_j ?c_j ?k_j ?a_k ?l_k ?c_k ?k_k ?a_l ?l_l ?c_l ?k_l ?a_m ?l_m ?c_m ?k_m ?a_n ?l_n ?c_n ?k_n ?a_o ?l_o ?c_o ?k_o ?a_p ?l_p ?c_p ?k_p ?a_q ?l_q ?c_q ?k_q ?a_r ?l_r ?c_r ?k_r ?a_s ?l_s ?c_s ?k_s ?a_t ?l_t ?c_t ?k_t ?a_u ?l_u ?c_u ?k_u ?a_v ?l_v ?c_v ?k_v ?a_w ?l_w ?c_w ?k_w ?a_x ?l_x ?c_x ?k_x ?a_y ?l_y ?c_y ?k_y ?a_z ?l_z ?c_z ?k_z ?a_10 ?l_10 ?c_10 ?k_10 ?a_11 ?l_11 ?c_11 ?k_11 ?a_12 ?l_12 ?c_12 ?k_12 ?a_13 ?l_13 ?c_13 ?k_13 ?a_14 ?l_14 ?c_14 ?k_14 ?a_15 ?l_15 ?c_15 ?k_15 ?a_16 ?l_16 ?c_16 ?k_16 ?a_17 ?l_17 ?c_17 ?k_17 ?a_18 ?l_18 ?c_18 ?k_18 ?a_19 ?l_19 ?c_19 ?k_19 ?a_1a ?l_1a ?c_1a ?k_1a ?z_1c ?z_1d ?z_1e ?z_1f ?z_1g ?z_1h ?z_1i ?z_1j ?z_1k ?z_x ?z_18 ?z_1l ?z_1m ?z_1n ?z_1b ?x_1o ?x_1p ?x_1q ?x_1r ?x_18
  (case a_0=>k_is)
  (case l_0=>k_is)
  (case c_0=>k_is)
  (case k_0=>k_is)
  (case a_1=>k_is)
  (case l_1=>k_is)
  (case c_1=>k_is)
  (case k_1=>k_is)
  (case a_2=>k_is)
  (case l_2=>k_is)
  (case c_2=>k_is)
  (case k_2=>k_is)
  (case a_3=>k_is)
  (case l_3=>k_is)
  (case c_3=>k_is)
  (case k_3=>k_is)
  (case a_4=>k_is)
  (case l_4=>k_is)
  (case c_4=>k_is)
  (case k_4=>k_is)
  (case a_5=>k_is)
  (case l_5=>k_is)
  (case c_5=>k_is)
  (case k_5=>k_is)
  (case a_6=>k_is)
  (case l_6=>k_is)
  (case c_6=>k_is)
  (case k_6=>k_is)
  (case a_7=>k_is)
  (case l_7=>k_is)
  (case c_7=>k_is)
  (case k_7=>k_is)
  (case a_8=>k_is)
  (case l_8=>k_is)
  (case c_8=>k_is)
  (case k_8=>k_is)
  (case a_9=>k_is)
  (case l_9=>k_is)
  (case c_9=>k_is)
  (case k_9=>k_is)
  (case a_a=>k_is)
  (case l_a=>k_is)
  (case c_a=>k_is)
  (case k_a=>k_is)
  (case a_b=>k_is)
  (case l_b=>k_is)
  (case c_b=>k_is)
  (case k_b=>k_is)
  (case a_c=>k_is)
  (case l_c=>k_is)
  (case c_c=>k_is)
  (case k_c=>k_is)
  (case a_d=>k_is)
  (case l_d=>k_is)
  (case c_d=>k_is)
  (case k_d=>k_is)
  (case a_e=>k_is)
  (case l_e=>k_is)
  (case c_e=>k_is)
  (case k_e=>k_is)
  (case a_f=>k_is)
  (case l_f=>k_is)
  (case c_f=>k_is)
  (case k_f=>k_is)
  (case a_g=>k_is)
  (case l_g=>k_is)
  (case c_g=>k_is)
  (case k_g=>k_is)
  (case a_h=>k_is)
  (case l_h=>k_is)
  (case c_h=>k_is)
  (case k_h=>k_is)
  (case a_i=>k_is)
  (case l_i=>k_is)
  (case c_i=>k_is)
  (case k_i=>k_is)
  (case a_j=>k_is)
  (case l_j=>k_is)
  (case c_j=>k_is)
  (case k_j=>k_is)
  (case a_k=>k_is)
  (case l_k=>k_is)
  (case c_k=>k_is)
  (case k_k=>k_is)
  (case a_l=>k_is)
  (case l_l=>k_is)
  (case c_l=>k_is)
  (case k_l=>k_is)
  (case a_m=>k_is)
  (case l_m=>k_is)
  (case c_m=>k_is)
  (case k_m=>k_is)
  (case a_n=>k_is)
  (case l_n=>k_is)
  (case c_n=>k_is)
  (case k_n=>k_is)
  (case a_o=>k_is)
  (case l_o=>k_is)
  (case c_o=>k_is)
  (case k_o=>k_is)
  (case a_p=>k_is)
  (case l_p=>k_is)
  (case c_p=>k_is)
  (case k_p=>k_is)
  (case a_q=>k_is)
  (case l_q=>k_is)
  (case c_q=>k_is)
  (case k_q=>k_is)
  (case a_r=>k_is)
  (case l_r=>k_is)
  (case c_r=>k_is)
  (case k_r=>k_is)
  (case a_s=>k_is)
  (case l_s=>k_is)
  (case c_s=>k_is)
  (case k_s=>k_is)
  (case a_t=>k_is)
  (case l_t=>k_is)
  (case c_t=>k_is)
  (case k_t=>k_is)
  (case a_u=>k_is)
  (case l_u=>k_is)
  (case c_u=>k_is)
  (case k_u=>k_is)
  (case a_v=>k_is)
  (case l_v=>k_is)
  (case c_v=>k_is)
  (case k_v=>k_is)
  (case a_w=>k_is)
  (case l_w=>k_is)
  (case c_w=>k_is)
  (case k_w=>k_is)
  (case a_x=>k_is)
  (case l_x=>k_is)
  (case c_x=>k_is)
  (case k_x=>k_is)
  (case a_y=>k_is)
  (case l_y=>k_is)
  (case c_y=>k_is)
  (case k_y=>k_is)
  (case a_z=>k_is)
  (case l_z=>k_is)
  (case c_z=>k_is)
  (case k_z=>k_is)
  (case a_10=>k_is)
  (case l_10=>k_is)
  (case c_10=>k_is)
  (case k_10=>k_is)
  (case a_11=>k_is)
  (case l_11=>k_is)
  (case c_11=>k_is)
  (case k_11=>k_is)
  (case a_12=>k_is)
  (case l_12=>k_is)
  (case c_12=>k_is)
  (case k_12=>k_is)
  (case a_13=>k_is)
  (case l_13=>k_is)
  (case c_13=>k_is)
  (case k_13=>k_is)
  (case a_14=>k_is)
  (case l_14=>k_is)
  (case c_14=>k_is)
  (case k_14=>k_is)
  (case a_15=>k_is)
  (case l_15=>k_is)
  (case c_15=>k_is)
  (case k_15=>k_is)
  (case a_16=>k_is)
  (case l_16=>k_is)
  (case c_16=>k_is)
  (case k_16=>k_is)
  (case a_17=>k_is)
  (case l_17=>k_is)
  (case c_17=>k_is)
  (case k_17=>k_is)
  (case a_18=>k_is)
  (case l_18=>k_is)
  (case c_18=>k_is)
  (case k_18=>k_is)
  (case a_19=>k_is)
  (case l_19=>k_is)
  (case c_19=>k_is)
  (case k_19=>k_is)
  (case a_1a=>k_is)
  (case l_1a=>k_is)
  (case c_1a=>k_is)
  (case k_1a=>k_is)
  (case z_1c=>k_is)
  (case z_1d=>k_is)
  (case z_1e=>k_is)
  (case z_1f=>k_is)
  (case z_1g=>k_is)
  (case z_1h=>k_is)
  (case z_1i=>k_is)
  (case z_1j=>k_is)
  (case z_1k=>k_is)
  (case z_x=>k_is)
  (case z_18=>k_is)
  (case z_1l=>k_is)
  (case z_1m=>k_is)
  (case z_1n=>k_is)
  (case z_1b=>k_is)
  (case x_1o=>k_is)
  (case x_1p=>k_is)
  (case x_1q=>k_is)
  (case x_1r=>k_is)
  (case x_18=>kernel_rfl)
#print axioms PySem.Challenge.cw_errandend_k19_tellings_held_holds
