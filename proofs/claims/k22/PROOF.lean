import PyProof.Rows.All
import Wide.All
import OpenK.AllK
import Wide.FinOn
import Lean
import PyProof.EqAt
import PyProof.EqKinds
import PyProof.TupleCall
import PySem.Challenge.RW_errandend_k22_whole_never_round_again
set_option Elab.async false
set_option linter.all false
set_option maxRecDepth 100000
noncomputable section
local macro_rules|`(show _ by $t)=>`((by exact ?n:type_of% (let_mvar% ?n:=(by $t :_);?n)))
open Array renaming forIn_toList→MA,length_toList→ML,toList→MM
open Bool renaming false_ne_true→cV,and_eq_true→gq,and_self→iW,eq_iff_iff→iX,false_eq_true→iY,false_or→xD,not_true→Cy,or_false→Dd,and_assoc→ME,and_false→Nf,or_assoc→N2
open Classical renaming axiomOfChoice→x_
open False renaming elim→eX
open Int renaming emod_nonneg→gS,toNat_natCast→jD,emod_lt_of_pos→qZ,toNat→rg,le_refl→DJ,le_trans→DL
open List renaming length_map→aG,length_append→aR,getElem?_eq_getElem→aU,range→aZ,getElem?_map→a7,length_cons→bp,mem_cons→bJ,map_cons→bL,mem_map→bO,getD_eq_getElem?_getD→bR,getElem?_eq_some_iff→b4,size_toArray→cj,length_nil→cm,mem_cons_self→cL,mem_cons_of_mem→cO,not_mem_nil→cQ,mem_of_getElem?→c8,map_append→da,mem_append→dh,length_take→dP,getElem?_eq_none→dQ,length_drop→fg,mem_singleton→ft,replicate→fK,map_map→fY,append_nil→gP,mem_append_right→gQ,mem_range→ik,lookup→iq,nodup_cons→iZ,append_assoc→i6,length_reverse→jG,take_of_length_le→jH,getElem_of_mem→jI,take_succ→jK,length→ki,find?_cons→kl,lookup_cons→km,prefix_refl→ku,getElem?_append_left→lR,getElem?_range→lW,nil_append→lX,mem_map_of_mem→lZ,ext_getElem?→l7,reverse_cons→l8,getElem?_append_right→mX,any_cons→mY,all_cons→oN,mem_filterMap→oP,map_nil→oS,take_length→oU,foldl_cons→oV,getElem_mem→oX,cons_append→qT,any_eq_true→q_,reverse_append→rk,length_range→uc,forIn_cons→ue,drop_eq_nil_of_le→uk,range'→um,mem_of_mem_take→uo,filter_append→uv,map_take→uy,drop_eq_getElem_cons→uz,mem_append_left→xp,drop_zero→xF,forIn_nil→xM,lookup_append→xS,drop_length→xV,idxOf_cons→xW,mem_filter→CC,filterMap_cons→CF,of_mem_zip→CV,length_singleton→Dh,nodup_iff_pairwise_ne→DB,mem_of_mem_drop→DC,take_append_drop→DD,length_filter_le→DH,range_succ→DI,map_congr_left→DM,flatten_cons→DN,mem_flatten→DO,map_drop→DT,map_reverse→DU,prefix_append→DV,range_succ_eq_map→MB,all_map→MC,getElem?_set_self→MF,getElem?_set_ne→MG,any_eq_false→MQ,getElem?_replicate→MU,getElem?_take_of_lt→MV,take_sublist→MW,length_replicate→MX,getElem?_reverse→Nl,pairwise_map→Nv,zipIdx_cons→Nz,zipIdx_nil→NA,getElem?_zip_eq_some→ND,length_erase_of_mem→NF,length_pos_of_mem→NG,mem_erase_of_ne→NH,getElem?_zipIdx→NP,any_map→NQ,mem_zipIdx_iff_getElem?→NR,range'_succ→NU,reverse_reverse→NX,flatten_append→NY,find?_eq_none→NZ,lookup_cons_self→N1,length_pos_iff→N3
open List.Pairwise renaming imp_of_mem→Nw
open List.cons renaming injEq→rh,inj→NV
open Nat renaming le_refl→aT,zero_le→bV,le_trans→cC,ne_of_lt→cW,lt_of_lt_of_le→dO,add_assoc→kd,lt_irrefl→kf,ne_of_gt→kh,le_of_lt→mU,add_mod→m9,sub_zero→ud,min_eq_left→uj,le_add_right→uu,lt_succ_self→xt,lt_of_le_of_lt→xC,min_eq_right→xO,succ_mul→xT,zero_add→xX,mod_mod→xY,mod_eq_of_lt→xZ,lt_trans→Dk,lt_or_ge→DS,sub_self→DW,zero_mod→DX,mul_mod_right→DY,mod_lt→DZ,succ_min_succ→MD,le_of_not_lt→M8,mul_le_mul_right→N0
open Ne renaming symm→bt
open Option renaming map_eq_some_iff→dz,bind_some→kq,bind_eq_some_iff→lY,isSome_iff_exists→CW,getD_some→Dm,getD_none→M5,isSome_some→M_,isSome_map→M'
open Option.some renaming inj→dg,injEq→uf
open Prod renaming fst→bS
open Prod.mk renaming injEq→uw
open PyProof.Rows renaming boot_tuple→jJ,slot_tuple_getitem→lU,callWith_type1→mW,Subscript_→C6,entry_tuple_getitem→M0,args_tuple_getitem→M1,subscriptTail_builtinR→M3
open PyProof.Rows.IsTup renaming new→C7
open PySem renaming wpAny_bind→ai,wpAny_pure→aB,wpAny_field→c9,boot_len→eC,wpAny_mono→fo,wpAny_call_entry→ij,wpAny_setField_rec→iu,wpAny_seqItems→jB,mem_of_lookup→jC,wpAny_newObj_type→jF,wpAny_rule→ke,wpAny_callSpecial?_slot→kj,wpAny_specialOf→lN,wpAny_truthy_bool→lP,wpAny_holding→mV,typeLookup_type→m5,builtinLookup_eq_fast→m6,wpAny_of_eq→m7,Addr→m8,wpAny_passesOwn→oO,wpAny_typeOf→oQ,wpAny_attempt→oW,KeyKind→qR,wpAny_pyIter_tuple→qV,lookup_relabel_local→rj,wpAny_isInstance→tZ,wpAny_execs_nil→t7,call_meets→t_,codeAny_mono→ua,wpAny_updateSeq→ub,wpAny_setField→ug,wpAny_letGo→uq,eqIsQuiet_byValue→xn,wpAny_Call_Name_kw→xw,seqIndex_of→xA,wpAny_getItem_str_slice→xG,post_val_or_str→xH,isSubtype_type→xI,plainId_quiet→xN,wpAny_onRaise→xQ,wpAny_forIn_list→Cw,Within→Cz,wpAny_Name→CG,wpAny_standAt→CH,wpAny_pyIter_list→CI,sizeLine_eq→CJ,concat_meets→CY,noFill_tuple_add→CZ,seq_tuple_add→C1,seqIndex_neg→C8,typeIs_str→C_,call→Di,callType_new→Dp,isSubtype_stop→Dr,wpAny_call→Dv,codeAny_builtin→Dz,wpAny_updateSeq_pair→DE,wpAny_loadName_local→MH,wpAny_loadName_cell→MI,wpAny_isTrue_Compare1→MK,wpAny_assign_Name→MN,wpAny_pyNext_list_item→MO,wpAny_pyNext_list_end→MP,wpAny_sequenceKey→MZ,slot_list_getitem→M4,wpAny_Call_method_late→M7,wpAny_pyIter_slot→Nk,wpAny_pyIter_revIter→NI,wpAny_comprehension_free→NJ
open PySem.Around renaming under→CQ,under_plainId→DA
open PySem.AutoSeq1 renaming wpAny_loadPart'→Dl,sub_tuple_tuple→Nd,idx_int→aip,sub_list_list→aiq,sub_tuple_list→air,sub_list_tuple→ais
open PySem.Builtin.Dict renaming updateFrom→Nu
open PySem.Builtin.List renaming listTooLong→xB,listExtendWith→DQ,listItems→NN,listSameRef→NO
open PySem.Builtin.Range renaming rangeSize→aib
open PySem.Builtin.Slice renaming slicePlaces→xx,sliceAdjust→C5,sliceApplied→MY,slicePartIndex→aim,sliceFields→ain
open PySem.Builtin.SmallTypes renaming nextOf→lV,ownedTupleIsFree→rf,ownedTupleHandOut→ur,newRecord→ait,stopIteration→aiu
open PySem.Builtin.Str renaming strSliceIndices→Nh
open PySem.Builtin.Tuple renaming tupleHashOf→qS,tupleExact→xy,tupleItemsOf→Cv,tupleIsExact→Nn
open PySem.Calls renaming callWith_builtin→Df,evalArgs_plain→Dg,Name_function_global→MJ,spliced_nil→MS,spliced_cons→MT
open PySem.Code renaming isFrame→CU
open PySem.EqMixed renaming eq_bool_str→aic,eq_int_str→aid,eq_str_bool→aie,eq_str_int→aif,ne_bool_str→aih,ne_int_str→aii,ne_str_bool→aij,ne_str_int→aik
open PySem.F renaming plainAttrs_list→bW,slot_list_append→c_,type_list_append→dj,slot_list_pop→gR,type_list_pop→iw,slot_enumerate_next→ux,slot_tuple_hash→xm,slot_tuple_iterator_next→xP,slot_zip_next→xR,slot_tuple_add→C2,entry_tuple_add→C3,args_tuple_add_2→C4,slot_list_getattribute→Dy,plain_extend_loop→DP,slot_list_extend→Ng,args_object_init_2→Ni,excBase_ValueError→Nq,entry_tuple_iterator_next→Nx,args_tuple_iterator_next_1→Ny,entry_zip_next→NB,args_zip_next_1→NC,entry_enumerate_next→NK,args_enumerate_next_1→NL,slot_enumerate_iter→NM,slot_tuple_index→NW
open PySem.Heap renaming get?_push_of_some→bA,lt_size→bG,get?_push_size→c7,SameBut→fJ,size_push→ir,get?_update_self→oR,get?_update_other→qW,ExtBut→ui,MadeExcOf→Ds,FlyingW→Dw,IsTuple→DF
open PySem.Heap.DictOf renaming new→Nc
open PySem.Heap.IsSliceOf renaming new→aio
open PySem.Heap.SameBut renaming update→uh
open PySem.Heap.UpToSlots renaming of_keeps→Np
open PySem.Obj renaming mapSeq→fq,data_mapFields→qX,mapFields→xJ,isFreed_of_fields→Dq,cls_mapFields→Nj
open PySem.PassesOwn renaming never→eD
open PySem.SeqAt renaming EqAt→De,in_listAt→M6
open PySem.SeqAt.EqAt renaming int_str→My,str_int→Mz
open PySem.Shared renaming heap→DG
open PySem.Str renaming ofString→jE,length→C9
open PySem.Txt renaming slice→xE
open PySem.Value renaming isInt→Mw,isStrOf→Mx
open PySem.Value.type renaming inj→xU
open PySem.W renaming Frag→aq,keepIn→a_,fnOf→ba,nsIn→bb,codeIn→bB,findIn→cP,isFn→ip,mg_none_of→ix,hideAll→kg,kitCls→ko,emptyDict→lQ,instObj→mT,mg_of→mZ,of_hideAll→qU,excIn→qY,hideAll_none→t6,plainGet→t8,makesIn→t9,hideAll_get→xo,lookIn→xq,hasDictIn→xr,cellsFrom_some→xu,funFrames_hide→xK,methodObj→CB,plainGet_of→CM,plainOver→CN,takerIn→CP,OpenLaw→Dj,callWith_K→Du,Looks→Dx,handedIn→MR,WalkO→M9,kit_cls→Nr,mroIn→Nt,methodCall_KW→NS
open PySem.W.Looks renaming here→ail,of_pure→aiv,ld→aiw
open Std.Legacy renaming Range→NT
open Std.Legacy.Range renaming forIn_eq_forIn_range'→aix,size→aiy
local macro_rules|`(tactic|lia)=>`(tactic|omega)
local macro_rules|`(tactic|cbv)=>`(tactic|decide +kernel)
namespace L2
open PySem PySem.Spec PyProof.Rows
abbrev Key:=Sum Int Str
def oY:Key->Value->Bool
 | .inl k,v=>Mw k v
 | .inr x,v=>Mx x v
def N4(w:World):Key->Int
 | .inl k=>hashInt k
 | .inr x=>hashStr w x
theorem kx:∀{k:Key} {v:Value},oY k v=true->(∃i t,k=Sum.inl i/\v=Value.int i t)∨(∃x t,k=Sum.inr x/\v=Value.str x t)
 | .inl i,v,h=>by
  obtain⟨t,e⟩:=Value.isInt_shape (k:=i) (v:=v) h;exact .inl ⟨i,t,rfl,e⟩
 | .inr x,v,h=>by
  obtain⟨t,e⟩:=Value.isStrOf_shape (x:=x) (v:=v) h;exact .inr ⟨x,t,rfl,e⟩
theorem N5(i:Int)(t:Tok):oY (.inl i) (.int i t)=true:=by simp[oY,Mw]
theorem N6(x:Str)(t:Tok):oY (.inr x) (.str x t)=true:=by simp[oY,Mx]
theorem N7(a b:Int):decide ((Sum.inl a:Key)=Sum.inl b)=(a==b):=by
 by_cases e:a=b
 ·subst e;simp
 ·have h:¬(Sum.inl a:Key)=Sum.inl b:=λq=>e (Sum.inl.inj q);rw[decide_eq_false h];exact(beq_eq_false_iff_ne.mpr e).symm
theorem N8(a b:Str):decide ((Sum.inr a:Key)=Sum.inr b)=decide (a=b):=by
 by_cases e:a=b
 ·subst e;simp
 ·have h:¬(Sum.inr a:Key)=Sum.inr b:=λq=>e (Sum.inr.inj q);rw[decide_eq_false h,decide_eq_false e]
theorem N9(a:Int)(b:Str):decide ((Sum.inl a:Key)=Sum.inr b)=false:=decide_eq_false (λq=>nomatch q)
theorem N_(a:Str)(b:Int):decide ((Sum.inr a:Key)=Sum.inl b)=false:=decide_eq_false (λq=>nomatch q)
def fL(prog:Program)(w:World):qR prog w Key where
 is:=oY
 hash:=N4 w
 inj:=λv a b ha hb=>by
  rcases kx ha with⟨i,t,rfl,rfl⟩|⟨x,t,rfl,rfl⟩
  ·rcases kx hb with⟨j,u,rfl,e⟩|⟨y,u,rfl,e⟩
   ·injection e with e1 _;rw[e1]
   ·exact nomatch e
  ·rcases kx hb with⟨j,u,rfl,e⟩|⟨y,u,rfl,e⟩
   ·exact nomatch e
   ·injection e with e1 _;rw[e1]
 byValue:=λk v h=>by
  rcases kx h with⟨i,t,rfl,rfl⟩|⟨x,t,rfl,rfl⟩<;>rfl
 pyHash:=λhv h=>by
  rcases kx hv with⟨i,t,rfl,rfl⟩|⟨x,t,rfl,rfl⟩
  ·exact wpAny_pyHash_int h
  ·exact wpAny_pyHash_str h
 eqBool:=λhu hv h=>by
  rcases kx hu with⟨i,t,rfl,rfl⟩|⟨x,t,rfl,rfl⟩
  ·rcases kx hv with⟨j,u,rfl,rfl⟩|⟨y,u,rfl,rfl⟩
   ·rw[N7]at h;exact wpAny_eqBool_int h
   ·rw[N9]at h;exact My i t y u _ _ _ _ h
  ·rcases kx hv with⟨j,u,rfl,rfl⟩|⟨y,u,rfl,rfl⟩
   ·rw[N_]at h;exact Mz x t j u _ _ _ _ h
   ·rw[N8]at h;exact wpAny_eqBool_str h
 «strs»:=λk x t v h=>by
  rcases kx h with⟨i,u,rfl,e⟩|⟨y,u,rfl,e⟩
  ·exact nomatch e
  ·injection e with e1 _;subst e1;cases v<;>rfl
theorem ya(prog:Program)(w:World)(i:Int)(t:Tok):(fL prog w).is (.inl i) (.int i t)=true:=N5 i t
theorem yb(prog:Program)(w:World)(x:Str)(t:Tok):(fL prog w).is (.inr x) (.str x t)=true:=N6 x t
end L2
namespace L2
open PySem PySem.Spec PyProof.Rows SeqAt
inductive DK where
 |int (i:Int)|str (x:Str)|tup (ks:List DK)
mutual
def DK.beq:DK->DK->Bool
 | .int a,.int b=>decide (a=b)
 | .str a,.str b=>decide (a=b)
 | .tup a,.tup b=>DK.gu a b
 |_,_=>false
def DK.gu:List DK->List DK->Bool
 |[],[]=>true
 |a::as,b::bs=>a.beq b&&DK.gu as bs
 |_,_=>false
end
mutual
theorem DK.beq_eq:∀{a b:DK},a.beq b=true->a=b
 | .int a,.int b,h=>by simp only[DK.beq,decide_eq_true_eq]at h;rw[h]
 | .str a,.str b,h=>by simp only[DK.beq,decide_eq_true_eq]at h;rw[h]
 | .tup a,.tup b,h=>by simp only[DK.beq]at h;rw[DK.D4 h]
 | .int _,.str _,h=>by simp[DK.beq]at h
 | .int _,.tup _,h=>by simp[DK.beq]at h
 | .str _,.int _,h=>by simp[DK.beq]at h
 | .str _,.tup _,h=>by simp[DK.beq]at h
 | .tup _,.int _,h=>by simp[DK.beq]at h
 | .tup _,.str _,h=>by simp[DK.beq]at h
theorem DK.D4:∀{as bs:List DK},DK.gu as bs=true->as=bs
 |[],[],_=>rfl
 |a::as,b::bs,h=>by
  simp only[DK.gu,gq]at h;rw[DK.beq_eq h.1,DK.D4 h.2]
 |[],_::_,h=>by simp[DK.gu]at h
 |_::_,[],h=>by simp[DK.gu]at h
end
mutual
theorem DK.beq_refl:∀a:DK,a.beq a=true
 | .int a=>by simp[DK.beq]
 | .str a=>by simp[DK.beq]
 | .tup as=>by simp only[DK.beq];exact DK.D5 as
theorem DK.D5:∀as:List DK,DK.gu as as=true
 |[]=>by simp[DK.gu]
 |a::as=>by simp only[DK.gu,DK.beq_refl a,DK.D5 as,iW]
end
instance:DecidableEq DK:=λa b=>if h:a.beq b=true then .isTrue (DK.beq_eq h) else .isFalse λe=>h (e▸DK.beq_refl a)
mutual
def DK.deep:DK->Nat
 | .tup ks=>DK.d7 ks+1
 |_=>0
def DK.d7:List DK->Nat
 |[]=>0
 |k::ks=>max k.deep (DK.d7 ks)
end
mutual
inductive dR(h:Heap):DK->Value->Prop where
 |int (i:Int) (t:Tok):dR h (.int i) (.int i t)
 |str (x:Str) (t:Tok):dR h (.str x) (.str x t)
 |tup {ks:List DK} {a:Addr} {o:Obj} {items:Array Value} {n:Nat}:h.get? a=some o->o.cls=.type "tuple"->o.data=.seq items n->dN h ks items.toList->dR h (.tup ks) (.ref a)
inductive dN(h:Heap):List DK->List Value->Prop where
 |nil:dN h [] []
 |cons {k:DK} {v:Value} {ks:List DK} {vs:List Value}:dR h k v->dN h ks vs->dN h (k::ks) (v::vs)
end
mutual
theorem dR.inj{h:Heap}:∀{x y:DK} {v:Value},dR h x v->dR h y v->x=y
 |_,_,_,.int i t,e=>by cases e;rfl
 |_,_,_,.str x t,e=>by cases e;rfl
 |_,_,_,.tup h1 _ h3 h4,e=>by
  cases e with
  |tup g1 _ g3 g4 =>
   rw[h1]at g1;cases g1;rw[h3]at g3;cases g3;rw[dN.inj h4 g4]
theorem dN.inj{h:Heap}:∀{xs ys:List DK} {vs:List Value},dN h xs vs->dN h ys vs->xs=ys
 |_,_,_,.nil,e=>by cases e;rfl
 |_,_,_,.cons h1 h2,e=>by
  cases e with
  |cons g1 g2=>rw[dR.inj h1 g1,dN.inj h2 g2]
end
mutual
theorem dR.mono{h h':Heap}(k:∀a o items n,h.get? a=some o->o.data=.seq items n->h'.get? a=some o):∀{x:DK} {v:Value},dR h x v->dR h' x v
 |_,_,.int i t=>.int i t
 |_,_,.str x t=>.str x t
 |_,_,.tup h1 h2 h3 h4=>.tup (k _ _ _ _ h1 h3) h2 h3 (dN.mono k h4)
theorem dN.mono{h h':Heap}(k:∀a o items n,h.get? a=some o->o.data=.seq items n->h'.get? a=some o):∀{xs:List DK} {vs:List Value},dN h xs vs->dN h' xs vs
 |_,_,.nil=>.nil
 |_,_,.cons h1 h2=>.cons (dR.mono k h1) (dN.mono k h2)
end
section
variable(P:Program)(w:World)
mutual
def ky:DK->Int
 | .int i=>(fL P w).hash (.inl i)
 | .str x=>(fL P w).hash (.inr x)
 | .tup ks=>reduceHash (qS (iy ks))
def iy:List DK->List Int
 |[]=>[]
 |k::ks=>ky k::iy ks
end
end
mutual
def kz:DK->Nat
 | .int _=>1
 | .str _=>1
 | .tup ks=>l9 ks+1
def l9:List DK->Nat
 |[]=>0
 |k::ks=>kz k+l9 ks
end
theorem yc(P:Program)(w:World):∀(ks:List DK) (k:DK),iy P w (ks++[k])=iy P w ks++[ky P w k]
 |[],k=>by simp[iy]
 |x::ks,k=>by rw[qT,iy,iy,yc P w ks k,qT]
theorem yd:∀(ks:List DK) (k:DK),l9 (ks++[k])=l9 ks+kz k
 |[],k=>by simp[l9]
 |x::ks,k=>by rw[qT,l9,l9,yd ks k];lia
theorem D6:∀(a b:List DK),DK.d7 (a++b)=max (DK.d7 a) (DK.d7 b)
 |[],b=>by simp[DK.d7]
 |x::a,b=>by rw[qT,DK.d7,DK.d7,D6 a b];lia
section
variable{P:Program}{w:World}
theorem N':∀(n:Nat) {A:Around} {E:Value->Shared->Prop} {s:Shared} {k:DK} {v:Value} {Q:Int->Shared->Prop},k.deep<=n->A.units+n<cLine->dR s.heap k v->Q (ky P w k) {s with toks:=s.toks+kz k} ->
 wpAny (model P w) A (PySem.pyHash v) Q E s:=show _ by
 intro n
 induction n with
 |zero =>
  intro A E s k v Q hn hu hk h;cases hk with
  |int i t=>rw[ky,kz]at h;exact(fL P w).pyHash (k:=.inl i) (ya _ _ i t) h
  |str x t=>rw[ky,kz]at h;exact(fL P w).pyHash (k:=.inr x) (yb _ _ x t) h
  |tup h1 h2 h3 h4=>simp[DK.deep]at hn
 |succ n ih =>
  intro A E s k v Q hn hu hk h;cases hk with
  |int i t=>rw[ky,kz]at h;exact(fL P w).pyHash (k:=.inl i) (ya _ _ i t) h
  |str x t=>rw[ky,kz]at h;exact(fL P w).pyHash (k:=.inr x) (yb _ _ x t) h
  |@tup ks a o items m h1 h2 h3 h4 =>
   have hT:s.TypeIs (.ref a) "tuple":=⟨o,h1,h2⟩;have hu0:A.units<cLine:=by lia
   rw[DK.deep]at hn;unfold pyHash
   first|unfold pyHashByItsType|skip
   first|refine ai (wpAny_cRoomFor_or (.inr hu0) ?_)|skip
   refine ai (lN hT xm.lookup ?_);show wpAny _ _ (if(some (Value.builtin "tuple.__hash__")==some Value.none)=true then _ else _) Q E s;rw[if_neg (by rw[beq_builtin_none];exact cV)];refine ai (lN hT xm.lookup ?_);show wpAny _ _ (callSpecialIfBoundUnlessNone? (.ref a) "__hash__" _ >>= _) Q E s;refine ai (wpAny_callSpecialIfBoundUnlessNone?_slot hT xm (ij xm hT F.entry_tuple_hash ?_ (F.args_tuple_hash_1 _)));show wpAny _ _ (Cv (.ref a) >>= _) _ _ s;refine ai (wpAny_tupleItemsOf h1 h3 ?_);refine ai ?_;rw[<-MA];refine Cw _
    (λrest (b:Array Int) s'=>∃done left,ks=done++left/\dN s.heap left rest/\b.toList=iy P w done/\s'={s with toks:=s.toks+l9 done})
    _ ?_ ?_ _ _ ⟨[],ks,rfl,h4,rfl,rfl⟩
   ·rintro x rest b s' ⟨done,left,rfl,hl,hb,rfl⟩;cases hl with
    |@cons k _ ks' _ g1 hl' =>
     have hd:k.deep<=n:=by
      rw[D6,DK.d7]at hn;lia
     refine ai (ih hd ?_ g1 ?_)
     ·show A.units+1+n<cLine;lia
     first
      |exact aB ⟨done++[k],ks',by simp,hl',by simp[hb,yc],by simp[yd,kd]⟩
      |exact ai (aB (aB ⟨done++[k],ks',by simp,hl',by simp[hb,yc],by simp[yd,kd]⟩))
   ·rintro b s' ⟨done,left,rfl,hl,hb,rfl⟩;cases hl;rw[gP]at h;show wpAny _ _ (retInt (qS b.toList)) _ _ _;rw[hb];refine wpAny_ret_mkInt ?_;show wpAny _ _ (if(decide (-(2:Int)^63<=qS (iy P w done))&&decide (qS (iy P w done)<2^63))=true then _ else _) Q E _;rw[ky,kz]at h;unfold reduceHash at h;by_cases hr:(decide (-(2:Int)^63<=qS (iy P w done))&&decide (qS (iy P w done)<2^63))=true
    ·rw[if_pos hr];rw[if_pos hr]at h;exact aB (by simpa[kd]using h)
    ·rw[if_neg hr];rw[if_neg hr]at h;exact ai (ke (aB (by simpa[kd]using h)))
def rm(ds es:List DK)(i:Nat):Bool:=match ds[i]?,es[i]? with
 |some d,some e=>d.beq e
 |_,_=>true
theorem Oa(ds es:List DK)(d e:DK)(n:Nat):(aZ (n+1)).all (rm (d::ds) (e::es))=(d.beq e&&(aZ n).all (rm ds es)):=by
 rw[MB,oN,MC];rfl
theorem D7:∀ds es:List DK,DK.gu ds es=((aZ (min ds.length es.length)).all (rm ds es)&&ds.length==es.length)
 |[],[]=>by simp[DK.gu]
 |[],_::_=>by simp[DK.gu]
 |_::_,[]=>by simp[DK.gu]
 |d::ds,e::es=>by
  have ih:=D7 ds es;simp only[DK.gu,bp];rw[MD,Oa,ih,ME];congr 2;rw[iX];simp
theorem dN.len{h:Heap}:∀{ks:List DK} {vs:List Value},dN h ks vs->ks.length=vs.length
 |_,_,.nil=>rfl
 |_,_,.cons _ q=>by simp[dN.len q]
theorem dN.at{h:Heap}:∀{ks:List DK} {vs:List Value} {i:Nat} {v:Value},dN h ks vs->vs[i]?=some v->∃d,ks[i]?=some d/\dR h d v
 |_,_,_,_,.nil,e=>by simp at e
 |_,_,0,_,.cons r _,e=>by simp at e;subst e;exact⟨_,rfl,r⟩
 |_,_,i+1,v,.cons _ q,e=>by
  obtain⟨d,h1,h2⟩:=dN.at (i:=i) (v:=v) q (by simpa using e);exact⟨d,by simpa using h1,h2⟩
theorem D8:∀{ds:List DK} {i:Nat} {d:DK},ds[i]?=some d->d.deep<=DK.d7 ds
 |[],_,_,e=>by simp at e
 |x::xs,0,_,e=>by simp at e;subst e;simp only[DK.d7];lia
 |x::xs,i+1,d,e=>by
  have:=D8 (ds:=xs) (i:=i) (d:=d) (by simpa using e);simp only[DK.d7];lia
theorem Ob{s:Shared}:∀(n:Nat) (A:Around) (d e:DK) (u u':Value),d.deep<=n->A.units+n<cLine->dR s.heap d u->dR s.heap e u'->RcAt A s u u' (d.beq e)/\EqAt A s u u' (d.beq e):=show _ by
 have Oc:∀a b:Int,(a==b)=decide (a=b):=λa b=>rfl;have flat:∀(A:Around) (d e:DK) (u u':Value),d.deep=0->A.units<cLine->dR s.heap d u->dR s.heap e u'->RcAt A s u u' (d.beq e)/\EqAt A s u u' (d.beq e):=by
  intro A d e u u' hn hu hd he;cases hd with
  |int a t =>
   cases he with
   |int b t'=>rw[DK.beq,<-Oc];exact⟨RcAt.int_int a t b t',EqAt.int_int a t b t'⟩
   |str b t'=>exact⟨RcAt.int_str a t b t',EqAt.int_str a t b t'⟩
   |tup h1 h2 h3 h4=>exact⟨RcAt.int_tuple a t ⟨_,h1,h2,_,h3⟩ hu,EqAt.int_tuple a t ⟨_,h1,h2,_,h3⟩ hu⟩
  |str a t =>
   cases he with
   |int b t'=>exact⟨RcAt.str_int a t b t',EqAt.str_int a t b t'⟩
   |str b t' =>
    have e:(a==b)=decide (a=b):=by
     by_cases c:a=b
     ·subst c;simp
     ·rw[decide_eq_false c];simpa using c
    rw[DK.beq,<-e];exact⟨RcAt.str_str a t b t',EqAt.str_str a t b t'⟩
   |tup h1 h2 h3 h4=>exact⟨RcAt.str_tuple a t ⟨_,h1,h2,_,h3⟩ hu,EqAt.str_tuple a t ⟨_,h1,h2,_,h3⟩ hu⟩
  |tup h1 h2 h3 h4=>simp[DK.deep]at hn
 intro n
 induction n with
 |zero=>exact λA d e u u' hn hu hd he=>flat A d e u u' (by lia) (by lia) hd he
 |succ n ih =>
  intro A d e u u' hn hu hd he;have hu':A.units<cLine:=by lia
  by_cases h0:d.deep=0
  ·exact flat A d e u u' h0 hu' hd he
  have hd0:=hd;cases hd with
  |int a t=>simp[DK.deep]at h0
  |str a t=>simp[DK.deep]at h0
  |@tup ks a o items m h1 h2 h3 h4 =>
   have ht:s.heap.IsTuple a items:=⟨_,h1,h2,_,h3⟩;have ye:=he;cases he with
   |int b t=>exact⟨RcAt.tuple_int b t ht hu',EqAt.tuple_int b t ht hu'⟩
   |str b t=>exact⟨RcAt.tuple_str b t ht hu',EqAt.tuple_str b t ht hu'⟩
   |@tup ls b o' items' m' g1 g2 g3 g4 =>
    have gv:s.heap.IsTuple b items':=⟨_,g1,g2,_,g3⟩;rw[DK.deep]at hn;have e:((aZ (min items.size items'.size)).all (rm ks ls)&&items.size==items'.size)=DK.beq (.tup ks) (.tup ls):=by
     rw[DK.beq,D7,h4.len,g4.len];simp
    have rc:RcAt A s (.ref a) (.ref b) (DK.beq (.tup ks) (.tup ls)):=by
     rw[<-e];refine RcAt.tuples ht gv hu' λj j1 j2=>?_;obtain⟨dx,rq,yf⟩:=h4.at (i:=j) (v:=items[j]) (by simp[j1]);obtain⟨dy,yg,yh⟩:=g4.at (i:=j) (v:=items'[j]) (by simp[j2]);have Od:=D8 rq;have:=(ih A.in1 dx dy _ _ (by lia) (by show A.units+1+n<cLine;lia) yf yh).2;unfold rm;rw[rq,yg];exact this
    refine⟨rc,?_⟩;by_cases hab:a=b
    ·subst hab;have ed:DK.tup ks=DK.tup ls:=dR.inj hd0 ye;rw[<-ed,DK.beq_refl];exact EqAt.same _
    ·exact EqAt.of_refs hab rc
theorem DK.Oe(a b:DK):a.beq b=decide (a=b):=by
 by_cases c:a=b
 ·subst c;rw[DK.beq_refl];simp
 ·rw[decide_eq_false c];cases q:a.beq b with
  |false=>rfl
  |true=>exact absurd (DK.beq_eq q) c
theorem Of:∀(n:Nat) {A:Around} {E:Value->Shared->Prop} {s:Shared} {k:DK} {v:Value} {Q:Bool->Shared->Prop},k.deep<=n->dR s.heap k v->Q true s->wpAny (model P w) A (eqIsQuiet n v) Q E s:=show _ by
 intro n
 induction n with
 |zero =>
  intro A E s k v Q hn hk h;cases hk with
  |int i t=>rw[xn _ rfl];exact aB h
  |str x t=>rw[xn _ rfl];exact aB h
  |tup h1 h2 h3 h4=>simp[DK.deep]at hn
 |succ n ih =>
  intro A E s k v Q hn hk h;cases hk with
  |int i t=>rw[xn _ rfl];exact aB h
  |str x t=>rw[xn _ rfl];exact aB h
  |@tup ks a o items m h1 h2 h3 h4 =>
   have hT:s.TypeIs (.ref a) "tuple":=⟨o,h1,h2⟩;rw[DK.deep]at hn;unfold eqIsQuiet;refine ai (lN hT F.slot_tuple_eq.lookup ?_);show wpAny _ _ (isInstance (.ref a) (.type "tuple") >>= _) _ _ s;refine ai (tZ hT isSubtype_tuple_tuple ?_);simp only[Cy,iY,if_false];refine ai (jB h1 h3 ?_);refine ai ?_;show wpAny _ _ (forIn items _ _) _ _ s;rw[<-MA];refine Cw _ (λrest r s'=>r.1=none/\s'=s/\∃ls,dN s.heap ls rest/\DK.d7 ls<=n) _ ?_ ?_ _ _ ⟨rfl,rfl,ks,h4,by lia⟩
   ·rintro v rest r s' ⟨hr,rfl,ls,hls,hdl⟩;cases hls with
    |@cons l _ ls' _ g1 g2 =>
     rw[DK.d7]at hdl;refine ai (ih (k:=l) (by lia) g1 ?_);simp only[Cy,iY,if_false];exact aB ⟨rfl,rfl,ls',g2,by lia⟩
   ·rintro⟨r1,r2⟩ s' ⟨hr,rfl,_⟩;simp only at hr;subst hr;exact aB h
end
def Og(h:Heap)(k:DK)(a:Addr):Prop:=dR h k (.ref a)/\k.deep<=4
def oZ(P:Program)(w:World):HeapKind P w DK where
 is:=Og
 hash:=ky P w
 draws:=kz
 room:=λA=>A.units+4<cLine
 inj:=λhx hy=>hx.1.inj hy.1
 keeps:=λ{h h' k a d o es ep} x ho hd hs=>⟨x.1.mono λb u items n hb hu=>by
  have hne:b≠d:=by
   rintro rfl;obtain rfl:u=o:=dg (hb.symm.trans ho);rw[hd]at hu;exact nomatch hu
  exact(hs.2 b hne).trans hb,x.2⟩
 pyHash:=λhu hk h=>N' 4 hk.2 hu hk.1 h
 eqBool:=λ{A E s x y a b Q} hu hx hy h=>by
  have:=(Ob 4 A x y (.ref a) (.ref b) hx.2 hu hx.1 hy.1).2;rw[DK.Oe]at this;exact this _ _ _ _ h
 quiet:=λ{A E s k a Q} hk h=>Of 8 (cC hk.2 (by decide)) hk.1 h
end L2
namespace L2
open PySem PySem.Spec PyProof.Rows
inductive V where
 |non|bl (b:Bool)|int (i:Int)|str (x:Str)|gx (b:Array UInt8)|flt (b:UInt64)|ref (a:Addr)|ty (n:String)
 deriving DecidableEq
def RelV:V->Value->Prop
 | .non,u=>u=Value.none
 | .bl b,u=>u=Value.bool b
 | .int i,u=>∃t,u=Value.int i t
 | .str x,u=>∃t,u=Value.str x t
 | .gx b,u=>∃t,u=Value.bytes b t
 | .flt b,u=>∃t,u=Value.float b t
 | .ref a,u=>u=Value.ref a
 | .ty n,u=>u=Value.type n
abbrev Vals:List V->List Value->Prop:=Paired RelV
theorem Vals.length{xs:List V}{us:List Value}(r:Vals xs us):xs.length=us.length:=Paired.length r
theorem Vals.get:∀{xs:List V} {us:List Value} {i:Nat} {x:V},Vals xs us->xs[i]?=some x->∃u,us[i]?=some u/\RelV x u
 |_,_,_,_,.nil,e=>by simp at e
 |_,_,0,_,.cons r _,e=>by simp at e;subst e;exact⟨_,rfl,r⟩
 |_,_,i+1,x,.cons _ t,e=>by
  obtain⟨u,h1,h2⟩:=Vals.get (i:=i) (x:=x) t (by simpa using e);exact⟨u,by simpa using h1,h2⟩
theorem Vals.set{x:V}{u:Value}(r:RelV x u):∀{xs:List V} {us:List Value} (i:Nat),Vals xs us->Vals (xs.set i x) (us.set i u)
 |_,_,_,.nil=>.nil
 |_,_,0,.cons _ t=>.cons r t
 |_,_,i+1,.cons q t=>.cons q (Vals.set r i t)
theorem Vals.append:∀{xs ys:List V} {us ws:List Value},Vals xs us->Vals ys ws->Vals (xs++ys) (us++ws)
 |_,_,_,_,.nil,s=>s
 |_,_,_,_,.cons r t,s=>.cons r (Vals.append t s)
theorem Vals.take:∀{xs:List V} {us:List Value} (n:Nat),Vals xs us->Vals (xs.take n) (us.take n)
 |_,_,0,_=>.nil
 |_,_,_+1,.nil=>.nil
 |_,_,n+1,.cons r t=>.cons r (Vals.take n t)
theorem Vals.drop:∀{xs:List V} {us:List Value} (n:Nat),Vals xs us->Vals (xs.drop n) (us.drop n)
 |_,_,0,r=>r
 |_,_,_+1,.nil=>.nil
 |_,_,n+1,.cons _ t=>Vals.drop n t
def fM:Option V->Option Value->Prop
 |some v,some u=>RelV v u
 |none,none=>True
 |_,_=>False
def KV{κ:Type}:List (κ×V)->List (κ×Value)->Prop:=Paired λ(p:κ×V) (q:κ×Value)=>p.1=q.1/\RelV p.2 q.2
def kV:Key->V
 | .inl i=>.int i
 | .inr x=>.str x
inductive HO where
 |lst (xs:List V)
 |tup (xs:List V)
 |dK (kvs:List (Key×V))|dT (kvs:List (DK×V))
 |set (S:Int->Bool) (n:Nat)
 |ins (C dx:Addr) (fs:List (Str×V))
 |own (x:Addr)
 |xd (fs:List (Str×V))
 |met (f x:Addr)
 |uA (lo hi:Int)
 |eE (o:Obj) (u:HO)
 |l_ (ps:Array Value)
 |ext (φ:Heap->Prop)
abbrev Hp:=Addr->Option HO
def upd(H:Hp)(a:Addr)(o:HO):Hp:=λb=>if b=a then some o else H b
theorem d8{H:Hp}{a:Addr}{o:HO}:upd H a o a=some o:=by unfold upd;rw[if_pos rfl]
theorem bg{H:Hp}{a b:Addr}{o:HO}(h:b≠a):upd H a o b=H b:=by unfold upd;rw[if_neg h]
theorem Oh{H:Hp}{a:Addr}{o u:HO}:upd (upd H a o) a u=upd H a u:=by
 funext b;unfold upd;split<;>rfl
theorem Oi{H:Hp}{a b:Addr}{o u:HO}(h:H a=some o)(h':H b=some u)(d:o≠u):a≠b:=by
 intro e;subst e;rw[h]at h';exact d (dg h')
theorem iz{H:Hp}{a b:Addr}{o:HO}(h:H a=some o)(h':H b=none):a≠b:=by
 intro e;subst e;rw[h]at h';cases h'
mutual
inductive jL(H:Hp):DK->V->Prop where
 |int (i:Int):jL H (.int i) (.int i)
 |str (x:Str):jL H (.str x) (.str x)
 |tup {a:Addr} {ks:List DK} {vs:List V}:H a=some (.tup vs)->jM H ks vs->jL H (.tup ks) (.ref a)
inductive jM(H:Hp):List DK->List V->Prop where
 |nil:jM H [] []
 |cons {k:DK} {v:V} {ks:List DK} {vs:List V}:jL H k v->jM H ks vs->jM H (k::ks) (v::vs)
end
mutual
theorem jL.mono{H H':Hp}(ht:∀b xs,H b=some (.tup xs)->H' b=some (.tup xs)):∀{k:DK} {v:V},jL H k v->jL H' k v
 |_,_,.int i=>.int i
 |_,_,.str x=>.str x
 |_,_,.tup h1 h2=>.tup (ht _ _ h1) (jM.mono ht h2)
theorem jM.mono{H H':Hp}(ht:∀b xs,H b=some (.tup xs)->H' b=some (.tup xs)):∀{ks:List DK} {vs:List V},jM H ks vs->jM H' ks vs
 |_,_,.nil=>.nil
 |_,_,.cons h1 h2=>.cons (jL.mono ht h1) (jM.mono ht h2)
end
structure kA(H:Hp)(k:DK)(a:Addr):Prop where
 at_:jL H k (.ref a)
 deep:k.deep<=4
theorem kA.mono{H H':Hp}{k:DK}{a:Addr}(x:kA H k a)(ht:∀b xs,H b=some (.tup xs)->H' b=some (.tup xs)):kA H' k a:=⟨x.at_.mono ht,x.deep⟩
section
variable(P:Program)(w:World)
def dk(H:Hp)(h:Heap)(a:Addr):HO->Prop
 | .lst xs=>xs.length<=sizeLine/\∃(its:List Value) (n:Nat),Vals xs its/\h.get? a=some {cls:=.type "list",data:=.seq its.toArray n}
 | .tup xs=>xs.length<=sizeLine/\∃its:List Value,Vals xs its/\IsTup h a its.toArray/\∀o,h.get? a=some o->o.dict=none
 | .dK kvs=>kvs.length<=sizeLine/\(a==sysModules)=false/\∃vs,KV kvs vs/\h.DictOf (fL P w) a vs
 | .dT kvs=>kvs.length<=sizeLine/\(a==sysModules)=false/\∃xs:List (DK×Addr×Value),
  Paired (λ(p:DK×V) (q:DK×Addr×Value)=>p.1=q.1/\kA H p.1 q.2.1/\RelV p.2 q.2.2) kvs xs /\
  ∃o es ep,h.get? a=some o/\o.ExactDict/\o.data=.dict es ep/\es.toList=xs.map (entryOfKey (oZ P w))/\(xs.map (·.1)).Nodup
 | .set S n=>h.SetOf (intKind P w) a S n
 | .ins C dx fs=>H dx=some (.own a)/\fs.length<=1000/\dx≠a/\h.get? a=some (mT C dx) /\
  ∃mA,h.Ns1 dx mA/\(∀f,fM (fs.lookup f) (mA f))/\Cz mA (fs.map (·.1))
 | .own _=>∃o,h.get? a=some o
 | .xd fs=>∃mA,h.Ns1 a mA/\∀f,fM (fs.lookup f) (mA f)
 | .uA lo hi=>∃t u v,h.get? a=some {cls:=.type "range",data:=.fields #[.int lo t,.int hi u,.int 1 v]}
 | .eE o u=>h.get? a=some o/\dk H h a u
 | .l_ ps=>h.get? a=some {cls:=.none,data:=.fields ps}
 | .met f x=>h.get? a=some (CB (.ref f) (.ref x))
 | .ext φ=>φ h/\(∃o,h.get? a=some o)/\∀h1 h2:Heap,φ h1->(∀o,h1.get? a=some o->h2.get? a=some o)->φ h2
def cb(H:Hp)(h:Heap):Prop:=∀a o,H a=some o->dk P w H h a o
end
section
variable{P:Program}{w:World}{H H':Hp}{h h':Heap}{a:Addr}{o:HO}
theorem dk.lt(x:dk P w H h a o):a<h.objs.size:=show _ by
 cases o with
 |lst xs=>obtain⟨_,_,_,_,e⟩:=x;exact bG e
 |tup xs=>obtain⟨_,_,_,p,_⟩:=x;exact p.lt
 |dK kvs=>obtain⟨_,_,_,_,o,_,_,e,_⟩:=x;exact bG e
 |dT kvs=>obtain⟨_,_,_,_,o,_,_,e,_⟩:=x;exact bG e
 |set S n=>obtain⟨o,_,_,_,e,_⟩:=x;exact bG e
 |ins C dx fs=>obtain⟨_,_,_,e,_⟩:=x;exact bG e
 |own y=>obtain⟨_,e⟩:=x;exact bG e
 |xd fs=>obtain⟨_,⟨_,_,_,e,_⟩,_⟩:=x;exact bG e
 |uA lo hi=>obtain⟨_,_,_,e⟩:=x;exact bG e
 |eE ob u=>obtain⟨e,_⟩:=x;exact bG e
 |l_ ps=>exact bG (show h.get? a=some _ from x)
 |met f y=>exact bG (show h.get? a=some _ from x)
 |ext φ=>obtain⟨_,⟨_,e⟩,_⟩:=x;exact bG e
theorem Paired.jN{α β:Type}{F G:α->β->Prop}:∀{l₁:List α} {l₂:List β},Paired F l₁ l₂->(∀a b,F a b->G a b)->Paired G l₁ l₂
 |_,_,.nil,_=>.nil
 |_,_,.cons r t,f=>.cons (f _ _ r) (Paired.jN t f)
theorem dk.stay(x:dk P w H h a o)(k:∀b u,(b=a∨H b=some (.own a))->h.get? b=some u->h'.get? b=some u)
 (ho:∀b,H b=some (.own a)->H' b=some (.own a)) (ht:∀b xs,H b=some (.tup xs)->H' b=some (.tup xs)):dk P w H' h' a o:=show _ by
 induction o with
 |lst xs=>obtain⟨z,its,n,r,e⟩:=x;exact⟨z,its,n,r,k _ _ (.inl rfl) e⟩
 |tup xs=>obtain⟨z,its,r,⟨ob,e,c⟩,nd⟩:=x;exact⟨z,its,r,⟨ob,k _ _ (.inl rfl) e,c⟩,λo q=>by rw[k _ _ (.inl rfl) e]at q;cases q;exact nd _ e⟩
 |dK kvs=>obtain⟨z,y,vs,r,ob,es,ep,e,c⟩:=x;exact⟨z,y,vs,r,ob,es,ep,k _ _ (.inl rfl) e,c⟩
 |dT kvs =>
  obtain⟨z,y,xs,r,ob,es,ep,e,c⟩:=x;exact⟨z,y,xs,Paired.jN r λp q z=>⟨z.1,z.2.1.mono ht,z.2.2⟩,ob,es,ep,k _ _ (.inl rfl) e,c⟩
 |set S n=>obtain⟨ob,es,ep,t,e,c⟩:=x;exact⟨ob,es,ep,t,k _ _ (.inl rfl) e,c⟩
 |ins C dx fs =>
  obtain⟨d,z,ne,e,mA,⟨od,es,ep,e2,c⟩,r⟩:=x;exact⟨ho _ d,z,ne,k _ _ (.inl rfl) e,mA,⟨od,es,ep,k _ _ (.inr d) e2,c⟩,r⟩
 |own y=>obtain⟨ob,e⟩:=x;exact⟨ob,k _ _ (.inl rfl) e⟩
 |xd fs=>obtain⟨mA,⟨od,es,ep,e,c⟩,r⟩:=x;exact⟨mA,⟨od,es,ep,k _ _ (.inl rfl) e,c⟩,r⟩
 |uA lo hi=>obtain⟨t,u,v,e⟩:=x;exact⟨t,u,v,k _ _ (.inl rfl) e⟩
 |eE ob u ih=>obtain⟨e,q⟩:=x;exact⟨k _ _ (.inl rfl) e,ih q⟩
 |l_ ps =>
  have e:h.get? a=some {cls:=.none,data:=.fields ps}:=x;show h'.get? a=some {cls:=.none,data:=.fields ps};exact k a _ (.inl rfl) e
 |met f y =>
  have e:h.get? a=some (CB (.ref f) (.ref y)):=x;show h'.get? a=some (CB (.ref f) (.ref y));exact k a _ (.inl rfl) e
 |ext φ=>obtain⟨p,⟨o,e⟩,st⟩:=x;exact⟨st _ _ p λo q=>k _ _ (.inl rfl) q,⟨o,k _ _ (.inl rfl) e⟩,st⟩
theorem cb.lt(x:cb P w H h)(e:H a=some o):a<h.objs.size:=(x a o e).lt
theorem cb.fresh(x:cb P w H h)(e:h.objs.size<=a):H a=none:=by
 cases q:H a with
 |none=>rfl
 |some u=>exact absurd (dO (x.lt q) e) (kf _)
theorem cb.kept(x:cb P w H h)(k:∀b u,h.get? b=some u->h'.get? b=some u):cb P w H h':=λa o e =>
 (x a o e).stay (λb u _ q=>k b u q) (λ_ q=>q) λ_ _ q=>q
theorem cb.laid(x:cb P w H h)(k:∀b u,h.get? b=some u->h'.get? b=some u)(hp:h.objs.size<=a)(new:dk P w (upd H a o) h' a o):cb P w (upd H a o) h':=λb u e=>by
 have hn:=x.fresh hp;by_cases hb:b=a
 ·subst hb;rw[d8]at e;cases e;exact new
 ·rw[bg hb]at e;exact(x b u e).stay (λc v _ q=>k c v q) (λc q=>by rw[bg (iz q hn)];exact q) λc xs q=>by rw[bg (iz q hn)];exact q
end
def Rd(H:Hp)(a:Addr)(u:HO):Prop:=H a=some u∨∃o,H a=some (.eE o u)
theorem Rd.ok{P:Program}{w:World}{H:Hp}{h:Heap}{a:Addr}{u:HO}(r:Rd H a u)(x:cb P w H h):dk P w H h a u:=by
 rcases r with r|⟨o,r⟩
 ·exact x a u r
 ·obtain⟨_,q⟩:=x a _ r;exact q
def rC:Option HO->Prop
 |some (.lst _)=>True
 |some (.dK _)=>True
 |some (.dT _)=>True
 |some (.set _ _)=>True
 |some (.ins _ _ _)=>True
 |some (.ext _)=>True
 |_=>False
section
variable{P:Program}{w:World}{H:Hp}{h h':Heap}{x e:Addr}{o':HO}
theorem cb.write(ok:cb P w H h)(mu:rC (H x))(he:e=x∨H e=some (.own x))(k:∀b u,b≠e->h.get? b=some u->h'.get? b=some u)(heo:∃u,h'.get? e=some u)
 (new:dk P w (upd H x o') h' x o'):cb P w (upd H x o') h':=λb u q=>by
 have D9:∀c y,H c=some (.own y)->c≠x:=λc y r z=>by subst z;rw[r]at mu;exact mu
 have Oj:∀c xs,H c=some (.tup xs)->c≠x:=λc xs r z=>by subst z;rw[r]at mu;exact mu
 by_cases hb:b=x
 ·subst hb;rw[d8]at q;cases q;exact new
 ·rw[bg hb]at q;by_cases hbe:b=e
  ·have q':H b=some (.own x):=show _ by
    rcases he with z|z
    ·exact absurd (hbe.trans z) hb
    ·rw[hbe];exact z
   rw[q]at q';cases q';obtain⟨v,hv⟩:=heo;exact⟨v,by rw[hbe];exact hv⟩
  ·refine(ok b u q).stay (λc v hc r=>k c v ?_ r) (λc r=>by rw[bg (D9 c b r)];exact r) λc xs r=>by rw[bg (Oj c xs r)];exact r
   rcases hc with rfl|hc
   ·exact hbe
   ·rintro rfl;rcases he with z|z
    ·exact D9 c b hc z
    ·rw[hc]at z;cases z;exact hb rfl
end
structure Un(fs ex:List Addr)(H H':Hp)(h h':Heap):Prop where
 keep:∀b o,h.get? b=some o->H b=none->b∉fs->b∉ex->h'.get? b=some o
 slot:∀b o,h.get? b=some o->H b=none->b∈fs->b∉ex->∃sl,h'.get? b=some {o with slots:=sl}
 free:∀b o,h.get? b=some o->H b=none->b∉ex->H' b=none
 there:∀b o,h.get? b=some o->b∉ex->∃o',h'.get? b=some o'
 tups:∀b xs,H b=some (.tup xs)->H' b=some (.tup xs)
 gy:∀b o u,H b=some (.eE o u)->H' b=some (.eE o u)
 iA:∀b ps,H b=some (.l_ ps)->∃more,H' b=some (.l_ (ps++more))
section
variable{fs fs' ex ex':List Addr}{H H1 H2:Hp}{h h1 h2 h':Heap}{a x e:Addr}{o:HO}
theorem Un.any(u:Un fs ex H H1 h h1){b:Addr}{ob:Obj}(q:h.get? b=some ob)(n:H b=none)(hx:b∉ex):∃sl,h1.get? b=some {ob with slots:=sl}:=by
 by_cases hb:b∈fs
 ·exact u.slot b ob q n hb hx
 ·exact⟨ob.slots,u.keep b ob q n hb hx⟩
theorem Un.kept(k:∀b u,h.get? b=some u->h'.get? b=some u):Un fs ex H H h h' :=
 ⟨λb ob q _ _ _=>k b ob q,λb ob q _ _ _=>⟨ob.slots,k b ob q⟩,λ_ _ _ n _=>n,λb ob q _=>⟨ob,k b ob q⟩,λ_ _ q=>q,λ_ _ _ q=>q,λ_ ps q=>⟨#[],by rw[q];simp⟩⟩
theorem Un.refl:Un fs ex H H h h:=Un.kept λ_ _ q=>q
theorem Un.laid(k:∀b u,h.get? b=some u->h'.get? b=some u)(hp:h.objs.size<=a)(hn:H a=none):Un fs ex H (upd H a o) h h' where
 keep:=λb u q _ _ _=>k b u q
 slot:=λb u q _ _ _=>⟨u.slots,k b u q⟩
 free:=λb u q n _=>by rw[bg (cW (dO (bG q) hp))];exact n
 there:=λb u q _=>⟨u,k b u q⟩
 tups:=λb xs q=>by rw[bg (iz q hn)];exact q
 gy:=λb u xs q=>by rw[bg (iz q hn)];exact q
 iA:=λb ps q=>⟨#[],by rw[bg (iz q hn),q];simp⟩
theorem Un.write(mu:rC (H x))(he:e=x∨H e=some (.own x))(k:∀b u,b≠e->h.get? b=some u->h'.get? b=some u)(heo:∃u,h'.get? e=some u):Un fs ex H (upd H x o) h h':=show _ by
 have hx:∀b,H b=none->b≠x:=λb n z=>by subst z;rw[n]at mu;exact mu
 have hb:∀b,H b=none->b≠e:=λb n z=>by
  subst z;rcases he with r|r
  ·exact hx b n r
  ·rw[n]at r;cases r
 have hm:∀b u,H b=some u->¬rC (some u)->b≠x:=λb u q nm z=>by subst z;rw[q]at mu;exact nm mu
 refine⟨λb u q n _ _=>k b u (hb b n) q,λb u q n _ _=>⟨u.slots,k b u (hb b n) q⟩,λb u q n _=>by rw[bg (hx b n)];exact n,λb u q _=>?_,
  λb xs q=>by rw[bg (hm b _ q λz=>z)];exact q,λb u xs q=>by rw[bg (hm b _ q λz=>z)];exact q,λb ps q=>⟨#[],by rw[bg (hm b _ q λz=>z),q];simp⟩⟩
 by_cases hbe:b=e
 ·subst hbe;exact heo
 ·exact⟨u,k b u hbe q⟩
end
def uB(h:Heap)(H:Hp):List Addr:=(aZ h.objs.size).filter λa=>(H a).isSome
def kB(h:Heap)(H:Hp):Heap:=kg h (uB h H)
theorem Ol(h:Heap)(H:Hp):(kB h H).objs.size=h.objs.size:=PySem.W.hideAll_size _ _
theorem Om{h:Heap}{H:Hp}{b:Addr}{o:Obj}(e:h.get? b=some o)(n:H b=none):(kB h H).get? b=some o :=
 xo _ e λhm=>by
  have q:(H b).isSome=true:=(CC.mp hm).2;rw[n]at q;simp at q
theorem Oo{h:Heap}{H:Hp}{b:Addr}{o:Obj}(e:(kB h H).get? b=some o):h.get? b=some o/\H b=none:=show _ by
 have e':h.get? b=some o:=qU (uB h H) e;refine⟨e',?_⟩;cases q:H b with
 |none=>rfl
 |some x =>
  have hm:b∈uB h H:=CC.mpr ⟨ik.mpr (bG e'),by simp[q]⟩;have z:(kB h H).get? b=none:=t6 (uB h H) hm;rw[z]at e;cases e
def Oq(g h:Heap)(L:Addr):List (Addr×Obj):=(aZ h.objs.size).filterMap λa=>if a=L∨(g.get? a).isSome=true then none else(h.get? a).map λo=>(a,o)
def rest(g h:Heap)(L d:Addr):List (Addr×Obj):=(Oq g h L).filter λp=>decide (p.1≠d)
end L2
namespace L2
open PySem PySem.Spec PyProof.Rows
structure Mod(K:aq)(mg:Str->Option Value)(base:Heap):Prop where
 m_:K.In base
 glob:base.Ns mainGlobals mg
 blt:∃mb,base.Ns builtinsNs mb/\∀x:Str,x≠"__name__"->mb x=bootBuiltins x
 nolimit:base.NoLimit
structure Cx where
 prog:Program
 w:World
 K:aq
 mg:Str->Option Value
 base:Heap
 A:Around
 N:List Str
 s₀:Shared
 H₀:Hp
 env:Env
 outer:List Env
 stack:List Env
 ex:List Addr
 fn:Str->Bool
 calm:Bool
 pn:List (Addr×Obj)
 xe:Value->Shared->Prop
def frs(l:List Env):List Addr:=l.filterMap (·.frame)
abbrev Cx.fs(X:Cx):List Addr:=frs X.outer
def uC(sc:Scope)(x:Str):Prop:=sc.names.lookup x=some .local∨sc.names.lookup x=some .cell∨sc.names.lookup x=some .free
def Loc(sc:Scope)(x:Str):Prop:=sc.names.lookup x=some .local∨sc.names.lookup x=some .cell
def Look(env:Env)(h:Heap)(m:Str->Option Value)(x:Str)(u:Value):Prop :=
 (env.kindOf x=some .local/\m x=some u)∨((env.kindOf x=some .cell∨env.kindOf x=some .free)/\∃c,env.cells.lookup x=some c/\h.IsCell c (some u))
structure Cx.Ok(X:Cx):Prop where
 mod:Mod X.K X.mg X.base
 kind:X.env.scope.kind=.function
 glob:X.env.globals=mainGlobals
 blt:X.env.builtins=builtinsNs
 above:X.s₀.heap.objs.size<=X.env.locals
 inj:∀x y c,X.env.cells.lookup x=some c->X.env.cells.lookup y=some c->x=y
 has:∀x,(X.env.kindOf x=some .cell∨X.env.kindOf x=some .free)->∃c,X.env.cells.lookup x=some c
 cab:∀x c,X.fn x=true->X.env.cells.lookup x=some c->X.s₀.heap.objs.size<=c
 hd:X.calm=true->X.A.handled=none
 frames:X.A.frames=some X.stack
 ng:X.stack=X.outer∨(X.stack=X.env::X.outer/\X.env.frame=some X.env.locals)
 rD:∀b∈X.ex,b≠X.env.locals/\∀x c,X.env.cells.lookup x=some c->c≠b
 bs:∀b o,X.base.get? b=some o->X.s₀.heap.get? b=some o/\X.H₀ b=none
 gT:X.base.objs.size<=X.s₀.heap.objs.size
 ma:∀b o,X.base.get? b=some o->b∉X.ex
 md:∀b∈X.ex,b∉X.fs
 fu:X.s₀.heap.FunFrames X.base X.outer
 i7:∀b∈X.fs,X.H₀ b=none
structure Inv(X:Cx)(pins:List (Addr×Obj))(σ:List (Option V))(H:Hp)(s:Shared):Prop where
 ok:X.Ok
 os:s.os=X.s₀.os
 bare:AllBare s.gens
 base:Un X.fs X.ex X.H₀ H X.s₀.heap s.heap
 loc:∃m,s.heap.Ns X.env.locals m/\∀(i:Nat) (x:Str) (v:V),X.N[i]?=some x->σ[i]?=some (some v)->uC X.env.scope x->∃u,RelV v u/\Look X.env s.heap m x u
 cell:∀x c,X.env.cells.lookup x=some c->∃v,s.heap.IsCell c v
 free:H X.env.locals=none
 fN:∀x c,X.env.cells.lookup x=some c->H c=none
 pin:∀p∈X.pn++pins,s.heap.get? p.1=some p.2/\H p.1=none/\p.1≠X.env.locals/\p.1∉X.fs/\∀v,p.2.data≠.cell v
 hok:cb X.prog X.w H s.heap
 len:σ.length=X.N.length
section
variable{X:Cx}{pins:List (Addr×Obj)}{σ:List (Option V)}{H H':Hp}{s:Shared}{h':Heap}
theorem Cx.Ok.Ot(ok:X.Ok){b:Addr}{o:Obj}(e:X.base.get? b=some o):b∉X.fs:=λhb=>by
 have:=(ok.fu.mem hb).1;rw[e]at this;cases this
theorem Inv.bs(I:Inv X pins σ H s):∀b o,X.base.get? b=some o->s.heap.get? b=some o/\H b=none:=λb o e =>
 ⟨I.base.keep b o (I.ok.bs b o e).1 (I.ok.bs b o e).2 (I.ok.Ot e) (I.ok.ma b o e),I.base.free b o (I.ok.bs b o e).1 (I.ok.bs b o e).2 (I.ok.ma b o e)⟩
theorem Inv.bk(I:Inv X pins σ H s):∀b o,X.base.get? b=some o->s.heap.get? b=some o:=λb o e=>(I.bs b o e).1
theorem Inv.mod(I:Inv X pins σ H s):Mod X.K X.mg X.base:=I.ok.mod
theorem Inv.fZ(I:Inv X pins σ H s):X.K.In s.heap:=I.ok.mod.m_.keeps I.bk
theorem Inv.lt(I:Inv X pins σ H s):X.env.locals<s.heap.objs.size:=let⟨_,hn,_⟩:=I.loc;hn.lt
theorem Inv.sz(I:Inv X pins σ H s):X.s₀.heap.objs.size<=s.heap.objs.size:=cC I.ok.above (mU I.lt)
theorem Inv.Ou(I:Inv X pins σ H s){a:Addr}(h:s.heap.objs.size<=a):a∉X.fs:=λhb=>by
 obtain⟨_,o,ho,_⟩:=I.ok.fu.mem hb;exact absurd (dO (bG ho) (cC I.sz h)) (kf _)
theorem Inv.nh(I:Inv X pins σ H s):∀x c,X.env.cells.lookup x=some c->c≠X.env.locals:=λx c e z=>by
 obtain⟨v,o,ho,hd⟩:=I.cell x c e;obtain⟨m,⟨o',es,ep,ho',hd',_⟩,_⟩:=I.loc;rw[z,ho']at ho;cases ho;rw[hd']at hd;cases hd
theorem Inv.fu(I:Inv X pins σ H s):s.heap.FunFrames X.base X.outer:=show _ by
 have all:∀(l:List Env),(∀b∈frs l,b∈X.fs)->X.s₀.heap.FunFrames X.base l->s.heap.FunFrames X.base l:=by
  intro l
  induction l with
  |nil=>intro _ _;trivial
  |cons env r ih =>
   intro hs hl;obtain⟨hk,⟨L,o,hf,hn,ho,hd⟩,hr⟩:=hl;have hL:L∈X.fs:=hs L (by unfold frs;rw[CF,hf];exact cL);obtain⟨sl,e⟩:=I.base.slot L o ho (I.ok.i7 L hL) hL λz=>I.ok.md L z hL;exact⟨hk,⟨L,_,hf,hn,e,hd⟩,ih (λb hb=>hs b (by unfold frs;rw[CF,hf];exact cO _ hb)) hr⟩
 exact all X.outer (λ_ hb=>hb) I.ok.fu
theorem Inv.stack(I:Inv X pins σ H s):s.heap.FunFrames X.base X.stack:=by
 rcases I.ok.ng with e|⟨e,hf⟩
 ·rw[e];exact I.fu
 ·rw[e];obtain⟨m,hn,_⟩:=I.loc;refine .cons (by rw[I.ok.kind];decide) hf hn ?_ I.fu;exact Heap.get?_none_of_le (cC I.ok.gT I.ok.above)
theorem Inv.uD(I:Inv X pins σ H s):∀b∈frs X.stack,b∈X.env.locals::X.fs:=λb hb=>by
 rcases I.ok.ng with e|⟨e,hf⟩
 ·rw[e]at hb;exact cO _ hb
 ·rw[e]at hb;unfold frs at hb;rw[CF,hf]at hb;exact hb
theorem Inv.uE(I:Inv X pins σ H s):∀b∈frs X.stack,H b=none:=λb hb=>by
 rcases bJ.mp (I.uD b hb) with e|hb
 ·rw[e];exact I.free
 ·obtain⟨_,o,ho,_⟩:=I.ok.fu.mem hb;exact I.base.free b o ho (I.ok.i7 b hb) λz=>I.ok.md b z hb
theorem Inv.step{g':Array GenState}{t':Nat}{d':Drawn}{ch:List Addr}(I:Inv X pins σ H s)
 (hch:∀b∈ch,(b∈X.ex∨X.s₀.heap.objs.size<=b)/\b≠X.env.locals/\(∀x c,X.env.cells.lookup x=some c->c≠b)/\∀p∈X.pn++pins,p.1≠b)
 (keep:∀b o,b≠X.env.locals->b∉X.fs->b∉ch->s.heap.get? b=some o->H b=none->h'.get? b=some o)
 (slot:∀b o,b≠X.env.locals->b∈X.fs->b∉ch->s.heap.get? b=some o->H b=none->∃sl,h'.get? b=some {o with slots:=sl}) (free:∀b o,b∉ch->s.heap.get? b=some o->H b=none->H' b=none)
 (there:∀b o,b∉ch->s.heap.get? b=some o->∃o',h'.get? b=some o')
 (tups:∀b xs,H b=some (.tup xs)->H' b=some (.tup xs)) (gy:∀b o u,H b=some (.eE o u)->H' b=some (.eE o u)) (iA:∀b ps,H b=some (.l_ ps)->∃more,H' b=some (.l_ (ps++more)))
 (ns:∀m,s.heap.Ns X.env.locals m->h'.Ns X.env.locals m) (hok:cb X.prog X.w H' h') (hg:AllBare g') :
 Inv X pins σ H' {s with heap:=h',gens:=g',drawn:=d',toks:=t'}:=show _ by
 have D_:∀b o,X.s₀.heap.get? b=some o->b≠X.env.locals:=λb o e=>cW (dO (bG e) I.ok.above);have uF:∀b o,X.s₀.heap.get? b=some o->b∉X.ex->b∉ch:=λb o e hx hb=>by
  rcases(hch b hb).1 with z|z
  ·exact hx z
  ·exact absurd (dO (bG e) z) (kf _)
 have cellK:∀x c,X.env.cells.lookup x=some c->∀v,s.heap.IsCell c v->h'.IsCell c v:=λx c e v cR=>by
  obtain⟨o,ho,hd⟩:=cR;have rE:c∉ch:=λz=>(hch c z).2.2.1 x c e rfl;by_cases hc:c∈X.fs
  ·obtain⟨sl,q⟩:=slot c o (I.nh x c e) hc rE ho (I.fN x c e);exact⟨_,q,hd⟩
  ·exact⟨o,keep c o (I.nh x c e) hc rE ho (I.fN x c e),hd⟩
 refine⟨I.ok,I.os,hg,⟨λb o e n hb hx=>?_,λb o e n hb hx=>?_,λb o e n hx=>?_,λb o e hx=>?_,λb xs e=>tups b xs (I.base.tups b xs e),λb o xs e=>gy b o xs (I.base.gy b o xs e),λb ps e=>?_⟩,?_,λx c e=>?_,?_,λx c e=>?_,λp hp=>?_,hok,I.len⟩
 ·exact keep b o (D_ b o e) hb (uF b o e hx) (I.base.keep b o e n hb hx) (I.base.free b o e n hx)
 ·obtain⟨sl,e1⟩:=I.base.slot b o e n hb hx;obtain⟨sl',e2⟩:=slot b _ (D_ b o e) hb (uF b o e hx) e1 (I.base.free b o e n hx);exact⟨sl',e2⟩
 ·obtain⟨o',e1⟩:=I.base.there b o e hx;exact free b o' (uF b o e hx) e1 (I.base.free b o e n hx)
 ·obtain⟨o',e1⟩:=I.base.there b o e hx;exact there b o' (uF b o e hx) e1
 ·obtain⟨m1,e1⟩:=I.base.iA b ps e;obtain⟨m2,e2⟩:=iA b _ e1;exact⟨m1++m2,by rw[e2,Array.append_assoc]⟩
 ·obtain⟨m,hn,hl⟩:=I.loc;refine⟨m,ns m hn,λi x v e1 e2 e3=>?_⟩;obtain⟨u,r,l⟩:=hl i x v e1 e2 e3;refine⟨u,r,?_⟩;rcases l with l|⟨k,c,e,z⟩
  ·exact .inl l
  ·exact .inr ⟨k,c,e,cellK x c e _ z⟩
 ·obtain⟨v,z⟩:=I.cell x c e;exact⟨v,cellK x c e v z⟩
 ·obtain⟨m,⟨o,_,_,ho,_⟩,_⟩:=I.loc;exact free _ o (λz=>(hch _ z).2.1 rfl) ho I.free
 ·obtain⟨v,o,ho,hd⟩:=I.cell x c e;exact free c o (λz=>(hch c z).2.2.1 x c e rfl) ho (I.fN x c e)
 ·obtain⟨e,n,ne,nf,d⟩:=I.pin p hp;have rE:p.1∉ch:=λz=>(hch p.1 z).2.2.2 p hp rfl;exact⟨keep p.1 p.2 ne nf rE e n,free p.1 p.2 rE e n,ne,nf,d⟩
theorem Inv.un{t':Nat}(I:Inv X pins σ H s)(u:Un X.fs [] H H' s.heap h')(hok:cb X.prog X.w H' h'):Inv X pins σ H' {s with heap:=h',toks:=t'}:=show _ by
 obtain⟨m,⟨o,es,ep,ho,r⟩,_⟩:=id I.loc;obtain⟨sl,hL⟩:=u.any ho I.free (by simp);exact I.step (g':=s.gens) (d':=s.drawn) (ch:=[]) (λ_ z=>nomatch z) (λb o _ hb _ e n=>u.keep b o e n hb (by simp)) (λb o _ hb _ e n=>u.slot b o e n hb (by simp)) (λb o _ e n=>u.free b o e n (by simp)) (λb o _ e=>u.there b o e (by simp)) u.tups u.gy u.iA (λm' hm=>by
  obtain⟨o',es',ep',ho',r'⟩:=hm;rw[ho]at ho';cases ho';exact⟨_,es',ep',hL,r'⟩) hok I.bare
theorem Inv.call{g':Array GenState}{t':Nat}{d':Drawn}{ch:List Addr}(I:Inv X pins σ H s)(u:Un (frs X.stack) ch H H' s.heap h')(hok:cb X.prog X.w H' h')(hg:AllBare g')
 (hch:∀b∈ch,(b∈X.ex∨X.s₀.heap.objs.size<=b)/\b≠X.env.locals/\(∀x c,X.env.cells.lookup x=some c->c≠b)/\∀p∈X.pn++pins,p.1≠b) :
 Inv X pins σ H' {s with heap:=h',gens:=g',drawn:=d',toks:=t'}:=show _ by
 obtain⟨m,⟨o,es,ep,ho,r⟩,_⟩:=id I.loc;obtain⟨sl,hL⟩:=u.any ho I.free λz=>(hch _ z).2.1 rfl;exact I.step (ch:=ch) hch (λb o hL hb hc e n=>u.keep b o e n (λz=>(bJ.mp (I.uD b z)).elim hL hb) hc) (λb o _ _ hc e n=>u.any e n hc) (λb o hc e n=>u.free b o e n hc) (λb o hc e=>u.there b o e hc) u.tups u.gy u.iA (λm' hm=>by
  obtain⟨o',es',ep',ho',r'⟩:=hm;rw[ho]at ho';cases ho';exact⟨_,es',ep',hL,r'⟩) hok hg
theorem Inv.turned{t':Nat}{it:Addr}(I:Inv X pins σ H s)(k:∀b o,b≠it->s.heap.get? b=some o->h'.get? b=some o)(hn:H it=none)(hL:it≠X.env.locals)
 (h1:it∈X.ex∨X.s₀.heap.objs.size<=it) (h2:∀x c,X.env.cells.lookup x=some c->c≠it) (h3:∀p∈X.pn++pins,p.1≠it):Inv X pins σ H {s with heap:=h',toks:=t'}:=show _ by
 have mf:∀b u,H b=some u->b≠it:=λb u e z=>by rw[z,hn]at e;cases e
 refine I.step (g':=s.gens) (d':=s.drawn) (ch:=[it]) (λb hb=>?_) (λb o _ _ hc e _=>k b o (λz=>hc (by simp[z])) e) (λb o _ _ hc e _=>⟨o.slots,k b o (λz=>hc (by simp[z])) e⟩) (λ_ _ _ _ n=>n)
  (λb o hc e=>⟨o,k b o (λz=>hc (by simp[z])) e⟩) (λ_ _ e=>e) (λ_ _ _ e=>e) (λb ps e=>⟨#[],by rw[e];simp⟩) (λm hm=>?_) (λb u e=>?_) I.bare
 ·have e:b=it:=by simpa using hb
  subst e;exact⟨h1,hL,h2,h3⟩
 ·obtain⟨o,es,ep,ho,r⟩:=hm;exact⟨o,es,ep,k _ o (bt hL) ho,r⟩
 ·refine(I.hok b u e).stay (λc v hc q=>k c v ?_ q) (λ_ q=>q) λ_ _ q=>q;rcases hc with z|z
  ·rw[z];exact mf b u e
  ·exact mf c _ z
theorem Inv.tok(I:Inv X pins σ H s)(t:Nat):Inv X pins σ H {s with toks:=t}:=I.un (h':=s.heap) (t':=t) Un.refl I.hok
theorem Inv.kept{t':Nat}(I:Inv X pins σ H s)(k:∀b u,s.heap.get? b=some u->h'.get? b=some u):Inv X pins σ H {s with heap:=h',toks:=t'}:=I.un (Un.kept k) (I.hok.kept k)
theorem Inv.laid{a:Addr}{o:HO}{t':Nat}(I:Inv X pins σ H s)(k:∀b u,s.heap.get? b=some u->h'.get? b=some u)(hp:s.heap.objs.size<=a)(new:dk X.prog X.w (upd H a o) h' a o) :
 Inv X pins σ (upd H a o) {s with heap:=h',toks:=t'}:=I.un (Un.laid k hp (I.hok.fresh hp)) (I.hok.laid k hp new)
theorem Inv.write{x e:Addr}{o:HO}{t':Nat}(I:Inv X pins σ H s)(mu:rC (H x))(he:e=x∨H e=some (.own x))(k:∀b u,b≠e->s.heap.get? b=some u->h'.get? b=some u)(heo:∃u,h'.get? e=some u)
 (new:dk X.prog X.w (upd H x o) h' x o):Inv X pins σ (upd H x o) {s with heap:=h',toks:=t'}:=I.un (Un.write mu he k heo) (I.hok.write mu he k heo new)
theorem Inv.D'{iB:List (Addr×Obj)}(I:Inv X pins σ H s)(h:∀p∈iB,s.heap.get? p.1=some p.2/\H p.1=none/\p.1≠X.env.locals/\p.1∉X.fs/\∀v,p.2.data≠.cell v):Inv X iB σ H s :=
 ⟨I.ok,I.os,I.bare,I.base,I.loc,I.cell,I.free,I.fN,λp hp=>(dh.mp hp).elim (λz=>I.pin p (xp _ z)) (h p),I.hok,I.len⟩
theorem Ea{N:List Str}(hN:N.Nodup){i j:Nat}{x:Str}(a:N[i]?=some x)(b:N[j]?=some x):i=j:=by
 obtain⟨h1,e1⟩:=b4.mp a;obtain⟨h2,e2⟩:=b4.mp b;exact(List.getElem_inj hN).mp (e1.trans e2.symm)
theorem Eb{M:Model}{A:Around}{E:Value->Shared->Prop}{i:Nat}{x:Str}{v:V}{u:Value}{Q:Unit->Shared->Prop}(I:Inv X pins σ H s)(hN:X.N.Nodup)(hi:X.N[i]?=some x)(hx:Loc X.env.scope x)(r:RelV v u)
 (h:∀s',Inv X pins (σ.set i (some v)) H s'->(∃a,fJ a s.heap s'.heap/\(a=X.env.locals∨X.env.cells.lookup x=some a))->Q () s') (hf:X.fn x=true∨X.env.scope.names.lookup x=some .local:=by first|exact .inl rfl|exact .inr rfl|assumption):wpAny M A (storeName X.env x u) Q E s:=show _ by
 obtain⟨m,hn,hl⟩:=id I.loc;have hcls:(X.env.scope.kind == .class||(X.env.scope.kind == .module&&X.env.locals != X.env.globals))=false:=by rw[I.ok.kind];rfl
 have Ec:i<σ.length:=by rw[I.len];exact(b4.mp hi).1
 have nh:=I.nh;have tracked:∀{a:Addr} {h':Heap},(∃o,s.heap.get? a=some o/\H a=none)->fJ a s.heap h'->cb X.prog X.w H h':=λ{a h'} ha hs b ob e=>by
  obtain⟨_,_,hfree⟩:=ha;refine(I.hok b ob e).stay (λc w' hc q=>(hs.2 c ?_).trans q) (λ_ q=>q) λ_ _ q=>q;rintro rfl;rcases hc with rfl|hc
  ·rw[hfree]at e;cases e
  ·rw[hfree]at hc;cases hc
 rcases hx with hk|hk
 ·refine wpAny_storeName_local hk hn (λh' hn' hs=>?_) hcls;obtain⟨oL,_,_,hoL,_⟩:=id hn;refine h _ ⟨I.ok,I.os,I.bare,⟨λb o e n hb hx=>?_,λb o e n hb hx=>?_,I.base.free,λb o e hx=>?_,I.base.tups,I.base.gy,I.base.iA⟩,⟨_,hn',λj y v' e1 e2 e3=>?_⟩,λy c e=>?_,I.free,I.fN,λp hp=>?_,tracked ⟨oL,hoL,I.free⟩ hs,by simpa using I.len⟩ ⟨_,hs,.inl rfl⟩
  ·exact(hs.2 b (cW (dO (bG e) I.ok.above))).trans (I.base.keep b o e n hb hx)
  ·obtain⟨sl,e1⟩:=I.base.slot b o e n hb hx;exact⟨sl,(hs.2 b (cW (dO (bG e) I.ok.above))).trans e1⟩
  ·obtain⟨o',e1⟩:=I.base.there b o e hx;exact⟨o',(hs.2 b (cW (dO (bG e) I.ok.above))).trans e1⟩
  ·by_cases hj:j=i
   ·subst hj;rw[hi]at e1;cases e1;rw[MF Ec]at e2;cases e2;exact⟨u,r,.inl ⟨hk,by simp⟩⟩
   ·rw[MG (bt hj)]at e2;obtain⟨u',r',q⟩:=hl j y v' e1 e2 e3;refine⟨u',r',?_⟩;rcases q with⟨k,e⟩|⟨k,c,e,z⟩
    ·refine .inl ⟨k,?_⟩;have:y≠x:=λe=>hj (Ea hN e1 (e▸hi));simp[this,e]
    ·exact .inr ⟨k,c,e,z.sameBut hs (nh y c e)⟩
  ·obtain⟨w',z⟩:=I.cell y c e;exact⟨w',z.sameBut hs (nh y c e)⟩
  ·obtain⟨e,n,ne,nf,d⟩:=I.pin p hp;exact⟨(hs.2 p.1 ne).trans e,n,ne,nf,d⟩
 ·have hfn:X.fn x=true:=by
   rcases hf with z|z
   ·exact z
   ·rw[z]at hk;cases hk
  obtain⟨c,hc⟩:=I.ok.has x (.inl hk);obtain⟨w',z⟩:=I.cell x c hc;refine wpAny_storeName_cell I.ok.kind hk hc z (λh' hc' hs=>?_);obtain⟨oc,hoc,Ov⟩:=id z;refine h {s with heap:=h'} ⟨I.ok,I.os,I.bare,⟨λb o e n hb hx=>?_,λb o e n hb hx=>?_,I.base.free,λb o e hx=>?_,I.base.tups,I.base.gy,I.base.iA⟩,⟨m,hn.sameBut hs (bt (nh x c hc)),λj y v' e1 e2 e3=>?_⟩,λy c' e=>?_,I.free,I.fN,λp hp=>?_,tracked ⟨oc,hoc,I.fN x c hc⟩ hs,by simpa using I.len⟩ ⟨c,hs,.inr hc⟩
  ·exact(hs.2 b (cW (dO (bG e) (I.ok.cab x c hfn hc)))).trans (I.base.keep b o e n hb hx)
  ·obtain⟨sl,e1⟩:=I.base.slot b o e n hb hx;exact⟨sl,(hs.2 b (cW (dO (bG e) (I.ok.cab x c hfn hc)))).trans e1⟩
  ·obtain⟨o',e1⟩:=I.base.there b o e hx;exact⟨o',(hs.2 b (cW (dO (bG e) (I.ok.cab x c hfn hc)))).trans e1⟩
  ·by_cases hj:j=i
   ·subst hj;rw[hi]at e1;cases e1;rw[MF Ec]at e2;cases e2;exact⟨u,r,.inr ⟨.inl hk,c,hc,hc'⟩⟩
   ·rw[MG (bt hj)]at e2;obtain⟨u',r',q⟩:=hl j y v' e1 e2 e3;refine⟨u',r',?_⟩;rcases q with q|⟨k,c',e,z'⟩
    ·exact .inl q
    ·refine .inr ⟨k,c',e,z'.sameBut hs ?_⟩;rintro rfl;exact hj (Ea hN e1 (I.ok.inj _ _ _ e hc▸hi))
  ·by_cases hcc:c'=c
   ·subst hcc;exact⟨_,hc'⟩
   ·obtain⟨w2,z2⟩:=I.cell y c' e;exact⟨w2,z2.sameBut hs hcc⟩
  ·obtain⟨e,n,ne,nf,d⟩:=I.pin p hp;refine⟨(hs.2 p.1 ?_).trans e,n,ne,nf,d⟩;intro q;rw[q,hoc]at e;have q':oc=p.2:=dg e;exact d w' (by rw[<-q'];exact Ov)
theorem yi{M:Model}{A:Around}{E:Value->Shared->Prop}{i:Nat}{x:Str}{v:V}{u:Value}{Q:Unit->Shared->Prop}(I:Inv X pins σ H s)(hN:X.N.Nodup)(hi:X.N[i]?=some x)(hx:Loc X.env.scope x)(r:RelV v u)
 (h:∀s',Inv X pins (σ.set i (some v)) H s'->Q () s') (hf:X.fn x=true∨X.env.scope.names.lookup x=some .local:=by first|exact .inl rfl|exact .inr rfl|assumption):wpAny M A (storeName X.env x u) Q E s :=
 Eb I hN hi hx r (λs' I' _=>h s' I') hf
theorem Inv.rF{s':Shared}{ch:List Addr}(I:Inv X pins σ H s)(ho:s'.os=s.os)(u:Un (frs X.stack) ch H H' s.heap s'.heap)(hok:cb X.prog X.w H' s'.heap)(hg:AllBare s'.gens)
 (hch:∀b∈ch,(b∈X.ex∨X.s₀.heap.objs.size<=b)/\b≠X.env.locals/\(∀x c,X.env.cells.lookup x=some c->c≠b)/\∀p∈X.pn++pins,p.1≠b):Inv X pins σ H' s':=show _ by
 obtain⟨h',g',d',t',o'⟩:=s';have e:o'=s.os:=ho;subst e;exact I.call (g':=g') (t':=t') (d':=d') u hok hg hch
end
abbrev XK:=Value->Option Addr->Hp->Prop
abbrev St:=List (Option V)
abbrev VK:=V->Hp->Prop
abbrev TE:=St->Hp->VK->Prop
abbrev TT:=St->Hp->(Bool->Hp->Prop)->Prop
abbrev TA:=St->Hp->(List V->Hp->Prop)->Prop
structure Ends where
 nx:St->Hp->Prop
 rt:VK
 bk:St->Hp->Prop:=λ_ _=>False
 ct:St->Hp->Prop:=λ_ _=>False
abbrev TS:=Ends->St->Hp->Prop
inductive EP(X:Cx)(pins:List (Addr×Obj))(σ:St)(Q:VK)(u:Value)(s':Shared):Prop where
 |mk (v:V) (H':Hp) (I:Inv X pins σ H' s') (r:RelV v u) (q:Q v H')
def TP(X:Cx)(pins:List (Addr×Obj))(σ:St)(Q:Bool->Hp->Prop)(b:Bool)(s':Shared):Prop:=∃H',Inv X pins σ H' s'/\Q b H'
inductive AP(X:Cx)(pins:List (Addr×Obj))(σ:St)(Q:List V->Hp->Prop)(us:List Value)(s':Shared):Prop where
 |mk (vs:List V) (H':Hp) (I:Inv X pins σ H' s') (r:Vals vs us) (q:Q vs H')
def SP(X:Cx)(pins:List (Addr×Obj))(D:Ends)(f:Flow)(s':Shared):Prop :=
 match f with
 | .next=>∃σ' H',Inv X pins σ' H' s'/\D.nx σ' H'
 | .brk=>∃σ' H',Inv X pins σ' H' s'/\D.bk σ' H'
 | .cont=>∃σ' H',Inv X pins σ' H' s'/\D.ct σ' H'
 | .ret u=>∃v σ' H',Inv X pins σ' H' s'/\RelV v u/\D.rt v H'
def PE(X:Cx)(e:Expr)(t:TE):Prop :=
 ∀(pins:List (Addr×Obj)) (s:Shared) (σ:St) (H:Hp) (Q:VK),Inv X pins σ H s->t σ H Q->wpAny (model X.prog X.w) X.A (eval e X.env) (EP X pins σ Q) X.xe s
def PT(X:Cx)(e:Expr)(t:TT):Prop :=
 ∀(pins:List (Addr×Obj)) (s:Shared) (σ:St) (H:Hp) (Q:Bool->Hp->Prop),Inv X pins σ H s->t σ H Q->wpAny (model X.prog X.w) X.A (isTrue e X.env (eval e X.env)) (TP X pins σ Q) X.xe s
def PW(X:Cx)(e:Expr)(t:TT):Prop :=
 ∀(whole:Sem Value) (pins:List (Addr×Obj)) (s:Shared) (σ:St) (H:Hp) (Q:Bool->Hp->Prop),Inv X pins σ H s->t σ H Q->wpAny (model X.prog X.w) X.A (isTrue e X.env whole) (TP X pins σ Q) X.xe s
theorem PW.pt{X:Cx}{e:Expr}{t:TT}(h:PW X e t):PT X e t:=h _
def PA(X:Cx)(es:List Expr)(t:TA):Prop :=
 ∀(pos:Pos) (pins:List (Addr×Obj)) (s:Shared) (σ:St) (H:Hp) (Q:List V->Hp->Prop),Inv X pins σ H s->t σ H Q->wpAny (model X.prog X.w) X.A (spliced (backTo pos (starEach es X.env))) (AP X pins σ Q) X.xe s
def PS(X:Cx)(st:Stmt)(t:TS):Prop :=
 ∀(pins:List (Addr×Obj)) (s:Shared) (σ:St) (H:Hp) (D:Ends),Inv X pins σ H s->t D σ H->wpAny (model X.prog X.w) X.A (exec st X.env) (SP X pins D) X.xe s
def fh(X:Cx)(st:List Stmt)(t:TS):Prop :=
 ∀(pins:List (Addr×Obj)) (s:Shared) (σ:St) (H:Hp) (D:Ends),Inv X pins σ H s->t D σ H->wpAny (model X.prog X.w) X.A (execs st X.env) (SP X pins D) X.xe s
theorem aF{α:Type}{t:Sem α}{Q Q':α->Shared->Prop}{M:Model}{A:Around}{E:Value->Shared->Prop}{s:Shared}(h:wpAny M A t Q E s)(hQ:∀a s,Q a s->Q' a s):wpAny M A t Q' E s:=fo h hQ λ_ _ x=>x
section
variable{X:Cx}
theorem bin{a b:Expr}{ta tb:TE}(ha:PE X a ta)(hb:PE X b tb){pins:List (Addr×Obj)}{s:Shared}{σ:St}{H:Hp}{R:V->V->Hp->Prop}(I:Inv X pins σ H s)(h:ta σ H λx H1=>tb σ H1 λy H2=>R x y H2)
 {α:Type} {Q:α->Shared->Prop} {f:Value->Value->Sem α}
 (hf:∀v u s2 x y H2,Inv X pins σ H2 s2->RelV x v->RelV y u->R x y H2->wpAny (model X.prog X.w) X.A (f v u) Q X.xe s2) :
 wpAny (model X.prog X.w) X.A (eval a X.env) (λv s₁=>wpAny (model X.prog X.w) X.A (eval b X.env) (λu s₂=>wpAny (model X.prog X.w) X.A (f v u) Q X.xe s₂) X.xe s₁) X.xe s:=show _ by
 refine aF (ha pins s σ H _ I h) λv s1 ⟨x,H1,I1,r1,q1⟩=>?_;refine aF (hb pins s1 σ H1 _ I1 q1) λu s2 ⟨y,H2,I2,r2,q2⟩=>?_;exact hf v u s2 x y H2 I2 r1 r2 q2
def Ed(i:Nat):TE:=λσ H Q=>∃v,σ[i]?=some (some v)/\Q v H
def tC(v:V):TE:=λ_ H Q=>Q v H
theorem Ow{i:Nat}{x:Str}{pos:Pos}(hN:X.N[i]?=some x)(hv:uC X.env.scope x)(hd:(x==("__debug__":Str))=false:=by decide)(hcd:(x==("__classdict__":Str))=false:=by decide):PE X (.Name x pos) (Ed i):=show _ by
 intro pins s σ H Q I h;obtain⟨v,e,h⟩:=h;obtain⟨m,hn,hl⟩:=I.loc;obtain⟨u,r,l⟩:=hl i x v hN e hv;have fin:EP X pins σ Q u s:=⟨v,H,I,r,h⟩;rcases l with⟨hk,hm⟩|⟨hk,c,hc,hcell⟩
 ·exact CG (MH I.ok.kind hk hn hm fin) hd
 ·rcases hk with hk|hk
  ·exact CG (MI I.ok.kind hk hc hcell fin) hd
  ·exact CG (wpAny_loadName_free I.ok.kind hk hc hcell fin hcd) hd
theorem Ox{i j pos}:PE X (.Constant (.int i) j pos) (tC (.int i)):=λ_ _ _ H _ I h=>wpAny_Constant_int ⟨.int i,H,I.tok _,⟨_,rfl⟩,h⟩
theorem Oy{b j pos}:PE X (.Constant (.bool b) j pos) (tC (.bl b)):=λ_ _ _ H _ I h=>Constant_bool ⟨.bl b,H,I,rfl,h⟩
theorem Oz{j pos}:PE X (.Constant .none j pos) (tC .non):=λ_ _ _ H _ I h=>Constant_none ⟨.non,H,I,rfl,h⟩
theorem OA{x j pos}:PE X (.Constant (.str x) j pos) (tC (.str x)):=λ_ _ _ H _ I h=>Calls.Constant_str ⟨.str x,H,I.tok _,⟨_,rfl⟩,h⟩
def Gl(X:Cx)(x:Str):Prop:=X.env.kindOf x=some .globalImplicit
theorem rG{E:Value->Shared->Prop}{pins:List (Addr×Obj)}{s:Shared}{σ:St}{H:Hp}{x:Str}{u:Value}{pos:Pos}{Q:Value->Shared->Prop}(I:Inv X pins σ H s)(hg:Gl X x)(hm:X.mg x=some u)(h:Q u s)
 (hd:(x==("__debug__":Str))=false:=by decide):wpAny (model X.prog X.w) X.A (eval (.Name x pos) X.env) Q E s :=
 MJ I.ok.kind hg (Calls.loadGlobal_global (by rw[I.ok.glob];exact I.mod.glob.keeps I.bk) hm h) hd
theorem kC{E:Value->Shared->Prop}{pins:List (Addr×Obj)}{s:Shared}{σ:St}{H:Hp}{x:Str}{u:Value}{pos:Pos}{Q:Value->Shared->Prop}(I:Inv X pins σ H s)(hg:Gl X x)(hm:X.mg x=none)(hv:bootBuiltins x=some u)(h:Q u s)
 (hn:x≠"__name__":=by decide) (hd:(x==("__debug__":Str))=false:=by decide):wpAny (model X.prog X.w) X.A (eval (.Name x pos) X.env) Q E s:=show _ by
 obtain⟨mb,h1,h2⟩:=I.mod.blt;exact MJ I.ok.kind hg (Calls.loadGlobal_builtin (by rw[I.ok.glob];exact I.mod.glob.keeps I.bk) hm (by rw[I.ok.blt];exact h1.keeps I.bk) ((h2 x hn).trans hv) h) hd
theorem OB{x:Str}{v:V}{u:Value}{pos:Pos}(hg:Gl X x)(hm:X.mg x=some u)(r:RelV v u)(hd:(x==("__debug__":Str))=false:=by decide):PE X (.Name x pos) (tC v) :=
 λ_ _ _ H _ I h=>rG I hg hm ⟨v,H,I,r,h⟩ hd
variable{a b:Expr}{ta tb:TE}{pos:Pos}
def PC(X:Cx)(op:CmpOp)(a b:Expr)(t:TE):Prop :=
 ∀(pins:List (Addr×Obj)) (s:Shared) (σ:St) (H:Hp) (Q:VK),Inv X pins σ H s->t σ H Q ->
  wpAny (model X.prog X.w) X.A (eval a X.env) (λv s₁=>wpAny (model X.prog X.w) X.A (eval b X.env) (λu s₂=>wpAny (model X.prog X.w) X.A (compareOp op v u) (EP X pins σ Q) X.xe s₂) X.xe s₁) X.xe s
theorem OC(b:Expr){op:CmpOp}(h:op≠.In)(h2:op≠.NotIn):behindInMarks op b=false:=by
 have e1:(op==CmpOp.In)=false:=by cases op<;>first|rfl|exact absurd rfl h
 have e2:(op==CmpOp.NotIn)=false:=by cases op<;>first|rfl|exact absurd rfl h2
 cases b<;>simp[behindInMarks,e1,e2]
def tB(t:TE):TT:=λσ H Q=>t σ H λx H1=>∃c,x=.bl c/\Q c H1
theorem OD{op:CmpOp}{t:TE}(h:PC X op a b t)(h1:behindInMarks op b=false:=by first|exact OC _ (by decide) (by decide)|rfl):PT X (.Compare a [op] [b] pos) (tB t):=show _ by
 intro pins s σ H Q I hw;refine MK (aF (h pins s σ H _ I hw) λv s1 h1=>aF h1 λu s2 h2=>aF h2 λc s3 ⟨x,H1,I1,r1,q1⟩=>?_) h1;obtain⟨d,rfl,q⟩:=q1;cases r1;exact lP ⟨H1,I1,q⟩
theorem OE{e:Expr}{t:TE}(h:PE X e t)(he:∀whole,isTrue e X.env whole=(do let v <-whole;standAt e.pos;holding [v] (truthy v)):=by intro _;rfl):PT X e (tB t):=show _ by
 intro pins s σ H Q I hw;refine isTrue_plain (aF (h pins s σ H _ I hw) λv s1 ⟨x,H1,I1,r1,q1⟩=>?_) (he _);obtain⟨d,rfl,q⟩:=q1;cases r1;exact lP ⟨H1,I1,q⟩
variable{tA uG:TT}{rest:List Expr}
def OF(t u:TT):TT:=λσ H Q=>t σ H λc H1=>if c=true then u σ H1 Q else Q false H1
def OG(t u:TT):TT:=λσ H Q=>t σ H λc H1=>if c=true then Q true H1 else u σ H1 Q
def OH(t:TT):TT:=λσ H Q=>t σ H λc H1=>Q (!c) H1
theorem OI(ha:PT X a tA):PW X (.BoolOp .And [a] pos) tA:=by
 intro wh pins s σ H Q I h;refine isTrue_and (aF (ha pins s σ H Q I h) λc s1 e=>?_);cases c with
 |true=>exact isTrue_and_nil e
 |false=>exact e
theorem OJ(ha:PT X a tA):PW X (.BoolOp .Or [a] pos) tA:=by
 intro wh pins s σ H Q I h;refine isTrue_or (aF (ha pins s σ H Q I h) λc s1 e=>?_);cases c with
 |false=>exact isTrue_or_nil e
 |true=>exact e
theorem OK(ha:PT X a tA)(hb:PW X (.BoolOp .And (b::rest) pos) uG):PW X (.BoolOp .And (a::b::rest) pos) (OF tA uG):=show _ by
 intro wh pins s σ H Q I h;refine isTrue_and (aF (ha pins s σ H _ I h) λc s1 ⟨H1,I1,q1⟩=>?_);cases c with
 |true=>exact hb wh pins s1 σ H1 Q I1 q1
 |false=>exact⟨H1,I1,q1⟩
theorem OL(ha:PT X a tA)(hb:PW X (.BoolOp .Or (b::rest) pos) uG):PW X (.BoolOp .Or (a::b::rest) pos) (OG tA uG):=by
 intro wh pins s σ H Q I h;refine isTrue_or (aF (ha pins s σ H _ I h) λc s1 ⟨H1,I1,q1⟩=>?_);cases c with
 |true=>exact⟨H1,I1,q1⟩
 |false=>exact hb wh pins s1 σ H1 Q I1 q1
theorem OM(ha:PT X a tA):PT X (.UnaryOp .Not a pos) (OH tA):=by
 intro pins s σ H Q I h;exact isTrue_not (ha pins s σ H (λc H1=>Q (!c) H1) I h)
def ON(ta tb:TE):TE:=λσ H Q=>ta σ H λx H1=>∃c,x=.bl c/\if c=true then tb σ H1 Q else Q (.bl false) H1
def OO(ta:TE):TE:=λσ H Q=>ta σ H λx H1=>∃c,x=.bl c/\Q (.bl (!c)) H1
theorem OP{op}{t:TE}(h:PE X a t):PE X (.BoolOp op [a] pos) t:=λpins s σ H Q I hw=>BoolOp_one (h pins s σ H Q I hw)
theorem OQ(ha:PE X a ta)(hb:PE X (.BoolOp .And (b::rest) pos) tb):PE X (.BoolOp .And (a::b::rest) pos) (ON ta tb):=show _ by
 intro pins s σ H Q I h;refine BoolOp_and (aF (ha pins s σ H _ I h) λv s1 ⟨x,H1,I1,r1,q1⟩=>?_);obtain⟨c,rfl,q1⟩:=q1;cases r1;refine lP ?_;cases c with
 |true=>exact hb pins s1 σ H1 Q I1 q1
 |false=>exact⟨.bl false,H1,I1,rfl,q1⟩
theorem OS(ha:PE X a ta):PE X (.UnaryOp .Not a pos) (OO ta):=by
 intro pins s σ H Q I h;refine UnaryOp_ (aF (ha pins s σ H _ I h) λv s1 ⟨x,H1,I1,r1,q1⟩=>?_);obtain⟨c,rfl,q1⟩:=q1;cases r1;exact not_of (lP ⟨.bl (!c),H1,I1,rfl,q1⟩)
def OT(t:TT)(ta tb:TE):TE:=λσ H Q=>t σ H λc H1=>if c=true then ta σ H1 Q else tb σ H1 Q
theorem OU{c:Expr}(hc:PT X c tA)(ha:PE X a ta)(hb:PE X b tb):PE X (.IfExp c a b pos) (OT tA ta tb):=by
 intro pins s σ H Q I h;refine wpAny_IfExp (aF (hc pins s σ H _ I h) λd s1 ⟨H1,I1,q1⟩=>?_);cases d with
 |true=>exact ha pins s1 σ H1 Q I1 q1
 |false=>exact hb pins s1 σ H1 Q I1 q1
end
def bu(K:aq)(H:Hp)(a:Addr)(xs:List V):Prop :=
 Rd H a (.lst xs) ∨
  ∃(o:Obj) (its:Array Value) (n:Nat),K.lookup a=some o/\o.cls=.type "list"/\o.dict=none/\o.data=.seq its n/\its.size<=sizeLine/\Vals xs its.toList
def bq(K:aq)(H:Hp)(a:Addr)(xs:List V):Prop :=
 H a=some (.tup xs)
def OV:Value->Option V
 | .none=>some .non
 | .bool b=>some (.bl b)
 | .int i _=>some (.int i)
 | .str x _=>some (.str x)
 | .bytes b _=>some (.gx b)
 | .float b _=>some (.flt b)
 | .ref a=>some (.ref a)
 | .type n=>some (.ty n)
 |_=>none
theorem RelV.abs{x:V}{u:Value}(r:RelV x u):OV u=some x:=by
 cases x with
 |non=>cases r;rfl
 |bl _=>cases r;rfl
 |int _=>obtain⟨t,rfl⟩:=r;rfl
 |str _=>obtain⟨t,rfl⟩:=r;rfl
 |gx _=>obtain⟨t,rfl⟩:=r;rfl
 |flt _=>obtain⟨t,rfl⟩:=r;rfl
 |ref _=>cases r;rfl
 |ty _=>cases r;rfl
theorem RelV.inj{x y:V}{u:Value}(r:RelV x u)(q:RelV y u):x=y:=dg (r.abs.symm.trans q.abs)
theorem Vals.inj:∀{xs ys:List V} {us:List Value},Vals xs us->Vals ys us->xs=ys
 |_,_,_,.nil,.nil=>rfl
 |_,_,_,.cons r t,.cons r' t'=>by rw[r.inj r',Vals.inj t t']
section
variable{X:Cx}{pins:List (Addr×Obj)}{σ:St}{H:Hp}{s:Shared}{a:Addr}{xs ys:List V}
theorem bu.of{K:aq}(h:H a=some (.lst xs)):bu K H a xs:=.inl (.inl h)
theorem bq.of{K:aq}(h:H a=some (.tup xs)):bq K H a xs:=h
theorem Inv.list(I:Inv X pins σ H s)(h:bu X.K H a xs):∃its:List Value,Vals xs its/\PlainL s.heap a its.toArray/\xs.length<=sizeLine:=show _ by
 rcases h with h|⟨o,its,n,hk,hc,hd,hs,hz,r⟩
 ·obtain⟨z,its,n,r,e⟩:=h.ok I.hok;exact⟨its,r,⟨_,n,e,rfl,rfl,rfl⟩,z⟩
 ·refine⟨its.toList,r,⟨o,n,I.fZ a o hk,hc,hd,by simpa using hs⟩,?_⟩;have e:=r.length;simp only[ML]at e;lia
theorem Inv.tuple(I:Inv X pins σ H s)(h:bq X.K H a xs):∃its:List Value,Vals xs its/\IsTup s.heap a its.toArray/\xs.length<=sizeLine:=by
 obtain⟨z,its,r,p,_⟩:=(show dk X.prog X.w H s.heap a (.tup xs) from I.hok a _ h);exact⟨its,r,p,z⟩
theorem Inv.uH(I:Inv X pins σ H s)(h:bu X.K H a xs)(h':bu X.K H a ys):xs=ys:=show _ by
 obtain⟨its,r,⟨o,n,e,_,_,d⟩,_⟩:=I.list h;obtain⟨its',r',⟨o',n',e',_,_,d'⟩,_⟩:=I.list h';rw[e]at e';cases e';rw[d]at d';injection d' with d1 _;have:its=its':=by simpa using congrArg MM d1
 subst this;exact r.inj r'
theorem Inv.o6(I:Inv X pins σ H s)(h:bq X.K H a xs)(h':bq X.K H a ys):xs=ys:=show _ by
 obtain⟨its,r,⟨o,e,_,n,d⟩,_⟩:=I.tuple h;obtain⟨its',r',⟨o',e',_,n',d'⟩,_⟩:=I.tuple h';rw[e]at e';cases e';rw[d]at d';injection d' with d1 _;have:its=its':=by simpa using congrArg MM d1
 subst this;exact r.inj r'
end
abbrev Cx.jO(X:Cx)(E:Value->Shared->Prop):Cx:={X with xe:=E}
abbrev Cx.gz(X:Cx):Cx:=X.jO λ_ _=>False
theorem Cx.Ok.jO{X:Cx}(ok:X.Ok)(E:Value->Shared->Prop):(X.jO E).Ok :=
 ⟨ok.mod,ok.kind,ok.glob,ok.blt,ok.above,ok.inj,ok.has,ok.cab,ok.hd,ok.frames,ok.ng,ok.rD,ok.bs,ok.gT,ok.ma,ok.md,ok.fu,ok.i7⟩
theorem Cx.Ok.mh{X:Cx}{E:Value->Shared->Prop}(ok:(X.jO E).Ok):X.Ok :=
 ⟨ok.mod,ok.kind,ok.glob,ok.blt,ok.above,ok.inj,ok.has,ok.cab,ok.hd,ok.frames,ok.ng,ok.rD,ok.bs,ok.gT,ok.ma,ok.md,ok.fu,ok.i7⟩
section
variable{X:Cx}{pins:List (Addr×Obj)}{σ:St}{H:Hp}{s:Shared}{E:Value->Shared->Prop}
theorem Inv.jO(I:Inv X pins σ H s)(E:Value->Shared->Prop):Inv (X.jO E) pins σ H s:=⟨I.ok.jO E,I.os,I.bare,I.base,I.loc,I.cell,I.free,I.fN,I.pin,I.hok,I.len⟩
theorem Inv.mh(I:Inv (X.jO E) pins σ H s):Inv X pins σ H s:=⟨I.ok.mh,I.os,I.bare,I.base,I.loc,I.cell,I.free,I.fN,I.pin,I.hok,I.len⟩
theorem SP.mh{D:Ends}{f:Flow}{s':Shared}(h:SP (X.jO E) pins D f s'):SP X pins D f s':=show _ by
 cases f with
 |next=>obtain⟨σ',H',I,q⟩:=h;exact⟨σ',H',I.mh,q⟩
 |brk=>obtain⟨σ',H',I,q⟩:=h;exact⟨σ',H',I.mh,q⟩
 |cont=>obtain⟨σ',H',I,q⟩:=h;exact⟨σ',H',I.mh,q⟩
 |ret u=>obtain⟨v,σ',H',I,r,q⟩:=h;exact⟨v,σ',H',I.mh,r,q⟩
theorem fh.gz{st:List Stmt}{t:TS}(h:fh X.gz st t):fh X st t:=λpins s σ H D I hw =>
 fo (h pins s σ H D (I.jO _) hw) (λ_ _ q=>q.mh) λ_ _ z=>eX z
end
section
variable{X:Cx}{st:Stmt}{rest:List Stmt}{t u:TS}{e:Expr}{te:TE}{pos:Pos}
def OW:TS:=λD σ H=>D.nx σ H
def OX(t u:TS):TS:=λD σ H=>t {D with nx:=u D} σ H
theorem OY:fh X [] OW:=λ_ _ σ H _ I h=>t7 ⟨σ,H,I,h⟩
theorem OZ(h1:PS X st t)(h2:fh X rest u):fh X (st::rest) (OX t u):=show _ by
 intro pins s σ H D I h;refine wpAny_execs_cons (aF (h1 pins s σ H {D with nx:=u D} I h) λf s1 q=>?_);cases f with
 |next =>
  obtain⟨σ',H',I',q⟩:=q;exact h2 pins s1 σ' H' D I' q
 |ret v=>exact q
 |brk=>exact q
 |cont=>exact q
theorem O0(h1:PS X st t):fh X [st] t:=by
 intro pins s σ H D I h;refine wpAny_execs_cons (aF (h1 pins s σ H D I h) λf s1 q=>?_);cases f with
 |next=>exact t7 q
 |ret v=>exact q
 |brk=>exact q
 |cont=>exact q
theorem Inv.quiet{pins:List (Addr×Obj)}{σ:St}{H:Hp}{s:Shared}(I:Inv X pins σ H s):interactive X.env=false:=by simp[interactive,I.ok.kind]
def O1(te:TE):TS:=λD σ H=>te σ H λ_ H1=>D.nx σ H1
theorem O2(he:PE X e te)(hs:swapsWith e none pos.line X.env=pure false:=by rfl):PS X (.Expr e pos) (O1 te):=by
 intro pins s σ H D I h;exact wpAny_Expr_any (aF (he pins s σ H _ I h) λv s1 kE=>by obtain⟨x,H1,I1,r1,q1⟩:=kE;exact⟨σ,H1,I1,q1⟩) I.quiet hs
def O3(te:TE):TS:=λD σ H=>te σ H D.rt
theorem O4(he:PE X e te):PS X (.Return (some e) pos) (O3 te):=by
 intro pins s σ H D I h;exact wpAny_Return_some (aF (he pins s σ H _ I h) λv s1 yj=>by obtain⟨x,H1,I1,r1,q1⟩:=yj;exact⟨x,σ,H1,I1,r1,q1⟩)
def O5:TS:=λD _ H=>D.rt .non H
theorem O6:PS X (.Return none pos) O5:=λ_ _ σ H _ I h=>wpAny_Return_none ⟨.non,σ,H,I,rfl,h⟩
def O7(c:TT)(t u:TS):TS:=λD σ H=>c σ H λb H1=>if b=true then t D σ H1 else u D σ H1
theorem O8{c:Expr}{a b:List Stmt}{tc:TT}(hc:PT X c tc)(ha:fh X a t)(hb:fh X b u):PS X (.If c a b pos) (O7 tc t u):=show _ by
 intro pins s σ H D I h;refine wpAny_If (aF (hc pins s σ H _ I h) λd s1 ⟨H1,I1,q1⟩=>?_);cases d with
 |true=>exact ha pins s1 σ H1 D I1 q1
 |false=>exact hb pins s1 σ H1 D I1 q1
def O9:TS:=λ_ _ _=>False
theorem O_:PS X st O9:=λ_ _ _ _ _ _ h=>h.elim
end
abbrev TG:=V->St->Hp->(St->Hp->Prop)->Prop
abbrev kF:=List V->St->Hp->(St->Hp->Prop)->Prop
def PG(X:Cx)(target:Expr)(t:TG):Prop :=
 ∀(pins:List (Addr×Obj)) (s:Shared) (σ:St) (H:Hp) (v:V) (u:Value) (Q:St->Hp->Prop),Inv X pins σ H s->RelV v u->t v σ H Q ->
  wpAny (model X.prog X.w) X.A (assign target X.env u) (λ_ s'=>∃σ' H',Inv X pins σ' H' s'/\Q σ' H') X.xe s
def jP(X:Cx)(ts:List Expr)(t:kF):Prop :=
 ∀(pins:List (Addr×Obj)) (s:Shared) (σ:St) (H:Hp) (vs:List V) (us:List Value) (Q:St->Hp->Prop),Inv X pins σ H s->Vals vs us->t vs σ H Q ->
  wpAny (model X.prog X.w) X.A (assignInOrder ((assignEach ts X.env).map (·.2)) us) (λ_ s'=>∃σ' H',Inv X pins σ' H' s'/\Q σ' H') X.xe s
abbrev yk:=V->V->V->Hp->(Hp->Prop)->Prop
def Ee(X:Cx)(t:yk):Prop :=
 ∀(pins:List (Addr×Obj)) (s:Shared) (σ:St) (H:Hp) (o i v:V) (ov iv u:Value) (Q:Hp->Prop),Inv X pins σ H s->RelV o ov->RelV i iv->RelV v u->t o i v H Q ->
  wpAny (model X.prog X.w) X.A (setItem ov iv u) (λ_ s'=>∃H',Inv X pins σ H' s'/\Q H') X.xe s
abbrev uI:=V->V->Hp->VK->Prop
def uJ(X:Cx)(op:Operator)(t:uI):Prop :=
 ∀(pins:List (Addr×Obj)) (s:Shared) (σ:St) (H:Hp) (x y:V) (v u:Value) (Q:VK),Inv X pins σ H s->RelV x v->RelV y u->t x y H Q ->
  wpAny (model X.prog X.w) X.A (inplaceOp op v u) (EP X pins σ Q) X.xe s
section
variable{X:Cx}{pos:Pos}
def uK(i:Nat):TG:=λv σ H Q=>Q (σ.set i (some v)) H
theorem Pa{i:Nat}{x:Str}(hN:X.N.Nodup)(hi:X.N[i]?=some x)(hx:Loc X.env.scope x)(hf:X.fn x=true∨X.env.scope.names.lookup x=some .local:=by first|exact .inl rfl|exact .inr rfl|assumption):PG X (.Name x pos) (uK i):=show _ by
 intro pins s σ H v u Q I r h;exact MN (yi I hN hi hx r (λs' I'=>⟨_,H,I',h⟩) hf)
def Pb:kF:=λvs σ H Q=>vs=[]/\Q σ H
def Pc(t:TG)(u:kF):kF:=λvs σ H Q=>∃v r,vs=v::r/\t v σ H λσ' H'=>u r σ' H' Q
theorem Pd:jP X [] Pb:=by
 intro pins s σ H vs us Q I r h;obtain⟨e,h⟩:=h;subst e;cases r;exact assignInOrder_nil ⟨σ,H,I,h⟩
theorem Pe{e:Expr}{es:List Expr}{t:TG}{u:kF}(h1:PG X e t)(h2:jP X es u)
 (hs:(assignEach (e::es) X.env).map (·.2)=assign e X.env::(assignEach es X.env).map (·.2):=by rfl):jP X (e::es) (Pc t u):=show _ by
 intro pins s σ H vs us Q I r h;obtain⟨v,vr,e1,h⟩:=h;subst e1;cases r with
 |cons r rr =>
  rw[hs];refine assignInOrder_cons (aF (h1 pins s σ H _ _ _ I r h) λ_ s1 ⟨fO,H1,I1,q1⟩=>?_);exact h2 pins s1 fO H1 _ _ Q I1 rr q1
def Pf(K:aq)(n:Nat)(t:kF):TG:=λv σ H Q=>∃a xs,v=.ref a/\bq K H a xs/\xs.length=n/\t xs σ H Q
theorem Ph{es:List Expr}{k:Nat}{t:kF}{n:Nat}(hc:X.calm=true)(h:jP X es t)
 (hn:(assignEach es X.env).length=n:=by rfl) (hst:(assignEach es X.env).findIdx? (·.1)=none:=by rfl):PG X (.Tuple es k pos) (Pf X.K n t):=show _ by
 intro pins s σ H v u Q I r hw;obtain⟨a,xs,e1,hq,hl,hw⟩:=hw;subst e1;cases r;obtain⟨its,rv,ht,hz⟩:=I.tuple hq;refine assign_Tuple_tuple (I.ok.hd hc) ht (by simp[hn,<-hl,rv.length]) hst λh' hx=>?_;have I1:Inv X pins σ H {s with heap:=h'}:=I.kept (t':=s.toks) λb o e=>hx b o (cW (bG e)) e;exact h pins _ σ H xs _ Q I1 (by simpa using rv) hw
def Pj(to ti:TE)(t:yk):TG:=λv σ H Q=>to σ H λo H1=>ti σ H1 λi H2=>t o i v H2 λH3=>Q σ H3
theorem Pk{o i:Expr}{to ti:TE}{t:yk}(ho:PE X o to)(hi:PE X i ti)(hs:Ee X t)
 (ha:∀v,assign (.Subscript o i pos) X.env v=(do
  let ov <-holding [v] (eval o X.env)
  let iv <-holding [v,ov] (eval i X.env)
  standAt pos
  holding [v,ov,iv] (setItem ov iv v)
  release [v,ov,iv] []):=by intro _;rfl):PG X (.Subscript o i pos) (Pj to ti t):=show _ by
 intro pins s σ H v u Q I r h;rw[ha];refine ai (mV (aF (ho pins s σ H _ I h) λov s1 ⟨x,H1,I1,r1,q1⟩=>?_));refine ai (mV (aF (hi pins s1 σ H1 _ I1 q1) λiv s2 ⟨y,H2,I2,r2,q2⟩=>?_));refine ai (CH (ai (mV (aF (hs pins s2 σ H2 x y v ov iv u _ I2 r1 r2 r q2) λ_ s3 ⟨H3,I3,q3⟩=>?_))));exact wpAny_release ⟨σ,H3,I3,q3⟩
def uL(te:TE)(g:TG):TS:=λD σ H=>te σ H λx H1=>g x σ H1 D.nx
theorem Pl{tg e:Expr}{te:TE}{g:TG}(he:PE X e te)(hg:PG X tg g)(hs:swapsWithSole [tg] e pos.line X.env=pure false:=by rfl)(hw:swappedStores [tg] e X.env=pure none:=by rfl)
 (h1:(assignEach [tg] X.env).map (·.2)=[assign tg X.env]:=by rfl):PS X (.Assign [tg] e pos) (uL te g):=show _ by
 intro pins s σ H D I h;refine wpAny_Assign_stores (aF (he pins s σ H _ I h) λv s1 ⟨x,H1,I1,r1,q1⟩=>?_) hs hw;rw[h1];exact aF (hg pins s1 σ H1 x v _ I1 r1 q1) λ_ s2 q=>q
theorem Pm{i:Nat}{x:Str}{e:Expr}{te:TE}{pos':Pos}(hN:X.N.Nodup)(hi:X.N[i]?=some x)(hx:Loc X.env.scope x)(he:PE X e te)(hs:swapsWith e (some (.Name x pos')) pos.line X.env=pure false:=by rfl)(hf:X.fn x=true∨X.env.scope.names.lookup x=some .local:=by first|exact .inl rfl|exact .inr rfl|assumption) :
 PS X (.Assign [.Name x pos'] e pos) (uL te (uK i)):=show _ by
 intro pins s σ H D I h;refine wpAny_Assign_Name (aF (he pins s σ H _ I h) λv s1 ⟨y,H1,I1,r1,q1⟩=>?_) hs;exact yi I1 hN hi hx r1 (λs2 I2=>⟨_,H1,I2,q1⟩) hf
def Pn(i:Nat)(te:TE)(ti:uI):TS:=λD σ H=>∃x,σ[i]?=some (some x)/\te σ H λy H1=>ti x y H1 λz H2=>D.nx (σ.set i (some z)) H2
theorem Po{i:Nat}{x:Str}{e:Expr}{te:TE}{op:Operator}{ti:uI}{pos':Pos}(hN:X.N.Nodup)(hi:X.N[i]?=some x)(hx:Loc X.env.scope x)(he:PE X e te)(ho:uJ X op ti)(hf:X.fn x=true∨X.env.scope.names.lookup x=some .local:=by first|exact .inl rfl|exact .inr rfl|assumption) :
 PS X (.AugAssign (.Name x pos') op e pos) (Pn i te ti):=show _ by
 intro pins s σ H D I h;obtain⟨v,e1,h⟩:=h;obtain⟨m,hn,hl⟩:=I.loc;have Pp:uC X.env.scope x:=by rcases hx with k|k;exact .inl k;exact .inr (.inl k)
 obtain⟨u,r,l⟩:=hl i x v hi e1 Pp;refine wpAny_AugAssign_Name ?_;have go:wpAny (model X.prog X.w) X.A (eval e X.env) (λw s₂=>wpAny (model X.prog X.w) X.A (inplaceOp op u w) (λr s₃=>wpAny (model X.prog X.w) X.A (storeName X.env x r) (λ_=>SP X pins D .next) X.xe s₃) X.xe s₂) X.xe s:=by
  refine aF (he pins s σ H _ I h) λw s1 ⟨y,H1,I1,r1,q1⟩=>?_;refine aF (ho pins s1 σ H1 v y u w _ I1 r r1 q1) λz s2 ⟨zv,H2,I2,r2,q2⟩=>?_;exact yi I2 hN hi hx r2 (λs3 I3=>⟨_,H2,I3,q2⟩) hf
 rcases l with⟨hk,hm⟩|⟨hk,c,hc,hcell⟩
 ·exact MH I.ok.kind hk hn hm go
 ·rcases hk with hk|hk
  ·exact MI I.ok.kind hk hc hcell go
  ·rcases hx with k|k
   ·have:X.env.scope.names.lookup x=some .free:=hk;rw[k]at this;cases this
   ·have:X.env.scope.names.lookup x=some .free:=hk;rw[k]at this;cases this
def ym(f:Int->Int->Int):uI:=λx y H Q=>∃i j,x=.int i/\y=.int j/\Q (.int (f i j)) H
theorem yn:uJ X .Add (ym λi j=>i+j):=by
 intro pins s σ H x y v u Q I r1 r2 h;obtain⟨i,j,e1,e2,q⟩:=h;subst e1;subst e2;obtain⟨t,rfl⟩:=r1;obtain⟨t',rfl⟩:=r2;exact iadd_int ⟨.int _,H,I.tok _,⟨_,rfl⟩,q⟩
theorem Pq:uJ X .Sub (ym λi j=>i-j):=by
 intro pins s σ H x y v u Q I r1 r2 h;obtain⟨i,j,e1,e2,q⟩:=h;subst e1;subst e2;obtain⟨t,rfl⟩:=r1;obtain⟨t',rfl⟩:=r2;exact isub_int ⟨.int _,H,I.tok _,⟨_,rfl⟩,q⟩
end
section
variable{X:Cx}{pos:Pos}
def Pt(c:TT)(tb:TS):TS:=λD σ H=>∃W:Nat->St->Hp->Prop,(∃m,W m σ H)/\∀m σ H,W m σ H ->
 c σ H λb H1=>if b=true then ∃N:St->Hp->Prop,(∀σ' H',N σ' H'->∃m',m'<m/\W m' σ' H')/\tb {D with nx:=N,ct:=N,bk:=D.nx} σ H1 else D.nx σ H1
theorem Pu{c:Expr}{body:List Stmt}{tc:TT}{tb:TS}(hp:PassesOwn (model X.prog X.w) X.A X.env X.xe)(hc:PT X c tc)(hb:fh X body tb):PS X (.While c body [] pos) (Pt tc tb):=show _ by
 intro pins s σ H D I h;obtain⟨W,⟨m0,w0⟩,turn⟩:=h;refine wpAny_While (codeAny_whileLoop (λn s'=>∃σ' H',Inv X pins σ' H' s'/\W n σ' H') ?_ m0 ⟨σ,H,I,w0⟩);rintro n s1 ⟨fO,H1,I1,w1⟩;refine oO hp (aF (hc pins s1 fO H1 _ I1 (turn n fO H1 w1)) λb s2 ⟨H2,I2,q2⟩=>?_);cases b with
 |true =>
  obtain⟨N,hN,q2⟩:=q2;rw[if_pos rfl];refine oO hp (aF (hb pins s2 fO H2 _ I2 q2) λf s3 q3=>?_);cases f with
  |next =>
   obtain⟨i8,H3,I3,n3⟩:=q3;obtain⟨m',hm,w3⟩:=hN i8 H3 n3;exact⟨m',hm,i8,H3,I3,w3⟩
  |cont =>
   obtain⟨i8,H3,I3,n3⟩:=q3;obtain⟨m',hm,w3⟩:=hN i8 H3 n3;exact⟨m',hm,i8,H3,I3,w3⟩
  |brk=>exact q3
  |ret v=>exact q3
 |false =>
  rw[if_neg cV];exact t7 ⟨fO,H2,I2,q2⟩
end
structure It where
 go:Nat->Hp->Prop
 mi:Nat->Hp->V->Hp->Prop
 stop:Nat->Hp->Prop
def d9(X:Cx)(pins:List (Addr×Obj))(H:Hp)(b:Addr):Prop :=
 H b=none/\b≠X.env.locals/\b∉X.fs/\(b∈X.ex∨X.s₀.heap.objs.size<=b)/\(∀x c,X.env.cells.lookup x=some c->c≠b)/\∀p∈X.pn++pins,p.1≠b
theorem Inv.kG{X:Cx}{pins:List (Addr×Obj)}{σ:St}{H H':Hp}{s:Shared}{b:Addr}(I:Inv X pins σ H s)(hb:s.heap.objs.size<=b)(hn:H' b=none):d9 X pins H' b:=show _ by
 refine⟨hn,kh (dO I.lt hb),I.Ou hb,.inr (cC I.sz hb),λx c e z=>?_,λp hp z=>?_⟩
 ·obtain⟨v,q⟩:=I.cell x c e;exact absurd (dO q.lt (by rw[z];exact hb)) (kf _)
 ·exact absurd (dO (bG (I.pin p hp).1) (by rw[z];exact hb)) (kf _)
structure Turn(P:Program)(w:World)(K:aq)(tg:Expr)(J:It)(fp:List Addr)(it:Addr)(tn:Nat->Heap->Prop):Prop where
 mem:it∈fp
 obj:∀i h,tn i h->∀b∈fp,∃o,h.get? b=some o/\∀v,o.data≠.cell v
 keep:∀i h h',tn i h->(∀b∈fp,∀o,h.get? b=some o->h'.get? b=some o)->tn i h'
 item:∀(X:Cx),X.prog=P->X.w=w->X.K=K->X.calm=true->∀(i:Nat) (pins:List (Addr×Obj)) (s:Shared) (σ:St) (H:Hp) (E:Value->Shared->Prop),Inv X pins σ H s->(∀b∈fp,d9 X pins H b)->tn i s.heap->J.go i H ->
  wpAny (model P w) X.A (pyNext (.ref it)) (λr s1=>∃u,r=some u /\
   wpAny (model P w) X.A (letOwnedTupleGo tg (.ref it) u) (λ_ s2=>∃x H',Inv X pins σ H' s2/\RelV x u/\J.mi i H x H'/\tn (i+1) s2.heap/\∀b∈fp,H' b=none) E s1) E s
 done:∀(X:Cx),X.prog=P->X.w=w->X.K=K->X.calm=true->∀(i:Nat) (pins:List (Addr×Obj)) (s:Shared) (σ:St) (H:Hp) (E:Value->Shared->Prop),Inv X pins σ H s->(∀b∈fp,d9 X pins H b)->tn i s.heap->J.stop i H ->
  wpAny (model P w) X.A (pyNext (.ref it)) (λr s1=>r=none/\Inv X pins σ H s1) E s
 self:∀(A:Around) (i:Nat) (s:Shared) (Q:Value->Shared->Prop) (E:Value->Shared->Prop),tn i s.heap->Q (.ref it) s->wpAny (model P w) A (pyIter (.ref it)) Q E s
abbrev TI:=St->Hp->(It->Hp->Prop)->Prop
def yo(X:Cx)(pins:List (Addr×Obj))(σ:St)(tg:Expr)(R:It->Hp->Prop)(itv:Value)(s2:Shared):Prop :=
 ∃(it:Addr) (fp:List Addr) (tn:Nat->Heap->Prop) (J:It) (H':Hp),itv=.ref it/\Inv X pins σ H' s2/\Turn X.prog X.w X.K tg J fp it tn/\tn 0 s2.heap/\(∀b∈fp,d9 X pins H' b)/\R J H'
def PI(X:Cx)(tg iter:Expr)(wi:TI):Prop :=
 ∀(pins:List (Addr×Obj)) (s:Shared) (σ:St) (H:Hp) (R:It->Hp->Prop),Inv X pins σ H s->wi σ H R ->
  wpAny (model X.prog X.w) X.A (eval iter X.env) (λv s1=>wpAny (model X.prog X.w) X.A (pyIter v) (yo X pins σ tg R) X.xe s1) X.xe s
theorem rH {M:Model} {A:Around} {E:Value→Shared→Prop} {s:Shared} {tg:Expr} {it:Addr} {u:Value} {o:Obj} {n:String} {vs:Array Value} {Q:Unit→Shared→Prop} (ho:s.heap.get? it=some o) (hc:o.cls=.type n) (hd:o.data=.fields vs)
    (hn:["enumerate","zip","dict_itemiterator","dict_reverseitemiterator","odict_iterator","itertools.zip_longest","itertools.pairwise"].contains n=false) (hQ:Q () s):wpAny M A (letOwnedTupleGo tg (.ref it) u) Q E s:=show _ by
  unfold letOwnedTupleGo
  cases tg<;>first
    | exact aB hQ
    | (cases u<;>first
        | exact aB hQ
        | (refine ai (wpAny_load ho ?_)
           rw [hc,hd]
           show wpAny M A (if (["enumerate","zip","dict_itemiterator","dict_reverseitemiterator","odict_iterator","itertools.zip_longest","itertools.pairwise"].contains n&&vs[0]?==some (rawInt _))=true then _ else _) Q E s
           rw [if_neg (by intro h;rw [hn,Bool.false_and] at h;cases h)]
           exact aB hQ))
def Ef(K:aq)(a:Addr):It :=
 ⟨λi H=>∃xs x,bu K H a xs/\xs[i]?=some x,λi H x H'=>H'=H/\∀xs,bu K H a xs->xs[i]?=some x,λi H=>∃xs,bu K H a xs/\xs.length<=i⟩
def Eg(K:aq)(a:Addr):It :=
 ⟨λi H=>∃xs x,bq K H a xs/\xs[i]?=some x,λi H x H'=>H'=H/\∀xs,bq K H a xs->xs[i]?=some x,λi H=>∃xs,bq K H a xs/\xs.length<=i⟩
def uM(lo:Int)(n:Nat):It:=⟨λi _=>i<n,λi H x H'=>H'=H/\x=.int (lo+i),λi _=>n<=i⟩
theorem Pw{P:Program}{w:World}{K:aq}{tg:Expr}(a it:Addr):Turn P w K tg (Ef K a) [it] it (λi h=>h.IsListIter it a i) where
 mem:=show _ by simp
 obj:=λi h st b hb=>by
  have e:b=it:=by simpa using hb
  subst e;obtain⟨o,e,c,d⟩:=st;exact⟨o,e,λv z=>by rw[d]at z;cases z⟩
 keep:=λi h h' st k=>st.at λo e=>k it (by simp) o e
 item:=by
  intro X hP hw hK hc i pins s σ H E I hf st hg;subst hP hw hK;obtain⟨xs,x,hq,hx⟩:=hg;obtain⟨its,rv,p,hz⟩:=I.list hq;obtain⟨u,hu,ru⟩:=rv.get hx;obtain⟨f0,f1,f2,f3,f4,f5⟩:=hf it (by simp);refine MO st p.isList (x:=u) (by simpa using hu) λh' st' sb=>?_;have I1:Inv X pins σ H {s with heap:=h'}:=I.turned (t':=s.toks) (λb o hb e=>(sb.2 b hb).trans e) f0 f1 f3 f4 f5;obtain⟨o,e,c,d⟩:=id st';exact⟨u,rfl,rH (s:={s with heap:=h'}) e c d (by decide) ⟨x,H,I1,ru,⟨rfl,λys hy=>by rw[I.uH hy hq];exact hx⟩,st',λb hb=>(hf b hb).1⟩⟩
 done:=by
  intro X hP hw hK hc i pins s σ H E I hf st hg;subst hP hw hK;obtain⟨xs,hq,hx⟩:=hg;obtain⟨its,rv,p,hz⟩:=I.list hq;obtain⟨f0,f1,f2,f3,f4,f5⟩:=hf it (by simp);have hl:=rv.length;exact MP (I.ok.hd hc) st p.isList (by simp;lia) λh' eb=>⟨rfl,I.turned (t':=s.toks) (λb o hb e=>eb b o hb e) f0 f1 f3 f4 f5⟩
 self:=λ_ _ _ _ _ st h=>wpAny_pyIter_listiter st h
theorem Py{P:Program}{w:World}{K:aq}{tg:Expr}(a it:Addr):Turn P w K tg (Eg K a) [it] it (λi h=>h.IsTupleIter it a i) where
 mem:=show _ by simp
 obj:=λi h st b hb=>by
  have e:b=it:=by simpa using hb
  subst e;obtain⟨o,e,c,d⟩:=st;exact⟨o,e,λv z=>by rw[d]at z;cases z⟩
 keep:=λi h h' st k=>st.at λo e=>k it (by simp) o e
 item:=by
  intro X hP hw hK hc i pins s σ H E I hf st hg;subst hP hw hK;obtain⟨xs,x,hq,hx⟩:=hg;obtain⟨its,rv,p,hz⟩:=I.tuple hq;obtain⟨u,hu,ru⟩:=rv.get hx;obtain⟨f0,f1,f2,f3,f4,f5⟩:=hf it (by simp);refine wpAny_pyNext_tuple_item st (show s.heap.IsTuple a its.toArray from p) (x:=u) (by simpa using hu) λh' st' sb=>?_;have I1:Inv X pins σ H {s with heap:=h'}:=I.turned (t':=s.toks) (λb o hb e=>(sb.2 b hb).trans e) f0 f1 f3 f4 f5;obtain⟨o,e,c,d⟩:=id st';exact⟨u,rfl,rH (s:={s with heap:=h'}) e c d (by decide) ⟨x,H,I1,ru,⟨rfl,λys hy=>by rw[I.o6 hy hq];exact hx⟩,st',λb hb=>(hf b hb).1⟩⟩
 done:=by
  intro X hP hw hK hc i pins s σ H E I hf st hg;subst hP hw hK;obtain⟨xs,hq,hx⟩:=hg;obtain⟨its,rv,p,hz⟩:=I.tuple hq;obtain⟨f0,f1,f2,f3,f4,f5⟩:=hf it (by simp);have hl:=rv.length;exact wpAny_pyNext_tuple_end (I.ok.hd hc) st (show s.heap.IsTuple a its.toArray from p) (by simp;lia) λh' eb=>⟨rfl,I.turned (t':=s.toks) (λb o hb e=>eb b o hb e) f0 f1 f3 f4 f5⟩
 self:=λ_ _ _ _ _ st h=>wpAny_pyIter_tupleiter st h
theorem Pz{P:Program}{w:World}{K:aq}{tg:Expr}(it:Addr)(lo:Int)(n:Nat):Turn P w K tg (uM lo n) [it] it (λi h=>IsRangeIter h it (lo+(i:Nat)*1) ((n:Int)-(i:Nat)) 1) where
 mem:=show _ by simp
 obj:=λi h st b hb=>by
  have e:b=it:=by simpa using hb
  subst e;exact⟨_,st,λv z=>by
   have z':Data.fields _=Data.cell v:=z;cases z'⟩
 keep:=λi h h' st k=>k it (by simp) _ st
 item:=by
  intro X hP hw hK hc i pins s σ H E I hf st hg;subst hP hw hK;obtain⟨f0,f1,f2,f3,f4,f5⟩:=hf it (by simp);have W:=Walks.range (prog:=X.prog) (w:=X.w) (I.ok.hd hc) it lo 1 n;refine W.item i s _ _ hg st λv h' tk hv st' kk=>?_;obtain⟨t,rfl⟩:=hv;have I1:Inv X pins σ H {s with heap:=h',toks:=tk}:=I.turned (λb o hb e=>kk b o (by simpa using hb) e) f0 f1 f3 f4 f5;refine⟨_,rfl,rH (s:={s with heap:=h',toks:=tk}) (n:="range_iterator") st' rfl rfl (by decide) ⟨.int (lo+i),H,I1,⟨t,?_⟩,⟨rfl,rfl⟩,st',λb hb=>(hf b hb).1⟩⟩;rw[Int.mul_one]
 done:=by
  intro X hP hw hK hc i pins s σ H E I hf st hg;subst hP hw hK;obtain⟨f0,f1,f2,f3,f4,f5⟩:=hf it (by simp);exact wpAny_pyNext_range_end (I.ok.hd hc) st (by have:n<=i:=hg;lia) λh' eb=>⟨rfl,I.turned (t':=s.toks) (λb o hb e=>eb b o hb e) f0 f1 f3 f4 f5⟩
 self:=λ_ _ _ _ _ st h=>wpAny_pyIter_rangeiter st h
section
variable{X:Cx}{tg:Expr}
def PB(K:aq)(tl:TE):TI:=λσ H R=>tl σ H λx H1=>∃a,x=.ref a/\(∃xs,bu K H1 a xs)/\R (Ef K a) H1
def PD(K:aq)(tl:TE):TI:=λσ H R=>tl σ H λx H1=>∃a,x=.ref a/\(∃xs,bq K H1 a xs)/\R (Eg K a) H1
theorem PF{l:Expr}{tl:TE}(hl:PE X l tl):PI X tg l (PB X.K tl):=show _ by
 intro pins s σ H R I h;refine aF (hl pins s σ H _ I h) λv s1 ⟨x,H1,I1,r1,q1⟩=>?_;obtain⟨a,e,⟨xs,hq⟩,q⟩:=q1;subst e;cases r1;obtain⟨its,rv,p,hz⟩:=I1.list hq;refine CI p.isList ?_;refine⟨s1.heap.objs.size,[s1.heap.objs.size],_,_,H1,rfl,I1.kept (t':=s1.toks) λb o e=>bA _ e,Pw a _,⟨_,c7 _ rfl,rfl,rfl⟩,λb hb=>?_,q⟩;have e:b=s1.heap.objs.size:=by simpa using hb
 subst e;exact I1.kG (aT _) (I1.hok.fresh (aT _))
theorem PH{l:Expr}{tl:TE}(hl:PE X l tl):PI X tg l (PD X.K tl):=show _ by
 intro pins s σ H R I h;refine aF (hl pins s σ H _ I h) λv s1 ⟨x,H1,I1,r1,q1⟩=>?_;obtain⟨a,e,⟨xs,hq⟩,q⟩:=q1;subst e;cases r1;obtain⟨its,rv,p,hz⟩:=I1.tuple hq;refine qV (show s1.heap.IsTuple a its.toArray from p) ?_;refine⟨s1.heap.objs.size,[s1.heap.objs.size],_,_,H1,rfl,I1.kept (t':=s1.toks) λb o e=>bA _ e,Py a _,⟨_,c7 _ rfl,rfl,rfl⟩,λb hb=>?_,q⟩;have e:b=s1.heap.objs.size:=by simpa using hb
 subst e;exact I1.kG (aT _) (I1.hok.fresh (aT _))
theorem PJ{pins:List (Addr×Obj)}{σ:St}{H:Hp}{s:Shared}{R:It->Hp->Prop}{E:Value->Shared->Prop}{lo hi:Int}{t u v:Tok}{tk:Nat}(I:Inv X pins σ H s)(h1:-(2^62)<=lo)(h2:lo<2^62)(h3:-(2^62)<=hi)(h4:hi<2^62)
 (q:R (uM lo (hi-lo).toNat) H):wpAny (model X.prog X.w) X.A (pyIter (.ref s.heap.objs.size)) (yo X pins σ tg R) E {s with heap:=s.heap.push {cls:=.type "range",data:=.fields #[.int lo t,.int hi u,.int 1 v]},toks:=tk}:=show _ by
 refine wpAny_pyIter_range (IsRange.new ..) (small_one h1 h2 h3 h4) ?_;have I1:Inv X pins σ H {s with heap:=s.heap.push {cls:=.type "range",data:=.fields #[.int lo t,.int hi u,.int 1 v]},toks:=tk}:=I.kept λb o e=>bA _ e;refine⟨(s.heap.push {cls:=.type "range",data:=.fields #[.int lo t,.int hi u,.int 1 v]}).objs.size,[(s.heap.push {cls:=.type "range",data:=.fields #[.int lo t,.int hi u,.int 1 v]}).objs.size],_,_,H,rfl,
  I1.kept (t':=tk) λb o e=>bA _ e,Pz _ lo (hi-lo).toNat,?_,λb hb=>?_,q⟩
 ·have e1:lo+((0:Nat):Int)*1=lo:=by simp
  have e2:(((hi-lo).toNat:Nat):Int)-((0:Nat):Int)=aib lo hi 1:=by rw[rangeSize_one];split<;>lia
  show IsRangeIter _ _ (lo+((0:Nat):Int)*1) ((((hi-lo).toNat:Nat):Int)-((0:Nat):Int)) 1;rw[e1,e2];exact c7 _ rfl
 ·have e:b=(s.heap.push {cls:=.type "range",data:=.fields #[.int lo t,.int hi u,.int 1 v]}).objs.size:=by simpa using hb
  subst e;exact I1.kG (aT _) (I1.hok.fresh (aT _))
def PK(ta:TA):TI:=λσ H R=>ta σ H λvs H1=>∃j:Int,vs=[.int j]/\-(2^62)<=j/\j<2^62/\R (uM 0 j.toNat) H1
theorem PL{a:Expr}{ta:TA}{p pos:Pos}(hg:Gl X "range")(hm:X.mg "range"=none)(ha:PA X [a] ta)(hs:starEach [a] X.env=[(false,eval a X.env)]:=by rfl):PI X tg (.Call (.Name "range" p) [a] [] pos) (PK ta):=show _ by
 intro pins s σ H R I h;refine Call_ (kC I hg hm boot_range (mW (aF (ha pos pins s σ H _ I h) λus s1 ⟨vs,H1,I1,r1,q1⟩=>?_) hs rfl));obtain⟨j,e,q1,q2,q⟩:=q1;subst e;cases r1 with
 |cons r rr =>
  cases rr;obtain⟨t,rfl⟩:=r;exact call_range_1 (PJ I1 (by lia) (by lia) q1 q2 (by simpa using q))
def PM(wi:TI)(g:TG)(tb:TS):TS:=λD σ H=>wi σ H λJ H1=>∃W:Nat->Nat->St->Hp->Prop,(∃m,W 0 m σ H1)/\∀i m σ H,W i m σ H ->
 (J.stop i H/\D.nx σ H)∨(J.go i H/\∃N:St->Hp->Prop,(∀σ' H',N σ' H'->∃m',m'<m/\W (i+1) m' σ' H')/\∀x H',J.mi i H x H'->g x σ H' λjQ H2=>tb {D with nx:=N,ct:=N,bk:=D.nx} jQ H2)
def rJ(fp:List Addr)(h:Heap):List (Addr×Obj):=fp.filterMap λb=>(h.get? b).map λo=>(b,o)
theorem uN{fp:List Addr}{h:Heap}{b:Addr}{o:Obj}(hb:b∈fp)(e:h.get? b=some o):(b,o)∈rJ fp h:=oP.mpr ⟨b,hb,by rw[e];rfl⟩
theorem PN{fp:List Addr}{h:Heap}{p:Addr×Obj}(hp:p∈rJ fp h):p.1∈fp/\h.get? p.1=some p.2:=by
 obtain⟨b,hb,e⟩:=oP.mp hp;cases q:h.get? b with
 |none=>rw[q]at e;cases e
 |some o =>
  rw[q]at e;have e':(b,o)=p:=dg e;subst e';exact⟨hb,q⟩
theorem Inv.pinned{pins:List (Addr×Obj)}{σ:St}{H:Hp}{s:Shared}{fp:List Addr}(I:Inv X pins σ H s)(hf:∀b∈fp,d9 X pins H b)(ho:∀b∈fp,∃o,s.heap.get? b=some o/\∀v,o.data≠.cell v):Inv X (pins++rJ fp s.heap) σ H s :=
 I.D' λp hp=>(dh.mp hp).elim (λz=>I.pin p (gQ _ z)) λz=>by
  obtain⟨hb,e⟩:=PN z;obtain⟨f0,f1,f2,_⟩:=hf p.1 hb;obtain⟨o,e',d⟩:=ho p.1 hb;rw[e]at e';cases e';exact⟨e,f0,f1,f2,d⟩
theorem Inv.uO{pins pl:List (Addr×Obj)}{σ:St}{H:Hp}{s:Shared}(I:Inv X (pins++pl) σ H s):Inv X pins σ H s:=I.D' λp hp=>I.pin p (gQ _ (xp _ hp))
theorem PQ{iter:Expr}{body:List Stmt}{wi:TI}{g:TG}{tb:TS}{pos:Pos}(hp:PassesOwn (model X.prog X.w) X.A X.env X.xe)(hc:X.calm=true)(hi:PI X tg iter wi)(hg:PG X tg g)(hb:fh X body tb)
 (hs:∀x,foldedSetIterable iter X.env x=pure x:=by intro _;rfl):PS X (.For tg iter body [] pos) (PM wi g tb):=show _ by
 intro pins s σ H D I h;refine wpAny_For (aF (hi pins s σ H _ I h) λv s1 h1=>aF h1 λitv s2 h2=>?_) hs;obtain⟨it,fp,tn,J,H2,e,I2,T,st2,f2,W,⟨m0,w0⟩,turn⟩:=h2;subst e;have ni:∀{H':Hp},(∀b∈fp,H' b=none)->∀b∈fp,d9 X pins H' b:=λhn b hb=>⟨hn b hb,(f2 b hb).2⟩;refine codeAny_forLoop_any (λn s'=>∃i σ' H',Inv X pins σ' H' s'/\tn i s'.heap/\(∀b∈fp,H' b=none)/\W i n σ' H') ?_ m0 ⟨0,σ,H2,I2,st2,λb hb=>(f2 b hb).1,w0⟩;rintro n s3 ⟨i,i8,H3,I3,st3,i9,w3⟩;rcases turn i n i8 H3 w3 with⟨stop,qn⟩|⟨go,N,hN,step⟩
 ·refine oO hp (aF (T.done X rfl rfl rfl hc i pins s3 i8 H3 X.xe I3 (ni i9) st3 stop) λr s4 ⟨hr,I4⟩=>?_);subst hr;exact t7 ⟨i8,H3,I4,qn⟩
 ·refine oO hp (aF (T.item X rfl rfl rfl hc i pins s3 i8 H3 X.xe I3 (ni i9) st3 go) λr s4 ⟨u,hr,h4⟩=>?_);subst hr;refine oO hp (aF h4 λ_ s5 ⟨x,H5,I5,r5,y5,o7,uP⟩=>?_);have PR:=I5.pinned (ni uP) (T.obj _ _ o7);refine oO hp (aF (hg _ s5 i8 H5 x u _ PR r5 (step x H5 y5)) λ_ s6 ⟨PU,H6,I6,q6⟩=>?_);refine oO hp (aF (hb _ s6 PU H6 _ I6 q6) λf s7 q7=>?_);have again:∀{i_:St} {H7:Hp},Inv X (pins++rJ fp s5.heap) i_ H7 s7->N i_ H7->∃m,m<n/\∃i σ' H',Inv X pins σ' H' s7/\tn i s7.heap/\(∀b∈fp,H' b=none)/\W i m σ' H':=λ{i_ H7} I7 n7=>by
   obtain⟨m',hm,w7⟩:=hN i_ H7 n7;refine⟨m',hm,i+1,i_,H7,I7.uO,T.keep _ _ _ o7 λb hb o e=>(I7.pin (b,o) (gQ _ (gQ _ (uN hb e)))).1,λb hb=>?_,w7⟩;obtain⟨o,e,d⟩:=T.obj _ _ o7 b hb;exact(I7.pin (b,o) (gQ _ (gQ _ (uN hb e)))).2.1
  cases f with
  |next=>obtain⟨i_,H7,I7,n7⟩:=q7;exact again I7 n7
  |cont=>obtain⟨i_,H7,I7,n7⟩:=q7;exact again I7 n7
  |brk=>obtain⟨i_,H7,I7,q7⟩:=q7;exact⟨i_,H7,I7.uO,q7⟩
  |ret v=>obtain⟨x7,i_,H7,I7,r7,q7⟩:=q7;exact⟨x7,i_,H7,I7.uO,r7,q7⟩
end
abbrev R2:=V->V->Hp->VK->Prop
def cu(X:Cx)(f:Value->Value->Sem Value)(r:R2):Prop :=
 ∀(pins:List (Addr×Obj)) (s:Shared) (σ:St) (H:Hp) (x y:V) (v u:Value) (Q:VK),Inv X pins σ H s->RelV x v->RelV y u->r x y H Q ->
  wpAny (model X.prog X.w) X.A (f v u) (EP X pins σ Q) X.xe s
def ja(X:Cx)(f:Value)(r:List V->Hp->VK->Prop):Prop :=
 ∀(pins:List (Addr×Obj)) (s:Shared) (σ:St) (H:Hp) (xs:List V) (us:List Value) (Q:VK),Inv X pins σ H s->Vals xs us->r xs H Q ->
  wpAny (model X.prog X.w) X.A (call f us) (EP X pins σ Q) X.xe s
def PV(X:Cx)(r:V->Hp->(Bool->Hp->Prop)->Prop):Prop :=
 ∀(pins:List (Addr×Obj)) (s:Shared) (σ:St) (H:Hp) (x:V) (v:Value) (Q:Bool->Hp->Prop),Inv X pins σ H s->RelV x v->r x H Q ->
  wpAny (model X.prog X.w) X.A (truthy v) (TP X pins σ Q) X.xe s
def rK(r:R2)(ta tb:TE):TE:=λσ H Q=>ta σ H λx H1=>tb σ H1 λy H2=>r x y H2 Q
def rI(C:Int->Int->Prop)(g:Int->Int->V):R2:=λx y H Q=>∃i j,x=.int i/\y=.int j/\C i j/\Q (g i j) H
def jR(g:Int->Int->V):R2:=λx y H Q=>∃i j,x=.int i/\y=.int j/\Q (g i j) H
section
variable{X:Cx}{a b c:Expr}{ta tb tc:TE}{pos:Pos}
theorem yp(ha:PE X a ta)(hb:PE X b tb){pins:List (Addr×Obj)}{s:Shared}{σ:St}{H:Hp}{R:V->V->Hp->Prop}(I:Inv X pins σ H s)
 (h:ta σ H λx H1=>tb σ H1 λy H2=>R x y H2) {Q:Value->Shared->Prop} {f:Value->Value->Sem Value}
 (hf:∀v u s2 x y H2,Inv X pins σ H2 s2->RelV x v->RelV y u->R x y H2->wpAny (model X.prog X.w) X.A (f v u) Q X.xe s2) :
 wpAny (model X.prog X.w) X.A (eval a X.env) (λv s₁=>wpAny (model X.prog X.w) X.A (eval b X.env) (λu s₂=>wpAny (model X.prog X.w) X.A (f v u) Q X.xe s₂) X.xe s₁) X.xe s:=show _ by
 refine aF (ha pins s σ H _ I h) λv s1 ⟨x,H1,I1,r1,q1⟩=>?_;refine aF (hb pins s1 σ H1 _ I1 q1) λu s2 ⟨y,H2,I2,r2,q2⟩=>?_;exact hf v u s2 x y H2 I2 r1 r2 q2
theorem PX{op:Operator}{r:R2}(ho:cu X (binaryOp op) r)(ha:PE X a ta)(hb:PE X b tb):PE X (.BinOp a op b pos) (rK r ta tb):=by
 intro pins s σ H Q I h;exact wpAny_BinOp (yp ha hb I h λv u s2 x y H2 I2 rx ry q=>ho pins s2 σ H2 x y v u Q I2 rx ry q)
theorem uQ{f:Value->Value->Sem Value}{C:Int->Int->Prop}{g:Int->Int->Int}
 (rule:∀(i j:Int) (t u:Tok) (s:Shared) (Q:Value->Shared->Prop) (E:Value->Shared->Prop),C i j->Q (.int (g i j) s.toks) {s with toks:=s.toks+1}->wpAny (model X.prog X.w) X.A (f (.int i t) (.int j u)) Q E s) :
 cu X f (rI C λi j=>.int (g i j)):=show _ by
 intro pins s σ H x y v u Q I rx ry h;obtain⟨i,j,rfl,rfl,hc,q⟩:=h;obtain⟨t,rfl⟩:=rx;obtain⟨t',rfl⟩:=ry;exact rule i j t t' s _ _ hc ⟨.int (g i j),H,I.tok _,⟨_,rfl⟩,q⟩
theorem Eh{f:Value->Value->Sem Value}{g:Int->Int->Int}
 (rule:∀(i j:Int) (t u:Tok) (s:Shared) (Q:Value->Shared->Prop) (E:Value->Shared->Prop),Q (.int (g i j) s.toks) {s with toks:=s.toks+1}->wpAny (model X.prog X.w) X.A (f (.int i t) (.int j u)) Q E s) :
 cu X f (jR λi j=>.int (g i j)):=show _ by
 intro pins s σ H x y v u Q I rx ry h;obtain⟨i,j,rfl,rfl,q⟩:=h;obtain⟨t,rfl⟩:=rx;obtain⟨t',rfl⟩:=ry;exact rule i j t t' s _ _ ⟨.int (g i j),H,I.tok _,⟨_,rfl⟩,q⟩
theorem uR{f:Value->Value->Sem Value}{g:Int->Int->Bool}
 (rule:∀(i j:Int) (t u:Tok) (s:Shared) (Q:Value->Shared->Prop) (E:Value->Shared->Prop),Q (.bool (g i j)) s->wpAny (model X.prog X.w) X.A (f (.int i t) (.int j u)) Q E s) :
 cu X f (jR λi j=>.bl (g i j)):=show _ by
 intro pins s σ H x y v u Q I rx ry h;obtain⟨i,j,rfl,rfl,q⟩:=h;obtain⟨t,rfl⟩:=rx;obtain⟨t',rfl⟩:=ry;exact rule i j t t' s _ _ ⟨.bl (g i j),H,I,rfl,q⟩
def Ei(i j:Int):Prop:=0<j/\j<1073741824
def yq(i j:Int):Prop:=0<=j/\j<=1000000/\i.natAbs<2^64
def rL(i j:Int):Prop:=(-(2^64)<i/\i<2^64)∨(-(2^64)<j/\j<2^64)
theorem rL.ok{i j:Int}(h:rL i j):IntMulOk i j:=by
 rcases h with⟨h1,h2⟩|⟨h1,h2⟩
 ·exact .of_left (intBits_le_64 h1 h2)
 ·exact .of_right (intBits_le_64 h1 h2)
theorem mj:cu X (binaryOp .Add) (jR λi j=>.int (i+j)):=Eh λ_ _ _ _ _ _ _ q=>add_int q
theorem yr:cu X (binaryOp .Sub) (jR λi j=>.int (i-j)):=Eh λ_ _ _ _ _ _ _ q=>sub_int q
theorem Ej:cu X (binaryOp .Mult) (rI rL λi j=>.int (i*j)):=uQ λ_ _ _ _ _ _ _ hc q=>mul_int q hc.ok
theorem dm:cu X (binaryOp .FloorDiv) (rI Ei λi j=>.int (i/j)):=uQ λi j _ _ _ _ _ hc q=>by
 have h1:(0:Int)<j:=hc.1;have h2:j<1073741824:=hc.2;exact floordiv_int (by lia) (by rw[Int.fdiv_eq_ediv_of_nonneg i (by lia)];exact q) (.inl (PyProof.noPylong_small (by lia)))
theorem bX:cu X (binaryOp .Mod) (rI (λ_ j=>0<j) λi j=>.int (i%j)):=uQ λi j _ _ _ _ _ hc q=>by
 have h1:(0:Int)<j:=hc;exact mod_int' (by lia) (by rw[Int.fmod_eq_emod_of_nonneg i (by lia)];exact q)
theorem rM:cu X (binaryOp .Pow) (rI yq λi j=>.int (i^j.toNat)):=uQ λ_ _ _ _ _ _ _ hc q=>pow_int_small hc.1 hc.2.1 hc.2.2 q
end
def Ek:V->V->Bool
 | .non,.non=>true | .non,.int _=>true | .int _,.non=>true | .non,.bl _=>true | .bl _,.non=>true | .non,.str _=>true | .str _,.non=>true
 | .int _,.int _=>true | .bl _,.bl _=>true | .str _,.str _=>true | .gx _,.gx _=>true
 | .int _,.str _=>true | .str _,.int _=>true | .bl _,.str _=>true | .str _,.bl _=>true
 |_,_=>false
def yt:R2:=λx y H Q=>Ek x y=true/\Q (.bl (decide (x=y))) H
def uS:R2:=λx y H Q=>Ek x y=true/\Q (.bl (!decide (x=y))) H
theorem yu{i j:Int}:decide (V.int i=V.int j)=(i==j):=by
 rw[iX];simp
theorem El{i j:Bool}:decide (V.bl i=V.bl j)=(i==j):=by
 rw[iX];simp
theorem Em{i j:Str}:decide (V.str i=V.str j)=(i==j):=by
 rw[iX];simp
theorem Eo{i j:Array UInt8}:decide (V.gx i=V.gx j)=(i.toList==j.toList):=by
 rw[iX];cases i;cases j;simp
section
variable{X:Cx}{a b c:Expr}{ta tb tc:TE}{pos:Pos}
theorem cH{pins:List (Addr×Obj)}{σ:St}{H:Hp}{s:Shared}{Q:VK}{k k':Bool}(I:Inv X pins σ H s)(q:Q (.bl k) H)(e:k=k'):EP X pins σ Q (.bool k') s:=by
 subst e;exact⟨.bl k,H,I,rfl,q⟩
theorem cI:cu X (compareOp .Eq) yt:=show _ by
 intro pins s σ H x y v u Q I rx ry h;obtain⟨hs,q⟩:=h;cases x with
 |non =>
  cases rx;cases y with
  |non=>cases ry;exact PySem.EqNone.eq_none_none (cH I q (by simp))
  |bl j=>cases ry;exact PySem.EqNone.eq_none_bool (cH I q (by simp))
  |int j=>obtain⟨t',rfl⟩:=ry;exact PySem.EqNone.eq_none_int (cH I q (by simp))
  |str j=>obtain⟨t',rfl⟩:=ry;exact PySem.EqNone.eq_none_str (cH I q (by simp))
  |_=>exact absurd (show false=true from hs) cV
 |bl i =>
  cases rx;cases y with
  |non=>cases ry;exact PySem.EqNone.eq_bool_none (cH I q (by simp))
  |bl j=>cases ry;exact eq_bool (cH I q El)
  |str j=>obtain⟨t',rfl⟩:=ry;exact aic (cH I q (by simp))
  |_=>exact absurd (show false=true from hs) cV
 |int i =>
  obtain⟨t,rfl⟩:=rx;cases y with
  |non=>cases ry;exact PySem.EqNone.eq_int_none (cH I q (by simp))
  |int j=>obtain⟨t',rfl⟩:=ry;exact eq_int (cH I q yu)
  |str j=>obtain⟨t',rfl⟩:=ry;exact aid (cH I q (by simp))
  |_=>exact absurd (show false=true from hs) cV
 |str i =>
  obtain⟨t,rfl⟩:=rx;cases y with
  |non=>cases ry;exact PySem.EqNone.eq_str_none (cH I q (by simp))
  |bl j=>cases ry;exact aie (cH I q (by simp))
  |int j=>obtain⟨t',rfl⟩:=ry;exact aif (cH I q (by simp))
  |str j=>obtain⟨t',rfl⟩:=ry;exact eq_str (cH I q Em)
  |_=>exact absurd (show false=true from hs) cV
 |gx i =>
  obtain⟨t,rfl⟩:=rx;cases y with
  |gx j=>obtain⟨t',rfl⟩:=ry;exact PySem.W.eq_bytes (cH I q Eo)
  |_=>exact absurd (show false=true from hs) cV
 |_=>cases y<;>exact absurd (show false=true from hs) cV
theorem rN:cu X (compareOp .NotEq) uS:=show _ by
 intro pins s σ H x y v u Q I rx ry h;obtain⟨hs,q⟩:=h;cases x with
 |non =>
  cases rx;cases y with
  |non=>cases ry;exact PySem.EqNone.ne_none_none (cH I q (by simp))
  |bl j=>cases ry;exact PySem.EqNone.ne_none_bool (cH I q (by simp))
  |int j=>obtain⟨t',rfl⟩:=ry;exact PySem.EqNone.ne_none_int (cH I q (by simp))
  |str j=>obtain⟨t',rfl⟩:=ry;exact PySem.EqNone.ne_none_str (cH I q (by simp))
  |_=>exact absurd (show false=true from hs) cV
 |bl i =>
  cases rx;cases y with
  |non=>cases ry;exact PySem.EqNone.ne_bool_none (cH I q (by simp))
  |bl j=>cases ry;exact ne_bool (cH I q (congrArg not El))
  |str j=>obtain⟨t',rfl⟩:=ry;exact aih (cH I q (by simp))
  |_=>exact absurd (show false=true from hs) cV
 |int i =>
  obtain⟨t,rfl⟩:=rx;cases y with
  |non=>cases ry;exact PySem.EqNone.ne_int_none (cH I q (by simp))
  |int j=>obtain⟨t',rfl⟩:=ry;exact ne_int (cH I q (congrArg not yu))
  |str j=>obtain⟨t',rfl⟩:=ry;exact aii (cH I q (by simp))
  |_=>exact absurd (show false=true from hs) cV
 |str i =>
  obtain⟨t,rfl⟩:=rx;cases y with
  |non=>cases ry;exact PySem.EqNone.ne_str_none (cH I q (by simp))
  |bl j=>cases ry;exact aij (cH I q (by simp))
  |int j=>obtain⟨t',rfl⟩:=ry;exact aik (cH I q (by simp))
  |str j=>obtain⟨t',rfl⟩:=ry;exact ne_str (cH I q (congrArg not Em))
  |_=>exact absurd (show false=true from hs) cV
 |gx i =>
  obtain⟨t,rfl⟩:=rx;cases y with
  |gx j=>obtain⟨t',rfl⟩:=ry;exact PySem.W.ne_bytes (cH I q (congrArg not Eo))
  |_=>exact absurd (show false=true from hs) cV
 |_=>cases y<;>exact absurd (show false=true from hs) cV
theorem o8:cu X (compareOp .Lt) (jR λi j=>.bl (decide (i<j))):=uR λ_ _ _ _ _ _ _ q=>lt_int q
theorem PY:cu X (compareOp .LtE) (jR λi j=>.bl (decide (i<=j))):=uR λ_ _ _ _ _ _ _ q=>le_int q
theorem yw:cu X (compareOp .Gt) (jR λi j=>.bl (decide (j<i))):=uR λ_ _ _ _ _ _ _ q=>gt_int q
theorem Ep:cu X (compareOp .GtE) (jR λi j=>.bl (decide (j<=i))):=uR λ_ _ _ _ _ _ _ q=>ge_int q
theorem rO:cu X (compareOp .Is) (λx y H Q=>y=.non/\Q (.bl (decide (x=.non))) H):=by
 intro pins s σ H x y v u Q I rx ry h;obtain⟨rfl,q⟩:=h;cases ry;refine is_none_gen (cH I q ?_);cases x<;>first
  |(cases rx;rfl)
  |(obtain⟨t,rfl⟩:=rx;rfl)
theorem Es:cu X (compareOp .IsNot) (λx y H Q=>y=.non/\Q (.bl (!decide (x=.non))) H):=by
 intro pins s σ H x y v u Q I rx ry h;obtain⟨rfl,q⟩:=h;cases ry;refine isnot_none_gen (cH I q ?_);cases x<;>first
  |(cases rx;rfl)
  |(obtain⟨t,rfl⟩:=rx;rfl)
theorem bC(b:Expr){op:CmpOp}(h:op≠.In:=by decide)(h2:op≠.NotIn:=by decide):behindInMarks op b=false:=by
 have e1:(op==CmpOp.In)=false:=by cases op<;>first|rfl|exact absurd rfl h
 have e2:(op==CmpOp.NotIn)=false:=by cases op<;>first|rfl|exact absurd rfl h2
 cases b<;>simp[behindInMarks,e1,e2]
theorem PZ{op:CmpOp}{r:R2}(ho:cu X (compareOp op) r)(ha:PE X a ta)(hb:PE X b tb)(hm:behindInMarks op b=false):PE X (.Compare a [op] [b] pos) (rK r ta tb):=by
 intro pins s σ H Q I h;exact wpAny_Compare1 (yp ha hb I h λv u s2 x y H2 I2 rx ry q=>ho pins s2 σ H2 x y v u Q I2 rx ry q) hm
def yx(t:TE):TT:=λσ H Q=>t σ H λx H'=>∃k,x=.bl k/\Q k H'
theorem P0{op:CmpOp}{r:R2}(ho:cu X (compareOp op) r)(ha:PE X a ta)(hb:PE X b tb)(hm:behindInMarks op b=false):PT X (.Compare a [op] [b] pos) (yx (rK r ta tb)):=show _ by
 intro pins s σ H Q I h;refine MK (aF (ha pins s σ H _ I h) λv s1 ⟨x,H1,I1,r1,q1⟩=>aF (hb pins s1 σ H1 _ I1 q1) λu s2 ⟨y,H2,I2,r2,q2⟩ =>
  aF (ho pins s2 σ H2 x y v u _ I2 r1 r2 q2) λc s3 ⟨z,H3,I3,r3,k,e,q3⟩=>?_) hm
 subst e;cases r3;exact lP ⟨H3,I3,q3⟩
def Et(r r':R2)(ta tb tc:TE):TE:=λσ H Q=>ta σ H λx H1=>tb σ H1 λy H2=>r x y H2 λz H3=>∃k,z=.bl k /\
 (if k=true then tc σ H3 λw' H4=>r' y w' H4 Q else Q (.bl false) H3)
theorem P1{op op':CmpOp}{r r':R2}(ho:cu X (compareOp op) r)(ho':cu X (compareOp op') r')(ha:PE X a ta)(hb:PE X b tb)(hc:PE X c tc)
 (hm:lastMarks [op,op'] [b,c]=false:=by with_unfolding_all rfl):PT X (.Compare a [op,op'] [b,c] pos) (yx (Et r r' ta tb tc)):=show _ by
 intro pins s σ H Q I h;refine isTrue_chain (aF (ha pins s σ H _ I h) λv s1 ⟨x,H1,I1,r1,q1⟩=>test_link (aF (hb pins s1 σ H1 _ I1 q1) λu s2 ⟨y,H2,I2,r2,q2⟩ =>
  aF (ho pins s2 σ H2 x y v u _ I2 r1 r2 q2) λd s3 ⟨z,H3,I3,r3,k,e,q3⟩=>?_)) hm
 subst e;cases r3;refine lP ?_;cases k with
 |false =>
  obtain⟨k',e',q'⟩:=q3;cases e';exact ite_ff ⟨H3,I3,q'⟩
 |true =>
  refine ite_tt (test_last (aF (hc pins s3 σ H3 _ I3 q3) λw' s4 ⟨z',H4,I4,r4,q4⟩=>aF (ho' pins s4 σ H4 y z' u w' _ I4 r2 r4 q4) λd' s5 ⟨z2,H5,I5,r5,k2,e2,q5⟩=>?_));subst e2;cases r5;exact lP ⟨H5,I5,q5⟩
def yy(K:aq)(x:V)(H:Hp)(k:Bool):Prop :=
 match x with
 | .non=>k=false
 | .bl b=>k=b
 | .int i=>k=(i != 0)
 | .str y=>y.length<=sizeLine/\k=((y.length:Int) != 0)
 | .gx y=>y.size<=sizeLine/\k=((y.size:Int) != 0)
 | .ref p=>(∃xs,bu K H p xs/\k=!xs.isEmpty)∨(∃xs,bq K H p xs/\k=!xs.isEmpty)∨∃kvs,H p=some (.dK kvs)/\k=!kvs.isEmpty
 |_=>False
theorem P2{κ:Type}{kvs:List (κ×V)}{vs:List (κ×Value)}(r:KV kvs vs):(!vs.isEmpty)=!kvs.isEmpty:=by
 cases r<;>rfl
theorem Eu{xs:List V}{its:List Value}(r:Vals xs its):(!its.toArray.isEmpty)=!xs.isEmpty:=by
 cases r<;>simp
theorem kH:(sizeLine:Nat)<2^63:=by rw[CJ];decide
theorem P4:PV X (λx H Q=>∃k,yy X.K x H k/\Q k H):=show _ by
 intro pins s σ H x v Q I rx h;obtain⟨k,e,q⟩:=h;have hl:=kH;have hs:sizeLine=16777216:=CJ;cases x with
 |non =>
  cases rx;have e':k=false:=e;subst e';exact truthy_none ⟨H,I,q⟩
 |bl b =>
  cases rx;have e':k=b:=e;subst e';exact lP ⟨H,I,q⟩
 |int i =>
  obtain⟨t,rfl⟩:=rx;have e':k=(i != 0):=e;subst e';exact PySem.P.truthy_int ⟨H,I,q⟩
 |str y =>
  obtain⟨t,rfl⟩:=rx;obtain⟨hy,e'⟩:y.length<=sizeLine/\k=((y.length:Int) != 0):=e;subst e';exact PySem.P.truthy_str (by lia) ⟨H,I.tok _,q⟩
 |gx y =>
  obtain⟨t,rfl⟩:=rx;obtain⟨hy,e'⟩:y.size<=sizeLine/\k=((y.size:Int) != 0):=e;subst e';exact PySem.W.truthy_bytes (by lia) ⟨H,I.tok _,q⟩
 |ref p =>
  cases rx;have e':(∃xs,bu X.K H p xs/\k=!xs.isEmpty)∨(∃xs,bq X.K H p xs/\k=!xs.isEmpty)∨∃kvs,H p=some (.dK kvs)/\k=!kvs.isEmpty:=e;rcases e' with⟨xs,hx,e'⟩|⟨xs,hx,e'⟩|⟨kvs,hx,e'⟩
  ·subst e';obtain⟨its,r,pl,hz⟩:=I.list hx;have hlen:=r.length;exact wpAny_truthy_list pl.isList (by simp only[cj];lia) ⟨H,I.tok _,by rw[Eu r];exact q⟩
  ·subst e';obtain⟨its,r,pl,hz⟩:=I.tuple hx;have hlen:=r.length;exact truthy_tuple pl (by simp only[cj];lia) ⟨H,I.tok _,by rw[Eu r];exact q⟩
  ·subst e';obtain⟨hz,hS,vs,r,m⟩:kvs.length<=sizeLine/\(p==sysModules)=false/\∃vs,KV kvs vs/\s.heap.DictOf (fL X.prog X.w) p vs:=I.hok p _ hx;have hlen:kvs.length=vs.length:=Paired.length r;exact wpAny_truthy_dict hS m (by lia) ⟨H,I.tok _,by rw[P2 r];exact q⟩
 |_=>exact(show False from e).elim
theorem P5(ha:PE X a ta)(he:∀whole,isTrue a X.env whole=(do let v <-whole;standAt a.pos;holding [v] (truthy v))) :
 PT X a (λσ H Q=>ta σ H λx H'=>∃k,yy X.K x H' k/\Q k H'):=show _ by
 intro pins s σ H Q I h;exact isTrue_plain (aF (ha pins s σ H _ I h) λv s1 yz=>by obtain⟨x,H1,I1,r1,q1⟩:=yz;exact P4 pins s1 σ H1 x v Q I1 r1 q1) (he _)
theorem rP:cu X (binaryOp .Add) (λx y H Q=>∃i j,x=.str i/\y=.str j/\i.length+j.length<=sizeLine/\Q (.str (i++j)) H):=show _ by
 intro pins s σ H x y v u Q I rx ry h;obtain⟨i,j,rfl,rfl,hz,q⟩:=h;obtain⟨t,rfl⟩:=rx;obtain⟨t',rfl⟩:=ry;exact add_str (λt' tk=>⟨.str (i++j),H,I.tok _,⟨_,rfl⟩,q⟩) hz
theorem vals1{x:V}{us:List Value}(r:Vals [x] us):∃u,us=[u]/\RelV x u:=by
 cases r with
 |cons r1 r2=>cases r2;exact⟨_,rfl,r1⟩
theorem vals2{x y:V}{us:List Value}(r:Vals [x,y] us):∃u w',us=[u,w']/\RelV x u/\RelV y w':=by
 cases r with
 |cons r1 r2 =>
  cases r2 with
  |cons r3 r4=>cases r4;exact⟨_,_,rfl,r1,r3⟩
theorem P6(hc:X.calm=true):ja X (.builtin "max") (λxs H Q=>∃i j,xs=[.int i,.int j]/\Q (.int (if j>i then j else i)) H):=show _ by
 intro pins s σ H xs us Q I r h;obtain⟨i,j,rfl,q⟩:=h;obtain⟨u,w',rfl,⟨t,rfl⟩,⟨t',rfl⟩⟩:=vals2 r;refine max_two_ints (I.ok.hd hc) λh' tk k=>⟨_,H,I.kept k,?_,q⟩;by_cases hj:j>i
 ·rw[if_pos hj,if_pos hj];exact⟨_,rfl⟩
 ·rw[if_neg hj,if_neg hj];exact⟨_,rfl⟩
end
structure nk(h:Heap)(x dx C:Addr)(mA:Str->Option Value):Prop where
 obj:h.get? x=some (mT C dx)
 ns:h.Ns1 dx mA
 ne:dx≠x
theorem P7{h:Heap}{dx:Addr}{mA:Str->Option Value}(n:h.Ns1 dx mA):∃od,h.get? dx=some od/\∀name,xq name od=some (mA name):=show _ by
 obtain⟨o,es,ep,ho,hd,hk,_,hm⟩:=n;refine⟨o,ho,λname=>?_⟩;have e:=hm name;unfold nsFind findBy at e;rw[<-Array.find?_toList]at e;unfold xq;rw[hd];dsimp only
 split
 ·rename_i y q
  rw[q]at e;exact congrArg some e
 ·rename_i q
  rw[q]at e;have a:es.toList.any (·.refKey)=false:=by
   rw[MQ];intro y hy;obtain⟨z,t,hkey⟩:=hk y (Array.mem_toList_iff.mp hy);simp[DictEntry.refKey,hkey]
  have a':¬es.toList.any (·.refKey)=true:=by rw[a];exact cV
  rw[if_neg a'];exact congrArg some e
theorem nk.look{h:Heap}{x dx C:Addr}{mA:Str->Option Value}(I:nk h x dx C mA):∃od,PySem.W.InstAt h x (mT C dx) C (some od)/\∀name,xq name od=some (mA name) :=
 let⟨od,ho,hl⟩:=P7 I.ns
 ⟨od,⟨I.obj,rfl,rfl,ho⟩,hl⟩
section
variable{prog:Program}{w:World}{A:Around}{E:Value->Shared->Prop}{s:Shared}{K:PySem.W.Frag}{x dx C f:Addr}{mA:Str->Option Value}{name:Str}{v:Value}
theorem get_map{expr:Bool}{Q:Value->Shared->Prop}(X:K.In s.heap)(I:nk s.heap x dx C mA)(hg:t8 K C name=true)(hh:xr K C=true)
 (ha:cP K (.ref C) name=some none) (hv:mA name=some v) (hv':MR v=true) (h:Q v {s with toks:=s.toks+1}) :
 wpAny (model prog w) A (getAttr (.ref x) name expr) Q E s:=show _ by
 obtain⟨od,J,hl⟩:=I.look;exact PySem.W.get_value X J (CM hg).1 (PySem.W.findObj_own hh ha rfl (by rw[hl,hv])) hv' h
theorem P8{pl:Sem Bool}{Q:Value×List Value->Shared->Prop}(X:K.In s.heap)(I:nk s.heap x dx C mA)(hg:t8 K C name=true)
 (hf:cP K (.ref C) name=some (some (.ref f))) (ht:ip K (.ref f)=true) (hv:mA name=none) (h:Q (.ref f,[.ref x]) s) :
 wpAny (model prog w) A (getMethod (.ref x) name pl) Q E s:=show _ by
 obtain⟨od,J,hl⟩:=I.look;exact PySem.W.method_fn X J (CM hg).1 (CM hg).2 hf (beq_iff_eq.mp ht) (by show(xq name od).map (·.isSome)=some false;rw[hl,hv];rfl) h
theorem P9{ns:List Str}{Q:Unit->Shared->Prop}(X:K.In s.heap)(I:nk s.heap x dx C mA)
 (hs:cP K (.ref C) "__setattr__"=some (some (.builtin "object.__setattr__"))) (hp:CN K C=true) (ht:CP K C name=some none) (hh:xr K C=true)
 (hw:Cz mA ns) (hsz:ns.length<=sizeLine)
 (h:∀h',nk h' x dx C (λy=>if y=name then some v else mA y)->fJ dx s.heap h'->Q () {s with heap:=h',toks:=s.toks+2}) :
 wpAny (model prog w) A (setAttr (.ref x) name v) Q E s:=show _ by
 obtain⟨od,J,hl⟩:=I.look;refine PySem.W.set_plain X J hs (PySem.W.osa_open (s:={s with toks:=s.toks+1}) (r:=none) X J hp ht λb=>?_);obtain⟨cd,hc,hd'⟩:=PySem.W.any_some hh;have hx:s.heap.get? x=some ⟨.ref C,some dx,.plain,#[]⟩:=I.obj;refine ai (aB (ai (ai (wpAny_loadPart hx (ai (ail (s:={s with toks:=s.toks+1}) (PySem.W.looks_clsIn X hc) ?_))))));rw[hd'];refine aB (a:=some dx) (ai (aB (ai ?_)));refine wpAny_nsSet1 (s:={s with toks:=s.toks+1}) I.ns λh' hn2 hs2=>?_;obtain⟨oD,esD,epD,hoD,hdD,hcD⟩:=hn2.count (PySem.Within.cons name v hw);refine ai (wpAny_lookBehind hoD (by rw[hdD];exact pastItsLine_dict (cC hcD (by rw[bp];lia))) ?_);exact aB (h _ ⟨(hs2.2 _ (bt I.ne)).trans I.obj,hn2,I.ne⟩ hs2)
theorem P_{R:Result->Shared->Prop}{vs:List Value}{kw:List (Str×Value)}(X:K.In s.heap)(hm:t9 K C=true)
 (hi:cP K (.ref C) "__init__"=some (some (.ref f))) (hf:PySem.W.typeIn K (.ref f)=some (.type "function"))
 (h:codeAny (model prog w) (A.under (.builtin "type.__call__" ⟨.ref C::vs,kw⟩)) (.call (.ref f) ⟨.ref (s.heap.objs.size+1)::vs,kw⟩) (PySem.W.InitBack (s.heap.objs.size+1) R)
  {s with heap:=(s.heap.push lQ).push (mT C s.heap.objs.size)}) :
 codeAny (model prog w) A (.call (.ref C) ⟨vs,kw⟩) R s:=show _ by
 obtain⟨hh,g,d,t,os⟩:=s;exact PySem.W.make_core (PySem.W.makes_of X hm) (PySem.W.looks_findIn X hi) (λself=>PySem.W.bind_fn X self hf) (.inl rfl) h
end
def eG(f:Str)(v:V):List (Str×V)->List (Str×V)
 |[]=>[(f,v)]
 |(g,x)::r=>if g=f then(g,v)::r else(g,x)::eG f v r
theorem Ew(f g:Str)(v:V):∀fs:List (Str×V),(eG f v fs).lookup g=if g=f then some v else fs.lookup g
 |[]=>by
  show iq g [(f,v)]=_;by_cases h:g=f
  ·have hb:(g==f)=true:=beq_iff_eq.mpr h;simp only[iq,hb,if_pos h]
  ·have hb:(g==f)=false:=beq_eq_false_iff_ne.mpr h;simp only[iq,hb,if_neg h]
 |(k,x)::r=>by
  have ih:=Ew f g v r;rw[show eG f v ((k,x)::r)=(if k=f then(k,v)::r else(k,x)::eG f v r) from rfl];by_cases hk:k=f
  ·rw[if_pos hk];by_cases h:g=k
   ·have hb:(g==k)=true:=beq_iff_eq.mpr h;simp only[iq,hb,if_pos (h.trans hk)]
   ·have hb:(g==k)=false:=beq_eq_false_iff_ne.mpr h;simp only[iq,hb,if_neg (λe:g=f=>h (e.trans hk.symm))]
  ·rw[if_neg hk];by_cases h:g=k
   ·have hb:(g==k)=true:=beq_iff_eq.mpr h;simp only[iq,hb,if_neg (λe:g=f=>hk (h.symm.trans e))]
   ·have hb:(g==k)=false:=beq_eq_false_iff_ne.mpr h;simp only[iq,hb];exact ih
theorem yA(f:Str)(v:V):∀fs:List (Str×V),f∈(eG f v fs).map (·.1)/\∀g,g∈fs.map (·.1)->g∈(eG f v fs).map (·.1)
 |[]=>⟨by simp[eG],λg h=>by simp at h⟩
 |(k,x)::r=>by
  obtain⟨i1,i2⟩:=yA f v r;rw[show eG f v ((k,x)::r)=(if k=f then(k,v)::r else(k,x)::eG f v r) from rfl];by_cases hk:k=f
  ·rw[if_pos hk];subst hk;exact⟨by simp,λg h=>by simpa using h⟩
  ·rw[if_neg hk];refine⟨?_,λg h=>?_⟩
   ·rw[bL];exact cO _ i1
   ·rw[bL]at h ⊢;rcases bJ.mp h with e|e
    ·exact bJ.mpr (.inl e)
    ·exact cO _ (i2 g e)
theorem Ey(f:Str)(v:V):∀fs:List (Str×V),(eG f v fs).length<=fs.length+1
 |[]=>by simp[eG]
 |(k,x)::r=>by
  have ih:=Ey f v r;rw[show eG f v ((k,x)::r)=(if k=f then(k,v)::r else(k,x)::eG f v r) from rfl];by_cases hk:k=f
  ·rw[if_pos hk,bp,bp];lia
  ·rw[if_neg hk,bp,bp];lia
theorem fM.some_of{v:V}{o:Option Value}(r:fM (some v) o):∃u,o=some u/\RelV v u:=by
 cases o with
 |none=>exact(show False from r).elim
 |some u=>exact⟨u,rfl,r⟩
theorem fM.none_of{o:Option Value}(r:fM none o):o=none:=by
 cases o with
 |none=>rfl
 |some u=>exact(show False from r).elim
theorem Qa{v:V}{u:Value}(r:RelV v u):MR u=true:=show _ by
 cases v with
 |non=>cases (show u=Value.none from r);rfl
 |bl b=>cases (show u=Value.bool b from r);rfl
 |int i=>obtain⟨t,e⟩:=(show ∃t,u=Value.int i t from r);cases e;rfl
 |str x=>obtain⟨t,e⟩:=(show ∃t,u=Value.str x t from r);cases e;rfl
 |gx b=>obtain⟨t,e⟩:=(show ∃t,u=Value.bytes b t from r);cases e;rfl
 |flt b=>obtain⟨t,e⟩:=(show ∃t,u=Value.float b t from r);cases e;rfl
 |ref a=>cases (show u=Value.ref a from r);rfl
 |ty n=>cases (show u=Value.type n from r);rfl
section
variable{P:Program}{w:World}{H H':Hp}{h h':Heap}{a C dx:Addr}{fs fs':List (Str×V)}
theorem yB(hok:cb P w H h)(e:H a=some (.ins C dx fs)):∃mA,nk h a dx C mA/\(∀f,fM (fs.lookup f) (mA f))/\Cz mA (fs.map (·.1))/\fs.length<=1000/\H dx=some (.own a):=by
 obtain⟨d,z,ne,ob,mA,n,r,q⟩:=(show dk P w H h a (.ins C dx fs) from hok a _ e);exact⟨mA,⟨ob,n,ne⟩,r,q,z,d⟩
end
structure gA(K:aq)(C:Addr):Prop where
 pg:t8 K C Str.empty=true
 hd:xr K C=true
 po:CN K C=true
 sa:cP K (.ref C) "__setattr__"=some (some (.builtin "object.__setattr__"))
theorem gA.get{K:aq}{C:Addr}(c:gA K C)(f:Str):t8 K C f=true:=c.pg
def f6(K:aq)(C:Addr)(f:Str):Prop:=cP K (.ref C) f=some none
theorem f6.taker{K:aq}{C:Addr}{f:Str}(n:f6 K C f):CP K C f=some none:=by
 unfold CP;rw[show cP K (.ref C) f=some none from n];rfl
structure Meth(K:aq)(C:Addr)(m:Str)(f:Addr):Prop where
 at_:cP K (.ref C) m=some (some (.ref f))
 fn:ip K (.ref f)=true
 kp:a_ K (.ref f)=true
section
variable{X:Cx}{pins:List (Addr×Obj)}{σ:St}{H:Hp}{s:Shared}{a C dx:Addr}{fs:List (Str×V)}{f:Str}{v:V}{A:Around}{E:Value->Shared->Prop}
theorem Qb{b:Bool}{Q:Value->Shared->Prop}(I:Inv X pins σ H s)(e:H a=some (.ins C dx fs))(c:gA X.K C)(n:f6 X.K C f)(l:fs.lookup f=some v)
 (h:∀u s',Inv X pins σ H s'->RelV v u->Q u s'):wpAny (model X.prog X.w) A (getAttr (.ref a) f b) Q E s:=show _ by
 obtain⟨mA,O,r,_,_,_⟩:=yB I.hok e;obtain⟨u,hu,ru⟩:=fM.some_of (v:=v) (o:=mA f) (by rw[<-l];exact r f);exact get_map I.fZ O (c.get f) c.hd n hu (Qa ru) (h u _ (I.tok _) ru)
theorem Ez{m:Str}{g:Addr}{pl:Sem Bool}{Q:Value×List Value->Shared->Prop}(I:Inv X pins σ H s)(e:H a=some (.ins C dx fs))(c:gA X.K C)(k:Meth X.K C m g)(l:fs.lookup m=none)
 (h:Q (.ref g,[.ref a]) s):wpAny (model X.prog X.w) A (getMethod (.ref a) m pl) Q E s:=show _ by
 obtain⟨mA,O,r,_,_,_⟩:=yB I.hok e;have hn:mA m=none:=fM.none_of (by rw[<-l];exact r m);exact P8 I.fZ O (c.get m) k.at_ k.fn hn h
theorem Qc{y:V}{u:Value}{Q:Unit->Shared->Prop}(I:Inv X pins σ H s)(e:H a=some (.ins C dx fs))(c:gA X.K C)(n:f6 X.K C f)(hl:fs.length<1000)(ry:RelV y u)
 (h:∀s',Inv X pins σ (upd H a (.ins C dx (eG f y fs))) s'->Q () s'):wpAny (model X.prog X.w) A (setAttr (.ref a) f u) Q E s:=show _ by
 obtain⟨mA,O,r,wi,_,ho⟩:=yB I.hok e;have hz:(fs.map (·.1)).length<=sizeLine:=by rw[aG,CJ];lia
 refine P9 I.fZ O c.sa c.po n.taker c.hd wi hz λh' O' sb=>h _ ?_;have hd:∃o,h'.get? dx=some o:=let⟨o,_,_,e',_⟩:=O'.ns;⟨o,e'⟩
 refine I.write (x:=a) (e:=dx) (by rw[e];exact True.intro) (.inr ho) (λb q hb z=>(sb.2 b hb).trans z) hd ?_;refine⟨by rw[bg O.ne];exact ho,?_,O.ne,O'.obj,_,O'.ns,λg=>?_,λg hg=>?_⟩
 ·have:=Ey f y fs;lia
 ·show fM ((eG f y fs).lookup g) (if g=f then some u else mA g);rw[Ew];by_cases q:g=f
  ·rw[if_pos q,if_pos q];exact ry
  ·rw[if_neg q,if_neg q];exact r g
 ·by_cases q:g=f
  ·rw[q];exact(yA f y fs).1
  ·refine(yA f y fs).2 g (wi g λz=>hg ?_);show(if g=f then some u else mA g)=none;rw[if_neg q];exact z
theorem Inv.made(I:Inv X pins σ H s):Inv X pins σ (upd (upd H s.heap.objs.size (.own (s.heap.objs.size+1))) (s.heap.objs.size+1) (.ins C s.heap.objs.size []))
 {s with heap:=(s.heap.push lQ).push (mT C s.heap.objs.size)}:=show _ by
 have e1:(s.heap.push lQ).get? s.heap.objs.size=some lQ:=c7 s.heap rfl;have e2:((s.heap.push lQ).push (mT C s.heap.objs.size)).get? (s.heap.objs.size+1)=some (mT C s.heap.objs.size):=by
  have:=c7 (s.heap.push lQ) (o:=mT C s.heap.objs.size) rfl;rwa[ir]at this
 have e3:(s.heap.push lQ).Ns s.heap.objs.size (λ_=>none):=⟨lQ,#[],_,e1,rfl,(λe he=>absurd he (by simp)),λ_=>rfl⟩;have I1:=I.laid (a:=s.heap.objs.size) (o:=.own (s.heap.objs.size+1)) (h':=s.heap.push lQ) (t':=s.toks) (λb u q=>bA _ q) (aT _) ⟨_,e1⟩;refine I1.laid (a:=s.heap.objs.size+1) (o:=.ins C s.heap.objs.size []) (t':=s.toks) (λb u q=>bA _ q) (Nat.le_of_eq (ir _ _)) ?_;have ne:s.heap.objs.size≠s.heap.objs.size+1:=cW (xt _);refine⟨by rw[bg ne,d8],bV _,ne,e2,λ_=>none,(Heap.Ns1.of_empty e3).at λo q=>bA _ q,λ_=>True.intro,λy hy=>absurd rfl hy⟩
theorem Qd{prog:Program}{w:World}{env:Env}{e:Expr}{f:Str}{pos:Pos}{s:Shared}{Q:Value->Shared->Prop}(hb:attributeBase e f env (eval e env)=eval e env)
 (h:wpAny (model prog w) A (eval e env) (λo s₁=>wpAny (model prog w) A (getAttr o f true) Q E s₁) E s):wpAny (model prog w) A (eval (.Attribute e f pos) env) Q E s :=
 Attribute_any_ h (by rw[arm_eval_Attribute,hb])
end
def Qf(K:aq)(ta:TE)(f:Str):TE:=λσ H Q=>ta σ H λx H1=>∃a C dx fs v,x=.ref a/\H1 a=some (.ins C dx fs)/\gA K C/\f6 K C f/\fs.lookup f=some v/\Q v H1
def Qg(K:aq)(ta tv:TE)(f:Str):TS:=λD σ H=>tv σ H λy H1=>ta σ H1 λx H2=>∃a C dx fs,x=.ref a/\H2 a=some (.ins C dx fs)/\gA K C/\f6 K C f/\fs.length<1000 /\
 D.nx σ (upd H2 a (.ins C dx (eG f y fs)))
section
variable{X:Cx}{o e value:Expr}{f:Str}{pos pos' tpos:Pos}{ta tv:TE}
theorem Qh(he:PE X e ta)(hb:attributeBase e f X.env (eval e X.env)=eval e X.env):PE X (.Attribute e f pos) (Qf X.K ta f):=show _ by
 intro pins s σ H Q I h;refine Qd hb (aF (he pins s σ H _ I h) λu s1 ⟨x,H1,I1,rx,a,C,dx,fs,v,ex,ea,c,n,l,q⟩=>?_);subst ex;obtain rfl:u=Value.ref a:=rx;exact Qb I1 ea c n l λu' s2 I2 ru=>⟨v,H1,I2,ru,q⟩
theorem Qi(ha:PE X o ta)(hv:PE X value tv)(hs:swapsWith value (some (.Attribute o f pos')) pos.line X.env=pure false):PS X (.Assign [.Attribute o f pos'] value pos) (Qg X.K ta tv f):=show _ by
 intro pins s σ H D I h;refine plainObj_wpAny_Assign_Attribute (aF (hv pins s σ H _ I h) λu s1 ⟨y,H1,I1,ry,q⟩=>aF (ha pins s1 σ H1 _ I1 q) λov s2 ⟨x,H2,I2,rx,a,C,dx,fs,ex,ea,c,n,l,q2⟩=>?_) hs;subst ex;obtain rfl:ov=Value.ref a:=rx;exact Qc I2 ea c n l ry λs3 I3=>⟨σ,_,I3,q2⟩
end
structure bP(k:Nat)(A:Around):Prop where
 hd:A.handled=none
 dp:A.depth+3*k+5<recursionLimit
 un:A.units+16*k+200<cLine
theorem bP.mono{j k:Nat}{A:Around}(r:bP k A)(h:j<=k):bP j A:=⟨r.hd,by have:=r.dp;lia,by have:=r.un;lia⟩
theorem bP.deeper{k:Nat}{A:Around}(r:bP (k+1) A)(env:Env):bP k (A.deeper env) :=
 ⟨r.hd,by have:=r.dp;show A.depth+1+3*k+5<_;lia,by have:=r.un;show A.units+3+16*k+200<_;lia⟩
theorem Qj{A:Around}{C:Addr}{us:List Value}{kw:List (Str×Value)}:(A.under (.builtin "type.__call__" ⟨.ref C::us,kw⟩)).depth=A.depth+1:=by
 first|rfl|simp[CQ,Code.weight,Code.isCreation,Code.isGuard,Code.isCaller,Code.frames,CU,guardIds]
theorem Qk{A:Around}{C:Addr}{us:List Value}{kw:List (Str×Value)}:(A.under (.builtin "type.__call__" ⟨.ref C::us,kw⟩)).units=A.units+1:=by
 first|rfl|simp[CQ,Code.cUnits,Code.frames,CU]
theorem bP.make{k:Nat}{A:Around}(r:bP (k+1) A)(C:Addr)(us:List Value)(kw:List (Str×Value)):bP k (A.under (.builtin "type.__call__" ⟨.ref C::us,kw⟩)) :=
 ⟨r.hd,by have:=r.dp;rw[Qj];lia,by have:=r.un;rw[Qk];lia⟩
theorem bP.depth{k:Nat}{A:Around}(r:bP k A):A.depth<recursionLimit:=by have:=r.dp;lia
theorem bP.units{k:Nat}{A:Around}(r:bP k A):A.units+64<cLine:=by have:=r.un;lia
def Ql:TA:=λ_ H Q=>Q [] H
def Qm(ta:TE)(tr:TA):TA:=λσ H Q=>ta σ H λx H1=>tr σ H1 λxs H2=>Q (x::xs) H2
section
variable{X:Cx}{e:Expr}{es:List Expr}{te:TE}{t:TA}{pos:Pos}
theorem Qn:PA X [] Ql:=λ_ _ _ _ H Q I h=>MS ⟨[],H,I,.nil,h⟩
theorem Qo(ha:PE X e te)(hr:PA X es t)(hs:starEach (e::es) X.env=(false,eval e X.env)::starEach es X.env:=by rfl):PA X (e::es) (Qm te t):=show _ by
 intro pos pins s σ H Q I h;rw[hs];show wpAny _ _ (spliced ((false,eval e X.env)::backTo pos (starEach es X.env))) _ _ s;refine MT (aF (ha pins s σ H _ I h) λu s1 ⟨x,H1,I1,r1,q1⟩=>?_);exact aF (hr pos pins s1 σ H1 _ I1 q1) λus s2 rQ=>by obtain⟨xs,H2,I2,r2,q2⟩:=rQ;exact⟨x::xs,H2,I2,.cons r1 r2,q2⟩
def Qp(t:TA):TE:=λσ H Q=>t σ H λxs H1=>xs.length<=sizeLine/\∀p,H1 p=none->Q (.ref p) (upd H1 p (.tup xs))
def Qq(t:TA):TE:=λσ H Q=>t σ H λxs H1=>xs.length<=sizeLine/\∀p,H1 p=none->Q (.ref p) (upd H1 p (.lst xs))
theorem Qr{x1}(h:PA X es t):PE X (.Tuple es x1 pos) (Qp t):=show _ by
 intro pins s σ H Q I hq;refine wpAny_Tuple_spliced (aF (h pos pins s σ H _ I hq) λus s1 ⟨xs,H1,I1,r,z,q⟩=>⟨by rw[<-r.length];exact z,?_⟩);have hf:H1 s1.heap.objs.size=none:=I1.hok.fresh (aT _);refine⟨.ref s1.heap.objs.size,upd H1 s1.heap.objs.size (.tup xs),I1.laid (t':=s1.toks) (λb u e=>bA _ e) (aT _) ?_,rfl,q _ hf⟩;exact⟨z,us,r,⟨_,c7 _ rfl,rfl,_,rfl⟩,λo q=>by rw[c7 _ rfl]at q;cases q;rfl⟩
theorem Qt(h:PA X es t):PE X (.List es pos) (Qq t):=show _ by
 intro pins s σ H Q I hq;refine wpAny_List_spliced (aF (h pos pins s σ H _ I hq) λus s1 ⟨xs,H1,I1,r,z,q⟩=>⟨by rw[<-r.length];exact z,?_⟩);have hf:H1 s1.heap.objs.size=none:=I1.hok.fresh (aT _);refine⟨.ref s1.heap.objs.size,upd H1 s1.heap.objs.size (.lst xs),I1.laid (t':=s1.toks) (λb u e=>bA _ e) (aT _) ?_,rfl,q _ hf⟩;exact⟨z,us,0,r,c7 _ rfl⟩
end
abbrev Sp:=List V->Hp->VK->XK->Prop
abbrev f7:=List Env->Hp->Shared->XK->Value->Shared->Prop
structure nq(P:Program)(w:World)(K:aq)(mg:Str->Option Value)(base:Heap)(A:Around)(outer:List Env)(s:Shared)(H:Hp):Prop where
 frames:A.frames=some outer
 mod:Mod K mg base
 bs:∀b o,base.get? b=some o->s.heap.get? b=some o/\H b=none
 gT:base.objs.size<=s.heap.objs.size
 fu:s.heap.FunFrames base outer
 i7:∀b∈frs outer,H b=none
 hok:cb P w H s.heap
 bare:AllBare s.gens
def CE(outer:List Env)(P:Program)(w:World)(H:Hp)(s:Shared)(Q:VK)(u:Value)(s':Shared):Prop :=
 ∃v H',s'.os=s.os/\AllBare s'.gens/\Un (frs outer) [] H H' s.heap s'.heap/\cb P w H' s'.heap/\RelV v u/\Q v H'
def CR(CX:f7)(outer:List Env)(P:Program)(w:World)(H:Hp)(s:Shared)(Q:VK)(E:XK)(r:Result)(s':Shared):Prop :=
 match r with
 | .ok (.ret u)=>CE outer P w H s Q u s'
 | .ok _=>False
 | .error e=>CX outer H s E e s'
structure dn(P:Program)(w:World)(K:aq)(mg:Str->Option Value)(base:Heap)(CX:f7)(k:Nat)(f:Addr)(fd:FuncData)(ps:List Str)(sp:Sp):Prop where
 len:∀vs H Q E,sp vs H Q E->vs.length=ps.length
 run:∀(A:Around) (outer:List Env) (s:Shared) (H:Hp) (args:Args) (us:List Value) (vs:List V) (Q:VK) (E:XK),bP k A->nq P w K mg base A outer s H->BindsTo s fd args (ps.zip us)->Vals vs us->sp vs H Q E ->
  codeAny (model P w) A (.call (.ref f) args) (CR CX outer P w H s Q E) s
theorem dn.mono{P:Program}{w:World}{K:aq}{mg:Str->Option Value}{base:Heap}{CX:f7}{j k:Nat}{f:Addr}{fd:FuncData}{ps:List Str}{sp:Sp}(F:dn P w K mg base CX j f fd ps sp)(h:j<=k) :
 dn P w K mg base CX k f fd ps sp:=⟨F.len,λA outer s H args us vs Q E hr=>F.run A outer s H args us vs Q E (hr.mono h)⟩
theorem dn.imp{P:Program}{w:World}{K:aq}{mg:Str->Option Value}{base:Heap}{CX:f7}{k:Nat}{f:Addr}{fd:FuncData}{ps:List Str}{sp gU:Sp}(F:dn P w K mg base CX k f fd ps sp)
 (h:∀vs H Q E,gU vs H Q E->sp vs H Q E):dn P w K mg base CX k f fd ps gU :=
 ⟨λvs H Q E q=>F.len vs H Q E (h _ _ _ _ q),λA outer s H args us vs Q E hr he hb hv hs=>F.run A outer s H args us vs Q E hr he hb hv (h _ _ _ _ hs)⟩
theorem nq.make{P:Program}{w:World}{K:aq}{mg:Str->Option Value}{base:Heap}{A:Around}{outer:List Env}{s:Shared}{H:Hp}(e:nq P w K mg base A outer s H)(C:Addr)(us:List Value)(kw:List (Str×Value)) :
 nq P w K mg base (A.under (.builtin "type.__call__" ⟨.ref C::us,kw⟩)) outer s H:=⟨by first|exact e.frames|(simpa[CQ,Code.envs,CU,pushEnvs]using e.frames),e.mod,e.bs,e.gT,e.fu,e.i7,e.hok,e.bare⟩
section
variable{X:Cx}{pins:List (Addr×Obj)}{σ:St}{H:Hp}{s s':Shared}
theorem Inv.env0(I:Inv X pins σ H s):nq X.prog X.w X.K X.mg X.base X.A X.stack s H :=
 ⟨I.ok.frames,I.ok.mod,I.bs,cC I.ok.gT I.sz,I.stack,I.uE,I.hok,I.bare⟩
theorem Inv.after{Q:VK}{u:Value}(I:Inv X pins σ H s)(h:CE X.stack X.prog X.w H s Q u s'):EP X pins σ Q u s':=show _ by
 obtain⟨v,H',os,bare,un,hok,r,q⟩:=h;obtain⟨hh,g,d,t,os'⟩:=s';obtain rfl:os'=s.os:=os;exact⟨v,H',I.call (h':=hh) (g':=g) (d':=d) (t':=t) (ch:=[]) un hok bare (λb z=>absurd z (by simp)),r,q⟩
end
def Binds(K:aq)(fd:FuncData)(ps:List Str)(ds:List Value):Prop :=
 ∀(s:Shared) (us:List Value),K.In s.heap->(us++ds).length=ps.length->BindsTo s fd ⟨us,[]⟩ (ps.zip (us++ds))
theorem Binds.all{K:aq}{fd:FuncData}{ps:List Str}(h:∀us:List Value,us.length=ps.length->bindArgs fd ⟨us,[]⟩=pure (ps.zip us)):Binds K fd ps []:=λs us _ hl=>by
 rw[gP]at hl ⊢;exact .of_eq (h us hl)
def Passes(CX:f7)(X:Cx)(E:XK):Prop:=∀(pins:List (Addr×Obj)) (σ:St) (H:Hp) (s:Shared) (e:Value) (s':Shared),Inv X pins σ H s->CX X.stack H s E e s'->X.xe e s'
section
variable{X:Cx}{CX:f7}{k:Nat}{f C:Addr}{fd:FuncData}{ps:List Str}{sp:Sp}{rR:List V}{ds:List Value}{E:XK}{x m:Str}{p pos apos:Pos}{e o:Expr}{es:List Expr}{ta:TE}{t:TA}
structure Mk(K:aq)(C f:Addr):Prop where
 makes:t9 K C=true
 init:cP K (.ref C) "__init__"=some (some (.ref f))
 fn:ip K (.ref f)=true
 kp:a_ K (.ref C)=true
end
structure a8(N P:List Str)(sc:Scope):Prop where
 kind:sc.kind=.function
 co:sc.isCoroutine=false
 gen:sc.isGenerator=false
 nd:N.Nodup
 pre:N.take P.length=P
 par:∀x∈P,sc.names.lookup x=some .local∨sc.names.lookup x=some .cell
 Qu:∀y∈sc.names,y.2≠.free
theorem EA{kindOf:Str->Option NameKind}{x:Str}:∀{binds:List (Str×Value)} {m:Str->Option Value},(∀v,(x,v)∉binds)->bindL kindOf binds m x=m x
 |[],_,_=>rfl
 |(n,v)::r,m,h=>by
  unfold bindL;rw[EA λw hw=>h w (cO _ hw)]
  split
  ·have:x≠n:=by rintro rfl;exact h v cL
   simp[this]
  ·rfl
theorem EB{kindOf:Str->Option NameKind}{x:Str}:∀{binds:List (Str×Value)} {m:Str->Option Value},(∀v,(x,v)∉binds)->bindC kindOf binds m x=m x
 |[],_,_=>rfl
 |(n,v)::r,m,h=>by
  unfold bindC;rw[EB λw hw=>h w (cO _ hw)]
  split
  ·rfl
  ·have:x≠n:=by rintro rfl;exact h v cL
   simp[this]
theorem EC{kindOf:Str->Option NameKind}{x:Str}{v:Value}:∀{P:List Str} {vs:List Value} {i:Nat} {m:Str->Option Value},P.Nodup->P[i]?=some x->vs[i]?=some v->kindOf x=some .local ->
 bindL kindOf (P.zip vs) m x=some v
 |[],_,_,_,_,h,_,_=>by simp at h
 |_::_,[],_,_,_,_,h,_=>by simp at h
 |p::P,w::vs,0,m,nd,h1,h2,hk=>by
  simp at h1 h2;subst h1;subst h2;show bindL kindOf ((p,w)::P.zip vs) m p=_;unfold bindL;rw[EA λv hv=>(iZ.mp nd).1 (CV hv).1,if_pos hk];simp
 |p::P,w::vs,i+1,m,nd,h1,h2,hk=>by
  show bindL kindOf ((p,w)::P.zip vs) m x=_;unfold bindL;exact EC (i:=i) (iZ.mp nd).2 (by simpa using h1) (by simpa using h2) hk
theorem ED{kindOf:Str->Option NameKind}{x:Str}{v:Value}:∀{P:List Str} {vs:List Value} {i:Nat} {m:Str->Option Value},P.Nodup->P[i]?=some x->vs[i]?=some v->kindOf x≠some .local ->
 bindC kindOf (P.zip vs) m x=some v
 |[],_,_,_,_,h,_,_=>by simp at h
 |_::_,[],_,_,_,_,h,_=>by simp at h
 |p::P,w::vs,0,m,nd,h1,h2,hk=>by
  simp at h1 h2;subst h1;subst h2;show bindC kindOf ((p,w)::P.zip vs) m p=_;unfold bindC;rw[EB λv hv=>(iZ.mp nd).1 (CV hv).1,if_neg hk];simp
 |p::P,w::vs,i+1,m,nd,h1,h2,hk=>by
  show bindC kindOf ((p,w)::P.zip vs) m x=_;unfold bindC;exact ED (i:=i) (iZ.mp nd).2 (by simpa using h1) (by simpa using h2) hk
def start(N:List Str)(vs:List V):St:=vs.map some++fK (N.length-vs.length) none
def cX(CX:f7)(P:Program)(w:World)(K:aq)(mg:Str->Option Value)(base:Heap)(N:List Str)(qual:Str)(scope:Scope)(f:Addr)(cd:Value)(A:Around)(outer:List Env)(s:Shared)(H:Hp)(E:XK):Cx where
 prog:=P
 w:=w
 K:=K
 mg:=mg
 base:=base
 A:=A.deeper (envOfC qual scope s.heap.objs.size f cd)
 N:=N
 s₀:=s
 H₀:=H
 env:=envOfC qual scope s.heap.objs.size f cd
 outer:=outer
 stack:=envOfC qual scope s.heap.objs.size f cd::outer
 ex:=[]
 calm:=true
 fn:=λ_=>true
 pn:=[]
 xe:=λe s'=>wpAny (model P w) (A.deeper (envOfC qual scope s.heap.objs.size f cd)) (leaving (envOfC qual scope s.heap.objs.size f cd) e) (λ_ s''=>CX outer H s E e s'') (λe' s''=>CX outer H s E e' s'') s'
theorem EF{sc:Scope}{n:Nat}{x:Str}(h:sc.names.lookup x=some .cell):∃c,(cellsFrom n sc.names []).lookup x=some c:=by
 have q:=xu sc.names n [] (.inl h);exact CW.mp q
theorem Qv{CX:f7}{P:Program}{w:World}{K:aq}{mg:Str->Option Value}{base:Heap}{N ps:List Str}{qual:Str}{scope:Scope}{f:Addr}{cd:Value}{A:Around}{outer:List Env}{s s1:Shared}{H:Hp}{E:XK}{us:List Value}{vs:List V}
 (S:a8 N ps scope) (hd:A.handled=none) (e0:nq P w K mg base A outer s H) (hl:vs.length=ps.length) (r:Vals vs us)
 (x:InCallC s s.heap.objs.size (bindL (envOfC qual scope s.heap.objs.size f cd).kindOf (ps.zip us) λ_=>none) (cellsFrom (s.heap.objs.size+1) scope.names []) (bindC (envOfC qual scope s.heap.objs.size f cd).kindOf (ps.zip us) λ_=>none) s1) :
 Inv (cX CX P w K mg base N qual scope f cd A outer s H E) [] (start N vs) H s1:=show _ by
 have hpl:ps.length<=N.length:=by have:=congrArg ki S.pre;rw[dP]at this;lia
 obtain⟨h1,tk,rfl,hk⟩:=x.done;have rS:∀b:Addr,b∉(cX CX P w K mg base N qual scope f cd A outer s H E).ex:=λb z=>absurd (show b∈([]:List Addr) from z) (by simp);refine⟨⟨e0.mod,S.kind,rfl,rfl,aT _,λy z c h1 h2=>?_,λy hy=>?_,λy c _ h=>?_,λ_=>hd,Around.frames_deeper e0.frames,.inr ⟨rfl,rfl⟩,λb z=>absurd z (rS b),e0.bs,e0.gT,λb _ _=>rS b,λb z=>absurd z (rS b),e0.fu,e0.i7⟩,
  rfl,e0.bare,Un.kept hk,⟨_,x.toInCall.ns,λi y v h1 h2 h3=>?_⟩,λy c h=>⟨_,x.cell y c h⟩,e0.hok.fresh (aT _),λy c h=>?_,λp hp=>absurd (show p∈([]:List (Addr×Obj)) from hp) (by simp),e0.hok.kept hk,?_⟩
 ·exact name_of_addr x.apart (jC h1) (jC h2)
 ·have hy:scope.names.lookup y=some .cell∨scope.names.lookup y=some .free:=hy;rcases hy with hy|hy
  ·exact EF hy
  ·exact absurd rfl (S.Qu _ (jC hy))
 ·exact mU (x.above y c (jC h))
 ·have hi:i<vs.length:=by
   unfold start at h2;by_cases hi:i<vs.length
   ·exact hi
   ·rw[mX (by simpa using hi)]at h2;rw[MU]at h2
    split at h2<;>cases h2
  have ha:vs[i]?=some v:=by
   unfold start at h2;rw[lR (by simpa using hi),a7]at h2;cases e:vs[i]? with
   |none=>rw[e]at h2;cases h2
   |some a=>rw[e]at h2;cases h2;rfl
  obtain⟨u,hu,rv⟩:=r.get ha;have hp:ps[i]?=some y:=by
   rw[<-S.pre,MV (by lia)];exact h1
  have EG:ps.Nodup:=by rw[<-S.pre];exact S.nd.sublist (MW _ _)
  refine⟨u,rv,?_⟩;rcases S.par y (c8 hp) with k|k
  ·exact .inl ⟨k,EC EG hp hu k⟩
  ·obtain⟨c,e⟩:=EF (n:=s.heap.objs.size+1) k;refine .inr ⟨.inl k,c,e,?_⟩;have q:=x.cell y c e;rw[ED EG hp hu (by show scope.names.lookup y≠_;rw[k];decide)]at q;exact q
 ·exact e0.hok.fresh (mU (x.above y c (jC h)))
 ·unfold start;show _=N.length;rw[aR,aG,MX];lia
theorem uT{CX:f7}{P:Program}{w:World}{K:aq}{mg:Str->Option Value}{base:Heap}{k:Nat}{f:Addr}{name qual:Str}{params:Arguments}{body:List Stmt}{scope:Scope}{dV kV doc pm cdv ct oc:Value}{an od:Option Addr}
 {osl:Array (Option Value)} {N ps:List Str} {sp:Sp} (lk:K.lookup f=some ⟨oc,od,.func (ba name qual params body scope dV kV doc pm an cdv ct),osl⟩) (hcd:bB K cdv qual=true) (S:a8 N ps scope)
 (len:∀vs H Q E,sp vs H Q E->vs.length=ps.length)
 (hbody:∀(A:Around) (outer:List Env) (s:Shared) (H:Hp) (vs:List V) (Q:VK) (E:XK),bP k (A.deeper (envOfC qual scope s.heap.objs.size f cdv))->sp vs H Q E ->
  ∃t,fh (cX CX P w K mg base N qual scope f cdv A outer s H E) body t/\t {nx:=λ_ H'=>Q .non H',rt:=Q} (start N vs) H) :
 dn P w K mg base CX (k+1) f (ba name qual params body scope dV kV doc pm an cdv ct) ps sp:=show _ by
 refine⟨len,λA outer s H args us vs Q E hr e0 hb r hsp=>?_⟩;have hl:=len _ _ _ _ hsp;have KX:K.In s.heap:=e0.mod.m_.keeps λb o e=>(e0.bs b o e).1;have lim:s.heap.NoLimit:=e0.mod.nolimit.keeps λb o e=>(e0.bs b o e).1;have hkind:∀y∈ps.zip us,scope.names.lookup y.1=some .local∨(scope.names.lookup y.1=some .cell/\((cellsFrom (s.heap.objs.size+1) scope.names []).lookup y.1).isSome=true):=λrT hy=>by
  obtain⟨n,v⟩:=rT;rcases S.par n (CV hy).1 with q|q
  ·exact .inl q
  ·exact .inr ⟨q,xu _ _ _ (.inl q)⟩
 refine codeAny_call_function hr.depth (KX _ _ lk) rfl S.co S.gen rfl (PySem.W.codeRec_of KX hcd) (hb _ _ _ _ ?_);refine wpAny_newFunctionEnv_cells S.kind hkind λenv he s1 x=>?_;subst he;refine⟨lim.keeps x.toInCall.keep,codeAny_func ?_⟩;obtain⟨t,ht,hq⟩:=hbody A outer s H vs Q E (hr.deeper _) hsp;have I:Inv (cX CX P w K mg base N qual scope f cdv A outer s H E) [] (start N vs) H s1:=Qv S hr.hd e0 hl r x;refine fo (ht [] s1 (start N vs) H _ I hq) (λfl s' hs=>?_) λe s' hs=>hs;have fin:∀{σ':St} {H':Hp} {v:V} {u:Value},Inv (cX CX P w K mg base N qual scope f cdv A outer s H E) [] σ' H' s'->RelV v u->Q v H'->CE outer P w H s Q u s' :=
  λ{σ' H' v u} J rv q=>⟨v,H',J.os,J.bare,J.base,J.hok,rv,q⟩
 cases fl with
 |ret u =>
  obtain⟨v,σ',H',J,rv,q⟩:=hs;exact fin J rv q
 |next =>
  obtain⟨σ',H',J,q⟩:=hs;exact fin (v:=V.non) (u:=Value.none) J rfl q
 |brk =>
  obtain⟨_,_,_,q⟩:=hs;exact eX q
 |cont =>
  obtain⟨_,_,_,q⟩:=hs;exact eX q
section
variable{X:Cx}{x:Str}{p pos:Pos}{e:Expr}{es:List Expr}{t:TA}{id T:String}{r:List V->Hp->VK->Prop}
def yC(r:List V->Hp->VK->Prop)(t:TA):TE:=λσ H Q=>t σ H λvs H1=>r vs H1 Q
theorem Qw(hc:ja X (.builtin id) r)(hg:Gl X x)(hm:X.mg x=none)(hv:bootBuiltins x=some (.builtin id))(ha:PA X (e::es) t)(hn:x≠"__name__":=by decide)(hdb:(x==("__debug__":Str))=false:=by decide)
 (he:starEach (e::es) X.env=(false,eval e X.env)::starEach es X.env:=by rfl) (hpl:(backTo pos (starEach es X.env)).any (·.1)=false:=by rfl):PE X (.Call (.Name x p) (e::es) [] pos) (yC r t):=show _ by
 intro pins s σ H Q I h;refine xw (kC I hg hm hv ?_ hn hdb);exact PyProof.Rows.callWith_builtin1 (aF (ha pos pins s σ H _ I h) λus s1 z_14=>by obtain⟨vs,H1,I1,r1,q1⟩:=z_14;exact hc pins s1 σ H1 vs us Q I1 r1 q1) he hpl
theorem Qx(hc:ja X (.type T) r)(hg:Gl X x)(hm:X.mg x=none)(hv:bootBuiltins x=some (.type T))(ha:PA X (e::es) t)(hn:x≠"__name__":=by decide)(hdb:(x==("__debug__":Str))=false:=by decide)
 (he:starEach (e::es) X.env=(false,eval e X.env)::starEach es X.env:=by rfl) (hpl:(backTo pos (starEach es X.env)).any (·.1)=false:=by rfl):PE X (.Call (.Name x p) (e::es) [] pos) (yC r t):=show _ by
 intro pins s σ H Q I h;refine xw (kC I hg hm hv ?_ hn hdb);exact mW (aF (ha pos pins s σ H _ I h) λus s1 rU=>by obtain⟨vs,H1,I1,r1,q1⟩:=rU;exact hc pins s1 σ H1 vs us Q I1 r1 q1) he hpl
end
end L2
namespace HT
open PySem PyProof.Rows
section
open PySem.SeqAt
open PySem.AutoSeq1 (wpAny_loadPart')
open PySem.MeetsSeq PySem.MeetsSeq2 PySem.MeetsSeq3
end
section
variable{prog:Program}{w:World}{A:Around}{E:Value->Shared->Prop}{s:Shared}
theorem Qy{t b:Addr}{vs ws:List Value}{Q:Value->Shared->Prop}(ht:IsTup s.heap t vs.toArray)(hb:IsTup s.heap b ws.toArray)(hv:vs≠[])
 (h1:ws=[]->Q (.ref t) s) (h2:ws≠[]->Q (.ref s.heap.objs.size) {s with heap:=s.heap.push {cls:=.type "tuple",data:=.seq (vs++ws).toArray}})
 (hsz:vs.length+ws.length<=sizeLine):wpAny (model prog w) A (binaryOp .Add (.ref t) (.ref b)) Q E s:=show _ by
 obtain⟨⟨cls,dd,data,sl⟩,ho,hc,n,hd⟩:=id ht;obtain⟨⟨cls2,dd2,data2,sl2⟩,ho2,hc2,n2,hd2⟩:=id hb;simp only at hc hd hc2 hd2;subst hc hd hc2 hd2;have e:vs.toArray++ws.toArray=(vs++ws).toArray:=by simp
 by_cases hw:ws=[]
 ·exact CY ⟨_,ho,rfl⟩ ⟨_,ho2,rfl⟩ CZ C1 C2 C3 (C4 _ _)
   (tuple_addW1 t b vs.toArray ws.toArray n n2 dd dd2 sl sl2 (by simpa using hv) (by simp[hw])) ⟨ho,ho2,h1 hw⟩
 ·refine CY ⟨_,ho,rfl⟩ ⟨_,ho2,rfl⟩ CZ C1 C2 C3 (C4 _ _)
   (tuple_addW2 t b vs.toArray ws.toArray n n2 dd dd2 sl sl2 (by simpa using hv) (by simpa using hw) (by rw[cj,cj];exact hsz)) ⟨ho,ho2,?_⟩
  rw[e];exact h2 hw
def aM(n d:Nat):Option Int->Nat
 |none=>d
 |some v=>if v<0 then(v+(n:Int)).toNat else min v.toNat n
theorem rV(n d:Nat):aM n d none=d:=rfl
theorem rW(n d k:Nat):aM n d (some (k:Int))=min k n:=by
 show(if(k:Int)<0 then((k:Int)+(n:Int)).toNat else min (k:Int).toNat n)=min k n;rw[if_neg (by lia),jD]
theorem yD(n d:Nat)(hd:d<=n)(o:Option Int):aM n d o<=n:=by
 cases o with
 |none=>exact hd
 |some v =>
  show(if v<0 then(v+(n:Int)).toNat else min v.toNat n)<=n;by_cases hv:v<0
  ·rw[if_pos hv];lia
  ·rw[if_neg hv];exact Nat.min_le_right _ _
theorem EH(v:Int)(n d:Nat):(if v<0 then max (v+(n:Int)) 0 else min v (n:Int))=((aM n d (some v):Nat):Int):=by
 show(if v<0 then max (v+(n:Int)) 0 else min v (n:Int))=(((if v<0 then(v+(n:Int)).toNat else min v.toNat n):Nat):Int);by_cases hv:v<0
 ·simp only[if_pos hv];lia
 ·simp only[if_neg hv];lia
theorem Qz(lo hi:Option Int)(n:Nat):C5 lo hi 1 (n:Int)=(((aM n 0 lo:Nat):Int),((aM n n hi:Nat):Int)):=show _ by
 have h1:¬((1:Int)<0):=by lia
 unfold C5;simp only[h1,if_false];refine Prod.ext ?_ ?_
 ·cases lo with
  |none=>rfl
  |some v=>exact EH v n 0
 ·cases hi with
  |none=>rfl
  |some v=>exact EH v n n
theorem QB(i j:Nat):xx (i:Int) (j:Int) 1=j-i:=by
 unfold xx;have h1:(1:Int)>0:=by lia
 simp only[h1,if_true,Int.ediv_one]
 split<;>lia
theorem EI{v:Value}{o:Option Int}{Q:Option Int->Shared->Prop}(p:IsPart v o)(h:Q o s):wpAny (model prog w) A (aim v) Q E s:=by
 cases p with
 |none=>exact slicePart_none h
 |int i t=>exact slicePart_int h
theorem EJ{sl:Addr}{vl vu:Value}{lo hi:Option Int}{n:Nat}{Q:Int×Int×Nat->Shared->Prop}(hs:s.heap.IsSliceOf sl vl vu .none)(pl:IsPart vl lo)(pu:IsPart vu hi)
 (h:Q (((aM n 0 lo:Nat):Int),1,aM n n hi-aM n 0 lo) s):wpAny (model prog w) A (MY (.ref sl) (pure (n:Int))) Q E s:=show _ by
 obtain⟨os,hos,hcs,hds⟩:=id hs;unfold MY ain;refine ai (ai (c9 hos hds (x:=vl) rfl (ai (c9 hos hds (x:=vu) rfl (ai (c9 hos hds (x:=.none) rfl (aB ?_)))))));refine ai (slicePart_none ?_);show wpAny _ _ (if((1:Int)==0)=true then _ else _) _ _ s;rw[if_neg (by decide)];refine ai (EI pl (ai (EI pu (ai (aB ?_)))));show wpAny _ _ (match C5 lo hi 1 (n:Int) with|(lo,hi)=>pure (lo,(1:Int),xx lo hi 1)) _ _ s;rw[Qz lo hi n];show wpAny _ _ (pure (((aM n 0 lo:Nat):Int),(1:Int),xx ((aM n 0 lo:Nat):Int) ((aM n n hi:Nat):Int) 1)) _ _ s;rw[QB];exact aB h
theorem QC(xs:Array Value)(i k:Nat):((aZ k).filterMap λ(m:Nat)=>xs[((i:Int)+(m:Int)*1).toNat]?).toArray=((xs.toList.drop i).take k).toArray:=show _ by
 have e:(λ(m:Nat)=>xs[((i:Int)+(m:Int)*1).toNat]?)=λm=>xs[i+m]?:=by
  funext m;have:((i:Int)+(m:Int)*1).toNat=i+m:=by lia
  rw[this]
 rw[e];have:=pick_run xs i k;rw[List.filterMap_map]at this;have e2:((λx=>xs[x]?) ∘ λx=>i+x)=λm=>xs[i+m]?:=rfl;rw[e2]at this;rw[this]
theorem QD{t sl:Addr}{items:Array Value}{vl vu:Value}{lo hi:Option Int}{Q:Value->Shared->Prop}(ht:IsTup s.heap t items)(hs:s.heap.IsSliceOf sl vl vu .none)(pl:IsPart vl lo)(pu:IsPart vu hi)
 (hw:¬(aM items.size 0 lo=0/\aM items.size items.size hi=items.size))
 (h:Q (.ref s.heap.objs.size) {s with heap:=s.heap.push {cls:=.type "tuple",data:=.seq ((items.toList.drop (aM items.size 0 lo)).take (aM items.size items.size hi-aM items.size 0 lo)).toArray}})
 (hsz:items.size<=sizeLine):wpAny (model prog w) A (getItem (.ref t) (.ref sl)) Q E s:=show _ by
 have uU:sizeOk (.seq ((items.toList.drop (aM items.size 0 lo)).take (aM items.size items.size hi-aM items.size 0 lo)).toArray):=by
  show((items.toList.drop (aM items.size 0 lo)).take (aM items.size items.size hi-aM items.size 0 lo)).toArray.size<=sizeLine;rw[cj,dP,fg,ML];lia
 have hj:aM items.size items.size hi<=items.size:=yD _ _ (aT _) hi;obtain⟨os,hos,hcs,hds⟩:=id hs;have hTs:s.TypeIs (.ref sl) "slice":=⟨os,hos,hcs⟩;unfold getItem
 try with_reducible refine mV ?_
 first|refine ai (aB ?_)|skip
 refine ai (MZ ht.typeIs (by decide) ?_);refine ai (kj (name:=jE "__getitem__") ht.typeIs lU
  (ij lU ht.typeIs M0 ?_ (M1 _ _)))
 show wpAny _ _ (Cv (.ref t) >>= _) _ _ s;refine ai (tupleItemsOf_ ht ?_);refine ai (oQ hTs ?_);rw[if_pos (by decide)];refine ai (EJ hs pl pu ?_);have hno:¬((((aM items.size 0 lo:Nat):Int)==0&&(1:Int)==1&&(aM items.size items.size hi-aM items.size 0 lo)==items.size)=true):=by
  intro q;rw[gq,gq]at q;have q1:((aM items.size 0 lo:Nat):Int)=0:=eq_of_beq q.1.1;have q2:aM items.size items.size hi-aM items.size 0 lo=items.size:=eq_of_beq q.2;exact hw ⟨by lia,by lia⟩
 show wpAny _ _ (if(((aM items.size 0 lo:Nat):Int)==0&&(1:Int)==1&&(aM items.size items.size hi-aM items.size 0 lo)==items.size)=true then _ else _) _ _ s;rw[if_neg hno,QC]
 first
  |exact ai (m:=xy _) (jF (aB ⟨_,rfl,aB h⟩) uU)
  |exact ai (m:=xy _) (jF (ai (aB (aB ⟨_,rfl,aB h⟩))) uU)
  |exact ai (ai (m:=xy _) (jF (aB (aB ⟨_,rfl,aB h⟩)) uU))
  |exact ai (ai (m:=xy _) (jF (aB ⟨_,rfl,aB h⟩) uU))
end
end HT
namespace L2
open PySem PySem.Spec PyProof.Rows
abbrev TO:=St->Hp->(Option Int->Hp->Prop)->Prop
def PO(X:Cx)(e:Option Expr)(t:TO):Prop :=
 ∀(pins:List (Addr×Obj)) (s:Shared) (σ:St) (H:Hp) (Q:Option Int->Hp->Prop),Inv X pins σ H s->t σ H Q ->
  wpAny (model X.prog X.w) X.A (evalPart e X.env) (λu s'=>∃o H',Inv X pins σ H' s'/\IsPart u o/\Q o H') X.xe s
def QE:TO:=λ_ H Q=>Q none H
def QF(t:TE):TO:=λσ H Q=>t σ H λx H1=>∃i,x=.int i/\Q (some i) H1
section
variable{X:Cx}{e:Expr}{te:TE}{lo hi:Option Expr}{tl th:TO}{pos p2:Pos}
theorem QG:PO X none QE:=by
 intro pins s σ H Q I h;rw[evalPart_none];exact aB ⟨none,H,I,.none,h⟩
theorem QH(h:PE X e te):PO X (some e) (QF te):=by
 intro pins s σ H Q I hw;rw[evalPart_some];refine aF (h pins s σ H _ I hw) λu s1 ⟨x,H1,I1,r1,q1⟩=>?_;obtain⟨i,rfl,q⟩:=q1;obtain⟨t,rfl⟩:=r1;exact⟨some i,H1,I1,.int i t,q⟩
def o9(X:Cx)(r:V->Option Int->Option Int->Hp->VK->Prop):Prop :=
 ∀(pins:List (Addr×Obj)) (s:Shared) (σ:St) (H:Hp) (x:V) (v vl vu:Value) (lo hi:Option Int) (sl:Addr) (Q:VK),Inv X pins σ H s->RelV x v->s.heap.IsSliceOf sl vl vu .none->IsPart vl lo->IsPart vu hi->r x lo hi H Q ->
  ∃T id,typeLookup (.type T) "__getitem__"=pure (some (.builtin id))/\s.TypeIs v T/\wpAny (model X.prog X.w) X.A (getItem v (.ref sl)) (EP X pins σ Q) X.xe s
def QI(r:V->Option Int->Option Int->Hp->VK->Prop)(te:TE)(tl th:TO):TE:=λσ H Q=>te σ H λx H1=>tl σ H1 λl H2=>th σ H2 λu H3=>r x l u H3 Q
theorem QJ{r:V->Option Int->Option Int->Hp->VK->Prop}(hr:o9 X r)(he:PE X e te)(hl:PO X lo tl)(hu:PO X hi th):PE X (.Subscript e (.Slice lo hi none p2) pos) (QI r te tl th):=show _ by
 intro pins s σ H Q I h;refine C6 (aF (he pins s σ H _ I h) λv s1 ⟨x,H1,I1,r1,q1⟩=>?_);refine wpAny_Slice (aF (hl pins s1 σ H1 _ I1 q1) λvl s2 ⟨l,H2,I2,pl,q2⟩=>aF (hu pins s2 σ H2 _ I2 q2) λvu s3 ⟨u,H3,I3,pu,q3⟩=>?_);rw[evalPart_none];refine aB ?_;have I4:Inv X pins σ H3 {s3 with heap:=s3.heap.push {cls:=.type "slice",data:=.fields #[vl,vu,.none]}}:=I3.kept (t':=s3.toks) λb ob q=>bA _ q;obtain⟨T,id,hT,ht,hg⟩:=hr pins {s3 with heap:=s3.heap.push {cls:=.type "slice",data:=.fields #[vl,vu,.none]}} σ H3 x v vl vu l u s3.heap.objs.size Q I4 r1 (aio ..) pl pu q3;show wpAny (model X.prog X.w) X.A (subscriptTail e (.Slice lo hi none p2) v (.ref s3.heap.objs.size)) (EP X pins σ Q) X.xe {s3 with heap:=s3.heap.push {cls:=.type "slice",data:=.fields #[vl,vu,.none]}};exact tail_any (ops:=[.ref s3.heap.objs.size,v]) ht hT hg (by with_unfolding_all rfl)
def kI(xs:List V)(lo hi:Option Int):List V:=(xs.drop (HT.aM xs.length 0 lo)).take (HT.aM xs.length xs.length hi-HT.aM xs.length 0 lo)
theorem EK(xs:List V)(lo hi:Option Int):(kI xs lo hi).length<=xs.length:=by
 unfold kI;rw[dP,fg];lia
def QK(K:aq):V->Option Int->Option Int->Hp->VK->Prop:=λx lo hi H Q=>∃a xs,x=.ref a/\bq K H a xs /\
 ¬(HT.aM xs.length 0 lo=0/\HT.aM xs.length xs.length hi=xs.length)/\∀p,H p=none->Q (.ref p) (upd H p (.tup (kI xs lo hi)))
theorem QL:o9 X (QK X.K):=show _ by
 intro pins s σ H x v vl vu lo hi sl Q I rx hs pl pu h;obtain⟨a,xs,rfl,hx,hw,q⟩:=h;cases rx;obtain⟨its,r,ht,hz⟩:=I.tuple hx;have hlen:its.toArray.size=xs.length:=by rw[cj];exact r.length.symm
 refine⟨"tuple",_,lU.lookup,ht.typeIs,?_⟩;refine HT.QD ht hs pl pu (by rw[hlen];exact hw) ?_ (by rw[hlen];exact hz);rw[hlen];refine⟨.ref s.heap.objs.size,_,I.laid (t':=s.toks) (o:=.tup (kI xs lo hi)) (λb ob q=>bA _ q) (aT _) ?_,rfl,q _ (I.hok.fresh (aT _))⟩;exact⟨cC (EK xs lo hi) hz,_,(r.drop (HT.aM xs.length 0 lo)).take (HT.aM xs.length xs.length hi-HT.aM xs.length 0 lo),C7 _ _,λo q=>by rw[c7 _ rfl]at q;cases q;rfl⟩
def EL(K:aq):R2:=λx y H Q=>∃a b xs ys,x=.ref a/\y=.ref b/\bq K H a xs/\bq K H b ys/\xs≠[]/\xs.length+ys.length<=sizeLine /\
 (ys=[]->Q (.ref a) H)/\(ys≠[]->∀p,H p=none->Q (.ref p) (upd H p (.tup (xs++ys))))
theorem Vals.uV{xs:List V}{us:List Value}(r:Vals xs us):us=[]↔xs=[]:=by
 cases r with
 |nil=>simp
 |cons _ _=>simp
theorem yE:cu X (binaryOp .Add) (EL X.K):=show _ by
 intro pins s σ H x y v u Q I rx ry h;obtain⟨a,b,xs,ys,rfl,rfl,ha,hb,hx,hz,q1,q2⟩:=h;cases rx;cases ry;obtain⟨its,r1,p1,_⟩:=I.tuple ha;obtain⟨its2,r2,p2,_⟩:=I.tuple hb;refine HT.Qy p1 p2 (λz=>hx (r1.uV.mp z)) (λz=>⟨.ref a,H,I,rfl,q1 (r2.uV.mp z)⟩) (λz=>?_) (by rw[<-r1.length,<-r2.length];exact hz);refine⟨.ref s.heap.objs.size,_,I.laid (t':=s.toks) (o:=.tup (xs++ys)) (λb ob q=>bA _ q) (aT _) ?_,rfl,q2 (λw=>z (r2.uV.mpr w)) _ (I.hok.fresh (aT _))⟩;exact⟨by rw[aR];exact hz,_,r1.append r2,C7 _ _,λo q=>by rw[c7 _ rfl]at q;cases q;rfl⟩
end
def gB(n:Nat)(i:Int):Option Nat:=if 0<=i then(if i<n then some i.toNat else none) else if -(n:Int)<=i then some (i+n).toNat else none
def b5{α:Type}(xs:List α)(i:Int):Option α:=(gB xs.length i).bind λj=>xs[j]?
theorem EM{n:Nat}{i:Int}{j:Nat}(h:gB n i=some j):seqIndex? i n=some j/\j<n/\-(n:Int)<=i/\i<n:=show _ by
 unfold gB at h;by_cases h0:0<=i
 ·rw[if_pos h0]at h;by_cases h1:i<n
  ·rw[if_pos h1]at h;have e:i.toNat=j:=dg h;exact⟨by rw[xA h0 h1,e],by lia,by lia,h1⟩
  ·rw[if_neg h1]at h;cases h
 ·rw[if_neg h0]at h;by_cases h1:-(n:Int)<=i
  ·rw[if_pos h1]at h;have e:(i+n).toNat=j:=dg h;exact⟨by rw[C8 (by lia) h1,e],by lia,h1,by lia⟩
  ·rw[if_neg h1]at h;cases h
theorem yF{α:Type}{xs:List α}{i:Int}{v:α}(h:b5 xs i=some v):∃j,seqIndex? i xs.length=some j/\xs[j]?=some v/\j<xs.length/\-(xs.length:Int)<=i/\i<xs.length:=show _ by
 unfold b5 at h;cases e:gB xs.length i with
 |none=>rw[e]at h;cases h
 |some j =>
  rw[e]at h;obtain⟨h1,h2,h3,h4⟩:=EM e;exact⟨j,h1,h,h2,h3,h4⟩
theorem fP{α:Type}{xs:List α}{j:Nat}{v:α}(h:xs[j]?=some v):b5 xs (j:Int)=some v:=by
 have hj:j<xs.length:=(b4.mp h).1;have e:gB xs.length (j:Int)=some j:=by
  unfold gB;rw[if_pos (by lia),if_pos (by lia)];simp
 unfold b5;rw[e];exact h
def EN(b:Expr):Prop:=∀o i,subscripted b false o i=operate [o,i] (getItem o i)
def rX(X:Cx)(r:R2):Prop :=
 ∀(value slice:Expr) (pins:List (Addr×Obj)) (s:Shared) (σ:St) (H:Hp) (x y:V) (v u:Value) (Q:VK),Inv X pins σ H s->RelV x v->RelV y u->r x y H Q ->
  subscripted slice false v u=operate [v,u] (getItem v u)->wpAny (model X.prog X.w) X.A (subscriptTail value slice v u) (EP X pins σ Q) X.xe s
def nr(X:Cx)(id:String)(r:V->List V->Hp->VK->Prop):Prop :=
 ∀(pins:List (Addr×Obj)) (s:Shared) (σ:St) (H:Hp) (x:V) (xs:List V) (v:Value) (us:List Value) (Q:VK),Inv X pins σ H s->RelV x v->Vals xs us->r x xs H Q ->
  wpAny (model X.prog X.w) X.A (call (.builtin id) (v::us)) (EP X pins σ Q) X.xe s
section
variable{X:Cx}{a b:Expr}{ta tb:TE}{pos:Pos}
theorem QM{r:R2}(hr:rX X r)(ha:PE X a ta)(hb:PE X b tb)(hs:EN b):PE X (.Subscript a b pos) (rK r ta tb):=by
 intro pins s σ H Q I h;exact C6 (yp ha hb I h λv u s2 x y H2 I2 rx ry q=>hr a b pins s2 σ H2 x y v u Q I2 rx ry q (hs _ _))
def EO(K:aq):R2:=λx y H Q=>∃p xs i v,x=.ref p/\y=.int i/\bu K H p xs/\b5 xs i=some v/\Q v H
def ER(K:aq):R2:=λx y H Q=>∃p xs i v,x=.ref p/\y=.int i/\bq K H p xs/\b5 xs i=some v/\Q v H
def ET:R2:=λx y H Q=>∃z i c,x=.str z/\y=.int i/\z.length<=sizeLine/\b5 z.cps.toList i=some c/\Q (.str ⟨#[c]⟩) H
theorem d_:rX X (EO X.K):=show _ by
 intro value slice pins s σ H x y v u Q I rx ry h hs;obtain⟨p,xs,i,z,rfl,rfl,hq,he,q⟩:=h;cases rx;obtain⟨t,rfl⟩:=ry;obtain⟨its,r,pl,hz⟩:=I.list hq;obtain⟨j,h1,h2,h3,h4,h5⟩:=yF he;obtain⟨w,ew,iC⟩:=r.get h2;have hl:=r.length;have hn:=kH;have fin:EP X pins σ Q w s:=⟨z,H,I,iC,q⟩;by_cases h0:0<=i
 ·have hj:i.toNat=j:=by
   rw[xA h0 h5]at h1;exact dg h1
  exact item_listR pl.isList h0 (by lia) (by rw[hj];simpa using ew) fin hs
 ·have hj:(i+(its.toArray.size:Int)).toNat=j:=by
   rw[C8 (by lia) h4]at h1;rw[cj,<-hl];exact dg h1
  exact M3 (x:=w) pl.isList.typeIs M4.lookup
   (wpAny_getItem_list_neg (Q:=λr s'=>r=w/\EP X pins σ Q r s') pl.isList (by lia) (by rw[cj]<;>lia) (by lia) (by rw[hj];simpa using ew) ⟨rfl,fin⟩) hs
theorem aO:rX X (ER X.K):=show _ by
 intro value slice pins s σ H x y v u Q I rx ry h hs;obtain⟨p,xs,i,z,rfl,rfl,hq,he,q⟩:=h;cases rx;obtain⟨t,rfl⟩:=ry;obtain⟨its,r,pl,hz⟩:=I.tuple hq;obtain⟨j,h1,h2,h3,h4,h5⟩:=yF he;obtain⟨w,ew,iC⟩:=r.get h2;have hl:=r.length;have hn:=kH;have fin:EP X pins σ Q w s:=⟨z,H,I,iC,q⟩;exact M3 (x:=w) pl.typeIs lU.lookup
  (getItem_tuple (j:=j) (Q:=λr s'=>r=w/\EP X pins σ Q r s') pl (by lia) (by lia) (by rw[cj,<-hl];exact h1) (by simpa using ew) ⟨rfl,fin⟩) hs
theorem EU:rX X ET:=show _ by
 intro value slice pins s σ H x y v u Q I rx ry h hs;obtain⟨z,i,c,rfl,rfl,hz,he,q⟩:=h;obtain⟨t,rfl⟩:=rx;obtain⟨t',rfl⟩:=ry;obtain⟨j,h1,h2,h3,h4,h5⟩:=yF he;have hl:z.cps.toList.length=z.length:=by simp[C9]
 rw[hl]at h1 h4 h5;have hn:=kH;exact tail_any (C_ s z t) slot_str_getitem.lookup (getItem_str (c:=c) (by
  have e1:decide (i < -(2^63:Int))=false:=decide_eq_false (by lia);have e2:decide (i>=2^63)=false:=decide_eq_false (by lia);rw[e1,e2,Dd]) (by rw[h1];simpa using h2) ⟨.str ⟨#[c]⟩,H,I.tok _,⟨_,rfl⟩,q⟩) hs
theorem QN(its:List Value)(n j:Nat)(u:Value):fq (·.setIfInBounds j u) {cls:=.type "list",data:=.seq its.toArray n}={cls:=.type "list",data:=.seq (its.set j u).toArray n}:=by
 simp[fq]
theorem Inv.lst{pins:List (Addr×Obj)}{σ:St}{H:Hp}{s:Shared}{p:Addr}{xs:List V}(I:Inv X pins σ H s)(h:H p=some (.lst xs)) :
 ∃(its:List Value) (n:Nat),Vals xs its/\s.heap.get? p=some {cls:=.type "list",data:=.seq its.toArray n}/\xs.length<=sizeLine:=show _ by
 obtain⟨z,its,n,r,e⟩:=I.hok p _ h;exact⟨its,n,r,e,z⟩
theorem Inv.QP{pins:List (Addr×Obj)}{σ:St}{H:Hp}{s:Shared}{p:Addr}{xs ys:List V}{its its':List Value}{n n':Nat}{f:Obj->Obj}(I:Inv X pins σ H s)(h:H p=some (.lst xs))
 (ho:s.heap.get? p=some {cls:=.type "list",data:=.seq its.toArray n}) (hf:f {cls:=.type "list",data:=.seq its.toArray n}={cls:=.type "list",data:=.seq its'.toArray n'}) (r:Vals ys its') (hz:ys.length<=sizeLine) (t:Nat) :
 Inv X pins σ (upd H p (.lst ys)) {s with heap:=s.heap.update p f,toks:=t}:=show _ by
 have e:(s.heap.update p f).get? p=some {cls:=.type "list",data:=.seq its'.toArray n'}:=by
  rw[oR f ho (by rw[hf]<;>rfl),hf]
 refine I.write (x:=p) (e:=p) (by rw[h];trivial) (.inl rfl) (λb u hb q=>(qW _ _ (bt hb)).trans q) ⟨_,e⟩ ?_;exact⟨hz,its',n',r,e⟩
def QQ:V->V->V->Hp->(Hp->Prop)->Prop:=λo i v H Q=>∃p xs k j,o=.ref p/\i=.int k/\H p=some (.lst xs)/\gB xs.length k=some j/\Q (upd H p (.lst (xs.set j v)))
theorem set_list:Ee X QQ:=show _ by
 intro pins s σ H o i v ov iv u Q I ro ri rv h;obtain⟨p,xs,k,j,rfl,rfl,hp,hj,q⟩:=h;cases ro;obtain⟨t,rfl⟩:=ri;obtain⟨its,n,r,ho,hz⟩:=I.lst hp;obtain⟨h1,h2,h3,h4⟩:=EM hj;have hl:=r.length;have hn:=kH;have I':Inv X pins σ (upd H p (.lst (xs.set j v))) {s with heap:=s.heap.update p (fq (·.setIfInBounds j u))} :=
  I.QP hp ho (QN its n j u) (r.set rv j) (by rw[List.length_set];exact hz) s.toks
 by_cases h0:0<=k
 ·have hk:k.toNat=j:=by
   rw[xA h0 h4]at h1;exact dg h1
  exact PySem.W.ki_setAt ho h0 (by lia) (by rw[cj,<-hl];exact h4) (by rw[hk];exact⟨_,I',q⟩)
 ·have hk:(k+(its.toArray.size:Int)).toNat=j:=by
   rw[C8 (by lia) h3]at h1;rw[cj,<-hl];exact dg h1
  exact PySem.W.ki_setBack ho (by lia) (by rw[cj,<-hl];exact h3) (by lia) (by rw[hk];exact⟨_,I',q⟩)
theorem QR(lo hi:Option Int)(n:Nat):(sliceBounds lo hi none n).1=((HT.aM n 0 lo:Nat):Int)/\(sliceBounds lo hi none n).2.1=((HT.aM n n hi:Nat):Int)/\(sliceBounds lo hi none n).2.2=1:=show _ by
 refine⟨?_,?_,rfl⟩
 ·cases lo with
  |none=>simp[sliceBounds,HT.aM]
  |some i =>
   simp only[sliceBounds,HT.aM,M5,show(1:Int)>0 by decide,if_true];by_cases h:i<0
   ·simp only[h,if_true]<;>lia
   ·simp only[h,if_false]<;>lia
 ·cases hi with
  |none=>simp[sliceBounds,HT.aM]
  |some i =>
   simp only[sliceBounds,HT.aM,M5,show(1:Int)>0 by decide,if_true];by_cases h:i<0
   ·simp only[h,if_true]<;>lia
   ·simp only[h,if_false]<;>lia
theorem QS(its:List Value)(lo hi:Option Int):slicePick its.toArray lo hi none=((its.drop (HT.aM its.length 0 lo)).take (HT.aM its.length its.length hi-HT.aM its.length 0 lo)).toArray:=show _ by
 obtain⟨h1,h2,h3⟩:=QR lo hi its.toArray.size;unfold slicePick;rw[h1,h2,h3];simp only[sliceRange_one,pick_run,cj]<;>rfl
def EV(K:aq):V->Option Int->Option Int->Hp->VK->Prop:=λx lo hi H Q=>∃a xs,x=.ref a/\bu K H a xs/\∀p,H p=none->Q (.ref p) (upd H p (.lst (kI xs lo hi)))
theorem jb:o9 X (EV X.K):=show _ by
 intro pins s σ H x v vl vu lo hi sl Q I rx hs pl pu h;obtain⟨a,xs,rfl,hx,q⟩:=h;cases rx;obtain⟨its,r,ht,hz⟩:=I.list hx;have hlen:=r.length;refine⟨"list",_,M4.lookup,ht.isList.typeIs,?_⟩;refine wpAny_getItem_list_slice ht.isList hs pl pu .none (by simp) ?_ (by rw[cj]<;>lia);rw[QS,<-hlen];refine⟨.ref s.heap.objs.size,_,I.laid (t':=s.toks) (o:=.lst (kI xs lo hi)) (λb ob q=>bA _ q) (aT _) ?_,rfl,q _ (I.hok.fresh (aT _))⟩;exact⟨cC (EK xs lo hi) hz,_,0,(r.drop (HT.aM xs.length 0 lo)).take (HT.aM xs.length xs.length hi-HT.aM xs.length 0 lo),c7 _ rfl⟩
def jS:V->Bool
 | .non=>true
 | .bl _=>true
 | .int _=>true
 | .str _=>true
 |_=>false
def jc:V->V->Bool
 | .non,.non=>true
 | .bl a,.bl b=>a==b
 | .bl a,.int b=>(if a then 1 else 0)==b
 | .int a,.bl b=>a==(if b then 1 else 0)
 | .int a,.int b=>a==b
 | .str a,.str b=>a==b
 |_,_=>false
theorem QU{A:Around}{s:Shared}{y x:V}{u v:Value}(ry:RelV y u)(rx:RelV x v)(fy:jS y=true)(fx:jS x=true):De A s u v (jc y x):=show _ by
 cases y with
 |non =>
  cases ry;cases x with
  |non=>cases rx;exact SeqAt.EqAt.same _
  |bl b=>cases rx;exact SeqAt.EqAt.none_bool b
  |int b=>obtain⟨t,rfl⟩:=rx;exact SeqAt.EqAt.none_int b t
  |str b=>obtain⟨t,rfl⟩:=rx;exact SeqAt.EqAt.none_str b t
  |_=>exact absurd (show false=true from fx) cV
 |bl a =>
  cases ry;cases x with
  |non=>cases rx;exact SeqAt.EqAt.bool_none a
  |bl b=>cases rx;exact SeqAt.EqAt.bool_bool a b
  |int b=>obtain⟨t,rfl⟩:=rx;exact SeqAt.EqAt.bool_int a b t
  |str b=>obtain⟨t,rfl⟩:=rx;exact SeqAt.EqAt.bool_str a b t
  |_=>exact absurd (show false=true from fx) cV
 |int a =>
  obtain⟨t',rfl⟩:=ry;cases x with
  |non=>cases rx;exact SeqAt.EqAt.int_none a t'
  |bl b=>cases rx;exact SeqAt.EqAt.int_bool a t' b
  |int b=>obtain⟨t,rfl⟩:=rx;exact SeqAt.EqAt.int_int a t' b t
  |str b=>obtain⟨t,rfl⟩:=rx;exact My a t' b t
  |_=>exact absurd (show false=true from fx) cV
 |str a =>
  obtain⟨t',rfl⟩:=ry;cases x with
  |non=>cases rx;exact SeqAt.EqAt.str_none a t'
  |bl b=>cases rx;exact SeqAt.EqAt.str_bool a t' b
  |int b=>obtain⟨t,rfl⟩:=rx;exact Mz a t' b t
  |str b=>obtain⟨t,rfl⟩:=rx;exact SeqAt.EqAt.str_str a t' b t
  |_=>exact absurd (show false=true from fx) cV
 |_=>exact absurd (show false=true from fy) cV
def f9(x:V)(u:Value):Bool:=match u with
 | .none=>jc .non x
 | .bool b=>jc (.bl b) x
 | .int i _=>jc (.int i) x
 | .str z _=>jc (.str z) x
 |_=>false
theorem EW{x y:V}{u:Value}(r:RelV y u)(f:jS y=true):f9 x u=jc y x:=by
 cases y with
 |non=>cases r;rfl
 |bl b=>cases r;rfl
 |int i=>obtain⟨t,rfl⟩:=r;rfl
 |str z=>obtain⟨t,rfl⟩:=r;rfl
 |_=>exact absurd (show false=true from f) cV
theorem rY{x:V}:∀{xs:List V} {us:List Value},Vals xs us->xs.all jS=true->us.any (f9 x)=xs.any λy=>jc y x
 |_,_,.nil,_=>rfl
 |y::xs,u::us,.cons r t,f=>by
  rw[oN,gq]at f;rw[mY,mY,EW r f.1,rY t f.2]
theorem rZ{A:Around}{s:Shared}{x:V}{v:Value}(rx:RelV x v)(fx:jS x=true):∀{xs:List V} {us:List Value},Vals xs us->xs.all jS=true->∀u∈us,De A s u v (f9 x u)
 |_,_,.nil,_=>λu hu=>by cases hu
 |y::xs,u::us,.cons r t,f=>λu' hu=>by
  rw[oN,gq]at f;rcases bJ.mp hu with rfl|hu
  ·rw[EW r f.1];exact QU r rx f.1 fx
  ·exact rZ rx fx t f.2 u' hu
def inV(x:V)(xs:List V):Bool:=xs.any λy=>jc y x
def uW(K:aq)(neg:Bool):R2:=λx y H Q=>∃p xs,y=.ref p/\(bu K H p xs∨bq K H p xs)/\jS x=true/\xs.all jS=true/\Q (.bl (if neg then !inV x xs else inV x xs)) H
theorem yG:cu X (compareOp .In) (uW X.K false):=show _ by
 intro pins s σ H x y v u Q I rx ry h;obtain⟨p,xs,rfl,hq,fx,fs,q⟩:=h;cases ry;rcases hq with hq|hq
 ·obtain⟨its,r,pl,hz⟩:=I.list hq;refine M6 (f9 x) pl.isList (λw hw=>rZ rx fx r fs w (by simpa using hw)) ⟨.bl _,H,I,rfl,?_⟩;rw[show its.toArray.any (f9 x)=its.any (f9 x) by simp,rY r fs];exact q
 ·obtain⟨its,r,pl,hz⟩:=I.tuple hq;refine SeqAt.in_tupleAt (f9 x) pl (λw hw=>rZ rx fx r fs w (by simpa using hw)) ⟨.bl _,H,I,rfl,?_⟩;rw[show its.toArray.any (f9 x)=its.any (f9 x) by simp,rY r fs];exact q
theorem EX:cu X (compareOp .NotIn) (uW X.K true):=show _ by
 intro pins s σ H x y v u Q I rx ry h;obtain⟨p,xs,rfl,hq,fx,fs,q⟩:=h;cases ry;rcases hq with hq|hq
 ·obtain⟨its,r,pl,hz⟩:=I.list hq;refine SeqAt.notIn_listAt (f9 x) pl.isList (λw hw=>rZ rx fx r fs w (by simpa using hw)) ⟨.bl _,H,I,rfl,?_⟩;rw[show its.toArray.any (f9 x)=its.any (f9 x) by simp,rY r fs];exact q
 ·obtain⟨its,r,pl,hz⟩:=I.tuple hq;refine SeqAt.notIn_tupleAt (f9 x) pl (λw hw=>rZ rx fx r fs w (by simpa using hw)) ⟨.bl _,H,I,rfl,?_⟩;rw[show its.toArray.any (f9 x)=its.any (f9 x) by simp,rY r fs];exact q
theorem eI:ja X (.builtin "len") (λxs H Q=>∃p ys,xs=[.ref p]/\(bu X.K H p ys∨bq X.K H p ys)/\Q (.int ys.length) H):=show _ by
 intro pins s σ H xs us Q I r h;obtain⟨p,ys,rfl,hq,q⟩:=h;obtain⟨u,rfl,rx⟩:=vals1 r;cases rx;have hn:=kH;rcases hq with hq|hq
 ·obtain⟨its,r',pl,hz⟩:=I.list hq;have hlen:=r'.length;exact Calls.call_len_list pl.isList (by simp only[cj]<;>lia) ⟨.int ys.length,H,I.tok _,⟨s.toks+1,by rw[cj,hlen]⟩,q⟩
 ·obtain⟨its,r',pl,hz⟩:=I.tuple hq;have hlen:=r'.length;exact len_tuple pl (by simp only[cj]<;>lia) ⟨.int ys.length,H,I.tok _,⟨s.toks+1,by rw[cj,hlen]⟩,q⟩
theorem QV:ja X (.builtin "len") (λxs H Q=>∃z,xs=[.str z]/\z.length<=sizeLine/\Q (.int z.length) H):=by
 intro pins s σ H xs us Q I r h;obtain⟨z,rfl,hz,q⟩:=h;obtain⟨u,rfl,t,rfl⟩:=vals1 r;have hn:=kH;exact len_str (by lia) ⟨.int z.length,H,I.tok _,⟨_,rfl⟩,q⟩
theorem jd:ja X (.type "tuple") (λxs H Q=>∃p ys,xs=[.ref p]/\((bu X.K H p ys/\∀l,H l=none->Q (.ref l) (upd H l (.tup ys)))∨(bq X.K H p ys/\Q (.ref p) H))):=show _ by
 intro pins s σ H xs us Q I r h;obtain⟨p,ys,rfl,h⟩:=h;obtain⟨u,rfl,rx⟩:=vals1 r;cases rx;rcases h with⟨hq,q⟩|⟨hq,q⟩
 ·obtain⟨its,r',pl,hz⟩:=I.list hq;have hlen:=r'.length;refine call_tuple_list pl.isList (λh' kp=>?_) (by simp only[cj]<;>lia);have I1:Inv X pins σ H {s with heap:=h'}:=I.kept (t':=s.toks) kp;have I2:Inv X pins σ (upd H h'.objs.size (.tup ys)) {s with heap:=h'.push {cls:=.type "tuple",data:=.seq its.toArray}} :=
   I1.laid (t':=s.toks) (λb o e=>bA _ e) (aT _) (show dk X.prog X.w _ _ _ (.tup ys) from⟨hz,its,r',C7 _ _,λo q=>by rw[c7 _ rfl]at q;cases q;rfl⟩)
  exact⟨.ref h'.objs.size,_,I2,rfl,q _ (I1.hok.fresh (aT _))⟩
 ·obtain⟨its,r',pl,hz⟩:=I.tuple hq;exact call_tuple_same pl ⟨.ref p,H,I,rfl,q⟩
def uX(K:aq)(T:String)(x:V)(H:Hp):Prop:=match x with
 | .str _=>T="str"
 | .int _=>T="int"
 | .ref p=>(T="list"/\∃xs,bu K H p xs)∨(T="tuple"/\∃o,K.lookup p=some o/\o.cls=.type "tuple"/\o.dict=none) ∨
  (T="dict"/\((∃kvs,H p=some (.dK kvs))∨∃kvs,H p=some (.dT kvs)))∨(T="set"/\∃S n,H p=some (.set S n))
 |_=>False
theorem EY{pins:List (Addr×Obj)}{σ:St}{H:Hp}{s:Shared}{T:String}{x:V}{v:Value}(I:Inv X pins σ H s)(r:RelV x v)(ty:uX X.K T x H) :
 s.TypeIs v T/\∀a,v=.ref a->∃ob,s.heap.get? a=some ob/\ob.dict=none:=show _ by
 cases x with
 |str z =>
  obtain⟨t,rfl⟩:=r;cases (show T="str" from ty);exact⟨C_ s z t,λ_ e=>nomatch e⟩
 |int i =>
  obtain⟨t,rfl⟩:=r;cases (show T="int" from ty);exact⟨typeIs_int s i t,λ_ e=>nomatch e⟩
 |ref p =>
  cases r;rcases ty with⟨rfl,xs,hq⟩|⟨rfl,o,hk,hc,hd⟩|⟨rfl,hk⟩|⟨rfl,S,n,hk⟩
  ·obtain⟨its,_,pl,_⟩:=I.list hq;refine⟨pl.isList.typeIs,λa e=>?_⟩;cases e;obtain⟨o,n,e,c,hd,_⟩:=pl;exact⟨o,e,hd⟩
  ·refine⟨⟨o,I.fZ p o hk,hc⟩,λa e=>?_⟩;cases e;exact⟨o,I.fZ _ o hk,hd⟩
  ·have z:∃o,s.heap.get? p=some o/\o.ExactDict:=by
    rcases hk with⟨kvs,hk⟩|⟨kvs,hk⟩
    ·obtain⟨_,_,_,_,o,_,_,e,ex,_⟩:=I.hok p _ hk;exact⟨o,e,ex⟩
    ·obtain⟨_,_,_,_,o,_,_,e,ex,_⟩:=I.hok p _ hk;exact⟨o,e,ex⟩
   obtain⟨o,e,ex⟩:=z;refine⟨⟨o,e,ex.1⟩,λa e2=>?_⟩;cases e2;exact⟨o,e,ex.2.1⟩
  ·obtain⟨o,_,_,_,e,ex,_⟩:=I.hok p _ hk;refine⟨⟨o,e,ex.1⟩,λa e2=>?_⟩;cases e2;exact⟨o,e,ex.2.1⟩
 |_=>exact eX ty
def QW(K:aq)(T:String)(r:V->List V->Hp->VK->Prop)(to:TE):TE:=λσ H Q=>to σ H λx H1=>uX K T x H1/\r x [] H1 Q
def QX(K:aq)(T:String)(r:V->List V->Hp->VK->Prop)(to:TE)(t:TA):TE:=λσ H Q=>to σ H λx H1=>uX K T x H1/\t σ H1 λxs H2=>r x xs H2 Q
variable{o e:Expr}{es:List Expr}{to:TE}{t:TA}{name:Str}{apos cpos:Pos}{T id:String}{r:V->List V->Hp->VK->Prop}
theorem QY(pa:PlainAttrs T)(slot:Slot T name id)(hty:typeOf (.builtin id)=pure (.type "method_descriptor"))(hm:nr X id r)(ho:PE X o to)
 (hbase:attributeBase o name X.env (eval o X.env)=eval o X.env:=by rfl) (hline:(apos.endLine==cpos.line)=true:=by rfl):PE X (.Call (.Attribute o name apos) [] [] cpos) (QW X.K T r to):=show _ by
 intro pins s σ H Q I h;refine wpAny_Call_method0_late hbase hline (aF (ho pins s σ H _ I h) λv s1 ⟨x,H1,I1,r1,ty,q1⟩=>?_);obtain⟨h1,h2⟩:=EY I1 r1 ty;exact⟨T,id,pa,slot,hty,h1,h2,Df rfl (PySem.evalArgs_none (hm pins s1 σ H1 x [] v [] Q I1 r1 .nil q1))⟩
theorem QZ(pa:PlainAttrs T)(slot:Slot T name id)(hty:typeOf (.builtin id)=pure (.type "method_descriptor"))(hm:nr X id r)(ho:PE X o to)(ha:PA X (e::es) t)
 (hbase:attributeBase o name X.env (eval o X.env)=eval o X.env:=by rfl)
 (hfew:((backTo cpos (starEach (e::es) X.env)).all (λx=>!x.1)&&(backToKw cpos (keywordEach [] X.env)).all (λx=>x.1.isSome)
  && decide ((e::es).length+([]:List Keyword).length+(if([]:List Keyword).isEmpty then 0 else 1)<30))=true:=by rfl)
 (hline:(apos.endLine==cpos.line)=true:=by rfl) (hs:starEach (e::es) X.env=(false,eval e X.env)::starEach es X.env:=by rfl) (hplain:(backTo cpos (starEach es X.env)).any (·.1)=false:=by rfl) :
 PE X (.Call (.Attribute o name apos) (e::es) [] cpos) (QX X.K T r to t):=show _ by
 intro pins s σ H Q I h;refine M7 hbase hfew hline rfl (aF (ho pins s σ H _ I h) λv s1 ⟨x,H1,I1,r1,ty,q1⟩=>?_);obtain⟨h1,h2⟩:=EY I1 r1 ty;refine⟨T,id,pa,slot,hty,h1,h2,?_⟩;have hA:=ha cpos pins s1 σ H1 _ I1 q1;rw[hs]at hA ⊢;refine Df (by show(false||(backTo cpos (starEach es X.env)).any (·.1))=false;rw[hplain]<;>rfl) (Dg ?_);exact aF hA λus s2 r8=>by obtain⟨vs,H2,I2,r2,q2⟩:=r8;exact hm pins s2 σ H2 x vs v us Q I2 r1 r2 q2
end
def uY(X:Cx)(id:String)(r:V->List V->Hp->VK->Prop):Prop :=
 ∀(pins:List (Addr×Obj)) (s:Shared) (σ:St) (H:Hp) (x:V) (xs:List V) (v:Value) (us:List Value) (Q:VK),Inv X pins σ H s->RelV x v->Vals xs us->r x xs H Q ->
  wpAny (model X.prog X.w) X.A (call (.builtin id) (v::us)) (EP X pins σ Q) X.xe s
theorem Vals.one:∀{x:V} {us:List Value},Vals [x] us->∃u,us=[u]/\RelV x u
 |_,_,.cons r .nil=>⟨_,rfl,r⟩
theorem Vals.zero:∀{us:List Value},Vals [] us->us=[]
 |_,.nil=>rfl
theorem Vals.dropLast{xs:List V}{us:List Value}(h:Vals xs us):Vals xs.dropLast us.dropLast:=by
 induction h with
 |nil=>exact .nil
 |cons r t ih =>
  cases t with
  |nil=>exact .nil
  |cons q t'=>exact .cons r ih
theorem Q0{α:Type}(l:List α):l.eraseIdx (l.length-1)=l.dropLast:=show _ by
 induction l with
 |nil=>rfl
 |cons a r ih =>
  cases r with
  |nil=>rfl
  |cons b r =>
   have e:(a::b::r).length-1=((b::r).length-1)+1:=by
    have h1:(a::b::r).length=r.length+2:=rfl;have h2:(b::r).length=r.length+1:=rfl;lia
   rw[e,List.eraseIdx_cons_succ,ih]
   all_goals rfl
section
variable{X:Cx}{pins:List (Addr×Obj)}{σ:St}{H:Hp}{s:Shared}{l b:Addr}{xs ys zs:List V}
theorem Inv.uZ{its its':List Value}{n:Nat}{f:Array Value->Array Value}{t':Nat}(I:Inv X pins σ H s)(hH:H l=some (.lst xs))
 (e:s.heap.get? l=some {cls:=.type "list",data:=.seq its.toArray n}) (hf:f its.toArray=its'.toArray) (hv:Vals ys its') (hz:ys.length<=sizeLine) :
 Inv X pins σ (upd H l (.lst ys)) {s with heap:=s.heap.update l (fq f),toks:=t'}:=show _ by
 have q:=PySem.IsL.update e f;rw[hf]at q;refine I.write (x:=l) (e:=l) (by rw[hH];exact trivial) (.inl rfl) (λb' u hb hu=>(qW s.heap (fq f) (bt hb)).trans hu) ⟨_,q⟩ ?_;exact⟨hz,its',_,hv,q⟩
theorem Inv.u1{its:List Value}{t':Nat}(I:Inv X pins σ H s)(hv:Vals ys its)(hz:ys.length<=sizeLine) :
 Inv X pins σ (upd H s.heap.objs.size (.lst ys)) {s with heap:=s.heap.push {cls:=.type "list",data:=.seq its.toArray},toks:=t'} :=
 I.laid (λ_ _ q=>bA _ q) (aT _) ⟨hz,its,0,hv,c7 _ rfl⟩
theorem Inv.fresh(I:Inv X pins σ H s):H s.heap.objs.size=none:=I.hok.fresh (aT _)
theorem Inv.nv(I:Inv X pins σ H s)(hH:H l=some (.lst xs)):xs.length<=sizeLine/\∃(its:List Value) (n:Nat),Vals xs its/\xs.length=its.length/\s.heap.get? l=some {cls:=.type "list",data:=.seq its.toArray n}:=by
 obtain⟨z,its,n,r,e⟩:=I.hok l _ hH;exact⟨z,its,n,r,r.length,e⟩
theorem Q1{n:Nat}(h:n<=sizeLine):xB n=false:=by
 unfold xB;exact decide_eq_false (by lia)
end
section
variable{X:Cx}
def EZ:V->List V->Hp->VK->Prop:=λx vs H Q=>∃l xs y,x=.ref l/\vs=[y]/\H l=some (.lst xs)/\xs.length<sizeLine/\Q .non (upd H l (.lst (xs++[y])))
theorem cY:uY X "list.append" EZ:=show _ by
 intro pins s σ H x vs v us Q I rx rv h;obtain⟨l,xs,y,rfl,rfl,hH,hz,q⟩:=h;cases rx;obtain⟨u,rfl,ru⟩:=rv.one;obtain⟨z,its,n,r,hl,e⟩:=I.nv hH;refine t_ c_ ⟨_,e,rfl⟩ F.entry_list_append (F.args_list_append_2 _ _) (PySem.list_append l its.toArray n u (by rw[cj];lia)) ⟨e,?_⟩;refine⟨.non,_,I.uZ (its':=its++[u]) hH e (by simp) (r.append (.cons ru .nil)) ?_,rfl,q⟩;rw[aR,Dh];lia
def Q2:V->List V->Hp->VK->Prop:=λx vs H Q=>∃l xs y,x=.ref l/\vs=[]/\H l=some (.lst xs)/\xs[xs.length-1]?=some y/\Q y (upd H l (.lst xs.dropLast))
theorem Q4:uY X "list.pop" Q2:=show _ by
 intro pins s σ H x vs v us Q I rx rv h;obtain⟨l,xs,y,rfl,rfl,hH,hy,q⟩:=h;cases rx;have hus:=rv.zero;subst hus;obtain⟨z,its,n,r,hl,e⟩:=I.nv hH;obtain⟨u,hu,ru⟩:=r.get hy;have hy':its.toArray[its.toArray.size-1]?=some u:=by
  show its.toArray[its.length-1]?=some u;rw[<-Array.getElem?_toList,<-hl];exact hu
 refine t_ gR ⟨_,e,rfl⟩ F.entry_list_pop (F.args_list_pop_1 _) (MeetsSeq.list_pop_last l its.toArray n u hy' (by rw[cj];lia)) ⟨e,?_⟩;refine⟨y,_,I.uZ (its':=its.dropLast) hH e ?_ r.dropLast ?_,ru,q⟩
 ·show its.toArray.eraseIdxIfInBounds (its.toArray.size-1)=its.dropLast.toArray;rw[cj,List.eraseIdxIfInBounds_toArray,Q0]
 ·rw[List.length_dropLast];lia
def E1:R2:=λx y H Q=>∃l b xs zs,x=.ref l/\y=.ref b/\H l=some (.lst xs)/\H b=some (.lst zs)/\xs.length+zs.length<=sizeLine/\∀p,H p=none->Q (.ref p) (upd H p (.lst (xs++zs)))
theorem u3:cu X (binaryOp .Add) E1:=show _ by
 intro pins s σ H x y v u Q I rx ry h;obtain⟨l,b,xs,zs,rfl,rfl,hH,hB,hz,q⟩:=h;cases rx;cases ry;obtain⟨z,its,n,r,hl,e⟩:=I.nv hH;obtain⟨z2,its2,n2,r2,hl2,e2⟩:=I.nv hB;refine PySem.P.add_list e e2 ?_ (by rw[cj,cj];lia);have ea:its.toArray++its2.toArray=(its++its2).toArray:=by simp
 rw[ea];exact⟨.ref _,_,I.u1 (t':=s.toks) (r.append r2) (by rw[aR];lia),rfl,q _ I.fresh⟩
end
end L2
namespace E2
open PySem PySem.W PySem.Calls PyProof.Rows
theorem Q5{P:Params}{h:Heap}:∀(ns:List Int) (vs:List Value),WellAll P h vs (ns.map WData.int)->IntsAre vs ns:=show _ by
 intro ns
 induction ns with
 |nil =>
  intro vs w;rw[oS]at w;cases w;exact .nil
 |cons n ns ih =>
  intro vs w;rw[bL]at w;cases w with
  |cons a b =>
   cases a;exact .cons _ _ (ih _ b)
theorem Q6{l:OpenLaw}{n:Nat}(hn:l.most=some n){P:Params}{h:Heap}{args:List WData}{vals:List Value}
 (hpre:l.row.toRowW.claim.pre args=true) (hwl:WellAll P h vals args) :
 ∃a vs ns,vals=[Value.ref a]/\args=[WData.list (ns.map WData.int)]/\h.get? a=some {cls:=.type "list",data:=.seq vs.toArray}/\IntsAre vs ns/\ns.length<=n:=show _ by
 have hsh:WShape.hasAll [] args [.list .int]=true:=(pre_splitW hpre).1;have hc:l.pre.holds [] {args:=args}=true:=(pre_splitW hpre).2;obtain⟨d,r,rfl,h1,h2⟩:=hasAllW_cons hsh;obtain rfl:=hasAllW_nil h2;obtain⟨xs,rfl,h3⟩:=hasW_list h1;obtain⟨ns,rfl⟩:=items_int h3;have hlen:ns.length<=n:=by
  unfold OpenLaw.pre at hc;have h4:(WTm.not (.lt (.lit (.int (n:Int))) (.len (.arg 0)))).holds [] {args:=[.list (ns.map .int)]}=true:=by
   have h4:=(holds_andW hc).1;rw[hn]at h4;exact h4
  have h5:=condW_of h4 (w_not (w_lt w_lit (w_len_list (w_arg rfl))));rw[aG]at h5;refine M8 λq=>?_;have q':(n:Int)<((ns.length:Nat):Int):=by lia
  first
   |(rw[decide_eq_true q']at h5;exact absurd h5 (by decide))
   |(simp at h5;lia)
 cases hwl with
 |cons w1 w2 =>
  cases w2;cases w1 with
  |list ho hall=>exact⟨_,_,ns,rfl,rfl,ho,Q5 ns _ hall,hlen⟩
theorem Q7(l:OpenLaw)(args:List WData):l.row.toRowW.claim.post args (.bool true) args=true :=
 postW_of (r:=l.row.toRowW) (X:=(true==true))
  (show WShape.has [] (.bool true) .bool=true by first|rfl|decide|simp[WShape.has,WShape.arms,WShape.armsAll])
  (show(WTm.eq .res (.lit (.bool true))).value [] {args:=args,res:=some (.bool true),after:=args}=some (.bool (true==true)) from w_eq_bool (w_res rfl) w_lit) rfl
theorem Q8{l:OpenLaw}{n:Nat}{q:Program}{loose:List Str}{XP:(Str->Option Value)->Heap->Prop}{YP:World->Heap->Prop}{d:DefRec}
 (hn:l.most=some n) (hdf:d.params.defaults=[])
 (call:∀(w:World) (s₀ s₁:Shared) (mg mb:Str->Option Value) (fa:Addr) (o:Obj) (pm cd doc:Value) (a:Addr) (vs:List Value) (ns:List Int),
  Ground q loose [] XP w s₀ mg mb s₁.heap->YP w s₁.heap ->
  s₁.heap.get? fa=some o->o.data=.func (docDef d.name d.params d.body d.scope pm cd doc)->s₁.heap.CodeRec cd d.name->mg d.name=some (.ref fa) ->
  s₁.heap.get? a=some {cls:=.type "list",data:=.seq vs.toArray}->IntsAre vs ns->ns.length<=n->s₁.gens=#[] ->
  codeAny (model l.prog w) callerA (.call (.ref fa) ⟨[.ref a],[]⟩) (λr s'=>r=.ok (.ret (.bool true))/\OldK s₁.heap s'.heap/\s'.os=s₁.os/\AllBare s'.gens) s₁) :
 WalkO q loose XP YP l.row.toRowW d [] (λf vs=>Di f vs):=show _ by
 intro w s₀ s₁ mg mb G Y fa o pm cd doc dV kV ho hd hcd hD hmg hg args vals as hpre hlay hrd hwl hlo;obtain rfl:dV=.none:=Dflts.none hD hdf;obtain rfl:kV=.none:=Dflts.noKw hD;obtain⟨a,vs,ns,rfl,rfl,hobj,hints,hlen⟩:=Q6 hn hpre hwl;refine enter_call (ua (call w s₀ s₁ mg mb fa o pm cd doc a vs ns G Y ho (fd_plain hd) hcd hmg hobj hints hlen hg) λr s' hq=>?_);obtain⟨rfl,h2,h3,h4⟩:=hq;exact⟨.inl ⟨.bool true,.bool true,[],rfl,λ_=>rfl,.bool true,Q7 l _,λ_=>⟨List.Pairwise.nil,λ_ hm=>(nomatch hm)⟩⟩,h2,h3,h4⟩
end E2
namespace L2
open PySem PySem.Spec PyProof.Rows
theorem r9:∀{vs:List Value} {ns:List Int},IntsAre vs ns->Vals (ns.map V.int) vs
 |_,_,.nil=>.nil
 |_,_,.cons n t h=>.cons ⟨t,rfl⟩ (r9 h)
def r_(H:Hp):Prop:=∀b,H b=none∨∃o xs,H b=some (.eE o (.lst xs))
theorem Q9{P:Program}{w:World}{K:aq}{mg mb:Str->Option Value}{CX:f7}{k:Nat}{fa a:Addr}{fd:FuncData}{x:Str}{sp:Sp}{s₁:Shared}{vs:List Value}{ns:List Int}
 (KX:K.In s₁.heap) (hns:s₁.heap.Ns mainGlobals mg) (hb:s₁.heap.Ns builtinsNs mb) (hbb:∀x:Str,x≠"__name__"->mb x=bootBuiltins x) (hlim:s₁.heap.NoLimit) (hg:s₁.gens=#[])
 (ha:s₁.heap.get? a=some {cls:=.type "list",data:=.seq vs.toArray}) (hi:IntsAre vs ns) (hl:ns.length<=sizeLine) (hr:bP k callerA)
 (F:∀base:Heap,K.In base->base.Ns mainGlobals mg->dn P w K mg base CX k fa fd [x] sp) (hbind:∀(s:Shared) (u:Value),BindsTo s fd ⟨[u],[]⟩ [(x,u)])
 (hsp:∀H:Hp,r_ H->bu K H a (ns.map V.int)->sp [.ref a] H (λv _=>v=.bl true) λ_ _ _=>False)
 (yH:∀H e s',CX [] H s₁ (λ_ _ _=>False) e s'->False) :
 codeAny (model P w) callerA (.call (.ref fa) ⟨[.ref a],[]⟩) (λr s'=>r=.ok (.ret (.bool true))/\OldK s₁.heap s'.heap/\s'.os=s₁.os/\AllBare s'.gens) s₁:=show _ by
 have rv:=r9 hi;have lenV:=hi.length;have core:∀H:Hp,r_ H->bu K H a (ns.map V.int)->cb P w H s₁.heap->(∀b,H b≠none->b=a)->(H a≠none->K.lookup a=none) ->
  codeAny (model P w) callerA (.call (.ref fa) ⟨[.ref a],[]⟩) (λr s'=>r=.ok (.ret (.bool true))/\OldK s₁.heap s'.heap/\s'.os=s₁.os/\AllBare s'.gens) s₁:=by
  intro H hO hS hok hA hK;have E4:∀{b:Addr} {o:Obj},s₁.heap.get? b=some o->H b=none->(kB s₁.heap H).get? b=some o:=λe n=>Om e n;have rS:∀{b:Addr} {o:Obj} {es:Array DictEntry} {ep:Nat},s₁.heap.get? b=some o->o.data=.dict es ep->H b=none:=λ{b o es ep} e d=>by
   cases q:H b with
   |none=>rfl
   |some u =>
    have e':b=a:=hA b (by rw[q];simp);subst e';rw[ha]at e;cases e;have d':Data.seq vs.toArray _=Data.dict es ep:=d;cases d'
  have u4:∀{b:Addr} {m:Str->Option Value},s₁.heap.Ns b m->(kB s₁.heap H).Ns b m:=λ{b m} sd=>by obtain⟨o,es,ep,e,d,r⟩:=sd;exact⟨o,es,ep,E4 e (rS e d),d,r⟩
  have E5:K.In (kB s₁.heap H):=λb o e=>E4 (KX b o e) (by
   cases q:H b with
   |none=>rfl
   |some u =>
    have e':b=a:=hA b (by rw[q];simp);subst e';rw[hK (by rw[q];simp)]at e;cases e)
  have hM:Mod K mg (kB s₁.heap H):=⟨E5,u4 hns,⟨mb,u4 hb,hbb⟩,let⟨mc,h1,h2⟩:=hlim;⟨mc,u4 h1,h2⟩⟩;have e0:nq P w K mg (kB s₁.heap H) callerA [] s₁ H:=⟨rfl,hM,λb o e=>Oo e,Nat.le_of_eq (Ol _ _),trivial,λb hb=>absurd (show b∈([]:List Addr) from hb) (by simp),hok,.of_eq hg⟩;refine ua ((F _ E5 (u4 hns)).run callerA [] s₁ H ⟨[.ref a],[]⟩ [.ref a] [.ref a] _ _ hr e0 (hbind s₁ (.ref a)) (.cons rfl .nil) (hsp H hO hS)) λr s' h=>?_;cases r with
  |error e=>exact(yH H e s' h).elim
  |ok fl =>
   cases fl with
   |next=>exact eX h
   |brk=>exact eX h
   |cont=>exact eX h
   |ret u =>
    obtain⟨v,H',os,bare,un,hok',r',q⟩:=h;have q':v=.bl true:=q;subst q';obtain rfl:u=Value.bool true:=r';refine⟨rfl,OldK.of_keep λb o e=>?_,os,bare⟩;cases q:H b with
    |none=>exact un.keep b o e q (by intro z;exact absurd (show b∈([]:List Addr) from z) (by simp)) (by simp)
    |some u =>
     rcases hO b with z|⟨ob,xs,z⟩
     ·rw[q]at z;cases z
     ·have z2:=un.gy b ob _ z;obtain⟨e1,_⟩:=hok b _ z;obtain⟨e2,_⟩:=hok' b _ z2;rw[e]at e1;cases e1;exact e2
 cases hk:K.lookup a with
 |some o =>
  have e:=KX a o hk;rw[ha]at e;cases e;refine core (λ_=>none) (λ_=>.inl rfl) (.inr ⟨_,vs.toArray,_,hk,rfl,rfl,rfl,by rw[cj,lenV];exact hl,by simpa using rv⟩) (λb u z=>by have z':(none:Option HO)=some u:=z;cases z') (λb z=>absurd rfl z) λz=>absurd rfl z
 |none =>
  refine core (λb=>if b=a then some (.eE {cls:=.type "list",data:=.seq vs.toArray} (.lst (ns.map V.int))) else none) (λb=>?_) (.inl (.inr ⟨{cls:=.type "list",data:=.seq vs.toArray},if_pos rfl⟩)) (λb u z=>?_) (λb z=>?_) λ_=>hk
  ·by_cases hb:b=a
   ·exact .inr ⟨_,_,if_pos hb⟩
   ·exact .inl (if_neg hb)
  ·by_cases hb:b=a
   ·have z':=(if_pos hb).symm.trans z;cases z';subst hb;exact⟨ha,by rw[aG];exact hl,vs,_,rv,ha⟩
   ·have z':=(if_neg hb).symm.trans z;cases z'
  ·by_cases hb:b=a
   ·exact hb
   ·exact absurd (if_neg hb) z
theorem Q_{l:Dj}{n k:Nat}{q:Program}{loose:List Str}{XP:(Str->Option Value)->Heap->Prop}{YP:World->Heap->Prop}{d:DefRec}{K:Params->aq}{CX:World->f7}{sp:World->Sp}{x:Str}
 (hn:l.most=some n) (hn2:n<=sizeLine) (hdf:d.params.defaults=[]) (hr:bP k callerA)
 (hY:∀(w:World) (h:Heap),YP w h->(K w.params).In h)
 (F:∀(w:World) (mg:Str->Option Value) (fa:Addr) (h:Heap),(K w.params).In h->h.Ns mainGlobals mg->mg d.name=some (.ref fa) ->
  ∃fd:FuncData,(∀(s:Shared) (u:Value),BindsTo s fd ⟨[u],[]⟩ [(x,u)]) /\
   ∀base:Heap,(K w.params).In base->base.Ns mainGlobals mg->dn l.prog w (K w.params) mg base (CX w) k fa fd [x] (sp w))
 (hsp:∀(w:World) (H:Hp) (a:Addr) (ns:List Int),ns.length<=n->r_ H->bu (K w.params) H a (ns.map V.int)->sp w [.ref a] H (λv _=>v=.bl true) λ_ _ _=>False)
 (yH:∀(w:World) (H:Hp) (s:Shared) (e:Value) (s':Shared),CX w [] H s (λ_ _ _=>False) e s'->False) :
 M9 q loose XP YP l.row.toRowW d [] (λf vs=>Di f vs):=show _ by
 refine E2.Q8 hn hdf λw s₀ s₁ mg mb fa o pm cd doc a vs ns G Y ho hd hcd hmg hobj hints hlen hg=>?_;have KX:=hY w _ Y;obtain⟨fd,hb,hF⟩:=F w mg fa _ KX G.T.g hmg;exact Q9 KX G.T.g G.T.b G.T.builtins G.T.nolimit hg hobj hints (cC hlen hn2) hr hF hb (λH hO hS=>hsp w H a ns hlen hO hS) λH e s'=>yH w H s₁ e s'
def inClass(s:Stmt)(j:Nat):Stmt:=match s with
 | .ClassDef _ _ _ body _ _ _ _ _ _ _=>body.getD j (.Pass ⟨0,0,0,0⟩)
 |_=>.Pass ⟨0,0,0,0⟩
def bc(s:Stmt):Arguments:=match s with
 | .FunctionDef _ a _ _ _ _ _ _ _ _=>a
 |_=>{posonlyargs:=[],args:=[],vararg:=none,kwonlyargs:=[],kw_defaults:=[],kwarg:=none,defaults:=[]}
def aV(s:Stmt):List Stmt:=match s with
 | .FunctionDef _ _ b _ _ _ _ _ _ _=>b
 |_=>[]
def ao(s:Stmt):Scope:=match s with
 | .FunctionDef _ _ _ _ _ _ sc _ _ _=>sc
 |_=>{kind:=.function,names:=[],isGenerator:=false,isCoroutine:=false}
abbrev E0:XK:=λ_ _ _=>False
structure ny(K:aq)(x qual:Str)(st:Stmt)(f:Addr)(fd:FuncData):Prop where
 ex:∃(oc:Value) (od:Option Addr) (kV doc pm:Value) (an:Option Addr) (cdv ct:Value) (osl:Array (Option Value)),
  fd=ba x qual (bc st) (aV st) (ao st) .none kV doc pm an cdv ct/\K.lookup f=some ⟨oc,od,.func fd,osl⟩/\bB K cdv qual=true
 kp:a_ K (.ref f)=true
section
variable{P:Program}{w:World}{K:PySem.W.Frag}{mg:Str->Option Value}{base:Heap}
theorem ny.binds{x qual:Str}{st:Stmt}{f:Addr}{fd:FuncData}{ps:List Str}(F:ny K x qual st f fd)
 (h:∀(kV doc pm:Value) (an:Option Addr) (cdv ct:Value) (us:List Value),us.length=ps.length->bindArgs (ba x qual (bc st) (aV st) (ao st) .none kV doc pm an cdv ct) ⟨us,[]⟩=pure (ps.zip us)):Binds K fd ps []:=show _ by
 obtain⟨oc,od,kV,doc,pm,an,cdv,ct,osl,rfl,lk,hcd⟩:=F.ex;exact .all (h kV doc pm an cdv ct)
theorem yI{x qual:Str}{st:Stmt}{f:Addr}{oc:Value}{od an:Option Addr}{osl:Array (Option Value)}{kV doc pm cdv ct:Value}(l:K.lookup f=some ⟨oc,od,.func (ba x qual (bc st) (aV st) (ao st) .none kV doc pm an cdv ct),osl⟩)
 (c:bB K cdv qual=true) (k:a_ K (.ref f)=true):ny K x qual st f (ba x qual (bc st) (aV st) (ao st) .none kV doc pm an cdv ct):=⟨⟨oc,od,kV,doc,pm,an,cdv,ct,osl,rfl,l,c⟩,k⟩
end
theorem o_{A:Around}{k:Nat}(hr:bP k A):A.units+5<cLine:=xC (Nat.add_le_add_left (by decide:5<=64) _) hr.units
theorem ph{A B:Prop}(h:B):if false=true then A else B:=by
 rw[if_neg cV];exact h
theorem nz{A B:Prop}(h:A):if true=true then A else B:=by
 rw[if_pos rfl];exact h
theorem yJ{c A B:Prop}[Decidable c](hc:c)(h:B):if(!decide c)=true then A else B:=by
 rw[decide_eq_true hc];exact ph h
section
variable{κ:Type}[DecidableEq κ]
def gC(kvs:List (κ×V))(k:κ):Option V:=(kvs.find? λkv=>decide (kv.1=k)).map (·.2)
def putK(kvs:List (κ×V))(k:κ)(v:V):List (κ×V) :=
 if(kvs.any λkv=>decide (kv.1=k))=true then kvs.map (λkv=>if kv.1=k then(kv.1,v) else kv) else kvs++[(k,v)]
theorem u5{p:κ×V}{r:List (κ×V)}{k:κ}(e:p.1=k):gC (p::r) k=some p.2:=by simp[gC,kl,e]
theorem u6{p:κ×V}{r:List (κ×V)}{k:κ}(e:¬p.1=k):gC (p::r) k=gC r k:=by simp[gC,kl,e]
theorem E6(k:κ):∀kvs:List (κ×V),(kvs.any λkv=>decide (kv.1=k))=(gC kvs k).isSome
 |[]=>rfl
 |p::r=>by
  rw[mY];by_cases e:p.1=k
  ·simp only[u5 e,decide_eq_true e,Bool.true_or,M_]
  ·rw[u6 e,decide_eq_false e,xD];exact E6 k r
theorem yK(kvs:List (κ×V))(k:κ)(v:V):(putK kvs k v).length<=kvs.length+1:=by
 unfold putK
 split
 ·rw[aG];lia
 ·rw[aR,bp,cm];lia
theorem fM.yL{o:Option V}{u:Option Value}(r:fM o u):o.isSome=u.isSome:=by
 cases o with
 |none=>cases u with
  |none=>rfl
  |some _=>exact(show False from r).elim
 |some _=>cases u with
  |none=>exact(show False from r).elim
  |some _=>rfl
theorem KV.val{kvs:List (κ×V)}{vs:List (κ×Value)}(r:KV kvs vs)(k:κ):fM (gC kvs k) (valueAt vs k):=show _ by
 unfold KV at r
 induction r with
 |nil=>exact True.intro
 |@cons p q ps qs h t ih =>
  obtain⟨h1,h2⟩:=h;by_cases e:p.1=k
  ·have e':q.1=k:=h1.symm.trans e;have b:valueAt (q::qs) k=some q.2:=by simp[valueAt,kl,e']
   rw[u5 e,b];exact h2
  ·have e':¬q.1=k:=λz=>e (h1.trans z);have b:valueAt (q::qs) k=valueAt qs k:=by simp[valueAt,kl,e']
   rw[u6 e,b];exact ih
theorem KV.any{kvs:List (κ×V)}{vs:List (κ×Value)}(r:KV kvs vs)(k:κ):(kvs.any λkv=>decide (kv.1=k))=vs.any λkv=>decide (kv.1=k):=by
 unfold KV at r
 induction r with
 |nil=>rfl
 |cons h t ih=>rw[mY,mY,ih,h.1]
theorem KV.repl{kvs:List (κ×V)}{vs:List (κ×Value)}(r:KV kvs vs)(k:κ){y:V}{u:Value}(ry:RelV y u) :
 KV (kvs.map λkv=>if kv.1=k then(kv.1,y) else kv) (vs.map λkv=>if kv.1=k then(kv.1,u) else kv):=show _ by
 unfold KV at r ⊢
 induction r with
 |nil=>exact .nil
 |@cons p q ps qs h t ih =>
  rw[bL,bL];refine .cons ?_ ih;obtain⟨h1,h2⟩:=h;by_cases e:p.1=k
  ·rw[if_pos e,if_pos (h1.symm.trans e)];exact⟨h1,ry⟩
  ·rw[if_neg e,if_neg (λz=>e (h1.trans z))];exact⟨h1,h2⟩
theorem KV.put{kvs:List (κ×V)}{vs:List (κ×Value)}(r:KV kvs vs)(k:κ){y:V}{u:Value}(ry:RelV y u):KV (putK kvs k y) (stored vs k u):=show _ by
 unfold putK stored;rw[r.any k];by_cases e:(vs.any λkv=>decide (kv.1=k))=true
 ·rw[if_pos e,if_pos e];exact r.repl k ry
 ·rw[if_neg e,if_neg e];exact Paired.snoc r ⟨rfl,ry⟩
theorem KV.length{kvs:List (κ×V)}{vs:List (κ×Value)}(r:KV kvs vs):kvs.length=vs.length:=Paired.length r
end
theorem u7{P:Program}{w:World}{k:Key}{u:Value}(r:RelV (kV k) u):(fL P w).is k u=true:=by
 cases k with
 |inl i=>obtain⟨t,e⟩:=(show ∃t,u=Value.int i t from r);subst e;exact ya P w i t
 |inr x=>obtain⟨t,e⟩:=(show ∃t,u=Value.str x t from r);subst e;exact yb P w x t
abbrev KT(H:Hp):List (DK×V)->List (DK×Addr×Value)->Prop:=Paired λp q=>p.1=q.1/\kA H p.1 q.2.1/\RelV p.2 q.2.2
theorem KT.val{H:Hp}{kvs:List (DK×V)}{xs:List (DK×Addr×Value)}(r:KT H kvs xs)(k:DK):fM (gC kvs k) ((atKey xs k).map (·.2)):=show _ by
 induction r with
 |nil=>exact True.intro
 |@cons p q ps qs h t ih =>
  obtain⟨h1,_,h2⟩:=h;by_cases e:p.1=k
  ·have e':q.1=k:=h1.symm.trans e;have b:atKey (q::qs) k=some q.2:=by simp[atKey,kl,e']
   rw[u5 e,b];exact h2
  ·have e':¬q.1=k:=λz=>e (h1.trans z);have b:atKey (q::qs) k=atKey qs k:=by simp[atKey,kl,e']
   rw[u6 e,b];exact ih
theorem KT.repl{H:Hp}{kvs:List (DK×V)}{xs:List (DK×Addr×Value)}(r:KT H kvs xs)(k:DK){y:V}{u:Value}(ry:RelV y u) :
 KT H (kvs.map λkv=>if kv.1=k then(kv.1,y) else kv) (xs.map (putAt k u)):=show _ by
 induction r with
 |nil=>exact .nil
 |@cons p q ps qs h t ih =>
  rw[bL,bL];refine .cons ?_ ih;obtain⟨h1,h2,h3⟩:=h;unfold putAt;by_cases e:p.1=k
  ·rw[if_pos e,if_pos (h1.symm.trans e)];exact⟨h1,h2,ry⟩
  ·rw[if_neg e,if_neg (λz=>e (h1.trans z))];exact⟨h1,h2,h3⟩
theorem KT.put{H:Hp}{kvs:List (DK×V)}{xs:List (DK×Addr×Value)}(r:KT H kvs xs)(k:DK){b:Addr}{y:V}{u:Value}(hb:kA H k b)(ry:RelV y u) :
 KT H (putK kvs k y) (storedH xs k b u):=show _ by
 have e:(kvs.any λkv=>decide (kv.1=k))=(atKey xs k).isSome:=by
  rw[E6,(r.val k).yL,M']
 unfold putK storedH;rw[e];by_cases q:(atKey xs k).isSome=true
 ·rw[if_pos q,if_pos q];exact r.repl k ry
 ·rw[if_neg q,if_neg q];exact Paired.snoc r ⟨rfl,hb,ry⟩
theorem KT.keeps{H H':Hp}{kvs:List (DK×V)}{xs:List (DK×Addr×Value)}(r:KT H kvs xs)(ht:∀b ys,H b=some (.tup ys)->H' b=some (.tup ys)):KT H' kvs xs :=
 Paired.jN r λ_ _ z=>⟨z.1,z.2.1.mono ht,z.2.2⟩
section
variable{P:Program}{w:World}{H:Hp}{h:Heap}{a:Addr}
theorem E7{u:HO}(ok:cb P w H h)(e:Rd H a u):dk P w H h a u:=e.ok ok
theorem u9{kvs:List (Key×V)}(ok:cb P w H h)(e:Rd H a (.dK kvs)):kvs.length<=sizeLine/\(a==sysModules)=false/\∃vs,KV kvs vs/\h.DictOf (fL P w) a vs :=
 show dk P w H h a (.dK kvs) from E7 ok e
theorem Rb{kvs:List (Key×V)}(ok:cb P w H h)(e:H a=some (.dK kvs)):kvs.length<=sizeLine/\(a==sysModules)=false/\∃vs,KV kvs vs/\h.DictOf (fL P w) a vs:=u9 ok (.inl e)
mutual
theorem key_is{H:Hp}{h:Heap}(ok:cb P w H h):∀{k:DK} {v:V} {u:Value},jL H k v->RelV v u->dR h k u
 |_,_,_,.int i,r=>by obtain⟨t,e⟩:=r;subst e;exact .int i t
 |_,_,_,.str x,r=>by obtain⟨t,e⟩:=r;subst e;exact .str x t
 |_,_,_,.tup (a:=a) (vs:=vs) h1 h2,r=>by
  obtain⟨_,its,rv,⟨o,g1,g2,n,g3⟩,_⟩:=(show dk P w H h a (.tup vs) from ok a _ h1);cases (show _=Value.ref a from r);exact .tup g1 g2 g3 (by simpa using E8 ok h2 rv)
theorem E8{H:Hp}{h:Heap}(ok:cb P w H h):∀{ks:List DK} {vs:List V} {us:List Value},jM H ks vs->Vals vs us->dN h ks us
 |_,_,_,.nil,r=>by cases r;exact .nil
 |_,_,_,.cons h1 h2,r=>by
  cases r with
  |cons r1 r2=>exact .cons (key_is ok h1 r1) (E8 ok h2 r2)
end
theorem u_{k:DK}(ok:cb P w H h)(e:kA H k a):(oZ P w).is h k a:=⟨key_is ok e.at_ rfl,e.deep⟩
theorem yM{A:Around}(hu:A.units+5<cLine):(oZ P w).room A.in1:=by
 show A.units+1+4<cLine;lia
theorem va{kvs:List (DK×V)}(ok:cb P w H h)(e:Rd H a (.dT kvs)):kvs.length<=sizeLine/\(a==sysModules)=false /\
 ∃xs,KT H kvs xs/\h.DictOfH (oZ P w) a xs:=show _ by
 obtain⟨z,y,xs,r,o,es,ep,h1,h2,h3,h4,h5⟩:=(show dk P w H h a (.dT kvs) from E7 ok e);refine⟨z,y,xs,r,o,es,ep,h1,h2,h3,h4,λx hx=>?_,h5⟩;have all:∀{l:List (DK×V)} {m:List (DK×Addr×Value)},KT H l m->∀x∈m,(oZ P w).is h x.1 x.2.1:=by
  intro l m q
  induction q with
  |nil=>intro x hx;exact nomatch hx
  |@cons p q ps qs hq t ih =>
   intro x hx;rcases bJ.mp hx with e|hx
   ·subst e;exact u_ ok (by rw[<-hq.1];exact hq.2.1)
   ·exact ih x hx
 exact all r x hx
theorem Rc{kvs:List (DK×V)}(ok:cb P w H h)(e:H a=some (.dT kvs)):kvs.length<=sizeLine/\(a==sysModules)=false /\
 ∃xs,KT H kvs xs/\h.DictOfH (oZ P w) a xs:=va ok (.inl e)
end
def iD(H:Hp)(a:Addr)(y:V)(r:Option V):Prop :=
 (∃kvs k,Rd H a (.dK kvs)/\y=kV k/\r=gC kvs k)∨∃kvs k b,Rd H a (.dT kvs)/\y=.ref b/\kA H k b/\r=gC kvs k
def se(H:Hp)(a:Addr)(y v:V)(H':Hp):Prop :=
 (∃kvs k,H a=some (.dK kvs)/\y=kV k/\kvs.length<sizeLine/\H'=upd H a (.dK (putK kvs k v))) ∨
 ∃kvs k b,H a=some (.dT kvs)/\y=.ref b/\kA H k b/\kvs.length<sizeLine/\H'=upd H a (.dT (putK kvs k v))
theorem iD.k{H:Hp}{a:Addr}{kvs:List (Key×V)}{k:Key}(e:H a=some (.dK kvs)):iD H a (kV k) (gC kvs k):=.inl ⟨kvs,k,.inl e,rfl,rfl⟩
theorem se.k{H:Hp}{a:Addr}{kvs:List (Key×V)}{k:Key}{v:V}(e:H a=some (.dK kvs))(hl:kvs.length<sizeLine):se H a (kV k) v (upd H a (.dK (putK kvs k v))):=.inl ⟨kvs,k,e,rfl,hl,rfl⟩
section
variable{X:Cx}{pins:List (Addr×Obj)}{σ:St}{H:Hp}{s:Shared}{a:Addr}{y v:V}{u r:Value}{o:Option V}{A:Around}{E:Value->Shared->Prop}
theorem Inv.big(I:Inv X pins σ H s):sysModules<s.heap.objs.size:=by
 have h:mainGlobals<s.heap.objs.size:=(I.mod.glob.keeps I.bk).lt;exact Dk (by decide) h
theorem Rg{Q:Value->Shared->Prop}(hu:A.units+5<cLine)(I:Inv X pins σ H s)(g:iD H a y (some v))(ry:RelV y u)(h:∀w' s',Inv X pins σ H s'->RelV v w'->Q w' s') :
 wpAny (model X.prog X.w) A (getItem (.ref a) u) Q E s:=show _ by
 rcases g with⟨kvs,k,e,ey,l⟩|⟨kvs,k,b,e,ey,eb,l⟩
 ·subst ey;obtain⟨z,hd,vs,rel,dd⟩:=u9 I.hok e;obtain⟨w',hw,iC⟩:=fM.some_of (v:=v) (o:=valueAt vs k) (by rw[l];exact rel.val k);exact wpAny_getItem_of (u7 ry) dd.mapOf hw (h w' _ (I.tok _) iC)
 ·subst ey;cases (show u=Value.ref b from ry);obtain⟨z,hd,xs,rel,dd⟩:=va I.hok e;obtain⟨w',hw,iC⟩:=fM.some_of (v:=v) (o:=(atKey xs k).map (·.2)) (by rw[l];exact rel.val k);obtain⟨p,hp,hp2⟩:=dz.mp hw;refine wpAny_getItem_heap (yM hu) (u_ I.hok eb) dd hp ?_;rw[hp2];exact h w' _ (I.tok _) iC
theorem Rh{Q:Value->Shared->Prop}(hu:A.units+5<cLine)(I:Inv X pins σ H s)(g:iD H a y o)(ry:RelV y u)(h:∀s',Inv X pins σ H s'->Q (.bool (!o.isSome)) s') :
 wpAny (model X.prog X.w) A (compareOp .NotIn u (.ref a)) Q E s:=show _ by
 rcases g with⟨kvs,k,e,ey,l⟩|⟨kvs,k,b,e,ey,eb,l⟩
 ·subst ey;obtain⟨z,hd,vs,rel,dd⟩:=u9 I.hok e;refine wpAny_notIn_of (u7 ry) hd dd.mapOf ?_;rw[<-(rel.val k).yL,<-l];exact h _ (I.tok _)
 ·subst ey;cases (show u=Value.ref b from ry);obtain⟨z,hd,xs,rel,dd⟩:=va I.hok e;refine wpAny_notIn_heap (yM hu) (u_ I.hok eb) hd dd ?_;have q:=(rel.val k).yL;rw[M']at q;rw[<-q,<-l];exact h _ (I.tok _)
theorem E9{h':Heap}{t':Nat}{ob:HO}(I:Inv X pins σ H s)(mu:rC (H a))(hs:fJ a s.heap h')(he:∃q,h'.get? a=some q)(new:dk X.prog X.w (upd H a ob) h' a ob) :
 Inv X pins σ (upd H a ob) {s with heap:=h',toks:=t'} :=
 I.write (x:=a) (e:=a) mu (.inl rfl) (λb q hb z=>(hs.2 b hb).trans z) he new
theorem Ri{P:Program}{w:World}{H':Hp}{h':Heap}{kvs:List (Key×V)}{vs:List (Key×Value)}(z:kvs.length<=sizeLine)(hd:(a==sysModules)=false)(rel:KV kvs vs)(dd:h'.DictOf (fL P w) a vs) :
 dk P w H' h' a (.dK kvs):=⟨z,hd,vs,rel,dd⟩
theorem Rj{H':Hp}{Q:Unit->Shared->Prop}(hu:A.units+5<cLine)(I:Inv X pins σ H s)(g:se H a y v H')(ry:RelV y u)(rv:RelV v r)(h:∀s',Inv X pins σ H' s'->Q () s') :
 wpAny (model X.prog X.w) A (setItem (.ref a) u r) Q E s:=show _ by
 rcases g with⟨kvs,k,e,ey,l,eH⟩|⟨kvs,k,b,e,ey,eb,l,eH⟩
 ·subst ey eH;obtain⟨z,hd,vs,rel,dd⟩:=Rb I.hok e;have hz:vs.length<=sizeLine:=by rw[<-rel.length];exact z
  have hl:(putK kvs k v).length<=sizeLine:=by have:=yK kvs k v;lia
  refine wpAny_setItem_pairs (hsz:=hz) (u7 ry) dd λh' vb hs=>h _ ?_;have he:∃q,h'.get? a=some q:=let⟨q,_,_,hq,_⟩:=vb;⟨q,hq⟩
  exact E9 I (by rw[e];exact True.intro) hs he (Ri hl hd (rel.put k rv) vb)
 ·subst ey eH;cases (show u=Value.ref b from ry);obtain⟨z,hd,xs,rel,dd⟩:=Rc I.hok e;have hz:xs.length<=sizeLine:=by rw[<-Paired.length rel];exact z
  have hl:(putK kvs k v).length<=sizeLine:=by have:=yK kvs k v;lia
  refine wpAny_setItem_heap (hsz:=hz) (yM hu) (u_ I.hok eb) dd λh' vb hs=>h _ ?_;obtain⟨q,es,ep,hq,h2,h3,h4,_,h5⟩:=vb;refine E9 I (by rw[e];exact True.intro) hs ⟨q,hq⟩ ⟨hl,hd,_,(rel.put k eb rv).keeps λc ys ec=>?_,q,es,ep,hq,h2,h3,h4,h5⟩;rw[bg (Oi ec e (λz=>nomatch z))];exact ec
end
def yN(i:Expr):Prop:=∀ov iv,subscripted i false ov iv=operate [ov,iv] (getItem ov iv)
theorem Rk{prog:Program}{w:World}{A:Around}{E:Value->Shared->Prop}{s:Shared}{env:Env}{value slice:Expr}{pos:Pos}{T id:String}{Q:Value->Shared->Prop}
 (hl:typeLookup (.type T) "__getitem__"=pure (some (.builtin id))) (hs:yN slice)
 (h:wpAny (model prog w) A (eval value env) (λo s₁=>wpAny (model prog w) A (eval slice env) (λi s₂=>s₂.TypeIs o T/\wpAny (model prog w) A (getItem o i) Q E s₂) E s₁) E s) :
 wpAny (model prog w) A (eval (.Subscript value slice pos) env) Q E s:=show _ by
 refine C6 (fo h (λo s₁ h₁=>fo h₁ (λi s₂ h₂=>?_) λ_ _ x=>x) λ_ _ x=>x);obtain⟨hT,h₂⟩:=h₂;unfold subscriptTail;refine ai ?_;rw[getitemInPython_of_ne hT.not_modules];refine ai (lN hT hl ?_);have fin:wpAny (model prog w) A (subscripted slice false o i) (λr s₃=>wpAny (model prog w) A (letTemporaryGo value o r >>= λ_=>pure r) Q E s₃) E s₂:=by
  rw[hs o i];exact wpAny_operating (fo h₂ (λr s₃ h₃=>ai (wpAny_letTemporaryGo (aB h₃))) λ_ _ x=>x)
 first
  |exact aB (ai fin)
  |exact ai (aB (ai fin))
  |exact ai fin
theorem Ro{X:Cx}{pins:List (Addr×Obj)}{σ:St}{H:Hp}{s:Shared}{a:Addr}{y:V}{o:Option V}(I:Inv X pins σ H s)(g:iD H a y o):s.TypeIs (.ref a) "dict":=show _ by
 rcases g with⟨kvs,k,e,_,_⟩|⟨kvs,k,b,e,_,_,_⟩
 ·obtain⟨_,_,vs,_,dd⟩:=u9 I.hok e;exact dd.typeIs
 ·obtain⟨_,_,xs,_,dd⟩:=va I.hok e;exact dd.typeIs
def Rq(td ty:TE):TE:=λσ H Q=>td σ H λx H1=>ty σ H1 λy H2=>∃a v,x=.ref a/\iD H2 a y (some v)/\Q v H2
def Rr(td ty tv:TE):TS:=λD σ H=>tv σ H λv H1=>td σ H1 λx H2=>ty σ H2 λy H3=>∃a H4,x=.ref a/\se H3 a y v H4/\D.nx σ H4
section
variable{X:Cx}{o i e value:Expr}{pos pos' tpos:Pos}{td ty tv:TE}
theorem Rt(hu:X.A.units+5<cLine)(ho:PE X o td)(hi:PE X i ty)(hs:yN i):PE X (.Subscript o i pos) (Rq td ty):=show _ by
 intro pins s σ H Q I h;refine Rk PySem.F.slot_dict_getitem.lookup hs (aF (ho pins s σ H _ I h) λu s1 ⟨x,H1,I1,rx,q1⟩=>aF (hi pins s1 σ H1 _ I1 q1) λiv s2 ⟨y,H2,I2,ry,a,v,ex,g,q2⟩=>?_);subst ex;obtain rfl:u=Value.ref a:=rx;exact⟨Ro I2 g,Rg hu I2 g ry λw' s3 I3 iC=>⟨v,H2,I3,iC,q2⟩⟩
theorem Ru(hu:X.A.units+5<cLine)(ho:PE X o td)(hi:PE X i ty)(hv:PE X value tv)(hs:swapsWith value (some (.Subscript o i pos')) pos.line X.env=pure false) :
 PS X (.Assign [.Subscript o i pos'] value pos) (Rr td ty tv):=show _ by
 intro pins s σ H D I h;refine wpAny_Assign_Subscript (aF (hv pins s σ H _ I h) λr s1 ⟨v,H1,I1,rv,q1⟩=>aF (ho pins s1 σ H1 _ I1 q1) λu s2 ⟨x,H2,I2,rx,q2⟩=>aF (hi pins s2 σ H2 _ I2 q2) λiv s3 ⟨y,H3,I3,ry,a,H4,ex,g,q3⟩=>?_) hs;subst ex;obtain rfl:u=Value.ref a:=rx;exact Rj hu I3 g ry rv λs4 I4=>⟨σ,H4,I4,q3⟩
end
theorem Rv{P:Program}{w:World}{H:Hp}(h:Heap)(hb:sysModules<h.objs.size):dk P w H (h.push {cls:=.type "dict",data:=.dict #[]}) h.objs.size (.dK []) :=
 ⟨bV _,beq_eq_false_iff_ne.mpr (bt (cW hb)),[],.nil,Nc h⟩
def Rw:TE:=λ_ H Q=>∀p,H p=none->Q (.ref p) (upd H p (.dK []))
section
variable{X:Cx}{pos:Pos}
theorem Ry:PE X (.Dict [] [] pos) Rw:=λpins s σ H Q I h =>
 wpAny_Dict_empty ⟨.ref s.heap.objs.size,_,I.laid (a:=s.heap.objs.size) (o:=.dK []) (t':=s.toks) (λ_ _ q=>bA _ q) (aT _) (Rv s.heap I.big),rfl,h _ (I.hok.fresh (aT _))⟩
end
end L2
namespace L2
open PySem PySem.Spec PyProof.Rows
end L2
namespace EE
open PySem PySem.Spec PyProof.Rows L2
structure az(K:aq)(mg:Str->Option Value)(x:Str)(st:Stmt)(ps:List Str):Prop where
 ex:∃f fd,ny K x x st f fd/\Binds K fd ps []/\mg x=some (.ref f)
section
variable{P:Program}{w:World}{K:PySem.W.Frag}{mg:Str->Option Value}{base:Heap}
theorem bQ{h:Heap}{x:Str}{st:Stmt}{ps:List Str}{f:Addr}{oc:Value}{od an:Option Addr}{osl:Array (Option Value)}{kV doc pm cdv ct:Value}(X:K.In h)(G:h.Ns mainGlobals mg)
 (a:bb K mainGlobals x=some (some (.ref f))) (l:K.lookup f=some ⟨oc,od,.func (ba x x (bc st) (aV st) (ao st) .none kV doc pm an cdv ct),osl⟩)
 (c:bB K cdv x=true) (k:a_ K (.ref f)=true)
 (hb:∀(kV doc pm:Value) (an:Option Addr) (cdv ct:Value) (us:List Value),us.length=ps.length->bindArgs (ba x x (bc st) (aV st) (ao st) .none kV doc pm an cdv ct) ⟨us,[]⟩=pure (ps.zip us)):az K mg x st ps:=show _ by
 have F:=yI (st:=st) l c k;exact⟨f,_,F,F.binds hb,mZ X G a⟩
end
section
variable{X:Cx}{k:Nat}{ps:List Str}{sp:Sp}{x:Str}{p pos:Pos}{e:Expr}{es:List Expr}{t:TA}
theorem Rz{i:Int}(h:∃t,X.mg x=some (.int i t))(hg:Gl X x)(hd:(x==("__debug__":Str))=false:=by decide):PE X (.Name x pos) (tC (.int i)):=by
 obtain⟨t,e⟩:=h;exact OB (v:=.int i) hg e ⟨t,rfl⟩ hd
def E_:V->List V->Hp->VK->Prop:=λx vs H Q=>∃l ys y,x=.ref l/\vs=[]/\H l=some (.lst (ys++[y]))/\Q y (upd H l (.lst ys))
theorem gV:uY X "list.pop" E_:=by
 intro pins s σ H x vs v us Q I rx rv h;obtain⟨l,ys,y,rfl,rfl,hH,q⟩:=h;refine Q4 pins s σ H _ _ v us Q I rx rv ⟨l,ys++[y],y,rfl,rfl,hH,by simp,?_⟩;rw[List.dropLast_concat];exact q
theorem RA(l:Addr)(xs:Array Value)(n:Nat)(b:Addr)(dd:Option Addr)(sl:Array (Option Value))(ys:Array Value)(m:Nat)
 (hz:¬(!xs.isEmpty&&xB (xs.size+ys.size))=true) (h1:xs.size<=sizeLine) (h2:xs.size+ys.size<=sizeLine+1) :
 Meets (Builtin.«list.extend» ⟨[.ref l,.ref b],[]⟩) (λ_ R s=>s.heap.get? l=some {cls:=.type "list",dict:=none,data:=.seq xs n,slots:=#[]} /\
  s.heap.get? b=some {cls:=.type "tuple",dict:=dd,data:=.seq ys m,slots:=sl} /\
  R (.ok (.ret Value.none)) {s with heap:=s.heap.update l (fq λx=>x++ys),toks:=s.toks}) :=
 .of_wp λprog w A R s h=>by
  obtain⟨hp,g,d,tk,os⟩:=s;obtain⟨hl,hb,h⟩:=h;have f1:=aip;have f2:=Nd;have f3:=aiq;have f4:=air;have f5:=ais;have hw:(xs++ys).size<=sizeLine+1:=show _ by rw[Array.size_append];exact h2
  wp_walk using(ub hl rfl (hz:=h1) (_hz':=hw)),Dl hl,Dl hb
  exact⟨_,rfl,h⟩
def Fb(K:aq):V->List V->Hp->VK->Prop:=λx vs H Q=>∃l b xs zs,x=.ref l/\vs=[.ref b]/\H l=some (.lst xs)/\bq K H b zs/\xs.length+zs.length<=sizeLine/\Q .non (upd H l (.lst (xs++zs)))
theorem RB:uY X "list.extend" (Fb X.K):=show _ by
 intro pins s σ H x vs v us Q I rx rv h;obtain⟨l,b,xs,zs,rfl,rfl,hH,hB,hz,q⟩:=h;cases rx;obtain⟨u,rfl,ru⟩:=rv.one;cases ru;obtain⟨z,its,n,r,hl,e⟩:=I.nv hH;obtain⟨its2,r2,⟨o,e2,hc,m,hd⟩,hz2⟩:=I.tuple hB;obtain⟨oc,od,odt,osl⟩:=o;obtain rfl:oc=.type "tuple":=hc;obtain rfl:odt=.seq its2.toArray m:=hd;have hl2:=r2.length;have hsz:its.toArray.size+its2.toArray.size<=sizeLine:=by rw[cj,cj];lia
 have RC:¬(!its.toArray.isEmpty&&xB (its.toArray.size+its2.toArray.size))=true:=by
  rw[Q1 hsz,Nf];exact cV
 refine t_ Ng ⟨_,e,rfl⟩ F.entry_list_extend (F.args_list_extend_2 _ _)
  (RA l its.toArray n b od osl its2.toArray m RC (by rw[cj];lia) (by lia)) ⟨e,e2,?_⟩
 refine⟨.non,_,I.uZ (its':=its++its2) hH e (by simp) (r.append r2) ?_,rfl,q⟩;rw[aR];lia
end
theorem Fc{c A B:Prop}[Decidable c](hc:¬c)(h:A):if(!decide c)=true then A else B:=by
 rw[decide_eq_false hc];exact nz h
theorem sf{c A B:Prop}[Decidable c](hc:c)(h:A):if decide c=true then A else B:=by
 rw[decide_eq_true hc];exact nz h
theorem vc{c A B:Prop}[Decidable c](hc:¬c)(h:B):if decide c=true then A else B:=by
 rw[decide_eq_false hc];exact ph h
theorem RD{c A B:Prop}[Decidable c](h1:c->A)(h2:¬c->B):if decide c=true then A else B:=by
 by_cases h:c
 ·exact sf h (h1 h)
 ·exact vc h (h2 h)
theorem snoc_cases{α:Type}(xs:List α):xs=[]∨∃ys y,xs=ys++[y]:=by
 cases xs with
 |nil=>exact .inl rfl
 |cons a r=>exact .inr ⟨(a::r).dropLast,(a::r).getLast (by simp),(List.dropLast_concat_getLast (by simp)).symm⟩
inductive ak where
 |aI
 |pair (l r:ak)
def ak.size:ak->Nat
 | .aI=>0
 | .pair l r=>l.size+r.size+1
def ak.deep:ak->Nat
 | .aI=>0
 | .pair l r=>max l.deep r.deep+1
theorem ak.yO:∀t:ak,t.deep<=t.size
 | .aI=>aT _
 | .pair l r=>by
  have h1:=l.yO;have h2:=r.yO;simp only[ak.deep,ak.size];lia
def sizes:List ak->Nat
 |[]=>0
 |t::r=>t.size+sizes r
theorem gX(a b:List ak):sizes (a++b)=sizes a+sizes b:=by
 induction a with
 |nil=>simp[sizes]
 |cons t r ih=>simp only[qT,sizes,ih];lia
end EE
namespace EE
open PySem PySem.Spec PyProof.Rows L2 SeqAt
inductive Dt where
 |non|bl (b:Bool)|int (i:Int)|str (x:Str)|tup (xs:List Dt)|lst (xs:List Dt)
mutual
def bf:Dt->Dt->Bool
 | .non,.non=>true
 | .bl a,.bl b=>a==b
 | .bl a,.int b=>(if a then 1 else 0)==b
 | .int a,.bl b=>a==(if b then 1 else 0)
 | .int a,.int b=>a==b
 | .str a,.str b=>a==b
 | .tup xs,.tup ys=>gY xs ys
 | .lst xs,.lst ys=>gY xs ys
 |_,_=>false
def gY:List Dt->List Dt->Bool
 |[],[]=>true
 |x::xs,y::ys=>bf x y&&gY xs ys
 |_,_=>false
end
mutual
def dF:Dt->Nat
 | .tup xs=>fi xs+1
 | .lst xs=>fi xs+1
 |_=>0
def fi:List Dt->Nat
 |[]=>0
 |x::xs=>max (dF x) (fi xs)
end
mutual
theorem sg:∀d:Dt,bf d d=true
 | .non=>rfl
 | .bl b=>by simp[bf]
 | .int i=>by simp[bf]
 | .str x=>by simp[bf]
 | .tup xs=>by simp only[bf];exact yP xs
 | .lst xs=>by simp only[bf];exact yP xs
theorem yP:∀ds:List Dt,gY ds ds=true
 |[]=>rfl
 |d::ds=>by simp only[gY,sg d,yP ds,iW]
end
mutual
def f_:Dt->Bool
 | .bl _=>false
 | .tup xs=>gc xs
 | .lst xs=>gc xs
 |_=>true
def gc:List Dt->Bool
 |[]=>true
 |x::xs=>f_ x&&gc xs
end
mutual
theorem yQ:∀{d e:Dt},f_ d=true->f_ e=true->bf d e=true->d=e
 | .non,.non,_,_,_=>rfl
 | .int a,.int b,_,_,h=>by simp only[bf,beq_iff_eq]at h;rw[h]
 | .str a,.str b,_,_,h=>by simp only[bf,beq_iff_eq]at h;rw[h]
 | .tup xs,.tup ys,p,q,h=>by
  simp only[bf]at h;simp only[f_]at p q;rw[yR p q h]
 | .lst xs,.lst ys,p,q,h=>by
  simp only[bf]at h;simp only[f_]at p q;rw[yR p q h]
 | .bl _,_,p,_,_=>by simp[f_]at p
 |_,.bl _,_,q,_=>by simp[f_]at q
 | .non,.int _,_,_,h=>by simp[bf]at h
 | .non,.str _,_,_,h=>by simp[bf]at h
 | .non,.tup _,_,_,h=>by simp[bf]at h
 | .non,.lst _,_,_,h=>by simp[bf]at h
 | .int _,.non,_,_,h=>by simp[bf]at h
 | .int _,.str _,_,_,h=>by simp[bf]at h
 | .int _,.tup _,_,_,h=>by simp[bf]at h
 | .int _,.lst _,_,_,h=>by simp[bf]at h
 | .str _,.non,_,_,h=>by simp[bf]at h
 | .str _,.int _,_,_,h=>by simp[bf]at h
 | .str _,.tup _,_,_,h=>by simp[bf]at h
 | .str _,.lst _,_,_,h=>by simp[bf]at h
 | .tup _,.non,_,_,h=>by simp[bf]at h
 | .tup _,.int _,_,_,h=>by simp[bf]at h
 | .tup _,.str _,_,_,h=>by simp[bf]at h
 | .tup _,.lst _,_,_,h=>by simp[bf]at h
 | .lst _,.non,_,_,h=>by simp[bf]at h
 | .lst _,.int _,_,_,h=>by simp[bf]at h
 | .lst _,.str _,_,_,h=>by simp[bf]at h
 | .lst _,.tup _,_,_,h=>by simp[bf]at h
theorem yR:∀{ds es:List Dt},gc ds=true->gc es=true->gY ds es=true->ds=es
 |[],[],_,_,_=>rfl
 |d::ds,e::es,p,q,h=>by
  simp only[gc,gq]at p q;simp only[gY,gq]at h;rw[yQ p.1 q.1 h.1,yR p.2 q.2 h.2]
 |[],_::_,_,_,h=>by simp[gY]at h
 |_::_,[],_,_,h=>by simp[gY]at h
end
mutual
inductive DR(K:aq)(H:Hp):Dt->V->Prop where
 |non:DR K H .non .non
 |bl (b:Bool):DR K H (.bl b) (.bl b)
 |int (i:Int):DR K H (.int i) (.int i)
 |str (x:Str):DR K H (.str x) (.str x)
 |tup {a:Addr} {xs:List V} {ds:List Dt}:bq K H a xs->dS K H ds xs->DR K H (.tup ds) (.ref a)
 |lst {a:Addr} {xs:List V} {ds:List Dt}:bu K H a xs->dS K H ds xs->DR K H (.lst ds) (.ref a)
inductive dS(K:aq)(H:Hp):List Dt->List V->Prop where
 |nil:dS K H [] []
 |cons {d:Dt} {v:V} {ds:List Dt} {vs:List V}:DR K H d v->dS K H ds vs->dS K H (d::ds) (v::vs)
end
section
variable{X:Cx}{pins:List (Addr×Obj)}{σ:L2.St}{H:Hp}{s:Shared}
theorem Fe{a:Addr}{xs ys:List V}(I:Inv X pins σ H s)(h:bu X.K H a xs)(h':bq X.K H a ys):False:=by
 obtain⟨its,_,p,_⟩:=I.list h;obtain⟨its',_,q,_⟩:=I.tuple h';exact ne_of_list_tuple p.isList (show s.heap.IsTuple a its'.toArray from q) rfl
mutual
theorem DR.inj(I:Inv X pins σ H s):∀{d e:Dt} {v:V},DR X.K H d v->DR X.K H e v->d=e
 |_,_,_,.non,h=>by cases h;rfl
 |_,_,_,.bl _,h=>by cases h;rfl
 |_,_,_,.int _,h=>by cases h;rfl
 |_,_,_,.str _,h=>by cases h;rfl
 |_,_,_,.tup p q,h=>by
  cases h with
  |tup p' q' =>
   have e:=I.o6 p p';subst e;rw[dS.inj I q q']
  |lst p' q'=>exact(Fe I p' p).elim
 |_,_,_,.lst p q,h=>by
  cases h with
  |lst p' q' =>
   have e:=I.uH p p';subst e;rw[dS.inj I q q']
  |tup p' q'=>exact(Fe I p p').elim
theorem dS.inj(I:Inv X pins σ H s):∀{ds es:List Dt} {vs:List V},dS X.K H ds vs->dS X.K H es vs->ds=es
 |_,_,_,.nil,h=>by cases h;rfl
 |_,_,_,.cons p q,h=>by
  cases h with
  |cons p' q'=>rw[DR.inj I p p',dS.inj I q q']
end
theorem dS.len:∀{ds:List Dt} {vs:List V},dS X.K H ds vs->ds.length=vs.length
 |_,_,.nil=>rfl
 |_,_,.cons _ q=>by simp[dS.len q]
theorem dS.at:∀{ds:List Dt} {vs:List V} {i:Nat} {v:V},dS X.K H ds vs->vs[i]?=some v->∃d,ds[i]?=some d/\DR X.K H d v
 |_,_,_,_,.nil,e=>by simp at e
 |_,_,0,_,.cons r _,e=>by simp at e;subst e;exact⟨_,rfl,r⟩
 |_,_,i+1,v,.cons _ q,e=>by
  obtain⟨d,h1,h2⟩:=dS.at (i:=i) (v:=v) q (by simpa using e);exact⟨d,by simpa using h1,h2⟩
def kJ(ds es:List Dt)(i:Nat):Bool:=match ds[i]?,es[i]? with
 |some d,some e=>bf d e
 |_,_=>true
theorem RE(ds es:List Dt)(d e:Dt)(n:Nat):(aZ (n+1)).all (kJ (d::ds) (e::es))=(bf d e&&(aZ n).all (kJ ds es)):=by
 rw[MB,oN,MC];rfl
theorem yS:∀ds es:List Dt,gY ds es=((aZ (min ds.length es.length)).all (kJ ds es)&&ds.length==es.length)
 |[],[]=>rfl
 |[],_::_=>by simp[gY]
 |_::_,[]=>by simp[gY]
 |d::ds,e::es=>by
  have ih:=yS ds es;simp only[gY,bp];rw[MD,RE,ih,ME];congr 2;rw[iX];simp
theorem Ff:∀{ds:List Dt} {i:Nat} {d:Dt},ds[i]?=some d->dF d<=fi ds
 |[],_,_,e=>by simp at e
 |x::xs,0,_,e=>by simp at e;subst e;simp only[fi];lia
 |x::xs,i+1,d,e=>by
  have:=Ff (ds:=xs) (i:=i) (d:=d) (by simpa using e);simp only[fi];lia
theorem Fg{xs:List V}{us:List Value}{j:Nat}(r:Vals xs us)(h:j<us.toArray.size):∃x,xs[j]?=some x/\RelV x us.toArray[j]:=show _ by
 have hl:=r.length;have hj:j<xs.length:=by simpa[hl]using h
 have e:xs[j]?=some xs[j]:=aU hj;obtain⟨u,hu,ru⟩:=r.get e;refine⟨_,e,?_⟩;have:us.toArray[j]=u:=by
  have z:us[j]?=some us[j]:=aU (by simpa using h);rw[z]at hu;simpa using dg hu
 rw[this];exact ru
theorem units_in1{A:Around}:A.in1.units=A.units+1:=rfl
theorem Fh(I:Inv X pins σ H s):∀(n:Nat) (A:Around) (d e:Dt) (v v':V) (u u':Value),dF d<=n->A.units+n<cLine->DR X.K H d v->DR X.K H e v'->RelV v u->RelV v' u' ->
 RcAt A s u u' (bf d e)/\EqAt A s u u' (bf d e):=show _ by
 intro n
 induction n with
 |zero =>
  intro A d e v v' u u' hn hu hd he r r';have hu':A.units<cLine:=by lia
  cases hd with
  |non =>
   cases r;cases he with
   |non=>cases r';exact⟨RcAt.none_none,EqAt.same _⟩
   |bl b=>cases r';exact⟨RcAt.none_bool b,EqAt.none_bool b⟩
   |int b=>obtain⟨t,rfl⟩:=r';exact⟨RcAt.none_int b t,EqAt.none_int b t⟩
   |str b=>obtain⟨t,rfl⟩:=r';exact⟨RcAt.none_str b t,EqAt.none_str b t⟩
   |tup p q =>
    cases r';obtain⟨its,_,ht,_⟩:=I.tuple p;exact⟨RcAt.none_tuple ht hu',EqAt.none_tuple ht hu'⟩
   |lst p q =>
    cases r';obtain⟨its,_,ht,_⟩:=I.list p;exact⟨RcAt.none_list ht.isList hu',EqAt.none_list ht.isList hu'⟩
  |bl a =>
   cases r;cases he with
   |non=>cases r';exact⟨RcAt.bool_none a,EqAt.bool_none a⟩
   |bl b=>cases r';exact⟨RcAt.bool_bool a b,EqAt.bool_bool a b⟩
   |int b=>obtain⟨t,rfl⟩:=r';exact⟨RcAt.bool_int a b t,EqAt.bool_int a b t⟩
   |str b=>obtain⟨t,rfl⟩:=r';exact⟨RcAt.bool_str a b t,EqAt.bool_str a b t⟩
   |tup p q =>
    cases r';obtain⟨its,_,ht,_⟩:=I.tuple p;exact⟨RcAt.bool_tuple a ht hu',EqAt.bool_tuple a ht hu'⟩
   |lst p q =>
    cases r';obtain⟨its,_,ht,_⟩:=I.list p;exact⟨RcAt.bool_list a ht.isList hu',EqAt.bool_list a ht.isList hu'⟩
  |int a =>
   obtain⟨t0,rfl⟩:=r;cases he with
   |non=>cases r';exact⟨RcAt.int_none a t0,EqAt.int_none a t0⟩
   |bl b=>cases r';exact⟨RcAt.int_bool a t0 b,EqAt.int_bool a t0 b⟩
   |int b=>obtain⟨t,rfl⟩:=r';exact⟨RcAt.int_int a t0 b t,EqAt.int_int a t0 b t⟩
   |str b=>obtain⟨t,rfl⟩:=r';exact⟨RcAt.int_str a t0 b t,EqAt.int_str a t0 b t⟩
   |tup p q =>
    cases r';obtain⟨its,_,ht,_⟩:=I.tuple p;exact⟨RcAt.int_tuple a t0 ht hu',EqAt.int_tuple a t0 ht hu'⟩
   |lst p q =>
    cases r';obtain⟨its,_,ht,_⟩:=I.list p;exact⟨RcAt.int_list a t0 ht.isList hu',EqAt.int_list a t0 ht.isList hu'⟩
  |str a =>
   obtain⟨t0,rfl⟩:=r;cases he with
   |non=>cases r';exact⟨RcAt.str_none a t0,EqAt.str_none a t0⟩
   |bl b=>cases r';exact⟨RcAt.str_bool a t0 b,EqAt.str_bool a t0 b⟩
   |int b=>obtain⟨t,rfl⟩:=r';exact⟨RcAt.str_int a t0 b t,EqAt.str_int a t0 b t⟩
   |str b=>obtain⟨t,rfl⟩:=r';exact⟨RcAt.str_str a t0 b t,EqAt.str_str a t0 b t⟩
   |tup p q =>
    cases r';obtain⟨its,_,ht,_⟩:=I.tuple p;exact⟨RcAt.str_tuple a t0 ht hu',EqAt.str_tuple a t0 ht hu'⟩
   |lst p q =>
    cases r';obtain⟨its,_,ht,_⟩:=I.list p;exact⟨RcAt.str_list a t0 ht.isList hu',EqAt.str_list a t0 ht.isList hu'⟩
  |tup p q=>simp[dF]at hn
  |lst p q=>simp[dF]at hn
 |succ n ih =>
  intro A d e v v' u u' hn hu hd he r r';by_cases h0:dF d<=n
  ·exact ih A d e v v' u u' h0 (by lia) hd he r r'
  have hu':A.units<cLine:=by lia
  have items:∀{xs ys:List V} {ds es:List Dt} {its its2:List Value},fi ds<=n->dS X.K H ds xs->dS X.K H es ys->Vals xs its->Vals ys its2 ->
   ∀j (h1:j<its.toArray.size) (h2:j<its2.toArray.size),EqAt A.in1 s its.toArray[j] its2.toArray[j] (kJ ds es j):=λ{xs ys ds es its its2} hdd q q' rv rv' j h1 h2=>by
   obtain⟨x,hx,rx⟩:=Fg rv h1;obtain⟨y,hy,ry⟩:=Fg rv' h2;obtain⟨dx,rq,yf⟩:=q.at hx;obtain⟨dy,yg,yh⟩:=q'.at hy;have Od:=Ff rq;have:=(ih A.in1 dx dy x y _ _ (by lia) (by rw[units_in1];lia) yf yh rx ry).2;unfold kJ;rw[rq,yg];exact this
  cases hd with
  |non=>exact absurd (bV _) h0
  |bl _=>exact absurd (bV _) h0
  |int _=>exact absurd (bV _) h0
  |str _=>exact absurd (bV _) h0
  |@tup a xs ds p q =>
   cases r;obtain⟨its,rv,ht,_⟩:=I.tuple p;cases he with
   |non=>cases r';exact⟨RcAt.tuple_none ht hu',EqAt.tuple_none ht hu'⟩
   |bl b=>cases r';exact⟨RcAt.tuple_bool b ht hu',EqAt.tuple_bool b ht hu'⟩
   |int b=>obtain⟨t,rfl⟩:=r';exact⟨RcAt.tuple_int b t ht hu',EqAt.tuple_int b t ht hu'⟩
   |str b=>obtain⟨t,rfl⟩:=r';exact⟨RcAt.tuple_str b t ht hu',EqAt.tuple_str b t ht hu'⟩
   |@tup b ys es p' q' =>
    cases r';obtain⟨its2,sh,gv,_⟩:=I.tuple p';have hdd:fi ds<=n:=by simp only[dF]at hn;lia
    have e:((aZ (min its.toArray.size its2.toArray.size)).all (kJ ds es)&&its.toArray.size==its2.toArray.size)=bf (.tup ds) (.tup es):=by
     simp only[bf];rw[yS,q.len,q'.len,rv.length,sh.length];simp
    have rc:RcAt A s (.ref a) (.ref b) (bf (.tup ds) (.tup es)):=by
     rw[<-e];exact RcAt.tuples ht gv hu' (items hdd q q' rv sh)
    refine⟨rc,?_⟩;by_cases hab:a=b
    ·subst hab;have ed:Dt.tup ds=Dt.tup es:=DR.inj I (.tup p q) (.tup p' q');rw[<-ed,sg];exact EqAt.same _
    ·exact EqAt.of_refs hab rc
   |@lst b ys es p' q' =>
    cases r';obtain⟨its2,_,gv,_⟩:=I.list p';exact⟨RcAt.tuple_list ht gv.isList hu',EqAt.tuple_list ht gv.isList hu'⟩
  |@lst a xs ds p q =>
   cases r;obtain⟨its,rv,ht,_⟩:=I.list p;cases he with
   |non=>cases r';exact⟨RcAt.list_none ht.isList hu',EqAt.list_none ht.isList hu'⟩
   |bl b=>cases r';exact⟨RcAt.list_bool b ht.isList hu',EqAt.list_bool b ht.isList hu'⟩
   |int b=>obtain⟨t,rfl⟩:=r';exact⟨RcAt.list_int b t ht.isList hu',EqAt.list_int b t ht.isList hu'⟩
   |str b=>obtain⟨t,rfl⟩:=r';exact⟨RcAt.list_str b t ht.isList hu',EqAt.list_str b t ht.isList hu'⟩
   |@tup b ys es p' q' =>
    cases r';obtain⟨its2,_,gv,_⟩:=I.tuple p';exact⟨RcAt.list_tuple ht.isList gv hu',EqAt.list_tuple ht.isList gv hu'⟩
   |@lst b ys es p' q' =>
    cases r';obtain⟨its2,sh,gv,_⟩:=I.list p';have hdd:fi ds<=n:=by simp only[dF]at hn;lia
    have rc:RcAt A s (.ref a) (.ref b) (bf (.lst ds) (.lst es)):=by
     simp only[bf];rw[yS,q.len,q'.len,rv.length,sh.length];by_cases hsz:its.length=its2.length
     ·have e:((aZ (min its.length its2.length)).all (kJ ds es)&&its.length==its2.length)=(aZ its.toArray.size).all (kJ ds es):=by
       simp[hsz]
      rw[e];exact RcAt.lists ht.isList gv.isList (by simpa using hsz) hu' (items hdd q q' rv sh)
     ·have e:((aZ (min its.length its2.length)).all (kJ ds es)&&its.length==its2.length)=false:=by
       rw[beq_eq_false_iff_ne.mpr hsz,Nf]
      rw[e];exact RcAt.lists_lengths ht.isList gv.isList (by simpa using hsz) hu'
    refine⟨rc,?_⟩;by_cases hab:a=b
    ·subst hab;have ed:Dt.lst ds=Dt.lst es:=DR.inj I (.lst p q) (.lst p' q');rw[<-ed,sg];exact EqAt.same _
    ·exact EqAt.of_refs hab rc
theorem RF{n:Nat}(hu:X.A.units+n<cLine):cu X (compareOp .Eq) (λx y H Q=>∃d e,DR X.K H d x/\DR X.K H e y/\dF d<=n/\Q (.bl (bf d e)) H):=show _ by
 intro pins s σ H x y v u Q I rx ry h;obtain⟨d,e,hd,he,hn,q⟩:=h;exact(Fh I n X.A d e x y v u hn hu hd he rx ry).1 X.prog X.w X.xe _ ⟨.bl (bf d e),H,I,rfl,q⟩
end
def ak.dt:ak->Dt
 | .aI=>.non
 | .pair l r=>.tup [l.dt,r.dt]
theorem ak.yT:∀t:ak,dF t.dt=t.deep
 | .aI=>rfl
 | .pair l r=>by
  simp only[ak.dt,dF,fi,ak.deep,l.yT,r.yT];lia
theorem ak.yU:∀t:ak,f_ t.dt=true
 | .aI=>rfl
 | .pair l r=>by simp only[ak.dt,f_,gc,l.yU,r.yU,iW]
end EE
namespace EE
open PySem PySem.Spec PyProof.Rows L2
def textOf(cs:List Nat):Str:=⟨cs.toArray⟩
theorem gD(cs:List Nat):(textOf cs).length=cs.length:=by simp[textOf,C9]
theorem si(a b:List Nat):textOf a++textOf b=textOf (a++b):=by
 show Str.append (textOf a) (textOf b)=textOf (a++b);simp[textOf,Str.append]
def kK(cs:List Nat)(lo hi:Option Int):List Nat:=(cs.drop (HT.aM cs.length 0 lo)).take (HT.aM cs.length cs.length hi-HT.aM cs.length 0 lo)
theorem RG(lo hi:Option Int)(n:Nat):Nh lo hi 1 n=sliceRange ((HT.aM n 0 lo:Nat):Int) ((HT.aM n n hi:Nat):Int) 1:=show _ by
 have a:∀(i:Int) (d:Nat),max 0 (min (if i<0 then i+(n:Int) else i) (n:Int))=((HT.aM n d (some i):Nat):Int):=by
  intro i d;simp only[HT.aM];by_cases h:i<0
  ·simp only[h,if_true];lia
  ·simp only[h,if_false];lia
 unfold Nh;cases lo with
 |none =>
  cases hi with
  |none=>rfl
  |some j =>
   show sliceRange (0:Int) (max 0 (min (if j<0 then j+(n:Int) else j) (n:Int))) 1=_;rw[a j n];rfl
 |some i =>
  cases hi with
  |none =>
   show sliceRange (max 0 (min (if i<0 then i+(n:Int) else i) (n:Int))) (n:Int) 1=_;rw[a i 0];rfl
  |some j =>
   show sliceRange (max 0 (min (if i<0 then i+(n:Int) else i) (n:Int))) (max 0 (min (if j<0 then j+(n:Int) else j) (n:Int))) 1=_;rw[a i 0,a j n]
theorem RH(x:Str)(lo hi:Option Int):xE x lo hi=textOf (kK x.cps.toList lo hi):=show _ by
 have hl:x.cps.toList.length=x.length:=by simp[C9]
 have l1:HT.aM x.length 0 lo<=x.length:=HT.yD _ _ (bV _) lo;have l2:HT.aM x.length x.length hi<=x.length:=HT.yD _ _ (aT _) hi;unfold xE kK;rw[RG,sliceRange_one,hl,pick_run];by_cases h:((1:Int)==1&&((aZ (HT.aM x.length x.length hi-HT.aM x.length 0 lo)).map (HT.aM x.length 0 lo+·)).length==x.length)=true
 ·rw[if_pos h];simp only[aG,uc,gq,beq_iff_eq]at h;have h2:=h.2;have e1:HT.aM x.length 0 lo=0:=by lia
  have e2:HT.aM x.length x.length hi=x.length:=by lia
  rw[e1,e2,xF,ud,<-hl,oU];simp[textOf]
 ·rw[if_neg h];rfl
def Fj:V->Option Int->Option Int->Hp->VK->Prop:=λx lo hi H Q=>∃z,x=.str z/\z.length<=sizeLine/\Q (.str (textOf (kK z.cps.toList lo hi))) H
theorem pj{X:Cx}:o9 X Fj:=show _ by
 intro pins s σ H x v vl vu lo hi sl Q I rx hs pl pu h;obtain⟨z,rfl,hz,q⟩:=h;obtain⟨t,rfl⟩:=rx;refine⟨"str",_,slot_str_getitem.lookup,C_ s z t,?_⟩;have fin:∀t' k,EP X pins σ Q (.str (xE z lo hi) t') {s with toks:=k}:=λt' k=>⟨.str _,H,I.tok _,⟨_,rfl⟩,by rw[RH];exact q⟩;have len:(xE z lo hi).length<=sizeLine:=cC (Txt.slice_le z lo hi) hz;obtain⟨o,ho,hc,hd⟩:=hs;cases pl with
 |none =>
  cases pu with
  |none=>exact xG (l:=none) (u:=none) (st:=none) ⟨o,ho,hc,hd⟩ rfl (xH ⟨len,fin⟩)
  |int j tj=>exact xG (l:=none) (u:=some (j,tj)) (st:=none) ⟨o,ho,hc,hd⟩ rfl (xH ⟨len,fin⟩)
 |int i ti =>
  cases pu with
  |none=>exact xG (l:=some (i,ti)) (u:=none) (st:=none) ⟨o,ho,hc,hd⟩ rfl (xH ⟨len,fin⟩)
  |int j tj=>exact xG (l:=some (i,ti)) (u:=some (j,tj)) (st:=none) ⟨o,ho,hc,hd⟩ rfl (xH ⟨len,fin⟩)
theorem Fk{α β:Type}(f:α->β->Sem (ForInStep β))(g:β->α->β):∀(l:List α) (b:β),(∀x∈l,∀b,f x b=pure (.yield (g b x)))->forIn l b f=pure (l.foldl g b)
 |[],b,_=>rfl
 |x::l,b,h=>by
  rw[ue,h x cL b];exact Fk f g l (g b x) λy hy=>h y (cO _ hy)
def kL(env:Env)(acc:List (Str×Addr))(y:Str×NameKind):List (Str×Addr):=if y.2 == .free then(y.1,(env.cells.lookup y.1).getD 0)::acc else acc
def iE(scope:Scope)(env:Env):List (Str×Addr):=scope.names.foldl (kL env) []
theorem Fl{scope:Scope}{env:Env}(h:∀y∈scope.names,y.2=.free->∃c,env.cells.lookup y.1=some c):closureFor scope env=pure (iE scope env):=show _ by
 simp only[closureFor];rw[Fk _ (kL env) scope.names [] (λy hy b=>?_)]
 ·rfl
 ·obtain⟨n,k⟩:=y;by_cases hk:k=.free
  ·subst hk;obtain⟨c,e⟩:=h _ hy rfl;have e':env.cells.lookup n=some c:=e;simp only[kL,beq_self_eq_true,if_true,cellOf,e',Dm];rfl
  ·have:(k==NameKind.free)=false:=by simpa using hk
   simp only[kL,this,iY,if_false]
theorem Fm{env:Env}:∀(names:List (Str×NameKind)) (acc:List (Str×Addr)),(∀y∈names,y.2=.free->∃c,env.cells.lookup y.1=some c)->(∀y c,acc.lookup y=some c->env.cells.lookup y=some c) ->
 ∀y c,(names.foldl (kL env) acc).lookup y=some c->env.cells.lookup y=some c
 |[],acc,_,h,y,c,e=>h y c e
 |(n,k)::r,acc,hf,h,y,c,e=>by
  rw[oV]at e;refine Fm r _ (λz hz=>hf z (cO _ hz)) (λy c e=>?_) y c e;unfold kL at e;by_cases hk:k=.free
  ·subst hk;obtain⟨c0,e0⟩:=hf _ cL rfl;have e0':env.cells.lookup n=some c0:=e0;simp only[beq_self_eq_true,if_true,e0',Dm,km]at e;by_cases hy:y=n
   ·subst hy;simp at e;rw[<-e];exact e0'
   ·have hb:(y==n)=false:=show _ by simpa using hy
    simp only[hb]at e;exact h y c e
  ·have hb:(k==NameKind.free)=false:=by simpa using hk
   simp only[hb,iY,if_false]at e;exact h y c e
theorem yV{env:Env}:∀(names:List (Str×NameKind)) (acc:List (Str×Addr)) (y:Str),(y,NameKind.free)∈names∨(∃c,acc.lookup y=some c)->∃c,(names.foldl (kL env) acc).lookup y=some c
 |[],acc,y,h=>by
  rcases h with h|h
  ·simp at h
  ·exact h
 |(n,k)::r,acc,y,h=>by
  rw[oV];refine yV r _ y ?_;rcases h with h|⟨c,h⟩
  ·rcases bJ.mp h with h|h
   ·cases h;exact .inr ⟨(env.cells.lookup n).getD 0,by simp[kL]⟩
   ·exact .inl h
  ·refine .inr ?_;unfold kL;by_cases hk:k=.free
   ·subst hk;simp only[beq_self_eq_true,if_true,km];by_cases hy:y=n
    ·subst hy;simp
    ·have hb:(y==n)=false:=show _ by simpa using hy
     simp only[hb];exact⟨c,h⟩
   ·have hb:(k==NameKind.free)=false:=by simpa using hk
    simp only[hb,iY,if_false];exact⟨c,h⟩
theorem Fn{scope:Scope}{env:Env}{y:Str}{k:NameKind}(h:(relabel scope env).names.lookup y=some k):∃k',(y,k')∈scope.names/\(k=k'∨(k'=.free/\k=.cell)):=show _ by
 have go:∀(l:List (Str×NameKind)),(l.map λ(n,k)=>if(k == .free&&env.scope.kind == .function&&env.kindOf n==some .cell) then(n,NameKind.cell) else(n,k)).lookup y=some k->∃k',(y,k')∈l/\(k=k'∨(k'=.free/\k=.cell)):=by
  intro l
  induction l with
  |nil=>intro h;simp at h
  |cons a r ih =>
   obtain⟨n,k0⟩:=a;intro h;rw[bL]at h;by_cases hc:(k0==NameKind.free&&env.scope.kind == .function&&env.kindOf n==some .cell)=true
   ·simp only[hc,if_true,km]at h;by_cases hy:y=n
    ·subst hy;simp only[beq_self_eq_true]at h;refine⟨k0,cL,.inr ⟨?_,by simpa using h.symm⟩⟩;simp only[gq]at hc;simpa using hc.1.1
    ·have hb:(y==n)=false:=by simpa using hy
     simp only[hb]at h;obtain⟨k',m,q⟩:=ih h;exact⟨k',cO _ m,q⟩
   ·dsimp only at h;rw[if_neg hc]at h;by_cases hy:y=n
    ·subst hy;simp at h;exact⟨k0,cL,.inl h.symm⟩
    ·have hb:(y==n)=false:=by simpa using hy
     simp only[km,hb]at h;obtain⟨k',m,q⟩:=ih h;exact⟨k',cO _ m,q⟩
 exact go scope.names h
theorem RJ{scope:Scope}{env:Env}{y:Str}(hk:env.scope.kind=.function)(hc:env.kindOf y=some .cell)(h:scope.names.lookup y=some .free):(relabel scope env).names.lookup y=some .cell:=show _ by
 have go:∀(l:List (Str×NameKind)),l.lookup y=some .free->(l.map λ(n,k)=>if(k == .free&&env.scope.kind == .function&&env.kindOf n==some .cell) then(n,NameKind.cell) else(n,k)).lookup y=some .cell:=by
  intro l
  induction l with
  |nil=>intro h;simp at h
  |cons a r ih =>
   obtain⟨n,k0⟩:=a;intro h;rw[bL];by_cases hy:y=n
   ·subst hy;simp only[km,beq_self_eq_true,uf]at h;subst h;simp[hk,hc]
   ·have hb:(y==n)=false:=by simpa using hy
    simp only[km,hb]at h;by_cases hcc:(k0==NameKind.free&&env.scope.kind == .function&&env.kindOf n==some .cell)=true
    ·simp only[hcc,if_true,km,hb];exact ih h
    ·dsimp only;rw[if_neg hcc];simp only[km,hb];exact ih h
 exact go scope.names h
def yW(X:Cx)(scope:Scope)(C:Addr)(N:List Str)(fp:List Addr)(pins:List (Addr×Obj))(s:Shared)(H:Hp):Cx where
 prog:=X.prog
 w:=X.w
 K:=X.K
 mg:=X.mg
 base:=X.base
 A:=X.A
 N:=N
 s₀:=s
 H₀:=H
 env:=compEnvC scope (iE scope X.env) C X.env
 outer:=X.stack
 stack:=X.stack
 ex:=fp
 fn:=λ_=>false
 calm:=true
 pn:=X.pn++pins
 xe:=λ_ _=>False
def pick(σ:L2.St)(js:List Nat):L2.St:=js.map λj=>(σ[j]?).getD none
section
variable{X:Cx}{elt iter:Expr}{x:Str}{px pos:Pos}{scope cA:Scope}{M N:List Str}{js:List Nat}{wi:TI}{te:TE}
theorem vd(hjs:M.map some=js.map λj=>N[j]?):(∀(k:Nat) (y:Str),M[k]?=some y->∃j:Nat,js[k]?=some j/\N[j]?=some y)/\js.length=M.length:=show _ by
 constructor
 ·intro k y h;have e:(M.map some)[k]?=some (some y):=by rw[a7,h];rfl
  rw[hjs,a7]at e;cases q:js[k]? with
  |none=>rw[q]at e;cases e
  |some j =>
   rw[q]at e;exact⟨j,rfl,by simpa using e⟩
 ·have:=congrArg ki hjs;simpa using this.symm
end
def mn(K:aq)(H:Hp)(a:Addr)(xs:List V):Prop:=(∃o,H a=some (.eE o (.lst xs))) ∨
 ∃(o:Obj) (its:Array Value) (n:Nat),K.lookup a=some o/\o.cls=.type "list"/\o.dict=none/\o.data=.seq its n/\its.size<=sizeLine/\Vals xs its.toList
theorem mn.sq{K:aq}{H:Hp}{a:Addr}{xs:List V}(h:mn K H a xs):bu K H a xs:=by
 rcases h with⟨o,h⟩|h
 ·exact .inl (.inr ⟨o,h⟩)
 ·exact .inr h
theorem mn.of{K:aq}{H:Hp}{a:Addr}{xs:List V}(h:bu K H a xs)(o:r_ H):mn K H a xs:=by
 rcases h with(h|h)|h
 ·rcases o a with e|⟨ob,ys,e⟩
  ·rw[e]at h;cases h
  ·rw[e]at h;cases h
 ·exact .inl h
 ·exact .inr h
theorem RK:Slot "reversed" "__init__" "object.__init__" :=
 .of (owner:="object") (n:="__init__") (by rw[m5,m6];kernel_rfl) (by cbv) (by cbv) (by cbv)
  (by first|exact .inl (by cbv)|exact .inr (by cbv)) (by rw[xI];kernel_rfl)
theorem RL:TypeCalled "reversed" "reversed.__new__" "object.__init__" :=
 ⟨by cbv,F.create_reversed,⟨_,_,F.mro_reversed⟩,F.made_reversed,F.plain_reversed_new,F.sub_reversed_self,RK⟩
theorem RM:typeLookup (.type "tuple") "__reversed__"=pure none:=by rw[m5,m6];kernel_rfl
theorem RN:isSubtype (.type "tuple") (.type "dict")=pure false:=by rw[xI];kernel_rfl
theorem sj:Slot "reversed" "__next__" "reversed.__next__" :=
 .of (owner:="reversed") (n:="__next__") (by rw[m5,m6];kernel_rfl) (by cbv) (by cbv) (by cbv)
  (by first|exact .inl (by cbv)|exact .inr (by cbv)) (by rw[xI];kernel_rfl)
theorem Fo:entryFor table "reversed.__next__"=some Builtin.«reversed.__next__»:=entryFor_of_tree (by kernel_rfl)
theorem Fp(a:Value):argsOk "reversed.__next__" ⟨[a],[]⟩:=by unfold argsOk;kernel_rfl
theorem Fq:Slot "reversed" "__iter__" "reversed.__iter__" :=
 .of (owner:="reversed") (n:="__iter__") (by rw[m5,m6];kernel_rfl) (by cbv) (by cbv) (by cbv)
  (by first|exact .inl (by cbv)|exact .inr (by cbv)) (by rw[xI];kernel_rfl)
theorem RP:entryFor table "reversed.__iter__"=some Builtin.«dict_keyiterator.__iter__» :=
 entryFor_alias (id':="dict_keyiterator.__iter__") (by kernel_rfl) (by first|rfl|cbv|(unfold String.splitOn;simp +decide [String.splitOnAux])) (by cbv) (by kernel_rfl)
theorem RQ(a:Value):argsOk "reversed.__iter__" ⟨[a],[]⟩:=by unfold argsOk;kernel_rfl
def mq(h:Heap)(a l:Addr)(i:Int):Prop:=∃o,h.get? a=some o/\o.cls=.type "reversed"/\o.data=.fields #[.ref l,rawInt i]
theorem mq.typeIs{s:Shared}{a l:Addr}{i:Int}(x:mq s.heap a l i):s.TypeIs (.ref a) "reversed":=let⟨o,ho,hc,_⟩:=x;⟨o,ho,hc⟩
section
variable{prog:Program}{w:World}{A:Around}{E:Value->Shared->Prop}{s:Shared}
theorem RR(l:Addr)(items:Array Value)(hz:(items.size:Int)<2^63):Meets (Builtin.«reversed.__new__» ⟨[.type "reversed",.ref l],[]⟩) (λ_ R s=>s.heap.IsTuple l items /\
 ∀tk,R (.ok (.ret (.ref s.heap.objs.size))) {s with heap:=s.heap.push {cls:=.type "reversed",data:=.fields #[.ref l,rawInt ((items.size:Int)-1)]},toks:=tk}) :=
 .of_wp λprog w A R s h=>by
  obtain⟨ht,h⟩:=h;have hT:s.TypeIs (.ref l) "tuple":=let⟨o,ho,hc,_⟩:=ht;⟨o,ho,hc⟩
  unfold Builtin.«reversed.__new__»;refine ai (m7 (newClass_reversed _) ?_)
  try dsimp only
  refine ai (m7 (a:=()) (by first|rfl|kernel_rfl) ?_);refine ai (m7 (a:=()) (by first|rfl|kernel_rfl) ?_)
  try dsimp only
  refine ai (lN hT RM ?_)
  try dsimp only
  refine ai ?_;refine ai (m:=isInstance (.ref l) (.type "dict")) (tZ (T:="tuple") (b:=false) hT RN ?_);simp only[iY,if_false];refine ai (lN hT lU.lookup ?_)
  try dsimp only
  rw[if_pos (by decide)];refine aB ?_;simp only[Cy,iY,if_false];refine ai (len_tuple ht hz ?_);refine ai (m:=asInt? (.int (items.size:Int) s.toks)) (m7 (a:=some (items.size:Int)) rfl ?_)
  try dsimp only
  refine ai (m:=ait (.type "reversed") [.ref l,rawInt ((items.size:Int)-1)]) ?_;refine jF (data:=.fields #[.ref l,rawInt ((items.size:Int)-1)]) ?_;exact aB ⟨_,rfl,h _⟩
theorem RT{l:Addr}{items:Array Value}{Q:Value->Shared->Prop}(ht:s.heap.IsTuple l items)(hz:(items.size:Int)<2^63)
 (h:∀tk,Q (.ref s.heap.objs.size) {s with heap:=s.heap.push {cls:=.type "reversed",data:=.fields #[.ref l,rawInt ((items.size:Int)-1)]},toks:=tk}):wpAny (model prog w) A (call (.type "reversed") [.ref l]) Q E s:=show _ by
 refine Dp RL (by decide) (F.typeCall_reversed_1 _) (F.newCall_reversed_1 _) (λobj=>Ni obj _) F.entry_reversed_new (RR l items hz) ⟨ht,λtk=>?_⟩;exact⟨⟨_,c7 _ rfl,rfl⟩,h tk⟩
theorem RU{it l:Addr}{i:Nat}{items:Array Value}{x:Value}{Q:Option Value->Shared->Prop}(hit:mq s.heap it l (i:Int))(hl:s.heap.IsTuple l items)(hx:items[i]?=some x)(hz:(items.size:Int)<2^63)
 (hQ:∀h' tk,mq h' it l ((i:Int)-1)->fJ it s.heap h'->Q (some x) {s with heap:=h',toks:=tk}):wpAny (model prog w) A (pyNext (.ref it)) Q E s:=show _ by
 obtain⟨o,ho,hc,hd⟩:=id hit;have hT:s.TypeIs (.ref l) "tuple":=let⟨o,ho,hc,_⟩:=hl;⟨o,ho,hc⟩
 unfold pyNext;refine ai (oW (kj (name:=jE "__next__") hit.typeIs sj
  (ij sj hit.typeIs Fo ?_ (Fp _))))
 unfold Builtin.«reversed.__next__»;refine ai (m7 (a:=(Value.ref it,[])) rfl ?_)
 try dsimp only
 refine ai (c9 ho hd (x:=.ref l) rfl ?_)
 try dsimp only
 refine ai (c9 ho hd (x:=rawInt (i:Int)) rfl ?_);show wpAny _ _ (if(i:Int)<0 then _ else _) _ _ s;rw[if_neg (by lia)];refine ai (lN hT lU.lookup ?_);show wpAny _ _ (if(some (Value.builtin "tuple.__getitem__")).isNone=true then _ else _) _ _ s;rw[if_neg (by simp)];refine ai (wpAny_mkInt ?_);have hi:i<items.size:=(Array.getElem?_eq_some_iff.mp hx).1;refine ai (oW (getItem_tuple (j:=i) hl (by lia) (by lia) (xA (by lia) (by lia)) hx ?_));refine ai (c9 (s:={s with toks:=s.toks+1}) ho hd (x:=rawInt (i:Int)) rfl ?_);show wpAny _ _ (setField (.ref it) 1 (rawInt ((i:Int)-1)) >>= λ_=>ret x) _ _ _;refine ai (ug ho hd (by simp) ?_);refine aB ⟨x,rfl,aB (hQ _ _ ?_ (uh ..))⟩;exact⟨_,oR _ ho (Dq (qX hd _)),(Nj ..).trans hc,by
  rw[qX hd];simp⟩
theorem RV{it l:Addr}{Q:Option Value->Shared->Prop}(hh:A.handled=none)(hit:mq s.heap it l (-1))
 (hQ:∀h',ui it s.heap h'->Q none {s with heap:=h'}):wpAny (model prog w) A (pyNext (.ref it)) Q E s:=show _ by
 obtain⟨o,ho,hc,hd⟩:=id hit;unfold pyNext;refine ai (oW (kj (name:=jE "__next__") hit.typeIs sj
  (ij sj hit.typeIs Fo ?_ (Fp _))))
 unfold Builtin.«reversed.__next__»;refine ai (m7 (a:=(Value.ref it,[])) rfl ?_)
 try dsimp only
 refine ai (c9 ho hd (x:=.ref l) rfl ?_)
 try dsimp only
 refine ai (c9 ho hd (x:=rawInt (-1)) rfl ?_);show wpAny _ _ (if(-1:Int)<0 then _ else _) _ _ s;rw[if_pos (by decide)];refine ai (ke ?_);refine ai ?_;refine ai (m:=setField (.ref it) 1 (rawInt (-1))) (ug ho hd (by simp) ?_);have ho1:=oR (a:=it) (xJ λxs=>xs.setIfInBounds 1 (rawInt (-1))) ho (Dq (qX hd _));refine ug ho1 (qX hd _) (by simp) ?_;refine ai (m:=aiu) ?_;show wpAny _ _ (newExc (.type "StopIteration") [] >>= _) _ _ _;refine ai ?_;simp only[newExc,newTuple];refine ai (jF ?_ (by size_fits));refine ai (m:=firstArgMember _ _) (m7 (a:=Value.none) (by first|rfl|(simp only[firstArgMember];rfl)) ?_);refine jF ?_ (by size_fits);simp only[raiseNew];refine ai (wpAny_handled ?_)
 first|rw[show A.in1.handled=none from hh]|rw[hh]
 refine ai (aB (wpAny_throw ?_));refine ai (tZ (T:="StopIteration") (b:=true) ⟨_,c7 _ rfl,rfl⟩ Dr ?_);refine aB (hQ _ ?_);have e1:=(uh (h:=s.heap) (a:=it) (f:=xJ λxs=>xs.setIfInBounds 1 (rawInt (-1)))).extBut;have e2:=(uh (h:=s.heap.update it (xJ λxs=>xs.setIfInBounds 1 (rawInt (-1)))) (a:=it) (f:=xJ λxs=>xs.setIfInBounds 0 Value.none)).extBut;exact λb ob hb e=>bA _ (bA _ (e2 b ob hb (e1 b ob hb e)))
theorem Fs{it l:Addr}{i:Int}{Q:Value->Shared->Prop}(hit:mq s.heap it l i)(h:Q (.ref it) s):wpAny (model prog w) A (pyIter (.ref it)) Q E s:=by
 refine Nk hit.typeIs Fq (ij Fq hit.typeIs RP ?_ (RQ _));show wpAny _ _ (ret (.ref it)) _ _ s;exact aB ⟨_,rfl,"reversed",_,hit.typeIs,sj.lookup,h⟩
end
def Ft(K:aq)(a:Addr)(n:Nat):It :=
 ⟨λi H=>i<n/\∃xs,bq K H a xs/\xs.length=n,λi H x H'=>H'=H/\∀xs,bq K H a xs->xs[n-1-i]?=some x,λi _=>n<=i⟩
theorem RW{P:Program}{w:World}{K:aq}{tg:Expr}(a it:Addr)(n:Nat):Turn P w K tg (Ft K a n) [it] it (λi h=>i<=n/\mq h it a ((n:Int)-1-(i:Int))) where
 mem:=show _ by simp
 obj:=λi h st b hb=>by
  have e:b=it:=by simpa using hb
  subst e;obtain⟨_,o,e,c,d⟩:=st;exact⟨o,e,λv z=>by rw[d]at z;cases z⟩
 keep:=λi h h' st k=>let⟨hi,o,ho,r⟩:=st;⟨hi,o,k it (by simp) o ho,r⟩
 item:=by
  intro X hP hw hK hc i pins s σ H E I hf st hg;subst hP hw hK;obtain⟨hi,xs,hq,hn⟩:=hg;obtain⟨its,rv,p,hz⟩:=I.tuple hq;have hl:=rv.length;have hx:xs[n-1-i]?=some xs[n-1-i]:=aU (by lia);obtain⟨u,hu,ru⟩:=rv.get hx;obtain⟨f0,f1,f2,f3,f4,f5⟩:=hf it (by simp);have e1:(n:Int)-1-(i:Int)=((n-1-i:Nat):Int):=by lia
  have st2:=st.2;rw[e1]at st2;have RX:=kH;refine RU st2 (show s.heap.IsTuple a its.toArray from p) (x:=u) (by simpa using hu) (by simp only[cj];lia) λh' tk st' sb=>?_;have I1:Inv X pins σ H {s with heap:=h',toks:=tk}:=I.turned (λb o hb e=>(sb.2 b hb).trans e) f0 f1 f3 f4 f5;obtain⟨o,e,c,d⟩:=id st';have e2:((n-1-i:Nat):Int)-1=(n:Int)-1-((i+1:Nat):Int):=by lia
  refine⟨u,rfl,rH (s:={s with heap:=h',toks:=tk}) e c d (by decide) ⟨xs[n-1-i],H,I1,ru,⟨rfl,λys hy=>by rw[I.o6 hy hq];exact hx⟩,⟨hi,?_⟩,λb hb=>(hf b hb).1⟩⟩;rw[<-e2];exact st'
 done:=by
  intro X hP hw hK hc i pins s σ H E I hf st hg;subst hP hw hK;obtain⟨f0,f1,f2,f3,f4,f5⟩:=hf it (by simp);have hg':n<=i:=hg;have e1:(n:Int)-1-(i:Int)=-1:=by have:=st.1;lia
  have st2:=st.2;rw[e1]at st2;exact RV (I.ok.hd hc) st2 λh' eb=>⟨rfl,I.turned (t':=s.toks) (λb o hb e=>eb b o hb e) f0 f1 f3 f4 f5⟩
 self:=λ_ _ _ _ _ st h=>Fs st.2 h
def RY(K:aq)(te:TA):TI:=λσ H R=>te σ H λvs H1=>∃a xs,vs=[.ref a]/\bq K H1 a xs/\R (Ft K a xs.length) H1
theorem Fu:bootBuiltins "reversed"=some (.type "reversed"):=by cbv
theorem RZ{X:Cx}{tg a:Expr}{ta:TA}{p pos:Pos}(hg:Gl X "reversed")(hm:X.mg "reversed"=none)(ha:PA X [a] ta)(hs:starEach [a] X.env=[(false,eval a X.env)]:=by rfl):PI X tg (.Call (.Name "reversed" p) [a] [] pos) (RY X.K ta):=show _ by
 intro pins s σ H R I h;refine Call_ (kC I hg hm Fu (mW (aF (ha pos pins s σ H _ I h) λus s1 ⟨vs,H1,I1,r1,q1⟩=>?_) hs rfl));obtain⟨b,xs,e,hq,q⟩:=q1;subst e;cases r1 with
 |cons r rr =>
  cases rr;cases r;obtain⟨its,rv,pt,hz⟩:=I1.tuple hq;have hl:=rv.length;have RX:=kH;refine RT (show s1.heap.IsTuple b its.toArray from pt) (by simp only[cj];lia) λtk=>?_;have I2:Inv X pins σ H1 {s1 with heap:=s1.heap.push {cls:=.type "reversed",data:=.fields #[.ref b,rawInt ((its.toArray.size:Int)-1)]},toks:=tk}:=I1.kept λc o e=>bA _ e;have st:mq (s1.heap.push {cls:=.type "reversed",data:=.fields #[.ref b,rawInt ((its.toArray.size:Int)-1)]}) s1.heap.objs.size b ((its.toArray.size:Int)-1):=⟨_,c7 _ rfl,rfl,rfl⟩;refine Fs st ?_;have e1:(its.toArray.size:Int)-1=(xs.length:Int)-1-((0:Nat):Int):=by simp only[cj];lia
  refine⟨s1.heap.objs.size,[s1.heap.objs.size],_,_,H1,rfl,I2,RW b _ xs.length,⟨bV _,by rw[<-e1];exact st⟩,λc hc=>?_,q⟩;have e:c=s1.heap.objs.size:=by simpa using hc
  subst e;exact I1.kG (aT _) (I1.hok.fresh (aT _))
end EE
namespace E3
open PySem PySem.Spec PyProof.Rows L2 EE
inductive D where
 |non|bl (b:Bool)|int (i:Int)|str (x:Str)|tup (xs:List D)|bH (xs:List D)|ref (a:Addr)|ty (n:String)
inductive O where
 |lst (xs:List D)|b_ (kvs:List (Key×D))|exc (C:Addr)|ins (C:Addr) (fs:List (Str×D))|tab (kvs:List (DK×D))
abbrev af:=Addr->Option O
abbrev aJ:=List (Option D)
abbrev K3:=D->af->Prop
abbrev X3:=Addr->Addr->af->Prop
abbrev bK:=aJ->X3
def up(S:af)(a:Addr)(o:O):af:=λb=>if b=a then some o else S b
def emp:af:=λ_=>none
theorem ax{S:af}{a:Addr}{o:O}:up S a o a=some o:=if_pos rfl
theorem aW{S:af}{a b:Addr}{o:O}(h:b≠a):up S a o b=S b:=if_neg h
theorem kM{S:af}{a:Addr}{o u:O}:up (up S a o) a u=up S a u:=by
 funext b;unfold up;split<;>rfl
theorem ne3{S:af}{a b:Addr}{o:O}(h:S a=some o)(h':S b=none):a≠b:=by
 intro e;subst e;rw[h]at h';cases h'
theorem aD{S:af}{a b:Addr}{o u:O}(h:S b=some u)(h':S a=none):up S a o b=some u:=by rw[aW (ne3 h h')];exact h
structure Zt where
 p:Addr->Prop
 base:Hp
instance:CoeFun Zt (λ_=>Addr->Prop):=⟨Zt.p⟩
def R0(a C:Addr):Heap->Prop:=λh=>∃o,h.get? a=some o/\o.cls=.ref C/\∃xs n,o.data=.fields xs/\n=xs.size
mutual
inductive Rp(K:aq)(H:Hp):D->V->Prop where
 |non:Rp K H .non .non
 |bl (b:Bool):Rp K H (.bl b) (.bl b)
 |int (i:Int):Rp K H (.int i) (.int i)
 |str (x:Str):Rp K H (.str x) (.str x)
 |ref (a:Addr):Rp K H (.ref a) (.ref a)
 |ty (n:String):Rp K H (.ty n) (.ty n)
 |tup {a:Addr} {xs:List V} {ds:List D}:bq K H a xs->aX K H ds xs->Rp K H (.tup ds) (.ref a)
 |bH {a:Addr} {xs:List V} {ds:List D}:mn K H a xs->aX K H ds xs->Rp K H (.bH ds) (.ref a)
inductive aX(K:aq)(H:Hp):List D->List V->Prop where
 |nil:aX K H [] []
 |cons {d:D} {v:V} {ds:List D} {vs:List V}:Rp K H d v->aX K H ds vs->aX K H (d::ds) (v::vs)
end
structure Kp(Z:Zt)(H H':Hp):Prop where
 tup:∀b xs,H b=some (.tup xs)->H' b=some (.tup xs)
 eE:∀b o u,H b=some (.eE o u)->H' b=some (.eE o u)
 hid:∀b,Z b->H' b=H b
theorem Kp.refl(Z:Zt)(H:Hp):Kp Z H H:=⟨λ_ _ h=>h,λ_ _ _ h=>h,λ_ _=>rfl⟩
theorem Kp.trans{Z:Zt}{H H1 H2:Hp}(a:Kp Z H H1)(b:Kp Z H1 H2):Kp Z H H2 :=
 ⟨λc xs h=>b.tup _ _ (a.tup _ _ h),λc o u h=>b.eE _ _ _ (a.eE _ _ _ h),λc z=>(b.hid c z).trans (a.hid c z)⟩
theorem Kp.gZ{K:aq}{Z:Zt}{H H':Hp}{a:Addr}{xs:List V}(k:Kp Z H H')(h:bq K H a xs):bq K H' a xs:=by
 exact k.tup _ _ h
theorem Kp.yX{K:aq}{Z:Zt}{H H':Hp}{a:Addr}{xs:List V}(k:Kp Z H H')(h:mn K H a xs):mn K H' a xs:=by
 rcases h with⟨o,h⟩|h
 ·exact .inl ⟨o,k.eE _ _ _ h⟩
 ·exact .inr h
mutual
theorem Rp.mono{K:aq}{Z:Zt}{H H':Hp}(k:Kp Z H H'):∀{d:D} {v:V},Rp K H d v->Rp K H' d v
 |_,_,.non=>.non
 |_,_,.bl b=>.bl b
 |_,_,.int i=>.int i
 |_,_,.str x=>.str x
 |_,_,.ref a=>.ref a
 |_,_,.ty n=>.ty n
 |_,_,.tup h r=>.tup (k.gZ h) (aX.mono k r)
 |_,_,.bH h r=>.bH (k.yX h) (aX.mono k r)
theorem aX.mono{K:aq}{Z:Zt}{H H':Hp}(k:Kp Z H H'):∀{ds:List D} {vs:List V},aX K H ds vs->aX K H' ds vs
 |_,_,.nil=>.nil
 |_,_,.cons h r=>.cons (Rp.mono k h) (aX.mono k r)
end
section
variable{K:PySem.W.Frag}{H:Hp}
theorem aX.len:∀{ds:List D} {vs:List V},aX K H ds vs->ds.length=vs.length
 |_,_,.nil=>rfl
 |_,_,.cons _ r=>by simp[aX.len r]
theorem aX.at:∀{ds:List D} {vs:List V} {i:Nat} {d:D},aX K H ds vs->ds[i]?=some d->∃v,vs[i]?=some v/\Rp K H d v
 |_,_,_,_,.nil,e=>by simp at e
 |_,_,0,_,.cons r _,e=>by simp at e;subst e;exact⟨_,rfl,r⟩
 |_,_,i+1,d,.cons _ q,e=>by
  obtain⟨v,h1,h2⟩:=aX.at (i:=i) (d:=d) q (by simpa using e);exact⟨v,by simpa using h1,h2⟩
theorem aX.append:∀{ds es:List D} {vs ws:List V},aX K H ds vs->aX K H es ws->aX K H (ds++es) (vs++ws)
 |_,_,_,_,.nil,s=>s
 |_,_,_,_,.cons r t,s=>.cons r (aX.append t s)
theorem aX.take:∀{ds:List D} {vs:List V} (n:Nat),aX K H ds vs->aX K H (ds.take n) (vs.take n)
 |_,_,0,_=>.nil
 |_,_,_+1,.nil=>.nil
 |_,_,n+1,.cons r t=>.cons r (aX.take n t)
theorem aX.drop:∀{ds:List D} {vs:List V} (n:Nat),aX K H ds vs->aX K H (ds.drop n) (vs.drop n)
 |_,_,0,r=>r
 |_,_,_+1,.nil=>.nil
 |_,_,n+1,.cons _ t=>aX.drop n t
theorem aX.set{d:D}{v:V}(r:Rp K H d v):∀{ds:List D} {vs:List V} (i:Nat),aX K H ds vs->aX K H (ds.set i d) (vs.set i v)
 |_,_,_,.nil=>.nil
 |_,_,0,.cons _ t=>.cons r t
 |_,_,i+1,.cons q t=>.cons q (aX.set r i t)
theorem aX.snoc_inv:∀{ds:List D} {d:D} {vs:List V},aX K H (ds++[d]) vs->∃ws w,vs=ws++[w]/\aX K H ds ws/\Rp K H d w
 |[],d,_,.cons r .nil=>⟨[],_,rfl,.nil,r⟩
 |_::ds,d,_,.cons r q=>by
  obtain⟨ws,w,rfl,a,b⟩:=aX.snoc_inv (ds:=ds) q;exact⟨_::ws,w,rfl,.cons r a,b⟩
theorem aX.ints:∀(ns:List Int),aX K H (ns.map D.int) (ns.map V.int)
 |[]=>.nil
 |n::ns=>.cons (.int n) (aX.ints ns)
theorem aX.strs:∀{xs:List Str} {vs:List V},aX K H (xs.map D.str) vs->vs=xs.map V.str
 |[],_,.nil=>rfl
 |_::xs,_,.cons (.str _) q=>by rw[aX.strs q];rfl
end
def OR(K:aq)(H:Hp)(a:Addr):O->Prop
 | .lst ds=>∃vs,H a=some (.lst vs)/\aX K H ds vs
 | .b_ kvs=>∃ws,H a=some (.dK ws)/\Paired (λ(p:Key×D) (q:Key×V)=>p.1=q.1/\Rp K H p.2 q.2) kvs ws
 | .exc C=>H a=some (.ext (R0 a C))
 | .ins C fs=>∃dx ws,H a=some (.ins C dx ws)/\Paired (λ(p:Str×D) (q:Str×V)=>p.1=q.1/\Rp K H p.2 q.2) fs ws
 | .tab kvs=>∃ws,H a=some (.dT ws)/\Paired (λ(p:DK×D) (q:DK×V)=>p.1=q.1/\Rp K H p.2 q.2) kvs ws
structure Rl(K:aq)(Z:Zt)(S:af)(H:Hp):Prop where
 obj:∀a o,S a=some o->OR K H a o
 hid:∀a,Z a->S a=none/\H a≠none
 old:Kp Z Z.base H
theorem OR.there{K:aq}{H:Hp}{a:Addr}{o:O}(h:OR K H a o):H a≠none:=by
 cases o with
 |lst ds=>obtain⟨vs,e,_⟩:=h;rw[e];simp
 |b_ ds=>obtain⟨vs,e,_⟩:=h;rw[e];simp
 |tab ds=>obtain⟨vs,e,_⟩:=h;rw[e];simp
 |exc C=>have e:H a=_:=h;rw[e];simp
 |ins C fs=>obtain⟨dx,vs,e,_⟩:=h;rw[e];simp
theorem OR.R4{K:aq}{H:Hp}{a:Addr}{o:O}(h:OR K H a o):(∀xs,H a≠some (.tup xs))/\∀q u,H a≠some (.eE q u):=show _ by
 cases o with
 |lst ds=>obtain⟨vs,e,_⟩:=h;rw[e];exact⟨λ_ z=>(nomatch z),λ_ _ z=>(nomatch z)⟩
 |b_ ds=>obtain⟨vs,e,_⟩:=h;rw[e];exact⟨λ_ z=>(nomatch z),λ_ _ z=>(nomatch z)⟩
 |tab ds=>obtain⟨vs,e,_⟩:=h;rw[e];exact⟨λ_ z=>(nomatch z),λ_ _ z=>(nomatch z)⟩
 |exc C=>have e:H a=_:=h;rw[e];exact⟨λ_ z=>(nomatch z),λ_ _ z=>(nomatch z)⟩
 |ins C fs=>obtain⟨dx,vs,e,_⟩:=h;rw[e];exact⟨λ_ z=>(nomatch z),λ_ _ z=>(nomatch z)⟩
theorem Rl.fresh{K:aq}{Z:Zt}{S:af}{H:Hp}{p:Addr}(r:Rl K Z S H)(h:H p=none):S p=none/\¬Z p:=by
 constructor
 ·cases e:S p with
  |none=>rfl
  |some o=>exact absurd h (r.obj p o e).there
 ·exact λz=>(r.hid p z).2 h
theorem Kp.new{Z:Zt}{H:Hp}{p:Addr}{o:HO}(h:H p=none)(hz:¬Z p):Kp Z H (upd H p o) :=
 ⟨λb xs e=>by rw[bg (iz e h)];exact e,λb q u e=>by rw[bg (iz e h)];exact e,λb z=>bg λe=>hz (e▸z)⟩
theorem Kp.at{K:aq}{Z:Zt}{S:af}{H:Hp}{p:Addr}{o:O}{q:HO}(r:Rl K Z S H)(h:S p=some o):Kp Z H (upd H p q):=show _ by
 have n:=(r.obj p o h).R4;refine⟨λb xs e=>?_,λb q u e=>?_,λb z=>?_⟩
 ·rw[bg];exact e;rintro rfl;exact n.1 _ e
 ·rw[bg];exact e;rintro rfl;exact n.2 _ _ e
 ·rw[bg];rintro rfl;rw[(r.hid _ z).1]at h;cases h
theorem OR.keep{K:aq}{Z:Zt}{H H':Hp}{a:Addr}{o:O}(h:OR K H a o)(k:Kp Z H H')(e:H' a=H a):OR K H' a o:=show _ by
 cases o with
 |lst ds=>obtain⟨vs,h1,h2⟩:=h;exact⟨vs,e.trans h1,h2.mono k⟩
 |b_ ds=>obtain⟨vs,h1,h2⟩:=h;exact⟨vs,e.trans h1,Paired.jN h2 λp q z=>⟨z.1,z.2.mono k⟩⟩
 |tab ds=>obtain⟨vs,h1,h2⟩:=h;exact⟨vs,e.trans h1,Paired.jN h2 λp q z=>⟨z.1,z.2.mono k⟩⟩
 |exc C=>exact e.trans h
 |ins C fs=>obtain⟨dx,vs,h1,h2⟩:=h;exact⟨dx,vs,e.trans h1,Paired.jN h2 λp q z=>⟨z.1,z.2.mono k⟩⟩
theorem Rl.put{K:aq}{Z:Zt}{S:af}{H:Hp}{p:Addr}{o:O}{q:HO}(r:Rl K Z S H)(k:Kp Z H (upd H p q))(hz:¬Z p)(h:OR K (upd H p q) p o):Rl K Z (up S p o) (upd H p q):=show _ by
 refine⟨λb u e=>?_,λb z=>?_,r.old.trans k⟩
 ·by_cases hb:b=p
  ·subst hb;rw[ax]at e;cases e;exact h
  ·rw[aW hb]at e;exact(r.obj b u e).keep k (bg hb)
 ·have hb:b≠p:=λe=>hz (e▸z);rw[aW hb,bg hb];exact r.hid b z
theorem Rl.pk{K:aq}{Z:Zt}{S:af}{H:Hp}{p:Addr}{o:O}(r:Rl K Z S H)(h:S p=some o):¬Z p:=λz=>by
 rw[(r.hid _ z).1]at h;cases h
theorem Rl.lay{K:aq}{Z:Zt}{S:af}{H:Hp}{p:Addr}{q:HO}(r:Rl K Z S H)(h:H p=none):Rl K Z S (upd H p q):=by
 obtain⟨hs,hz⟩:=r.fresh h;refine⟨λb u e=>(r.obj b u e).keep (Kp.new h hz) (bg (ne3 e hs)),λb z=>?_,r.old.trans (Kp.new h hz)⟩;have hb:b≠p:=λe=>hz (e▸z);rw[bg hb];exact r.hid b z
def RO(K:aq)(H:Hp)(o:Option D)(p:Option V):Prop:=∀d,o=some d->∃v,p=some v/\Rp K H d v
abbrev SR(K:aq)(H:Hp):aJ->L2.St->Prop:=Paired (RO K H)
theorem RO.mono{K:aq}{Z:Zt}{H H':Hp}(k:Kp Z H H'){o:Option D}{p:Option V}(h:RO K H o p):RO K H' o p:=λd e=>by
 obtain⟨v,h1,h2⟩:=h d e;exact⟨v,h1,h2.mono k⟩
theorem SR.mono{K:aq}{Z:Zt}{H H':Hp}(k:Kp Z H H'){σ:aJ}{τ:L2.St}(h:SR K H σ τ):SR K H' σ τ:=Paired.jN h λ_ _ q=>q.mono k
theorem SR.at{K:aq}{H:Hp}:∀{σ:aJ} {τ:L2.St} {i:Nat} {d:D},SR K H σ τ->σ[i]?=some (some d)->∃v,τ[i]?=some (some v)/\Rp K H d v
 |_,_,_,_,.nil,e=>by simp at e
 |_,_,0,_,.cons r _,e=>by
  simp at e;obtain⟨v,h1,h2⟩:=r _ e;exact⟨v,by simp[h1],h2⟩
 |_,_,i+1,d,.cons _ q,e=>by
  obtain⟨v,h1,h2⟩:=SR.at (i:=i) (d:=d) q (by simpa using e);exact⟨v,by simpa using h1,h2⟩
theorem SR.set{K:aq}{H:Hp}{d:D}{v:V}(r:Rp K H d v):∀{σ:aJ} {τ:L2.St} (i:Nat),SR K H σ τ->SR K H (σ.set i (some d)) (τ.set i (some v))
 |_,_,_,.nil=>.nil
 |_,_,0,.cons _ t=>.cons (λe he=>by cases he;exact⟨v,rfl,r⟩) t
 |_,_,i+1,.cons q t=>.cons q (SR.set r i t)
theorem SR.sk{K:aq}{H:Hp}:∀{ds:List D} {vs:List V},aX K H ds vs->SR K H (ds.map some) (vs.map some)
 |_,_,.nil=>.nil
 |_,_,.cons r t=>.cons (λe he=>by cases he;exact⟨_,rfl,r⟩) (SR.sk t)
theorem SR.nones{K:aq}{H:Hp}:∀n:Nat,SR K H (fK n none) (fK n none)
 |0=>.nil
 |n+1=>.cons (λd e=>by cases e) (SR.nones n)
theorem nA{α β:Type}{F:α->β->Prop}:∀{a b:List α} {c d:List β},Paired F a c->Paired F b d->Paired F (a++b) (c++d)
 |_,_,_,_,.nil,s=>s
 |_,_,_,_,.cons r t,s=>.cons r (nA t s)
abbrev aN:=aJ->af->K3->Prop
abbrev cE:=aJ->af->(Bool->af->Prop)->Prop
abbrev b6:=aJ->af->(List D->af->Prop)->Prop
structure gE where
 nx:aJ->af->Prop
 rt:K3
 bk:aJ->af->Prop:=λ_ _=>False
 ct:aJ->af->Prop:=λ_ _=>False
abbrev b7:=gE->aJ->af->Prop
section
variable(K:PySem.W.Frag)(Z:Zt)
def CK(H:Hp)(Q3:K3)(Q:VK):Prop:=∀d S v H',Kp Z H H'->Rp K H' d v->Rl K Z S H'->Q3 d S->Q v H'
def CT(H:Hp)(Q3:Bool->af->Prop)(Q:Bool->Hp->Prop):Prop:=∀b S H',Kp Z H H'->Rl K Z S H'->Q3 b S->Q b H'
def CA(H:Hp)(Q3:List D->af->Prop)(Q:List V->Hp->Prop):Prop:=∀ds S vs H',Kp Z H H'->aX K H' ds vs->Rl K Z S H'->Q3 ds S->Q vs H'
def CS(H:Hp)(Q3:aJ->af->Prop)(Q:L2.St->Hp->Prop):Prop:=∀σ S τ H',Kp Z H H'->SR K H' σ τ->Rl K Z S H'->Q3 σ S->Q τ H'
structure CD(H:Hp)(D3:gE)(D:Ends):Prop where
 nx:CS K Z H D3.nx D.nx
 bk:CS K Z H D3.bk D.bk
 ct:CS K Z H D3.ct D.ct
 rt:CK K Z H D3.rt D.rt
inductive lE(t:aN)(τ:L2.St)(H:Hp)(Q:VK):Prop where
 |mk (σ:aJ) (S:af) (Q3:K3) (hs:SR K H σ τ) (hr:Rl K Z S H) (ht:t σ S Q3) (hc:CK K Z H Q3 Q)
inductive lT(t:cE)(τ:L2.St)(H:Hp)(Q:Bool->Hp->Prop):Prop where
 |mk (σ:aJ) (S:af) (Q3:Bool->af->Prop) (hs:SR K H σ τ) (hr:Rl K Z S H) (ht:t σ S Q3) (hc:CT K Z H Q3 Q)
inductive lA(t:b6)(τ:L2.St)(H:Hp)(Q:List V->Hp->Prop):Prop where
 |mk (σ:aJ) (S:af) (Q3:List D->af->Prop) (hs:SR K H σ τ) (hr:Rl K Z S H) (ht:t σ S Q3) (hc:CA K Z H Q3 Q)
inductive lS(t:b7)(D:Ends)(τ:L2.St)(H:Hp):Prop where
 |mk (D3:gE) (σ:aJ) (S:af) (hs:SR K H σ τ) (hr:Rl K Z S H) (ht:t D3 σ S) (hc:CD K Z H D3 D)
end
variable{K:PySem.W.Frag}{Z:Zt}
theorem CK.mono{H H':Hp}{Q3:K3}{Q:VK}(k:Kp Z H H')(h:CK K Z H Q3 Q):CK K Z H' Q3 Q:=λd S v H2 k2=>h d S v H2 (k.trans k2)
theorem CT.mono{H H':Hp}{Q3:Bool->af->Prop}{Q:Bool->Hp->Prop}(k:Kp Z H H')(h:CT K Z H Q3 Q):CT K Z H' Q3 Q:=λd S H2 k2=>h d S H2 (k.trans k2)
theorem CS.mono{H H':Hp}{Q3:aJ->af->Prop}{Q:L2.St->Hp->Prop}(k:Kp Z H H')(h:CS K Z H Q3 Q):CS K Z H' Q3 Q:=λd S v H2 k2=>h d S v H2 (k.trans k2)
theorem CD.mono{H H':Hp}{D3:gE}{D:Ends}(k:Kp Z H H')(h:CD K Z H D3 D):CD K Z H' D3 D:=⟨h.nx.mono k,h.bk.mono k,h.ct.mono k,h.rt.mono k⟩
structure R5(h:Heap)(a C T:Addr):Prop where
 ne:T≠a
 exc:∃oe vs a0,h.get? a=some oe/\oe.cls=.ref C/\oe.data=.fields vs/\vs[0]?=some a0/\vs[1]?=some (.ref T)
 tb:∃oT ts,h.get? T=some oT/\oT.data=.fields ts/\ts[3]?=some .none
def cc(P:Program)(w:World):f7:=λouter H s E e s'=>∃(a C T:Addr) (H':Hp),e=.ref a/\s'.os=s.os/\AllBare s'.gens/\Un (frs outer) [] H H' s.heap s'.heap/\cb P w H' s'.heap /\
 R5 s'.heap a C T/\H' a=none/\H' T=none/\s.heap.get? a=none/\s.heap.get? T=none/\E (.ref C) (some a) H'
def nB(CX:f7)(X:Cx)(E:XK)(τ:L2.St):Prop:=∀(pins:List (Addr×Obj)) (H:Hp) (s:Shared) (e:Value) (s':Shared),Inv X pins τ H s->CX X.stack H s E e s'->X.xe e s'
def Fv(X:Cx)(E:XK)(τ:L2.St):Prop:=∀(pins:List (Addr×Obj)) (H:Hp) (s s3:Shared) (e C:Addr) (args:List Value),Inv X pins τ H s->Ds s.heap s3.heap e (.ref C) args->s3.os=s.os->s3.gens=s.gens->E (.ref C) (some e) H->X.xe (.ref e) s3
theorem R6{P:Program}{w:World}{X:Cx}{τ:L2.St}:nB (cc P w) X E0 τ:=λ_ _ _ _ _ _ h=>by
 obtain⟨a,C,T,H',_,_,_,_,_,_,_,_,_,_,z⟩:=h;exact z.elim
abbrev dA:bK:=λ_ _ _ _=>False
def Fw(K:aq)(Z:Zt)(H:Hp)(W3:X3)(E:XK):Prop:=∀C a S H',Kp Z H H'->Rl K Z S H'->H' a=none->W3 C a S->E (.ref C) (some a) H'
structure ZX(X:Cx)(W3:bK) where
 z:Zt
 E:L2.St->XK
 pass:∀τ,nB (cc X.prog X.w) X (E τ) τ
 rz:∀τ,Fv X (E τ) τ
 ce:∀σ τ C a S H,SR X.K H σ τ->Rl X.K z S H->H a=none->W3 σ C a S->E τ (.ref C) (some a) H
def ZX.no(X:Cx)(z:Zt):ZX X dA:=⟨z,λ_=>E0,λ_=>R6,λ_ _ _ _ _ _ _ _ _ _ _ _ z=>z.elim,λ_ _ _ _ _ _ _ _ _ z=>z.elim⟩
def aK(X:Cx)(W3:bK)(e:Expr)(t:aN):Prop:=∀Z:ZX X W3,PE X e (lE X.K Z.z t)
def eJ(X:Cx)(W3:bK)(e:Expr)(t:cE):Prop:=∀Z:ZX X W3,PT X e (lT X.K Z.z t)
def fQ(X:Cx)(W3:bK)(e:Expr)(t:cE):Prop:=∀Z:ZX X W3,PW X e (lT X.K Z.z t)
def eK(X:Cx)(W3:bK)(es:List Expr)(t:b6):Prop:=∀Z:ZX X W3,PA X es (lA X.K Z.z t)
def eM(X:Cx)(W3:bK)(st:Stmt)(t:b7):Prop:=∀Z:ZX X W3,PS X st (lS X.K Z.z t)
def dc(X:Cx)(W3:bK)(st:List Stmt)(t:b7):Prop:=∀Z:ZX X W3,fh X st (lS X.K Z.z t)
theorem PE.imp{X:Cx}{e:Expr}{t u:TE}(h:PE X e t)(f:∀σ H Q,u σ H Q->t σ H Q):PE X e u:=λpins s σ H Q I q=>h pins s σ H Q I (f _ _ _ q)
theorem PT.imp{X:Cx}{e:Expr}{t u:TT}(h:PT X e t)(f:∀σ H Q,u σ H Q->t σ H Q):PT X e u:=λpins s σ H Q I q=>h pins s σ H Q I (f _ _ _ q)
theorem PW.imp{X:Cx}{e:Expr}{t u:TT}(h:PW X e t)(f:∀σ H Q,u σ H Q->t σ H Q):PW X e u:=λw pins s σ H Q I q=>h w pins s σ H Q I (f _ _ _ q)
theorem PA.imp{X:Cx}{e:List Expr}{t u:TA}(h:PA X e t)(f:∀σ H Q,u σ H Q->t σ H Q):PA X e u:=λp pins s σ H Q I q=>h p pins s σ H Q I (f _ _ _ q)
theorem PS.imp{X:Cx}{st:Stmt}{t u:TS}(h:PS X st t)(f:∀D σ H,u D σ H->t D σ H):PS X st u:=λpins s σ H D I q=>h pins s σ H D I (f _ _ _ q)
theorem fh.imp{X:Cx}{st:List Stmt}{t u:TS}(h:fh X st t)(f:∀D σ H,u D σ H->t D σ H):fh X st u:=λpins s σ H D I q=>h pins s σ H D I (f _ _ _ q)
end E3
namespace E3
open PySem PySem.Spec PyProof.Rows L2 EE
section
variable{X:Cx}{W3:bK}{a b c e:Expr}{es:List Expr}{pos:Pos}
def v3(i:Nat):aN:=λσ S Q=>∃d,σ[i]?=some (some d)/\Q d S
def c3(d:D):aN:=λ_ S Q=>Q d S
theorem R7{i:Nat}(h:PE X e (Ed i)):aK X W3 e (v3 i):=λZ=>PE.imp h λτ H Q cR=>by
 obtain⟨σ,S,Q3,hs,hr,⟨d,e,q⟩,c⟩:=cR;obtain⟨v,h1,h2⟩:=hs.at e;exact⟨v,h1,c d S v H (Kp.refl _ _) h2 hr q⟩
theorem aa(i:Nat){x:Str}{pos:Pos}(hN:X.N[i]?=some x:=by rfl)(hv:uC X.env.scope x:=by first|exact Or.inl rfl|exact Or.inr (Or.inl rfl)|exact Or.inr (Or.inr rfl))(hd:(x==("__debug__":Str))=false:=by decide)
 (hcd:(x==("__classdict__":Str))=false:=by decide):aK X W3 (.Name x pos) (v3 i):=R7 (Ow hN hv hd hcd)
theorem so{v:V}{d:D}(h:PE X e (tC v))(r:∀H,Rp X.K H d v):aK X W3 e (c3 d):=λZ=>PE.imp h λτ H Q eY=>by obtain⟨σ,S,Q3,hs,hr,q,c⟩:=eY;exact c d S v H (Kp.refl _ _) (r H) hr q
theorem aj{i j}:aK X W3 (.Constant (.int i) j pos) (c3 (.int i)):=so Ox λ_=>.int _
theorem mr{b j}:aK X W3 (.Constant (.bool b) j pos) (c3 (.bl b)):=so Oy λ_=>.bl _
theorem eZ{j}:aK X W3 (.Constant .none j pos) (c3 .non):=so Oz λ_=>.non
theorem bE{x j}:aK X W3 (.Constant (.str x) j pos) (c3 (.str x)):=so OA λ_=>.str _
theorem Fx{x:Str}{i:Int}(h:∃t,X.mg x=some (.int i t))(hg:Gl X x)(hd:(x==("__debug__":Str))=false:=by decide):aK X W3 (.Name x pos) (c3 (.int i)) :=
 so (Rz h hg hd) λ_=>.int _
abbrev R3:=D->D->af->K3->Prop
def cS(K:aq)(r3:R3)(r:R2):Prop:=∀(Z:Zt) x y S Q3 v w H Q,Rp K H x v->Rp K H y w->Rl K Z S H->r3 x y S Q3->CK K Z H Q3 Q->r v w H Q
def o3(r:R3)(ta tb:aN):aN:=λσ S Q=>ta σ S λx S1=>tb σ S1 λy S2=>r x y S2 Q
def je(t:aN):cE:=λσ S Q=>t σ S λx S'=>∃k,x=.bl k/\Q k S'
variable{ta tb tc:aN}{tA tB:cE}{t:b6}
theorem ve{K:aq}{Z:Zt}{r3:R3}{r:R2}(hd:cS K r3 r){τ:L2.St}{H:Hp}{Q:VK}(h:lE K Z (o3 r3 ta tb) τ H Q):rK r (lE K Z ta) (lE K Z tb) τ H Q:=show _ by
 obtain⟨σ,S,Q3,hs,hr,ht,hc⟩:=h;refine⟨σ,S,_,hs,hr,ht,λx S1 v H1 k1 r1 l1 q1=>?_⟩;refine⟨σ,S1,_,hs.mono k1,l1,q1,λy S2 w H2 k2 r2 l2 q2=>?_⟩;exact hd Z x y S2 Q3 v w H2 Q (r1.mono k2) r2 l2 q2 (hc.mono (k1.trans k2))
theorem aE{op:Operator}{r3:R3}{r:R2}(ho:cu X (binaryOp op) r)(hd:cS X.K r3 r)(ha:aK X W3 a ta)(hb:aK X W3 b tb):aK X W3 (.BinOp a op b pos) (o3 r3 ta tb) :=
 λZ=>PE.imp (PX ho (ha Z) (hb Z)) λ_ _ _ h=>ve hd h
theorem yY{op:CmpOp}{r3:R3}{r:R2}(ho:cu X (compareOp op) r)(hd:cS X.K r3 r)(ha:aK X W3 a ta)(hb:aK X W3 b tb)(hm:behindInMarks op b=false):aK X W3 (.Compare a [op] [b] pos) (o3 r3 ta tb) :=
 λZ=>PE.imp (PZ ho (ha Z) (hb Z) hm) λ_ _ _ h=>ve hd h
theorem yZ{K:aq}{Z:Zt}{t3:aN}{t2:TE}(hd:∀τ H Q,lE K Z t3 τ H Q->t2 τ H Q){τ:L2.St}{H:Hp}{Q:Bool->Hp->Prop}(h:lT K Z (je t3) τ H Q):yx t2 τ H Q:=show _ by
 obtain⟨σ,S,Q3,hs,hr,ht,hc⟩:=h;refine hd τ H _ ⟨σ,S,_,hs,hr,ht,λx S1 v H1 k1 r1 l1 q1=>?_⟩;obtain⟨k,rfl,q⟩:=q1;cases r1;exact⟨k,rfl,hc k S1 H1 k1 l1 q⟩
theorem br{op:CmpOp}{r3:R3}{r:R2}(ho:cu X (compareOp op) r)(hd:cS X.K r3 r)(ha:aK X W3 a ta)(hb:aK X W3 b tb)(hm:behindInMarks op b=false):eJ X W3 (.Compare a [op] [b] pos) (je (o3 r3 ta tb)) :=
 λZ=>PT.imp (P0 ho (ha Z) (hb Z) hm) λ_ _ _ h=>yZ (λ_ _ _ h=>ve hd h) h
theorem aA{r3:R3}{r:R2}(ho:rX X r)(hd:cS X.K r3 r)(ha:aK X W3 a ta)(hb:aK X W3 b tb)(hs:EN b):aK X W3 (.Subscript a b pos) (o3 r3 ta tb) :=
 λZ=>PE.imp (QM ho (ha Z) (hb Z) hs) λ_ _ _ h=>ve hd h
theorem vf(h:aK X W3 e ta)(he:∀whole,isTrue e X.env whole=(do let v <-whole;standAt e.pos;holding [v] (truthy v)):=by intro _;rfl):eJ X W3 e (je ta) :=
 λZ=>PT.imp (OE (h Z) he) λ_ _ _ q=>yZ (t2:=lE X.K Z.z ta) (λ_ _ _ z=>z) q
def Fy(t u:cE):cE:=λσ S Q=>t σ S λc S1=>if c=true then u σ S1 Q else Q false S1
def or3(t u:cE):cE:=λσ S Q=>t σ S λc S1=>if c=true then Q true S1 else u σ S1 Q
def Fz(t:cE):cE:=λσ S Q=>t σ S λc S1=>Q (!c) S1
def FA(ta tb:aN):aN:=λσ S Q=>ta σ S λx S1=>∃c,x=.bl c/\if c=true then tb σ S1 Q else Q (.bl false) S1
def FC(ta:aN):aN:=λσ S Q=>ta σ S λx S1=>∃c,x=.bl c/\Q (.bl (!c)) S1
def FD(t:cE)(ta tb:aN):aN:=λσ S Q=>t σ S λc S1=>if c=true then ta σ S1 Q else tb σ S1 Q
variable{rest:List Expr}
theorem pq(ha:eJ X W3 a tA):fQ X W3 (.BoolOp .And [a] pos) tA:=λZ=>OI (ha Z)
theorem R8(ha:eJ X W3 a tA):fQ X W3 (.BoolOp .Or [a] pos) tA:=λZ=>OJ (ha Z)
theorem w_and(ha:eJ X W3 a tA)(hb:fQ X W3 (.BoolOp .And (b::rest) pos) tB):fQ X W3 (.BoolOp .And (a::b::rest) pos) (Fy tA tB):=λZ=>PW.imp (OK (ha Z) (hb Z)) λτ H Q kE=>by
 obtain⟨σ,S,Q3,hs,hr,ht,hc⟩:=kE;refine⟨σ,S,_,hs,hr,ht,λc S1 H1 k1 l1 q1=>?_⟩;cases c with
 |true=>exact⟨σ,S1,Q3,hs.mono k1,l1,q1,hc.mono k1⟩
 |false=>exact hc false S1 H1 k1 l1 q1
theorem w_or(ha:eJ X W3 a tA)(hb:fQ X W3 (.BoolOp .Or (b::rest) pos) tB):fQ X W3 (.BoolOp .Or (a::b::rest) pos) (or3 tA tB):=λZ=>PW.imp (OL (ha Z) (hb Z)) λτ H Q yj=>by
 obtain⟨σ,S,Q3,hs,hr,ht,hc⟩:=yj;refine⟨σ,S,_,hs,hr,ht,λc S1 H1 k1 l1 q1=>?_⟩;cases c with
 |true=>exact hc true S1 H1 k1 l1 q1
 |false=>exact⟨σ,S1,Q3,hs.mono k1,l1,q1,hc.mono k1⟩
theorem fQ.pt(h:fQ X W3 e tA):eJ X W3 e tA:=λZ=>(h Z).pt
theorem FF(ha:eJ X W3 a tA):eJ X W3 (.UnaryOp .Not a pos) (Fz tA):=λZ=>PT.imp (OM (ha Z)) λτ H Q su=>by obtain⟨σ,S,Q3,hs,hr,ht,hc⟩:=su;exact⟨σ,S,_,hs,hr,ht,λc S1 H1 k1 l1 q1=>hc (!c) S1 H1 k1 l1 q1⟩
theorem R9{op}(h:aK X W3 a ta):aK X W3 (.BoolOp op [a] pos) ta:=λZ=>OP (h Z)
theorem FH(ha:aK X W3 a ta)(hb:aK X W3 (.BoolOp .And (b::rest) pos) tb):aK X W3 (.BoolOp .And (a::b::rest) pos) (FA ta tb):=λZ=>PE.imp (OQ (ha Z) (hb Z)) λτ H Q y0=>by
 obtain⟨σ,S,Q3,hs,hr,ht,hc⟩:=y0;refine⟨σ,S,_,hs,hr,ht,λx S1 v H1 k1 r1 l1 q1=>?_⟩;obtain⟨c,rfl,q1⟩:=q1;cases r1;refine⟨c,rfl,?_⟩;cases c with
 |true=>exact⟨σ,S1,Q3,hs.mono k1,l1,q1,hc.mono k1⟩
 |false=>exact hc _ S1 _ H1 k1 (.bl _) l1 q1
theorem R_(ha:aK X W3 a ta):aK X W3 (.UnaryOp .Not a pos) (FC ta):=λZ=>PE.imp (OS (ha Z)) λτ H Q y6=>by
 obtain⟨σ,S,Q3,hs,hr,ht,hc⟩:=y6;refine⟨σ,S,_,hs,hr,ht,λx S1 v H1 k1 r1 l1 q1=>?_⟩;obtain⟨c,rfl,q1⟩:=q1;cases r1;exact⟨c,rfl,hc _ S1 _ H1 k1 (.bl _) l1 q1⟩
theorem pv(hc:eJ X W3 c tA)(ha:aK X W3 a ta)(hb:aK X W3 b tb):aK X W3 (.IfExp c a b pos) (FD tA ta tb):=λZ=>PE.imp (OU (hc Z) (ha Z) (hb Z)) λτ H Q yz=>by
 obtain⟨σ,S,Q3,hs,hr,ht,hc⟩:=yz;refine⟨σ,S,_,hs,hr,ht,λc S1 H1 k1 l1 q1=>?_⟩;cases c with
 |true=>exact⟨σ,S1,Q3,hs.mono k1,l1,q1,hc.mono k1⟩
 |false=>exact⟨σ,S1,Q3,hs.mono k1,l1,q1,hc.mono k1⟩
def IsL(S:af)(x:D)(ds:List D):Prop:=(∃a,x=.ref a/\S a=some (.lst ds))∨x=.bH ds
theorem IsL.down{K:aq}{Z:Zt}{S:af}{H:Hp}{x:D}{ds:List D}{v:V}(h:IsL S x ds)(r:Rp K H x v)(l:Rl K Z S H):∃a vs,v=.ref a/\bu K H a vs/\aX K H ds vs:=show _ by
 rcases h with⟨a,rfl,e⟩|rfl
 ·cases r;obtain⟨vs,h1,h2⟩:=l.obj a _ e;exact⟨a,vs,rfl,bu.of h1,h2⟩
 ·cases r with
  |bH h1 h2=>exact⟨_,_,rfl,h1.sq,h2⟩
def sv(S:af):D->Bool->Prop
 | .non,k=>k=false
 | .bl b,k=>k=b
 | .int i,k=>k=(i != 0)
 | .str y,k=>y.length<=sizeLine/\k=((y.length:Int) != 0)
 | .tup ds,k=>k=!ds.isEmpty
 | .bH ds,k=>k=!ds.isEmpty
 | .ref a,k=>(∃ds,S a=some (.lst ds)/\k=!ds.isEmpty)∨∃kvs,S a=some (.b_ kvs)/\k=!kvs.isEmpty
 | .ty _,_=>False
theorem aX.empty{K:aq}{H:Hp}{ds:List D}{vs:List V}(r:aX K H ds vs):ds.isEmpty=vs.isEmpty:=by cases r<;>rfl
theorem sv.down{K:aq}{Z:Zt}{S:af}{H:Hp}{x:D}{v:V}{k:Bool}(h:sv S x k)(r:Rp K H x v)(l:Rl K Z S H):yy K v H k:=show _ by
 cases r with
 |non=>exact h
 |bl b=>exact h
 |int i=>exact h
 |str x=>exact h
 |ty n=>exact h
 |tup h1 h2=>exact .inr (.inl ⟨_,h1,by rw[<-h2.empty];exact h⟩)
 |bH h1 h2=>exact .inl ⟨_,h1.sq,by rw[<-h2.empty];exact h⟩
 |ref a =>
  rcases h with⟨ds,e,q⟩|⟨kvs,e,q⟩
  ·obtain⟨vs,h1,h2⟩:=l.obj a _ e;exact .inl ⟨vs,bu.of h1,by rw[<-h2.empty];exact q⟩
  ·obtain⟨ws,h1,h2⟩:=l.obj a _ e;refine .inr (.inr ⟨ws,h1,?_⟩);cases h2<;>exact q
def FI(ta:aN):cE:=λσ S Q=>ta σ S λx S1=>∃k,sv S1 x k/\Q k S1
theorem vg(ha:aK X W3 a ta)(he:∀whole,isTrue a X.env whole=(do let v <-whole;standAt a.pos;holding [v] (truthy v))):eJ X W3 a (FI ta):=λZ=>PT.imp (P5 (ha Z) he) λτ H Q rQ=>by
 obtain⟨σ,S,Q3,hs,hr,ht,hc⟩:=rQ;refine⟨σ,S,_,hs,hr,ht,λx S1 v H1 k1 r1 l1 q1=>?_⟩;obtain⟨k,h,q⟩:=q1;exact⟨k,h.down r1 l1,hc k S1 H1 k1 l1 q⟩
def jf:b6:=λ_ S Q=>Q [] S
def fR(ta:aN)(tr:b6):b6:=λσ S Q=>ta σ S λx S1=>tr σ S1 λxs S2=>Q (x::xs) S2
theorem ah:eK X W3 [] jf:=λZ=>PA.imp Qn λτ H Q y8=>by obtain⟨σ,S,Q3,hs,hr,ht,hc⟩:=y8;exact hc [] S [] H (Kp.refl _ _) .nil hr ht
theorem ae(ha:aK X W3 e ta)(hr:eK X W3 es t)(hs:starEach (e::es) X.env=(false,eval e X.env)::starEach es X.env:=by rfl):eK X W3 (e::es) (fR ta t):=λZ=>PA.imp (Qo (ha Z) (hr Z) hs) λτ H Q rT=>by
 obtain⟨σ,S,Q3,hs,hr,ht,hc⟩:=rT;refine⟨σ,S,_,hs,hr,ht,λx S1 v H1 k1 r1 l1 q1=>?_⟩;exact⟨σ,S1,_,hs.mono k1,l1,q1,λxs S2 vs H2 k2 r2 l2 q2=>hc (x::xs) S2 (v::vs) H2 (k1.trans k2) (.cons (r1.mono k2) r2) l2 q2⟩
def dG(S:af)(ds:List D)(Q:K3):Prop:=∀p,S p=none->Q (.ref p) (up S p (.lst ds))
theorem dG.down{K:aq}{Z:Zt}{S:af}{H:Hp}{ds:List D}{vs:List V}{Q3:K3}{Q:VK}(h:dG S ds Q3)(r:aX K H ds vs)(l:Rl K Z S H)(c:CK K Z H Q3 Q):∀p,H p=none->Q (.ref p) (upd H p (.lst vs)):=λp hp=>by
 obtain⟨hs,hz⟩:=l.fresh hp;have k:=Kp.new (o:=HO.lst vs) hp hz;exact c _ _ _ _ k (.ref p) (l.put (o:=.lst ds) k hz ⟨vs,d8,r.mono k⟩) (h p hs)
theorem tup.down{K:aq}{Z:Zt}{S:af}{H:Hp}{ds:List D}{vs:List V}{Q3:K3}{Q:VK}(h:Q3 (.tup ds) S)(r:aX K H ds vs)(l:Rl K Z S H)(c:CK K Z H Q3 Q):∀p,H p=none->Q (.ref p) (upd H p (.tup vs)):=λp hp=>by
 obtain⟨hs,hz⟩:=l.fresh hp;have k:=Kp.new (o:=HO.tup vs) hp hz;exact c _ _ _ _ k (.tup (bq.of d8) (r.mono k)) (l.lay hp) h
def FJ(t:b6):aN:=λσ S Q=>t σ S λxs S1=>xs.length<=sizeLine/\Q (.tup xs) S1
def FK(t:b6):aN:=λσ S Q=>t σ S λxs S1=>xs.length<=sizeLine/\dG S1 xs Q
theorem bw{x1}(h:eK X W3 es t):aK X W3 (.Tuple es x1 pos) (FJ t):=λZ=>PE.imp (Qr (h Z)) λτ H Q ⟨σ,S,Q3,hs,hr,ht,hc⟩ =>
 ⟨σ,S,_,hs,hr,ht,λxs S1 vs H1 k1 r1 l1 z_14=>by obtain⟨z,q⟩:=z_14;exact⟨by rw[<-r1.len];exact z,tup.down q r1 l1 (hc.mono k1)⟩⟩
theorem dq(h:eK X W3 es t):aK X W3 (.List es pos) (FK t):=λZ=>PE.imp (Qt (h Z)) λτ H Q ⟨σ,S,Q3,hs,hr,ht,hc⟩ =>
 ⟨σ,S,_,hs,hr,ht,λxs S1 vs H1 k1 r1 l1 rU=>by obtain⟨z,q⟩:=rU;exact⟨by rw[<-r1.len];exact z,dG.down q r1 l1 (hc.mono k1)⟩⟩
def FL:aN:=λ_ S Q=>∀p,S p=none->Q (.ref p) (up S p (.b_ []))
theorem R':aK X W3 (.Dict [] [] pos) FL:=λZ=>PE.imp Ry λτ H Q ⟨σ,S,Q3,hs,hr,ht,hc⟩=>λp hp=>by
 obtain⟨h1,hz⟩:=hr.fresh hp;have k:=Kp.new (o:=HO.dK []) hp hz;exact hc _ _ _ _ k (.ref p) (hr.put (o:=.b_ []) k hz ⟨[],d8,.nil⟩) (ht p h1)
def jT(K:aq)(r3:List D->af->K3->Prop)(r:List V->Hp->VK->Prop):Prop:=∀(Z:Zt) ds S Q3 vs H Q,aX K H ds vs->Rl K Z S H->r3 ds S Q3->CK K Z H Q3 Q->r vs H Q
def pw(r:List D->af->K3->Prop)(t:b6):aN:=λσ S Q=>t σ S λvs S1=>r vs S1 Q
variable{x:Str}{p:Pos}{id T:String}{r3:List D->af->K3->Prop}{r:List V->Hp->VK->Prop}
theorem FN{K:aq}{Z:Zt}(hd:jT K r3 r){τ:L2.St}{H:Hp}{Q:VK}(h:lE K Z (pw r3 t) τ H Q):yC r (lA K Z t) τ H Q:=by
 obtain⟨σ,S,Q3,hs,hr,ht,hc⟩:=h;exact⟨σ,S,_,hs,hr,ht,λds S1 vs H1 k1 r1 l1 q1=>hd Z ds S1 Q3 vs H1 Q r1 l1 q1 (hc.mono k1)⟩
theorem dH(hc:ja X (.builtin id) r)(hd:jT X.K r3 r)(hg:Gl X x)(hm:X.mg x=none)(hv:bootBuiltins x=some (.builtin id))(ha:eK X W3 (e::es) t)(hn:x≠"__name__":=by decide)(hdb:(x==("__debug__":Str))=false:=by decide)
 (he:starEach (e::es) X.env=(false,eval e X.env)::starEach es X.env:=by rfl) (hpl:(backTo pos (starEach es X.env)).any (·.1)=false:=by rfl):aK X W3 (.Call (.Name x p) (e::es) [] pos) (pw r3 t) :=
 λZ=>PE.imp (Qw hc hg hm hv (ha Z) hn hdb he hpl) λ_ _ _ h=>FN hd h
theorem iF(hc:ja X (.type T) r)(hd:jT X.K r3 r)(hg:Gl X x)(hm:X.mg x=none)(hv:bootBuiltins x=some (.type T))(ha:eK X W3 (e::es) t)(hn:x≠"__name__":=by decide)(hdb:(x==("__debug__":Str))=false:=by decide)
 (he:starEach (e::es) X.env=(false,eval e X.env)::starEach es X.env:=by rfl) (hpl:(backTo pos (starEach es X.env)).any (·.1)=false:=by rfl):aK X W3 (.Call (.Name x p) (e::es) [] pos) (pw r3 t) :=
 λZ=>PE.imp (Qx hc hg hm hv (ha Z) hn hdb he hpl) λ_ _ _ h=>FN hd h
def nD(K:aq)(r3:D->List D->af->K3->Prop)(r:V->List V->Hp->VK->Prop):Prop:=∀(Z:Zt) x ds S Q3 v vs H Q,Rp K H x v->aX K H ds vs->Rl K Z S H->r3 x ds S Q3->CK K Z H Q3 Q->r v vs H Q
def nE(T:String)(x:D)(S:af):Prop:=(T="str"/\∃z,x=.str z)∨(T="list"/\∃ds,IsL S x ds)∨(T="dict"/\∃a kvs,x=.ref a/\S a=some (.b_ kvs))
theorem nE.down{K:aq}{Z:Zt}{S:af}{H:Hp}{T:String}{x:D}{v:V}(h:nE T x S)(r:Rp K H x v)(l:Rl K Z S H):uX K T v H:=show _ by
 rcases h with⟨rfl,z,rfl⟩|⟨rfl,ds,h⟩|⟨rfl,a,kvs,rfl,e⟩
 ·cases r;rfl
 ·obtain⟨a,vs,rfl,h1,_⟩:=h.down r l;exact .inl ⟨rfl,vs,h1⟩
 ·cases r;obtain⟨ws,h1,_⟩:=l.obj a _ e;exact .inr (.inr (.inl ⟨rfl,.inl ⟨ws,h1⟩⟩))
def FO(T:String)(r:D->List D->af->K3->Prop)(to:aN):aN:=λσ S Q=>to σ S λx S1=>nE T x S1/\r x [] S1 Q
def FQ(T:String)(r:D->List D->af->K3->Prop)(to:aN)(t:b6):aN:=λσ S Q=>to σ S λx S1=>nE T x S1/\t σ S1 λxs S2=>r x xs S2 Q
variable{o:Expr}{to:aN}{name:Str}{apos cpos:Pos}{m3:D->List D->af->K3->Prop}{m:V->List V->Hp->VK->Prop}
theorem g0(pa:PlainAttrs T)(slot:Slot T name id)(hty:typeOf (.builtin id)=pure (.type "method_descriptor"))(hm:nr X id m)(hd:nD X.K m3 m)(ho:aK X W3 o to)
 (hbase:attributeBase o name X.env (eval o X.env)=eval o X.env:=by rfl) (hline:(apos.endLine==cpos.line)=true:=by rfl):aK X W3 (.Call (.Attribute o name apos) [] [] cpos) (FO T m3 to) :=
 λZ=>PE.imp (QY pa slot hty hm (ho Z) hbase hline) λτ H Q ⟨σ,S,Q3,hs,hr,ht,hc⟩ =>
  ⟨σ,S,_,hs,hr,ht,λx S1 v H1 k1 r1 l1 r8=>by obtain⟨ty,q⟩:=r8;exact⟨ty.down r1 l1,hd Z.z x [] S1 Q3 v [] H1 Q r1 .nil l1 q (hc.mono k1)⟩⟩
theorem cZ(pa:PlainAttrs T)(slot:Slot T name id)(hty:typeOf (.builtin id)=pure (.type "method_descriptor"))(hm:nr X id m)(hd:nD X.K m3 m)(ho:aK X W3 o to)(ha:eK X W3 (e::es) t)
 (hbase:attributeBase o name X.env (eval o X.env)=eval o X.env:=by rfl)
 (hfew:((backTo cpos (starEach (e::es) X.env)).all (λx=>!x.1)&&(backToKw cpos (keywordEach [] X.env)).all (λx=>x.1.isSome)
  && decide ((e::es).length+([]:List Keyword).length+(if([]:List Keyword).isEmpty then 0 else 1)<30))=true:=by rfl)
 (hline:(apos.endLine==cpos.line)=true:=by rfl) (hs:starEach (e::es) X.env=(false,eval e X.env)::starEach es X.env:=by rfl) (hplain:(backTo cpos (starEach es X.env)).any (·.1)=false:=by rfl) :
 aK X W3 (.Call (.Attribute o name apos) (e::es) [] cpos) (FQ T m3 to t) :=
 λZ=>PE.imp (QZ pa slot hty hm (ho Z) (ha Z) hbase hfew hline hs hplain) λτ H Q ⟨σ,S,Q3,hs,hr,ht,hc⟩ =>
  ⟨σ,S,_,hs,hr,ht,λx S1 v H1 k1 r1 l1 y9=>by obtain⟨ty,q⟩:=y9;exact⟨ty.down r1 l1,σ,S1,_,hs.mono k1,l1,q,λds S2 vs H2 k2 r2 l2 q2=>hd Z.z x ds S2 Q3 v vs H2 Q (r1.mono k2) r2 l2 q2 (hc.mono (k1.trans k2))⟩⟩
abbrev nF:=aJ->af->(Option Int->af->Prop)->Prop
def CO(K:aq)(Z:Zt)(H:Hp)(Q3:Option Int->af->Prop)(Q:Option Int->Hp->Prop):Prop:=∀d S H',Kp Z H H'->Rl K Z S H'->Q3 d S->Q d H'
def lO(K:aq)(Z:Zt)(t:nF):TO:=λτ H Q=>∃σ S Q3,SR K H σ τ/\Rl K Z S H/\t σ S Q3/\CO K Z H Q3 Q
def sy(X:Cx)(W3:bK)(e:Option Expr)(t:nF):Prop:=∀Z:ZX X W3,PO X e (lO X.K Z.z t)
def FR:nF:=λ_ S Q=>Q none S
def part3(t:aN):nF:=λσ S Q=>t σ S λx S1=>∃i,x=.int i/\Q (some i) S1
theorem PO.imp{X:Cx}{e:Option Expr}{t u:TO}(h:PO X e t)(f:∀σ H Q,u σ H Q->t σ H Q):PO X e u:=λpins s σ H Q I q=>h pins s σ H Q I (f _ _ _ q)
theorem eO:sy X W3 none FR:=λZ=>PO.imp QG λτ H Q y_=>by obtain⟨σ,S,Q3,hs,hr,ht,hc⟩:=y_;exact hc none S H (Kp.refl _ _) hr ht
theorem dU(h:aK X W3 e ta):sy X W3 (some e) (part3 ta):=λZ=>PO.imp (QH (h Z)) λτ H Q sd=>by
 obtain⟨σ,S,Q3,hs,hr,ht,hc⟩:=sd;refine⟨σ,S,_,hs,hr,ht,λx S1 v H1 k1 r1 l1 q1=>?_⟩;obtain⟨i,rfl,q⟩:=q1;cases r1;exact⟨i,rfl,hc _ S1 H1 k1 l1 q⟩
def vh(K:aq)(r3:D->Option Int->Option Int->af->K3->Prop)(r:V->Option Int->Option Int->Hp->VK->Prop):Prop:=∀(Z:Zt) x lo hi S Q3 v H Q,Rp K H x v->Rl K Z S H->r3 x lo hi S Q3->CK K Z H Q3 Q->r v lo hi H Q
def FT(r:D->Option Int->Option Int->af->K3->Prop)(te:aN)(tl th:nF):aN:=λσ S Q=>te σ S λx S1=>tl σ S1 λl S2=>th σ S2 λu S3=>r x l u S3 Q
theorem eh{lo hi:Option Expr}{tl th:nF}{p2:Pos}{s3:D->Option Int->Option Int->af->K3->Prop}{s2:V->Option Int->Option Int->Hp->VK->Prop}(hr:o9 X s2)(hd:vh X.K s3 s2)(he:aK X W3 e ta)(hl:sy X W3 lo tl)(hu:sy X W3 hi th) :
 aK X W3 (.Subscript e (.Slice lo hi none p2) pos) (FT s3 ta tl th):=λZ=>PE.imp (QJ hr (he Z) (hl Z) (hu Z)) λτ H Q za=>by obtain⟨σ,S,Q3,hs,hr,ht,hc⟩:=za;exact 
 ⟨σ,S,_,hs,hr,ht,λx S1 v H1 k1 r1 l1 q1=>⟨σ,S1,_,hs.mono k1,l1,q1,λl S2 H2 k2 l2 q2=>⟨σ,S2,_,hs.mono (k1.trans k2),l2,q2,λu S3 H3 k3 l3 q3 =>
  hd Z.z x l u S3 Q3 v H3 Q (r1.mono (k2.trans k3)) l3 q3 (hc.mono (k1.trans (k2.trans k3)))⟩⟩⟩
def kD:Key->D
 | .inl i=>.int i
 | .inr x=>.str x
def du(kvs:List (Key×D))(k:Key):Option D:=(kvs.find? λkv=>decide (kv.1=k)).map (·.2)
def putD(kvs:List (Key×D))(k:Key)(v:D):List (Key×D):=if(kvs.any λkv=>decide (kv.1=k))=true then kvs.map λkv=>if kv.1=k then(kv.1,v) else kv else kvs++[(k,v)]
def FU(td ty:aN):aN:=λσ S Q=>td σ S λx S1=>ty σ S1 λy S2=>∃a kvs k v,x=.ref a/\S2 a=some (.b_ kvs)/\y=kD k/\du kvs k=some v/\Q v S2
theorem zb{K:aq}{H:Hp}{k:Key}{v:V}(r:Rp K H (kD k) v):v=kV k:=by
 cases k with
 |inl i=>cases r;rfl
 |inr x=>cases r;rfl
abbrev KR(K:aq)(H:Hp):=Paired (λ(p:Key×D) (q:Key×V)=>p.1=q.1/\Rp K H p.2 q.2)
theorem KR.val{K:aq}{H:Hp}{kvs:List (Key×D)}{ws:List (Key×V)}(r:KR K H kvs ws)(k:Key):RO K H (du kvs k) (gC ws k)/\(du kvs k).isSome=(gC ws k).isSome:=show _ by
 induction r with
 |nil=>exact⟨λd e=>(nomatch e),rfl⟩
 |@cons p q ps qs h t ih =>
  obtain⟨h1,h2⟩:=h;by_cases e:p.1=k
  ·have e2:q.1=k:=h1▸e;have a:du (p::ps) k=some p.2:=by simp[du,kl,e]
   rw[a,u5 e2];exact⟨λd z=>by cases z;exact⟨_,rfl,h2⟩,rfl⟩
  ·have e2:¬q.1=k:=h1▸e;have a:du (p::ps) k=du ps k:=by simp[du,kl,e]
   rw[a,u6 e2];exact ih
theorem KR.any{K:aq}{H:Hp}{kvs:List (Key×D)}{ws:List (Key×V)}(r:KR K H kvs ws)(k:Key):(kvs.any λkv=>decide (kv.1=k))=ws.any λkv=>decide (kv.1=k):=by
 induction r with
 |nil=>rfl
 |@cons p q ps qs h t ih=>rw[mY,mY,ih,h.1]
theorem KR.repl{K:aq}{H:Hp}(k:Key){d:D}{v:V}(h:Rp K H d v):∀{kvs:List (Key×D)} {ws:List (Key×V)},KR K H kvs ws->KR K H (kvs.map λkv=>if kv.1=k then(kv.1,d) else kv) (ws.map λkv=>if kv.1=k then(kv.1,v) else kv)
 |_,_,.nil=>.nil
 |_,_,.cons (a:=p) (b:=q) ⟨e,r⟩ t=>by
  refine .cons ?_ (KR.repl k h t);dsimp only;by_cases c:q.1=k
  ·rw[if_pos c,if_pos (e▸c)];exact⟨e,h⟩
  ·rw[if_neg c,if_neg (e▸c)];exact⟨e,r⟩
theorem KR.put{K:aq}{H:Hp}{kvs:List (Key×D)}{ws:List (Key×V)}(r:KR K H kvs ws)(k:Key){d:D}{v:V}(h:Rp K H d v):KR K H (putD kvs k d) (putK ws k v):=by
 unfold putD putK;rw[r.any k]
 split
 ·exact KR.repl k h r
 ·exact nA r (.cons ⟨rfl,h⟩ .nil)
theorem KR.len{K:aq}{H:Hp}{kvs:List (Key×D)}{ws:List (Key×V)}(r:KR K H kvs ws):kvs.length=ws.length:=Paired.length r
theorem iD.down{K:aq}{Z:Zt}{S:af}{H:Hp}{a:Addr}{kvs:List (Key×D)}{k:Key}{v:V}(l:Rl K Z S H)(e:S a=some (.b_ kvs))(r:Rp K H (kD k) v):∃ws,iD H a v (gC ws k)/\KR K H kvs ws:=by
 obtain⟨ws,h1,h2⟩:=l.obj a _ e;rw[zb r];exact⟨ws,iD.k h1,h2⟩
theorem zc{i:Expr}{td ty:aN}(hu:X.A.units+5<cLine)(ho:aK X W3 o td)(hi:aK X W3 i ty)(hs:yN i):aK X W3 (.Subscript o i pos) (FU td ty):=λZ=>PE.imp (Rt hu (ho Z) (hi Z) hs) λτ H Q zd=>by
 obtain⟨σ,S,Q3,hs,hr,ht,hc⟩:=zd;refine⟨σ,S,_,hs,hr,ht,λx S1 v H1 k1 r1 l1 q1=>⟨σ,S1,_,hs.mono k1,l1,q1,λy S2 w H2 k2 r2 l2 q2=>?_⟩⟩;obtain⟨a,kvs,k,d,rfl,e,rfl,ev,q⟩:=q2;cases r1;obtain⟨ws,g,kr⟩:=iD.down l2 e r2;obtain⟨u,eu,ru⟩:=(kr.val k).1 d ev;rw[eu]at g;exact⟨a,u,rfl,g,hc d S2 u H2 (k1.trans k2) ru l2 q⟩
end
section
variable{X:Cx}{W3:bK}{st:Stmt}{rest:List Stmt}{t u:b7}{e:Expr}{te:aN}{pos:Pos}
def FV:b7:=λD σ S=>D.nx σ S
def sA(t u:b7):b7:=λD σ S=>t {D with nx:=u D} σ S
theorem cw:dc X W3 [] FV:=λZ=>fh.imp OY λD τ H cR=>by obtain⟨D3,σ,S,hs,hr,ht,hc⟩:=cR;exact hc.nx σ S τ H (Kp.refl _ _) hs hr ht
theorem au(h1:eM X W3 st t)(h2:dc X W3 rest u):dc X W3 (st::rest) (sA t u):=λZ=>fh.imp (OZ (h1 Z) (h2 Z)) λD τ H ⟨D3,σ,S,hs,hr,ht,hc⟩ =>
 ⟨_,σ,S,hs,hr,ht,⟨λσ' S' bx H' k r l q=>⟨D3,σ',S',r,l,q,hc.mono k⟩,hc.bk,hc.ct,hc.rt⟩⟩
theorem ay(h1:eM X W3 st t):dc X W3 [st] t:=λZ=>O0 (h1 Z)
def ze(te:aN):b7:=λD σ S=>te σ S λ_ S1=>D.nx σ S1
theorem b8(he:aK X W3 e te)(hs:swapsWith e none pos.line X.env=pure false:=by rfl):eM X W3 (.Expr e pos) (ze te):=λZ=>PS.imp (O2 (he Z) hs) λD τ H ⟨D3,σ,S,hs,hr,ht,hc⟩ =>
 ⟨σ,S,_,hs,hr,ht,λd S' v H' k r l q=>hc.nx σ S' τ H' k (hs.mono k) l q⟩
def FW(te:aN):b7:=λD σ S=>te σ S D.rt
theorem bz(he:aK X W3 e te):eM X W3 (.Return (some e) pos) (FW te):=λZ=>PS.imp (O4 (he Z)) λD τ H su=>by obtain⟨D3,σ,S,hs,hr,ht,hc⟩:=su;exact⟨σ,S,_,hs,hr,ht,hc.rt⟩
def FX:b7:=λD _ S=>D.rt .non S
theorem Sa:eM X W3 (.Return none pos) FX:=λZ=>PS.imp O6 λD τ H y0=>by obtain⟨D3,σ,S,hs,hr,ht,hc⟩:=y0;exact hc.rt .non S .non H (Kp.refl _ _) .non hr ht
def pz(c:cE)(t u:b7):b7:=λD σ S=>c σ S λb S1=>if b=true then t D σ S1 else u D σ S1
theorem cy{c:Expr}{a b:List Stmt}{tc:cE}(hc:eJ X W3 c tc)(ha:dc X W3 a t)(hb:dc X W3 b u):eM X W3 (.If c a b pos) (pz tc t u):=λZ=>PS.imp (O8 (hc Z) (ha Z) (hb Z)) λD τ H Sb=>by
 obtain⟨D3,σ,S,hs,hr,ht,hc⟩:=Sb;refine⟨σ,S,_,hs,hr,ht,λb S' H' k l q=>?_⟩;cases b with
 |true=>exact⟨D3,σ,S',hs.mono k,l,q,hc.mono k⟩
 |false=>exact⟨D3,σ,S',hs.mono k,l,q,hc.mono k⟩
def Sd:b7:=λ_ _ _=>False
theorem FY:eM X W3 st Sd:=λZ=>PS.imp O_ λD τ H y6=>by obtain⟨D3,σ,S,hs,hr,ht,hc⟩:=y6;exact ht
abbrev eQ:=D->aJ->af->(aJ->af->Prop)->Prop
def lG(K:aq)(Z:Zt)(t:eQ):TG:=λv τ H Q=>∃d σ S Q3,Rp K H d v/\SR K H σ τ/\Rl K Z S H/\t d σ S Q3/\CS K Z H Q3 Q
def g9(X:Cx)(W3:bK)(tg:Expr)(t:eQ):Prop:=∀Z:ZX X W3,PG X tg (lG X.K Z.z t)
theorem PG.imp{X:Cx}{e:Expr}{t u:TG}(h:PG X e t)(f:∀v σ H Q,u v σ H Q->t v σ H Q):PG X e u:=λpins s σ H v w Q I r q=>h pins s σ H v w Q I r (f _ _ _ _ q)
def kN(i:Nat):eQ:=λv σ S Q=>Q (σ.set i (some v)) S
theorem dv{i:Nat}{x:Str}(hN:X.N.Nodup)(hi:X.N[i]?=some x)(hx:Loc X.env.scope x)(hf:X.fn x=true∨X.env.scope.names.lookup x=some .local:=by first|exact .inl rfl|exact .inr rfl|assumption):g9 X W3 (.Name x pos) (kN i) :=
 λZ=>PG.imp (Pa hN hi hx hf) λv τ H Q rQ=>by obtain⟨d,σ,S,Q3,r,hs,hr,ht,hc⟩:=rQ;exact hc _ S _ H (Kp.refl _ _) (hs.set r i) hr ht
abbrev jU:=List D->aJ->af->(aJ->af->Prop)->Prop
def Se(K:aq)(Z:Zt)(t:jU):kF:=λv τ H Q=>∃d σ S Q3,aX K H d v/\SR K H σ τ/\Rl K Z S H/\t d σ S Q3/\CS K Z H Q3 Q
def sC(X:Cx)(W3:bK)(tg:List Expr)(t:jU):Prop:=∀Z:ZX X W3,jP X tg (Se X.K Z.z t)
theorem jP.imp{X:Cx}{e:List Expr}{t u:kF}(h:jP X e t)(f:∀v σ H Q,u v σ H Q->t v σ H Q):jP X e u:=λpins s σ H v w Q I r q=>h pins s σ H v w Q I r (f _ _ _ _ q)
def vi:jU:=λvs σ S Q=>vs=[]/\Q σ S
def pA(t:eQ)(u:jU):jU:=λvs σ S Q=>∃v r,vs=v::r/\t v σ S λσ' S'=>u r σ' S' Q
theorem sD:sC X W3 [] vi:=λZ=>jP.imp Pd λv τ H Q y8=>by
 obtain⟨d,σ,S,Q3,r,hs,hr,⟨e,q⟩,hc⟩:=y8;subst e;cases r;exact⟨rfl,hc σ S τ H (Kp.refl _ _) hs hr q⟩
theorem jV{es:List Expr}{t:eQ}{u:jU}(h1:g9 X W3 e t)(h2:sC X W3 es u)
 (hs:(assignEach (e::es) X.env).map (·.2)=assign e X.env::(assignEach es X.env).map (·.2):=by rfl):sC X W3 (e::es) (pA t u):=λZ=>jP.imp (Pe (h1 Z) (h2 Z) hs) λv τ H Q rT=>by
 obtain⟨d,σ,S,Q3,r,hs,hr,⟨d1,dr,e,q⟩,hc⟩:=rT;subst e;cases r with
 |cons r rr=>exact⟨_,_,rfl,d1,σ,S,_,r,hs,hr,q,λσ' S' bx H' k r' l q'=>⟨dr,σ',S',Q3,rr.mono k,r',l,q',hc.mono k⟩⟩
def vj(n:Nat)(t:jU):eQ:=λv σ S Q=>∃xs,v=.tup xs/\xs.length=n/\t xs σ S Q
theorem sE{es:List Expr}{k:Nat}{t:jU}{n:Nat}(hc:X.calm=true)(h:sC X W3 es t)
 (hn:(assignEach es X.env).length=n:=by rfl) (hst:(assignEach es X.env).findIdx? (·.1)=none:=by rfl):g9 X W3 (.Tuple es k pos) (vj n t):=λZ=>PG.imp (Ph hc (h Z) hn hst) λv τ H Q z_14=>by
 obtain⟨d,σ,S,Q3,r,hs,hr,⟨xs,e,hl,q⟩,hc⟩:=z_14;subst e;cases r with
 |tup h1 h2=>exact⟨_,_,rfl,h1,by rw[<-h2.len];exact hl,xs,σ,S,Q3,h2,hs,hr,q,hc⟩
def zf(te:aN)(g:eQ):b7:=λD σ S=>te σ S λx S1=>g x σ S1 D.nx
theorem Sf{K:aq}{Z:Zt}{g:eQ}{D:Ends}{τ:L2.St}{H:Hp}(h:lS K Z (zf te g) D τ H):uL (lE K Z te) (lG K Z g) D τ H:=by
 obtain⟨D3,σ,S,hs,hr,ht,hc⟩:=h;exact⟨σ,S,_,hs,hr,ht,λd S' v H' k r l q=>⟨d,σ,S',_,r,hs.mono k,l,q,hc.nx.mono k⟩⟩
theorem Sg{tg:Expr}{g:eQ}(he:aK X W3 e te)(hg:g9 X W3 tg g)(hs:swapsWithSole [tg] e pos.line X.env=pure false:=by rfl)(hw:swappedStores [tg] e X.env=pure none:=by rfl)
 (h1:(assignEach [tg] X.env).map (·.2)=[assign tg X.env]:=by rfl):eM X W3 (.Assign [tg] e pos) (zf te g):=λZ=>PS.imp (Pl (he Z) (hg Z) hs hw h1) λD τ H h=>Sf h
def sF(i:Nat)(te:aN):b7:=λD σ S=>te σ S λx S1=>D.nx (σ.set i (some x)) S1
theorem aH{i:Nat}{x:Str}{pos':Pos}(hN:X.N.Nodup)(hi:X.N[i]?=some x)(hx:Loc X.env.scope x)(he:aK X W3 e te)(hs:swapsWith e (some (.Name x pos')) pos.line X.env=pure false:=by rfl)(hf:X.fn x=true∨X.env.scope.names.lookup x=some .local:=by first|exact .inl rfl|exact .inr rfl|assumption) :
 eM X W3 (.Assign [.Name x pos'] e pos) (sF i te):=λZ=>PS.imp (Pm hN hi hx (he Z) hs hf) λD τ H rU=>by obtain⟨D3,σ,S,hs,hr,ht,hc⟩:=rU;exact 
 ⟨σ,S,_,hs,hr,ht,λd S' v H' k r l q=>hc.nx _ S' _ H' k ((hs.mono k).set r i) l q⟩
def FZ(to ti:aN):eQ:=λv σ S Q=>to σ S λo S1=>ti σ S1 λi S2=>∃p xs k j,o=.ref p/\i=.int k/\S2 p=some (.lst xs)/\gB xs.length k=some j/\Q σ (up S2 p (.lst (xs.set j v)))
theorem Si{o i:Expr}{to ti:aN}(ho:aK X W3 o to)(hi:aK X W3 i ti)
 (ha:∀v,assign (.Subscript o i pos) X.env v=(do
  let ov <-holding [v] (eval o X.env)
  let iv <-holding [v,ov] (eval i X.env)
  standAt pos
  holding [v,ov,iv] (setItem ov iv v)
  release [v,ov,iv] []):=by intro _;rfl):g9 X W3 (.Subscript o i pos) (FZ to ti):=λZ=>PG.imp (Pk (ho Z) (hi Z) set_list ha) λv τ H Q r8=>by
 obtain⟨d,σ,S,Q3,r,hs,hr,ht,hc⟩:=r8;refine⟨σ,S,_,hs,hr,ht,λx1 S1 v1 H1 k1 r1 l1 q1=>⟨σ,S1,_,hs.mono k1,l1,q1,λx2 S2 v2 H2 k2 r2 l2 q2=>?_⟩⟩;obtain⟨p,xs,k,j,rfl,rfl,e,hj,q⟩:=q2;cases r1;cases r2;obtain⟨vs,h1,h2⟩:=l2.obj p _ e;have kk:Kp Z.z H2 (upd H2 p (.lst (vs.set j v))):=Kp.at l2 e;refine⟨p,vs,k,j,rfl,rfl,h1,by rw[<-h2.len];exact hj,?_⟩;have k12:=k1.trans (k2.trans kk);exact hc σ _ τ _ k12 (hs.mono k12) (l2.put (o:=.lst (xs.set j d)) kk (l2.pk e) ⟨_,d8,(h2.mono kk).set (r.mono k12) j⟩) q
def F1(td ty tv:aN):b7:=λD σ S=>tv σ S λv S1=>td σ S1 λx S2=>ty σ S2 λy S3=>∃a kvs k,x=.ref a/\S3 a=some (.b_ kvs)/\y=kD k/\kvs.length<sizeLine/\D.nx σ (up S3 a (.b_ (putD kvs k v)))
theorem Sj{o i value:Expr}{td ty tv:aN}{pos':Pos}(hu:X.A.units+5<cLine)(ho:aK X W3 o td)(hi:aK X W3 i ty)(hv:aK X W3 value tv)(hs:swapsWith value (some (.Subscript o i pos')) pos.line X.env=pure false) :
 eM X W3 (.Assign [.Subscript o i pos'] value pos) (F1 td ty tv):=λZ=>PS.imp (Ru hu (ho Z) (hi Z) (hv Z) hs) λD τ H y9=>by
 obtain⟨D3,σ,S,hs,hr,ht,hc⟩:=y9;refine⟨σ,S,_,hs,hr,ht,λd S1 v H1 k1 r1 l1 q1=>⟨σ,S1,_,hs.mono k1,l1,q1,λx S2 w H2 k2 r2 l2 q2=>⟨σ,S2,_,hs.mono (k1.trans k2),l2,q2,λy S3 z H3 k3 r3 l3 q3=>?_⟩⟩⟩;obtain⟨a,kvs,k,rfl,e,rfl,hz,q⟩:=q3;cases r2;obtain⟨ws,h1,h2⟩:=l3.obj a _ e;have ey:=zb r3;subst ey;have kk:Kp Z.z H3 (upd H3 a (.dK (putK ws k v))):=Kp.at l3 e;have h2':KR X.K H3 kvs ws:=h2;refine⟨a,_,rfl,se.k h1 (by rw[<-h2'.len];exact hz),?_⟩;have k12:=k1.trans (k2.trans (k3.trans kk));refine hc.nx σ _ τ _ k12 (hs.mono k12) (l3.put (o:=.b_ (putD kvs k d)) kk (l3.pk e) ⟨_,d8,?_⟩) q;have h3:KR X.K (upd H3 a (.dK (putK ws k v))) kvs ws:=Paired.jN h2' λp q z=>⟨z.1,z.2.mono kk⟩;exact h3.put k ((r1.mono (k2.trans k3)).mono kk)
def F3(i:Nat)(te:aN)(f:Int->Int->Int):b7:=λD σ S=>∃a,σ[i]?=some (some (.int a))/\te σ S λy S1=>∃b,y=.int b/\D.nx (σ.set i (some (.int (f a b)))) S1
theorem vk{i:Nat}{x:Str}{op:Operator}{f:Int->Int->Int}{pos':Pos}(hN:X.N.Nodup)(hi:X.N[i]?=some x)(hx:Loc X.env.scope x)(he:aK X W3 e te)(ho:uJ X op (ym f))(hf:X.fn x=true∨X.env.scope.names.lookup x=some .local:=by first|exact .inl rfl|exact .inr rfl|assumption) :
 eM X W3 (.AugAssign (.Name x pos') op e pos) (F3 i te f):=λZ=>PS.imp (Po hN hi hx (he Z) ho hf) λD τ H y_=>by
 obtain⟨D3,σ,S,hs,hr,⟨a,ea,ht⟩,hc⟩:=y_;obtain⟨v,h1,h2⟩:=hs.at ea;cases h2;refine⟨_,h1,σ,S,_,hs,hr,ht,λy S' v H' k r l q=>?_⟩;obtain⟨b,rfl,q⟩:=q;cases r;exact⟨a,b,rfl,rfl,hc.nx _ S' _ H' k ((hs.mono k).set (.int _) i) l q⟩
def F4(c:cE)(tb:b7):b7:=λD σ S=>∃W:Nat->aJ->af->Prop,(∃m,W m σ S)/\∀m σ S,W m σ S ->
 c σ S λb S1=>if b=true then tb {D with nx:=λσ' S'=>∃m',m'<m/\W m' σ' S',ct:=λσ' S'=>∃m',m'<m/\W m' σ' S',bk:=D.nx} σ S1 else D.nx σ S1
theorem pB{c:Expr}{body:List Stmt}{tc:cE}{tb:b7}(hp:PassesOwn (model X.prog X.w) X.A X.env X.xe)(hc:eJ X W3 c tc)(hb:dc X W3 body tb):eM X W3 (.While c body [] pos) (F4 tc tb):=λZ=>PS.imp (Pu hp (hc Z) (hb Z)) λD τ H sd=>by
 obtain⟨D3,σ,S,hs,hr,⟨W,⟨m0,w0⟩,turn⟩,hc⟩:=sd;refine⟨λm bx H'=>∃σ' S',Kp Z.z H H'/\SR X.K H' σ' bx/\Rl X.K Z.z S' H'/\W m σ' S',⟨m0,σ,S,Kp.refl _ _,hs,hr,w0⟩,?_⟩;rintro m Sk H1 ⟨fO,S1,k1,s1,l1,w1⟩;refine⟨fO,S1,_,s1,l1,turn m fO S1 w1,λb S2 H2 k2 l2 q2=>?_⟩;cases b with
 |true =>
  rw[if_pos rfl]at q2 ⊢;refine⟨λbx H'=>∃m',m'<m/\∃σ' S',Kp Z.z H H'/\SR X.K H' σ' bx/\Rl X.K Z.z S' H'/\W m' σ' S',λbx H' z=>z,_,fO,S2,s1.mono k2,l2,q2,⟨?_,?_,?_,?_⟩⟩
  ·exact λσ' S' bx H' k r l za=>by obtain⟨m',hm,w⟩:=za;exact⟨m',hm,σ',S',k1.trans (k2.trans k),r,l,w⟩
  ·exact hc.nx.mono (k1.trans k2)
  ·exact λσ' S' bx H' k r l zd=>by obtain⟨m',hm,w⟩:=zd;exact⟨m',hm,σ',S',k1.trans (k2.trans k),r,l,w⟩
  ·exact hc.rt.mono (k1.trans k2)
 |false =>
  rw[if_neg cV]at q2 ⊢;exact hc.nx fO S2 Sk H2 (k1.trans k2) (s1.mono k2) l2 q2
end
abbrev fv:=aJ->af->(List D->(af->Prop)->af->Prop)->Prop
structure Wk(K:aq)(Z:Zt)(J:It)(ds:List D)(Al:af->Prop)(H0:Hp):Prop where
 go:∀i d S H,Kp Z H0 H->Rl K Z S H->Al S->ds[i]?=some d->J.go i H/\∀v H',J.mi i H v H'->Kp Z H H'/\Rp K H' d v/\(∀S',Rl K Z S' H->Rl K Z S' H')/\∀b,H b≠none->H' b=H b
 stop:∀S H,Kp Z H0 H->Rl K Z S H->Al S->J.stop ds.length H
def lI(K:aq)(Z:Zt)(t:fv):TI:=λτ H R=>∃σ S R3,SR K H σ τ/\Rl K Z S H/\t σ S R3/\∀ds Al S' J H',Kp Z H H'->Rl K Z S' H'->R3 ds Al S'->Wk K Z J ds Al H'->R J H'
def gF(X:Cx)(W3:bK)(tg iter:Expr)(t:fv):Prop:=∀Z:ZX X W3,PI X tg iter (lI X.K Z.z t)
theorem PI.imp{X:Cx}{tg e:Expr}{t u:TI}(h:PI X tg e t)(f:∀σ H R,u σ H R->t σ H R):PI X tg e u:=λpins s σ H Q I q=>h pins s σ H Q I (f _ _ _ q)
section
variable{X:Cx}{W3:bK}{tg l:Expr}{tl:aN}{pos:Pos}
def F5(tl:aN):fv:=λσ S R=>tl σ S λx S1=>(∃a ds,x=.ref a/\S1 a=some (.lst ds)/\R ds (λS=>S a=some (.lst ds)) S1)∨∃ds,x=.bH ds/\R ds (λ_=>True) S1
theorem jg(hl:aK X W3 l tl):gF X W3 tg l (F5 tl):=λZ=>PI.imp (PF (hl Z)) λτ H R Sl=>by
 obtain⟨σ,S,R3,hs,hr,ht,hc⟩:=Sl;refine⟨σ,S,_,hs,hr,ht,λx S1 v H1 k1 r1 l1 q1=>?_⟩;rcases q1 with⟨a,ds,rfl,e,q⟩|⟨ds,rfl,q⟩
 ·cases r1;obtain⟨vs,h1,h2⟩:=l1.obj a _ e;refine⟨a,rfl,⟨vs,bu.of h1⟩,hc ds _ S1 _ H1 k1 l1 q ⟨λi d S2 H2 k2 l2 al hd=>?_,λS2 H2 k2 l2 al=>?_⟩⟩
  ·obtain⟨ws,h3,h4⟩:=l2.obj a _ al;obtain⟨v,hv,rv⟩:=h4.at hd;refine⟨⟨ws,v,bu.of h3,hv⟩,λv' H' y=>?_⟩;obtain⟨rfl,y⟩:=y;have:=y ws (bu.of h3);rw[hv]at this;cases this;exact⟨Kp.refl _ _,rv,λ_ z=>z,λ_ _=>rfl⟩
  ·obtain⟨ws,h3,h4⟩:=l2.obj a _ al;exact⟨ws,bu.of h3,by rw[h4.len];exact aT _⟩
 ·cases r1 with
  |@bH a vs _ h1 h2 =>
   refine⟨a,rfl,⟨vs,h1.sq⟩,hc ds _ S1 _ H1 k1 l1 q ⟨λi d S2 H2 k2 l2 al hd=>?_,λS2 H2 k2 l2 al=>?_⟩⟩
   ·obtain⟨v,hv,rv⟩:=h2.at hd;have h3:=(k2.yX h1).sq;refine⟨⟨vs,v,h3,hv⟩,λv' H' y=>?_⟩;obtain⟨rfl,y⟩:=y;have:=y vs h3;rw[hv]at this;cases this;exact⟨Kp.refl _ _,rv.mono k2,λ_ z=>z,λ_ _=>rfl⟩
   ·exact⟨vs,(k2.yX h1).sq,by rw[h2.len];exact aT _⟩
def F6(tl:aN):fv:=λσ S R=>tl σ S λx S1=>∃ds,x=.tup ds/\R ds (λ_=>True) S1
theorem sG(hl:aK X W3 l tl):gF X W3 tg l (F6 tl):=λZ=>PI.imp (PH (hl Z)) λτ H R Sn=>by
 obtain⟨σ,S,R3,hs,hr,ht,hc⟩:=Sn;refine⟨σ,S,_,hs,hr,ht,λx S1 v H1 k1 r1 l1 q1=>?_⟩;obtain⟨ds,rfl,q⟩:=q1;cases r1 with
 |@tup a vs _ h1 h2 =>
  refine⟨a,rfl,⟨vs,h1⟩,hc ds _ S1 _ H1 k1 l1 q ⟨λi d S2 H2 k2 l2 al hd=>?_,λS2 H2 k2 l2 al=>?_⟩⟩
  ·obtain⟨v,hv,rv⟩:=h2.at hd;have h3:=k2.gZ h1;refine⟨⟨vs,v,h3,hv⟩,λv' H' y=>?_⟩;obtain⟨rfl,y⟩:=y;have:=y vs h3;rw[hv]at this;cases this;exact⟨Kp.refl _ _,rv.mono k2,λ_ z=>z,λ_ _=>rfl⟩
  ·exact⟨vs,k2.gZ h1,by rw[h2.len];exact aT _⟩
def F7(ta:b6):fv:=λσ S R=>ta σ S λxs S1=>∃ds,xs=[.tup ds]/\R ds.reverse (λ_=>True) S1
theorem F8{a:Expr}{ta:b6}{p:Pos}(hg:Gl X "reversed")(hm:X.mg "reversed"=none)(ha:eK X W3 [a] ta)(hs:starEach [a] X.env=[(false,eval a X.env)]:=by rfl):gF X W3 tg (.Call (.Name "reversed" p) [a] [] pos) (F7 ta) :=
 λZ=>PI.imp (RZ hg hm (ha Z) hs) λτ H R So=>by
 obtain⟨σ,S,R3,hs,hr,ht,hc⟩:=So;refine⟨σ,S,_,hs,hr,ht,λxs S1 zg H1 k1 r1 l1 q1=>?_⟩;obtain⟨ds,rfl,q⟩:=q1;cases r1 with
 |cons r1 rr =>
  cases rr;cases r1 with
  |@tup a vs _ h1 h2 =>
   have hl:=h2.len;refine⟨a,vs,rfl,h1,hc _ _ S1 _ H1 k1 l1 q ⟨λi d S2 H2 k2 l2 al hd=>?_,λS2 H2 k2 l2 al=>?_⟩⟩
   ·have hi:i<ds.length:=show _ by
     have:=(b4.mp hd).1;simpa using this
    rw[Nl hi]at hd;obtain⟨v,hv,rv⟩:=h2.at hd;have h3:=k2.gZ h1;rw[hl]at hv;refine⟨⟨by lia,vs,h3,rfl⟩,λv' H' y=>?_⟩;obtain⟨rfl,y⟩:=y;have:=y vs h3;rw[hv]at this;cases this;exact⟨Kp.refl _ _,rv.mono k2,λ_ z=>z,λ_ _=>rfl⟩
   ·show vs.length<=ds.reverse.length;rw[jG,hl];exact aT _
def nums(lo:Int)(n:Nat):List D:=(aZ n).map λi:Nat=>.int (lo+(i:Int))
theorem gG{lo:Int}{n i:Nat}{d:D}(h:(nums lo n)[i]?=some d):i<n/\d=.int (lo+(i:Int)):=by
 unfold nums at h;rw[a7]at h;cases e:(aZ n)[i]? with
 |none=>rw[e]at h;cases h
 |some c =>
  rw[e]at h;cases h;obtain⟨h1,h2⟩:=b4.mp e;rw[List.getElem_range]at h2;subst h2;exact⟨by simpa using h1,rfl⟩
theorem dW{lo:Int}{n:Nat}:(nums lo n).length=n:=by simp[nums]
def F9(ta:b6):fv:=λσ S R=>ta σ S λvs S1=>∃j:Int,vs=[.int j]/\-(2^62)<=j/\j<2^62/\R (nums 0 j.toNat) (λ_=>True) S1
theorem Sq{K:aq}{Z:Zt}{lo:Int}{n:Nat}{H:Hp}:Wk K Z (uM lo n) (nums lo n) (λ_=>True) H:=show _ by
 refine⟨λi d S2 H2 k2 l2 al hd=>?_,λS2 H2 k2 l2 al=>?_⟩
 ·obtain⟨hi,rfl⟩:=gG hd;refine⟨hi,λv' H' y=>?_⟩;obtain⟨rfl,rfl⟩:=y;exact⟨Kp.refl _ _,.int _,λ_ z=>z,λ_ _=>rfl⟩
 ·show n<=(nums lo n).length;rw[dW];exact aT _
theorem gH{a:Expr}{ta:b6}{p:Pos}(hg:Gl X "range")(hm:X.mg "range"=none)(ha:eK X W3 [a] ta)(hs:starEach [a] X.env=[(false,eval a X.env)]:=by rfl):gF X W3 tg (.Call (.Name "range" p) [a] [] pos) (F9 ta) :=
 λZ=>PI.imp (PL hg hm (ha Z) hs) λτ H R Sr=>by
 obtain⟨σ,S,R3,hs,hr,ht,hc⟩:=Sr;refine⟨σ,S,_,hs,hr,ht,λxs S1 zg H1 k1 r1 l1 q1=>?_⟩;obtain⟨j,rfl,h1,h2,q⟩:=q1;cases r1 with
 |cons r1 rr =>
  cases rr;cases r1;exact⟨j,rfl,h1,h2,hc _ _ S1 _ H1 k1 l1 q Sq⟩
def F_(wi:fv)(g:eQ)(tb:b7):b7:=λD σ S=>wi σ S λds Al S1=>∃W:Nat->aJ->af->Prop,W 0 σ S1/\(∀i σ S,W i σ S->Al S) /\
 (∀i d σ S,ds[i]?=some d->W i σ S->g d σ S λjQ S2=>tb {D with nx:=W (i+1),ct:=W (i+1),bk:=D.nx} jQ S2)/\∀σ S,W ds.length σ S->D.nx σ S
theorem e_{iter:Expr}{body:List Stmt}{wi:fv}{g:eQ}{tb:b7}(hp:PassesOwn (model X.prog X.w) X.A X.env X.xe)(hc:X.calm=true)(hi:gF X W3 tg iter wi)(hg:g9 X W3 tg g)(hb:dc X W3 body tb)
 (hs:∀x,foldedSetIterable iter X.env x=pure x:=by intro _;rfl):eM X W3 (.For tg iter body [] pos) (F_ wi g tb):=λZ=>PS.imp (PQ hp hc (hi Z) (hg Z) (hb Z) hs) λD τ H Ss=>by
 obtain⟨D3,σ,S,hs,hr,ht,hc⟩:=Ss;refine⟨σ,S,_,hs,hr,ht,λds Al S1 J H1 k1 l1 q1 wk=>?_⟩;obtain⟨W,w0,al,turn,done⟩:=q1;refine⟨λi m bx H'=>m=ds.length-i/\i<=ds.length/\∃σ' S',Kp Z.z H1 H'/\SR X.K H' σ' bx/\Rl X.K Z.z S' H'/\W i σ' S',⟨ds.length,by simp,bV _,σ,S1,Kp.refl _ _,hs.mono k1,l1,w0⟩,?_⟩;rintro i m Su H2 ⟨rfl,hi,jQ,S2,k2,s2,l2,w2⟩;by_cases hlt:i<ds.length
 ·have hd:ds[i]?=some ds[i]:=aU hlt;obtain⟨go,yl⟩:=wk.go i _ S2 H2 k2 l2 (al _ _ _ w2) hd;refine .inr ⟨go,λbx H'=>i<ds.length/\∃σ' S',Kp Z.z H1 H'/\SR X.K H' σ' bx/\Rl X.K Z.z S' H'/\W (i+1) σ' S',λbx H' z=>⟨ds.length-(i+1),by lia,rfl,z.1,z.2⟩,λv H3 y=>?_⟩;obtain⟨k3,rv,l3,_⟩:=yl v H3 y;refine⟨_,jQ,S2,_,rv,s2.mono k3,l3 _ l2,turn i _ jQ S2 hd w2,λGa S4 zh H4 k4 s4 l4 q4=>?_⟩;have k14:=k2.trans (k3.trans k4);refine⟨_,Ga,S4,s4,l4,q4,⟨?_,?_,?_,?_⟩⟩
  ·exact λσ' S' bx H' k r l w=>⟨hlt,σ',S',k14.trans k,r,l,w⟩
  ·exact hc.nx.mono (k1.trans k14)
  ·exact λσ' S' bx H' k r l w=>⟨hlt,σ',S',k14.trans k,r,l,w⟩
  ·exact hc.rt.mono (k1.trans k14)
 ·have e:i=ds.length:=show _ by lia
  subst e;exact .inl ⟨wk.stop S2 H2 k2 l2 (al _ _ _ w2),hc.nx jQ S2 Su H2 (k1.trans k2) s2 l2 (done jQ S2 w2)⟩
def dD(σ:aJ)(js:List Nat):aJ:=js.map λj=>(σ[j]?).getD none
theorem SR.picks{K:aq}{H:Hp}{σ:aJ}{τ:L2.St}(h:SR K H σ τ)(js:List Nat):SR K H (dD σ js) (pick τ js):=show _ by
 unfold dD pick
 induction js with
 |nil=>exact .nil
 |cons j js ih =>
  refine .cons (λd e=>?_) ih;dsimp only at e ⊢;cases q:σ[j]? with
  |none=>rw[q]at e;cases e
  |some o =>
   rw[q]at e;have e:o=some d:=e;subst e;obtain⟨v,h1,h2⟩:=h.at q;exact⟨v,by rw[h1];rfl,h2⟩
def zi(K:aq)(te:aN):TE:=λτ H Q=>∃Z:Zt,lE K Z te τ H Q
theorem aK.ex{X:Cx}{e:Expr}{te:aN}(h:aK X dA e te):PE X e (zi X.K te):=λpins s σ H Q I Sv=>by obtain⟨Z,q⟩:=Sv;exact h (ZX.no X Z) pins s σ H Q I q
abbrev Zt.hide(Z:Zt)(H:Hp)(p:Addr):Zt:=⟨λa=>Z a∨a=p,H⟩
theorem Rl.hide{K:aq}{Z:Zt}{S:af}{H:Hp}{p:Addr}(l:Rl K Z S H)(hs:S p=none)(hh:H p≠none):Rl K (Z.hide H p) S H :=
 ⟨l.obj,λa z=>z.elim (l.hid a) λe=>e▸⟨hs,hh⟩,Kp.refl _ _⟩
theorem Rl.eR{K:aq}{Z Z':Zt}{S:af}{H:Hp}(l:Rl K Z' S H)(h:∀a,Z a->Z' a)(o:Kp Z Z.base H):Rl K Z S H:=⟨l.obj,λa z=>l.hid a (h a z),o⟩
theorem Kp.eR{Z Z':Zt}{H H':Hp}(k:Kp Z' H H')(h:∀a,Z a->Z' a):Kp Z H H':=⟨k.tup,k.eE,λa z=>k.hid a (h a z)⟩
variable{elt iter:Expr}{x:Str}{px:Pos}{scope cA:Scope}{M N:List Str}{js:List Nat}{wi:fv}{te:aN}
end
section
variable{K:PySem.W.Frag}
def i3(g:Int->Int->D):R3:=λx y S Q=>∃i j,x=.int i/\y=.int j/\Q (g i j) S
def sH(C:Int->Int->Prop)(g:Int->Int->D):R3:=λx y S Q=>∃i j,x=.int i/\y=.int j/\C i j/\Q (g i j) S
theorem jh{g:Int->Int->Int}:cS K (i3 λi j=>.int (g i j)) (jR λi j=>.int (g i j)):=by
 intro Z x y S Q3 v w H Q rx ry l h c;obtain⟨i,j,rfl,rfl,q⟩:=h;cases rx;cases ry;exact⟨i,j,rfl,rfl,c _ S _ H (Kp.refl _ _) (.int _) l q⟩
theorem iG{g:Int->Int->Bool}:cS K (i3 λi j=>.bl (g i j)) (jR λi j=>.bl (g i j)):=by
 intro Z x y S Q3 v w H Q rx ry l h c;obtain⟨i,j,rfl,rfl,q⟩:=h;cases rx;cases ry;exact⟨i,j,rfl,rfl,c _ S _ H (Kp.refl _ _) (.bl _) l q⟩
theorem aY{C:Int->Int->Prop}{g:Int->Int->Int}:cS K (sH C λi j=>.int (g i j)) (rI C λi j=>.int (g i j)):=by
 intro Z x y S Q3 v w H Q rx ry l h c;obtain⟨i,j,rfl,rfl,h,q⟩:=h;cases rx;cases ry;exact⟨i,j,rfl,rfl,h,c _ S _ H (Kp.refl _ _) (.int _) l q⟩
def Gb:R3:=λx y S Q=>∃i j,x=.str i/\y=.str j/\i.length+j.length<=sizeLine/\Q (.str (i++j)) S
theorem sI:cS K Gb (λx y H Q=>∃i j,x=.str i/\y=.str j/\i.length+j.length<=sizeLine/\Q (.str (i++j)) H):=by
 intro Z x y S Q3 v w H Q rx ry l h c;obtain⟨i,j,rfl,rfl,h,q⟩:=h;cases rx;cases ry;exact⟨i,j,rfl,rfl,h,c _ S _ H (Kp.refl _ _) (.str _) l q⟩
def kO:D->Bool
 | .non=>true
 |_=>false
theorem Gc{H:Hp}{x:D}{v:V}(r:Rp K H x v):kO x=decide (v=.non):=by
 cases r<;>rfl
def Ge:R3:=λx y S Q=>y=.non/\Q (.bl (kO x)) S
def Gf:R3:=λx y S Q=>y=.non/\Q (.bl (!kO x)) S
theorem sJ:cS K Ge (λx y H Q=>y=.non/\Q (.bl (decide (x=.non))) H):=by
 intro Z x y S Q3 v w H Q rx ry l h c;obtain⟨rfl,q⟩:=h;cases ry;rw[<-Gc rx];exact⟨rfl,c _ S _ H (Kp.refl _ _) (.bl _) l q⟩
theorem Gg:cS K Gf (λx y H Q=>y=.non/\Q (.bl (!decide (x=.non))) H):=by
 intro Z x y S Q3 v w H Q rx ry l h c;obtain⟨rfl,q⟩:=h;cases ry;rw[<-Gc rx];exact⟨rfl,c _ S _ H (Kp.refl _ _) (.bl _) l q⟩
def Gh:R3:=i3 λi j=>.bl (decide (i=j))
def Gi:R3:=i3 λi j=>.bl (!decide (i=j))
def zj:R3:=λx y S Q=>∃i j,x=.str i/\y=.str j/\Q (.bl (decide (i=j))) S
def Gj:R3:=λx y S Q=>∃i j,x=.str i/\y=.str j/\Q (.bl (!decide (i=j))) S
theorem Gk{i j:Int}:decide (V.int i=V.int j)=decide (i=j):=by rw[yu];rfl
theorem Gm{i j:Str}:decide (V.str i=V.str j)=decide (i=j):=by
 by_cases h:i=j
 ·subst h;simp
 ·have:V.str i≠V.str j:=λe=>h (V.str.inj e);simp[h]
theorem fA:cS K Gh yt:=by
 intro Z x y S Q3 v w H Q rx ry l h c;obtain⟨i,j,rfl,rfl,q⟩:=h;cases rx;cases ry;refine⟨rfl,?_⟩;rw[Gk];exact c _ S _ H (Kp.refl _ _) (.bl _) l q
theorem Sw:cS K Gi uS:=by
 intro Z x y S Q3 v w H Q rx ry l h c;obtain⟨i,j,rfl,rfl,q⟩:=h;cases rx;cases ry;refine⟨rfl,?_⟩;rw[Gk];exact c _ S _ H (Kp.refl _ _) (.bl _) l q
theorem gg:cS K zj yt:=by
 intro Z x y S Q3 v w H Q rx ry l h c;obtain⟨i,j,rfl,rfl,q⟩:=h;cases rx;cases ry;refine⟨rfl,?_⟩;rw[Gm];exact c _ S _ H (Kp.refl _ _) (.bl _) l q
theorem zk:cS K Gj uS:=by
 intro Z x y S Q3 v w H Q rx ry l h c;obtain⟨i,j,rfl,rfl,q⟩:=h;cases rx;cases ry;refine⟨rfl,?_⟩;rw[Gm];exact c _ S _ H (Kp.refl _ _) (.bl _) l q
mutual
inductive Dn(S:af):D->Dt->Prop where
 |non:Dn S .non .non
 |bl (b:Bool):Dn S (.bl b) (.bl b)
 |int (i:Int):Dn S (.int i) (.int i)
 |str (x:Str):Dn S (.str x) (.str x)
 |tup {ds:List D} {es:List Dt}:eS S ds es->Dn S (.tup ds) (.tup es)
 |bH {ds:List D} {es:List Dt}:eS S ds es->Dn S (.bH ds) (.lst es)
 |ref {a:Addr} {ds:List D} {es:List Dt}:S a=some (.lst ds)->eS S ds es->Dn S (.ref a) (.lst es)
inductive eS(S:af):List D->List Dt->Prop where
 |nil:eS S [] []
 |cons {d:D} {e:Dt} {ds:List D} {es:List Dt}:Dn S d e->eS S ds es->eS S (d::ds) (e::es)
end
mutual
theorem Dn.down{Z:Zt}{S:af}{H:Hp}(l:Rl K Z S H):∀{d:D} {e:Dt} {v:V},Dn S d e->Rp K H d v->DR K H e v
 |_,_,_,.non,r=>by cases r;exact .non
 |_,_,_,.bl _,r=>by cases r;exact .bl _
 |_,_,_,.int _,r=>by cases r;exact .int _
 |_,_,_,.str _,r=>by cases r;exact .str _
 |_,_,_,.tup h,r=>by cases r with|tup p q=>exact .tup p (eS.down l h q)
 |_,_,_,.bH h,r=>by cases r with|bH p q=>exact .lst p.sq (eS.down l h q)
 |_,_,_,.ref e h,r=>by
  cases r;obtain⟨vs,h1,h2⟩:=l.obj _ _ e;exact .lst (bu.of h1) (eS.down l h h2)
theorem eS.down{Z:Zt}{S:af}{H:Hp}(l:Rl K Z S H):∀{ds:List D} {es:List Dt} {vs:List V},eS S ds es->aX K H ds vs->dS K H es vs
 |_,_,_,.nil,r=>by cases r;exact .nil
 |_,_,_,.cons h t,r=>by cases r with|cons p q=>exact .cons (Dn.down l h p) (eS.down l t q)
end
mutual
def D.dt:D->Dt
 | .non=>.non
 | .bl b=>.bl b
 | .int i=>.int i
 | .str x=>.str x
 | .tup ds=>.tup (D.dX ds)
 | .bH ds=>.lst (D.dX ds)
 | .ref _=>.non
 | .ty _=>.non
def D.dX:List D->List Dt
 |[]=>[]
 |d::ds=>d.dt::D.dX ds
end
mutual
def D.pure:D->Bool
 | .tup ds=>D.gI ds
 | .bH ds=>D.gI ds
 | .ref _=>false
 | .ty _=>false
 |_=>true
def D.gI:List D->Bool
 |[]=>true
 |d::ds=>d.pure&&D.gI ds
end
mutual
theorem Dn.of{S:af}:∀{d:D},d.pure=true->Dn S d d.dt
 | .non,_=>.non
 | .bl _,_=>.bl _
 | .int _,_=>.int _
 | .str _,_=>.str _
 | .tup ds,h=>by simp only[D.pure]at h;simp only[D.dt];exact .tup (eS.of h)
 | .bH ds,h=>by simp only[D.pure]at h;simp only[D.dt];exact .bH (eS.of h)
 | .ref _,h=>by simp[D.pure]at h
 | .ty _,h=>by simp[D.pure]at h
theorem eS.of{S:af}:∀{ds:List D},D.gI ds=true->eS S ds (D.dX ds)
 |[],_=>.nil
 |d::ds,h=>by
  simp only[D.gI,gq]at h;simp only[D.dX];exact .cons (Dn.of h.1) (eS.of h.2)
end
theorem D.pC:∀{ds:List D},D.gI ds=true↔∀d∈ds,d.pure=true
 |[]=>by simp[D.gI]
 |d::ds=>by simp[D.gI,D.pC (ds:=ds)]
theorem D.mv:∀ds:List D,D.dX ds=ds.map D.dt
 |[]=>rfl
 |d::ds=>by simp only[D.dX,bL,D.mv ds]
def zl(n:Nat):R3:=λx y S Q=>∃d e,Dn S x d/\Dn S y e/\dF d<=n/\Q (.bl (bf d e)) S
theorem Sx{n:Nat}:cS K (zl n) (λx y H Q=>∃d e,DR K H d x/\DR K H e y/\dF d<=n/\Q (.bl (bf d e)) H):=by
 intro Z x y S Q3 v w H Q rx ry l h c;obtain⟨d,e,h1,h2,hn,q⟩:=h;exact⟨d,e,h1.down l rx,h2.down l ry,hn,c _ S _ H (Kp.refl _ _) (.bl _) l q⟩
def jW:D->Bool
 | .non=>true
 | .bl _=>true
 | .int _=>true
 | .str _=>true
 |_=>false
def vD:D->V
 | .non=>.non
 | .bl b=>.bl b
 | .int i=>.int i
 | .str x=>.str x
 |_=>.non
theorem zm{H:Hp}{x:D}{v:V}(r:Rp K H x v)(h:jW x=true):v=vD x/\jS v=true:=by
 cases r<;>first|exact⟨rfl,rfl⟩|(simp[jW]at h)
theorem vm{H:Hp}:∀{ds:List D} {vs:List V},aX K H ds vs->ds.all jW=true->vs=ds.map vD/\vs.all jS=true
 |_,_,.nil,_=>⟨rfl,rfl⟩
 |_,_,.cons r t,h=>by
  simp only[oN,gq]at h;obtain⟨e1,f1⟩:=zm r h.1;obtain⟨e2,f2⟩:=vm t h.2;subst e1;subst e2;exact⟨rfl,by simp only[oN,f1,f2,iW]⟩
def memD(x:D)(ds:List D):Bool:=inV (vD x) (ds.map vD)
def zo(neg:Bool):R3:=λx y S Q=>∃ds,(IsL S y ds∨y=.tup ds)/\jW x=true/\ds.all jW=true/\Q (.bl (if neg then !memD x ds else memD x ds)) S
theorem vn{neg:Bool}:cS K (zo neg) (uW K neg):=show _ by
 intro Z x y S Q3 v w H Q rx ry l h c;obtain⟨ds,hy,fx,fd,q⟩:=h;obtain⟨e1,f1⟩:=zm rx fx;subst e1;rcases hy with hy|rfl
 ·obtain⟨a,vs,rfl,h1,h2⟩:=hy.down ry l;obtain⟨e2,f2⟩:=vm h2 fd;subst e2;exact⟨a,_,rfl,.inl h1,f1,f2,c _ S _ H (Kp.refl _ _) (.bl _) l q⟩
 ·cases ry with
  |tup h1 h2 =>
   obtain⟨e2,f2⟩:=vm h2 fd;subst e2;exact⟨_,_,rfl,.inr h1,f1,f2,c _ S _ H (Kp.refl _ _) (.bl _) l q⟩
theorem Gn(x:Str)(xs:List Str):memD (.str x) (xs.map D.str)=decide (x∈xs):=by
 unfold memD inV
 induction xs with
 |nil=>rfl
 |cons y ys ih =>
  simp only[bL,mY,bJ];rw[ih];by_cases h:y=x
  ·subst h;simp[jc,vD]
  ·have h':¬x=y:=λz=>h z.symm;simp[jc,vD,h,h']
theorem Gp(xs:List Str):(xs.map D.str).all jW=true:=by
 induction xs with
 |nil=>rfl
 |cons y ys ih=>simp only[bL,oN,ih];rfl
def vo:R3:=λx y S Q=>∃ds i d,IsL S x ds/\y=.int i/\b5 ds i=some d/\Q d S
def nG:R3:=λx y S Q=>∃ds i d,x=.tup ds/\y=.int i/\b5 ds i=some d/\Q d S
def Gq:R3:=λx y S Q=>∃z i c,x=.str z/\y=.int i/\z.length<=sizeLine/\b5 z.cps.toList i=some c/\Q (.str ⟨#[c]⟩) S
theorem aX.b5{H:Hp}{ds:List D}{vs:List V}{i:Int}{d:D}(r:aX K H ds vs)(h:L2.b5 ds i=some d):∃v,L2.b5 vs i=some v/\Rp K H d v:=by
 unfold L2.b5 at h ⊢;rw[r.len]at h;cases e:gB vs.length i with
 |none=>rw[e]at h;cases h
 |some j =>
  rw[e]at h;exact r.at h
theorem eA:cS K vo (EO K):=by
 intro Z x y S Q3 v w H Q rx ry l h c;obtain⟨ds,i,d,h1,rfl,h2,q⟩:=h;cases ry;obtain⟨a,vs,rfl,h3,h4⟩:=h1.down rx l;obtain⟨u,h5,h6⟩:=h4.b5 h2;exact⟨a,vs,i,u,rfl,rfl,h3,h5,c d S u H (Kp.refl _ _) h6 l q⟩
theorem aP:cS K nG (ER K):=by
 intro Z x y S Q3 v w H Q rx ry l h c;obtain⟨ds,i,d,rfl,rfl,h2,q⟩:=h;cases ry;cases rx with
 |tup h3 h4 =>
  obtain⟨u,h5,h6⟩:=h4.b5 h2;exact⟨_,_,i,u,rfl,rfl,h3,h5,c d S u H (Kp.refl _ _) h6 l q⟩
theorem Gu:cS K Gq ET:=by
 intro Z x y S Q3 v w H Q rx ry l h c;obtain⟨z,i,k,rfl,rfl,hz,h2,q⟩:=h;cases ry;cases rx;exact⟨z,i,k,rfl,rfl,hz,h2,c _ S _ H (Kp.refl _ _) (.str _) l q⟩
def cutD(xs:List D)(lo hi:Option Int):List D:=(xs.drop (HT.aM xs.length 0 lo)).take (HT.aM xs.length xs.length hi-HT.aM xs.length 0 lo)
theorem aX.cut{H:Hp}{ds:List D}{vs:List V}(r:aX K H ds vs)(lo hi:Option Int):aX K H (cutD ds lo hi) (kI vs lo hi):=by
 unfold cutD kI;rw[r.len];exact(r.drop _).take _
def Gv:D->Option Int->Option Int->af->K3->Prop:=λx lo hi S Q=>∃ds,IsL S x ds/\dG S (cutD ds lo hi) Q
def Gw:D->Option Int->Option Int->af->K3->Prop:=λx lo hi S Q=>∃ds,x=.tup ds/\Q (.tup (cutD ds lo hi)) S
def Gy:D->Option Int->Option Int->af->K3->Prop:=λx lo hi S Q=>∃z,x=.str z/\z.length<=sizeLine/\Q (.str (textOf (kK z.cps.toList lo hi))) S
theorem ji:vh K Gv (EV K):=by
 intro Z x lo hi S Q3 v H Q rx l h c;obtain⟨ds,h1,q⟩:=h;obtain⟨a,vs,rfl,h3,h4⟩:=h1.down rx l;exact⟨a,vs,rfl,h3,dG.down q (h4.cut lo hi) l c⟩
theorem pD:vh K Gy Fj:=by
 intro Z x lo hi S Q3 v H Q rx l h c;obtain⟨z,rfl,hz,q⟩:=h;cases rx;exact⟨z,rfl,hz,c _ S _ H (Kp.refl _ _) (.str _) l q⟩
def zp:R3:=λx y S Q=>∃a b ds es,x=.ref a/\y=.ref b/\S a=some (.lst ds)/\S b=some (.lst es)/\ds.length+es.length<=sizeLine/\dG S (ds++es) Q
theorem vq:cS K zp E1:=by
 intro Z x y S Q3 v w H Q rx ry l h c;obtain⟨a,b,ds,es,rfl,rfl,h1,h2,hz,q⟩:=h;cases rx;cases ry;obtain⟨vs,h3,h4⟩:=l.obj a _ h1;obtain⟨ws,h5,h6⟩:=l.obj b _ h2;exact⟨a,b,vs,ws,rfl,rfl,h3,h5,by rw[<-h4.len,<-h6.len];exact hz,dG.down q (h4.append h6) l c⟩
def Gz:R3:=λx y S Q=>∃ds es,x=.tup ds/\y=.tup es/\ds≠[]/\ds.length+es.length<=sizeLine/\Q (.tup (ds++es)) S
def sL:List D->af->K3->Prop:=λxs S Q=>∃x ds,xs=[x]/\(IsL S x ds∨x=.tup ds)/\Q (.int ds.length) S
theorem eU:jT K sL (λxs H Q=>∃p ys,xs=[.ref p]/\(bu K H p ys∨bq K H p ys)/\Q (.int ys.length) H):=show _ by
 intro Z ds S Q3 vs H Q r l h c;obtain⟨x,es,rfl,hx,q⟩:=h;cases r with
 |cons r rr =>
  cases rr;rcases hx with hx|rfl
  ·obtain⟨a,ws,rfl,h3,h4⟩:=hx.down r l;refine⟨a,ws,rfl,.inl h3,?_⟩;rw[<-h4.len];exact c _ S _ H (Kp.refl _ _) (.int _) l q
  ·cases r with
   |tup h3 h4 =>
    refine⟨_,_,rfl,.inr h3,?_⟩;rw[<-h4.len];exact c _ S _ H (Kp.refl _ _) (.int _) l q
def GA:List D->af->K3->Prop:=λxs S Q=>∃z,xs=[.str z]/\z.length<=sizeLine/\Q (.int z.length) S
theorem SA:jT K GA (λxs H Q=>∃z,xs=[.str z]/\z.length<=sizeLine/\Q (.int z.length) H):=by
 intro Z ds S Q3 vs H Q r l h c;obtain⟨z,rfl,hz,q⟩:=h;cases r with
 |cons r rr =>
  cases rr;cases r;exact⟨z,rfl,hz,c _ S _ H (Kp.refl _ _) (.int _) l q⟩
def GB:List D->af->K3->Prop:=λxs S Q=>∃x ds,xs=[x]/\(IsL S x ds∨x=.tup ds)/\Q (.tup ds) S
theorem jj:jT K GB (λxs H Q=>∃p ys,xs=[.ref p]/\((bu K H p ys/\∀l,H l=none->Q (.ref l) (upd H l (.tup ys)))∨(bq K H p ys/\Q (.ref p) H))):=show _ by
 intro Z ds S Q3 vs H Q r l h c;obtain⟨x,es,rfl,hx,q⟩:=h;cases r with
 |cons r rr =>
  cases rr;rcases hx with hx|rfl
  ·obtain⟨a,ws,rfl,h3,h4⟩:=hx.down r l;exact⟨a,ws,rfl,.inl ⟨h3,tup.down q h4 l c⟩⟩
  ·cases r with
   |tup h3 h4=>exact⟨_,_,rfl,.inr ⟨h3,c _ S _ H (Kp.refl _ _) (.tup h3 h4) l q⟩⟩
def GC:D->List D->af->K3->Prop:=λx ys S Q=>∃a ds y,x=.ref a/\ys=[y]/\S a=some (.lst ds)/\ds.length<sizeLine/\Q .non (up S a (.lst (ds++[y])))
theorem de:nD K GC EZ:=show _ by
 intro Z x ds S Q3 v vs H Q rx r l h c;obtain⟨a,es,y,rfl,rfl,e,hz,q⟩:=h;cases rx;cases r with
 |@cons _ w _ _ r rr =>
  cases rr;obtain⟨ws,h1,h2⟩:=l.obj a _ e;have kk:Kp Z H (upd H a (.lst (ws++[w]))):=Kp.at l e;exact⟨a,ws,w,rfl,rfl,h1,by rw[<-h2.len];exact hz,c _ _ _ _ kk .non (l.put (o:=.lst (es++[y])) kk (l.pk e) ⟨_,d8,(h2.mono kk).append (.cons (r.mono kk) .nil)⟩) q⟩
def GD:D->List D->af->K3->Prop:=λx ys S Q=>∃a ds y,x=.ref a/\ys=[]/\S a=some (.lst (ds++[y]))/\Q y (up S a (.lst ds))
theorem g_:nD K GD E_:=show _ by
 intro Z x ds S Q3 v vs H Q rx r l h c;obtain⟨a,es,y,rfl,rfl,e,q⟩:=h;cases rx;cases r;obtain⟨ws,h1,h2⟩:=l.obj a _ e;obtain⟨us,u,rfl,h3,h4⟩:=h2.snoc_inv;have kk:Kp Z H (upd H a (.lst us)):=Kp.at l e;exact⟨a,us,u,rfl,rfl,h1,c _ _ _ _ kk (h4.mono kk) (l.put (o:=.lst es) kk (l.pk e) ⟨_,d8,h3.mono kk⟩) q⟩
def GF:D->List D->af->K3->Prop:=λx ys S Q=>∃a ds es,x=.ref a/\ys=[.tup es]/\S a=some (.lst ds)/\ds.length+es.length<=sizeLine/\Q .non (up S a (.lst (ds++es)))
theorem SD:nD K GF (Fb K):=show _ by
 intro Z x ds S Q3 v vs H Q rx r l h c;obtain⟨a,es,fs,rfl,rfl,e,hz,q⟩:=h;cases rx;cases r with
 |cons r rr =>
  cases rr;cases r with
  |@tup b us _ h3 h4 =>
   obtain⟨ws,h1,h2⟩:=l.obj a _ e;have kk:Kp Z H (upd H a (.lst (ws++us))):=Kp.at l e;exact⟨a,b,ws,us,rfl,rfl,h1,h3,by rw[<-h2.len,<-h4.len];exact hz,c _ _ _ _ kk .non (l.put (o:=.lst (es++fs)) kk (l.pk e) ⟨_,d8,(h2.mono kk).append (h4.mono kk)⟩) q⟩
end
end E3
namespace E3
open PySem PySem.Spec PyProof.Rows L2 EE
section
variable{prog:Program}{w:World}{A:Around}{E:Value->Shared->Prop}{s:Shared}
theorem SE{t sl:Addr}{items:Array Value}{vl vu:Value}{lo hi:Option Int}{Q:Value->Shared->Prop}(ht:IsTup s.heap t items)(hs:s.heap.IsSliceOf sl vl vu .none)(pl:IsPart vl lo)(pu:IsPart vu hi)
 (hw:HT.aM items.size 0 lo=0/\HT.aM items.size items.size hi=items.size) (h:Q (.ref t) s):wpAny (model prog w) A (getItem (.ref t) (.ref sl)) Q E s:=show _ by
 obtain⟨os,hos,hcs,hds⟩:=id hs;have hTs:s.TypeIs (.ref sl) "slice":=⟨os,hos,hcs⟩;obtain⟨o,ho,hc,hd⟩:=id ht;unfold getItem
 try with_reducible refine mV ?_
 first|refine ai (aB ?_)|skip
 refine ai (MZ ht.typeIs (by decide) ?_);refine ai (kj (name:=jE "__getitem__") ht.typeIs lU
  (ij lU ht.typeIs M0 ?_ (M1 _ _)))
 show wpAny _ _ (Cv (.ref t) >>= _) _ _ s;refine ai (tupleItemsOf_ ht ?_);refine ai (oQ hTs ?_);rw[if_pos (by decide)];refine ai (HT.EJ hs pl pu ?_);have SF:(((HT.aM items.size 0 lo:Nat):Int)==0&&(1:Int)==1&&(HT.aM items.size items.size hi-HT.aM items.size 0 lo)==items.size)=true:=by
  rw[hw.1,hw.2];simp
 show wpAny _ _ (if(((HT.aM items.size 0 lo:Nat):Int)==0&&(1:Int)==1&&(HT.aM items.size items.size hi-HT.aM items.size 0 lo)==items.size)=true then _ else _) _ _ s;rw[if_pos SF];refine ai (m:=Nn (Value.ref t)) ?_;unfold Nn
 first
  |refine ai (oQ ht.typeIs (aB ?_))
  |exact ai (oQ ht.typeIs (aB ?_))
 rw[if_pos (by decide)];exact ai (ke (aB ⟨_,rfl,aB h⟩))
end
section
variable{X:Cx}
def GG(K:aq):V->Option Int->Option Int->Hp->VK->Prop:=λx lo hi H Q=>∃a xs,x=.ref a/\bq K H a xs /\
 ((HT.aM xs.length 0 lo=0/\HT.aM xs.length xs.length hi=xs.length)->Q (.ref a) H)/\(¬(HT.aM xs.length 0 lo=0/\HT.aM xs.length xs.length hi=xs.length)->∀p,H p=none->Q (.ref p) (upd H p (.tup (kI xs lo hi))))
theorem vv:o9 X (GG X.K):=show _ by
 intro pins s σ H x v vl vu lo hi sl Q I rx hs pl pu h;obtain⟨a,xs,rfl,hx,h1,h2⟩:=h;by_cases hw:HT.aM xs.length 0 lo=0/\HT.aM xs.length xs.length hi=xs.length
 ·cases rx;obtain⟨its,r,ht,hz⟩:=I.tuple hx;have hlen:its.toArray.size=xs.length:=by rw[cj];exact r.length.symm
  refine⟨"tuple",_,lU.lookup,ht.typeIs,?_⟩;refine SE ht hs pl pu (by rw[hlen];exact hw) ?_;exact⟨.ref a,H,I,rfl,h1 hw⟩
 ·exact QL pins s σ H _ v vl vu lo hi sl Q I rx hs pl pu ⟨a,xs,rfl,hx,hw,h2 hw⟩
theorem SG{xs:List D}{lo hi:Option Int}(h:HT.aM xs.length 0 lo=0/\HT.aM xs.length xs.length hi=xs.length):cutD xs lo hi=xs:=by
 unfold cutD;rw[h.1,h.2,xF,ud,oU]
theorem vw{K:aq}:vh K Gw (GG K):=by
 intro Z x lo hi S Q3 v H Q rx l h c;obtain⟨ds,rfl,q⟩:=h;cases rx with
 |@tup a vs _ h3 h4 =>
  refine⟨a,vs,rfl,h3,λe=>?_,λ_=>tup.down q (h4.cut lo hi) l c⟩;rw[<-h4.len]at e;rw[SG e]at q;exact c _ S _ H (Kp.refl _ _) (.tup h3 h4) l q
theorem GH{K:aq}:cS K Gz (EL K):=show _ by
 intro Z x y S Q3 v w H Q rx ry l h c;obtain⟨ds,es,rfl,rfl,hn,hz,q⟩:=h;cases rx with
 |@tup a vs _ h1 h2 =>
  cases ry with
  |@tup b ws _ h3 h4 =>
   refine⟨a,b,vs,ws,rfl,rfl,h1,h3,?_,by rw[<-h2.len,<-h4.len];exact hz,λe=>?_,λ_=>tup.down q (h2.append h4) l c⟩
   ·rintro rfl;cases h2;exact hn rfl
   ·subst e;cases h4;rw[gP]at q;exact c _ S _ H (Kp.refl _ _) (.tup h1 h2) l q
def m_(m n:String):Option Bool:=if m=n then some true else if m="bool"/\n="int" then some true else
 if m∈["NoneType","bool","int","str","tuple","list","dict"]/\n∈["bool","int","str","tuple","list","dict"] then some false else none
end
abbrev aL:=List D->af->K3->X3->Prop
inductive jk(K:aq)(sp:aL)(vs:List V)(H:Hp)(Q:VK)(E:XK):Prop where
 |mk (Z:Zt) (ds:List D) (S:af) (Q3:K3) (E3:X3) (h1:aX K H ds vs) (h2:Rl K Z S H) (h3:sp ds S Q3 E3) (h4:CK K Z H Q3 Q) (h5:Fw K Z H E3 E)
structure av(P:Program)(w:World)(K:aq)(mg:Str->Option Value)(base:Heap)(k:Nat)(x:Str)(ps:List Str)(sp:aL):Prop where
 ex:∃f fd,dn P w K mg base (cc P w) k f fd ps (jk K sp)/\Binds K fd ps []/\a_ K (.ref f)=true/\mg x=some (.ref f)
def dY(N:List Str)(ds:List D):aJ:=ds.map some++fK (N.length-ds.length) none
section
variable{P:Program}{w:World}{K:PySem.W.Frag}{mg:Str->Option Value}{base:Heap}
theorem av.mono{j k:Nat}{x:Str}{ps:List Str}{sp:aL}(C:av P w K mg base j x ps sp)(h:j<=k):av P w K mg base k x ps sp:=by
 obtain⟨f,fd,F,r⟩:=C.ex;exact⟨f,fd,F.mono h,r⟩
theorem av.imp{k:Nat}{x:Str}{ps:List Str}{sp gU:aL}(C:av P w K mg base k x ps sp)(h:∀ds S Q E,gU ds S Q E->sp ds S Q E):av P w K mg base k x ps gU:=show _ by
 obtain⟨f,fd,F,r⟩:=C.ex;refine⟨f,fd,F.imp λvs H Q E cR=>by obtain⟨Z,ds,S,Q3,E3,h1,h2,h3,h4,h5⟩:=cR;exact⟨Z,ds,S,Q3,E3,h1,h2,h _ _ _ _ h3,h4,h5⟩,r⟩
def mw(S A B:af):Prop:=∀a,(S a=A a/\B a=none)∨(A a=none/\S a=B a)
def Sub(A B:af):Prop:=∀a o,A a=some o->B a=some o
def fr(sp:aL):aL:=λds S Q E=>∃S0 F,mw S S0 F/\sp ds S0 (λd S1=>∃S2,Sub S2 S1/\∀S',mw S' S2 F->Q d S') (λC a S1=>∃S2,Sub S2 S1/\∀S',mw S' S2 F->E C a S')
theorem Rl.sub{Z:Zt}{S S':af}{H:Hp}(l:Rl K Z S H)(h:Sub S' S):Rl K Z S' H:=by
 refine⟨λa o e=>l.obj a o (h a o e),λa z=>⟨?_,(l.hid a z).2⟩,l.old⟩;cases e:S' a with
 |none=>rfl
 |some o =>
  have:=h a o e;rw[(l.hid a z).1]at this;cases this
def join(A B:af):af:=λa=>match A a with
 |some o=>some o
 |none=>B a
abbrev Zt.with(Z:Zt)(H:Hp)(F:af):Zt:=⟨λa=>Z a∨F a≠none,H⟩
theorem Rl.frame{Z:Zt}{S S0 F S1 S2:af}{H H':Hp}(l:Rl K Z S H)(hs:mw S S0 F)(k:Kp (Z.with H F) H H')(l1:Rl K (Z.with H F) S1 H')(h2:Sub S2 S1) :
 mw (join S2 F) S2 F/\Rl K Z (join S2 F) H':=show _ by
 have l2:=l1.sub h2;have SH:∀a,F a≠none->S2 a=none:=λa z=>(l2.hid a (.inr z)).1;refine⟨λa=>?_,λa o e=>?_,λa z=>?_,l.old.trans (k.eR λa z=>.inl z)⟩
 ·cases e:F a with
  |none =>
   refine .inl ⟨?_,rfl⟩;unfold join;cases e2:S2 a with
   |none=>exact e
   |some o=>rfl
  |some o =>
   have:=SH a (by rw[e];simp);refine .inr ⟨this,?_⟩;unfold join;rw[this];exact e
 ·unfold join at e;cases e2:S2 a with
  |some q =>
   rw[e2]at e;cases e;exact l2.obj a _ e2
  |none =>
   rw[e2]at e;have e:F a=some o:=e;have hne:F a≠none:=by rw[e];simp
   have hS:S a=some o:=by
    rcases hs a with⟨_,z⟩|⟨_,z⟩
    ·exact absurd z hne
    ·rw[z];exact e
   exact(l.obj a o hS).keep k (k.hid a (.inr hne))
 ·have z1:=l2.hid a (.inl z);have z2:=(l.hid a z).1;refine⟨?_,z1.2⟩;unfold join;rw[z1.1];show F a=none;rcases hs a with⟨_,q⟩|⟨_,q⟩
  ·exact q
  ·rw[<-q];exact z2
theorem av.frame{k:Nat}{x:Str}{ps:List Str}{sp:aL}(C:av P w K mg base k x ps sp):av P w K mg base k x ps (fr sp):=show _ by
 obtain⟨f,fd,F0,r⟩:=C.ex;refine⟨f,fd,F0.imp λvs H Q E ⟨Z,ds,S,Q3,E3,h1,l,⟨S0,F,hs,h3⟩,cq,ce⟩=>?_,r⟩;refine⟨Z.with H F,ds,S0,_,_,h1,⟨λa o e=>?_,λa z=>?_,Kp.refl _ _⟩,h3,?_,?_⟩
 ·refine l.obj a o ?_;rcases hs a with⟨q,_⟩|⟨q,_⟩
  ·rw[q];exact e
  ·rw[q]at e;cases e
 ·rcases z with z|z
  ·have z2:=l.hid a z;refine⟨?_,z2.2⟩;rcases hs a with⟨q,_⟩|⟨q,_⟩
   ·rw[<-q];exact z2.1
   ·exact q
  ·rcases hs a with⟨_,q⟩|⟨q,q2⟩
   ·exact absurd q z
   ·refine⟨q,?_⟩;cases e:F a with
    |none=>exact absurd e z
    |some o=>exact(l.obj a o (q2.trans e)).there
 ·rintro d S1 v H' k1 r1 l1 ⟨S2,hsub,q⟩;obtain⟨gU,l'⟩:=l.frame hs k1 l1 hsub;exact cq d _ v H' (k1.eR λa z=>.inl z) r1 l' (q _ gU)
 ·rintro C a S1 H' k1 l1 ha ⟨S2,hsub,q⟩;obtain⟨gU,l'⟩:=l.frame hs k1 l1 hsub;exact ce C a _ H' (k1.eR λa z=>.inl z) l' ha (q _ gU)
theorem vz(S:af):mw S emp S:=λ_=>.inr ⟨rfl,rfl⟩
theorem vA{S F:af}(h:mw S emp F):S=F:=by
 funext a;rcases h a with⟨q,z⟩|⟨_,q⟩
 ·rw[q,z];rfl
 ·exact q
theorem vB(S:af):Sub emp S:=λa o e=>(nomatch e)
def one(p:Addr)(o:O):af:=λa=>if a=p then some o else none
theorem SI{S F:af}{p:Addr}{o:O}(h:mw S (one p o) F):F p=none/\S=up F p o:=show _ by
 have hp:F p=none:=by
  rcases h p with⟨_,z⟩|⟨q,_⟩
  ·exact z
  ·simp[one]at q
 refine⟨hp,funext λa=>?_⟩;by_cases e:a=p
 ·subst e;rw[ax];rcases h a with⟨q,_⟩|⟨q,_⟩
  ·rw[q];simp[one]
  ·simp[one]at q
 ·rw[aW e];rcases h a with⟨q,z⟩|⟨_,q⟩
  ·rw[q,z];simp[one,e]
  ·exact q
theorem sub_one{S:af}{p:Addr}{o:O}(h:S p=some o):Sub (one p o) S:=λa u e=>by
 unfold one at e
 split at e
 ·subst a;cases e;exact h
 ·cases e
def vS(A:List D->(D->Prop)->Prop):aL:=λds S Q _=>A ds λd=>Q d S
def sM(A:List D->(List D->Prop)->Prop):aL:=λds S Q _=>A ds λys=>dG S ys Q
variable{x:Str}{st:Stmt}{N ps:List Str}{k:Nat}
abbrev Zt.at(Z:Zt)(H:Hp):Zt:=⟨Z.p,H⟩
theorem Rl.into{Z:Zt}{S:af}{H:Hp}(l:Rl K Z S H):Rl K (Z.at H) S H:=⟨l.obj,l.hid,Kp.refl _ _⟩
theorem Rl.out{Z:Zt}{S S':af}{H H':Hp}(l':Rl K (Z.at H) S' H')(l:Rl K Z S H)(k:Kp (Z.at H) H H'):Rl K Z S' H':=⟨l'.obj,l'.hid,l.old.trans (k.eR λ_ z=>z)⟩
def zq{X:Cx}(Z:Zt)(H:Hp):ZX X dA:=ZX.no X (Z.at H)
theorem _root_.EE.az.mx{sp:aL}(h:az K mg x st ps)(S:a8 N ps (ao st))(len:∀vs H Q E,sp vs H Q E->vs.length=ps.length)
 (hbody:∀(f:Addr) (cdv:Value) (A:Around) (outer:List Env) (s:Shared) (H:Hp) (E:XK) (ds:List D) (S:af) (Q:K3) (E3:X3),bP k (A.deeper (envOfC x (ao st) s.heap.objs.size f cdv))->sp ds S Q E3 ->
  ∃t Q',dc (cX (cc P w) P w K mg base N x (ao st) f cdv A outer s H E).gz dA (aV st) t/\t {nx:=λ_ S'=>Q' .non S',rt:=Q'} (dY N ds) S/\∀d S',Q' d S'->Q d S'):av P w K mg base (k+1) x ps sp:=show _ by
 obtain⟨f,fd,F,b,m⟩:=h.ex;obtain⟨oc,od,kV,doc,pm,an,cdv,ct,osl,rfl,lk,hcd⟩:=F.ex;refine⟨f,_,uT lk hcd S (λvs H Q E eY=>by obtain⟨Z,ds,S,Q3,E3,h1,_,h3,_,_⟩:=eY;rw[<-h1.len];exact len _ _ _ _ h3) λA outer s H vs Q E hr ⟨Z,ds,S3,Q3,E3,h1,h2,h3,h4,_⟩=>?_,b,F.kp,m⟩;obtain⟨t,Q',ht,q,hw⟩:=hbody f cdv A outer s H E ds S3 Q3 E3 hr h3;refine⟨_,(ht (zq Z H)).gz,_,dY N ds,S3,?_,h2.into,q,⟨?_,?_,?_,?_⟩⟩
 ·unfold dY L2.start;rw[h1.len];exact nA (SR.sk h1) (SR.nones _)
 ·intro σ S' τ H' kk _ l q';exact h4 .non S' .non H' (kk.eR λ_ z=>z) .non (l.out h2 kk) (hw _ _ q')
 ·exact λ_ _ _ _ _ _ _ z=>z
 ·exact λ_ _ _ _ _ _ _ z=>z
 ·exact λd S' v H' kk r l q'=>h4 d S' v H' (kk.eR λ_ z=>z) r (l.out h2 kk) (hw _ _ q')
theorem _root_.EE.az.val{A:List D->(D->Prop)->Prop}(h:az K mg x st ps)(S:a8 N ps (ao st))(len:∀ds q,A ds q->ds.length=ps.length)
 (hbody:∀(f:Addr) (cdv:Value) (Ar:Around) (outer:List Env) (s:Shared) (H:Hp) (E:XK) (ds:List D) (q:D->Prop),bP k (Ar.deeper (envOfC x (ao st) s.heap.objs.size f cdv))->A ds q ->
  ∃t,dc (cX (cc P w) P w K mg base N x (ao st) f cdv Ar outer s H E).gz dA (aV st) t/\t {nx:=λ_ _=>q .non,rt:=λd _=>q d} (dY N ds) emp):av P w K mg base (k+1) x ps (vS A):=show _ by
 have C:av P w K mg base (k+1) x ps (λds S Q E=>S=emp/\∃q,A ds q/\∀d S',q d->Q d S'):=by
  refine h.mx S (λvs H Q E nH=>by obtain⟨_,q,z,_⟩:=nH;exact len _ _ z) λf cdv Ar outer s H E ds S3 Q E3 hr z=>?_;obtain⟨rfl,q,z,hq⟩:=z;obtain⟨t,h1,h2⟩:=hbody f cdv Ar outer s H E ds _ hr z;exact⟨t,λd _=>q d,h1,h2,hq⟩
 exact C.frame.imp λds S Q E z=>⟨emp,S,vz S,rfl,_,z,λd S1 hq=>⟨emp,vB _,λS' h=>vA h▸hq⟩⟩
theorem _root_.EE.az.lst{A:List D->(List D->Prop)->Prop}(h:az K mg x st ps)(S:a8 N ps (ao st))(len:∀ds q,A ds q->ds.length=ps.length)
 (hbody:∀(f:Addr) (cdv:Value) (Ar:Around) (outer:List Env) (s:Shared) (H:Hp) (E:XK) (ds:List D) (q:List D->Prop),bP k (Ar.deeper (envOfC x (ao st) s.heap.objs.size f cdv))->A ds q ->
  ∃t,dc (cX (cc P w) P w K mg base N x (ao st) f cdv Ar outer s H E).gz dA (aV st) t/\t {nx:=λ_ _=>False,rt:=λd S'=>∃p ys,d=.ref p/\S' p=some (.lst ys)/\q ys} (dY N ds) emp):av P w K mg base (k+1) x ps (sM A):=show _ by
 have C:av P w K mg base (k+1) x ps (λds S Q E=>S=emp/\∃q,A ds q/\∀d S',(∃p ys,d=.ref p/\S' p=some (.lst ys)/\q ys)->Q d S'):=by
  refine h.mx S (λvs H Q E kE=>by obtain⟨_,q,z,_⟩:=kE;exact len _ _ z) λf cdv Ar outer s H E ds S3 Q E3 hr z=>?_;obtain⟨rfl,q,z,hq⟩:=z;obtain⟨t,h1,h2⟩:=hbody f cdv Ar outer s H E ds _ hr z;refine⟨t,λd S'=>∃p ys,d=.ref p/\S' p=some (.lst ys)/\q ys,h1,?_,hq⟩;have e:(λ(_:aJ) (_:af)=>False)=λ(_:aJ) (S':af)=>∃p ys,D.non=.ref p/\S' p=some (.lst ys)/\q ys:=by
   funext _ S';refine propext ⟨eX,λz=>?_⟩;obtain⟨p,ys,z,_⟩:=z;cases z
  rw[<-e];exact h2
 refine C.frame.imp λds S Q E z=>⟨emp,S,vz S,rfl,_,z,λd S1 ⟨p,ys,e,hp,hq⟩=>⟨one p (.lst ys),sub_one hp,λS' h=>?_⟩⟩;obtain⟨h1,rfl⟩:=SI h;subst e;exact hq p h1
section
variable{X:Cx}{CX:f7}{k:Nat}{f C:Addr}{fd:FuncData}{ps:List Str}{sp:Sp}{rR:List V}{ds:List Value}{E:L2.St->XK}{x:Str}{p pos:Pos}{e:Expr}{es:List Expr}{t:TA}
theorem SJ(F:dn X.prog X.w X.K X.mg X.base CX k f fd ps sp)(hr:bP k X.A)(hg:Gl X x)(hm:X.mg x=some (.ref f))(hk:a_ X.K (.ref f)=true)(hb:Binds X.K fd ps ds)(hd:Vals rR ds)(hx:∀τ,nB CX X (E τ) τ)
 (ha:PA X (e::es) t) (hdb:(x==("__debug__":Str))=false:=by decide) (he:starEach (e::es) X.env=(false,eval e X.env)::starEach es X.env:=by rfl) (hpl:(backTo pos (starEach es X.env)).any (·.1)=false:=by rfl) :
 PE X (.Call (.Name x p) (e::es) [] pos) (λτ H Q=>t τ H λvs H1=>sp (vs++rR) H1 Q (E τ)):=show _ by
 intro pins s σ H Q I h;refine xw (rG I hg hm ?_ hdb);refine Du (h₀:=X.base) I.ok.mod.m_ hk (aF (ha pos pins s σ H _ I h) λus s1 ⟨vs,H1,I1,r,q⟩=>⟨I1.fZ,?_⟩) he hpl;have r2:Vals (vs++rR) (us++ds):=r.append hd;have hl:(us++ds).length=ps.length:=by rw[<-r2.length];exact F.len _ _ _ _ q
 refine Dv (ua (F.run X.A X.stack s1 H1 ⟨us,[]⟩ (us++ds) (vs++rR) Q (E σ) hr I1.env0 (hb s1 us I1.fZ hl) r2 q) λr s' hq=>?_);cases r with
 |error e=>exact hx σ pins H1 s1 e s' I1 hq
 |ok fl =>
  cases fl with
  |ret u=>exact I1.after hq
  |next=>exact eX hq
  |brk=>exact eX hq
  |cont=>exact eX hq
end
def pE(sp:aL)(W3:bK)(t:b6):aN:=λσ S Q=>t σ S λds S1=>sp ds S1 Q (W3 σ)
variable{X:Cx}{W3:bK}{y:Str}{pos p:Pos}{e:Expr}{es:List Expr}{t:b6}{sp:aL}
theorem aQ(C:av X.prog X.w X.K X.mg X.base k y ps sp)(hr:bP k X.A)(hg:Gl X y)(ha:eK X W3 (e::es) t)
 (hdb:(y==("__debug__":Str))=false:=by decide) (he:starEach (e::es) X.env=(false,eval e X.env)::starEach es X.env:=by rfl) (hpl:(backTo pos (starEach es X.env)).any (·.1)=false:=by rfl) :
 aK X W3 (.Call (.Name y p) (e::es) [] pos) (pE sp W3 t):=show _ by
 obtain⟨f,fd,F,b,kp,m⟩:=C.ex;refine λZ=>PE.imp (SJ F hr hg m kp b .nil Z.pass (ha Z) hdb he hpl) λτ H Q ⟨σ,S,Q3,hs,hr,ht,hc⟩=>?_;refine⟨σ,S,_,hs,hr,ht,λds S1 vs H1 k1 r1 l1 q1=>?_⟩;exact⟨Z.z,ds,S1,Q3,W3 σ,by rw[gP];exact r1,l1,q1,hc.mono k1,λC a S2 H2 k2 l2 ha z=>Z.ce σ τ C a S2 H2 (hs.mono (k1.trans k2)) l2 ha z⟩
end
section
variable{σ:aJ}{S:af}{Q:K3}{QT:Bool->af->Prop}{QA:List D->af->Prop}{QO:Option Int->af->Prop}{ta tb te:aN}{tA tB:cE}{t u:b7}{al:b6}{r:R3}{n b c:aJ->af->Prop}{rt:K3}{i:Nat}
theorem SK(h:t ⟨u ⟨n,rt,b,c⟩,rt,b,c⟩ σ S):sA t u ⟨n,rt,b,c⟩ σ S:=h
theorem SM(h:n σ S):FV ⟨n,rt,b,c⟩ σ S:=h
theorem SN(h:te σ S λ_ S1=>n σ S1):ze te ⟨n,rt,b,c⟩ σ S:=h
theorem SO(h:te σ S rt):FW te ⟨n,rt,b,c⟩ σ S:=h
theorem SQ(h:rt .non S):FX ⟨n,rt,b,c⟩ σ S:=h
theorem SS(h:te σ S λx S1=>n (σ.set i (some x)) S1):sF i te ⟨n,rt,b,c⟩ σ S:=h
theorem SU{g:eQ}(h:te σ S λx S1=>g x σ S1 n):zf te g ⟨n,rt,b,c⟩ σ S:=h
theorem SV{f:Int->Int->Int}{a:Int}(ha:σ[i]?=some (some (.int a)))(h:te σ S λy S1=>∃b,y=.int b/\n (σ.set i (some (.int (f a b)))) S1):F3 i te f ⟨n,rt,b,c⟩ σ S:=⟨a,ha,h⟩
theorem SW{k:Int}{P:Int->Prop}(h:P k):∃b,D.int k=.int b/\P b:=⟨k,rfl,h⟩
theorem SX(h:tA σ S λb' S1=>if b'=true then t ⟨n,rt,b,c⟩ σ S1 else u ⟨n,rt,b,c⟩ σ S1):pz tA t u ⟨n,rt,b,c⟩ σ S:=h
theorem SY{v:D}{Qs:aJ->af->Prop}(h:Qs (σ.set i (some v)) S):kN i v σ S Qs:=h
theorem S9{d:D}(h:σ[i]?=some (some d))(q:Q d S):v3 i σ S Q:=⟨d,h,q⟩
theorem S_{d:D}(q:Q d S):c3 d σ S Q:=q
theorem Ta(h:ta σ S λx S1=>tb σ S1 λy S2=>r x y S2 Q):o3 r ta tb σ S Q:=h
theorem Tb{g:Int->Int->D}{k j:Int}(q:Q (g k j) S):i3 g (.int k) (.int j) S Q:=⟨k,j,rfl,rfl,q⟩
theorem Tc{g:Int->Int->D}{k j:Int}(h:0<j)(q:Q (g k j) S):sH (λ_ j=>0<j) g (.int k) (.int j) S Q:=⟨k,j,rfl,rfl,h,q⟩
theorem Td{g:Int->Int->D}{k j:Int}(h:0<j/\j<1073741824)(q:Q (g k j) S):sH Ei g (.int k) (.int j) S Q:=⟨k,j,rfl,rfl,h,q⟩
theorem sN{x y:Str}(h:x.length+y.length<=sizeLine)(q:Q (.str (x++y)) S):Gb (.str x) (.str y) S Q:=⟨x,y,rfl,rfl,h,q⟩
theorem Te{x:D}(q:Q (.bl (kO x)) S):Ge x .non S Q:=⟨rfl,q⟩
theorem Tf{x:D}(q:Q (.bl (!kO x)) S):Gf x .non S Q:=⟨rfl,q⟩
theorem Tg{k j:Int}(q:Q (.bl (decide (k=j))) S):Gh (.int k) (.int j) S Q:=⟨k,j,rfl,rfl,q⟩
theorem Th{k j:Int}(q:Q (.bl (!decide (k=j))) S):Gi (.int k) (.int j) S Q:=⟨k,j,rfl,rfl,q⟩
theorem Ti{k j:Str}(q:Q (.bl (decide (k=j))) S):zj (.str k) (.str j) S Q:=⟨k,j,rfl,rfl,q⟩
theorem Tj{k j:Str}(q:Q (.bl (!decide (k=j))) S):Gj (.str k) (.str j) S Q:=⟨k,j,rfl,rfl,q⟩
theorem Tn(h:te σ S λx S'=>∃k,x=.bl k/\QT k S'):je te σ S QT:=h
theorem To{k:Bool}{P:Bool->Prop}(h:P k):∃b,D.bl k=.bl b/\P b:=⟨k,rfl,h⟩
theorem Tp(h:te σ S λx S1=>∃k,sv S1 x k/\QT k S1):FI te σ S QT:=h
theorem GI{a:Addr}{ds:List D}{P:Bool->Prop}(hS:S a=some (.lst ds))(h:P (!ds.isEmpty)):∃k,sv S (.ref a) k/\P k:=⟨_,.inl ⟨ds,hS,rfl⟩,h⟩
theorem Tq(h:tA σ S λc' S1=>if c'=true then tB σ S1 QT else QT false S1):Fy tA tB σ S QT:=h
theorem Tr(h:tA σ S λc' S1=>if c'=true then QT true S1 else tB σ S1 QT):or3 tA tB σ S QT:=h
theorem Ts(h:tA σ S λc' S1=>QT (!c') S1):Fz tA σ S QT:=h
theorem Tt(h:ta σ S λx S1=>∃c',x=.bl c'/\if c'=true then tb σ S1 Q else Q (.bl false) S1):FA ta tb σ S Q:=h
theorem Tu(h:ta σ S λx S1=>∃c',x=.bl c'/\Q (.bl (!c')) S1):FC ta σ S Q:=h
theorem Tv(h:tA σ S λc' S1=>if c'=true then ta σ S1 Q else tb σ S1 Q):FD tA ta tb σ S Q:=h
theorem Tw(h:QA [] S):jf σ S QA:=h
theorem Tz(h:te σ S λx S1=>al σ S1 λxs S2=>QA (x::xs) S2):fR te al σ S QA:=h
theorem TB(h:al σ S λxs S1=>xs.length<=sizeLine/\Q (.tup xs) S1):FJ al σ S Q:=h
theorem TC(h:al σ S λxs S1=>xs.length<=sizeLine/\dG S1 xs Q):FK al σ S Q:=h
theorem TF{α:Type}{xs:List α}{P:Prop}(h:xs.length<=sizeLine)(q:P):xs.length<=sizeLine/\P:=⟨h,q⟩
theorem TH{f:List D->af->K3->Prop}(h:al σ S λvs S1=>f vs S1 Q):pw f al σ S Q:=h
theorem TJ{sp:aL}{W3:bK}(h:al σ S λds S1=>sp ds S1 Q (W3 σ)):pE sp W3 al σ S Q:=h
theorem TK{T:String}{m:D->List D->af->K3->Prop}(h:te σ S λx S1=>nE T x S1/\al σ S1 λxs S2=>m x xs S2 Q):FQ T m te al σ S Q:=h
theorem TL{T:String}{m:D->List D->af->K3->Prop}(h:te σ S λx S1=>nE T x S1/\m x [] S1 Q):FO T m te σ S Q:=h
theorem zr{a:Addr}{ds:List D}{P:Prop}(h:S a=some (.lst ds))(q:P):nE "list" (.ref a) S/\P:=⟨.inr (.inl ⟨rfl,ds,.inl ⟨a,rfl,h⟩⟩),q⟩
theorem cJ{a:Addr}{ds:List D}{y:D}(h:S a=some (.lst ds))(hz:ds.length<sizeLine)(q:Q .non (up S a (.lst (ds++[y])))):GC (.ref a) [y] S Q:=⟨a,ds,y,rfl,rfl,h,hz,q⟩
theorem gJ{a:Addr}{ds:List D}{y:D}(h:S a=some (.lst (ds++[y])))(q:Q y (up S a (.lst ds))):GD (.ref a) [] S Q:=⟨a,ds,y,rfl,rfl,h,q⟩
theorem TM{a:Addr}{ds es:List D}(h:S a=some (.lst ds))(hz:ds.length+es.length<=sizeLine)(q:Q .non (up S a (.lst (ds++es)))):GF (.ref a) [.tup es] S Q:=⟨a,ds,es,rfl,rfl,h,hz,q⟩
theorem my{ds:List D}{k:Int}{d:D}(h:b5 ds k=some d)(q:Q d S):nG (.tup ds) (.int k) S Q:=⟨ds,k,d,rfl,rfl,h,q⟩
theorem fj{a:Addr}{ds:List D}{k:Int}{d:D}(hS:S a=some (.lst ds))(h:b5 ds k=some d)(q:Q d S):vo (.ref a) (.int k) S Q:=⟨ds,k,d,.inl ⟨a,rfl,hS⟩,rfl,h,q⟩
theorem GJ{ds:List D}{k:Int}{d:D}(h:b5 ds k=some d)(q:Q d S):vo (.bH ds) (.int k) S Q:=⟨ds,k,d,.inr rfl,rfl,h,q⟩
theorem GK{z:Str}{k:Int}{cp:Nat}(hz:z.length<=sizeLine)(h:b5 z.cps.toList k=some cp)(q:Q (.str ⟨#[cp]⟩) S):Gq (.str z) (.int k) S Q:=⟨z,k,cp,rfl,rfl,hz,h,q⟩
theorem GL{a:Addr}{ds:List D}(hS:S a=some (.lst ds))(q:Q (.int ds.length) S):sL [.ref a] S Q:=⟨_,ds,rfl,.inl (.inl ⟨a,rfl,hS⟩),q⟩
theorem TN{ds:List D}(q:Q (.int ds.length) S):sL [.bH ds] S Q:=⟨_,ds,rfl,.inl (.inr rfl),q⟩
theorem TQ{ds:List D}(q:Q (.int ds.length) S):sL [.tup ds] S Q:=⟨_,ds,rfl,.inr rfl,q⟩
theorem TR{z:Str}(hz:z.length<=sizeLine)(q:Q (.int z.length) S):GA [.str z] S Q:=⟨z,rfl,hz,q⟩
theorem GN{a:Addr}{ds:List D}(hS:S a=some (.lst ds))(q:Q (.tup ds) S):GB [.ref a] S Q:=⟨_,ds,rfl,.inl (.inl ⟨a,rfl,hS⟩),q⟩
theorem TU{f:D->Option Int->Option Int->af->K3->Prop}{tl th:nF}(h:te σ S λx S1=>tl σ S1 λl S2=>th σ S2 λu' S3=>f x l u' S3 Q):FT f te tl th σ S Q:=h
theorem TV(h:QO none S):FR σ S QO:=h
theorem TX(h:te σ S λx S1=>∃k,x=.int k/\QO (some k) S1):part3 te σ S QO:=h
theorem GO{a:Addr}{ds:List D}{lo hi:Option Int}(hS:S a=some (.lst ds))(q:dG S (cutD ds lo hi) Q):Gv (.ref a) lo hi S Q:=⟨ds,.inl ⟨a,rfl,hS⟩,q⟩
theorem TY{ds:List D}{lo hi:Option Int}(q:Q (.tup (cutD ds lo hi)) S):Gw (.tup ds) lo hi S Q:=⟨ds,rfl,q⟩
theorem pF{z:Str}{lo hi:Option Int}(hz:z.length<=sizeLine)(q:Q (.str (textOf (kK z.cps.toList lo hi))) S):Gy (.str z) lo hi S Q:=⟨z,rfl,hz,q⟩
theorem vC{a a':Addr}{ds es:List D}(h:S a=some (.lst ds))(h':S a'=some (.lst es))(hz:ds.length+es.length<=sizeLine)(q:dG S (ds++es) Q):zp (.ref a) (.ref a') S Q:=⟨a,a',ds,es,rfl,rfl,h,h',hz,q⟩
theorem GP{ds es:List D}(hn:ds≠[])(hz:ds.length+es.length<=sizeLine)(q:Q (.tup (ds++es)) S):Gz (.tup ds) (.tup es) S Q:=⟨ds,es,rfl,rfl,hn,hz,q⟩
theorem TZ{wi:fv}{g:eQ}(h:wi σ S λds Al S1=>∃W:Nat->aJ->af->Prop,W 0 σ S1/\(∀i σ S,W i σ S->Al S) /\
 (∀i d σ S,ds[i]?=some d->W i σ S->g d σ S λjQ S2=>t ⟨W (i+1),rt,n,W (i+1)⟩ jQ S2)/\∀σ S,W ds.length σ S->n σ S):F_ wi g t ⟨n,rt,b,c⟩ σ S:=h
theorem pG(W:Nat->aJ->af->Prop)(m:Nat)(h0:W m σ S)(h:∀m σ S,W m σ S->tA σ S λb S1=>if b=true then t ⟨λσ' S'=>∃m',m'<m/\W m' σ' S',rt,n,λσ' S'=>∃m',m'<m/\W m' σ' S'⟩ σ S1 else n σ S1) :
 F4 tA t ⟨n,rt,b,c⟩ σ S:=⟨W,⟨m,h0⟩,h⟩
abbrev RI:=List D->(af->Prop)->af->Prop
variable{R:RI}
def GQ(R:RI)(x:D)(S:af):Prop:=(∃a ds,x=.ref a/\S a=some (.lst ds)/\R ds (λS=>S a=some (.lst ds)) S)∨∃ds,x=.bH ds/\R ds (λ_=>True) S
theorem T1(h:te σ S λx S1=>GQ R x S1):F5 te σ S R:=h
theorem GR{a:Addr}{ds:List D}(hS:S a=some (.lst ds))(q:R ds (λS=>S a=some (.lst ds)) S):GQ R (.ref a) S:=.inl ⟨a,ds,rfl,hS,q⟩
def zt(R:RI)(x:D)(S:af):Prop:=∃ds,x=.tup ds/\R ds (λ_=>True) S
theorem T4(h:te σ S λx S1=>zt R x S1):F6 te σ S R:=h
theorem T5{ds:List D}(q:R ds (λ_=>True) S):zt R (.tup ds) S:=⟨ds,rfl,q⟩
theorem T6{ds:List D}{P:List D->Prop}(h:P ds):∃es,D.tup ds=.tup es/\P es:=⟨ds,rfl,h⟩
def GS(R:RI)(xs:List D)(S:af):Prop:=∃ds,xs=[.tup ds]/\R ds.reverse (λ_=>True) S
theorem T7(h:al σ S λxs S1=>GS R xs S1):F7 al σ S R:=h
theorem T8{ds:List D}(q:R ds.reverse (λ_=>True) S):GS R [.tup ds] S:=⟨ds,rfl,q⟩
def GU(R:RI)(vs:List D)(S:af):Prop:=∃j:Int,vs=[.int j]/\-(2^62)<=j/\j<2^62/\R (nums 0 j.toNat) (λ_=>True) S
theorem T9(h:al σ S λvs S1=>GU R vs S1):F9 al σ S R:=h
theorem GV{j:Int}(h1:-(2^62)<=j/\j<2^62)(q:R (nums 0 j.toNat) (λ_=>True) S):GU R [.int j] S:=⟨j,rfl,h1.1,h1.2,q⟩
theorem T_(h:∀p,S p=none->Q (.ref p) (up S p (.b_ []))):FL σ S Q:=h
def GW(v:D)(Qs:aJ->af->Prop)(σ:aJ)(o i:D)(S:af):Prop:=∃p xs k j,o=.ref p/\i=.int k/\S p=some (.lst xs)/\gB xs.length k=some j/\Qs σ (up S p (.lst (xs.set j v)))
theorem Ua{v:D}{Qs:aJ->af->Prop}(h:te σ S λo S1=>ta σ S1 λi S2=>GW v Qs σ o i S2):FZ te ta v σ S Qs:=h
theorem GX{a:Addr}{xs:List D}{k:Int}{j:Nat}{v:D}{Qs:aJ->af->Prop}(hS:S a=some (.lst xs))(hj:gB xs.length k=some j)(q:Qs σ (up S a (.lst (xs.set j v)))):GW v Qs σ (.ref a) (.int k) S:=⟨a,xs,k,j,rfl,rfl,hS,hj,q⟩
def GY(Q:K3)(x y:D)(S:af):Prop:=∃a kvs k v,x=.ref a/\S a=some (.b_ kvs)/\y=kD k/\du kvs k=some v/\Q v S
theorem Ub(h:te σ S λx S1=>ta σ S1 λy S2=>GY Q x y S2):FU te ta σ S Q:=h
theorem zu{a:Addr}{kvs:List (Key×D)}{z:Str}{v:D}(hS:S a=some (.b_ kvs))(hv:du kvs (.inr z)=some v)(q:Q v S):GY Q (.ref a) (.str z) S:=⟨a,kvs,.inr z,v,rfl,hS,rfl,hv,q⟩
def GZ(n:aJ->af->Prop)(σ:aJ)(v x y:D)(S:af):Prop:=∃a kvs k,x=.ref a/\S a=some (.b_ kvs)/\y=kD k/\kvs.length<sizeLine/\n σ (up S a (.b_ (putD kvs k v)))
theorem Uc{tv:aN}(h:tv σ S λv S1=>te σ S1 λx S2=>ta σ S2 λy S3=>GZ n σ v x y S3):F1 te ta tv ⟨n,rt,b,c⟩ σ S:=h
theorem Ud{a:Addr}{kvs:List (Key×D)}{z:Str}{v:D}(hS:S a=some (.b_ kvs))(hz:kvs.length<sizeLine)(q:n σ (up S a (.b_ (putD kvs (.inr z) v)))):GZ n σ v (.ref a) (.str z) S:=⟨a,kvs,.inr z,rfl,hS,rfl,hz,q⟩
end
theorem dn.frame{P:Program}{w:World}{K:aq}{mg:Str->Option Value}{base:Heap}{k:Nat}{f:Addr}{fd:FuncData}{ps:List Str}{sp:aL}(F:dn P w K mg base (cc P w) k f fd ps (jk K sp)):dn P w K mg base (cc P w) k f fd ps (jk K (fr sp)):=show _ by
 refine L2.dn.imp F λvs H Q E ⟨Z,ds,S,Q3,E3,h1,l,⟨S0,F,hs,h3⟩,cq,ce⟩=>?_;refine⟨Z.with H F,ds,S0,_,_,h1,⟨λa o e=>?_,λa z=>?_,Kp.refl _ _⟩,h3,?_,?_⟩
 ·refine l.obj a o ?_;rcases hs a with⟨q,_⟩|⟨q,_⟩
  ·rw[q];exact e
  ·rw[q]at e;cases e
 ·rcases z with z|z
  ·have z2:=l.hid a z;refine⟨?_,z2.2⟩;rcases hs a with⟨q,_⟩|⟨q,_⟩
   ·rw[<-q];exact z2.1
   ·exact q
  ·rcases hs a with⟨_,q⟩|⟨q,q2⟩
   ·exact absurd q z
   ·refine⟨q,?_⟩;cases e:F a with
    |none=>exact absurd e z
    |some o=>exact(l.obj a o (q2.trans e)).there
 ·rintro d S1 v H' k1 r1 l1 ⟨S2,hsub,q⟩;obtain⟨gU,l'⟩:=l.frame hs k1 l1 hsub;exact cq d _ v H' (k1.eR λa z=>.inl z) r1 l' (q _ gU)
 ·rintro C a S1 H' k1 l1 ha ⟨S2,hsub,q⟩;obtain⟨gU,l'⟩:=l.frame hs k1 l1 hsub;exact ce C a _ H' (k1.eR λa z=>.inl z) l' ha (q _ gU)
def pH:aL:=vS λds q=>∃ns:List Int,ds=[.bH (ns.map D.int)]/\ns.length<=63/\q (.bl true)
theorem Ue{P:Program}{w:World}{K:aq}{mg:Str->Option Value}{base:Heap}{k:Nat}{st:Stmt}{f:Addr}{fd:FuncData}{N:List Str}(F:ny K "law" "law" st f fd)(S:a8 N ["script"] (ao st))
 (hbody:∀(cdv:Value) (A:Around) (outer:List Env) (s:Shared) (H:Hp) (E:XK) (ns:List Int),bP k (A.deeper (envOfC "law" (ao st) s.heap.objs.size f cdv))->ns.length<=63 ->
  ∃t,dc (cX (cc P w) P w K mg base N "law" (ao st) f cdv A outer s H E).gz dA (aV st) t/\t {nx:=λ_ _=>False,rt:=λd _=>d=.bl true} (dY N [.bH (ns.map D.int)]) emp) :
 dn P w K mg base (cc P w) (k+1) f fd ["script"] (jk K pH):=show _ by
 obtain⟨oc,od,kV,doc,pm,an,cdv,ct,osl,rfl,lk,hcd⟩:=F.ex;refine L2.dn.imp (sp:=jk K (fr λds S Q E=>S=emp/\∃ns:List Int,ds=[.bH (ns.map D.int)]/\ns.length<=63/\∀S',Q (.bl true) S')) (dn.frame ?_) λvs H Q E cR=>by obtain⟨Z,ds,S,Q3,E3,h1,l,⟨ns,e,h63,q⟩,h,h'⟩:=cR;exact⟨Z,ds,S,Q3,E3,h1,l,⟨emp,S,vz S,rfl,ns,e,h63,λS1=>⟨emp,vB _,λS' hS=>vA hS▸q⟩⟩,h,h'⟩
 refine uT lk hcd S (λvs H Q E eY=>by obtain⟨Z,ds,S,Q3,E3,h1,_,⟨_,ns,z,_⟩,_,_⟩:=eY;rw[<-h1.len,z];rfl) λA outer s H vs Q E hr ⟨Z,ds,S3,Q3,E3,h1,h2,⟨e1,ns,e2,h63,hq⟩,h4,_⟩=>?_;subst e1 e2;obtain⟨t,ht,q⟩:=hbody cdv A outer s H E ns hr h63;refine⟨_,(ht (zq Z H)).gz,_,dY N [.bH (ns.map D.int)],emp,?_,h2.into,q,⟨?_,?_,?_,?_⟩⟩
 ·unfold dY L2.start;rw[h1.len];exact nA (SR.sk h1) (SR.nones _)
 ·exact λ_ _ _ _ _ _ _ z=>z.elim
 ·exact λ_ _ _ _ _ _ _ z=>z
 ·exact λ_ _ _ _ _ _ _ z=>z
 ·intro d S' v H' kk r l e;have e:d=.bl true:=e;subst e;exact h4 _ S' v H' (kk.eR λ_ z=>z) r (l.out h2 kk) (hq S')
theorem Ug{K:aq}{H:Hp}{a:Addr}{ns:List Int}(hl:ns.length<=63)(hO:r_ H)(h:bu K H a (ns.map V.int)):jk K pH [.ref a] H (λv _=>v=.bl true) λ_ _ _=>False:=show _ by
 refine⟨⟨λ_=>False,H⟩,[.bH (ns.map D.int)],emp,λd _=>d=.bl true,λ_ _ _=>False,.cons (.bH (mn.of h hO) (aX.ints ns)) .nil,⟨λa o e=>(nomatch e),λa z=>z.elim,Kp.refl _ _⟩,⟨ns,rfl,hl,rfl⟩,?_,λ_ _ _ _ _ _ _ z=>z⟩;intro d S v H' _ r _ e;have e:d=.bl true:=e;subst e;cases r;rfl
theorem zw{A:Around}{k:Nat}(hr:bP k A):A.units+200<cLine:=by have:=hr.un;lia
theorem Sub.refl(S:af):Sub S S:=λ_ _ h=>h
theorem Sub.trans{A B C:af}(h:Sub A B)(h':Sub B C):Sub A C:=λa o e=>h' a o (h a o e)
theorem Sub.up{A B:af}{p:Addr}{o:O}(h:Sub A B)(hp:B p=none):Sub A (up B p o):=λa u e=>aD (h a u e) hp
theorem Sub.free{A B:af}{p:Addr}(h:Sub A B)(hp:B p=none):A p=none:=by
 cases e:A p with
 |none=>rfl
 |some o=>rw[h p o e]at hp;cases hp
theorem Sub.upd{A B:af}{p:Addr}{o:O}(h:Sub A B):Sub (E3.up A p o) (E3.up B p o):=λa u e=>by
 by_cases c:a=p
 ·subst c;rw[ax]at e ⊢;exact e
 ·rw[aW c]at e ⊢;exact h a u e
theorem Sub.at{A B:af}{p:Addr}{o:O}(h:Sub A B)(hp:A p=none):Sub A (E3.up B p o):=λa u e=>by
 rw[aW (ne3 e hp)];exact h a u e
section
variable{P:Program}{w:World}{K:PySem.W.Frag}{mg:Str->Option Value}{base:Heap}{x:Str}{st:Stmt}{N ps:List Str}{k:Nat}
theorem av.drop{sp:aL}(C:av P w K mg base k x ps sp):av P w K mg base k x ps (λds S Q E=>sp ds S (λd S1=>∃S2,Sub S2 S1/\Q d S2) E):=show _ by
 obtain⟨f,fd,F0,r⟩:=C.ex;refine⟨f,fd,F0.imp λvs H Q E ⟨Z,ds,S,Q3,E3,h1,l,h3,cq,ce⟩=>⟨Z,ds,S,_,E3,h1,l,h3,?_,ce⟩,r⟩;rintro d S1 v H' k1 r1 l1 ⟨S2,hsub,q⟩;exact cq d S2 v H' k1 r1 (l1.sub hsub) q
def jX(A:List D->af->(D->Prop)->Prop):aL:=λds S Q _=>A ds S λd=>Q d S
def nI(A:List D->af->(List D->Prop)->Prop):aL:=λds S Q _=>A ds S λys=>dG S ys Q
def kP(A:List D->af->(D->Addr->O->Prop)->Prop):aL:=λds S Q _=>A ds S λd a o=>Q d (up S a o)
theorem _root_.EE.az.jX{A:List D->af->(D->Prop)->Prop}(h:az K mg x st ps)(S:a8 N ps (ao st))(len:∀ds S q,A ds S q->ds.length=ps.length)
 (hbody:∀(f:Addr) (cdv:Value) (Ar:Around) (outer:List Env) (s:Shared) (H:Hp) (E:XK) (ds:List D) (S:af) (q:D->Prop),bP k (Ar.deeper (envOfC x (ao st) s.heap.objs.size f cdv))->A ds S q ->
  ∃t,dc (cX (cc P w) P w K mg base N x (ao st) f cdv Ar outer s H E).gz dA (aV st) t/\t {nx:=λ_ S'=>Sub S S'/\q .non,rt:=λd S'=>Sub S S'/\q d} (dY N ds) S):av P w K mg base (k+1) x ps (jX A):=show _ by
 have C:av P w K mg base (k+1) x ps (λds S Q E=>∃q,A ds S q/\∀d S',Sub S S'/\q d->Q d S'):=by
  refine h.mx S (λvs H Q E cR=>by obtain⟨q,z,_⟩:=cR;exact len _ _ _ z) λf cdv Ar outer s H E ds S3 Q E3 hr ⟨q,z,hq⟩=>?_;obtain⟨t,h1,h2⟩:=hbody f cdv Ar outer s H E ds S3 _ hr z;exact⟨t,λd S'=>Sub S3 S'/\q d,h1,h2,hq⟩
 exact C.drop.imp λds S Q E z=>⟨_,z,λd S1 hq=>⟨S,hq.1,hq.2⟩⟩
theorem _root_.EE.az.nI{A:List D->af->(List D->Prop)->Prop}(h:az K mg x st ps)(S:a8 N ps (ao st))(len:∀ds S q,A ds S q->ds.length=ps.length)
 (hbody:∀(f:Addr) (cdv:Value) (Ar:Around) (outer:List Env) (s:Shared) (H:Hp) (E:XK) (ds:List D) (S:af) (q:List D->Prop),bP k (Ar.deeper (envOfC x (ao st) s.heap.objs.size f cdv))->A ds S q ->
  ∃t,dc (cX (cc P w) P w K mg base N x (ao st) f cdv Ar outer s H E).gz dA (aV st) t /\
   t {nx:=λ_ _=>False,rt:=λd S'=>∃p ys,d=.ref p/\S p=none/\Sub S S'/\S' p=some (.lst ys)/\q ys} (dY N ds) S):av P w K mg base (k+1) x ps (nI A):=show _ by
 have C:av P w K mg base (k+1) x ps (λds S Q E=>∃q,A ds S q/\∀d S',(∃p ys,d=.ref p/\S p=none/\Sub S S'/\S' p=some (.lst ys)/\q ys)->Q d S'):=by
  refine h.mx S (λvs H Q E eY=>by obtain⟨q,z,_⟩:=eY;exact len _ _ _ z) λf cdv Ar outer s H E ds S3 Q E3 hr ⟨q,z,hq⟩=>?_;obtain⟨t,h1,h2⟩:=hbody f cdv Ar outer s H E ds S3 _ hr z;refine⟨t,λd S'=>∃p ys,d=.ref p/\S3 p=none/\Sub S3 S'/\S' p=some (.lst ys)/\q ys,h1,?_,hq⟩;have e:(λ(_:aJ) (_:af)=>False)=λ(_:aJ) (S':af)=>∃p ys,D.non=.ref p/\S3 p=none/\Sub S3 S'/\S' p=some (.lst ys)/\q ys:=by
   funext _ S';refine propext ⟨eX,λz=>?_⟩;obtain⟨p,ys,z,_⟩:=z;cases z
  rw[<-e];exact h2
 refine C.drop.imp λds S Q E z=>⟨_,z,λd S1 ⟨p,ys,e,hp,hs,hp1,hq⟩=>⟨up S p (.lst ys),?_,?_⟩⟩
 ·intro a o ha;by_cases c:a=p
  ·subst c;rw[ax]at ha;cases ha;exact hp1
  ·rw[aW c]at ha;exact hs a o ha
 ·subst e;exact hq p hp
theorem _root_.EE.az.kP{A:List D->af->(D->Addr->O->Prop)->Prop}(h:az K mg x st ps)(S:a8 N ps (ao st))(len:∀ds S q,A ds S q->ds.length=ps.length)
 (hbody:∀(f:Addr) (cdv:Value) (Ar:Around) (outer:List Env) (s:Shared) (H:Hp) (E:XK) (ds:List D) (S:af) (q:D->Addr->O->Prop),bP k (Ar.deeper (envOfC x (ao st) s.heap.objs.size f cdv))->A ds S q ->
  ∃t,dc (cX (cc P w) P w K mg base N x (ao st) f cdv Ar outer s H E).gz dA (aV st) t/\t {nx:=λ_ S'=>∃a o,Sub (up S a o) S'/\q .non a o,rt:=λd S'=>∃a o,Sub (up S a o) S'/\q d a o} (dY N ds) S):av P w K mg base (k+1) x ps (kP A):=show _ by
 have C:av P w K mg base (k+1) x ps (λds S Q E=>∃q,A ds S q/\∀d S',(∃a o,Sub (up S a o) S'/\q d a o)->Q d S'):=by
  refine h.mx S (λvs H Q E nH=>by obtain⟨q,z,_⟩:=nH;exact len _ _ _ z) λf cdv Ar outer s H E ds S3 Q E3 hr ⟨q,z,hq⟩=>?_;obtain⟨t,h1,h2⟩:=hbody f cdv Ar outer s H E ds S3 _ hr z;exact⟨t,λd S'=>∃a o,Sub (up S3 a o) S'/\q d a o,h1,h2,hq⟩
 exact C.drop.imp λds S Q E z=>⟨_,z,λd S1 kE=>by obtain⟨a,o,hs,hq⟩:=kE;exact⟨_,hs,hq⟩⟩
end
section
variable{P:Program}{w:World}{K:PySem.W.Frag}{mg:Str->Option Value}{base:Heap}{x:Str}{st:Stmt}{N ps:List Str}{k:Nat}
def nJ(A:List D->af->(List D->Addr->O->Prop)->Prop):aL:=λds S Q _=>A ds S λys a o=>∀p,S p=none->Q (.ref p) (up (up S a o) p (.lst ys))
theorem _root_.EE.az.nJ{A:List D->af->(List D->Addr->O->Prop)->Prop}(h:az K mg x st ps)(S:a8 N ps (ao st))(len:∀ds S q,A ds S q->ds.length=ps.length)
 (hbody:∀(f:Addr) (cdv:Value) (Ar:Around) (outer:List Env) (s:Shared) (H:Hp) (E:XK) (ds:List D) (S:af) (q:List D->Addr->O->Prop),bP k (Ar.deeper (envOfC x (ao st) s.heap.objs.size f cdv))->A ds S q ->
  ∃t,dc (cX (cc P w) P w K mg base N x (ao st) f cdv Ar outer s H E).gz dA (aV st) t /\
   t {nx:=λ_ _=>False,rt:=λd S'=>∃p ys a o,d=.ref p/\S p=none/\S a≠none/\Sub (up S a o) S'/\S' p=some (.lst ys)/\q ys a o} (dY N ds) S):av P w K mg base (k+1) x ps (nJ A):=show _ by
 have C:av P w K mg base (k+1) x ps (λds S Q E=>∃q,A ds S q/\∀d S',(∃p ys a o,d=.ref p/\S p=none/\S a≠none/\Sub (up S a o) S'/\S' p=some (.lst ys)/\q ys a o)->Q d S'):=by
  refine h.mx S (λvs H Q E su=>by obtain⟨q,z,_⟩:=su;exact len _ _ _ z) λf cdv Ar outer s H E ds S3 Q E3 hr ⟨q,z,hq⟩=>?_;obtain⟨t,h1,h2⟩:=hbody f cdv Ar outer s H E ds S3 _ hr z;refine⟨t,λd S'=>∃p ys a o,d=.ref p/\S3 p=none/\S3 a≠none/\Sub (up S3 a o) S'/\S' p=some (.lst ys)/\q ys a o,h1,?_,hq⟩;have e:(λ(_:aJ) (_:af)=>False)=λ(_:aJ) (S':af)=>∃p ys a o,D.non=.ref p/\S3 p=none/\S3 a≠none/\Sub (up S3 a o) S'/\S' p=some (.lst ys)/\q ys a o:=by
   funext _ S';refine propext ⟨eX,λz=>?_⟩;obtain⟨p,ys,_,_,z,_⟩:=z;cases z
  rw[<-e];exact h2
 refine C.drop.imp λds S Q E z=>⟨_,z,λd S1 ⟨p,ys,a,o,e,hp,ha,hs,hp1,hq⟩=>⟨up (up S a o) p (.lst ys),?_,?_⟩⟩
 ·intro b u hb;by_cases c:b=p
  ·subst c;rw[ax]at hb;cases hb;exact hp1
  ·rw[aW c]at hb;exact hs b u hb
 ·subst e;exact hq p hp
end
section
variable{σ:aJ}{S:af}{Q:K3}
theorem Uh{g:Int->Int->D}{k j:Int}(h:yq k j)(q:Q (g k j) S):sH yq g (.int k) (.int j) S Q:=⟨k,j,rfl,rfl,h,q⟩
theorem Ui{g:Int->Int->D}{k j:Int}(h:rL k j)(q:Q (g k j) S):sH rL g (.int k) (.int j) S Q:=⟨k,j,rfl,rfl,h,q⟩
end
end E3
namespace E3
def Px(sp:m8)(S X:af):Prop:=∀a u,a≠sp->S a=some u->X a=some u
theorem Px.refl(sp:m8)(S:af):Px sp S S:=λ_ _ _ h=>h
theorem Px.at{sp:m8}{S X:af}{o:O}(h:Px sp S X):Px sp S (up X sp o):=λa u n e=>by rw[aW n];exact h a u n e
theorem Px.new{sp p:m8}{S X:af}{o:O}(h:Px sp S X)(hp:X p=none):Px sp S (up X p o):=λa u n e=>aD (h a u n e) hp
theorem Px.sub{sp:m8}{S X:af}{o:O}(h:Px sp S X)(hx:X sp=some o):Sub (up S sp o) X:=λa u e=>by
 by_cases c:a=sp
 ·subst c;rw[ax]at e;rw[hx];exact e
 ·rw[aW c]at e;exact h a u c e
end E3
namespace E3
theorem Px.fresh{sp p:m8}{S X:af}{o:O}(h:Px sp S X)(hp:S p=none):Px sp S (up X p o):=λa u n e=>by rw[aW (ne3 e hp)];exact h a u n e
theorem Px.free{sp p:m8}{S X:af}(h:Px sp S X)(hp:X p=none)(n:p≠sp):S p=none:=by
 cases e:S p with
 |none=>rfl
 |some o=>rw[h p o n e]at hp;cases hp
end E3
namespace E3
theorem Px.ext{sp:m8}{S X Y:af}(h:Px sp S X)(h':Sub X Y):Px sp S Y:=λa u n e=>h' a u (h a u n e)
end E3
namespace E3
open PySem PySem.Spec PyProof.Rows L2 EE
theorem Uj{P:Program}{w:World}{H:Hp}{h:Heap}{a:Addr}{o:HO}(x:dk P w H h a o):∃u,h.get? a=some u:=show _ by
 cases o with
 |lst xs=>obtain⟨_,_,_,_,e⟩:=x;exact⟨_,e⟩
 |tup xs=>obtain⟨_,_,_,⟨o,e,_⟩,_⟩:=x;exact⟨_,e⟩
 |dK kvs=>obtain⟨_,_,_,_,o,_,_,e,_⟩:=x;exact⟨_,e⟩
 |dT kvs=>obtain⟨_,_,_,_,o,_,_,e,_⟩:=x;exact⟨_,e⟩
 |set S n=>obtain⟨o,_,_,_,e,_⟩:=x;exact⟨_,e⟩
 |ins C dx fs=>obtain⟨_,_,_,e,_⟩:=x;exact⟨_,e⟩
 |own y=>exact x
 |xd fs=>obtain⟨_,⟨_,_,_,e,_⟩,_⟩:=x;exact⟨_,e⟩
 |uA lo hi=>obtain⟨_,_,_,e⟩:=x;exact⟨_,e⟩
 |eE ob u=>obtain⟨e,_⟩:=x;exact⟨_,e⟩
 |l_ ps=>exact⟨_,show h.get? a=some _ from x⟩
 |met f y=>exact⟨_,show h.get? a=some _ from x⟩
 |ext φ=>exact x.2.1
theorem vE{P:Program}{w:World}{H:Hp}{h:Heap}{a:Addr}(x:cb P w H h)(e:h.get? a=none):H a=none:=by
 cases q:H a with
 |none=>rfl
 |some o=>obtain⟨u,z⟩:=Uj (x a o q);rw[e]at z;cases z
section
variable{P:Program}{w:World}{K:PySem.W.Frag}{mg:Str->Option Value}{base:Heap}{N:List Str}{qual:Str}{scope:Scope}{f:Addr}{cd:Value}{A:Around}{outer:List Env}{s s2:Shared}{H H1:Hp}{E:XK}
 {pins:List (Addr×Obj)} {σ:L2.St} {a C:Addr}
theorem zy(I:Inv (cX (cc P w) P w K mg base N qual scope f cd A outer s H E) pins σ H1 s2):s2.heap.FunFrames base (envOfC qual scope s.heap.objs.size f cd::outer):=show _ by
 obtain⟨m,⟨o,es,ep,ho,hd,_⟩,_⟩:=I.loc;have hk:scope.kind=.function:=I.ok.kind;refine⟨?_,⟨s.heap.objs.size,o,rfl,?_,ho,λvs z=>?_⟩,I.fu⟩
 ·show scope.kind≠.module;rw[hk];intro z;cases z
 ·cases q:base.get? s.heap.objs.size with
  |none=>rfl
  |some u=>exact absurd (dO (bG q) I.ok.gT) (kf _)
 ·rw[hd]at z;cases z
theorem G0{a0:Value}{h':Heap}(hold:List Addr)(I:Inv (cX (cc P w) P w K mg base N qual scope f cd A outer s H E) pins σ H1 s2)(hh:∀b∈hold,H1 b=none/\s.heap.get? b=none)(na:H1 a=none/\s.heap.get? a=none)
 (fl:Dw (kg s2.heap (hold++frs (envOfC qual scope s.heap.objs.size f cd::outer))) outer a (.ref C) a0 h') (us:s2.heap.UpToSlots h') (q:E (.ref C) (some a) H1) {s3:Shared} (h3:s3.heap=h') (ho:s3.os=s2.os) (hg:s3.gens=s2.gens) :
 cc P w outer H s E (.ref a) s3:=show _ by
 have all:=zy I;have zA:frs (envOfC qual scope s.heap.objs.size f cd::outer)=s.heap.objs.size::frs outer:=rfl;have hL:s.heap.get? s.heap.objs.size=none:=by
  cases q:s.heap.get? s.heap.objs.size with
  |none=>rfl
  |some u=>exact absurd (bG q) (kf _)
 have frame:∀b,b∈frs (envOfC qual scope s.heap.objs.size f cd::outer)->H1 b=none/\∃o,s2.heap.get? b=some o/\∀vs,o.data≠.fields vs:=by
  intro b hb;refine⟨?_,(all.mem hb).2⟩;rw[zA]at hb;rcases bJ.mp hb with rfl|hb
  ·exact I.free
  ·obtain⟨_,o,e,_⟩:=I.ok.fu.mem hb;exact I.base.free b o e (I.ok.i7 b hb) (by exact cQ)
 have keep:∀b o,s2.heap.get? b=some o->b∉hold->b∉frs (envOfC qual scope s.heap.objs.size f cd::outer)->h'.get? b=some o:=λb o e n1 n2 =>
  fl.1 b o (xo _ e λz=>(dh.mp z).elim n1 n2)
 have slot:∀b o,s2.heap.get? b=some o->b∈frs (envOfC qual scope s.heap.objs.size f cd::outer)->∃sl,h'.get? b=some {o with slots:=sl}:=λb o e hb=>by
  obtain⟨_,o',e',hn⟩:=frame b hb;rw[e]at e';cases e';exact us b o e hn
 have sO:∀b o,s.heap.get? b=some o->b∉hold:=λb o e z=>by rw[(hh b z).2]at e;cases e
 have nL:∀b o,s.heap.get? b=some o->b∉frs outer->b∉frs (envOfC qual scope s.heap.objs.size f cd::outer):=λb o e n z=>by
  rw[zA]at z;rcases bJ.mp z with rfl|z
  ·rw[hL]at e;cases e
  ·exact n z
 obtain⟨f1,f2,f3,oe,vs,T,oT,ts,he,⟨hc,h0⟩,hd,h1,hnT,hTe,hT,hdT,Uk⟩:=fl;have Ul:T∉frs (envOfC qual scope s.heap.objs.size f cd::outer):=λz=>by
  obtain⟨_,o',e',hn⟩:=frame T z;obtain⟨sl,e2⟩:=us T o' e' hn;rw[hT]at e2;cases e2;exact hn _ hdT
 have tT:H1 T=none/\s.heap.get? T=none:=by
  by_cases hz:T∈hold
  ·exact hh T hz
  ·have n2:s2.heap.get? T=none:=by
    cases q:s2.heap.get? T with
    |none=>rfl
    |some o =>
     rw[xo _ q λz=>(dh.mp z).elim hz Ul]at hnT;cases hnT
   refine⟨vE I.hok n2,?_⟩;cases q:s.heap.get? T with
   |none=>rfl
   |some o =>
    obtain⟨o',e'⟩:=I.base.there T o q (by exact cQ);rw[n2]at e';cases e'
 refine⟨a,C,T,H1,rfl,ho.trans I.os,?_,?_,?_,?_,na.1,tT.1,na.2,tT.2,q⟩
 ·rw[hg];exact I.bare
 ·rw[h3];refine⟨λb o e n hf hx=>?_,λb o e n hf hx=>?_,λb o e n hx=>I.base.free b o e n (by exact cQ),λb o e hx=>?_,I.base.tups,I.base.gy,I.base.iA⟩
  ·exact keep b o (I.base.keep b o e n hf (by exact cQ)) (sO b o e) (nL b o e hf)
  ·obtain⟨sl,e1⟩:=I.base.slot b o e n hf (by exact cQ);obtain⟨sl',e2⟩:=slot b _ e1 (by rw[zA];exact .tail _ hf);exact⟨sl',e2⟩
  ·obtain⟨o',e1⟩:=I.base.there b o e (by exact cQ);by_cases hb:b∈frs (envOfC qual scope s.heap.objs.size f cd::outer)
   ·obtain⟨sl,e2⟩:=slot b _ e1 hb;exact⟨_,e2⟩
   ·exact⟨_,keep b _ e1 (sO b o e) hb⟩
 ·rw[h3];intro b o e;refine(I.hok b o e).stay (λc u hc q=>?_) (λ_ q=>q) λ_ _ q=>q;have sP:H1 c≠none:=by
   rcases hc with rfl|z
   ·rw[e];simp
   ·rw[z];simp
  exact keep c u q (λz=>sP (hh c z).1) λz=>sP (frame c z).1
 ·rw[h3];exact⟨hTe,⟨oe,vs,a0,he,hc,hd,h0,h1⟩,⟨oT,ts,hT,hdT,Uk⟩⟩
theorem Um:Passes (cc P w) (cX (cc P w) P w K mg base N qual scope f cd A outer s H E) E:=show _ by
 rintro pins σ H1 s1 e s' I ⟨a,C,T,H',he,hos,hb,u,hok,nK,ha,hT,na,nT,z⟩;subst he;have I':=I.rF hos u hok hb λ_ z=>nomatch z;have all:=zy I';have old:∀b,s1.heap.get? b=none->s.heap.get? b=none:=λb e=>by
  cases q:s.heap.get? b with
  |none=>rfl
  |some o =>
   obtain⟨o',e'⟩:=I.base.there b o q (by exact cQ);rw[e]at e';cases e'
 obtain⟨oe,vs,a0,e1,e2,e3,e4,e5⟩:=nK.exc;obtain⟨oT,ts,t1,t2,t3⟩:=nK.tb;have hl:∀env∈(envOfC qual scope s.heap.objs.size f cd::outer),∀b,env.frame=some b->b∈[a,T]++frs (envOfC qual scope s.heap.objs.size f cd::outer):=λenv he b hb=>gQ _ (oP.mpr ⟨env,he,hb⟩);show wpAny _ _ (leaving (envOfC qual scope s.heap.objs.size f cd) (.ref a)) _ _ s';refine wpAny_leaves_onW (base:=kg s'.heap ([a,T]++frs (envOfC qual scope s.heap.objs.size f cd::outer))) I'.ok.frames rfl ⟨λb o q=>qU _ q,t6 _ (by simp),xK all hl,
  oe,vs,T,oT,ts,e1,⟨e2,e4⟩,e3,e5,t6 _ (by simp),nK.ne,t1,t2,t3⟩ λh' x1 x2=>?_
 refine G0 [a,T] I' (λb hb=>?_) ⟨ha,old a na⟩ x1 x2 z rfl rfl rfl;rcases bJ.mp hb with rfl|hb
 ·exact⟨ha,old b na⟩
 ·rcases bJ.mp hb with rfl|hb
  ·exact⟨hT,old b nT⟩
  ·cases hb
theorem leave_new{args:List Value}{s3:Shared}{e:Addr}(I:Inv (cX (cc P w) P w K mg base N qual scope f cd A outer s H E) pins σ H1 s2)(hx:Ds s2.heap s3.heap e (.ref C) args)(ho:s3.os=s2.os)(hg:s3.gens=s2.gens)(q:E (.ref C) (some e) H1) :
 (cX (cc P w) P w K mg base N qual scope f cd A outer s H E).xe (.ref e) s3:=show _ by
 have all:=zy I;have hl:∀env∈(envOfC qual scope s.heap.objs.size f cd::outer),∀b,env.frame=some b->b∈[]++frs (envOfC qual scope s.heap.objs.size f cd::outer):=λenv he b hb=>gQ _ (oP.mpr ⟨env,he,hb⟩);show wpAny _ _ (leaving (envOfC qual scope s.heap.objs.size f cd) (.ref e)) _ _ s3;refine wpAny_leaves_madeW (base:=kg s2.heap ([]++frs (envOfC qual scope s.heap.objs.size f cd::outer))) (h:=s2.heap) I.ok.frames rfl (λb o q=>qU _ q) (xK all hl) hx λh' t x1 _ _ x4=>?_;refine G0 [] I (λb hb=>nomatch hb) ⟨vE I.hok hx.new,?_⟩ x1 ((Np hx.keeps).trans x4) q rfl ho hg;cases q:s.heap.get? e with
 |none=>rfl
 |some o =>
  obtain⟨o',e'⟩:=I.base.there e o q (by exact cQ);rw[hx.new]at e';cases e'
end
section
variable{P:Program}{w:World}{K:PySem.W.Frag}{mg:Str->Option Value}{base:Heap}{x:Str}{st:Stmt}{N ps:List Str}{k:Nat}
def Uo{f:Addr}{cdv:Value}{A:Around}{outer:List Env}{s:Shared}{H:Hp}{E:XK}{scope:Scope}(Z:Zt)(W:X3)(o:Kp Z Z.base H)(ce:Fw K Z H W E):ZX (cX (cc P w) P w K mg base N x scope f cdv A outer s H E) (λ_=>W) where
 z:=Z.at H
 E:=λ_=>E
 pass:=λτ pins H s e s' I q=>Um pins τ H s e s' I q
 rz:=λ_ _ _ _ _ _ _ _ I hx ho hg q=>leave_new I hx ho hg q
 ce:=λ_ _ C a S H' _ l ha q=>ce C a S H' (l.old.eR λ_ z=>z) ⟨l.obj,l.hid,o.trans (l.old.eR λ_ z=>z)⟩ ha q
theorem _root_.EE.az.vF{sp:aL}(h:az K mg x st ps)(S:a8 N ps (ao st))(len:∀vs H Q E,sp vs H Q E->vs.length=ps.length)
 (hbody:∀(f:Addr) (cdv:Value) (A:Around) (outer:List Env) (s:Shared) (H:Hp) (E:XK) (ds:List D) (S:af) (Q:K3) (W:X3),bP k (A.deeper (envOfC x (ao st) s.heap.objs.size f cdv))->sp ds S Q W ->
  ∃t Q' W',dc (cX (cc P w) P w K mg base N x (ao st) f cdv A outer s H E) (λ_=>W') (aV st) t/\t {nx:=λ_ S'=>Q' .non S',rt:=Q'} (dY N ds) S/\(∀d S',Q' d S'->Q d S')/\∀C a S',W' C a S'->W C a S'):av P w K mg base (k+1) x ps sp:=show _ by
 obtain⟨f,fd,F,b,m⟩:=h.ex;obtain⟨oc,od,kV,doc,pm,an,cdv,ct,osl,rfl,lk,hcd⟩:=F.ex;refine⟨f,_,uT lk hcd S (λvs H Q E cR=>by obtain⟨Z,ds,S,Q3,E3,h1,_,h3,_,_⟩:=cR;rw[<-h1.len];exact len _ _ _ _ h3) λA outer s H vs Q E hr ⟨Z,ds,S3,Q3,E3,h1,h2,h3,h4,h5⟩=>?_,b,F.kp,m⟩;obtain⟨t,Q',W',ht,q,hw,hx⟩:=hbody f cdv A outer s H E ds S3 Q3 E3 hr h3;refine⟨_,ht (Uo Z W' h2.old λC a S' H' kk l ha z=>h5 C a S' H' kk l ha (hx _ _ _ z)),_,dY N ds,S3,?_,h2.into,q,⟨?_,?_,?_,?_⟩⟩
 ·unfold dY L2.start;rw[h1.len];exact nA (SR.sk h1) (SR.nones _)
 ·intro σ S' τ H' kk _ l q';exact h4 .non S' .non H' (kk.eR λ_ z=>z) .non (l.out h2 kk) (hw _ _ q')
 ·exact λ_ _ _ _ _ _ _ z=>z
 ·exact λ_ _ _ _ _ _ _ z=>z
 ·exact λd S' v H' kk r l q'=>h4 d S' v H' (kk.eR λ_ z=>z) r (l.out h2 kk) (hw _ _ q')
def vX(A:List D->(D->Prop)->(Addr->Prop)->Prop):aL:=λds S Q W=>A ds (λd=>Q d S) λC=>∀a,W C a S
theorem _root_.EE.az.Up{A:List D->(D->Prop)->(Addr->Prop)->Prop}(h:az K mg x st ps)(S:a8 N ps (ao st))(len:∀ds q qx,A ds q qx->ds.length=ps.length)
 (hbody:∀(f:Addr) (cdv:Value) (Ar:Around) (outer:List Env) (s:Shared) (H:Hp) (E:XK) (ds:List D) (q:D->Prop) (qx:Addr->Prop),bP k (Ar.deeper (envOfC x (ao st) s.heap.objs.size f cdv))->A ds q qx ->
  ∃t,dc (cX (cc P w) P w K mg base N x (ao st) f cdv Ar outer s H E) (λ_ C _ _=>qx C) (aV st) t/\t {nx:=λ_ _=>q .non,rt:=λd _=>q d} (dY N ds) emp):av P w K mg base (k+1) x ps (vX A):=show _ by
 have C:av P w K mg base (k+1) x ps (λds S Q E=>S=emp/\∃q qx,A ds q qx/\(∀d S',q d->Q d S')/\∀C a S',qx C->E C a S'):=by
  refine h.vF S (λvs H Q E eY=>by obtain⟨_,q,qx,z,_⟩:=eY;exact len _ _ _ z) λf cdv Ar outer s H E ds S3 Q E3 hr z=>?_;obtain⟨rfl,q,qx,z,hq,hx⟩:=z;obtain⟨t,h1,h2⟩:=hbody f cdv Ar outer s H E ds _ _ hr z;exact⟨t,λd _=>q d,λC _ _=>qx C,h1,h2,hq,hx⟩
 exact C.frame.imp λds S Q E z=>⟨emp,S,vz S,rfl,_,_,z,λd S1 hq=>⟨emp,vB _,λS' h=>vA h▸hq⟩,λC a S1 hx=>⟨emp,vB _,λS' h=>vA h▸hx a⟩⟩
theorem vG{qual:Str}{scope:Scope}{f:Addr}{cd:Value}{A:Around}{outer:List Env}{s:Shared}{H:Hp}{E:XK} :
 PassesOwn (model P w) (cX (cc P w) P w K mg base N qual scope f cd A outer s H E).A (cX (cc P w) P w K mg base N qual scope f cd A outer s H E).env (cX (cc P w) P w K mg base N qual scope f cd A outer s H E).xe:=PassesOwn.leaving
end
abbrev vH:List Value:=[.type "ValueError",.type "Exception",.type "BaseException",.type "object"]
theorem Uq{K:aq}{h:Heap}{C:Addr}{bmB:List Value}{newId:String}(X:K.In h)(q:qY K C bmB newId=true) :
 ∃bm N nm qn bs hdct sn sub ab col dd q0 q1 q2 q3 q5 mN,h.get? C=some (excClassObj nm qn C N bs bm hdct sn sub ab col dd q0 q1 q2 q3 q5 newId)/\h.Ns N mN/\mN "__init__"=none/\OwnTail h bmB bm:=show _ by
 unfold qY at q
 split at q
 ·rename_i dd cd sl ho
  split at q
  ·rename_i Ca bm q0 q1 q2 q3 n q5 hmr hsz
   simp only[gq,beq_iff_eq,Bool.not_eq_true']at q;obtain⟨⟨⟨⟨⟨rfl,rfl⟩,hde⟩,ht⟩,hns⟩,hin⟩:=q;obtain⟨nm,bs,mro,ns,qn,hd,sn,sub,ab,col,del⟩:=cd;dsimp only at hmr hde hns hin;subst hmr hde;have Ur:sl=#[q0,q1,q2,q3,some (.builtin n),q5]:=by
    obtain⟨l⟩:=sl;simp only at hsz;rw[hsz]
   subst Ur;exact⟨bm,ns,nm,qn,bs,hd,sn,sub,ab,col,dd,q0,q1,q2,q3,q5,_,X _ _ ho,.of_isNs (PySem.W.isNs_of_in X hns),PySem.W.nsMap_none_of_in X hns hin,PySem.W.tail_of_in X ht⟩
  ·cases q
 ·cases q
section
variable{X:Cx}{x:Str}{C:Addr}{np cpos pos:Pos}{e:Expr}{es:List Expr}
theorem Us{ta:TA}{E:L2.St->XK}(hm:X.mg x=some (.ref C))(q:qY X.K C vH "ValueError.__new__"=true)(hc:X.calm=true)(hg:Gl X x)(rz:∀τ,Fv X (E τ) τ)(ha:PA X (e::es) ta)
 (hd:(x==("__debug__":Str))=false:=by decide) (he:starEach (e::es) X.env=(false,eval e X.env)::starEach es X.env:=by rfl) (hpl:(backTo cpos (starEach es X.env)).any (·.1)=false:=by rfl) :
 PS X (.Raise (some (.Call (.Name x np) (e::es) [] cpos)) none pos) (λ_ τ H=>ta τ H λvs H1=>vs.length<=sizeLine/\∀a,H1 a=none->E τ (.ref C) (some a) H1):=show _ by
 intro pins s σ H D I h;obtain⟨bm,N,nm,qn,bs,hdct,sn,sub,ab,col,dd,k0,k1,k2,k3,k5,mN,hC,hN,hni,T⟩:=Uq I.mod.m_ q;refine wpAny_Raise_call_subT (C:=C) (nm:=nm) (q:=qn) (N:=N) (bs:=bs) (bm:=bm) (hdct:=hdct) (sn:=sn) (sub:=sub) (ab:=ab) (col:=col) (dd:=dd) (k0:=k0) (k1:=k1) (k2:=k2) (k3:=k3) (k5:=k5)
  Nq (mN:=mN) (T.hasType Nq.hasBase) (I.ok.hd hc) (by rw[he];show(false||(backTo cpos (starEach es X.env)).any (·.1))=false;rw[hpl];rfl) hni (rG I hg hm ⟨rfl,?_⟩ hd)
 have h1:=ha cpos pins s σ H _ I h;rw[he]at h1 ⊢;refine Dg (fo h1 (λus s1 ⟨vs,H1,I1,r,hl,z⟩=>?_) λ_ _ y=>y);have keep:∀b o,X.base.get? b=some o->s1.heap.get? b=some o:=I1.bk;refine⟨rfl,by show us.length<=sizeLine;rw[<-r.length];exact hl,keep _ _ hC,hN.keeps keep,T.keeps keep,λh' a hx=>?_⟩;exact rz σ pins H1 s1 _ a C us I1 hx rfl rfl (z a (vE I1.hok hx.new))
def G1(W3:bK)(C:Addr)(ta:b6):b7:=λ_ σ S=>ta σ S λds S1=>ds.length<=sizeLine/\∀a,W3 σ C a S1
variable{W3:bK}
theorem G2{ta:b6}(hm:X.mg x=some (.ref C))(q:qY X.K C vH "ValueError.__new__"=true)(hc:X.calm=true)(hg:Gl X x)(ha:eK X W3 (e::es) ta)
 (hd:(x==("__debug__":Str))=false:=by decide) (he:starEach (e::es) X.env=(false,eval e X.env)::starEach es X.env:=by rfl) (hpl:(backTo cpos (starEach es X.env)).any (·.1)=false:=by rfl) :
 eM X W3 (.Raise (some (.Call (.Name x np) (e::es) [] cpos)) none pos) (G1 W3 C ta):=λZ=>PS.imp (Us hm q hc hg Z.rz (ha Z) hd he hpl) λD τ H cR=>by obtain⟨D3,σ,S,hs,hr,ht,hcd⟩:=cR;exact 
 ⟨σ,S,_,hs,hr,ht,λds S1 vs H1 k1 r1 l1 q1=>⟨by rw[<-r1.len];exact q1.1,λa ha=>Z.ce σ τ C a S1 H1 (hs.mono k1) l1 ha (q1.2 a)⟩⟩
end
section
variable{σ:aJ}{S:af}{Q:K3}{te:aN}{al:b6}{n b c:aJ->af->Prop}{rt:K3}{W3:bK}{C:Addr}
theorem Ut(h:al σ S λds S1=>ds.length<=sizeLine/\∀a,W3 σ C a S1):G1 W3 C al ⟨n,rt,b,c⟩ σ S:=h
end
abbrev _root_.L2.Cx.caught(X:Cx)(v:Value):Cx:={X with A:=X.A.mark (some v),calm:=false,xe:=λ_ _=>False}
abbrev _root_.L2.Cx.tried(X:Cx)(xe:Value->Shared->Prop)(pn:List (Addr×Obj)):Cx:={X with xe:=xe,pn:=pn}
section
variable{X:Cx}{pins pn:List (Addr×Obj)}{τ:L2.St}{H H1:Hp}{s s1:Shared}{a C:Addr}{v:Value}{xe:Value->Shared->Prop}
theorem Uu(ok:X.Ok):(X.caught v).Ok:=⟨ok.mod,ok.kind,ok.glob,ok.blt,ok.above,ok.inj,ok.has,ok.cab,(λz=>nomatch z),ok.frames,ok.ng,ok.rD,ok.bs,ok.gT,ok.ma,ok.md,ok.fu,ok.i7⟩
theorem Uv(ok:X.Ok):(X.tried xe pn).Ok:=⟨ok.mod,ok.kind,ok.glob,ok.blt,ok.above,ok.inj,ok.has,ok.cab,ok.hd,ok.frames,ok.ng,ok.rD,ok.bs,ok.gT,ok.ma,ok.md,ok.fu,ok.i7⟩
theorem G3(I:Inv X pins τ H s):Inv (X.caught v) pins τ H s:=⟨Uu I.ok,I.os,I.bare,I.base,I.loc,I.cell,I.free,I.fN,I.pin,I.hok,I.len⟩
theorem vI(ok:X.Ok)(I:Inv (X.caught v) pins τ H s):Inv X pins τ H s:=⟨ok,I.os,I.bare,I.base,I.loc,I.cell,I.free,I.fN,I.pin,I.hok,I.len⟩
theorem Uw(I:Inv X pins τ H s):Inv (X.tried xe (X.pn++pins)) [] τ H s:=⟨Uv I.ok,I.os,I.bare,I.base,I.loc,I.cell,I.free,I.fN,λp hp=>I.pin p (by simpa using hp),I.hok,I.len⟩
theorem pI{iB:List (Addr×Obj)}(ok:X.Ok)(I:Inv (X.tried xe (X.pn++pins)) iB τ H s):Inv X pins τ H s:=⟨ok,I.os,I.bare,I.base,I.loc,I.cell,I.free,I.fN,λp hp=>I.pin p (xp _ hp),I.hok,I.len⟩
theorem Ux{D:Ends}{f:Flow}(ok:X.Ok)(h:SP (X.caught v) pins D f s):SP X pins D f s:=show _ by
 cases f with
 |next=>obtain⟨σ',H',I,q⟩:=h;exact⟨σ',H',vI ok I,q⟩
 |brk=>obtain⟨σ',H',I,q⟩:=h;exact⟨σ',H',vI ok I,q⟩
 |cont=>obtain⟨σ',H',I,q⟩:=h;exact⟨σ',H',vI ok I,q⟩
 |ret u=>obtain⟨v,σ',H',I,r,q⟩:=h;exact⟨v,σ',H',vI ok I,r,q⟩
theorem Uy{D:Ends}{f:Flow}(ok:X.Ok)(h:SP (X.tried xe (X.pn++pins)) [] D f s):SP X pins D f s:=show _ by
 cases f with
 |next=>obtain⟨σ',H',I,q⟩:=h;exact⟨σ',H',pI ok I,q⟩
 |brk=>obtain⟨σ',H',I,q⟩:=h;exact⟨σ',H',pI ok I,q⟩
 |cont=>obtain⟨σ',H',I,q⟩:=h;exact⟨σ',H',pI ok I,q⟩
 |ret u=>obtain⟨v,σ',H',I,r,q⟩:=h;exact⟨v,σ',H',pI ok I,r,q⟩
structure hJ(X:Cx)(pins:List (Addr×Obj))(τ:L2.St)(H:Hp)(a C:Addr)(s:Shared):Prop where
 ex:∃(s1:Shared) (H1:Hp) (g:Heap) (hold:List Addr) (a0:Value),Inv X pins τ H1 s1/\Un (frs X.stack) [] H1 H s1.heap g/\cb X.prog X.w H g/\(∀b∈hold,H b=none/\s1.heap.get? b=none)/\(H a=none/\s1.heap.get? a=none) /\
  Dw (kg g (hold++frs X.stack)) X.stack a (.ref C) a0 s.heap/\g.UpToSlots s.heap/\s.os=s1.os/\AllBare s.gens
theorem hJ.exc(h:hJ X pins τ H a C s):∃o vs,s.heap.get? a=some o/\o.cls=.ref C/\o.data=.fields vs:=by
 obtain⟨s1,H1,g,hold,a0,I,u,ok,hh,na,fl,us,ho,hb⟩:=h.ex;obtain⟨oe,vs,h1,h2,h3,h4⟩:=fl.first;exact⟨oe,vs,h1,h2,h3⟩
theorem hJ.un(h:hJ X pins τ H a C s)(o:Option HO)(hO:∀q,o=some q->dk X.prog X.w (upd H a q) s.heap a q):Inv X pins τ (match o with|some q=>upd H a q|none=>H) s:=show _ by
 obtain⟨s1,H1,g,hold,a0,I,u,ok,hh,na,fl,us,ho,hb⟩:=h.ex;have I':s.heap=s.heap:=rfl;have fr:∀b∈frs X.stack,H b=none/\∃o,g.get? b=some o/\∀vs,o.data≠.fields vs:=by
  intro b hb;obtain⟨o,e,hn⟩:=(I.stack.mem hb).2;obtain⟨sl,e'⟩:=u.slot b o e (I.uE b hb) hb (by exact cQ);exact⟨u.free b o e (I.uE b hb) (by exact cQ),_,e',hn⟩
 have keep:∀b o,g.get? b=some o->b∉hold->b∉frs X.stack->s.heap.get? b=some o:=λb o e n1 n2=>fl.1 b o (xo _ e λz=>(dh.mp z).elim n1 n2);have slot:∀b o,g.get? b=some o->b∈frs X.stack->∃sl,s.heap.get? b=some {o with slots:=sl}:=λb o e hb=>by
  obtain⟨_,o',e',hn⟩:=fr b hb;rw[e]at e';cases e';exact us b o e hn
 have sO:∀b o,s1.heap.get? b=some o->b∉hold:=λb o e z=>by rw[(hh b z).2]at e;cases e
 have Uz:∀b o,s1.heap.get? b=some o->b≠a:=λb o e z=>by rw[z,na.2]at e;cases e
 have un:Un (frs X.stack) [] H1 H s1.heap s.heap:=by
  refine⟨λb o e n hf hx=>?_,λb o e n hf hx=>?_,u.free,λb o e hx=>?_,u.tups,u.gy,u.iA⟩
  ·exact keep b o (u.keep b o e n hf hx) (sO b o e) hf
  ·obtain⟨sl,e1⟩:=u.slot b o e n hf hx;obtain⟨sl',e2⟩:=slot b _ e1 hf;exact⟨sl',e2⟩
  ·obtain⟨o',e1⟩:=u.there b o e hx;by_cases hb:b∈frs X.stack
   ·obtain⟨sl,e2⟩:=slot b _ e1 hb;exact⟨_,e2⟩
   ·exact⟨_,keep b _ e1 (sO b o e) hb⟩
 have hok:cb X.prog X.w H s.heap:=by
  intro b o e;refine(ok b o e).stay (λc u hc q=>?_) (λ_ q=>q) λ_ _ q=>q;have sP:H c≠Option.none:=by
   rcases hc with rfl|z
   ·rw[e];simp
   ·rw[z];simp
  exact keep c u q (λz=>sP (hh c z).1) λz=>sP (fr c z).1
 cases o with
 |none=>exact I.rF ho un hok hb λ_ z=>nomatch z
 |some q =>
  have n1:∀b o,H b=some o->b≠a:=λb o e z=>by rw[z,na.1]at e;cases e
  refine I.rF ho ⟨un.keep,un.slot,λb o e n hx=>?_,un.there,λb xs e=>?_,λb o u e=>?_,λb ps e=>?_⟩ (λb o e=>?_) hb λ_ z=>nomatch z
  ·show upd H a q b=Option.none;rw[bg (Uz b o e)];exact un.free b o e n hx
  ·show upd H a q b=_;rw[bg (n1 b _ (un.tups b xs e))];exact un.tups b xs e
  ·show upd H a q b=_;rw[bg (n1 b _ (un.gy b o u e))];exact un.gy b o u e
  ·obtain⟨more,e1⟩:=un.iA b ps e;refine⟨more,?_⟩;show upd H a q b=_;rw[bg (n1 b _ e1)];exact e1
  ·have e:upd H a q b=some o:=e;by_cases hb:b=a
   ·subst hb;rw[d8]at e;cases e;exact hO _ rfl
   ·rw[bg hb]at e;refine(hok b o e).stay (λc u hc q=>q) (λc z=>?_) λc xs z=>?_
    ·show upd H a q c=_;rw[bg (n1 c _ z)];exact z
    ·show upd H a q c=_;rw[bg (n1 c _ z)];exact z
theorem hJ.inv(h:hJ X pins τ H a C s):Inv X pins τ H s:=h.un none λ_ z=>nomatch z
theorem hJ.lands{M:Model}{A:Around}{E:Value->Shared->Prop}{Q:Unit->Shared->Prop}(h:hJ X pins τ H a C s)(k:∀s',hJ X pins τ H a C s'->Q () s'):wpAny M A (setFlight (.ref a) none) Q E s:=show _ by
 obtain⟨s1,H1,g,hold,a0,I,u,ok,hh,na,fl,us,ho,hb⟩:=h.ex;exact lands_againW fl λh' vJ us'=>k _ ⟨s1,H1,g,hold,a0,I,u,ok,hh,na,vJ,us.trans us',ho,hb⟩
theorem UA{E:XK}{e:Value}{s':Shared}{M:Model}{Ex:Value->Shared->Prop}{Q:Unit->Shared->Prop}(hst:X.stack=X.env::X.outer)(hf:X.env.frame=some X.env.locals)(I:Inv X pins τ H1 s1)(cx:cc X.prog X.w X.stack H1 s1 E e s')
 (k:∀a C H s5,e=.ref a->E (.ref C) (some a) H->hJ X pins τ H a C s5->Q () s5) :
 wpAny M X.A (noteFrame e X.env) (λ_ s2=>wpAny M X.A (setFlight e none) Q Ex s2) Ex s':=show _ by
 obtain⟨a,C,T,H',he,hos,hb,u,hok,nK,ha,hT,na,nT,z⟩:=cx;subst he;have I':=I.rF hos u hok hb λ_ z=>nomatch z;have all:=I'.stack;obtain⟨oe,vs,a0,e1,e2,e3,e4,e5⟩:=nK.exc;obtain⟨oT,ts,t1,t2,t3⟩:=nK.tb;have hl:∀env∈X.stack,∀b,env.frame=some b->b∈[a,T]++frs X.stack:=λenv he b hb=>gQ _ (oP.mpr ⟨env,he,hb⟩);have fl:Dw (kg s'.heap ([a,T]++frs X.stack)) X.stack a (.ref C) a0 s'.heap:=⟨λb o q=>qU _ q,t6 _ (by simp),xK all hl,
  oe,vs,T,oT,ts,e1,⟨e2,e4⟩,e3,e5,t6 _ (by simp),nK.ne,t1,t2,t3⟩
 have vJ:=fl;rw[hst]at vJ;refine wpAny_looks_onW (by rw[I.ok.frames,hst]) hf vJ λh4 held UB=>?_;refine wpAny_landsW held λh5 sQ zB=>?_;rw[<-hst]at sQ;refine k a C H' _ rfl z ⟨s1,H1,s'.heap,[a,T],a0,I,u,hok,λb hb=>?_,⟨ha,na⟩,sQ,UB.trans zB,hos,hb⟩;rcases bJ.mp hb with rfl|hb
 ·exact⟨ha,na⟩
 ·rcases bJ.mp hb with rfl|hb
  ·exact⟨hT,nT⟩
  ·cases hb
theorem UC{args:List Value}{s3:Shared}{M:Model}{Ex:Value->Shared->Prop}{Q:Unit->Shared->Prop}(hst:X.stack=X.env::X.outer)(hf:X.env.frame=some X.env.locals)(I:Inv X pins τ H1 s1)(hx:Ds s1.heap s3.heap a (.ref C) args)
 (ho:s3.os=s1.os) (hg:s3.gens=s1.gens) (k:∀s5,hJ X pins τ H1 a C s5->Q () s5) :
 wpAny M X.A (noteFrame (.ref a) X.env) (λ_ s2=>wpAny M X.A (setFlight (.ref a) none) Q Ex s2) Ex s3:=show _ by
 obtain⟨t,he,htn,ht⟩:=hx.there;have all:=I.stack;have hl:∀env∈X.stack,∀b,env.frame=some b->b∈[]++frs X.stack:=λenv he b hb=>gQ _ (oP.mpr ⟨env,he,hb⟩);have ff:=xK (as:=[]++frs X.stack) all hl;have fresh:∀b,s1.heap.get? b=none->(kg s1.heap ([]++frs X.stack)).get? b=none:=λb hb=>by
  cases q:(kg s1.heap ([]++frs X.stack)).get? b with
  |none=>rfl
  |some o=>have:=qU _ q;rw[hb]at this;cases this
 have UD:=ff;rw[hst]at UD;unfold noteFrame;simp only[hf];refine ai (c9 he rfl (x:=.none) rfl ?_);rw[if_neg (by decide)];refine wpAny_entryW (base:=kg s1.heap ([]++frs (X.env::X.outer))) (outer:=X.outer) (by rw[I.ok.frames,hst]) ?_ hf he (λb o hb=>?_) ?_ rfl (by simp) (a0:=.ref t) rfl λh4 ⟨n1,n2,n3,n4⟩=>?_
 ·rw[<-hst];exact ff.of_keeps λb o hb _=>⟨o,hx.keeps b o hb,rfl⟩
 ·rw[<-hst]at hb;exact hx.keeps b o (qU _ hb)
 ·rw[<-hst];exact fresh a hx.new
 ·refine wpAny_landsW (base:=kg s1.heap ([]++frs (X.env::X.outer))) (l:=X.env::X.outer) (L:=X.env.locals) (cls:=.ref C) (a0:=.ref t) ⟨n1,by rw[<-hst];exact fresh a hx.new,n2,n3⟩ λh5 sQ zB=>?_;rw[<-hst]at sQ;have hbare:AllBare s3.gens:=by rw[hg];exact I.bare
  have hno:∀b∈([]:List Addr),H1 b=Option.none/\s1.heap.get? b=Option.none:=λb hb=>absurd hb cQ;exact k _ ⟨s1,H1,s1.heap,[],.ref t,I,Un.refl,I.hok,hno,⟨vE I.hok hx.new,hx.new⟩,sQ,((Np hx.keeps).trans n4).trans zB,ho,hbare⟩
end
theorem UE{K:aq}{M:Model}{A:Around}{E:Value->Shared->Prop}{s:Shared}{a C Dc:Addr}{o:Obj}{b:Bool}{Q:Bool->Shared->Prop}(X:K.In s.heap)(h1:s.heap.get? a=some o)(h2:o.cls=.ref C)(hk:ko K (.ref C) (.ref Dc)=some b)
 (hb:ko K (.ref Dc) (.type "BaseException")=some true) (q:Q b s):wpAny M A (excMatches (.ref a) (.ref Dc)) Q E s:=show _ by
 obtain⟨t1,t2,t3⟩:=Nr (M:=M) X hk;obtain⟨_,_,t4⟩:=Nr (M:=M) X hb;have LI:Dx M s.heap (isInstance (.ref Dc) (.type "tuple")) false:=t1.andThen (aiv tc_notTuple);have LE:Dx M s.heap (isExcClass (.ref Dc)) true:=t2.andThen (by simpa using t4);have LT:Dx M s.heap (typeOf (.ref a)) (.ref C):=h2▸(aiw h1).andThen .now;unfold excMatches;refine ai (LI.here ?_);rw[if_neg (by decide)];refine ai (aB ?_);dsimp only;rw[ue];refine ai (ai (ai (LE.here ?_)));rw[if_neg (by decide)];refine aB ?_;dsimp only;rw[xM];refine aB (ai (LT.here ?_));rw[ue];refine ai (ai (ai (t3.here ?_)));cases b
 ·rw[if_neg (by decide)];refine aB ?_;dsimp only;rw[xM];exact aB (aB q)
 ·rw[if_pos rfl];exact aB (aB (aB q))
section
variable{X:Cx}{W3:bK}{pins:List (Addr×Obj)}{τ:L2.St}{H:Hp}{s:Shared}
def vK(X:Cx)(hs:List ExceptHandler)(r:gE->bK):Prop:=∀(z:Zt) (pins:List (Addr×Obj)) (s:Shared) (τ:L2.St) (σ:aJ) (H:Hp) (S:af) (D:Ends) (D3:gE) (a C:Addr),hJ X pins τ H a C s->SR X.K H σ τ->Rl X.K z S H->CD X.K z H D3 D->r D3 σ C a S ->
 wpAny (model X.prog X.w) X.A (handleBy (.ref a) X.env hs) (SP X pins D) X.xe s
theorem UG:vK X [] (λ_ _ _ _ _=>False):=λ_ _ _ _ _ _ _ _ _ _ _ _ _ _ _ h=>h.elim
def G4(K:aq)(Dc:Addr)(t:b7)(r:gE->bK):gE->bK:=λD3 σ C a S=>∃b,ko K (.ref C) (.ref Dc)=some b/\if b=true then t D3 σ S else r D3 σ C a S
variable{x n:Str}{Dc:Addr}{i:Nat}{np pos:Pos}{b0:Stmt}{suite:List Stmt}{rest:List ExceptHandler}{t:b7}{r:gE->bK}
theorem UH(hm:X.mg x=some (.ref Dc))(hb:ko X.K (.ref Dc) (.type "BaseException")=some true)(hg:Gl X x)
 (ht:∀v,dc (X.caught v) dA (b0::suite) t) (hr:vK X rest r) (hd:(x==("__debug__":Str))=false:=by decide):vK X (.ExceptHandler (some (.Name x np)) none (b0::suite) pos::rest) (G4 X.K Dc t r):=show _ by
 intro z pins s τ σ H S D D3 a C jl hs l cd h;obtain⟨b,hk,h⟩:=h;have I:=jl.inv;obtain⟨o,vs,h1,h2,h3⟩:=jl.exc;refine wpAny_handleBy_cons (codeAny_handlers_test (rG (X:=X.caught (.ref a)) (G3 I) hg hm (UE I.fZ h1 h2 hk hb ?_) hd)) (by intro q;cases q);cases b with
 |false=>exact hr z pins s τ σ H S D D3 a C jl hs l cd h
 |true =>
  refine codeAny_handlers_suite (jl.lands λs6 h6=>?_);refine fo (ht (.ref a) (ZX.no _ z) pins s6 _ _ D (G3 h6.inv) ⟨_,_,_,hs,l,h,cd⟩) (λf s8 q=>?_) λ_ _ z=>z.elim;exact Ux I.ok q
def G5(tb:bK->b7)(r:gE->bK):b7:=λD3 σ S=>tb (r D3) D3 σ S
theorem G6{K:aq}{Z:Zt}{S S':af}{H H':Hp}{D3:gE}{D:Ends}(l:Rl K Z S H)(hc:CD K Z H D3 D)(l':Rl K (Z.at H) S' H'):CD K (Z.at H) H' D3 D:=show _ by
 have k0:Kp Z H H':=l'.old.eR λ_ z=>z;have out:∀{S2:af} {H2:Hp},Kp (Z.at H) H' H2->Rl K (Z.at H) S2 H2->Kp Z H H2/\Rl K Z S2 H2:=λk l2=>⟨k0.trans (k.eR λ_ z=>z),l2.out l (l'.old.trans k)⟩;exact⟨λσ' S2 bx H2 k s2 l2 q=>hc.nx _ _ _ _ (out k l2).1 s2 (out k l2).2 q,λσ' S2 bx H2 k s2 l2 q=>hc.bk _ _ _ _ (out k l2).1 s2 (out k l2).2 q,λσ' S2 bx H2 k s2 l2 q=>hc.ct _ _ _ _ (out k l2).1 s2 (out k l2).2 q,
  λd S2 v H2 k r l2 q=>hc.rt _ _ _ _ (out k l2).1 r (out k l2).2 q⟩
theorem UI{body:List Stmt}{h0:ExceptHandler}{hs:List ExceptHandler}{tb:bK->b7}(hst:X.stack=X.env::X.outer)(hf:X.env.frame=some X.env.locals)
 (hb:∀xe pn (W:bK),dc (X.tried xe pn) W body (tb W)) (hh:vK X (h0::hs) r):eM X W3 (.Try body (h0::hs) [] [] pos) (G5 tb r):=show _ by
 rintro Z pins s τ H D I ⟨D3,σ,S,UJ,l,ht,hc⟩;refine wpAny_Try_except ?_;have main:∀bx a C H' s5 σ' S',hJ X pins bx H' a C s5->SR X.K H' σ' bx->Rl X.K (Z.z.at H) S' H'->r D3 σ' C a S'->wpAny (model X.prog X.w) X.A (handleBy (.ref a) X.env (h0::hs)) (SP X pins D) X.xe s5 :=
  λbx a C H' s5 σ' S' jl sr l' w=>hh (Z.z.at H) pins s5 bx σ' H' S' D D3 a C jl sr l' (G6 l hc l') w
 let G7:Value->Shared->Prop:=λe s1=>wpAny (model X.prog X.w) X.A (noteFrame e X.env) (λ_ s2=>wpAny (model X.prog X.w) X.A (setFlight e none) (λ_ s3=>wpAny (model X.prog X.w) X.A (handleBy e X.env (h0::hs)) (SP X pins D) X.xe s3) X.xe s2) X.xe s1
 let zx:ZX (X.tried G7 (X.pn++pins)) (r D3):={
  z:=Z.z.at H
  E:=λτ cv oa H'=>∃C a σ S,cv=.ref C/\oa=some a/\SR X.K H' σ τ/\Rl X.K (Z.z.at H) S H'/\r D3 σ C a S
  pass:=λbx iB H1 s1 e s' I1 cx=>UA hst hf (pI I.ok I1) cx λa C H' s5 he hE jl=>by
   subst he;obtain⟨C',a',σ',S',e1,e2,sr,l',w⟩:=hE;cases e1;cases e2;exact main bx a C H' s5 σ' S' jl sr l' w
  rz:=λbx iB H1 s1 s3 a C args I1 hx ho hg hE=>UC hst hf (pI I.ok I1) hx ho hg λs5 jl=>by
   obtain⟨C',a',σ',S',e1,e2,sr,l',w⟩:=hE;cases e1;cases e2;exact main bx a C H1 s5 σ' S' jl sr l' w
  ce:=λσ τ C a S H' sr l' _ w=>⟨C,a,σ,S,rfl,rfl,sr,l',w⟩}
 refine fo (hb G7 (X.pn++pins) (r D3) zx [] s τ H D (Uw I) ⟨D3,σ,S,UJ,l.into,ht,G6 l hc l.into⟩) (λf s1 q=>?_) λ_ _ z=>z;have q:=Uy I.ok q;cases f with
 |next=>exact t7 q
 |brk=>exact q
 |cont=>exact q
 |ret u=>exact q
end
section
variable{σ:aJ}{S:af}{n b c:aJ->af->Prop}{rt:K3}{K:PySem.W.Frag}{C Dc a:Addr}{i:Nat}{t:b7}{r:gE->bK}
theorem UK{tb:bK->b7}(h:tb (r ⟨n,rt,b,c⟩) ⟨n,rt,b,c⟩ σ S):G5 tb r ⟨n,rt,b,c⟩ σ S:=h
theorem UL(hk:ko K (.ref C) (.ref Dc)=some true)(h:t ⟨n,rt,b,c⟩ σ S):G4 K Dc t r ⟨n,rt,b,c⟩ σ C a S:=⟨true,hk,by rw[if_pos rfl];exact h⟩
end
end E3
namespace E3
section
open PySem PySem.Spec PyProof.Rows L2 EE PySem.W Builtin Builtin.ObjectAttr Builtin.Getset_descriptor
end
open PySem PySem.Spec PyProof.Rows L2 EE
def vL(K:aq)(C:Addr):Bool:=qY K C vH "ValueError.__new__"&&cP K (.ref C) "__getattribute__"==some (some (.builtin "BaseException.__getattribute__"))&&cP K (.ref C) "__getattr__"==some none &&
 cP K (.ref C) "__class__"==some (some (.builtin "object.__class__"))&&PySem.W.specialIn K (.builtin "object.__class__") "__get__"==some (some (.builtin "getset_descriptor.__get__"))&&PySem.W.takesIn K (.builtin "object.__class__")==some true &&
 Nt K C (.type "object")==some true&&Nt K C (.type "BaseException")==some true&&ko K (.ref C) (.type "BaseException")==some true&&ko K (.ref C) (.type "ValueError")==some true&&(PySem.W.clsIn K C).isSome
inductive Rf where
 |err|text|twice|such|count|apart|many|way
 deriving DecidableEq
def Rf.nm:Rf->Str
 | .err=>"ErrandError" | .text=>"BadText" | .twice=>"Twice" | .such=>"NoSuch" | .count=>"WrongCount" | .apart=>"Apart" | .many=>"TooMany" | .way=>"NoWay"
def Rf.sub(i j:Rf):Bool:=decide (i=j)||decide (j=.err)
structure kQ(K:aq)(mg:Str->Option Value)(es:List Rf)(adr:Rf->Addr):Prop where
 bound:∀i∈es,mg i.nm=some (.ref (adr i))
 one:∀i∈es,vL K (adr i)=true
 two:∀i∈es,∀j∈es,ko K (.ref (adr i)) (.ref (adr j))=some (i.sub j)
section
variable{K:PySem.W.Frag}{mg:Str->Option Value}{es:List Rf}{adr:Rf->Addr}(R:kQ K mg es adr){i j:Rf}
include R
theorem kQ.exc(hi:i∈es):qY K (adr i) vH "ValueError.__new__"=true:=by
 have e:=R.one i hi;unfold vL at e;simp only[gq]at e;exact e.1.1.1.1.1.1.1.1.1.1
theorem kQ.base(hi:i∈es):ko K (.ref (adr i)) (.type "BaseException")=some true:=by
 have e:=R.one i hi;unfold vL at e;simp only[gq,beq_iff_eq]at e;exact e.1.1.2
end
def zC(K:aq)(l:List (Rf×Addr)):Bool:=l.all λp=>vL K p.2&&l.all λq=>ko K (.ref p.2) (.ref q.2)==some (p.1.sub q.1)
def sR(l:List (Rf×Addr))(i:Rf):Addr:=(l.lookup i).getD 0
theorem lookup_mem{i:Rf}:∀{l:List (Rf×Addr)},i∈l.map (·.1)->(i,sR l i)∈l
 |(j,b)::l,h=>by
  unfold sR;by_cases e:i=j
  ·subst e;simp[iq]
  ·have:(i==j)=false:=by simpa using e
   rw[iq,this];rcases bJ.mp h with z|z
   ·exact absurd z e
   ·exact .tail _ (lookup_mem (l:=l) z)
theorem UM{K:aq}{mg:Str->Option Value}{l:List (Rf×Addr)}(h:zC K l=true)(hm:∀i∈l.map (·.1),mg i.nm=some (.ref (sR l i))):kQ K mg (l.map (·.1)) (sR l):=show _ by
 unfold zC at h;simp only[List.all_eq_true,gq,beq_iff_eq]at h;exact⟨hm,λi hi=>(h _ (lookup_mem hi)).1,λi hi j hj=>(h _ (lookup_mem hi)).2 _ (lookup_mem hj)⟩
section
variable{P:Program}{w:World}{K:PySem.W.Frag}{mg:Str->Option Value}{base:Heap}{x:Str}{st:Stmt}{N ps:List Str}{k:Nat}
theorem av.zD{sp:aL}(C:av P w K mg base k x ps sp):av P w K mg base k x ps (λds S Q E=>sp ds S (λd S1=>∃S2,Sub S2 S1/\Q d S2) λC a S1=>∃S2,Sub S2 S1/\E C a S2):=show _ by
 obtain⟨f,fd,F0,r⟩:=C.ex;refine⟨f,fd,F0.imp λvs H Q E ⟨Z,ds,S,Q3,E3,h1,l,h3,cq,ce⟩=>⟨Z,ds,S,_,_,h1,l,h3,?_,?_⟩,r⟩
 ·rintro d S1 v H' k1 r1 l1 ⟨S2,hsub,q⟩;exact cq d S2 v H' k1 r1 (l1.sub hsub) q
 ·rintro C a S1 H' k1 l1 ha ⟨S2,hsub,q⟩;exact ce C a S2 H' k1 (l1.sub hsub) ha q
def vM(A:List D->af->(D->Addr->O->Prop)->(Addr->Prop)->Prop):aL:=λds S Q W=>A ds S (λd a o=>Q d (up S a o)) λC=>∀a,W C a S
theorem _root_.EE.az.vM{A:List D->af->(D->Addr->O->Prop)->(Addr->Prop)->Prop}(h:az K mg x st ps)(S:a8 N ps (ao st))(len:∀ds S q qx,A ds S q qx->ds.length=ps.length)
 (hbody:∀(f:Addr) (cdv:Value) (Ar:Around) (outer:List Env) (s:Shared) (H:Hp) (E:XK) (ds:List D) (S:af) (q:D->Addr->O->Prop) (qx:Addr->Prop),bP k (Ar.deeper (envOfC x (ao st) s.heap.objs.size f cdv))->A ds S q qx ->
  ∃t,dc (cX (cc P w) P w K mg base N x (ao st) f cdv Ar outer s H E) (λ_ C _ S'=>Sub S S'/\qx C) (aV st) t /\
   t {nx:=λ_ S'=>∃a o,Sub (up S a o) S'/\q .non a o,rt:=λd S'=>∃a o,Sub (up S a o) S'/\q d a o} (dY N ds) S):av P w K mg base (k+1) x ps (vM A):=show _ by
 have C:av P w K mg base (k+1) x ps (λds S Q E=>∃q qx,A ds S q qx/\(∀d S',(∃a o,Sub (up S a o) S'/\q d a o)->Q d S')/\∀C a S',Sub S S'/\qx C->E C a S'):=by
  refine h.vF S (λvs H Q E eY=>by obtain⟨q,qx,z,_⟩:=eY;exact len _ _ _ _ z) λf cdv Ar outer s H E ds S3 Q E3 hr ⟨q,qx,z,hq,hx⟩=>?_;obtain⟨t,h1,h2⟩:=hbody f cdv Ar outer s H E ds S3 _ _ hr z;exact⟨t,λd S'=>∃a o,Sub (up S3 a o) S'/\q d a o,λC _ S'=>Sub S3 S'/\qx C,h1,h2,hq,hx⟩
 exact C.zD.imp λds S Q E z=>⟨_,_,z,λd S1 nH=>by obtain⟨a,o,hs,hq⟩:=nH;exact⟨_,hs,hq⟩,λC a S1 hx=>⟨S,hx.1,hx.2 a⟩⟩
end
def _root_.EE.ak.d:ak->D
 | .aI=>.non
 | .pair l r=>.tup [l.d,r.d]
theorem UN:typeLookup (.type "list") "keys"=pure none:=by rw[m5,m6];kernel_rfl
theorem G8:typeLookup (.type "list") "__getattr__"=pure none:=by rw[m5,m6];kernel_rfl
section
variable{prog:Program}{w:World}{A:Around}{E:Value->Shared->Prop}{a:Addr}{its:Array Value}{n:Nat}
theorem UO(a:Addr)(u:Tok)(its:Array Value)(n:Nat):Meets (Builtin.«object.__getattribute__» ⟨[.ref a,.str "keys" u],[]⟩) (λA R s=>s.heap.get? a=some {cls:=.type "list",data:=.seq its n}/\raisesAttr (.ref a) "keys" A R s) :=
 Meets.of_wp λprog w A R s hs=>by
  obtain⟨hx,hs⟩:=hs;obtain⟨hp,g,d,tk,os⟩:=s;have hT:(⟨hp,g,d,tk,os⟩:Shared).TypeIs (.ref a) "list":=⟨_,hx,rfl⟩;have f4:=UN;have f5:=G8;unfold Builtin.«object.__getattribute__»
  repeat (any_goals (first|assumption|wp_step))
  exact wpAny_raiseAttrError hs.1 hs.2 (attrMsg_fits (by cbv) (by decide))
theorem UP{s:Shared}{Q:Option Value->Shared->Prop}(hh:A.handled=none)(hx:s.heap.get? a=some {cls:=.type "list",data:=.seq its n})
 (h:∀h' tk,(∀b ob,s.heap.get? b=some ob->h'.get? b=some ob)->Q none {s with heap:=h',toks:=tk}):wpAny (model prog w) A (getAttr? (.ref a) "keys") Q E s:=show _ by
 obtain⟨hp,g,d,tk,os⟩:=s;have hT:∀(tk:Nat),(⟨hp,g,d,tk,os⟩:Shared).TypeIs (.ref a) "list":=λ_=>⟨_,hx,rfl⟩;have f1:=sub_AttributeError;have f3:=Dy.lookup;have f4:=Dy.bind (.ref a);have f5:=G8;unfold getAttr? getAttrBy?
 repeat (any_goals (first|assumption|((with_reducible show wpAny _ _ (call (Value.builtin "list.__getattribute__") _ _) _ _ _);refine t_ Dy (hT _) F.entry_list_ga (F.args_list_getattribute_2 _ _) (UO a _ its n) ⟨hx,hh,λh' tk' e hx=>?_⟩)|wp_step))
 obtain⟨t',u',he⟩:=hx.there;show wpAny _ _ (getattributeRaised _ _ _ _ _ _ _) _ _ _;unfold getattributeRaised
 repeat (any_goals (first|assumption|wp_step))
 exact h _ _ hx.keeps
end
section
variable{prog:Program}{w:World}{A:Around}{E:Value->Shared->Prop}
theorem vN:plainId "dict.update.loop"=true:=by cbv
theorem G9:entryFor table "dict.update.loop"=some Builtin.«dict.update.loop»:=entryFor_of_fast (by kernel_rfl)
def pJ{κ:Type}[DecidableEq κ](kvs:List (κ×Value)):List (κ×Value)->List (κ×Value)
 |[]=>kvs
 |(k,v)::r=>pJ (stored kvs k v) r
inductive gh{κ:Type}[DecidableEq κ](knd:qR prog w κ)(h:Heap):List Value->List (κ×Value)->Prop where
 |nil:gh knd h [] []
 |cons {t:Addr} {key v:Value} {k:κ} {r:List Value} {ps:List (κ×Value)}:IsTup h t #[key,v]->knd.is k key=true->gh knd h r ps->gh knd h (.ref t::r) ((k,v)::ps)
theorem gh.keep{κ:Type}[DecidableEq κ]{knd:qR prog w κ}{h h':Heap}{d:Addr}{o:Obj}(hd:h.get? d=some o)(hc:o.cls=.type "dict")(hs:∀b ob,b≠d->h.get? b=some ob->h'.get? b=some ob):∀{r:List Value} {ps:List (κ×Value)},gh knd h r ps->gh knd h' r ps
 |_,_,.nil=>.nil
 |_,_,.cons ⟨ob,e,c,q⟩ hk t=>.cons ⟨ob,hs _ _ (by rintro rfl;rw[hd]at e;cases e;rw[hc]at c;exact absurd c (by decide)) e,c,q⟩ hk (gh.keep hd hc hs t)
theorem gh.kept{κ:Type}[DecidableEq κ]{knd:qR prog w κ}{h h':Heap}(hs:∀b ob,h.get? b=some ob->h'.get? b=some ob):∀{r:List Value} {ps:List (κ×Value)},gh knd h r ps->gh knd h' r ps
 |_,_,.nil=>.nil
 |_,_,.cons ⟨ob,e,c,q⟩ hk t=>.cons ⟨ob,hs _ _ e,c,q⟩ hk (gh.kept hs t)
theorem UQ{κ:Type}[DecidableEq κ]{knd:qR prog w κ}{d it l:Addr}{R:Result->Shared->Prop}(hh:A.handled=none)(vO:d≠it)(hdl:d≠l)(UR:it≠l) :
 ∀(r:List Value) (ps:List (κ×Value)) (i:Nat) (s:Shared) (kvs:List (κ×Value)) (its:Array Value),its.toList.drop i=r->gh knd s.heap r ps->s.heap.IsListIter it l i->s.heap.IsList l its->s.heap.DictOf knd d kvs->kvs.length+ps.length<=sizeLine ->
 (∀h' tk,h'.DictOf knd d (pJ kvs ps)->(∀b ob,b≠d->b≠it->s.heap.get? b=some ob->h'.get? b=some ob)->R (.ok (.ret .none)) {s with heap:=h',toks:=tk}) ->
 codeAny (model prog w) A (.builtin "dict.update.loop" ⟨[.ref d,.ref it,rawInt i,.none],[]⟩) R s:=show _ by
 intro r
 induction r with
 |nil =>
  intro ps i s kvs its hr hp hit hl hd hz hR;cases hp;refine Dz G9 ?_;rw[DA vN _];show wpAny _ A.in1 (pyNext (.ref it) >>= _) _ _ s;have hlen:its[i]?=none:=by
   refine Array.getElem?_eq_none ?_;have:=congrArg ki hr;simp at this;lia
  refine ai (MP hh hit hl hlen λh' eb=>?_);show wpAny _ _ (Builtin.Dict.addKeywords d [] >>= _) _ _ _;refine ai (aB (aB ?_));exact hR h' s.toks (hd.extBut eb vO) λb ob _ hb e=>eb b ob hb e
 |cons x r ih =>
  intro ps i s kvs its hr hp hit hl hd hz hR;cases hp with
  |@cons t key v k _ ps ht hk hp =>
  refine Dz G9 ?_;rw[DA vN _];show wpAny _ A.in1 (pyNext (.ref it) >>= _) _ _ s;have hx:its[i]?=some (.ref t):=by
   have:(its.toList.drop i)[0]?=some (.ref t):=by rw[hr];rfl
   simpa using this
  refine ai (MO hit hl hx λh1 st1 pK=>?_);have ht1:IsTup h1 t #[key,v]:=by
   obtain⟨ob,e,c,q⟩:=ht;refine⟨ob,(pK.2 t ?_).trans e,c,q⟩;rintro rfl;obtain⟨o2,e2,c2,_⟩:=hit;rw[e]at e2;cases e2;rw[c]at c2;exact absurd c2 (by decide)
  have hT1:(⟨h1,s.gens,s.drawn,s.toks,s.os⟩:Shared).TypeIs (.ref t) "tuple":=ht1.typeIs;obtain⟨o1,e1,c1,n1,q1⟩:=id ht1;have hd1:h1.DictOf knd d kvs:=hd.sameBut pK vO;refine ai (mV ?_);refine ai ?_;refine wpAny_tryCatch ?_;unfold Builtin.Dict.pairItems;refine ai (oQ hT1 ?_);rw[if_pos (by decide)];refine ai (jB (s:=⟨h1,s.gens,s.drawn,s.toks,s.os⟩) e1 q1 (aB ?_));show wpAny _ _ (holding [key,v] (dictSet d key v)) _ _ _;refine mV (wpAny_dictSet_pairs (s:=⟨h1,s.gens,s.drawn,s.toks,s.os⟩) hk hd1 (λh2 hd2 vP=>?_) (by have:((k,v)::ps).length=ps.length+1:=rfl;lia));have ei:(i:Int)+1=((i+1:Nat):Int):=by lia
  rw[ei];obtain⟨od,es,ep,ed,xd,_⟩:=id hd;have jl:(stored kvs k v).length<=kvs.length+1:=by
   unfold stored
   split
   ·rw[aG];lia
   ·simp
  refine aB ⟨xN vN _,ih ps (i+1) _ (stored kvs k v) its ?_ ?_ ?_ ?_ hd2 ?_ λh' tk hd' hk'=>?_⟩
  ·have:=congrArg List.tail hr;rw[List.tail_drop]at this;exact this
  ·refine gh.keep (h:=h1) (d:=d) ((pK.2 d vO).trans ed) xd.1 (λb ob hb e=>(vP.2 b hb).trans e) ?_;obtain⟨oi,ei,ci,di⟩:=id hit;clear ih hR hr
   induction hp with
   |nil=>exact .nil
   |@cons t' key' v' k' r' ps' ht' hk' hp' ih' =>
    refine .cons ?_ hk' (ih' (by simp at hz ⊢;lia));obtain⟨ob,e,c,q⟩:=ht';refine⟨ob,(pK.2 t' ?_).trans e,c,q⟩;rintro rfl;rw[e]at ei;cases ei;rw[c]at ci;exact absurd ci (by decide)
  ·exact st1.at λo e=>(vP.2 it (bt vO)).trans e
  ·obtain⟨o,e,c⟩:=hl;exact⟨o,(vP.2 l (bt hdl)).trans ((pK.2 l (bt UR)).trans e),c⟩
  ·have:((k,v)::ps).length=ps.length+1:=rfl;lia
  ·exact hR h' tk hd' λb ob h1 h2 e=>hk' b ob h1 h2 ((vP.2 b h1).trans ((pK.2 b h2).trans e))
theorem US:(Value.type "list" != Value.type "dict")=true:=by decide
theorem UT{κ:Type}[DecidableEq κ]{knd:qR prog w κ}{s:Shared}{l:Addr}{its:Array Value}{n:Nat}{ps:List (κ×Value)}{Q:Value->Shared->Prop}(hh:A.handled=none)
 (hl:s.heap.get? l=some {cls:=.type "list",data:=.seq its n}) (hp:gh knd s.heap its.toList ps) (hz:ps.length<=sizeLine)
 (h:∀h' tk,h'.DictOf knd s.heap.objs.size (pJ [] ps)->(∀b ob,s.heap.get? b=some ob->h'.get? b=some ob)->Q (.ref s.heap.objs.size) {s with heap:=h',toks:=tk}) :
 wpAny (model prog w) A (call (.type "dict") [.ref l]) Q E s:=show _ by
 refine callType_codes (Q₁:=λobj s₁=>obj=.ref s.heap.objs.size/\s₁={s with heap:=s.heap.push {cls:=.type "dict",data:=.dict #[]}}) F.kt_called_dict (F.kt_typeCall_dict_1 _) F.entry_dict_init (kt_code_dict_new _ ⟨rfl,rfl⟩) ?_;rintro obj s₁ ⟨rfl,rfl⟩;have hnew:(s.heap.push {cls:=.type "dict",data:=.dict #[]}).DictOf knd s.heap.objs.size []:=Nc s.heap;have hl1:(s.heap.push {cls:=.type "dict",data:=.dict #[]}).get? l=some {cls:=.type "list",data:=.seq its n}:=bA _ hl;refine⟨hnew.typeIs,F.args_dict_init_2 _ _,?_⟩;unfold Builtin.«dict.__init__»;refine ai ?_;unfold Builtin.Dict.selfAndRest;refine ai (wpAny_notOrdered_dict hnew.typeIs ?_);show wpAny _ _ (pure (s.heap.objs.size,[Value.ref l])) _ _ _;refine aB ?_;show wpAny _ _ (Nu "dict.__init__" s.heap.objs.size (.ref l) [] .none) _ _ _;unfold Nu;refine ai (oQ (T:="list") ⟨_,hl1,rfl⟩ ?_);rw[if_pos US];refine ai (UP (by first|exact hh|(show A.handled=none;exact hh)) hl1 λh2 tk2 k2=>?_);rw[if_pos (show(none:Option Value).isNone=true from rfl)];refine ai (ke ?_);have hl2:h2.get? l=some {cls:=.type "list",data:=.seq its n}:=k2 _ _ hl1;have UU:h2.IsList l its:=⟨_,hl2,rfl,n,rfl⟩;refine ai (CI (s:={heap:=h2,gens:=s.gens,drawn:=s.drawn,toks:=tk2,os:=s.os}) UU ?_);have hlt:s.heap.objs.size<h2.objs.size:=by
  have:=k2 s.heap.objs.size _ (c7 _ rfl);exact bG this
 have hll:l<s.heap.objs.size:=bG hl;refine aB ⟨xN vN _,UQ (A:=A.in1) (d:=s.heap.objs.size) (it:=h2.objs.size) (l:=l) (knd:=knd) (show A.in1.handled=none from hh) (cW hlt) (kh hll) (kh (Dk hll hlt)) its.toList ps 0 _ [] its rfl ?_ ⟨{cls:=.type "list_iterator",data:=.fields #[.ref l,.int 0 0]},c7 _ rfl,rfl,rfl⟩ ?_ ?_ ?_ λh' tk hd' hk'=>?_⟩
 ·clear hl h;have kk:∀b ob,s.heap.get? b=some ob->(h2.push {cls:=.type "list_iterator",data:=.fields #[.ref l,rawInt 0]}).get? b=some ob:=λb ob e=>bA _ (k2 b ob (bA _ e));exact hp.kept kk
 ·exact⟨_,bA _ hl2,rfl,n,rfl⟩
 ·obtain⟨o,es,ep,e,r⟩:=hnew;exact⟨o,es,ep,bA _ (k2 _ _ e),r⟩
 ·simpa using hz
 ·refine⟨rfl,h h' tk hd' λb ob e=>hk' b ob ?_ ?_ (bA _ (k2 b ob (bA _ e)))⟩
  ·exact cW (bG e)
  ·exact cW (Dk (bG e) hlt)
end
section
variable{X:Cx}{W3:bK}
theorem G_:∀{more:List (Key×V)} {rs:List (Key×Value)} {kvs:List (Key×V)} {vs:List (Key×Value)},KV more rs->KV kvs vs->KV (more.foldl (λacc kv=>putK acc kv.1 kv.2) kvs) (E3.pJ vs rs)
 |_,_,_,_,.nil,h=>h
 |_,_,_,_,.cons (a:=p) (b:=q) ⟨e,r⟩ t,h=>by
  obtain⟨k,v⟩:=p;obtain⟨k',v'⟩:=q;obtain rfl:k=k':=e;simp only[oV,E3.pJ];exact G_ t (KV.put h k r)
theorem Ha:∀(more kvs:List (Key×V)),(more.foldl (λacc kv=>putK acc kv.1 kv.2) kvs).length<=kvs.length+more.length
 |[],kvs=>by simp
 |p::r,kvs=>by
  simp only[oV,bp];have h1:=Ha r (putK kvs p.1 p.2);have h2:=yK kvs p.1 p.2;lia
theorem pairs_at{pins:List (Addr×Obj)}{σ:L2.St}{H:Hp}{s:Shared}(I:Inv X pins σ H s):∀{kvs:List (Key×V)} {xs:List V} {us:List Value},Paired (λ(kv:Key×V) (x:V)=>∃t,x=.ref t/\bq X.K H t [kV kv.1,kv.2]) kvs xs->Vals xs us ->
 ∃ps,gh (fL X.prog X.w) s.heap us ps/\KV kvs ps
 |_,_,_,.nil,.nil=>⟨[],.nil,.nil⟩
 |_,_,_,.cons (a:=kv) ⟨t,e,ht⟩ q,.cons r rr=>by
  subst e;cases r;obtain⟨ps,h1,h2⟩:=pairs_at I q rr;obtain⟨its,rv,p,_⟩:=I.tuple ht;cases rv with
  |cons ra rv =>
   cases rv with
   |cons rb rv =>
    cases rv;exact⟨(kv.1,_)::ps,.cons p (u7 ra) h1,.cons ⟨rfl,rb⟩ h2⟩
theorem UW(hc:X.calm=true:=by rfl):ja X (.type "dict") (λxs H Q=>∃l ys kvs,xs=[.ref l]/\H l=some (.lst ys)/\Paired (λ(kv:Key×V) (x:V)=>∃t,x=.ref t/\bq X.K H t [kV kv.1,kv.2]) kvs ys /\
 ∀p,H p=none->Q (.ref p) (upd H p (.dK (kvs.foldl (λacc kv=>putK acc kv.1 kv.2) [])))):=show _ by
 intro pins s σ H xs us Q I r h;obtain⟨l,ys,kvs,rfl,hH,hp,q⟩:=h;obtain⟨u,rfl,ru⟩:=vals1 r;cases ru;obtain⟨z,its,n,rv,hl,e⟩:=I.nv hH;obtain⟨ps,h1,h2⟩:=pairs_at I hp rv;have hl1:kvs.length=ys.length:=Paired.length hp;have hl2:kvs.length=ps.length:=KV.length h2;refine UT (knd:=fL X.prog X.w) (I.ok.hd hc) e (by simpa using h1) (by lia) λh' tk hd' hk'=>?_;have fr:=I.fresh;refine⟨.ref s.heap.objs.size,_,I.laid (t':=tk) hk' (aT _) ?_,rfl,q _ fr⟩;have hkv:KV (kvs.foldl (λacc kv=>putK acc kv.1 kv.2) []) (pJ [] ps):=G_ h2 .nil;have hle:=Ha kvs [];exact⟨by simp at hle;lia,beq_eq_false_iff_ne.mpr (kh I.big),_,hkv,hd'⟩
def Hb:List D->af->K3->Prop:=λxs S Q=>∃(a:Addr) (kvs:List (Key×D)),xs=[.ref a]/\S a=some (.lst (kvs.map λkv:Key×D=>D.tup [kD kv.1,kv.2]))/\∀p,S p=none->Q (.ref p) (up S p (.b_ (kvs.foldl (λacc kv=>putD acc kv.1 kv.2) [])))
theorem UX{K:aq}{H:Hp}:∀{kvs:List (Key×D)} {ys:List V},aX K H (kvs.map λkv:Key×D=>D.tup [kD kv.1,kv.2]) ys->∃ws:List (Key×V),KR K H kvs ws/\Paired (λ(kv:Key×V) (x:V)=>∃t,x=.ref t/\bq K H t [kV kv.1,kv.2]) ws ys:=show _ by
 intro kvs
 induction kvs with
 |nil=>intro ys h;cases h;exact⟨[],.nil,.nil⟩
 |cons kv kvs ih =>
  intro ys h;rw[bL]at h;cases h with
  |cons r q =>
   obtain⟨ws,h2,h3⟩:=ih q;cases r with
   |tup h1 h4 =>
    cases h4 with
    |cons ra h4 =>
     cases h4 with
     |cons rb h4 =>
      cases h4;have e:=zb ra;subst e;exact⟨(kv.1,_)::ws,.cons ⟨rfl,rb⟩ h2,.cons ⟨_,rfl,h1⟩ h3⟩
theorem KR.fold{K:aq}{H:Hp}:∀{kvs:List (Key×D)} {ws:List (Key×V)} {as:List (Key×D)} {bs:List (Key×V)},KR K H kvs ws->KR K H as bs->KR K H (kvs.foldl (λacc kv=>putD acc kv.1 kv.2) as) (ws.foldl (λacc kv=>putK acc kv.1 kv.2) bs)
 |_,_,_,_,.nil,h=>h
 |_,_,_,_,.cons (a:=p) (b:=q) ⟨e,r⟩ t,h=>by
  obtain⟨k,v⟩:=p;obtain⟨k',v'⟩:=q;obtain rfl:k=k':=e;simp only[oV];exact KR.fold t (KR.put h k r)
theorem UY{K:aq}:jT K Hb (λxs H Q=>∃l ys kvs,xs=[.ref l]/\H l=some (.lst ys)/\Paired (λ(kv:Key×V) (x:V)=>∃t,x=.ref t/\bq K H t [kV kv.1,kv.2]) kvs ys /\
 ∀p,H p=none->Q (.ref p) (upd H p (.dK (kvs.foldl (λacc kv=>putK acc kv.1 kv.2) [])))):=show _ by
 intro Z ds S Q3 vs H Q r l h c;obtain⟨a,kvs,rfl,e,q⟩:=h;cases r with
 |cons r rr =>
  cases rr;cases r;obtain⟨ys,h1,h2⟩:=l.obj a _ e;obtain⟨ws,h3,h4⟩:=UX h2;refine⟨a,ys,ws,rfl,h1,h4,λp hp=>?_⟩;obtain⟨hs,hz⟩:=l.fresh hp;have k:=Kp.new (o:=HO.dK (ws.foldl (λacc kv=>putK acc kv.1 kv.2) [])) hp hz;refine c _ _ _ _ k (.ref p) (l.put (o:=.b_ (kvs.foldl (λacc kv=>putD acc kv.1 kv.2) [])) k hz ⟨_,d8,?_⟩) (q p hs);have h5:KR K (upd H p (.dK (ws.foldl (λacc kv=>putK acc kv.1 kv.2) []))) kvs ws:=Paired.jN h3 λp q z=>⟨z.1,z.2.mono k⟩;exact KR.fold h5 .nil
theorem UZ{i o:Expr}{td ty:TE}(hu:X.A.units+5<cLine)(hi:PE X i ty)(ho:PE X o td):PC X .NotIn i o (λσ H Q=>ty σ H λy H1=>td σ H1 λx H2=>(∃a r,x=.ref a/\iD H2 a y r/\Q (.bl (!r.isSome)) H2)∨uW X.K true y x H2 Q):=show _ by
 intro pins s σ H Q I h;refine bin hi ho I h λv u s2 y x H2 I2 ry rx q=>?_;rcases q with⟨a,r,rfl,g,q⟩|q
 ·cases rx;exact Rh hu I2 g ry λs' I'=>⟨.bl _,H2,I',rfl,q⟩
 ·exact EX pins s2 σ H2 y x v u Q I2 ry rx q
def vQ(Q:K3)(x y:D)(S:af):Prop:=(∃a kvs k,x=.ref a/\S a=some (.b_ kvs)/\y=kD k/\Q (.bl (!(du kvs k).isSome)) S)∨∃ds,x=.tup ds/\jW y=true/\ds.all jW=true/\Q (.bl (!memD y ds)) S
def Hc(ty td:aN):aN:=λσ S Q=>ty σ S λy S1=>td σ S1 λx S2=>vQ Q x y S2
theorem U0{i o:Expr}{td ty:aN}{pos:Pos}(hu:X.A.units+5<cLine)(hi:aK X W3 i ty)(ho:aK X W3 o td)(h1:behindInMarks .NotIn o=false:=by with_unfolding_all rfl):eJ X W3 (.Compare i [.NotIn] [o] pos) (je (Hc ty td)) :=
 λZ=>PT.imp (OD (UZ hu (hi Z) (ho Z)) h1) λτ H Q eY=>by
  obtain⟨σ,S,Q3,hs,hr,ht,hc⟩:=eY;refine⟨σ,S,_,hs,hr,ht,λy S1 w H1 k1 r1 l1 q1=>⟨σ,S1,_,hs.mono k1,l1,q1,λx S2 v H2 k2 r2 l2 q2=>?_⟩⟩;rcases q2 with⟨a,kvs,k,rfl,e,rfl,b,eb,q⟩|⟨ds,rfl,fy,fd,b,eb,q⟩
  ·cases r2;obtain⟨ws,g,kr⟩:=iD.down l2 e (r1.mono k2);refine .inl ⟨a,_,rfl,g,b,?_,hc _ S2 H2 (k1.trans k2) l2 q⟩;rw[<-(kr.val k).2];cases eb;rfl
  ·cases r2 with
   |tup h3 h4 =>
    obtain⟨e1,f1⟩:=zm (r1.mono k2) fy;obtain⟨e2,f2⟩:=vm h4 fd;subst e1;subst e2;refine .inr ⟨_,_,rfl,.inr h3,f1,f2,b,?_,hc _ S2 H2 (k1.trans k2) l2 q⟩;cases eb;rfl
section
variable{σ:aJ}{S:af}{Q:K3}{te ta:aN}
theorem U1(h:te σ S λy S1=>ta σ S1 λx S2=>vQ Q x y S2):Hc te ta σ S Q:=h
theorem U2{a:Addr}{kvs:List (Key×D)}{z:Str}(hS:S a=some (.b_ kvs))(q:Q (.bl (!(du kvs (.inr z)).isSome)) S):vQ Q (.ref a) (.str z) S:=.inl ⟨a,kvs,.inr z,rfl,hS,rfl,q⟩
theorem U3{xs:List Str}{z:Str}(q:Q (.bl (!decide (z∈xs))) S):vQ Q (.tup (xs.map D.str)) (.str z) S:=.inr ⟨_,rfl,rfl,Gp xs,by rw[Gn];exact q⟩
theorem U4{x:D}{ds:List D}(hx:jW x=true)(hd:ds.all jW=true)(q:Q (.bl (memD x ds)) S):zo false x (.tup ds) S Q:=⟨ds,.inr rfl,hx,hd,q⟩
theorem U5{a:Addr}{kvs:List (Key×D)}(hS:S a=some (.lst (kvs.map λkv:Key×D=>D.tup [kD kv.1,kv.2])))(q:∀p,S p=none->Q (.ref p) (up S p (.b_ (kvs.foldl (λacc kv=>putD acc kv.1 kv.2) [])))):Hb [.ref a] S Q:=⟨a,kvs,rfl,hS,q⟩
end
theorem zE{b:Bool}{A B:Prop}(h:b=true)(q:A):if b=true then A else B:=by rw[if_pos h];exact q
theorem zF{b:Bool}{A B:Prop}(h:b=false)(q:B):if b=true then A else B:=by rw[if_neg (by rw[h];exact cV)];exact q
end
theorem fB{n:Nat}(h:n<=1000000):n<=sizeLine:=cC h (by decide)
theorem c6{n:Nat}(h:n<=1000000):n<sizeLine:=xC h (by decide)
theorem zG{α:Type}{xs:List α}{i:Int}{v:α}(h0:0<=i)(h:xs[i.toNat]?=some v):b5 xs i=some v:=by
 have e:i=((i.toNat:Nat):Int):=by lia
 rw[e];exact fP h
theorem U6{α:Type}{x:α}{xs:List α}:b5 (x::xs) 0=some x:=fP (j:=0) rfl
theorem U7{α:Type}{x y z:α}{xs:List α}:b5 (x::y::z::xs) 2=some z:=fP (j:=2) rfl
theorem U8{n:Nat}{i:Int}{j:Nat}(h:i=(j:Int))(hj:j<n):gB n i=some j:=by
 subst h;unfold gB;rw[if_pos (by lia),if_pos (by lia)];simp
theorem Hd{α:Type}{x:α}{xs:List α}:gB (x::xs).length 0=some 0:=U8 rfl (by simp)
theorem pL{xs:List D}{p:Int}(h0:0<=p):cutD xs none (some p)=xs.take p.toNat:=by
 unfold cutD;have e:p=((p.toNat:Nat):Int):=by lia
 rw[e,HT.rV,HT.rW,xF,ud,<-e];by_cases h:p.toNat<=xs.length
 ·rw[uj h]
 ·rw[xO (by lia),jH (by lia),jH (by lia)]
theorem pM{xs:List D}{p:Int}(h0:0<=p):cutD xs (some p) none=xs.drop p.toNat:=by
 unfold cutD;have e:p=((p.toNat:Nat):Int):=by lia
 rw[e,HT.rV,HT.rW,<-e];by_cases h:p.toNat<=xs.length
 ·rw[uj h,jH (by rw[fg];lia)]
 ·rw[xO (by lia),uk (aT _),uk (by lia)];simp
theorem vR{cs:List Nat}{p:Int}(h0:0<=p):kK cs none (some p)=cs.take p.toNat:=by
 unfold kK;have e:p=((p.toNat:Nat):Int):=by lia
 rw[e,HT.rV,HT.rW,xF,ud,<-e];by_cases h:p.toNat<=cs.length
 ·rw[uj h]
 ·rw[xO (by lia),jH (by lia),jH (by lia)]
theorem He{cs:List Nat}{p:Int}(h0:0<=p):kK cs (some p) none=cs.drop p.toNat:=by
 unfold kK;have e:p=((p.toNat:Nat):Int):=by lia
 rw[e,HT.rV,HT.rW,<-e];by_cases h:p.toNat<=cs.length
 ·rw[uj h,jH (by rw[fg];lia)]
 ·rw[xO (by lia),uk (aT _),uk (by lia)];simp
def mz(x:Str):Prop:=∃cs:List Nat,x=textOf cs/\1<=cs.length/\cs.length<=8/\∀c∈cs,97<=c/\c<=122
theorem U9{a b:List Nat}(h:textOf a=textOf b):a=b:=by
 have:=congrArg (λx:Str=>x.cps.toList) h;simpa[textOf]using this
theorem mB(cs:List Nat):(textOf cs).cps.toList=cs:=by simp[textOf]
theorem Hf:("abcdefghijklmnopqrstuvwxyz":Str)=textOf (um 97 26):=by cbv
theorem Hg:("abcdefghijkl":Str)=textOf (um 97 12):=by cbv
theorem vT:("abcd":Str)=textOf [97,98,99,100]:=by cbv
theorem Hh{n:Nat}{i:Int}(h0:0<=i)(h1:i<n):b5 (um 97 n) i=some (97+i.toNat):=by
 refine zG h0 ?_;rw[List.getElem?_range' (by lia)];simp
def hU(cs:List Nat)(p k:Nat):List Nat:=(cs.take p++[97+k])++cs.drop p
def jm(cs:List Nat)(k:Nat):List Nat:=cs.take 4++[97,98,99,100].take (k+1)
def pN(cs:List Nat)(k:Nat):List Nat:=[97,98,99,100].drop (3-k)++cs.take 4
def vU(cs:List Nat):Prop:=∀c∈cs,97<=c/\c<=122
structure Row(n:Nat)(xs:List Str):Prop where
 len:xs.length=n
 nd:xs.Nodup
 ok:∀x∈xs,mz x
theorem zI{n:Nat}{f:Nat->List Nat}(inj:∀i j,i<n->j<n->f i=f j->i=j)(ok:∀i,i<n->mz (textOf (f i))):Row n ((aZ n).map λk=>textOf (f k)):=show _ by
 refine⟨by simp,?_,λx hx=>?_⟩
 ·rw[DB,Nv];have:=List.nodup_range (n:=n);rw[DB]at this;refine Nw (λ{a b} ha hb hab e=>hab ?_) this;exact inj a b (ik.mp ha) (ik.mp hb) (U9 e)
 ·obtain⟨k,hk,rfl⟩:=bO.mp hx;exact ok k (ik.mp hk)
theorem U_{n p:Nat}{cs:List Nat}(hl:vU cs)(h7:cs.length<=7)(hn:n<=12):Row n ((aZ n).map λk=>textOf (hU cs p k)):=show _ by
 refine zI (λi j hi hj e=>?_) λi hi=>⟨_,rfl,?_,?_,?_⟩
 ·unfold hU at e;have e2:=List.append_inj_left' e rfl;have e3:=List.append_inj_right e2 rfl;simp at e3;exact e3
 ·simp[hU];lia
 ·simp only[hU,aR,dP,bp,cm,fg];lia
 ·intro c hc;simp only[hU,dh,ft]at hc;rcases hc with(hc|rfl)|hc
  ·exact hl c (uo hc)
  ·lia
  ·exact hl c (DC hc)
theorem row2{n:Nat}{cs:List Nat}(hl:vU cs)(hn:n<=4):Row n ((aZ n).map λk=>textOf (jm cs k)):=show _ by
 refine zI (λi j hi hj e=>?_) λi hi=>⟨_,rfl,?_,?_,?_⟩
 ·have:=congrArg ki e;simp only[jm,aR,dP,bp,cm]at this;lia
 ·simp only[jm,aR,dP,bp,cm];lia
 ·simp only[jm,aR,dP,bp,cm];lia
 ·intro c hc;simp only[jm,dh]at hc;rcases hc with hc|hc
  ·exact hl c (uo hc)
  ·have:=uo hc;simp only[bJ,cQ,or_false]at this;lia
theorem U'{n:Nat}{cs:List Nat}(hl:vU cs)(hn:n<=4):Row n ((aZ n).map λk=>textOf (pN cs k)):=show _ by
 refine zI (λi j hi hj e=>?_) λi hi=>⟨_,rfl,?_,?_,?_⟩
 ·have:=congrArg ki e;simp only[pN,aR,dP,fg,bp,cm]at this;lia
 ·simp only[pN,aR,dP,fg,bp,cm];lia
 ·simp only[pN,aR,dP,fg,bp,cm];lia
 ·intro c hc;simp only[pN,dh]at hc;rcases hc with hc|hc
  ·have:=DC hc;simp only[bJ,cQ,or_false]at this;lia
  ·exact hl c (uo hc)
theorem Row.turn{n t:Nat}{xs:List Str}(r:Row n xs):Row n (xs.drop t++xs.take t):=show _ by
 have e:=DD t xs;have pm:(xs.drop t++xs.take t).Perm xs:=by
  have:=List.perm_append_comm (l₁:=xs.drop t) (l₂:=xs.take t);rw[e]at this;exact this
 exact⟨pm.length_eq.trans r.len,pm.nodup_iff.mpr r.nd,λx hx=>r.ok x (pm.mem_iff.mp hx)⟩
inductive Sy where
 |name (x:Str)|aI|pair (a b:Sy)|left (a:Sy)|right (a:Sy)|fork (a b c:Sy)|send (x:Str) (as:List Sy)
mutual
def Sy.d:Sy->D
 | .name x=>.tup [.str "name",.str x]
 | .aI=>.tup [.str "bud"]
 | .pair a b=>.tup [.str "pair",a.d,b.d]
 | .left a=>.tup [.str "left",a.d]
 | .right a=>.tup [.str "right",a.d]
 | .fork a b c=>.tup [.str "fork",a.d,b.d,c.d]
 | .send x as=>.tup [.str "send",.str x,.tup (Sy.ds as)]
def Sy.ds:List Sy->List D
 |[]=>[]
 |a::as=>a.d::Sy.ds as
end
mutual
def Sy.deep:Sy->Nat
 | .name _=>1
 | .aI=>1
 | .pair a b=>max a.deep b.deep+1
 | .left a=>a.deep+1
 | .right a=>a.deep+1
 | .fork a b c=>max a.deep (max b.deep c.deep)+1
 | .send _ as=>Sy.d7 as+1
def Sy.d7:List Sy->Nat
 |[]=>0
 |a::as=>max a.deep (Sy.d7 as)
end
def Sy.parts:Sy->List Sy
 | .name _=>[]
 | .aI=>[]
 | .pair a b=>[a,b]
 | .left a=>[a]
 | .right a=>[a]
 | .fork a b c=>[a,b,c]
 | .send _ as=>as
mutual
def Sy.pre:Sy->List Sy
 | .name x=>[.name x]
 | .aI=>[.aI]
 | .pair a b=>.pair a b::(a.pre++b.pre)
 | .left a=>.left a::a.pre
 | .right a=>.right a::a.pre
 | .fork a b c=>.fork a b c::(a.pre++(b.pre++c.pre))
 | .send x as=>.send x as::Sy.a9 as
def Sy.a9:List Sy->List Sy
 |[]=>[]
 |a::as=>a.pre++Sy.a9 as
end
theorem Sy.pO(s:Sy):s.pre=s::Sy.a9 s.parts:=by
 cases s<;>simp[Sy.pre,Sy.parts,Sy.a9]
theorem Sy.nM:∀as:List Sy,Sy.ds as=as.map Sy.d
 |[]=>rfl
 |a::as=>by simp only[Sy.ds,bL,Sy.nM as]
theorem Sy.sS:∀as bs:List Sy,Sy.a9 (as++bs)=Sy.a9 as++Sy.a9 bs
 |[],bs=>by simp[Sy.a9]
 |a::as,bs=>by simp[Sy.a9,Sy.sS as bs]
mutual
def Sy.wf(ar:Str->Option Nat)(ps:List Str):Sy->Prop
 | .name x=>x∈ps
 | .aI=>True
 | .pair a b=>a.wf ar ps/\b.wf ar ps
 | .left a=>a.wf ar ps
 | .right a=>a.wf ar ps
 | .fork a b c=>a.wf ar ps/\b.wf ar ps/\c.wf ar ps
 | .send x as=>ar x=some as.length/\1<=as.length/\as.length<=4/\Sy.kR ar ps as
def Sy.kR(ar:Str->Option Nat)(ps:List Str):List Sy->Prop
 |[]=>True
 |a::as=>a.wf ar ps/\Sy.kR ar ps as
end
theorem Sy.zJ{ar:Str->Option Nat}{ps:List Str}:∀{as:List Sy},Sy.kR ar ps as↔∀a∈as,a.wf ar ps
 |[]=>by simp[Sy.kR]
 |a::as=>by simp[Sy.kR,Sy.zJ (as:=as)]
theorem Sy.zK:∀{as:List Sy} {n:Nat},(∀a∈as,a.deep<=n)->Sy.d7 as<=n
 |[],_,_=>bV _
 |a::as,n,h=>by
  simp only[Sy.d7];have h1:=h a cL;have h2:=Sy.zK (as:=as) (n:=n) λb hb=>h b (cO _ hb);lia
theorem Sy.Hi:∀{as:List Sy} {a:Sy},a∈as->a.deep<=Sy.d7 as
 |b::as,a,h=>by
  simp only[Sy.d7];rcases bJ.mp h with rfl|h
  ·lia
  ·have:=Sy.Hi h;lia
def Sy.sends(s:Sy):Nat:=(s.pre.filter λa=>match a with | .send _ _=>true|_=>false).length
def Sy.bT(as:List Sy):Nat:=((Sy.a9 as).filter λa=>match a with | .send _ _=>true|_=>false).length
theorem Sy.gi(a:Sy)(as:List Sy):Sy.bT (a::as)=a.sends+Sy.bT as:=by simp[Sy.bT,Sy.sends,Sy.a9]
theorem Sy.Va(as bs:List Sy):Sy.bT (as++bs)=Sy.bT as+Sy.bT bs:=by simp[Sy.bT,Sy.sS]
def cM:List Str->List Nat->Str->Option Nat
 |x::xs,n::ns,y=>if y=x then some n else cM xs ns y
 |_,_,_=>none
theorem sT:∀{xs:List Str} {ns:List Nat} {i:Nat} {x:Str} {n:Nat},xs.Nodup->xs[i]?=some x->ns[i]?=some n->cM xs ns x=some n
 |[],_,_,_,_,_,h,_=>by simp at h
 |_::_,[],_,_,_,_,_,h=>by simp at h
 |y::xs,m::ns,0,x,n,_,h1,h2=>by
  simp at h1 h2;subst h1 h2;simp[cM]
 |y::xs,m::ns,i+1,x,n,nd,h1,h2=>by
  have hx:x∈xs:=c8 (by simpa using h1);have hne:x≠y:=λz=>(iZ.mp nd).1 (z▸hx);rw[cM,if_neg hne];exact sT (iZ.mp nd).2 (by simpa using h1) (by simpa using h2)
structure Er where
 name:Str
 ps:List Str
 body:Sy
def Er.d(e:Er):D:=.tup [.str e.name,.tup (e.ps.map D.str),e.body.d]
end E3
namespace E3
open PySem PySem.Spec PyProof.Rows L2 EE
theorem Vb{α:Type}{xs:List α}(c:Int)(h:0<xs.length):∃(j:Nat) (v:α),c%(xs.length:Int)=(j:Int)/\j<xs.length/\xs[j]?=some v:=show _ by
 have h0:=gS c (show(xs.length:Int)≠0 by lia);have h1:=qZ c (show(0:Int)<xs.length by lia);have hj:(c%(xs.length:Int)).toNat<xs.length:=by lia
 exact⟨(c%(xs.length:Int)).toNat,xs[(c%(xs.length:Int)).toNat],by lia,hj,aU hj⟩
theorem vV{α:Type}{f:α->D}{xs:List α}(c:Int)(h:0<xs.length):∃(j:Nat) (v:α),c%((xs.map f).length:Int)=(j:Int)/\xs[j]?=some v/\b5 (xs.map f) (c%((xs.map f).length:Int))=some (f v):=show _ by
 obtain⟨j,v,e,hj,hv⟩:=Vb (xs:=xs) c h;have e':c%((xs.map f).length:Int)=(j:Int):=by rw[aG];exact e
 refine⟨j,v,e',hv,?_⟩;rw[e'];refine fP ?_;rw[a7,hv];rfl
theorem Sy.iH(s:Sy):s.sends=(match s with | .send _ _=>1|_=>0)+Sy.bT s.parts:=by
 cases s<;>simp[Sy.sends,Sy.bT,Sy.pre,Sy.parts,Sy.a9]<;>lia
def eV(prog:List Er):Str->Option Nat:=cM (prog.map Er.name) (prog.map λe=>e.ps.length)
theorem Hj{cT:List Er}{names:List Str}{counts:List Nat}(h1:cT.map Er.name=names)(h2:(cT.map λe=>e.ps.length)=counts):eV cT=cM names counts:=by
 unfold eV;rw[h1,h2]
theorem Hk{n c:Nat}{xs:List Str}(r:Row n xs)(hc:c<=n):(xs.take c).length=c/\(xs.take c).Nodup/\∀x∈xs.take c,mz x:=by
 refine⟨by rw[dP,r.len];lia,r.nd.sublist (MW _ _),λx hx=>r.ok x (uo hx)⟩
theorem Vc{p:Key×D}{r:List (Key×D)}{k:Key}:du (p::r) k=if p.1=k then some p.2 else du r k:=by
 by_cases e:p.1=k
 ·simp[du,kl,e]
 ·simp[du,kl,e]
theorem Vd{kvs:List (Key×D)}{k:Key}{v:D}(h:k∉kvs.map (·.1)):putD kvs k v=kvs++[(k,v)]:=by
 unfold putD;rw[if_neg];intro z;obtain⟨p,hp,e⟩:=q_.mp z;exact h (bO.mpr ⟨p,hp,of_decide_eq_true e⟩)
def Sy.nm:Sy->Option Str
 | .send x _=>some x
 |_=>none
def Sy.Ve(s:Sy):List Str:=s.pre.filterMap Sy.nm
def aiz(prog:List Er):List (Str×Str):=(prog.map λe=>e.body.Ve.map λto=>(e.name,to)).flatten
theorem zL{ds:List Dt}{n:Nat}(h:∀d∈ds,dF d<=n):fi ds<=n:=by
 induction ds with
 |nil=>simp[fi]
 |cons d r ih =>
  simp only[fi];have h1:=h d cL;have h2:=ih λe he=>h e (cO _ he);lia
end E3
namespace EE
open PySem PySem.Spec PyProof.Rows L2
def nN(X:Cx)(ifs:List Expr)(t:TT):Prop :=
 ∀(pins:List (Addr×Obj)) (s:Shared) (σ:L2.St) (H:Hp) (Q:Bool->Hp->Prop),Inv X pins σ H s->t σ H Q ->
  wpAny (model X.prog X.w) X.A (forIn ifs true λc r=>if r=true then do let ok <-isTrue c X.env (eval c X.env);pure (ForInStep.yield ok) else pure (ForInStep.yield r)) (TP X pins σ Q) X.xe s
def Vf:TT:=λ_ H Q=>Q true H
theorem Vg{X:Cx}:nN X [] Vf:=λ_ _ _ _ _ I h=>wpAny_tests_nil ⟨_,I,h⟩
theorem Vh{X:Cx}{c:Expr}{t:TT}(h:PT X c t):nN X [c] t:=λpins s σ H Q I q=>wpAny_tests_one (h pins s σ H Q I q)
def vW(wi:TI)(g:TG)(tt:TT)(te:TE)(n:Nat)(js:List Nat):TE:=λσ H Q=>wi σ H λJ H1=>∀D,H1 D=none->∃W:Nat->Nat->L2.St->Hp->Prop,(∃m,W 0 m (fK n none++pick σ js) (upd H1 D (.lst []))) /\
 ∀i m τ H2,W i m τ H2->(J.stop i H2/\Q (.ref D) H2)∨(J.go i H2/\∃N:L2.St->Hp->Prop,(∀bx H',N bx H'->∃m',m'<m/\W (i+1) m' bx H')/\∀v H',J.mi i H2 v H' ->
  g v τ H' λbx H3=>tt bx H3 λb H4=>if b=true then te bx H4 λy H5=>∃ys,H5 D=some (.lst ys)/\ys.length<sizeLine/\N bx (upd H5 D (.lst (ys++[y]))) else N bx H4)
section
variable{X:Cx}{elt iter tg:Expr}{ifs:List Expr}{pos:Pos}{scope:Scope}{O M:List Str}{js:List Nat}{wi:TI}{g:TG}{tt:TT}{te:TE}
theorem Vi{prog:Program}{w:World}{A:Around}{R:Result->Shared->Prop}{s:Shared}{it acc:Value}{env:Env}(I:Nat->Shared->Prop)
 (turn:∀n s,I n s->wpAny (model prog w) A (pyNext it) (λr s₁=>match r with
  |none=>R (.ok .next) s₁
  |some v=>wpAny (model prog w) A (letOwnedTupleGo tg it v) (λ_ s₂=>wpAny (model prog w) A (assign tg env v) (λ_ s₃ =>
   wpAny (model prog w) A (forIn ifs true λc r=>if r=true then do let ok <-isTrue c env (eval c env);pure (ForInStep.yield ok) else pure (ForInStep.yield r)) (λok s₄ =>
    if ok=true then wpAny (model prog w) A (eval elt env) (λy s₅=>wpAny (model prog w) A (call (.builtin "list.append") [acc,y]) (λ_ s₆=>∃m,m<n/\I m s₆) (λ_ _=>False) s₅) (λ_ _=>False) s₄
    else ∃m,m<n/\I m s₄) (λ_ _=>False) s₃) (λ_ _=>False) s₂) (λ_ _=>False) s₁) (λ_ _=>False) s)
 (n:Nat) (h:I n s):codeAny (model prog w) A (.compLoop (.ListComp elt [⟨tg,iter,ifs,0⟩] scope pos) 0 it acc env) R s:=show _ by
 refine codeAny_loop rfl I (λn s hI=>?_) n h;show wpAny _ _ ((compTurn (.ListComp elt [⟨tg,iter,ifs,0⟩] scope pos) 0 it acc env).onRaise (λx=>do noteFrame x env;theTreesLotGoes x)) _ _ s;refine wpAny_noted ?_;rw[compTurn_list];refine ai (CH (ai (fo (turn n s hI) (λr s₁ h₁=>?_) λ_ _ z=>z.elim)));cases r with
 |none=>exact aB h₁
 |some v =>
  refine ai (fo h₁ (λ_ s₂ h₂=>ai (fo h₂ (λ_ s₃ h₃=>ai (fo h₃ (λok s₄ h₄=>?_) λ_ _ z=>z.elim)) λ_ _ z=>z.elim)) λ_ _ z=>z.elim);cases ok with
  |false=>exact aB ⟨rfl,h₄⟩
  |true=>exact ai (ai (fo h₄ (λy s₅ h₅=>ai (fo h₅ (λ_ s₆ h₆=>aB (aB ⟨rfl,h₆⟩)) λ_ _ z=>z.elim)) λ_ _ z=>z.elim))
end
theorem vY{X:Cx}{pins:List (Addr×Obj)}{σ:L2.St}{H:Hp}{s:Shared}{h':Heap}{t':Nat}{fp:List Addr}(I:Inv X pins σ H s)(k:∀b o,b∉fp->s.heap.get? b=some o->h'.get? b=some o)(hf:∀b∈fp,d9 X pins H b):Inv X pins σ H {s with heap:=h',toks:=t'}:=show _ by
 have mf:∀b u,H b=some u->b∉fp:=λb u e z=>by
  rw[(hf b z).1]at e;cases e
 refine I.step (g':=s.gens) (d':=s.drawn) (ch:=fp) (λb hb=>?_) (λb o _ _ hc e _=>k b o hc e) (λb o _ _ hc e _=>⟨o.slots,k b o hc e⟩) (λ_ _ _ _ n=>n) (λb o hc e=>⟨o,k b o hc e⟩) (λ_ _ e=>e) (λ_ _ _ e=>e)
  (λb ps e=>⟨#[],by rw[e];simp⟩) (λm hm=>?_) (λb u e=>?_) I.bare
 ·obtain⟨f0,f1,f2,f3,f4,f5⟩:=hf b hb;exact⟨f3,f1,f4,f5⟩
 ·obtain⟨o,es,ep,ho,r⟩:=hm;exact⟨o,es,ep,k _ o (λz=>(hf _ z).2.1 rfl) ho,r⟩
 ·refine(I.hok b u e).stay (λc v hc q=>k c v ?_ q) (λ_ q=>q) λ_ _ q=>q;rcases hc with z|z
  ·rw[z];exact mf b u e
  ·exact mf c _ z
section
variable{prog:Program}{w:World}{A:Around}{E:Value->Shared->Prop}{s:Shared}
theorem vZ{j t:Addr}{k:Nat}{its:Array Value}{x:Value}{Q:Value->Shared->Prop}(hj:s.heap.IsTupleIter j t k)(ht:s.heap.IsTuple t its)(hx:its[k]?=some x)
 (hQ:∀h',h'.IsTupleIter j t (k+1)->fJ j s.heap h'->Q x {s with heap:=h'}):wpAny (model prog w) A (lV (.ref j)) Q E s:=show _ by
 obtain⟨ob,hob,hcl,hda⟩:=id hj;obtain⟨ot,hot,_,nt,hdt⟩:=ht;unfold lV;refine ai (kj (name:=jE "__next__") hj.typeIs xP (ij xP hj.typeIs Nx ?_ (Ny _)));show wpAny _ _ (field (.ref j) 0 >>= _) _ _ s;refine ai (c9 hob hda (x:=.ref t) rfl ?_);show wpAny _ _ (if(Value.ref t==Value.none)=true then _ else _) _ _ _;rw[if_neg (λz:(Value.ref t==Value.none)=true=>cV z)];show wpAny _ _ (field (.ref j) 1 >>= _) _ _ s;refine ai (c9 hob hda (x:=.int k 0) rfl ?_);show wpAny _ _ (seqItems? (.ref t) >>= _) _ _ _;refine ai (jB hot hdt ?_);simp only[jD,hx];refine ai (ug hob hda (by simp) (aB ⟨x,rfl,aB (hQ _ ⟨_,oR _ hob (Dq (qX hda _)),(Nj ..).trans hcl,?_⟩ (uh ..))⟩));rw[qX hda];simp[rawInt]
theorem v5{j t:Addr}{k:Nat}{its:Array Value}{Q:Value->Shared->Prop}(hh:A.handled=none)(hj:s.heap.IsTupleIter j t k)(ht:s.heap.IsTuple t its)(hx:its[k]?=none)
 (hE:∀h' e,ui j s.heap h'->(∃o,h'.get? e=some o/\o.cls=.type "StopIteration")->E (.ref e) {s with heap:=h'}):wpAny (model prog w) A (lV (.ref j)) Q E s:=show _ by
 obtain⟨ob,hob,hcl,hda⟩:=id hj;obtain⟨ot,hot,_,nt,hdt⟩:=ht;unfold lV;refine ai (kj (name:=jE "__next__") hj.typeIs xP (ij xP hj.typeIs Nx ?_ (Ny _)));show wpAny _ _ (field (.ref j) 0 >>= _) _ _ s;refine ai (c9 hob hda (x:=.ref t) rfl ?_);show wpAny _ _ (if(Value.ref t==Value.none)=true then _ else _) _ _ _;rw[if_neg (λz:(Value.ref t==Value.none)=true=>cV z)];show wpAny _ _ (field (.ref j) 1 >>= _) _ _ s;refine ai (c9 hob hda (x:=.int k 0) rfl ?_);show wpAny _ _ (seqItems? (.ref t) >>= _) _ _ _;refine ai (jB hot hdt ?_);simp only[jD,hx];refine ai (ke (ai (ug hob hda (by simp) ?_)));show wpAny _ _ (newExc (.type "StopIteration") [] >>= _) _ _ _;refine ai ?_;simp only[newExc,newTuple];refine ai (jF ?_ (by size_fits));refine ai (m:=firstArgMember _ _) (m7 (a:=Value.none) (by first|rfl|(simp only[firstArgMember];rfl)) (jF ?_ (by size_fits)));simp only[raiseNew];refine ai (wpAny_handled ?_)
 first
  |rw[show A.in1.handled=none from hh]
  |rw[hh]
 exact ai (aB (wpAny_throw (hE _ _ (((uh ..).extBut.push _).push _) ⟨_,c7 _ rfl,rfl⟩)))
end
section
variable{prog:Program}{w:World}{A:Around}{E:Value->Shared->Prop}{s:Shared}{z TI TO i1 i2 a b:Addr}{k:Nat}{xs ys:Array Value}{x y p q:Value}
structure ZN(z TI TO i1 i2:Addr):Prop where
 a:TI≠z
 b:TO≠z
 c:i1≠z
 d:i2≠z
 e:TI≠TO
 f:TI≠i1
 g:TI≠i2
 h:TO≠i1
 i:TO≠i2
 j:i1≠i2
structure ZA(z TO i1 i2 a:Addr):Prop where
 z:a≠z
 o:a≠TO
 i:a≠i1
 j:a≠i2
theorem jY{h h':Heap}{a c:Addr}{xs:Array Value}(x:h.IsTuple a xs)(e:ui c h h')(n:a≠c):h'.IsTuple a xs:=by
 obtain⟨o,ho,r⟩:=x;exact⟨o,e _ _ n ho,r⟩
theorem Vj{Q:Value->Shared->Prop}(N:ZN z TI TO i1 i2)(Na:ZA z TO i1 i2 a)(Nb:ZA z TO i1 i2 b)
 (hz:IsZip s.heap z TI TO .none) (hI:IsPair s.heap TI (.ref i1) (.ref i2)) (hO:IsPair s.heap TO p q) (h1:s.heap.IsTupleIter i1 a k) (h2:s.heap.IsTupleIter i2 b k) (ha:s.heap.IsTuple a xs) (hb:s.heap.IsTuple b ys) (hx:xs[k]?=some x) (hy:ys[k]?=some y)
 (hQ:∀h5 h8,h5.objs.size=s.heap.objs.size->(∀c o,c≠z->c≠TO->c≠i1->c≠i2->s.heap.get? c=some o->h5.get? c=some o)->IsPair h5 TO x y->h5.IsTupleIter i1 a (k+1)->h5.IsTupleIter i2 b (k+1) ->
  (∃o,h5.get? z=some o)->fJ z (h5.push {cls:=.type "tuple",data:=.seq #[x,y]}) h8->IsZip h8 z TI TO (rawInt h5.objs.size)->Q (.ref h5.objs.size) {s with heap:=h8}) :
 wpAny (model prog w) A (Builtin.«zip.__next__» ⟨[.ref z],[]⟩) (λfin s'=>∃v,fin=.done (.ret v)/\Q v s') E s:=show _ by
 show wpAny _ _ (field (.ref z) 2 >>= _) _ _ s;refine ai (c9 hz rfl (x:=.bool false) rfl ?_);show wpAny _ _ (field (.ref z) 3 >>= _) _ _ s;refine ai (c9 hz rfl (x:=.ref TI) rfl (ai (jB hI rfl ?_)));show wpAny _ _ (rf (.ref z) >>= _) _ _ s;refine ai ?_;unfold rf;refine ai (c9 hz rfl (x:=.none) rfl (aB ?_));simp only[if_true];refine ai (ke (ai (c9 hz rfl (x:=.ref TO) rfl (ai (iu hz (by simp) λg1 hz1 e1=>?_)))));replace hz1:IsZip g1 z TI TO .ellipsis:=hz1;refine ai ?_;simp only[Nz,NA,ue,xM];refine ai (ai (xQ ?_));show wpAny _ _ (lV (.ref i1) >>= _) _ _ _;refine ai (vZ (h1.extBut e1.extBut N.c) (jY ha e1.extBut Na.z) hx λg2 Hl e2=>aB ?_);have o2:IsPair g2 TO p q:=e2.extBut _ _ N.h (e1.extBut _ _ N.b hO);refine ai (jB o2 rfl (ai (DE o2 λg3 o3 e3=>?_)));replace o3:IsPair g3 TO x q:=o3;refine ai (uq (aB (ai (ai (xQ ?_)))));show wpAny _ _ (lV (.ref i2) >>= _) _ _ _;refine ai (vZ (((h2.extBut e1.extBut N.d).extBut e2.extBut N.j.symm).extBut e3.extBut N.i.symm) (jY (jY (jY hb e1.extBut Nb.z) e2.extBut Nb.i) e3.extBut Nb.o) hy λg4 j4 e4=>aB ?_);have o4:IsPair g4 TO x q:=e4.extBut _ _ N.i o3;refine ai (jB o4 rfl (ai (DE o4 λg5 o5 e5=>?_)));replace o5:IsPair g5 TO x y:=o5;refine ai (uq (aB (aB (ai (jB o5 rfl (ai (wpAny_newTuple ?_)))))));have hsz:g5.objs.size=s.heap.objs.size:=by rw[e5.1,e4.1,e3.1,e2.1,e1.1]
 have z5:IsZip g5 z TI TO .ellipsis:=e5.extBut _ _ N.b.symm (e4.extBut _ _ N.d.symm (e3.extBut _ _ N.b.symm (e2.extBut _ _ N.c.symm hz1)));show wpAny _ _ (ur (.ref z) (.ref g5.objs.size) >>= _) _ _ _;refine ai ?_;unfold ur;have z6:IsZip (g5.push {cls:=.type "tuple",data:=.seq #[x,y]}) z TI TO .ellipsis:=bA _ z5;refine ai (iu z6 (by simp) λg7 z7 e7=>?_);replace z7:IsZip g7 z TI TO (rawInt g5.objs.size):=z7;refine iu z7 (by simp) λg8 z8 e8=>aB ⟨_,rfl,?_⟩;replace z8:IsZip g8 z TI TO (rawInt g5.objs.size):=z8;exact hQ g5 g8 hsz (λc o c1 c2 c3 c4 e=>e5.extBut _ _ c2 (e4.extBut _ _ c4 (e3.extBut _ _ c2 (e2.extBut _ _ c3 (e1.extBut _ _ c1 e))))) o5
  (((Hl.extBut e3.extBut N.h.symm).extBut e4.extBut N.j).extBut e5.extBut N.h.symm) (j4.extBut e5.extBut N.i.symm) ⟨_,z5⟩ ⟨e8.1.trans e7.1,λc n=>(e8.2 c n).trans (e7.2 c n)⟩ z8
theorem Vk{Q:Fin->Shared->Prop}(hh:A.handled=none)(N:ZN z TI TO i1 i2)(Na:ZA z TO i1 i2 a)(Nb:ZA z TO i1 i2 b)
 (hz:IsZip s.heap z TI TO .none) (hI:IsPair s.heap TI (.ref i1) (.ref i2)) (hO:IsPair s.heap TO p q) (h1:s.heap.IsTupleIter i1 a k) (h2:s.heap.IsTupleIter i2 b k) (ha:s.heap.IsTuple a xs) (hb:s.heap.IsTuple b ys) (hend:xs[k]?=none∨ys[k]?=none)
 (hE:∀h' e,(∀c o,c≠z->c≠TO->c≠i1->c≠i2->s.heap.get? c=some o->h'.get? c=some o)->(∃o,h'.get? e=some o/\o.cls=.type "StopIteration")->E (.ref e) {s with heap:=h'}) :
 wpAny (model prog w) A (Builtin.«zip.__next__» ⟨[.ref z],[]⟩) Q E s:=show _ by
 show wpAny _ _ (field (.ref z) 2 >>= _) _ _ s;refine ai (c9 hz rfl (x:=.bool false) rfl ?_);show wpAny _ _ (field (.ref z) 3 >>= _) _ _ s;refine ai (c9 hz rfl (x:=.ref TI) rfl (ai (jB hI rfl ?_)));show wpAny _ _ (rf (.ref z) >>= _) _ _ s;refine ai ?_;unfold rf;refine ai (c9 hz rfl (x:=.none) rfl (aB ?_));simp only[if_true];refine ai (ke (ai (c9 hz rfl (x:=.ref TO) rfl (ai (iu hz (by simp) λg1 hz1 e1=>?_)))));replace hz1:IsZip g1 z TI TO .ellipsis:=hz1;refine ai ?_;simp only[Nz,NA,ue,xM];refine ai (ai (xQ ?_));show wpAny _ _ (lV (.ref i1) >>= _) _ _ _;cases hx:xs[k]? with
 |none =>
  refine ai (v5 hh (h1.extBut e1.extBut N.c) (jY ha e1.extBut Na.z) hx λg2 e e2 ⟨oe,hoe,hce⟩=>?_);have z2:IsZip g2 z TI TO .ellipsis:=e2 _ _ N.c.symm hz1;have ez:e≠z:=λx=>by
   subst x;rw[z2]at hoe;cases hoe;simp at hce
  exact iu z2 (by simp) λg3 _ e3=>hE g3 e (λc o c1 _ c3 _ x=>e3.extBut _ _ c1 (e2 _ _ c3 (e1.extBut _ _ c1 x))) ⟨oe,e3.extBut _ _ ez hoe,hce⟩
 |some x =>
  have hy:ys[k]?=none:=by
   rcases hend with h|h
   ·rw[hx]at h;cases h
   ·exact h
  refine ai (vZ (h1.extBut e1.extBut N.c) (jY ha e1.extBut Na.z) hx λg2 Hl e2=>aB ?_);have o2:IsPair g2 TO p q:=e2.extBut _ _ N.h (e1.extBut _ _ N.b hO);refine ai (jB o2 rfl (ai (DE o2 λg3 o3 e3=>?_)));refine ai (uq (aB (ai (ai (xQ ?_)))));show wpAny _ _ (lV (.ref i2) >>= _) _ _ _;refine ai (v5 hh (((h2.extBut e1.extBut N.d).extBut e2.extBut N.j.symm).extBut e3.extBut N.i.symm) (jY (jY (jY hb e1.extBut Nb.z) e2.extBut Nb.i) e3.extBut Nb.o) hy λg4 e e4 ⟨oe,hoe,hce⟩=>?_);have z4:IsZip g4 z TI TO .ellipsis:=e4 _ _ N.d.symm (e3.extBut _ _ N.b.symm (e2.extBut _ _ N.c.symm hz1));have ez:e≠z:=λx=>by
   subst x;rw[z4]at hoe;cases hoe;simp at hce
  exact iu z4 (by simp) λg5 _ e5=>hE g5 e (λc o c1 c2 c3 c4 x=>e5.extBut _ _ c1 (e4 _ _ c4 (e3.extBut _ _ c2 (e2.extBut _ _ c3 (e1.extBut _ _ c1 x))))) ⟨oe,e5.extBut _ _ ez hoe,hce⟩
end
def zM (K:aq) (a b:Addr):It :=
  ⟨λi H=>∃xs ys x y,bq K H a xs∧bq K H b ys∧xs[i]?=some x∧ys[i]?=some y,
   λi H v H'=>∃T x y,v=.ref T∧H T=none∧H'=upd H T (.tup [x,y])∧(∀xs,bq K H a xs→xs[i]?=some x)∧∀ys,bq K H b ys→ys[i]?=some y,
   λi H=>∃xs ys,bq K H a xs∧bq K H b ys∧(xs.length≤i∨ys.length≤i)⟩
def ZT(z TI TO i1 i2 a b:Addr)(i:Nat)(h:Heap):Prop:=IsZip h z TI TO .none/\IsPair h TI (.ref i1) (.ref i2)/\(∃x y,IsPair h TO x y)/\h.IsTupleIter i1 a i/\h.IsTupleIter i2 b i
theorem Vl{P:Program}{w:World}{K:aq}{es:List Expr}{kt:Nat}{tp:Pos}(z TI TO i1 i2 a b:Addr)(N:ZN z TI TO i1 i2)(Na:ZA z TO i1 i2 a)(Nb:ZA z TO i1 i2 b) :
 Turn P w K (.Tuple es kt tp) (zM K a b) [z,TI,TO,i1,i2] z (ZT z TI TO i1 i2 a b) where
 mem:=cL
 obj:=λi h st c hc=>by
  obtain⟨s1,s2,⟨x,y,s3⟩,⟨o4,s4,_,d4⟩,⟨o5,s5,_,d5⟩⟩:=st;simp only[bJ,cQ,or_false]at hc;rcases hc with rfl|rfl|rfl|rfl|rfl
  ·exact⟨_,s1,λv e=>nomatch e⟩
  ·exact⟨_,s2,λv e=>nomatch e⟩
  ·exact⟨_,s3,λv e=>nomatch e⟩
  ·exact⟨_,s4,λv e=>by rw[d4]at e;cases e⟩
  ·exact⟨_,s5,λv e=>by rw[d5]at e;cases e⟩
 keep:=λi h h' st kk=>by
  obtain⟨s1,s2,⟨x,y,s3⟩,s4,s5⟩:=st;exact⟨kk z (by simp) _ s1,kk TI (by simp) _ s2,⟨x,y,kk TO (by simp) _ s3⟩,s4.at λo e=>kk i1 (by simp) o e,s5.at λo e=>kk i2 (by simp) o e⟩
 item:=show _ by
  intro X hP hw hK hc i pins s σ H E I hf st hg;subst hP hw hK;obtain⟨xs,ys,x,y,hq,hq',hx,hy⟩:=hg;obtain⟨its,rv,pt,hz⟩:=I.tuple hq;obtain⟨jts,rv',pP,hz'⟩:=I.tuple hq';obtain⟨u,hu,ru⟩:=rv.get hx;obtain⟨u',hu',Vm⟩:=rv'.get hy;obtain⟨s1,s2,⟨p,q,s3⟩,s4,s5⟩:=st;have hT:s.TypeIs (.ref z) "zip":=⟨_,s1,rfl⟩;unfold pyNext;refine ai (oW (kj (name:=jE "__next__") hT xR (ij xR hT NB
   (Vj N Na Nb s1 s2 s3 s4 s5 (show s.heap.IsTuple a its.toArray from pt) (show s.heap.IsTuple b jts.toArray from pP) (x:=u) (y:=u') (by simpa using hu) (by simpa using hu') λh5 h8 sz k5 o5 t1 t2 zz e8 z8=>aB ?_) (NC _))))
  refine⟨_,rfl,wpAny_letOwnedTupleGo_zip z8 λh9 z9 e9=>?_⟩;have fz:∀c o,s.heap.get? c=some o->c∉[z,TI,TO,i1,i2]->h5.get? c=some o:=λc o e n=>by
   simp only[bJ,cQ,or_false,not_or]at n;exact k5 c o n.1 n.2.2.1 n.2.2.2.1 n.2.2.2.2 e
  have I5:Inv X pins σ H {s with heap:=h5}:=vY (t':=s.toks) I (λc o n e=>fz c o e n) hf;have hfr:H h5.objs.size=none:=I5.hok.fresh (aT _);have I6:Inv X pins σ (upd H h5.objs.size (.tup [x,y])) {s with heap:=h5.push {cls:=.type "tuple",data:=.seq #[u,u']}} :=
   I5.laid (t':=s.toks) (λb u e=>bA _ e) (aT _) ⟨(by decide:2<=sizeLine),[u,u'],.cons ru (.cons Vm .nil),⟨_,c7 _ rfl,rfl,_,rfl⟩,λo q=>by rw[c7 _ rfl]at q;cases q;rfl⟩
  obtain⟨oz,Vn⟩:=zz;have Vo:z<h5.objs.size:=bG Vn;obtain⟨f0,f1,f2,f3,f4,f5⟩:=hf z cL;have f0':upd H h5.objs.size (.tup [x,y]) z=none:=by rw[bg (cW Vo)];exact f0
  have I8:Inv X pins σ (upd H h5.objs.size (.tup [x,y])) {s with heap:=h8}:=I6.turned (t':=s.toks) (λc o n e=>(e8.2 c n).trans e) f0' f1 f3 f4 f5;have I9:Inv X pins σ (upd H h5.objs.size (.tup [x,y])) {s with heap:=h9}:=I8.turned (t':=s.toks) (λc o n e=>(e9.2 c n).trans e) f0' f1 f3 f4 f5;have v7:∀c o,c≠z->h5.get? c=some o->h9.get? c=some o:=λc o n e=>(e9.2 c n).trans ((e8.2 c n).trans (bA _ e));refine⟨.ref h5.objs.size,_,I9,rfl,⟨_,x,y,rfl,hfr,rfl,λzs hy=>by rw[I.o6 hy hq];exact hx,λzs hy'=>by rw[I.o6 hy' hq'];exact hy⟩,
   ⟨z9,v7 _ _ N.a (k5 _ _ N.a N.e N.f N.g s2),⟨_,_,v7 _ _ N.b o5⟩,t1.at λo e=>v7 _ o N.c e,t2.at λo e=>v7 _ o N.d e⟩,λc hc=>?_⟩
  have cl:c<h5.objs.size:=by
   rw[sz];simp only[bJ,cQ,or_false]at hc;obtain⟨o4,s4,_⟩:=s4;obtain⟨o5,s5,_⟩:=s5;rcases hc with rfl|rfl|rfl|rfl|rfl
   ·exact bG s1
   ·exact bG s2
   ·exact bG s3
   ·exact bG s4
   ·exact bG s5
  rw[bg (cW cl)];exact(hf c hc).1
 done:=by
  intro X hP hw hK hc i pins s σ H E I hf st hg;subst hP hw hK;obtain⟨xs,ys,hq,hq',hend⟩:=hg;obtain⟨its,rv,pt,hz⟩:=I.tuple hq;obtain⟨jts,rv',pP,hz'⟩:=I.tuple hq';have hl:=rv.length;have hl':=rv'.length;obtain⟨s1,s2,⟨p,q,s3⟩,s4,s5⟩:=st;have hT:s.TypeIs (.ref z) "zip":=⟨_,s1,rfl⟩;unfold pyNext;refine ai (oW (kj (name:=jE "__next__") hT xR (ij xR hT NB
   (Vk (I.ok.hd hc) N Na Nb s1 s2 s3 s4 s5 (show s.heap.IsTuple a its.toArray from pt) (show s.heap.IsTuple b jts.toArray from pP) ?_ λh' e kk ⟨oe,hoe,hce⟩=>?_) (NC _))))
  ·rcases hend with h|h
   ·exact .inl (by simp;lia)
   ·exact .inr (by simp;lia)
  ·refine ai (tZ (T:="StopIteration") (b:=true) ⟨oe,hoe,hce⟩ Dr (aB ⟨rfl,vY (t':=s.toks) I (λc o n e=>?_) hf⟩));simp only[bJ,cQ,or_false,not_or]at n;exact kk c o n.1 n.2.2.1 n.2.2.2.1 n.2.2.2.2 e
 self:=λ_ _ _ _ _ st h=>wpAny_pyIter_zip st.1 h
def zH(h:Heap)(a b:Addr):Heap:=((((h.push {cls:=.type "tuple_iterator",data:=.fields #[.ref a,.int 0 0]}).push {cls:=.type "tuple_iterator",data:=.fields #[.ref b,.int 0 0]}).push
 {cls:=.type "tuple",data:=.seq #[.ref h.objs.size,.ref (h.objs.size+1)]}).push {cls:=.type "tuple",data:=.seq #[.none,.none]}).push
 {cls:=.type "zip",data:=.fields #[.none,.bool false,.bool false,.ref (h.objs.size+2),.ref (h.objs.size+3)]}
theorem sU{h:Heap}{o:Obj}{n:Nat}(e:h.objs.size=n)(hf:o.isFreed=false:=by rfl):(h.push o).get? n=some o:=by
 rw[<-e];exact c7 _ hf
theorem zN(h:Heap)(a b:Addr):IsZip (zH h a b) (h.objs.size+4) (h.objs.size+2) (h.objs.size+3) .none:=sU (by simp[ir])
theorem Vp(h:Heap)(a b:Addr):IsPair (zH h a b) (h.objs.size+2) (.ref h.objs.size) (.ref (h.objs.size+1)):=bA _ (bA _ (sU (by simp[ir])))
theorem Vq(h:Heap)(a b:Addr):IsPair (zH h a b) (h.objs.size+3) .none .none:=bA _ (sU (by simp[ir]))
theorem Vr(h:Heap)(a b:Addr):(zH h a b).IsTupleIter h.objs.size a 0:=⟨_,bA _ (bA _ (bA _ (bA _ (sU rfl)))),rfl,rfl⟩
theorem Vs(h:Heap)(a b:Addr):(zH h a b).IsTupleIter (h.objs.size+1) b 0:=⟨_,bA _ (bA _ (bA _ (sU (by simp[ir])))),rfl,rfl⟩
theorem Vt{h:Heap}{a b c:Addr}{o:Obj}(e:h.get? c=some o):(zH h a b).get? c=some o :=
 bA _ (bA _ (bA _ (bA _ (bA _ e))))
theorem Vu(a b:Addr)(xs ys:Array Value):Meets (Builtin.«zip.__new__» ⟨[.type "zip",.ref a,.ref b],[]⟩) (λ_ R s=>s.heap.IsTuple a xs/\s.heap.IsTuple b ys/\R (.ok (.ret (.ref (s.heap.objs.size+4)))) {s with heap:=zH s.heap a b}) :=
 .of_wp λprog w A R s h=>by
  obtain⟨hp,g,d,tk,os⟩:=s;obtain⟨ha,hb,h⟩:=h;have hsub:=sub_zip;have ha':DF (DG ⟨hp,g,d,tk,os⟩) a xs:=ha;have hb':DF (DG ⟨hp.push {cls:=.type "tuple_iterator",data:=.fields #[.ref a,.int 0 0]},g,d,tk,os⟩) b ys:=show _ by
   obtain⟨o,e,r⟩:=hb;exact⟨o,bA _ e,r⟩
  wp_walk using qV ha',qV hb'
  refine⟨_,rfl,?_⟩;simp only[ir];exact h
section
variable{X:Cx}{es:List Expr}{kt:Nat}{tp:Pos}
theorem Vv{prog:Program}{w:World}{A:Around}{E:Value->Shared->Prop}{s:Shared}{a b:Addr}{xs ys:Array Value}{Q:Value->Shared->Prop}(ha:s.heap.IsTuple a xs)(hb:s.heap.IsTuple b ys)(h:Q (.ref (s.heap.objs.size+4)) {s with heap:=zH s.heap a b}) :
 wpAny (model prog w) A (call (.type "zip") [.ref a,.ref b]) Q E s:=show _ by
 refine Dp PySem.F.called_zip (by decide) (PySem.F.typeCall_zip_2 _ _) (PySem.F.newCall_zip_2 _ _) (λobj=>PySem.F.args_object_init_3 obj _ _) PySem.F.entry_zip_new (Vu a b xs ys) ⟨ha,hb,?_⟩;show _/\_;exact⟨⟨_,zN s.heap a b,rfl⟩,h⟩
def Vw(K:aq)(ta:TA):TI:=λσ H R=>ta σ H λvs H1=>∃a b,vs=[.ref a,.ref b]/\(∃xs,bq K H1 a xs)/\(∃ys,bq K H1 b ys)/\R (zM K a b) H1
theorem Vx{a b:Expr}{ta:TA}{p pos:Pos}(hg:Gl X "zip")(hm:X.mg "zip"=none)(ha:PA X [a,b] ta)(hs:starEach [a,b] X.env=[(false,eval a X.env),(false,eval b X.env)])(hs2:starEach [b] X.env=[(false,eval b X.env)]) :
 PI X (.Tuple es kt tp) (.Call (.Name "zip" p) [a,b] [] pos) (Vw X.K ta):=show _ by
 intro pins s σ H R I h;refine Call_ (kC I hg hm boot_zip (mW (aF (ha pos pins s σ H _ I h) λus s1 ⟨vs,H1,I1,r1,q1⟩=>?_) (by rw[hs,hs2]) (by rw[hs2];rfl)));obtain⟨x,y,e,⟨xs,hx⟩,⟨ys,hy⟩,q⟩:=q1;subst e;obtain⟨u,u',rfl,r,r'⟩:=vals2 r1;cases r;cases r';obtain⟨its,rv,pt,_⟩:=I1.tuple hx;obtain⟨jts,rv',pP,_⟩:=I1.tuple hy;refine Vv (show s1.heap.IsTuple x its.toArray from pt) (show s1.heap.IsTuple y jts.toArray from pP) (wpAny_pyIter_zip (zN s1.heap x y) ?_);have lx:x<s1.heap.objs.size:=by
  obtain⟨o,e,_⟩:=pt;exact bG e
 have ly:y<s1.heap.objs.size:=by
  obtain⟨o,e,_⟩:=pP;exact bG e
 have I2:Inv X pins σ H1 {s1 with heap:=zH s1.heap x y}:=I1.kept (t':=s1.toks) λ_ _ e=>Vt e;have nd:∀(i j:Nat),i≠j->s1.heap.objs.size+i≠s1.heap.objs.size+j:=λi j h e=>h (Nat.add_left_cancel e);have nx:∀{c:Addr} (i:Nat),c<s1.heap.objs.size->c≠s1.heap.objs.size+i:=λi h=>cW (dO h (uu _ _));refine⟨s1.heap.objs.size+4,[s1.heap.objs.size+4,s1.heap.objs.size+2,s1.heap.objs.size+3,s1.heap.objs.size,s1.heap.objs.size+1],_,_,H1,rfl,I2,
  Vl _ _ _ _ _ x y ⟨nd 2 4 (by decide),nd 3 4 (by decide),nd 0 4 (by decide),nd 1 4 (by decide),nd 2 3 (by decide),nd 2 0 (by decide),nd 2 1 (by decide),nd 3 0 (by decide),nd 3 1 (by decide),nd 0 1 (by decide)⟩ ⟨nx 4 lx,nx 3 lx,nx 0 lx,nx 1 lx⟩ ⟨nx 4 ly,nx 3 ly,nx 0 ly,nx 1 ly⟩,
  ⟨zN ..,Vp ..,⟨_,_,Vq ..⟩,Vr ..,Vs ..⟩,λc hc=>?_,q⟩
 have cl:s1.heap.objs.size<=c:=by
  simp only[bJ,cQ,or_false]at hc;rcases hc with rfl|rfl|rfl|rfl|rfl
  ·exact uu _ _
  ·exact uu _ _
  ·exact uu _ _
  ·exact aT _
  ·exact uu _ _
 exact I1.kG cl (I1.hok.fresh cl)
end
end EE
namespace E3
open PySem PySem.Spec PyProof.Rows L2 EE
def zO(K:aq)(g:eQ):TG:=λv τ H Q=>∃Z:Zt,lG K Z g v τ H Q
def sV(K:aq)(t:cE):TT:=λτ H Q=>∃Z:Zt,lT K Z t τ H Q
theorem g9.ex{X:Cx}{e:Expr}{g:eQ}(h:g9 X dA e g):PG X e (zO X.K g):=λpins s σ H v u Q I r cR=>by obtain⟨Z,q⟩:=cR;exact h (ZX.no X Z) pins s σ H v u Q I r q
theorem eJ.ex{X:Cx}{e:Expr}{t:cE}(h:eJ X dA e t):PT X e (sV X.K t):=λpins s σ H Q I eY=>by obtain⟨Z,q⟩:=eY;exact h (ZX.no X Z) pins s σ H Q I q
def kS(X:Cx)(ifs:List Expr)(t:cE):Prop:=nN X ifs (sV X.K t)
theorem kS.ex{X:Cx}{ifs:List Expr}{t:cE}(h:kS X ifs t):nN X ifs (sV X.K t):=h
def mC:cE:=λ_ S Q=>Q true S
theorem fD{X:Cx}:kS X [] mC:=λpins s σ H Q I nH=>by obtain⟨Z,_,S,_,_,hr,ht,hc⟩:=nH;exact Vg pins s σ H Q I (hc true S H (Kp.refl _ _) hr ht)
theorem Vy{X:Cx}{c:Expr}{t:cE}(h:eJ X dA c t):kS X [c] t:=Vh h.ex
def sW(n:Nat)(g:eQ)(Sh:D->aJ->Prop):Prop:=∀d ρ,Sh d ρ->ρ.length=n/\∀fO S Q,Q (ρ++fO) S->g d (fK n none++fO) S Q
def mD:D->aJ->Prop:=λd ρ=>ρ=[some d]
def zP:D->aJ->Prop:=λd ρ=>∃a b,d=.tup [a,b]/\ρ=[some a,some b]
theorem zQ:sW 1 (kN 0) mD:=λd ρ h=>by
 cases h;exact⟨rfl,λfO S Q q=>q⟩
theorem Vz:sW 2 (vj 2 (pA (kN 0) (pA (kN 1) vi))) zP:=λd ρ h=>by
 obtain⟨a,b,rfl,rfl⟩:=h;exact⟨rfl,λfO S Q q=>⟨_,rfl,rfl,a,_,rfl,b,_,rfl,rfl,q⟩⟩
def mE(wi:fv)(Sh:D->aJ->Prop)(tt:cE)(te:aN)(js:List Nat):aN:=λσ S Q=>wi σ S λds Al S1=>∃W:Nat->List D->af->Prop,W 0 [] S1/\(∀i ys S,W i ys S->Al S/\ys.length<sizeLine) /\
 (∀i d ys S,ds[i]?=some d->W i ys S->∃ρ,Sh d ρ/\tt (ρ++dD σ js) S λb S2=>if b=true then te (ρ++dD σ js) S2 λy S3=>W (i+1) (ys++[y]) S3 else W (i+1) ys S2)/\∀ys S,W ds.length ys S->dG S ys Q
theorem SR.blank{K:aq}{H:Hp}{r:aJ}:∀{ρ:aJ} {τ:L2.St},SR K H (ρ++r) τ->SR K H (fK ρ.length none++r) τ
 |[],_,h=>h
 |_::ρ,_,.cons _ t=>.cons (λd e=>by cases e) (SR.blank (ρ:=ρ) t)
theorem zR{K:aq}{Z:Zt}{wi:fv}{Sh:D->aJ->Prop}{g:eQ}{tt:cE}{te:aN}{n:Nat}{js:List Nat}{τ:L2.St}{H:Hp}{Q:VK}(hsh:sW n g Sh)(h:lE K Z (mE wi Sh tt te js) τ H Q) :
 vW (lI K Z wi) (zO K g) (sV K tt) (zi K te) n js τ H Q:=show _ by
 obtain⟨σ,S,Q3,hs,hr,ht,hc⟩:=h;refine⟨σ,S,_,hs,hr,ht,λds Al S1 J H1 k1 l1 q1 wk=>?_⟩;intro p hp;obtain⟨W,w0,al,turn,done⟩:=q1;obtain⟨hsp,pQ⟩:=l1.fresh hp;have kp:Kp Z H1 (upd H1 p (.lst [])):=Kp.new hp pQ;have VA:SR K (upd H1 p (.lst [])) (fK n none++dD σ js) (fK n none++pick τ js):=nA (SR.nones n) ((hs.mono (k1.trans kp)).picks js);refine⟨λi m bx H'=>m=ds.length-i/\i<=ds.length/\SR K H' (fK n none++dD σ js) bx/\∃ys vs S',Kp Z H1 H'/\H' p=some (.lst vs)/\aX K H' ys vs/\S' p=none/\Rl K Z S' H'/\W i ys S',
  ⟨ds.length,by simp,bV _,VA,[],[],S1,kp,d8,.nil,hsp,l1.lay hp,w0⟩,?_⟩
 rintro i m bx H2 ⟨rfl,hi,VB,ys,vs,S2,k2,hp2,ry,hs2,l2,w2⟩;obtain⟨Hm,hz⟩:=al _ _ _ w2;by_cases hlt:i<ds.length
 ·have hd:ds[i]?=some ds[i]:=aU hlt;obtain⟨go,yl⟩:=wk.go i _ S2 H2 k2 l2 Hm hd;refine .inr ⟨go,λbx H'=>i<ds.length/\SR K H' (fK n none++dD σ js) bx/\∃ys vs S',Kp Z H1 H'/\H' p=some (.lst vs)/\aX K H' ys vs/\S' p=none/\Rl K Z S' H'/\W (i+1) ys S',
   λbx H' z=>⟨ds.length-(i+1),by lia,rfl,z.1,z.2⟩,λv H3 y=>?_⟩
  obtain⟨k3,rv,l3,o3⟩:=yl v H3 y;have hp3:H3 p=some (.lst vs):=(o3 p (by rw[hp2];simp)).trans hp2;obtain⟨ρ,sX,step⟩:=turn i _ ys S2 hd w2;obtain⟨hn,hg⟩:=hsh _ ρ sX;refine⟨Z.hide H3 p,ds[i],_,S2,λσ' S'=>σ'=ρ++dD σ js/\S'=S2,rv,VB.mono k3,(l3 _ l2).hide hs2 (by rw[hp3];simp),hg _ _ _ ⟨rfl,rfl⟩,?_⟩;rintro Ga S4 zh H4 k4 v8 l4 ⟨rfl,rfl⟩;refine⟨Z.hide H3 p,_,_,_,v8,l4,step,?_⟩;intro b S5 H5 k5 l5 q5;have Hn:∀{S6:af} {H6:Hp},Kp (Z.hide H3 p) H4 H6->Rl K (Z.hide H3 p) S6 H6->H6 p=some (.lst vs)/\Kp Z H3 H6/\Rl K Z S6 H6/\S6 p=none:=λ{S6 H6} k6 l6=>by
   have kk:=(k4.trans k6).eR (Z:=Z) λa z=>.inl z;exact⟨((k4.trans k6).hid p (.inr rfl)).trans hp3,kk,l6.eR (Z:=Z) (λa z=>.inl z) ((l3 _ l2).old.trans kk),(l6.hid p (.inr rfl)).1⟩
  have bl:∀{H6:Hp},SR K H6 (ρ++dD σ js) zh->SR K H6 (fK n none++dD σ js) zh:=λ{H6} z=>by
   have:=SR.blank z;rw[hn]at this;exact this
  cases b with
  |false =>
   rw[if_neg cV];obtain⟨VC,kk,VD,VE⟩:=Hn k5 l5;exact⟨hlt,bl (v8.mono k5),ys,vs,S5,k2.trans (k3.trans kk),VC,ry.mono (k3.trans kk),VE,VD,q5⟩
  |true =>
   rw[if_pos rfl];refine⟨Z.hide H3 p,_,S5,_,v8.mono k5,l5,q5,?_⟩;intro d S6 w H6 k6 r6 l6 q6;obtain⟨zS,Ho,zT,Hq⟩:=Hn (k5.trans k6) l6;have kk:Kp Z H6 (upd H6 p (.lst (vs++[w]))):=by
    refine⟨λb xs e=>?_,λb q u e=>?_,λb z=>?_⟩
    ·rw[bg];exact e;rintro rfl;rw[zS]at e;cases e
    ·rw[bg];exact e;rintro rfl;rw[zS]at e;cases e
    ·rw[bg];rintro rfl;exact pQ z
   have hlen:ys.length=vs.length:=ry.len;refine⟨vs,zS,by lia,hlt,bl ((v8.mono (k5.trans k6)).mono kk),ys++[d],vs++[w],S6,k2.trans (k3.trans (Ho.trans kk)),d8,(ry.mono (k3.trans (Ho.trans kk))).append (.cons (r6.mono kk) .nil),Hq,
    ⟨λb u e=>(zT.obj b u e).keep kk (bg (ne3 e Hq)),λb z=>?_,zT.old.trans kk⟩,q6⟩
   have hb:b≠p:=λe=>pQ (e▸z);rw[bg hb];exact zT.hid b z
 ·have e:i=ds.length:=by lia
  subst e;refine .inl ⟨wk.stop S2 H2 k2 l2 Hm,?_⟩;refine hc (.ref p) (up S2 p (.lst ys)) (.ref p) H2 (k1.trans k2) (.ref p) ⟨λb u e=>?_,λb z=>?_,l2.old⟩ (done ys S2 w2 p hs2)
  ·by_cases hb:b=p
   ·subst hb;rw[ax]at e;cases e;exact⟨vs,hp2,ry⟩
   ·rw[aW hb]at e;exact l2.obj b u e
  ·have hb:b≠p:=λe=>pQ (e▸z);rw[aW hb];exact l2.hid b z
section
variable{σ:aJ}{S:af}{Q:K3}{wi:fv}{js:List Nat}{tt:cE}{te:aN}{Sh:D->aJ->Prop}
theorem VF(h:wi σ S λds Al S1=>∃W:Nat->List D->af->Prop,W 0 [] S1/\(∀i ys S,W i ys S->Al S/\ys.length<sizeLine) /\
 (∀i d ys S,ds[i]?=some d->W i ys S->∃ρ,Sh d ρ/\tt (ρ++dD σ js) S λb S2=>if b=true then te (ρ++dD σ js) S2 λy S3=>W (i+1) (ys++[y]) S3 else W (i+1) ys S2)/\∀ys S,W ds.length ys S->dG S ys Q):mE wi Sh tt te js σ S Q:=h
theorem Hr{ds:List D}{Al:af->Prop}{S1:af}(p:Nat->Bool)(f:Nat->D)(hz:ds.length<=100000)(hA:Al S1)
 (h:∀i d,ds[i]?=some d->∃ρ,Sh d ρ/\(∀P:Bool->af->Prop,P (p i) S1->tt (ρ++dD σ js) S1 P)/\(p i=true->∀P:K3,P (f i) S1->te (ρ++dD σ js) S1 P)) (q:dG S1 (((aZ ds.length).filter p).map f) Q) :
 ∃W:Nat->List D->af->Prop,W 0 [] S1/\(∀i ys S,W i ys S->Al S/\ys.length<sizeLine) /\
 (∀i d ys S,ds[i]?=some d->W i ys S->∃ρ,Sh d ρ/\tt (ρ++dD σ js) S λb S2=>if b=true then te (ρ++dD σ js) S2 λy S3=>W (i+1) (ys++[y]) S3 else W (i+1) ys S2)/\∀ys S,W ds.length ys S->dG S ys Q:=show _ by
 refine⟨λi ys S=>i<=ds.length/\ys=((aZ i).filter p).map f/\S=S1,⟨bV _,rfl,rfl⟩,?_,?_,?_⟩
 ·rintro i ys S ⟨hi,rfl,rfl⟩;refine⟨hA,?_⟩;rw[aG];have:=DH p (aZ i);rw[uc]at this;exact c6 (cC this (cC hi (cC hz (by decide))))
 ·rintro i d ys S hd ⟨hi,rfl,rfl⟩;obtain⟨ρ,sX,h1,h2⟩:=h i d hd;have hi':=(b4.mp hd).1;refine⟨ρ,sX,h1 _ ?_⟩;cases c:p i with
  |true =>
   rw[if_pos rfl];refine h2 c _ ⟨hi',?_,rfl⟩;rw[DI,uv,da];simp[c]
  |false =>
   rw[if_neg (by decide)];refine⟨hi',?_,rfl⟩;rw[DI,uv,da];simp[c]
 ·rintro ys S ⟨_,rfl,rfl⟩;exact q
theorem Hs{n:Nat}{f:Nat->D}:((aZ n).filter λ_=>true).map f=(aZ n).map f:=by rw[List.filter_eq_self.mpr λ_ _=>rfl]
theorem zU{d:D}{P:aJ->Prop}(h:P [some d]):∃ρ,mD d ρ/\P ρ:=⟨_,rfl,h⟩
theorem Ht{a b:D}{P:aJ->Prop}(h:P [some a,some b]):∃ρ,zP (.tup [a,b]) ρ/\P ρ:=⟨_,⟨a,b,rfl,rfl⟩,h⟩
theorem v9{P:Bool->af->Prop}(h:P true S):mC σ S P:=h
end
def jZ(as bs:List D):List D:=(as.zip bs).map λp=>.tup [p.1,p.2]
def Hu(ta:b6):fv:=λσ S R=>ta σ S λxs S1=>∃as bs,xs=[.tup as,.tup bs]/\R (jZ as bs) (λ_=>True) S1
theorem VG{K:aq}{Z:Zt}{a b:Addr}{xs ys:List V}{as bs:List D}{H1:Hp}(h1:bq K H1 a xs)(r1:aX K H1 as xs)(h2:bq K H1 b ys)(r2:aX K H1 bs ys):Wk K Z (zM K a b) (jZ as bs) (λ_=>True) H1:=show _ by
 constructor
 ·intro i d S H k l _ hd;unfold jZ at hd;rw[a7]at hd;obtain⟨p,hp,rfl⟩:=dz.mp hd;obtain⟨ha,hb⟩:=ND.mp hp;obtain⟨x,hx,rx⟩:=r1.at ha;obtain⟨y,hy,ry⟩:=r2.at hb;refine⟨⟨xs,ys,x,y,k.gZ h1,k.gZ h2,hx,hy⟩,?_⟩;rintro v H' ⟨T,x',y',rfl,hT,rfl,fx,fy⟩;have ex:x'=x:=by
   have:=fx _ (k.gZ h1);rw[hx]at this;exact(dg this).symm
  have ey:y'=y:=by
   have:=fy _ (k.gZ h2);rw[hy]at this;exact(dg this).symm
  subst ex ey;obtain⟨_,hz⟩:=l.fresh hT;have kn:Kp Z H (upd H T (.tup [x',y'])):=Kp.new hT hz;exact⟨kn,.tup d8 (.cons (rx.mono (k.trans kn)) (.cons (ry.mono (k.trans kn)) .nil)),λS' l'=>l'.lay hT,λb hb=>bg λe=>hb (e▸hT)⟩
 ·intro S H k l _;refine⟨xs,ys,k.gZ h1,k.gZ h2,?_⟩;have e1:=r1.len;have e2:=r2.len;simp only[jZ,aG,List.length_zip];lia
section
variable{X:Cx}{W3:bK}{es:List Expr}{kt:Nat}{tp pos p:Pos}{a b:Expr}{ta:b6}{σ:aJ}{S:af}{R:RI}{al:b6}
theorem VH(hg:Gl X "zip")(hm:X.mg "zip"=none)(ha:eK X W3 [a,b] ta)(hs:starEach [a,b] X.env=[(false,eval a X.env),(false,eval b X.env)]:=by rfl)(hs2:starEach [b] X.env=[(false,eval b X.env)]:=by rfl) :
 gF X W3 (.Tuple es kt tp) (.Call (.Name "zip" p) [a,b] [] pos) (Hu ta):=λZ=>PI.imp (Vx hg hm (ha Z) hs hs2) λτ H R kE=>by
 obtain⟨σ,S,R3,hs,hr,ht,hc⟩:=kE;refine⟨σ,S,_,hs,hr,ht,λds S1 vs H1 k1 r1 l1 q1=>?_⟩;obtain⟨as,bs,rfl,q⟩:=q1;cases r1 with
 |cons ra rr =>
  cases rr with
  |cons rb rn =>
   cases rn;cases ra with
   |tup h1 h2 =>
    cases rb with
    |tup h3 h4=>exact⟨_,_,rfl,⟨_,h1⟩,⟨_,h3⟩,hc (jZ as bs) _ S1 _ H1 k1 l1 q (VG h1 h2 h3 h4)⟩
def Hv(R:RI)(xs:List D)(S:af):Prop:=∃as bs,xs=[.tup as,.tup bs]/\R (jZ as bs) (λ_=>True) S
theorem VI(h:al σ S λxs S1=>Hv R xs S1):Hu al σ S R:=h
theorem VJ{as bs:List D}(q:R (jZ as bs) (λ_=>True) S):Hv R [.tup as,.tup bs] S:=⟨as,bs,rfl,q⟩
end
end E3
namespace EE
open PySem PySem.Spec PyProof.Rows L2
theorem r9:∀{ns:List Int} {us:List Value},Vals (ns.map V.int) us->∃ps:List (Int×Tok),us=ps.map (λp=>.int p.1 p.2)/\ps.map (·.1)=ns
 |[],_,.nil=>⟨[],rfl,rfl⟩
 |n::ns,_,.cons r t=>by
  obtain⟨tk,rfl⟩:=r;obtain⟨ps,rfl,e⟩:=r9 t;exact⟨(n,tk)::ps,rfl,by rw[bL,e]⟩
theorem Hw:∀{bs:List Bool} {us:List Value},Vals (bs.map V.bl) us->us=bs.map Value.bool
 |[],_,.nil=>rfl
 |b::bs,_,.cons r t=>by
  cases r;rw[Hw t];rfl
section
variable{X:Cx}
theorem VL(hc:X.calm=true):ja X (.builtin "max") (λxs H Q=>∃(a:Addr) (ns:List Int),xs=[.ref a]/\bu X.K H a (ns.map V.int)/\ns≠[]/\∀M,M∈ns->(∀b∈ns,b<=M)->Q (.int M) H):=show _ by
 intro pins s σ H xs us Q I r h;obtain⟨a,ns,rfl,hq,hne,q⟩:=h;obtain⟨u,rfl,r1⟩:=vals1 r;cases r1;obtain⟨its,rv,p,hz⟩:=I.list hq;obtain⟨ps,rfl,rfl⟩:=r9 rv;have hl:0<ps.length:=by
  cases ps with
  |nil=>exact absurd rfl hne
  |cons _ _=>simp
 have num:∀(j:Nat) (hj:j<ps.length),numAt ps.toArray j=(ps[j]).1:=λj hj=>by simp[numAt,hj]
 refine max_intList (xs:=ps.toArray) (I.ok.hd hc) (by have:=p.isList;simpa[intItems]using this) (by simpa using hl) λv h' tk hv k=>?_;obtain⟨t,rfl⟩:=intItems_at hv;have best:=argBest_gt (numAt ps.toArray) (ps.toArray.size-1);have hsz:ps.toArray.size=ps.length:=by simp
 have hlt:argBest (λi j=>decide (numAt ps.toArray i>numAt ps.toArray j)) (ps.toArray.size-1)<ps.length:=by lia
 refine⟨.int (numAt ps.toArray (argBest (λi j=>decide (numAt ps.toArray i>numAt ps.toArray j)) (ps.toArray.size-1))),H,I.kept k,⟨t,rfl⟩,q _ ?_ λb hb=>?_⟩
 ·rw[num _ hlt];exact bO.mpr ⟨_,oX hlt,rfl⟩
 ·obtain⟨p,hp,rfl⟩:=bO.mp hb;obtain⟨j,hj,rfl⟩:=jI hp;have:=best.2 j (by lia);rw[num j hj]at this;exact this
theorem range_any(bs:List Bool):((aZ bs.length).any λi=>bs.getD i true)=bs.any id:=by
 rw[iX,q_,q_];constructor
 ·rintro⟨j,hj,h⟩;have hj':=ik.mp hj;rw[bR,aU hj']at h;exact⟨_,oX hj',h⟩
 ·rintro⟨b,hb,h⟩;obtain⟨j,hj,rfl⟩:=jI hb;refine⟨j,ik.mpr hj,?_⟩;rw[bR,aU hj];exact h
theorem VM{prog:Program}{w:World}{A:Around}{bs:List Bool}:TruthOf prog w A (λi v=>(bs.map Value.bool).toArray[i]?=some v) (λi=>bs.getD i true):=by
 intro i v s Q E hP hQ;rw[List.getElem?_toArray,a7]at hP;obtain⟨b,hb,rfl⟩:=dz.mp hP;dsimp only at hQ;rw[bR,hb]at hQ;exact lP hQ
theorem VN(hc:X.calm=true):ja X (.builtin "any") (λxs H Q=>∃(a:Addr) (bs:List Bool),xs=[.ref a]/\bu X.K H a (bs.map V.bl)/\Q (.bl (bs.any id)) H):=show _ by
 intro pins s σ H xs us Q I r h;obtain⟨a,bs,rfl,hq,q⟩:=h;obtain⟨u,rfl,r1⟩:=vals1 r;cases r1;obtain⟨its,rv,p,hz⟩:=I.list hq;obtain rfl:=Hw rv;have pl:=p.isList;have hlt:a<s.heap.objs.size:=by
  obtain⟨_,e,_⟩:=pl;exact bG e
 refine call_any_walk (CI pl ⟨_,_,_,_,_,_,_,rfl,Walks.list (A:=X.A.in1) (I.ok.hd hc) s.heap.objs.size a (cW hlt) (bs.map Value.bool).toArray,⟨⟨_,c7 _ rfl,rfl,rfl⟩,pl.push _⟩,VM,λh' tk hk=>?_⟩);have hz:(bs.map Value.bool).toArray.size=bs.length:=by simp
 rw[hz,range_any];refine⟨.bl _,H,I.kept λb o e=>hk b o (λhm=>?_) (bA _ e),rfl,q⟩;have e1:b=s.heap.objs.size:=by simpa using hm
 exact absurd (bG e) (by rw[e1];exact kf _)
end
end EE
namespace E3
open PySem PySem.Spec PyProof.Rows L2 EE
section
variable{K:PySem.W.Frag}
theorem VO{H:Hp}{ns:List Int}{vs:List V}(h:aX K H (ns.map D.int) vs):vs=ns.map V.int:=by
 induction ns generalizing vs with
 |nil=>cases h;rfl
 |cons n ns ih =>
  rw[bL]at h;cases h with
  |cons h t=>cases h;rw[ih t];rfl
theorem VP{H:Hp}{bs:List Bool}{vs:List V}(h:aX K H (bs.map D.bl) vs):vs=bs.map V.bl:=by
 induction bs generalizing vs with
 |nil=>cases h;rfl
 |cons n ns ih =>
  rw[bL]at h;cases h with
  |cons h t=>cases h;rw[ih t];rfl
def Hz:List D->af->K3->Prop:=λxs S Q=>∃(x:D) (ns:List Int),xs=[x]/\IsL S x (ns.map D.int)/\ns≠[]/\∀M,M∈ns->(∀b∈ns,b<=M)->Q (.int M) S
theorem VQ:jT K Hz (λxs H Q=>∃(a:Addr) (ns:List Int),xs=[.ref a]/\bu K H a (ns.map V.int)/\ns≠[]/\∀M,M∈ns->(∀b∈ns,b<=M)->Q (.int M) H):=show _ by
 intro Z ds S Q3 vs H Q r l h c;obtain⟨x,ns,rfl,hx,hne,q⟩:=h;cases r with
 |cons r rr =>
  cases rr;obtain⟨a,ws,rfl,h1,h2⟩:=hx.down r l;rw[VO h2]at h1;exact⟨a,ns,rfl,h1,hne,λM h3 h4=>c _ S _ H (Kp.refl _ _) (.int _) l (q M h3 h4)⟩
def HA:List D->af->K3->Prop:=λxs S Q=>∃i j,xs=[.int i,.int j]/\Q (.int (if j>i then j else i)) S
theorem VR:jT K HA (λxs H Q=>∃i j,xs=[.int i,.int j]/\Q (.int (if j>i then j else i)) H):=by
 intro Z ds S Q3 vs H Q r l h c;obtain⟨i,j,rfl,q⟩:=h;cases r with
 |cons r rr =>
  cases rr with
  |cons r' rr =>
   cases rr;cases r;cases r';exact⟨i,j,rfl,c _ S _ H (Kp.refl _ _) (.int _) l q⟩
def HB(f:List Bool->Bool):List D->af->K3->Prop:=λxs S Q=>∃(x:D) (bs:List Bool),xs=[x]/\IsL S x (bs.map D.bl)/\Q (.bl (f bs)) S
theorem VS{f:List Bool->Bool}:jT K (HB f) (λxs H Q=>∃(a:Addr) (bs:List Bool),xs=[.ref a]/\bu K H a (bs.map V.bl)/\Q (.bl (f bs)) H):=show _ by
 intro Z ds S Q3 vs H Q r l h c;obtain⟨x,bs,rfl,hx,q⟩:=h;cases r with
 |cons r rr =>
  cases rr;obtain⟨a,ws,rfl,h1,h2⟩:=hx.down r l;rw[VP h2]at h1;exact⟨a,bs,rfl,h1,c _ S _ H (Kp.refl _ _) (.bl _) l q⟩
def zV(r r':R3)(ta tb tc:aN):aN:=λσ S Q=>ta σ S λx S1=>tb σ S1 λy S2=>r x y S2 λz S3=>∃k,z=.bl k/\(if k=true then tc σ S3 λu S4=>r' y u S4 Q else Q (.bl false) S3)
theorem VT{Z:Zt}{r r':R2}{r3 r3':R3}{ta tb tc:aN}{τ:L2.St}{H:Hp}{Q:VK}(hd:cS K r3 r)(hd':cS K r3' r')(h:lE K Z (zV r3 r3' ta tb tc) τ H Q):Et r r' (lE K Z ta) (lE K Z tb) (lE K Z tc) τ H Q:=show _ by
 obtain⟨σ,S,Q3,hs,hr,ht,hc⟩:=h;refine⟨σ,S,_,hs,hr,ht,λx S1 v H1 k1 r1 l1 q1=>⟨σ,S1,_,hs.mono k1,l1,q1,λy S2 w H2 k2 r2 l2 q2=>?_⟩⟩;refine hd Z x y S2 _ v w H2 _ (r1.mono k2) r2 l2 q2 λz S3 u H3 k3 r3 l3 q3=>?_;obtain⟨k,rfl,q3⟩:=q3;cases r3;refine⟨k,rfl,?_⟩;cases k with
 |false =>
  rw[if_neg cV]at q3 ⊢;exact hc (.bl false) S3 _ H3 (k1.trans (k2.trans k3)) (.bl false) l3 q3
 |true =>
  rw[if_pos rfl]at q3 ⊢;exact⟨σ,S3,_,hs.mono (k1.trans (k2.trans k3)),l3,q3,λu S4 u' H4 k4 r4 l4 q4=>hd' Z y u S4 _ w u' H4 _ (r2.mono (k3.trans k4)) r4 l4 q4 (hc.mono (k1.trans (k2.trans (k3.trans k4))))⟩
end
section
variable{X:Cx}{W3:bK}{a b c:Expr}{ta tb tc:aN}{pos:Pos}{op op':CmpOp}{r r':R2}{r3 r3':R3}
theorem VU(ho:cu X (compareOp op) r)(hd:cS X.K r3 r)(ho':cu X (compareOp op') r')(hd':cS X.K r3' r')(ha:aK X W3 a ta)(hb:aK X W3 b tb)(hc:aK X W3 c tc)(hm:lastMarks [op,op'] [b,c]=false:=by with_unfolding_all rfl) :
 eJ X W3 (.Compare a [op,op'] [b,c] pos) (je (zV r3 r3' ta tb tc)):=λZ=>PT.imp (P1 ho ho' (ha Z) (hb Z) (hc Z) hm) λ_ _ _ h=>yZ (λ_ _ _ h=>VT hd hd' h) h
end
section
variable{σ:aJ}{S:af}{Q:K3}{ta tb tc:aN}{r r':R3}
theorem VV(h:ta σ S λx S1=>tb σ S1 λy S2=>r x y S2 λz S3=>∃k,z=.bl k/\(if k=true then tc σ S3 λu S4=>r' y u S4 Q else Q (.bl false) S3)):zV r r' ta tb tc σ S Q:=h
theorem VW{a:Addr}{ns:List Int}(hS:S a=some (.lst (ns.map D.int)))(hn:ns≠[])(q:∀M,M∈ns->(∀b∈ns,b<=M)->Q (.int M) S):Hz [.ref a] S Q:=⟨_,ns,rfl,.inl ⟨a,rfl,hS⟩,hn,q⟩
theorem VX{i j:Int}(q:Q (.int (if j>i then j else i)) S):HA [.int i,.int j] S Q:=⟨i,j,rfl,q⟩
theorem VY{f:List Bool->Bool}{a:Addr}{bs:List Bool}(hS:S a=some (.lst (bs.map D.bl)))(q:Q (.bl (f bs)) S):HB f [.ref a] S Q:=⟨_,bs,rfl,.inl ⟨a,rfl,hS⟩,q⟩
end
def zW(c:cE)(t u:b7):b7:=pz c t u
theorem gK{X:Cx}{W3:bK}{c:Expr}{a b:List Stmt}{tc:cE}{t u:b7}{pos:Pos}(hc:eJ X W3 c tc)(ha:dc X W3 a t)(hb:dc X W3 b u):eM X W3 (.If c a b pos) (zW tc t u):=cy hc ha hb
theorem hV{tc:cE}{t u:b7}{n:aJ->af->Prop}{rt:K3}{bk ct:aJ->af->Prop}{σ:aJ}{S:af}(Mid:aJ->af->Prop)(h1:∀n':aJ->af->Prop,(∀σ S,Mid σ S->n' σ S)->pz tc t u ⟨n',rt,bk,ct⟩ σ S)
 (h2:∀σ S,Mid σ S->n σ S):zW tc t u ⟨n,rt,bk,ct⟩ σ S:=h1 n h2
def jn(a b:Int):Int:=if a=0∨b=0 then 0 else if b>a then b else a
abbrev bh:=List (List Int)
def at2(B:bh)(j k:Nat):Int:=(B.getD j []).getD k 0
def jo(f:Nat->Int)(n:Nat):Int:=(aZ n).foldl (λacc j=>max acc (f j)) 0
def dot(row:List Int)(B:bh)(k:Nat):Int:=jo (λj=>jn (row.getD j 0) (at2 B j k)) row.length
def dZ(A B:bh):bh:=A.map λrow=>(aZ (B.headD []).length).map λk=>dot row B k
structure Mt(m n:Nat)(A:bh):Prop where
 len:A.length=m
 row:∀r∈A,r.length=n
 num:∀r∈A,∀x∈r,0<=x/\x<=2
theorem zX{f:Nat->Int}{t:Int}:∀(l:List Nat) (z:Int),t<=l.foldl (λacc j=>max acc (f j)) z↔t<=z∨∃j∈l,t<=f j
 |[],z=>by simp
 |j::l,z=>by
  rw[oV,zX l];constructor
  ·rintro(h|⟨i,hi,h⟩)
   ·rcases Int.le_total z (f j) with c|c
    ·rw[Int.max_eq_right c]at h;exact .inr ⟨j,cL,h⟩
    ·rw[Int.max_eq_left c]at h;exact .inl h
   ·exact .inr ⟨i,cO _ hi,h⟩
  ·rintro(h|⟨i,hi,h⟩)
   ·exact .inl (by lia)
   ·rcases bJ.mp hi with rfl|hi
    ·exact .inl (by lia)
    ·exact .inr ⟨i,hi,h⟩
theorem mF{f:Nat->Int}{n:Nat}{t:Int}(ht:1<=t):t<=jo f n↔∃j,j<n/\t<=f j:=by
 unfold jo;rw[zX];constructor
 ·rintro(h|⟨j,hj,h⟩)
  ·lia
  ·exact⟨j,ik.mp hj,h⟩
 ·rintro⟨j,hj,h⟩;exact .inr ⟨j,ik.mpr hj,h⟩
theorem zY{f:Nat->Int}{n:Nat}:0<=jo f n:=by
 unfold jo;rw[zX];exact .inl (DJ _)
theorem HC{f:Nat->Int}{n:Nat}{t:Int}(h0:0<=t)(h:∀j,j<n->f j<=t):jo f n<=t:=by
 rcases Int.lt_or_le t (jo f n) with c|c
 ·obtain⟨j,hj,q⟩:=(mF (show 1<=t+1 by lia)).mp (show t+1<=jo f n by lia);have:=h j hj;lia
 ·exact c
theorem VZ{f:Nat->Int}{n:Nat}{M:Int}(h0:∀j,j<n->0<=f j)(hm:M∈(aZ n).map f)(hb:∀b∈(aZ n).map f,b<=M):M=jo f n:=show _ by
 obtain⟨j,hj,rfl⟩:=bO.mp hm;have hj:=ik.mp hj;have a:jo f n<=f j:=HC (h0 j hj) λi hi=>hb _ (bO.mpr ⟨i,ik.mpr hi,rfl⟩);have b:f j<=jo f n:=by
  rcases Int.lt_or_le (f j) 1 with c|c
  ·exact DL (show f j<=0 by lia) zY
  ·exact(mF c).mpr ⟨j,hj,DJ _⟩
 lia
theorem V0{a b:Int}(ha:0<=a)(hb:0<=b):0<=jn a b:=by
 unfold jn
 split
 ·exact DJ _
 ·split<;>lia
theorem V1{a b:Int}(ha:a<=2)(hb:b<=2):jn a b<=2:=by
 unfold jn
 split
 ·decide
 ·split<;>lia
theorem gj{a b:Int}(ha:0<=a)(hb:0<=b):1<=jn a b↔1<=a/\1<=b:=by
 unfold jn
 split
 ·lia
 ·split<;>lia
theorem gL{a b:Int}(ha:0<=a)(hb:0<=b):2<=jn a b↔1<=a/\1<=b/\(2<=a∨2<=b):=by
 unfold jn
 split
 ·lia
 ·split<;>lia
theorem getD_mem{l:List Int}{j:Nat}(h:j<l.length):l.getD j 0∈l:=by
 rw[bR,aU h];exact oX h
theorem pR{l:bh}{j:Nat}(h:j<l.length):l.getD j []∈l:=by
 rw[bR,aU h];exact oX h
theorem getD_map{α β:Type}{f:α->β}{l:List α}{j:Nat}{x:α}{y:β}(h:j<l.length):(l.map f).getD j y=f (l.getD j x):=by
 rw[bR,a7,aU h,bR,aU h];rfl
theorem v_{β:Type}{f:Nat->β}{n j:Nat}{y:β}(h:j<n):((aZ n).map f).getD j y=f j:=by
 rw[bR,a7,lW h];rfl
theorem wb{row:List Int}(h:∀x∈row,0<=x/\x<=2)(j:Nat):0<=row.getD j 0/\row.getD j 0<=2:=by
 by_cases hj:j<row.length
 ·exact h _ (getD_mem hj)
 ·rw[bR,dQ (by lia)];exact⟨by decide,by decide⟩
theorem Mt.at{m n:Nat}{B:bh}(h:Mt m n B)(j k:Nat):0<=at2 B j k/\at2 B j k<=2:=by
 unfold at2;by_cases hj:j<B.length
 ·exact wb (h.num _ (pR hj)) k
 ·rw[bR (l:=B),dQ (by lia)];simp
theorem kT{m n:Nat}{B:bh}{row:List Int}(h:Mt m n B)(hr:∀x∈row,0<=x/\x<=2)(k:Nat):0<=dot row B k/\dot row B k<=2 :=
 ⟨zY,HC (by decide) λj _=>V1 (wb hr j).2 (h.at j k).2⟩
theorem Mt.head{m n:Nat}{B:bh}(h:Mt m n B)(hm:0<m):(B.headD []).length=n:=by
 cases B with
 |nil =>
  have:=h.len;simp at this;lia
 |cons r _=>exact h.row r cL
theorem Mt.cmp{m n p:Nat}{A B:bh}(hA:Mt m n A)(hB:Mt n p B)(hn:0<n):Mt m p (dZ A B):=show _ by
 refine⟨by rw[dZ,aG];exact hA.len,λr hr=>?_,λr hr x hx=>?_⟩
 ·obtain⟨row,_,rfl⟩:=bO.mp hr;rw[aG,uc,hB.head hn]
 ·obtain⟨row,hrow,rfl⟩:=bO.mp hr;obtain⟨k,_,rfl⟩:=bO.mp hx;exact kT hB (hA.num row hrow) k
theorem wc{m n p:Nat}{A B:bh}(hA:Mt m n A)(hB:Mt n p B)(hn:0<n){i k:Nat}(hi:i<m)(hk:k<p):at2 (dZ A B) i k=dot (A.getD i []) B k:=by
 unfold at2 dZ;rw[getD_map (x:=[]) (by rw[hA.len];exact hi),hB.head hn,v_ hk]
theorem V2{m n p q:Nat}{A B C:bh}(hA:Mt m n A)(hB:Mt n p B)(hC:Mt p q C)(hn:0<n)(hp:0<p):dZ (dZ A B) C=dZ A (dZ B C):=show _ by
 have HD:=hB.cmp hC hp;unfold dZ;rw[fY];refine DM λrow hrow=>?_;have e1:((B.map λrow=>(aZ (C.headD []).length).map λk=>dot row C k).headD []).length=q:=HD.head hn;rw[e1,hC.head hp];dsimp only[Function.comp];have e2:(B.map λrow=>(aZ q).map λk=>dot row C k)=dZ B C:=by unfold dZ;rw[hC.head hp]
 rw[e2];refine DM λk hk=>?_;have hk:=ik.mp hk;rw[hB.head hn];have hrn:=hA.num row hrow;have hrl:=hA.row row hrow;have V3:∀x∈(aZ p).map λk=>dot row B k,0<=x/\x<=2:=λx hx=>by
  obtain⟨j,_,rfl⟩:=bO.mp hx;exact kT hB hrn j
 have L:=kT hC V3 k;have R:=kT HD hrn k;have l1:∀t:Int,1<=t->(t<=dot ((aZ p).map λk=>dot row B k) C k↔∃j,j<p/\t<=jn (dot row B j) (at2 C j k)):=λt ht=>by
  unfold dot;rw[mF ht,aG,uc];constructor
  ·rintro⟨j,hj,h⟩;rw[v_ hj]at h;exact⟨j,hj,h⟩
  ·rintro⟨j,hj,h⟩;refine⟨j,hj,?_⟩;rw[v_ hj];exact h
 have r1:∀t:Int,1<=t->(t<=dot row (dZ B C) k↔∃i,i<n/\t<=jn (row.getD i 0) (dot (B.getD i []) C k)):=λt ht=>by
  unfold dot;rw[mF ht,hrl];constructor
  ·rintro⟨i,hi,h⟩;rw[wc hB hC hp hi hk]at h;exact⟨i,hi,h⟩
  ·rintro⟨i,hi,h⟩;refine⟨i,hi,?_⟩;rw[wc hB hC hp hi hk];exact h
 have dB:∀(j:Nat) (t:Int),1<=t->(t<=dot row B j↔∃i,i<n/\t<=jn (row.getD i 0) (at2 B i j)):=λj t ht=>by
  unfold dot;rw[mF ht,hrl]
 have dC:∀(i:Nat) (t:Int),i<n->1<=t->(t<=dot (B.getD i []) C k↔∃j,j<p/\t<=jn (at2 B i j) (at2 C j k)):=λi t hi ht=>by
  have hl:(B.getD i []).length=p:=hB.row _ (pR (by rw[hB.len];exact hi));unfold dot;rw[mF ht,hl];rfl
 have na:=λi=>wb hrn i;have nd:∀i,0<=dot (B.getD i []) C k:=λi=>zY;have nb:=λi j=>hB.at i j;have nc:=λj=>hC.at j k;have one:1<=dot ((aZ p).map λk=>dot row B k) C k↔1<=dot row (dZ B C) k:=by
  rw[l1 1 (by decide),r1 1 (by decide)];constructor
  ·rintro⟨j,hj,h⟩;obtain⟨h1,h2⟩:=(gj (kT hB hrn j).1 (nc j).1).mp h;obtain⟨i,hi,h3⟩:=(dB j 1 (by decide)).mp h1;obtain⟨h4,h5⟩:=(gj (na i).1 (nb i j).1).mp h3;exact⟨i,hi,(gj (na i).1 (nd i)).mpr ⟨h4,(dC i 1 hi (by decide)).mpr ⟨j,hj,(gj (nb i j).1 (nc j).1).mpr ⟨h5,h2⟩⟩⟩⟩
  ·rintro⟨i,hi,h⟩;obtain⟨h1,h2⟩:=(gj (na i).1 (nd i)).mp h;obtain⟨j,hj,h3⟩:=(dC i 1 hi (by decide)).mp h2;obtain⟨h4,h5⟩:=(gj (nb i j).1 (nc j).1).mp h3;exact⟨j,hj,(gj (kT hB hrn j).1 (nc j).1).mpr ⟨(dB j 1 (by decide)).mpr ⟨i,hi,(gj (na i).1 (nb i j).1).mpr ⟨h1,h4⟩⟩,h5⟩⟩
 have two:2<=dot ((aZ p).map λk=>dot row B k) C k↔2<=dot row (dZ B C) k:=by
  rw[l1 2 (by decide),r1 2 (by decide)];constructor
  ·rintro⟨j,hj,h⟩;obtain⟨h1,h2,h3⟩:=(gL (kT hB hrn j).1 (nc j).1).mp h;rcases h3 with h3|h3
   ·obtain⟨i,hi,h4⟩:=(dB j 2 (by decide)).mp h3;obtain⟨h5,h6,h7⟩:=(gL (na i).1 (nb i j).1).mp h4;refine⟨i,hi,(gL (na i).1 (nd i)).mpr ⟨h5,(dC i 1 hi (by decide)).mpr ⟨j,hj,(gj (nb i j).1 (nc j).1).mpr ⟨h6,h2⟩⟩,?_⟩⟩;rcases h7 with h7|h7
    ·exact .inl h7
    ·exact .inr ((dC i 2 hi (by decide)).mpr ⟨j,hj,(gL (nb i j).1 (nc j).1).mpr ⟨h6,h2,.inl h7⟩⟩)
   ·obtain⟨i,hi,h4⟩:=(dB j 1 (by decide)).mp h1;obtain⟨h5,h6⟩:=(gj (na i).1 (nb i j).1).mp h4;have h8:=(dC i 2 hi (by decide)).mpr ⟨j,hj,(gL (nb i j).1 (nc j).1).mpr ⟨h6,h2,.inr h3⟩⟩;exact⟨i,hi,(gL (na i).1 (nd i)).mpr ⟨h5,by lia,.inr h8⟩⟩
  ·rintro⟨i,hi,h⟩;obtain⟨h1,h2,h3⟩:=(gL (na i).1 (nd i)).mp h;rcases h3 with h3|h3
   ·obtain⟨j,hj,h4⟩:=(dC i 1 hi (by decide)).mp h2;obtain⟨h5,h6⟩:=(gj (nb i j).1 (nc j).1).mp h4;have h8:=(dB j 2 (by decide)).mpr ⟨i,hi,(gL (na i).1 (nb i j).1).mpr ⟨h1,h5,.inl h3⟩⟩;exact⟨j,hj,(gL (kT hB hrn j).1 (nc j).1).mpr ⟨by lia,h6,.inl h8⟩⟩
   ·obtain⟨j,hj,h4⟩:=(dC i 2 hi (by decide)).mp h3;obtain⟨h5,h6,h7⟩:=(gL (nb i j).1 (nc j).1).mp h4;refine⟨j,hj,(gL (kT hB hrn j).1 (nc j).1).mpr ⟨(dB j 1 (by decide)).mpr ⟨i,hi,(gj (na i).1 (nb i j).1).mpr ⟨h1,h5⟩⟩,h6,?_⟩⟩;rcases h7 with h7|h7
    ·exact .inl ((dB j 2 (by decide)).mpr ⟨i,hi,(gL (na i).1 (nb i j).1).mpr ⟨h1,h5,.inr h7⟩⟩)
    ·exact .inr h7
 lia
def cF(r:List Int):D:=.tup (r.map D.int)
def iI(A:bh):D:=.tup (A.map cF)
def fS(f t:Str)(A:bh):D:=.tup [.str f,.str t,iI A]
theorem V4{x a b:Int}:memD (.int x) [.int a,.int b]=decide (a=x∨b=x):=by
 rw[iX];simp[memD,inV,vD,jc]
theorem V5(r:List Int):D.gI (r.map D.int)=true:=D.pC.mpr λd hd=>by
 obtain⟨x,_,rfl⟩:=bO.mp hd;rfl
theorem V6(r:List Int):fi (D.dX (r.map D.int))<=1:=by
 rw[D.mv];refine zL λd hd=>?_;obtain⟨e,he,rfl⟩:=bO.mp hd;obtain⟨x,_,rfl⟩:=bO.mp he;simp[D.dt,dF]
theorem V7(f t:Str)(A:bh):(fS f t A).pure=true:=by
 have h:D.gI (A.map cF)=true:=D.pC.mpr λd hd=>by
  obtain⟨r,_,rfl⟩:=bO.mp hd;simp only[cF,D.pure];exact V5 r
 simp only[fS,iI,D.pure,D.gI,h,iW]
theorem V8(f t:Str)(A:bh):dF (fS f t A).dt<=10:=by
 have h:fi (D.dX (A.map cF))<=3:=by
  rw[D.mv];refine zL λd hd=>?_;obtain⟨e,he,rfl⟩:=bO.mp hd;obtain⟨r,_,rfl⟩:=bO.mp he;have:=V6 r;simp only[cF,D.dt,dF];lia
 simp only[fS,iI,D.dt,D.dX,dF,fi];lia
section
variable{S:af}{Q:K3}{f t:Str}{A:bh}{r:List Int}{R:RI}
theorem V9(q:Q (.int (r.length:Int)) S):sL [cF r] S Q:=⟨_,r.map D.int,rfl,.inr rfl,by rw[aG];exact q⟩
theorem V_(q:R (A.map cF) (λ_=>True) S):zt R (iI A) S:=⟨_,rfl,q⟩
theorem V'{k:Nat}{i:Int}(e:i=(k:Int))(hk:k<A.length)(q:Q (cF (A.getD k [])) S):nG (iI A) (.int i) S Q:=by
 subst e;refine⟨A.map cF,_,_,rfl,rfl,fP ?_,q⟩;rw[a7,bR,aU hk];rfl
end
section
variable{P:Program}{w:World}{K:PySem.W.Frag}{mg:Str->Option Value}{base:Heap}{x:Str}{st:Stmt}{N ps:List Str}{k:Nat}
def pS(A:List D->af->(List D->Prop)->(Addr->Prop)->Prop):aL:=λds S Q W=>A ds S (λys=>dG S ys Q) λC=>∀a,W C a S
theorem _root_.EE.az.pS{A:List D->af->(List D->Prop)->(Addr->Prop)->Prop}(h:az K mg x st ps)(S:a8 N ps (ao st))(len:∀ds S q qx,A ds S q qx->ds.length=ps.length)
 (hbody:∀(f:Addr) (cdv:Value) (Ar:Around) (outer:List Env) (s:Shared) (H:Hp) (E:XK) (ds:List D) (S:af) (q:List D->Prop) (qx:Addr->Prop),bP k (Ar.deeper (envOfC x (ao st) s.heap.objs.size f cdv))->A ds S q qx ->
  ∃t,dc (cX (cc P w) P w K mg base N x (ao st) f cdv Ar outer s H E) (λ_ C _ S'=>Sub S S'/\qx C) (aV st) t /\
   t {nx:=λ_ _=>False,rt:=λd S'=>∃p ys,d=.ref p/\S p=none/\Sub S S'/\S' p=some (.lst ys)/\q ys} (dY N ds) S):av P w K mg base (k+1) x ps (pS A):=show _ by
 have C:av P w K mg base (k+1) x ps (λds S Q E=>∃q qx,A ds S q qx/\(∀d S',(∃p ys,d=.ref p/\S p=none/\Sub S S'/\S' p=some (.lst ys)/\q ys)->Q d S')/\∀C a S',Sub S S'/\qx C->E C a S'):=by
  refine h.vF S (λvs H Q E cR=>by obtain⟨q,qx,z,_⟩:=cR;exact len _ _ _ _ z) λf cdv Ar outer s H E ds S3 Q E3 hr ⟨q,qx,z,hq,hx⟩=>?_;obtain⟨t,h1,h2⟩:=hbody f cdv Ar outer s H E ds S3 _ _ hr z;refine⟨t,λd S'=>∃p ys,d=.ref p/\S3 p=none/\Sub S3 S'/\S' p=some (.lst ys)/\q ys,λC _ S'=>Sub S3 S'/\qx C,h1,?_,hq,hx⟩;have e:(λ(_:aJ) (_:af)=>False)=λ(_:aJ) (S':af)=>∃p ys,D.non=.ref p/\S3 p=none/\Sub S3 S'/\S' p=some (.lst ys)/\q ys:=by
   funext _ S';refine propext ⟨eX,λz=>?_⟩;obtain⟨p,ys,z,_⟩:=z;cases z
  rw[<-e];exact h2
 refine C.zD.imp λds S Q E z=>⟨_,_,z,λd S1 ⟨p,ys,e,hp,hs,hp1,hq⟩=>⟨up S p (.lst ys),?_,?_⟩,λC a S1 hx=>⟨S,hx.1,hx.2 a⟩⟩
 ·intro a o ha;by_cases c:a=p
  ·subst c;rw[ax]at ha;cases ha;exact hp1
  ·rw[aW c]at ha;exact hs a o ha
 ·subst e;exact hq p hp
end
open Classical in
theorem wd{α:Type}[DecidableEq α]:∀{ks ns:List α},ks.Nodup->(∀x∈ks,x∈ns)->ks.length<=ns.length
 |[],_,_,_=>bV _
 |k::ks,ns,h,hs=>by
  have hk:=hs k cL;have h1:=NF hk;have h2:0<ns.length:=NG hk;have h3:=wd (ks:=ks) (ns:=ns.erase k) (iZ.mp h).2 λx hx=>by
   have hne:x≠k:=λe=>(iZ.mp h).1 (e▸hx);exact(NH hne).mpr (hs x (cO _ hx))
  simp only[bp];lia
end E3
namespace EE
open PySem PySem.Spec PyProof.Rows L2
end EE
namespace E3
open PySem PySem.Spec PyProof.Rows L2 EE
end E3
namespace EE
open PySem PySem.Spec PyProof.Rows L2
def Wa(σ:List Str)(v:Str):List Str:=if v∈σ then σ else σ++[v]
def met(vs:List Str):List Str:=vs.foldl Wa []
end EE
namespace E3
open PySem PySem.Spec PyProof.Rows L2 EE
end E3
namespace EE
open PySem PySem.Spec PyProof.Rows L2
def HE(K:aq)(a:Addr)(n:Nat):It :=
 ⟨λi H=>i<n/\∃xs,bu K H a xs/\xs.length=n,λi H x H'=>H'=H/\∀xs,bu K H a xs->xs[n-1-i]?=some x,λi _=>n<=i⟩
theorem Wb{P:Program}{w:World}{K:aq}{tg:Expr}(a it:Addr)(n:Nat):Turn P w K tg (HE K a n) [it] it (λi h=>i<=n/\h.IsRevIter it a ((n:Int)-1-(i:Int))) where
 mem:=show _ by simp
 obj:=λi h st b hb=>by
  have e:b=it:=by simpa using hb
  subst e;obtain⟨_,o,e,c,d⟩:=st;exact⟨o,e,λv z=>by rw[d]at z;cases z⟩
 keep:=λi h h' st k=>let⟨hi,o,ho,r⟩:=st;⟨hi,o,k it (by simp) o ho,r⟩
 item:=by
  intro X hP hw hK hc i pins s σ H E I hf st hg;subst hP hw hK;obtain⟨hi,xs,hq,hn⟩:=hg;obtain⟨its,rv,p,hz⟩:=I.list hq;have hl:=rv.length;have hx:xs[n-1-i]?=some xs[n-1-i]:=aU (by lia);obtain⟨u,hu,ru⟩:=rv.get hx;obtain⟨f0,f1,f2,f3,f4,f5⟩:=hf it (by simp);have e1:(n:Int)-1-(i:Int)=((n-1-i:Nat):Int):=by lia
  have st2:=st.2;rw[e1]at st2;refine wpAny_pyNext_rev_item st2 p.isList (x:=u) (by simpa using hu) λh' st' sb=>?_;have I1:Inv X pins σ H {s with heap:=h'}:=I.turned (t':=s.toks) (λb o hb e=>(sb.2 b hb).trans e) f0 f1 f3 f4 f5;obtain⟨o,e,c,d⟩:=id st';have e2:((n-1-i:Nat):Int)-1=(n:Int)-1-((i+1:Nat):Int):=by lia
  refine⟨u,rfl,rH (s:={s with heap:=h'}) e c d (by decide) ⟨xs[n-1-i],H,I1,ru,⟨rfl,λys hy=>by rw[I.uH hy hq];exact hx⟩,⟨hi,?_⟩,λb hb=>(hf b hb).1⟩⟩;rw[<-e2];exact st'
 done:=by
  intro X hP hw hK hc i pins s σ H E I hf st hg;subst hP hw hK;obtain⟨f0,f1,f2,f3,f4,f5⟩:=hf it (by simp);have hg':n<=i:=hg;have e1:(n:Int)-1-(i:Int)=-1:=by have:=st.1;lia
  have st2:=st.2;rw[e1]at st2;exact wpAny_pyNext_rev_end (I.ok.hd hc) st2 λh' eb=>⟨rfl,I.turned (t':=s.toks) (λb o hb e=>eb b o hb e) f0 f1 f3 f4 f5⟩
 self:=λ_ _ _ _ _ st h=>NI st.2 h
def Wc(K:aq)(te:TA):TI:=λσ H R=>te σ H λvs H1=>∃a xs,vs=[.ref a]/\bu K H1 a xs/\R (HE K a xs.length) H1
theorem Wd{X:Cx}{tg a:Expr}{ta:TA}{p pos:Pos}(hg:Gl X "reversed")(hm:X.mg "reversed"=none)(ha:PA X [a] ta)(hs:starEach [a] X.env=[(false,eval a X.env)]:=by rfl):PI X tg (.Call (.Name "reversed" p) [a] [] pos) (Wc X.K ta):=show _ by
 intro pins s σ H R I h;refine Call_ (kC I hg hm Fu (mW (aF (ha pos pins s σ H _ I h) λus s1 ⟨vs,H1,I1,r1,q1⟩=>?_) hs rfl));obtain⟨b,xs,e,hq,q⟩:=q1;subst e;cases r1 with
 |cons r rr =>
  cases rr;cases r;obtain⟨its,rv,pt,hz⟩:=I1.list hq;have hl:=rv.length;refine call_reversed_list pt.isList ?_;have I2:Inv X pins σ H1 {s1 with heap:=s1.heap.push (revObj b ((its.toArray.size:Int)-1))}:=I1.kept (t':=s1.toks) λc o e=>bA _ e;have st:(s1.heap.push (revObj b ((its.toArray.size:Int)-1))).IsRevIter s1.heap.objs.size b ((its.toArray.size:Int)-1):=⟨_,c7 _ rfl,rfl,rfl⟩;refine NI st ?_;have e1:(its.toArray.size:Int)-1=(xs.length:Int)-1-((0:Nat):Int):=by simp only[cj];lia
  refine⟨s1.heap.objs.size,[s1.heap.objs.size],_,_,H1,rfl,I2,Wb b _ xs.length,⟨bV _,by rw[<-e1];exact st⟩,λc hc=>?_,q⟩;have e:c=s1.heap.objs.size:=by simpa using hc
  subst e;exact I1.kG (aT _) (I1.hok.fresh (aT _))
end EE
namespace E3
open PySem PySem.Spec PyProof.Rows L2 EE
section
variable{X:Cx}{W3:bK}{tg:Expr}{pos:Pos}
def HF(ta:b6):fv:=λσ S R=>ta σ S λxs S1=>∃a ds,xs=[.ref a]/\S1 a=some (.lst ds)/\R ds.reverse (λS=>S a=some (.lst ds)) S1
theorem HG{a:Expr}{ta:b6}{p:Pos}(hg:Gl X "reversed")(hm:X.mg "reversed"=none)(ha:eK X W3 [a] ta)(hs:starEach [a] X.env=[(false,eval a X.env)]:=by rfl):gF X W3 tg (.Call (.Name "reversed" p) [a] [] pos) (HF ta) :=
 λZ=>PI.imp (Wd hg hm (ha Z) hs) λτ H R cR=>by
 obtain⟨σ,S,R3,hs,hr,ht,hc⟩:=cR;refine⟨σ,S,_,hs,hr,ht,λxs S1 zg H1 k1 r1 l1 q1=>?_⟩;obtain⟨b,ds,rfl,e,q⟩:=q1;cases r1 with
 |cons r1 rr =>
  cases rr;cases r1;obtain⟨vs,h1,h2⟩:=l1.obj b _ e;have hl:=h2.len;refine⟨b,vs,rfl,bu.of h1,hc _ _ S1 _ H1 k1 l1 q ⟨λi d S2 H2 k2 l2 al hd=>?_,λS2 H2 k2 l2 al=>?_⟩⟩
  ·have hi:i<ds.length:=show _ by
    have:=(b4.mp hd).1;simpa using this
   rw[Nl hi]at hd;obtain⟨ws,h3,h4⟩:=l2.obj b _ al;have We:=h4.len;obtain⟨v,hv,rv⟩:=h4.at hd;rw[hl]at hv;refine⟨⟨by lia,ws,bu.of h3,by lia⟩,λv' H' y=>?_⟩;obtain⟨rfl,y⟩:=y;have:=y ws (bu.of h3);rw[hv]at this;cases this;exact⟨Kp.refl _ _,rv,λ_ z=>z,λ_ _=>rfl⟩
  ·show vs.length<=ds.reverse.length;rw[jG,hl];exact aT _
end
end E3
namespace EE
open PySem PySem.Spec PyProof.Rows L2
theorem mG:∀(names:List (Str×NameKind)) (n:Nat) (acc:List (Str×Addr)),cellsFrom n names acc=cellsFrom n names []++acc
 |[],_,_=>rfl
 |(y,k)::r,n,acc=>by
  unfold cellsFrom
  split
  ·rw[mG r (n+1) ((y,n)::acc),mG r (n+1) [(y,n)],i6];rfl
  ·exact mG r n acc
theorem zZ:∀(names:List (Str×NameKind)) (n:Nat) (y:Str) (c:Addr),(y,c)∈cellsFrom n names []->(y,NameKind.cell)∈names
 |[],_,_,_,h=>by cases h
 |(x,k)::r,n,y,c,h=>by
  unfold cellsFrom at h
  split at h
  ·rename_i hk
   rw[mG,dh]at h;rcases h with h|h
   ·exact cO _ (zZ r _ y c h)
   ·have e:(y,c)=(x,n):=show _ by simpa using h
    cases e;rw[show k=NameKind.cell by simpa using hk];exact cL
  ·exact cO _ (zZ r n y c h)
theorem Wf{M:Model}{A:Around}{E:Value->Shared->Prop}{s:Shared}{scope:Scope}{globals:Addr}{cl:List (Str×Addr)}{qual:Str}{func:Option Addr}{code:Value}{env:Env}{Q:Env->Shared->Prop}(_hk:scope.kind=.function)
 (hQ:∀h',h'.Ns s.heap.objs.size (λ_=>none)->(∀b o,s.heap.get? b=some o->h'.get? b=some o)->CellsOk h' (s.heap.objs.size+1) (cellsFrom (s.heap.objs.size+1) scope.names []) ->
  Q {scope:=scope,locals:=s.heap.objs.size,globals:=globals,cells:=cellsFrom (s.heap.objs.size+1) scope.names cl,qual:=qual,func:=func,code:=env.code,frame:=env.frame,builtins:=env.builtins} {s with heap:=h'}) :
 wpAny M A (newFunctionEnv scope globals cl [] qual func code (some env)) Q E s:=show _ by
 simp only[newFunctionEnv,M_,if_true];refine ai (wpAny_alloc ?_);refine ai (wpAny_layCells _ (λname kind cells=>by cases hkc:kind==NameKind.cell<;>simp[hkc]) _ _ _ _ ?_);have ok:=cellsFrom_ok scope.names (s.heap.push {cls:=.type "dict",data:=.dict #[]}) (s.heap.objs.size+1) [] ⟨λ_ _ hm=>(nomatch hm),List.Pairwise.nil⟩ (by rw[ir];exact aT _);rw[ir]at ok;rw[show({s with heap:=s.heap.push {cls:=.type "dict",data:=.dict #[]}}:Shared).heap.objs.size=s.heap.objs.size+1 from ir ..];refine ai (aB (aB ?_));exact hQ _ ((Heap.Ns.new s.heap (.type "dict")).keeps (pushCells_keeps _ _)) (λb o e=>pushCells_keeps _ _ b o (bA _ e)) ok
structure fE(cA:Scope)(O M:List Str)(scope:Scope):Prop where
 kind:scope.kind=.function
 cell:∀y∈scope.names,y.2=.cell->scope.names.lookup y.1=some .cell
 names:∀y∈scope.names,y.2=.local->scope.names.lookup y.1=some .local
 free:∀y∈scope.names,y.2=.free->cA.names.lookup y.1=some .cell
 nd:(O++M).Nodup
 mine:∀y∈M,scope.names.lookup y=some .free
def cf(X:Cx)(scope:Scope)(C:Addr)(N:List Str)(fp:List Addr)(pins:List (Addr×Obj))(s:Shared)(H:Hp):Cx :=
 {yW X scope C N fp pins s H with env:=compEnvC scope (cellsFrom (C+1) scope.names (iE scope X.env)) C X.env,fn:=λy=>scope.names.lookup y==some .cell}
section
variable{X:Cx}{pins:List (Addr×Obj)}{σ:L2.St}{H:Hp}{s:Shared}{scope:Scope}{O M:List Str}{js:List Nat}{C:Addr}{fp:List Addr}
theorem fE.cells(S:fE X.env.scope O M scope)(I:Inv X pins σ H s):∀y∈scope.names,y.2=.free->∃c,X.env.cells.lookup y.1=some c:=λy hy hk=>I.ok.has y.1 (.inl (S.free y hy hk))
theorem fE.sub(S:fE X.env.scope O M scope)(I:Inv X pins σ H s){y:Str}{c:Addr}(e:(iE scope X.env).lookup y=some c):X.env.cells.lookup y=some c :=
 Fm scope.names [] (S.cells I) (λ_ _ h=>by simp at h) y c e
theorem fE.get(S:fE X.env.scope O M scope)(I:Inv X pins σ H s){s1:Shared}(ok:CellsOk s1.heap (C+1) (cellsFrom (C+1) scope.names [])){y:Str}{c:Addr}(e:(cellsFrom (C+1) scope.names (iE scope X.env)).lookup y=some c) :
 ((y,c)∈cellsFrom (C+1) scope.names []/\(s1.heap.IsCell c none/\C+1<=c))∨X.env.cells.lookup y=some c:=show _ by
 rw[mG,xS]at e;cases q:(cellsFrom (C+1) scope.names []).lookup y with
 |none=>rw[q]at e;exact .inr (S.sub I (by simpa using e))
 |some c' =>
  rw[q]at e;have e':c'=c:=by simpa using e
  subst e';exact .inl ⟨jC q,ok.empty y c' (jC q)⟩
theorem Wg{s1:Shared}{m:Str->Option Value}(S:fE X.env.scope O M scope)(hc:X.calm=true)(I:Inv X pins σ H s)(hjs:∀(k:Nat) (y:Str),M[k]?=some y->∃j:Nat,js[k]?=some j/\X.N[j]?=some y)(hlen:js.length=M.length)
 (hf:∀b∈fp,d9 X pins H b) (hfl:∀b∈fp,b<s.heap.objs.size) (hC:s.heap.objs.size<=C) (hn:s1.heap.Ns C m) (hk:∀b o,s.heap.get? b=some o->s1.heap.get? b=some o)
 (ok:CellsOk s1.heap (C+1) (cellsFrom (C+1) scope.names [])) (hos:s1.os=s.os) (hg:AllBare s1.gens) :
 Inv (cf X scope C (O++M) fp pins s H) [] (fK O.length none++pick σ js) H s1:=show _ by
 have Wh:∀b∈fp,b∉frs X.stack:=λb hb z=>by
  obtain⟨f0,f1,f2,_⟩:=hf b hb;rcases bJ.mp (I.uD b z) with e|e
  ·exact f1 e
  ·exact f2 e
 have cellK:∀(c:Addr) (v:Option Value),s.heap.IsCell c v->s1.heap.IsCell c v:=λc v cR=>by obtain⟨o,e,d⟩:=cR;exact⟨o,hk c o e,d⟩
 have old:∀{y:Str} {c:Addr},X.env.cells.lookup y=some c->c<C+1:=λ{y c} e=>by
  obtain⟨v,o,q,_⟩:=I.cell y c e;exact Nat.lt_succ_of_lt (dO (bG q) hC)
 have some_of:∀{y:Str},((∃c,(cellsFrom (C+1) scope.names []).lookup y=some c)∨∃c,(iE scope X.env).lookup y=some c)->∃c,(cellsFrom (C+1) scope.names (iE scope X.env)).lookup y=some c:=λ{y} h=>by
  rw[mG,xS];cases q:(cellsFrom (C+1) scope.names []).lookup y with
  |some c=>exact⟨c,by simp⟩
  |none =>
   rcases h with⟨c,h⟩|⟨c,h⟩
   ·rw[q]at h;cases h
   ·exact⟨c,by simpa using h⟩
 refine⟨⟨I.ok.mod,S.kind,I.ok.glob,I.ok.blt,hC,λy z c h1 h2=>?_,λy hy=>?_,λy c h e=>?_,λ_=>I.ok.hd hc,I.ok.frames,.inl rfl,λb hb=>?_,I.bs,
  cC I.ok.gT I.sz,λb o e hb=>?_,Wh,I.stack,I.uE⟩,hos,hg,Un.kept hk,⟨m,hn,λi y v h1 h2 h3=>?_⟩,λy c e=>?_,I.hok.fresh hC,λy c e=>?_,λp hp=>?_,I.hok.kept hk,?_⟩
 ·rcases S.get I ok h1 with⟨m1,g1⟩|o1<;>rcases S.get I ok h2 with⟨m2,g2⟩|o2
  ·exact name_of_addr ok.apart m1 m2
  ·exact absurd g1.2 (Nat.not_le.mpr (old o2))
  ·exact absurd g2.2 (Nat.not_le.mpr (old o1))
  ·exact I.ok.inj y z c o1 o2
 ·have hy':(relabel scope X.env).names.lookup y=some .cell∨(relabel scope X.env).names.lookup y=some .free:=hy;have cl:(y,NameKind.cell)∈scope.names->∃c,(cellsFrom (C+1) scope.names []).lookup y=some c:=λmm =>
   CW.mp (xu _ _ _ (.inl (S.cell _ mm rfl)))
  have fr:(y,NameKind.cell)∈scope.names∨(y,NameKind.free)∈scope.names:=by
   rcases hy' with h|h
   ·obtain⟨k',mm,e|e⟩:=Fn h
    ·rw[<-e]at mm;exact .inl mm
    ·rw[e.1]at mm;exact .inr mm
   ·obtain⟨k',mm,e|e⟩:=Fn h
    ·rw[<-e]at mm;exact .inr mm
    ·exact absurd e.2 (by intro z;cases z)
  rcases fr with fr|fr
  ·exact some_of (.inl (cl fr))
  ·exact some_of (.inr (yV scope.names [] y (.inl fr)))
 ·have h':scope.names.lookup y=some .cell:=by simpa[cf]using h
  obtain⟨c',q⟩:=CW.mp (xu scope.names (C+1) [] (.inl h'));have e':(cellsFrom (C+1) scope.names (iE scope X.env)).lookup y=some c:=e;rw[mG,xS,q]at e';have e2:c'=c:=by simpa using e'
  subst e2;exact cC hC (mU (ok.empty y c' (jC q)).2)
 ·obtain⟨f0,f1,f2,f3,f4,f5⟩:=hf b hb;refine⟨cW (dO (hfl b hb) hC),λy c e=>?_⟩;rcases S.get I ok e with⟨_,h⟩|h
  ·exact λz=>kf _ (dO (dO (hfl b hb) hC) (z▸mU h.2))
  ·exact f4 y c h
 ·obtain⟨f0,f1,f2,f3,f4,f5⟩:=hf b hb;rcases f3 with f3|f3
  ·exact I.ok.ma b o e f3
  ·exact absurd (bG e) (Nat.not_lt.mpr (cC I.ok.gT f3))
 ·have z0:(O++M)[i]?=some y:=h1;by_cases hi:i<O.length
  ·rw[lR (by simpa using hi),MU,if_pos hi]at h2;have h2':(none:Option V)=some v:=dg h2;cases h2'
  ·have hge:O.length<=i:=M8 hi;rw[mX hge]at z0;rw[mX (by simpa using hge),MX]at h2;obtain⟨j,ej,eN⟩:=hjs _ y z0;have Wi:σ[j]?=some (some v):=by
    unfold pick at h2;rw[a7,ej]at h2;have z:(σ[j]?).getD none=some v:=by simpa using h2
    cases q:σ[j]? with
    |none=>rw[q]at z;cases z
    |some o=>rw[q]at z;rw[show o=some v from z]
   have hfree:=S.mine y (c8 z0);have hcell:X.env.kindOf y=some .cell:=S.free (y,.free) (jC hfree) rfl;obtain⟨m0,_,hl0⟩:=I.loc;obtain⟨u,r,l⟩:=hl0 j y v eN Wi (.inr (.inl hcell));refine⟨u,r,.inr ⟨.inl (RJ I.ok.kind hcell hfree),?_⟩⟩;obtain⟨c',e'⟩:=yV (env:=X.env) scope.names [] y (.inl (jC hfree));have e2:=S.sub I (show(iE scope X.env).lookup y=some c' from e');have e3:(cellsFrom (C+1) scope.names (iE scope X.env)).lookup y=some c':=by
    rw[mG,xS];cases q:(cellsFrom (C+1) scope.names []).lookup y with
    |none=>exact e'
    |some c2 =>
     have:=S.cell _ (zZ _ _ _ _ (jC q)) rfl;rw[hfree]at this;cases this
   rcases l with⟨z,_⟩|⟨_,c,hcc,hic⟩
   ·rw[hcell]at z;cases z
   ·rw[hcc]at e2;have:c=c':=dg e2;subst this;exact⟨c,e3,cellK c _ hic⟩
 ·rcases S.get I ok e with⟨_,h⟩|h
  ·exact⟨none,h.1⟩
  ·obtain⟨v,h⟩:=I.cell y c h;exact⟨v,cellK c v h⟩
 ·rcases S.get I ok e with⟨_,h⟩|h
  ·exact I.hok.fresh (cC hC (mU h.2))
  ·exact I.fN y c h
 ·have hp':p∈X.pn++pins:=by simpa[cf,yW]using hp
  obtain⟨e,n,ne,nf,d⟩:=I.pin p hp';refine⟨hk _ _ e,n,cW (dO (bG e) hC),λz=>?_,d⟩;rcases bJ.mp (I.uD p.1 z) with q|q
  ·exact ne q
  ·exact nf q
 ·show(fK O.length none++pick σ js).length=(O++M).length;simp[pick,hlen]
theorem HH{N:List Str}{iB:List (Addr×Obj)}{σ':L2.St}{H':Hp}{s':Shared}{h':Heap}(I:Inv X pins σ H s)(hf:∀b∈fp,d9 X pins H b)(J:Inv (cf X scope C N fp pins s H) iB σ' H' s')
 (hC:s.heap.objs.size<=C) (hs:fJ C s'.heap h'):Inv X pins σ H' {s' with heap:=h'}:=show _ by
 have u0:Un (frs X.stack) fp H H' s.heap s'.heap:=J.base;have nC:∀b o,s.heap.get? b=some o->b≠C:=λb o e z=>absurd (bG e) (by rw[z];exact Nat.not_lt.mpr hC);have u:Un (frs X.stack) fp H H' s.heap h':=⟨λb o e n hb hx=>(hs.2 b (nC b o e)).trans (u0.keep b o e n hb hx),λb o e n hb hx=>let⟨sl,q⟩:=u0.slot b o e n hb hx;⟨sl,(hs.2 b (nC b o e)).trans q⟩,u0.free,
  λb o e hx=>let⟨o',q⟩:=u0.there b o e hx;⟨o',(hs.2 b (nC b o e)).trans q⟩,u0.tups,u0.gy,u0.iA⟩
 have fC:H' C=none:=J.free;have hok:cb X.prog X.w H' h':=λb ob e=>(J.hok b ob e).stay (λc w hc q=>(hs.2 c (λz=>by
  subst z;rcases hc with z|z
  ·rw[<-z,fC]at e;cases e
  ·rw[fC]at z;cases z)).trans q) (λ_ q=>q) λ_ _ q=>q
 exact I.rF (s':={s' with heap:=h'}) (ch:=fp) J.os u hok J.bare λb hb=>by
  obtain⟨f0,f1,f2,f3,f4,f5⟩:=hf b hb;exact⟨f3,f1,f4,f5⟩
end
section
variable{X:Cx}{elt iter tg:Expr}{ifs:List Expr}{pos:Pos}{scope:Scope}{O M:List Str}{js:List Nat}{wi:TI}{g:TG}{tt:TT}{te:TE}
theorem HI{pins:List (Addr×Obj)}{σ:L2.St}{H2:Hp}{s2:Shared}{it D:Addr}{fp:List Addr}{tn:Nat->Heap->Prop}{J:It}{W:Nat->Nat->L2.St->Hp->Prop}{Qe:Hp->Prop}{R:Addr->Result->Shared->Prop}{E:Value->Shared->Prop}{m0:Nat}
 (S:fE X.env.scope O M scope) (hc:X.calm=true) (hjs:∀(k:Nat) (y:Str),M[k]?=some y->∃j:Nat,js[k]?=some j/\X.N[j]?=some y) (hlen:js.length=M.length)
 (hg:∀(C:Addr) (fp:List Addr) (pins:List (Addr×Obj)) (s:Shared) (H:Hp),PG (cf X scope C (O++M) fp pins s H) tg g)
 (ht:∀(C:Addr) (fp:List Addr) (pins:List (Addr×Obj)) (s:Shared) (H:Hp),nN (cf X scope C (O++M) fp pins s H) ifs tt)
 (he:∀(C:Addr) (fp:List Addr) (pins:List (Addr×Obj)) (s:Shared) (H:Hp),PE (cf X scope C (O++M) fp pins s H) elt te)
 (I:Inv X pins σ H2 s2) (T:Turn X.prog X.w X.K tg J fp it tn) (st:tn 0 s2.heap) (hf:∀b∈fp,d9 X pins H2 b) (w0:W 0 m0 (fK O.length none++pick σ js) H2)
 (turn:∀i m τ H3,W i m τ H3->(J.stop i H3/\Qe H3)∨(J.go i H3/\∃N:L2.St->Hp->Prop,(∀bx H',N bx H'->∃m',m'<m/\W (i+1) m' bx H')/\∀v H',J.mi i H3 v H' ->
  g v τ H' λbx H4=>tt bx H4 λb H5=>if b=true then te bx H5 λy H6=>∃ys,H6 D=some (.lst ys)/\ys.length<sizeLine/\N bx (upd H6 D (.lst (ys++[y]))) else N bx H5))
 (fin:∀(C:Addr) (s':Shared) (H':Hp) (iB:List (Addr×Obj)) (σ':L2.St),s2.heap.objs.size<=C->Inv (cf X scope C (O++M) fp pins s2 H2) iB σ' H' s'->Qe H'->R C (.ok .next) s') :
 wpAny (model X.prog X.w) X.A (newFunctionEnv scope X.env.globals (iE scope X.env) [] X.env.qual none .none (some X.env)) (λcenv s4 =>
  codeAny (model X.prog X.w) X.A (.compStart (.ListComp elt [⟨tg,iter,ifs,0⟩] scope pos) 0 (.ref it) (.ref D) {cenv with scope:=relabel scope X.env}) (R cenv.locals) s4) E s2:=show _ by
 refine Wf S.kind λh1 hns old ok=>?_;have hfl:∀b∈fp,b<s2.heap.objs.size:=λb hb=>by
  obtain⟨o,e,_⟩:=T.obj 0 _ st b hb;exact bG e
 have I4:Inv (cf X scope s2.heap.objs.size (O++M) fp pins s2 H2) [] (fK O.length none++pick σ js) H2 {s2 with heap:=h1} :=
  Wg S hc I hjs hlen hf hfl (aT _) hns old ok rfl I.bare
 have nO:tn 0 h1:=T.keep _ _ _ st λb hb o e=>old b o e;have ni:∀{H':Hp},(∀b∈fp,H' b=none)->∀b∈fp,d9 (cf X scope s2.heap.objs.size (O++M) fp pins s2 H2) [] H' b:=λ{H'} hn b hb=>by
  obtain⟨f0,f1,f2,f3,f4,f5⟩:=hf b hb;refine⟨hn b hb,cW (hfl b hb),I4.ok.md b hb,.inl hb,λy c e=>?_,λp hp=>f5 p ?_⟩
  ·rcases S.get (s1:={s2 with heap:=h1}) I ok e with⟨_,h⟩|h
   ·exact λz=>kf _ (dO (hfl b hb) (z▸mU h.2))
   ·exact f4 y c h
  ·simpa[cf,yW]using hp
 have loop:∀s3:Shared,s3={s2 with heap:=h1} ->
  codeAny (model X.prog X.w) X.A (.compLoop (.ListComp elt [⟨tg,iter,ifs,0⟩] scope pos) 0 (.ref it) (.ref D) (compEnvC scope (cellsFrom (s2.heap.objs.size+1) scope.names (iE scope X.env)) s2.heap.objs.size X.env)) (R s2.heap.objs.size) s3:=by
  rintro s3 rfl;refine Vi (λn s'=>∃(i:Nat) (τ:L2.St) (H':Hp),Inv (cf X scope s2.heap.objs.size (O++M) fp pins s2 H2) [] τ H' s'/\tn i s'.heap/\(∀b∈fp,H' b=none)/\W i n τ H') ?_ m0
   ⟨0,_,H2,I4,nO,λb hb=>(hf b hb).1,w0⟩
  rintro n s5 ⟨i,τ,H5,I5,o7,uP,w5⟩;rcases turn i n τ H5 w5 with⟨stop,qe⟩|⟨go,N,hN,step⟩
  ·refine aF (T.done (cf X scope s2.heap.objs.size (O++M) fp pins s2 H2) rfl rfl rfl rfl i [] s5 _ H5 (λ_ _=>False) I5 (ni uP) o7 stop) λr s6 ⟨hr,I6⟩=>?_;subst hr;exact fin _ s6 H5 [] _ (aT _) I6 qe
  ·refine aF (T.item (cf X scope s2.heap.objs.size (O++M) fp pins s2 H2) rfl rfl rfl rfl i [] s5 _ H5 (λ_ _=>False) I5 (ni uP) o7 go) λr s6 ⟨u,hr,h6⟩=>?_;subst hr;refine aF h6 λ_ s7 ⟨v,H7,I7,r7,y7,z_,Wj⟩=>?_;have Wl:=I7.pinned (ni Wj) (T.obj _ _ z_);have back:∀{σ9:L2.St} {H9:Hp} {s9:Shared},Inv (cf X scope s2.heap.objs.size (O++M) fp pins s2 H2) ([]++rJ fp s7.heap) σ9 H9 s9->N σ9 H9 ->
    ∃m,m<n/\∃(i:Nat) (τ:L2.St) (H':Hp),Inv (cf X scope s2.heap.objs.size (O++M) fp pins s2 H2) [] τ H' s9/\tn i s9.heap/\(∀b∈fp,H' b=none)/\W i m τ H':=by
    intro σ9 H9 s9 I9 n9;obtain⟨m',hm,Wm⟩:=hN σ9 H9 n9;refine⟨m',hm,i+1,σ9,H9,I9.uO,T.keep _ _ _ z_ λb hb o e=>(I9.pin (b,o) (gQ _ (gQ _ (uN hb e)))).1,λb hb=>?_,Wm⟩;obtain⟨o,e,d⟩:=T.obj _ _ z_ b hb;exact(I9.pin (b,o) (gQ _ (gQ _ (uN hb e)))).2.1
   refine aF (hg s2.heap.objs.size fp pins s2 H2 _ s7 _ H7 v u _ Wl r7 (step v H7 y7)) λ_ s8 ⟨Wn,H8,I8,q8⟩=>?_;refine aF (ht s2.heap.objs.size fp pins s2 H2 _ s8 _ H8 _ I8 q8) λok s9 ⟨H9,I9,q9⟩=>?_;cases ok with
   |false=>exact back I9 q9
   |true =>
    refine aF (he s2.heap.objs.size fp pins s2 H2 _ s9 _ H9 _ I9 q9) λyv Wo ⟨y,Wp,Wq,r10,ys,hD,hz,Wr⟩=>?_;refine aF (cY (X:=cf X scope s2.heap.objs.size (O++M) fp pins s2 H2) _ Wo _ Wp (.ref D) [y] (.ref D) [yv] (λ_ H'=>N Wn H') Wq rfl (.cons r10 .nil) ⟨D,ys,y,rfl,rfl,hD,hz,Wr⟩) λ_ s11 ⟨_,H11,Ws,_,Wt⟩=>?_;exact back Ws Wt
 exact codeAny_compStart_list (loop _ rfl) (fo (T.self X.A 0 _ _ _ nO (loop _ rfl)) (λ_ _ z=>z) λ_ _ z=>z)
theorem Wu(S:fE X.env.scope O M scope)(hc:X.calm=true)(hjs:∀(k:Nat) (y:Str),M[k]?=some y->∃j:Nat,js[k]?=some j/\X.N[j]?=some y)(hlen:js.length=M.length)(hi:PI X tg iter wi)
 (hg:∀(C:Addr) (fp:List Addr) (pins:List (Addr×Obj)) (s:Shared) (H:Hp),PG (cf X scope C (O++M) fp pins s H) tg g)
 (ht:∀(C:Addr) (fp:List Addr) (pins:List (Addr×Obj)) (s:Shared) (H:Hp),nN (cf X scope C (O++M) fp pins s H) ifs tt)
 (he:∀(C:Addr) (fp:List Addr) (pins:List (Addr×Obj)) (s:Shared) (H:Hp),PE (cf X scope C (O++M) fp pins s H) elt te) (hs:∀v,foldedSetIterable iter X.env v=pure v:=by intro _;rfl) :
 PE X (.ListComp elt [⟨tg,iter,ifs,0⟩] scope pos) (vW wi g tt te O.length js):=show _ by
 intro pins s σ H Q I h;rw[eval_ListComp];refine NJ (use:=none) rfl hs (Fl (S.cells I)) S.kind S.names (aF (hi pins s σ H _ I h) λxv s1 h1=>aF h1 λitv s2 h2=>?_);obtain⟨it,fp,tn,J,H1,rfl,I2,T,st2,f2,q⟩:=h2;refine jF ?_ (by show 0<=sizeLine;decide);have hD:H1 s2.heap.objs.size=none:=I2.hok.fresh (aT _);obtain⟨W,⟨m0,w0⟩,turn⟩:=q _ hD;have I3:Inv X pins σ (upd H1 s2.heap.objs.size (.lst [])) {s2 with heap:=s2.heap.push {cls:=.type "list",data:=.seq ([]:List Value).toArray}}:=I2.u1 (t':=s2.toks) .nil (bV _);have i9:∀b∈fp,d9 X pins (upd H1 s2.heap.objs.size (.lst [])) b:=λb hb=>by
  obtain⟨f0,f⟩:=f2 b hb;obtain⟨o,e,_⟩:=T.obj 0 _ st2 b hb;exact⟨by rw[bg (cW (bG e))];exact f0,f⟩
 refine HI (Qe:=λH'=>Q (.ref s2.heap.objs.size) H') (R:=λC=>compPost (model X.prog X.w) X.A X.xe none (EP X pins σ Q) (.ref s2.heap.objs.size) C) S hc hjs hlen hg ht he I3 T (T.keep _ _ _ st2 λb hb o e=>bA _ e) i9 w0 turn ?_;intro C s' H' iB σ' hC Jv qe;obtain⟨m,hn,_⟩:=Jv.loc;exact⟨m,hn,λh' hs'=>⟨.ref _,H',HH I3 i9 Jv hC hs',rfl,qe⟩⟩
end
end EE
namespace E3
open PySem PySem.Spec PyProof.Rows L2 EE
section
variable{σ:aJ}{Q:K3}{js:List Nat}{te:aN}{Sh:D->aJ->Prop}
theorem Aa{ds:List D}{Al:af->Prop}{S1:af}(f:Nat->D)(hz:ds.length<=10000)(hA:∀S,Sub S1 S->Al S)
 (h:∀i d S,ds[i]?=some d->Sub S1 S->∃ρ,Sh d ρ/\∀P:K3,(∀S',Sub S S'->P (f i) S')->te (ρ++dD σ js) S P) (q:∀S,Sub S1 S->dG S ((aZ ds.length).map f) Q) :
 ∃W:Nat->List D->af->Prop,W 0 [] S1/\(∀i ys S,W i ys S->Al S/\ys.length<sizeLine) /\
 (∀i d ys S,ds[i]?=some d->W i ys S->∃ρ,Sh d ρ/\mC (ρ++dD σ js) S λb S2=>if b=true then te (ρ++dD σ js) S2 λy S3=>W (i+1) (ys++[y]) S3 else W (i+1) ys S2)/\∀ys S,W ds.length ys S->dG S ys Q:=show _ by
 refine⟨λi ys S=>i<=ds.length/\ys=(aZ i).map f/\Sub S1 S,⟨bV _,rfl,Sub.refl _⟩,?_,?_,?_⟩
 ·rintro i ys S ⟨hi,rfl,hs⟩;refine⟨hA S hs,?_⟩;rw[aG,uc];exact xC (cC hi hz) (by decide)
 ·rintro i d ys S hd ⟨hi,rfl,hs⟩;obtain⟨ρ,sX,h⟩:=h i d S hd hs;refine⟨ρ,sX,v9 ?_⟩;rw[if_pos rfl];refine h _ λS' hs'=>⟨(b4.mp hd).1,?_,hs.trans hs'⟩;rw[DI,da];rfl
 ·rintro ys S ⟨_,rfl,hs⟩;exact q S hs
end
end E3
namespace EE
open PySem PySem.Spec PyProof.Rows L2
section
variable{X:Cx}
def HJ(K:aq):R2:=λx y H Q=>∃a b xs ys,x=.ref a/\y=.ref b/\bq K H a xs/\bq K H b ys/\xs.length+ys.length<=sizeLine /\
 (xs=[]->Q (.ref b) H)/\(xs≠[]->(ys=[]->Q (.ref a) H)/\(ys≠[]->∀p,H p=none->Q (.ref p) (upd H p (.tup (xs++ys)))))
theorem Ab:cu X (binaryOp .Add) (HJ X.K):=show _ by
 intro pins s σ H x y v u Q I rx ry h;obtain⟨a,b,xs,ys,rfl,rfl,ha,hb,hz,q0,q1⟩:=h;by_cases hx:xs=[]
 ·cases rx;cases ry;obtain⟨its,r1,p1,_⟩:=I.tuple ha;obtain⟨its2,r2,p2,_⟩:=I.tuple hb;have hi:its=[]:=r1.uV.mpr hx;obtain⟨⟨cls,dd,data,sl⟩,ho,hc,n,hd⟩:=id p1;obtain⟨⟨cls2,dd2,data2,sl2⟩,ho2,hc2,n2,hd2⟩:=id p2;simp only at hc hd hc2 hd2;subst hc hd hc2 hd2;exact CY ⟨_,ho,rfl⟩ ⟨_,ho2,rfl⟩ CZ C1 C2 C3 (C4 _ _)
   (tuple_addW0 a b its.toArray its2.toArray n n2 dd dd2 sl sl2 (by simp[hi])) ⟨ho,ho2,⟨.ref b,H,I,rfl,q0 hx⟩⟩
 ·exact yE pins s σ H (.ref a) (.ref b) v u Q I rx ry ⟨a,b,xs,ys,rfl,rfl,ha,hb,hx,hz,(q1 hx).1,(q1 hx).2⟩
end
end EE
namespace E3
open PySem PySem.Spec PyProof.Rows L2 EE
section
variable{K:PySem.W.Frag}{S:af}{Q:K3}
def HK:R3:=λx y S Q=>∃ds es,x=.tup ds/\y=.tup es/\ds.length+es.length<=sizeLine/\Q (.tup (ds++es)) S
theorem Ac:cS K HK (HJ K):=show _ by
 intro Z x y S Q3 v w H Q rx ry l h c;obtain⟨ds,es,rfl,rfl,hz,q⟩:=h;cases rx with
 |@tup a vs _ h1 h2 =>
  cases ry with
  |@tup b ws _ h3 h4 =>
   refine⟨a,b,vs,ws,rfl,rfl,h1,h3,by rw[<-h2.len,<-h4.len];exact hz,λe=>?_,λ_=>⟨λe=>?_,λ_=>tup.down q (h2.append h4) l c⟩⟩
   ·subst e;cases h2;rw[lX]at q;exact c _ S _ H (Kp.refl _ _) (.tup h3 h4) l q
   ·subst e;cases h4;rw[gP]at q;exact c _ S _ H (Kp.refl _ _) (.tup h1 h2) l q
theorem Ad{ds es:List D}(hz:ds.length+es.length<=sizeLine)(q:Q (.tup (ds++es)) S):HK (.tup ds) (.tup es) S Q:=⟨ds,es,rfl,rfl,hz,q⟩
theorem Wv{xs:List Str}{z:Str}(q:Q (.bl (!decide (z∈xs))) S):zo true (.str z) (.tup (xs.map D.str)) S Q :=
 ⟨_,.inr rfl,rfl,Gp xs,by rw[Gn,if_pos rfl];exact q⟩
end
section
variable{σ:aJ}{S:af}{R:RI}{al:b6}
def HL(R:RI)(xs:List D)(S:af):Prop:=∃a ds,xs=[.ref a]/\S a=some (.lst ds)/\R ds.reverse (λS=>S a=some (.lst ds)) S
theorem Ww(h:al σ S λxs S1=>HL R xs S1):HF al σ S R:=h
theorem HM{a:Addr}{ds:List D}(hS:S a=some (.lst ds))(q:R ds.reverse (λS=>S a=some (.lst ds)) S):HL R [.ref a] S:=⟨a,ds,rfl,hS,q⟩
end
def Sy.base:Sy->Option Str
 | .name x=>some x
 | .left a=>a.base
 | .right a=>a.base
 |_=>none
def sY:Option Str->D
 |some x=>.str x
 |none=>.non
def Sy.bases(a:Sy):List Str:=a.base.toList
def Sy.pp(ext:Sy->List Str):Sy->List Str->List (Sy×List Str)
 | .fork a b c,k=>[(a,k),(b,k++ext a),(c,k)]
 |s,k=>s.parts.map λa=>(a,k)
mutual
def Sy.bN(ext:Sy->List Str):Sy->List Str->List (Sy×List Str)
 | .name x,k=>[(.name x,k)]
 | .aI,k=>[(.aI,k)]
 | .pair a b,k=>(.pair a b,k)::(a.bN ext k++b.bN ext k)
 | .left a,k=>(.left a,k)::a.bN ext k
 | .right a,k=>(.right a,k)::a.bN ext k
 | .fork a b c,k=>(.fork a b c,k)::(a.bN ext k++(b.bN ext (k++ext a)++c.bN ext k))
 | .send x as,k=>(.send x as,k)::Sy.kU ext as k
def Sy.kU(ext:Sy->List Str):List Sy->List Str->List (Sy×List Str)
 |[],_=>[]
 |a::as,k=>a.bN ext k++Sy.kU ext as k
end
def d0(ext:Sy->List Str)(ps:List (Sy×List Str)):List (Sy×List Str):=(ps.map λp=>p.1.bN ext p.2).flatten
theorem HN(ext:Sy->List Str)(k:List Str):∀as:List Sy,Sy.kU ext as k=d0 ext (as.map λa=>(a,k))
 |[]=>rfl
 |a::as=>by rw[Sy.kU,HN ext k as];rfl
theorem we(ext:Sy->List Str)(s:Sy)(k:List Str):s.bN ext k=(s,k)::d0 ext (s.pp ext k):=by
 cases s<;>simp[Sy.bN,Sy.pp,Sy.parts,d0]
 rw[HN];simp[d0,Function.comp_def]
theorem HP(ext:Sy->List Str)(as bs:List (Sy×List Str)):d0 ext (as++bs)=d0 ext as++d0 ext bs:=by simp[d0]
theorem Ae(ext:Sy->List Str)(a:Sy×List Str)(bs:List (Sy×List Str)):d0 ext (a::bs)=a.1.bN ext a.2++d0 ext bs:=by simp[d0]
theorem Af(ext:Sy->List Str):∀as:List (Sy×List Str),as.length<=(d0 ext as).length
 |[]=>by simp
 |a::as=>by
  have:=Af ext as;rw[Ae,we];simp;lia
mutual
theorem Sy.iJ(ext:Sy->List Str):∀(s:Sy) (k:List Str),(s.bN ext k).map (·.1)=s.pre
 | .name _,_=>rfl
 | .aI,_=>rfl
 | .pair a b,k=>by simp[Sy.bN,Sy.pre,Sy.iJ ext a,Sy.iJ ext b]
 | .left a,k=>by simp[Sy.bN,Sy.pre,Sy.iJ ext a]
 | .right a,k=>by simp[Sy.bN,Sy.pre,Sy.iJ ext a]
 | .fork a b c,k=>by simp[Sy.bN,Sy.pre,Sy.iJ ext a,Sy.iJ ext b,Sy.iJ ext c]
 | .send x as,k=>by simp[Sy.bN,Sy.pre,Sy.HQ ext as]
theorem Sy.HQ(ext:Sy->List Str):∀(as:List Sy) (k:List Str),(Sy.kU ext as k).map (·.1)=Sy.a9 as
 |[],_=>rfl
 |a::as,k=>by simp[Sy.kU,Sy.a9,Sy.iJ ext a,Sy.HQ ext as]
end
def bY(p:Sy×List Str):D:=.tup [p.1.d,.tup (p.2.map D.str)]
def aS(p:Str)(a:Sy)(k:List Str):Int :=
 match a with
 | .aI=>if p∈k then 2 else 1
 | .name x=>if x=p then 1 else 0
 |a=>if a.base=some p then(if p∈k then 2 else 1) else 0
def dw(told:Str->Sy->List Str->Int)(e:Er)(q:Sy×List Str):List (Str×Str×bh) :=
 match q.1 with
 | .send x as=>[(e.name,x,e.ps.map λp=>as.map λa=>told p a q.2)]
 |_=>[]
def bj(g:Str×Str×bh):D:=fS g.1 g.2.1 g.2.2
def cK(told:Str->Sy->List Str->Int)(ext:Sy->List Str)(prog:List Er):List (Str×Str×bh):=(prog.map λe=>((e.body.bN ext []).map (dw told e)).flatten).flatten
section
variable{K:PySem.W.Frag}{S:af}{Q:K3}
def HR:R3:=λx y S Q=>∃(o:Option Str) (p:Str),x=sY o/\y=.str p/\Q (.bl (!decide (o=some p))) S
theorem Wx:cS K HR uS:=show _ by
 intro Z x y S Q3 v w H Q rx ry l h c;obtain⟨o,p,rfl,rfl,q⟩:=h;cases ry;cases o with
 |none =>
  cases rx;refine⟨rfl,?_⟩;have e:decide (V.non=V.str p)=decide ((none:Option Str)=some p):=by simp
  rw[e];exact c _ S _ H (Kp.refl _ _) (.bl _) l q
 |some x =>
  cases rx;refine⟨rfl,?_⟩;have e:decide (V.str x=V.str p)=decide (some x=some p):=by rw[iX];simp
  rw[e];exact c _ S _ H (Kp.refl _ _) (.bl _) l q
theorem Wy{o:Option Str}{p:Str}(q:Q (.bl (!decide (o=some p))) S):HR (sY o) (.str p) S Q:=⟨o,p,rfl,rfl,q⟩
end
end E3
namespace E3
open PySem PySem.Spec PyProof.Rows L2 EE
mutual
theorem Sy.j0{ar:Str->Option Nat}{ps:List Str}:∀{s:Sy},s.wf ar ps->∀a∈s.pre,a.wf ar ps
 | .name x,h,a,ha=>by simp only[Sy.pre,ft]at ha;subst ha;exact h
 | .aI,h,a,ha=>by simp only[Sy.pre,ft]at ha;subst ha;exact h
 | .pair x y,h,a,ha=>by
  simp only[Sy.pre,bJ,dh]at ha;rcases ha with rfl|ha|ha
  ·exact h
  ·simp only[Sy.wf]at h;exact Sy.j0 h.1 a ha
  ·simp only[Sy.wf]at h;exact Sy.j0 h.2 a ha
 | .left x,h,a,ha=>by
  simp only[Sy.pre,bJ]at ha;rcases ha with rfl|ha
  ·exact h
  ·simp only[Sy.wf]at h;exact Sy.j0 h a ha
 | .right x,h,a,ha=>by
  simp only[Sy.pre,bJ]at ha;rcases ha with rfl|ha
  ·exact h
  ·simp only[Sy.wf]at h;exact Sy.j0 h a ha
 | .fork x y z,h,a,ha=>by
  simp only[Sy.pre,bJ,dh]at ha;rcases ha with rfl|ha|ha|ha
  ·exact h
  ·simp only[Sy.wf]at h;exact Sy.j0 h.1 a ha
  ·simp only[Sy.wf]at h;exact Sy.j0 h.2.1 a ha
  ·simp only[Sy.wf]at h;exact Sy.j0 h.2.2 a ha
 | .send x as,h,a,ha=>by
  simp only[Sy.pre,bJ]at ha;rcases ha with rfl|ha
  ·exact h
  ·simp only[Sy.wf]at h;exact Sy.HS h.2.2.2 a ha
theorem Sy.HS{ar:Str->Option Nat}{ps:List Str}:∀{as:List Sy},Sy.kR ar ps as->∀a∈Sy.a9 as,a.wf ar ps
 |[],_,a,ha=>by simp[Sy.a9]at ha
 |x::xs,h,a,ha=>by
  simp only[Sy.a9,dh]at ha;simp only[Sy.kR]at h;rcases ha with ha|ha
  ·exact Sy.j0 h.1 a ha
  ·exact Sy.HS h.2 a ha
end
theorem Wz{ar:Str->Option Nat}{ps:List Str}{s:Sy}(h:s.wf ar ps):s.parts.length<=4:=by
 cases s<;>simp[Sy.parts]
 simp only[Sy.wf]at h;exact h.2.2.1
theorem HU{told:Str->Sy->List Str->Int}{e:Er}:∀l:List (Sy×List Str),((l.map (dw told e)).flatten).length=((l.map bS).filter λa=>match a with | .send _ _=>true|_=>false).length
 |[]=>rfl
 |(s,k)::l=>by
  have ih:=HU (told:=told) (e:=e) l;rw[bL,DN,aR,bL,ih];cases s<;>simp[dw,List.filter_cons]
  lia
theorem WA{told:Str->Sy->List Str->Int}{ext:Sy->List Str}{e:Er}:(((e.body.bN ext []).map (dw told e)).flatten).length=e.body.sends:=by
 rw[HU,Sy.iJ];rfl
theorem HV{told:Str->Sy->List Str->Int}{ext:Sy->List Str}{z:Nat}:∀{prog:List Er},(∀e∈prog,e.body.sends<=z)->(cK told ext prog).length<=prog.length*z
 |[],_=>by simp[cK]
 |e::prog,h=>by
  have h1:=WA (told:=told) (ext:=ext) (e:=e);have h0:=h e cL;have h2:=HV (told:=told) (ext:=ext) (prog:=prog) λb hb=>h b (cO _ hb);have e1:cK told ext (e::prog)=((e.body.bN ext []).map (dw told e)).flatten++cK told ext prog:=show _ by simp[cK]
  rw[e1,aR,bp,xT];lia
theorem HW{ext:Sy->List Str}{m:Nat}(he:∀a,(ext a).length<=m):∀(n:Nat) (s:Sy) (k:List Str),s.deep<=n->∀p∈s.bN ext k,p.2.length<=k.length+n*m
 |0,s,k,h,p,hp=>by cases s<;>simp[Sy.deep]at h
 |n+1,s,k,h,p,hp=>by
  rw[we]at hp;rcases bJ.mp hp with rfl|hp
  ·dsimp only;lia
  ·unfold d0 at hp;obtain⟨l,hl,hp⟩:=DO.mp hp;obtain⟨⟨a,k'⟩,ha,rfl⟩:=bO.mp hl;have hk:k'.length<=k.length+m/\a.deep<=n:=show _ by
    cases s with
    |fork x y z =>
     simp only[Sy.pp,bJ,cQ,or_false,uw]at ha;simp only[Sy.deep]at h;have:=he x;rcases ha with⟨rfl,rfl⟩|⟨rfl,rfl⟩|⟨rfl,rfl⟩
     ·exact⟨by lia,by lia⟩
     ·exact⟨by rw[aR];lia,by lia⟩
     ·exact⟨by lia,by lia⟩
    |name x=>simp[Sy.pp,Sy.parts]at ha
    |aI=>simp[Sy.pp,Sy.parts]at ha
    |pair x y =>
     simp only[Sy.pp,Sy.parts,bL,oS,bJ,cQ,or_false,uw]at ha;simp only[Sy.deep]at h;rcases ha with⟨rfl,rfl⟩|⟨rfl,rfl⟩<;>exact⟨by lia,by lia⟩
    |left x =>
     simp only[Sy.pp,Sy.parts,bL,oS,bJ,cQ,or_false,uw]at ha;simp only[Sy.deep]at h;obtain⟨rfl,rfl⟩:=ha;exact⟨by lia,by lia⟩
    |right x =>
     simp only[Sy.pp,Sy.parts,bL,oS,bJ,cQ,or_false,uw]at ha;simp only[Sy.deep]at h;obtain⟨rfl,rfl⟩:=ha;exact⟨by lia,by lia⟩
    |send x as =>
     simp only[Sy.pp,Sy.parts,bO,uw]at ha;obtain⟨b,hb,rfl,rfl⟩:=ha;have:=Sy.Hi hb;simp only[Sy.deep]at h;exact⟨by lia,by lia⟩
   have:=HW he n a k' hk.2 p hp;have e:(n+1)*m=n*m+m:=xT n m;lia
theorem WB(a:Sy):a.bases.length<=1:=by
 unfold Sy.bases;cases a.base<;>simp
end E3
namespace CL
section
variable{α:Type}[DecidableEq α]
abbrev Fd(α:Type):=List (α×List Int)
def putN(f:Fd α)(g:α)(w:List Int):Option (Fd α):=if g∈f.map bS then some f else if 40<=f.length then none else some (f++[(g,w)])
def kW:List (Int×α)->Fd α->Option (Fd α)
 |[],f=>some f
 |(n,g)::nb,f=>(putN f g [n]).bind (kW nb)
def put2(fit:α->α->Bool)(cmp:α->α->α)(a:α×List Int):List (Int×α)->Fd α->Option (Fd α)
 |[],f=>some f
 |(n,g)::nb,f=>(if fit a.1 g then putN f (cmp a.1 g) (a.2++[n]) else some f).bind (put2 fit cmp a nb)
def iK(fit:α->α->Bool)(cmp:α->α->α)(nb:List (Int×α)):Nat->Nat->Fd α->Option (Fd α)
 |0,_,f=>some f
 |k+1,place,f=>match f[place]? with
  |none=>some f
  |some a=>(put2 fit cmp a nb f).bind (iK fit cmp nb k (place+1))
def kX(fit:α->α->Bool)(cmp:α->α->α)(nb:List (Int×α)):Option (Fd α):=(kW nb []).bind (iK fit cmp nb 41 0)
structure Ok(f:Fd α):Prop where
 nd:(f.map bS).Nodup
 len:f.length<=40
theorem Ok.nil:Ok ([]:Fd α):=⟨by simp,by simp⟩
structure Step(f f':Fd α):Prop where
 ok:Ok f'
 pre:∃r,f'=f++r
theorem Step.trans{f g h:Fd α}(a:Step f g)(b:Step g h):Step f h:=by
 obtain⟨r,e⟩:=a.pre;obtain⟨r',e'⟩:=b.pre;exact⟨b.ok,r++r',by rw[e',e,i6]⟩
theorem Step.mem{f g:Fd α}(a:Step f g){x:α}(h:x∈f.map bS):x∈g.map bS:=by
 obtain⟨r,e⟩:=a.pre;rw[e,da];exact xp _ h
theorem Step.at{f g:Fd α}(a:Step f g){i:Nat}{x:α×List Int}(h:f[i]?=some x):g[i]?=some x:=by
 obtain⟨r,e⟩:=a.pre;rw[e,lR (b4.mp h).1];exact h
theorem wg{f f':Fd α}{g:α}{w:List Int}(h:Ok f)(e:putN f g w=some f'):Step f f'/\g∈f'.map bS:=show _ by
 unfold putN at e
 split at e
 ·rename_i hg
  cases e;exact⟨⟨h,[],by simp⟩,hg⟩
 ·rename_i hg
  split at e
  ·cases e
  ·rename_i hl
   cases e;refine⟨⟨⟨?_,?_⟩,_,rfl⟩,by simp⟩
   ·rw[da,List.nodup_append];refine⟨h.nd,by simp,λa ha b hb=>?_⟩;simp only[bL,oS,ft]at hb;subst hb;rintro rfl;exact hg ha
   ·rw[aR,Dh];lia
theorem HX:∀{nb:List (Int×α)} {f f':Fd α},Ok f->kW nb f=some f'->Step f f'/\∀p∈nb,p.2∈f'.map bS
 |[],f,f',h,e=>by cases e;exact⟨⟨h,[],by simp⟩,λp hp=>by cases hp⟩
 |(n,g)::nb,f,f',h,e=>by
  rw[kW,lY]at e;obtain⟨f1,e1,e2⟩:=e;obtain⟨s1,m1⟩:=wg h e1;obtain⟨s2,m2⟩:=HX s1.ok e2;refine⟨s1.trans s2,λp hp=>?_⟩;rcases bJ.mp hp with rfl|hp
  ·exact s2.mem m1
  ·exact m2 p hp
variable{fit:α->α->Bool}{cmp:α->α->α}
theorem HY{a:α×List Int}:∀{nb:List (Int×α)} {f f':Fd α},Ok f->put2 fit cmp a nb f=some f'->Step f f'/\∀p∈nb,fit a.1 p.2=true->cmp a.1 p.2∈f'.map bS
 |[],f,f',h,e=>by cases e;exact⟨⟨h,[],by simp⟩,λp hp=>by cases hp⟩
 |(n,g)::nb,f,f',h,e=>by
  rw[put2,lY]at e;obtain⟨f1,e1,e2⟩:=e;have s1:Step f f1/\(fit a.1 g=true->cmp a.1 g∈f1.map bS):=show _ by
   split at e1
   ·obtain⟨s1,m1⟩:=wg h e1;exact⟨s1,λ_=>m1⟩
   ·rename_i hf
    cases e1;exact⟨⟨h,[],by simp⟩,λz=>absurd z hf⟩
  obtain⟨s2,m2⟩:=HY s1.1.ok e2;refine⟨s1.1.trans s2,λp hp hf=>?_⟩;rcases bJ.mp hp with rfl|hp
  ·exact s2.mem (s1.2 hf)
  ·exact m2 p hp hf
theorem HZ{nb:List (Int×α)}:∀{k place:Nat} {f f':Fd α},Ok f->41<=place+k->iK fit cmp nb k place f=some f' ->
 Step f f'/\∀i x,place<=i->f'[i]?=some x->∀p∈nb,fit x.1 p.2=true->cmp x.1 p.2∈f'.map bS
 |0,place,f,f',h,hk,e=>by
  cases e;refine⟨⟨h,[],by simp⟩,λi x hi hx=>?_⟩;have:=(b4.mp hx).1;have:=h.len;lia
 |k+1,place,f,f',h,hk,e=>by
  rw[iK]at e;cases ha:f[place]? with
  |none =>
   rw[ha]at e;cases e;refine⟨⟨h,[],by simp⟩,λi x hi hx=>?_⟩;have h1:=(b4.mp hx).1;have h2:=List.getElem?_eq_none_iff.mp ha;lia
  |some a =>
   rw[ha]at e;dsimp only at e;rw[lY]at e;obtain⟨f1,e1,e2⟩:=e;obtain⟨s1,m1⟩:=HY h e1;obtain⟨s2,m2⟩:=HZ s1.ok (by lia) e2;refine⟨s1.trans s2,λi x hi hx p hp hf=>?_⟩;by_cases sZ:i=place
   ·subst sZ;have:=(s1.trans s2).at ha;rw[hx]at this;cases this;exact s2.mem (m1 p hp hf)
   ·exact m2 i x (by lia) hx p hp hf
structure WC(fit:α->α->Bool)(cmp:α->α->α)(nb:List (Int×α))(F:Fd α):Prop where
 ok:Ok F
 own:∀p∈nb,p.2∈F.map bS
 up:∀a∈F.map bS,∀p∈nb,fit a p.2=true->cmp a p.2∈F.map bS
theorem H_{nb:List (Int×α)}{F:Fd α}(e:kX fit cmp nb=some F):WC fit cmp nb F:=show _ by
 unfold kX at e;rw[lY]at e;obtain⟨f1,e1,e2⟩:=e;obtain⟨s1,m1⟩:=HX Ok.nil e1;obtain⟨s2,m2⟩:=HZ s1.ok (by lia) e2;refine⟨s2.ok,λp hp=>s2.mem (m1 p hp),λa ha p hp hf=>?_⟩;obtain⟨x,hx,rfl⟩:=bO.mp ha;obtain⟨i,hi,rfl⟩:=jI hx;exact m2 i _ (by lia) (aU hi) p hp hf
theorem wd{β:Type}[DecidableEq β]:∀{l c:List β},l.Nodup->(∀x∈l,x∈c)->l.length<=c.length
 |[],_,_,_=>bV _
 |x::l,c,h,hs=>by
  have hx:=hs x cL;have h1:=wd (l:=l) (c:=c.erase x) (iZ.mp h).2 λy hy=>by
   refine(NH ?_).mpr (hs y (cO _ hy));rintro rfl;exact(iZ.mp h).1 hy
  rw[NF hx]at h1;have:0<c.length:=NG hx;rw[bp];lia
section
variable{β:Type}[DecidableEq β]{φ:α->β}{Gd:α->Prop}{C:List β}(inj:∀a b,Gd a->Gd b->φ a=φ b->a=b)
include inj
end
theorem WD{nb:List (Int×α)}{k place:Nat}{f:Fd α}(h:f.length<=place):iK fit cmp nb k place f=some f:=by
 cases k with
 |zero=>rfl
 |succ k=>rw[iK,dQ h]
section
variable{Pr:α->Prop}
theorem Ia{f f':Fd α}{g:α}{w:List Int}(h:∀a∈f.map bS,Pr a)(hg:Pr g)(e:putN f g w=some f'):∀a∈f'.map bS,Pr a:=show _ by
 unfold putN at e
 split at e
 ·cases e;exact h
 ·split at e
  ·cases e
  ·cases e;intro a ha;rw[da]at ha;rcases dh.mp ha with ha|ha
   ·exact h a ha
   ·simp only[bL,oS,ft]at ha;rw[ha];exact hg
theorem Ib:∀{l:List (Int×α)} {f f':Fd α},(∀p∈l,Pr p.2)->(∀a∈f.map bS,Pr a)->kW l f=some f'->∀a∈f'.map bS,Pr a
 |[],f,f',_,h,e=>by cases e;exact h
 |(n,g)::l,f,f',hl,h,e=>by
  rw[kW,lY]at e;obtain⟨f1,e1,e2⟩:=e;exact Ib (λp hp=>hl p (cO _ hp)) (Ia h (hl (n,g) cL) e1) e2
theorem Ic{a:α×List Int}:∀{l:List (Int×α)} {f f':Fd α},(∀p∈l,fit a.1 p.2=true->Pr (cmp a.1 p.2))->(∀a∈f.map bS,Pr a)->put2 fit cmp a l f=some f'->∀a∈f'.map bS,Pr a
 |[],f,f',_,h,e=>by cases e;exact h
 |(n,g)::l,f,f',hl,h,e=>by
  rw[put2,lY]at e;obtain⟨f1,e1,e2⟩:=e;refine Ic (λp hp=>hl p (cO _ hp)) ?_ e2
  split at e1
  ·rename_i hf
   exact Ia h (hl (n,g) cL hf) e1
  ·cases e1;exact h
theorem Ig{nb:List (Int×α)}(hn:∀a,Pr a->∀p∈nb,fit a p.2=true->Pr (cmp a p.2)):∀{k place:Nat} {f f':Fd α},(∀a∈f.map bS,Pr a)->iK fit cmp nb k place f=some f'->∀a∈f'.map bS,Pr a
 |0,_,f,f',h,e=>by cases e;exact h
 |k+1,place,f,f',h,e=>by
  rw[iK]at e;cases ha:f[place]? with
  |none=>rw[ha]at e;cases e;exact h
  |some a =>
   rw[ha]at e;dsimp only at e;rw[lY]at e;obtain⟨f1,e1,e2⟩:=e;exact Ig hn (Ic (hn a.1 (h a.1 (lZ (f:=bS) (c8 ha)))) h e1) e2
theorem WE{nb:List (Int×α)}{F:Fd α}(h0:∀p∈nb,Pr p.2)(hn:∀a,Pr a->∀p∈nb,fit a p.2=true->Pr (cmp a p.2))(e:kX fit cmp nb=some F):∀a∈F.map bS,Pr a:=by
 unfold kX at e;rw[lY]at e;obtain⟨f1,e1,e2⟩:=e;exact Ig hn (Ib h0 (λa ha=>by simp at ha) e1) e2
end
end
end CL
namespace EE
open PySem PySem.Spec PyProof.Rows L2
abbrev j3(h:Heap)(e it:Addr)(i:Int)(f0 f1 old:Value):Prop :=
 h.get? e=some {cls:=.type "enumerate",dict:=none,data:=.fields #[f0,f1,.ref it,rawInt i,.none,old],slots:=#[]}
def hW(h:Heap)(e it:Addr)(i:Int):Prop:=∃f0 b old,(f0=.none∨∃a:Nat,f0=rawInt a)/\j3 h e it i f0 (.bool b) old
section
variable{prog:Program}{w:World}{A:Around}{E:Value->Shared->Prop}{s:Shared}
theorem WG{M:Model}{a:Addr}{Q:Option Obj->Shared->Prop}(h:Q (s.heap.get? a) s):wpAny M A (loadIfAlive a) Q E s:=λΓ p _=>by
 unfold loadIfAlive;rw[Sem.wp_loadIfAlive];exact h
theorem WH{e it:Addr}{fp:List Addr}{n i:Nat}{P:Nat->Value->Prop}{St:Nat->Heap->Prop}{Q:Value->Shared->Prop}
 (D:Draws prog w A it fp n P St) (he:hW s.heap e it i) (hst:St i s.heap) (hlt:i<n) (hne:e≠it) (hef:e∉fp)
 (hQ:∀x h' tk,P i x->hW h' e it ((i:Int)+1)->St (i+1) h' ->
  h'.get? s.heap.objs.size=some {cls:=.type "tuple",data:=.seq #[.int i tk,x]}->h'.objs.size=s.heap.objs.size+1 ->
  (∀b o,b≠e->b≠it->s.heap.get? b=some o->h'.get? b=some o)->Q (.ref s.heap.objs.size) {s with heap:=h',toks:=tk+1}) :
 wpAny (model prog w) A (Builtin.«enumerate.__next__» ⟨[.ref e],[]⟩) (λfin s'=>∃v,fin=.done (.ret v)/\Q v s') E s:=show _ by
 obtain⟨f0,b,old,nP,he⟩:=he;obtain⟨hp,g,d,tk₀,os⟩:=s;show wpAny _ _ (field (.ref e) 2 >>= _) _ _ _;refine ai (c9 he rfl (x:=.ref it) rfl ?_);refine ai (D.item i _ _ _ hlt hst λx h₁ tk hPx hit₁ hs₁=>?_);replace hs₁:fJ it hp h₁:=hs₁;have he₁:j3 h₁ e it i f0 (.bool b) old:=(hs₁.2 e hne).trans he;show wpAny _ _ (field (.ref e) 3 >>= _) _ _ ⟨h₁,g,d,tk,os⟩;refine ai (c9 he₁ rfl (x:=rawInt i) rfl ?_);show wpAny _ _ (field (.ref e) 4 >>= _) _ _ ⟨h₁,g,d,tk,os⟩;refine ai (c9 he₁ rfl (x:=.none) rfl ?_);show wpAny _ _ (mkInt i >>= _) _ _ ⟨h₁,g,d,tk,os⟩;refine ai (wpAny_mkInt ?_);show wpAny _ _ (setField (.ref e) 3 (rawInt ((i:Int)+1)) >>= _) _ _ ⟨h₁,g,d,tk+1,os⟩;refine ai (iu he₁ (by simp) λh₂ he₂ hs₂=>?_);replace hs₂:fJ e h₁ h₂:=hs₂;replace he₂:j3 h₂ e it ((i:Int)+1) f0 (.bool b) old:=he₂;show wpAny _ _ (setField (.ref e) 4 .none >>= _) _ _ ⟨h₂,g,d,tk+1,os⟩;refine ai (iu he₂ (by simp) λh₃ he₃ hs₃=>?_);replace hs₃:fJ e h₂ h₃:=hs₃;replace he₃:j3 h₃ e it ((i:Int)+1) f0 (.bool b) old:=he₃;show wpAny _ _ (newTuple [.int i tk,x] >>= _) _ _ ⟨h₃,g,d,tk+1,os⟩;refine ai (wpAny_newTuple ?_);have he₄:j3 (h₃.push {cls:=.type "tuple",data:=.seq #[.int i tk,x]}) e it ((i:Int)+1) f0 (.bool b) old:=bA _ he₃;generalize hh₄:h₃.push {cls:=.type "tuple",data:=.seq #[.int i tk,x]}=h₄ at he₄;have hsz:h₃.objs.size=hp.objs.size:=by rw[hs₃.1,hs₂.1,hs₁.1]
 have hel:e<hp.objs.size:=bG he;have ht₄:h₄.get? hp.objs.size=some {cls:=.type "tuple",data:=.seq #[.int i tk,x]}:=by rw[<-hh₄,<-hsz];exact c7 _ rfl
 have hz₄:h₄.objs.size=hp.objs.size+1:=by rw[<-hh₄,ir,hsz]
 have hk₄:∀b o,b≠e->b≠it->hp.get? b=some o->h₄.get? b=some o:=λb o hbe hbi hb=>by
  rw[<-hh₄];exact bA _ (hs₃.extBut b o hbe (hs₂.extBut b o hbe (hs₁.extBut b o hbi hb)))
 have hit₄:St (i+1) h₄:=D.frame _ _ _ hit₁ λb hb o y=>by
  have hbe:b≠e:=λq=>hef (q▸hb);rw[<-hh₄];exact bA _ (hs₃.extBut b o hbe (hs₂.extBut b o hbe y))
 show wpAny _ _ (rf (.ref e) >>= _) _ _ ⟨h₄,g,d,tk+1,os⟩;rw[hsz];clear hh₄ he₃ hs₃ he₂ hs₂ he₁ hs₁ hit₁ hsz h₃ h₂ h₁;have free:wpAny (model prog w) A (do
  rule "enumerate.__next__.owned-tuple-again"
  let old <-field (.ref e) 5
  setField (.ref e) 5 x
  ur (.ref e) (.ref hp.objs.size)
  letGo [old] [.ref hp.objs.size]
  PySem.ret (.ref hp.objs.size)) (λfin s'=>∃v,fin=.done (.ret v)/\Q v s') E ⟨h₄,g,d,tk+1,os⟩:=by
  refine ai (ke ?_);refine ai (c9 he₄ rfl (x:=old) rfl ?_);refine ai (iu he₄ (by simp) λh₅ he₅ hs₅=>?_);replace hs₅:fJ e h₄ h₅:=hs₅;replace he₅:j3 h₅ e it ((i:Int)+1) f0 (.bool b) x:=he₅;show wpAny _ _ (ur (.ref e) (.ref hp.objs.size) >>= _) _ _ ⟨h₅,g,d,tk+1,os⟩;refine ai ?_;unfold ur;refine ai (iu he₅ (by simp) λh₆ he₆ hs₆=>?_);replace hs₆:fJ e h₅ h₆:=hs₆;replace he₆:j3 h₆ e it ((i:Int)+1) (rawInt hp.objs.size) (.bool b) x:=he₆;refine iu he₆ (by simp) λh₇ he₇ hs₇=>?_;replace hs₇:fJ e h₆ h₇:=hs₇;replace he₇:j3 h₇ e it ((i:Int)+1) (rawInt hp.objs.size) (.bool false) x:=he₇;refine ai (uq (aB ⟨_,rfl,hQ x h₇ tk hPx ⟨_,_,_,.inr ⟨_,rfl⟩,he₇⟩ ?_ ?_ ?_ ?_⟩))
  ·exact D.frame _ _ _ hit₄ λb hb o y=>by
    have hbe:b≠e:=λq=>hef (q▸hb);exact hs₇.extBut b o hbe (hs₆.extBut b o hbe (hs₅.extBut b o hbe y))
  ·exact hs₇.extBut _ _ (kh hel) (hs₆.extBut _ _ (kh hel) (hs₅.extBut _ _ (kh hel) ht₄))
  ·rw[hs₇.1,hs₆.1,hs₅.1,hz₄]
  ·exact λb o hbe hbi hb=>hs₇.extBut b o hbe (hs₆.extBut b o hbe (hs₅.extBut b o hbe (hk₄ b o hbe hbi hb)))
 have keep:∀h₅ b',j3 h₅ e it ((i:Int)+1) f0 (.bool b') old->fJ e h₄ h₅->wpAny (model prog w) A (PySem.ret (.ref hp.objs.size)) (λfin s'=>∃v,fin=.done (.ret v)/\Q v s') E ⟨h₅,g,d,tk+1,os⟩:=λh₅ b' he₅ hs₅=>by
  refine aB ⟨_,rfl,hQ x h₅ tk hPx ⟨_,_,_,nP,he₅⟩ ?_ ?_ ?_ ?_⟩
  ·exact D.frame _ _ _ hit₄ λb hb o y=>by
    have hbe:b≠e:=λq=>hef (q▸hb);exact hs₅.extBut b o hbe y
  ·exact hs₅.extBut _ _ (kh hel) ht₄
  ·rw[hs₅.1,hz₄]
  ·exact λb o hbe hbi hb=>hs₅.extBut b o hbe (hk₄ b o hbe hbi hb)
 refine ai ?_;unfold rf;refine ai (c9 he₄ rfl (x:=f0) rfl ?_);rcases nP with rfl|⟨a,rfl⟩
 ·refine aB ?_;simp only[if_true];exact free
 ·show wpAny _ _ (loadIfAlive (rg a) >>= _) _ _ _;refine ai (WG ?_);cases hal:h₄.get? (rg a) with
  |none =>
   simp only[hal,Option.isNone_none,if_true];refine aB ?_;simp only[if_true];exact free
  |some o =>
   simp only[hal,Option.isNone_some,iY,if_false];refine ai (c9 he₄ rfl (x:=.bool b) rfl ?_);cases b with
   |true =>
    simp only[bne_self_eq_false,iY,if_false];refine aB ?_;simp only[iY,if_false];exact keep h₄ true he₄ ⟨rfl,λ_ _=>rfl⟩
   |false =>
    rw[if_pos (by decide)];refine ai (iu he₄ (by simp) λh₅ he₅ hs₅=>?_);refine aB ?_;simp only[iY,if_false];exact keep h₅ true he₅ hs₅
theorem Ih{e it:Addr}{fp:List Addr}{n i:Nat}{P:Nat->Value->Prop}{St:Nat->Heap->Prop}{Q:Option Value->Shared->Prop}
 (D:Draws prog w A.in1 it fp n P St) (he:hW s.heap e it i) (hst:St i s.heap) (hlt:i<n) (hne:e≠it) (hef:e∉fp)
 (hQ:∀x h' tk,P i x->hW h' e it ((i:Int)+1)->St (i+1) h' ->
  h'.get? s.heap.objs.size=some {cls:=.type "tuple",data:=.seq #[.int i tk,x]}->h'.objs.size=s.heap.objs.size+1 ->
  (∀b o,b≠e->b≠it->s.heap.get? b=some o->h'.get? b=some o)->Q (some (.ref s.heap.objs.size)) {s with heap:=h',toks:=tk+1}) :
 wpAny (model prog w) A (pyNext (.ref e)) Q E s:=show _ by
 have hT:s.TypeIs (.ref e) "enumerate":=by obtain⟨_,_,_,_,he⟩:=he;exact⟨_,he,rfl⟩
 unfold pyNext;exact ai (oW (kj (name:=jE "__next__") hT ux
  (ij ux hT NK
   (WH D he hst hlt hne hef λx h' tk a b c d k q=>aB (hQ x h' tk a b c d k q)) (NL _))))
theorem Ii{e it:Addr}{i:Int}{Q:Option Value->Shared->Prop}(he:hW s.heap e it i)
 (hd:∀(Q':Value->Shared->Prop) (E':Value->Shared->Prop),(∀h' x,ui it s.heap h'->(∃o,h'.get? x=some o/\o.cls=.type "StopIteration")->E' (.ref x) {s with heap:=h'})->wpAny (model prog w) A.in1 (lV (.ref it)) Q' E' s)
 (hQ:∀h',ui it s.heap h'->Q none {s with heap:=h'}):wpAny (model prog w) A (pyNext (.ref e)) Q E s:=show _ by
 obtain⟨_,_,_,_,he⟩:=he;have hT:s.TypeIs (.ref e) "enumerate":=⟨_,he,rfl⟩;unfold pyNext;refine ai (oW (kj (name:=jE "__next__") hT ux
  (ij ux hT NK ?_ (NL _))))
 show wpAny _ _ (field (.ref e) 2 >>= _) _ _ _;refine ai (c9 he rfl (x:=.ref it) rfl ?_);refine ai (hd _ _ λh' x he' hx'=>?_);obtain⟨o,ho,hc⟩:=hx';refine ai (tZ (T:="StopIteration") (b:=true) ⟨o,ho,hc⟩ Dr ?_);exact aB (hQ _ he')
theorem s_{e it:Addr}{i:Int}{Q:Value->Shared->Prop}(he:hW s.heap e it i)(h:Q (.ref e) s):wpAny (model prog w) A (pyIter (.ref e)) Q E s:=show _ by
 obtain⟨_,_,_,_,he⟩:=he;have hT:s.TypeIs (.ref e) "enumerate":=⟨_,he,rfl⟩;refine Nk hT NM (ij NM hT PySem.F.entry_enumerate_iter ?_ (PySem.F.args_enumerate_iter_1 _));show wpAny _ _ (ret (.ref e)) _ _ s;exact aB ⟨_,rfl,"enumerate",_,hT,ux.lookup,h⟩
theorem Ij{tg:Expr}{e it a:Addr}{i:Int}{Q:Unit->Shared->Prop}(he:hW s.heap e it i)(hQ:∀h',hW h' e it i->fJ e s.heap h'->Q () {s with heap:=h'}) :
 wpAny (model prog w) A (letOwnedTupleGo tg (.ref e) (.ref a)) Q E s:=show _ by
 have h0:=he;obtain⟨f0,b,old,nP,he⟩:=he;have same:Q () s:=hQ s.heap h0 ⟨rfl,λ_ _=>rfl⟩;have go:wpAny (model prog w) A (letOwnedTupleGo (.Tuple [] 0 default) (.ref e) (.ref a)) Q E s:=by
  unfold letOwnedTupleGo;refine ai (wpAny_load he ?_);dsimp only
  split
  ·refine ai (ke ?_);show wpAny _ A (setField (.ref e) 0 .none) Q E s;exact iu he (by simp) λh' he' hs'=>hQ h' ⟨_,_,_,.inl rfl,he'⟩ hs'
  ·exact aB same
 cases tg<;>first
  |exact aB same
  |exact go
end
theorem WI{prog:Program}{w:World}{A:Around}(hh:A.handled=none)(it l:Addr)(hne:l≠it)(items:Array Value) :
 Draws prog w A it [it,l] items.size (λi v=>items[i]?=some v) (λi h=>h.IsTupleIter it l i/\h.IsTuple l items) where
 live:=λ_ _ st=>let⟨o,ho,_⟩:=st.1;⟨o,ho⟩
 frame:=λ_ _ _ st hk=>⟨st.1.at λo e=>hk it (by simp) o e,let⟨o,ho,r⟩:=st.2;⟨o,hk l (by simp) o ho,r⟩⟩
 item:=λi s Q E hi st hQ=>by
  refine vZ st.1 st.2 (x:=items[i]) (by simp[hi]) λh' hit' hs'=>?_;exact hQ _ h' s.toks (by simp[hi]) ⟨hit',jY st.2 hs'.extBut hne⟩ hs'
 done:=λs Q E st hE=>v5 hh st.1 st.2 (by simp) hE
theorem WJ(l:Addr)(items:Array Value) :
 Meets (Builtin.«enumerate.__new__» ⟨[.type "enumerate",.ref l],[]⟩) (λ_ R s=>s.heap.IsTuple l items /\
  R (.ok (.ret (.ref (s.heap.push {cls:=.type "tuple_iterator",data:=.fields #[.ref l,.int 0 0]}).objs.size)))
   {s with heap:=(s.heap.push {cls:=.type "tuple_iterator",data:=.fields #[.ref l,.int 0 0]}).push {cls:=.type "enumerate",data:=.fields #[.none,.bool false,.ref s.heap.objs.size,rawInt 0,.none,.none]}}) :=
 .of_wp λprog w A R s h=>by
  obtain⟨hp,g,d,tk,os⟩:=s;obtain⟨hl,h⟩:=h;have hsub:=sub_enumerate;have hL:DF (DG ⟨hp,g,d,tk,os⟩) l items:=hl
  wp_walk
  refine wpAny_stack_any λst=>aB ?_
  split
  ·rename_i c _ _ _ _ _
   cases (c==Value.type "enumerate")
   ·wp_walk using qV hL
    exact⟨_,rfl,h⟩
   ·wp_walk using qV hL
    exact⟨_,rfl,h⟩
  ·wp_walk using qV hL
   exact⟨_,rfl,h⟩
section
variable{prog:Program}{w:World}{A:Around}{E:Value->Shared->Prop}{s:Shared}
theorem Ik{l:Addr}{items:Array Value}{Q:Value->Shared->Prop}(hL:s.heap.IsTuple l items)
 (h:∀h',hW h' (s.heap.objs.size+1) s.heap.objs.size 0->h'.IsTupleIter s.heap.objs.size l 0->h'.objs.size=s.heap.objs.size+2 ->
  (∀b o,s.heap.get? b=some o->h'.get? b=some o)->Q (.ref (s.heap.objs.size+1)) {s with heap:=h'}) :
 wpAny (model prog w) A (call (.type "enumerate") [.ref l]) Q E s:=show _ by
 refine Dp PySem.F.called_enumerate (by decide) (PySem.F.typeCall_enumerate_1 _) (PySem.F.newCall_enumerate_1 _) (λobj=>Ni obj _) PySem.F.entry_enumerate_new
  (WJ l items) ⟨hL,?_⟩
 have hz:(s.heap.push {cls:=.type "tuple_iterator",data:=.fields #[.ref l,.int 0 0]}).objs.size=s.heap.objs.size+1:=ir ..;show _/\_;rw[hz];have he:j3 ((s.heap.push {cls:=.type "tuple_iterator",data:=.fields #[.ref l,.int 0 0]}).push
  {cls:=.type "enumerate",data:=.fields #[.none,.bool false,.ref s.heap.objs.size,rawInt 0,.none,.none]}) (s.heap.objs.size+1) s.heap.objs.size 0 .none (.bool false) .none:=by
  have:=c7 (s.heap.push {cls:=.type "tuple_iterator",data:=.fields #[.ref l,.int 0 0]})
   (o:={cls:=.type "enumerate",data:=.fields #[.none,.bool false,.ref s.heap.objs.size,rawInt 0,.none,.none]}) rfl
  rw[hz]at this;exact this
 refine⟨⟨_,he,rfl⟩,h _ ⟨_,_,_,.inl rfl,he⟩ ⟨_,bA _ (c7 _ rfl),rfl,rfl⟩ (by rw[ir,hz]) λb o x=>bA _ (bA _ x)⟩
theorem Il{l:Addr}{items:Array Value}{Q:Value->Shared->Prop}(hL:s.heap.IsList l items)
 (h:∀h',hW h' (s.heap.objs.size+1) s.heap.objs.size 0->h'.IsListIter s.heap.objs.size l 0->h'.objs.size=s.heap.objs.size+2 ->
  (∀b o,s.heap.get? b=some o->h'.get? b=some o)->Q (.ref (s.heap.objs.size+1)) {s with heap:=h'}) :
 wpAny (model prog w) A (call (.type "enumerate") [.ref l]) Q E s :=
 call_enumerate_list hL λh' he hi hz hk=>h h' ⟨_,_,_,.inl rfl,he⟩ hi hz hk
end
theorem WK{X:Cx}{pins:List (Addr×Obj)}{σ:L2.St}{H:Hp}{s:Shared}{h':Heap}{t':Nat}{fp:List Addr}{a:Addr}{o:HO}(I:Inv X pins σ H s)(k:∀b u,b∉fp->s.heap.get? b=some u->h'.get? b=some u)(hf:∀b∈fp,d9 X pins H b)
 (hp:s.heap.objs.size<=a) (new:dk X.prog X.w (upd H a o) h' a o):Inv X pins σ (upd H a o) {s with heap:=h',toks:=t'}:=show _ by
 have hn:H a=none:=I.hok.fresh hp;have mf:∀b u,H b=some u->b∉fp:=λb u e z=>by
  rw[(hf b z).1]at e;cases e
 refine I.step (g':=s.gens) (d':=s.drawn) (ch:=fp) (λb hb=>?_) (λb o _ _ hc e _=>k b o hc e) (λb o _ _ hc e _=>⟨o.slots,k b o hc e⟩) (λb u _ e n=>?_) (λb o hc e=>⟨o,k b o hc e⟩) (λb xs e=>?_) (λb u v e=>?_)
  (λb ps e=>⟨#[],by rw[bg (iz e hn),e];simp⟩) (λm hm=>?_) (λb u e=>?_) I.bare
 ·obtain⟨f0,f1,f2,f3,f4,f5⟩:=hf b hb;exact⟨f3,f1,f4,f5⟩
 ·rw[bg (cW (dO (bG e) hp))];exact n
 ·rw[bg (iz e hn)];exact e
 ·rw[bg (iz e hn)];exact e
 ·obtain⟨o,es,ep,ho,r⟩:=hm;exact⟨o,es,ep,k _ o (λz=>(hf _ z).2.1 rfl) ho,r⟩
 ·by_cases hb:b=a
  ·subst hb;rw[d8]at e;cases e;exact new
  ·rw[bg hb]at e;refine(I.hok b u e).stay (λc v hc q=>k c v ?_ q) (λc q=>by rw[bg (iz q hn)];exact q) λc xs q=>by rw[bg (iz q hn)];exact q
   rcases hc with z|z
   ·rw[z];exact mf b u e
   ·exact mf c _ z
def j5(sq:Hp->List V->Prop):It :=
 ⟨λi H=>∃xs,sq H xs/\i<xs.length,λi H x H'=>∃p y,x=.ref p/\H p=none/\H'=upd H p (.tup [.int i,y])/\∀xs,sq H xs->xs[i]?=some y,λi H=>∃xs,sq H xs/\xs.length<=i⟩
theorem Io{X:Cx}{pins:List (Addr×Obj)}{σ:L2.St}{H:Hp}{s:Shared}{h':Heap}{e it:Addr}{i:Nat}{tk:Nat}{u:Value}{y:V}(I:Inv X pins σ H s)(hf:∀b∈[e,it],d9 X pins H b)(ru:RelV y u)
 (hT:h'.get? s.heap.objs.size=some {cls:=.type "tuple",data:=.seq #[.int i tk,u]}) (k:∀b o,b≠e->b≠it->s.heap.get? b=some o->h'.get? b=some o) :
 Inv X pins σ (upd H s.heap.objs.size (.tup [.int i,y])) {s with heap:=h',toks:=tk+1} :=
 WK (fp:=[e,it]) I (λb o n q=>k b o (λz=>n (by simp[z])) (λz=>n (by simp[z])) q) hf (aT _) ⟨(by decide:2<=sizeLine),[.int i tk,u],.cons ⟨tk,rfl⟩ (.cons ru .nil),⟨_,hT,rfl,_,rfl⟩,λo q=>by rw[hT]at q;cases q;rfl⟩
theorem Ip{P:Program}{w:World}{K:aq}{tg:Expr}(l e it:Addr)(hne:e≠it):Turn P w K tg (j5 λH xs=>bu K H l xs) [e,it] e (λi h=>hW h e it i/\h.IsListIter it l i) where
 mem:=cL
 obj:=λi h st c hc=>by
  obtain⟨⟨f0,b,old,_,s1⟩,⟨o2,s2,_,d2⟩⟩:=st;simp only[bJ,cQ,or_false]at hc;rcases hc with rfl|rfl
  ·exact⟨_,s1,λv z=>nomatch z⟩
  ·exact⟨_,s2,λv z=>by rw[d2]at z;cases z⟩
 keep:=λi h h' st kk=>by
  obtain⟨⟨f0,b,old,nP,s1⟩,s2⟩:=st;exact⟨⟨f0,b,old,nP,kk e (by simp) _ s1⟩,s2.at λo q=>kk it (by simp) o q⟩
 item:=show _ by
  intro X hP hw hK hc i pins s σ H E I hf st hg;subst hP hw hK;obtain⟨xs,hq,hi⟩:=hg;obtain⟨its,rv,pt,hz⟩:=I.list hq;have hl:=rv.length;obtain⟨u,hu,ru⟩:=rv.get (aU hi);have ps:s.heap.IsList l its.toArray:=pt.isList;have hle:l≠e:=by
   rintro rfl;obtain⟨o,q,c,_⟩:=ps;obtain⟨_,_,_,_,q2⟩:=st.1;rw[q2]at q;cases q;exact absurd (xU c) (by decide)
  have hli:l≠it:=by
   rintro rfl;obtain⟨o,q,c,_⟩:=ps;obtain⟨o2,q2,c2,_⟩:=st.2;rw[q2]at q;cases q;rw[c2]at c;exact absurd (xU c) (by decide)
  refine Ih (Draws.list (A:=X.A.in1) (show X.A.in1.handled=none from I.ok.hd hc) it l hli its.toArray) st.1 ⟨st.2,ps⟩ (by rw[cj];lia) hne (by simp[hne,bt hle]) λx h' tk hx he hst hT hsz k=>?_;have ex:u=x:=by
   have e1:its[i]?=some x:=by simpa using hx
   rw[hu]at e1;exact dg e1
  subst ex;refine⟨_,rfl,Ij (s:={s with heap:=h',toks:=tk+1}) he λh2 he2 sb=>?_⟩;have el:e<s.heap.objs.size:=by obtain⟨_,_,_,_,q⟩:=st.1;exact bG q
  have il:it<s.heap.objs.size:=by obtain⟨_,q,_⟩:=st.2;exact bG q
  have k2:∀b o,b≠e->b≠it->s.heap.get? b=some o->h2.get? b=some o:=λb o n1 n2 q=>(sb.2 b n1).trans (k b o n1 n2 q);have e1:((i:Int)+1)=((i+1:Nat):Int):=by lia
  rw[e1]at he2;have Im:=Io (s:=s) (i:=i) (y:=xs[i]) (tk:=tk) I hf ru ((sb.2 _ (kh el)).trans hT) k2;refine⟨.ref s.heap.objs.size,_,Im,rfl,⟨_,xs[i],rfl,I.hok.fresh (aT _),rfl,λzs hy=>by rw[I.uH hy hq];exact aU hi⟩,
   ⟨he2,hst.1.at λo q=>(sb.2 it (bt hne)).trans q⟩,λc hc'=>?_⟩
  simp only[bJ,cQ,or_false]at hc';rcases hc' with rfl|rfl
  ·rw[bg (cW el)];exact(hf _ (by simp)).1
  ·rw[bg (cW il)];exact(hf _ (by simp)).1
 done:=by
  intro X hP hw hK hc i pins s σ H E I hf st hg;subst hP hw hK;obtain⟨xs,hq,hi⟩:=hg;obtain⟨its,rv,pt,hz⟩:=I.list hq;have hl:=rv.length;have ps:s.heap.IsList l its.toArray:=pt.isList;refine Ii st.1 (λQ' E' hE=>wpAny_nextOf_list_end (I.ok.hd hc) st.2 ps (by simp;lia) hE) λh' eb=>⟨rfl,vY (t':=s.toks) (fp:=[e,it]) I (λc o n q=>eb c o (λz=>n (by simp[z])) q) hf⟩
 self:=λ_ _ _ _ _ st h=>s_ st.1 h
theorem Iq{P:Program}{w:World}{K:aq}{tg:Expr}(l e it:Addr)(hne:e≠it):Turn P w K tg (j5 λH xs=>bq K H l xs) [e,it] e (λi h=>hW h e it i/\h.IsTupleIter it l i) where
 mem:=cL
 obj:=λi h st c hc=>by
  obtain⟨⟨f0,b,old,_,s1⟩,⟨o2,s2,_,d2⟩⟩:=st;simp only[bJ,cQ,or_false]at hc;rcases hc with rfl|rfl
  ·exact⟨_,s1,λv z=>nomatch z⟩
  ·exact⟨_,s2,λv z=>by rw[d2]at z;cases z⟩
 keep:=λi h h' st kk=>by
  obtain⟨⟨f0,b,old,nP,s1⟩,s2⟩:=st;exact⟨⟨f0,b,old,nP,kk e (by simp) _ s1⟩,s2.at λo q=>kk it (by simp) o q⟩
 item:=show _ by
  intro X hP hw hK hc i pins s σ H E I hf st hg;subst hP hw hK;obtain⟨xs,hq,hi⟩:=hg;obtain⟨its,rv,pt,hz⟩:=I.tuple hq;have hl:=rv.length;obtain⟨u,hu,ru⟩:=rv.get (aU hi);have ps:s.heap.IsTuple l its.toArray:=pt;have hle:l≠e:=by
   rintro rfl;obtain⟨o,q,c,_⟩:=ps;obtain⟨_,_,_,_,q2⟩:=st.1;rw[q2]at q;cases q;exact absurd (xU c) (by decide)
  have hli:l≠it:=by
   rintro rfl;obtain⟨o,q,c,_⟩:=ps;obtain⟨o2,q2,c2,_⟩:=st.2;rw[q2]at q;cases q;rw[c2]at c;exact absurd (xU c) (by decide)
  refine Ih (WI (A:=X.A.in1) (show X.A.in1.handled=none from I.ok.hd hc) it l hli its.toArray) st.1 ⟨st.2,ps⟩ (by rw[cj];lia) hne (by simp[hne,bt hle]) λx h' tk hx he hst hT hsz k=>?_;have ex:u=x:=by
   have e1:its[i]?=some x:=by simpa using hx
   rw[hu]at e1;exact dg e1
  subst ex;refine⟨_,rfl,Ij (s:={s with heap:=h',toks:=tk+1}) he λh2 he2 sb=>?_⟩;have el:e<s.heap.objs.size:=by obtain⟨_,_,_,_,q⟩:=st.1;exact bG q
  have il:it<s.heap.objs.size:=by obtain⟨_,q,_⟩:=st.2;exact bG q
  have k2:∀b o,b≠e->b≠it->s.heap.get? b=some o->h2.get? b=some o:=λb o n1 n2 q=>(sb.2 b n1).trans (k b o n1 n2 q);have e1:((i:Int)+1)=((i+1:Nat):Int):=by lia
  rw[e1]at he2;have Im:=Io (s:=s) (i:=i) (y:=xs[i]) (tk:=tk) I hf ru ((sb.2 _ (kh el)).trans hT) k2;refine⟨.ref s.heap.objs.size,_,Im,rfl,⟨_,xs[i],rfl,I.hok.fresh (aT _),rfl,λzs hy=>by rw[I.o6 hy hq];exact aU hi⟩,
   ⟨he2,hst.1.at λo q=>(sb.2 it (bt hne)).trans q⟩,λc hc'=>?_⟩
  simp only[bJ,cQ,or_false]at hc';rcases hc' with rfl|rfl
  ·rw[bg (cW el)];exact(hf _ (by simp)).1
  ·rw[bg (cW il)];exact(hf _ (by simp)).1
 done:=by
  intro X hP hw hK hc i pins s σ H E I hf st hg;subst hP hw hK;obtain⟨xs,hq,hi⟩:=hg;obtain⟨its,rv,pt,hz⟩:=I.tuple hq;have hl:=rv.length;have ps:s.heap.IsTuple l its.toArray:=pt;refine Ii st.1 (λQ' E' hE=>v5 (I.ok.hd hc) st.2 ps (by simp;lia) hE) λh' eb=>⟨rfl,vY (t':=s.toks) (fp:=[e,it]) I (λc o n q=>eb c o (λz=>n (by simp[z])) q) hf⟩
 self:=λ_ _ _ _ _ st h=>s_ st.1 h
section
variable{X:Cx}{tg a:Expr}{ta:TA}{p pos:Pos}
def Ag(K:aq)(ta:TA):TI:=λσ H R=>ta σ H λvs H1=>∃l,vs=[.ref l]/\(((∃xs,bu K H1 l xs)/\R (j5 λH xs=>bu K H l xs) H1)∨((∃xs,bq K H1 l xs)/\R (j5 λH xs=>bq K H l xs) H1))
theorem WL{pins:List (Addr×Obj)}{σ:L2.St}{H1:Hp}{s1:Shared}{l:Addr}{R:It->Hp->Prop}(I1:Inv X pins σ H1 s1)(q:((∃xs,bu X.K H1 l xs)/\R (j5 λH xs=>bu X.K H l xs) H1)∨((∃xs,bq X.K H1 l xs)/\R (j5 λH xs=>bq X.K H l xs) H1)) :
 wpAny (model X.prog X.w) X.A (call (.type "enumerate") [.ref l]) (λv s2=>wpAny (model X.prog X.w) X.A (pyIter v) (yo X pins σ tg R) X.xe s2) X.xe s1:=show _ by
 have hne:s1.heap.objs.size+1≠s1.heap.objs.size:=by lia
 have fin:∀(h':Heap),(∀b o,s1.heap.get? b=some o->h'.get? b=some o)->Inv X pins σ H1 {s1 with heap:=h'}/\∀b∈[s1.heap.objs.size+1,s1.heap.objs.size],d9 X pins H1 b:=λh' k=>⟨I1.kept (t':=s1.toks) k,λb hb=>by
  have cl:s1.heap.objs.size<=b:=by
   simp only[bJ,cQ,or_false]at hb;lia
  exact I1.kG cl (I1.hok.fresh cl)⟩
 rcases q with⟨⟨xs,hx⟩,q⟩|⟨⟨xs,hx⟩,q⟩
 ·obtain⟨its,rv,pt,_⟩:=I1.list hx;refine Il pt.isList λh' he hi hz k=>s_ he ?_;obtain⟨I2,f2⟩:=fin h' k;exact⟨_,_,_,_,H1,rfl,I2,Ip l _ _ hne,⟨he,hi⟩,f2,q⟩
 ·obtain⟨its,rv,pt,_⟩:=I1.tuple hx;refine Ik (show s1.heap.IsTuple l its.toArray from pt) λh' he hi hz k=>s_ he ?_;obtain⟨I2,f2⟩:=fin h' k;exact⟨_,_,_,_,H1,rfl,I2,Iq l _ _ hne,⟨he,hi⟩,f2,q⟩
theorem WM(hg:Gl X "enumerate")(hm:X.mg "enumerate"=none)(ha:PA X [a] ta)(hs:starEach [a] X.env=[(false,eval a X.env)]:=by rfl):PI X tg (.Call (.Name "enumerate" p) [a] [] pos) (Ag X.K ta):=show _ by
 intro pins s σ H R I h;refine Call_ (kC I hg hm boot_enumerate (mW (aF (ha pos pins s σ H _ I h) λus s1 ⟨vs,H1,I1,r1,q1⟩=>?_) hs rfl));obtain⟨l,rfl,q⟩:=q1;obtain⟨u,rfl,r⟩:=vals1 r1;cases r;exact WL I1 q
end
def tf(X:Cx):Cx:={X with A:=X.A.in1.in1}
theorem inv2{X:Cx}{pins:List (Addr×Obj)}{σ:L2.St}{H:Hp}{s:Shared}(I:Inv X pins σ H s):Inv (tf X) pins σ H s :=
 ⟨⟨I.ok.mod,I.ok.kind,I.ok.glob,I.ok.blt,I.ok.above,I.ok.inj,I.ok.has,I.ok.cab,I.ok.hd,I.ok.frames,I.ok.ng,I.ok.rD,I.ok.bs,I.ok.gT,I.ok.ma,I.ok.md,I.ok.fu,I.ok.i7⟩,I.os,I.bare,I.base,I.loc,I.cell,I.free,I.fN,I.pin,I.hok,I.len⟩
theorem Ir{X:Cx}{pins:List (Addr×Obj)}{σ:L2.St}{H:Hp}{s:Shared}(I:Inv (tf X) pins σ H s)(ok:X.Ok):Inv X pins σ H s:=⟨ok,I.os,I.bare,I.base,I.loc,I.cell,I.free,I.fN,I.pin,I.hok,I.len⟩
theorem Iu{X:Cx}{pins:List (Addr×Obj)}{H:Hp}{b:Addr}(h:d9 X pins H b):d9 (tf X) pins H b:=h
section
variable{X:Cx}{pins:List (Addr×Obj)}{σ:L2.St}{J:It}{fp:List Addr}{it D:Addr}{tn:Nat->Heap->Prop}{R:Result->Shared->Prop}
theorem WN(hc:X.calm=true)(ok:X.Ok){nx:Str}{px:Pos}(T:Turn X.prog X.w X.K (.Name nx px) J fp it tn)(W:Nat->Nat->Hp->Prop)
 (turn:∀i m H2,W i m H2->(J.stop i H2/\∀s',Inv X pins σ H2 s'->R (.ok (.ret .none)) s')∨(J.go i H2/\∀v H',J.mi i H2 v H'->∃ys,H' D=some (.lst ys)/\ys.length<sizeLine/\∃m',m'<m/\W (i+1) m' (upd H' D (.lst (ys++[v]))))) :
 ∀(m i:Nat) (H2:Hp) (s:Shared),W i m H2->Inv X pins σ H2 s->(∀b∈fp,d9 X pins H2 b)->tn i s.heap->codeAny (model X.prog X.w) X.A.in1 (.builtin "list.extend.loop" ⟨[.ref D,.ref it,.none],[]⟩) R s:=show _ by
 intro m
 induction m using Nat.strongRecOn with
 |ind m ih =>
  intro i H2 s w I hf st;refine Dz PySem.F.entry_extend_loop ?_;rw[DA DP _];show wpAny _ X.A.in1.in1 (pyNext (.ref it) >>= _) _ _ s;rcases turn i m H2 w with⟨stop,fin⟩|⟨go,step⟩
  ·refine ai (aF (T.done (tf X) rfl rfl rfl hc i pins s σ H2 _ (inv2 I) (λb hb=>Iu (hf b hb)) st stop) λr s1 ⟨hr,I1⟩=>?_);subst hr;exact aB (fin s1 (Ir I1 ok))
  ·refine ai (aF (T.item (tf X) rfl rfl rfl hc i pins s σ H2 _ (inv2 I) (λb hb=>Iu (hf b hb)) st go) λr s1 ⟨u,hr,h1⟩=>?_);subst hr;show wpAny _ X.A.in1.in1 (letOwnedTupleGo (.Name nx px) (.ref it) u >>= λ_=>updateSeq D (·.push u) >>= λ_=>again (.builtin "list.extend.loop" ⟨[.ref D,.ref it,.none],[]⟩)) _ _ s1;refine ai (aF h1 λ_ s2 ⟨v,H3,I3,rv,hy,st3,i9⟩=>?_);obtain⟨ys,hD,hz,m',hm,w'⟩:=step v H3 hy;have Iv:=Ir I3 ok;obtain⟨z,its,n,r,hl,e⟩:=Iv.nv hD;have I4:=Iv.uZ (its':=its++[u]) (f:=(·.push u)) (t':=s2.toks) hD e (by simp) (r.append (.cons rv .nil)) (by rw[aR,Dh];lia);have hDf:∀b∈fp,b≠D:=λb hb z=>by rw[z]at hb;rw[i9 D hb]at hD;cases hD
   refine ai (ub e rfl (aB ⟨xN DP _,ih m' hm (i+1) _ _ w' I4 (λb hb=>?_) (T.keep _ _ _ st3 λb hb o q=>?_)⟩) ?_)
   ·obtain⟨f0,f⟩:=hf b hb;exact⟨by rw[bg (hDf b hb)];exact i9 b hb,f⟩
   ·exact(qW _ _ (bt (hDf b hb))).trans q
   ·simp only[cj,Array.size_push];have:=r.length;lia
end
namespace FE
theorem WO:typeLookup (.type "enumerate") "__len__"=pure none:=by rw[m5,m6];kernel_rfl
theorem WQ:typeLookup (.type "enumerate") "__length_hint__"=pure none:=by rw[m5,m6];kernel_rfl
end FE
section
variable{X:Cx}{a:Expr}{ta:TA}{p p2 pos pos2:Pos}{g:TG}{tt:TT}{te:TE}
theorem WR(hc:X.calm=true)(gl:Gl X "list")(ml:X.mg "list"=none)(ge:Gl X "enumerate")(me:X.mg "enumerate"=none)(ha:PA X [a] ta)
 (hg:∀v o H Q,g v [o] H Q->Q [some v] H) (ht:∀τ H Q,tt τ H Q->Q true H) (he:∀v H Q,te [some v] H Q->Q v H)
 (hs:starEach [.Call (.Name "enumerate" p2) [a] [] pos2] X.env=[(false,eval (.Call (.Name "enumerate" p2) [a] [] pos2) X.env)]:=by rfl) (hs2:starEach [a] X.env=[(false,eval a X.env)]:=by rfl) :
 PE X (.Call (.Name "list" p) [.Call (.Name "enumerate" p2) [a] [] pos2] [] pos) (vW (Ag X.K ta) g tt te 1 []):=show _ by
 intro pins s σ H Q I h;refine Call_ (kC I gl ml boot_list (mW ?_ hs rfl));rw[hs];show wpAny _ _ (spliced ((false,eval (.Call (.Name "enumerate" p2) [a] [] pos2) X.env)::backTo pos [])) _ _ s;refine MT (Call_ (kC I ge me boot_enumerate (mW (aF (ha pos2 pins s σ H _ I h) λus s1 ⟨vs,H1,I1,r1,q1⟩=>?_) hs2 rfl)));obtain⟨l,rfl,q⟩:=q1;obtain⟨u,rfl,r⟩:=vals1 r1;cases r;have main:∀(J:It) (tn:Nat->Heap->Prop) (h':Heap),Turn X.prog X.w X.K (.Name "x" p) J [s1.heap.objs.size+1,s1.heap.objs.size] (s1.heap.objs.size+1) tn->tn 0 h'->(∀i h,tn i h->hW h (s1.heap.objs.size+1) s1.heap.objs.size i)->h'.objs.size=s1.heap.objs.size+2 ->
  (∀b o,s1.heap.get? b=some o->h'.get? b=some o) ->
  (∀D,H1 D=none->∃W:Nat->Nat->L2.St->Hp->Prop,(∃m,W 0 m (fK 1 none++pick σ []) (upd H1 D (.lst []))) /\
   ∀i m τ H2,W i m τ H2->(J.stop i H2/\Q (.ref D) H2)∨(J.go i H2/\∃N:L2.St->Hp->Prop,(∀bx H',N bx H'->∃m',m'<m/\W (i+1) m' bx H')/\∀v H',J.mi i H2 v H' ->
    g v τ H' λbx H3=>tt bx H3 λb H4=>if b=true then te bx H4 λy H5=>∃ys,H5 D=some (.lst ys)/\ys.length<sizeLine/\N bx (upd H5 D (.lst (ys++[y]))) else N bx H4)) ->
  wpAny (model X.prog X.w) X.A (spliced (backTo pos [])) (λvs s3=>wpAny (model X.prog X.w) X.A (call (.type "list") (.ref (s1.heap.objs.size+1)::vs)) (EP X pins σ Q) X.xe s3) X.xe {s1 with heap:=h'}:=λJ tn h' T st hE hz k q=>by
  refine MS ?_;have I2:Inv X pins σ H1 {s1 with heap:=h'}:=I1.kept (t':=s1.toks) k;have f2:∀b∈[s1.heap.objs.size+1,s1.heap.objs.size],d9 X pins H1 b:=λb hb=>by
   have cl:s1.heap.objs.size<=b:=by
    simp only[bJ,cQ,or_false]at hb;lia
   exact I1.kG cl (I1.hok.fresh cl)
  have WS:H1 h'.objs.size=none:=I2.hok.fresh (aT _);obtain⟨W,⟨m0,w0⟩,turn⟩:=q h'.objs.size WS;have I3:Inv X pins σ (upd H1 h'.objs.size (.lst [])) {s1 with heap:=h'.push {cls:=.type "list",data:=.seq #[]}}:=I2.u1 (its:=[]) (t':=s1.toks) .nil (bV _);have st3:tn 0 (h'.push {cls:=.type "list",data:=.seq #[]}):=T.keep _ _ _ st λb hb o q=>bA _ q;have ne3:∀b∈[s1.heap.objs.size+1,s1.heap.objs.size],b≠h'.objs.size:=λb hb=>by
   simp only[bJ,cQ,or_false]at hb;rw[hz];lia
  have f3:∀b∈[s1.heap.objs.size+1,s1.heap.objs.size],d9 X pins (upd H1 h'.objs.size (.lst [])) b:=λb hb=>by
   obtain⟨f0,f⟩:=f2 b hb;exact⟨by rw[bg (ne3 b hb)];exact f0,f⟩
  refine callType_codes (Q₁:=λobj s₁=>obj=.ref h'.objs.size/\s₁={s1 with heap:=h'.push {cls:=.type "list",data:=.seq #[]}}) PySem.F.called_list (PySem.F.typeCall_list_1 _) PySem.F.entry_list_init
   (code_list_new (s:={s1 with heap:=h'}) _ ⟨rfl,rfl⟩) λobj s₁ h₁=>?_
  obtain⟨rfl,rfl⟩:=h₁;have hS:(h'.push {cls:=.type "list",data:=.seq #[]}).get? h'.objs.size=some {cls:=.type "list",data:=.seq #[]}:=c7 _ rfl;refine⟨⟨_,hS,rfl⟩,PySem.F.args_list_init_2 _ _,?_⟩;show wpAny _ X.A.in1.in1 (do let old <-NN (.ref h'.objs.size);Builtin.List.listUpdate (.ref h'.objs.size) (λ_=>#[]);letGo old.toList.reverse;DQ (.ref h'.objs.size) (.ref (s1.heap.objs.size+1)) .none) _ _ _;refine ai ?_;unfold NN;refine ai (jB hS rfl (aB ?_));show wpAny _ X.A.in1.in1 (updateSeq h'.objs.size (λ_=>#[]) >>= λ_=>letGo (#[]:Array Value).toList.reverse >>= λ_=>DQ (.ref h'.objs.size) (.ref (s1.heap.objs.size+1)) .none) _ _ _;have upI:∀{Hx:Hp} {sx:Shared} (f:Array Value->Array Value) (its its':List Value) (n:Nat),Inv X pins σ Hx sx->Hx h'.objs.size=some (.lst [])->sx.heap.get? h'.objs.size=some {cls:=.type "list",data:=.seq its.toArray n}->True:=λ_ _ _ _ _ _ _=>trivial;refine ai (ub hS rfl ?_);have e4:=oR (fq (λ_=>(#[]:Array Value))) hS rfl;have k4:∀b o,b≠h'.objs.size->(h'.push {cls:=.type "list",data:=.seq #[]}).get? b=some o->((h'.push {cls:=.type "list",data:=.seq #[]}).update h'.objs.size (fq (λ_=>(#[]:Array Value)))).get? b=some o:=λb o n q=>(qW _ _ (bt n)).trans q;refine ai (uq ?_);unfold DQ;have nO:tn 0 ((h'.push {cls:=.type "list",data:=.seq #[]}).update h'.objs.size (fq (λ_=>(#[]:Array Value)))):=T.keep _ _ _ st3 λb hb o q=>k4 b o (ne3 b hb) q;generalize hg4:(h'.push {cls:=.type "list",data:=.seq #[]}).update h'.objs.size (fq (λ_=>(#[]:Array Value)))=h4 at e4 k4 nO;have Ah:({s1 with heap:=h4}:Shared).TypeIs (.ref (s1.heap.objs.size+1)) "enumerate":=by obtain⟨_,_,_,_,q⟩:=hE 0 _ nO;exact⟨_,q,rfl⟩
  refine ai (oQ Ah ?_);have h1:NO (.ref h'.objs.size) (.ref (s1.heap.objs.size+1))=false:=by
   have:h'.objs.size≠s1.heap.objs.size+1:=by rw[hz];lia
   simp[NO,this]
  have h2:(Value.type "enumerate"==Value.type "list")=false:=by decide
  have h3:(Value.type "enumerate"==Value.type "tuple")=false:=by decide
  simp only[h1,h2,h3,Dd,iY,if_false];refine ai (s_ (s:={s1 with heap:=h4}) (hE 0 _ nO) ?_);refine ai (mV ?_);unfold Builtin.List.listLengthHint;refine ai (lN Ah FE.WO ?_);show wpAny _ X.A.in1.in1 (specialOf (Value.ref (s1.heap.objs.size+1)) (jE "__length_hint__") >>= _) _ _ _;refine ai (lN Ah FE.WQ ?_);refine aB ?_;show wpAny _ X.A.in1.in1 (rule "list.extend.makes-room" >>= λ_=>Builtin.List.listTouch (.ref h'.objs.size) >>= λ_ =>
   again (.builtin "list.extend.loop" ⟨[.ref h'.objs.size,.ref (s1.heap.objs.size+1),.none],[]⟩)) _ _ _
  refine ai (ke ?_);refine ai ?_;show wpAny _ X.A.in1.in1 (updateSeq h'.objs.size (·.push .none) >>= λ_=>updateSeq h'.objs.size (·.pop)) _ _ _;refine ai (ub e4 rfl ?_);have e5:=oR (fq (·.push Value.none)) e4 rfl;refine ub (hz:=by seq_fits) e5 rfl ?_;have e6:=oR (fq (·.pop)) e5 rfl;have k6:∀b o,b≠h'.objs.size->h4.get? b=some o->((h4.update h'.objs.size (fq (·.push Value.none))).update h'.objs.size (fq (·.pop))).get? b=some o :=
   λb o n q=>(qW _ _ (bt n)).trans ((qW _ _ (bt n)).trans q)
  have I6:Inv X pins σ (upd H1 h'.objs.size (.lst [])) {s1 with heap:=(h4.update h'.objs.size (fq (·.push Value.none))).update h'.objs.size (fq (·.pop))}:=by
   have:=I3.write (x:=h'.objs.size) (e:=h'.objs.size) (o:=.lst []) (t':=s1.toks) (h':=(h4.update h'.objs.size (fq (·.push Value.none))).update h'.objs.size (fq (·.pop))) (by rw[d8];trivial) (.inl rfl) (λb u n q=>k6 b u n (k4 b u n q)) ⟨_,e6⟩ ⟨bV _,[],_,.nil,e6⟩;rw[Oh]at this;exact this
  refine aB ⟨xN DP _,?_⟩;refine WN (X:=X) (pins:=pins) (σ:=σ) (D:=h'.objs.size) hc I.ok T (λi m Hx=>∃o,W i m [o] Hx) ?_ m0 0 _ _ ⟨none,w0⟩ I6 f3 (T.keep _ _ _ nO λb hb o q=>k6 b o (ne3 b hb) q);rintro i m H2 ⟨o,w⟩;rcases turn i m [o] H2 w with⟨stop,qe⟩|⟨go,N,hN,step⟩
  ·exact .inl ⟨stop,λs' I'=>⟨rfl,.ref _,H2,I',rfl,qe⟩⟩
  ·refine .inr ⟨go,λv Hy hy=>?_⟩;have:=ht _ _ _ (hg v o Hy _ (step v Hy hy));rw[if_pos rfl]at this;obtain⟨ys,h1,h2,h3⟩:=he v Hy _ this;obtain⟨m',hm,w'⟩:=hN _ _ h3;exact⟨ys,h1,h2,m',hm,_,w'⟩
 have Iw:s1.heap.objs.size+1≠s1.heap.objs.size:=by lia
 rcases q with⟨⟨xs,hx⟩,q⟩|⟨⟨xs,hx⟩,q⟩
 ·obtain⟨its,rv,pt,_⟩:=I1.list hx;exact Il pt.isList λh' hen hi hz k=>main _ _ h' (Ip l _ _ Iw) ⟨hen,hi⟩ (λi h z=>z.1) hz k q
 ·obtain⟨its,rv,pt,_⟩:=I1.tuple hx;exact Ik (show s1.heap.IsTuple l its.toArray from pt) λh' hen hi hz k=>main _ _ h' (Iq l _ _ Iw) ⟨hen,hi⟩ (λi h z=>z.1) hz k q
end
end EE
namespace E3
open PySem PySem.Spec PyProof.Rows L2 EE
def fF(ds:List D):List D:=ds.zipIdx.map λp=>.tup [.int (p.2:Int),p.1]
theorem wj{ds:List D}{i:Nat}:(fF ds)[i]?=(ds[i]?).map λd=>D.tup [.int (i:Int),d]:=by
 unfold fF;rw[a7,NP];cases ds[i]?<;>simp
theorem tm{ds:List D}:(fF ds).length=ds.length:=by simp[fF]
def wm(R:RI)(xs:List D)(S:af):Prop:=∃x ds,xs=[x]/\((∃a,x=.ref a/\S a=some (.lst ds)/\R (fF ds) (λS=>S a=some (.lst ds)) S)∨(x=.tup ds/\R (fF ds) (λ_=>True) S))
def wo(ta:b6):fv:=λσ S R=>ta σ S λxs S1=>wm R xs S1
theorem Iy{K:aq}{Z:Zt}{sq:Hp->List V->Prop}{xs:List V}{d:D}{x:V}{i:Nat}{S:af}{H:Hp}(l:Rl K Z S H)(hs:sq H xs)(hx:xs[i]?=some x)(rx:Rp K H d x) :
 (j5 sq).go i H/\∀v H',(j5 sq).mi i H v H'->Kp Z H H'/\Rp K H' (.tup [.int (i:Int),d]) v/\(∀S',Rl K Z S' H->Rl K Z S' H')/\∀b,H b≠none->H' b=H b:=show _ by
 refine⟨⟨xs,hs,(b4.mp hx).1⟩,?_⟩;rintro v H' ⟨T,y,rfl,hT,rfl,fy⟩;have ey:y=x:=by
  have:=fy _ hs;rw[hx]at this;exact(dg this).symm
 subst ey;obtain⟨_,hz⟩:=l.fresh hT;have kn:Kp Z H (upd H T (.tup [.int i,y])):=Kp.new hT hz;exact⟨kn,.tup d8 (.cons (.int _) (.cons (rx.mono kn) .nil)),λS' l'=>l'.lay hT,λb hb=>bg λe=>hb (e▸hT)⟩
theorem WT{K:aq}{Z:Zt}{a:Addr}{xs:List V}{ds:List D}{H1:Hp}(h1:bq K H1 a xs)(r1:aX K H1 ds xs):Wk K Z (j5 λH xs=>bq K H a xs) (fF ds) (λ_=>True) H1:=show _ by
 constructor
 ·intro i d S H k l _ hd;rw[wj]at hd;obtain⟨e,he,rfl⟩:=dz.mp hd;obtain⟨x,hx,rx⟩:=r1.at he;exact Iy l (k.gZ h1) hx (rx.mono k)
 ·intro S H k l _;refine⟨xs,k.gZ h1,?_⟩;rw[tm,r1.len];exact aT _
theorem WU{K:aq}{Z:Zt}{a:Addr}{ds:List D}{H1:Hp}:Wk K Z (j5 λH xs=>bu K H a xs) (fF ds) (λS=>S a=some (.lst ds)) H1:=show _ by
 constructor
 ·intro i d S H k l al hd;rw[wj]at hd;obtain⟨e,he,rfl⟩:=dz.mp hd;obtain⟨ws,h3,h4⟩:=l.obj a _ al;obtain⟨x,hx,rx⟩:=h4.at he;exact Iy l (bu.of h3) hx rx
 ·intro S H k l al;obtain⟨ws,h3,h4⟩:=l.obj a _ al;refine⟨ws,bu.of h3,?_⟩;rw[tm,h4.len];exact aT _
theorem Iz{K:aq}{Z:Zt}{ta:b6}{τ:L2.St}{H:Hp}{R:It->Hp->Prop}(h:lI K Z (wo ta) τ H R):Ag K (lA K Z ta) τ H R:=show _ by
 obtain⟨σ,S,R3,hs,hr,ht,hc⟩:=h;refine⟨σ,S,_,hs,hr,ht,λxs S1 zg H1 k1 r1 l1 q1=>?_⟩;obtain⟨x,ds,rfl,q⟩:=q1;cases r1 with
 |cons r1 rr =>
  cases rr;rcases q with⟨a,rfl,hS,q⟩|⟨rfl,q⟩
  ·cases r1;obtain⟨vs,h1,h2⟩:=l1.obj a _ hS;exact⟨a,rfl,.inl ⟨⟨vs,bu.of h1⟩,hc _ _ S1 _ H1 k1 l1 q WU⟩⟩
  ·cases r1 with
   |tup h1 h2=>exact⟨_,rfl,.inr ⟨⟨_,h1⟩,hc _ _ S1 _ H1 k1 l1 q (WT h1 h2)⟩⟩
section
variable{X:Cx}{W3:bK}{tg:Expr}{pos pos2 p p2:Pos}{a:Expr}{ta:b6}{σ:aJ}{S:af}{R:RI}{al:b6}
theorem IA(hg:Gl X "enumerate")(hm:X.mg "enumerate"=none)(ha:eK X W3 [a] ta)(hs:starEach [a] X.env=[(false,eval a X.env)]:=by rfl):gF X W3 tg (.Call (.Name "enumerate" p) [a] [] pos) (wo ta) :=
 λZ=>PI.imp (WM hg hm (ha Z) hs) λ_ _ _ h=>Iz h
theorem WV(h:al σ S λxs S1=>wm R xs S1):wo al σ S R:=h
theorem IB{b:Addr}{ds:List D}(hS:S b=some (.lst ds))(q:R (fF ds) (λS=>S b=some (.lst ds)) S):wm R [.ref b] S:=⟨_,ds,rfl,.inl ⟨b,rfl,hS,q⟩⟩
theorem WW{ds:List D}(q:R (fF ds) (λ_=>True) S):wm R [.tup ds] S:=⟨_,ds,rfl,.inr ⟨rfl,q⟩⟩
theorem WX(gl:Gl X "list")(ml:X.mg "list"=none)(ge:Gl X "enumerate")(me:X.mg "enumerate"=none)(hc:X.calm=true)(ha:eK X W3 [a] ta)
 (hs:starEach [.Call (.Name "enumerate" p2) [a] [] pos2] X.env=[(false,eval (.Call (.Name "enumerate" p2) [a] [] pos2) X.env)]:=by rfl) (hs2:starEach [a] X.env=[(false,eval a X.env)]:=by rfl) :
 aK X W3 (.Call (.Name "list" p) [.Call (.Name "enumerate" p2) [a] [] pos2] [] pos) (mE (wo ta) mD mC (v3 0) []):=λZ=>by
 refine PE.imp (WR (g:=zO X.K (kN 0)) (tt:=sV X.K mC) (te:=zi X.K (v3 0)) hc gl ml ge me (ha Z) ?_ ?_ ?_ hs hs2) λτ H Q h=>?_
 ·rintro v o H Q ⟨Z',d,σ,S,Q3,rd,rs,rl,t,c⟩;cases rs with
  |cons r1 r2 =>
   cases r2;exact c _ S [some v] H (Kp.refl _ _) (.cons (λd' e=>by cases e;exact⟨v,rfl,rd⟩) .nil) rl t
 ·rintro τ H Q ⟨Z',σ,S,Q3,rs,rl,t,c⟩;exact c true S H (Kp.refl _ _) rl t
 ·rintro v H Q ⟨Z',σ,S,Q3,rs,rl,⟨d,hd,q⟩,c⟩;obtain⟨v',h1,h2⟩:=rs.at hd;have e:v'=v:=show _ by simpa using h1.symm
  subst e;exact c d S v' H (Kp.refl _ _) h2 rl q
 ·exact Iz (zR zQ h)
theorem WY{n:Nat}{xs:List D}{t:jU}{Q:aJ->af->Prop}(hn:xs.length=n)(h:t xs σ S Q):vj n t (.tup xs) σ S Q:=⟨xs,rfl,hn,h⟩
theorem WZ{v:D}{r:List D}{t:eQ}{u:jU}{Q:aJ->af->Prop}(h:t v σ S λσ' S'=>u r σ' S' Q):pA t u (v::r) σ S Q:=⟨v,r,rfl,h⟩
theorem W0{Q:aJ->af->Prop}(h:Q σ S):vi [] σ S Q:=⟨rfl,h⟩
end
end E3
namespace EE
open PySem PySem.Spec PyProof.Rows L2
section
variable{X:Cx}
theorem IC{n:Nat}(hu:X.A.units+(n+1)<cLine):cu X (compareOp .In) (λx y H Q=>∃d p xs ds,DR X.K H d x/\y=.ref p/\bu X.K H p xs/\dS X.K H ds xs/\(∀e∈ds,dF e<=n)/\Q (.bl (ds.any λe=>bf e d)) H):=show _ by
 intro pins s σ H x y v u Q I rx ry h;obtain⟨d,p,xs,ds,hd,rfl,hq,hds,hn,q⟩:=h;cases ry;obtain⟨its,r,pl,hz⟩:=I.list hq;have hl1:=r.length;have hl2:=hds.len;have hl3:ds.length=its.length:=by lia
 have each:∀(i:Nat) (w:Value),its[i]?=some w->∃e z,ds[i]?=some e/\DR X.K H e z/\RelV z w/\De X.A.in1 s w v (bf e d):=λi w hw=>by
  have hi:i<xs.length:=by have:=(b4.mp hw).1;lia
  obtain⟨w',hw',iC⟩:=r.get (aU hi);rw[hw]at hw';cases hw';obtain⟨e,he,hde⟩:=hds.at (aU hi);exact⟨e,xs[i],he,hde,iC,(Fh I n X.A.in1 e d xs[i] x w v (hn e (c8 he)) (by show X.A.units+1+n<cLine;lia) hde hd iC rx).2⟩
 classical
 refine M6 (λw=>decide (∃(i:Nat) (e:Dt),its[i]?=some w/\ds[i]?=some e/\bf e d=true)) pl.isList (λw hw=>?_) ⟨.bl _,H,I,rfl,?_⟩
 ·obtain⟨i,hi,ew⟩:=jI (show w∈its by simpa using hw);have ID:its[i]?=some w:=by rw[aU hi,ew]
  obtain⟨e,z,he,hde,rz,W1⟩:=each i w ID;have ef:decide (∃(i:Nat) (e:Dt),its[i]?=some w/\ds[i]?=some e/\bf e d=true)=bf e d:=by
   rw[iX,decide_eq_true_iff];refine⟨λ⟨j,e',h1,h2,h3⟩=>?_,λh3=>⟨i,e,ID,he,h3⟩⟩;obtain⟨e2,z2,he2,W2,W4,_⟩:=each j w h1;rw[h2]at he2;cases he2;have ez:z2=z:=W4.inj rz;subst ez;rw[DR.inj I hde W2];exact h3
  rw[ef];exact W1
 ·have eb:(its.toArray.any λw=>decide (∃(i:Nat) (e:Dt),its[i]?=some w/\ds[i]?=some e/\bf e d=true))=ds.any λe=>bf e d:=by
   rw[iX];simp only[List.any_toArray,q_,decide_eq_true_iff];constructor
   ·rintro⟨w,_,i,e,_,h2,h3⟩;exact⟨e,c8 h2,h3⟩
   ·rintro⟨e,he,h3⟩;obtain⟨i,hi,rfl⟩:=jI he;exact⟨its[i],oX _,i,_,aU (by lia),aU hi,h3⟩
  rw[eb];exact q
end
end EE
namespace E3
open PySem PySem.Spec PyProof.Rows L2 EE
section
variable{P:Program}{w:World}{K:PySem.W.Frag}{mg:Str->Option Value}{base:Heap}{x:Str}{st:Stmt}{N ps:List Str}{k:Nat}
def pT(A:List D->af->(D->af->Prop)->(Addr->Prop)->Prop):aL:=λds S Q W=>A ds S Q λC=>∀a,W C a S
theorem _root_.EE.az.pT{A:List D->af->(D->af->Prop)->(Addr->Prop)->Prop}(h:az K mg x st ps)(S:a8 N ps (ao st))(len:∀ds S q qx,A ds S q qx->ds.length=ps.length)
 (hbody:∀(f:Addr) (cdv:Value) (Ar:Around) (outer:List Env) (s:Shared) (H:Hp) (E:XK) (ds:List D) (S:af) (q:D->af->Prop) (qx:Addr->Prop),bP k (Ar.deeper (envOfC x (ao st) s.heap.objs.size f cdv))->A ds S q qx ->
  ∃t,dc (cX (cc P w) P w K mg base N x (ao st) f cdv Ar outer s H E) (λ_ C _ S'=>Sub S S'/\qx C) (aV st) t /\
   t {nx:=λ_ S'=>∃T,Sub T S'/\q .non T,rt:=λd S'=>∃T,Sub T S'/\q d T} (dY N ds) S):av P w K mg base (k+1) x ps (pT A):=show _ by
 have C:av P w K mg base (k+1) x ps (λds S Q E=>∃q qx,A ds S q qx/\(∀d S',(∃T,Sub T S'/\q d T)->Q d S')/\∀C a S',Sub S S'/\qx C->E C a S'):=by
  refine h.vF S (λvs H Q E cR=>by obtain⟨q,qx,z,_⟩:=cR;exact len _ _ _ _ z) λf cdv Ar outer s H E ds S3 Q E3 hr ⟨q,qx,z,hq,hx⟩=>?_;obtain⟨t,h1,h2⟩:=hbody f cdv Ar outer s H E ds S3 _ _ hr z;exact⟨t,λd S'=>∃T,Sub T S'/\q d T,λC _ S'=>Sub S3 S'/\qx C,h1,h2,hq,hx⟩
 exact C.zD.imp λds S Q E z=>⟨_,_,z,λd S1 eY=>by obtain⟨T,hs,hq⟩:=eY;exact⟨T,hs,hq⟩,λC a S1 hx=>⟨S,hx.1,hx.2 a⟩⟩
end
section
variable{K:PySem.W.Frag}{S:af}{Q:K3}
def wq(n:Nat):R3:=λx y S Q=>∃d a xs ds,Dn S x d/\y=.ref a/\S a=some (.lst xs)/\eS S xs ds/\(∀e∈ds,dF e<=n)/\Q (.bl (ds.any λe=>bf e d)) S
theorem IE{n:Nat}:cS K (wq n) (λx y H Q=>∃d p xs ds,DR K H d x/\y=.ref p/\bu K H p xs/\dS K H ds xs/\(∀e∈ds,dF e<=n)/\Q (.bl (ds.any λe=>bf e d)) H):=show _ by
 intro Z x y S Q3 v w H Q rx ry l h c;obtain⟨d,a,xs,ds,h1,rfl,h2,h3,hn,q⟩:=h;cases ry;obtain⟨vs,h4,h5⟩:=l.obj a _ h2;exact⟨d,a,vs,ds,h1.down l rx,rfl,bu.of h4,h3.down l h5,hn,c _ S _ H (Kp.refl _ _) (.bl _) l q⟩
end
abbrev Gr:=Str×Str×bh
abbrev fG(g h:Gr):Bool:=decide (g.2.1=h.1)
def cz(g h:Gr):Gr:=(g.1,h.2.1,dZ g.2.2 h.2.2)
def pU(w:List Int):D:=.tup (w.map D.int)
def dE(p:Gr×List Int):D:=.tup [bj p.1,pU p.2]
def kY(p:Int×Gr):D:=.tup [.int p.1,bj p.2]
theorem wt(g:Gr):(bj g).pure=true:=V7 ..
theorem IF(g:Gr):dF (bj g).dt<=10:=V8 ..
theorem IG:∀r:List Int,D.dX (r.map D.int)=r.map Dt.int
 |[]=>rfl
 |x::r=>by rw[bL,bL,D.dX,IG r];rfl
theorem IH:∀A:bh,D.dX (A.map cF)=A.map λr=>Dt.tup (r.map Dt.int)
 |[]=>rfl
 |r::A=>by rw[bL,bL,D.dX,IH A];simp only[cF,D.dt,IG]
theorem Ai(g:Gr):(bj g).dt=.tup [.str g.1,.str g.2.1,.tup (g.2.2.map λr=>Dt.tup (r.map Dt.int))]:=by
 simp only[bj,fS,iI,D.dt,D.dX,IH]
theorem II:∀r:List Int,gc (r.map Dt.int)=true
 |[]=>rfl
 |x::r=>by simp only[bL,gc,f_,II r,iW]
theorem IJ:∀A:bh,gc (A.map λr=>Dt.tup (r.map Dt.int))=true
 |[]=>rfl
 |r::A=>by simp only[bL,gc,f_,II r,IJ A,iW]
theorem IK(g:Gr):f_ (bj g).dt=true:=by
 rw[Ai];simp only[f_,gc,IJ,iW]
theorem IL:∀{r r':List Int},r.map Dt.int=r'.map Dt.int->r=r'
 |[],[],_=>rfl
 |[],_::_,h=>by cases h
 |_::_,[],h=>by cases h
 |x::r,y::r',h=>by
  simp only[bL,rh,Dt.int.injEq]at h;rw[h.1,IL h.2]
theorem IM:∀{A B:bh},(A.map λr=>Dt.tup (r.map Dt.int))=(B.map λr=>Dt.tup (r.map Dt.int))->A=B
 |[],[],_=>rfl
 |[],_::_,h=>by cases h
 |_::_,[],h=>by cases h
 |r::A,r'::B,h=>by
  simp only[bL,rh,Dt.tup.injEq]at h;rw[IL h.1,IM h.2]
theorem W5{g h:Gr}(e:(bj g).dt=(bj h).dt):g=h:=by
 rw[Ai,Ai]at e;simp only[Dt.tup.injEq,rh,Dt.str.injEq,and_true]at e;obtain⟨g1,g2,g3⟩:=g;obtain⟨h1,h2,h3⟩:=h;obtain⟨e1,e2,e3⟩:=e;dsimp only at e1 e2 e3;rw[e1,e2,IM e3]
theorem IP(g h:Gr):bf (bj g).dt (bj h).dt=decide (g=h):=by
 by_cases e:g=h
 ·rw[e,sg];simp
 ·rw[decide_eq_false e];cases c:bf (bj g).dt (bj h).dt with
  |false=>rfl
  |true=>exact absurd (W5 (yQ (IK g) (IK h) c)) e
section
variable{S:af}{Q:K3}
theorem W6{a:Addr}{gs:List Gr}{g:Gr}{n:Nat}(hn:10<=n)(hS:S a=some (.lst (gs.map bj)))(q:Q (.bl (decide (g∈gs))) S):wq n (bj g) (.ref a) S Q:=show _ by
 refine⟨(bj g).dt,a,gs.map bj,D.dX (gs.map bj),Dn.of (wt g),rfl,hS,eS.of (D.pC.mpr λd hd=>?_),λe he=>?_,?_⟩
 ·obtain⟨h,_,rfl⟩:=bO.mp hd;exact wt h
 ·rw[D.mv]at he;obtain⟨d,hd,rfl⟩:=bO.mp he;obtain⟨h,_,rfl⟩:=bO.mp hd;exact cC (IF h) hn
 ·have e:((D.dX (gs.map bj)).any λe=>bf e (bj g).dt)=decide (g∈gs):=by
   rw[D.mv,fY,NQ,iX,q_,decide_eq_true_iff];constructor
   ·rintro⟨h,hh,e⟩;have e2:bf (bj h).dt (bj g).dt=true:=e;rw[IP,decide_eq_true_iff]at e2;rw[<-e2];exact hh
   ·intro h;exact⟨g,h,by show bf (bj g).dt (bj g).dt=true;exact sg _⟩
  rw[e];exact q
theorem W7{g h:Gr}{n:Nat}(hn:10<=n)(q:Q (.bl (decide (g=h))) S):zl n (bj g) (bj h) S Q :=
 ⟨_,_,Dn.of (wt g),Dn.of (wt h),cC (IF g) hn,by rw[IP];exact q⟩
end
structure Gd(ar:Str->Option Nat)(g:Gr):Prop where
 ex:∃m n,ar g.1=some m/\ar g.2.1=some n/\1<=m/\1<=n/\m<=4/\n<=4/\Mt m n g.2.2
theorem Gd.cmp{ar:Str->Option Nat}{g h:Gr}(hg:Gd ar g)(hh:Gd ar h)(hf:g.2.1=h.1):Gd ar (cz g h):=by
 obtain⟨m,n,e1,e2,m1,n1,m4,n4,hM⟩:=hg.ex;obtain⟨m',n',e1',e2',m1',IQ,m4',IS,hM'⟩:=hh.ex;rw[hf,e1']at e2;cases e2;exact⟨m,n',e1,e2',m1,IQ,m4,IS,hM.cmp hM' (by lia)⟩
def j6(A:bh):Bool:=(aZ A.length).any λi=>decide ((A.getD i []).getD i 0=2)
def gk(g:Gr):Bool:=fG g g&&(decide (cz g g=g)&&!j6 g.2.2)
abbrev iL(nb:List (Int×Gr)):Option (CL.Fd Gr):=CL.kX fG cz nb
def mH(F:CL.Fd Gr):Option (List Int):=(F.find? λp=>gk p.1).map (·.2)
def fc(gs:List Gr):List (Int×Gr):=gs.zipIdx.map λp=>((p.2:Int),p.1)
theorem W8(gs:List Gr):fF (gs.map bj)=(fc gs).map kY:=by
 unfold fF fc;apply l7;intro i;simp only[a7,NP];cases gs[i]?<;>simp[kY]
theorem IT{gs:List Gr}{p:Int×Gr}(h:p∈fc gs):p.2∈gs:=by
 unfold fc at h;obtain⟨q,hq,rfl⟩:=bO.mp h;exact List.fst_mem_of_mem_zipIdx hq
theorem W9(gs:List Gr):(fc gs).length=gs.length:=by simp[fc]
theorem Aj{gs:List Gr}{g:Gr}(h:g∈gs):∃p∈fc gs,p.2=g:=by
 obtain⟨i,hi,rfl⟩:=jI h;refine⟨((i:Int),gs[i]),?_,rfl⟩;unfold fc;exact bO.mpr ⟨(gs[i],i),NR.mpr (aU hi),rfl⟩
end E3
namespace E3
abbrev cD(counts:List Nat):List D:=counts.map λc:Nat=>D.int (c:Int)
end E3
namespace E3
open PySem PySem.Spec PyProof.Rows L2 EE
def W_(Nm:List Str)(g:Gr):Prop:=g.1∈Nm/\g.2.1∈Nm
def tb(xs ys:List Str)(x:Str):Str:=ys.getD (xs.idxOf x) ""
theorem IU:∀{xs:List Str} {ns:List Nat} {y:Str} {n:Nat},cM xs ns y=some n->y∈xs
 |[],_,_,_,h=>by simp[cM]at h
 |_::_,[],_,_,h=>by simp[cM]at h
 |x::xs,m::ns,y,n,h=>by
  rw[cM]at h
  split at h
  ·rename_i e;rw[e];exact cL
  ·exact cO _ (IU h)
end E3
namespace CL
end CL
namespace E3
open PySem PySem.Spec PyProof.Rows L2 EE
def gm(f:Str)(d:D):List (Str×D)->List (Str×D)
 |[]=>[(f,d)]
 |(k,x)::r=>if k=f then(k,d)::r else(k,x)::gm f d r
abbrev FP(K:aq)(H:Hp)(fs:List (Str×D))(ws:List (Str×V)):Prop:=Paired (λ(p:Str×D) (q:Str×V)=>p.1=q.1/\Rp K H p.2 q.2) fs ws
section
variable{K:PySem.W.Frag}{H:Hp}
theorem FP.look{f:Str}{d:D}:∀{fs:List (Str×D)} {ws:List (Str×V)},FP K H fs ws->fs.lookup f=some d->∃v,ws.lookup f=some v/\Rp K H d v
 |_,_,.nil,e=>by simp at e
 |(k,x)::fs,(k',y)::ws,.cons ⟨h1,h2⟩ t,e=>by
  have h1:k=k':=h1;subst h1;by_cases hb:(f==k)=true
  ·simp only[iq,hb]at e ⊢;cases e;exact⟨_,rfl,h2⟩
  ·have hb:(f==k)=false:=show _ by simpa using hb
   simp only[iq,hb]at e ⊢;exact FP.look t e
theorem FP.none{f:Str}:∀{fs:List (Str×D)} {ws:List (Str×V)},FP K H fs ws->fs.lookup f=none->ws.lookup f=none
 |_,_,.nil,_=>rfl
 |(k,x)::fs,(k',y)::ws,.cons ⟨h1,h2⟩ t,e=>by
  have h1:k=k':=h1;subst h1;by_cases hb:(f==k)=true
  ·simp only[iq,hb]at e;cases e
  ·have hb:(f==k)=false:=show _ by simpa using hb
   simp only[iq,hb]at e ⊢;exact FP.none t e
theorem FP.put{f:Str}{d:D}{v:V}(r:Rp K H d v):∀{fs:List (Str×D)} {ws:List (Str×V)},FP K H fs ws->FP K H (gm f d fs) (eG f v ws)
 |_,_,.nil=>.cons ⟨rfl,r⟩ .nil
 |(k,x)::fs,(k',y)::ws,.cons ⟨h1,h2⟩ t=>by
  have h1:k=k':=h1;subst h1;rw[show eG f v ((k,y)::ws)=(if k=f then(k,v)::ws else(k,y)::eG f v ws) from rfl,gm];by_cases hk:k=f
  ·rw[if_pos hk,if_pos hk];exact .cons ⟨rfl,r⟩ t
  ·rw[if_neg hk,if_neg hk];exact .cons ⟨rfl,h2⟩ (FP.put r t)
theorem FP.len:∀{fs:List (Str×D)} {ws:List (Str×V)},FP K H fs ws->fs.length=ws.length
 |_,_,.nil=>rfl
 |_,_,.cons _ t=>by simp[FP.len t]
theorem FP.mono{Z:Zt}{H':Hp}{fs:List (Str×D)}{ws:List (Str×V)}(k:Kp Z H H')(h:FP K H fs ws):FP K H' fs ws:=Paired.jN h λ_ _ z=>⟨z.1,z.2.mono k⟩
end
def j7(C:Addr)(f:Str):D->af->K3->Prop:=λx S Q=>∃a fs d,x=.ref a/\S a=some (.ins C fs)/\fs.lookup f=some d/\Q d S
def IV(C:Addr)(t:aN)(f:Str):aN:=λσ S Q=>t σ S λx S1=>j7 C f x S1 Q
def pV(C:Addr)(f:Str):D->D->af->(af->Prop)->Prop:=λx y S q=>∃a fs,x=.ref a/\S a=some (.ins C fs)/\fs.length<1000/\q (up S a (.ins C (gm f y fs)))
def IW(C:Addr)(ta tv:aN)(f:Str):b7:=λD3 σ S=>tv σ S λy S1=>ta σ S1 λx S2=>pV C f x y S2 (D3.nx σ)
def tq(C:Addr)(m:Str)(k:Addr->Prop)(x:D)(S:af):Prop:=∃a fs,x=.ref a/\S a=some (.ins C fs)/\fs.lookup m=none/\k a
def IX(C:Addr)(m:Str)(sp:aL)(W3:bK)(ta:aN)(t:b6):aN:=λσ S Q=>ta σ S λx S1=>tq C m (λa=>t σ S1 λds S2=>sp (.ref a::ds) S2 Q (W3 σ)) x S1
def IY(C:Addr)(m:Str)(sp:aL)(W3:bK)(ta:aN):aN:=λσ S Q=>ta σ S λx S1=>tq C m (λa=>sp [.ref a] S1 Q (W3 σ)) x S1
def IZ(C:Addr)(sp:aL)(W3:bK)(t:b6):aN:=λσ S Q=>t σ S λds S1=>∀a,S1 a=none->sp (.ref a::ds) (up S1 a (.ins C [])) (λd S2=>d=.non/\Q (.ref a) S2) (W3 σ)
section
variable{X:Cx}{W3:bK}{o e value:Expr}{f:Str}{pos pos':Pos}{ta tv t:aN}{C:Addr}
theorem cU(c:gA X.K C)(n:f6 X.K C f)(he:aK X W3 e t)(hb:attributeBase e f X.env (eval e X.env)=eval e X.env):aK X W3 (.Attribute e f pos) (IV C t f):=show _ by
 refine λZ=>PE.imp (Qh (he Z) hb) λτ H Q ⟨σ,S,Q3,hs,hr,ht,hc⟩=>?_;refine⟨σ,S,_,hs,hr,ht,λd S1 v H1 k1 r1 l1 ⟨a,fs,d',e1,e2,e3,q⟩=>?_⟩;subst e1;cases r1;obtain⟨dx,ws,h1,h2⟩:=l1.obj a _ e2;obtain⟨v',h3,h4⟩:=FP.look h2 e3;exact⟨a,C,dx,ws,v',rfl,h1,c,n,h3,hc d' S1 v' H1 k1 h4 l1 q⟩
theorem jq(c:gA X.K C)(n:f6 X.K C f)(ha:aK X W3 o ta)(hv:aK X W3 value tv)(hs:swapsWith value (some (.Attribute o f pos')) pos.line X.env=pure false):eM X W3 (.Assign [.Attribute o f pos'] value pos) (IW C ta tv f):=show _ by
 refine λZ=>PS.imp (Qi (ha Z) (hv Z) hs) λD τ H ⟨D3,σ,S,hs,hr,ht,hc⟩=>?_;refine⟨σ,S,_,hs,hr,ht,λy S1 vy H1 k1 ry l1 q1=>⟨σ,S1,_,hs.mono k1,l1,q1,λx S2 vx H2 k2 rx l2 ⟨a,fs,e1,e2,hl,q⟩=>?_⟩⟩;subst e1;cases rx;obtain⟨dx,ws,h1,h2⟩:=l2.obj a _ e2;have k3:Kp Z.z H2 (upd H2 a (.ins C dx (eG f vy ws))):=Kp.at l2 e2;refine⟨a,C,dx,ws,rfl,h1,c,n,by rw[<-FP.len h2];exact hl,hc.nx σ _ τ _ ((k1.trans k2).trans k3) (hs.mono ((k1.trans k2).trans k3)) (l2.put (o:=.ins C (gm f y fs)) k3 (l2.pk e2) ⟨dx,_,d8,?_⟩) q⟩;exact FP.put ((ry.mono k2).mono k3) (FP.mono k3 h2)
end
structure eB(K:aq)(C:Addr)(m q:Str)(st:Stmt)(ps:List Str):Prop where
 ex:∃f fd,ny K m q st f fd/\Binds K fd ps []/\Meth K C m f
structure df(P:Program)(w:World)(K:aq)(mg:Str->Option Value)(base:Heap)(k:Nat)(C:Addr)(m:Str)(ps:List Str)(sp:aL):Prop where
 ex:∃f fd,dn P w K mg base (cc P w) k f fd ps (jk K sp)/\Binds K fd ps []/\Meth K C m f
section
variable{P:Program}{w:World}{K:PySem.W.Frag}{mg:Str->Option Value}{base:Heap}{m q:Str}{C:Addr}{st:Stmt}{N ps:List Str}{k:Nat}
theorem df.mono{j k:Nat}{sp:aL}(M:df P w K mg base j C m ps sp)(h:j<=k):df P w K mg base k C m ps sp:=by
 obtain⟨f,fd,F,r⟩:=M.ex;exact⟨f,fd,F.mono h,r⟩
theorem kZ{f:Addr}{oc:Value}{od an:Option Addr}{osl:Array (Option Value)}{kV doc pm cdv ct:Value}
 (a:cP K (.ref C) m=some (some (.ref f))) (i:ip K (.ref f)=true) (l:K.lookup f=some ⟨oc,od,.func (ba m q (bc st) (aV st) (ao st) .none kV doc pm an cdv ct),osl⟩)
 (c:bB K cdv q=true) (k:a_ K (.ref f)=true)
 (hb:∀(kV doc pm:Value) (an:Option Addr) (cdv ct:Value) (us:List Value),us.length=ps.length->bindArgs (ba m q (bc st) (aV st) (ao st) .none kV doc pm an cdv ct) ⟨us,[]⟩=pure (ps.zip us)):eB K C m q st ps:=show _ by
 have F:=yI (st:=st) l c k;exact⟨f,_,F,F.binds hb,a,i,k⟩
theorem eB.k7{sp:aL}(h:eB K C m q st ps)(S:a8 N ps (ao st))(len:∀vs H Q E,sp vs H Q E->vs.length=ps.length)
 (hbody:∀(f:Addr) (cdv:Value) (A:Around) (outer:List Env) (s:Shared) (H:Hp) (E:XK) (ds:List D) (S:af) (Q:K3) (E3:X3),bP k (A.deeper (envOfC q (ao st) s.heap.objs.size f cdv))->sp ds S Q E3 ->
  ∃t,dc (cX (cc P w) P w K mg base N q (ao st) f cdv A outer s H E).gz dA (aV st) t/\t {nx:=λ_ S'=>Q .non S',rt:=Q} (dY N ds) S):df P w K mg base (k+1) C m ps sp:=show _ by
 obtain⟨f,fd,F,b,mt⟩:=h.ex;obtain⟨oc,od,kV,doc,pm,an,cdv,ct,osl,rfl,lk,hcd⟩:=F.ex;refine⟨f,_,uT lk hcd S (λvs H Q E cR=>by obtain⟨Z,ds,S,Q3,E3,h1,_,h3,_,_⟩:=cR;rw[<-h1.len];exact len _ _ _ _ h3) λA outer s H vs Q E hr ⟨Z,ds,S3,Q3,E3,h1,h2,h3,h4,_⟩=>?_,b,mt⟩;obtain⟨t,ht,q⟩:=hbody f cdv A outer s H E ds S3 Q3 E3 hr h3;refine⟨_,(ht (zq Z H)).gz,_,dY N ds,S3,?_,h2.into,q,⟨?_,?_,?_,?_⟩⟩
 ·unfold dY L2.start;rw[h1.len];exact nA (SR.sk h1) (SR.nones _)
 ·intro σ S' τ H' kk _ l q';exact h4 .non S' .non H' (kk.eR λ_ z=>z) .non (l.out h2 kk) q'
 ·exact λ_ _ _ _ _ _ _ z=>z
 ·exact λ_ _ _ _ _ _ _ z=>z
 ·exact λd S' v H' kk r l q'=>h4 d S' v H' (kk.eR λ_ z=>z) r (l.out h2 kk) q'
end
section
variable{X:Cx}{CX:f7}{k:Nat}{f C:Addr}{fd:FuncData}{ps:List Str}{sp:Sp}{E:L2.St->XK}{x m:Str}{p pos apos:Pos}{e o:Expr}{es:List Expr}{ta:TE}{t:TA}
theorem I_{pins:List (Addr×Obj)}{σ:L2.St}{H:Hp}{s:Shared}{Q:VK}{us:List Value}{vs:List V}(F:dn X.prog X.w X.K X.mg X.base CX k f fd ps sp)(hr:bP k X.A)(hb:Binds X.K fd ps [])(hx:∀τ,nB CX X (E τ) τ)
 (I:Inv X pins σ H s) (r:Vals vs us) (h:sp vs H Q (E σ)):wpAny (model X.prog X.w) X.A (call (.ref f) us) (EP X pins σ Q) X.xe s:=show _ by
 have hl:us.length=ps.length:=by rw[<-r.length];exact F.len _ _ _ _ h
 have hb':=hb s us I.fZ (by rw[gP];exact hl);rw[gP]at hb';refine Dv (ua (F.run X.A X.stack s H ⟨us,[]⟩ us vs Q (E σ) hr I.env0 hb' r h) λr s' hq=>?_);cases r with
 |error e=>exact hx σ pins H s e s' I hq
 |ok fl =>
  cases fl with
  |ret u=>exact I.after hq
  |next=>exact eX hq
  |brk=>exact eX hq
  |cont=>exact eX hq
theorem Xa{pl:Sem Bool}(he:PE X o ta)(c:gA X.K C)(hm:Meth X.K C m f)(F:dn X.prog X.w X.K X.mg X.base CX k f fd ps sp)(hr:bP k X.A)(hb:Binds X.K fd ps [])(hx:∀τ,nB CX X (E τ) τ)(ha:PA X (e::es) t)
 (hst:starEach (e::es) X.env=(false,eval e X.env)::starEach es X.env) (hpl:(backTo pos (starEach es X.env)).any (·.1)=false)
 (ht:eval (.Call (.Attribute o m apos) (e::es) [] pos) X.env=(do
  let ov <-eval o X.env
  standAt apos.atName
  let(f,first) <-holding [ov] (getMethod ov m pl)
  callWith pos f first (backTo pos (starEach (e::es) X.env)) (backToKw pos (keywordEach [] X.env)))) :
 PE X (.Call (.Attribute o m apos) (e::es) [] pos) (λτ H Q=>ta τ H λx H1=>∃a dx fs,x=.ref a/\H1 a=some (.ins C dx fs)/\fs.lookup m=none/\t τ H1 λvs H2=>sp (.ref a::vs) H2 Q (E τ)):=show _ by
 intro pins s σ H Q I h;refine NS (pl:=pl) (aF (he pins s σ H _ I h) λu s1 ⟨x,H1,I1,rx,a,dx,fs,ex,ea,l,q⟩=>?_) ht;subst ex;obtain rfl:u=Value.ref a:=rx;refine Ez I1 ea c hm l ?_;refine Du (first:=[.ref a]) (h₀:=X.base) I.ok.mod.m_ hm.kp (aF (ha pos pins s1 σ H1 _ I1 q) λus s2 ⟨vs,H2,I2,r,q2⟩=>⟨I2.fZ,?_⟩) hst hpl;exact I_ (us:=.ref a::us) (vs:=.ref a::vs) F hr hb hx I2 (.cons rfl r) q2
theorem Xb{pl:Sem Bool}(he:PE X o ta)(c:gA X.K C)(hm:Meth X.K C m f)(F:dn X.prog X.w X.K X.mg X.base CX k f fd ps sp)(hr:bP k X.A)(hb:Binds X.K fd ps [])(hx:∀τ,nB CX X (E τ) τ)
 (ht:eval (.Call (.Attribute o m apos) [] [] pos) X.env=(do
  let ov <-eval o X.env
  standAt apos.atName
  let(f,first) <-holding [ov] (getMethod ov m pl)
  callWith pos f first (backTo pos (starEach [] X.env)) (backToKw pos (keywordEach [] X.env)))) :
 PE X (.Call (.Attribute o m apos) [] [] pos) (λτ H Q=>ta τ H λx H1=>∃a dx fs,x=.ref a/\H1 a=some (.ins C dx fs)/\fs.lookup m=none/\sp [.ref a] H1 Q (E τ)):=show _ by
 intro pins s σ H Q I h;refine NS (pl:=pl) (aF (he pins s σ H _ I h) λu s1 ⟨x,H1,I1,rx,a,dx,fs,ex,ea,l,q⟩=>?_) ht;subst ex;obtain rfl:u=Value.ref a:=rx;refine Ez I1 ea c hm l ?_;exact PySem.W.callWith_K0 (first:=[.ref a]) I1.fZ hm.kp (I_ (us:=[.ref a]) (vs:=[.ref a]) F hr hb hx I1 (.cons rfl .nil) q)
theorem Xc(M:Mk X.K C f)(F:dn X.prog X.w X.K X.mg X.base CX k f fd ps sp)(hr:bP (k+1) X.A)(hg:Gl X x)(hm:X.mg x=some (.ref C))(hb:Binds X.K fd ps [])(hx:∀τ,nB CX X (E τ) τ)
 (ha:PA X (e::es) t) (hdb:(x==("__debug__":Str))=false) (he:starEach (e::es) X.env=(false,eval e X.env)::starEach es X.env) (hpl:(backTo pos (starEach es X.env)).any (·.1)=false) :
 PE X (.Call (.Name x p) (e::es) [] pos) (λτ H Q=>t τ H λvs H1=>∀x dx,H1 x=none->H1 dx=none->dx≠x ->
  sp (.ref x::vs) (upd (upd H1 dx (.own x)) x (.ins C dx [])) (λv H2=>v=.non/\Q (.ref x) H2) (E τ)):=show _ by
 intro pins s σ H Q I h;refine xw (rG I hg hm ?_ hdb);refine Du (h₀:=X.base) I.ok.mod.m_ M.kp (aF (ha pos pins s σ H _ I h) λus s1 ⟨vs,H1,I1,r,q⟩=>⟨I1.fZ,?_⟩) he hpl;have hq:=q (s1.heap.objs.size+1) s1.heap.objs.size (I1.hok.fresh (Nat.le_succ _)) (I1.hok.fresh (aT _)) (cW (xt _));have I2:=Inv.made (C:=C) I1;have r2:Vals (V.ref (s1.heap.objs.size+1)::vs) (Value.ref (s1.heap.objs.size+1)::us):=.cons rfl r;have hl:(Value.ref (s1.heap.objs.size+1)::us).length=ps.length:=by
  have e:=r2.length;rw[F.len _ _ _ _ hq]at e;exact e.symm
 have hb':=hb _ (Value.ref (s1.heap.objs.size+1)::us) I2.fZ (by rw[gP];exact hl);rw[gP]at hb';refine Dv (P_ (f:=f) I1.fZ M.makes M.init (beq_iff_eq.mp M.fn) (ua (F.run _ X.stack _ _ ⟨Value.ref (s1.heap.objs.size+1)::us,[]⟩ (Value.ref (s1.heap.objs.size+1)::us) _ _ (E σ) (hr.make C us [])
  (I2.env0.make C us []) hb' r2 hq) λr s' hq'=>?_))
 cases r with
 |error e=>exact hx σ pins _ _ e s' I2 hq'
 |ok fl =>
  cases fl with
  |ret u =>
   obtain⟨v,H',I3,rv,ev,q3⟩:=I2.after hq';subst ev;exact⟨rv,⟨V.ref (s1.heap.objs.size+1),H',I3,rfl,q3⟩⟩
  |next=>exact eX hq'
  |brk=>exact eX hq'
  |cont=>exact eX hq'
end
section
variable{X:Cx}{W3:bK}{k:Nat}{C:Addr}{m y:Str}{ps:List Str}{sp:aL}{pos apos p:Pos}{o e:Expr}{es:List Expr}{ta:aN}{t:b6}
theorem mI{pl:Sem Bool}(M:df X.prog X.w X.K X.mg X.base k C m ps sp)(c:gA X.K C)(hr:bP k X.A)(he:aK X W3 o ta)(ha:eK X W3 (e::es) t)
 (hst:starEach (e::es) X.env=(false,eval e X.env)::starEach es X.env:=by rfl) (hpl:(backTo pos (starEach es X.env)).any (·.1)=false:=by rfl)
 (ht:eval (.Call (.Attribute o m apos) (e::es) [] pos) X.env=(do
  let ov <-eval o X.env
  standAt apos.atName
  let(f,first) <-holding [ov] (getMethod ov m pl)
  callWith pos f first (backTo pos (starEach (e::es) X.env)) (backToKw pos (keywordEach [] X.env))):=by rfl) :
 aK X W3 (.Call (.Attribute o m apos) (e::es) [] pos) (IX C m sp W3 ta t):=show _ by
 obtain⟨f,fd,F,b,mt⟩:=M.ex;refine λZ=>PE.imp (Xa (he Z) c mt F hr b Z.pass (ha Z) hst hpl ht) λτ H Q ⟨σ,S,Q3,hs,hl,ht,hc⟩=>?_;refine⟨σ,S,_,hs,hl,ht,λd S1 v H1 k1 r1 l1 ⟨a,fs,e1,e2,e3,q⟩=>?_⟩;subst e1;cases r1;obtain⟨dx,ws,h1,h2⟩:=l1.obj a _ e2;refine⟨a,dx,ws,rfl,h1,FP.none h2 e3,σ,S1,_,hs.mono k1,l1,q,λds S2 vs H2 k2 r2 l2 q2=>?_⟩;exact⟨Z.z,.ref a::ds,S2,Q3,W3 σ,.cons (.ref a) r2,l2,q2,hc.mono (k1.trans k2),λC' a' S3 H3 k3 l3 ha z=>Z.ce σ τ C' a' S3 H3 (hs.mono ((k1.trans k2).trans k3)) l3 ha z⟩
theorem Ja{pl:Sem Bool}(M:df X.prog X.w X.K X.mg X.base k C m ps sp)(c:gA X.K C)(hr:bP k X.A)(he:aK X W3 o ta)
 (ht:eval (.Call (.Attribute o m apos) [] [] pos) X.env=(do
  let ov <-eval o X.env
  standAt apos.atName
  let(f,first) <-holding [ov] (getMethod ov m pl)
  callWith pos f first (backTo pos (starEach [] X.env)) (backToKw pos (keywordEach [] X.env))):=by rfl) :
 aK X W3 (.Call (.Attribute o m apos) [] [] pos) (IY C m sp W3 ta):=show _ by
 obtain⟨f,fd,F,b,mt⟩:=M.ex;refine λZ=>PE.imp (Xb (he Z) c mt F hr b Z.pass ht) λτ H Q ⟨σ,S,Q3,hs,hl,ht,hc⟩=>?_;refine⟨σ,S,_,hs,hl,ht,λd S1 v H1 k1 r1 l1 ⟨a,fs,e1,e2,e3,q⟩=>?_⟩;subst e1;cases r1;obtain⟨dx,ws,h1,h2⟩:=l1.obj a _ e2;exact⟨a,dx,ws,rfl,h1,FP.none h2 e3,Z.z,[.ref a],S1,Q3,W3 σ,.cons (.ref a) .nil,l1,q,hc.mono k1,λC' a' S3 H3 k3 l3 ha z=>Z.ce σ τ C' a' S3 H3 (hs.mono (k1.trans k3)) l3 ha z⟩
theorem Xd(M:df X.prog X.w X.K X.mg X.base k C "__init__" ps sp)(mk:t9 X.K C=true)(kp:a_ X.K (.ref C)=true)(hr:bP (k+1) X.A)(hg:Gl X y)(hm:X.mg y=some (.ref C))(ha:eK X W3 (e::es) t)
 (hdb:(y==("__debug__":Str))=false:=by decide) (he:starEach (e::es) X.env=(false,eval e X.env)::starEach es X.env:=by rfl) (hpl:(backTo pos (starEach es X.env)).any (·.1)=false:=by rfl) :
 aK X W3 (.Call (.Name y p) (e::es) [] pos) (IZ C sp W3 t):=show _ by
 obtain⟨f,fd,F,b,mt⟩:=M.ex;refine λZ=>PE.imp (Xc ⟨mk,mt.at_,mt.fn,kp⟩ F hr hg hm b Z.pass (ha Z) hdb he hpl) λτ H Q ⟨σ,S,Q3,hs,hl,ht,hc⟩=>?_;refine⟨σ,S,_,hs,hl,ht,λds S1 vs H1 k1 r1 l1 q1 x dx hx hd hne=>?_⟩;have l2:Rl X.K Z.z S1 (upd H1 dx (.own x)):=l1.lay hd;have k2:Kp Z.z H1 (upd H1 dx (.own x)):=Kp.new hd (l1.fresh hd).2;have hx2:upd H1 dx (.own x) x=none:=by rw[bg (bt hne)];exact hx
 have k3:Kp Z.z (upd H1 dx (.own x)) (upd (upd H1 dx (.own x)) x (.ins C dx [])):=Kp.new hx2 (l2.fresh hx2).2;refine⟨Z.z,.ref x::ds,up S1 x (.ins C []),_,W3 σ,.cons (.ref x) ((r1.mono k2).mono k3),l2.put (o:=.ins C []) k3 (l2.fresh hx2).2 ⟨dx,[],d8,.nil⟩,q1 x (l1.fresh hx).1,?_,λC' a' S3 H3 k4 l3 ha z=>Z.ce σ τ C' a' S3 H3 (hs.mono (((k1.trans k2).trans k3).trans k4)) l3 ha z⟩;rintro d S2 v H2 k4 r2 l4 ⟨ed,q2⟩;subst ed;cases r2;exact⟨rfl,hc (.ref x) S2 _ H2 (((k1.trans k2).trans k3).trans k4) (.ref x) l4 q2⟩
end
section
variable{K:PySem.W.Frag}{S:af}{Q:K3}{σ:aJ}{f m:Str}{a C:Addr}{fs:List (Str×D)}{d y:D}{t ta tv:aN}{W3:bK}{sp:aL}
theorem Xe(q:t σ S λx S1=>j7 C f x S1 Q):IV C t f σ S Q:=q
theorem nQ(hS:S a=some (.ins C fs))(hl:fs.lookup f=some d)(q:Q d S):j7 C f (.ref a) S Q:=⟨a,fs,d,rfl,hS,hl,q⟩
theorem Xf{t:b6}(q:ta σ S λx S1=>tq C m (λa=>t σ S1 λds S2=>sp (.ref a::ds) S2 Q (W3 σ)) x S1):IX C m sp W3 ta t σ S Q:=q
theorem Xg(q:ta σ S λx S1=>tq C m (λa=>sp [.ref a] S1 Q (W3 σ)) x S1):IY C m sp W3 ta σ S Q:=q
theorem Xh{t:b6}(q:t σ S λds S1=>∀a,S1 a=none->sp (.ref a::ds) (up S1 a (.ins C [])) (λd S2=>d=.non/\Q (.ref a) S2) (W3 σ)):IZ C sp W3 t σ S Q:=q
theorem Xi{n b c:aJ->af->Prop}{rt:K3}(q:tv σ S λy S1=>ta σ S1 λx S2=>pV C f x y S2 (n σ)):IW C ta tv f ⟨n,rt,b,c⟩ σ S:=q
theorem Ak{q:af->Prop}(hS:S a=some (.ins C fs))(hl:fs.length<1000)(h:q (up S a (.ins C (gm f y fs)))):pV C f (.ref a) y S q:=⟨a,fs,rfl,hS,hl,h⟩
end
end E3
namespace EE
open PySem PySem.Spec PyProof.Rows L2
theorem Xj{M:Model}{A:Around}{E:Value->Shared->Prop}{s:Shared}{β:Type}{b:Nat}(f:Nat->β->Sem (ForInStep β))(I:Nat->β->Shared->Prop)(Q:β->Shared->Prop)
 (turn:∀i c s,i<b->I i c s->wpAny M A (f i c) (λr s'=>match r with | .yield c'=>I (i+1) c' s' | .done c'=>Q c' s') E s)
 (fin:∀c s,I b c s->Q c s) (c:β) (h:I 0 c s):wpAny M A (forIn [0:b] c f) Q E s:=show _ by
 rw[aix];have hsz:([0:b]:NT).size=b:=by simp[aiy]
 show wpAny M A (forIn (um 0 ([0:b]:NT).size 1) c f) Q E s;rw[hsz];refine Cw f (λl c s=>∃i,i<=b/\l=um i (b-i) 1/\I i c s) Q ?_ ?_ _ c ⟨0,bV _,rfl,h⟩
 ·rintro x rest c s ⟨i,hib,hl,hI⟩;have hlt:i<b:=by
   rcases DS i b with h'|h'
   ·exact h'
   ·rw[show b-i=0 by lia]at hl;simp at hl
  obtain⟨n,hn⟩:∃n,b-i=n+1:=⟨b-i-1,by lia⟩;rw[hn,NU]at hl;obtain⟨rfl,rfl⟩:=NV hl;refine fo (turn x c s hlt hI) (λr s' h'=>?_) λ_ _ e=>e;cases r with
  |done c'=>exact h'
  |yield c'=>exact⟨x+1,by lia,by congr 1;lia,h'⟩
 ·rintro c s ⟨i,hib,hl,hI⟩;have:i=b:=by
   rcases DS i b with h'|h'
   ·obtain⟨n,hn⟩:∃n,b-i=n+1:=⟨b-i-1,by lia⟩;rw[hn,NU]at hl;cases hl
   ·lia
  subst this;exact fin c s hI
theorem Xk(l:Addr)(items:Array Value)(n:Nat)(dd:Option Addr)(sl:Array (Option Value))(x:Value)(e:Value->Bool)(he:∀y,y∈items->MeetsSeq.EqGives y x (e y))(j:Nat)(hj:j<items.size)
 (hit:e items[j]=true) (hno:∀m (hm:m<items.size),m<j->e items[m]=false) :
 Meets (Builtin.«tuple.index» ⟨[.ref l,x],[]⟩)
  (λ_ R s=>s.heap.get? l=some {cls:=.type "tuple",dict:=dd,data:=.seq items n,slots:=sl}/\R (.ok (.ret (.int j s.toks))) {s with toks:=s.toks+1}) :=
 .of_wp λprog w A R s h=>by
  obtain⟨hp,g,d,tk,os⟩:=s;obtain⟨hl,h⟩:=h;have f1:=Nd
  wp_walk using Dl hl,Xj _ (λi b s'=>b.1=none/\i<=j/\s'=⟨hp,g,d,tk,os⟩) _
  case turn =>
   rintro i b s' hi ⟨hb,hij,rfl⟩;have hi:i<items.size:=show _ by lia
   rw[Array.getElem?_eq_getElem hi];refine ai (he _ (Array.getElem_mem hi) prog w _ _ _ _ ?_);by_cases hq:i=j
   ·subst hq;rw[hit]
    wp_walk
    exact⟨_,rfl,h⟩
   ·rw[hno i hi (by lia)]
    wp_walk
    exact⟨rfl,by lia,rfl⟩
  case fin =>
   rintro⟨b1,b2⟩ s' ⟨hb,hij,rfl⟩;lia
  case h =>
   exact⟨rfl,bV _,rfl⟩
theorem Jb:∀{ys:List Str} {us:List Value},Vals (ys.map V.str) us->∀(i:Nat) (y:Str),ys[i]?=some y->∃t,us[i]?=some (.str y t)
 |[],_,_,_,_,e=>by simp at e
 |z::ys,_,.cons r t,0,y,e=>by
  obtain⟨tk,rfl⟩:=r;simp at e;subst e;exact⟨tk,rfl⟩
 |z::ys,_,.cons r t,i+1,y,e=>Jb t i y (by simpa using e)
def Xl(k:Str):Value->Bool
 | .str z _=>z==k
 |_=>false
section
variable{X:Cx}
def Jc(K:aq):V->List V->Hp->VK->Prop:=λx vs H Q=>∃(a:Addr) (ys:List Str) (k:Str) (j:Nat),x=.ref a/\vs=[.str k]/\bq K H a (ys.map V.str)/\ys[j]?=some k/\k∉ys.take j/\Q (.int j) H
theorem Xm:nr X "tuple.index" (Jc X.K):=show _ by
 intro pins s σ H x vs v us Q I rx rv h;obtain⟨a,ys,k,j,rfl,rfl,hq,hj,hno,q⟩:=h;cases rx;obtain⟨u,rfl,t,rfl⟩:=vals1 rv;obtain⟨its,r,⟨o,e2,hc,m,hd⟩,hz⟩:=I.tuple hq;obtain⟨oc,od,odt,osl⟩:=o;obtain rfl:oc=.type "tuple":=hc;obtain rfl:odt=.seq its.toArray m:=hd;have hlen:its.length=ys.length:=by rw[<-r.length,aG]
 have hjl:j<ys.length:=(b4.mp hj).1;have at_:∀(i:Nat) (hi:i<its.toArray.size),∃z t,ys[i]?=some z/\its.toArray[i]=.str z t:=λi hi=>by
  have hi':i<its.length:=by simpa using hi
  have hiy:i<ys.length:=by lia
  obtain⟨t,e⟩:=Jb r i _ (aU hiy);refine⟨_,t,aU hiy,?_⟩;rw[aU hi']at e;simpa using e
 have hjs:j<its.toArray.size:=by rw[cj];lia
 refine t_ NW ⟨_,e2,rfl⟩ F.entry_tuple_index (F.args_tuple_index_2 _ _) (Xk a its.toArray m od osl (.str k t) (Xl k) (λy hy=>?_) j hjs ?_ λi hi hij=>?_) ⟨e2,⟨.int j,H,I.tok _,⟨_,rfl⟩,q⟩⟩
 ·obtain⟨i,hi,rfl⟩:=Array.getElem_of_mem hy;obtain⟨z,t',_,e⟩:=at_ i hi
  rw[e];exact eqGives_str z k t' t
 ·obtain⟨z,t',e1,e⟩:=at_ j hjs
  rw[hj]at e1;cases e1;rw[e];exact beq_self_eq_true k
 ·obtain⟨z,t',e1,e⟩:=at_ i hi
  rw[e];refine beq_eq_false_iff_ne.mpr λXn=>hno ?_;subst Xn;exact List.mem_iff_getElem?.mpr ⟨i,by rw[MV hij];exact e1⟩
theorem Xo{pins:List (Addr×Obj)}{σ:L2.St}{H:Hp}{s:Shared}{a:Addr}{xs:List V}(I:Inv X pins σ H s)(h:bq X.K H a xs):∃o,s.heap.get? a=some o/\o.cls=.type "tuple"/\o.dict=none:=show _ by
 obtain⟨z,its,r,⟨o,e,c,_⟩,nd⟩:=(show dk X.prog X.w H s.heap a (.tup xs) from I.hok a _ h);exact⟨o,e,c,nd o e⟩
theorem Xp{o e:Expr}{es:List Expr}{to:TE}{t:TA}{name:Str}{apos cpos:Pos}{id:String}{r:V->List V->Hp->VK->Prop}(slot:Slot "tuple" name id)(hty:typeOf (.builtin id)=pure (.type "method_descriptor"))(hm:nr X id r)(ho:PE X o to)(ha:PA X (e::es) t)
 (hbase:attributeBase o name X.env (eval o X.env)=eval o X.env)
 (hfew:((backTo cpos (starEach (e::es) X.env)).all (λx=>!x.1)&&(backToKw cpos (keywordEach [] X.env)).all (λx=>x.1.isSome)
  && decide ((e::es).length+([]:List Keyword).length+(if([]:List Keyword).isEmpty then 0 else 1)<30))=true)
 (hline:(apos.endLine==cpos.line)=true) (hs:starEach (e::es) X.env=(false,eval e X.env)::starEach es X.env) (hplain:(backTo cpos (starEach es X.env)).any (·.1)=false) :
 PE X (.Call (.Attribute o name apos) (e::es) [] cpos) (λσ H Q=>to σ H λx H1=>∃p zs,x=.ref p/\bq X.K H1 p zs/\t σ H1 λxs H2=>r x xs H2 Q):=show _ by
 intro pins s σ H Q I h;refine M7 hbase hfew hline rfl (aF (ho pins s σ H _ I h) λv s1 ⟨x,H1,I1,r1,p,zs,ex,hq,q1⟩=>?_);subst ex;cases (show v=Value.ref p from r1);obtain⟨ob,e1,e2,e3⟩:=Xo I1 hq;refine⟨"tuple",id,PySem.F.plainAttrs_tuple,slot,hty,⟨ob,e1,e2⟩,λa z=>by cases z;exact⟨ob,e1,e3⟩,?_⟩;have hA:=ha cpos pins s1 σ H1 _ I1 q1;rw[hs]at hA ⊢;refine Df (by show(false||(backTo cpos (starEach es X.env)).any (·.1))=false;rw[hplain]<;>rfl) (Dg ?_);exact aF hA λus s2 cR=>by obtain⟨vs,H2,I2,r2,q2⟩:=cR;exact hm pins s2 σ H2 _ vs _ us Q I2 r1 r2 q2
end
end EE
namespace E3
open PySem PySem.Spec PyProof.Rows L2 EE
section
variable{K:PySem.W.Frag}{S:af}{Q:K3}
def Jd:D->List D->af->K3->Prop:=λx ys S Q=>∃(zs:List Str) (k:Str) (j:Nat),ys=[.str k]/\x=.tup (zs.map D.str)/\zs[j]?=some k/\k∉zs.take j/\Q (.int j) S
theorem Xq:nD K Jd (Jc K):=by
 intro Z x ys S Q3 v vs H Q rx r l h c;obtain⟨zs,k,j,rfl,rfl,h1,h2,q⟩:=h;cases rx with
 |tup h3 h4 =>
  cases r with
  |cons r rr =>
   cases rr;cases r;rw[aX.strs h4]at h3;exact⟨_,zs,k,j,rfl,rfl,h3,h1,h2,c _ S _ H (Kp.refl _ _) (.int _) l q⟩
def Je(r:D->List D->af->K3->Prop)(to:aN)(t:b6):aN:=λσ S Q=>to σ S λx S1=>∃ds,x=.tup ds/\t σ S1 λxs S2=>r x xs S2 Q
theorem Xr{X:Cx}{W3:bK}{o e:Expr}{es:List Expr}{to:aN}{t:b6}{name:Str}{apos cpos:Pos}{id:String}{m3:D->List D->af->K3->Prop}{m:V->List V->Hp->VK->Prop}(slot:Slot "tuple" name id)(hty:typeOf (.builtin id)=pure (.type "method_descriptor"))(hm:nr X id m)(hd:nD X.K m3 m)(ho:aK X W3 o to)(ha:eK X W3 (e::es) t)
 (hbase:attributeBase o name X.env (eval o X.env)=eval o X.env:=by rfl)
 (hfew:((backTo cpos (starEach (e::es) X.env)).all (λx=>!x.1)&&(backToKw cpos (keywordEach [] X.env)).all (λx=>x.1.isSome)
  && decide ((e::es).length+([]:List Keyword).length+(if([]:List Keyword).isEmpty then 0 else 1)<30))=true:=by rfl)
 (hline:(apos.endLine==cpos.line)=true:=by rfl) (hs:starEach (e::es) X.env=(false,eval e X.env)::starEach es X.env:=by rfl) (hplain:(backTo cpos (starEach es X.env)).any (·.1)=false:=by rfl) :
 aK X W3 (.Call (.Attribute o name apos) (e::es) [] cpos) (Je m3 to t) :=
 λZ=>PE.imp (Xp slot hty hm (ho Z) (ha Z) hbase hfew hline hs hplain) λτ H Q eY=>by
  obtain⟨σ,S,Q3,hs,hr,ht,hc⟩:=eY;refine⟨σ,S,_,hs,hr,ht,λx S1 v H1 k1 r1 l1 ⟨ds,ex,q⟩=>?_⟩;subst ex;cases r1 with
  |tup h1 h2=>exact⟨_,_,rfl,h1,σ,S1,_,hs.mono k1,l1,q,λds S2 vs H2 k2 r2 l2 q2=>hd Z.z _ ds S2 Q3 _ vs H2 Q (.tup (k2.gZ h1) (h2.mono k2)) r2 l2 q2 (hc.mono (k1.trans k2))⟩
theorem Xs{r:D->List D->af->K3->Prop}{to:aN}{t:b6}{σ:aJ}(h:to σ S λx S1=>∃ds,x=.tup ds/\t σ S1 λxs S2=>r x xs S2 Q):Je r to t σ S Q:=h
theorem Xt{zs:List Str}{k:Str}{j:Nat}(h1:zs[j]?=some k)(h2:k∉zs.take j)(q:Q (.int j) S):Jd (.tup (zs.map D.str)) [.str k] S Q:=⟨zs,k,j,rfl,rfl,h1,h2,q⟩
end
section
variable{σ:aJ}{S:af}{Q:K3}{QT:Bool->af->Prop}{QA:List D->af->Prop}{ta tb te:aN}{tA:cE}{t u u':b7}{al:b6}{r:R3}{n b c:aJ->af->Prop}{rt:K3}{i i' Jf:Nat}{d e d2 d3:D}{D3:gE}{sp:aL}{W3:bK}{f:List D->af->K3->Prop}{ds:List D}{k:Int}{a:Addr}
theorem Xu(h:te σ S λx S1=>u D3 (σ.set i (some x)) S1):sA (sF i te) u D3 σ S:=h
theorem Xv(h:te σ S λ_ S1=>u D3 σ S1):sA (ze te) u D3 σ S:=h
theorem Xw(h:tA σ S λb' S1=>if b'=true then t ⟨u' ⟨n,rt,b,c⟩,rt,b,c⟩ σ S1 else u ⟨u' ⟨n,rt,b,c⟩,rt,b,c⟩ σ S1):sA (pz tA t u) u' ⟨n,rt,b,c⟩ σ S:=h
theorem Xx(h:σ[i]?=some (some (.tup ds)))(hd:b5 ds k=some d)(q:Q d S):o3 nG (v3 i) (c3 (.int k)) σ S Q:=⟨_,h,ds,k,d,rfl,rfl,hd,q⟩
theorem Xy{es:List D}{j:Int}(h:σ[i]?=some (some (.tup ds)))(hd:b5 ds k=some (.tup es))(he:b5 es j=some d)(q:Q d S):o3 nG (o3 nG (v3 i) (c3 (.int k))) (c3 (.int j)) σ S Q:=⟨_,h,ds,k,_,rfl,rfl,hd,es,j,d,rfl,rfl,he,q⟩
theorem Xz{x z:Str}(h:σ[i]?=some (some (.tup ds)))(hx:b5 ds k=some (.str x))(q:QT (decide (x=z)) S):je (o3 zj (o3 nG (v3 i) (c3 (.int k))) (c3 (.str z))) σ S QT:=⟨_,h,ds,k,_,rfl,rfl,hx,x,z,rfl,rfl,_,rfl,q⟩
theorem XA(h:σ[i]?=some (some d))(q:r d e S λz S'=>∃k,z=.bl k/\QT k S'):je (o3 r (v3 i) (c3 e)) σ S QT:=⟨d,h,q⟩
theorem XB(h:σ[i]?=some (some d))(h':σ[i']?=some (some e))(q:r d e S λz S'=>∃k,z=.bl k/\QT k S'):je (o3 r (v3 i) (v3 i')) σ S QT:=⟨d,h,e,h',q⟩
theorem XC(q:ta σ S λx S1=>r x e S1 λz S'=>∃k,z=.bl k/\QT k S'):je (o3 r ta (c3 e)) σ S QT:=q
theorem XD(q:ta σ S λx S1=>tb σ S1 λy S2=>r x y S2 λz S'=>∃k,z=.bl k/\QT k S'):je (o3 r ta tb) σ S QT:=q
theorem XE(h:σ[i]?=some (some d))(q:r d e S Q):o3 r (v3 i) (c3 e) σ S Q:=⟨d,h,q⟩
theorem XF(h:σ[i]?=some (some d))(h':σ[i']?=some (some e))(q:r d e S Q):o3 r (v3 i) (v3 i') σ S Q:=⟨d,h,e,h',q⟩
theorem XG(h:σ[i]?=some (some d))(q:tb σ S λy S2=>r d y S2 Q):o3 r (v3 i) tb σ S Q:=⟨d,h,q⟩
theorem XH(q:tb σ S λy S2=>r d y S2 Q):o3 r (c3 d) tb σ S Q:=q
theorem XI(q:ta σ S λx S1=>r x e S1 Q):o3 r ta (c3 e) σ S Q:=q
theorem XJ(h:σ[i]?=some (some d))(q:f [d] S Q):pw f (fR (v3 i) jf) σ S Q:=⟨d,h,q⟩
theorem XM(q:te σ S λx S1=>f [x] S1 Q):pw f (fR te jf) σ S Q:=q
theorem XN(h:σ[i]?=some (some d))(q:sp [d] S Q (W3 σ)):pE sp W3 (fR (v3 i) jf) σ S Q:=⟨d,h,q⟩
theorem XO(q:te σ S λx S1=>sp [x] S1 Q (W3 σ)):pE sp W3 (fR te jf) σ S Q:=q
theorem XQ(h:σ[i]?=some (some d))(h2:σ[i']?=some (some d2))(q:sp [d,d2] S Q (W3 σ)):pE sp W3 (fR (v3 i) (fR (v3 i') jf)) σ S Q:=⟨d,h,d2,h2,q⟩
theorem XR(h:σ[i]?=some (some d))(h2:σ[i']?=some (some d2))(h3:σ[Jf]?=some (some d3))(q:sp [d,d2,d3] S Q (W3 σ)):pE sp W3 (fR (v3 i) (fR (v3 i') (fR (v3 Jf) jf))) σ S Q:=⟨d,h,d2,h2,d3,h3,q⟩
theorem XS(h:σ[i]?=some (some d))(q:QA [d] S):fR (v3 i) jf σ S QA:=⟨d,h,q⟩
theorem XT(h:σ[i]?=some (some d))(q:al σ S λxs S2=>QA (d::xs) S2):fR (v3 i) al σ S QA:=⟨d,h,q⟩
theorem XU(q:QA [d] S):fR (c3 d) jf σ S QA:=q
theorem XW(q:al σ S λxs S2=>QA (d::xs) S2):fR (c3 d) al σ S QA:=q
theorem XX(q:te σ S λx S1=>QA [x] S1):fR te jf σ S QA:=q
end
end E3
namespace EE
open PySem PySem.Spec PyProof.Rows L2
end EE
namespace E3
open PySem PySem.Spec PyProof.Rows L2 EE
end E3
namespace EE
open PySem PySem.Spec PyProof.Rows L2
end EE
namespace E3
open PySem PySem.Spec PyProof.Rows L2 EE
end E3
namespace EE
open PySem PySem.Spec PyProof.Rows L2 Builtin Builtin.Str
end EE
namespace E3
open PySem PySem.Spec PyProof.Rows L2 EE
end E3
namespace EE
open PySem PySem.Spec PyProof.Rows L2
end EE
namespace E3
open PySem PySem.Spec PyProof.Rows L2 EE
end E3
namespace EE
open PySem PySem.Spec PyProof.Rows L2
end EE
namespace E3
open PySem PySem.Spec PyProof.Rows L2 EE
end E3
namespace EE
open PySem PySem.Spec PyProof.Rows L2
end EE
namespace E3
open PySem PySem.Spec PyProof.Rows L2 EE
end E3
namespace EE
open PySem PySem.Spec PyProof.Rows L2
section
variable{X:Cx}{elt iter tg:Expr}{ifs:List Expr}{pos:Pos}{scope:Scope}{O M:List Str}{js:List Nat}{wi:TI}{g:TG}{tt:TT}{te:TE}
theorem XY{i:Nat}{y:Str}{py spos:Pos}(S:fE X.env.scope O M scope)(hc:X.calm=true)(hjs:∀(k:Nat) (y:Str),M[k]?=some y->∃j:Nat,js[k]?=some j/\X.N[j]?=some y)(hlen:js.length=M.length)(hi:PI X tg iter wi)
 (hg:∀(C:Addr) (fp:List Addr) (pins:List (Addr×Obj)) (s:Shared) (H:Hp),PG (cf X scope C (O++M) fp pins s H) tg g)
 (ht:∀(C:Addr) (fp:List Addr) (pins:List (Addr×Obj)) (s:Shared) (H:Hp),nN (cf X scope C (O++M) fp pins s H) ifs tt)
 (he:∀(C:Addr) (fp:List Addr) (pins:List (Addr×Obj)) (s:Shared) (H:Hp),PE (cf X scope C (O++M) fp pins s H) elt te)
 (hN:X.N.Nodup) (hy:X.N[i]?=some y) (hl:X.env.scope.names.lookup y=some .local)
 (hsw:swapsWith (.ListComp elt [⟨tg,iter,ifs,0⟩] scope pos) (some (.Name y py)) spos.line X.env=pure true:=by rfl) (hs:∀v,foldedSetIterable iter X.env v=pure v:=by intro _;rfl) :
 PS X (.Assign [.Name y py] (.ListComp elt [⟨tg,iter,ifs,0⟩] scope pos) spos) (uL (vW wi g tt te O.length js) (uK i)):=show _ by
 intro pins s σ H D0 I h;rw[exec_Assign_Name_used _ _ _ _ hsw];refine ai (CH (ai ?_));show wpAny _ X.A (do let _ <-comprehension (.ListComp elt [⟨tg,iter,ifs,0⟩] scope pos) scope X.env _ (newList []) false (eval iter X.env) (some (assign (.Name y py) X.env))) _ _ s;refine ai (fo (NJ (use:=some (assign (.Name y py) X.env)) (Q:=λ_ s'=>SP X pins D0 .next s') rfl hs (Fl (S.cells I)) S.kind S.names
  (aF (hi pins s σ H _ I h) λxv s1 h1=>aF h1 λitv s2 h2=>?_)) (λ_ s' hq=>aB (aB hq)) λ_ _ e=>e)
 obtain⟨it,fp,tn,J,H1,rfl,I2,T,st2,f2,q⟩:=h2;refine jF ?_ (by show 0<=sizeLine;decide);have hD:H1 s2.heap.objs.size=none:=I2.hok.fresh (aT _);obtain⟨W,⟨m0,w0⟩,turn⟩:=q _ hD;have I3:Inv X pins σ (upd H1 s2.heap.objs.size (.lst [])) {s2 with heap:=s2.heap.push {cls:=.type "list",data:=.seq ([]:List Value).toArray}}:=I2.u1 (t':=s2.toks) .nil (bV _);have i9:∀b∈fp,d9 X pins (upd H1 s2.heap.objs.size (.lst [])) b:=λb hb=>by
  obtain⟨f0,f⟩:=f2 b hb;obtain⟨o,e,_⟩:=T.obj 0 _ st2 b hb;exact⟨by rw[bg (cW (bG e))];exact f0,f⟩
 refine HI (Qe:=λH'=>uK i (.ref s2.heap.objs.size) σ H' D0.nx) (R:=λC=>compPost (model X.prog X.w) X.A X.xe (some (assign (.Name y py) X.env)) (λ_ s'=>SP X pins D0 .next s') (.ref s2.heap.objs.size) C) S hc hjs hlen hg ht he I3 T
  (T.keep _ _ _ st2 λb hb o e=>bA _ e) i9 w0 turn ?_
 intro C s' H' iB σ' hC Jv qe;have Ie:Inv X pins σ H' s':=HH I3 i9 Jv hC (Heap.SameBut.refl ..);obtain⟨m,hn,_⟩:=Jv.loc;have fC:=I3.kG (H':=H') hC Jv.free;obtain⟨c0,c1,c2,c3,c4,c5⟩:=fC;show wpAny _ X.A (assign (.Name y py) X.env (.ref s2.heap.objs.size)) (λ_ s''=>∃m,s''.heap.Ns C m/\∀h',fJ C s''.heap h'->SP X pins D0 .next {s'' with heap:=h'}) X.xe s';refine MN (Eb Ie hN hy (.inl hl) (show RelV (.ref s2.heap.objs.size) (.ref s2.heap.objs.size) from rfl) (λs'' XZ ⟨a,hsb,ha⟩=>?_) (.inr hl));have X1:C≠a:=by
  rcases ha with rfl|ha
  ·exact c1
  ·exact bt (c4 _ _ ha)
 exact⟨m,hn.sameBut hsb X1,λh' hs'=>⟨_,H',XZ.turned (t':=s''.toks) (λb o hb e=>(hs'.2 b hb).trans e) c0 c1 c3 c4 c5,qe⟩⟩
end
end EE
namespace E3
open PySem PySem.Spec PyProof.Rows L2 EE
section
variable{X:Cx}{W3:bK}{elt iter tg:Expr}{ifs:List Expr}{x x':Str}{px Am pos tp:Pos}{kt:Nat}{scope cA:Scope}{O M N:List Str}{js:List Nat}{wi:fv}{g:eQ}{Sh:D->aJ->Prop}{tt:cE}{te:aN}
theorem lo1(S:fE cA [x] M scope)(hx:scope.names.lookup x=some .local)(C:Addr)(fp:List Addr)(pins:List (Addr×Obj))(s:Shared)(H:Hp):g9 (cf X scope C ([x]++M) fp pins s H) dA (.Name x px) (kN 0) :=
 dv (i:=0) S.nd rfl (.inl (rj hx)) (.inr (rj hx))
theorem lo2(S:fE cA [x,x'] M scope)(hx:scope.names.lookup x=some .local/\scope.names.lookup x'=some .local)(C:Addr)(fp:List Addr)(pins:List (Addr×Obj))(s:Shared)(H:Hp) :
 g9 (cf X scope C ([x,x']++M) fp pins s H) dA (.Tuple [.Name x px,.Name x' Am] kt tp) (vj 2 (pA (kN 0) (pA (kN 1) vi))) :=
 sE rfl (jV (dv (i:=0) S.nd rfl (.inl (rj hx.1)) (.inr (rj hx.1))) (jV (dv (i:=1) S.nd rfl (.inl (rj hx.2)) (.inr (rj hx.2))) sD))
theorem Jg(S:fE cA O M scope)(hjs:M.map some=js.map λj=>N[j]?)(hc:X.calm=true)(hsh:sW O.length g Sh)(hi:gF X W3 tg iter wi)
 (hg:∀(C:Addr) (fp:List Addr) (pins:List (Addr×Obj)) (s:Shared) (H:Hp),g9 (cf X scope C (O++M) fp pins s H) dA tg g)
 (ht:∀(C:Addr) (fp:List Addr) (pins:List (Addr×Obj)) (s:Shared) (H:Hp),kS (cf X scope C (O++M) fp pins s H) ifs tt)
 (he:∀(C:Addr) (fp:List Addr) (pins:List (Addr×Obj)) (s:Shared) (H:Hp),aK (cf X scope C (O++M) fp pins s H) dA elt te)
 (k8:X.env.scope=cA) (hN:X.N=N) (hs:∀v,foldedSetIterable iter X.env v=pure v) :
 aK X W3 (.ListComp elt [⟨tg,iter,ifs,0⟩] scope pos) (mE wi Sh tt te js):=λZ=>by
 subst k8 hN;exact PE.imp (Wu S hc (vd hjs).1 (vd hjs).2 (hi Z) (λC fp pins s H=>(hg C fp pins s H).ex) (λC fp pins s H=>(ht C fp pins s H).ex) (λC fp pins s H=>(he C fp pins s H).ex) hs) λ_ _ _ h=>zR hsh h
theorem X2{i:Nat}{y:Str}{py spos:Pos}(S:fE cA O M scope)(hjs:M.map some=js.map λj=>N[j]?)(hc:X.calm=true)(hsh:sW O.length g Sh)(hi:gF X W3 tg iter wi)
 (hg:∀(C:Addr) (fp:List Addr) (pins:List (Addr×Obj)) (s:Shared) (H:Hp),g9 (cf X scope C (O++M) fp pins s H) dA tg g)
 (ht:∀(C:Addr) (fp:List Addr) (pins:List (Addr×Obj)) (s:Shared) (H:Hp),kS (cf X scope C (O++M) fp pins s H) ifs tt)
 (he:∀(C:Addr) (fp:List Addr) (pins:List (Addr×Obj)) (s:Shared) (H:Hp),aK (cf X scope C (O++M) fp pins s H) dA elt te)
 (An:X.N.Nodup) (hy:X.N[i]?=some y) (hl:X.env.scope.names.lookup y=some .local) (k8:X.env.scope=cA) (hN:X.N=N)
 (hsw:swapsWith (.ListComp elt [⟨tg,iter,ifs,0⟩] scope pos) (some (.Name y py)) spos.line X.env=pure true) (hs:∀v,foldedSetIterable iter X.env v=pure v) :
 eM X W3 (.Assign [.Name y py] (.ListComp elt [⟨tg,iter,ifs,0⟩] scope pos) spos) (sF i (mE wi Sh tt te js)):=λZ=>by
 subst k8 hN;exact PS.imp (XY S hc (vd hjs).1 (vd hjs).2 (hi Z) (λC fp pins s H=>(hg C fp pins s H).ex) (λC fp pins s H=>(ht C fp pins s H).ex) (λC fp pins s H=>(he C fp pins s H).ex) An hy hl hsw hs) λD τ H ⟨D3,σ,S,hs,hr,ht,hc⟩ =>
  zR hsh ⟨σ,S,_,hs,hr,ht,λd S' v H' k r l q=>hc.nx _ S' _ H' k ((hs.mono k).set r i) l q⟩
theorem k9(S:fE cA [x] M scope)(hx:scope.names.lookup x=some .local)(hjs:M.map some=js.map λj=>N[j]?)(hc:X.calm=true)(hi:gF X W3 (.Name x px) iter wi)
 (ht:∀(C:Addr) (fp:List Addr) (pins:List (Addr×Obj)) (s:Shared) (H:Hp),kS (cf X scope C ([x]++M) fp pins s H) ifs tt)
 (he:∀(C:Addr) (fp:List Addr) (pins:List (Addr×Obj)) (s:Shared) (H:Hp),aK (cf X scope C ([x]++M) fp pins s H) dA elt te)
 (k8:X.env.scope=cA:=by rfl) (hN:X.N=N:=by rfl) (hs:∀v,foldedSetIterable iter X.env v=pure v:=by intro _;rfl) :
 aK X W3 (.ListComp elt [⟨.Name x px,iter,ifs,0⟩] scope pos) (mE wi mD tt te js):=Jg S hjs hc zQ hi (lo1 S hx) ht he k8 hN hs
theorem nR{i:Nat}{y:Str}{py spos:Pos}(S:fE cA [x] M scope)(hx:scope.names.lookup x=some .local)(hjs:M.map some=js.map λj=>N[j]?)(hc:X.calm=true)(hi:gF X W3 (.Name x px) iter wi)
 (ht:∀(C:Addr) (fp:List Addr) (pins:List (Addr×Obj)) (s:Shared) (H:Hp),kS (cf X scope C ([x]++M) fp pins s H) ifs tt)
 (he:∀(C:Addr) (fp:List Addr) (pins:List (Addr×Obj)) (s:Shared) (H:Hp),aK (cf X scope C ([x]++M) fp pins s H) dA elt te)
 (An:X.N.Nodup) (hy:X.N[i]?=some y) (hl:X.env.scope.names.lookup y=some .local) (k8:X.env.scope=cA:=by rfl) (hN:X.N=N:=by rfl)
 (hsw:swapsWith (.ListComp elt [⟨.Name x px,iter,ifs,0⟩] scope pos) (some (.Name y py)) spos.line X.env=pure true:=by rfl) (hs:∀v,foldedSetIterable iter X.env v=pure v:=by intro _;rfl) :
 eM X W3 (.Assign [.Name y py] (.ListComp elt [⟨.Name x px,iter,ifs,0⟩] scope pos) spos) (sF i (mE wi mD tt te js)):=X2 S hjs hc zQ hi (lo1 S hx) ht he An hy hl k8 hN hsw hs
theorem Jh(S:fE cA [x,x'] M scope)(hx:scope.names.lookup x=some .local/\scope.names.lookup x'=some .local)(hjs:M.map some=js.map λj=>N[j]?)(hc:X.calm=true)(hi:gF X W3 (.Tuple [.Name x px,.Name x' Am] kt tp) iter wi)
 (ht:∀(C:Addr) (fp:List Addr) (pins:List (Addr×Obj)) (s:Shared) (H:Hp),kS (cf X scope C ([x,x']++M) fp pins s H) ifs tt)
 (he:∀(C:Addr) (fp:List Addr) (pins:List (Addr×Obj)) (s:Shared) (H:Hp),aK (cf X scope C ([x,x']++M) fp pins s H) dA elt te)
 (k8:X.env.scope=cA:=by rfl) (hN:X.N=N:=by rfl) (hs:∀v,foldedSetIterable iter X.env v=pure v:=by intro _;rfl) :
 aK X W3 (.ListComp elt [⟨.Tuple [.Name x px,.Name x' Am] kt tp,iter,ifs,0⟩] scope pos) (mE wi zP tt te js):=Jg S hjs hc Vz hi (lo2 S hx) ht he k8 hN hs
end
section
variable{σ:aJ}{Q:K3}{js:List Nat}{te:aN}
theorem jr{ds:List D}{Al:af->Prop}{S1:af}(f:Nat->D)(hz:ds.length<=10000)(hA:Al S1)
 (h:∀i d,ds[i]?=some d->∀P:K3,P (f i) S1->te (some d::dD σ js) S1 P) (q:dG S1 ((aZ ds.length).map f) Q) :
 ∃W:Nat->List D->af->Prop,W 0 [] S1/\(∀i ys S,W i ys S->Al S/\ys.length<sizeLine) /\
 (∀i d ys S,ds[i]?=some d->W i ys S->∃ρ,mD d ρ/\mC (ρ++dD σ js) S λb S2=>if b=true then te (ρ++dD σ js) S2 λy S3=>W (i+1) (ys++[y]) S3 else W (i+1) ys S2)/\∀ys S,W ds.length ys S->dG S ys Q:=show _ by
 refine Hr (tt:=mC) (λ_=>true) f (cC hz (by decide)) hA (λi d hd=>⟨[some d],rfl,λP hP=>hP,λ_ P hP=>h i d hd P hP⟩) ?_;rw[Hs];exact q
theorem Ji{ds:List D}{Al:af->Prop}{S1:af}(f:Nat->D)(hz:ds.length<=10000)(hA:∀S,Sub S1 S->Al S)
 (h:∀i d S,ds[i]?=some d->Sub S1 S->∀P:K3,(∀S',Sub S S'->P (f i) S')->te (some d::dD σ js) S P) (q:∀S,Sub S1 S->dG S ((aZ ds.length).map f) Q) :
 ∃W:Nat->List D->af->Prop,W 0 [] S1/\(∀i ys S,W i ys S->Al S/\ys.length<sizeLine) /\
 (∀i d ys S,ds[i]?=some d->W i ys S->∃ρ,mD d ρ/\mC (ρ++dD σ js) S λb S2=>if b=true then te (ρ++dD σ js) S2 λy S3=>W (i+1) (ys++[y]) S3 else W (i+1) ys S2)/\∀ys S,W ds.length ys S->dG S ys Q :=
 Aa (Sh:=mD) f hz hA (λi d S hd hs=>⟨[some d],rfl,h i d S hd hs⟩) q
end
end E3
set_option maxHeartbeats 4000000
namespace LW
open PySem PySem.Spec PyProof.Rows L2 EE E3
section
variable{CR:Addr}
abbrev iM(pa bo:Addr)(mo:Int)(be pe wa:Addr)(en:D):List (Str×D) :=
 [("params",.ref pa),("bodies",.ref bo),("most",.int mo),("begun",.ref be),("pending",.ref pe),("waiting",.ref wa),("ending",en)]
structure Ra where
 pa:Addr
 bo:Addr
 be:Addr
 pe:Addr
 wa:Addr
structure Rn where
 pa:List (Key×D)
 bo:List (Key×D)
 mo:Int
 be:List D
 pe:List D
 wa:List D
 en:D
structure RS(CR:Addr)(S0 S:af)(a:Addr)(A:Ra)(r:Rn):Prop where
 self:S a=some (.ins CR (iM A.pa A.bo r.mo A.be A.pe A.wa r.en))
 pa:S A.pa=some (.b_ r.pa)
 bo:S A.bo=some (.b_ r.bo)
 be:S A.be=some (.lst r.be)
 pe:S A.pe=some (.lst r.pe)
 wa:S A.wa=some (.lst r.wa)
 n1:A.be≠A.pe
 n2:A.be≠A.wa
 n3:A.pe≠A.wa
 sub:Sub S0 S
 fa:S0 a=none
 f1:S0 A.be=none
 f2:S0 A.pe=none
 f3:S0 A.wa=none
theorem dI{S:af}{a b:Addr}{o u:O}(h:S a=some o)(h':S b=some u)(n:o≠u):a≠b:=λe=>n (by rw[e,h']at h;cases h;rfl)
theorem b9{S:af}{a b:Addr}{o u:O}(h:S b=some u)(n:b≠a):up S a o b=some u:=(aW n).trans h
section
variable{S0 S:af}{a:Addr}{A:Ra}{r:Rn}
theorem RS.nS(h:RS CR S0 S a A r)(xs:List D):RS CR S0 (up S A.pe (.lst xs)) a A {r with pe:=xs} :=
 ⟨b9 h.self (dI h.self h.pe (λz=>nomatch z)),b9 h.pa (dI h.pa h.pe (λz=>nomatch z)),b9 h.bo (dI h.bo h.pe (λz=>nomatch z)),b9 h.be h.n1,ax,b9 h.wa (bt h.n3),h.n1,h.n2,h.n3,h.sub.at h.f2,h.fa,h.f1,h.f2,h.f3⟩
theorem RS.X4(h:RS CR S0 S a A r)(xs:List D):RS CR S0 (up S A.be (.lst xs)) a A {r with be:=xs} :=
 ⟨b9 h.self (dI h.self h.be (λz=>nomatch z)),b9 h.pa (dI h.pa h.be (λz=>nomatch z)),b9 h.bo (dI h.bo h.be (λz=>nomatch z)),ax,b9 h.pe (bt h.n1),b9 h.wa (bt h.n2),h.n1,h.n2,h.n3,h.sub.at h.f1,h.fa,h.f1,h.f2,h.f3⟩
theorem RS.k_(h:RS CR S0 S a A r)(xs:List D):RS CR S0 (up S A.wa (.lst xs)) a A {r with wa:=xs} :=
 ⟨b9 h.self (dI h.self h.wa (λz=>nomatch z)),b9 h.pa (dI h.pa h.wa (λz=>nomatch z)),b9 h.bo (dI h.bo h.wa (λz=>nomatch z)),b9 h.be h.n2,b9 h.pe h.n3,ax,h.n1,h.n2,h.n3,h.sub.at h.f3,h.fa,h.f1,h.f2,h.f3⟩
theorem RS.lay(h:RS CR S0 S a A r){p:Addr}{o:O}(hp:S p=none):RS CR S0 (up S p o) a A r :=
 ⟨aD h.self hp,aD h.pa hp,aD h.bo hp,aD h.be hp,aD h.pe hp,aD h.wa hp,h.n1,h.n2,h.n3,h.sub.up hp,h.fa,h.f1,h.f2,h.f3⟩
theorem X5{pa bo be pe wa:Addr}{mo:Int}{en d:D}:gm "ending" d (iM pa bo mo be pe wa en)=iM pa bo mo be pe wa d:=by
 simp only[gm,iM];rfl
theorem X6{pa bo be pe wa hZ:Addr}{mo:Int}{en:D}:gm "waiting" (.ref hZ) (iM pa bo mo be pe wa en)=iM pa bo mo be pe hZ en:=by
 simp only[gm,iM];rfl
theorem RS.Ao(h:RS CR S0 S a A r)(d:D):RS CR S0 (up S a (.ins CR (gm "ending" d (iM A.pa A.bo r.mo A.be A.pe A.wa r.en)))) a A {r with en:=d}:=show _ by
 rw[X5];exact⟨ax,b9 h.pa (dI h.pa h.self (λz=>nomatch z)),b9 h.bo (dI h.bo h.self (λz=>nomatch z)),b9 h.be (dI h.be h.self (λz=>nomatch z)),b9 h.pe (dI h.pe h.self (λz=>nomatch z)),b9 h.wa (dI h.wa h.self (λz=>nomatch z)),h.n1,h.n2,h.n3,h.sub.at h.fa,h.fa,h.f1,h.f2,h.f3⟩
theorem RS.X7(h:RS CR S0 S a A r){p:Addr}{xs:List D}(hp:S p=some (.lst xs))(h1:A.be≠p)(h2:A.pe≠p)(h3:S0 p=none):RS CR S0 (up S a (.ins CR (gm "waiting" (.ref p) (iM A.pa A.bo r.mo A.be A.pe A.wa r.en)))) a {A with wa:=p} {r with wa:=xs}:=show _ by
 rw[X6];exact⟨ax,b9 h.pa (dI h.pa h.self (λz=>nomatch z)),b9 h.bo (dI h.bo h.self (λz=>nomatch z)),b9 h.be (dI h.be h.self (λz=>nomatch z)),b9 h.pe (dI h.pe h.self (λz=>nomatch z)),b9 hp (dI hp h.self (λz=>nomatch z)),h.n1,h1,h2,h.sub.at h.fa,h.fa,h.f1,h.f2,h3⟩
variable{Q:K3}
theorem X8(h:RS CR S0 S a A r)(q:Q (.ref A.pa) S):j7 CR "params" (.ref a) S Q:=nQ h.self rfl q
theorem X9(h:RS CR S0 S a A r)(q:Q (.ref A.bo) S):j7 CR "bodies" (.ref a) S Q:=nQ h.self rfl q
theorem X_(h:RS CR S0 S a A r)(q:Q (.int r.mo) S):j7 CR "most" (.ref a) S Q:=nQ h.self rfl q
theorem X'(h:RS CR S0 S a A r)(q:Q (.ref A.be) S):j7 CR "begun" (.ref a) S Q:=nQ h.self rfl q
theorem Ya(h:RS CR S0 S a A r)(q:Q (.ref A.pe) S):j7 CR "pending" (.ref a) S Q:=nQ h.self rfl q
theorem Yb(h:RS CR S0 S a A r)(q:Q (.ref A.wa) S):j7 CR "waiting" (.ref a) S Q:=nQ h.self rfl q
theorem Yc(h:RS CR S0 S a A r)(q:Q (r.en) S):j7 CR "ending" (.ref a) S Q:=nQ h.self rfl q
theorem Ap{n:af->Prop}{d:D}(h:RS CR S0 S a A r)(q:n (up S a (.ins CR (gm "ending" d (iM A.pa A.bo r.mo A.be A.pe A.wa r.en))))):pV CR "ending" (.ref a) d S n:=Ak h.self (show 7<1000 by decide) q
theorem Yd{n:af->Prop}{d:D}(h:RS CR S0 S a A r)(q:n (up S a (.ins CR (gm "waiting" d (iM A.pa A.bo r.mo A.be A.pe A.wa r.en))))):pV CR "waiting" (.ref a) d S n:=Ak h.self (show 7<1000 by decide) q
theorem ju{m:Str}{k:Addr->Prop}(h:RS CR S0 S a A r)(hm:∀pa bo mo be pe wa en,(iM pa bo mo be pe wa en).lookup m=none)(q:k a):tq CR m k (.ref a) S:=⟨a,_,rfl,h.self,hm _ _ _ _ _ _ _,q⟩
end
end
seal aK eJ fQ eK eM dc sy g9 sC gF
local macro_rules|`(tactic|nofun)=>do let w:=λ(s:String)=>(s.splitOn " ").toArray.map λx=>Lean.mkIdent (.mkStr (.mkSimple "E3") x);let at_ <-`(tactic|(first|exact rfl|exact U6|exact aiA|exact U7|exact aiB));let v0 <-(w "XA XE XJ XN XS").mapM λn=>`(Lean.Parser.Tactic.tacticSeq|apply $n);let v1 <-(w "XB XF XQ").mapM λn=>`(Lean.Parser.Tactic.tacticSeq|apply $n);let v3 <-(w "XG XT S9").mapM λn=>`(Lean.Parser.Tactic.tacticSeq|apply $n);let a1 <-(w "Xu Xv Xw XC XD XH XI XM XO XU XW XX SK SS S_ Ta Tb Tz Tw SX Tn To SW SO SN SM SQ SU SY Tg Th Ti Tj Te Tf Tq Tr Ts Tt Tu Tv Tp TB TC TH TJ TK TL TQ TN TU TV TX TY VF v9 VI Ww WV WW WZ W0 Wv Wy VJ VV VX TZ T1 T4 T6 T7 T9 T5 T8 U1 U3 Ut UK T_ Ub Uc Ua V9 V_ Xe Xi Xf Xg Xh Xs").mapM λn=>`(Lean.Parser.Tactic.tacticSeq|apply $n);let a2 <-(w "GI zr GL GN GO IB HM GR U2").mapM λn=>`(Lean.Parser.Tactic.tacticSeq|refine $n (by assumption) ?_);let a3 <-(w "GI zr GL GN GO IB HM GR").mapM λn=>`(Lean.Parser.Tactic.tacticSeq|refine $n ax ?_);let al:=a1++a2++a3;`(tactic|repeat (first|((with_reducible apply Xz);(exact rfl);$at_)|((with_reducible apply Xx);(exact rfl);$at_)|((with_reducible apply Xy);(exact rfl);$at_;$at_)|((with_reducible first $[| $v0]*);(exact rfl))|((with_reducible first $[| $v1]*);(exact rfl);(exact rfl))|((with_reducible apply XR);(exact rfl);(exact rfl);(exact rfl))|((with_reducible first $[| $v3]*);(exact rfl))|(with_reducible first $[| $al]*)|(with_reducible first|refine sf rfl ?_|refine yJ rfl ?_|refine nz ?_|refine ph ?_|refine sf (by assumption) ?_|refine vc (by assumption) ?_|refine Fc (by assumption) ?_|refine yJ (by assumption) ?_|refine X8 (by assumption) ?_|refine X9 (by assumption) ?_|refine X_ (by assumption) ?_|refine X' (by assumption) ?_|refine Ya (by assumption) ?_|refine Yb (by assumption) ?_|refine Yc (by assumption) ?_)|((with_reducible refine Tc ?_ ?_);(first|decide|omega))|((with_reducible refine Td ?_ ?_);(first|exact⟨by decide,by decide⟩|omega))|((with_reducible refine Uh ?_ ?_);exact⟨by decide,by decide,by decide⟩)|((with_reducible refine Ui ?_ ?_);(first|exact .inl ⟨by decide,by decide⟩|exact .inr ⟨by decide,by decide⟩))|((with_reducible refine TF ?_ ?_);exact fB (Nat.le_of_ble_eq_true rfl))|((with_reducible apply my);$at_)|((with_reducible apply fj (by assumption));$at_)|((with_reducible apply fj ax);$at_)|((with_reducible apply GJ);exact rfl)|((with_reducible apply SV);exact rfl)|((with_reducible refine WY ?_ ?_);exact rfl)|((with_reducible refine Ad ?_ ?_);exact fB (Nat.le_of_ble_eq_true rfl))|((with_reducible refine U4 ?_ ?_ ?_);(exact rfl);(exact rfl))|((with_reducible apply GX (by assumption));(first|exact rfl|exact Hd|exact Ye))|((with_reducible apply GX ax);(first|exact rfl|exact Hd|exact Ye))|((with_reducible refine zE ?_ ?_);exact rfl)|((with_reducible refine zF ?_ ?_);exact rfl)|((with_reducible refine GV ?_ ?_);(first|exact⟨by decide,by decide⟩|exact⟨by omega,by omega⟩))|((with_reducible refine TR ?_ ?_);assumption)|(with_reducible first|refine zE (by decide +kernel) ?_|refine zF (by decide +kernel) ?_|refine sf (by omega) ?_|refine vc (by omega) ?_|refine Fc (by omega) ?_|refine yJ (by omega) ?_)))
def top(i:Nat):Stmt:=PySem.Challenge.pw_errandend_k22_whole_never_round_again.main.body.getD i (.Pass ⟨0,0,0,0⟩)
abbrev pW:Stmt:=top 7
theorem tu:a8 ["body","found","pending","saying","part"] ["body"] (ao pW):=⟨rfl,rfl,rfl,by cbv,rfl,by cbv,by cbv⟩
abbrev pX:Stmt:=top 8
theorem Yf:a8 ["saying"] ["saying"] (ao pX):=⟨rfl,rfl,rfl,by cbv,rfl,by cbv,by cbv⟩
abbrev pY:Stmt:=top 9
theorem Yg:a8 ["name","known"] ["name","known"] (ao pY):=⟨rfl,rfl,rfl,by cbv,rfl,by cbv,by cbv⟩
abbrev pZ:Stmt:=top 10
theorem Jj:a8 ["name","row","needed","given"] ["name","row","needed"] (ao pZ):=⟨rfl,rfl,rfl,by cbv,rfl,by cbv,by cbv⟩
abbrev nU:Stmt:=top 12
theorem p5:a8 ["program","found","errand","placed","send","rows"] ["program"] (ao nU):=⟨rfl,rfl,rfl,by cbv,rfl,by cbv,by cbv⟩
abbrev p6:Stmt:=top 13
theorem tw:a8 ["body","found","pending","placed","inner"] ["body"] (ao p6):=⟨rfl,rfl,rfl,by cbv,rfl,by cbv,by cbv⟩
abbrev nV:Stmt:=top 14
theorem Aq:a8 ["saying","known","param","inner"] ["saying","known"] (ao nV):=⟨rfl,rfl,rfl,by cbv,rfl,by cbv,by cbv⟩
abbrev p7:Stmt:=top 15
theorem As:a8 ["saying","rest"] ["saying"] (ao p7):=⟨rfl,rfl,rfl,by cbv,rfl,by cbv,by cbv⟩
abbrev nW:Stmt:=top 16
theorem Yh:a8 ["param","sayings","known"] ["param","sayings","known"] (ao nW):=⟨rfl,rfl,rfl,by cbv,rfl,by cbv,by cbv⟩
abbrev p8:Stmt:=top 17
theorem Yi:a8 ["param","saying","known"] ["param","saying","known"] (ao p8):=⟨rfl,rfl,rfl,by cbv,rfl,by cbv,by cbv⟩
abbrev nX:Stmt:=top 18
theorem Jk:a8 ["one","other","rows"] ["one","other"] (ao nX):=⟨rfl,rfl,rfl,by cbv,rfl,by cbv,by cbv⟩
abbrev p9:Stmt:=top 19
theorem Yj:a8 ["one","other"] ["one","other"] (ao p9):=⟨rfl,rfl,rfl,by cbv,rfl,by cbv,by cbv⟩
abbrev nY:Stmt:=top 20
theorem Yk:a8 ["row","rows"] ["row","rows"] (ao nY):=⟨rfl,rfl,rfl,by cbv,rfl,by cbv,by cbv⟩
abbrev nZ:Stmt:=top 21
theorem Yl:a8 ["row","rows","column"] ["row","rows","column"] (ao nZ):=⟨rfl,rfl,rfl,by cbv,rfl,by cbv,by cbv⟩
abbrev p_:Stmt:=top 22
theorem Ym:a8 ["one","other"] ["one","other"] (ao p_):=⟨rfl,rfl,rfl,by cbv,rfl,by cbv,by cbv⟩
abbrev qa:Stmt:=top 25
theorem Yn:a8 ["program"] ["program"] (ao qa):=⟨rfl,rfl,rfl,by cbv,rfl,by cbv,by cbv⟩
abbrev qb:Stmt:=top 26
theorem Yo:a8 ["program"] ["program"] (ao qb):=⟨rfl,rfl,rfl,by cbv,rfl,by cbv,by cbv⟩
abbrev qc:Stmt:=top 27
theorem lg:a8 ["numbered","found","number","graph","place","ahead"] ["numbered"] (ao qc):=⟨rfl,rfl,rfl,by cbv,rfl,by cbv,by cbv⟩
abbrev n0:Stmt:=top 28
theorem Yp:a8 ["found","graph","way"] ["found","graph","way"] (ao n0):=⟨rfl,rfl,rfl,by cbv,rfl,by cbv,by cbv⟩
abbrev n_:Stmt:=top 29
theorem Au:a8 ["pairs","graph","way"] ["pairs"] (ao n_):=⟨rfl,rfl,rfl,by cbv,rfl,by cbv,by cbv⟩
abbrev qd:Stmt:=top 30
theorem Yq:a8 ["graph"] ["graph"] (ao qd):=⟨rfl,rfl,rfl,by cbv,rfl,by cbv,by cbv⟩
abbrev og:Stmt:=top 31
theorem Yr:a8 ["graph"] ["graph"] (ao og):=⟨rfl,rfl,rfl,by cbv,rfl,by cbv,by cbv⟩
abbrev qf:Stmt:=top 34
theorem tx:a8 ["tree","pairs","pending","part"] ["tree"] (ao qf):=⟨rfl,rfl,rfl,by cbv,rfl,by cbv,by cbv⟩
abbrev qg:Stmt:=top 36
theorem Ys:a8 ["program","name","trees","most"] ["program","name","trees","most"] (ao qg):=⟨rfl,rfl,rfl,by cbv,rfl,by cbv,by cbv⟩
abbrev oh:Stmt:=top 37
theorem Av:a8 ["program","name","trees","most","params","ended"] ["program","name","trees","most"] (ao oh):=⟨rfl,rfl,rfl,by cbv,rfl,by cbv,by cbv⟩
abbrev qh:Stmt:=top 38
theorem qi:a8 ["program","bodies","number","errand","order"] ["program"] (ao qh):=⟨rfl,rfl,rfl,by cbv,rfl,by cbv,by cbv⟩
abbrev oj:Stmt:=top 39
theorem Yt:a8 ["order"] ["order"] (ao oj):=⟨rfl,rfl,rfl,by cbv,rfl,by cbv,by cbv⟩
abbrev om:Stmt:=top 40
theorem qj:a8 ["order","number","done","later","saying","inner"] ["order","number"] (ao om):=⟨rfl,rfl,rfl,by cbv,rfl,by cbv,by cbv⟩
abbrev qk:Stmt:=top 42
theorem Yu:a8 ["saying"] ["saying"] (ao qk):=⟨rfl,rfl,rfl,by cbv,rfl,by cbv,by cbv⟩
abbrev ql:Stmt:=top 43
theorem Yv:a8 ["kind","tree"] ["kind","tree"] (ao ql):=⟨rfl,rfl,rfl,by cbv,rfl,by cbv,by cbv⟩
abbrev qm:Stmt:=top 45
theorem Yw:a8 ["script","k"] ["script","k"] (ao qm):=⟨rfl,rfl,rfl,by cbv,rfl,by cbv,by cbv⟩
abbrev lh:Stmt:=top 46
theorem jv:a8 ["cell","many","base","left","k","place","found","turn"] ["cell","many"] (ao lh):=⟨rfl,rfl,rfl,by cbv,rfl,by cbv,by cbv⟩
abbrev qo:Stmt:=top 47
theorem Yx:a8 ["script","spot"] ["script","spot"] (ao qo):=⟨rfl,rfl,rfl,by cbv,rfl,by cbv,by cbv⟩
abbrev qp:Stmt:=top 48
theorem wu:a8 ["cell","params","saying","k"] ["cell","params"] (ao qp):=⟨rfl,rfl,rfl,by cbv,rfl,by cbv,by cbv⟩
abbrev qq:Stmt:=top 49
theorem Yy:a8 ["cell","params"] ["cell","params"] (ao qq):=⟨rfl,rfl,rfl,by cbv,rfl,by cbv,by cbv⟩
abbrev oo:Stmt:=top 50
theorem Jl:a8 ["script","spot","names","counts","params","to"] ["script","spot","names","counts","params"] (ao oo):=⟨rfl,rfl,rfl,by cbv,rfl,by cbv,by cbv⟩
abbrev qr:Stmt:=top 51
theorem jw:a8 ["script","spot","names","counts","params","shape","inner","other","row","last"] ["script","spot","names","counts","params"] (ao qr):=⟨rfl,rfl,rfl,by cbv,rfl,by cbv,by cbv⟩
abbrev oq:Stmt:=top 52
theorem lj:a8 ["script","spot","most","head","many","names","params","counts","program","k","mine"] ["script","spot","most"] (ao oq):=⟨rfl,rfl,rfl,by cbv,rfl,by cbv,by cbv⟩
abbrev qt:Stmt:=top 53
theorem mJ:a8 ["script","spot","names","counts","params","to","row","k","cell","one"] ["script","spot","names","counts","params"] (ao qt):=⟨rfl,rfl,rfl,by cbv,rfl,by cbv,by cbv⟩
abbrev ou:Stmt:=top 54
theorem h_:a8 ["script","spot","most","head","many","names","params","counts","program","k","mine","shape","first","last"] ["script","spot","most"] (ao ou):=⟨rfl,rfl,rfl,by cbv,rfl,by cbv,by cbv⟩
abbrev qu:Stmt:=top 55
theorem Yz:a8 ["script","spot","way","most"] ["script","spot","way","most"] (ao qu):=⟨rfl,rfl,rfl,by cbv,rfl,by cbv,by cbv⟩
abbrev qv:Stmt:=top 56
theorem j8:a8 ["cell","room","row","left","k","digit","last","tree","one"] ["cell","room"] (ao qv):=⟨rfl,rfl,rfl,by cbv,rfl,by cbv,by cbv⟩
abbrev ll:Stmt:=top 57
theorem fT:a8 ["script","spot","program","errand","trees","k","cell","told","found","elders","at","entry","above"] ["script"] (ao ll):=⟨rfl,rfl,rfl,by cbv,rfl,by cbv,by cbv⟩
abbrev qw:Stmt:=inClass (top 41) 0
theorem YA:a8 ["self","params","bodies","most"] ["self","params","bodies","most"] (ao qw):=⟨rfl,rfl,rfl,by cbv,rfl,by cbv,by cbv⟩
abbrev qy:Stmt:=inClass (top 41) 1
theorem YB:a8 ["self","parent","number","name","trees"] ["self","parent","number","name","trees"] (ao qy):=⟨rfl,rfl,rfl,by cbv,rfl,by cbv,by cbv⟩
abbrev qz:Stmt:=inClass (top 41) 2
theorem Jm:a8 ["self","task"] ["self"] (ao qz):=⟨rfl,rfl,rfl,by cbv,rfl,by cbv,by cbv⟩
abbrev qA:Stmt:=inClass (top 41) 3
theorem Jn:a8 ["self","saying","place","part"] ["self","saying","place"] (ao qA):=⟨rfl,rfl,rfl,by cbv,rfl,by cbv,by cbv⟩
abbrev qB:Stmt:=inClass (top 41) 4
theorem Jo:a8 ["self","saying","place","kind"] ["self","saying","place"] (ao qB):=⟨rfl,rfl,rfl,by cbv,rfl,by cbv,by cbv⟩
abbrev qC:Stmt:=inClass (top 41) 5
theorem Aw:a8 ["self","many","first","trees"] ["self","many"] (ao qC):=⟨rfl,rfl,rfl,by cbv,rfl,by cbv,by cbv⟩
abbrev qD:Stmt:=inClass (top 41) 6
theorem Jp:a8 ["self","fork","place","chosen"] ["self","fork","place"] (ao qD):=⟨rfl,rfl,rfl,by cbv,rfl,by cbv,by cbv⟩
abbrev qE:Stmt:=inClass (top 41) 7
theorem Jq:a8 ["self","pair"] ["self"] (ao qE):=⟨rfl,rfl,rfl,by cbv,rfl,by cbv,by cbv⟩
abbrev qF:Stmt:=inClass (top 41) 8
theorem Jr:a8 ["self","name","place","entry"] ["self","name","place"] (ao qF):=⟨rfl,rfl,rfl,by cbv,rfl,by cbv,by cbv⟩
inductive lq{gM α1:Type}(p:gM->α1->Prop):Prop where
 |mk (a0:gM) (a1:α1) (h:p a0 a1)
inductive ow{gM α1 α2:Type}(p:gM->α1->α2->Prop):Prop where
 |mk (a0:gM) (a1:α1) (a2:α2) (h:p a0 a1 a2)
inductive lr{gM α1 α2 α3:Type}(p:gM->α1->α2->α3->Prop):Prop where
 |mk (a0:gM) (a1:α1) (a2:α2) (a3:α3) (h:p a0 a1 a2 a3)
inductive Ax{gM α1 α2 α3 tD:Type}(p:gM->α1->α2->α3->tD->Prop):Prop where
 |mk (a0:gM) (a1:α1) (a2:α2) (a3:α3) (a4:tD) (h:p a0 a1 a2 a3 a4)
inductive Js{gM α1 α2 α3 tD Jt Ju:Type}(p:gM->α1->α2->α3->tD->Jt->Ju->Prop):Prop where
 |mk (a0:gM) (a1:α1) (a2:α2) (a3:α3) (a4:tD) (a5:Jt) (a6:Ju) (h:p a0 a1 a2 a3 a4 a5 a6)
theorem tE{us:List Value}{n:Nat}(h:us.length=n+1):∃a t,us=a::t/\t.length=n:=by
 cases us with
 |nil=>cases h
 |cons a t=>exact⟨a,t,rfl,Nat.succ.inj h⟩
theorem YC{us:List Value}(h:us.length=0):us=[]:=List.eq_nil_of_length_eq_zero h
theorem fk{us:List Value}(h:us.length=1):∃a0,us=[a0]:=by
 obtain⟨a0,t,rfl,g⟩:=tE h;obtain rfl:=YC g;exact⟨a0,rfl⟩
theorem ln2{us:List Value}(h:us.length=2):∃a0 a1,us=[a0,a1]:=by
 obtain⟨a0,t,rfl,g⟩:=tE h;obtain⟨a1,rfl⟩:=fk g;exact⟨a0,a1,rfl⟩
theorem iN{us:List Value}(h:us.length=3):∃a0 a1 a2,us=[a0,a1,a2]:=by
 obtain⟨a0,t,rfl,g⟩:=tE h;obtain⟨a1,a2,rfl⟩:=ln2 g;exact⟨a0,a1,a2,rfl⟩
theorem tF{us:List Value}(h:us.length=4):∃a0 a1 a2 a3,us=[a0,a1,a2,a3]:=by
 obtain⟨a0,t,rfl,g⟩:=tE h;obtain⟨a1,a2,a3,rfl⟩:=iN g;exact⟨a0,a1,a2,a3,rfl⟩
theorem wx{us:List Value}(h:us.length=5):∃a0 a1 a2 a3 a4,us=[a0,a1,a2,a3,a4]:=by
 obtain⟨a0,t,rfl,g⟩:=tE h;obtain⟨a1,a2,a3,a4,rfl⟩:=tF g;exact⟨a0,a1,a2,a3,a4,rfl⟩
structure Gs(K:aq)(mg:Str->Option Value):Prop where
 len:mg "len"=none
 range:mg "range"=none
 aiC:mg "isinstance"=none
 int:mg "int"=none
 bool:mg "bool"=none
 tuple:mg "tuple"=none
 dict:mg "dict"=none
 list:mg "list"=none
 wz:mg "reversed"=none
 any:mg "any"=none
 enumerate:mg "enumerate"=none
 max:mg "max"=none
 zip:mg "zip"=none
 YD:∃t,mg "MOST_PAIRS"=some (.int 60 t)
 YE:∃t,mg "MOST_IN_CLOSURE"=some (.int 40 t)
structure iO(K:aq)(mg:Str->Option Value)(CR:Addr):Prop where
 cl:gA K CR
 YF:t9 K CR=true
 kc:a_ K (.ref CR)=true
 at_:mg "Run"=some (.ref CR)
 n_params:f6 K CR "params"
 n_bodies:f6 K CR "bodies"
 n_most:f6 K CR "most"
 n_begun:f6 K CR "begun"
 n_pending:f6 K CR "pending"
 n_waiting:f6 K CR "waiting"
 n_ending:f6 K CR "ending"
abbrev ES:List Rf:=[.err,.apart,.many]
section
variable{P:Program}{w:World}{K:PySem.W.Frag}{mg:Str->Option Value}{base:Heap}{adr:Rf->Addr}{CR:Addr}
def cellAt(ns:List Int)(k:Int):Int:=ns.getD k.toNat 0
inductive YG (ds:List D)(q:D->Prop):Prop where
 |mk (ns:List Int) (k:Int) (_:ds=[.bH (ns.map D.int),.int k]) (_:0<=k) (_:q (.int (cellAt ns k)))
def wA :aL:=vS YG
theorem YH{k:Nat}(h:az K mg "_law_cell_at" qm ["script","k"])(G:Gs K mg):av P w K mg base (k+1) "_law_cell_at" ["script","k"] wA:=show _ by
 refine h.val Yw (by rintro ds q ⟨ns,k,e,_⟩;rw[e];rfl) λf cdv A outer s H E ds q hr ⟨ns,k,e,h0,hq⟩=>?_;subst e;refine⟨_,(au (cy (br o8 iG (aa 1) (dH eI eU rfl G.len eC (ae (aa 0) ah)) (bC _)) (ay (bz (aA d_ eA (aa 0) (aa 1) (λ_ _=>rfl)))) cw)
 (ay (bz aj))),?_⟩
 nofun;have hl:(ns.map D.int).length=ns.length:=aG _;refine RD (λc=>?_) (λc=>?_)
 ·rw[hl]at c;have hk:k.toNat<ns.length:=by lia
  nofun;refine GJ (zG h0 (v:=.int (cellAt ns k)) ?_) hq;rw[a7,aU hk];simp[cellAt,bR,aU hk]
 ·rw[hl]at c;have hk:ns.length<=k.toNat:=by lia
  nofun;have e:cellAt ns k=0:=by simp[cellAt,bR,dQ hk]
  rw[e]at hq;exact hq
inductive YI (ds:List D)(S:af)(q:D->Addr->O->Prop):Prop where
 |mk (ns:List Int) (sp:Addr) (i:Int) (rs:List D) (_:ds=[.bH (ns.map D.int),.ref sp]) (_:S sp=some (.lst (.int i::rs))) (_:0<=i) (_:q (.int (cellAt ns i)) sp (.lst (.int (i+1)::rs)))
def ox :aL:=kP YI
theorem YJ{k:Nat}(h:az K mg "_law_next" qo ["script","spot"])(mK:av P w K mg base k "_law_cell_at" ["script","k"] wA):av P w K mg base (k+1) "_law_next" ["script","spot"] ox:=show _ by
 refine h.kP Yx (by rintro ds S q ⟨ns,sp,i,rs,e,_⟩;rw[e];rfl) λf cdv A outer s H E ds S q hr ⟨ns,sp,i,rs,e,hS,hi,hq⟩=>?_;subst e;refine⟨_,(au (Sg (aE mj jh (aA d_ eA (aa 1) aj (λ_ _=>rfl)) aj) (Si (aa 1) aj))
 (ay (bz (aQ mK hr rfl (ae (aa 0) (ae (aE yr jh (aA d_ eA (aa 1) aj (λ_ _=>rfl)) aj) ah)))))),?_⟩
 nofun;refine⟨ns,i+1-1,rfl,by lia,sp,_,Sub.refl _,?_⟩;have e:i+1-1=i:=by lia
 rw[e];exact hq
inductive YK (ds:List D)(q:List D->Prop):Prop where
 |mk (c n:Int) (_:ds=[.int c,.int n]) (_:0<=c) (_:1<=n) (_:n<=12) (_:∀xs:List Str,Row n.toNat xs->q (xs.map D.str))
def Ay :aL:=sM YK
theorem YL{k:Nat}(h:az K mg "_law_names" lh ["cell","many"])(G:Gs K mg):av P w K mg base (k+1) "_law_names" ["cell","many"] Ay:=show _ by
 refine h.lst jv (by rintro ds q ⟨c,n,e,_⟩;rw[e];rfl) λf cdv A outer s H E ds q hr ⟨c,n,e,hc,hn1,hn2,hq⟩=>?_;subst e;refine⟨_,(au (aH (i:=2) jv.nd rfl (Or.inr rfl) bE)
 (au (aH (i:=3) jv.nd rfl (Or.inl rfl) (aE dm aY (aa 0) aj))
 (au (e_ eD rfl (gH rfl G.range (ae (aE bX aY (aa 0) aj) ah)) (dv (i:=4) jv.nd rfl (Or.inl rfl)) (au (aH (i:=2) jv.nd rfl (Or.inr rfl) (aE rP sI (aa 2) (aA EU Gu bE (aE bX aY (aa 3) aj) (λ_ _=>rfl))))
 (ay (aH (i:=3) jv.nd rfl (Or.inl rfl) (aE dm aY (aa 3) aj)))))
 (au (aH (i:=5) jv.nd rfl (Or.inr rfl) (aE bX aY (aE dm aY (aa 0) aj) (aE mj jh (dH QV SA rfl G.len eC (ae (aa 2) ah)) aj)))
 (au (nR (i:=6) (cA:=ao lh) (N:=["cell","many","base","left","k","place","found","turn"]) (M:=["base","place"]) (js:=[2,5]) ⟨rfl,by cbv,by cbv,by cbv,by cbv,by cbv⟩ (by cbv) (by cbv) rfl (gH rfl G.range (ae (aa 1) ah)) (λ_ _ _ _ _=>fD) (λ_ _ _ _ _=>(aE rP sI (aE rP sI (eh pj pD (aa 1) eO (dU (aa 2))) (aA EU Gu bE (aa 0) (λ_ _=>rfl))) (eh pj pD (aa 1) (dU (aa 2)) eO))) jv.nd rfl rfl)
 (au (gK (fQ.pt (w_and (br o8 iG (aa 1) aj (bC _)) (pq (br cI fA (aE bX aY (aE dm aY (aa 0) aj) aj) aj (bC _))))) (ay (nR (i:=6) (cA:=ao lh) (N:=["cell","many","base","left","k","place","found","turn"]) (M:=["base"]) (js:=[2]) ⟨rfl,by cbv,by cbv,by cbv,by cbv,by cbv⟩ (by cbv) (by cbv) rfl (gH rfl G.range (ae (aa 1) ah)) (λ_ _ _ _ _=>fD) (λ_ _ _ _ _=>(aE rP sI (eh pj pD (aa 1) eO (dU aj)) (eh pj pD bE eO (dU (aE mj jh (aa 0) aj))))) jv.nd rfl rfl)) cw)
 (au (gK (fQ.pt (w_and (br o8 iG (aa 1) aj (bC _)) (pq (br cI fA (aE bX aY (aE dm aY (aa 0) aj) aj) aj (bC _))))) (ay (nR (i:=6) (cA:=ao lh) (N:=["cell","many","base","left","k","place","found","turn"]) (M:=["base"]) (js:=[2]) ⟨rfl,by cbv,by cbv,by cbv,by cbv,by cbv⟩ (by cbv) (by cbv) rfl (gH rfl G.range (ae (aa 1) ah)) (λ_ _ _ _ _=>fD) (λ_ _ _ _ _=>(aE rP sI (eh pj pD bE (dU (aE yr jh aj (aa 0))) eO) (eh pj pD (aa 1) eO (dU aj)))) jv.nd rfl rfl)) cw)
 (au (aH (i:=7) jv.nd rfl (Or.inl rfl) (aE bX aY (aE dm aY (aa 0) aj) (aa 1)))
 (ay (bz (aE u3 vq (eh jb ji (aa 6) (dU (aa 7)) eO) (eh jb ji (aa 6) eO (dU (aa 7)))))))))))))),?_⟩
 nofun;refine⟨λi σ S=>ow λ(lf:Int) (cs:List Nat) (x4:Option D)=>σ=[some (.int c),some (.int n),some (.str (textOf cs)),some (.int lf),x4,none,none,none]/\cs.length=i/\vU cs/\S=emp,
  ⟨_,[],none,rfl,rfl,λc hc=>by simp at hc,rfl⟩,λ_ _ _ _=>trivial,?turn,?done⟩
 case turn =>
  rintro i d σ S hd ⟨lf,cs,x4,rfl,hl,hL,rfl⟩;obtain⟨hi,rfl⟩:=gG hd;have YM:=qZ lf (show(0:Int)<26 by decide);have YN:=gS lf (show(26:Int)≠0 by decide);nofun;refine GK (cp:=97+(lf%26).toNat) ?_ ?_ ?_
  ·rw[Hf,gD];decide
  ·rw[Hf,mB];exact Hh YN YM
  refine sN (y:=textOf [97+(lf%26).toNat]) ?_ ?_
  ·rw[gD,gD];refine fB ?_;simp only[bp,cm];lia
  rw[si];nofun;refine⟨_,cs++[97+(lf%26).toNat],_,rfl,by simp[hl],λd hd=>?_,rfl⟩;rcases dh.mp hd with hd|hd
  ·exact hL d hd
  ·simp at hd;lia
 rintro σ S ⟨lf,cs,x4,rfl,hl,hL,rfl⟩;rw[dW]at hl;have YO:cs.length<=7:=by lia
 have lz:∀ds:List Nat,ds.length<=100->(textOf ds).length<=sizeLine:=λds h=>by rw[gD];exact fB (by lia)
 have hz:=lz cs (by lia);nofun;rw[gD];have p0:=gS (c/11) (show((cs.length:Int)+1)≠0 by lia);obtain⟨pl,YQ⟩:∃pl,(c/11)%((cs.length:Int)+1)=pl:=⟨_,rfl⟩;rw[YQ]at p0 ⊢;refine jr (λk=>.str (textOf (hU cs pl.toNat k))) (by rw[dW];exact cC (show n.toNat<=12 by lia) (by decide)) trivial ?e1 ?_
 case e1 =>
  intro i d hd P hP;obtain⟨hi,rfl⟩:=gG hd;nofun;refine pF hz ?_;rw[mB,vR p0];nofun;refine GK (cp:=97+i) ?_ ?_ ?_
  ·rw[Hg,gD];decide
  ·rw[Hg,mB,Hh (by lia) (by lia)];simp
  refine sN (y:=textOf [97+i]) ?_ ?_
  ·rw[gD,gD,dP];exact fB (by simp only[bp,cm];lia)
  rw[si];nofun;refine pF hz ?_;rw[mB,He p0];refine sN ?_ ?_
  ·rw[gD,gD,aR,dP,fg];exact fB (by simp only[bp,cm];lia)
  rw[si];exact hP
 rw[dW];intro D1 hD1;have Jw:n.toNat<=12:=by lia
 have m1:∀f:Nat->List Nat,((aZ n.toNat).map λk=>D.str (textOf (f k)))=((aZ n.toNat).map λk=>textOf (f k)).map D.str:=λf=>by rw[fY];rfl
 rw[m1];have R1:Row n.toNat ((aZ n.toNat).map λk=>textOf (hU cs pl.toNat k)):=U_ hL YO (by lia);nofun;refine hV (λσ T=>lq λ(r:Addr) (xs:List Str)=>σ=[some (.int c),some (.int n),some (.str (textOf cs)),some (.int lf),x4,some (.int pl),some (.ref r),none]/\T r=some (.lst (xs.map D.str))/\Row n.toNat xs) ?_ ?_
 ·intro n' hn';by_cases h5:n<5
  case neg =>
   nofun;exact hn' _ _ ⟨D1,_,rfl,ax,R1⟩
  by_cases e1:c/17%3=1
  case neg =>
   nofun;exact hn' _ _ ⟨D1,_,rfl,ax,R1⟩
  nofun;refine jr (λk=>.str (textOf (jm cs k))) (by rw[dW];exact cC Jw (by decide)) trivial ?e2 ?_
  case e2 =>
   intro i d hd P hP;obtain⟨hi,rfl⟩:=gG hd;nofun;refine pF hz ?_;rw[mB,vR (by decide)];nofun;refine pF (by rw[vT];exact lz _ (by decide)) ?_;rw[vT,mB,vR (by lia)];have ei:((0:Int)+(i:Int)+1).toNat=i+1:=by lia
   rw[ei];refine sN ?_ ?_
   ·rw[gD,gD,dP,dP];exact fB (by lia)
   rw[si];exact hP
  rw[dW];intro D2 hD2;rw[m1];nofun;exact hn' _ _ ⟨D2,_,rfl,ax,row2 hL (by lia)⟩
 clear R1;rintro σ T ⟨r,xs,rfl,hr1,R⟩;nofun;refine hV (λσ T=>lq λ(r:Addr) (xs:List Str)=>σ=[some (.int c),some (.int n),some (.str (textOf cs)),some (.int lf),x4,some (.int pl),some (.ref r),none]/\T r=some (.lst (xs.map D.str))/\Row n.toNat xs) ?_ ?_
 ·intro n' hn';by_cases h5:n<5
  case neg =>
   nofun;exact hn' _ _ ⟨r,xs,rfl,hr1,R⟩
  by_cases e2:c/17%3=2
  case neg =>
   nofun;exact hn' _ _ ⟨r,xs,rfl,hr1,R⟩
  nofun;refine jr (λk=>.str (textOf (pN cs k))) (by rw[dW];exact cC Jw (by decide)) trivial ?e3 ?_
  case e3 =>
   intro i d hd P hP;obtain⟨hi,rfl⟩:=gG hd;nofun;refine pF (by rw[vT];exact lz _ (by decide)) ?_;rw[vT,mB,He (by lia)];have ei:((3:Int)-(0+(i:Int))).toNat=3-i:=by lia
   rw[ei];nofun;refine pF hz ?_;rw[mB,vR (by decide)];refine sN ?_ ?_
   ·rw[gD,gD,dP,fg];exact fB (by simp only[bp,cm];lia)
   rw[si];exact hP
  rw[dW];intro D2 hD2;rw[m1];nofun;exact hn' _ _ ⟨D2,_,rfl,ax,U' hL (by lia)⟩
 rintro σ T' ⟨r,xs,rfl,hr1,R⟩;have t0:=gS (c/13) (show n≠0 by lia);nofun;rw[pM t0];intro p1 hp1;have hD4:=aD (o:=.lst ((xs.map D.str).drop (c/13%n).toNat)) hr1 hp1;nofun;rw[pL t0];intro p2 hp2;have hxl:=R.len;refine vC (aD ax hp2) ax ?_ ?_
 ·rw[fg,dP,aG];exact fB (by lia)
 intro r hr';refine⟨r,_,rfl,ax,?_⟩;have:=hq _ (R.turn (t:=(c/13%n).toNat));rw[da,DT,uy]at this;exact this
structure Plain(ps:List Str)(n:Nat)(s:Sy):Prop where
 wf:∀ar,s.wf ar ps
 deep:s.deep<=n
 sends:s.sends=0
 size:s.pre.length+1<=2^n
theorem mL(a:Sy)(as:List Sy):(Sy.a9 (a::as)).length=a.pre.length+(Sy.a9 as).length:=by simp[Sy.a9]
theorem oy(s:Sy):s.pre.length=1+(Sy.a9 s.parts).length:=by rw[Sy.pO];simp;lia
theorem mM{ps:List Str}{x:Str}(h:x∈ps):Plain ps 1 (.name x):=⟨λ_=>h,by simp[Sy.deep],by simp[Sy.sends,Sy.pre],by simp[Sy.pre]⟩
theorem Plain.one{ps:List Str}{n:Nat}{s:Sy}(h:Plain ps n s):(Sy.a9 [s]).length+2<=2^(n+1):=by
 have:=h.size;rw[mL,Nat.pow_succ];simp[Sy.a9];lia
theorem Plain.left{ps:List Str}{n:Nat}{s:Sy}(h:Plain ps n s):Plain ps (n+1) (.left s):=⟨h.wf,by have:=h.deep;simp only[Sy.deep];lia,by rw[Sy.iH];simp only[Sy.parts,Sy.gi,h.sends];simp[Sy.bT,Sy.a9],
 by have:=h.one;rw[oy];simp only[Sy.parts];lia⟩
theorem Plain.right{ps:List Str}{n:Nat}{s:Sy}(h:Plain ps n s):Plain ps (n+1) (.right s):=⟨h.wf,by have:=h.deep;simp only[Sy.deep];lia,by rw[Sy.iH];simp only[Sy.parts,Sy.gi,h.sends];simp[Sy.bT,Sy.a9],
 by have:=h.one;rw[oy];simp only[Sy.parts];lia⟩
theorem Plain.pair{ps:List Str}{n:Nat}{s t:Sy}(h:Plain ps n s)(h':Plain ps n t):Plain ps (n+1) (.pair s t):=⟨λar=>⟨h.wf ar,h'.wf ar⟩,by have:=h.deep;have:=h'.deep;simp only[Sy.deep];lia,by rw[Sy.iH];simp only[Sy.parts,Sy.gi,h.sends,h'.sends];simp[Sy.bT,Sy.a9],
 by have:=h.size;have:=h'.size;rw[oy,Nat.pow_succ];simp only[Sy.parts,mL];simp[Sy.a9];lia⟩
theorem Plain.mono{ps:List Str}{n m:Nat}{s:Sy}(h:Plain ps n s)(hm:n<=m):Plain ps m s:=⟨h.wf,cC h.deep hm,h.sends,cC h.size (Nat.pow_le_pow_right (by decide) hm)⟩
theorem Jx{S:af}{Q:K3}{a:Addr}{x y:D}{c:Int}(hS:S a=some (.lst [x,y]))(q0:Q x S)(q1:Q y S):vo (.ref a) (.int (c%2)) S Q:=by
 have m2:c%2=0∨c%2=1:=by lia
 rcases m2 with m|m
 ·exact fj hS (by rw[m];rfl) q0
 ·exact fj hS (by rw[m];rfl) q1
inductive YR (ds:List D)(q:D->Prop):Prop where
 |mk (cell:Int) (ps:List Str) (_:ds=[.int cell,.tup (ps.map D.str)]) (_:1<=ps.length) (_:ps.length<=4) (_:∀s:Sy,Plain ps 4 s->q s.d)
def Az :aL:=vS YR
theorem YS{k:Nat}(h:az K mg "_law_path" qp ["cell","params"])(G:Gs K mg):av P w K mg base (k+1) "_law_path" ["cell","params"] Az:=show _ by
 refine h.val wu (by rintro ds q ⟨_,_,e,_⟩;rw[e];rfl) λf cdv A outer s0 H E ds q hr hA=>?_;obtain⟨cell,ps,rfl,l1,l4,hq⟩:=hA;obtain⟨jp,vp,ejp,YT,hap⟩:=vV (f:=D.str) cell (show 0<ps.length by lia);have hpl:(0:Int)<((ps.map D.str).length:Int):=by rw[aG];lia
 have n4:0<=cell/4%4/\cell/4%4<4:=by lia
 refine⟨_,(au (aH (i:=2) wu.nd rfl (Or.inl rfl) (bw (ae bE (ae (aA aO aP (aa 1) (aE bX aY (aa 0) (dH eI eU rfl G.len eC (ae (aa 1) ah))) (λ_ _=>rfl)) ah))))
 (au (e_ eD rfl (gH rfl G.range (ae (aE bX aY (aE dm aY (aa 0) aj) aj) ah)) (dv (i:=3) wu.nd rfl (Or.inl rfl)) (ay (aH (i:=2) wu.nd rfl (Or.inl rfl) (bw (ae (aA d_ eA (dq (ae bE (ae bE ah))) (aE bX aY (aE dm aY (aa 0) (aA d_ eA (dq (ae aj (ae aj (ae aj ah)))) (aa 3) (λ_ _=>rfl))) aj) (λ_ _=>rfl)) (ae (aa 2) ah))))))
 (ay (bz (aa 2))))),?_⟩
 nofun;refine my hap ?_;nofun;refine⟨λi σ S=>lq λ(s:Sy) (x3:Option D)=>σ=[some (.int cell),some (.tup (ps.map D.str)),some s.d,x3]/\Plain ps (1+i) s,⟨.name vp,none,rfl,mM (c8 YT)⟩,λ_ _ _ _=>trivial,?_,?_⟩
 ·rintro i d σ S hd ⟨s,x3,rfl,hs⟩;obtain⟨hi,rfl⟩:=gG hd;nofun;intro p1 hp1;nofun;intro p2 hp2;nofun;have h3:i=0∨i=1∨i=2:=by lia
  have hl:=aD (o:=.lst [.int 16,.int 32,.int 64]) (ax (S:=S) (a:=p1) (o:=.lst [.str "left",.str "right"])) hp2;rcases h3 with rfl|rfl|rfl
  all_goals
   nofun;refine Jx hl ?_ ?_
   ·nofun;exact⟨.left s,_,rfl,by rw[<-kd];exact hs.left⟩
   ·nofun;exact⟨.right s,_,rfl,by rw[<-kd];exact hs.right⟩
 ·rintro σ S ⟨s,x3,rfl,hs⟩;rw[dW]at hs;nofun;exact hq s (hs.mono (by lia))
inductive YU (ds:List D)(q:D->Prop):Prop where
 |mk (cell:Int) (ps:List Str) (_:ds=[.int cell,.tup (ps.map D.str)]) (_:1<=ps.length) (_:ps.length<=4) (_:∀s:Sy,Plain ps 5 s->q s.d)
def tG :aL:=vS YU
theorem YV{k:Nat}(h:az K mg "_law_arg" qq ["cell","params"])(lu:av P w K mg base k "_law_path" ["cell","params"] Az):av P w K mg base (k+1) "_law_arg" ["cell","params"] tG:=show _ by
 refine h.val Yy (by rintro ds q ⟨_,_,e,_⟩;rw[e];rfl) λf cdv A outer s0 H E ds q hr hA=>?_;obtain⟨cell,ps,rfl,l1,l4,hq⟩:=hA;refine⟨_,(au (cy (br cI fA (aE bX aY (aa 0) aj) aj (bC _)) (ay (bz (bw (ae bE ah)))) cw)
 (au (cy (br cI fA (aE bX aY (aa 0) aj) aj (bC _)) (ay (bz (bw (ae bE (ae (aQ lu hr rfl (ae (aE dm aY (aa 0) aj) (ae (aa 1) ah))) (ae (aQ lu hr rfl (ae (aE dm aY (aa 0) aj) (ae (aa 1) ah))) ah)))))) cw)
 (ay (bz (aQ lu hr rfl (ae (aE dm aY (aa 0) aj) (ae (aa 1) ah))))))),?_⟩
 by_cases h0:cell%9=0
 ·nofun;exact hq .aI ⟨λ_=>trivial,by simp[Sy.deep],by simp[Sy.sends,Sy.pre],by simp[Sy.pre]⟩
 by_cases h1:cell%9=1
 ·nofun;refine⟨_,ps,rfl,l1,l4,λa ha=>?_⟩;nofun;refine⟨_,ps,rfl,l1,l4,λb hb=>?_⟩;nofun;exact hq (.pair a b) (ha.pair hb)
 ·nofun;refine⟨_,ps,rfl,l1,l4,λa ha=>?_⟩;nofun;exact hq a (ha.mono (by decide))
structure oA(ar:Str->Option Nat)(ps:List Str)(x:Str)(as:List Sy):Prop where
 ar:ar x=some as.length
 l1:1<=as.length
 l4:as.length<=4
 plain:∀a∈as,Plain ps 5 a
inductive YW (ds:List D)(S:af)(q:D->Addr->O->Prop):Prop where
 |mk (ns:List Int) (sp nm ct:Addr) (i:Int) (rest:List D) (names ps:List Str) (counts:List Nat) (_:ds=[.bH (ns.map D.int),.ref sp,.ref nm,.ref ct,.tup (ps.map D.str)]) (_:S sp=some (.lst (.int i::rest))) (_:S nm=some (.lst (names.map D.str))) (_:S ct=some (.lst (cD counts))) (_:sp≠nm) (_:sp≠ct) (_:0<=i) (_:1<=ps.length) (_:ps.length<=4) (_:1<=names.length) (_:names.Nodup) (_:names.length=counts.length) (_:(∀c∈counts,1<=c/\c<=4)) (_:∀(x:Str) (as:List Sy) (i2:Int),oA (cM names counts) ps x as->0<=i2->q (Sy.send x as).d sp (.lst (.int i2::rest)))
def tH :aL:=kP YW
theorem YX{k:Nat}(h:az K mg "_law_send" oo ["script","spot","names","counts","params"])(G:Gs K mg)(dJ:av P w K mg base k "_law_next" ["script","spot"] ox)(iP:av P w K mg base k "_law_arg" ["cell","params"] tG) :
 av P w K mg base (k+1) "_law_send" ["script","spot","names","counts","params"] tH:=show _ by
 refine h.kP Jl (by rintro ds S q ⟨_,_,_,_,_,_,_,_,_,e,_⟩;rw[e];rfl) λf cdv A outer s0 H E ds S q hr hA=>?_;obtain⟨ns,sp,nm,ct,i,rest,names,ps,counts,rfl,hsp,hnm,hct,n1,n2,hi,l1,l4,m1,nd,j9,hc4,hq⟩:=hA;refine⟨_,(au (aH (i:=5) Jl.nd rfl (Or.inl rfl) (aE bX aY (aQ dJ hr rfl (ae (aa 0) (ae (aa 1) ah))) (dH eI eU rfl G.len eC (ae (aa 2) ah))))
 (ay (bz (bw (ae bE (ae (aA d_ eA (aa 2) (aa 5) (λ_ _=>rfl)) (ae (iF jd jj rfl G.tuple jJ (ae (k9 (cA:=ao oo) (N:=["script","spot","names","counts","params","to"]) (M:=["script","spot","params"]) (js:=[0,1,4]) ⟨rfl,by cbv,by cbv,by cbv,by cbv,by cbv⟩ (by cbv) (by cbv) rfl (gH rfl G.range (ae (aA d_ eA (aa 3) (aa 5) (λ_ _=>rfl)) ah)) (λ_ _ _ _ _=>fD) (λ_ _ _ _ _=>(aQ iP hr rfl (ae (aQ dJ hr rfl (ae (aa 1) (ae (aa 2) ah))) (ae (aa 3) ah))))) ah)) ah))))))),?_⟩
 have hnl:(0:Int)<((names.map D.str).length:Int):=by rw[aG];lia
 have hU:∀o,up S sp o nm=some (.lst (names.map D.str)):=λo=>by rw[aW (bt n1)];exact hnm
 have tI:∀o,up S sp o ct=some (.lst (cD counts)):=λo=>by rw[aW (bt n2)];exact hct
 nofun;refine⟨ns,sp,i,rest,rfl,hsp,hi,?_⟩;have jm:=hU (.lst (.int (i+1)::rest));have wB:=tI (.lst (.int (i+1)::rest));obtain⟨jt,vt,wC,tJ,hat⟩:=vV (f:=D.str) (cellAt ns i) (show 0<names.length by lia);have AA:jt<counts.length:=by rw[<-j9];exact(b4.mp tJ).1
 obtain⟨cn,hcn⟩:∃cn,counts[jt]?=some cn:=⟨_,aU AA⟩;have AB:=hc4 cn (c8 hcn);have har:cM names counts vt=some cn:=sT nd tJ hcn;nofun;refine fj jm hat ?_;nofun;refine fj wB (d:=.int cn) (by rw[wC];refine fP ?_;rw[a7,hcn];rfl) ?_;nofun;refine⟨λj ys S'=>∃as:List Sy,ys=as.map Sy.d/\as.length=j/\j<=cn/\(∀a∈as,Plain ps 5 a)/\S'=up S sp (.lst (.int (i+1+j)::rest)),⟨[],rfl,rfl,bV _,by simp,by simp⟩,?_,?_,?_⟩
 ·rintro j ys S' ⟨as,rfl,hl,hj,_,rfl⟩;exact⟨trivial,by rw[aG];exact c6 (by lia)⟩
 ·rintro j d ys S' hd ⟨as,rfl,hl,hj,hpl,rfl⟩;obtain⟨hj',rfl⟩:=gG hd;refine zU (v9 ?_);rw[if_pos rfl];nofun;refine⟨ns,sp,i+1+j,rest,rfl,ax,by lia,?_⟩;nofun;refine⟨_,ps,rfl,l1,l4,λa ha=>?_⟩;refine⟨as++[a],by simp,by simp[hl],by lia,λb hb=>?_,?_⟩
  ·rcases dh.mp hb with hb|hb
   ·exact hpl b hb
   ·rw[ft.mp hb];exact ha
  ·rw[kM];have:i+1+(j:Int)+1=i+1+((j+1:Nat):Int):=by lia
   rw[this]
 rintro ys S' ⟨as,rfl,hl,hj,hpl,rfl⟩;rw[dW,jD]at hl;intro p1 hp1;nofun;have e:D.tup [.str "send",.str vt,.tup (as.map Sy.d)]=(Sy.send vt as).d:=by simp only[Sy.d,Sy.nM]
 rw[e];exact⟨sp,_,((Px.refl sp S).at.new hp1).sub (aD ax hp1),hq vt as _ ⟨by rw[hl];exact har,by lia,by lia,hpl⟩ (by lia)⟩
structure Bd(ar:Str->Option Nat)(ps:List Str)(n m z:Nat)(s:Sy):Prop where
 wf:s.wf ar ps
 deep:s.deep<=n
 sends:s.sends<=m
 size:s.pre.length<=z
theorem Plain.bd{ar:Str->Option Nat}{ps:List Str}{n:Nat}{s:Sy}(h:Plain ps n s):Bd ar ps n 0 (2^n) s:=⟨h.wf ar,h.deep,by rw[h.sends];exact aT _,by have:=h.size;lia⟩
theorem Bd.mono{ar:Str->Option Nat}{ps:List Str}{n m z n' m' z':Nat}{s:Sy}(h:Bd ar ps n m z s)(h1:n<=n')(h2:m<=m')(h3:z<=z'):Bd ar ps n' m' z' s:=⟨h.wf,cC h.deep h1,cC h.sends h2,cC h.size h3⟩
theorem Bd.pair{ar:Str->Option Nat}{ps:List Str}{n m z m' z':Nat}{s t:Sy}(h:Bd ar ps n m z s)(h':Bd ar ps n m' z' t):Bd ar ps (n+1) (m+m') (1+z+z') (.pair s t) :=
 ⟨⟨h.wf,h'.wf⟩,by have:=h.deep;have:=h'.deep;simp only[Sy.deep];lia,by have:=h.sends;have:=h'.sends;rw[Sy.iH];simp only[Sy.parts,Sy.gi];simp[Sy.bT,Sy.a9];lia,
  by have:=h.size;have:=h'.size;rw[oy];simp only[Sy.parts,mL];simp[Sy.a9];lia⟩
theorem Bd.fork{ar:Str->Option Nat}{ps:List Str}{n m z m' z' m2 z2:Nat}{s t u:Sy}(h:Bd ar ps n m z s)(h':Bd ar ps n m' z' t)(h2:Bd ar ps n m2 z2 u):Bd ar ps (n+1) (m+m'+m2) (1+z+z'+z2) (.fork s t u) :=
 ⟨⟨h.wf,h'.wf,h2.wf⟩,by have:=h.deep;have:=h'.deep;have:=h2.deep;simp only[Sy.deep];lia,by have:=h.sends;have:=h'.sends;have:=h2.sends;rw[Sy.iH];simp only[Sy.parts,Sy.gi];simp[Sy.bT,Sy.a9];lia,
  by have:=h.size;have:=h'.size;have:=h2.size;rw[oy];simp only[Sy.parts,mL];simp[Sy.a9];lia⟩
theorem AD{ps:List Str}:∀{as:List Sy},(∀a∈as,Plain ps 5 a)->Sy.bT as=0/\(Sy.a9 as).length<=31*as.length
 |[],_=>by simp[Sy.bT,Sy.a9]
 |a::as,h=>by
  have h1:=h a cL;have h2:=AD (as:=as) λb hb=>h b (cO _ hb);have:=h1.sends;have:=h1.size;rw[Sy.gi,mL,bp];lia
theorem oA.bd{ar:Str->Option Nat}{ps:List Str}{x:Str}{as:List Sy}(h:oA ar ps x as):Bd ar ps 6 1 125 (.send x as):=show _ by
 obtain⟨h1,h2⟩:=AD h.plain;have:=h.l4;refine⟨⟨h.ar,h.l1,h.l4,Sy.zJ.mpr λa ha=>(h.plain a ha).wf ar⟩,?_,?_,?_⟩
 ·have:=Sy.zK (as:=as) (n:=5) λa ha=>(h.plain a ha).deep;simp only[Sy.deep];lia
 ·rw[Sy.iH];simp only[Sy.parts];lia
 ·rw[oy];simp only[Sy.parts];lia
theorem oA.put{ar:Str->Option Nat}{ps:List Str}{x:Str}{as:List Sy}{n m z:Nat}(h:oA ar ps x as)(hn:5<=n)(bs:List Sy)(hb:∀b∈bs,b.wf ar ps/\b.deep<=n)(hs:Sy.bT bs<=m)(hz:(Sy.a9 bs).length<=z)(hl:bs.length<=as.length)(h1:1<=bs.length) :
 Bd ar ps (n+1) (m+1) (1+z+124) (.send x (bs++as.drop bs.length)):=show _ by
 have hp:∀a∈as.drop bs.length,Plain ps 5 a:=λa ha=>h.plain a (DC ha);obtain⟨e1,e2⟩:=AD hp;have:=h.l4;have hlen:(bs++as.drop bs.length).length=as.length:=by rw[aR,fg];lia
 have hall:∀a∈bs++as.drop bs.length,a.wf ar ps/\a.deep<=n:=λa ha=>by
  rcases dh.mp ha with ha|ha
  ·exact hb a ha
  ·exact⟨(hp a ha).wf ar,cC (hp a ha).deep hn⟩
 rw[fg]at e2;refine⟨⟨by rw[hlen];exact h.ar,by rw[hlen];exact h.l1,by rw[hlen];exact h.l4,Sy.zJ.mpr λa ha=>(hall a ha).1⟩,?_,?_,?_⟩
 ·have:=Sy.zK (as:=bs++as.drop bs.length) (n:=n) λa ha=>(hall a ha).2;simp only[Sy.deep];lia
 ·rw[Sy.iH];simp only[Sy.parts,Sy.Va];lia
 ·rw[oy];simp only[Sy.parts,Sy.sS,aR];lia
inductive YY (ds:List D)(S:af)(q:D->Addr->O->Prop):Prop where
 |mk (ns:List Int) (sp nm ct:Addr) (i:Int) (rest:List D) (names ps:List Str) (counts:List Nat) (_:ds=[.bH (ns.map D.int),.ref sp,.ref nm,.ref ct,.tup (ps.map D.str)]) (_:S sp=some (.lst (.int i::rest))) (_:S nm=some (.lst (names.map D.str))) (_:S ct=some (.lst (cD counts))) (_:sp≠nm) (_:sp≠ct) (_:0<=i) (_:1<=ps.length) (_:ps.length<=4) (_:1<=names.length) (_:names.Nodup) (_:names.length=counts.length) (_:(∀c∈counts,1<=c/\c<=4)) (_:∀(s:Sy) (i2:Int),Bd (cM names counts) ps 12 6 1500 s->0<=i2->q s.d sp (.lst (.int i2::rest)))
def Jy :aL:=kP YY
theorem YZ{k:Nat}(h:az K mg "_law_body" qr ["script","spot","names","counts","params"])(G:Gs K mg)(dJ:av P w K mg base k "_law_next" ["script","spot"] ox)(iP:av P w K mg base k "_law_arg" ["cell","params"] tG)
 (lu:av P w K mg base k "_law_path" ["cell","params"] Az) (oB:av P w K mg base k "_law_send" ["script","spot","names","counts","params"] tH) :
 av P w K mg base (k+1) "_law_body" ["script","spot","names","counts","params"] Jy:=show _ by
 refine h.kP jw (by rintro ds S q ⟨_,_,_,_,_,_,_,_,_,e,_⟩;rw[e];rfl) λf cdv A outer s0 H E ds S q hr hA=>?_;obtain⟨ns,sp,nm,ct,i,rest,names,ps,counts,rfl,hsp,hnm,hct,n1,n2,hi,l1,l4,m1,nd,j9,hc4,hq⟩:=hA;refine⟨_,(au (aH (i:=5) jw.nd rfl (Or.inl rfl) (aQ dJ hr rfl (ae (aa 0) (ae (aa 1) ah))))
 (au (aH (i:=6) jw.nd rfl (Or.inl rfl) (aQ oB hr rfl (ae (aa 0) (ae (aa 1) (ae (aa 2) (ae (aa 3) (ae (aa 4) ah)))))))
 (au (gK (br cI fA (aE bX aY (aa 5) aj) aj (bC _)) (ay (aH (i:=6) jw.nd rfl (Or.inl rfl) (bw (ae bE (ae (aa 6) (ae (aQ lu hr rfl (ae (aE dm aY (aa 5) aj) (ae (aa 4) ah))) ah)))))) cw)
 (au (gK (br cI fA (aE bX aY (aa 5) aj) aj (bC _)) (au (aH (i:=7) jw.nd rfl (Or.inl rfl) (aQ oB hr rfl (ae (aa 0) (ae (aa 1) (ae (aa 2) (ae (aa 3) (ae (aa 4) ah)))))))
 (au (aH (i:=8) jw.nd rfl (Or.inl rfl) (aE yE GH (bw (ae (aa 6) ah)) (eh vv vw (aA aO aP (aa 7) aj (λ_ _=>rfl)) (dU aj) eO)))
 (au (gK (fQ.pt (w_and (br cI fA (aE bX aY (aE dm aY (aa 5) aj) aj) aj (bC _)) (pq (br yw iG (dH eI eU rfl G.len eC (ae (aa 8) ah)) aj (bC _))))) (ay (aH (i:=8) jw.nd rfl (Or.inl rfl) (aE yE GH (bw (ae (aa 6) (ae (aQ oB hr rfl (ae (aa 0) (ae (aa 1) (ae (aa 2) (ae (aa 3) (ae (aa 4) ah)))))) ah))) (eh vv vw (aa 8) (dU aj) eO)))) cw)
 (ay (aH (i:=6) jw.nd rfl (Or.inl rfl) (bw (ae bE (ae (aA aO aP (aa 7) aj (λ_ _=>rfl)) (ae (aa 8) ah))))))))) cw)
 (au (gK (br cI fA (aE bX aY (aa 5) aj) aj (bC _)) (ay (aH (i:=6) jw.nd rfl (Or.inl rfl) (bw (ae bE (ae (aa 6) (ae (aQ oB hr rfl (ae (aa 0) (ae (aa 1) (ae (aa 2) (ae (aa 3) (ae (aa 4) ah)))))) ah)))))) cw)
 (au (aH (i:=9) jw.nd rfl (Or.inl rfl) (aQ iP hr rfl (ae (aE dm aY (aa 5) aj) (ae (aa 4) ah))))
 (au (gK (br cI fA (aE bX aY (aE dm aY (aa 5) aj) aj) aj (bC _)) (ay (aH (i:=9) jw.nd rfl (Or.inl rfl) (aQ oB hr rfl (ae (aa 0) (ae (aa 1) (ae (aa 2) (ae (aa 3) (ae (aa 4) ah)))))))) cw)
 (au (gK (br cI fA (aE bX aY (aE dm aY (aa 5) aj) aj) aj (bC _)) (ay (bz (aa 6))) cw)
 (ay (bz (bw (ae bE (ae (aQ lu hr rfl (ae (aQ dJ hr rfl (ae (aa 0) (ae (aa 1) ah))) (ae (aa 4) ah))) (ae (aa 6) (ae (aa 9) ah))))))))))))))),?_⟩
 have hU:∀o,up S sp o nm=some (.lst (names.map D.str)):=λo=>by rw[aW (bt n1)];exact hnm
 have tI:∀o,up S sp o ct=some (.lst (cD counts)):=λo=>by rw[aW (bt n2)];exact hct
 have fin:∀(s:Sy) (i2:Int),Bd (cM names counts) ps 12 6 1500 s->0<=i2->∃a o,Sub (up S a o) (up S sp (.lst (.int i2::rest)))/\q s.d a o:=λs i2 h1 h2=>⟨sp,_,Sub.refl _,hq s i2 h1 h2⟩;have snd:∀(i1:Int) (Q:K3),0<=i1->(∀(x:Str) (as:List Sy) (i2:Int),oA (cM names counts) ps x as->0<=i2->Q (Sy.send x as).d (up S sp (.lst (.int i2::rest)))) ->
  tH [.bH (ns.map D.int),.ref sp,.ref nm,.ref ct,.tup (ps.map D.str)] (up S sp (.lst (.int i1::rest))) Q (λ_ _ _=>False):=λi1 Q h1 h2 =>
  ⟨ns,sp,nm,ct,i1,rest,names,ps,counts,rfl,ax,hU _,tI _,n1,n2,h1,l1,l4,m1,nd,j9,hc4,λx as i2 ho hi2=>by
   show Q _ (up (up S sp _) sp _);rw[kM];exact h2 x as i2 ho hi2⟩
 nofun;refine⟨ns,sp,i,rest,rfl,hsp,hi,?_⟩;generalize cellAt ns i=shape;nofun;refine snd _ _ (by lia) λx0 as0 i0 Jz hi0=>?_;nofun;refine hV (λσ T=>∃(s:Sy),σ=[some (.bH (ns.map D.int)),some (.ref sp),some (.ref nm),some (.ref ct),some (.tup (ps.map D.str)),some (.int shape),some s.d,none,none,none]/\T=up S sp (.lst (.int i0::rest))/\Bd (cM names counts) ps 7 1 200 s) ?_ ?_
 ·intro n' hn';by_cases c1:shape%4=1
  ·nofun;refine⟨_,ps,rfl,l1,l4,λp hp=>?_⟩;nofun;exact hn' _ _ ⟨.pair (.send x0 as0) p,rfl,rfl,(Jz.bd.pair (hp.bd.mono (n':=6) (by decide) (aT _) (aT _))).mono (by decide) (by decide) (by decide)⟩
  ·nofun;exact hn' _ _ ⟨.send x0 as0,rfl,rfl,Jz.bd.mono (by decide) (by decide) (by decide)⟩
 rintro σ T ⟨s,rfl,rfl,hs⟩;nofun;refine hV (λσ T=>lr λ(s:Sy) (x7 x8:Option D) (i1:Int)=>σ=[some (.bH (ns.map D.int)),some (.ref sp),some (.ref nm),some (.ref ct),some (.tup (ps.map D.str)),some (.int shape),some s.d,x7,x8,none]/\0<=i1/\T=up S sp (.lst (.int i1::rest))/\Bd (cM names counts) ps 8 3 600 s) ?_ ?_
 ·intro n' hn';by_cases c1:shape%4=2
  ·nofun;refine snd _ _ (by lia) λx1 as1 i1 ho1 hi1=>?_;simp only[Sy.d,Sy.nM];have hl1:=ho1.l1;have We:=ho1.l4;nofun;rw[pM (by decide)];refine GP (by simp) (fB (by simp;lia)) ?_;nofun;have er:[s.d]++(as1.map Sy.d).drop (rg 1)=([s]++as1.drop [s].length).map Sy.d:=by simp
   rw[er];refine hV (λσ T=>lq λ(bs:List Sy) (i2:Int)=>σ=[some (.bH (ns.map D.int)),some (.ref sp),some (.ref nm),some (.ref ct),some (.tup (ps.map D.str)),some (.int shape),some s.d,some (.tup [.str "send",.str x1,.tup (as1.map Sy.d)]),some (.tup ((bs++as1.drop bs.length).map Sy.d)),none] /\
    0<=i2/\T=up S sp (.lst (.int i2::rest))/\(∀b∈bs,b.wf (cM names counts) ps/\b.deep<=7)/\Sy.bT bs<=2/\(Sy.a9 bs).length<=325/\bs.length<=as1.length/\1<=bs.length) ?_ ?_
   ·intro n2 hn2;have one:Sy.bT [s]<=1/\(Sy.a9 [s]).length<=200:=by
     have:=hs.sends;have:=hs.size;rw[Sy.gi,mL];simp[Sy.bT,Sy.a9];lia
    have stay:n2 [some (.bH (ns.map D.int)),some (.ref sp),some (.ref nm),some (.ref ct),some (.tup (ps.map D.str)),some (.int shape),some s.d,some (.tup [.str "send",.str x1,.tup (as1.map Sy.d)]),some (.tup (([s]++as1.drop [s].length).map Sy.d)),none] (up S sp (.lst (.int i1::rest))) :=
     hn2 _ _ ⟨[s],i1,rfl,hi1,rfl,λb hb=>by rw[ft.mp hb];exact⟨hs.wf,hs.deep⟩,by lia,by lia,by simpa using hl1,by simp⟩
    have aiD:((([s]++as1.drop [s].length).map Sy.d).length:Int)=(as1.length:Int):=by
     rw[aG,aR,fg];simp;lia
    by_cases c2:shape/20%3=1
    ·by_cases c3:(1:Int)<(as1.length:Int)
     ·nofun;refine snd _ _ (by lia) λx2 as2 i2 ho2 hi2=>?_;nofun;rw[pM (by decide)];refine GP (by simp) (fB (by simp;lia)) ?_;have e2:[s.d,(Sy.send x2 as2).d]++(([s]++as1.drop [s].length).map Sy.d).drop (rg 2)=([s,.send x2 as2]++as1.drop [s,.send x2 as2].length).map Sy.d:=by simp
      rw[e2];have b2:=ho2.bd;refine hn2 _ _ ⟨[s,.send x2 as2],i2,rfl,hi2,rfl,λb hb=>?_,?_,?_,?_,by simp⟩
      ·simp only[bJ,cQ,or_false]at hb;rcases hb with rfl|rfl
       ·exact⟨hs.wf,hs.deep⟩
       ·exact⟨b2.wf,cC b2.deep (by decide)⟩
      ·have:=hs.sends;have:=b2.sends;rw[Sy.gi,Sy.gi];simp[Sy.bT,Sy.a9];lia
      ·have:=hs.size;have:=b2.size;rw[mL,mL];simp[Sy.a9];lia
      ·simp;lia
     ·nofun;exact stay
    ·nofun;exact stay
   rintro σ T ⟨bs,i2,rfl,hi2,rfl,hb1,hb2,hb3,hb4,Y0⟩;nofun;refine hn' _ _ ⟨.send x1 (bs++as1.drop bs.length),_,_,i2,by simp only[Sy.d,Sy.nM];rfl,hi2,rfl,(ho1.put (by decide) bs hb1 hb2 hb3 hb4 Y0).mono (by decide) (by decide) (by decide)⟩
  ·nofun;exact hn' _ _ ⟨s,none,none,i0,rfl,hi0,rfl,hs.mono (by decide) (by decide) (by decide)⟩
 rintro σ T ⟨s,x7,x8,i1,rfl,hi1,rfl,hs⟩;nofun;refine hV (λσ T=>lq λ(s:Sy) (i2:Int)=>σ=[some (.bH (ns.map D.int)),some (.ref sp),some (.ref nm),some (.ref ct),some (.tup (ps.map D.str)),some (.int shape),some s.d,x7,x8,none]/\0<=i2/\T=up S sp (.lst (.int i2::rest))/\Bd (cM names counts) ps 9 4 800 s) ?_ ?_
 ·intro n' hn';by_cases c1:shape%4=3
  ·nofun;refine snd _ _ (by lia) λx2 as2 i2 ho2 hi2=>?_;nofun;exact hn' _ _ ⟨.pair s (.send x2 as2),i2,rfl,hi2,rfl,(hs.pair (ho2.bd.mono (n':=8) (by decide) (aT _) (aT _))).mono (by decide) (by decide) (by decide)⟩
  ·nofun;exact hn' _ _ ⟨s,i1,rfl,hi1,rfl,hs.mono (by decide) (by decide) (by decide)⟩
 rintro σ T ⟨s,i2,rfl,hi2,rfl,hs⟩;nofun;refine⟨_,ps,rfl,l1,l4,λa ha=>?_⟩;nofun;refine hV (λσ T=>lq λ(t:Sy) (i3:Int)=>σ=[some (.bH (ns.map D.int)),some (.ref sp),some (.ref nm),some (.ref ct),some (.tup (ps.map D.str)),some (.int shape),some s.d,x7,x8,some t.d]/\0<=i3/\T=up S sp (.lst (.int i3::rest))/\Bd (cM names counts) ps 9 1 125 t) ?_ ?_
 ·intro n' hn';by_cases c1:shape/4%5=1
  ·nofun;refine snd _ _ (by lia) λx2 as2 i3 ho2 lB=>?_;nofun;exact hn' _ _ ⟨.send x2 as2,i3,rfl,lB,rfl,ho2.bd.mono (by decide) (by decide) (by decide)⟩
  ·nofun;exact hn' _ _ ⟨a,i2,rfl,hi2,rfl,ha.bd.mono (by decide) (by decide) (by decide)⟩
 rintro σ T ⟨t,i3,rfl,lB,rfl,ht⟩;nofun;refine hV (λσ T=>σ=[some (.bH (ns.map D.int)),some (.ref sp),some (.ref nm),some (.ref ct),some (.tup (ps.map D.str)),some (.int shape),some s.d,x7,x8,some t.d]/\T=up S sp (.lst (.int i3::rest))) ?_ ?_
 ·intro n' hn';by_cases c1:shape/4%5=2
  ·nofun;exact fin s i3 (hs.mono (by decide) (by decide) (by decide)) lB
  ·nofun;exact hn' _ _ ⟨rfl,rfl⟩
 rintro σ T ⟨rfl,rfl⟩;nofun;refine⟨ns,sp,i3,rest,rfl,ax,lB,?_⟩;nofun;refine⟨_,ps,rfl,l1,l4,λp hp=>?_⟩;nofun;rw[kM];exact fin (.fork p s t) _ (((hp.bd.mono (n':=9) (by decide) (aT _) (aT _)).fork hs ht).mono (by decide) (by decide) (by decide)) (by lia)
structure Pg(prog:List Er):Prop where
 wD:1<=prog.length
 len:prog.length<=12
 nd:(prog.map Er.name).Nodup
 nm:∀e∈prog,mz e.name
 ps:∀e∈prog,1<=e.ps.length/\e.ps.length<=4/\e.ps.Nodup/\∀x∈e.ps,mz x
 body:∀e∈prog,Bd (eV prog) e.ps 12 12 5000 e.body
structure JA(ar:Str->Option Nat)(e:Er):Prop where
 l1:1<=e.ps.length
 l4:e.ps.length<=4
 nd:e.ps.Nodup
 ok:∀x∈e.ps,mz x
 bd:Bd ar e.ps 12 6 1500 e.body
inductive Y1 (ds:List D)(S:af)(q:List D->Addr->O->Prop):Prop where
 |mk (ns:List Int) (sp:Addr) (i most:Int) (rest:List D) (_:ds=[.bH (ns.map D.int),.ref sp,.int most]) (_:S sp=some (.lst (.int i::rest))) (_:0<=i) (_:1<=most) (_:most<=12) (_:∀(prog:List Er) (i2:Int),Pg prog->prog.length<=most.toNat->0<=i2->q (prog.map Er.d) sp (.lst (.int i2::rest)))
def wF :aL:=nJ Y1
theorem Y2{k:Nat}(h:az K mg "_law_program" oq ["script","spot","most"])(G:Gs K mg)(dJ:av P w K mg base k "_law_next" ["script","spot"] ox)(mO:av P w K mg base k "_law_names" ["cell","many"] Ay)
 (AE:av P w K mg base k "_law_body" ["script","spot","names","counts","params"] Jy):av P w K mg base (k+1) "_law_program" ["script","spot","most"] wF:=show _ by
 refine h.nJ lj (by rintro ds S q ⟨_,_,_,_,_,e,_⟩;rw[e];rfl) λf cdv A outer s H E ds S q hr hA=>?_;obtain⟨ns,sp,i,most,rest,rfl,hsp,hi,m1,wG,hq⟩:=hA;refine⟨_,(au (aH (i:=3) lj.nd rfl (Or.inr rfl) (aQ dJ hr rfl (ae (aa 0) (ae (aa 1) ah))))
 (au (aH (i:=4) lj.nd rfl (Or.inl rfl) (aE mj jh aj (aE bX aY (aa 3) (aa 2))))
 (au (aH (i:=5) lj.nd rfl (Or.inl rfl) (aQ mO hr rfl (ae (aE bX aY (aE dm aY (aa 3) (aa 2)) (aE rM aY aj aj)) (ae (aa 4) ah))))
 (au (aH (i:=6) lj.nd rfl (Or.inl rfl) (aQ mO hr rfl (ae (aE bX aY (aQ dJ hr rfl (ae (aa 0) (ae (aa 1) ah))) (aE rM aY aj aj)) (ae aj ah))))
 (au (nR (i:=7) (cA:=ao oq) (N:=["script","spot","most","head","many","names","params","counts","program","k","mine"]) (M:=["head"]) (js:=[3]) ⟨rfl,by cbv,by cbv,by cbv,by cbv,by cbv⟩ (by cbv) (by cbv) rfl (gH rfl G.range (ae (aa 4) ah)) (λ_ _ _ _ _=>fD) (λ_ _ _ _ _=>(aA d_ eA (dq (ae aj (ae aj (ae aj (ae aj (ae aj ah)))))) (aE bX aY (aE dm aY (aa 1) (aE Ej aY aj (aE mj jh (aa 0) aj))) aj) (λ_ _=>rfl))) lj.nd rfl rfl)
 (au (aH (i:=8) lj.nd rfl (Or.inl rfl) (dq ah))
 (au (e_ eD rfl (gH rfl G.range (ae (aa 4) ah)) (dv (i:=9) lj.nd rfl (Or.inl rfl)) (au (aH (i:=10) lj.nd rfl (Or.inl rfl) (iF jd jj rfl G.tuple jJ (ae (eh jb ji (aE u3 vq (eh jb ji (aa 6) (dU (aE bX aY (aa 9) aj)) eO) (eh jb ji (aa 6) eO (dU (aE bX aY (aa 9) aj)))) eO (dU (aA d_ eA (aa 7) (aa 9) (λ_ _=>rfl)))) ah)))
 (ay (b8 (cZ bW c_ dj cY de (aa 8) (ae (bw (ae (aA d_ eA (aa 5) (aa 9) (λ_ _=>rfl)) (ae (aa 10) (ae (aQ AE hr rfl (ae (aa 0) (ae (aa 1) (ae (aa 5) (ae (aa 7) (ae (aa 10) ah)))))) ah)))) ah))))))
 (ay (bz (aa 8)))))))))),?_⟩
 nofun;refine⟨ns,sp,i,rest,rfl,hsp,hi,?_⟩;generalize cellAt ns i=head;have hm0:=gS head (show most≠0 by lia);have hm1:=qZ head (show 0<most by lia);have Y3:(0:Int)<10^(rg 14):=by decide
 nofun;refine⟨_,_,rfl,gS _ (by decide),by lia,by lia,λnames Rn=>?_⟩;intro nm hnm;have n1:sp≠nm:=ne3 ax hnm;nofun;refine⟨ns,sp,i+1,rest,rfl,aD ax hnm,by lia,?_⟩;generalize cellAt ns (i+1)=c2;nofun;refine⟨_,4,rfl,gS _ (by decide),by lia,by lia,λpp Rp=>?_⟩;intro pm hpm;nofun;generalize AF:1+head%most=many;have Y4:1<=many:=by lia
 have h12:many<=most:=by lia
 obtain⟨cnt,tK⟩:∃cnt:Nat->Nat,∀k:Nat,b5 [D.int 2,.int 1,.int 2,.int 2,.int 3] (head/(7*(0+(k:Int)+1))%5)=some (.int (cnt k:Int))/\1<=cnt k/\cnt k<=4:=by
  have:∀k:Nat,∃c:Nat,b5 [D.int 2,.int 1,.int 2,.int 2,.int 3] (head/(7*(0+(k:Int)+1))%5)=some (.int (c:Int))/\1<=c/\c<=4:=λk=>by
   generalize head/(7*(0+(k:Int)+1))=x;have h5:x%5=0∨x%5=1∨x%5=2∨x%5=3∨x%5=4:=by lia
   rcases h5 with e|e|e|e|e
   ·exact⟨2,by rw[e];rfl,by decide,by decide⟩
   ·exact⟨1,by rw[e];rfl,by decide,by decide⟩
   ·exact⟨2,by rw[e];rfl,by decide,by decide⟩
   ·exact⟨2,by rw[e];rfl,by decide,by decide⟩
   ·exact⟨3,by rw[e];rfl,by decide,by decide⟩
  exact⟨λk=>(this k).choose,λk=>(this k).choose_spec⟩
 have bF:=aD (o:=.lst (pp.map D.str)) (ax (S:=up (up S sp (.lst (.int (i+1)::rest))) nm (.lst (names.map D.str))) (a:=sp) (o:=.lst (.int (i+1+1)::rest))) hpm;have bD:up (up (up (up S sp (.lst (.int (i+1)::rest))) nm (.lst (names.map D.str))) sp (.lst (.int (i+1+1)::rest))) pm (.lst (pp.map D.str)) nm=some (.lst (names.map D.str)) :=
  aD (by rw[aW (bt n1)];exact ax) hpm
 have bU:up (up (up (up S sp (.lst (.int (i+1)::rest))) nm (.lst (names.map D.str))) sp (.lst (.int (i+1+1)::rest))) pm (.lst (pp.map D.str)) pm=some (.lst (pp.map D.str)):=ax;have bI:Px sp S (up (up (up (up S sp (.lst (.int (i+1)::rest))) nm (.lst (names.map D.str))) sp (.lst (.int (i+1+1)::rest))) pm (.lst (pp.map D.str))):=((Px.refl sp S).at.new hnm).at.new hpm;have tL:sp≠pm:=ne3 ax hpm;generalize up (up (up (up S sp (.lst (.int (i+1)::rest))) nm (.lst (names.map D.str))) sp (.lst (.int (i+1+1)::rest))) pm (.lst (pp.map D.str))=S4 at bF bD bU bI ⊢;refine Ji (λk=>.int (cnt k)) (by rw[dW];lia) (λ_ _=>trivial) ?_ ?_
 ·intro j d S' hd hs' P hP;obtain⟨hj,rfl⟩:=gG hd;nofun;intro p1 hp1;nofun;refine fj ax (tK j).1 ?_;exact hP _ ((Sub.refl S').up hp1)
 intro S5 lC;replace bF:=lC _ _ bF;replace bD:=lC _ _ bD;replace bU:=lC _ _ bU;replace bI:=bI.ext lC;rw[dW];obtain⟨counts,oC⟩:∃counts,counts=(aZ many.toNat).map cnt:=⟨_,rfl⟩;have AG:((aZ many.toNat).map λk=>D.int (cnt k:Int))=cD counts:=by rw[oC,cD,fY];rfl
 rw[AG];have hc4:∀c∈counts,1<=c/\c<=4:=λc hc=>by
  rw[oC]at hc;obtain⟨k,_,rfl⟩:=bO.mp hc;exact(tK k).2
 have j9:counts.length=many.toNat:=by rw[oC];simp
 intro ct hct;nofun;intro pr hpr;have hnl:=Rn.len;rw[AF]at Rn hnl;have oE:sp≠nm:=n1;have oF:sp≠ct:=ne3 bF hct;have ia:sp≠pr:=ne3 (aD bF hct) hpr;have tM:nm≠pr:=ne3 (aD bD hct) hpr;have AH:pm≠pr:=ne3 (aD bU hct) hpr;have tN:ct≠pr:=ne3 ax hpr;have oG:S pr=none:=(bI.new hct).free hpr (bt ia);replace bF:=aD (o:=.lst []) (aD (o:=.lst (cD counts)) bF hct) hpr;replace bD:=aD (o:=.lst []) (aD (o:=.lst (cD counts)) bD hct) hpr;replace bU:=aD (o:=.lst []) (aD (o:=.lst (cD counts)) bU hct) hpr;replace bI:=(bI.new (o:=.lst (cD counts)) hct).new (o:=.lst []) hpr;have bM:up (up S5 ct (.lst (cD counts))) pr (.lst []) ct=some (.lst (cD counts)):=aD ax hpr;have bZ:up (up S5 ct (.lst (cD counts))) pr (.lst []) pr=some (.lst []):=ax;generalize up (up S5 ct (.lst (cD counts))) pr (.lst [])=S6 at bF bD bU bI bM bZ ⊢;nofun;refine⟨λj σ S'=>lr λ(cT:List Er) (i1:Int) (x10 x11:Option D)=>σ=[some (.bH (ns.map D.int)),some (.ref sp),some (.int most),some (.int head),some (.int many),some (.ref nm),some (.ref pm),some (.ref ct),some (.ref pr),x10,x11] /\
  S' sp=some (.lst (.int i1::rest))/\S' nm=some (.lst (names.map D.str))/\S' pm=some (.lst (pp.map D.str))/\S' ct=some (.lst (cD counts))/\S' pr=some (.lst (cT.map Er.d))/\Px sp S S' /\
  cT.length=j/\0<=i1/\cT.map Er.name=names.take j/\(cT.map λe=>e.ps.length)=counts.take j/\(∀e∈cT,JA (cM names counts) e),
  ⟨[],i+1+1,none,none,rfl,bF,bD,bU,bM,bZ,bI,rfl,by lia,rfl,rfl,by simp⟩,λ_ _ _ _=>trivial,?turn,?done⟩
 case turn =>
  clear bF bD bU bM bZ bI;rintro j d σ S' hd ⟨cT,i1,x10,x11,rfl,bF,bD,bU,bM,bZ,bI,hl,hi1,en,ec,hk⟩;obtain⟨hj,rfl⟩:=gG hd;have c0:=gS (0+(j:Int)) (show(4:Int)≠0 by decide);have ap:∀{α:Type} {f:α->D} {xs:List α} {v:α},xs[j]?=some v->b5 (xs.map f) (0+(j:Int))=some (f v):=λ{α f xs v} hv=>by
   have e:(0:Int)+(j:Int)=((j:Nat):Int):=by lia
   rw[e];refine fP ?_;rw[a7,hv];rfl
  obtain⟨cn,hcn⟩:∃cn,counts[j]?=some cn:=⟨_,aU (by lia)⟩;obtain⟨nj,tO⟩:∃nj,names[j]?=some nj:=⟨_,aU (by lia)⟩;have AB:=hc4 cn (c8 hcn);nofun;rw[pM c0];intro p1 hp1;have g1:=aD (o:=.lst ((pp.map D.str).drop ((0+(j:Int))%4).toNat)) bU hp1;nofun;rw[pL c0];intro p2 hp2;have hpl:=Rp.len;refine vC (aD ax hp2) ax ?_ ?_
  ·rw[fg,dP,aG];exact fB (by lia)
  intro p3 hp3;nofun;refine fj (aD (aD (aD bM hp1) hp2) hp3) (ap hcn) ?_;nofun;rw[pL (by lia),jD];intro p4 lD;nofun;obtain⟨mine,tP⟩:∃mine,mine=(pp.drop ((0+(j:Int))%4).toNat++pp.take ((0+(j:Int))%4).toNat).take cn:=⟨_,rfl⟩;have em:((pp.map D.str).drop ((0+(j:Int))%4).toNat++(pp.map D.str).take ((0+(j:Int))%4).toNat).take cn=mine.map D.str:=by
   rw[tP,<-DT,<-uy,<-da,<-uy]
  rw[em];have hmo:mine.length=cn/\mine.Nodup/\∀x∈mine,mz x:=by
   rw[tP];exact Hk Rp.turn (by show cn<=4;lia)
  have hsub:=((((Sub.refl S').up (o:=.lst ((pp.map D.str).drop ((0+(j:Int))%4).toNat)) hp1).up (o:=.lst ((pp.map D.str).take ((0+(j:Int))%4).toNat)) hp2).up
   (o:=.lst ((pp.map D.str).drop ((0+(j:Int))%4).toNat++(pp.map D.str).take ((0+(j:Int))%4).toNat)) hp3).up (o:=.lst (mine.map D.str)) lD
  generalize up (up (up (up S' p1 _) p2 _) p3 _) p4 _=S5 at hsub ⊢;replace bF:=hsub _ _ bF;replace bD:=hsub _ _ bD;replace bU:=hsub _ _ bU;replace bM:=hsub _ _ bM;replace bZ:=hsub _ _ bZ;replace bI:=bI.ext hsub;nofun;refine fj bD (ap tO) ?_;nofun;refine⟨ns,sp,nm,ct,i1,rest,names,mine,counts,rfl,bF,bD,bM,oE,oF,hi1,by lia,by lia,by lia,Rn.nd,by lia,hc4,λs i2 hbd hi2=>?_⟩;nofun;have Y5:up S5 sp (.lst (.int i2::rest)) pr=some (.lst (cT.map Er.d)):=by rw[aW (bt ia)];exact bZ
  refine cJ Y5 (by rw[aG];exact c6 (by lia)) ?_;have ee:cT.map Er.d++[D.tup [D.str nj,D.tup (mine.map D.str),s.d]]=(cT++[(⟨nj,mine,s⟩:Er)]).map Er.d:=by simp[Er.d]
  rw[ee];refine⟨cT++[(⟨nj,mine,s⟩:Er)],i2,_,_,rfl,?_,?_,?_,?_,ax,(bI.at).fresh oG,by simp[hl],hi2,?_,?_,?_⟩
  ·rw[aW ia];exact ax
  ·rw[aW tM,aW (bt oE)];exact bD
  ·rw[aW AH,aW (bt tL)];exact bU
  ·rw[aW tN,aW (bt oF)];exact bM
  ·rw[jK,tO,da,en];rfl
  ·rw[jK,hcn,da,ec];show counts.take j++[mine.length]=_;rw[hmo.1];rfl
  ·intro e he;rcases dh.mp he with he|he
   ·exact hk e he
   ·rw[ft.mp he];exact⟨by show 1<=mine.length;lia,by show mine.length<=4;lia,hmo.2.1,hmo.2.2,hbd⟩
 rintro σ S' ⟨cT,i1,x10,x11,rfl,bF,bD,bU,bM,bZ,bI,hl,hi1,en,ec,hk⟩;rw[dW]at hl en ec;rw[jH (by lia)]at en ec;nofun;refine⟨pr,_,sp,_,rfl,oG,by rw[hsp];simp,bI.sub bF,bZ,hq cT i1 ⟨by lia,by lia,?_,λe he=>?_,λe he=>?_,λe he=>?_⟩ (by lia) hi1⟩
 ·rw[en];exact Rn.nd
 ·exact Rn.ok _ (by rw[<-en];exact lZ he)
 ·exact⟨(hk e he).l1,(hk e he).l4,(hk e he).nd,(hk e he).ok⟩
 ·rw[Hj en ec];exact(hk e he).bd.mono (by decide) (by decide) (by decide)
abbrev JB:aL:=tH
theorem Y6{k:Nat}(h:az K mg "_law_tame_send" qt ["script","spot","names","counts","params"])(G:Gs K mg)(dJ:av P w K mg base k "_law_next" ["script","spot"] ox)(iP:av P w K mg base k "_law_arg" ["cell","params"] tG) :
 av P w K mg base (k+1) "_law_tame_send" ["script","spot","names","counts","params"] tH:=show _ by
 refine h.kP mJ (by rintro ds S q ⟨_,_,_,_,_,_,_,_,_,e,_⟩;rw[e];rfl) λf cdv A outer s0 H E ds S q hr hA=>?_;obtain⟨ns,sp,nm,ct,i,rest,names,ps,counts,rfl,hsp,hnm,hct,n1,n2,hi,l1,l4,m1,nd,j9,hc4,hq⟩:=hA;refine⟨_,(au (aH (i:=5) mJ.nd rfl (Or.inl rfl) (aE bX aY (aQ dJ hr rfl (ae (aa 0) (ae (aa 1) ah))) (dH eI eU rfl G.len eC (ae (aa 2) ah))))
 (au (aH (i:=6) mJ.nd rfl (Or.inl rfl) (dq ah))
 (au (e_ eD rfl (gH rfl G.range (ae (aA d_ eA (aa 3) (aa 5) (λ_ _=>rfl)) ah)) (dv (i:=7) mJ.nd rfl (Or.inl rfl)) (au (aH (i:=8) mJ.nd rfl (Or.inl rfl) (aQ dJ hr rfl (ae (aa 0) (ae (aa 1) ah))))
 (au (aH (i:=9) mJ.nd rfl (Or.inl rfl) (aQ iP hr rfl (ae (aa 8) (ae (aa 4) ah))))
 (au (gK (br cI fA (aa 7) aj (bC _)) (au (aH (i:=9) mJ.nd rfl (Or.inl rfl) (bw (ae (aA d_ eA (dq (ae bE (ae bE ah))) (aE bX aY (aE dm aY (aa 8) aj) aj) (λ_ _=>rfl)) (ae (bw (ae bE (ae (aA aO aP (aa 4) aj (λ_ _=>rfl)) ah))) ah))))
 (ay (gK (br o8 iG (aE bX aY (aa 8) aj) aj (bC _)) (ay (aH (i:=9) mJ.nd rfl (Or.inl rfl) (bw (ae bE (ae (aa 9) ah))))) cw))) cw)
 (ay (b8 (cZ bW c_ dj cY de (aa 6) (ae (aa 9) ah))))))))
 (ay (bz (bw (ae bE (ae (aA d_ eA (aa 2) (aa 5) (λ_ _=>rfl)) (ae (iF jd jj rfl G.tuple jJ (ae (aa 6) ah)) ah))))))))),?_⟩
 have hnl:(0:Int)<((names.map D.str).length:Int):=by rw[aG];lia
 have hU:∀o,up S sp o nm=some (.lst (names.map D.str)):=λo=>by rw[aW (bt n1)];exact hnm
 have tI:∀o,up S sp o ct=some (.lst (cD counts)):=λo=>by rw[aW (bt n2)];exact hct
 obtain⟨p0,hp0⟩:∃p0,ps[0]?=some p0:=⟨_,aU (by lia)⟩;have JC:b5 (ps.map D.str) 0=some (.str p0):=fP (j:=0) (by rw[a7,hp0];rfl);have qG:p0∈ps:=c8 hp0;nofun;refine⟨ns,sp,i,rest,rfl,hsp,hi,?_⟩;have jm:=hU (.lst (.int (i+1)::rest));have wB:=tI (.lst (.int (i+1)::rest));obtain⟨jt,vt,wC,tJ,hat⟩:=vV (f:=D.str) (cellAt ns i) (show 0<names.length by lia);have AA:jt<counts.length:=by rw[<-j9];exact(b4.mp tJ).1
 obtain⟨cn,hcn⟩:∃cn,counts[jt]?=some cn:=⟨_,aU AA⟩;have AB:=hc4 cn (c8 hcn);have har:cM names counts vt=some cn:=sT nd tJ hcn;nofun;intro pr hpr;have ia:sp≠pr:=ne3 ax hpr;have oG:S pr=none:=by rw[aW (bt ia)]at hpr;exact hpr
 have tM:nm≠pr:=ne3 jm hpr;have tN:ct≠pr:=ne3 wB hpr;have bF:=aD (o:=.lst []) (ax (S:=S) (a:=sp) (o:=.lst (.int (i+1)::rest))) hpr;have bD:=aD (o:=.lst []) jm hpr;have bM:=aD (o:=.lst []) wB hpr;have bZ:up (up S sp (.lst (.int (i+1)::rest))) pr (.lst []) pr=some (.lst []):=ax;have bI:Px sp S (up (up S sp (.lst (.int (i+1)::rest))) pr (.lst [])):=(Px.refl sp S).at.new hpr;generalize up (up S sp (.lst (.int (i+1)::rest))) pr (.lst [])=S1 at bF bD bM bZ bI ⊢;nofun;refine fj bM (d:=.int cn) (by rw[wC];refine fP ?_;rw[a7,hcn];rfl) ?_;nofun;refine⟨λj σ S'=>Ax λ(as:List Sy) (i1:Int) (x7 x8 x9:Option D)=>σ=[some (.bH (ns.map D.int)),some (.ref sp),some (.ref nm),some (.ref ct),some (.tup (ps.map D.str)),some (.int (cellAt ns i%((names.map D.str).length:Int))),some (.ref pr),x7,x8,x9] /\
  S' sp=some (.lst (.int i1::rest))/\S' nm=some (.lst (names.map D.str))/\S' ct=some (.lst (cD counts))/\S' pr=some (.lst (as.map Sy.d))/\Px sp S S'/\as.length=j/\0<=i1/\(∀a∈as,Plain ps 5 a),
  ⟨[],i+1,none,none,none,rfl,bF,bD,bM,bZ,bI,rfl,by lia,by simp⟩,λ_ _ _ _=>trivial,?turn,?done⟩
 case turn =>
  clear bF bD bM bZ bI;rintro j d σ S' hd ⟨as,i1,x7,x8,x9,rfl,bF,bD,bM,bZ,bI,hl,hi1,hpl⟩;obtain⟨hj,rfl⟩:=gG hd;rw[jD]at hj;nofun;refine⟨ns,sp,i1,rest,rfl,bF,hi1,?_⟩;nofun;replace bD:up S' sp (.lst (.int (i1+1)::rest)) nm=_:=(aW (bt n1)).trans bD;replace bM:up S' sp (.lst (.int (i1+1)::rest)) ct=_:=(aW (bt n2)).trans bM;replace bZ:up S' sp (.lst (.int (i1+1)::rest)) pr=_:=(aW (bt ia)).trans bZ;replace bI:=bI.at (o:=.lst (.int (i1+1)::rest));replace bF:up S' sp (.lst (.int (i1+1)::rest)) sp=_:=ax;generalize up S' sp (.lst (.int (i1+1)::rest))=S2 at bF bD bM bZ bI ⊢;generalize cellAt ns i1=cell;refine⟨_,ps,rfl,l1,l4,λa ha=>?_⟩;nofun;refine hV (λσ T=>∃(s:Sy),σ=[some (.bH (ns.map D.int)),some (.ref sp),some (.ref nm),some (.ref ct),some (.tup (ps.map D.str)),some (.int (cellAt ns i%((names.map D.str).length:Int))),some (.ref pr),some (.int (0+(j:Int))),some (.int cell),some s.d]/\Sub S2 T/\Plain ps 5 s) ?_ ?_
  ·intro n' hn';by_cases hj0:(0:Int)+(j:Int)=0
   ·nofun;intro p1 hp1;nofun;have hP:∀b:Bool,Plain ps 2 (if b then .left (.name p0) else .right (.name p0)):=λb=>by cases b<;>first|exact(mM qG).right|exact(mM qG).left
    refine Jx ax ?_ ?_
    ·nofun;refine my JC ?_;nofun;refine hV (λσ T=>∃(s:Sy),σ=[some (.bH (ns.map D.int)),some (.ref sp),some (.ref nm),some (.ref ct),some (.tup (ps.map D.str)),some (.int (cellAt ns i%((names.map D.str).length:Int))),some (.ref pr),some (.int (0+(j:Int))),some (.int cell),some s.d]/\Sub S2 T/\Plain ps 5 s) ?_ ?_
     ·intro Y7 hn2';by_cases hc3:cell%9<3
      ·nofun;exact hn2' _ _ ⟨.right (.left (.name p0)),rfl,(Sub.refl S2).up hp1,(mM qG).left.right.mono (by decide)⟩
      ·nofun;exact hn2' _ _ ⟨.left (.name p0),rfl,(Sub.refl S2).up hp1,(mM qG).left.mono (by decide)⟩
     ·rintro σ T h;exact hn' _ _ h
    ·nofun;refine my JC ?_;nofun;refine hV (λσ T=>∃(s:Sy),σ=[some (.bH (ns.map D.int)),some (.ref sp),some (.ref nm),some (.ref ct),some (.tup (ps.map D.str)),some (.int (cellAt ns i%((names.map D.str).length:Int))),some (.ref pr),some (.int (0+(j:Int))),some (.int cell),some s.d]/\Sub S2 T/\Plain ps 5 s) ?_ ?_
     ·intro Y7 hn2';by_cases hc3:cell%9<3
      ·nofun;exact hn2' _ _ ⟨.right (.right (.name p0)),rfl,(Sub.refl S2).up hp1,(mM qG).right.right.mono (by decide)⟩
      ·nofun;exact hn2' _ _ ⟨.right (.name p0),rfl,(Sub.refl S2).up hp1,(mM qG).right.mono (by decide)⟩
     ·rintro σ T h;exact hn' _ _ h
   ·nofun;exact hn' _ _ ⟨a,rfl,Sub.refl S2,ha⟩
  rintro σ T ⟨s,rfl,hs,hps⟩;replace bF:=hs _ _ bF;replace bD:=hs _ _ bD;replace bM:=hs _ _ bM;replace bZ:=hs _ _ bZ;replace bI:=bI.ext hs;nofun;refine cJ bZ (by rw[aG];exact c6 (by lia)) ?_;have ee:as.map Sy.d++[s.d]=(as++[s]).map Sy.d:=by simp
  rw[ee];refine⟨as++[s],i1+1,_,_,_,rfl,?_,?_,?_,ax,bI.fresh oG,by simp[hl],by lia,λb hb=>?_⟩
  ·rw[aW ia];exact bF
  ·rw[aW tM];exact bD
  ·rw[aW tN];exact bM
  ·rcases dh.mp hb with hb|hb
   ·exact hpl b hb
   ·rw[ft.mp hb];exact hps
 rintro σ S' ⟨as,i1,x7,x8,x9,rfl,Y8,Y9,aiE,aiF,Y_,hl,hi1,hpl⟩;rw[dW,jD]at hl;nofun;refine fj Y9 hat ?_;nofun;have e:D.tup [.str "send",.str vt,.tup (as.map Sy.d)]=(Sy.send vt as).d:=by simp only[Sy.d,Sy.nM]
 rw[e];exact⟨sp,_,Y_.sub Y8,hq vt as _ ⟨by rw[hl];exact har,by lia,by lia,hpl⟩ hi1⟩
abbrev Y':aL:=wF
theorem Za{k:Nat}(h:az K mg "_law_tame" ou ["script","spot","most"])(G:Gs K mg)(dJ:av P w K mg base k "_law_next" ["script","spot"] ox)(mO:av P w K mg base k "_law_names" ["cell","many"] Ay)
 (wH:av P w K mg base k "_law_tame_send" ["script","spot","names","counts","params"] JB) (iP:av P w K mg base k "_law_arg" ["cell","params"] tG):av P w K mg base (k+1) "_law_tame" ["script","spot","most"] wF:=show _ by
 refine h.nJ h_ (by rintro ds S q ⟨_,_,_,_,_,e,_⟩;rw[e];rfl) λf cdv A outer s H E ds S q hr hA=>?_;obtain⟨ns,sp,i,most,rest,rfl,hsp,hi,m1,wG,hq⟩:=hA;refine⟨_,(au (aH (i:=3) h_.nd rfl (Or.inr rfl) (aQ dJ hr rfl (ae (aa 0) (ae (aa 1) ah))))
 (au (aH (i:=4) h_.nd rfl (Or.inl rfl) (aE mj jh aj (aE bX aY (aa 3) (aa 2))))
 (au (aH (i:=5) h_.nd rfl (Or.inl rfl) (aQ mO hr rfl (ae (aE bX aY (aE dm aY (aa 3) (aa 2)) (aE rM aY aj aj)) (ae (aa 4) ah))))
 (au (aH (i:=6) h_.nd rfl (Or.inl rfl) (aQ mO hr rfl (ae (aE bX aY (aQ dJ hr rfl (ae (aa 0) (ae (aa 1) ah))) (aE rM aY aj aj)) (ae aj ah))))
 (au (nR (i:=7) (cA:=ao ou) (N:=["script","spot","most","head","many","names","params","counts","program","k","mine","shape","first","last"]) (M:=["head"]) (js:=[3]) ⟨rfl,by cbv,by cbv,by cbv,by cbv,by cbv⟩ (by cbv) (by cbv) rfl (gH rfl G.range (ae (aa 4) ah)) (λ_ _ _ _ _=>fD) (λ_ _ _ _ _=>(aA d_ eA (dq (ae aj (ae aj (ae aj (ae aj (ae aj ah)))))) (aE bX aY (aE dm aY (aa 1) (aE Ej aY aj (aE mj jh (aa 0) aj))) aj) (λ_ _=>rfl))) h_.nd rfl rfl)
 (au (aH (i:=8) h_.nd rfl (Or.inl rfl) (dq ah))
 (au (e_ eD rfl (gH rfl G.range (ae (aa 4) ah)) (dv (i:=9) h_.nd rfl (Or.inl rfl)) (au (aH (i:=10) h_.nd rfl (Or.inl rfl) (iF jd jj rfl G.tuple jJ (ae (eh jb ji (aE u3 vq (eh jb ji (aa 6) (dU (aE bX aY (aa 9) aj)) eO) (eh jb ji (aa 6) eO (dU (aE bX aY (aa 9) aj)))) eO (dU (aA d_ eA (aa 7) (aa 9) (λ_ _=>rfl)))) ah)))
 (au (aH (i:=11) h_.nd rfl (Or.inl rfl) (aQ dJ hr rfl (ae (aa 0) (ae (aa 1) ah))))
 (au (aH (i:=12) h_.nd rfl (Or.inl rfl) (aQ wH hr rfl (ae (aa 0) (ae (aa 1) (ae (aa 5) (ae (aa 7) (ae (aa 10) ah)))))))
 (au (gK (br cI fA (aE bX aY (aa 11) aj) aj (bC _)) (ay (aH (i:=12) h_.nd rfl (Or.inl rfl) (bw (ae bE (ae (aa 12) (ae (aQ wH hr rfl (ae (aa 0) (ae (aa 1) (ae (aa 5) (ae (aa 7) (ae (aa 10) ah)))))) ah)))))) cw)
 (au (aH (i:=13) h_.nd rfl (Or.inl rfl) (aQ iP hr rfl (ae (aE dm aY (aa 11) aj) (ae (aa 10) ah))))
 (ay (b8 (cZ bW c_ dj cY de (aa 8) (ae (bw (ae (aA d_ eA (aa 5) (aa 9) (λ_ _=>rfl)) (ae (aa 10) (ae (bw (ae bE (ae (bw (ae bE (ae (aA aO aP (aa 10) aj (λ_ _=>rfl)) ah))) (ae (aa 12) (ae (aa 13) ah))))) ah)))) ah))))))))))
 (ay (bz (aa 8)))))))))),?_⟩
 nofun;refine⟨ns,sp,i,rest,rfl,hsp,hi,?_⟩;generalize cellAt ns i=head;have hm0:=gS head (show most≠0 by lia);have hm1:=qZ head (show 0<most by lia);have Y3:(0:Int)<10^(rg 14):=by decide
 nofun;refine⟨_,_,rfl,gS _ (by decide),by lia,by lia,λnames Rn=>?_⟩;intro nm hnm;have n1:sp≠nm:=ne3 ax hnm;nofun;refine⟨ns,sp,i+1,rest,rfl,aD ax hnm,by lia,?_⟩;generalize cellAt ns (i+1)=c2;nofun;refine⟨_,4,rfl,gS _ (by decide),by lia,by lia,λpp Rp=>?_⟩;intro pm hpm;nofun;generalize AF:1+head%most=many;have Y4:1<=many:=by lia
 have h12:many<=most:=by lia
 obtain⟨cnt,tK⟩:∃cnt:Nat->Nat,∀k:Nat,b5 [D.int 2,.int 1,.int 2,.int 2,.int 3] (head/(7*(0+(k:Int)+1))%5)=some (.int (cnt k:Int))/\1<=cnt k/\cnt k<=4:=by
  have:∀k:Nat,∃c:Nat,b5 [D.int 2,.int 1,.int 2,.int 2,.int 3] (head/(7*(0+(k:Int)+1))%5)=some (.int (c:Int))/\1<=c/\c<=4:=λk=>by
   generalize head/(7*(0+(k:Int)+1))=x;have h5:x%5=0∨x%5=1∨x%5=2∨x%5=3∨x%5=4:=by lia
   rcases h5 with e|e|e|e|e
   ·exact⟨2,by rw[e];rfl,by decide,by decide⟩
   ·exact⟨1,by rw[e];rfl,by decide,by decide⟩
   ·exact⟨2,by rw[e];rfl,by decide,by decide⟩
   ·exact⟨2,by rw[e];rfl,by decide,by decide⟩
   ·exact⟨3,by rw[e];rfl,by decide,by decide⟩
  exact⟨λk=>(this k).choose,λk=>(this k).choose_spec⟩
 have bF:=aD (o:=.lst (pp.map D.str)) (ax (S:=up (up S sp (.lst (.int (i+1)::rest))) nm (.lst (names.map D.str))) (a:=sp) (o:=.lst (.int (i+1+1)::rest))) hpm;have bD:up (up (up (up S sp (.lst (.int (i+1)::rest))) nm (.lst (names.map D.str))) sp (.lst (.int (i+1+1)::rest))) pm (.lst (pp.map D.str)) nm=some (.lst (names.map D.str)) :=
  aD (by rw[aW (bt n1)];exact ax) hpm
 have bU:up (up (up (up S sp (.lst (.int (i+1)::rest))) nm (.lst (names.map D.str))) sp (.lst (.int (i+1+1)::rest))) pm (.lst (pp.map D.str)) pm=some (.lst (pp.map D.str)):=ax;have bI:Px sp S (up (up (up (up S sp (.lst (.int (i+1)::rest))) nm (.lst (names.map D.str))) sp (.lst (.int (i+1+1)::rest))) pm (.lst (pp.map D.str))):=((Px.refl sp S).at.new hnm).at.new hpm;have tL:sp≠pm:=ne3 ax hpm;generalize up (up (up (up S sp (.lst (.int (i+1)::rest))) nm (.lst (names.map D.str))) sp (.lst (.int (i+1+1)::rest))) pm (.lst (pp.map D.str))=S4 at bF bD bU bI ⊢;refine Ji (λk=>.int (cnt k)) (by rw[dW];lia) (λ_ _=>trivial) ?_ ?_
 ·intro j d S' hd hs' P hP;obtain⟨hj,rfl⟩:=gG hd;nofun;intro p1 hp1;nofun;refine fj ax (tK j).1 ?_;exact hP _ ((Sub.refl S').up hp1)
 intro S5 lC;replace bF:=lC _ _ bF;replace bD:=lC _ _ bD;replace bU:=lC _ _ bU;replace bI:=bI.ext lC;rw[dW];obtain⟨counts,oC⟩:∃counts,counts=(aZ many.toNat).map cnt:=⟨_,rfl⟩;have AG:((aZ many.toNat).map λk=>D.int (cnt k:Int))=cD counts:=by rw[oC,cD,fY];rfl
 rw[AG];have hc4:∀c∈counts,1<=c/\c<=4:=λc hc=>by
  rw[oC]at hc;obtain⟨k,_,rfl⟩:=bO.mp hc;exact(tK k).2
 have j9:counts.length=many.toNat:=by rw[oC];simp
 intro ct hct;nofun;intro pr hpr;have hnl:=Rn.len;rw[AF]at Rn hnl;have oE:sp≠nm:=n1;have oF:sp≠ct:=ne3 bF hct;have ia:sp≠pr:=ne3 (aD bF hct) hpr;have tM:nm≠pr:=ne3 (aD bD hct) hpr;have AH:pm≠pr:=ne3 (aD bU hct) hpr;have tN:ct≠pr:=ne3 ax hpr;have oG:S pr=none:=(bI.new hct).free hpr (bt ia);replace bF:=aD (o:=.lst []) (aD (o:=.lst (cD counts)) bF hct) hpr;replace bD:=aD (o:=.lst []) (aD (o:=.lst (cD counts)) bD hct) hpr;replace bU:=aD (o:=.lst []) (aD (o:=.lst (cD counts)) bU hct) hpr;replace bI:=(bI.new (o:=.lst (cD counts)) hct).new (o:=.lst []) hpr;have bM:up (up S5 ct (.lst (cD counts))) pr (.lst []) ct=some (.lst (cD counts)):=aD ax hpr;have bZ:up (up S5 ct (.lst (cD counts))) pr (.lst []) pr=some (.lst []):=ax;generalize up (up S5 ct (.lst (cD counts))) pr (.lst [])=S6 at bF bD bU bI bM bZ ⊢;nofun;refine⟨λj σ S'=>Js λ(cT:List Er) (i1:Int) (x10 x11 x12 AI tQ:Option D)=>σ=[some (.bH (ns.map D.int)),some (.ref sp),some (.int most),some (.int head),some (.int many),some (.ref nm),some (.ref pm),some (.ref ct),some (.ref pr),x10,x11,x12,AI,tQ] /\
  S' sp=some (.lst (.int i1::rest))/\S' nm=some (.lst (names.map D.str))/\S' pm=some (.lst (pp.map D.str))/\S' ct=some (.lst (cD counts))/\S' pr=some (.lst (cT.map Er.d))/\Px sp S S' /\
  cT.length=j/\0<=i1/\cT.map Er.name=names.take j/\(cT.map λe=>e.ps.length)=counts.take j/\(∀e∈cT,JA (cM names counts) e),
  ⟨[],i+1+1,none,none,none,none,none,rfl,bF,bD,bU,bM,bZ,bI,rfl,by lia,rfl,rfl,by simp⟩,λ_ _ _ _=>trivial,?turn,?done⟩
 case turn =>
  clear bF bD bU bM bZ bI;rintro j d σ S' hd ⟨cT,i1,x10,x11,x12,AI,tQ,rfl,bF,bD,bU,bM,bZ,bI,hl,hi1,en,ec,hk⟩;obtain⟨hj,rfl⟩:=gG hd;have c0:=gS (0+(j:Int)) (show(4:Int)≠0 by decide);have ap:∀{α:Type} {f:α->D} {xs:List α} {v:α},xs[j]?=some v->b5 (xs.map f) (0+(j:Int))=some (f v):=λ{α f xs v} hv=>by
   have e:(0:Int)+(j:Int)=((j:Nat):Int):=by lia
   rw[e];refine fP ?_;rw[a7,hv];rfl
  obtain⟨cn,hcn⟩:∃cn,counts[j]?=some cn:=⟨_,aU (by lia)⟩;obtain⟨nj,tO⟩:∃nj,names[j]?=some nj:=⟨_,aU (by lia)⟩;have AB:=hc4 cn (c8 hcn);nofun;rw[pM c0];intro p1 hp1;have g1:=aD (o:=.lst ((pp.map D.str).drop ((0+(j:Int))%4).toNat)) bU hp1;nofun;rw[pL c0];intro p2 hp2;have hpl:=Rp.len;refine vC (aD ax hp2) ax ?_ ?_
  ·rw[fg,dP,aG];exact fB (by lia)
  intro p3 hp3;nofun;refine fj (aD (aD (aD bM hp1) hp2) hp3) (ap hcn) ?_;nofun;rw[pL (by lia),jD];intro p4 lD;nofun;obtain⟨mine,tP⟩:∃mine,mine=(pp.drop ((0+(j:Int))%4).toNat++pp.take ((0+(j:Int))%4).toNat).take cn:=⟨_,rfl⟩;have em:((pp.map D.str).drop ((0+(j:Int))%4).toNat++(pp.map D.str).take ((0+(j:Int))%4).toNat).take cn=mine.map D.str:=by
   rw[tP,<-DT,<-uy,<-da,<-uy]
  rw[em];have hmo:mine.length=cn/\mine.Nodup/\∀x∈mine,mz x:=by
   rw[tP];exact Hk Rp.turn (by show cn<=4;lia)
  have hsub:=((((Sub.refl S').up (o:=.lst ((pp.map D.str).drop ((0+(j:Int))%4).toNat)) hp1).up (o:=.lst ((pp.map D.str).take ((0+(j:Int))%4).toNat)) hp2).up
   (o:=.lst ((pp.map D.str).drop ((0+(j:Int))%4).toNat++(pp.map D.str).take ((0+(j:Int))%4).toNat)) hp3).up (o:=.lst (mine.map D.str)) lD
  generalize up (up (up (up S' p1 _) p2 _) p3 _) p4 _=S5 at hsub ⊢;replace bF:=hsub _ _ bF;replace bD:=hsub _ _ bD;replace bU:=hsub _ _ bU;replace bM:=hsub _ _ bM;replace bZ:=hsub _ _ bZ;replace bI:=bI.ext hsub;obtain⟨q0,hq0⟩:∃q0,mine[0]?=some q0:=⟨_,aU (by lia)⟩;have hq0':b5 (mine.map D.str) 0=some (.str q0):=fP (j:=0) (by rw[a7,hq0];rfl);have Zb:q0∈mine:=c8 hq0;have snd:∀(T:af) (i2:Int) (Q:K3),T sp=some (.lst (.int i2::rest))->T nm=some (.lst (names.map D.str))->T ct=some (.lst (cD counts))->0<=i2 ->
   (∀(x:Str) (as:List Sy) (i3:Int),oA (cM names counts) mine x as->0<=i3->Q (Sy.send x as).d (up T sp (.lst (.int i3::rest)))) ->
   JB [.bH (ns.map D.int),.ref sp,.ref nm,.ref ct,.tup (mine.map D.str)] T Q (λ_ _ _=>False):=λT i2 Q h1 h2 h3 h4 h5 =>
   ⟨ns,sp,nm,ct,i2,rest,names,mine,counts,rfl,h1,h2,h3,oE,oF,h4,by lia,by lia,by lia,Rn.nd,by lia,hc4,λx as i3 ho lB=>h5 x as i3 ho lB⟩
  nofun;refine⟨ns,sp,i1,rest,rfl,bF,hi1,?_⟩;generalize cellAt ns i1=shape;replace bD:up S5 sp (.lst (.int (i1+1)::rest)) nm=_:=(aW (bt oE)).trans bD;replace bM:up S5 sp (.lst (.int (i1+1)::rest)) ct=_:=(aW (bt oF)).trans bM;replace bU:up S5 sp (.lst (.int (i1+1)::rest)) pm=_:=(aW (bt tL)).trans bU;replace bZ:up S5 sp (.lst (.int (i1+1)::rest)) pr=_:=(aW (bt ia)).trans bZ;replace bI:=bI.at (o:=.lst (.int (i1+1)::rest));replace bF:up S5 sp (.lst (.int (i1+1)::rest)) sp=_:=ax;generalize up S5 sp (.lst (.int (i1+1)::rest))=S7 at bF bD bU bM bZ bI ⊢;nofun;refine snd _ (i1+1) _ bF bD bM (by lia) λx as i3 ho lB=>?_;replace bD:up S7 sp (.lst (.int i3::rest)) nm=_:=(aW (bt oE)).trans bD;replace bM:up S7 sp (.lst (.int i3::rest)) ct=_:=(aW (bt oF)).trans bM;replace bU:up S7 sp (.lst (.int i3::rest)) pm=_:=(aW (bt tL)).trans bU;replace bZ:up S7 sp (.lst (.int i3::rest)) pr=_:=(aW (bt ia)).trans bZ;replace bI:=bI.at (o:=.lst (.int i3::rest));replace bF:up S7 sp (.lst (.int i3::rest)) sp=_:=ax;generalize up S7 sp (.lst (.int i3::rest))=S8 at bF bD bU bM bZ bI ⊢;have hb1:=ho.bd;nofun;refine hV (λσ T=>ow λ(s:Sy) (i4:Int) (tQ:Option D)=>σ=[some (.bH (ns.map D.int)),some (.ref sp),some (.int most),some (.int head),some (.int many),some (.ref nm),some (.ref pm),some (.ref ct),some (.ref pr),some (.int (0+(j:Int))),some (.tup (mine.map D.str)),some (.int shape),some s.d,tQ] /\
   T sp=some (.lst (.int i4::rest))/\T nm=some (.lst (names.map D.str))/\T pm=some (.lst (pp.map D.str))/\T ct=some (.lst (cD counts))/\T pr=some (.lst (cT.map Er.d))/\Px sp S T/\0<=i4/\Bd (cM names counts) mine 7 2 251 s) ?_ ?_
  ·intro n' hn';by_cases hs1:shape%3=1
   ·nofun;refine snd _ i3 _ bF bD bM lB λx2 as2 i4 ho2 AJ=>?_;nofun;refine hn' _ _ ⟨.pair (.send x as) (.send x2 as2),i4,_,rfl,ax,(aW (bt oE)).trans bD,(aW (bt tL)).trans bU,(aW (bt oF)).trans bM,(aW (bt ia)).trans bZ,bI.at,AJ,hb1.pair ho2.bd⟩
   ·nofun;exact hn' _ _ ⟨.send x as,i3,_,rfl,bF,bD,bU,bM,bZ,bI,lB,hb1.mono (by decide) (by decide) (by decide)⟩
  clear bF bD bU bM bZ bI;rintro σ T ⟨s1,i4,y14,rfl,bF,bD,bU,bM,bZ,bI,AJ,hbs⟩;nofun;refine⟨_,mine,rfl,by lia,by lia,λt ht=>?_⟩;nofun;refine fj bD (ap tO) ?_;nofun;refine my hq0' ?_;nofun;refine cJ bZ (by rw[aG];exact c6 (by lia)) ?_;obtain⟨s,hs⟩:∃s,s=Sy.fork (.name q0) s1 t:=⟨_,rfl⟩;have hbd:Bd (cM names counts) mine 12 6 1500 s:=by
   rw[hs];have h1:Bd (cM names counts) mine 7 0 2 (.name q0):=(mM Zb).bd.mono (by decide) (by decide) (by decide);have h3:Bd (cM names counts) mine 7 0 32 t:=ht.bd.mono (by decide) (by decide) (by decide);exact(h1.fork hbs h3).mono (by decide) (by decide) (by decide)
  have ee:cT.map Er.d++[D.tup [D.str nj,D.tup (mine.map D.str),D.tup [.str "fork",.tup [.str "name",.str q0],s1.d,t.d]]]=(cT++[(⟨nj,mine,s⟩:Er)]).map Er.d:=by rw[hs];simp[Er.d,Sy.d]
  rw[ee];refine⟨cT++[(⟨nj,mine,s⟩:Er)],i4,_,_,_,_,_,rfl,?_,?_,?_,?_,ax,bI.fresh oG,by simp[hl],AJ,?_,?_,?_⟩
  ·rw[aW ia];exact bF
  ·rw[aW tM];exact bD
  ·rw[aW AH];exact bU
  ·rw[aW tN];exact bM
  ·rw[jK,tO,da,en];rfl
  ·rw[jK,hcn,da,ec];show counts.take j++[mine.length]=_;rw[hmo.1];rfl
  ·intro e he;rcases dh.mp he with he|he
   ·exact hk e he
   ·rw[ft.mp he];exact⟨by show 1<=mine.length;lia,by show mine.length<=4;lia,hmo.2.1,hmo.2.2,hbd⟩
 rintro σ S' ⟨cT,i1,x10,x11,x12,AI,tQ,rfl,bF,bD,bU,bM,bZ,bI,hl,hi1,en,ec,hk⟩;rw[dW]at hl en ec;rw[jH (by lia)]at en ec;nofun;refine⟨pr,_,sp,_,rfl,oG,by rw[hsp];simp,bI.sub bF,bZ,hq cT i1 ⟨by lia,by lia,?_,λe he=>?_,λe he=>?_,λe he=>?_⟩ (by lia) hi1⟩
 ·rw[en];exact Rn.nd
 ·exact Rn.ok _ (by rw[<-en];exact lZ he)
 ·exact⟨(hk e he).l1,(hk e he).l4,(hk e he).nd,(hk e he).ok⟩
 ·rw[Hj en ec];exact(hk e he).bd.mono (by decide) (by decide) (by decide)
inductive Zc (ds:List D)(S:af)(q:List D->Addr->O->Prop):Prop where
 |mk (ns:List Int) (sp:Addr) (i way most:Int) (rest:List D) (_:ds=[.bH (ns.map D.int),.ref sp,.int way,.int most]) (_:S sp=some (.lst (.int i::rest))) (_:0<=i) (_:1<=most) (_:most<=12) (_:∀(prog:List Er) (i2:Int),Pg prog->prog.length<=most.toNat->0<=i2->q (prog.map Er.d) sp (.lst (.int i2::rest)))
def JD :aL:=nJ Zc
theorem Zd{k:Nat}(h:az K mg "_law_any" qu ["script","spot","way","most"])(AK:av P w K mg base k "_law_tame" ["script","spot","most"] Y')(AL:av P w K mg base k "_law_program" ["script","spot","most"] wF) :
 av P w K mg base (k+1) "_law_any" ["script","spot","way","most"] JD:=show _ by
 refine h.nJ Yz (by rintro ds S q ⟨_,_,_,_,_,_,e,_⟩;rw[e];rfl) λf cdv A outer s H E ds S q hr hA=>?_;obtain⟨ns,sp,i,way,most,rest,rfl,hsp,hi,m1,wG,hq⟩:=hA;refine⟨_,(au (cy (br cI fA (aa 2) aj (bC _)) (ay (bz (aQ AK hr rfl (ae (aa 0) (ae (aa 1) (ae (aa 3) ah)))))) cw)
 (ay (bz (aQ AL hr rfl (ae (aa 0) (ae (aa 1) (ae (aa 3) ah))))))),?_⟩
 by_cases hw:way=0
 all_goals
  nofun;refine⟨ns,sp,i,most,rest,rfl,hsp,hi,m1,wG,λprog i2 hg hl hi2=>?_⟩;intro pr hpr;nofun;exact⟨pr,_,sp,_,rfl,hpr,by rw[hsp];simp,(Sub.refl _).up (by rw[aW (ne3 hsp hpr).symm];exact hpr),ax,hq prog i2 hg hl hi2⟩
inductive Ze (ds:List D)(q:D->Prop):Prop where
 |mk (c n:Int) (_:ds=[.int c,.int n]) (_:0<=n) (_:n<=100) (_:∀t:ak,(t.size:Int)<=n->q t.d)
def JE :aL:=vS Ze
theorem Zf(ts:List ak)(i:Nat){t:ak}(h:ts[i]?=some t):sizes (ts.take (i+1))=sizes (ts.take i)+t.size:=by
 rw[List.take_add_one,h,gX];simp[sizes]
theorem Zg(x:D)(xs:List D):E3.cutD (x::xs) (some 1) none=xs:=by
 unfold E3.cutD;have e1:HT.aM (x::xs).length 0 (some (1:Int))=1:=by
  have:=HT.rW (x::xs).length 0 1;rw[uj (by simp)]at this;exact this
 rw[e1,HT.rV];exact jH (by rw[fg];lia)
theorem Zh{k:Nat}(h:az K mg "_law_tree_by" qv ["cell","room"])(G:Gs K mg):av P w K mg base (k+1) "_law_tree_by" ["cell","room"] JE:=show _ by
 refine h.val j8 (by rintro ds q ⟨c,n,e,_⟩;rw[e];rfl) λf cdv A outer s0 H E ds q hr hA=>?_;obtain⟨c,n,rfl,h0,h1,hq⟩:=hA;refine⟨_,(au (aH (i:=2) j8.nd rfl (Or.inl rfl) (dq (ae eZ ah)))
 (au (aH (i:=3) j8.nd rfl (Or.inl rfl) (aE bX aY (aa 0) (aE rM aY aj aj)))
 (au (e_ eD rfl (gH rfl G.range (ae (aa 1) ah)) (dv (i:=4) j8.nd rfl (Or.inl rfl)) (au (aH (i:=5) j8.nd rfl (Or.inl rfl) (aE bX aY (aa 3) aj))
 (au (aH (i:=3) j8.nd rfl (Or.inl rfl) (aE dm aY (aa 3) aj))
 (ay (cy (br cI fA (aa 5) aj (bC _)) (ay (b8 (cZ bW c_ dj cY de (aa 2) (ae eZ ah)))) (ay (cy (fQ.pt (w_and (br cI fA (aa 5) aj (bC _)) (pq (br yw iG (dH eI eU rfl G.len eC (ae (aa 2) ah)) aj (bC _))))) (au (aH (i:=6) j8.nd rfl (Or.inl rfl) (g0 bW gR iw gV g_ (aa 2)))
 (ay (b8 (cZ bW c_ dj cY de (aa 2) (ae (bw (ae (g0 bW gR iw gV g_ (aa 2)) (ae (aa 6) ah))) ah))))) (ay (cy (br cI fA (aa 5) aj (bC _)) (ay (b8 (cZ bW c_ dj cY de (aa 2) (ae (bw (ae (g0 bW gR iw gV g_ (aa 2)) (ae eZ ah))) ah)))) (ay (b8 (cZ bW c_ dj cY de (aa 2) (ae (bw (ae eZ (ae (g0 bW gR iw gV g_ (aa 2)) ah))) ah)))))))))))))
 (au (aH (i:=7) j8.nd rfl (Or.inl rfl) (aA d_ eA (aa 2) aj (λ_ _=>rfl)))
 (au (e_ eD rfl (jg (eh jb ji (aa 2) (dU aj) eO)) (dv (i:=8) j8.nd rfl (Or.inl rfl)) (ay (aH (i:=7) j8.nd rfl (Or.inl rfl) (bw (ae (aa 7) (ae (aa 8) ah))))))
 (ay (bz (aa 7)))))))),?_⟩
 nofun;intro p hp;nofun;refine⟨λi σ S=>Js λ(lf:Int) (ts:List ak) (x4 x5 x6 x7 x8:Option D)=>σ=[some (.int c),some (.int n),some (.ref p),some (.int lf),x4,x5,x6,x7,x8]/\S p=some (.lst (ts.map ak.d))/\1<=ts.length/\sizes ts+ts.length<=i+1,
  ⟨_,[.aI],none,none,none,none,none,rfl,ax,by simp,by simp[sizes,ak.size]⟩,λ_ _ _ _=>trivial,?_,?_⟩
 ·rintro i d σ S hd ⟨lf,ts,x4,x5,x6,x7,x8,rfl,hS,one,few⟩;obtain⟨hi,rfl⟩:=gG hd;have hlen:(ts.map ak.d).length+5<sizeLine:=by rw[aG];exact xC (by lia:ts.length+5<=3003) (by decide)
  have put:∀(us:List ak) (u:ak),((us.map ak.d)++[u.d])=(us++[u]).map ak.d:=λus u=>by simp
  by_cases c0:lf%4=0
  ·nofun;refine cJ hS (by lia) ?_;nofun;refine⟨_,ts++[.aI],_,_,_,_,_,rfl,by rw[ax,<-put];rfl,by simp,?_⟩;rw[gX];simp only[sizes,ak.size,aR,bp,cm];lia
  ·rcases snoc_cases ts with rfl|⟨ts,ty,rfl⟩
   ·simp at one
   have hS1:=hS;rw[<-put]at hS1;clear hS;rw[gX]at few;simp only[sizes,aR,bp,cm,aG]at few hlen;by_cases hc:lf%4=1/\1<((ts.map ak.d++[ty.d]).length:Int)
   ·obtain⟨c1,c2⟩:=hc;rcases snoc_cases ts with rfl|⟨ts,tz,rfl⟩
    ·simp at c2
    rw[gX]at few;simp only[sizes,aR,bp,cm]at few hlen;nofun;refine gJ hS1 ?_;have hS2:up S p (.lst ((ts++[tz]).map ak.d)) p=some (.lst (ts.map ak.d++[tz.d])):=by rw[ax,put]
    nofun;refine gJ hS2 ?_;rw[kM];nofun;refine cJ ax (by rw[aG];lia) ?_;rw[kM];nofun;refine⟨_,ts++[.pair tz ty],_,_,_,_,_,rfl,by rw[ax,<-put];rfl,by simp,?_⟩;rw[gX];simp only[sizes,ak.size,aR,bp,cm];lia
   ·have fin:∀u:ak,u.size=ty.size+1->up S p (.lst (ts.map ak.d++[u.d])) p=some (.lst ((ts++[u]).map ak.d))/\1<=(ts++[u]).length/\sizes (ts++[u])+(ts++[u]).length<=i+1+1:=by
     intro u hu;refine⟨by rw[ax,put],by simp,?_⟩;rw[gX];simp only[sizes,aR,bp,cm];lia
    by_cases c1:lf%4=1
    case' pos =>
     have c2:¬1<((ts.map ak.d++[ty.d]).length:Int):=λz=>hc ⟨c1,z⟩;have c3:¬lf%4=2:=by lia
    case' neg=>by_cases c3:lf%4=2
    all_goals
     nofun;refine gJ hS1 ?_;nofun;refine cJ ax (by rw[aG];lia) ?_;rw[kM];nofun
    all_goals first|exact⟨_,ts++[ak.pair ak.aI ty],_,_,_,_,_,rfl,fin (ak.pair ak.aI ty) (by simp[ak.size])⟩|exact⟨_,ts++[ak.pair ty ak.aI],_,_,_,_,_,rfl,fin (ak.pair ty ak.aI) (by simp[ak.size])⟩
 ·rintro σ S ⟨lf,ts,x4,x5,x6,x7,x8,rfl,hS,one,few⟩;rw[dW]at few
  match ts,one with
  |t0::tr,_ =>
   simp only[sizes,bp]at few;rw[bL]at hS;nofun;intro p2 hp2;have hS2:=aD (o:=.lst (E3.cutD (t0.d::tr.map ak.d) (some 1) none)) hS hp2;have Zi:E3.cutD (t0.d::tr.map ak.d) (some 1) none=tr.map ak.d:=Zg _ _;rw[Zi]at hS2 ⊢;have JF:up S p2 (.lst (tr.map ak.d)) p2=some (.lst (tr.map ak.d)):=ax;generalize up S p2 (.lst (tr.map ak.d))=S2 at hS2 JF ⊢;nofun;refine⟨λi σ S=>S=S2/\lq λ(t:ak) (x8:Option D)=>σ=[some (.int c),some (.int n),some (.ref p),some (.int lf),x4,x5,x6,some t.d,x8]/\t.size<=t0.size+sizes (tr.take i)+i,⟨rfl,t0,x8,rfl,by simp[sizes]⟩,λi σ S ⟨e,_⟩=>by rw[e];exact JF,?_,?_⟩
   ·rintro i d σ S hd ⟨rfl,t,x8,rfl,hz⟩;obtain⟨ti,hti,rfl⟩:∃ti,tr[i]?=some ti/\d=ti.d:=by
     rw[a7]at hd;cases c:tr[i]? with
     |none=>rw[c]at hd;cases hd
     |some e=>rw[c]at hd;cases hd;exact⟨e,rfl,rfl⟩
    nofun;refine⟨rfl,.pair t ti,_,rfl,?_⟩;rw[Zf _ _ hti];simp only[ak.size];lia
   ·rintro σ S ⟨rfl,t,x8,rfl,hz⟩;rw[aG,oU]at hz;nofun;exact hq t (by lia)
inductive jx:D->List D->Prop
 |name (x:Str):jx (.tup [.str "name",.str x]) []
 |aI:jx (.tup [.str "bud"]) []
 |pair (a b:D):jx (.tup [.str "pair",a,b]) [a,b]
 |left (a:D):jx (.tup [.str "left",a]) [a]
 |right (a:D):jx (.tup [.str "right",a]) [a]
 |fork (a b c:D):jx (.tup [.str "fork",a,b,c]) [a,b,c]
 |send (x:Str) (is r:List D):jx (.tup (.str "send"::.str x::.tup is::r)) is
theorem jx.of:∀s:Sy,jx s.d (s.parts.map Sy.d)
 | .name x=>.name x
 | .aI=>.aI
 | .pair a b=>.pair _ _
 | .left a=>.left _
 | .right a=>.right _
 | .fork a b c=>.fork _ _ _
 | .send x as=>by rw[Sy.d,Sy.nM];exact .send x _ []
inductive Zj (ds:List D)(q:D->Prop):Prop where
 |mk (s:_) (ps:_) (_:ds=[s]) (_:jx s ps) (_:q (.tup ps))
def AM :aL:=vS Zj
inductive Zk (ds:List D)(q:D->Prop):Prop where
 |mk (s:Sy) (_:ds=[s.d]) (_:q (.tup (s.parts.map Sy.d)))
def wI :aL:=vS Zk
theorem Zl{k:Nat}(h:az K mg "parts" pX ["saying"])(G:Gs K mg):av P w K mg base (k+1) "parts" ["saying"] AM:=show _ by
 refine h.val Yf (by rintro ds q ⟨s,ps,e,_⟩;rw[e];rfl) λf cdv A outer s0 H E ds q hr hA=>?_;obtain⟨s,ps,rfl,hp,hq⟩:=hA;refine⟨_,(au (cy (br yG vn (aA aO aP (aa 0) aj (λ_ _=>rfl)) (bw (ae bE (ae bE ah))) (by with_unfolding_all rfl)) (ay (bz (bw ah))) cw)
 (au (cy (br cI gg (aA aO aP (aa 0) aj (λ_ _=>rfl)) bE (bC _)) (ay (bz (aA aO aP (aa 0) aj (λ_ _=>rfl)))) cw)
 (ay (bz (eh vv vw (aa 0) (dU aj) eO))))),?_⟩
 cases hp<;>(nofun;exact hq)
theorem AN{k:Nat}(C:av P w K mg base k "parts" ["saying"] AM):av P w K mg base k "parts" ["saying"] wI:=C.imp λ_ _ _ _ ⟨s,e,q⟩=>⟨s.d,_,e,jx.of s,q⟩
inductive Zm (ds:List D)(q:List D->Prop):Prop where
 |mk (s:Sy) (_:ds=[s.d]) (_:s.pre.length<=100000) (_:q (s.pre.map Sy.d))
def JG :aL:=sM Zm
theorem Zn{k:Nat}(h:az K mg "in_order" pW ["body"])(G:Gs K mg)(oH:av P w K mg base k "parts" ["saying"] wI):av P w K mg base (k+1) "in_order" ["body"] JG:=show _ by
 refine h.lst tu (by rintro ds q ⟨s,e,_⟩;rw[e];rfl) λf cdv A outer s0 H E ds q hr hA=>?_;obtain⟨s,rfl,hz,hq⟩:=hA;refine⟨_,(au (aH (i:=1) tu.nd rfl (Or.inl rfl) (dq ah))
 (au (aH (i:=2) tu.nd rfl (Or.inl rfl) (dq (ae (aa 0) ah)))
 (au (pB eD (vg (aa 2) (λ_=>rfl)) (au (aH (i:=3) tu.nd rfl (Or.inl rfl) (g0 bW gR iw gV g_ (aa 2)))
 (au (b8 (cZ bW c_ dj cY de (aa 1) (ae (aa 3) ah)))
 (ay (e_ eD rfl (F8 rfl G.wz (ae (aQ oH hr rfl (ae (aa 3) ah)) ah)) (dv (i:=4) tu.nd rfl (Or.inl rfl)) (ay (b8 (cZ bW c_ dj cY de (aa 2) (ae (aa 4) ah)))))))))
 (ay (bz (aa 1)))))),?_⟩
 nofun;intro pf hpf;nofun;intro pe hpe;have hne:pf≠pe:=ne3 ax hpe;nofun;refine pG (λm σ S=>lr λ(fs ps:List Sy) (x3 x4:Option D)=>σ=[some s.d,some (.ref pf),some (.ref pe),x3,x4]/\S pf=some (.lst (fs.map Sy.d))/\S pe=some (.lst (ps.map Sy.d))/\fs++Sy.a9 ps.reverse=s.pre/\m=(Sy.a9 ps.reverse).length)
  _ ⟨[],[s],none,none,rfl,aD ax hpe,ax,by simp[Sy.a9],rfl⟩ ?_
 rintro m σ S ⟨fs,ps,x3,x4,rfl,hf,he,hfs,rfl⟩;nofun;rcases snoc_cases ps with rfl|⟨ps',s',rfl⟩
 ·refine ph ?_;nofun;refine⟨pf,_,rfl,hf,?_⟩;have e:fs=s.pre:=by simpa[Sy.a9]using hfs
  rw[e];exact hq
 ·have eb:(!((ps'++[s']).map Sy.d).isEmpty)=true:=by simp
  rw[eb];refine nz ?_;have hlen:=congrArg ki hfs;rw[aR]at hlen;have er:(ps'++[s']).reverse=s'::ps'.reverse:=by simp
  rw[er,Sy.a9,Sy.pO]at hfs hlen;simp only[aR,bp]at hlen;have he':S pe=some (.lst (ps'.map Sy.d++[s'.d])):=by rw[he];simp
  nofun;refine gJ he' ?_;nofun;have hf1:up S pe (.lst (ps'.map Sy.d)) pf=some (.lst (fs.map Sy.d)):=by rw[aW hne];exact hf
  refine zr hf1 ?_;nofun;refine cJ hf1 (by rw[aG];exact c6 (by lia)) ?_;nofun;refine⟨s',rfl,?_⟩;nofun;refine⟨λi σ S'=>∃x4,σ=[some s.d,some (.ref pf),some (.ref pe),some s'.d,x4]/\S' pf=some (.lst ((fs++[s']).map Sy.d))/\S' pe=some (.lst (ps'.map Sy.d++((s'.parts.map Sy.d).reverse).take i)),
   ⟨x4,rfl,by rw[ax];simp,?_⟩,λ_ _ _ _=>trivial,?_,?_⟩
  ·rw[aW (bt hne),ax];simp
  ·rintro i d σ S' hd ⟨y4,rfl,g1,g2⟩;have hi:=(b4.mp hd).1;rw[jG,aG]at hi;have hpl:s'.parts.length<=(Sy.a9 s'.parts).length:=by
    generalize s'.parts=l
    induction l with
    |nil=>simp
    |cons a r ih=>rw[Sy.a9,Sy.pO];simp;lia
   nofun;refine cJ g2 ?_ ?_
   ·rw[aR,dP,jG,aG,aG];have:ps'.length<=(Sy.a9 ps'.reverse).length:=by
     have:∀l:List Sy,l.length<=(Sy.a9 l).length:=λl=>by
      induction l with
      |nil=>simp
      |cons a r ih=>rw[Sy.a9,Sy.pO];simp;lia
     have:=this ps'.reverse;simpa using this
    exact c6 (by lia)
   refine⟨_,rfl,by rw[aW hne];exact g1,?_⟩;rw[ax,jK,hd,i6];rfl
  ·rintro σ S' ⟨y4,rfl,g1,g2⟩;refine⟨_,?_,fs++[s'],ps'++s'.parts.reverse,_,_,rfl,g1,?_,?_,rfl⟩
   ·simp only[rk,NX,l8,List.reverse_nil,lX,List.singleton_append,Sy.sS,Sy.a9,Sy.pO s',aR,bp,cm];lia
   ·rw[g2,jH (by simp),da,DU]
   ·rw[<-hfs];simp[Sy.sS]
inductive Zo (ds:List D)(S:af)(q:D->Prop):Prop where
 |mk (x:Str) (y:D) (_:ds=[.str x,y]) (_:((∃xs:List Str,y=.tup (xs.map D.str)/\x∈xs)∨∃a kvs,y=.ref a/\S a=some (.b_ kvs)/\(du kvs (.inr x)).isSome=true)) (_:q .non)
def JH :aL:=jX Zo
theorem Zp{k:Nat}(h:az K mg "refuse_missing" pY ["name","known"]):av P w K mg base (k+1) "refuse_missing" ["name","known"] JH:=show _ by
 refine h.jX Yg (by rintro ds S q ⟨x,y,e,_⟩;rw[e];rfl) λf cdv A outer s0 H E ds S q hr hA=>?_;obtain⟨x,y,rfl,hy,hq⟩:=hA;have hu:=o_ hr;refine⟨_,(ay (cy (U0 hu (aa 0) (aa 1)) (ay FY) cw)),?_⟩;rcases hy with⟨xs,rfl,hx⟩|⟨a,kvs,rfl,ha,hv⟩
 ·nofun;exact⟨Sub.refl _,hq⟩
 ·nofun;rw[hv];nofun;exact⟨Sub.refl _,hq⟩
inductive Zq (ds:List D)(S:af)(q:D->Prop):Prop where
 |mk (x:Str) (a:Addr) (xs:List D) (_:ds=[.str x,.ref a,.int (xs.length:Int)]) (_:S a=some (.lst xs)) (_:q .non)
def JI :aL:=jX Zq
theorem Zr{k:Nat}(h:az K mg "refuse_miscounted" pZ ["name","row","needed"])(G:Gs K mg):av P w K mg base (k+1) "refuse_miscounted" ["name","row","needed"] JI:=show _ by
 refine h.jX Jj (by rintro ds S q ⟨x,a,xs,e,_⟩;rw[e];rfl) λf cdv A outer s0 H E ds S q hr hA=>?_;obtain⟨x,a,xs,rfl,hS,hq⟩:=hA;refine⟨_,(au (aH (i:=3) Jj.nd rfl (Or.inl rfl) (dH eI eU rfl G.len eC (ae (aa 1) ah)))
 (ay (cy (br rN Sw (aa 3) (aa 2) (bC _)) (ay FY) cw))),?_⟩
 nofun;exact⟨Sub.refl _,hq⟩
inductive Zs (ds:List D)(q:D->Prop):Prop where
 |mk (t:ak) (_:ds=[t.d]) (_:t.size<=1000) (_:q (.int t.size))
def JJ :aL:=vS Zs
theorem Zu{k:Nat}(h:az K mg "size" qf ["tree"])(G:Gs K mg):av P w K mg base (k+1) "size" ["tree"] JJ:=show _ by
 refine h.val tx (by rintro ds q ⟨t,e,_⟩;rw[e];rfl) λf cdv A outer s0 H E ds q hr hA=>?_;obtain⟨t,rfl,hz,hq⟩:=hA;refine⟨_,(au (aH (i:=1) tx.nd rfl (Or.inl rfl) aj)
 (au (aH (i:=2) tx.nd rfl (Or.inl rfl) (dq (ae (aa 0) ah)))
 (au (pB eD (vg (aa 2) (λ_=>rfl)) (au (aH (i:=3) tx.nd rfl (Or.inl rfl) (g0 bW gR iw gV g_ (aa 2)))
 (ay (cy (br Es Gg (aa 3) eZ (bC _)) (au (vk (i:=1) tx.nd rfl (Or.inl rfl) aj yn)
 (ay (b8 (cZ bW Ng PySem.F.type_list_extend RB SD (aa 2) (ae (aa 3) ah))))) cw))))
 (ay (bz (aa 1)))))),?_⟩
 nofun;intro p hp;nofun;refine pG (λm σ S=>ow λ(n:Int) (ts:List ak) (x3:Option D)=>σ=[some t.d,some (.int n),some (.ref p),x3]/\S p=some (.lst (ts.map ak.d))/\n+sizes ts=t.size/\m=2*sizes ts+ts.length/\m<=2*t.size+1) (2*t.size+1)
  ⟨0,[t],none,rfl,ax,by simp[sizes],by simp[sizes],aT _⟩ ?_
 rintro m σ S ⟨n,ts,x3,rfl,hl,hk,hm,hmb⟩;nofun;rcases snoc_cases ts with rfl|⟨ts,t',rfl⟩
 ·nofun;have e:n=t.size:=by simpa[sizes]using hk
  rw[e];exact hq
 ·have eb:(!((ts++[t']).map ak.d).isEmpty)=true:=by simp
  rw[eb];refine nz ?_;rw[gX]at hk hm;simp only[sizes,aR,bp,cm]at hk hm;rw[da]at hl;nofun;refine gJ hl ?_;have hp1:up S p (.lst (ts.map ak.d)) p=some (.lst (ts.map ak.d)):=ax;generalize up S p (.lst (ts.map ak.d))=S1 at hp1 ⊢;nofun;cases t' with
  |aI =>
   refine zF rfl ?_;simp only[ak.size]at hk hm;nofun;exact⟨_,by lia,n,ts,_,rfl,hp1,by lia,rfl,by lia⟩
  |pair l r =>
   refine zE rfl ?_;simp only[ak.size]at hk hm;have e:(ak.pair l r).d=.tup [l.d,r.d]:=rfl;rw[e];nofun;refine TM hp1 ?_ ?_
   ·rw[aG];exact fB (by simp only[bp,cm];lia)
   nofun;refine⟨_,?_,n+1,ts++[l]++[r],_,rfl,?_,?_,rfl,?_⟩
   ·rw[gX,gX];simp only[sizes,aR,bp,cm];lia
   ·rw[ax,da,da,i6];rfl
   ·rw[gX,gX];simp only[sizes];lia
   ·rw[gX,gX];simp only[sizes,aR,bp,cm];lia
def Sy.AO:Sy->Bool
 | .send _ _=>true
 |_=>false
def mP(xs:List Sy):Int:=((xs.filter Sy.AO).length:Nat)
inductive Zv (ds:List D)(S:af)(q:D->Prop):Prop where
 |mk (po:Addr) (xs:List Sy) (_:ds=[.ref po]) (_:S po=some (.lst (xs.map Sy.d))) (_:xs.length<=100000) (_:q (.int (mP xs)))
def AQ :aL:=jX Zv
theorem Zw{k:Nat}(h:az K mg "count_sends" oj ["order"])(G:Gs K mg):av P w K mg base (k+1) "count_sends" ["order"] AQ:=show _ by
 refine h.jX Yt (by rintro ds S q ⟨po,xs,e,_⟩;rw[e];rfl) λf cdv A outer s0 H E ds S q hr hA=>?_;obtain⟨po,xs,rfl,hS,hz,hq⟩:=hA;refine⟨_,(ay (bz (dH eI eU rfl G.len eC (ae (k9 (cA:=ao oj) (N:=["order"]) (M:=[]) (js:=[]) ⟨rfl,by cbv,by cbv,by cbv,by cbv,by cbv⟩ (by cbv) (by cbv) rfl (jg (aa 0)) (λ_ _ _ _ _=>(Vy (br cI gg (aA aO aP (aa 0) aj (λ_ _=>rfl)) bE (bC _)))) (λ_ _ _ _ _=>(aa 0))) ah)))),?_⟩;nofun;refine⟨λi ys S'=>S'=S/\ys=((xs.take i).filter Sy.AO).map Sy.d,⟨rfl,rfl⟩,?_,?_,?_⟩
 ·rintro i ys S' ⟨rfl,rfl⟩;refine⟨hS,?_⟩;rw[aG];have:=DH Sy.AO (xs.take i);have:(xs.take i).length<=xs.length:=by rw[dP];lia
  exact c6 (by lia)
 ·rintro i d ys S' hd ⟨rfl,rfl⟩;rw[a7]at hd;obtain⟨s,hs,rfl⟩:=dz.mp hd;have htk:xs.take (i+1)=xs.take i++[s]:=by rw[jK,hs];rfl
  refine⟨_,rfl,?_⟩;cases s<;>(simp only[Sy.d];nofun;exact⟨rfl,by rw[htk,uv,da];first|rfl|exact(gP _).symm⟩)
 ·rintro ys S' ⟨rfl,rfl⟩;rw[aG,oU];intro p hp;nofun;rw[aG];exact⟨(Sub.refl _).up hp,hq⟩
def iQ:List D×Int->Sy->Option (List D×Int)
 |(st,l),.name x=>some (.tup [.str "name",.str x]::st,l)
 |(st,l),.aI=>some (.tup [.str "bud"]::st,l)
 |(a::b::st,l),.pair _ _=>some (.tup [.str "pair",a,b]::st,l)
 |(a::st,l),.left _=>some (.tup [.str "left",a]::st,l)
 |(a::st,l),.right _=>some (.tup [.str "right",a]::st,l)
 |(a::b::c::st,l),.fork _ _ _=>some (.tup [.str "fork",a,b,c]::st,l)
 |(st,l),.send x as=>if as.length<=st.length then some (.tup [.str "send",.str x,.tup (st.take as.length),.int (l-1)]::st.drop as.length,l-1) else none
 |_,_=>none
def d6:List D×Int->List Sy->Option (List D×Int)
 |a,[]=>some a
 |a,s::r=>match iQ a s with
  |some b=>d6 b r
  |none=>none
inductive Zx (ds:List D)(S:af)(q:D->Prop):Prop where
 |mk (po:Addr) (xs:List Sy) (n:Int) (d:D) (st:List D) (l:Int) (_:ds=[.ref po,.int n]) (_:S po=some (.lst (xs.map Sy.d))) (_:xs.length<=100000) (_:d6 ([],n+mP xs) xs.reverse=some (d::st,l)) (_:q d)
def JK :aL:=jX Zx
theorem Zy{k:Nat}(h:az K mg "numbered" om ["order","number"])(G:Gs K mg)(qH:av P w K mg base k "count_sends" ["order"] AQ)(oH:av P w K mg base k "parts" ["saying"] wI):av P w K mg base (k+1) "numbered" ["order","number"] JK:=show _ by
 refine h.jX qj (by rintro ds S q ⟨po,xs,n,d,st,l,e,_⟩;rw[e];rfl) λf cdv A outer s0 H E ds S q hr hA=>?_;obtain⟨po,xs,n,d,st,l,rfl,hS,hz,hf,hq⟩:=hA;refine⟨_,(au (aH (i:=2) qj.nd rfl (Or.inr rfl) (dq ah))
 (au (aH (i:=3) qj.nd rfl (Or.inl rfl) (aE mj jh (aa 1) (aQ qH hr rfl (ae (aa 0) ah))))
 (au (e_ eD rfl (HG rfl G.wz (ae (aa 0) ah)) (dv (i:=4) qj.nd rfl (Or.inl rfl)) (au (aH (i:=5) qj.nd rfl (Or.inl rfl) (iF jd jj rfl G.tuple jJ (ae (k9 (cA:=ao om) (N:=["order","number","done","later","saying","inner"]) (M:=["done"]) (js:=[2]) ⟨rfl,by cbv,by cbv,by cbv,by cbv,by cbv⟩ (by cbv) (by cbv) rfl (sG (aQ oH hr rfl (ae (aa 4) ah))) (λ_ _ _ _ _=>fD) (λ_ _ _ _ _=>(g0 bW gR iw gV g_ (aa 1)))) ah)))
 (ay (cy (br cI gg (aA aO aP (aa 4) aj (λ_ _=>rfl)) bE (bC _)) (au (vk (i:=3) qj.nd rfl (Or.inl rfl) aj Pq)
 (ay (b8 (cZ bW c_ dj cY de (aa 2) (ae (bw (ae bE (ae (aA aO aP (aa 4) aj (λ_ _=>rfl)) (ae (aa 5) (ae (aa 3) ah))))) ah))))) (ay (cy (br cI gg (aA aO aP (aa 4) aj (λ_ _=>rfl)) bE (bC _)) (ay (b8 (cZ bW c_ dj cY de (aa 2) (ae (aa 4) ah)))) (ay (b8 (cZ bW c_ dj cY de (aa 2) (ae (aE Ab Ac (bw (ae (aA aO aP (aa 4) aj (λ_ _=>rfl)) ah)) (aa 5)) ah))))))))))
 (ay (bz (g0 bW gR iw gV g_ (aa 2))))))),?_⟩
 nofun;intro pd hpd;have hS1:=aD (o:=.lst []) hS hpd;nofun;refine⟨po,xs,rfl,hS1,hz,?_⟩;nofun;refine⟨λi σ S'=>lr λ(us:List D) (m:Int) (x4 x5:Option D)=>σ=[some (.ref po),some (.int n),some (.ref pd),some (.int m),x4,x5]/\Sub S S'/\S' pd=some (.lst us.reverse)/\us.length<=i/\d6 (us,m) (xs.reverse.drop i)=some (d::st,l),
  ⟨[],_,none,none,rfl,(Sub.refl S).up hpd,ax,bV _,hf⟩,λi σ S' ⟨_,_,_,_,_,h1,_⟩=>h1 _ _ hS,?_,?_⟩
 ·rintro i s' σ S' hd ⟨us,m,x4,x5,rfl,g1,g2,gl,gf⟩;rw[<-DU,a7]at hd;obtain⟨s,hs,rfl⟩:=dz.mp hd;have hi:i<100000:=by
   have:=(b4.mp hs).1;rw[jG]at this;lia
  have hdr:xs.reverse.drop i=s::xs.reverse.drop (i+1):=by
   rw[uz (b4.mp hs).1];rw[(b4.mp hs).2]
  rw[hdr,d6]at gf;cases hst:iQ (us,m) s with
  |none=>rw[hst]at gf;cases gf
  |some r =>
  rw[hst]at gf;have gf:d6 r (xs.reverse.drop (i+1))=some (d::st,l):=gf;obtain⟨us',m'⟩:=r;have hpl:s.parts.length<=us.length:=by
   cases s with
   |name x=>exact bV _
   |aI=>exact bV _
   |pair a b =>
    match us,hst with
    |_::_::_,_=>simp[Sy.parts]
   |send x as =>
    simp only[iQ]at hst;by_cases hc:as.length<=us.length
    ·exact hc
    ·rw[if_neg hc]at hst;cases hst
   |left a =>
    match us,hst with
    |_::_,_=>simp[Sy.parts]
   |right a =>
    match us,hst with
    |_::_,_=>simp[Sy.parts]
   |fork a b c =>
    match us,hst with
    |_::_::_::_,_=>simp[Sy.parts]
  nofun;refine⟨s,rfl,?_⟩;nofun;refine⟨λj ys S2=>ys=us.take j/\j<=s.parts.length/\Sub S S2/\S2 pd=some (.lst (us.drop j).reverse),⟨rfl,bV _,g1,g2⟩,?_,?_,?_⟩
  ·rintro j ys S2 ⟨rfl,hj,_,_⟩;refine⟨trivial,?_⟩;have:=List.length_take_le j us;exact c6 (by lia)
  ·rintro j e ys S2 he ⟨rfl,hj,k1,k2⟩;have hj':=(b4.mp he).1;rw[aG]at hj';have JL:j<us.length:=by lia
   have ed:us.drop j=us[j]::us.drop (j+1):=uz JL;rw[ed,l8]at k2;refine zU (v9 ?_);rw[if_pos rfl];nofun;refine gJ k2 ⟨?_,by lia,k1.at (Sub.free (Sub.refl S) hpd),ax⟩;rw[jK,aU JL];rfl
  rintro ys S2 ⟨rfl,-,k1,k2⟩;rw[aG]at k2 ⊢;intro pn hpn;have k3:=aD (o:=.lst (us.take s.parts.length)) k2 hpn;have k4:Sub S (up S2 pn (.lst (us.take s.parts.length))):=k1.up hpn;nofun;generalize up S2 pn (.lst (us.take s.parts.length))=S3 at k3 k4 ⊢;have fin:∀u:D,us'=u::us.drop s.parts.length->Sub S (up S3 pd (.lst ((us.drop s.parts.length).reverse++[u])))/\up S3 pd (.lst ((us.drop s.parts.length).reverse++[u])) pd=some (.lst us'.reverse)/\us'.length<=i+1:=by
   intro u hu;refine⟨k4.at hpd,?_,?_⟩
   ·rw[ax,hu];simp
   ·rw[hu,bp,fg];lia
  have hsm:((us.drop s.parts.length).reverse).length<sizeLine:=by
   rw[jG,fg];exact c6 (by lia)
  cases s with
  |name x =>
   cases hst;simp only[Sy.d];nofun;refine cJ k3 hsm ?_;nofun;obtain⟨z1,z2,z3⟩:=fin _ rfl;exact⟨_,_,_,_,rfl,z1,z2,z3,gf⟩
  |aI =>
   cases hst;simp only[Sy.d];nofun;refine cJ k3 hsm ?_;nofun;obtain⟨z1,z2,z3⟩:=fin _ rfl;exact⟨_,_,_,_,rfl,z1,z2,z3,gf⟩
  |pair a b =>
   obtain⟨a',b',u2,rfl⟩:∃a' b' u2,us=a'::b'::u2:=by
    match us,hst with
    |a'::b'::u2,_=>exact⟨a',b',u2,rfl⟩
   cases hst;simp only[Sy.d];nofun;refine cJ k3 hsm ?_;nofun;obtain⟨z1,z2,z3⟩:=fin _ rfl;exact⟨_,_,_,_,rfl,z1,z2,z3,gf⟩
  |send x as =>
   have hc:as.length<=us.length:=hpl;simp only[iQ]at hst;rw[if_pos hc]at hst;cases hst;simp only[Sy.d];nofun;refine cJ k3 hsm ?_;nofun;obtain⟨z1,z2,z3⟩:=fin _ rfl;exact⟨_,_,_,_,rfl,z1,z2,z3,gf⟩
  |left a =>
   obtain⟨a',u2,rfl⟩:∃a' u2,us=a'::u2:=by
    match us,hst with
    |a'::u2,_=>exact⟨a',u2,rfl⟩
   cases hst;simp only[Sy.d];nofun;refine cJ k3 hsm ?_;nofun;obtain⟨z1,z2,z3⟩:=fin _ rfl;exact⟨_,_,_,_,rfl,z1,z2,z3,gf⟩
  |right a =>
   obtain⟨a',u2,rfl⟩:∃a' u2,us=a'::u2:=by
    match us,hst with
    |a'::u2,_=>exact⟨a',u2,rfl⟩
   cases hst;simp only[Sy.d];nofun;refine cJ k3 hsm ?_;nofun;obtain⟨z1,z2,z3⟩:=fin _ rfl;exact⟨_,_,_,_,rfl,z1,z2,z3,gf⟩
  |fork a b c =>
   obtain⟨a',b',c',u2,rfl⟩:∃a' b' c' u2,us=a'::b'::c'::u2:=by
    match us,hst with
    |a'::b'::c'::u2,_=>exact⟨a',b',c',u2,rfl⟩
   cases hst;simp only[Sy.d];nofun;refine cJ k3 hsm ?_;nofun;obtain⟨z1,z2,z3⟩:=fin _ rfl;exact⟨_,_,_,_,rfl,z1,z2,z3,gf⟩
 ·rintro σ S' ⟨us,m,x4,x5,rfl,g1,g2,gl,gf⟩;rw[jG,aG,<-jG,xV]at gf;cases gf;rw[l8]at g2;nofun;refine gJ g2 ?_;nofun;exact⟨g1.at hpd,hq⟩
def j_:List (Key×D)->Int->List Er->Option (List (Key×D))
 |kvs,_,[]=>some kvs
 |kvs,n,e::r=>match d6 ([],n+mP e.body.pre) e.body.pre.reverse with
  |some (d::_,_)=>j_ (putD kvs (.inr e.name) d) (n+mP e.body.pre) r
  |_=>none
theorem Zz(kvs:List (Key×D))(k:Key)(v:D):(putD kvs k v).length<=kvs.length+1:=by
 unfold putD
 split
 ·rw[aG];lia
 ·rw[aR];exact aT _
inductive ZC (ds:List D)(S:af)(Q:K3)(_:X3):Prop where
 |mk (pr:Addr) (prog:List Er) (kvs:List (Key×D)) (_:ds=[.ref pr]) (_:S pr=some (.lst (prog.map Er.d))) (_:prog.length<=100) (_:(∀e∈prog,e.body.pre.length<=100000)) (_:j_ [] 0 prog=some kvs) (_:∀p S',Sub S S'->S' p=some (.b_ kvs)->Q (.ref p) S')
def JM :aL:= ZC
theorem ZD{k:Nat}(h:az K mg "numbered_bodies" qh ["program"])(G:Gs K mg)(AR:av P w K mg base k "in_order" ["body"] JG)(AS:av P w K mg base k "numbered" ["order","number"] JK)
 (qH:av P w K mg base k "count_sends" ["order"] AQ):av P w K mg base (k+1) "numbered_bodies" ["program"] JM:=show _ by
 refine h.mx qi (by rintro ds S Q E ⟨pr,prog,kvs,e,_⟩;rw[e];rfl) λf cdv A outer s0 H E ds S Q W hr hA=>?_;obtain⟨pr,prog,kvs,rfl,hS,hl,hz,hf,hq⟩:=hA;have hu:=o_ hr;refine⟨_,Q,(au (aH (i:=1) qi.nd rfl (Or.inl rfl) R')
 (au (aH (i:=2) qi.nd rfl (Or.inl rfl) aj)
 (au (e_ eD rfl (jg (aa 0)) (dv (i:=3) qi.nd rfl (Or.inl rfl)) (au (aH (i:=4) qi.nd rfl (Or.inl rfl) (aQ AR hr rfl (ae (aA aO aP (aa 3) aj (λ_ _=>rfl)) ah)))
 (au (Sj hu (aa 1) (aA aO aP (aa 3) aj (λ_ _=>rfl)) (aQ AS hr rfl (ae (aa 4) (ae (aa 2) ah))) rfl)
 (ay (vk (i:=2) qi.nd rfl (Or.inl rfl) (aQ qH hr rfl (ae (aa 4) ah)) yn)))))
 (ay (bz (aa 1)))))),?_,λ_ _ q=>q⟩
 nofun;intro pb hpb;have hS1:=aD (o:=.b_ []) hS hpb;nofun;refine⟨λi σ S'=>lr λ(kv:List (Key×D)) (n:Int) (x3 x4:Option D)=>σ=[some (.ref pr),some (.ref pb),some (.int n),x3,x4]/\Sub S S'/\S' pb=some (.b_ kv)/\kv.length<=i/\j_ kv n (prog.drop i)=some kvs,
  ⟨[],0,none,none,rfl,(Sub.refl S).up hpb,ax,bV _,hf⟩,λi σ S' ⟨_,_,_,_,_,h1,_⟩=>h1 _ _ hS,?_,?_⟩
 ·rintro i d σ S' hd ⟨kv,n,x3,x4,rfl,g1,g2,gl,gf⟩;rw[a7]at hd;obtain⟨e,he,rfl⟩:=dz.mp hd;have hi:=(b4.mp he).1;have hdr:prog.drop i=e::prog.drop (i+1):=by
   rw[uz hi,(b4.mp he).2]
  rw[hdr,j_]at gf;have JN:=hz e (c8 he);unfold Er.d;nofun;refine⟨e.body,rfl,by lia,?_⟩;intro po hpo;have k1:up S' po (.lst (e.body.pre.map Sy.d)) po=some (.lst (e.body.pre.map Sy.d)):=ax;have k2:=aD (o:=.lst (e.body.pre.map Sy.d)) g2 hpo;have k3:Sub S (up S' po (.lst (e.body.pre.map Sy.d))):=g1.up hpo;have n1:po≠pb:=(ne3 g2 hpo).symm;generalize up S' po (.lst (e.body.pre.map Sy.d))=S1 at k1 k2 k3 ⊢;nofun;cases hfd:d6 ([],n+mP e.body.pre) e.body.pre.reverse with
  |none=>rw[hfd]at gf;cases gf
  |some us =>
   obtain⟨us,l⟩:=us;rw[hfd]at gf;cases us with
   |nil=>cases gf
   |cons d st =>
    have gf:j_ (putD kv (.inr e.name) d) (n+mP e.body.pre) (prog.drop (i+1))=some kvs:=gf;refine⟨po,e.body.pre,n,d,st,l,rfl,k1,JN,hfd,?_⟩;nofun;refine Ud k2 (c6 (by lia)) ?_;nofun;refine⟨po,e.body.pre,rfl,by rw[aW n1];exact k1,JN,?_⟩;nofun;refine⟨_,_,_,_,rfl,k3.at hpb,ax,?_,gf⟩;have:=Zz kv (.inr e.name) d;lia
 ·rintro σ S' ⟨kv,n,x3,x4,rfl,g1,g2,gl,gf⟩;rw[aG,xV]at gf;cases gf;nofun;exact hq _ _ g1 g2
inductive jy:D->List D->Prop
 |name (x:Str):jy (.tup [.str "name",.str x]) []
 |aI:jy (.tup [.str "bud"]) []
 |pair (a b:D):jy (.tup [.str "pair",a,b]) [a,b]
 |left (a:D):jy (.tup [.str "left",a]) [a]
 |right (a:D):jy (.tup [.str "right",a]) [a]
 |fork (a b c:D):jy (.tup [.str "fork",a,b,c]) [a]
 |send (x:Str) (is:List D) (l:Int):jy (.tup [.str "send",.str x,.tup is,.int l]) is
inductive ZE (ds:List D)(q:D->Prop):Prop where
 |mk (s:_) (ps:_) (_:ds=[s]) (_:jy s ps) (_:q (.tup ps))
def JO :aL:=vS ZE
theorem ZF{k:Nat}(h:az K mg "needed_parts" qk ["saying"])(G:Gs K mg)(oH:av P w K mg base k "parts" ["saying"] AM):av P w K mg base (k+1) "needed_parts" ["saying"] JO:=show _ by
 refine h.val Yu (by rintro ds q ⟨s,ps,e,_⟩;rw[e];rfl) λf cdv A outer s0 H E ds q hr hA=>?_;obtain⟨s,ps,rfl,hp,hq⟩:=hA;refine⟨_,(ay (bz (pv (br cI gg (aA aO aP (aa 0) aj (λ_ _=>rfl)) bE (bC _)) (eh vv vw (aa 0) (dU aj) (dU aj)) (aQ oH hr rfl (ae (aa 0) ah))))),?_⟩;cases hp with
 |name x=>nofun;exact⟨_,_,rfl,.name x,hq⟩
 |aI=>nofun;exact⟨_,_,rfl,.aI,hq⟩
 |pair a b=>nofun;exact⟨_,_,rfl,.pair a b,hq⟩
 |left a=>nofun;exact⟨_,_,rfl,.left a,hq⟩
 |right a=>nofun;exact⟨_,_,rfl,.right a,hq⟩
 |fork a b c=>nofun;exact hq
 |send x is l=>nofun;exact⟨_,_,rfl,.send x _ _,hq⟩
def gN(l:Bool):ak->ak
 | .aI=>.aI
 | .pair a b=>if l then a else b
inductive ZG (ds:List D)(q:D->Prop):Prop where
 |mk (l:Bool) (t:ak) (_:ds=[.str (if l then "left" else "right"),t.d]) (_:q (gN l t).d)
def JP :aL:=vS ZG
theorem ZH{k:Nat}(h:az K mg "side" ql ["kind","tree"])(G:Gs K mg):av P w K mg base (k+1) "side" ["kind","tree"] JP:=show _ by
 refine h.val Yv (by rintro ds q ⟨l,t,e,_⟩;rw[e];rfl) λf cdv A outer s0 H E ds q hr hA=>?_;obtain⟨l,t,rfl,hq⟩:=hA;refine⟨_,(au (cy (br rO sJ (aa 1) eZ (bC _)) (ay (bz eZ)) cw)
 (ay (bz (pv (br cI gg (aa 0) bE (bC _)) (aA aO aP (aa 1) aj (λ_ _=>rfl)) (aA aO aP (aa 1) aj (λ_ _=>rfl)))))),?_⟩
 cases t with
 |aI =>
  nofun;exact hq
 |pair a b =>
  have e:(ak.pair a b).d=.tup [a.d,b.d]:=rfl;rw[e];cases l with
  |true =>
   nofun;exact hq
  |false =>
   nofun;exact hq
inductive ZI(CR:Addr)(ds:List D)(S:af)(Q:K3)(_:X3):Prop where
 |mk (S0:_) (a:_) (pa:_) (bo:_) (mo:_) (AU:_) (AV:_) (_:ds=[.ref a,.ref pa,.ref bo,.int mo]) (_:S a=some (.ins CR [])) (_:S pa=some (.b_ AU)) (_:S bo=some (.b_ AV)) (_:Sub S0 S) (_:S0 a=none) (_:∀A S',RS CR S0 S' a A ⟨AU,AV,mo,[],[],[],.non⟩->Q .non S')
def JQ(CR:Addr):aL:= (ZI CR)
theorem ZJ{k:Nat}(h:eB K CR "__init__" "Run.__init__" qw ["self","params","bodies","most"])(G:Gs K mg)(T:iO K mg CR):df P w K mg base (k+1) CR "__init__" ["self","params","bodies","most"] (JQ CR):=show _ by
 refine h.k7 YA (by rintro ds S Q E ⟨_,a,pa,bo,mo,_,_,e,_⟩;rw[e];rfl) λf cdv A0 outer s0 H E ds S Q W hr hA=>?_;obtain⟨S0,a,pa,bo,mo,AU,AV,rfl,ha,hpa,hbo,hs,fa,hq⟩:=hA;refine⟨_,(au (jq T.cl T.n_params (aa 0) (aa 1) rfl)
 (au (jq T.cl T.n_bodies (aa 0) (aa 2) rfl)
 (au (jq T.cl T.n_most (aa 0) (aa 3) rfl)
 (au (jq T.cl T.n_begun (aa 0) (dq ah) rfl)
 (au (jq T.cl T.n_pending (aa 0) (dq ah) rfl)
 (au (jq T.cl T.n_waiting (aa 0) (dq ah) rfl)
 (ay (jq T.cl T.n_ending (aa 0) eZ rfl)))))))),?_⟩
 have np:pa≠a:=dI hpa ha (λz=>nomatch z);have nb:bo≠a:=dI hbo ha (λz=>nomatch z);have put:∀(gs:List (Str×D)) (S:af) (fs:List (Str×D)) (f:Str) (d:D) (n:af->Prop),S a=some (.ins CR fs)->fs.length<1000->gm f d fs=gs->n (up S a (.ins CR gs))->pV CR f (.ref a) d S n:=λgs S fs f d n hS hl e q=>Ak hS hl (by rw[e];exact q);nofun;refine put [("params",.ref pa)] _ _ _ _ _ ha (by decide) rfl ?_;nofun;refine put [("params",.ref pa),("bodies",.ref bo)] _ _ _ _ _ ax (show 1<1000 by decide) rfl ?_;rw[kM];nofun;refine put [("params",.ref pa),("bodies",.ref bo),("most",.int mo)] _ _ _ _ _ ax (show 2<1000 by decide) rfl ?_;rw[kM];have K0:Sub S0 (up S a (.ins CR [("params",.ref pa),("bodies",.ref bo),("most",.int mo)])):=hs.at fa;have f1:up S a (.ins CR [("params",.ref pa),("bodies",.ref bo),("most",.int mo)]) a=_:=ax;have f2:=b9 (o:=.ins CR [("params",.ref pa),("bodies",.ref bo),("most",.int mo)]) hpa np;have f3:=b9 (o:=.ins CR [("params",.ref pa),("bodies",.ref bo),("most",.int mo)]) hbo nb;nofun;intro be hbe;have K1:Sub S0 (up (up S a (.ins CR [("params",.ref pa),("bodies",.ref bo),("most",.int mo)])) be (.lst [])):=K0.up hbe;have fb:=K0.free hbe;have g1:=aD (o:=.lst []) f1 hbe;have g2:=aD (o:=.lst []) f2 hbe;have g3:=aD (o:=.lst []) f3 hbe;have g4:=ax (S:=up S a (.ins CR [("params",.ref pa),("bodies",.ref bo),("most",.int mo)])) (a:=be) (o:=.lst []);generalize up (up S a (.ins CR [("params",.ref pa),("bodies",.ref bo),("most",.int mo)])) be (.lst [])=S1 at g1 g2 g3 g4 K1 ⊢;nofun;refine put [("params",.ref pa),("bodies",.ref bo),("most",.int mo),("begun",.ref be)] _ _ _ _ _ g1 (show 3<1000 by decide) rfl ?_;have e1:be≠a:=dI g4 g1 (λz=>nomatch z);have h1:up S1 a (.ins CR [("params",.ref pa),("bodies",.ref bo),("most",.int mo),("begun",.ref be)]) a=_:=ax;have h2:=b9 (o:=.ins CR [("params",.ref pa),("bodies",.ref bo),("most",.int mo),("begun",.ref be)]) g2 np;have h3:=b9 (o:=.ins CR [("params",.ref pa),("bodies",.ref bo),("most",.int mo),("begun",.ref be)]) g3 nb;have h4:=b9 (o:=.ins CR [("params",.ref pa),("bodies",.ref bo),("most",.int mo),("begun",.ref be)]) g4 e1;have K2:Sub S0 (up S1 a (.ins CR [("params",.ref pa),("bodies",.ref bo),("most",.int mo),("begun",.ref be)])):=K1.at fa;generalize up S1 a (.ins CR [("params",.ref pa),("bodies",.ref bo),("most",.int mo),("begun",.ref be)])=S2 at h1 h2 h3 h4 K2 ⊢;nofun;intro pe hpe;have i1:=aD (o:=.lst []) h1 hpe;have i2:=aD (o:=.lst []) h2 hpe;have i3:=aD (o:=.lst []) h3 hpe;have i4:=aD (o:=.lst []) h4 hpe;have i5:=ax (S:=S2) (a:=pe) (o:=.lst []);have n1:be≠pe:=ne3 h4 hpe;have K3:Sub S0 (up S2 pe (.lst [])):=K2.up hpe;have fp:=K2.free hpe;generalize up S2 pe (.lst [])=S3 at i1 i2 i3 i4 i5 K3 ⊢;nofun;refine put [("params",.ref pa),("bodies",.ref bo),("most",.int mo),("begun",.ref be),("pending",.ref pe)] _ _ _ _ _ i1 (show 4<1000 by decide) rfl ?_;have e2:pe≠a:=dI i5 i1 (λz=>nomatch z);have k1:up S3 a (.ins CR [("params",.ref pa),("bodies",.ref bo),("most",.int mo),("begun",.ref be),("pending",.ref pe)]) a=_:=ax
 have k2:=b9 (o:=.ins CR [("params",.ref pa),("bodies",.ref bo),("most",.int mo),("begun",.ref be),("pending",.ref pe)]) i2 np;have k3:=b9 (o:=.ins CR [("params",.ref pa),("bodies",.ref bo),("most",.int mo),("begun",.ref be),("pending",.ref pe)]) i3 nb;have k4:=b9 (o:=.ins CR [("params",.ref pa),("bodies",.ref bo),("most",.int mo),("begun",.ref be),("pending",.ref pe)]) i4 e1;have k5:=b9 (o:=.ins CR [("params",.ref pa),("bodies",.ref bo),("most",.int mo),("begun",.ref be),("pending",.ref pe)]) i5 e2;have K4:Sub S0 (up S3 a (.ins CR [("params",.ref pa),("bodies",.ref bo),("most",.int mo),("begun",.ref be),("pending",.ref pe)])):=K3.at fa;generalize up S3 a (.ins CR [("params",.ref pa),("bodies",.ref bo),("most",.int mo),("begun",.ref be),("pending",.ref pe)])=S4 at k1 k2 k3 k4 k5 K4 ⊢;nofun;intro wa gn;have l1:=aD (o:=.lst []) k1 gn;have l2:=aD (o:=.lst []) k2 gn;have l3:=aD (o:=.lst []) k3 gn;have l4:=aD (o:=.lst []) k4 gn;have l5:=aD (o:=.lst []) k5 gn;have l6:=ax (S:=S4) (a:=wa) (o:=.lst []);have n2:be≠wa:=ne3 k4 gn;have n3:pe≠wa:=ne3 k5 gn;have K5:Sub S0 (up S4 wa (.lst [])):=K4.up gn;have fw:=K4.free gn;generalize up S4 wa (.lst [])=S5 at l1 l2 l3 l4 l5 l6 K5 ⊢;nofun;refine put [("params",.ref pa),("bodies",.ref bo),("most",.int mo),("begun",.ref be),("pending",.ref pe),("waiting",.ref wa)] _ _ _ _ _ l1 (show 5<1000 by decide) rfl ?_;nofun;refine put [("params",.ref pa),("bodies",.ref bo),("most",.int mo),("begun",.ref be),("pending",.ref pe),("waiting",.ref wa),("ending",.non)] _ _ _ _ _ ax (show 6<1000 by decide) rfl ?_;rw[kM];nofun;exact hq ⟨pa,bo,be,pe,wa⟩ _ ⟨ax,b9 l2 np,b9 l3 nb,b9 l4 e1,b9 l5 e2,b9 l6 (dI l6 l1 (λz=>nomatch z)),n1,n2,n3,K5.at fa,fa,fb,fp,fw⟩
inductive qI:Rn->D->D->Str->D->Rn->Prop
 |stop {r:Rn} {p n ts:D} {x:Str}:r.mo<=(r.be.length:Int)->qI r p n x ts {r with en:=.tup [.str "going",.int r.mo]}
 |new {r:Rn} {p n ts body:D} {x:Str}:(r.be.length:Int)<r.mo->du r.bo (.inr x)=some body->qI r p n x ts {r with pe:=r.pe++[.tup [.bl false,body,.int r.be.length]],be:=r.be++[.tup [p,n,.str x,ts]]}
inductive ZK(CR:Addr)(ds:List D)(S:af)(Q:K3)(_:X3):Prop where
 |mk (S0:_) (a:_) (A:_) (r:_) (p:_) (n:_) (x:_) (ts:_) (r':_) (_:ds=[.ref a,p,n,.str x,ts]) (_:RS CR S0 S a A r) (_:r.be.length<=900000) (_:r.pe.length<=900000) (_:qI r p n x ts r') (_:∀S',RS CR S0 S' a A r'->Q .non S')
def AW(CR:Addr):aL:= (ZK CR)
theorem ZL{k:Nat}(h:eB K CR "begin" "Run.begin" qy ["self","parent","number","name","trees"])(G:Gs K mg)(T:iO K mg CR):df P w K mg base (k+1) CR "begin" ["self","parent","number","name","trees"] (AW CR):=show _ by
 refine h.k7 YB (by rintro ds S Q E ⟨_,a,A,r,p,n,x,ts,body,e,_⟩;rw[e];rfl) λf cdv A0 outer s0 H E ds S Q W hr hA=>?_;obtain⟨S0,a,A,r,p,n,x,ts,r',rfl,h,lb,lp,hb,hq⟩:=hA;have hu:=o_ hr;refine⟨_,(ay (cy (br Ep iG (dH eI eU rfl G.len eC (ae (cU T.cl T.n_begun (aa 0) rfl) ah)) (cU T.cl T.n_most (aa 0) rfl) (bC _)) (ay (jq T.cl T.n_ending (aa 0) (bw (ae bE (ae (cU T.cl T.n_most (aa 0) rfl) ah))) rfl)) (au (b8 (cZ bW c_ dj cY de (cU T.cl T.n_pending (aa 0) rfl) (ae (bw (ae mr (ae (zc hu (cU T.cl T.n_bodies (aa 0) rfl) (aa 3) (λ_ _=>rfl)) (ae (dH eI eU rfl G.len eC (ae (cU T.cl T.n_begun (aa 0) rfl) ah)) ah)))) ah)))
 (ay (b8 (cZ bW c_ dj cY de (cU T.cl T.n_begun (aa 0) rfl) (ae (bw (ae (aa 1) (ae (aa 2) (ae (aa 3) (ae (aa 4) ah))))) ah))))))),?_⟩
 have hbe:=h.be;have hpe:=h.pe;cases hb with
 |stop hm =>
  nofun;refine Ap h ?_;nofun;exact hq _ (h.Ao _)
 |new hm hv =>
  rename_i body
  nofun;refine zu h.bo hv ?_;nofun;refine cJ hpe (c6 (by lia)) ?_;have h1:=h.nS (r.pe++[.tup [.bl false,body,.int r.be.length]]);have JR:=h1.be;generalize up S A.pe _=S1 at h1 JR ⊢;nofun;refine cJ (ds:=r.be) JR (c6 (by lia)) ?_;nofun;exact hq _ (h1.X4 _)
inductive ZM(CR:Addr)(ds:List D)(S:af)(Q:K3)(_:X3):Prop where
 |mk (S0:_) (a:_) (A:_) (r:_) (n:_) (xs:_) (ys:_) (_:ds=[.ref a,.int n]) (_:RS CR S0 S a A r) (_:r.wa=xs++ys) (_:(ys.length:Int)=n) (_:∀A' S',RS CR S0 S' a A' {r with wa:=xs}->Q (.tup ys) S')
def AX(CR:Addr):aL:= (ZM CR)
theorem ZO{k:Nat}(h:eB K CR "taken" "Run.taken" qC ["self","many"])(G:Gs K mg)(T:iO K mg CR):df P w K mg base (k+1) CR "taken" ["self","many"] (AX CR):=show _ by
 refine h.k7 Aw (by rintro ds S Q E ⟨_,a,A,r,n,xs,ys,e,_⟩;rw[e];rfl) λf cdv A0 outer s0 H E ds S Q W hr hA=>?_;obtain⟨S0,a,A,r,n,xs,ys,rfl,h,hw,hn,hq⟩:=hA;refine⟨_,(au (aH (i:=2) Aw.nd rfl (Or.inl rfl) (aE yr jh (dH eI eU rfl G.len eC (ae (cU T.cl T.n_waiting (aa 0) rfl) ah)) (aa 1)))
 (au (aH (i:=3) Aw.nd rfl (Or.inl rfl) (iF jd jj rfl G.tuple jJ (ae (eh jb ji (cU T.cl T.n_waiting (aa 0) rfl) (dU (aa 2)) eO) ah)))
 (au (jq T.cl T.n_waiting (aa 0) (eh jb ji (cU T.cl T.n_waiting (aa 0) rfl) eO (dU (aa 2))) rfl)
 (ay (bz (aa 3)))))),?_⟩
 have gn:=h.wa;nofun;have e1:((r.wa.length:Nat):Int)-n=(xs.length:Nat):=by rw[hw,aR,<-hn];lia
 rw[e1];have c1:E3.cutD r.wa (some ((xs.length:Nat):Int)) none=ys:=by rw[pM (by lia),hw];simp
 have c2:E3.cutD r.wa none (some ((xs.length:Nat):Int))=xs:=by rw[pL (by lia),hw];simp
 nofun;rw[c1];intro p1 hp1;have h1:=h.lay (o:=.lst ys) hp1;have hw1:=h1.wa;have g1:up S p1 (.lst ys) p1=some (.lst ys):=ax;generalize up S p1 (.lst ys)=S1 at h1 hw1 g1 ⊢;nofun;rw[c2];intro p2 hp2;have h2:=h1.lay (o:=.lst xs) hp2;have g2:up S1 p2 (.lst xs) p2=some (.lst xs):=ax;have m1:A.be≠p2:=ne3 h1.be hp2;have m2:A.pe≠p2:=ne3 h1.pe hp2;generalize up S1 p2 (.lst xs)=S2 at h2 g2 ⊢;nofun;refine Yd h2 ?_;have h3:=h2.X7 g2 m1 m2 (h1.sub.free hp2);nofun;exact hq _ _ h3
def JS(t:ak)(x y:D):D:=match t with
 | .aI=>y
 | .pair _ _=>x
inductive ZP(CR:Addr)(ds:List D)(S:af)(Q:K3)(_:X3):Prop where
 |mk (S0:_) (a:_) (A:_) (r:_) (c:_) (x:_) (y:_) (p:_) (xs:_) (t:_) (_:ds=[.ref a,.tup [.str "fork",c,x,y],.int p]) (_:RS CR S0 S a A r) (_:r.pe.length<=900000) (_:r.wa=xs++[ak.d t]) (_:∀S',RS CR S0 S' a A {r with wa:=xs,pe:=r.pe++[.tup [.bl false,JS t x y,.int p]]}->Q .non S')
def JT(CR:Addr):aL:= (ZP CR)
theorem ZQ{k:Nat}(h:eB K CR "choose" "Run.choose" qD ["self","fork","place"])(G:Gs K mg)(T:iO K mg CR):df P w K mg base (k+1) CR "choose" ["self","fork","place"] (JT CR):=show _ by
 refine h.k7 Jp (by rintro ds S Q E ⟨_,a,A,r,c,x,y,p,xs,t,e,_⟩;rw[e];rfl) λf cdv A0 outer s0 H E ds S Q W hr hA=>?_;obtain⟨S0,a,A,r,c,x,y,p,xs,t,rfl,h,lp,hw,hq⟩:=hA;refine⟨_,(au (aH (i:=3) Jp.nd rfl (Or.inl rfl) (pv (br rO sJ (g0 bW gR iw gV g_ (cU T.cl T.n_waiting (aa 0) rfl)) eZ (bC _)) (aA aO aP (aa 1) aj (λ_ _=>rfl)) (aA aO aP (aa 1) aj (λ_ _=>rfl))))
 (ay (b8 (cZ bW c_ dj cY de (cU T.cl T.n_pending (aa 0) rfl) (ae (bw (ae mr (ae (aa 3) (ae (aa 2) ah)))) ah))))),?_⟩
 have gn:=h.wa;rw[hw]at gn;nofun;refine gJ gn ?_;have g:=h.k_ xs;have hpe:=g.pe;generalize up S A.wa _=S1 at g hpe ⊢;cases t with
 |aI =>
  nofun;refine cJ (ds:=r.pe) hpe (c6 (by lia)) ?_;nofun;exact hq _ (g.nS _)
 |pair l u =>
  have e:(ak.pair l u).d=.tup [l.d,u.d]:=rfl;rw[e];nofun;refine cJ (ds:=r.pe) hpe (c6 (by lia)) ?_;nofun;exact hq _ (g.nS _)
inductive ZR(CR:Addr)(ds:List D)(S:af)(Q:K3)(_:X3):Prop where
 |mk (S0:_) (a:_) (A:_) (r:_) (xs:_) (t1:_) (t2:_) (_:ds=[.ref a]) (_:RS CR S0 S a A r) (_:r.wa=xs++[ak.d t1,ak.d t2]) (_:xs.length<=900000) (_:(ak.pair t1 t2).size<=1000) (_:((ak.pair t1 t2).size<=60->∀A' S',RS CR S0 S' a A' {r with wa:=xs++[(ak.pair t1 t2).d]}->Q .non S')) (_:(60<(ak.pair t1 t2).size->∀A' S',RS CR S0 S' a A' {r with wa:=xs,en:=.tup [.str "grown",.int r.be.length]}->Q .non S'))
def JU(CR:Addr):aL:= (ZR CR)
theorem ZS{k:Nat}(h:eB K CR "join_pair" "Run.join_pair" qE ["self"])(G:Gs K mg)(T:iO K mg CR)(qJ:df P w K mg base k CR "taken" ["self","many"] (AX CR))(AY:av P w K mg base k "size" ["tree"] JJ):df P w K mg base (k+1) CR "join_pair" ["self"] (JU CR):=show _ by
 refine h.k7 Jq (by rintro ds S Q E ⟨_,a,A,r,xs,t1,t2,e,_⟩;rw[e];rfl) λf cdv A0 outer s0 H E ds S Q W hr hA=>?_;obtain⟨S0,a,A,r,xs,t1,t2,rfl,h,hw,hl,hz,hq1,hq2⟩:=hA;refine⟨_,(au (aH (i:=1) Jq.nd rfl (Or.inl rfl) (mI qJ T.cl hr (aa 0) (ae aj ah)))
 (ay (cy (br yw iG (aQ AY hr rfl (ae (aa 1) ah)) (Fx G.YD rfl) (bC _)) (ay (jq T.cl T.n_ending (aa 0) (bw (ae bE (ae (dH eI eU rfl G.len eC (ae (cU T.cl T.n_begun (aa 0) rfl) ah)) ah))) rfl)) (ay (b8 (cZ bW c_ dj cY de (cU T.cl T.n_waiting (aa 0) rfl) (ae (aa 1) ah))))))),?_⟩
 nofun;refine ju h (λ_ _ _ _ _ _ _=>rfl) ?_;nofun;refine⟨S0,a,A,r,2,xs,[t1.d,t2.d],rfl,h,hw,rfl,λA' S' h1=>?_⟩;nofun;refine⟨.pair t1 t2,rfl,hz,?_⟩;nofun;have hb1:=h1.be;have hw1:=h1.wa;by_cases c:(60:Int)<((ak.pair t1 t2).size:Int)
 ·nofun;refine Ap h1 ?_;nofun;exact hq2 (by lia) _ _ (h1.Ao _)
 ·nofun;refine cJ (ds:=xs) hw1 (c6 (by lia)) ?_;nofun;exact hq1 (by lia) _ _ (h1.k_ _)
inductive ZU(CR:Addr)(ds:List D)(S:af)(Q:K3)(_:X3):Prop where
 |mk (S0:af) (a:Addr) (A:Ra) (r:Rn) (x:Str) (pl:Int) (pr nu:D) (nm:Str) (zs:List Str) (ts:List D) (j:Nat) (d:D) (_:ds=[.ref a,.str x,.int pl]) (_:RS CR S0 S a A r) (_:b5 r.be pl=some (.tup [pr,nu,.str nm,.tup ts])) (_:du r.pa (.inr nm)=some (.tup (zs.map D.str))) (_:zs[j]?=some x) (_:x∉zs.take j) (_:ts[j]?=some d) (_:Q d S)
def JV(CR:Addr):aL:= (ZU CR)
theorem ZV{k:Nat}(h:eB K CR "parameter" "Run.parameter" qF ["self","name","place"])(G:Gs K mg)(T:iO K mg CR):df P w K mg base (k+1) CR "parameter" ["self","name","place"] (JV CR):=show _ by
 refine h.k7 Jr (by rintro ds S Q E ⟨_,a,A,r,x,pl,pr,nu,nm,zs,ts,j,d,e,_⟩;rw[e];rfl) λf cdv A0 outer s0 H E ds S Q W hr hA=>?_;obtain⟨S0,a,A,r,x,pl,pr,nu,nm,zs,ts,j,d,rfl,h,he,hv,hj,hno,hd,hq⟩:=hA;have hu:=o_ hr;refine⟨_,(au (aH (i:=3) Jr.nd rfl (Or.inl rfl) (aA d_ eA (cU T.cl T.n_begun (aa 0) rfl) (aa 2) (λ_ _=>rfl)))
 (ay (bz (aA aO aP (aA aO aP (aa 3) aj (λ_ _=>rfl)) (Xr NW PySem.F.type_tuple_index Xm Xq (zc hu (cU T.cl T.n_params (aa 0) rfl) (aA aO aP (aa 3) aj (λ_ _=>rfl)) (λ_ _=>rfl)) (ae (aa 1) ah)) (λ_ _=>rfl))))),?_⟩
 nofun;refine fj h.be he ?_;nofun;refine zu h.pa hv ?_;nofun;refine Xt hj hno ?_;nofun;exact my (fP hd) hq
structure Sm(r:Rn):Prop where
 be:r.be.length<=900000
 pe:r.pe.length<=900000
 wa:r.wa.length<=900000
inductive Fin:Rn->D->Int->Rn->Prop
 |send {r r':Rn} {x:Str} {us xs ts:List D} {l p:Int}:r.wa=xs++ts->ts.length=us.length->qI {r with wa:=xs} (.int p) (.int l) x (.tup ts) r'->Fin r (.tup [.str "send",.str x,.tup us,.int l]) p r'
 |fork {r:Rn} {c x y:D} {xs:List D} {t:ak} {p:Int}:r.wa=xs++[ak.d t]->Fin r (.tup [.str "fork",c,x,y]) p {r with wa:=xs,pe:=r.pe++[.tup [.bl false,JS t x y,.int p]]}
 |left {r:Rn} {c:D} {xs:List D} {t:ak} {p:Int}:r.wa=xs++[ak.d t]->Fin r (.tup [.str "left",c]) p {r with wa:=xs++[(gN true t).d]}
 |right {r:Rn} {c:D} {xs:List D} {t:ak} {p:Int}:r.wa=xs++[ak.d t]->Fin r (.tup [.str "right",c]) p {r with wa:=xs++[(gN false t).d]}
 |pair {r:Rn} {a b:D} {xs:List D} {t1 t2:ak} {p:Int}:r.wa=xs++[ak.d t1,ak.d t2]->(ak.pair t1 t2).size<=60->Fin r (.tup [.str "pair",a,b]) p {r with wa:=xs++[(ak.pair t1 t2).d]}
 |grown {r:Rn} {a b:D} {xs:List D} {t1 t2:ak} {p:Int}:r.wa=xs++[ak.d t1,ak.d t2]->60<(ak.pair t1 t2).size->(ak.pair t1 t2).size<=1000->Fin r (.tup [.str "pair",a,b]) p {r with wa:=xs,en:=.tup [.str "grown",.int r.be.length]}
 |name {r:Rn} {x nm:Str} {p:Int} {pr nu d:D} {zs:List Str} {ts:List D} {j:Nat}:b5 r.be p=some (.tup [pr,nu,.str nm,.tup ts])->du r.pa (.inr nm)=some (.tup (zs.map D.str))->zs[j]?=some x->x∉zs.take j->ts[j]?=some d ->
  Fin r (.tup [.str "name",.str x]) p {r with wa:=r.wa++[d]}
 |aI {r:Rn} {p:Int}:Fin r (.tup [.str "bud"]) p {r with wa:=r.wa++[.non]}
inductive ZW(CR:Addr)(ds:List D)(S:af)(Q:K3)(_:X3):Prop where
 |mk (S0:_) (a:_) (A:_) (r:_) (s:_) (p:_) (r':_) (_:ds=[.ref a,s,.int p]) (_:RS CR S0 S a A r) (_:Sm r) (_:Fin r s p r') (_:∀A' S',RS CR S0 S' a A' r'->Q .non S')
def JW(CR:Addr):aL:= (ZW CR)
theorem ZY{k:Nat}(h:eB K CR "finish" "Run.finish" qB ["self","saying","place"])(G:Gs K mg)(T:iO K mg CR)(qK:df P w K mg base k CR "begin" ["self","parent","number","name","trees"] (AW CR))(qJ:df P w K mg base k CR "taken" ["self","many"] (AX CR))
 (AZ:df P w K mg base k CR "choose" ["self","fork","place"] (JT CR)) (ZZ:df P w K mg base k CR "join_pair" ["self"] (JU CR)) (Z0:df P w K mg base k CR "parameter" ["self","name","place"] (JV CR)) (A3:av P w K mg base k "side" ["kind","tree"] JP) :
 df P w K mg base (k+1) CR "finish" ["self","saying","place"] (JW CR):=show _ by
 refine h.k7 Jo (by rintro ds S Q E ⟨_,a,A,r,s,p,r',e,_⟩;rw[e];rfl) λf cdv A0 outer s0 H E ds S Q W hr hA=>?_;obtain⟨S0,a,A,r,s,p,r',rfl,h,sm,hf,hq⟩:=hA;refine⟨_,(au (aH (i:=3) Jo.nd rfl (Or.inl rfl) (aA aO aP (aa 1) aj (λ_ _=>rfl)))
 (ay (cy (br cI gg (aa 3) bE (bC _)) (ay (b8 (mI qK T.cl hr (aa 0) (ae (aa 2) (ae (aA aO aP (aa 1) aj (λ_ _=>rfl)) (ae (aA aO aP (aa 1) aj (λ_ _=>rfl)) (ae (mI qJ T.cl hr (aa 0) (ae (dH eI eU rfl G.len eC (ae (aA aO aP (aa 1) aj (λ_ _=>rfl)) ah)) ah)) ah))))))) (ay (cy (br cI gg (aa 3) bE (bC _)) (ay (b8 (mI AZ T.cl hr (aa 0) (ae (aa 1) (ae (aa 2) ah))))) (ay (cy (br cI gg (aa 3) bE (bC _)) (ay (b8 (Ja ZZ T.cl hr (aa 0)))) (ay (cy (br cI gg (aa 3) bE (bC _)) (ay (b8 (cZ bW c_ dj cY de (cU T.cl T.n_waiting (aa 0) rfl) (ae (mI Z0 T.cl hr (aa 0) (ae (aA aO aP (aa 1) aj (λ_ _=>rfl)) (ae (aa 2) ah))) ah)))) (ay (cy (br cI gg (aa 3) bE (bC _)) (ay (b8 (cZ bW c_ dj cY de (cU T.cl T.n_waiting (aa 0) rfl) (ae eZ ah)))) (ay (b8 (cZ bW c_ dj cY de (cU T.cl T.n_waiting (aa 0) rfl) (ae (aQ A3 hr rfl (ae (aa 3) (ae (g0 bW gR iw gV g_ (cU T.cl T.n_waiting (aa 0) rfl)) ah))) ah))))))))))))))),?_⟩
 have hw:=h.wa;cases hf with
 |@send _ x is xs ts l _ h1 h2 h3 =>
  nofun;refine ju h (λ_ _ _ _ _ _ _=>rfl) ?_;nofun;refine ju h (λ_ _ _ _ _ _ _=>rfl) ?_;nofun;refine⟨S0,a,A,r,_,xs,ts,rfl,h,h1,by rw[h2],λA' S' g=>?_⟩;nofun;exact⟨S0,a,A',_,_,_,_,_,_,rfl,g,sm.be,sm.pe,h3,λS2 g2=>hq _ _ g2⟩
 |pair h1 h2 =>
  nofun;refine ju h (λ_ _ _ _ _ _ _=>rfl) ?_;refine⟨S0,a,A,r,_,_,_,rfl,h,h1,?_,by lia,λ_ A' S' g=>?_,λz=>absurd h2 (by lia)⟩
  ·have:=sm.wa;rw[h1,aR]at this;lia
  ·nofun;exact hq _ _ g
 |grown h1 h2 h3 =>
  nofun;refine ju h (λ_ _ _ _ _ _ _=>rfl) ?_;refine⟨S0,a,A,r,_,_,_,rfl,h,h1,?_,h3,λz=>absurd h2 (by lia),λ_ A' S' g=>?_⟩
  ·have:=sm.wa;rw[h1,aR]at this;lia
  ·nofun;exact hq _ _ g
 |@name x nm _ pr nu d zs ts j h1 h2 h3 h4 h5 =>
  nofun;refine ju h (λ_ _ _ _ _ _ _=>rfl) ?_;nofun;refine⟨S0,a,A,r,x,p,pr,nu,nm,zs,ts,j,d,rfl,h,h1,h2,h3,h4,h5,?_⟩;nofun;refine cJ hw (c6 (by have:=sm.wa;lia)) ?_;nofun;exact hq _ _ (h.k_ _)
 |aI =>
  nofun;refine cJ hw (c6 (by have:=sm.wa;lia)) ?_;nofun;exact hq _ _ (h.k_ _)
 |@fork c x y xs t _ h1 =>
  nofun;refine ju h (λ_ _ _ _ _ _ _=>rfl) ?_;nofun;refine⟨S0,a,A,r,c,x,y,p,xs,t,rfl,h,sm.pe,h1,λS2 g2=>?_⟩;nofun;exact hq _ _ g2
 |@left c xs t _ h1 =>
  rw[h1]at hw;nofun;refine gJ hw ?_;have g:=h.k_ xs;have gw:=g.wa;generalize up S A.wa _=S1 at g gw ⊢;nofun;refine⟨true,t,rfl,?_⟩;nofun;refine cJ (ds:=xs) gw (c6 (by have:=sm.wa;rw[h1,aR]at this;lia)) ?_;nofun;exact hq _ _ (g.k_ _)
 |@right c xs t _ h1 =>
  rw[h1]at hw;nofun;refine gJ hw ?_;have g:=h.k_ xs;have gw:=g.wa;generalize up S A.wa _=S1 at g gw ⊢;nofun;refine⟨false,t,rfl,?_⟩;nofun;refine cJ (ds:=xs) gw (c6 (by have:=sm.wa;rw[h1,aR]at this;lia)) ?_;nofun;exact hq _ _ (g.k_ _)
def fU(p:Int)(ps:List D):List D:=ps.reverse.map λc=>.tup [.bl false,c,.int p]
inductive Z1(CR:Addr)(ds:List D)(S:af)(Q:K3)(_:X3):Prop where
 |mk (S0:_) (a:_) (A:_) (r:_) (s:_) (p:_) (ps:_) (_:ds=[.ref a,s,.int p]) (_:RS CR S0 S a A r) (_:r.pe.length<=900000) (_:jy s ps) (_:ps.length<=100) (_:∀S',RS CR S0 S' a A {r with pe:=r.pe++[.tup [.bl true,s,.int p]]++fU p ps}->Q .non S')
def JX(CR:Addr):aL:= (Z1 CR)
theorem Z2{k:Nat}(h:eB K CR "prepare" "Run.prepare" qA ["self","saying","place"])(G:Gs K mg)(T:iO K mg CR)(Z3:av P w K mg base k "needed_parts" ["saying"] JO):df P w K mg base (k+1) CR "prepare" ["self","saying","place"] (JX CR):=show _ by
 refine h.k7 Jn (by rintro ds S Q E ⟨_,a,A,r,s,p,ps,e,_⟩;rw[e];rfl) λf cdv A0 outer s0 H E ds S Q W hr hA=>?_;obtain⟨S0,a,A,r,s,p,ps,rfl,h,lp,hp,lps,hq⟩:=hA;refine⟨_,(au (b8 (cZ bW c_ dj cY de (cU T.cl T.n_pending (aa 0) rfl) (ae (bw (ae mr (ae (aa 1) (ae (aa 2) ah)))) ah)))
 (ay (e_ eD rfl (F8 rfl G.wz (ae (aQ Z3 hr rfl (ae (aa 1) ah)) ah)) (dv (i:=3) Jn.nd rfl (Or.inl rfl)) (ay (b8 (cZ bW c_ dj cY de (cU T.cl T.n_pending (aa 0) rfl) (ae (bw (ae mr (ae (aa 3) (ae (aa 2) ah)))) ah))))))),?_⟩
 have hpe:=h.pe;nofun;refine cJ hpe (c6 (by lia)) ?_;have h1:=h.nS (r.pe++[.tup [.bl true,s,.int p]]);generalize up S A.pe _=S1 at h1 ⊢;nofun;refine⟨s,ps,rfl,hp,?_⟩;nofun;refine⟨λi σ S'=>∃x3,σ=[some (.ref a),some s,some (.int p),x3]/\RS CR S0 S' a A {r with pe:=r.pe++[.tup [.bl true,s,.int p]]++(ps.reverse.take i).map λc=>.tup [.bl false,c,.int p]},⟨none,rfl,by simpa using h1⟩,λ_ _ _ _=>trivial,?_,?_⟩
 ·rintro i d σ S' hd ⟨x3,rfl,g⟩;have hi:=(b4.mp hd).1;rw[jG]at hi;have gp:=g.pe;nofun;refine cJ gp ?_ ?_
  ·simp only[aR,aG,dP,jG,bp,cm];exact c6 (by lia)
  nofun;refine⟨_,rfl,?_⟩;have g2:=g.nS (r.pe++[.tup [.bl true,s,.int p]]++((ps.reverse.take i).map λc=>.tup [.bl false,c,.int p])++[.tup [.bl false,d,.int p]]);rw[jK,hd,da,<-i6];exact g2
 ·rintro σ S' ⟨x3,rfl,g⟩;nofun;refine hq _ ?_;rw[oU]at g;exact g
inductive ib:Nat->Rn->Rn->Prop
 |fin {r:Rn} {xs:List D} {v:D}:r.pe=[]->r.en=.non->r.wa=xs++[v]->ib 0 r {r with wa:=xs,en:=.tup [.str "done",v,.int r.be.length]}
 |grown {r:Rn} {ds:List D}:r.en=.tup ds->ib 0 r r
 |prep {n:Nat} {r r':Rn} {ps qs:List D} {s:D} {p:Int}:ps.length<=900000->r.en=.non->r.pe=ps++[.tup [.bl false,s,.int p]]->jy s qs->qs.length<=100->ib n {r with pe:=ps++[.tup [.bl true,s,.int p]]++fU p qs} r'->ib (n+1) r r'
 |JY {n:Nat} {r r1 r':Rn} {ps:List D} {s:D} {p:Int}:Sm {r with pe:=ps}->r.en=.non->r.pe=ps++[.tup [.bl true,s,.int p]]->Fin {r with pe:=ps} s p r1->ib n r1 r'->ib (n+1) r r'
inductive Z4(CR:Addr)(ds:List D)(S:af)(Q:K3)(_:X3):Prop where
 |mk (S0:_) (a:_) (A:_) (r:_) (n:_) (r':_) (_:ds=[.ref a]) (_:RS CR S0 S a A r) (_:ib n r r') (_:∀A' S',RS CR S0 S' a A' r'->Q .non S')
def JZ(CR:Addr):aL:= (Z4 CR)
theorem Z5{k:Nat}(h:eB K CR "go_on" "Run.go_on" qz ["self"])(G:Gs K mg)(T:iO K mg CR)(A4:df P w K mg base k CR "finish" ["self","saying","place"] (JW CR))(A5:df P w K mg base k CR "prepare" ["self","saying","place"] (JX CR)) :
 df P w K mg base (k+1) CR "go_on" ["self"] (JZ CR):=show _ by
 refine h.k7 Jm (by rintro ds S Q E ⟨_,a,A,r,n,r',e,_⟩;rw[e];rfl) λf cdv A0 outer s0 H E ds S Q W hr hA=>?_;obtain⟨S0,a,A,r,n,r',rfl,h,hg,hq⟩:=hA;refine⟨_,(au (pB eD (fQ.pt (w_and (vg (cU T.cl T.n_pending (aa 0) rfl) (λ_=>rfl)) (pq (br rO sJ (cU T.cl T.n_ending (aa 0) rfl) eZ (bC _))))) (au (aH (i:=1) Jm.nd rfl (Or.inl rfl) (g0 bW gR iw gV g_ (cU T.cl T.n_pending (aa 0) rfl)))
 (ay (cy (vf (aA aO aP (aa 1) aj (λ_ _=>rfl))) (ay (b8 (mI A4 T.cl hr (aa 0) (ae (aA aO aP (aa 1) aj (λ_ _=>rfl)) (ae (aA aO aP (aa 1) aj (λ_ _=>rfl)) ah))))) (ay (b8 (mI A5 T.cl hr (aa 0) (ae (aA aO aP (aa 1) aj (λ_ _=>rfl)) (ae (aA aO aP (aa 1) aj (λ_ _=>rfl)) ah)))))))))
 (ay (cy (br rO sJ (cU T.cl T.n_ending (aa 0) rfl) eZ (bC _)) (ay (jq T.cl T.n_ending (aa 0) (bw (ae bE (ae (g0 bW gR iw gV g_ (cU T.cl T.n_waiting (aa 0) rfl)) (ae (dH eI eU rfl G.len eC (ae (cU T.cl T.n_begun (aa 0) rfl) ah)) ah)))) rfl)) cw))),?_⟩
 nofun;refine pG (λm σ S=>ow λA r x1=>σ=[some (.ref a),x1]/\RS CR S0 S a A r/\ib m r r') n ⟨A,r,none,rfl,h,hg⟩ ?_;clear h hg;rintro m σ S ⟨A,r,x1,rfl,h,hg⟩;have hpe:=h.pe;have hbe:=h.be;nofun;cases hg with
 |@fin _ xs v h1 h2 h3 =>
  have h2':kO r.en=true:=by rw[h2];rfl
  have hw:S A.wa=some (.lst (xs++[v])):=by rw[h.wa,h3]
  rw[h1];nofun;rw[h2'];nofun;refine gJ hw ?_;have g:=h.k_ xs;have gb:=g.be;generalize up S A.wa _=S1 at g gb ⊢;nofun;refine Ap g ?_;nofun;exact hq _ _ (g.Ao _)
 |@grown _ ds h1 =>
  have h2':kO r'.en=false:=by rw[h1];rfl
  cases hb:(!r'.pe.isEmpty) with
  |true =>
   refine nz ?_;nofun;rw[h2'];nofun;rw[h2'];nofun;exact hq _ _ h
  |false =>
   refine ph ?_;nofun;rw[h2'];nofun;exact hq _ _ h
 |@prep n _ _ ps qs s p h1 h2 h3 h4 h5 h6 =>
  have h2':kO r.en=true:=by rw[h2];rfl
  have hb:(!r.pe.isEmpty)=true:=by rw[h3];simp
  rw[h3]at hpe;rw[hb];nofun;rw[h2'];nofun;refine gJ hpe ?_;have g:=h.nS ps;generalize up S A.pe _=S1 at g ⊢;nofun;refine ju g (λ_ _ _ _ _ _ _=>rfl) ?_;nofun;refine⟨S0,a,A,_,s,p,qs,rfl,g,h1,h4,h5,λS' g2=>?_⟩;nofun;exact⟨n,xt _,A,_,_,rfl,g2,h6⟩
 |@JY n _ r1 _ ps s p h1 h2 h3 h4 h5 =>
  have h2':kO r.en=true:=by rw[h2];rfl
  have hb:(!r.pe.isEmpty)=true:=by rw[h3];simp
  rw[h3]at hpe;rw[hb];nofun;rw[h2'];nofun;refine gJ hpe ?_;have g:=h.nS ps;generalize up S A.pe _=S1 at g ⊢;nofun;refine ju g (λ_ _ _ _ _ _ _=>rfl) ?_;nofun;refine⟨S0,a,A,_,s,p,r1,rfl,g,h1,h4,λA' S' g2=>?_⟩;nofun;exact⟨n,xt _,A',_,_,rfl,g2,h5⟩
def fH(prog:List Er):List (Key×D):=(prog.map λe=>((Sum.inr e.name:Key),D.tup (e.ps.map D.str))).foldl (λacc kv=>putD acc kv.1 kv.2) []
structure Runs(prog:List Er)(x:Str)(ts:List D)(mo:Int)(r':Rn):Prop where
 len:prog.length<=100
 pre:∀e∈prog,e.body.pre.length<=100000
 ex:∃(zs:List Str) (kvs:List (Key×D)) (r1:Rn) (n:Nat),du (fH prog) (.inr x)=some (.tup (zs.map D.str))/\zs.length=ts.length/\j_ [] 0 prog=some kvs/\qI ⟨fH prog,kvs,mo,[],[],[],.non⟩ .non .non x (.tup ts) r1/\ib n r1 r'
inductive Z6(CR:Addr)(ds:List D)(S:af)(Q:K3)(_:X3):Prop where
 |mk (pr tr:Addr) (prog:List Er) (x:Str) (ts:List D) (mo:Int) (r':Rn) (_:ds=[.ref pr,.str x,.ref tr,.int mo]) (_:S pr=some (.lst (prog.map Er.d))) (_:S tr=some (.lst ts)) (_:Runs prog x ts mo r') (_:∀a A S',RS CR S S' a A r'->Q (.ref a) S')
def J0(CR:Addr):aL:= (Z6 CR)
theorem Z7{k:Nat}(h:az K mg "ended_run" oh ["program","name","trees","most"])(G:Gs K mg)(T:iO K mg CR)(Z8:av P w K mg base (k+1) "refuse_missing" ["name","known"] JH)(Z9:av P w K mg base (k+1) "refuse_miscounted" ["name","row","needed"] JI)
 (Z_:av P w K mg base (k+1) "numbered_bodies" ["program"] JM) (aaa:df P w K mg base k CR "__init__" ["self","params","bodies","most"] (JQ CR)) (qK:df P w K mg base (k+1) CR "begin" ["self","parent","number","name","trees"] (AW CR))
 (A6:df P w K mg base (k+1) CR "go_on" ["self"] (JZ CR)):av P w K mg base (k+1+1) "ended_run" ["program","name","trees","most"] (J0 CR):=show _ by
 refine h.mx Av (by rintro ds S Q E ⟨pr,tr,prog,x,ts,mo,r',e,_⟩;rw[e];rfl) λf cdv A outer s0 H E ds S Q W hr hA=>?_;obtain⟨pr,tr,prog,x,ts,mo,r',rfl,hS,hT,hR,hq⟩:=hA;obtain⟨zs,kvs,r0,n,h1,h2,h3,h5,h6⟩:=hR.ex;have hl:=hR.len;have hu:=o_ hr;refine⟨_,Q,(au (aH (i:=4) Av.nd rfl (Or.inl rfl) (iF UW UY rfl G.dict boot_dict (ae (k9 (cA:=ao oh) (N:=["program","name","trees","most","params","ended"]) (M:=[]) (js:=[]) ⟨rfl,by cbv,by cbv,by cbv,by cbv,by cbv⟩ (by cbv) (by cbv) rfl (jg (aa 0)) (λ_ _ _ _ _=>fD) (λ_ _ _ _ _=>(bw (ae (aA aO aP (aa 0) aj (λ_ _=>rfl)) (ae (aA aO aP (aa 0) aj (λ_ _=>rfl)) ah))))) ah)))
 (au (b8 (aQ Z8 hr rfl (ae (aa 1) (ae (aa 4) ah))))
 (au (b8 (aQ Z9 hr rfl (ae (aa 1) (ae (aa 2) (ae (dH eI eU rfl G.len eC (ae (zc hu (aa 4) (aa 1) (λ_ _=>rfl)) ah)) ah)))))
 (au (aH (i:=5) Av.nd rfl (Or.inl rfl) (Xd aaa T.YF T.kc hr rfl T.at_ (ae (aa 4) (ae (aQ Z_ hr rfl (ae (aa 0) ah)) (ae (aa 3) ah)))))
 (au (b8 (mI qK T.cl hr (aa 5) (ae eZ (ae eZ (ae (aa 1) (ae (iF jd jj rfl G.tuple jJ (ae (aa 2) ah)) ah))))))
 (au (b8 (Ja A6 T.cl hr (aa 5)))
 (ay (bz (aa 5))))))))),?_,λ_ _ q=>q⟩
 nofun;refine jr (λi=>((prog.map λe=>D.tup [.str e.name,.tup (e.ps.map D.str)]).getD i .non)) (by rw[aG];lia) (by exact hS) ?_ ?_
 ·intro i d hd P hP;rw[a7]at hd;obtain⟨e,he,rfl⟩:=dz.mp hd;unfold Er.d;nofun;rw[bR,a7,he]at hP;exact hP
 have en:((aZ (prog.map Er.d).length).map λi=>((prog.map λe=>D.tup [.str e.name,.tup (e.ps.map D.str)]).getD i .non))=(prog.map λe=>((Sum.inr e.name:Key),D.tup (e.ps.map D.str))).map λkv=>D.tup [kD kv.1,kv.2]:=by
  rw[aG,fY];apply l7;intro i;rw[a7,a7];by_cases hi:i<prog.length
  ·rw[lW hi,aU hi];show some (List.getD _ _ _)=some _;rw[bR,a7,aU hi];rfl
  ·rw[dQ (by simpa using hi),dQ (by lia)];rfl
 rw[en];intro pl hpl;have a1:=aD (o:=.lst ((prog.map λe=>((Sum.inr e.name:Key),D.tup (e.ps.map D.str))).map λkv=>D.tup [kD kv.1,kv.2])) hS hpl;have a2:=aD (o:=.lst ((prog.map λe=>((Sum.inr e.name:Key),D.tup (e.ps.map D.str))).map λkv=>D.tup [kD kv.1,kv.2])) hT hpl;nofun;refine U5 ax λpd hpd=>?_;have eP:List.foldl (λacc (kv:Key×D)=>putD acc kv.1 kv.2) [] (prog.map λe=>((Sum.inr e.name:Key),D.tup (e.ps.map D.str)))=fH prog:=rfl;rw[eP];have b1:=aD (o:=.b_ (fH prog)) a1 hpd;have b2:=aD (o:=.b_ (fH prog)) a2 hpd;have b3:=ax (S:=up S pl (.lst ((prog.map λe=>((Sum.inr e.name:Key),D.tup (e.ps.map D.str))).map λkv=>D.tup [kD kv.1,kv.2]))) (a:=pd) (o:=.b_ (fH prog));have b0:Sub S (up (up S pl (.lst ((prog.map λe=>((Sum.inr e.name:Key),D.tup (e.ps.map D.str))).map λkv=>D.tup [kD kv.1,kv.2]))) pd (.b_ (fH prog))):=((Sub.refl S).up hpl).up hpd;generalize up (up S pl _) pd (.b_ (fH prog))=S1 at b0 b1 b2 b3 ⊢;nofun;refine⟨x,_,rfl,.inr ⟨pd,_,rfl,b3,by rw[h1];rfl⟩,?_⟩;nofun;refine zu b3 h1 ?_;nofun;have e1:((zs.map D.str).length:Int)=(ts.length:Int):=by rw[aG,h2]
 rw[e1];refine⟨x,tr,ts,rfl,b2,?_⟩;nofun;refine⟨pr,prog,kvs,rfl,b1,hl,hR.pre,h3,λpb S2 sub hb=>?_⟩;nofun;intro a ha;have c2:=aD (o:=.ins CR []) (sub _ _ b2) ha;refine⟨S,a,pd,pb,mo,fH prog,kvs,rfl,ax,aD (sub _ _ b3) ha,aD hb ha,(b0.trans sub).up ha,(b0.trans sub).free ha,λA1 S3 r3=>⟨rfl,?_⟩⟩;have d2:=r3.sub _ _ hT;nofun;refine ju r3 (λ_ _ _ _ _ _ _=>rfl) ?_;nofun;refine⟨S,a,A1,_,_,_,x,_,_,rfl,r3,bV _,bV _,h5,λS4 r4=>?_⟩;nofun;refine ju r4 (λ_ _ _ _ _ _ _=>rfl) ?_;refine⟨S,a,A1,_,n,r',rfl,r4,h6,λA2 S5 r5=>?_⟩;nofun;exact hq a A2 S5 r5
inductive zg4 (ds:List D)(q:D->Prop):Prop where
 |mk (s:Sy) (_:ds=[s.d]) (_:q (sY s.base))
def A7 :aL:=vS zg4
theorem zgd{k:Nat}(h:az K mg "path_parameter" p7 ["saying"])(G:Gs K mg):av P w K mg base (k+1) "path_parameter" ["saying"] A7:=show _ by
 refine h.val As (by rintro ds q ⟨s,e,_⟩;rw[e];rfl) λf cdv A outer s0 H E ds q hr hA=>?_;obtain⟨s,rfl,hq⟩:=hA;refine⟨_,(au (aH (i:=1) As.nd rfl (Or.inl rfl) (aa 0))
 (au (pB eD (br yG vn (aA aO aP (aa 1) aj (λ_ _=>rfl)) (bw (ae bE (ae bE ah))) (by with_unfolding_all rfl)) (ay (aH (i:=1) As.nd rfl (Or.inl rfl) (aA aO aP (aa 1) aj (λ_ _=>rfl)))))
 (ay (bz (pv (br cI gg (aA aO aP (aa 1) aj (λ_ _=>rfl)) bE (bC _)) (aA aO aP (aa 1) aj (λ_ _=>rfl)) eZ))))),?_⟩
 nofun;refine pG (λm σ S=>∃r:Sy,σ=[some s.d,some r.d]/\r.base=s.base/\m=r.deep) _ ⟨s,rfl,rfl,rfl⟩ ?_;rintro m σ S ⟨r,rfl,hb,rfl⟩;rw[<-hb]at hq;cases r with
 |left a =>
  simp only[Sy.d];nofun;exact⟨a.deep,by simp only[Sy.deep];lia,a,rfl,hb,rfl⟩
 |right a =>
  simp only[Sy.d];nofun;exact⟨a.deep,by simp only[Sy.deep];lia,a,rfl,hb,rfl⟩
 |name x =>
  simp only[Sy.d];nofun;exact hq
 |aI =>
  simp only[Sy.d];nofun;exact hq
 |pair a b =>
  simp only[Sy.d];nofun;exact hq
 |fork a b c =>
  simp only[Sy.d];nofun;exact hq
 |send x as =>
  simp only[Sy.d];nofun;exact hq
inductive zk2 (ds:List D)(q:D->Prop):Prop where
 |mk (p:Str) (s:Sy) (k:List Str) (_:ds=[.str p,s.d,.tup (k.map D.str)]) (_:q (.int (aS p s k)))
def J1 :aL:=vS zk2
theorem zi0{k:Nat}(h:az K mg "told_number" p8 ["param","saying","known"])(G:Gs K mg)(A8:av P w K mg base k "path_parameter" ["saying"] A7) :
 av P w K mg base (k+1) "told_number" ["param","saying","known"] J1:=show _ by
 refine h.val Yi (by rintro ds q ⟨_,_,_,e,_⟩;rw[e];rfl) λf cdv A outer s0 H E ds q hr hA=>?_;obtain⟨p,s,kn,rfl,hq⟩:=hA;refine⟨_,(au (cy (fQ.pt (w_and (br rN zk (aA aO aP (aa 1) aj (λ_ _=>rfl)) bE (bC _)) (pq (br rN Wx (aQ A8 hr rfl (ae (aa 1) ah)) (aa 0) (bC _))))) (ay (bz aj)) cw)
 (au (cy (fQ.pt (w_or (br cI gg (aA aO aP (aa 1) aj (λ_ _=>rfl)) bE (bC _)) (R8 (br EX vn (aa 0) (aa 2) (by with_unfolding_all rfl))))) (ay (bz aj)) cw)
 (ay (bz aj)))),?_⟩
 by_cases hk:p∈kn
 ·cases s with
  |aI =>
   simp only[Sy.d];nofun;simpa[aS,hk]using hq
  |name x =>
   by_cases hs:Sy.base (.name x)=some p
   ·simp only[Sy.d];nofun;refine⟨(.name x),rfl,?_⟩;nofun;have hs':=hs;simp only[Sy.base,uf]at hs';simpa[aS,hs']using hq
   ·simp only[Sy.d];nofun;refine⟨(.name x),rfl,?_⟩;nofun;have hs':=hs;simp only[Sy.base,uf]at hs';simpa[aS,hs']using hq
  |pair a b =>
   by_cases hs:Sy.base (.pair a b)=some p
   ·simp only[Sy.d];nofun;refine⟨(.pair a b),rfl,?_⟩;nofun;simpa[aS,hs,hk]using hq
   ·simp only[Sy.d];nofun;refine⟨(.pair a b),rfl,?_⟩;nofun;simpa[aS,hs,hk]using hq
  |left a =>
   by_cases hs:Sy.base (.left a)=some p
   ·simp only[Sy.d];nofun;refine⟨(.left a),rfl,?_⟩;nofun;simpa[aS,hs,hk]using hq
   ·simp only[Sy.d];nofun;refine⟨(.left a),rfl,?_⟩;nofun;simpa[aS,hs,hk]using hq
  |right a =>
   by_cases hs:Sy.base (.right a)=some p
   ·simp only[Sy.d];nofun;refine⟨(.right a),rfl,?_⟩;nofun;simpa[aS,hs,hk]using hq
   ·simp only[Sy.d];nofun;refine⟨(.right a),rfl,?_⟩;nofun;simpa[aS,hs,hk]using hq
  |fork a b c =>
   by_cases hs:Sy.base (.fork a b c)=some p
   ·simp only[Sy.d];nofun;refine⟨(.fork a b c),rfl,?_⟩;nofun;simpa[aS,hs,hk]using hq
   ·simp only[Sy.d];nofun;refine⟨(.fork a b c),rfl,?_⟩;nofun;simpa[aS,hs,hk]using hq
  |send x as =>
   by_cases hs:Sy.base (.send x as)=some p
   ·simp only[Sy.d];nofun;refine⟨(.send x as),rfl,?_⟩;nofun;simpa[aS,hs,hk]using hq
   ·simp only[Sy.d];nofun;refine⟨(.send x as),rfl,?_⟩;nofun;simpa[aS,hs,hk]using hq
 ·cases s with
  |aI =>
   simp only[Sy.d];nofun;simpa[aS,hk]using hq
  |name x =>
   by_cases hs:Sy.base (.name x)=some p
   ·simp only[Sy.d];nofun;refine⟨(.name x),rfl,?_⟩;nofun;have hs':=hs;simp only[Sy.base,uf]at hs';simpa[aS,hs']using hq
   ·simp only[Sy.d];nofun;refine⟨(.name x),rfl,?_⟩;nofun;have hs':=hs;simp only[Sy.base,uf]at hs';simpa[aS,hs']using hq
  |pair a b =>
   by_cases hs:Sy.base (.pair a b)=some p
   ·simp only[Sy.d];nofun;refine⟨(.pair a b),rfl,?_⟩;nofun;simpa[aS,hs,hk]using hq
   ·simp only[Sy.d];nofun;refine⟨(.pair a b),rfl,?_⟩;nofun;simpa[aS,hs,hk]using hq
  |left a =>
   by_cases hs:Sy.base (.left a)=some p
   ·simp only[Sy.d];nofun;refine⟨(.left a),rfl,?_⟩;nofun;simpa[aS,hs,hk]using hq
   ·simp only[Sy.d];nofun;refine⟨(.left a),rfl,?_⟩;nofun;simpa[aS,hs,hk]using hq
  |right a =>
   by_cases hs:Sy.base (.right a)=some p
   ·simp only[Sy.d];nofun;refine⟨(.right a),rfl,?_⟩;nofun;simpa[aS,hs,hk]using hq
   ·simp only[Sy.d];nofun;refine⟨(.right a),rfl,?_⟩;nofun;simpa[aS,hs,hk]using hq
  |fork a b c =>
   by_cases hs:Sy.base (.fork a b c)=some p
   ·simp only[Sy.d];nofun;refine⟨(.fork a b c),rfl,?_⟩;nofun;simpa[aS,hs,hk]using hq
   ·simp only[Sy.d];nofun;refine⟨(.fork a b c),rfl,?_⟩;nofun;simpa[aS,hs,hk]using hq
  |send x as =>
   by_cases hs:Sy.base (.send x as)=some p
   ·simp only[Sy.d];nofun;refine⟨(.send x as),rfl,?_⟩;nofun;simpa[aS,hs,hk]using hq
   ·simp only[Sy.d];nofun;refine⟨(.send x as),rfl,?_⟩;nofun;simpa[aS,hs,hk]using hq
inductive zps (ds:List D)(q:D->Prop):Prop where
 |mk (p:Str) (as:List Sy) (k:List Str) (_:ds=[.str p,.tup (as.map Sy.d),.tup (k.map D.str)]) (_:as.length<=1000) (_:q (cF (as.map λa=>aS p a k)))
def J2 :aL:=vS zps
theorem zmq{k:Nat}(h:az K mg "told_row" nW ["param","sayings","known"])(G:Gs K mg)(aab:av P w K mg base k "told_number" ["param","saying","known"] J1) :
 av P w K mg base (k+1) "told_row" ["param","sayings","known"] J2:=show _ by
 refine h.val Yh (by rintro ds q ⟨_,_,_,e,_⟩;rw[e];rfl) λf cdv A outer s0 H E ds q hr hA=>?_;obtain⟨p,as,kn,rfl,hl,hq⟩:=hA;refine⟨_,(ay (bz (iF jd jj rfl G.tuple jJ (ae (k9 (cA:=ao nW) (N:=["param","sayings","known"]) (M:=["param","known"]) (js:=[0,2]) ⟨rfl,by cbv,by cbv,by cbv,by cbv,by cbv⟩ (by cbv) (by cbv) rfl (sG (aa 1)) (λ_ _ _ _ _=>fD) (λ_ _ _ _ _=>(aQ aab hr rfl (ae (aa 1) (ae (aa 0) (ae (aa 2) ah)))))) ah)))),?_⟩;nofun;refine jr (λi=>.int (aS p (as.getD i .aI) kn)) (by rw[aG];lia) trivial ?_ ?_
 ·intro i d hd P hP;rw[a7]at hd;obtain⟨a,ha,rfl⟩:=dz.mp hd;rw[bR,ha]at hP;nofun;exact⟨p,a,kn,rfl,hP⟩
 have el:((aZ (as.map Sy.d).length).map λi=>D.int (aS p (as.getD i .aI) kn))=(as.map λa=>aS p a kn).map D.int:=by
  rw[aG,fY];apply l7;intro i;rw[a7,a7];by_cases hi:i<as.length
  ·rw[lW hi,aU hi];simp[bR,hi]
  ·rw[dQ (by simpa using hi),dQ (by lia)];rfl
 rw[el];intro p1 hp1;nofun;exact hq
inductive zi6 (ds:List D)(q:List D->Prop):Prop where
 |mk (s:Sy) (k:List Str) (_:ds=[s.d,.tup (k.map D.str)]) (_:k.length<=1000) (_:s.parts.length<=1000) (_:q ((s.pp Sy.bases k).map bY))
def J3 :aL:=sM zi6
theorem zh6{k:Nat}(h:az K mg "placed_parts" nV ["saying","known"])(G:Gs K mg)(oH:av P w K mg base k "parts" ["saying"] wI)(A8:av P w K mg base k "path_parameter" ["saying"] A7) :
 av P w K mg base (k+1) "placed_parts" ["saying","known"] J3:=show _ by
 refine h.lst Aq (by rintro ds q ⟨_,_,e,_⟩;rw[e];rfl) λf cdv A outer s0 H E ds q hr hA=>?_;obtain⟨s,kn,rfl,hk,hp,hq⟩:=hA;refine⟨_,(au (cy (br rN zk (aA aO aP (aa 0) aj (λ_ _=>rfl)) bE (bC _)) (ay (bz (k9 (cA:=ao nV) (N:=["saying","known","param","inner"]) (M:=["known"]) (js:=[1]) ⟨rfl,by cbv,by cbv,by cbv,by cbv,by cbv⟩ (by cbv) (by cbv) rfl (sG (aQ oH hr rfl (ae (aa 0) ah))) (λ_ _ _ _ _=>fD) (λ_ _ _ _ _=>(bw (ae (aa 0) (ae (aa 1) ah))))))) cw)
 (au (aH (i:=2) Aq.nd rfl (Or.inl rfl) (aQ A8 hr rfl (ae (aA aO aP (aa 0) aj (λ_ _=>rfl)) ah)))
 (au (aH (i:=3) Aq.nd rfl (Or.inl rfl) (pv (br rO sJ (aa 2) eZ (bC _)) (aa 1) (aE Ab Ac (aa 1) (bw (ae (aa 2) ah)))))
 (ay (bz (dq (ae (bw (ae (aA aO aP (aa 0) aj (λ_ _=>rfl)) (ae (aa 1) ah))) (ae (bw (ae (aA aO aP (aa 0) aj (λ_ _=>rfl)) (ae (aa 3) ah))) (ae (bw (ae (aA aO aP (aa 0) aj (λ_ _=>rfl)) (ae (aa 1) ah))) ah))))))))),?_⟩
 by_cases hf:∃a b c,s=.fork a b c
 ·obtain⟨a,b,c,rfl⟩:=hf;simp only[Sy.d];nofun;refine⟨a,rfl,?_⟩;cases hb:a.base with
  |none =>
   simp only[sY];nofun;intro p1 hp1;nofun;refine⟨p1,_,rfl,ax,?_⟩;simpa[Sy.pp,bY,Sy.bases,hb]using hq
  |some x =>
   simp only[sY];nofun;refine Ad (by rw[aG];exact fB (by simp;lia)) ?_;nofun;intro p1 hp1;nofun;refine⟨p1,_,rfl,ax,?_⟩;simpa[Sy.pp,bY,Sy.bases,hb]using hq
 ·have et:∃t r,s.d=.tup (.str t::r)/\¬t="fork":=by
   cases s<;>first|exact⟨_,_,rfl,by decide⟩|exact(hf ⟨_,_,_,rfl⟩).elim
  obtain⟨t,r,ed,ht⟩:=et;have ep:s.pp Sy.bases kn=s.parts.map λa=>(a,kn):=by
   cases s<;>first|rfl|exact(hf ⟨_,_,_,rfl⟩).elim
  have es:D.tup (.str t::r)=s.d:=ed.symm;rw[ed];nofun;refine⟨s,by rw[ed],?_⟩;nofun;refine jr (λi=>.tup [(s.parts.getD i .aI).d,.tup (kn.map D.str)]) (by rw[aG];lia) trivial ?_ ?_
  ·intro i d hd P hP;rw[a7]at hd;obtain⟨a,ha,rfl⟩:=dz.mp hd;rw[bR,ha]at hP;nofun;exact hP
  have el:((aZ (s.parts.map Sy.d).length).map λi=>D.tup [(s.parts.getD i .aI).d,.tup (kn.map D.str)])=(s.pp Sy.bases kn).map bY:=by
   rw[aG,ep,fY];apply l7;intro i;rw[a7,a7];by_cases hi:i<s.parts.length
   ·rw[lW hi,aU hi];simp[bR,hi,bY]
   ·rw[dQ (by simpa using hi),dQ (by lia)];rfl
  rw[el];intro p1 hp1;nofun;exact⟨p1,_,rfl,ax,hq⟩
inductive zi5 (ds:List D)(q:List D->Prop):Prop where
 |mk (s:Sy) (_:ds=[s.d]) (_:s.pre.length<=100000) (_:(∀p∈s.bN Sy.bases [],p.2.length<=1000/\p.1.parts.length<=1000)) (_:q (((s.bN Sy.bases []).filter λp=>p.1.nm.isSome).map bY))
def J4 :aL:=sM zi5
theorem zh5{k:Nat}(h:az K mg "placed_sends" p6 ["body"])(G:Gs K mg)(aac:av P w K mg base k "placed_parts" ["saying","known"] J3) :
 av P w K mg base (k+1) "placed_sends" ["body"] J4:=show _ by
 refine h.lst tw (by rintro ds q ⟨s,e,_⟩;rw[e];rfl) λf cdv A outer s0 H E ds q hr hA=>?_;obtain⟨s,rfl,hz,hk,hq⟩:=hA;refine⟨_,(au (aH (i:=1) tw.nd rfl (Or.inl rfl) (dq ah))
 (au (aH (i:=2) tw.nd rfl (Or.inl rfl) (dq (ae (bw (ae (aa 0) (ae (bw ah) ah))) ah)))
 (au (pB eD (vg (aa 2) (λ_=>rfl)) (au (aH (i:=3) tw.nd rfl (Or.inl rfl) (g0 bW gR iw gV g_ (aa 2)))
 (au (cy (br cI gg (aA aO aP (aA aO aP (aa 3) aj (λ_ _=>rfl)) aj (λ_ _=>rfl)) bE (bC _)) (ay (b8 (cZ bW c_ dj cY de (aa 1) (ae (aa 3) ah)))) cw)
 (ay (e_ eD rfl (HG rfl G.wz (ae (aQ aac hr rfl (ae (aA aO aP (aa 3) aj (λ_ _=>rfl)) (ae (aA aO aP (aa 3) aj (λ_ _=>rfl)) ah))) ah)) (dv (i:=4) tw.nd rfl (Or.inl rfl)) (ay (b8 (cZ bW c_ dj cY de (aa 2) (ae (aa 4) ah)))))))))
 (ay (bz (aa 1)))))),?_⟩
 have hz':(s.bN Sy.bases []).length<=100000:=by
  have:=congrArg ki (Sy.iJ Sy.bases s []);rw[aG]at this;lia
 nofun;intro pf hpf;nofun;intro pe hpe;have hne:pf≠pe:=ne3 ax hpe;nofun;refine pG (λm σ S=>lr λ(fs ps:List (Sy×List Str)) (x3 x4:Option D)=>σ=[some s.d,some (.ref pf),some (.ref pe),x3,x4]/\S pf=some (.lst ((fs.filter λp=>p.1.nm.isSome).map bY))/\S pe=some (.lst (ps.map bY))/\fs++d0 Sy.bases ps.reverse=s.bN Sy.bases []/\m=(d0 Sy.bases ps.reverse).length)
  _ ⟨[],[(s,[])],none,none,rfl,aD ax hpe,ax,by simp[d0],rfl⟩ ?_
 rintro m σ S ⟨fs,ps,x3,x4,rfl,hf,he,hfs,rfl⟩;nofun;rcases snoc_cases ps with rfl|⟨ps',s',rfl⟩
 ·refine ph ?_;nofun;refine⟨pf,_,rfl,hf,?_⟩;have e:fs=s.bN Sy.bases []:=by simpa[d0]using hfs
  rw[e];exact hq
 ·have eb:(!((ps'++[s']).map bY).isEmpty)=true:=by simp
  rw[eb];refine nz ?_;have hlen:=congrArg ki hfs;rw[aR]at hlen;have er:(ps'++[s']).reverse=s'::ps'.reverse:=by simp
  rw[er,Ae,we]at hfs hlen;simp only[aR,bp]at hlen;have hmem:s'∈s.bN Sy.bases []:=by
   rw[<-hfs];simp
  obtain⟨k1,k2⟩:=hk s' hmem;have hfl:(fs.filter λp=>p.1.nm.isSome).length<=fs.length:=DH _ _;have he':S pe=some (.lst (ps'.map bY++[bY s'])):=by rw[he];simp
  obtain⟨s1,kn⟩:=s';dsimp only at hlen hfs k1 k2;have et:∃t r,s1.d=.tup (.str t::r)/\(s1.nm.isSome=true->t="send")/\(s1.nm.isSome=false->¬t="send"):=by
   cases s1<;>exact⟨_,_,rfl,λz=>by first|rfl|(simp[Sy.nm]at z),λz=>by first|decide|(simp[Sy.nm]at z)⟩
  obtain⟨t,r,ed,ht1,gv⟩:=et;nofun;refine gJ he' ?_;have ev:bY (s1,kn)=.tup [.tup (.str t::r),.tup (kn.map D.str)]:=by unfold bY;rw[ed]
  rw[ev];have hf1:up S pe (.lst (ps'.map bY)) pf=some (.lst ((fs.filter λp=>p.1.nm.isSome).map bY)):=by rw[aW hne];exact hf
  have J5:up S pe (.lst (ps'.map bY)) pe=some (.lst (ps'.map bY)):=ax;have done:∀(S3:af) (x4:Option D),S3 pf=some (.lst (((fs++[(s1,kn)]).filter λp=>p.1.nm.isSome).map bY))->S3 pe=some (.lst ((ps'++(s1.pp Sy.bases kn).reverse).map bY)) ->
   ∃m',m'<(d0 Sy.bases (ps'++[(s1,kn)]).reverse).length/\lr λ(fs ps:List (Sy×List Str)) (x3 x4':Option D)=>[some s.d,some (.ref pf),some (.ref pe),some (.tup [.tup (.str t::r),.tup (kn.map D.str)]),x4]=[some s.d,some (D.ref pf),some (.ref pe),x3,x4'] /\
    S3 pf=some (.lst ((fs.filter λp=>p.1.nm.isSome).map bY))/\S3 pe=some (.lst (ps.map bY))/\fs++d0 Sy.bases ps.reverse=s.bN Sy.bases []/\m'=(d0 Sy.bases ps.reverse).length:=λS3 x4 g1 g2=>by
   refine⟨_,?_,fs++[(s1,kn)],ps'++(s1.pp Sy.bases kn).reverse,_,_,rfl,g1,g2,?_,rfl⟩
   ·rw[er,Ae,we];simp only[rk,NX,HP,aR,bp];lia
   ·rw[<-hfs];simp[HP]
  have hpl:(s1.pp Sy.bases kn).length<=(d0 Sy.bases (s1.pp Sy.bases kn)).length:=Af _ _;have hpl':ps'.length<=(d0 Sy.bases ps'.reverse).length:=by
   have:=Af Sy.bases ps'.reverse;simpa using this
  have el:(((s1.pp Sy.bases kn).map bY).reverse).length=(s1.pp Sy.bases kn).length:=by simp
  cases hnm:s1.nm.isSome;have e1:=gv hnm;nofun;have g1:up S pe (.lst (ps'.map bY)) pf=some (.lst (((fs++[(s1,kn)]).filter λp=>p.1.nm.isSome).map bY)):=by
   rw[hf1];simp[uv,hnm]
  have g2:=J5;generalize up S pe (.lst (ps'.map bY))=S2 at g1 g2 ⊢
  rotate_left
  have e1:=ht1 hnm;subst e1;nofun;refine cJ hf1 (by rw[aG];exact c6 (by lia)) ?_;have g1:up (up S pe (.lst (ps'.map bY))) pf (.lst (((fs.filter λp=>p.1.nm.isSome).map bY)++[.tup [.tup (.str "send"::r),.tup (kn.map D.str)]])) pf=some (.lst (((fs++[(s1,kn)]).filter λp=>p.1.nm.isSome).map bY)):=by
   rw[ax];simp[uv,hnm,bY,ed]
  have g2:up (up S pe (.lst (ps'.map bY))) pf (.lst (((fs.filter λp=>p.1.nm.isSome).map bY)++[.tup [.tup (.str "send"::r),.tup (kn.map D.str)]])) pe=some (.lst (ps'.map bY)):=by
   rw[aW (bt hne)];exact J5
  generalize up (up S pe (.lst (ps'.map bY))) pf (.lst (((fs.filter λp=>p.1.nm.isSome).map bY)++[.tup [.tup (.str "send"::r),.tup (kn.map D.str)]]))=S2 at g1 g2 ⊢;nofun
  all_goals
   refine⟨s1,kn,by rw[ed],k1,k2,?_⟩;intro pl wJ;have n1:pf≠pl:=ne3 g1 wJ;have n2:pe≠pl:=ne3 g2 wJ;nofun;refine⟨λi σ S'=>∃x4,σ=[some s.d,some (.ref pf),some (.ref pe),_,x4]/\S' pl=some (.lst ((s1.pp Sy.bases kn).map bY))/\S' pf=some (.lst (((fs++[(s1,kn)]).filter λp=>p.1.nm.isSome).map bY)) /\
    S' pe=some (.lst (ps'.map bY++(((s1.pp Sy.bases kn).map bY).reverse).take i)),⟨_,rfl,ax,aD g1 wJ,by rw[aD g2 wJ];simp⟩,λi σ S' ⟨_,_,g,_⟩=>g,?_,?_⟩
   ·rintro i d σ S' hd ⟨y4,rfl,h1,h2,h3⟩;have hi:=(b4.mp hd).1;rw[el]at hi;nofun;refine cJ h3 ?_ ?_
    ·rw[aR,dP,aG,el];exact c6 (by lia)
    refine⟨_,rfl,by rw[aW (bt n2)];exact h1,by rw[aW hne];exact h2,?_⟩;rw[ax,jK,hd,i6];rfl
   ·rintro σ S' ⟨y4,rfl,h1,h2,h3⟩;refine done S' _ h2 ?_;rw[h3,jH (aT _),da,DU]
def A9(e:Er):Prop:=e.body.pre.length<=100000/\(∀p∈e.body.bN Sy.bases [],p.2.length<=1000/\p.1.parts.length<=1000)/\e.ps.length<=1000
inductive aad (ds:List D)(S:af)(q:List D->Prop):Prop where
 |mk (a:Addr) (prog:List Er) (_:ds=[.ref a]) (_:S a=some (.lst (prog.map Er.d))) (_:(∀e∈prog,A9 e)) (_:(cK aS Sy.bases prog).length<=100000) (_:q ((cK aS Sy.bases prog).map bj))
def J6 :aL:=nI aad
theorem aae{told:Str->Sy->List Str->Int}{ext:Sy->List Str}{prog:List Er}{i:Nat}{e:Er}(he:prog[i]?=some e):cK told ext (prog.take (i+1))=cK told ext (prog.take i)++((e.body.bN ext []).map (dw told e)).flatten:=by
 have htk:prog.take (i+1)=prog.take i++[e]:=by rw[jK,he];rfl
 rw[htk];simp[cK]
theorem aaf{told:Str->Sy->List Str->Int}{ext:Sy->List Str}{prog:List Er}(i:Nat):(cK told ext (prog.take i)).length<=(cK told ext prog).length:=by
 conv=>rhs;rw[<-DD i prog]
 simp only[cK,da,NY,aR];lia
theorem J7{told:Str->Sy->List Str->Int}{e:Er}:∀l:List (Sy×List Str),((l.filter λp=>p.1.nm.isSome).map (dw told e)).flatten=(l.map (dw told e)).flatten
 |[]=>rfl
 |(s,k)::l=>by
  have ih:=J7 (told:=told) (e:=e) l;cases s with
  |send x as =>
   have e1:(((Sy.send x as,k):Sy×List Str)::l).filter (λp=>p.1.nm.isSome)=(Sy.send x as,k)::l.filter λp=>p.1.nm.isSome:=rfl;rw[e1,bL,DN,bL,DN,ih]
  |name x=>exact ih
  |aI=>exact ih
  |pair _ _=>exact ih
  |left _=>exact ih
  |right _=>exact ih
  |fork _ _ _=>exact ih
theorem zrb{k:Nat}(h:az K mg "graphs" nU ["program"])(G:Gs K mg)(aag:av P w K mg base k "placed_sends" ["body"] J4)(C0:av P w K mg base k "told_row" ["param","sayings","known"] J2) :
 av P w K mg base (k+1) "graphs" ["program"] J6:=show _ by
 have aah:=C0;refine h.nI p5 (by rintro ds S q ⟨_,_,e,_⟩;rw[e];rfl) λf cdv A outer s0 H E ds S q hr hA=>?_;obtain⟨pr,prog,rfl,hS,hok,hz,hq⟩:=hA;refine⟨_,(au (aH (i:=1) p5.nd rfl (Or.inl rfl) (dq ah))
 (au (e_ eD rfl (jg (aa 0)) (dv (i:=2) p5.nd rfl (Or.inl rfl)) (ay (e_ eD rfl (jg (aQ aag hr rfl (ae (aA aO aP (aa 2) aj (λ_ _=>rfl)) ah))) (dv (i:=3) p5.nd rfl (Or.inr rfl)) (au (aH (i:=4) p5.nd rfl (Or.inr rfl) (aA aO aP (aa 3) aj (λ_ _=>rfl)))
 (au (nR (i:=5) (cA:=ao nU) (N:=["program","found","errand","placed","send","rows"]) (M:=["send","placed"]) (js:=[4,3]) ⟨rfl,by cbv,by cbv,by cbv,by cbv,by cbv⟩ (by cbv) (by cbv) rfl (sG (aA aO aP (aa 2) aj (λ_ _=>rfl))) (λ_ _ _ _ _=>fD) (λ_ _ _ _ _=>(aQ aah hr rfl (ae (aa 0) (ae (aA aO aP (aa 1) aj (λ_ _=>rfl)) (ae (aA aO aP (aa 2) aj (λ_ _=>rfl)) ah))))) p5.nd rfl rfl)
 (ay (b8 (cZ bW c_ dj cY de (aa 1) (ae (bw (ae (aA aO aP (aa 2) aj (λ_ _=>rfl)) (ae (aA aO aP (aa 4) aj (λ_ _=>rfl)) (ae (iF jd jj rfl G.tuple jJ (ae (aa 5) ah)) ah)))) ah)))))))))
 (ay (bz (aa 1))))),?_⟩
 nofun;intro pf hpf;have hne:pr≠pf:=ne3 hS hpf;have hS1:=aD (o:=.lst []) hS hpf;nofun;refine⟨λi σ S'=>lr λx2 x3 x4 x5=>σ=[some (.ref pr),some (.ref pf),x2,x3,x4,x5]/\Sub S S'/\S' pf=some (.lst ((cK aS Sy.bases (prog.take i)).map bj)),⟨none,none,none,none,rfl,(Sub.refl S).up hpf,by rw[ax];rfl⟩,
  λi σ S' ⟨x2,x3,x4,x5,_,h1,_⟩=>h1 _ _ hS,?_,?_⟩
 ·rintro i d σ S' hd ⟨x2,x3,x4,x5,rfl,h1,h2⟩;rw[a7]at hd;obtain⟨e,he,rfl⟩:=dz.mp hd;have J8:e∈prog:=c8 he;obtain⟨o1,o2,o3⟩:=hok e J8;have hsn:=aae (told:=aS) (ext:=Sy.bases) he;have hbd:=aaf (told:=aS) (ext:=Sy.bases) (prog:=prog) (i+1);rw[hsn,aR]at hbd;unfold Er.d;nofun;refine⟨e.body,rfl,o1,o2,?_⟩;intro pl hpl;have aai:pf≠pl:=ne3 h2 hpl;obtain⟨L,hL⟩:∃L,L=(e.body.bN Sy.bases []).filter λp=>p.1.nm.isSome:=⟨_,rfl⟩;rw[<-hL];have hLf:(L.map (dw aS e)).flatten=((e.body.bN Sy.bases []).map (dw aS e)).flatten:=by rw[hL];exact J7 _
  nofun;refine⟨λj σ S2=>ow λx3 x4 x5=>σ=[some (.ref pr),some (.ref pf),some e.d,x3,x4,x5]/\Sub S S2/\S2 pl=some (.lst (L.map bY))/\S2 pf=some (.lst ((cK aS Sy.bases (prog.take i)++((L.take j).map (dw aS e)).flatten).map bj)),
   ⟨_,_,_,rfl,h1.up hpl,ax,by rw[aD h2 hpl];simp⟩,λj σ S2 ⟨_,_,_,_,_,g,_⟩=>g,?_,?_⟩
  ·rintro j d σ S2 hd ⟨y3,y4,y5,rfl,g1,g2,g3⟩;rw[a7]at hd;obtain⟨⟨a,kn⟩,ha,rfl⟩:=dz.mp hd;have haL:(a,kn)∈L:=c8 ha;rw[hL,CC]at haL;obtain⟨p1,p2⟩:=o2 _ haL.1;have aaj:L.take (j+1)=L.take j++[(a,kn)]:=by rw[jK,ha];rfl
   have J9:((L.take j).map (dw aS e)).flatten.length<=(((e.body.bN Sy.bases []).map (dw aS e)).flatten).length:=by
    rw[<-hLf]
    conv=>rhs;rw[<-DD j L]
    simp only[da,NY,aR];lia
   cases a with
   |send x as =>
    have p2':as.length<=1000:=p2;unfold bY Er.d;simp only[Sy.d,Sy.nM];nofun;refine jr (λi=>cF (as.map λa=>aS (e.ps.getD i "") a kn)) (by rw[aG];lia) trivial ?_ ?_
    ·intro i d hd P hP;rw[a7]at hd;obtain⟨p,hp,rfl⟩:=dz.mp hd;rw[bR,hp]at hP;nofun;exact⟨p,as,kn,rfl,p2',hP⟩
    have el:((aZ (e.ps.map D.str).length).map λi=>cF (as.map λa=>aS (e.ps.getD i "") a kn))=(e.ps.map λp=>as.map λa=>aS p a kn).map cF:=by
     rw[aG,fY];apply l7;intro i;rw[a7,a7];by_cases hi:i<e.ps.length
     ·rw[lW hi,aU hi];simp[bR,hi]
     ·rw[dQ (by simpa using hi),dQ (by lia)];rfl
    rw[el];intro p3 hp3;have g4:=aD (o:=.lst ((e.ps.map λp=>as.map λa=>aS p a kn).map cF)) g3 hp3;have n3:pf≠p3:=ne3 g3 hp3;nofun;refine cJ g4 (by rw[aG,aR];exact c6 (by lia)) ?_;refine⟨_,_,_,rfl,?_,?_,?_⟩
    ·intro b o hb;rw[aW]
     ·exact(g1.up hp3) b o hb
     ·rintro rfl;rw[hpf]at hb;cases hb
    ·rw[aW (bt aai)];exact aD g2 hp3
    ·rw[ax,aaj];simp[dw,bj,fS,iI]
   |name x=>simp[Sy.nm]at haL
   |aI=>simp[Sy.nm]at haL
   |pair _ _=>simp[Sy.nm]at haL
   |left _=>simp[Sy.nm]at haL
   |right _=>simp[Sy.nm]at haL
   |fork _ _ _=>simp[Sy.nm]at haL
  ·rintro σ S2 ⟨y3,y4,y5,rfl,g1,g2,g3⟩;refine⟨_,_,_,_,rfl,g1,?_⟩;rw[g3,aG,oU,hsn,hLf]
 ·rintro σ S' ⟨x2,x3,x4,x5,rfl,h1,h2⟩;rw[aG,oU]at h2;nofun;exact⟨pf,_,rfl,hpf,h1,h2,hq⟩
inductive ziu (ds:List D)(q:D->Prop):Prop where
 |mk (a b:Int) (_:ds=[.int a,.int b]) (_:q (.int (jn a b)))
def J_ :aL:=vS ziu
theorem zg1{k:Nat}(h:az K mg "joined_number" p_ ["one","other"])(G:Gs K mg):av P w K mg base (k+1) "joined_number" ["one","other"] J_:=show _ by
 refine h.val Ym (by rintro ds q ⟨a,b,e,_⟩;rw[e];rfl) λf cdv A outer s0 H E ds q hr hA=>?_;obtain⟨a,b,rfl,hq⟩:=hA;unfold jn at hq;refine⟨_,(ay (bz (pv (br yG vn aj (bw (ae (aa 0) (ae (aa 1) ah))) (by with_unfolding_all rfl)) aj (dH (P6 rfl) VR rfl G.max boot_max (ae (aa 0) (ae (aa 1) ah)))))),?_⟩;nofun;rw[V4];by_cases hc:a=0∨b=0
 ·rw[if_pos hc]at hq;refine sf hc ?_;nofun;exact hq
 ·rw[if_neg hc]at hq;refine vc hc ?_;nofun;exact hq
inductive zgn (ds:List D)(q:D->Prop):Prop where
 |mk (row:List Int) (B:bh) (n p k:Nat) (_:ds=[cF row,iI B,.int k]) (_:Mt n p B) (_:row.length=n) (_:(∀x∈row,0<=x/\x<=2)) (_:0<n) (_:n<=1000) (_:k<p) (_:q (.int (dot row B k)))
def J' :aL:=vS zgn
theorem zf0{k:Nat}(h:az K mg "largest_between" nZ ["row","rows","column"])(G:Gs K mg)(aak:av P w K mg base k "joined_number" ["one","other"] J_) :
 av P w K mg base (k+1) "largest_between" ["row","rows","column"] J':=show _ by
 refine h.val Yl (by rintro ds q ⟨_,_,_,_,_,e,_⟩;rw[e];rfl) λf cdv A outer s0 H E ds q hr hA=>?_;obtain⟨row,B,n,p,c,rfl,hB,hl,hr',hn,hn',hc,hq⟩:=hA;refine⟨_,(ay (bz (dH (VL rfl) VQ rfl G.max boot_max (ae (Jh (cA:=ao nZ) (N:=["row","rows","column"]) (M:=["column"]) (js:=[2]) ⟨rfl,by cbv,by cbv,by cbv,by cbv,by cbv⟩ (by cbv) (by cbv) rfl (VH rfl G.zip (ae (aa 0) (ae (aa 1) ah))) (λ_ _ _ _ _=>fD) (λ_ _ _ _ _=>(aQ aak hr rfl (ae (aa 0) (ae (aA aO aP (aa 1) (aa 2) (λ_ _=>rfl)) ah))))) ah)))),?_⟩;unfold cF iI;nofun;have hz:(jZ (row.map D.int) (B.map cF)).length=n:=by simp[jZ,hl,hB.len]
 refine Hr (λ_=>true) (λj=>.int (jn (row.getD j 0) (at2 B j c))) (by rw[hz];lia) trivial ?_ ?_
 ·intro j d hd;obtain⟨hj,_⟩:=b4.mp hd;rw[hz]at hj;have ed:d=.tup [.int (row.getD j 0),cF (B.getD j [])]:=by
   have h1:(row.map D.int)[j]?=some (.int (row.getD j 0)):=by rw[a7,aU (by lia),bR,aU (by lia)];rfl
   have hjB:j<B.length:=by rw[hB.len];exact hj
   have h2:(B.map cF)[j]?=some (cF (B.getD j [])):=by rw[a7,aU hjB,bR,aU hjB];rfl
   unfold jZ at hd;have pQ:((row.map D.int).zip (B.map cF))[j]?=some (D.int (row.getD j 0),cF (B.getD j [])):=ND.mpr ⟨h1,h2⟩;rw[a7,pQ]at hd;exact(dg hd).symm
  rw[ed];refine Ht ⟨λP hP=>?_,λ_ P hP=>?_⟩
  ·nofun;exact hP
  ·unfold cF;have j9:c<(B.getD j []).length:=by rw[hB.row _ (pR (by rw[hB.len];exact hj))];exact hc
   nofun;refine my (zG (by lia) (v:=.int (at2 B j c)) ?_) ?_
   ·rw[a7,jD,aU j9];unfold at2;rw[bR (l:=B.getD j []),aU j9];rfl
   nofun;exact⟨_,_,rfl,hP⟩
 rw[Hs,hz];intro p1 hp1;nofun;have el:((aZ n).map λj=>D.int (jn (row.getD j 0) (at2 B j c)))=((aZ n).map λj=>jn (row.getD j 0) (at2 B j c)).map D.int:=by rw[fY];rfl
 rw[el];refine VW ax (λe=>?_) λM h1 h2=>?_
 ·have:=congrArg ki e;simp at this;lia
 have e:=VZ (λj _=>V0 (wb hr' j).1 (hB.at j c).1) h1 h2;have e2:dot row B c=M:=by unfold dot;rw[hl];exact e.symm
 rw[e2]at hq;exact hq
inductive zi8 (ds:List D)(q:D->Prop):Prop where
 |mk (row:List Int) (B:bh) (n p:Nat) (_:ds=[cF row,iI B]) (_:Mt n p B) (_:row.length=n) (_:(∀x∈row,0<=x/\x<=2)) (_:0<n) (_:n<=1000) (_:p<=1000) (_:q (cF ((aZ p).map λk=>dot row B k)))
def Ka :aL:=vS zi8
theorem zh8{k:Nat}(h:az K mg "composed_row" nY ["row","rows"])(G:Gs K mg)(aal:av P w K mg base k "largest_between" ["row","rows","column"] J') :
 av P w K mg base (k+1) "composed_row" ["row","rows"] Ka:=show _ by
 refine h.val Yk (by rintro ds q ⟨_,_,_,_,e,_⟩;rw[e];rfl) λf cdv A outer s0 H E ds q hr hA=>?_;obtain⟨row,B,n,p,rfl,hB,hl,hr',hn,hn',hp,hq⟩:=hA;have h0:(B.getD 0 []).length=p:=hB.row _ (pR (by rw[hB.len];exact hn));refine⟨_,(ay (bz (iF jd jj rfl G.tuple jJ (ae (k9 (cA:=ao nY) (N:=["row","rows"]) (M:=["row","rows"]) (js:=[0,1]) ⟨rfl,by cbv,by cbv,by cbv,by cbv,by cbv⟩ (by cbv) (by cbv) rfl (gH rfl G.range (ae (dH eI eU rfl G.len eC (ae (aA aO aP (aa 1) aj (λ_ _=>rfl)) ah)) ah)) (λ_ _ _ _ _=>fD) (λ_ _ _ _ _=>(aQ aal hr rfl (ae (aa 1) (ae (aa 2) (ae (aa 0) ah)))))) ah)))),?_⟩;nofun;refine V' (k:=0) rfl (by rw[hB.len];exact hn) ?_;nofun;rw[h0];refine jr (λk=>.int (dot row B k)) (by rw[dW];lia) trivial ?_ ?_
 ·intro i d hd P hP;obtain⟨hi,rfl⟩:=gG hd;nofun;refine⟨row,B,n,p,i,?_,hB,hl,hr',hn,hn',by lia,hP⟩;rw[Int.zero_add]
 rw[dW,jD];intro p1 hp1;nofun;have el:((aZ p).map λk=>D.int (dot row B k))=((aZ p).map λk=>dot row B k).map D.int:=by rw[fY];rfl
 rw[el];exact hq
inductive aam (ds:List D)(q:D->Prop):Prop where
 |mk (f t f' t':Str) (A B:bh) (_:ds=[fS f t A,fS f' t' B]) (_:q (.bl (decide (t=f'))))
def wK :aL:=vS aam
theorem aan{k:Nat}(h:az K mg "fit" p9 ["one","other"]):av P w K mg base (k+1) "fit" ["one","other"] wK:=show _ by
 refine h.val Yj (by rintro ds q ⟨_,_,_,_,_,_,e,_⟩;rw[e];rfl) λf cdv A outer s0 H E ds q hr hA=>?_;obtain⟨fr,t,f',t',A',B,rfl,hq⟩:=hA;refine⟨_,(ay (bz (yY cI gg (aA aO aP (aa 0) aj (λ_ _=>rfl)) (aA aO aP (aa 1) aj (λ_ _=>rfl)) (bC _)))),?_⟩;unfold fS;nofun;exact hq
inductive zpw(adr:Rf->Addr)(ds:List D)(q:D->Prop)(qx:Addr->Prop):Prop where
 |mk (f t f' t':Str) (A B:bh) (m n p:Nat) (_:ds=[fS f t A,fS f' t' B]) (_:m<=1000) (_:n<=1000) (_:p<=1000) (_:0<n) (_:(t=f'->Mt m n A/\Mt n p B/\q (fS f t' (dZ A B)))) (_:(t≠f'->qx (adr .apart)))
def A_(adr:Rf->Addr):aL:=vX (zpw adr)
theorem zmt{k:Nat}(h:az K mg "composed" nX ["one","other"])(G:Gs K mg)(R:kQ K mg ES adr)(lF:av P w K mg base k "fit" ["one","other"] wK)(aao:av P w K mg base k "composed_row" ["row","rows"] Ka) :
 av P w K mg base (k+1) "composed" ["one","other"] (A_ adr):=show _ by
 refine h.Up Jk (by rintro ds q qx ⟨_,_,_,_,_,_,_,_,_,e,_⟩;rw[e];rfl) λf cdv A outer s0 H E ds q qx hr hA=>?_;obtain⟨fr,t,f',t',A',B,m,n,p,rfl,hm,hn,hp,hn0,hy,hno⟩:=hA;refine⟨_,(au (cy (FF (vf (aQ lF hr rfl (ae (aa 0) (ae (aa 1) ah))))) (ay (G2 (C:=adr .apart) (R.bound .apart (by decide)) (R.exc (by decide)) rfl rfl (ae bE ah))) cw)
 (au (nR (i:=2) (cA:=ao nX) (N:=["one","other","rows"]) (M:=["other"]) (js:=[1]) ⟨rfl,by cbv,by cbv,by cbv,by cbv,by cbv⟩ (by cbv) (by cbv) rfl (sG (aA aO aP (aa 0) aj (λ_ _=>rfl))) (λ_ _ _ _ _=>fD) (λ_ _ _ _ _=>(aQ aao hr rfl (ae (aa 0) (ae (aA aO aP (aa 1) aj (λ_ _=>rfl)) ah)))) Jk.nd rfl rfl)
 (ay (bz (bw (ae (aA aO aP (aa 0) aj (λ_ _=>rfl)) (ae (aA aO aP (aa 1) aj (λ_ _=>rfl)) (ae (iF jd jj rfl G.tuple jJ (ae (aa 2) ah)) ah)))))))),?_⟩
 by_cases hc:t=f'
 ·obtain⟨hA,hB,hq⟩:=hy hc;nofun;refine⟨fr,t,f',t',A',B,rfl,?_⟩;nofun;unfold fS;nofun;unfold iI;nofun;refine jr (λi=>cF ((aZ p).map λk=>dot (A'.getD i []) B k)) (by rw[aG,hA.len];lia) trivial ?_ ?_
  ·intro i d hd P hP;rw[a7]at hd;obtain⟨row,hrow,rfl⟩:=dz.mp hd;have hmem:=c8 hrow;have eg:A'.getD i []=row:=by rw[bR,hrow];rfl
   rw[eg]at hP;nofun;exact⟨row,B,n,p,rfl,hB,hA.row row hmem,hA.num row hmem,hn0,hn,hp,hP⟩
  have el:((aZ (A'.map cF).length).map λi=>cF ((aZ p).map λk=>dot (A'.getD i []) B k))=(dZ A' B).map cF:=by
   unfold dZ;rw[aG,hB.head hn0,fY];apply l7;intro i;rw[a7,a7];by_cases hi:i<A'.length
   ·rw[lW hi,aU hi];simp[bR,hi]
   ·rw[dQ (by simpa using hi),dQ (by lia)];rfl
  rw[el];intro p1 hp1;nofun;exact hq
 ·nofun;refine⟨fr,t,f',t',A',B,rfl,?_⟩;nofun;exact λa=>hno hc
inductive ztl(adr:Rf->Addr)(ds:List D)(S:af)(q:D->Addr->O->Prop)(qx:Addr->Prop):Prop where
 |mk (pf:Addr) (F:CL.Fd Gr) (g:Gr) (way:List Int) (_:ds=[.ref pf,bj g,pU way]) (_:S pf=some (.lst (F.map dE))) (_:F.length<=40) (_:(∀F',CL.putN F g way=some F'->q .non pf (.lst (F'.map dE)))) (_:(CL.putN F g way=none->qx (adr .many)))
def Kb(adr:Rf->Addr):aL:=vM (ztl adr)
theorem sub_self{S:af}{a:Addr}{o:O}(h:S a=some o){S':af}(hs:Sub S S'):Sub (up S a o) S':=λb u e=>by
 by_cases c:b=a
 ·subst c;rw[ax]at e;cases e;exact hs _ _ h
 ·rw[aW c]at e;exact hs _ _ e
theorem zo4{k:Nat}(h:az K mg "put_new" n0 ["found","graph","way"])(G:Gs K mg)(R:kQ K mg ES adr):av P w K mg base (k+1) "put_new" ["found","graph","way"] (Kb adr):=show _ by
 refine h.vM Yp (by rintro ds S q qx ⟨_,_,_,_,e,_⟩;rw[e];rfl) λf cdv A outer s0 H E ds S q qx hr hA=>?_;obtain⟨pf,F,g,way,rfl,hS,hl,hy,hn⟩:=hA;refine⟨_,(au (cy (br (IC (zw hr)) IE (aa 1) (k9 (cA:=ao n0) (N:=["found","graph","way"]) (M:=[]) (js:=[]) ⟨rfl,by cbv,by cbv,by cbv,by cbv,by cbv⟩ (by cbv) (by cbv) rfl (jg (aa 0)) (λ_ _ _ _ _=>fD) (λ_ _ _ _ _=>(aA aO aP (aa 0) aj (λ_ _=>rfl)))) (by with_unfolding_all rfl)) (ay Sa) cw)
 (au (cy (br Ep iG (dH eI eU rfl G.len eC (ae (aa 0) ah)) (Fx G.YE rfl) (bC _)) (ay (G2 (C:=adr .many) (R.bound .many (by decide)) (R.exc (by decide)) rfl rfl (ae bE ah))) cw)
 (ay (b8 (cZ bW c_ dj cY de (aa 0) (ae (bw (ae (aa 1) (ae (aa 2) ah))) ah)))))),?_⟩
 nofun;refine jr (λi=>bj ((F.getD i (g,[])).1)) (by rw[aG];lia) hS ?_ ?_
 ·intro i d hd P hP;rw[a7]at hd;obtain⟨p,hp,rfl⟩:=dz.mp hd;rw[bR,hp]at hP;unfold dE;nofun;exact hP
 have el:((aZ (F.map dE).length).map λi=>bj ((F.getD i (g,[])).1))=(F.map bS).map bj:=by
  rw[aG,fY];apply l7;intro i;rw[a7,a7];by_cases hi:i<F.length
  ·rw[lW hi,aU hi];simp[bR,hi]
  ·rw[dQ (by simpa using hi),dQ (by lia)];rfl
 rw[el];intro p1 hp1;have h1:=aD (o:=.lst ((F.map bS).map bj)) hS hp1;have s1:Sub S (up S p1 (.lst ((F.map bS).map bj))):=(Sub.refl S).up hp1;have h2:up S p1 (.lst ((F.map bS).map bj)) p1=_:=ax;generalize up S p1 (.lst ((F.map bS).map bj))=S1 at h1 h2 s1 ⊢;refine W6 (by decide) h2 ?_;by_cases hm:g∈F.map bS
 ·rw[decide_eq_true hm];nofun;exact⟨pf,_,sub_self hS s1,hy F (by unfold CL.putN;rw[if_pos hm])⟩
 rw[decide_eq_false hm];have hlen:((F.map dE).length:Int)=(F.length:Int):=by rw[aG]
 by_cases wL:40<=F.length
 ·have aap:((F.map dE).length:Int)>=40:=by lia
  nofun;intro a;exact⟨s1,hn (by unfold CL.putN;rw[if_neg hm,if_pos wL])⟩
 ·have aap:¬((F.map dE).length:Int)>=40:=by lia
  nofun;refine cJ h1 (by rw[aG];exact c6 (by lia)) ?_;have e:F.map dE++[D.tup [bj g,pU way]]=(F++[(g,way)]).map dE:=by simp[dE]
  rw[e];exact⟨pf,_,Sub.upd s1,hy (F++[(g,way)]) (by unfold CL.putN;rw[if_neg hm,if_neg wL])⟩
inductive zmh(adr:Rf->Addr)(ds:List D)(S:af)(q:List D->Prop)(qx:Addr->Prop):Prop where
 |mk (pn:Addr) (nb:List (Int×Gr)) (ar:Str->Option Nat) (_:ds=[.ref pn]) (_:S pn=some (.lst (nb.map kY))) (_:nb.length<=1000) (_:(∀p∈nb,Gd ar p.2)) (_:(∀F,iL nb=some F->q (F.map dE))) (_:(iL nb=none->qx (adr .many)))
def Kc(adr:Rf->Addr):aL:=pS (zmh adr)
structure FG(ar:Str->Option Nat)(F:CL.Fd Gr):Prop where
 gd:∀p∈F,Gd ar p.1
 wl:∀p∈F,p.2.length<=1000
theorem FG.put{ar:Str->Option Nat}{F F':CL.Fd Gr}{g:Gr}{w:List Int}(h:FG ar F)(hg:Gd ar g)(hw:w.length<=1000)(e:CL.putN F g w=some F'):FG ar F':=show _ by
 unfold CL.putN at e
 split at e
 ·cases e;exact h
 ·split at e
  ·cases e
  ·cases e;refine⟨λp hp=>?_,λp hp=>?_⟩
   ·rcases dh.mp hp with hp|hp
    ·exact h.gd p hp
    ·rw[ft.mp hp];exact hg
   ·rcases dh.mp hp with hp|hp
    ·exact h.wl p hp
    ·rw[ft.mp hp];exact hw
theorem Kd{α:Type}{l:List α}{j:Nat}{x:α}(h:l[j]?=some x):l.drop j=x::l.drop (j+1):=by
 obtain⟨hj,rfl⟩:=b4.mp h;exact uz hj
theorem zku{k:Nat}(h:az K mg "closure_of" qc ["numbered"])(G:Gs K mg)(R:kQ K mg ES adr)(wM:av P w K mg base k "put_new" ["found","graph","way"] (Kb adr))(lF:av P w K mg base k "fit" ["one","other"] wK)
 (qL:av P w K mg base k "composed" ["one","other"] (A_ adr)):av P w K mg base (k+1) "closure_of" ["numbered"] (Kc adr):=show _ by
 refine h.pS lg (by rintro ds S q qx ⟨_,_,_,e,_⟩;rw[e];rfl) λf cdv A outer s0 H E ds S q qx hr hA=>?_;obtain⟨pn,nb,ar,rfl,hS,hnl,hgd,hy,hno⟩:=hA;refine⟨_,(au (aH (i:=1) lg.nd rfl (Or.inl rfl) (dq ah))
 (au (e_ vG rfl (jg (aa 0)) (sE rfl (jV (dv (i:=2) lg.nd rfl (Or.inl rfl)) (jV (dv (i:=3) lg.nd rfl (Or.inl rfl)) sD))) (ay (b8 (aQ wM hr rfl (ae (aa 1) (ae (aa 3) (ae (bw (ae (aa 2) ah)) ah)))))))
 (au (aH (i:=4) lg.nd rfl (Or.inl rfl) aj)
 (au (pB vG (br o8 iG (aa 4) (dH eI eU rfl G.len eC (ae (aa 1) ah)) (bC _)) (au (aH (i:=5) lg.nd rfl (Or.inl rfl) (aA d_ eA (aa 1) (aa 4) (λ_ _=>rfl)))
 (au (e_ vG rfl (jg (aa 0)) (sE rfl (jV (dv (i:=2) lg.nd rfl (Or.inl rfl)) (jV (dv (i:=3) lg.nd rfl (Or.inl rfl)) sD))) (ay (cy (vf (aQ lF hr rfl (ae (aA aO aP (aa 5) aj (λ_ _=>rfl)) (ae (aa 3) ah)))) (ay (b8 (aQ wM hr rfl (ae (aa 1) (ae (aQ qL hr rfl (ae (aA aO aP (aa 5) aj (λ_ _=>rfl)) (ae (aa 3) ah))) (ae (aE Ab Ac (aA aO aP (aa 5) aj (λ_ _=>rfl)) (bw (ae (aa 2) ah))) ah)))))) cw)))
 (ay (vk (i:=4) lg.nd rfl (Or.inl rfl) aj yn)))))
 (ay (bz (aa 1))))))),?_⟩
 nofun;intro pf hpf;have hS1:=aD (o:=.lst []) hS hpf;have hne:pn≠pf:=ne3 hS hpf;nofun;refine⟨λj σ S'=>ow λ(F:CL.Fd Gr) (x2 x3:Option D)=>σ=[some (.ref pn),some (.ref pf),x2,x3,none,none]/\Sub S S'/\S' pf=some (.lst (F.map dE))/\CL.Ok F/\FG ar F/\(∀p∈F,p.2.length<=1)/\CL.kW nb []=CL.kW (nb.drop j) F,
  ⟨[],_,_,rfl,(Sub.refl S).up hpf,ax,CL.Ok.nil,⟨by simp,by simp⟩,by simp,by simp⟩,λj σ S' ⟨_,_,_,_,h1,_⟩=>h1 _ _ hS,?turn,?done⟩
 case turn =>
  rintro j d σ S' hd ⟨F,x2,x3,rfl,h1,h2,hok,hfg,hw1,e1⟩;rw[a7]at hd;obtain⟨⟨n,g⟩,hp,rfl⟩:=dz.mp hd;have hpm:=c8 hp;rw[Kd hp,CL.kW]at e1;unfold kY;nofun;refine⟨pf,F,g,[n],rfl,h2,hok.len,λF' eF=>?_,λeF=>?_⟩
  ·have hst:=CL.wg hok eF;refine⟨F',_,_,rfl,h1.at hpf,ax,hst.1.ok,hfg.put (hgd _ hpm) (by simp) eF,λp hp'=>?_,by rw[e1,eF];rfl⟩;unfold CL.putN at eF
   split at eF
   ·cases eF;exact hw1 p hp'
   ·split at eF
    ·cases eF
    ·cases eF;rcases dh.mp hp' with z|z
     ·exact hw1 p z
     ·rw[ft.mp z];simp
  ·intro a;refine⟨h1,hno ?_⟩;show CL.kX fG cz nb=none;unfold CL.kX;rw[e1,eF];rfl
 rintro σ S' ⟨F,x2,x3,rfl,h1,h2,hok,hfg,hw1,e1⟩;rw[aG,xV]at e1;have e2:iL nb=CL.iK fG cz nb 41 0 F:=by
  show CL.kX fG cz nb=_;unfold CL.kX;rw[e1];rfl
 clear e1;nofun;refine pG (λm σ T=>Ax λ(F:CL.Fd Gr) (x2 x3 x5:Option D) (pl:Nat)=>σ=[some (.ref pn),some (.ref pf),x2,x3,some (.int (pl:Int)),x5]/\Sub S T/\T pf=some (.lst (F.map dE))/\CL.Ok F/\FG ar F/\(∀p∈F,p.2.length<=pl+1)/\pl+m=41/\iL nb=CL.iK fG cz nb m pl F)
  41 ⟨F,x2,x3,none,0,rfl,h1,h2,hok,hfg,hw1,rfl,e2⟩ ?_
 clear h1 h2 hok hfg hw1 e2;rintro m σ T ⟨F,x2,x3,x5,pl,rfl,h1,h2,hok,hfg,hw1,hm,e1⟩;have J9:((F.map dE).length:Int)=(F.length:Int):=by rw[aG]
 have wL:=hok.len;by_cases hlt:pl<F.length
 rotate_left
 ·have hlt':¬((pl:Int)<((F.map dE).length:Int)):=by lia
  nofun;rw[CL.WD (by lia)]at e1;exact⟨pf,_,rfl,hpf,h1,h2,hy F e1⟩
 have hlt':((pl:Int)<((F.map dE).length:Int)):=by lia
 obtain⟨m,rfl⟩:∃m',m=m'+1:=⟨m-1,by lia⟩;obtain⟨a,ha⟩:∃a,F[pl]?=some a:=⟨_,aU hlt⟩;have Ba:=c8 ha;rw[CL.iK,ha]at e1;dsimp only at e1;obtain⟨ag,aw⟩:=a;have hga:=hfg.gd _ Ba;have gn:=hw1 _ Ba;dsimp only at hga gn;have hTn:=h1 _ _ hS;nofun;refine fj h2 (d:=dE (ag,aw)) (fP (by rw[a7,ha];rfl)) ?_;nofun;refine⟨λj σ T'=>ow λ(F':CL.Fd Gr) (x2 x3:Option D)=>σ=[some (.ref pn),some (.ref pf),x2,x3,some (.int (pl:Int)),some (dE (ag,aw))]/\Sub S T'/\T' pf=some (.lst (F'.map dE))/\CL.Ok F'/\FG ar F'/\(∀p∈F',p.2.length<=pl+2)/\iL nb=(CL.put2 fG cz (ag,aw) (nb.drop j) F').bind (CL.iK fG cz nb m (pl+1)),
  ⟨F,_,_,rfl,h1,h2,hok,hfg,λp hp=>by have:=hw1 p hp;lia,by rw[e1];rfl⟩,λj σ T' ⟨_,_,_,_,h1,_⟩=>h1 _ _ hS,?aiG,?aaq⟩
 case aaq =>
  rintro σ T' ⟨F',y2,y3,rfl,k1,k2,tR,wN,kw,e3⟩;rw[aG,xV]at e3;nofun;have ep:(pl:Int)+1=((pl+1:Nat):Int):=by lia
  rw[ep];exact⟨m,by lia,F',y2,y3,_,pl+1,rfl,k1,k2,tR,wN,kw,by lia,e3⟩
 clear h1 h2 hok hfg hw1 hlt hlt' J9 wL ha Ba e1;rintro j d σ T' hd ⟨F',y2,y3,rfl,k1,k2,tR,wN,kw,e3⟩;rw[a7]at hd;obtain⟨⟨n,g⟩,hp,rfl⟩:=dz.mp hd;have hpm:=c8 hp;have Bb:=hgd _ hpm;dsimp only at Bb;rw[Kd hp,CL.put2]at e3;dsimp only at e3;unfold kY dE;nofun;refine⟨ag.1,ag.2.1,g.1,g.2.1,ag.2.2,g.2.2,rfl,?_⟩;by_cases hf:ag.2.1=g.1
 rotate_left
 ·have hff:¬(fG ag g=true):=by simpa[fG]using hf
  rw[if_neg hff]at e3;nofun;exact⟨F',_,_,rfl,k1,k2,tR,wN,kw,e3⟩
 have hff:fG ag g=true:=by simpa[fG]using hf
 rw[if_pos hff]at e3;obtain⟨m1,n1,q1,q2,q3,q4,q5,q6,tS⟩:=hga.ex;obtain⟨m2,n2,r1,r2,r3,r4,r5,r6,Bc⟩:=Bb.ex;have Be:m2=n1:=by rw[hf,r1]at q2;exact dg q2
 subst Be;nofun;refine⟨ag.1,ag.2.1,g.1,g.2.1,ag.2.2,g.2.2,m1,m2,n2,rfl,by lia,by lia,by lia,by lia,λ_=>⟨tS,Bc,?_⟩,λz=>absurd hf z⟩;unfold pU;nofun;refine Ad (by rw[aG];exact fB (by simp;lia)) ?_;nofun;refine⟨pf,F',cz ag g,aw++[n],?_,k2,tR.len,λF2 eF=>?_,λeF=>?_⟩
 ·simp[pU,bj,cz]
 ·have hst:=CL.wg tR eF;refine⟨F2,_,_,rfl,k1.at hpf,ax,hst.1.ok,wN.put (hga.cmp Bb hf) (by rw[aR];simp;lia) eF,λp hp'=>?_,by rw[e3,eF];rfl⟩;unfold CL.putN at eF
  split at eF
  ·cases eF;exact kw p hp'
  ·split at eF
   ·cases eF
   ·cases eF;rcases dh.mp hp' with z|z
    ·exact kw p z
    ·rw[ft.mp z,aR];simp;lia
 ·intro a;refine⟨k1,hno ?_⟩;rw[e3,eF];rfl
inductive zmg (ds:List D)(q:D->Prop):Prop where
 |mk (f t:Str) (A:bh) (n:Nat) (_:ds=[fS f t A]) (_:Mt n n A) (_:n<=1000) (_:q (.bl (j6 A)))
def Ke :aL:=vS zmg
theorem zkt{k:Nat}(h:az K mg "falls_here" og ["graph"])(G:Gs K mg):av P w K mg base (k+1) "falls_here" ["graph"] Ke:=show _ by
 refine h.val Yr (by rintro ds q ⟨_,_,_,_,e,_⟩;rw[e];rfl) λf cdv A outer s0 H E ds q hr hA=>?_;obtain⟨fr,t,A',n,rfl,hM,hn,hq⟩:=hA;refine⟨_,(ay (bz (dH (VN rfl) (VS (f:=λbs=>bs.any id)) rfl G.any boot_any (ae (Jh (cA:=ao og) (N:=["graph"]) (M:=[]) (js:=[]) ⟨rfl,by cbv,by cbv,by cbv,by cbv,by cbv⟩ (by cbv) (by cbv) rfl (IA rfl G.enumerate (ae (aA aO aP (aa 0) aj (λ_ _=>rfl)) ah)) (λ_ _ _ _ _=>fD) (λ_ _ _ _ _=>(yY cI fA (aA aO aP (aa 1) (aa 0) (λ_ _=>rfl)) aj (bC _)))) ah)))),?_⟩;unfold fS iI;nofun;refine Aa (λi=>.bl (decide ((A'.getD i []).getD i 0=2))) (by rw[tm,aG,hM.len];lia) (λ_ _=>trivial) ?_ ?_
 ·intro i d S hd hs;rw[wj]at hd;obtain⟨d2,hd2,rfl⟩:=dz.mp hd;rw[a7]at hd2;obtain⟨row,hrow,rfl⟩:=dz.mp hd2;have hi:i<A'.length:=(b4.mp hrow).1;have hrl:=hM.row row (c8 hrow);have hil:i<row.length:=by rw[hrl];have:=hM.len;lia
  refine Ht λP hP=>?_;rw[bR (l:=A'),hrow]at hP;unfold cF;nofun;refine my (d:=.int (row.getD i 0)) (fP (by rw[a7,aU hil];simp[bR,hil])) ?_;nofun;exact hP _ (Sub.refl _)
 intro S hs p1 hp1;nofun;have eb:((aZ (fF (A'.map cF)).length).map λi=>D.bl (decide ((A'.getD i []).getD i 0=2)))=((aZ A'.length).map λi=>decide ((A'.getD i []).getD i 0=2)).map D.bl:=by rw[tm,aG,fY];rfl
 rw[eb];refine VY ax ?_;have ea:(((aZ A'.length).map λi=>decide ((A'.getD i []).getD i 0=2)).any id)=j6 A':=by
  unfold j6;rw[NQ];rfl
 rw[ea];nofun;exact hq
inductive ziv (ds:List D)(q:D->Prop):Prop where
 |mk (ar:Str->Option Nat) (g:Gr) (_:ds=[bj g]) (_:Gd ar g) (_:q (.bl (gk g)))
def Kf :aL:=vS ziv
theorem zg2{k:Nat}(h:az K mg "is_idle_round" qd ["graph"])(G:Gs K mg)(lF:av P w K mg base k "fit" ["one","other"] wK)(qL:av P w K mg base k "composed" ["one","other"] (A_ adr))
 (Bf:av P w K mg base k "falls_here" ["graph"] Ke):av P w K mg base (k+1) "is_idle_round" ["graph"] Kf:=show _ by
 refine h.val Yq (by rintro ds q ⟨_,_,e,_⟩;rw[e];rfl) λf cdv A outer s0 H E ds q hr hA=>?_;obtain⟨ar,g,rfl,hg,hq⟩:=hA;refine⟨_,(ay (bz (FH (aQ lF hr rfl (ae (aa 0) (ae (aa 0) ah))) (FH (yY (RF (zw hr)) Sx (aQ qL hr rfl (ae (aa 0) (ae (aa 0) ah))) (aa 0) (bC _)) (R9 (R_ (aQ Bf hr rfl (ae (aa 0) ah)))))))),?_⟩;obtain⟨m1,n1,q1,q2,q3,q4,q5,q6,tS⟩:=hg.ex;nofun;refine⟨g.1,g.2.1,g.1,g.2.1,g.2.2,g.2.2,rfl,?_⟩;by_cases hf:g.2.1=g.1
 rotate_left
 ·have hi:gk g=false:=by simp[gk,fG,hf]
  rw[hi]at hq;rw[decide_eq_false hf];nofun;exact hq
 have Be:n1=m1:=by rw[hf,q1]at q2;exact(dg q2).symm
 subst Be;rw[decide_eq_true hf];nofun;refine⟨g.1,g.2.1,g.1,g.2.1,g.2.2,g.2.2,n1,n1,n1,rfl,by lia,by lia,by lia,by lia,λ_=>⟨tS,tS,?_⟩,λz=>absurd hf z⟩;nofun;show zl _ (bj (cz g g)) (bj g) _ _;refine W7 (by decide) ?_;by_cases hc:cz g g=g
 rotate_left
 ·have hi:gk g=false:=by simp[gk,fG,hf,hc]
  rw[hi]at hq;rw[decide_eq_false hc];nofun;exact hq
 rw[decide_eq_true hc];nofun;refine⟨g.1,g.2.1,g.2.2,n1,rfl,tS,by lia,?_⟩;nofun;have hi:gk g=!j6 g.2.2:=by simp[gk,fG,hf,hc]
 rw[hi]at hq;exact hq
def Kg(w:List Int):D:=.tup [.str "open",pU w]
def wO(F:CL.Fd Gr)(S:af)(q:D->af->Prop):Prop:=(∀w,mH F=some w->q (Kg w) S)/\(mH F=none->∀p,S p=none->q (.tup [.str "ends",.ref p]) (up S p (.lst ((F.map bS).map bj))))
inductive zmf (ds:List D)(S:af)(q:D->af->Prop)(_:Addr->Prop):Prop where
 |mk (pp:Addr) (F:CL.Fd Gr) (ar:Str->Option Nat) (_:ds=[.ref pp]) (_:S pp=some (.lst (F.map dE))) (_:F.length<=40) (_:(∀p∈F,Gd ar p.1)) (_:wO F S q)
def Kh :aL:=pT zmf
theorem zks{k:Nat}(h:az K mg "telling_of" n_ ["pairs"])(G:Gs K mg)(aar:av P w K mg base k "is_idle_round" ["graph"] Kf):av P w K mg base (k+1) "telling_of" ["pairs"] Kh:=show _ by
 refine h.pT Au (by rintro ds S q qx ⟨_,_,_,e,_⟩;rw[e];rfl) λf cdv A outer s0 H E ds S q qx hr hA=>?_;obtain⟨pp,F,ar,rfl,hS,hl,hgd,hy,hn⟩:=hA;refine⟨_,(au (e_ vG rfl (jg (aa 0)) (sE rfl (jV (dv (i:=1) Au.nd rfl (Or.inl rfl)) (jV (dv (i:=2) Au.nd rfl (Or.inl rfl)) sD))) (ay (cy (vf (aQ aar hr rfl (ae (aa 1) ah))) (ay (bz (bw (ae bE (ae (aa 2) ah))))) cw)))
 (ay (bz (bw (ae bE (ae (k9 (cA:=ao n_) (N:=["pairs","graph","way"]) (M:=[]) (js:=[]) ⟨rfl,by cbv,by cbv,by cbv,by cbv,by cbv⟩ (by cbv) (by cbv) rfl (jg (aa 0)) (λ_ _ _ _ _=>fD) (λ_ _ _ _ _=>(aA aO aP (aa 0) aj (λ_ _=>rfl)))) ah)))))),?_⟩
 nofun;refine⟨λj σ S'=>lq λ(x1 x2:Option D)=>σ=[some (.ref pp),x1,x2]/\S'=S/\∀i p,i<j->F[i]?=some p->gk p.1=false,⟨_,_,rfl,rfl,λi p hi=>by lia⟩,λj σ S' ⟨_,_,_,e,_⟩=>by rw[e];exact hS,?_,?_⟩
 ·rintro j d σ S' hd ⟨x1,x2,rfl,rfl,hb⟩;rw[a7]at hd;obtain⟨⟨g,wy⟩,hp,rfl⟩:=dz.mp hd;have hg:=hgd _ (c8 hp);unfold dE;nofun;refine⟨ar,g,rfl,hg,?_⟩;cases hi:gk g with
  |true =>
   nofun;refine⟨S',Sub.refl _,hy wy ?_⟩;unfold mH;have:F.find? (λp=>gk p.1)=some (g,wy):=by
    rw[List.find?_eq_some_iff_getElem];obtain⟨hj,ej⟩:=b4.mp hp;refine⟨hi,j,hj,ej,λi hij=>?_⟩;have:=hb i F[i] hij (aU (by lia));simpa using this
   rw[this];rfl
  |false =>
   nofun;refine⟨_,_,rfl,rfl,λi p hij sZ=>?_⟩;by_cases e:i=j
   ·subst e;rw[hp]at sZ;cases sZ;exact hi
   ·exact hb i p (by lia) sZ
 rintro σ S' ⟨x1,x2,rfl,rfl,hb⟩;have htn:mH F=none:=by
  unfold mH;rw[NZ.mpr λp hp=>?_]
  ·rfl
  ·obtain⟨i,hi,rfl⟩:=jI hp;rw[hb i F[i] (by rw[aG];exact hi) (aU hi)];decide
 nofun;refine jr (λi=>bj ((F.getD i (("","",[]),[])).1)) (by rw[aG];lia) hS ?_ ?_
 ·intro i d hd P hP;rw[a7]at hd;obtain⟨p,hp,rfl⟩:=dz.mp hd;rw[bR,hp]at hP;unfold dE;nofun;exact hP
 have el:((aZ (F.map dE).length).map λi=>bj ((F.getD i (("","",[]),[])).1))=(F.map bS).map bj:=by
  rw[aG,fY];apply l7;intro i;rw[a7,a7];by_cases hi:i<F.length
  ·rw[lW hi,aU hi];simp[bR,hi]
  ·rw[dQ (by simpa using hi),dQ (by lia)];rfl
 rw[el];intro p1 hp1;nofun;exact⟨_,Sub.refl _,hn htn p1 hp1⟩
abbrev cG(prog:List Er):List Gr:=cK aS Sy.bases prog
structure Bg(ar:Str->Option Nat)(prog:List Er):Prop where
 gr:∀e∈prog,A9 e
 len:(cG prog).length<=1000
 gd:∀g∈cG prog,Gd ar g
theorem zqc(p:Str)(a:Sy)(k:List Str):0<=aS p a k/\aS p a k<=2:=by
 cases a<;>simp only[aS]<;>(repeat split)<;>decide
theorem aas{prog:List Er}{g:Gr}:g∈cG prog↔∃e∈prog,g∈((e.body.bN Sy.bases []).map (dw aS e)).flatten:=by
 unfold cG cK;rw[DO];constructor
 ·rintro⟨l,hl,hg⟩;obtain⟨e,he,rfl⟩:=bO.mp hl;exact⟨e,he,hg⟩
 ·rintro⟨e,he,hg⟩;exact⟨_,lZ he,hg⟩
theorem aat{prog:List Er}(nd:(prog.map Er.name).Nodup){e:Er}(he:e∈prog):eV prog e.name=some e.ps.length:=by
 obtain⟨i,hi,rfl⟩:=jI he;exact sT nd (i:=i) (by rw[a7,aU hi];rfl) (by rw[a7,aU hi];rfl)
theorem Pg.gd{prog:List Er}(h:Pg prog):∀g∈cG prog,Gd (eV prog) g/\W_ (prog.map Er.name) g:=show _ by
 intro g hg;obtain⟨e,he,hg⟩:=aas.mp hg;obtain⟨l,hl,hg⟩:=DO.mp hg;obtain⟨⟨s,k⟩,hs,rfl⟩:=bO.mp hl;have hm:s∈e.body.pre:=by rw[<-Sy.iJ Sy.bases e.body []];exact lZ (f:=bS) hs
 have hw:=(h.body e he).wf;have hws:=Sy.j0 hw s hm;obtain⟨p1,p4,_,_⟩:=h.ps e he;cases s with
 |send x as =>
  simp only[dw,ft]at hg;subst hg;simp only[Sy.wf]at hws;refine⟨⟨e.ps.length,as.length,aat h.nd he,hws.1,p1,hws.2.1,p4,hws.2.2.1,by simp,λr hr=>?_,λr hr x hx=>?_⟩,lZ he,IU hws.1⟩
  ·obtain⟨p,_,rfl⟩:=bO.mp hr;simp
  ·obtain⟨p,_,rfl⟩:=bO.mp hr;obtain⟨a,_,rfl⟩:=bO.mp hx;exact zqc p a k
 |_=>simp[dw]at hg
theorem Pg.aau{prog:List Er}(h:Pg prog):∀e∈prog,A9 e:=λe he=>by
 have hb:=h.body e he;refine⟨by have:=hb.size;lia,λp hp=>⟨?_,?_⟩,by have:=(h.ps e he).2.1;lia⟩
 ·have:=HW WB 12 e.body [] hb.deep p hp;simp only[cm]at this;lia
 ·have hm:p.1∈e.body.pre:=show _ by rw[<-Sy.iJ Sy.bases e.body []];exact lZ (f:=bS) hp
  have:=Wz (Sy.j0 hb.wf p.1 hm);lia
theorem Pg.ok{prog:List Er}(h:Pg prog):Bg (eV prog) prog:=by
 refine⟨h.aau,?_,λg hg=>(h.gd g hg).1⟩;have h1:=HV (told:=aS) (ext:=Sy.bases) (λe he=>(h.body e he).sends);have h2:=h.len;have h3:prog.length*12<=12*12:=N0 _ h2;show(cK aS Sy.bases prog).length<=1000;lia
inductive ztp(adr:Rf->Addr)(ds:List D)(S:af)(q:List D->Prop)(qx:Addr->Prop):Prop where
 |mk (pr:Addr) (prog:List Er) (ar:Str->Option Nat) (_:ds=[.ref pr]) (_:S pr=some (.lst (prog.map Er.d))) (_:Bg ar prog) (_:(∀F,iL (fc (cG prog))=some F->q (F.map dE))) (_:(iL (fc (cG prog))=none->qx (adr .many)))
def Ki(adr:Rf->Addr):aL:=pS (ztp adr)
theorem zo7{k:Nat}(h:az K mg "closure" qa ["program"])(G:Gs K mg)(Bh:av P w K mg base k "graphs" ["program"] J6)(Bi:av P w K mg base k "closure_of" ["numbered"] (Kc adr)) :
 av P w K mg base (k+1) "closure" ["program"] (Ki adr):=show _ by
 refine h.pS Yn (by rintro ds S q qx ⟨_,_,_,e,_⟩;rw[e];rfl) λf cdv A outer s0 H E ds S q qx hr hA=>?_;obtain⟨pr,prog,ar,rfl,hS,hok,hy,hn⟩:=hA;refine⟨_,(ay (bz (aQ Bi hr rfl (ae (WX rfl G.list rfl G.enumerate rfl (ae (aQ Bh hr rfl (ae (aa 0) ah)) ah)) ah)))),?_⟩;have hl:=hok.len;nofun;refine⟨pr,prog,rfl,hS,hok.gr,by show(cG prog).length<=100000;lia,?_⟩;intro pg hpg;have g1:up S pg (.lst ((cG prog).map bj)) pg=some (.lst ((cG prog).map bj)):=ax;have s1:Sub S (up S pg (.lst ((cG prog).map bj))):=(Sub.refl S).up hpg;generalize up S pg (.lst ((cG prog).map bj))=S1 at g1 s1 ⊢;nofun;refine Aa (λi=>(fF ((cG prog).map bj)).getD i .non) (by rw[tm,aG];lia) (λS hs=>hs _ _ g1) ?_ ?_
 ·intro i d S2 hd hs;refine zU λP hP=>?_;rw[bR,hd]at hP;nofun;exact hP _ (Sub.refl _)
 intro S2 s2;have el:((aZ (fF ((cG prog).map bj)).length).map λi=>(fF ((cG prog).map bj)).getD i .non)=(fc (cG prog)).map kY:=by
  rw[<-W8];apply l7;intro i;rw[a7];by_cases hi:i<(fF ((cG prog).map bj)).length
  ·rw[lW hi,aU hi];simp[bR,hi]
  ·rw[dQ (by simpa using hi),dQ (by lia)];rfl
 rw[el];intro pn hpn;have s3:Sub S (up S2 pn (.lst ((fc (cG prog)).map kY))):=(s1.trans s2).up hpn;have g3:up S2 pn (.lst ((fc (cG prog)).map kY)) pn=_:=ax;generalize up S2 pn (.lst ((fc (cG prog)).map kY))=S3 at s3 g3 ⊢;nofun;refine⟨pn,_,ar,rfl,g3,by rw[W9];exact hl,λp hp=>hok.gd _ (IT hp),λF eF=>?_,λeF a=>⟨s3,hn eF⟩⟩;intro pf hpf;nofun;exact⟨pf,_,rfl,s3.free hpf,s3.up hpf,ax,hy F eF⟩
theorem aav{ar:Str->Option Nat}{nb:List (Int×Gr)}{F:CL.Fd Gr}(h:∀p∈nb,Gd ar p.2)(e:iL nb=some F):∀p∈F,Gd ar p.1:=λp hp =>
 CL.WE (Pr:=Gd ar) h (λa ha p hp hf=>ha.cmp (h p hp) (by simpa[fG]using hf)) e p.1 (lZ (f:=bS) hp)
theorem aaw{F:CL.Fd Gr}{S S1:af}{q:D->af->Prop}(h:wO F S q)(hs:Sub S S1):wO F S1 λd T=>∃T',Sub T' T/\q d T' :=
 ⟨λw e=>⟨S,hs,h.1 w e⟩,λe p hp=>⟨_,hs.upd,h.2 e p (hs.free hp)⟩⟩
inductive aax(adr:Rf->Addr)(ds:List D)(S:af)(q:D->af->Prop)(qx:Addr->Prop):Prop where
 |mk (pr:Addr) (prog:List Er) (ar:Str->Option Nat) (_:ds=[.ref pr]) (_:S pr=some (.lst (prog.map Er.d))) (_:Bg ar prog) (_:(∀F,iL (fc (cG prog))=some F->wO F S q)) (_:(iL (fc (cG prog))=none->qx (adr .many)))
def Kj(adr:Rf->Addr):aL:=pT (aax adr)
theorem zra{k:Nat}(h:az K mg "judged" qb ["program"])(G:Gs K mg)(Bj:av P w K mg base k "closure" ["program"] (Ki adr))(Bl:av P w K mg base k "telling_of" ["pairs"] Kh) :
 av P w K mg base (k+1) "judged" ["program"] (Kj adr):=show _ by
 refine h.pT Yo (by rintro ds S q qx ⟨_,_,_,e,_⟩;rw[e];rfl) λf cdv A outer s0 H E ds S q qx hr hA=>?_;obtain⟨pr,prog,ar,rfl,hS,hok,hy,hn⟩:=hA;refine⟨_,(ay (bz (aQ Bl hr rfl (ae (aQ Bj hr rfl (ae (aa 0) ah)) ah)))),?_⟩;nofun;refine⟨pr,prog,ar,rfl,hS,hok,λF eF=>?_,λeF a=>⟨Sub.refl _,hn eF⟩⟩;intro pf hpf;have hc:=CL.H_ eF;nofun;exact⟨pf,F,ar,rfl,ax,hc.ok.len,aav (λp hp=>hok.gd _ (IT hp)) eF,aaw (hy F eF) ((Sub.refl S).up hpf)⟩
inductive zpv (ds:List D)(S:af)(q:List D->Prop):Prop where
 |mk (pr tr:Addr) (prog:List Er) (x:Str) (ts:List D) (mo:Int) (r':Rn) (_:ds=[.ref pr,.str x,.ref tr,.int mo]) (_:S pr=some (.lst (prog.map Er.d))) (_:S tr=some (.lst ts)) (_:Runs prog x ts mo r') (_:q r'.be)
def Kk :aL:=nI zpv
theorem zo6{k:Nat}(h:az K mg "entries" qg ["program","name","trees","most"])(G:Gs K mg)(T:iO K mg CR)(aay:av P w K mg base k "ended_run" ["program","name","trees","most"] (J0 CR)):av P w K mg base (k+1) "entries" ["program","name","trees","most"] Kk:=show _ by
 refine h.nI Ys (by rintro ds S Q ⟨pr,tr,prog,x,ts,mo,r',e,_⟩;rw[e];rfl) λf cdv A outer s0 H E ds S q hr hA=>?_;obtain⟨pr,tr,prog,x,ts,mo,r',rfl,hS,hT,hR,hq⟩:=hA;refine⟨_,(ay (bz (cU T.cl T.n_begun (aQ aay hr rfl (ae (aa 0) (ae (aa 1) (ae (aa 2) (ae (aa 3) ah))))) rfl))),?_⟩;nofun;refine⟨pr,tr,prog,x,ts,mo,r',rfl,hS,hT,hR,λa A1 S1 r1=>?_⟩;nofun;exact⟨_,_,rfl,r1.f1,r1.sub,r1.be,hq⟩
structure En where
 pr:D
 nu:D
 nm:Str
 ts:List ak
def En.d(e:En):D:=.tup [e.pr,e.nu,.str e.nm,.tup (e.ts.map ak.d)]
inductive Rs(α:Type)
 |val (a:α) (be:List En)
 |grown (be:List En)
 |gO (be:List En)
def Rs.be{α:Type}:Rs α->List En
 | .val _ be=>be
 | .grown be=>be
 | .gO be=>be
def Rs.bind{α β:Type}(r:Rs α)(f:α->List En->Rs β):Rs β:=match r with
 | .val a be=>f a be
 | .grown be=>.grown be
 | .gO be=>.gO be
abbrev Call:=D->D->Str->List ak->List En->Rs ak
def tU(t1 t2:ak)(be:List En):Rs ak:=if(ak.pair t1 t2).size<=60 then .val (.pair t1 t2) be else .grown be
mutual
def ev(call:Call)(zs:List Str)(ts:List ak)(p:Int):Sy->Int->List En->Rs ak
 | .name x,_,be=>.val ((ts[zs.idxOf x]?).getD .aI) be
 | .aI,_,be=>.val .aI be
 | .pair a b,n,be=>(ev call zs ts p a n be).bind λt1 iR=>(ev call zs ts p b (n+a.sends) iR).bind λt2 Bm=>tU t1 t2 Bm
 | .left a,n,be=>(ev call zs ts p a n be).bind λt iR=>.val (gN true t) iR
 | .right a,n,be=>(ev call zs ts p a n be).bind λt iR=>.val (gN false t) iR
 | .fork a b c,n,be=>(ev call zs ts p a n be).bind λt iR=>match t with
  | .aI=>ev call zs ts p c (n+a.sends+b.sends) iR
  | .pair _ _=>ev call zs ts p b (n+a.sends) iR
 | .send x as,n,be=>(evs call zs ts p as (n+1) be).bind λus iR=>call (.int p) (.int n) x us iR
def evs(call:Call)(zs:List Str)(ts:List ak)(p:Int):List Sy->Int->List En->Rs (List ak)
 |[],_,be=>.val [] be
 |a::as,n,be=>(ev call zs ts p a n be).bind λt iR=>(evs call zs ts p as (n+a.sends) iR).bind λus Bm=>.val (t::us) Bm
end
structure Bk where
 zs:List Str
 body:Sy
 num:Int
def enter(B:Str->Bk)(mo:Nat):Nat->Call
 |0,_,_,_,_,be=>.gO be
 |n+1,p,l,x,ts,be=>if be.length<mo then ev (enter B mo n) (B x).zs ts be.length (B x).body (B x).num (be++[⟨p,l,x,ts⟩]) else .gO be
mutual
def cN:Sy->Int->D
 | .name x,_=>.tup [.str "name",.str x]
 | .aI,_=>.tup [.str "bud"]
 | .pair a b,n=>.tup [.str "pair",cN a n,cN b (n+a.sends)]
 | .left a,n=>.tup [.str "left",cN a n]
 | .right a,n=>.tup [.str "right",cN a n]
 | .fork a b c,n=>.tup [.str "fork",cN a n,cN b (n+a.sends),cN c (n+a.sends+b.sends)]
 | .send x as,n=>.tup [.str "send",.str x,.tup (ic as (n+1)),.int n]
def ic:List Sy->Int->List D
 |[],_=>[]
 |a::as,n=>cN a n::ic as (n+a.sends)
end
theorem oI:∀(as:List Sy) (n:Int),(ic as n).length=as.length
 |[],_=>rfl
 |a::as,n=>by rw[ic,bp,bp,oI as]
theorem lH(a:List D×Int)(xs ys:List Sy):d6 a (xs++ys)=(d6 a xs).bind λb=>d6 b ys:=by
 induction xs generalizing a with
 |nil=>rfl
 |cons x xs ih =>
  rw[qT,d6,d6];cases iQ a x with
  |none=>rfl
  |some b=>exact ih b
theorem Kl(a b:Sy):(Sy.pair a b).sends=a.sends+b.sends:=by rw[Sy.iH];simp only[Sy.parts,Sy.gi];simp[Sy.bT,Sy.a9]
theorem Km(a:Sy):(Sy.left a).sends=a.sends:=by rw[Sy.iH];simp only[Sy.parts,Sy.gi];simp[Sy.bT,Sy.a9]
theorem Kn(a:Sy):(Sy.right a).sends=a.sends:=by rw[Sy.iH];simp only[Sy.parts,Sy.gi];simp[Sy.bT,Sy.a9]
theorem Ko(a b c:Sy):(Sy.fork a b c).sends=a.sends+b.sends+c.sends:=by rw[Sy.iH];simp only[Sy.parts,Sy.gi];simp[Sy.bT,Sy.a9];lia
theorem Kq(x:Str)(as:List Sy):(Sy.send x as).sends=1+Sy.bT as:=by rw[Sy.iH];rfl
theorem aaz(s:Sy):mP s.pre=(s.sends:Nat):=by
 unfold mP Sy.sends;exact congrArg (λn:Nat=>(n:Int)) (congrArg ki (List.filter_congr λa _=>by cases a<;>rfl))
mutual
theorem lJ:∀(s:Sy) (st:List D) (l:Int),d6 (st,l) s.pre.reverse=some (cN s (l-s.sends)::st,l-s.sends)
 | .name x,st,l=>by simp[Sy.pre,d6,iQ,cN,Sy.sends]
 | .aI,st,l=>by simp[Sy.pre,d6,iQ,cN,Sy.sends]
 | .pair a b,st,l=>by
  have e1:l-(a.sends:Int)-b.sends+a.sends=l-b.sends:=show _ by lia
  have e2:l-(b.sends:Int)-a.sends=l-((a.sends+b.sends:Nat):Int):=by lia
  rw[Kl,Sy.pre,l8,rk,lH,lH,lJ b];simp only[kq];rw[lJ a];simp only[kq,d6,iQ,cN];rw[e2];rw[show l-((a.sends+b.sends:Nat):Int)+a.sends=l-b.sends by lia]
 | .left a,st,l=>by
  rw[Km,Sy.pre,l8,lH,lJ a];simp only[kq,d6,iQ,cN]
 | .right a,st,l=>by
  rw[Kn,Sy.pre,l8,lH,lJ a];simp only[kq,d6,iQ,cN]
 | .fork a b c,st,l=>by
  have e2:l-(c.sends:Int)-b.sends-a.sends=l-((a.sends+b.sends+c.sends:Nat):Int):=by lia
  rw[Ko,Sy.pre,l8,rk,rk,lH,lH,lH,lJ c];simp only[kq];rw[lJ b];simp only[kq];rw[lJ a];simp only[kq,d6,iQ,cN];rw[e2,show l-((a.sends+b.sends+c.sends:Nat):Int)+a.sends=l-c.sends-b.sends by lia,show l-(c.sends:Int)-b.sends+b.sends=l-c.sends by lia]
 | .send x as,st,l=>by
  rw[Kq,Sy.pre,l8,lH,Kr as];simp only[kq,d6,iQ,cN];have hl:as.length<=(ic as (l-(Sy.bT as:Nat))++st).length:=by rw[aR,oI];lia
  rw[if_pos hl,show l-((1+Sy.bT as:Nat):Int)+1=l-(Sy.bT as:Nat) by lia,show l-((Sy.bT as:Nat):Int)-1=l-((1+Sy.bT as:Nat):Int) by lia];rw[show as.length=(ic as (l-(Sy.bT as:Nat))).length from(oI _ _).symm,List.take_left,List.drop_left]
theorem Kr:∀(as:List Sy) (st:List D) (l:Int),d6 (st,l) (Sy.a9 as).reverse=some (ic as (l-(Sy.bT as:Nat))++st,l-(Sy.bT as:Nat))
 |[],st,l=>by simp[Sy.a9,d6,ic,Sy.bT]
 |a::as,st,l=>by
  rw[Sy.gi,Sy.a9,rk,lH,Kr as];simp only[kq];rw[lJ a];simp only[ic];rw[show l-((Sy.bT as:Nat):Int)-a.sends=l-((a.sends+Sy.bT as:Nat):Int) by lia,show l-((a.sends+Sy.bT as:Nat):Int)+a.sends=l-(Sy.bT as:Nat) by lia];rfl
end
structure Ext{α:Type}(mo:Nat)(be:List En)(r:Rs α)(P:α->Prop):Prop where
 pre:be <+: r.be
 le:r.be.length<=mo
 val:∀a b,r=.val a b->P a
theorem Ext.bind{α β:Type}{mo:Nat}{be:List En}{r:Rs α}{P:α->Prop}{P':β->Prop}{f:α->List En->Rs β}(h:Ext mo be r P)(hf:∀a b,P a->be <+: b->b.length<=mo->Ext mo b (f a b) P'):Ext mo be (r.bind f) P':=show _ by
 cases r with
 |val a b =>
  have g:=hf a b (h.val a b rfl) h.pre h.le;exact⟨h.pre.trans g.pre,g.le,g.val⟩
 |grown b=>exact⟨h.pre,h.le,λ_ _ e=>nomatch e⟩
 |gO b=>exact⟨h.pre,h.le,λ_ _ e=>nomatch e⟩
theorem Ext.one{α:Type}{mo:Nat}{be:List En}{a:α}{P:α->Prop}(hl:be.length<=mo)(h:P a):Ext mo be (.val a be) P:=⟨ku _,hl,λ_ _ e=>by cases e;exact h⟩
abbrev Sz(t:ak):Prop:=t.size<=60
theorem Ks{l:Bool}{t:ak}(h:Sz t):Sz (gN l t):=by
 cases t with
 |aI=>exact h
 |pair a b =>
  have:a.size+b.size+1<=60:=by simp only[Sz,ak.size]at h;lia
  cases l
  ·show b.size<=60;lia
  ·show a.size<=60;lia
def tV(mo:Nat)(call:Call):Prop:=∀p l x us be,be.length<=mo->(∀u∈us,Sz u)->Ext mo be (call p l x us be) Sz
section
variable{call:Call}{zs:List Str}{ts:List ak}{p:Int}{mo:Nat}
theorem aaA{t1 t2:ak}{be:List En}(hl:be.length<=mo):Ext mo be (tU t1 t2 be) Sz:=by
 unfold tU;by_cases c:(ak.pair t1 t2).size<=60
 ·rw[if_pos c];exact .one hl c
 ·rw[if_neg c];exact⟨ku _,hl,λ_ _ e=>nomatch e⟩
mutual
theorem fe(hc:tV mo call)(ht:∀t∈ts,Sz t):∀(s:Sy) (n:Int) (be:List En),be.length<=mo->Ext mo be (ev call zs ts p s n be) Sz
 | .name x,n,be,hl=>by
  rw[ev];refine .one hl ?_;cases e:ts[zs.idxOf x]? with
  |none=>exact bV _
  |some t=>exact ht t (c8 e)
 | .aI,n,be,hl=>by rw[ev];exact .one hl (bV _)
 | .pair a b,n,be,hl=>by
  rw[ev];exact(fe hc ht a n be hl).bind λt1 b1 _ _ l1=>(fe hc ht b _ b1 l1).bind λt2 b2 _ _ l2=>aaA l2
 | .left a,n,be,hl=>by
  rw[ev];exact(fe hc ht a n be hl).bind λt b1 h _ l1=>.one l1 (Ks h)
 | .right a,n,be,hl=>by
  rw[ev];exact(fe hc ht a n be hl).bind λt b1 h _ l1=>.one l1 (Ks h)
 | .fork a b c,n,be,hl=>by
  rw[ev];refine(fe hc ht a n be hl).bind λt b1 h _ l1=>?_;cases t with
  |aI=>exact fe hc ht c _ b1 l1
  |pair u v=>exact fe hc ht b _ b1 l1
 | .send x as,n,be,hl=>by
  rw[ev];exact(wQ hc ht as _ be hl).bind λus b1 h _ l1=>hc _ _ _ _ _ l1 h.1
theorem wQ(hc:tV mo call)(ht:∀t∈ts,Sz t):∀(as:List Sy) (n:Int) (be:List En),be.length<=mo->Ext mo be (evs call zs ts p as n be) (λus=>(∀u∈us,Sz u)/\us.length=as.length)
 |[],n,be,hl=>by rw[evs];exact .one hl ⟨λ_ h=>by simp at h,rfl⟩
 |a::as,n,be,hl=>by
  rw[evs];refine(fe hc ht a n be hl).bind λt b1 h _ l1=>(wQ hc ht as _ b1 l1).bind λus b2 h2 _ l2=>.one l2 ⟨λu hu=>?_,by simp[h2.2]⟩;rcases bJ.mp hu with rfl|hu
  ·exact h
  ·exact h2.1 u hu
end
end
theorem oJ(B:Str->Bk)(mo:Nat):∀n,tV mo (enter B mo n)
 |0,p,l,x,us,be,hl,hs=>⟨ku _,hl,λ_ _ e=>nomatch e⟩
 |n+1,p,l,x,us,be,hl,hs=>by
  rw[enter];by_cases c:be.length<mo
  ·rw[if_pos c];have g:=fe (zs:=(B x).zs) (p:=be.length) (oJ B mo n) hs (B x).body (B x).num (be++[⟨p,l,x,us⟩]) (by rw[aR];exact c);exact⟨(DV _ _).trans g.pre,g.le,g.val⟩
  ·rw[if_neg c];exact⟨ku _,hl,λ_ _ e=>nomatch e⟩
section
variable{c c':Call}{zs:List Str}{ts:List ak}{p:Int}{mo mo' f:Nat}
theorem Ext.len{α:Type}{mo:Nat}{be:List En}{r:Rs α}{P:α->Prop}(h:Ext mo be r P){a:α}{b:List En}(e:r=.val a b):be.length<=b.length/\b.length<=mo/\P a/\be <+: b:=by
 subst e;exact⟨h.pre.length_le,h.le,h.val _ _ rfl,h.pre⟩
end
abbrev tk(b:Bool)(s:D)(p:Int):D:=.tup [.bl b,s,.int p]
section
variable(pa bo:List (Key×D))(mo:Nat)
abbrev fV(be:List En)(ps wa:List D):Rn:=⟨pa,bo,mo,be.map En.d,ps,wa,.non⟩
def Fi(r:Rn)(X:List En×D):Prop:=∃n pe wa,ib n r ⟨pa,bo,mo,X.1.map En.d,pe,wa,X.2⟩
def After{α:Type}(g:α->List D)(o:Rs α)(ps wa:List D)(X:List En×D):Prop:=match o with
 | .val a be=>Fi pa bo mo (fV pa bo mo be ps (wa++g a)) X
 | .grown be=>X=(be,.tup [.str "grown",.int be.length])
 | .gO be=>X=(be,.tup [.str "going",.int mo])
abbrev g1(t:ak):List D:=[t.d]
abbrev gs(ts:List ak):List D:=ts.map ak.d
end
section
variable{pa bo:List (Key×D)}{mo:Nat}{X:List En×D}{ps wa:List D}
theorem After.bind{α β:Type}{g:α->List D}{g':β->List D}{r:Rs α}{f:α->List En->Rs β}{ps' hZ:List D}(h:After pa bo mo g' (r.bind f) ps wa X)(hf:∀a be,r=.val a be->After pa bo mo g' (f a be) ps wa X->Fi pa bo mo (fV pa bo mo be ps' (hZ++g a)) X):After pa bo mo g r ps' hZ X:=show _ by
 cases r with
 |val a be=>exact hf a be rfl h
 |grown be=>exact h
 |gO be=>exact h
structure lK(be:List En)(ps wa:List D):Prop where
 be:be.length<=900000
 ps:ps.length<=900000
 wa:wa.length<=900000
theorem lK.sm{be:List En}(h:lK be ps wa):Sm (fV pa bo mo be ps wa):=⟨by show(be.map En.d).length<=_;rw[aG];exact h.be,h.ps,h.wa⟩
theorem oK{be:List En}{s:D}{qs:List D}{p:Int}(hp:ps.length<=900000)(hq:jy s qs)(hl:qs.length<=100)(h:Fi pa bo mo (fV pa bo mo be (ps++[tk true s p]++fU p qs) wa) X):Fi pa bo mo (fV pa bo mo be (ps++[tk false s p]) wa) X:=by
 obtain⟨n,pe,w,g⟩:=h;exact⟨n+1,pe,w,.prep hp rfl rfl hq hl g⟩
theorem lL{be:List En}{s:D}{p:Int}{r1:Rn}(hl:lK be ps wa)(hf:Fin (fV pa bo mo be ps wa) s p r1)(h:Fi pa bo mo r1 X):Fi pa bo mo (fV pa bo mo be (ps++[tk true s p]) wa) X:=by
 obtain⟨n,pe,w,g⟩:=h;exact⟨n+1,pe,w,.JY (ps:=ps) hl.sm rfl rfl hf g⟩
theorem Kt{be:List En}{ds:List D}(e:X=(be,.tup ds)):Fi pa bo mo ⟨pa,bo,mo,be.map En.d,ps,wa,.tup ds⟩ X:=by
 subst e;exact⟨0,ps,wa,.grown rfl⟩
theorem qM(p:Int)(d:D)(ds:List D):fU p (d::ds)=fU p ds++[tk false d p]:=by
 unfold fU;rw[l8,da];rfl
structure At(pa:List (Key×D))(zs:List Str)(ts:List ak)(p:Nat)(be:List En):Prop where
 ex:∃e,be[p]?=some e/\e.ts=ts/\du pa (.inr e.nm)=some (.tup (zs.map D.str))
 len:ts.length=zs.length
 sz:∀t∈ts,Sz t
theorem mQ{α:Type}{a b:List α}{i:Nat}{v:α}(h:a <+: b)(e:a[i]?=some v):b[i]?=some v:=by
 obtain⟨c,rfl⟩:=h;rw[lR (b4.mp e).1];exact e
theorem At.mono{zs:List Str}{ts:List ak}{p:Nat}{be iS:List En}(h:At pa zs ts p be)(g:be <+: iS):At pa zs ts p iS:=by
 obtain⟨e,h1,h2,h3⟩:=h.ex;exact⟨⟨e,mQ g h1,h2,h3⟩,h.len,h.sz⟩
theorem Ku(x:Str):∀zs:List Str,x∉zs.take (zs.idxOf x)
 |[]=>by simp
 |z::zs=>by
  rw[xW];by_cases e:z=x
  ·simp[e]
  ·have e':(z==x)=false:=by simpa using e
   rw[e',cond_false,List.take_succ_cons];intro h;rcases bJ.mp h with h|h
   ·exact e h.symm
   ·exact Ku x zs h
theorem Kv{x:Str}:∀{zs:List Str},x∈zs->zs[zs.idxOf x]?=some x
 |z::zs,h=>by
  rw[xW];by_cases e:z=x
  ·simp[e]
  ·have e':(z==x)=false:=by simpa using e
   rw[e',cond_false,List.getElem?_cons_succ];rcases bJ.mp h with h|h
   ·exact absurd h.symm e
   ·exact Kv h
theorem wR(s:Sy):1<=s.pre.length:=by rw[Sy.pO];simp
theorem Bn:∀as:List Sy,as.length<=(Sy.a9 as).length
 |[]=>bV _
 |a::as=>by
  have:=Bn as;have:=wR a;simp only[Sy.a9,aR,bp];lia
def Rm(mo M:Nat)(z:Nat)(be:List En)(ps wa:List D):Prop:=ps.length+wa.length+z+(mo-be.length)*M<=800000
theorem Rm.less{M z z':Nat}{be iS:List En}{ps' hZ:List D}(h:Rm mo M z be ps wa)(hb:be <+: iS)(hz:ps'.length+hZ.length+z'<=ps.length+wa.length+z):Rm mo M z' iS ps' hZ:=by
 unfold Rm at h ⊢;have:=hb.length_le;have:(mo-iS.length)*M<=(mo-be.length)*M:=N0 _ (by lia);lia
theorem Rm.low{M z:Nat}{be:List En}(h:Rm mo M z be ps wa)(hb:be.length<=mo)(hm:mo<=1000):lK be ps wa:=by
 unfold Rm at h;exact⟨by lia,by lia,by lia⟩
structure Bo(ar:Str->Option Nat)(pa bo:List (Key×D))(mo M f:Nat)(call:Call):Prop where
 e:tV mo call
 stop:∀p l x us (be:List En),mo<=be.length->call p l x us be=.gO be
 new:∀p l x us (be:List En) ps wa X,be.length<mo->f<=be.length->ar x=some us.length->(∀u∈us,Sz u)->Rm mo M 0 be ps wa->After pa bo mo g1 (call p l x us be) ps wa X ->
  ∃body,du bo (.inr x)=some body/\Fi pa bo mo (fV pa bo mo (be++[⟨p,l,x,us⟩]) (ps++[tk false body be.length]) wa) X
variable{ar:Str->Option Nat}{M f:Nat}{call:Call}{zs:List Str}{ts:List ak}{p:Nat}
theorem Kw(a b:D)(xs:List D):xs++[a]++[b]=xs++[a,b]:=by rw[i6];rfl
mutual
theorem lM(C:Bo ar pa bo mo M f call)(hmo:mo<=1000):∀(s:Sy) (n:Int) (be:List En) (ps wa:List D) (X:List En×D),s.wf ar zs->At pa zs ts p be->be.length<=mo->f<=be.length->Rm mo M (2*s.pre.length) be ps wa ->
 After pa bo mo g1 (ev call zs ts p s n be) ps wa X->Fi pa bo mo (fV pa bo mo be (ps++[tk false (cN s n) p]) wa) X
 | .name x,n,be,ps,wa,X,hw,hA,hl,hf,hr,h=>by
  rw[ev]at h;rw[cN];have low:=hr.low hl hmo;obtain⟨e,h1,h2,h3⟩:=hA.ex;have hx:=Kv hw;have hj:zs.idxOf x<ts.length:=show _ by rw[hA.len];exact(b4.mp hx).1
  have hget:ts[zs.idxOf x]?=some ts[zs.idxOf x]:=aU hj;have h:Fi pa bo mo (fV pa bo mo be ps (wa++[((ts[zs.idxOf x]?).getD .aI).d])) X:=h;rw[hget,Dm]at h;refine oK low.ps (.name x) (bV _) ?_;rw[show fU p []=[] from rfl,gP];refine lL low (.name (nm:=e.nm) (pr:=e.pr) (nu:=e.nu) (ts:=ts.map ak.d) (zs:=zs) (j:=zs.idxOf x) (d:=(ts[zs.idxOf x]).d) (fP ?_) h3 hx (Ku x zs) ?_) h
  ·show(be.map En.d)[p]?=_;rw[a7,h1,<-h2];rfl
  ·rw[a7,hget];rfl
 | .aI,n,be,ps,wa,X,hw,hA,hl,hf,hr,h=>by
  rw[ev]at h;rw[cN];have low:=hr.low hl hmo;refine oK low.ps .aI (bV _) ?_;rw[show fU p []=[] from rfl,gP];exact lL low .aI h
 | .pair a b,n,be,ps,wa,X,hw,hA,hl,hf,hr,h=>by
  have xa:=fe (zs:=zs) (p:=p) C.e hA.sz a n be hl;have pa1:=wR a;have pb1:=wR b;have low:=hr.low hl hmo;have ez:(Sy.pair a b).pre.length=1+a.pre.length+b.pre.length:=by simp only[Sy.pre,bp,aR];lia
  rw[ez]at hr;rw[ev]at h;rw[cN];refine oK low.ps (.pair _ _) (show 2<=100 by decide) ?_;rw[qM,qM,show fU p []=[] from rfl,lX,<-i6];refine lM C hmo a n be _ wa X hw.1 hA hl hf (hr.less (ku _) (by simp only[aR,bp,cm];lia)) (h.bind λt1 b1 e1 h1=>?_);have k1:=xa.len e1;have xb:=fe (zs:=zs) (p:=p) C.e hA.sz b (n+a.sends) b1 k1.2.1;refine lM C hmo b _ b1 _ _ X hw.2 (hA.mono k1.2.2.2) k1.2.1 (by lia) (hr.less k1.2.2.2 (by simp only[aR,bp,cm];lia)) (h1.bind λt2 b2 e2 h2=>?_);have k2:=xb.len e2;have jz:lK b2 ps (wa++g1 t1++g1 t2):=(hr.less (ps':=ps) (hZ:=wa++g1 t1++g1 t2) (z':=0) (k1.2.2.2.trans k2.2.2.2) (by simp only[aR,bp,cm];lia)).low k2.2.1 hmo;have s1:t1.size<=60:=k1.2.2.1;have s2:t2.size<=60:=k2.2.2.1;unfold tU at h2;by_cases q:(ak.pair t1 t2).size<=60
  ·rw[if_pos q]at h2;exact lL jz (.pair (xs:=wa) (Kw _ _ _) q) h2
  ·rw[if_neg q]at h2;have h2:X=(b2,.tup [.str "grown",.int b2.length]):=h2;refine lL jz (.grown (xs:=wa) (t1:=t1) (t2:=t2) (Kw _ _ _) (by lia) (by simp only[ak.size];lia)) ?_;refine Kt (be:=b2) ?_;rw[h2];show _=(b2,D.tup [.str "grown",.int ((b2.map En.d).length:Nat)]);rw[aG]
 | .left a,n,be,ps,wa,X,hw,hA,hl,hf,hr,h=>by
  have xa:=fe (zs:=zs) (p:=p) C.e hA.sz a n be hl;have low:=hr.low hl hmo;have ez:(Sy.left a).pre.length=1+a.pre.length:=by simp only[Sy.pre,bp];lia
  rw[ez]at hr;rw[ev]at h;rw[cN];refine oK low.ps (.left _) (show 1<=100 by decide) ?_;rw[qM,show fU p []=[] from rfl,lX];refine lM C hmo a n be _ wa X hw hA hl hf (hr.less (ku _) (by simp only[aR,bp,cm];lia)) (h.bind λt1 b1 e1 h1=>?_);have k1:=xa.len e1;have jz:lK b1 ps (wa++g1 t1):=(hr.less (ps':=ps) (hZ:=wa++g1 t1) (z':=0) k1.2.2.2 (by simp only[aR,bp,cm];lia)).low k1.2.1 hmo;exact lL jz (.left (xs:=wa) rfl) h1
 | .right a,n,be,ps,wa,X,hw,hA,hl,hf,hr,h=>by
  have xa:=fe (zs:=zs) (p:=p) C.e hA.sz a n be hl;have low:=hr.low hl hmo;have ez:(Sy.right a).pre.length=1+a.pre.length:=by simp only[Sy.pre,bp];lia
  rw[ez]at hr;rw[ev]at h;rw[cN];refine oK low.ps (.right _) (show 1<=100 by decide) ?_;rw[qM,show fU p []=[] from rfl,lX];refine lM C hmo a n be _ wa X hw hA hl hf (hr.less (ku _) (by simp only[aR,bp,cm];lia)) (h.bind λt1 b1 e1 h1=>?_);have k1:=xa.len e1;have jz:lK b1 ps (wa++g1 t1):=(hr.less (ps':=ps) (hZ:=wa++g1 t1) (z':=0) k1.2.2.2 (by simp only[aR,bp,cm];lia)).low k1.2.1 hmo;exact lL jz (.right (xs:=wa) rfl) h1
 | .fork a b c,n,be,ps,wa,X,hw,hA,hl,hf,hr,h=>by
  have xa:=fe (zs:=zs) (p:=p) C.e hA.sz a n be hl;have low:=hr.low hl hmo;have ez:(Sy.fork a b c).pre.length=1+a.pre.length+b.pre.length+c.pre.length:=by simp only[Sy.pre,bp,aR];lia
  rw[ez]at hr;rw[ev]at h;rw[cN];refine oK low.ps (.fork _ _ _) (show 1<=100 by decide) ?_;rw[qM,show fU p []=[] from rfl,lX];refine lM C hmo a n be _ wa X hw.1 hA hl hf (hr.less (ku _) (by simp only[aR,bp,cm];lia)) (h.bind λt1 b1 e1 h1=>?_);have k1:=xa.len e1;have jz:lK b1 ps (wa++g1 t1):=(hr.less (ps':=ps) (hZ:=wa++g1 t1) (z':=0) k1.2.2.2 (by simp only[aR,bp,cm];lia)).low k1.2.1 hmo;refine lL jz (.fork (xs:=wa) (t:=t1) rfl) ?_;cases t1 with
  |aI=>exact lM C hmo c _ b1 ps wa X hw.2.2 (hA.mono k1.2.2.2) k1.2.1 (by lia) (hr.less k1.2.2.2 (by lia)) h1
  |pair u v=>exact lM C hmo b _ b1 ps wa X hw.2.1 (hA.mono k1.2.2.2) k1.2.1 (by lia) (hr.less k1.2.2.2 (by lia)) h1
 | .send x as,n,be,ps,wa,X,hw,hA,hl,hf,hr,h=>by
  have xa:=wQ (zs:=zs) (p:=p) C.e hA.sz as (n+1) be hl;have low:=hr.low hl hmo;have ez:(Sy.send x as).pre.length=1+(Sy.a9 as).length:=by simp only[Sy.pre,bp];lia
  have ga:=Bn as;rw[ez]at hr;rw[ev]at h;rw[cN];obtain⟨w1,_,w3,w4⟩:=hw;refine oK low.ps (.send x _ n) (by rw[oI];lia) ?_;refine Kx C hmo as (n+1) be _ wa X w4 hA hl hf (hr.less (ku _) (by simp only[aR,bp,cm];lia)) (h.bind λus b1 e1 h1=>?_);have k1:=xa.len e1;have hlen:us.length=as.length:=k1.2.2.1.2;have room:Rm mo M 0 b1 ps wa:=hr.less k1.2.2.2 (by lia);have jz:lK b1 ps (wa++gs us):=(hr.less (ps':=ps) (hZ:=wa++gs us) (z':=0) k1.2.2.2 (by simp only[aR,aG];lia)).low k1.2.1 hmo;by_cases q:b1.length<mo
  ·obtain⟨body,hb,g⟩:=C.new (.int p) (.int n) x us b1 ps wa X q (by lia) (by rw[hlen];exact w1) k1.2.2.1.1 room h1;have hb1:(((b1.map En.d).length:Nat):Int)<(mo:Int):=by rw[aG];lia
   refine lL jz (.send (xs:=wa) (ts:=us.map ak.d) rfl (by rw[aG,oI,hlen]) (.new (body:=body) hb1 hb)) ?_;have e2:fV pa bo mo (b1++[⟨.int p,.int n,x,us⟩]) (ps++[tk false body b1.length]) wa=⟨pa,bo,mo,b1.map En.d++[.tup [.int p,.int n,.str x,.tup (us.map ak.d)]],ps++[.tup [.bl false,body,.int (b1.map En.d).length]],wa,.non⟩:=by
    rw[aG];show(⟨_,_,_,(b1++[_]).map En.d,_,_,_⟩:Rn)=_;rw[da];rfl
   rw[e2]at g;exact g
  ·rw[C.stop _ _ _ _ _ (by lia)]at h1;have h1:X=(b1,.tup [.str "going",.int mo]):=h1;refine lL jz (.send (xs:=wa) (ts:=us.map ak.d) rfl (by rw[aG,oI,hlen]) (.stop (by show(mo:Int)<=((b1.map En.d).length:Nat);rw[aG];lia))) ?_;exact Kt h1
theorem Kx(C:Bo ar pa bo mo M f call)(hmo:mo<=1000):∀(as:List Sy) (n:Int) (be:List En) (ps wa:List D) (X:List En×D),Sy.kR ar zs as->At pa zs ts p be->be.length<=mo->f<=be.length->Rm mo M (2*(Sy.a9 as).length) be ps wa ->
 After pa bo mo gs (evs call zs ts p as n be) ps wa X->Fi pa bo mo (fV pa bo mo be (ps++fU p (ic as n)) wa) X
 |[],n,be,ps,wa,X,hw,hA,hl,hf,hr,h=>by
  rw[evs]at h;rw[ic,show fU p []=[] from rfl,gP];have h:Fi pa bo mo (fV pa bo mo be ps (wa++[])) X:=h;rw[gP]at h;exact h
 |a::as,n,be,ps,wa,X,hw,hA,hl,hf,hr,h=>by
  have xa:=fe (zs:=zs) (p:=p) C.e hA.sz a n be hl;have ez:(Sy.a9 (a::as)).length=a.pre.length+(Sy.a9 as).length:=show _ by simp only[Sy.a9,aR]
  have pa1:=wR a;have ga:=Bn as;rw[ez]at hr;rw[evs]at h;rw[ic,qM,<-i6];have la:(fU p (ic as (n+a.sends))).length=as.length:=by unfold fU;rw[aG,jG,oI]
  refine lM C hmo a n be _ wa X hw.1 hA hl hf (hr.less (ku _) (by rw[aR,la];lia)) (h.bind λt1 b1 e1 h1=>?_);have k1:=xa.len e1;refine Kx C hmo as _ b1 ps _ X hw.2 (hA.mono k1.2.2.2) k1.2.1 (by lia) (hr.less k1.2.2.2 (by simp only[aR,bp,cm];lia)) (h1.bind λus b2 e2 h2=>?_);have h2:Fi pa bo mo (fV pa bo mo b2 ps (wa++(t1::us).map ak.d)) X:=h2;rw[i6];exact h2
end
structure Ky(ar:Str->Option Nat)(pa bo:List (Key×D))(M:Nat)(B:Str->Bk):Prop where
 len:∀x k,ar x=some k->(B x).zs.length=k
 pa:∀x k,ar x=some k->du pa (.inr x)=some (.tup ((B x).zs.map D.str))
 bo:∀x k,ar x=some k->du bo (.inr x)=some (cN (B x).body (B x).num)
 wf:∀x k,ar x=some k->(B x).body.wf ar (B x).zs
 sz:∀x k,ar x=some k->2*(B x).body.pre.length<=M
theorem Kz{B:Str->Bk}(H:Ky ar pa bo M B)(hmo:mo<=1000):∀n f,mo<=f+n->Bo ar pa bo mo M f (enter B mo n)
 |0,f,hf=>⟨oJ B mo 0,λ_ _ _ _ _ _=>rfl,λp l x us be ps wa X h1 h2=>by lia⟩
 |n+1,f,hf=>by
  refine⟨oJ B mo (n+1),λp l x us be h=>by rw[enter,if_neg (by lia)],λp l x us be ps wa X h1 h2 h3 h4 h5 h6=>⟨_,H.bo x _ h3,?_⟩⟩;rw[enter,if_pos h1]at h6;have le1:(be++[(⟨p,l,x,us⟩:En)]).length=be.length+1:=show _ by rw[aR];rfl
  refine lM (zs:=(B x).zs) (ts:=us) (Kz H hmo n (f+1) (by lia)) hmo (B x).body (B x).num _ ps wa X (H.wf x _ h3) ⟨⟨⟨p,l,x,us⟩,by simp,rfl,H.pa x _ h3⟩,(H.len x _ h3).symm,h4⟩ (by lia) (by lia) ?_ h6;have:=H.sz x _ h3;unfold Rm at h5 ⊢;rw[le1];have e:(mo-be.length)*M=(mo-(be.length+1))*M+M:=by
   rw[<-xT];congr 1;lia
  lia
end
def fI:Int->List Er->List (Str×Bk)
 |_,[]=>[]
 |n,e::r=>(e.name,⟨e.ps,e.body,n⟩)::fI (n+e.body.sends) r
def aaB(bs:List (Str×Bk))(x:Str):Bk:=(bs.lookup x).getD ⟨[],.aI,0⟩
abbrev qN(prog:List Er):Str->Bk:=aaB (fI 0 prog)
theorem wU:∀(n:Int) (prog:List Er),(fI n prog).map (·.1)=prog.map Er.name
 |_,[]=>rfl
 |n,e::r=>by rw[fI,bL,bL,wU]
theorem KA:∀(prog:List Er) (kvs:List (Key×D)) (n:Int),j_ kvs n prog=some ((fI n prog).foldl (λacc b=>putD acc (.inr b.1) (cN b.2.body b.2.num)) kvs)
 |[],kvs,n=>rfl
 |e::r,kvs,n=>by
  have h:=lJ e.body [] (n+e.body.sends);rw[show n+(e.body.sends:Int)-e.body.sends=n by lia]at h;rw[j_,aaz,h];show j_ (putD kvs (.inr e.name) (cN e.body n)) _ r=_;rw[KA r];rfl
theorem Bp{α:Type}(f:α->D):∀(bs:List (Str×α)) (acc:List (Key×D)),(bs.map (·.1)).Nodup->(∀b∈bs,(Sum.inr b.1:Key)∉acc.map (·.1))->bs.foldl (λacc b=>putD acc (.inr b.1) (f b.2)) acc=acc++bs.map λb=>((Sum.inr b.1:Key),f b.2)
 |[],acc,_,_=>by simp
 |b::bs,acc,nd,h=>by
  rw[bL,iZ]at nd;rw[oV,Vd (h b cL),Bp f bs _ nd.2 λc hc=>?_]
  ·rw[i6];rfl
  ·rw[da,dh];rintro(z|z)
   ·exact h c (cO _ hc) z
   ·simp only[bL,oS,ft,Sum.inr.injEq]at z;exact nd.1 (z▸lZ hc)
theorem Bq{α:Type}(f:α->D){x:Str}:∀{bs:List (Str×α)} {a:α},bs.lookup x=some a->du (bs.map λb=>((Sum.inr b.1:Key),f b.2)) (.inr x)=some (f a)
 |(y,b)::bs,a,h=>by
  rw[bL,Vc];by_cases e:x=y
  ·subst e;rw[N1]at h;cases h;rw[if_pos rfl]
  ·rw[km,show(x==y)=false by simpa using e]at h;rw[if_neg (by simpa using λz=>e z.symm)];exact Bq f h
theorem Br{α:Type}{x:Str}:∀{bs:List (Str×α)} {a:α},bs.lookup x=some a->(x,a)∈bs
 |(y,b)::bs,a,h=>by
  by_cases e:x=y
  ·subst e;rw[N1]at h;cases h;exact cL
  ·rw[km,show(x==y)=false by simpa using e]at h;exact cO _ (Br h)
theorem Bs:∀{xs:List Str} {ns:List Nat} {x:Str} {k:Nat},cM xs ns x=some k->x∈xs
 |[],_,_,_,h=>by cases h
 |_::_,[],_,_,h=>by cases h
 |y::xs,m::ns,x,k,h=>by
  rw[cM]at h;by_cases e:x=y
  ·subst e;exact cL
  ·rw[if_neg e]at h;exact cO _ (Bs h)
structure Rp(prog:List Er)(M:Nat):Prop where
 len:prog.length<=100
 nd:(prog.map Er.name).Nodup
 wf:∀e∈prog,e.body.wf (eV prog) e.ps
 sz:∀e∈prog,2*e.body.pre.length<=M
 m:M<=200000
theorem KC{x:Str}{prog:List Er}(n:Int)(hx:x∈prog.map Er.name):∃b,(fI n prog).lookup x=some b:=by
 cases e:(fI n prog).lookup x with
 |some b=>exact⟨b,rfl⟩
 |none =>
  rw[List.lookup_eq_none_iff]at e;rw[<-wU n]at hx;obtain⟨p,hp,rfl⟩:=bO.mp hx;exact absurd (e p hp) (by simp)
theorem KD:∀{prog:List Er} {n:Int} {p:Str×Bk},p∈fI n prog->∃e∈prog,e.name=p.1/\e.ps=p.2.zs/\e.body=p.2.body
 |e::r,n,p,h=>by
  rw[fI]at h;rcases bJ.mp h with rfl|h
  ·exact⟨e,cL,rfl,rfl,rfl⟩
  ·obtain⟨e',he,g⟩:=KD h;exact⟨e',cO _ he,g⟩
theorem KE{prog:List Er}(nd:(prog.map Er.name).Nodup){e:Er}(he:e∈prog):eV prog e.name=some e.ps.length:=by
 obtain⟨i,hi,rfl⟩:=jI he;exact sT nd (i:=i) (by rw[a7,aU hi];rfl) (by rw[a7,aU hi];rfl)
theorem Bt:∀(n:Int) (prog:List Er),((fI n prog).map λb=>((Sum.inr b.1:Key),D.tup (b.2.zs.map D.str)))=prog.map λe=>((Sum.inr e.name:Key),D.tup (e.ps.map D.str))
 |_,[]=>rfl
 |n,e::r=>by rw[fI,bL,bL,Bt]
def oM(prog:List Er):List (Key×D):=(fI 0 prog).map λb=>((Sum.inr b.1:Key),cN b.2.body b.2.num)
theorem Rp.bo{prog:List Er}{M:Nat}(h:Rp prog M):j_ [] 0 prog=some (oM prog):=by
 rw[KA,Bp (λb:Bk=>cN b.body b.num) _ _ (by rw[wU];exact h.nd) (λ_ _=>by simp)];rfl
theorem Rp.pa{prog:List Er}{M:Nat}(h:Rp prog M):fH prog=prog.map λe=>((Sum.inr e.name:Key),D.tup (e.ps.map D.str)):=by
 unfold fH;rw[<-Bt 0 prog,List.foldl_map];exact(Bp (λb:Bk=>D.tup (b.zs.map D.str)) _ [] (by rw[wU];exact h.nd) (λ_ _=>by simp)).trans (lX _)
theorem Rp.KG{prog:List Er}{M:Nat}(h:Rp prog M):Ky (eV prog) (fH prog) (oM prog) M (qN prog):=show _ by
 have key:∀x k,eV prog x=some k->∃b,(fI 0 prog).lookup x=some b/\qN prog x=b/\∃e∈prog,e.name=x/\e.ps=b.zs/\e.body=b.body:=by
  intro x k hx;obtain⟨b,hb⟩:=KC 0 (Bs hx);obtain⟨e,he,g⟩:=KD (Br hb);exact⟨b,hb,by show((fI 0 prog).lookup x).getD _=b;rw[hb];rfl,e,he,g⟩
 refine⟨?_,?_,?_,?_,?_⟩<;>intro x k hx<;>obtain⟨b,hb,e1,e,he,g1,g2,g3⟩:=key x k hx<;>rw[e1]
 ·rw[<-g2];rw[<-g1,KE h.nd he]at hx;exact dg hx
 ·rw[h.pa,<-Bt 0 prog];exact Bq (λb:Bk=>D.tup (b.zs.map D.str)) hb
 ·exact Bq (λb:Bk=>cN b.body b.num) hb
 ·rw[<-g2,<-g3];exact h.wf e he
 ·rw[<-g3];exact h.sz e he
def ie(prog:List Er)(x:Str)(ts:List ak)(mo:Nat):Rs ak:=enter (qN prog) mo mo .non .non x ts []
def KH(mo:Nat):Rs ak->D
 | .val t be=>.tup [.str "done",t.d,.int be.length]
 | .grown be=>.tup [.str "grown",.int be.length]
 | .gO _=>.tup [.str "going",.int mo]
structure qO(prog:List Er)(x:Str)(ts:List ak)(mo:Nat):Prop where
 ex:∃M,Rp prog M/\mo*M<=700000
 mo:mo<=1000
 ar:eV prog x=some ts.length
 sz:∀t∈ts,Sz t
theorem qO.runs{prog:List Er}{x:Str}{ts:List ak}{mo:Nat}(h:qO prog x ts mo):∃r',Runs prog x (ts.map ak.d) mo r'/\r'.en=KH mo (ie prog x ts mo)/\r'.be=(ie prog x ts mo).be.map En.d:=show _ by
 obtain⟨M,R,hM⟩:=h.ex;have H:=R.KG;have hz:=H.len x _ h.ar;have start:∀r1 n r',qI ⟨fH prog,oM prog,mo,[],[],[],.non⟩ .non .non x (.tup (ts.map ak.d)) r1->ib n r1 r'->Runs prog x (ts.map ak.d) mo r':=λr1 n r' h1 h2 =>
  ⟨R.len,λe he=>by have:=R.sz e he;have:=R.m;lia,_,_,r1,n,H.pa x _ h.ar,by rw[hz,aG],R.bo,h1,h2⟩
 by_cases q:0<mo
 ·have S:=Kz (mo:=mo) H h.mo mo 0 (by lia);have hA:After (fH prog) (oM prog) mo g1 (ie prog x ts mo) [] [] ((ie prog x ts mo).be,KH mo (ie prog x ts mo)):=by
   cases ie prog x ts mo with
   |val t be =>
    refine⟨0,[],[],?_⟩;have g:ib 0 (fV (fH prog) (oM prog) mo be [] [t.d]) _:=.fin (xs:=[]) (v:=t.d) rfl rfl rfl;have e:(((be.map En.d).length:Nat):Int)=(be.length:Nat):=by rw[aG]
    have g:ib 0 (fV (fH prog) (oM prog) mo be [] [t.d]) ⟨fH prog,oM prog,mo,be.map En.d,[],[],.tup [.str "done",t.d,.int ((be.map En.d).length:Nat)]⟩:=g;rw[e]at g;exact g
   |grown be=>exact rfl
   |gO be=>exact rfl
  obtain⟨body,hb,n,pe,w,g⟩:=S.new .non .non x ts [] [] [] _ q (bV _) h.ar h.sz (by unfold Rm;simp only[cm,ud];lia) hA;exact⟨_,start _ n _ (.new (body:=body) (show((0:Nat):Int)<mo by lia) hb) g,rfl,rfl⟩
 ·obtain rfl:mo=0:=by lia
  exact⟨_,start _ 0 _ (.stop (show((0:Nat):Int)<=((0:Nat):Int) by lia)) (.grown rfl),rfl,rfl⟩
theorem aaC{prog:List Er}{x:Str}{ts:List ak}{m:Nat}(hs:∀t∈ts,Sz t):Ext m [] (ie prog x ts m) Sz:=oJ _ m m _ _ _ _ [] (bV _) hs
inductive zto (ds:List D)(S:af)(q:List D->Prop):Prop where
 |mk (pr tr:Addr) (prog:List Er) (x:Str) (ts:List ak) (mo:Nat) (_:ds=[.ref pr,.str x,.ref tr,.int mo]) (_:S pr=some (.lst (prog.map Er.d))) (_:S tr=some (.lst (ts.map ak.d))) (_:qO prog x ts mo) (_:q ((ie prog x ts mo).be.map En.d))
def KI :aL:=nI zto
theorem zpn{k:Nat}(C:av P w K mg base k "entries" ["program","name","trees","most"] Kk):av P w K mg base k "entries" ["program","name","trees","most"] KI:=C.imp λ_ _ _ _ ⟨pr,tr,prog,x,ts,mo,e,h1,h2,h3,q⟩=>by
 obtain⟨r',g1,_,g2⟩:=h3.runs;exact⟨pr,tr,prog,x,_,mo,r',e,h1,h2,g1,by rw[g2];exact q⟩
abbrev fW(zs:List Str)(ts:List ak)(p:Str):ak:=(ts[zs.idxOf p]?).getD .aI
def isName:Sy->Bool
 | .name _=>true
 |_=>false
theorem KJ{t:ak}(h:t≠.aI):1<=t.size:=by
 cases t with
 |aI=>exact absurd rfl h
 |pair a b=>simp only[ak.size];lia
theorem aaD{l:Bool}{t:ak}(h:t≠.aI):(gN l t).size<t.size:=by
 cases t with
 |aI=>exact absurd rfl h
 |pair a b=>cases l<;>simp only[gN,ak.size]<;>simp<;>lia
structure KL(call:Call)(zs:List Str)(ts:List ak)(pl:Int)(a:Sy)(p:Str)(t:ak):Prop where
 ev:∀n be,ev call zs ts pl a n be=.val t be
 le:t.size<=(fW zs ts p).size
 pair:t≠.aI->fW zs ts p≠.aI
 lt:isName a=false->fW zs ts p≠.aI->t.size<(fW zs ts p).size
theorem KN{call:Call}{zs:List Str}{ts:List ak}{pl:Int}{a:Sy}{p:Str}{t:ak}(h:KL call zs ts pl a p t)(l:Bool):(gN l t).size<=(fW zs ts p).size/\(gN l t≠.aI->fW zs ts p≠.aI)/\(fW zs ts p≠.aI->(gN l t).size<(fW zs ts p).size):=show _ by
 have hle:=h.le;by_cases c:t=.aI
 ·subst c;have e:gN l .aI=.aI:=by cases l<;>rfl
  rw[e];exact⟨bV _,λz=>absurd rfl z,λz=>KJ z⟩
 ·have:=aaD (l:=l) c;exact⟨by lia,λ_=>h.pair c,λ_=>by lia⟩
theorem wV{call:Call}{zs:List Str}{ts:List ak}{pl:Int}:∀{a:Sy} {p:Str},a.base=some p->∃t,KL call zs ts pl a p t
 | .name x,p,h=>by
  have e:x=p:=show _ by simpa[Sy.base]using h
  subst e;exact⟨fW zs ts x,λn be=>by rw[ev],aT _,λz=>z,λz=>by simp[isName]at z⟩
 | .left a,p,h=>by
  obtain⟨t,ht⟩:=wV (call:=call) (zs:=zs) (ts:=ts) (pl:=pl) (a:=a) (p:=p) (by simpa[Sy.base]using h);obtain⟨h1,h2,h3⟩:=KN ht true;exact⟨gN true t,λn be=>by rw[ev,ht.ev];rfl,h1,h2,λ_=>h3⟩
 | .right a,p,h=>by
  obtain⟨t,ht⟩:=wV (call:=call) (zs:=zs) (ts:=ts) (pl:=pl) (a:=a) (p:=p) (by simpa[Sy.base]using h);obtain⟨h1,h2,h3⟩:=KN ht false;exact⟨gN false t,λn be=>by rw[ev,ht.ev];rfl,h1,h2,λ_=>h3⟩
def wW(zs:List Str)(ts:List ak)(k:List Str):Prop:=∀p∈k,fW zs ts p≠.aI
theorem zqb{call:Call}{zs:List Str}{ts:List ak}{pl:Int}{k:List Str}(hk:wW zs ts k){a:Sy}{p:Str}{n:Int}{be b:List En}{u:ak}(e:ev call zs ts pl a n be=.val u b) :
 (aS p a k=2->u.size<(fW zs ts p).size)/\(aS p a k=1->u.size<=(fW zs ts p).size):=show _ by
 have path:∀a:Sy,isName a=false->a.base=some p->ev call zs ts pl a n be=.val u b->(p∈k->u.size<(fW zs ts p).size)/\u.size<=(fW zs ts p).size:=by
  intro a hn hb he;obtain⟨t,ht⟩:=wV (call:=call) (zs:=zs) (ts:=ts) (pl:=pl) hb;rw[ht.ev]at he;cases he;exact⟨λhp=>ht.lt hn (hk p hp),ht.le⟩
 cases a with
 |aI =>
  rw[ev]at e;cases e;simp only[aS];refine⟨λh=>?_,λ_=>bV _⟩;by_cases c:p∈k
  ·exact KJ (hk p c)
  ·rw[if_neg c]at h;exact absurd h (by decide)
 |name x =>
  rw[ev]at e;cases e;simp only[aS];refine⟨λh=>?_,λh=>?_⟩
  ·split at h<;>exact absurd h (by decide)
  ·by_cases c:x=p
   ·rw[c];exact aT _
   ·rw[if_neg c]at h;exact absurd h (by decide)
 |left a =>
  simp only[aS];by_cases c:(Sy.left a).base=some p
  ·obtain⟨h1,h2⟩:=path _ rfl c e;rw[if_pos c];exact⟨λh=>by by_cases ck:p∈k<;>simp[ck]at h ⊢<;>exact h1 ck,λ_=>h2⟩
  ·rw[if_neg c];exact⟨λh=>absurd h (by decide),λh=>absurd h (by decide)⟩
 |right a =>
  simp only[aS];by_cases c:(Sy.right a).base=some p
  ·obtain⟨h1,h2⟩:=path _ rfl c e;rw[if_pos c];exact⟨λh=>by by_cases ck:p∈k<;>simp[ck]at h ⊢<;>exact h1 ck,λ_=>h2⟩
  ·rw[if_neg c];exact⟨λh=>absurd h (by decide),λh=>absurd h (by decide)⟩
 |pair a b=>simp[aS,Sy.base]
 |fork a b c=>simp[aS,Sy.base]
 |send x as=>simp[aS,Sy.base]
theorem KO{call:Call}{zs:List Str}{ts:List ak}{pl:Int}:∀{as:List Sy} {n:Int} {be:List En} {us:List ak} {b:List En},evs call zs ts pl as n be=.val us b->∀(j:Nat) (a:Sy) (u:ak),as[j]?=some a->us[j]?=some u->∃n' iS b',ev call zs ts pl a n' iS=.val u b'
 |[],n,be,us,b,e,j,a,u,h1,h2=>by simp at h1
 |c::as,n,be,us,b,e,j,a,u,h1,h2=>by
  rw[evs]at e;cases e1:ev call zs ts pl c n be with
  |grown b1=>rw[e1]at e;cases e
  |gO b1=>rw[e1]at e;cases e
  |val t b1 =>
   rw[e1]at e;simp only[Rs.bind]at e;cases e2:evs call zs ts pl as (n+c.sends) b1 with
   |grown b2=>rw[e2]at e;cases e
   |gO b2=>rw[e2]at e;cases e
   |val vs b2 =>
    rw[e2]at e;cases e;cases j with
    |zero =>
     cases h1;cases h2;exact⟨_,_,_,e1⟩
    |succ j=>exact KO e2 j a u (by simpa using h1) (by simpa using h2)
structure tW(rows:bh)(above below:List ak):Prop where
 len:rows.length=above.length
 row:∀(i:Nat) (r:List Int) (T:ak),rows[i]?=some r->above[i]?=some T->r.length=below.length/\∀(j:Nat) (v:Int) (u:ak),r[j]?=some v->below[j]?=some u->(v=2->u.size<T.size)/\(v=1->u.size<=T.size)
theorem KP:∀{zs:List Str} {i:Nat} {z:Str},zs.Nodup->zs[i]?=some z->zs.idxOf z=i
 |y::zs,0,z,nd,h=>by
  cases h;rw[xW];simp
 |y::zs,i+1,z,nd,h=>by
  rw[iZ]at nd;have hz:zs[i]?=some z:=show _ by simpa using h
  have hne:y≠z:=λe=>nd.1 (e▸c8 hz);have e':(y==z)=false:=by simpa using hne
  rw[xW,e',cond_false,KP nd.2 hz]
theorem aaE{call:Call}{zs:List Str}{ts:List ak}{pl:Int}{k:List Str}{as:List Sy}{n:Int}{be b:List En}{us:List ak}(nd:zs.Nodup)(hl:ts.length=zs.length)(hk:wW zs ts k)(e:evs call zs ts pl as n be=.val us b)(hul:us.length=as.length):tW (zs.map λp=>as.map λa=>aS p a k) ts us:=show _ by
 refine⟨by rw[aG];exact hl.symm,λi r T hr hT=>?_⟩;rw[a7]at hr;obtain⟨z,hz,rfl⟩:=dz.mp hr;refine⟨by rw[aG,hul],λj v u hv hu=>?_⟩;rw[a7]at hv;obtain⟨a,ha,rfl⟩:=dz.mp hv;obtain⟨n',iS,b',e1⟩:=KO e j a u ha hu;have:=zqb hk (p:=z) e1;have et:fW zs ts z=T:=by
  unfold fW;rw[KP nd hz,hT];rfl
 rw[et]at this;exact this
def gl(e:Er)(s:Sy)(k:List Str):List (Str×Str×bh):=((s.bN Sy.bases k).map (dw aS e)).flatten
def mR(e:Er)(as:List Sy)(k:List Str):List (Str×Str×bh):=((Sy.kU Sy.bases as k).map (dw aS e)).flatten
theorem KQ(e:Er)(a b:Sy)(k:List Str):gl e (.pair a b) k=gl e a k++gl e b k:=by simp[gl,Sy.bN,dw]
theorem KS(e:Er)(a:Sy)(k:List Str):gl e (.left a) k=gl e a k:=by simp[gl,Sy.bN,dw]
theorem KU(e:Er)(a:Sy)(k:List Str):gl e (.right a) k=gl e a k:=by simp[gl,Sy.bN,dw]
theorem KW(e:Er)(a b c:Sy)(k:List Str):gl e (.fork a b c) k=gl e a k++(gl e b (k++a.bases)++gl e c k):=by simp[gl,Sy.bN,dw]
theorem KY(e:Er)(x:Str)(as:List Sy)(k:List Str):gl e (.send x as) k=[(e.name,x,e.ps.map λp=>as.map λa=>aS p a k)]++mR e as k:=by simp[gl,mR,Sy.bN,dw]
theorem KZ(e:Er)(a:Sy)(as:List Sy)(k:List Str):mR e (a::as) k=gl e a k++mR e as k:=by simp[gl,mR,Sy.kU]
mutual
theorem ig(e:Er):∀(s:Sy) (k:List Str),(gl e s k).length=s.sends
 | .name x,k=>by simp[gl,Sy.bN,dw,Sy.sends,Sy.pre]
 | .aI,k=>by simp[gl,Sy.bN,dw,Sy.sends,Sy.pre]
 | .pair a b,k=>by rw[KQ,aR,ig e a,ig e b,Kl]
 | .left a,k=>by rw[KS,ig e a,Km]
 | .right a,k=>by rw[KU,ig e a,Kn]
 | .fork a b c,k=>by rw[KW,aR,aR,ig e a,ig e b,ig e c,Ko];lia
 | .send x as,k=>by rw[KY,aR,K6 e as,Kq];rfl
theorem K6(e:Er):∀(as:List Sy) (k:List Str),(mR e as k).length=Sy.bT as
 |[],k=>by simp[mR,Sy.kU,Sy.bT,Sy.a9]
 |a::as,k=>by rw[KZ,aR,ig e a,K6 e as,Sy.gi]
end
def ka(prog:List Er)(gs:List (Str×Str×bh))(n:Nat):Prop:=∀(i:Nat) (g:Str×Str×bh),gs[i]?=some g->(cK aS Sy.bases prog)[n+i]?=some g
theorem ka.fst{prog:List Er}{xs ys:List (Str×Str×bh)}{k:Nat}(h:ka prog (xs++ys) k):ka prog xs k:=λi to e=>h i to (by rw[lR (b4.mp e).1];exact e)
theorem ka.snd{prog:List Er}{xs ys:List (Str×Str×bh)}{k:Nat}(h:ka prog (xs++ys) k):ka prog ys (k+xs.length):=λi to e=>by
 have:=h (xs.length+i) to (by rw[mX (by lia)];rw[show xs.length+i-xs.length=i by lia];exact e);rw[show k+xs.length+i=k+(xs.length+i) by lia];exact this
structure tX(prog:List Er)(be:List En)(i:Nat)(e:En):Prop where
 ex:∃(p n:Nat) (e':En) (rows:bh),e.pr=.int p/\e.nu=.int n/\p<i/\be[p]?=some e'/\(cK aS Sy.bases prog)[n]?=some (e'.nm,e.nm,rows)/\tW rows e'.ts e.ts/\∀t∈e'.ts,Sz t
 sz:∀t∈e.ts,Sz t
 ar:eV prog e.nm=some e.ts.length
def fX(prog:List Er)(be:List En):Prop:=∀(i:Nat) (e:En),1<=i->be[i]?=some e->tX prog be i e
theorem tX.mono{prog:List Er}{be iS:List En}{i:Nat}{e:En}(h:tX prog be i e)(g:be <+: iS):tX prog iS i e:=by
 obtain⟨p,n,e',rows,h1,h2,h3,h4,h5,h6,h7⟩:=h.ex;exact⟨⟨p,n,e',rows,h1,h2,h3,mQ g h4,h5,h6,h7⟩,h.sz,h.ar⟩
theorem fX.snoc{prog:List Er}{be:List En}{e:En}(h:fX prog be)(he:1<=be.length->tX prog be be.length e):fX prog (be++[e]):=show _ by
 intro i u hi hu;by_cases q:i<be.length
 ·rw[lR q]at hu;exact(h i u hi hu).mono (DV _ _)
 ·have hlt:=(b4.mp hu).1;rw[aR]at hlt;have e1:[e].length=1:=rfl;obtain rfl:i=be.length:=by lia
  rw[mX (aT _),DW]at hu;cases hu;exact(he hi).mono (DV _ _)
theorem fX.bind{α β:Type}{prog:List Er}{r:Rs α}{f:α->List En->Rs β}(h:fX prog r.be)(hf:∀a b,r=.val a b->fX prog b->fX prog (f a b).be):fX prog (r.bind f).be:=by
 cases r with
 |val a b=>exact hf a b rfl h
 |grown b=>exact h
 |gO b=>exact h
structure Bu(prog:List Er)(mo:Nat)(call:Call):Prop where
 e:tV mo call
 i:∀(p n:Nat) x us be e' rows,fX prog be->be.length<=mo->be[p]?=some e'->(cK aS Sy.bases prog)[n]?=some (e'.nm,x,rows)->tW rows e'.ts us->(∀t∈e'.ts,Sz t)->eV prog x=some us.length->(∀u∈us,Sz u)->fX prog (call (.int p) (.int n) x us be).be
section
variable{prog:List Er}{call:Call}{ts:List ak}{p:Nat}{mo:Nat}{er:Er}{e':En}
mutual
theorem kb(C:Bu prog mo call)(ht:∀t∈ts,Sz t)(nd:er.ps.Nodup)(hl0:ts.length=er.ps.length)(hn0:e'.nm=er.name)(ht0:e'.ts=ts):∀(s:Sy) (k:List Str) (j:Nat) (n:Int) (be:List En),n=(j:Int)->s.wf (eV prog) er.ps->ka prog (gl er s k) j->wW er.ps ts k->be[p]?=some e'->fX prog be->be.length<=mo->fX prog (ev call er.ps ts p s n be).be
 | .name x,k,j,n,be,hn,hw,hg,hk,hp,hI,hl=>by rw[ev];exact hI
 | .aI,k,j,n,be,hn,hw,hg,hk,hp,hI,hl=>by rw[ev];exact hI
 | .pair a b,k,j,n,be,hn,hw,hg,hk,hp,hI,hl=>by
  rw[KQ]at hg;have xa:=fe (zs:=er.ps) (p:=p) C.e ht a n be hl;rw[ev];refine(kb C ht nd hl0 hn0 ht0 a k j n be hn hw.1 hg.fst hk hp hI hl).bind λt1 b1 e1 i1=>?_;have g:=xa.len e1;refine(kb C ht nd hl0 hn0 ht0 b k (j+a.sends) _ b1 (by lia) hw.2 (by rw[<-ig er a k];exact hg.snd) hk (mQ g.2.2.2 hp) i1 g.2.1).bind λt2 b2 e2 i2=>?_;unfold tU;by_cases q:(ak.pair t1 t2).size<=60
  ·rw[if_pos q];exact i2
  ·rw[if_neg q];exact i2
 | .left a,k,j,n,be,hn,hw,hg,hk,hp,hI,hl=>by
  rw[KS]at hg;rw[ev];exact(kb C ht nd hl0 hn0 ht0 a k j n be hn hw hg hk hp hI hl).bind λt1 b1 e1 i1=>i1
 | .right a,k,j,n,be,hn,hw,hg,hk,hp,hI,hl=>by
  rw[KU]at hg;rw[ev];exact(kb C ht nd hl0 hn0 ht0 a k j n be hn hw hg hk hp hI hl).bind λt1 b1 e1 i1=>i1
 | .fork a b c,k,j,n,be,hn,hw,hg,hk,hp,hI,hl=>by
  rw[KW]at hg;have xa:=fe (zs:=er.ps) (p:=p) C.e ht a n be hl;rw[ev];refine(kb C ht nd hl0 hn0 ht0 a k j n be hn hw.1 hg.fst hk hp hI hl).bind λt1 b1 e1 i1=>?_;have g:=xa.len e1;have k2:=hg.snd;rw[ig]at k2;cases t1 with
  |aI=>exact kb C ht nd hl0 hn0 ht0 c k (j+a.sends+b.sends) _ b1 (by lia) hw.2.2 (by rw[<-ig er b (k++a.bases)];exact k2.snd) hk (mQ g.2.2.2 hp) i1 g.2.1
  |pair u v =>
   refine kb C ht nd hl0 hn0 ht0 b (k++a.bases) (j+a.sends) _ b1 (by lia) hw.2.1 k2.fst (λq hq=>?_) (mQ g.2.2.2 hp) i1 g.2.1;rcases dh.mp hq with hq|hq
   ·exact hk q hq
   ·cases hb:a.base with
    |none=>simp[Sy.bases,hb]at hq
    |some z =>
     have ez:q=z:=show _ by simpa[Sy.bases,hb]using hq
     rw[ez];obtain⟨t,hv⟩:=wV (call:=call) (zs:=er.ps) (ts:=ts) (pl:=p) hb;rw[hv.ev]at e1;cases e1;exact hv.pair (λz=>nomatch z)
 | .send x as,k,j,n,be,hn,hw,hg,hk,hp,hI,hl=>by
  rw[KY]at hg;have xa:=wQ (zs:=er.ps) (p:=p) C.e ht as (n+1) be hl;rw[ev];refine(K7 C ht nd hl0 hn0 ht0 as k (j+1) _ be (by lia) hw.2.2.2 hg.snd hk hp hI hl).bind λus b1 e1 i1=>?_;have g:=xa.len e1;have h0:=hg.fst 0 _ rfl;have hgo:=aaE nd hl0 hk e1 g.2.2.1.2;rw[hn];refine C.i p j x us b1 e' _ i1 g.2.1 (mQ g.2.2.2 hp) (by rw[hn0];exact h0) (by rw[ht0];exact hgo) (by rw[ht0];exact ht) (by rw[g.2.2.1.2];exact hw.1) g.2.2.1.1
theorem K7(C:Bu prog mo call)(ht:∀t∈ts,Sz t)(nd:er.ps.Nodup)(hl0:ts.length=er.ps.length)(hn0:e'.nm=er.name)(ht0:e'.ts=ts):∀(as:List Sy) (k:List Str) (j:Nat) (n:Int) (be:List En),n=(j:Int)->Sy.kR (eV prog) er.ps as->ka prog (mR er as k) j->wW er.ps ts k->be[p]?=some e'->fX prog be->be.length<=mo->fX prog (evs call er.ps ts p as n be).be
 |[],k,j,n,be,hn,hw,hg,hk,hp,hI,hl=>by rw[evs];exact hI
 |a::as,k,j,n,be,hn,hw,hg,hk,hp,hI,hl=>by
  rw[KZ]at hg;have xa:=fe (zs:=er.ps) (p:=p) C.e ht a n be hl;rw[evs];refine(kb C ht nd hl0 hn0 ht0 a k j n be hn hw.1 hg.fst hk hp hI hl).bind λt1 b1 e1 i1=>?_;have g:=xa.len e1;exact(K7 C ht nd hl0 hn0 ht0 as k (j+a.sends) _ b1 (by lia) hw.2 (by rw[<-ig er a k];exact hg.snd) hk (mQ g.2.2.2 hp) i1 g.2.1).bind λus b2 _ i2=>i2
end
end
theorem K8:∀(done rest:List Er) (x:Str) (b:Bk),(x,b)∈fI ((cK aS Sy.bases done).length:Nat) rest->∃(e:Er) (j:Nat),e∈rest/\e.name=x/\e.ps=b.zs/\e.body=b.body/\b.num=j/\ka (done++rest) (gl e e.body []) j
 |done,e::rest,x,b,h=>by
  rw[fI]at h;have es:∀l r:List Er,cK aS Sy.bases (l++r)=cK aS Sy.bases l++cK aS Sy.bases r:=λl r=>by simp[cK]
  have eo:cK aS Sy.bases [e]=gl e e.body []:=show _ by simp[cK,gl]
  rcases bJ.mp h with h|h
  ·cases h;refine⟨e,_,cL,rfl,rfl,rfl,rfl,λi g hi=>?_⟩;rw[es,mX (by lia),show(cK aS Sy.bases done).length+i-(cK aS Sy.bases done).length=i by lia,show e::rest=[e]++rest from rfl,es,eo];rw[lR (b4.mp hi).1];exact hi
  ·have hl:((cK aS Sy.bases done).length:Int)+(e.body.sends:Nat)=((cK aS Sy.bases (done++[e])).length:Nat):=by
    rw[es,eo,aR,ig];lia
   rw[hl]at h;obtain⟨e2,j,h0,h1,h2,h3,h4,h5⟩:=K8 (done++[e]) rest x b h;refine⟨e2,j,cO _ h0,h1,h2,h3,h4,?_⟩;rw[i6]at h5;exact h5
structure K9(prog:List Er)(B:Str->Bk):Prop where
 ex:∀x k,eV prog x=some k->∃(e:Er) (j:Nat),e.name=x/\e.ps=(B x).zs/\e.body=(B x).body/\(B x).num=j/\ka prog (gl e e.body []) j/\e.ps.Nodup/\e.ps.length=k/\e.body.wf (eV prog) e.ps
theorem Rp.aaF{prog:List Er}{M:Nat}(h:Rp prog M)(nd:∀e∈prog,e.ps.Nodup):K9 prog (qN prog):=show _ by
 refine⟨λx k hx=>?_⟩;obtain⟨b,hb⟩:=KC 0 (Bs hx);have e1:qN prog x=b:=by show((fI 0 prog).lookup x).getD _=b;rw[hb];rfl
 have hlen:=h.KG.len x k hx;obtain⟨e,j,h0,h1,h2,h3,h4,h5⟩:=K8 [] prog x b (Br hb);rw[e1]at hlen ⊢;exact⟨e,j,h1,h2,h3,h4,h5,nd e h0,by rw[h2];exact hlen,h.wf e h0⟩
theorem K_{prog:List Er}{B:Str->Bk}(T:K9 prog B)(mo:Nat):∀n,Bu prog mo (enter B mo n)
 |0=>⟨oJ B mo 0,λp n x us be e' rows h1 h2 h3 h4 h5 h8 h6 h7=>h1⟩
 |m+1=>by
  refine⟨oJ B mo (m+1),λp n x us be e' rows h1 h2 h3 h4 h5 h8 h6 h7=>?_⟩;rw[enter];by_cases c:be.length<mo
  ·rw[if_pos c];obtain⟨e,j,g1,g2,g3,g4,g5,g6,g7,g8⟩:=T.ex x _ h6;rw[<-g2,<-g3];refine kb (er:=e) (e':=⟨.int p,.int n,x,us⟩) (K_ T mo m) h7 g6 g7.symm g1.symm rfl e.body [] j _ _ g4 g8 g5 (λq hq=>by simp at hq) (by simp) (h1.snoc λ_=>?_) (by rw[aR];exact c);exact⟨⟨p,n,e',rows,rfl,rfl,(b4.mp h3).1,h3,h4,h5,h8⟩,h7,h6⟩
  ·rw[if_neg c];exact h1
theorem qO.aaG{prog:List Er}{x:Str}{ts:List ak}{mo:Nat}(h:qO prog x ts mo)(nd:∀e∈prog,e.ps.Nodup):fX prog (ie prog x ts mo).be:=show _ by
 obtain⟨M,R,hM⟩:=h.ex;have T:=R.aaF nd;unfold ie;cases mo with
 |zero=>intro i e hi he;simp[enter,Rs.be]at he
 |succ m =>
  rw[enter,if_pos (by simp)];obtain⟨e,j,g1,g2,g3,g4,g5,g6,g7,g8⟩:=T.ex x _ h.ar;rw[<-g2,<-g3];refine kb (er:=e) (e':=⟨.non,.non,x,ts⟩) (p:=0) (K_ T (m+1) m) h.sz g6 g7.symm g1.symm rfl e.body [] j _ _ g4 g8 g5 (λq hq=>by simp at hq) rfl ?_ (by simp);intro i u hi hu;rw[lX,dQ (by simpa using hi)]at hu;cases hu
def Wk(T:Nat->bh)(t:Nat):Nat->Nat->Nat->Bool->Prop
 |0,i,k,b=>i=k/\b=false
 |l+1,i,k,b=>∃j b',Wk T t l i j b'/\1<=at2 (T (t+l)) j k/\b=(b'||decide (2<=at2 (T (t+l)) j k))
theorem Wk.app{T:Nat->bh}{t l1 i j:Nat}{b1:Bool}(h:Wk T t l1 i j b1):∀{l2 k:Nat} {b2:Bool},Wk T (t+l1) l2 j k b2->Wk T t (l1+l2) i k (b1||b2)
 |0,k,b2,⟨e,e2⟩=>by subst e;subst e2;simpa using h
 |l2+1,k,b2,⟨j',b',h1,h2,e⟩=>by
  have ih:=Wk.app h h1;rw[kd]at h2 e;exact⟨j',_,ih,h2,by rw[e,<-N2];rfl⟩
theorem Wk.split{T:Nat->bh}{t l1 i:Nat}:∀{l2 k:Nat} {b:Bool},Wk T t (l1+l2) i k b->∃j b1 b2,Wk T t l1 i j b1/\Wk T (t+l1) l2 j k b2/\b=(b1||b2)
 |0,k,b,h=>⟨k,b,false,h,⟨rfl,rfl⟩,by simp⟩
 |l2+1,k,b,⟨j',b',h1,h2,e⟩=>by
  obtain⟨j,b1,b2,h3,h4,h5⟩:=Wk.split h1;have ea:t+l1.add l2=t+l1+l2:=(kd ..).symm;rw[ea]at h2 e;exact⟨j,b1,_,h3,⟨j',b2,h4,h2,rfl⟩,by rw[e,h5,N2]⟩
theorem Wk.shift{T T':Nat->bh}{t t' i:Nat}(hT:∀s,T (t+s)=T' (t'+s)):∀{l k:Nat} {b:Bool},Wk T t l i k b->Wk T' t' l i k b
 |0,_,_,h=>h
 |l+1,k,b,⟨j,b',h1,h2,e⟩=>⟨j,b',Wk.shift hT h1,by rw[<-hT];exact h2,by rw[<-hT];exact e⟩
theorem Wk.two{T:Nat->bh}{t i:Nat}:∀{l k:Nat},Wk T t l i k true->∃l1 l2 j j' b1 b2,l=l1+1+l2/\Wk T t l1 i j b1/\2<=at2 (T (t+l1)) j j'/\Wk T (t+(l1+1)) l2 j' k b2
 |0,_,⟨_,e⟩=>by cases e
 |l+1,k,⟨j,b',h1,h2,e⟩=>by
  by_cases h:2<=at2 (T (t+l)) j k
  ·exact⟨l,0,j,k,b',false,rfl,h1,h,rfl,rfl⟩
  ·simp only[h,decide_false,Dd]at e;subst e;obtain⟨l1,l2,a,a',b1,b2,e1,h3,h4,h5⟩:=Wk.two h1;subst e1;have e3:t+(l1+1+l2)=t+(l1+1)+l2:=show _ by lia
   rw[e3]at h2;exact⟨l1,l2+1,a,a',b1,_,by lia,h3,h4,j,b2,h5,h2,rfl⟩
theorem Bv{B:bh}{j k:Nat}(h:1<=at2 B j k):j<B.length/\k<(B.getD j []).length:=show _ by
 unfold at2 at h;by_cases h1:j<B.length
 ·refine⟨h1,?_⟩;by_cases h2:k<(B.getD j []).length
  ·exact h2
  ·rw[bR,dQ (by lia)]at h;exact absurd h (by decide)
 ·rw[bR (l:=B),dQ (by lia)]at h;exact absurd h (by simp)
theorem _root_.E3.Mt.lt{m n:Nat}{B:bh}(h:Mt m n B){j k:Nat}(h1:1<=at2 B j k):j<m/\k<n:=by
 obtain⟨a,b⟩:=Bv h1;rw[h.row _ (pR a)]at b;rw[h.len]at a;exact⟨a,b⟩
theorem K'{m n p:Nat}{A B:bh}(hA:Mt m n A)(hB:Mt n p B)(hn:0<n){i k:Nat}{t:Int}(ht:1<=t):t<=at2 (dZ A B) i k↔∃j,t<=jn (at2 A i j) (at2 B j k):=show _ by
 have hr:∀{i},i<m->(A.getD i []).length=n:=λ{i} hi=>hA.row _ (pR (by rw[hA.len];exact hi));constructor
 ·intro h;obtain⟨hi,hk⟩:=(hA.cmp hB hn).lt (DL ht h);rw[wc hA hB hn hi hk]at h;unfold dot at h;obtain⟨j,_,hj⟩:=(mF ht).mp h;exact⟨j,hj⟩
 ·rintro⟨j,hj⟩;have h1:=(gj (hA.at i j).1 (hB.at j k).1).mp (DL ht hj);obtain⟨hi,hjn⟩:=hA.lt h1.1;obtain⟨_,hk⟩:=hB.lt h1.2;rw[wc hA hB hn hi hk];unfold dot;exact(mF ht).mpr ⟨j,by rw[hr hi];exact hjn,hj⟩
def Rep(T:Nat->bh)(t l:Nat)(M:bh):Prop:=∀i k,(1<=at2 M i k↔∃b,Wk T t l i k b)/\(2<=at2 M i k↔Wk T t l i k true)
theorem Rep.one{T:Nat->bh}{t:Nat}:Rep T t 1 (T t):=λi k=>by
 constructor
 ·constructor
  ·intro h;exact⟨_,i,false,⟨rfl,rfl⟩,h,rfl⟩
  ·rintro⟨b,j,b',⟨rfl,_⟩,h,_⟩;exact h
 ·constructor
  ·intro h;refine⟨i,false,⟨rfl,rfl⟩,?_,?_⟩
   ·show 1<=at2 (T t) i k;lia
   ·simp only[xD];exact(decide_eq_true h).symm
  ·rintro⟨j,b',⟨rfl,rfl⟩,h,e⟩;rw[xD]at e;exact of_decide_eq_true e.symm
theorem Rep.cmp{T:Nat->bh}{t l1 l2 m n p:Nat}{A B:bh}(hA:Mt m n A)(hB:Mt n p B)(hn:0<n)(rA:Rep T t l1 A)(rB:Rep T (t+l1) l2 B):Rep T t (l1+l2) (dZ A B):=λi k=>by
 have c1:1<=at2 (dZ A B) i k↔∃j,1<=at2 A i j/\1<=at2 B j k:=show _ by
  rw[K' hA hB hn (by decide)];exact⟨λ⟨j,h⟩=>⟨j,(gj (hA.at i j).1 (hB.at j k).1).mp h⟩,λ⟨j,h⟩=>⟨j,(gj (hA.at i j).1 (hB.at j k).1).mpr h⟩⟩
 have c2:2<=at2 (dZ A B) i k↔∃j,1<=at2 A i j/\1<=at2 B j k/\(2<=at2 A i j∨2<=at2 B j k):=by
  rw[K' hA hB hn (by decide)];exact⟨λ⟨j,h⟩=>⟨j,(gL (hA.at i j).1 (hB.at j k).1).mp h⟩,λ⟨j,h⟩=>⟨j,(gL (hA.at i j).1 (hB.at j k).1).mpr h⟩⟩
 constructor
 ·rw[c1];constructor
  ·rintro⟨j,h1,h2⟩;obtain⟨b1,w1⟩:=(rA i j).1.mp h1;obtain⟨b2,w2⟩:=(rB j k).1.mp h2;exact⟨_,w1.app w2⟩
  ·rintro⟨b,w⟩;obtain⟨j,b1,b2,w1,w2,_⟩:=w.split;exact⟨j,(rA i j).1.mpr ⟨_,w1⟩,(rB j k).1.mpr ⟨_,w2⟩⟩
 ·rw[c2];constructor
  ·rintro⟨j,h1,h2,h3⟩;obtain⟨b1,w1⟩:=(rA i j).1.mp h1;obtain⟨b2,w2⟩:=(rB j k).1.mp h2;rcases h3 with h3|h3
   ·have:=((rA i j).2.mp h3).app w2;simpa using this
   ·have:=w1.app ((rB j k).2.mp h3);simpa using this
  ·intro w;obtain⟨j,b1,b2,w1,w2,e⟩:=w.split;refine⟨j,(rA i j).1.mpr ⟨_,w1⟩,(rB j k).1.mpr ⟨_,w2⟩,?_⟩;cases b1 with
   |true=>exact .inl ((rA i j).2.mpr w1)
   |false =>
    rw[xD]at e;subst e;exact .inr ((rB j k).2.mpr w2)
def cB(g:Gr):Nat->Gr
 |0=>g
 |p+1=>cz (cB g p) g
theorem qP{ar:Str->Option Nat}{g:Gr}(h:Gd ar g)(hf:g.2.1=g.1):∀p,Gd ar (cB g p)/\(cB g p).1=g.1/\(cB g p).2.1=g.2.1
 |0=>⟨h,rfl,rfl⟩
 |p+1=>by
  obtain⟨a,b,c⟩:=qP h hf p;exact⟨a.cmp h (by rw[c,hf]),b,rfl⟩
theorem _root_.E3.Gd.sq{ar:Str->Option Nat}{g:Gr}(h:Gd ar g)(hf:g.2.1=g.1):∃n,ar g.1=some n/\1<=n/\n<=4/\Mt n n g.2.2:=by
 obtain⟨m,n,e1,e2,m1,n1,m4,n4,hM⟩:=h.ex;rw[hf,e1]at e2;cases e2;exact⟨m,e1,m1,m4,hM⟩
theorem zpl{n:Nat}{A:bh}(h:Mt n n A):j6 A=true↔∃i,2<=at2 A i i:=show _ by
 unfold j6;rw[q_];constructor
 ·rintro⟨i,_,e⟩;refine⟨i,?_⟩;have:=of_decide_eq_true e;unfold at2;lia
 ·rintro⟨i,e⟩;refine⟨i,ik.mpr (Bv (show 1<=at2 A i i by lia)).1,?_⟩;have:=(h.at i i).2;unfold at2 at e this;exact decide_eq_true (by lia)
def La(T:Nat->bh)(m:Nat):Prop:=∃t i k,t<m/\2<=at2 (T t) i k/\∃l b,Wk T (t+1) l k i b/\(t+1+l)%m=t
theorem Lb{T:Nat->bh}{m:Nat}(hT:∀s,T (s%m)=T s){a b:Nat}(h:a%m=b%m)(s:Nat):T (a+s)=T (b+s):=by
 rw[<-hT (a+s),<-hT (b+s),m9,h,<-m9]
theorem aaH{T:Nat->bh}{m n:Nat}{ar:Str->Option Nat}{g:Gr}(hm:0<m)(hT:∀s,T (s%m)=T s)(hg:Gd ar g)(hf:g.2.1=g.1)(hn:ar g.1=some n)(r:Rep T 0 m g.2.2){p:Nat}(h:j6 (cB g p).2.2=true):La T m:=show _ by
 obtain⟨n',e,n1,n4,hM⟩:=hg.sq hf;rw[hn]at e;cases e;have hP:∀p,Mt n n (cB g p).2.2:=λp=>by
  obtain⟨a,b,c⟩:=qP hg hf p;obtain⟨n',e,_,_,hM⟩:=a.sq (by rw[b,c,hf]);rw[b,hn]at e;cases e;exact hM
 have back:∀{a:Nat},a%m=0->∀s,T (a+s)=T (0+s):=λ{a} h=>Lb hT (by rw[h,DX]);have rp:∀p,Rep T 0 (m*(p+1)) (cB g p).2.2:=by
  intro p
  induction p with
  |zero=>rw[Nat.mul_one];exact r
  |succ p ih =>
   rw[Nat.mul_succ];refine Rep.cmp (hP p) hM (by lia) ih λi k=>?_;have z:(0+m*(p+1))%m=0:=by rw[xX];exact DY ..
   obtain⟨a,b⟩:=r i k;exact⟨a.trans ⟨λ⟨c,w⟩=>⟨c,w.shift λs=>(back z s).symm⟩,λ⟨c,w⟩=>⟨c,w.shift (back z)⟩⟩,b.trans ⟨λw=>w.shift λs=>(back z s).symm,λw=>w.shift (back z)⟩⟩
 obtain⟨i,h2⟩:=(zpl (hP p)).mp h;obtain⟨l1,l2,j,j',b1,b2,e,w1,h3,w2⟩:=((rp p i i).2.mp h2).two;have hz:(l1+1+l2)%m=0:=by rw[<-e];exact DY ..
 rw[xX]at h3 w2;have Bw:Wk T (l1+1+l2) l1 i j b1:=w1.shift λs=>(back hz s).symm;refine⟨l1%m,j,j',DZ _ hm,by rw[hT];exact h3,l2+l1,_,(w2.app Bw).shift (Lb hT (by rw[m9,m9 (l1%m) 1,xY])),?_⟩;have:(l1%m+1+(l2+l1))%m=((l1+1+l2)+l1)%m:=by
  rw[show l1%m+1+(l2+l1)=l1%m+(1+(l2+l1)) by lia,m9,xY,<-m9];congr 1;lia
 rw[this,m9,hz,xX,xY]
def dM(gs:List Gr)(n:Int):Gr:=gs.getD n.toNat ("","",[])
def jA(gs:List Gr):Gr->List Int->Option Gr
 |g,[]=>some g
 |g,n::l=>if g.2.1=(dM gs n).1 then jA gs (cz g (dM gs n)) l else none
abbrev iT(gs:List Gr)(way:List Int):Prop:=∀n∈way,0<=n/\n<(gs.length:Int)
def Lc(gs:List Gr):List Int->Option Gr
 |[]=>none
 |n::l=>jA gs (dM gs n) l
def mS(gs:List Gr)(way:List Int):Option Gr:=if iT gs way then Lc gs way else none
def wX(gs:List Gr)(way:List Int):Option Bool:=(mS gs way).bind λg=>if g.2.1=g.1 then some ((aZ g.2.2.length).any λp=>j6 (cB g p).2.2) else none
abbrev gW(gs:List Gr)(way:List Int)(t:Nat):Gr:=dM gs (way.getD t 0)
def eW(gs:List Gr)(way:List Int)(t:Nat):bh:=(gW gs way (t%way.length)).2.2
def wY(m t:Nat):Nat:=if t=0 then m-1 else t-1
abbrev wZ(gs:List Gr)(way:List Int):Prop:=∀t,t<way.length->(gW gs way (wY way.length t)).2.1=(gW gs way t).1
theorem tY{gs:List Gr}{n:Int}(h0:0<=n)(h:n<(gs.length:Int)):dM gs n∈gs:=by
 unfold dM;rw[bR,aU (by lia)];exact oX _
theorem Bx{gs:List Gr}{way:List Int}(h:iT gs way){t:Nat}(ht:t<way.length):gW gs way t∈gs:=by
 have:way.getD t 0∈way:=by rw[bR,aU ht];exact oX _
 exact tY (h _ this).1 (h _ this).2
theorem By{gs:List Gr}{way:List Int}{ar:Str->Option Nat}(hg:∀g∈gs,Gd ar g)(hr:iT gs way):∀(rest:List Int) (l:Nat) (g:Gr),way.drop l=rest->1<=l->l<=way.length->Rep (eW gs way) 0 l g.2.2->Gd ar g->g.2.1=(gW gs way (l-1)).2.1 ->
 (∀g',jA gs g rest=some g'->Rep (eW gs way) 0 way.length g'.2.2/\Gd ar g'/\g'.1=g.1/\g'.2.1=(gW gs way (way.length-1)).2.1/\∀t,l<=t->t<way.length->(gW gs way (t-1)).2.1=(gW gs way t).1) /\
 (jA gs g rest=none->∃t,l<=t/\t<way.length/\(gW gs way (t-1)).2.1≠(gW gs way t).1)
 |[],l,g,hd,h1,h2,r,hG,e=>by
  have:way.length<=l:=show _ by simpa using hd
  have hl:l=way.length:=by lia
  subst hl;refine⟨λg' h=>?_,λh=>by cases h⟩;cases h;exact⟨r,hG,rfl,e,λt a b=>by lia⟩
 |n::rest,l,g,hd,h1,h2,r,hG,e=>by
  have hl:l<way.length:=by
   rcases DS l way.length with h|h
   ·exact h
   ·rw[uk h]at hd;cases hd
  rw[uz hl]at hd;obtain⟨en,ed⟩:=NV hd;have ew:way.getD l 0=n:=by rw[bR,aU hl];exact en
  have eg:gW gs way l=dM gs n:=by unfold gW;rw[ew]
  have Ld:Gd ar (dM gs n):=by rw[<-eg];exact hg _ (Bx hr hl)
  rw[jA];by_cases c:g.2.1=(dM gs n).1
  ·rw[if_pos c];have rl:Rep (eW gs way) (0+l) 1 (dM gs n).2.2:=by
    have:eW gs way (0+l)=(dM gs n).2.2:=by unfold eW;rw[xX,xZ hl,eg]
    rw[<-this];exact Rep.one
   obtain⟨m,k,q1,q2,m1,k1,_,_,hM⟩:=hG.ex;obtain⟨m',k',q1',q2',m1',k1',_,_,hM'⟩:=Ld.ex;rw[c,q1']at q2;cases q2;obtain⟨a,b⟩:=By hg hr rest (l+1) (cz g (dM gs n)) ed (by lia) (by lia) (Rep.cmp hM hM' (by lia) r rl) (hG.cmp Ld c) (by rw[Nat.add_sub_cancel,eg];rfl);refine⟨λg' h=>?_,λh=>?_⟩
   ·obtain⟨r',G',e1,e2,e3⟩:=a g' h;refine⟨r',G',e1,e2,λt a b=>?_⟩;by_cases ht:t=l
    ·subst ht;rw[<-e,c,eg]
    ·exact e3 t (by lia) b
   ·obtain⟨t,h3,h4,h5⟩:=b h;exact⟨t,by lia,h4,h5⟩
  ·rw[if_neg c];refine⟨λg' h=>(nomatch h),λ_=>⟨l,aT _,hl,?_⟩⟩;rw[<-e,eg];exact c
theorem Le{gs:List Gr}{way:List Int}{ar:Str->Option Nat}(hg:∀g∈gs,Gd ar g){g:Gr}(e:mS gs way=some g):iT gs way/\way≠[]/\Rep (eW gs way) 0 way.length g.2.2/\Gd ar g/\g.1=(gW gs way 0).1/\g.2.1=(gW gs way (way.length-1)).2.1 /\
 ∀t,1<=t->t<way.length->(gW gs way (t-1)).2.1=(gW gs way t).1:=show _ by
 unfold mS at e
 split at e
 rotate_left
 ·cases e
 rename_i hr
 cases way with
 |nil=>cases e
 |cons n l =>
  have eg:gW gs (n::l) 0=dM gs n:=rfl;have r1:Rep (eW gs (n::l)) 0 1 (dM gs n).2.2:=by
   have:eW gs (n::l) 0=(dM gs n).2.2:=by unfold eW;rw[DX,eg]
   rw[<-this];exact Rep.one
  obtain⟨a,b⟩:=By hg hr l 1 (dM gs n) rfl (aT _) (by simp) r1 (by rw[<-eg];exact hg _ (Bx hr (by simp))) (by rw[DW,eg]);obtain⟨c1,c2,c3,c4,c5⟩:=a g e;exact⟨hr,by simp,c1,c2,by rw[c3,eg],c4,c5⟩
theorem zp2{gs:List Gr}{way:List Int}{ar:Str->Option Nat}(hg:∀g∈gs,Gd ar g)(e:mS gs way=none)(hr:iT gs way)(hn:way≠[]):∃t,1<=t/\t<way.length/\(gW gs way (t-1)).2.1≠(gW gs way t).1:=show _ by
 unfold mS at e;rw[if_pos hr]at e;cases way with
 |nil=>exact absurd rfl hn
 |cons n l =>
  have eg:gW gs (n::l) 0=dM gs n:=rfl;have r1:Rep (eW gs (n::l)) 0 1 (dM gs n).2.2:=by
   have:eW gs (n::l) 0=(dM gs n).2.2:=by unfold eW;rw[DX,eg]
   rw[<-this];exact Rep.one
  exact(By hg hr l 1 (dM gs n) rfl (aT _) (by simp) r1 (by rw[<-eg];exact hg _ (Bx hr (by simp))) (by rw[DW,eg])).2 e
theorem aaI{gs:List Gr}{way:List Int}(s:Nat):eW gs way (s%way.length)=eW gs way s:=by unfold eW;rw[xY]
theorem zm0{gs:List Gr}{way:List Int}{ar:Str->Option Nat}(hg:∀g∈gs,Gd ar g)(e:wX gs way=none):¬(iT gs way/\way≠[]/\wZ gs way):=show _ by
 rintro⟨hr,hn,hc⟩;have hm:0<way.length:=N3.mpr hn;unfold wX at e;cases e1:mS gs way with
 |none =>
  obtain⟨t,h1,h2,h3⟩:=zp2 hg e1 hr hn;have:=hc t h2;rw[wY,if_neg (by lia)]at this;exact h3 this
 |some g =>
  rw[e1]at e;obtain⟨_,_,r,hG,f1,f2,f3⟩:=Le hg e1;have h0:=hc 0 hm;rw[wY,if_pos rfl,<-f2,<-f1]at h0;simp only[kq,if_pos h0]at e;cases e
theorem Aj{gs:List Gr}{g:Gr}(h:g∈gs):∃n,(n,g)∈fc gs:=by
 obtain⟨i,hi,e⟩:=jI h;refine⟨(i:Int),bO.mpr ⟨(g,i),?_,rfl⟩⟩;exact NR.mpr (by rw[aU hi,e])
theorem aaJ{gs:List Gr}{F:CL.Fd Gr}(e:iL (fc gs)=some F):(F.map bS).Nodup/\(∀g∈gs,g∈F.map bS)/\∀a∈F.map bS,∀g∈gs,a.2.1=g.1->cz a g∈F.map bS:=show _ by
 have hc:=CL.H_ e;refine⟨hc.ok.nd,λg hg=>?_,λa ha g hg hf=>?_⟩
 ·obtain⟨n,hn⟩:=Aj hg;exact hc.own _ hn
 ·obtain⟨n,hn⟩:=Aj hg;exact hc.up a ha _ hn (decide_eq_true hf)
theorem Lf{gs:List Gr}{C:List Gr}(hup:∀a∈C,∀g∈gs,a.2.1=g.1->cz a g∈C):∀{l:List Int} {h g':Gr},jA gs h l=some g'->iT gs l->h∈C->g'∈C
 |[],h,g',e,_,hh=>by cases e;exact hh
 |n::l,h,g',e,hr,hh=>by
  rw[jA]at e
  split at e
  ·rename_i c
   have hn:=hr n cL;exact Lf hup e (λx hx=>hr x (cO _ hx)) (hup h hh _ (tY hn.1 hn.2) c)
  ·cases e
theorem Lg{ar:Str->Option Nat}{x y z:Gr}(hx:Gd ar x)(hy:Gd ar y)(hz:Gd ar z)(h1:x.2.1=y.1)(h2:y.2.1=z.1):cz (cz x y) z=cz x (cz y z):=show _ by
 obtain⟨m,n,e1,e2,m1,n1,m4,n4,hM⟩:=hx.ex;obtain⟨m',n',e1',e2',m1',IQ,m4',IS,hM'⟩:=hy.ex;obtain⟨m2,n2,e12,e22,wG,n12,m42,n42,Bc⟩:=hz.ex;rw[h1,e1']at e2;cases e2;rw[h2,e12]at e2';cases e2';unfold cz;dsimp only;rw[V2 hM hM' Bc (by lia) (by lia)]
theorem Lh{gs:List Gr}{C:List Gr}{ar:Str->Option Nat}(hg:∀g∈gs,Gd ar g)(hup:∀a∈C,∀g∈gs,a.2.1=g.1->cz a g∈C){x:Gr}(hx:Gd ar x):∀{l:List Int} {h g':Gr},jA gs h l=some g'->iT gs l->Gd ar h->x.2.1=h.1->cz x h∈C->cz x g'∈C
 |[],h,g',e,_,_,_,hh=>by cases e;exact hh
 |n::l,h,g',e,hr,hG,hf,hh=>by
  rw[jA]at e
  split at e
  ·rename_i c
   have hn:=hr n cL;have Li:=hg _ (tY hn.1 hn.2);refine Lh hg hup hx e (λx hx=>hr x (cO _ hx)) (hG.cmp Li c) hf ?_;rw[<-Lg hx hG Li hf c];exact hup _ hh _ (tY hn.1 hn.2) c
  ·cases e
theorem Lj{ar:Str->Option Nat}{g:Gr}(h:Gd ar g)(hf:g.2.1=g.1)(i:Nat):∀j,cz (cB g i) (cB g j)=cB g (i+j+1)
 |0=>rfl
 |j+1=>by
  obtain⟨a,b,c⟩:=qP h hf i;obtain⟨a',b',c'⟩:=qP h hf j;show cz (cB g i) (cz (cB g j) g)=cz (cB g (i+j+1)) g;rw[<-Lg a a' h (by rw[c,b',hf]) (by rw[c',hf]),Lj h hf i j]
theorem aaK{ar:Str->Option Nat}{g:Gr}{C:List Gr}(h:Gd ar g)(hf:g.2.1=g.1)(hC:∀p,cB g p∈C):∃k,cz (cB g k) (cB g k)=cB g k:=show _ by
 have hp:∃i j,i<j/\cB g i=cB g j:=by
  rcases Classical.em (∃i j,i<j/\cB g i=cB g j) with z|z
  ·exact z
  ·exfalso
   have nd:((aZ (C.length+1)).map (cB g)).Nodup:=by
    rw[DB,Nv];exact Nw (λ{a b} ha hb hab e=>z ⟨a,b,hab,e⟩) List.pairwise_lt_range
   have:=CL.wd (c:=C) nd λx hx=>by
    obtain⟨s,_,rfl⟩:=bO.mp hx;exact hC s
   simp at this;lia
 obtain⟨i,j,hij,e⟩:=hp;have h1:∀t,cB g (i+t)=cB g (i+t+(j-i)):=by
  intro t
  induction t with
  |zero=>rw[Nat.add_zero,e];congr 1;lia
  |succ t ih =>
   have e2:i+(t+1)+(j-i)=i+t+(j-i)+1:=by lia
   rw[e2,<-kd];show cz (cB g (i+t)) g=cz (cB g (i+t+(j-i))) g;rw[<-ih]
 have h2:∀s k,i<=k->cB g k=cB g (k+s*(j-i)):=by
  intro s
  induction s with
  |zero=>intro k _;rw[Nat.zero_mul,Nat.add_zero]
  |succ s ih =>
   intro k hk;have:=h1 (k+s*(j-i)-i);rw[show i+(k+s*(j-i)-i)=k+s*(j-i) by lia]at this;rw[ih k hk,this,xT,<-kd]
 have hd:1<=j-i:=by lia
 have hk:i+1<=(i+1)*(j-i):=Nat.le_mul_of_pos_right _ hd;refine⟨(i+1)*(j-i)-1,?_⟩;rw[Lj h hf,h2 (i+1) ((i+1)*(j-i)-1) (by lia)];congr 1;lia
theorem zsc{gs:List Gr}{way:List Int}{ar:Str->Option Nat}(hg:∀g∈gs,Gd ar g)(h:iT gs way/\way≠[]/\wZ gs way):∃g,mS gs way=some g/\g.2.1=g.1:=show _ by
 cases e:wX gs way with
 |none=>exact absurd h (zm0 hg e)
 |some b =>
  unfold wX at e;rw[lY]at e;obtain⟨g,e1,e2⟩:=e
  split at e2
  ·rename_i c;exact⟨g,e1,c⟩
  ·cases e2
theorem zsk{gs:List Gr}{way:List Int}{ar:Str->Option Nat}{C:List Gr}(hg:∀g∈gs,Gd ar g)(hown:∀g∈gs,g∈C)(hup:∀a∈C,∀g∈gs,a.2.1=g.1->cz a g∈C)(hid:∀g∈C,gk g=false)(h:iT gs way/\way≠[]/\wZ gs way):La (eW gs way) way.length:=show _ by
 obtain⟨g,e,hf⟩:=zsc hg h;obtain⟨hr,hne,r,hG,f1,f2,f3⟩:=Le hg e;have hm:0<way.length:=N3.mpr hne;obtain⟨n,en,_,_,hM⟩:=hG.sq hf;have hin:∀p,cB g p∈C:=by
  have eH:Lc gs way=some g:=by unfold mS at e;rw[if_pos hr]at e;exact e
  cases way with
  |nil=>exact absurd rfl hne
  |cons x l =>
   have hx:=hr x cL;have Bz:=tY hx.1 hx.2;have hr':iT gs l:=λy hy=>hr y (cO _ hy);intro p
   induction p with
   |zero=>exact Lf hup (show jA gs (dM gs x) l=some g from eH) hr' (hown _ Bz)
   |succ p ih =>
    obtain⟨a,b,c⟩:=qP hG hf p;have hfx:(cB g p).2.1=(dM gs x).1:=by rw[c,hf,f1];rfl
    exact Lh hg hup a (show jA gs (dM gs x) l=some g from eH) hr' (hg _ Bz) hfx (hup _ ih _ Bz hfx)
 obtain⟨k,ek⟩:=aaK hG hf hin;obtain⟨a,b,c⟩:=qP hG hf k;have hb:=hid _ (hin k);have hfit:fG (cB g k) (cB g k)=true:=decide_eq_true (by rw[b,c,hf]);have hfl:j6 (cB g k).2.2=true:=by
  unfold gk at hb;rw[hfit,decide_eq_true ek]at hb;simpa using hb
 exact aaH hm aaI hG hf en r hfl
theorem zqy{prog:List Er}{x:Str}{ts:List ak}{m:Nat}(hs:∀t∈ts,Sz t):∀e,(ie prog x ts m).be[0]?=some e->e=⟨.non,.non,x,ts⟩:=λe he=>by
 unfold ie at he;cases m with
 |zero=>simp[enter,Rs.be]at he
 |succ m =>
  rw[enter,if_pos (by simp)]at he;rw[lX]at he;exact dg (he.symm.trans (mQ (fe (oJ (qN prog) (m+1) m) hs _ _ _ (by simp)).pre rfl))
def w8(be:List En)(j k:Nat):Prop:=∃e,be[k]?=some e/\1<=k/\e.pr=.int j
def iU(be:List En)(a k:Nat):Prop:=∃(m:Nat) (f:Nat->Nat),1<=m/\f 0=a/\f m=k/\∀t,t<m->w8 be (f t) (f (t+1))
theorem iU.one{be:List En}{j k:Nat}(h:w8 be j k):iU be j k:=⟨1,λt=>if t=0 then j else k,aT _,rfl,rfl,λt ht=>by
 have:t=0:=by lia
 subst this;exact h⟩
theorem iU.snoc{be:List En}{a j k:Nat}(h:iU be a j)(h':w8 be j k):iU be a k:=show _ by
 obtain⟨m,f,h1,h2,h3,h4⟩:=h;refine⟨m+1,λt=>if t<=m then f t else k,by lia,(if_pos (bV _)).trans h2,if_neg (by lia),λt ht=>?_⟩;dsimp only;by_cases c:t<m
 ·rw[if_pos (by lia),if_pos (by lia)];exact h4 t c
 ·have:t=m:=by lia
  subst this;rw[if_pos (aT _),if_neg (by lia),h3];exact h'
def iV(ts:List ak)(i:Nat):Nat:=match ts[i]? with|some t=>t.size|none=>0
theorem aaL{rows:bh}{a b:List ak}(h:tW rows a b)(hm:∀i k,at2 rows i k<=2){i k:Nat}(h1:1<=at2 rows i k):iV b k<=iV a i/\(2<=at2 rows i k->iV b k<iV a i):=show _ by
 obtain⟨hi,hk⟩:=Bv h1;have hia:i<a.length:=by rw[<-h.len];exact hi
 have er:rows[i]?=some (rows.getD i []):=by rw[bR,aU hi];rfl
 have ea:a[i]?=some a[i]:=aU hia;obtain⟨hl,hr⟩:=h.row i _ _ er ea;have hkb:k<b.length:=by rw[<-hl];exact hk
 have ev:(rows.getD i [])[k]?=some (at2 rows i k):=by unfold at2;rw[bR (l:=rows.getD i []),aU hk];rfl
 have eb:b[k]?=some b[k]:=aU hkb;obtain⟨g2,g1⟩:=hr k _ _ ev eb;have hle:=hm i k;unfold iV;rw[ea,eb];refine⟨?_,λz=>g2 (by lia)⟩;by_cases c:at2 rows i k=2
 ·exact mU (g2 c)
 ·exact g1 (by lia)
theorem Lk{T:Nat->bh}{sz:Nat->Nat->Nat}(h:∀t i k,1<=at2 (T t) i k->sz (t+1) k<=sz t i){t i:Nat}:∀{l k:Nat} {b:Bool},Wk T t l i k b->sz (t+l) k<=sz t i
 |0,k,_,⟨e,_⟩=>by rw[e];exact aT _
 |l+1,k,_,⟨j,b',w,h1,_⟩=>cC (h _ _ _ h1) (Lk h w)
theorem aaM{prog:List Er}{be:List En}{ar:Str->Option Nat}{C:List Gr}(I:fX prog be)(hg:∀g∈cG prog,Gd ar g)(hown:∀g∈cG prog,g∈C)(hup:∀a∈C,∀g∈cG prog,a.2.1=g.1->cz a g∈C)(hid:∀g∈C,gk g=false)
 {a k:Nat} {ea ek:En} (h:iU be a k) (ha:be[a]?=some ea) (hk:be[k]?=some ek) (e1:ea.nm=ek.nm) (e2:ea.ts=ek.ts):False:=show _ by
 obtain⟨m,f,m1,f0,fm,hp⟩:=h;have st:∀t,∃(n:Nat) (rows:bh) (x y:En),t<m->be[f t]?=some x/\be[f (t+1)]?=some y/\(cG prog)[n]?=some (x.nm,y.nm,rows)/\tW rows x.ts y.ts:=λt=>by
  by_cases ht:t<m
  ·obtain⟨e,h1,h2,h3⟩:=hp t ht;obtain⟨p,n,e',rows,g1,g2,g3,g4,g5,g6,g7⟩:=(I _ e h2 h1).ex;rw[h3]at g1;have:f t=p:=by have:=D.int.inj g1;lia
   rw[<-this]at g4;exact⟨n,rows,e',e,λ_=>⟨g4,h1,g5,g6⟩⟩
  ·exact⟨0,[],ea,ek,λz=>absurd z ht⟩
 obtain⟨ns,st⟩:=x_ st;obtain⟨rs,st⟩:=x_ st;obtain⟨xs,st⟩:=x_ st;obtain⟨ys,st⟩:=x_ st;have hxy:∀t,t+1<m->ys t=xs (t+1):=λt ht=>by
  have a:=(st t (by lia)).2.1;have b:=(st (t+1) ht).1;rw[a]at b;exact dg b
 have hx0:xs 0=ea:=by
  have a:=(st 0 (by lia)).1;rw[f0,ha]at a;exact(dg a).symm
 have Ll:ys (m-1)=ek:=by
  have a:=(st (m-1) (by lia)).2.1;rw[show m-1+1=m by lia,fm,hk]at a;exact(dg a).symm
 obtain⟨way,BA⟩:∃way:List Int,way=(aZ m).map λt=>(ns t:Int):=⟨_,rfl⟩;have hwl:way.length=m:=by rw[BA];simp
 have hwt:∀t,t<m->way.getD t 0=(ns t:Int):=λt ht=>by rw[BA];exact v_ ht
 have hgw:∀t,t<m->gW (cG prog) way t=((xs t).nm,(ys t).nm,rs t):=λt ht=>by
  unfold gW dM;rw[hwt t ht,jD,bR,(st t ht).2.2.1];rfl
 have hcl:iT (cG prog) way/\way≠[]/\wZ (cG prog) way:=by
  refine⟨λn hn=>?_,λz=>by rw[z]at hwl;simp at hwl;lia,λt ht=>?_⟩
  ·rw[BA]at hn;obtain⟨t,ht,rfl⟩:=bO.mp hn;have:=(b4.mp (st t (ik.mp ht)).2.2.1).1;lia
  ·rw[hwl]at ht ⊢;unfold wY;by_cases c:t=0
   ·subst c;rw[if_pos rfl,hgw _ (by lia),hgw _ ht];show(ys (m-1)).nm=(xs 0).nm;rw[Ll,hx0,e1]
   ·rw[if_neg c,hgw _ (by lia),hgw _ ht];show(ys (t-1)).nm=(xs t).nm;rw[hxy (t-1) (by lia),show t-1+1=t by lia]
 have Lm:=zsk hg hown hup hid hcl;rw[hwl]at Lm;obtain⟨t,i,j,ht,h2,l,b,w,hl⟩:=Lm;have hTt:∀s,eW (cG prog) way s=rs (s%m):=λs=>by
  unfold eW;rw[hwl,hgw _ (DZ _ (by lia))]
 have hlt2:∀s i j,s<m->at2 (rs s) i j<=2:=λs i j hs=>by
  have hG:Gd ar ((xs s).nm,(ys s).nm,rs s):=hg _ (c8 (st s hs).2.2.1);obtain⟨_,_,_,_,_,_,_,_,hM⟩:=hG.ex;exact(hM.at i j).2
 have key:∀s i j,1<=at2 (eW (cG prog) way s) i j->iV (xs ((s+1)%m)).ts j<=iV (xs (s%m)).ts i/\(2<=at2 (eW (cG prog) way s) i j->iV (xs ((s+1)%m)).ts j<iV (xs (s%m)).ts i):=λs i j h1=>by
  have hs:s%m<m:=DZ _ (by lia);rw[hTt]at h1 ⊢;have g:=aaL (st _ hs).2.2.2 (λi j=>hlt2 _ i j hs) h1;have e:(xs ((s+1)%m)).ts=(ys (s%m)).ts:=by
   by_cases c:s%m+1<m
   ·rw[hxy _ c];congr 2;rw[m9,xZ (show 1<m by lia),xZ c]
   ·have em:s%m=m-1:=by lia
    have e0:(s+1)%m=0:=by
     have:=Nat.div_add_mod s m;rw[em]at this;have h3:s+1=m*(s/m+1):=by rw[Nat.mul_succ];lia
     rw[h3];exact DY ..
    rw[e0,em,hx0,Ll,e2]
  rw[e];exact g
 have w1:=Lk (sz:=λs i=>iV (xs (s%m)).ts i) (λs i j h=>(key s i j h).1) w;have w2:=(key t i j (by lia)).2 h2;have Bw:iV (xs ((t+1+l)%m)).ts i<=iV (xs ((t+1)%m)).ts j:=w1;rw[hl]at Bw;rw[xZ ht]at w2;lia
theorem Ln{tc:cE}{t u:b7}{D3:gE}{σ:aJ}{S:af}(h:pz tc t u D3 σ S):zW tc t u D3 σ S:=h
structure PgX(prog:List Er):Prop where
 wD:1<=prog.length
 len:prog.length<=12
 rp:Rp prog 10000
 ps:∀e∈prog,1<=e.ps.length/\e.ps.length<=4/\e.ps.Nodup
 deep:∀e∈prog,e.body.deep<=12
 size:∀e∈prog,e.body.pre.length<=5000
theorem Pg.x{prog:List Er}(h:Pg prog):PgX prog :=
 ⟨h.wD,h.len,⟨by have:=h.len;lia,h.nd,λe he=>(h.body e he).wf,λe he=>by have:=(h.body e he).size;lia,by decide⟩,λe he=>⟨(h.ps e he).1,(h.ps e he).2.1,(h.ps e he).2.2.1⟩,λe he=>(h.body e he).deep,λe he=>(h.body e he).size⟩
theorem zqd{F:CL.Fd Gr}(e:mH F=none):∀g∈F.map bS,gk g=false:=by
 intro g hg;obtain⟨p,hp,rfl⟩:=bO.mp hg;unfold mH at e;rw[Option.map_eq_none_iff,NZ]at e;simpa using e p hp
theorem aaN{a b:List ak}(h:(a.map ak.dt)=b.map ak.dt):a=b:=show _ by
 have inj:∀{s t:ak},s.dt=t.dt->s=t:=λ{s}=>by
  induction s with
  |aI=>intro t h;cases t with|aI=>rfl|pair l r=>cases h
  |pair l r ihl ihr =>
   intro t h;cases t with
   |aI=>cases h
   |pair l' r' =>
    simp only[ak.dt,Dt.tup.injEq,rh,and_true]at h;rw[ihl h.1,ihr h.2]
 induction a generalizing b with
 |nil=>cases b with|nil=>rfl|cons _ _=>cases h
 |cons x a ih =>
  cases b with
  |nil=>cases h
  |cons y b =>
   rw[bL,bL,rh]at h;rw[inj h.1,ih h.2]
theorem BB:∀t:ak,t.d.pure=true
 | .aI=>rfl
 | .pair l r=>by simp only[ak.d,D.pure,D.gI,BB l,BB r,iW]
theorem BC:∀t:ak,t.d.dt=t.dt
 | .aI=>rfl
 | .pair l r=>by simp only[ak.d,D.dt,D.dX,ak.dt,BC l,BC r]
theorem Lo:∀ts:List ak,gc (ts.map ak.dt)=true
 |[]=>rfl
 |t::r=>by simp only[bL,gc,t.yU,Lo r,iW]
def cg(e:En):D:=.tup [.str e.nm,.tup (e.ts.map ak.d)]
def qQ(e:En):Dt:=.tup [.str e.nm,.tup (e.ts.map ak.dt)]
theorem aaO(ts:List ak):D.dX (ts.map ak.d)=ts.map ak.dt:=by
 rw[D.mv,fY];exact DM λt _=>BC t
theorem BD(e:En):(cg e).dt=qQ e:=by simp only[cg,qQ,D.dt,D.dX,aaO]
theorem Lp(e:En):(cg e).pure=true:=by
 have:D.gI (e.ts.map ak.d)=true:=D.pC.mpr λd hd=>by
  obtain⟨t,_,rfl⟩:=bO.mp hd;exact BB t
 simp only[cg,D.pure,D.gI,this,iW]
theorem aaP{e:En}(h:∀t∈e.ts,Sz t):dF (cg e).dt<=199:=by
 rw[BD];have:fi (e.ts.map ak.dt)<=60:=zL λd hd=>by
  obtain⟨t,ht,rfl⟩:=bO.mp hd;rw[t.yT];have h1:=t.yO;have h2:t.size<=60:=h t ht;lia
 simp only[qQ,dF,fi];lia
theorem aaQ{a b:En}(h:bf (cg a).dt (cg b).dt=true):a.nm=b.nm/\a.ts=b.ts:=by
 rw[BD,BD]at h;have pl:∀e:En,f_ (qQ e)=true:=λe=>by simp only[qQ,f_,gc,Lo,iW]
 have e:=yQ (pl a) (pl b) h;simp only[qQ,Dt.tup.injEq,rh,Dt.str.injEq,and_true]at e;exact⟨e.1,aaN e.2⟩
theorem aaR{S:af}{Q:K3}{a:Addr}{xs:List En}{e:En}(hS:S a=some (.lst (xs.map cg)))(hz:∀x∈xs,∀t∈x.ts,Sz t)(hn:∀x∈xs,¬(x.nm=e.nm/\x.ts=e.ts))(q:Q (.bl false) S):wq 199 (cg e) (.ref a) S Q:=show _ by
 refine⟨(cg e).dt,a,xs.map cg,D.dX (xs.map cg),Dn.of (Lp e),rfl,hS,eS.of (D.pC.mpr λd hd=>?_),λd hd=>?_,?_⟩
 ·obtain⟨x,_,rfl⟩:=bO.mp hd;exact Lp x
 ·rw[D.mv]at hd;obtain⟨d',hd',rfl⟩:=bO.mp hd;obtain⟨x,hx,rfl⟩:=bO.mp hd';exact aaP (hz x hx)
 ·have e0:((D.dX (xs.map cg)).any λd=>bf d (cg e).dt)=false:=by
   rw[MQ];intro d hd z;rw[D.mv]at hd;obtain⟨d',hd',rfl⟩:=bO.mp hd;obtain⟨x,hx,rfl⟩:=bO.mp hd';exact hn x hx (aaQ z)
  rw[e0];exact q
theorem aaS{f:Addr}{fd:FuncData}(F:ny K "law" "law" ll f fd)(G:Gs K mg)(R:kQ K mg ES adr)(mK:av P w K mg base 89 "_law_cell_at" ["script","k"] wA)(dJ:av P w K mg base 89 "_law_next" ["script","spot"] ox)(BE:av P w K mg base 89 "_law_any" ["script","spot","way","most"] JD)
 (BF:av P w K mg base 89 "_law_tree_by" ["cell","room"] JE) (BG:av P w K mg base 89 "judged" ["program"] (Kj adr)) (BH:av P w K mg base 89 "entries" ["program","name","trees","most"] KI):dn P w K mg base (cc P w) 90 f fd ["script"] (jk K pH):=show _ by
 refine Ue F fT λcdv A outer s0 H E ns hr h63=>?_;have hu:=o_ hr;refine⟨_,(au (aH (i:=1) fT.nd rfl (Or.inl rfl) (dq (ae aj ah)))
 (au (aH (i:=2) fT.nd rfl (Or.inl rfl) (aQ BE hr rfl (ae (aa 0) (ae (aa 1) (ae (aE dm aY (aE bX aY (aQ mK hr rfl (ae (aa 0) (ae aj ah))) aj) aj) (ae aj ah))))))
 (au (aH (i:=3) fT.nd rfl (Or.inl rfl) (aA d_ eA (aa 2) (aE bX aY (aQ mK hr rfl (ae (aa 0) (ae aj ah))) (dH eI eU rfl G.len eC (ae (aa 2) ah))) (λ_ _=>rfl)))
 (au (aH (i:=4) fT.nd rfl (Or.inl rfl) (dq ah))
 (au (e_ eD rfl (gH rfl G.range (ae (dH eI eU rfl G.len eC (ae (aA aO aP (aa 3) aj (λ_ _=>rfl)) ah)) ah)) (dv (i:=5) fT.nd rfl (Or.inl rfl)) (au (aH (i:=6) fT.nd rfl (Or.inl rfl) (aQ dJ hr rfl (ae (aa 0) (ae (aa 1) ah))))
 (ay (b8 (cZ bW c_ dj cY de (aa 4) (ae (aQ BF hr rfl (ae (aE dm aY (aa 6) aj) (ae (aE bX aY (aa 6) aj) ah))) ah))))))
 (au (aH (i:=7) fT.nd rfl (Or.inl rfl) (bw (ae bE (ae eZ ah))))
 (au (UI rfl rfl (λ_ _ _=>(ay (aH (i:=7) fT.nd rfl (Or.inl rfl) (aQ BG hr rfl (ae (aa 2) ah))))) (UH (R.bound .many (by decide)) (R.base (i:=.many) (by decide)) rfl (λ_=>(ay (aH (i:=7) fT.nd rfl (Or.inl rfl) (bw (ae bE (ae eZ ah)))))) UG))
 (au (aH (i:=8) fT.nd rfl (Or.inl rfl) (aQ BH hr rfl (ae (aa 2) (ae (aA aO aP (aa 3) aj (λ_ _=>rfl)) (ae (aa 4) (ae (aE bX aY (aE dm aY (aQ mK hr rfl (ae (aa 0) (ae aj ah))) aj) aj) ah))))))
 (au (cy (br rN zk (aA aO aP (aa 7) aj (λ_ _=>rfl)) bE (bC _)) (ay (bz mr)) cw)
 (au (aH (i:=9) fT.nd rfl (Or.inl rfl) (dq ah))
 (au (e_ eD rfl (IA rfl G.enumerate (ae (aa 8) ah)) (sE rfl (jV (dv (i:=10) fT.nd rfl (Or.inl rfl)) (jV (dv (i:=11) fT.nd rfl (Or.inl rfl)) sD))) (au (aH (i:=12) fT.nd rfl (Or.inl rfl) (dq ah))
 (au (gK (br Es Gg (aA aO aP (aa 11) aj (λ_ _=>rfl)) eZ (bC _)) (au (gK (FF (VU PY iG o8 iG aj (aA aO aP (aa 11) aj (λ_ _=>rfl)) (aa 10))) (ay (bz mr)) cw)
 (ay (aH (i:=12) fT.nd rfl (Or.inl rfl) (aA d_ eA (aa 9) (aA aO aP (aa 11) aj (λ_ _=>rfl)) (λ_ _=>rfl))))) cw)
 (au (gK (br (IC (zw hr)) IE (bw (ae (aA aO aP (aa 11) aj (λ_ _=>rfl)) (ae (aA aO aP (aa 11) aj (λ_ _=>rfl)) ah))) (aa 12) (by with_unfolding_all rfl)) (ay (bz mr)) cw)
 (ay (b8 (cZ bW c_ dj cY de (aa 9) (ae (aE u3 vq (aa 12) (dq (ae (bw (ae (aA aO aP (aa 11) aj (λ_ _=>rfl)) (ae (aA aO aP (aa 11) aj (λ_ _=>rfl)) ah))) ah))) ah))))))))
 (ay (bz mr))))))))))))),?_⟩
 have cell:∀{k:Int} {S:af} {Q:K3} {W:X3},0<=k->Q (.int (cellAt ns k)) S->wA [.bH (ns.map D.int),.int k] S Q W:=λh0 q=>⟨ns,_,rfl,h0,q⟩;nofun;intro sp hsp;nofun;refine cell (by decide) ?_;nofun;refine⟨ns,sp,2,_,2,[],rfl,ax,by decide,by decide,by decide,λprog i2 hg hl2 hi=>?_⟩;intro pr hpr;have n1:sp≠pr:=ne3 ax hpr;have aaT:up (up emp sp (.lst [.int 2])) sp (.lst [.int i2]) pr=none:=by rw[aW n1.symm];exact hpr
 have a1:=aD (o:=.lst (prog.map Er.d)) (ax (S:=up emp sp (.lst [.int 2])) (a:=sp) (o:=.lst [.int i2])) aaT;have a2:up (up (up emp sp (.lst [.int 2])) sp (.lst [.int i2])) pr (.lst (prog.map Er.d)) pr=_:=ax;generalize up (up (up emp sp (.lst [.int 2])) sp (.lst [.int i2])) pr (.lst (prog.map Er.d))=S1 at a1 a2 ⊢;have hX:=hg.x;have hok:=hg.ok;nofun;refine cell (by decide) ?_;obtain⟨jt,e0,wC,ye,hat⟩:=vV (f:=Er.d) (cellAt ns 1) (show 0<prog.length by have:=hX.wD;lia);have Lq:=c8 ye;have hpp:(0:Int)<((prog.map Er.d).length:Int):=by rw[aG];have:=hX.wD;lia
 nofun;refine fj a2 hat ?_;rw[show e0.d=.tup [.str e0.name,.tup (e0.ps.map D.str),e0.body.d] from rfl];have hps:=hX.ps e0 Lq;nofun;intro tr htr;have b1:=aD (o:=.lst []) a1 htr;have Lr:=aD (o:=.lst []) a2 htr;have b3:up S1 tr (.lst []) tr=some (.lst (([]:List ak).map ak.d)):=ax;have m1:sp≠tr:=ne3 a1 htr;have m2:pr≠tr:=ne3 a2 htr;generalize up S1 tr (.lst [])=S2 at b1 Lr b3 ⊢;nofun;rw[aG];refine GV ⟨by lia,by lia⟩ ?_;refine⟨λj σ S'=>lr λ(ts:List ak) (i:Int) (x5 x6:Option D)=>σ=[some (.bH (ns.map D.int)),some (.ref sp),some (.ref pr),some (.tup [.str e0.name,.tup (e0.ps.map D.str),e0.body.d]),some (.ref tr),x5,x6,none,none,none,none,none,none]/\ts.length=j/\(∀t∈ts,Sz t)/\0<=i/\S' sp=some (.lst [.int i])/\S' pr=some (.lst (prog.map Er.d))/\S' tr=some (.lst (ts.map ak.d)),
  ⟨[],i2,none,none,rfl,rfl,by simp,hi,b1,Lr,b3⟩,λ_ _ _ _=>trivial,?_,?_⟩
 ·rintro j d σ S' hd ⟨ts,i,x5,x6,rfl,hl,hz,h0,g1,g2,g3⟩;have hj:=(b4.mp hd).1;rw[dW]at hj;nofun;refine⟨ns,sp,i,[],rfl,g1,h0,?_⟩;have k1:up S' sp (.lst [.int (i+1)]) sp=some (.lst [.int (i+1)]):=ax;have k2:=(aW (o:=.lst [.int (i+1)]) n1.symm).trans g2;have k3:=(aW (o:=.lst [.int (i+1)]) m1.symm).trans g3;generalize up S' sp (.lst [.int (i+1)])=S3 at k1 k2 k3 ⊢;generalize cellAt ns i=c;have c0:=gS c (show(13:Int)≠0 by decide);have c1:=qZ c (show(0:Int)<13 by decide);nofun;refine⟨_,_,rfl,c0,by lia,λt ht=>?_⟩;nofun;refine cJ k3 (c6 (by rw[aG];lia)) ?_;nofun;refine⟨ts++[t],i+1,_,_,rfl,by simp[hl],λu hu=>?_,by lia,(aW m1).trans k1,(aW m2).trans k2,by rw[ax,da];rfl⟩;rcases dh.mp hu with hu|hu
  ·exact hz u hu
  ·rw[ft.mp hu];show t.size<=60;lia
 rintro σ S4 ⟨ts,i,x5,x6,rfl,hl,hs,h0,d1,d2,d3⟩;rw[dW]at hl;have har:eV prog e0.name=some ts.length:=by rw[KE hX.rp.nd Lq,hl];simp
 have l0:=gS (cellAt ns 1/4) (show(41:Int)≠0 by decide);have l1:=qZ (cellAt ns 1/4) (show(0:Int)<41 by decide);obtain⟨m,hm⟩:=Int.eq_ofNat_of_zero_le l0;have ok:qO prog e0.name ts m:=⟨⟨10000,hX.rp,by lia⟩,by lia,har,hs⟩;have I0:=ok.aaG (λe he=>(hX.ps e he).2.2);have X0:=aaC (prog:=prog) (x:=e0.name) (m:=m) hs;have F0:=zqy (prog:=prog) (x:=e0.name) (m:=m) hs;obtain⟨be,hbe⟩:∃be,(ie prog e0.name ts m).be=be:=⟨_,rfl⟩;have lbe:be.length<=m:=by rw[<-hbe];exact X0.le
 rw[hbe]at I0 F0;nofun;cases eF:iL (fc (cG prog)) with
 |none =>
  refine⟨pr,prog,eV prog,rfl,d2,hok,λF z=>(by rw[eF]at z;cases z),λ_ a=>?_⟩;refine UL (R.two .many (by decide) .many (by decide)) ?_;nofun;refine cell (by decide) ?_;nofun;rw[hm];refine⟨pr,tr,prog,e0.name,ts,m,rfl,d2,d3,ok,?_⟩;intro pf hpf;nofun;rfl
 |some F =>
  obtain⟨hnd,hown,hup⟩:=aaJ eF;refine⟨pr,prog,eV prog,rfl,d2,hok,λF' z=>?_,λz=>(by rw[eF]at z;cases z)⟩;rw[eF]at z;cases z;cases eT:mH F with
  |some w =>
   refine⟨λw' z=>?_,λz=>(by rw[eT]at z;cases z)⟩;unfold Kg;nofun;refine cell (by decide) ?_;nofun;rw[hm];refine⟨pr,tr,prog,e0.name,ts,m,rfl,d2,d3,ok,?_⟩;intro pf hpf;nofun;rfl
  |none =>
   have aaU:=zqd eT;refine⟨λw' z=>(by rw[eT]at z;cases z),λ_ p1 hp1=>?_⟩;replace d2:=aD (o:=.lst ((F.map bS).map bj)) d2 hp1;replace d3:=aD (o:=.lst ((F.map bS).map bj)) d3 hp1;generalize up S4 p1 (.lst ((F.map bS).map bj))=S5 at d2 d3 ⊢;nofun;refine cell (by decide) ?_;nofun;rw[hm];refine⟨pr,tr,prog,e0.name,ts,m,rfl,d2,d3,ok,?_⟩;rw[hbe];intro pf hpf;have h5:up S5 pf (.lst (be.map En.d)) pf=some (.lst (be.map En.d)):=ax;generalize up S5 pf (.lst (be.map En.d))=S6 at h5 ⊢;nofun;intro pe hpe;have n3:pf≠pe:=ne3 h5 hpe;have k5:=aD (o:=.lst []) h5 hpe;have k6:up S6 pe (.lst []) pe=some (.lst (([]:List Addr).map D.ref)):=ax;generalize up S6 pe (.lst [])=S7 at k5 k6 ⊢;have zes:∀e∈be,∀t∈e.ts,Sz t:=λe he=>by
    obtain⟨i,hi,ei⟩:=jI he;by_cases c:i=0
    ·subst c;rw[F0 e (by rw[aU hi,ei])];exact hs
    ·exact(I0 i e (by lia) (by rw[aU hi,ei])).sz
   nofun;refine⟨λj σ S'=>Ax λ(as:List Addr) (Ls:List (List Nat)) (x10 x11 x12:Option D)=>σ=[some (.bH (ns.map D.int)),some (.ref sp),some (.ref pr),some (.tup [.str e0.name,.tup (e0.ps.map D.str),e0.body.d]),some (.ref tr),x5,x6,some (.tup [.str "ends",.ref p1]),some (.ref pf),some (.ref pe),x10,x11,x12]/\S' pf=some (.lst (be.map En.d))/\S' pe=some (.lst (as.map D.ref))/\as.length=j/\Ls.length=j/\j<=be.length /\
    ∀(i:Nat) (a:Addr) (L:List Nat),as[i]?=some a->Ls[i]?=some L->S' a=some (.lst ((L.filterMap λx=>be[x]?).map cg))/\(∀x∈L,x<be.length/\(x=i∨iU be x i))/\L.length<=i+1/\a≠pe/\a≠pf,
    ⟨[],[],_,_,_,rfl,k5,k6,rfl,rfl,bV _,λi a L h=>by simp at h⟩,λj σ S' ⟨_,_,_,_,_,_,h,_⟩=>h,?_,?_⟩
   rotate_left
   ·rintro σ S' ⟨as,Ls,x10,x11,x12,rfl,g1,_⟩;nofun;rfl
   rintro j d σ S' hd ⟨as,Ls,x10,x11,x12,rfl,g1,g2,hal,hLl,hjb,hall⟩;rw[wj]at hd;obtain⟨d2',hd2,rfl⟩:=dz.mp hd;rw[a7]at hd2;obtain⟨e,he,rfl⟩:=dz.mp hd2;have hjl:j<be.length:=(b4.mp he).1;have J8:=c8 he;rw[show e.d=.tup [e.pr,e.nu,.str e.nm,.tup (e.ts.map ak.d)] from rfl];nofun;intro p2 hp2;have q1:=aD (o:=.lst []) g1 hp2;have q2:=aD (o:=.lst []) g2 hp2;have q3:up S' p2 (.lst []) p2=some (.lst ((([]:List Nat).filterMap λx=>be[x]?).map cg)):=ax;have q4:∀(i:Nat) (a:Addr) (L:List Nat),as[i]?=some a->Ls[i]?=some L->up S' p2 (.lst []) a=some (.lst ((L.filterMap λx=>be[x]?).map cg))/\(∀x∈L,x<be.length/\(x=i∨iU be x i))/\L.length<=i+1/\a≠pe/\a≠pf:=λi a L h1 h2=>by
    obtain⟨z1,z2⟩:=hall i a L h1 h2;exact⟨aD z1 hp2,z2⟩
   have n4:pe≠p2:=ne3 g2 hp2;have n5:pf≠p2:=ne3 g1 hp2;generalize up S' p2 (.lst [])=T at q1 q2 q3 q4 ⊢;clear g1 g2 hall;nofun;refine hV (λσ T'=>lq λ(ab:Addr) (L:List Nat)=>σ=[some (.bH (ns.map D.int)),some (.ref sp),some (.ref pr),some (.tup [.str e0.name,.tup (e0.ps.map D.str),e0.body.d]),some (.ref tr),x5,x6,some (.tup [.str "ends",.ref p1]),some (.ref pf),some (.ref pe),some (.int (j:Int)),some (.tup [e.pr,e.nu,.str e.nm,.tup (e.ts.map ak.d)]),some (.ref ab)]/\T'=T/\T ab=some (.lst ((L.filterMap λx=>be[x]?).map cg))/\(∀x∈L,x<be.length/\iU be x j)/\L.length<=j/\ab≠pe/\ab≠pf) ?_ ?_
   ·intro n' hn';by_cases c0:j=0
    ·subst c0;obtain rfl:=F0 e he;nofun;exact hn' _ _ ⟨p2,[],rfl,rfl,q3,by simp,aT _,n4.symm,n5.symm⟩
    ·obtain⟨p,n,e',rows,w1,w2,w3,w4,w5,w6,w7⟩:=(I0 j e (by lia) he).ex;have Lu:w8 be p j:=⟨e,he,by lia,w1⟩;have hpa:p<as.length:=by lia
     have hpL:p<Ls.length:=by lia
     obtain⟨z1,z2,z3,z4,z5⟩:=q4 p as[p] Ls[p] (aU hpa) (aU hpL);have c1:(0:Int)<=(p:Int):=by lia
     have c2:(p:Int)<(j:Int):=by lia
     rw[w1];nofun;refine Ln ?_;nofun;refine fj q2 (fP (by rw[a7,aU hpa];rfl)) ?_;rw[<-w1];refine hn' _ _ ⟨as[p],Ls[p],rfl,rfl,z1,λx hx=>?_,by lia,z4,z5⟩;obtain⟨y1,y2⟩:=z2 x hx;rcases y2 with y2|y2
     ·rw[y2];exact⟨by lia,iU.one Lu⟩
     ·exact⟨y1,y2.snoc Lu⟩
   rintro σ T' ⟨ab,L,rfl,rfl,r1,r2,r3,r4,r5⟩;have hmap:∀x∈L.filterMap λx=>be[x]?,∃i∈L,be[i]?=some x:=λx hx=>by
    obtain⟨i,hi,e⟩:=oP.mp hx;exact⟨i,hi,e⟩
   have hlm:(L.filterMap λx=>be[x]?).length<=L.length:=List.length_filterMap_le _ _;nofun;refine Ln ?_;nofun;show wq 199 (cg e) _ _ _;refine aaR r1 (λx hx=>?_) (λx hx hz=>?_) ?_
   ·obtain⟨i,_,ei⟩:=hmap x hx;exact zes x (c8 ei)
   ·obtain⟨i,hi,ei⟩:=hmap x hx;exact aaM I0 hok.gd hown hup aaU (r2 i hi).2 ei he hz.1 hz.2
   nofun;intro p3 hp3;have s1:=aD (o:=.lst [cg e]) r1 hp3;have s2:=aD (o:=.lst [cg e]) q2 hp3;have s3:=aD (o:=.lst [cg e]) q1 hp3;have n6:pe≠p3:=ne3 q2 hp3;have n7:pf≠p3:=ne3 q1 hp3;have s4:up T' p3 (.lst [cg e]) p3=some (.lst [cg e]):=ax;have s5:∀(i:Nat) (a:Addr) (L:List Nat),as[i]?=some a->Ls[i]?=some L->up T' p3 (.lst [cg e]) a=some (.lst ((L.filterMap λx=>be[x]?).map cg))/\(∀x∈L,x<be.length/\(x=i∨iU be x i))/\L.length<=i+1/\a≠pe/\a≠pf:=λi a L h1 h2=>by
    obtain⟨z1,z2⟩:=q4 i a L h1 h2;exact⟨aD z1 hp3,z2⟩
   show zp _ _ (up T' p3 (.lst [cg e])) _;generalize up T' p3 (.lst [cg e])=T2 at s1 s2 s3 s4 s5 ⊢;refine vC s1 s4 (by rw[aG];exact fB (by simp;lia)) ?_;intro p4 lD;have eL:(L.filterMap λx=>be[x]?).map cg++[cg e]=((L++[j]).filterMap λx=>be[x]?).map cg:=by
    rw[List.filterMap_append,da];simp[he]
   rw[eL];have t2:=aD (o:=.lst (((L++[j]).filterMap λx=>be[x]?).map cg)) s2 lD;have t3:=aD (o:=.lst (((L++[j]).filterMap λx=>be[x]?).map cg)) s3 lD;have n8:pe≠p4:=ne3 s2 lD;have n9:pf≠p4:=ne3 s3 lD;have t4:up T2 p4 (.lst (((L++[j]).filterMap λx=>be[x]?).map cg)) p4=_:=ax;have t5:∀(i:Nat) (a:Addr) (L':List Nat),as[i]?=some a->Ls[i]?=some L'->up T2 p4 (.lst (((L++[j]).filterMap λx=>be[x]?).map cg)) a=some (.lst ((L'.filterMap λx=>be[x]?).map cg))/\(∀x∈L',x<be.length/\(x=i∨iU be x i))/\L'.length<=i+1/\a≠pe/\a≠pf:=λi a L' h1 h2=>by
    obtain⟨z1,z2⟩:=s5 i a L' h1 h2;exact⟨aD z1 lD,z2⟩
   generalize up T2 p4 (.lst (((L++[j]).filterMap λx=>be[x]?).map cg))=T3 at t2 t3 t4 t5 ⊢;nofun;refine cJ t2 (by rw[aG];exact c6 (by lia)) ?_;refine⟨as++[p4],Ls++[L++[j]],_,_,_,rfl,(aW n3).trans t3,by rw[ax,da];rfl,by simp[hal],by simp[hLl],hjl,λi a L' h1 h2=>?_⟩;by_cases c:i<as.length
   ·rw[lR c]at h1;rw[lR (by lia)]at h2;obtain⟨z1,z2,z3,z4,z5⟩:=t5 i a L' h1 h2;exact⟨(aW z4).trans z1,z2,z3,z4,z5⟩
   ·rw[mX (by lia)]at h1;rw[mX (by lia)]at h2;have hi0:i-as.length=0:=by
     have:=(b4.mp h1).1;simp at this;lia
    have hi1:i-Ls.length=0:=by lia
    rw[hi0]at h1;rw[hi1]at h2;have e1:p4=a:=by simpa using h1
    have e2:L++[j]=L':=by simpa using h2
    have e3:i=j:=by lia
    subst e1 e2 e3;refine⟨(aW n8.symm).trans t4,λx hx=>?_,by simp;lia,n8.symm,n9.symm⟩;rcases dh.mp hx with hx|hx
    ·exact⟨(r2 x hx).1,.inr (r2 x hx).2⟩
    ·rw[ft.mp hx];exact⟨hjl,.inl rfl⟩
end
theorem all_mk{l:Dj}{w:World}{K:aq}{h:Heap}{mg:Str->Option Value}{fa BI BJ BK BL BM BN BO BP BQ BR BS BU BV BW BX BY BZ B0 B1 B2 B3 B4 B5 B6 B7 B8 B9 B_ B' Cb Cc Cd Ce Cf Cg Ci Cj Ck Cm Cn Co Cp w9 w_ xc xf xg xh xi xj xk Cq:Addr}
 (X:K.In h) (G:h.Ns mainGlobals mg) (hfa:mg "law"=some (.ref fa))
 {aaV aaW aaX aaY aaZ aa0 aa1 aa2 aa3 aa4 aa5 aa6 aa7 aa8 aa9 aba abb abd abe abf abg abh abi abj abk abl abm abn abo abp abq abr abt abu abv abw abx aby abz abA abB abC abD abE abF abG abH abI abJ abK abL abM abN abO abP abQ abR abS abT abU abV abW abX abY abZ ab0 ab1 ab2 ab3 ab4 ab5 ab6 ab7 ab8 ab9 aca acb acd ace acf acg ach aci acj ack acn aco acp acq acr acs acu acv acw acx acy acz acA acB acC acD acE acF Lv:Option Addr}
 {acG acH acI acJ acK acL acM acN acO acP acQ acR acS acT acU acV acW acX acY acZ ac0 ac1 ac2 ac3 ac4 ac5 ac6 ac7 ac8 ac9 ada adb ade adf adg adh adi adk adl adm adn ado adp adq adt adu adv adw adx ady adz adA:Array (Option Value)}
 {adB adC adD adE Lw adF adG adH adI adJ Lx adK adL adM adN adO Ly adP adQ adR adS adT Lz adU adV adW adX adY LA adZ ad0 ad1 ad2 ad3 LB ad4 ad5 ad6 ad7 ad8 LC ad9 aea aeb aec aed LD aee aef aeg aeh aei LF aej aek ael aem aen LG aeo aep aeq aer aes LH aet aeu aev aew aex LJ aey aez aeA aeB aeC LK aeD aeE aeF aeG aeH LL aeI aeJ aeK aeL aeM LM aeN aeO aeP aeQ aeR LN aeS aeT aeU aeV aeW LO aeX aeY aeZ ae0 ae1 LP ae2 ae3 ae4 ae5 ae6 LQ ae7 ae8 ae9 afa afb LR afc afd afe afg afh LS afi afj afk afl afm LU afn afo afp afq afr LV afs aft afu afv afw LX afx afy afz afA afB LY afC afD afE afF afG LZ afH afI afJ afK afL L0 afM afN afO afP afQ L1 afR afS afT afU afV L3 afW afX afY afZ af0 L4 af1 af2 af3 af4 af5 L5 af6 af7 af8 af9 aga L6 agb agc agd age agf L7 agg agh agi agj agk L8 agl agm agn ago agp L9 agq agr ags agt agu L_ agv agw agx agy agz Ma agA agB agC agD agE Mb agF agG agH agI agJ Mc agK agL agM agN agO Md agP agQ agR agS agT Me agU agV agW agX agY Mf agZ ag0 ag1 ag2 ag3 Mg ag4 ag5 ag6 ag7 ag8 Mh ag9 aha ahb ahc ahd Mi ahe ahf ahg ahh ahi Mj ahj ahk ahl ahm ahn Ml aho ahp ahq ahr ahs Mm aht ahu ahv ahw ahx Mn ahy ahz ahA ahB ahC Mo ahD ahE ahF ahG ahH Mp ahI ahJ Mq Mr Ms Cr Mu:Value}
 {ahK ahL:Tok}
 {CR:Addr}
 (aC:bb K mainGlobals "Run"=some (some (.ref CR)))
 (a_0:bb K mainGlobals "in_order"=some (some (.ref BI)))
 (l_0:K.lookup BI=some ⟨adB,aaV,.func (ba "in_order" "in_order" (bc pW) (aV pW) (ao pW) .none adC adD adE aaW Lw adF),acG⟩)
 (c_0:bB K Lw "in_order"=true) (k_0:a_ K (.ref BI)=true)
 (a_1:bb K mainGlobals "parts"=some (some (.ref BJ)))
 (l_1:K.lookup BJ=some ⟨adG,aaX,.func (ba "parts" "parts" (bc pX) (aV pX) (ao pX) .none adH adI adJ aaY Lx adK),acH⟩)
 (c_1:bB K Lx "parts"=true) (k_1:a_ K (.ref BJ)=true)
 (a_2:bb K mainGlobals "refuse_missing"=some (some (.ref BK)))
 (l_2:K.lookup BK=some ⟨adL,aaZ,.func (ba "refuse_missing" "refuse_missing" (bc pY) (aV pY) (ao pY) .none adM adN adO aa0 Ly adP),acI⟩)
 (c_2:bB K Ly "refuse_missing"=true) (k_2:a_ K (.ref BK)=true)
 (a_3:bb K mainGlobals "refuse_miscounted"=some (some (.ref BL)))
 (l_3:K.lookup BL=some ⟨adQ,aa1,.func (ba "refuse_miscounted" "refuse_miscounted" (bc pZ) (aV pZ) (ao pZ) .none adR adS adT aa2 Lz adU),acJ⟩)
 (c_3:bB K Lz "refuse_miscounted"=true) (k_3:a_ K (.ref BL)=true)
 (a_4:bb K mainGlobals "graphs"=some (some (.ref BM)))
 (l_4:K.lookup BM=some ⟨adV,aa3,.func (ba "graphs" "graphs" (bc nU) (aV nU) (ao nU) .none adW adX adY aa4 LA adZ),acK⟩)
 (c_4:bB K LA "graphs"=true) (k_4:a_ K (.ref BM)=true)
 (a_5:bb K mainGlobals "placed_sends"=some (some (.ref BN)))
 (l_5:K.lookup BN=some ⟨ad0,aa5,.func (ba "placed_sends" "placed_sends" (bc p6) (aV p6) (ao p6) .none ad1 ad2 ad3 aa6 LB ad4),acL⟩)
 (c_5:bB K LB "placed_sends"=true) (k_5:a_ K (.ref BN)=true)
 (a_6:bb K mainGlobals "placed_parts"=some (some (.ref BO)))
 (l_6:K.lookup BO=some ⟨ad5,aa7,.func (ba "placed_parts" "placed_parts" (bc nV) (aV nV) (ao nV) .none ad6 ad7 ad8 aa8 LC ad9),acM⟩)
 (c_6:bB K LC "placed_parts"=true) (k_6:a_ K (.ref BO)=true)
 (a_7:bb K mainGlobals "path_parameter"=some (some (.ref BP)))
 (l_7:K.lookup BP=some ⟨aea,aa9,.func (ba "path_parameter" "path_parameter" (bc p7) (aV p7) (ao p7) .none aeb aec aed aba LD aee),acN⟩)
 (c_7:bB K LD "path_parameter"=true) (k_7:a_ K (.ref BP)=true)
 (a_8:bb K mainGlobals "told_row"=some (some (.ref BQ)))
 (l_8:K.lookup BQ=some ⟨aef,abb,.func (ba "told_row" "told_row" (bc nW) (aV nW) (ao nW) .none aeg aeh aei abd LF aej),acO⟩)
 (c_8:bB K LF "told_row"=true) (k_8:a_ K (.ref BQ)=true)
 (a_9:bb K mainGlobals "told_number"=some (some (.ref BR)))
 (l_9:K.lookup BR=some ⟨aek,abe,.func (ba "told_number" "told_number" (bc p8) (aV p8) (ao p8) .none ael aem aen abf LG aeo),acP⟩)
 (c_9:bB K LG "told_number"=true) (k_9:a_ K (.ref BR)=true)
 (a_a:bb K mainGlobals "composed"=some (some (.ref BS)))
 (l_a:K.lookup BS=some ⟨aep,abg,.func (ba "composed" "composed" (bc nX) (aV nX) (ao nX) .none aeq aer aes abh LH aet),acQ⟩)
 (c_a:bB K LH "composed"=true) (k_a:a_ K (.ref BS)=true)
 (a_b:bb K mainGlobals "fit"=some (some (.ref BU)))
 (l_b:K.lookup BU=some ⟨aeu,abi,.func (ba "fit" "fit" (bc p9) (aV p9) (ao p9) .none aev aew aex abj LJ aey),acR⟩)
 (c_b:bB K LJ "fit"=true) (k_b:a_ K (.ref BU)=true)
 (a_c:bb K mainGlobals "composed_row"=some (some (.ref BV)))
 (l_c:K.lookup BV=some ⟨aez,abk,.func (ba "composed_row" "composed_row" (bc nY) (aV nY) (ao nY) .none aeA aeB aeC abl LK aeD),acS⟩)
 (c_c:bB K LK "composed_row"=true) (k_c:a_ K (.ref BV)=true)
 (a_d:bb K mainGlobals "largest_between"=some (some (.ref BW)))
 (l_d:K.lookup BW=some ⟨aeE,abm,.func (ba "largest_between" "largest_between" (bc nZ) (aV nZ) (ao nZ) .none aeF aeG aeH abn LL aeI),acT⟩)
 (c_d:bB K LL "largest_between"=true) (k_d:a_ K (.ref BW)=true)
 (a_e:bb K mainGlobals "joined_number"=some (some (.ref BX)))
 (l_e:K.lookup BX=some ⟨aeJ,abo,.func (ba "joined_number" "joined_number" (bc p_) (aV p_) (ao p_) .none aeK aeL aeM abp LM aeN),acU⟩)
 (c_e:bB K LM "joined_number"=true) (k_e:a_ K (.ref BX)=true)
 (a_f:bb K mainGlobals "closure"=some (some (.ref BY)))
 (l_f:K.lookup BY=some ⟨aeO,abq,.func (ba "closure" "closure" (bc qa) (aV qa) (ao qa) .none aeP aeQ aeR abr LN aeS),acV⟩)
 (c_f:bB K LN "closure"=true) (k_f:a_ K (.ref BY)=true)
 (a_g:bb K mainGlobals "judged"=some (some (.ref BZ)))
 (l_g:K.lookup BZ=some ⟨aeT,abt,.func (ba "judged" "judged" (bc qb) (aV qb) (ao qb) .none aeU aeV aeW abu LO aeX),acW⟩)
 (c_g:bB K LO "judged"=true) (k_g:a_ K (.ref BZ)=true)
 (a_h:bb K mainGlobals "closure_of"=some (some (.ref B0)))
 (l_h:K.lookup B0=some ⟨aeY,abv,.func (ba "closure_of" "closure_of" (bc qc) (aV qc) (ao qc) .none aeZ ae0 ae1 abw LP ae2),acX⟩)
 (c_h:bB K LP "closure_of"=true) (k_h:a_ K (.ref B0)=true)
 (a_i:bb K mainGlobals "put_new"=some (some (.ref B1)))
 (l_i:K.lookup B1=some ⟨ae3,abx,.func (ba "put_new" "put_new" (bc n0) (aV n0) (ao n0) .none ae4 ae5 ae6 aby LQ ae7),acY⟩)
 (c_i:bB K LQ "put_new"=true) (k_i:a_ K (.ref B1)=true)
 (a_j:bb K mainGlobals "telling_of"=some (some (.ref B2)))
 (l_j:K.lookup B2=some ⟨ae8,abz,.func (ba "telling_of" "telling_of" (bc n_) (aV n_) (ao n_) .none ae9 afa afb abA LR afc),acZ⟩)
 (c_j:bB K LR "telling_of"=true) (k_j:a_ K (.ref B2)=true)
 (a_k:bb K mainGlobals "is_idle_round"=some (some (.ref B3)))
 (l_k:K.lookup B3=some ⟨afd,abB,.func (ba "is_idle_round" "is_idle_round" (bc qd) (aV qd) (ao qd) .none afe afg afh abC LS afi),ac0⟩)
 (c_k:bB K LS "is_idle_round"=true) (k_k:a_ K (.ref B3)=true)
 (a_l:bb K mainGlobals "falls_here"=some (some (.ref B4)))
 (l_l:K.lookup B4=some ⟨afj,abD,.func (ba "falls_here" "falls_here" (bc og) (aV og) (ao og) .none afk afl afm abE LU afn),ac1⟩)
 (c_l:bB K LU "falls_here"=true) (k_l:a_ K (.ref B4)=true)
 (a_m:bb K mainGlobals "size"=some (some (.ref B5)))
 (l_m:K.lookup B5=some ⟨afo,abF,.func (ba "size" "size" (bc qf) (aV qf) (ao qf) .none afp afq afr abG LV afs),ac2⟩)
 (c_m:bB K LV "size"=true) (k_m:a_ K (.ref B5)=true)
 (a_n:bb K mainGlobals "entries"=some (some (.ref B6)))
 (l_n:K.lookup B6=some ⟨aft,abH,.func (ba "entries" "entries" (bc qg) (aV qg) (ao qg) .none afu afv afw abI LX afx),ac3⟩)
 (c_n:bB K LX "entries"=true) (k_n:a_ K (.ref B6)=true)
 (a_o:bb K mainGlobals "ended_run"=some (some (.ref B7)))
 (l_o:K.lookup B7=some ⟨afy,abJ,.func (ba "ended_run" "ended_run" (bc oh) (aV oh) (ao oh) .none afz afA afB abK LY afC),ac4⟩)
 (c_o:bB K LY "ended_run"=true) (k_o:a_ K (.ref B7)=true)
 (a_p:bb K mainGlobals "numbered_bodies"=some (some (.ref B8)))
 (l_p:K.lookup B8=some ⟨afD,abL,.func (ba "numbered_bodies" "numbered_bodies" (bc qh) (aV qh) (ao qh) .none afE afF afG abM LZ afH),ac5⟩)
 (c_p:bB K LZ "numbered_bodies"=true) (k_p:a_ K (.ref B8)=true)
 (a_q:bb K mainGlobals "count_sends"=some (some (.ref B9)))
 (l_q:K.lookup B9=some ⟨afI,abN,.func (ba "count_sends" "count_sends" (bc oj) (aV oj) (ao oj) .none afJ afK afL abO L0 afM),ac6⟩)
 (c_q:bB K L0 "count_sends"=true) (k_q:a_ K (.ref B9)=true)
 (a_r:bb K mainGlobals "numbered"=some (some (.ref B_)))
 (l_r:K.lookup B_=some ⟨afN,abP,.func (ba "numbered" "numbered" (bc om) (aV om) (ao om) .none afO afP afQ abQ L1 afR),ac7⟩)
 (c_r:bB K L1 "numbered"=true) (k_r:a_ K (.ref B_)=true)
 (a_s:bb K mainGlobals "needed_parts"=some (some (.ref B')))
 (l_s:K.lookup B'=some ⟨afS,abR,.func (ba "needed_parts" "needed_parts" (bc qk) (aV qk) (ao qk) .none afT afU afV abS L3 afW),ac8⟩)
 (c_s:bB K L3 "needed_parts"=true) (k_s:a_ K (.ref B')=true)
 (a_t:bb K mainGlobals "side"=some (some (.ref Cb)))
 (l_t:K.lookup Cb=some ⟨afX,abT,.func (ba "side" "side" (bc ql) (aV ql) (ao ql) .none afY afZ af0 abU L4 af1),ac9⟩)
 (c_t:bB K L4 "side"=true) (k_t:a_ K (.ref Cb)=true)
 (a_u:bb K mainGlobals "_law_cell_at"=some (some (.ref Cc)))
 (l_u:K.lookup Cc=some ⟨af2,abV,.func (ba "_law_cell_at" "_law_cell_at" (bc qm) (aV qm) (ao qm) .none af3 af4 af5 abW L5 af6),ada⟩)
 (c_u:bB K L5 "_law_cell_at"=true) (k_u:a_ K (.ref Cc)=true)
 (a_v:bb K mainGlobals "_law_names"=some (some (.ref Cd)))
 (l_v:K.lookup Cd=some ⟨af7,abX,.func (ba "_law_names" "_law_names" (bc lh) (aV lh) (ao lh) .none af8 af9 aga abY L6 agb),adb⟩)
 (c_v:bB K L6 "_law_names"=true) (k_v:a_ K (.ref Cd)=true)
 (a_w:bb K mainGlobals "_law_next"=some (some (.ref Ce)))
 (l_w:K.lookup Ce=some ⟨agc,abZ,.func (ba "_law_next" "_law_next" (bc qo) (aV qo) (ao qo) .none agd age agf ab0 L7 agg),ade⟩)
 (c_w:bB K L7 "_law_next"=true) (k_w:a_ K (.ref Ce)=true)
 (a_x:bb K mainGlobals "_law_path"=some (some (.ref Cf)))
 (l_x:K.lookup Cf=some ⟨agh,ab1,.func (ba "_law_path" "_law_path" (bc qp) (aV qp) (ao qp) .none agi agj agk ab2 L8 agl),adf⟩)
 (c_x:bB K L8 "_law_path"=true) (k_x:a_ K (.ref Cf)=true)
 (a_y:bb K mainGlobals "_law_arg"=some (some (.ref Cg)))
 (l_y:K.lookup Cg=some ⟨agm,ab3,.func (ba "_law_arg" "_law_arg" (bc qq) (aV qq) (ao qq) .none agn ago agp ab4 L9 agq),adg⟩)
 (c_y:bB K L9 "_law_arg"=true) (k_y:a_ K (.ref Cg)=true)
 (a_z:bb K mainGlobals "_law_send"=some (some (.ref Ci)))
 (l_z:K.lookup Ci=some ⟨agr,ab5,.func (ba "_law_send" "_law_send" (bc oo) (aV oo) (ao oo) .none ags agt agu ab6 L_ agv),adh⟩)
 (c_z:bB K L_ "_law_send"=true) (k_z:a_ K (.ref Ci)=true)
 (a_10:bb K mainGlobals "_law_body"=some (some (.ref Cj)))
 (l_10:K.lookup Cj=some ⟨agw,ab7,.func (ba "_law_body" "_law_body" (bc qr) (aV qr) (ao qr) .none agx agy agz ab8 Ma agA),adi⟩)
 (c_10:bB K Ma "_law_body"=true) (k_10:a_ K (.ref Cj)=true)
 (a_11:bb K mainGlobals "_law_program"=some (some (.ref Ck)))
 (l_11:K.lookup Ck=some ⟨agB,ab9,.func (ba "_law_program" "_law_program" (bc oq) (aV oq) (ao oq) .none agC agD agE aca Mb agF),adk⟩)
 (c_11:bB K Mb "_law_program"=true) (k_11:a_ K (.ref Ck)=true)
 (a_12:bb K mainGlobals "_law_tame_send"=some (some (.ref Cm)))
 (l_12:K.lookup Cm=some ⟨agG,acb,.func (ba "_law_tame_send" "_law_tame_send" (bc qt) (aV qt) (ao qt) .none agH agI agJ acd Mc agK),adl⟩)
 (c_12:bB K Mc "_law_tame_send"=true) (k_12:a_ K (.ref Cm)=true)
 (a_13:bb K mainGlobals "_law_tame"=some (some (.ref Cn)))
 (l_13:K.lookup Cn=some ⟨agL,ace,.func (ba "_law_tame" "_law_tame" (bc ou) (aV ou) (ao ou) .none agM agN agO acf Md agP),adm⟩)
 (c_13:bB K Md "_law_tame"=true) (k_13:a_ K (.ref Cn)=true)
 (a_14:bb K mainGlobals "_law_any"=some (some (.ref Co)))
 (l_14:K.lookup Co=some ⟨agQ,acg,.func (ba "_law_any" "_law_any" (bc qu) (aV qu) (ao qu) .none agR agS agT ach Me agU),adn⟩)
 (c_14:bB K Me "_law_any"=true) (k_14:a_ K (.ref Co)=true)
 (a_15:bb K mainGlobals "_law_tree_by"=some (some (.ref Cp)))
 (l_15:K.lookup Cp=some ⟨agV,aci,.func (ba "_law_tree_by" "_law_tree_by" (bc qv) (aV qv) (ao qv) .none agW agX agY acj Mf agZ),ado⟩)
 (c_15:bB K Mf "_law_tree_by"=true) (k_15:a_ K (.ref Cp)=true)
 (a_16:cP K (.ref CR) "__init__"=some (some (.ref w9))) (i_R_init:ip K (.ref w9)=true)
 (l_16:K.lookup w9=some ⟨ag0,ack,.func (ba "__init__" "Run.__init__" (bc qw) (aV qw) (ao qw) .none ag1 ag2 ag3 acn Mg ag4),adp⟩)
 (c_16:bB K Mg "Run.__init__"=true) (k_16:a_ K (.ref w9)=true)
 (a_17:cP K (.ref CR) "begin"=some (some (.ref w_))) (i_R_begin:ip K (.ref w_)=true)
 (l_17:K.lookup w_=some ⟨ag5,aco,.func (ba "begin" "Run.begin" (bc qy) (aV qy) (ao qy) .none ag6 ag7 ag8 acp Mh ag9),adq⟩)
 (c_17:bB K Mh "Run.begin"=true) (k_17:a_ K (.ref w_)=true)
 (a_18:cP K (.ref CR) "go_on"=some (some (.ref xc))) (i_R_go_on:ip K (.ref xc)=true)
 (l_18:K.lookup xc=some ⟨aha,acq,.func (ba "go_on" "Run.go_on" (bc qz) (aV qz) (ao qz) .none ahb ahc ahd acr Mi ahe),adt⟩)
 (c_18:bB K Mi "Run.go_on"=true) (k_18:a_ K (.ref xc)=true)
 (a_19:cP K (.ref CR) "prepare"=some (some (.ref xf))) (i_R_prepare:ip K (.ref xf)=true)
 (l_19:K.lookup xf=some ⟨ahf,acs,.func (ba "prepare" "Run.prepare" (bc qA) (aV qA) (ao qA) .none ahg ahh ahi acu Mj ahj),adu⟩)
 (c_19:bB K Mj "Run.prepare"=true) (k_19:a_ K (.ref xf)=true)
 (a_1a:cP K (.ref CR) "finish"=some (some (.ref xg))) (i_R_finish:ip K (.ref xg)=true)
 (l_1a:K.lookup xg=some ⟨ahk,acv,.func (ba "finish" "Run.finish" (bc qB) (aV qB) (ao qB) .none ahl ahm ahn acw Ml aho),adv⟩)
 (c_1a:bB K Ml "Run.finish"=true) (k_1a:a_ K (.ref xg)=true)
 (a_1b:cP K (.ref CR) "taken"=some (some (.ref xh))) (i_R_taken:ip K (.ref xh)=true)
 (l_1b:K.lookup xh=some ⟨ahp,acx,.func (ba "taken" "Run.taken" (bc qC) (aV qC) (ao qC) .none ahq ahr ahs acy Mm aht),adw⟩)
 (c_1b:bB K Mm "Run.taken"=true) (k_1b:a_ K (.ref xh)=true)
 (a_1c:cP K (.ref CR) "choose"=some (some (.ref xi))) (i_R_choose:ip K (.ref xi)=true)
 (l_1c:K.lookup xi=some ⟨ahu,acz,.func (ba "choose" "Run.choose" (bc qD) (aV qD) (ao qD) .none ahv ahw ahx acA Mn ahy),adx⟩)
 (c_1c:bB K Mn "Run.choose"=true) (k_1c:a_ K (.ref xi)=true)
 (a_1d:cP K (.ref CR) "join_pair"=some (some (.ref xj))) (i_R_join_pair:ip K (.ref xj)=true)
 (l_1d:K.lookup xj=some ⟨ahz,acB,.func (ba "join_pair" "Run.join_pair" (bc qE) (aV qE) (ao qE) .none ahA ahB ahC acC Mo ahD),ady⟩)
 (c_1d:bB K Mo "Run.join_pair"=true) (k_1d:a_ K (.ref xj)=true)
 (a_1e:cP K (.ref CR) "parameter"=some (some (.ref xk))) (i_R_parameter:ip K (.ref xk)=true)
 (l_1e:K.lookup xk=some ⟨ahE,acD,.func (ba "parameter" "Run.parameter" (bc qF) (aV qF) (ao qF) .none ahF ahG ahH acE Mp ahI),adz⟩)
 (c_1e:bB K Mp "Run.parameter"=true) (k_1e:a_ K (.ref xk)=true)
 (a_1f:bb K mainGlobals "law"=some (some (.ref Cq)))
 (l_1f:K.lookup Cq=some ⟨ahJ,acF,.func (ba "law" "law" (bc ll) (aV ll) (ao ll) .none Mq Mr Ms Lv Cr Mu),adA⟩)
 (c_1f:bB K Cr "law"=true) (k_1f:a_ K (.ref Cq)=true)
 (z_1i:bb K mainGlobals "len"=some none)
 (z_1j:bb K mainGlobals "range"=some none)
 (z_1k:bb K mainGlobals "isinstance"=some none)
 (z_1l:bb K mainGlobals "int"=some none)
 (z_1m:bb K mainGlobals "bool"=some none)
 (z_1n:bb K mainGlobals "tuple"=some none)
 (z_1o:bb K mainGlobals "dict"=some none)
 (z_1p:bb K mainGlobals "list"=some none)
 (z_1q:bb K mainGlobals "reversed"=some none)
 (z_14:bb K mainGlobals "any"=some none)
 (z_1r:bb K mainGlobals "enumerate"=some none)
 (z_1s:bb K mainGlobals "max"=some none)
 (z_1t:bb K mainGlobals "zip"=some none)
 (z_1g:bb K mainGlobals "MOST_PAIRS"=some (some (.int 60 ahK)))
 (z_1h:bb K mainGlobals "MOST_IN_CLOSURE"=some (some (.int 40 ahL)))
 {Cs Ct Cu:Addr}
 (x_1u:bb K mainGlobals "ErrandError"=some (some (.ref Cs)))
 (x_1v:bb K mainGlobals "Apart"=some (some (.ref Ct)))
 (x_1w:bb K mainGlobals "TooMany"=some (some (.ref Cu)))
 (x_1x:zC K [(.err,Cs),(.apart,Ct),(.many,Cu)]=true)
 (pgC:t8 K CR Str.empty=true) (hdC:xr K CR=true) (poC:CN K CR=true) (saC:cP K (.ref CR) "__setattr__"=some (some (.builtin "object.__setattr__"))) (mkC:t9 K CR=true) (kcC:a_ K (.ref CR)=true)
 (n_params:cP K (.ref CR) "params"=some none)
 (n_bodies:cP K (.ref CR) "bodies"=some none)
 (n_most:cP K (.ref CR) "most"=some none)
 (n_begun:cP K (.ref CR) "begun"=some none)
 (n_pending:cP K (.ref CR) "pending"=some none)
 (n_waiting:cP K (.ref CR) "waiting"=some none)
 (n_ending:cP K (.ref CR) "ending"=some none) :
 ∃fd:FuncData,(∀(s:Shared) (v:Value),BindsTo s fd ⟨[v],[]⟩ [("script",v)])/\∀base:Heap,K.In base->base.Ns mainGlobals mg->dn l.prog w K mg base (cc l.prog w) 90 fa fd ["script"] (jk K pH):=show _ by
 have e:=hfa.symm.trans (mZ X G a_1f);cases e;have H_0:az K mg "in_order" pW ["body"]:=bQ X G a_0 l_0 c_0 k_0 λ_ _ _ _ _ _ us hl=>by obtain⟨_,rfl⟩:=fk hl;rfl
 have H_1:az K mg "parts" pX ["saying"]:=bQ X G a_1 l_1 c_1 k_1 λ_ _ _ _ _ _ us hl=>by obtain⟨_,rfl⟩:=fk hl;rfl
 have H_2:az K mg "refuse_missing" pY ["name","known"]:=bQ X G a_2 l_2 c_2 k_2 λ_ _ _ _ _ _ us hl=>by obtain⟨_,_,rfl⟩:=ln2 hl;rfl
 have H_3:az K mg "refuse_miscounted" pZ ["name","row","needed"]:=bQ X G a_3 l_3 c_3 k_3 λ_ _ _ _ _ _ us hl=>by obtain⟨_,_,_,rfl⟩:=iN hl;rfl
 have H_4:az K mg "graphs" nU ["program"]:=bQ X G a_4 l_4 c_4 k_4 λ_ _ _ _ _ _ us hl=>by obtain⟨_,rfl⟩:=fk hl;rfl
 have H_5:az K mg "placed_sends" p6 ["body"]:=bQ X G a_5 l_5 c_5 k_5 λ_ _ _ _ _ _ us hl=>by obtain⟨_,rfl⟩:=fk hl;rfl
 have H_6:az K mg "placed_parts" nV ["saying","known"]:=bQ X G a_6 l_6 c_6 k_6 λ_ _ _ _ _ _ us hl=>by obtain⟨_,_,rfl⟩:=ln2 hl;rfl
 have H_7:az K mg "path_parameter" p7 ["saying"]:=bQ X G a_7 l_7 c_7 k_7 λ_ _ _ _ _ _ us hl=>by obtain⟨_,rfl⟩:=fk hl;rfl
 have H_8:az K mg "told_row" nW ["param","sayings","known"]:=bQ X G a_8 l_8 c_8 k_8 λ_ _ _ _ _ _ us hl=>by obtain⟨_,_,_,rfl⟩:=iN hl;rfl
 have H_9:az K mg "told_number" p8 ["param","saying","known"]:=bQ X G a_9 l_9 c_9 k_9 λ_ _ _ _ _ _ us hl=>by obtain⟨_,_,_,rfl⟩:=iN hl;rfl
 have H_a:az K mg "composed" nX ["one","other"]:=bQ X G a_a l_a c_a k_a λ_ _ _ _ _ _ us hl=>by obtain⟨_,_,rfl⟩:=ln2 hl;rfl
 have H_b:az K mg "fit" p9 ["one","other"]:=bQ X G a_b l_b c_b k_b λ_ _ _ _ _ _ us hl=>by obtain⟨_,_,rfl⟩:=ln2 hl;rfl
 have H_c:az K mg "composed_row" nY ["row","rows"]:=bQ X G a_c l_c c_c k_c λ_ _ _ _ _ _ us hl=>by obtain⟨_,_,rfl⟩:=ln2 hl;rfl
 have H_d:az K mg "largest_between" nZ ["row","rows","column"]:=bQ X G a_d l_d c_d k_d λ_ _ _ _ _ _ us hl=>by obtain⟨_,_,_,rfl⟩:=iN hl;rfl
 have H_e:az K mg "joined_number" p_ ["one","other"]:=bQ X G a_e l_e c_e k_e λ_ _ _ _ _ _ us hl=>by obtain⟨_,_,rfl⟩:=ln2 hl;rfl
 have H_f:az K mg "closure" qa ["program"]:=bQ X G a_f l_f c_f k_f λ_ _ _ _ _ _ us hl=>by obtain⟨_,rfl⟩:=fk hl;rfl
 have H_g:az K mg "judged" qb ["program"]:=bQ X G a_g l_g c_g k_g λ_ _ _ _ _ _ us hl=>by obtain⟨_,rfl⟩:=fk hl;rfl
 have H_h:az K mg "closure_of" qc ["numbered"]:=bQ X G a_h l_h c_h k_h λ_ _ _ _ _ _ us hl=>by obtain⟨_,rfl⟩:=fk hl;rfl
 have H_i:az K mg "put_new" n0 ["found","graph","way"]:=bQ X G a_i l_i c_i k_i λ_ _ _ _ _ _ us hl=>by obtain⟨_,_,_,rfl⟩:=iN hl;rfl
 have H_j:az K mg "telling_of" n_ ["pairs"]:=bQ X G a_j l_j c_j k_j λ_ _ _ _ _ _ us hl=>by obtain⟨_,rfl⟩:=fk hl;rfl
 have H_k:az K mg "is_idle_round" qd ["graph"]:=bQ X G a_k l_k c_k k_k λ_ _ _ _ _ _ us hl=>by obtain⟨_,rfl⟩:=fk hl;rfl
 have H_l:az K mg "falls_here" og ["graph"]:=bQ X G a_l l_l c_l k_l λ_ _ _ _ _ _ us hl=>by obtain⟨_,rfl⟩:=fk hl;rfl
 have H_m:az K mg "size" qf ["tree"]:=bQ X G a_m l_m c_m k_m λ_ _ _ _ _ _ us hl=>by obtain⟨_,rfl⟩:=fk hl;rfl
 have H_n:az K mg "entries" qg ["program","name","trees","most"]:=bQ X G a_n l_n c_n k_n λ_ _ _ _ _ _ us hl=>by obtain⟨_,_,_,_,rfl⟩:=tF hl;rfl
 have H_o:az K mg "ended_run" oh ["program","name","trees","most"]:=bQ X G a_o l_o c_o k_o λ_ _ _ _ _ _ us hl=>by obtain⟨_,_,_,_,rfl⟩:=tF hl;rfl
 have H_p:az K mg "numbered_bodies" qh ["program"]:=bQ X G a_p l_p c_p k_p λ_ _ _ _ _ _ us hl=>by obtain⟨_,rfl⟩:=fk hl;rfl
 have H_q:az K mg "count_sends" oj ["order"]:=bQ X G a_q l_q c_q k_q λ_ _ _ _ _ _ us hl=>by obtain⟨_,rfl⟩:=fk hl;rfl
 have H_r:az K mg "numbered" om ["order","number"]:=bQ X G a_r l_r c_r k_r λ_ _ _ _ _ _ us hl=>by obtain⟨_,_,rfl⟩:=ln2 hl;rfl
 have H_s:az K mg "needed_parts" qk ["saying"]:=bQ X G a_s l_s c_s k_s λ_ _ _ _ _ _ us hl=>by obtain⟨_,rfl⟩:=fk hl;rfl
 have H_t:az K mg "side" ql ["kind","tree"]:=bQ X G a_t l_t c_t k_t λ_ _ _ _ _ _ us hl=>by obtain⟨_,_,rfl⟩:=ln2 hl;rfl
 have H_u:az K mg "_law_cell_at" qm ["script","k"]:=bQ X G a_u l_u c_u k_u λ_ _ _ _ _ _ us hl=>by obtain⟨_,_,rfl⟩:=ln2 hl;rfl
 have H_v:az K mg "_law_names" lh ["cell","many"]:=bQ X G a_v l_v c_v k_v λ_ _ _ _ _ _ us hl=>by obtain⟨_,_,rfl⟩:=ln2 hl;rfl
 have H_w:az K mg "_law_next" qo ["script","spot"]:=bQ X G a_w l_w c_w k_w λ_ _ _ _ _ _ us hl=>by obtain⟨_,_,rfl⟩:=ln2 hl;rfl
 have H_x:az K mg "_law_path" qp ["cell","params"]:=bQ X G a_x l_x c_x k_x λ_ _ _ _ _ _ us hl=>by obtain⟨_,_,rfl⟩:=ln2 hl;rfl
 have H_y:az K mg "_law_arg" qq ["cell","params"]:=bQ X G a_y l_y c_y k_y λ_ _ _ _ _ _ us hl=>by obtain⟨_,_,rfl⟩:=ln2 hl;rfl
 have H_z:az K mg "_law_send" oo ["script","spot","names","counts","params"]:=bQ X G a_z l_z c_z k_z λ_ _ _ _ _ _ us hl=>by obtain⟨_,_,_,_,_,rfl⟩:=wx hl;rfl
 have ahM:az K mg "_law_body" qr ["script","spot","names","counts","params"]:=bQ X G a_10 l_10 c_10 k_10 λ_ _ _ _ _ _ us hl=>by obtain⟨_,_,_,_,_,rfl⟩:=wx hl;rfl
 have ahN:az K mg "_law_program" oq ["script","spot","most"]:=bQ X G a_11 l_11 c_11 k_11 λ_ _ _ _ _ _ us hl=>by obtain⟨_,_,_,rfl⟩:=iN hl;rfl
 have ahO:az K mg "_law_tame_send" qt ["script","spot","names","counts","params"]:=bQ X G a_12 l_12 c_12 k_12 λ_ _ _ _ _ _ us hl=>by obtain⟨_,_,_,_,_,rfl⟩:=wx hl;rfl
 have ahP:az K mg "_law_tame" ou ["script","spot","most"]:=bQ X G a_13 l_13 c_13 k_13 λ_ _ _ _ _ _ us hl=>by obtain⟨_,_,_,rfl⟩:=iN hl;rfl
 have ahQ:az K mg "_law_any" qu ["script","spot","way","most"]:=bQ X G a_14 l_14 c_14 k_14 λ_ _ _ _ _ _ us hl=>by obtain⟨_,_,_,_,rfl⟩:=tF hl;rfl
 have ahR:az K mg "_law_tree_by" qv ["cell","room"]:=bQ X G a_15 l_15 c_15 k_15 λ_ _ _ _ _ _ us hl=>by obtain⟨_,_,rfl⟩:=ln2 hl;rfl
 have ahS:eB K CR "__init__" "Run.__init__" qw ["self","params","bodies","most"]:=kZ a_16 i_R_init l_16 c_16 k_16 λ_ _ _ _ _ _ us hl=>by obtain⟨_,_,_,_,rfl⟩:=tF hl;rfl
 have ahT:eB K CR "begin" "Run.begin" qy ["self","parent","number","name","trees"]:=kZ a_17 i_R_begin l_17 c_17 k_17 λ_ _ _ _ _ _ us hl=>by obtain⟨_,_,_,_,_,rfl⟩:=wx hl;rfl
 have ahU:eB K CR "go_on" "Run.go_on" qz ["self"]:=kZ a_18 i_R_go_on l_18 c_18 k_18 λ_ _ _ _ _ _ us hl=>by obtain⟨_,rfl⟩:=fk hl;rfl
 have ahV:eB K CR "prepare" "Run.prepare" qA ["self","saying","place"]:=kZ a_19 i_R_prepare l_19 c_19 k_19 λ_ _ _ _ _ _ us hl=>by obtain⟨_,_,_,rfl⟩:=iN hl;rfl
 have ahW:eB K CR "finish" "Run.finish" qB ["self","saying","place"]:=kZ a_1a i_R_finish l_1a c_1a k_1a λ_ _ _ _ _ _ us hl=>by obtain⟨_,_,_,rfl⟩:=iN hl;rfl
 have ahX:eB K CR "taken" "Run.taken" qC ["self","many"]:=kZ a_1b i_R_taken l_1b c_1b k_1b λ_ _ _ _ _ _ us hl=>by obtain⟨_,_,rfl⟩:=ln2 hl;rfl
 have ahY:eB K CR "choose" "Run.choose" qD ["self","fork","place"]:=kZ a_1c i_R_choose l_1c c_1c k_1c λ_ _ _ _ _ _ us hl=>by obtain⟨_,_,_,rfl⟩:=iN hl;rfl
 have ahZ:eB K CR "join_pair" "Run.join_pair" qE ["self"]:=kZ a_1d i_R_join_pair l_1d c_1d k_1d λ_ _ _ _ _ _ us hl=>by obtain⟨_,rfl⟩:=fk hl;rfl
 have ah0:eB K CR "parameter" "Run.parameter" qF ["self","name","place"]:=kZ a_1e i_R_parameter l_1e c_1e k_1e λ_ _ _ _ _ _ us hl=>by obtain⟨_,_,_,rfl⟩:=iN hl;rfl
 have Gx:Gs K mg:=⟨ix X G z_1i,ix X G z_1j,ix X G z_1k,ix X G z_1l,ix X G z_1m,ix X G z_1n,ix X G z_1o,ix X G z_1p,ix X G z_1q,ix X G z_14,ix X G z_1r,ix X G z_1s,ix X G z_1t,⟨_,mZ X G z_1g⟩,⟨_,mZ X G z_1h⟩⟩;have Rx:kQ K mg ES (sR [(Rf.err,Cs),(Rf.apart,Ct),(Rf.many,Cu)]):=UM x_1x λi hi=>by
  rcases(by simpa using hi:i=Rf.err∨i=Rf.apart∨i=Rf.many) with rfl|rfl|rfl
  ·exact mZ X G x_1u
  ·exact mZ X G x_1v
  ·exact mZ X G x_1w
 have Tx:iO K mg CR:=⟨⟨pgC,hdC,poC,saC⟩,mkC,kcC,mZ X G aC,n_params,n_bodies,n_most,n_begun,n_pending,n_waiting,n_ending⟩;have ah1:=yI (st:=ll) l_1f c_1f k_1f;refine⟨ba "law" "law" (bc ll) (aV ll) (ao ll) .none Mq Mr Ms Lv Cr Mu,λs v=>.of_eq rfl,λbase _ _=>?_⟩;have mK:=YH (P:=l.prog) (w:=w) (base:=base) (k:=0) H_u Gx;have dJ:=YJ (P:=l.prog) (w:=w) (base:=base) (k:=1) H_w mK;have mO:=YL (P:=l.prog) (w:=w) (base:=base) (k:=0) H_v Gx;have BF:=Zh (P:=l.prog) (w:=w) (base:=base) (k:=0) ahR Gx;have lu:=YS (P:=l.prog) (w:=w) (base:=base) (k:=0) H_x Gx;have iP:=YV (k:=1) H_y lu;have oB:=YX (k:=2) H_z Gx dJ iP;have AE:=YZ (k:=3) ahM Gx (dJ.mono (by decide)) (iP.mono (by decide)) (lu.mono (by decide)) oB;have AL:=Y2 (k:=4) ahN Gx (dJ.mono (by decide)) (mO.mono (by decide)) AE;have xl:=Zl (P:=l.prog) (w:=w) (base:=base) (k:=0) H_1 Gx;have AR:=Zn (P:=l.prog) (w:=w) (base:=base) (k:=1) H_0 Gx (AN xl);have qH:=Zw (P:=l.prog) (w:=w) (base:=base) (k:=0) H_q Gx;have AS:=Zy (P:=l.prog) (w:=w) (base:=base) (k:=1) H_r Gx qH (AN xl);have ah2:=ZD (P:=l.prog) (w:=w) (base:=base) (k:=2) H_p Gx AR AS (qH.mono (by decide));have ah3:=ZF (P:=l.prog) (w:=w) (base:=base) (k:=1) H_s Gx xl;have AY:=Zu (P:=l.prog) (w:=w) (base:=base) (k:=0) H_m Gx;have qK:=ZL (P:=l.prog) (w:=w) (base:=base) (k:=0) ahT Gx Tx;have qJ:=ZO (P:=l.prog) (w:=w) (base:=base) (k:=0) ahX Gx Tx;have AZ:=ZQ (P:=l.prog) (w:=w) (base:=base) (k:=0) ahY Gx Tx;have ah4:=ZS (k:=1) ahZ Gx Tx qJ AY;have ah5:=ZV (P:=l.prog) (w:=w) (base:=base) (k:=0) ah0 Gx Tx;have A3:=ZH (P:=l.prog) (w:=w) (base:=base) (k:=0) H_t Gx;have A4:=ZY (k:=2) ahW Gx Tx (qK.mono (by decide)) (qJ.mono (by decide)) (AZ.mono (by decide)) ah4 (ah5.mono (by decide)) (A3.mono (by decide));have A5:=Z2 (k:=2) ahV Gx Tx ah3;have A6:=Z5 (k:=3) ahU Gx Tx A4 A5;have ah6:=Z7 (k:=3) H_o Gx Tx ((Zp (k:=0) H_2).mono (by decide)) ((Zr (k:=0) H_3 Gx).mono (by decide)) (ah2.mono (by decide)) (ZJ (k:=2) ahS Gx Tx) (qK.mono (by decide)) A6;have BH:=zo6 (k:=5) H_n Gx Tx ah6;have Mv:=zgd (P:=l.prog) (w:=w) (base:=base) (k:=0) H_7 Gx;have ah7:=zmq (k:=2) H_8 Gx (zi0 (k:=1) H_9 Gx Mv);have ah8:=zh5 (k:=2) H_5 Gx (zh6 (k:=1) H_6 Gx (AN xl) Mv);have Bh:=zrb (k:=3) H_4 Gx ah8 ah7;have wH:=Y6 (k:=2) ahO Gx dJ iP
 have AK:=Za (k:=3) ahP Gx (dJ.mono (by decide)) (mO.mono (by decide)) wH (iP.mono (by decide));have BE:=Zd (k:=5) ahQ (AK.mono (by decide)) AL;have ah9:=zh8 (P:=l.prog) (w:=w) (base:=base) (k:=2) H_c Gx (zf0 (k:=1) H_d Gx (zg1 (k:=0) H_e Gx));have lF:=aan (P:=l.prog) (w:=w) (base:=base) (k:=0) H_b;have qL:=zmt (k:=3) H_a Gx Rx (lF.mono (by decide)) ah9;have wM:=zo4 (P:=l.prog) (w:=w) (base:=base) (k:=0) H_i Gx Rx;have Bi:=zku (k:=4) H_h Gx Rx (wM.mono (by decide)) (lF.mono (by decide)) qL;have Bf:=zkt (P:=l.prog) (w:=w) (base:=base) (k:=0) H_l Gx;have aia:=zg2 (k:=4) H_k Gx (lF.mono (by decide)) qL (Bf.mono (by decide));have Bl:=zks (k:=5) H_j Gx aia;have Bj:=zo7 (k:=5) H_f Gx (Bh.mono (by decide)) Bi;have BG:=zra (k:=6) H_g Gx Bj (Bl.mono (by decide));exact aaS ah1 Gx Rx (mK.mono (by decide)) (dJ.mono (by decide)) (BE.mono (by decide)) (BF.mono (by decide)) (BG.mono (by decide)) ((zpn BH).mono (by decide))
theorem walk{l:Dj}{q:Program}{loose:List Str}{XP:(Str->Option Value)->Heap->Prop}{YP:World->Heap->Prop}{d:DefRec}{K:Params->aq}(hn:l.most=some 63)(hdf:d.params.defaults=[])
 (hY:∀(w:World) (h:Heap),YP w h->(K w.params).In h)
 (F:∀(w:World) (mg:Str->Option Value) (fa:Addr) (h:Heap),(K w.params).In h->h.Ns mainGlobals mg->mg d.name=some (.ref fa) ->
  ∃fd:FuncData,(∀(s:Shared) (u:Value),BindsTo s fd ⟨[u],[]⟩ [("script",u)])/\∀base:Heap,(K w.params).In base->base.Ns mainGlobals mg->dn l.prog w (K w.params) mg base (cc l.prog w) 90 fa fd ["script"] (jk (K w.params) pH)) :
 M9 q loose XP YP l.row.toRowW d [] (λf vs=>Di f vs) :=
 L2.Q_ (n:=63) (k:=90) (x:="script") (CX:=λw=>cc l.prog w) (sp:=λw=>jk (K w.params) pH) hn (by decide) hdf ⟨rfl,by decide,by decide⟩ hY F (λ_ _ a ns hl hO hS=>Ug hl hO hS) λ_ _ _ _ _ z=>by
  obtain⟨a,C,T,H',_,_,_,_,_,_,_,_,_,_,z⟩:=z;exact z
end LW
end
inductive PySem.W.Fast:Prop|tw17658949528367274431|tw7607559316540545232|tw15902218070396203373|tw10195073926846816056|tw2352765376884550916|tw14768836300013163183|tw653573970855579790|tw13643801054616326283|tw8921709008062958993|tw16181516576982688227|tw12504737677546233317|tw5441363021438636420|tw13181454900907340163|tw3312583022092287695|tw17919237231754622282|tw14507352547135660086|tw12688476998031415967|tw1060960859977871593|tw14526206829395712370|tw5402733504492138706|tw10975480120076806497|tw3444039008435002216|tw14596566747119799024|tw16480218009896062272|tw16673429928336406151|tw3526534241911280331|tw9055983528115408446|tw340753294745145187|tw14939438998401679424|tw6418249793173540708|tw9190581751576407875|tw8286463833082934773|tw3937130309543073849|tw14886322454720286753|tw4419400879931909609|tw12839434612037194289|tw476115930157755825|tw2249067679949533907|tw8601397881327315054|tw1814877787838796901|tw11767327815815905096|tw4858547799836141138|tw13262490898677249220|tw15576215337597898146|tw6184354684447702171|tw4534592114937000865|tw1312882276865909909|tw16976269431139936564|tw12360937857369251390|tw12009352267822243197|tw17431395331764259528|tw10816987858637948136|tw9976760514236453055|tw7909873573123685313|tw8952131876698135964|tw8813104832386088734|tw1799636109526444554|tw14802615040738308889|tw16398348215485197374|tw14600940248951654194|tw11996460147789119632|tw3835183179242223136|tw2560679292048295405|tw11731885398549055210|tw14536059666121222965|tw12230571447768996840|tw6618320085158909637|tw3859001234026599963|tw16716636453570692466|tw7373606182382361228|tw15112497213341568917|tw14286019905530009729|tw576070308779249827|tw14485503528916385959|tw6469478626992695996|tw15634535546300641475|tw12268431968787126715|tw9919290367551931929|tw5138853792014089034|tw1474432792839528453|tw545612134207883289|tw8251818330548017758|tw2030560425337167125|tw14740717044526233200|tw2648246931260464304|tw3007670778949791623|tw14781530363040797489|tw1965202662552672545|tw8510772399126769881|tw2227566054861620454|tw16300568614441006594|tw9984445753438986765|tw12390599052746371835|tw15428233631956873730|tw15568081413985472993|tw16595152208854701208|tw14797113514206340931|tw15890707664462766204|tw13695688239325414441|tw332940003106896455|tw4246386412537452052|tw15945504054755140413|tw13755468025500084811|tw17513345759327614535|tw7379856956756730240|tw12079976447086908066|tw6712267792653204561|tw6975146176916138691|tw4676226701842583169|tw12198323408975558330|tw1888736479627686064|tw12329114413352922877|tw8967969996537069310|tw8038436038564269739|tw3173804160753211728|tw1420242739866295950|tw15988796308270438361|tw2914279502051216697|tw7068363572739382104|tw8047595373988091355|tw9918529849858240716|tw1038950082249538772|tw12229170092653502284|tw5610764516886702116|tw4917793391046193025|tw9399645675049820546|tw6612188680414318901|tw6653503188504597258|tw17566943198053066832|tw10249368122930057951|tw394909526173846167|tw7595370426898009011|tw5468417850122672219|tw7383990681392589600|tw11659818023640221237|tw6659493404180604384|tw4115541190475486211|tw6125087625827079110|tw15757701423698171611|tw9777687014149618768|tw3420857694080029140|tw1712359428939542884|tw1704650331763590320|tw16988144400421802340|tw3136569920271579811|tw11954126701306352901|tw16696650416529061501|tw8315150084104769661|tw7236981162314424229|tw2975925607751037389|tw6993830710963018247|tw13784896430521644320|tw12590305578321286689|tw10635382617234348584|tw2170945370206348823|tw7719680936010582039|tw10063083525911466334|tw13512582487892257695|tw10437701510521042353|tw549607533776110640|tw6466309007139386845|tw2956640404145215674|tw2810414412941901033|tw9995846388365803401|tw12993209435823816510|tw4785374379556996108|tw5452666829286347328|tw1795358963397592801|tw10529473832377676849|tw4682704850712465532|tw18107441538302109779|tw10896329687042073746|tw17255938016599851887|tw17039378465341619119|tw3751626714652215518|tw10637596621363485542|tw10815281545387459653|tw13642415659153586917|tw7196940835080284223|tw8272727764602693768|tw3220334265173777190|tw32534930203680849|tw15600168055317118386|tw807057736681741943|tw7642758970104867589|tw9464681518012597160|tw5699299325698702630|tw16283652930389967985|tw1532835415649933540|tw13327470402154215854|tw3998502059048941758|tw9662705981063916267|tw2059705716082888134|tw3438632837803601956|tw1763444006769279691|tw15944154607290534088|tw5305702821873027253|tw3371727974326345157|tw10180756378630274199|tw10307562428602296871|tw4270668060371825520|tw18381567091676332959|tw15008186092645721609|tw6415491146639357121|tw5837968935955563512|tw18294239116429937328|tw8164976487614406329|tw3508352055323633644|tw2580997270863977177|tw5798135604758539031|tw1979003451671886923|tw3601045787504725795|tw917511756983528368|tw9032459534038336714|tw3620776082110148878|tw15490130813960846718|tw9019937546113644832|tw15510729000480739062|tw12254017633336494180|tw13217567892061790343|tw6984348037339102456|tw13980696244958127704|tw14974465083575999489|tw9393959459652109391|tw13792833350813786256|tw1572288743432312187|tw7815155379455194723|tw14992775715480932201|tw739949451318956009|tw1621397583978881252|tw7893619628704510929|tw13350587196669842783|tw11404621524508826825|tw10745144250271768269|tw9561794516184570488|tw14339304261941741524|tw11990814116113019961|tw8456665808313619113
open PySem PySem.W PyProof.Rows
set_option maxRecDepth 100000 in
set_option maxHeartbeats 0 in
theorem PySem.Challenge.cw_errandend_k22_whole_never_round_again_holds : PySem.Challenge.rw_errandend_k22_whole_never_round_again.Holds := by
 w_on; o_law; k_head; (case hw => w_witness2)
 k_fill
 refine LW.walk (l := PySem.Challenge.rw_errandend_k22_whole_never_round_again) rfl rfl (fun w h Y => PySem.W.kIn_of Y) ?F
 case F =>
  intro w mg fa h KX G hmg
  refine' LW.all_mk KX G hmg ?aC ?a_0 ?l_0 ?c_0 ?k_0 ?a_1 ?l_1 ?c_1 ?k_1 ?a_2 ?l_2 ?c_2 ?k_2 ?a_3 ?l_3 ?c_3 ?k_3 ?a_4 ?l_4 ?c_4 ?k_4 ?a_5 ?l_5 ?c_5 ?k_5 ?a_6 ?l_6 ?c_6 ?k_6 ?a_7 ?l_7 ?c_7 ?k_7 ?a_8 ?l_8 ?c_8 ?k_8 ?a_9 ?l_9 ?c_9 ?k_9 ?a_a ?l_a ?c_a ?k_a ?a_b ?l_b ?c_b ?k_b ?a_c ?l_c ?c_c ?k_c ?a_d ?l_d ?c_d ?k_d ?a_e ?l_e ?c_e ?k_e ?a_f ?l_f ?c_f ?k_f ?a_g ?l_g ?c_g ?k_g ?a_h ?l_h ?c_h ?k_h ?a_i ?l_i ?c_i ?k_i ?a_j ?l_j ?c_j ?k_j ?a_k ?l_k ?c_k ?k_k ?a_l ?l_l ?c_l ?k_l ?a_m ?l_m ?c_m ?k_m ?a_n ?l_n ?c_n ?k_n ?a_o ?l_o ?c_o ?k_o ?a_p ?l_p ?c_p ?k_p ?a_q ?l_q ?c_q ?k_q ?a_r ?l_r ?c_r ?k_r ?a_s ?l_s ?c_s ?k_s ?a_t ?l_t ?c_t ?k_t ?a_u ?l_u ?c_u ?k_u ?a_v ?l_v ?c_v ?k_v ?a_w ?l_w ?c_w ?k_w ?a_x ?l_x ?c_x ?k_x ?a_y ?l_y ?c_y ?k_y ?a_z ?l_z ?c_z ?k_z ?a_10 ?l_10 ?c_10 ?k_10 ?a_11 ?l_11 ?c_11 ?k_11 ?a_12 ?l_12 ?c_12 ?k_12 ?a_13 ?l_13 ?c_13 ?k_13 ?a_14 ?l_14 ?c_14 ?k_14 ?a_15 ?l_15 ?c_15 ?k_15 ?a_16 ?i_R_init ?l_16 ?c_16 ?k_16 ?a_17 ?i_R_begin ?l_17 ?c_17 ?k_17 ?a_18 ?i_R_go_on ?l_18 ?c_18 ?k_18 ?a_19 ?i_R_prepare ?l_19 ?c_19 ?k_19 ?a_1a ?i_R_finish ?l_1a ?c_1a ?k_1a ?a_1b ?i_R_taken ?l_1b ?c_1b ?k_1b ?a_1c ?i_R_choose ?l_1c ?c_1c ?k_1c ?a_1d ?i_R_join_pair ?l_1d ?c_1d ?k_1d ?a_1e ?i_R_parameter ?l_1e ?c_1e ?k_1e ?a_1f ?l_1f ?c_1f ?k_1f ?z_1i ?z_1j ?z_1k ?z_1l ?z_1m ?z_1n ?z_1o ?z_1p ?z_1q ?z_14 ?z_1r ?z_1s ?z_1t ?z_1g ?z_1h ?x_1u ?x_1v ?x_1w ?x_1x ?pgC ?hdC ?poC ?saC ?mkC ?kcC ?n_params ?n_bodies ?n_most ?n_begun ?n_pending ?n_waiting ?n_ending
  (case aC=>k_is)
  (case a_0=>k_is)
  (case l_0=>k_is)
  (case c_0=>k_is)
  (case k_0=>k_is)
  (case a_1=>k_is)
  (case l_1=>k_is)
  (case c_1=>k_is)
  (case k_1=>k_is)
  (case a_2=>k_is)
  (case l_2=>k_is)
  (case c_2=>k_is)
  (case k_2=>k_is)
  (case a_3=>k_is)
  (case l_3=>k_is)
  (case c_3=>k_is)
  (case k_3=>k_is)
  (case a_4=>k_is)
  (case l_4=>k_is)
  (case c_4=>k_is)
  (case k_4=>k_is)
  (case a_5=>k_is)
  (case l_5=>k_is)
  (case c_5=>k_is)
  (case k_5=>k_is)
  (case a_6=>k_is)
  (case l_6=>k_is)
  (case c_6=>k_is)
  (case k_6=>k_is)
  (case a_7=>k_is)
  (case l_7=>k_is)
  (case c_7=>k_is)
  (case k_7=>k_is)
  (case a_8=>k_is)
  (case l_8=>k_is)
  (case c_8=>k_is)
  (case k_8=>k_is)
  (case a_9=>k_is)
  (case l_9=>k_is)
  (case c_9=>k_is)
  (case k_9=>k_is)
  (case a_a=>k_is)
  (case l_a=>k_is)
  (case c_a=>k_is)
  (case k_a=>k_is)
  (case a_b=>k_is)
  (case l_b=>k_is)
  (case c_b=>k_is)
  (case k_b=>k_is)
  (case a_c=>k_is)
  (case l_c=>k_is)
  (case c_c=>k_is)
  (case k_c=>k_is)
  (case a_d=>k_is)
  (case l_d=>k_is)
  (case c_d=>k_is)
  (case k_d=>k_is)
  (case a_e=>k_is)
  (case l_e=>k_is)
  (case c_e=>k_is)
  (case k_e=>k_is)
  (case a_f=>k_is)
  (case l_f=>k_is)
  (case c_f=>k_is)
  (case k_f=>k_is)
  (case a_g=>k_is)
  (case l_g=>k_is)
  (case c_g=>k_is)
  (case k_g=>k_is)
  (case a_h=>k_is)
  (case l_h=>k_is)
  (case c_h=>k_is)
  (case k_h=>k_is)
  (case a_i=>k_is)
  (case l_i=>k_is)
  (case c_i=>k_is)
  (case k_i=>k_is)
  (case a_j=>k_is)
  (case l_j=>k_is)
  (case c_j=>k_is)
  (case k_j=>k_is)
  (case a_k=>k_is)
  (case l_k=>k_is)
  (case c_k=>k_is)
  (case k_k=>k_is)
  (case a_l=>k_is)
  (case l_l=>k_is)
  (case c_l=>k_is)
  (case k_l=>k_is)
  (case a_m=>k_is)
  (case l_m=>k_is)
  (case c_m=>k_is)
  (case k_m=>k_is)
  (case a_n=>k_is)
  (case l_n=>k_is)
  (case c_n=>k_is)
  (case k_n=>k_is)
  (case a_o=>k_is)
  (case l_o=>k_is)
  (case c_o=>k_is)
  (case k_o=>k_is)
  (case a_p=>k_is)
  (case l_p=>k_is)
  (case c_p=>k_is)
  (case k_p=>k_is)
  (case a_q=>k_is)
  (case l_q=>k_is)
  (case c_q=>k_is)
  (case k_q=>k_is)
  (case a_r=>k_is)
  (case l_r=>k_is)
  (case c_r=>k_is)
  (case k_r=>k_is)
  (case a_s=>k_is)
  (case l_s=>k_is)
  (case c_s=>k_is)
  (case k_s=>k_is)
  (case a_t=>k_is)
  (case l_t=>k_is)
  (case c_t=>k_is)
  (case k_t=>k_is)
  (case a_u=>k_is)
  (case l_u=>k_is)
  (case c_u=>k_is)
  (case k_u=>k_is)
  (case a_v=>k_is)
  (case l_v=>k_is)
  (case c_v=>k_is)
  (case k_v=>k_is)
  (case a_w=>k_is)
  (case l_w=>k_is)
  (case c_w=>k_is)
  (case k_w=>k_is)
  (case a_x=>k_is)
  (case l_x=>k_is)
  (case c_x=>k_is)
  (case k_x=>k_is)
  (case a_y=>k_is)
  (case l_y=>k_is)
  (case c_y=>k_is)
  (case k_y=>k_is)
  (case a_z=>k_is)
  (case l_z=>k_is)
  (case c_z=>k_is)
  (case k_z=>k_is)
  (case a_10=>k_is)
  (case l_10=>k_is)
  (case c_10=>k_is)
  (case k_10=>k_is)
  (case a_11=>k_is)
  (case l_11=>k_is)
  (case c_11=>k_is)
  (case k_11=>k_is)
  (case a_12=>k_is)
  (case l_12=>k_is)
  (case c_12=>k_is)
  (case k_12=>k_is)
  (case a_13=>k_is)
  (case l_13=>k_is)
  (case c_13=>k_is)
  (case k_13=>k_is)
  (case a_14=>k_is)
  (case l_14=>k_is)
  (case c_14=>k_is)
  (case k_14=>k_is)
  (case a_15=>k_is)
  (case l_15=>k_is)
  (case c_15=>k_is)
  (case k_15=>k_is)
  (case a_16=>k_is)
  (case i_R_init=>k_is)
  (case l_16=>k_is)
  (case c_16=>k_is)
  (case k_16=>k_is)
  (case a_17=>k_is)
  (case i_R_begin=>k_is)
  (case l_17=>k_is)
  (case c_17=>k_is)
  (case k_17=>k_is)
  (case a_18=>k_is)
  (case i_R_go_on=>k_is)
  (case l_18=>k_is)
  (case c_18=>k_is)
  (case k_18=>k_is)
  (case a_19=>k_is)
  (case i_R_prepare=>k_is)
  (case l_19=>k_is)
  (case c_19=>k_is)
  (case k_19=>k_is)
  (case a_1a=>k_is)
  (case i_R_finish=>k_is)
  (case l_1a=>k_is)
  (case c_1a=>k_is)
  (case k_1a=>k_is)
  (case a_1b=>k_is)
  (case i_R_taken=>k_is)
  (case l_1b=>k_is)
  (case c_1b=>k_is)
  (case k_1b=>k_is)
  (case a_1c=>k_is)
  (case i_R_choose=>k_is)
  (case l_1c=>k_is)
  (case c_1c=>k_is)
  (case k_1c=>k_is)
  (case a_1d=>k_is)
  (case i_R_join_pair=>k_is)
  (case l_1d=>k_is)
  (case c_1d=>k_is)
  (case k_1d=>k_is)
  (case a_1e=>k_is)
  (case i_R_parameter=>k_is)
  (case l_1e=>k_is)
  (case c_1e=>k_is)
  (case k_1e=>k_is)
  (case a_1f=>k_is)
  (case l_1f=>k_is)
  (case c_1f=>k_is)
  (case k_1f=>k_is)
  (case z_1i=>k_is)
  (case z_1j=>k_is)
  (case z_1k=>k_is)
  (case z_1l=>k_is)
  (case z_1m=>k_is)
  (case z_1n=>k_is)
  (case z_1o=>k_is)
  (case z_1p=>k_is)
  (case z_1q=>k_is)
  (case z_14=>k_is)
  (case z_1r=>k_is)
  (case z_1s=>k_is)
  (case z_1t=>k_is)
  (case z_1g=>k_is)
  (case z_1h=>k_is)
  (case x_1u=>k_is)
  (case x_1v=>k_is)
  (case x_1w=>k_is)
  (case x_1x=>kernel_rfl)
  (case pgC=>k_is)
  (case hdC=>k_is)
  (case poC=>k_is)
  (case saC=>k_is)
  (case mkC=>k_is)
  (case kcC=>k_is)
  (case n_params=>k_is)
  (case n_bodies=>k_is)
  (case n_most=>k_is)
  (case n_begun=>k_is)
  (case n_pending=>k_is)
  (case n_waiting=>k_is)
  (case n_ending=>k_is)
#print axioms PySem.Challenge.cw_errandend_k22_whole_never_round_again_holds
