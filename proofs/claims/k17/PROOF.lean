import PyProof.Rows.All
import Wide.All
import OpenK.AllK
import Wide.FinOn
import Lean
import PyProof.EqAt
import PyProof.EqKinds
import PyProof.TupleCall
import PySem.Challenge.RW_errandend_k17_too_many
set_option Elab.async false
set_option linter.all false
set_option maxRecDepth 100000
noncomputable section
open Array renaming forIn_toList→HY,length_toList→Ik,toList→Il,getElem?_toList→IK
open Bool renaming false_ne_true→cF,eq_iff_iff→eB,and_eq_true→eP,false_eq_true→f9,and_self→lU,not_true→ur,and_assoc→Ib,or_false→IE,and_false→IJ
open False renaming elim→gb
open Function renaming comp_def→JB,comp→JR
open Int renaming toNat_natCast→fi,emod_nonneg→ie,toNat→oD,emod_lt_of_pos→uT,le_refl→Ac
open List renaming length_map→ay,getElem?_map→aJ,range→aN,getElem?_eq_getElem→aX,length_append→a5,mem_cons→a8,map_cons→ba,mem_map→bj,getD_eq_getElem?_getD→bu,mem_append→bI,size_toArray→bM,length_cons→bW,mem_cons_self→b4,mem_singleton→b5,map_append→b6,getElem?_eq_none→b_,not_mem_nil→cc,mem_cons_of_mem→cB,getElem?_eq_some_iff→cT,mem_of_getElem?→cU,length_take→c8,mem_append_right→df,map_map→dq,mem_append_left→dE,length_nil→dN,replicate→eR,ext_getElem?→fj,getElem?_range→fB,length_drop→fP,map_nil→fR,mem_range→f_,find?_cons→gE,lookup_cons→gF,filterMap_cons→hV,nodup_cons→hW,any_cons→ia,take_length→ic,take_succ→ij,mem_map_of_mem→iW,take_of_length_le→jL,getElem_of_mem→jN,cons_append→kG,length→kI,flatten_cons→kK,append_nil→lV,all_cons→lW,mem_filter→lX,length_singleton→l_,mem_of_mem_take→md,filterMap_append→mf,mem_filterMap→n_,length_reverse→oo,take_append_drop→ow,any_eq_true→ox,filter_append→oB,getElem_mem→oC,length_range→qO,drop_zero→qP,forIn_cons→qR,range_succ→qX,map_take→qZ,take_sublist→uy,forIn_nil→uN,drop_eq_nil_of_le→uQ,nodup_iff_pairwise_ne→uR,mem_of_mem_drop→uS,nodup_append→uX,append_assoc→uY,lookup_append→uZ,map_congr_left→u4,getElem?_set_ne→zm,of_mem_zip→zp,getElem?_append_right→zq,getElem?_append_left→zr,eraseIdx_cons_succ→zI,foldl_cons→zO,getElem?_reverse→zU,range'→zZ,length_filter_le→Ab,takeWhile_cons→Ad,mem_flatten→Ae,flatten_append→Af,getElem?_zipIdx→Ai,range_succ_eq_map→HZ,all_map→H_,getElem?_set_self→Ic,getElem?_replicate→Iu,getElem?_take_of_lt→Iv,length_replicate→Iw,eraseIdxIfInBounds_toArray→IM,length_dropLast→IP,pairwise_map→Ji,filter_cons→Jk,zipIdx_cons→Jn,zipIdx_nil→Jo,filter_eq_self→Jr,getElem?_zip_eq_some→Js,length_erase_of_mem→Jt,length_pos_of_mem→Ju,mem_erase_of_ne→Jw,filter_map→Jx,nil_append→JA,any_map→JH,mem_zipIdx_iff_getElem?→JI,map_drop→JK,reverse_append→JL,reverse_reverse→JM,map_reverse→JN,drop_eq_getElem_cons→JO,drop_length→JP,filter_congr→JQ
open List.Pairwise renaming imp_of_mem→Jj
open List.cons renaming injEq→oE
open Nat renaming le_refl→aQ,le_trans→bR,lt_of_lt_of_le→cR,ne_of_lt→cS,zero_le→dO,lt_irrefl→iS,le_of_lt→lY,ne_of_gt→l9,lt_of_le_of_lt→qN,sub_zero→qQ,le_add_right→qW,add_assoc→uo,min_eq_left→uO,min_eq_right→uP,lt_or_ge→Ak,succ_min_succ→Ia,le_of_not_lt→IQ
open Ne renaming symm→dn
open Option renaming map_eq_some_iff→b9,bind_eq_some_iff→jO,isSome_iff_exists→ux,isSome_map→uF,map_some→u5,isSome_some→zN,getD_none→IF,getD_some→IU
open Option.some renaming inj→dD,injEq→jJ
open Prod renaming fst→bo
open Prod.mk renaming injEq→iV
open PyProof.Rows renaming boot_tuple→gG,callWith_type1→jH,slot_tuple_getitem→jI,boot_isinstance→u9,entry_tuple_getitem→IA,args_tuple_getitem→IB,subscriptTail_builtinR→IC
open PyProof.Rows.IsTup renaming new→zE
open PySem renaming wpAny_bind→ah,wpAny_pure→az,wpAny_field→cG,boot_len→eE,wpAny_mono→eQ,wpAny_call_entry→f7,wpAny_setField_rec→gf,mem_of_lookup→hX,wpAny_callSpecial?_slot→hZ,wpAny_newObj_type→h_,wpAny_seqItems→iR,wpAny_rule→jG,wpAny_attempt→jK,wpAny_specialOf→kH,wpAny_of_eq→kJ,wpAny_truthy_bool→lZ,wpAny_passesOwn→l7,wpAny_pyIter_tuple→n8,wpAny_holding→og,typeLookup_type→oh,builtinLookup_eq_fast→oi,wpAny_letGo→oA,lookup_relabel_local→oF,wpAny_isInstance→qI,wpAny_execs_nil→qK,wpAny_typeOf→qL,wpAny_setField→qS,strLen_append→rf,eqIsQuiet_byValue→uq,sizeLine_eq→uv,call_meets→uD,wpAny_getItem_str_slice→uI,post_val_or_str→uJ,isSubtype_type→uK,wpAny_onRaise→uV,wpAny_updateSeq→u7,wpAny_Name→zo,wpAny_Call_Name_kw→zt,concat_meets→zu,noFill_tuple_add→zw,seq_tuple_add→zy,seqIndex_of→zF,typeIs_str→zG,call→zK,codeAny_mono→zL,callType_new→zP,wpAny_mkInt→zQ,isSubtype_stop→zS,wpAny_updateSeq_pair→z0,wpAny_loadName_local→Ig,wpAny_loadName_cell→Ih,wpAny_isTrue_Compare1→Ij,wpAny_assign_Name→Io,wpAny_pyIter_list→Ip,wpAny_sequenceKey→Iz,slot_list_getitem→ID,wpAny_pyIter_slot→IX,codeAny_call_builtin→Jc,wpAny_pyIter_revIter→Jy,wpAny_comprehension_free→Jz
open PySem.Bind renaming checkArgs→Jd
open PySem.Builtin.List renaming listTooLong→zJ,listExtendWith→Ah,listItems→JF,listSameRef→JG
open PySem.Builtin.ObjectAttr renaming find→abf,dataDescriptor?→abg
open PySem.Builtin.Range renaming rangeSize→aaZ
open PySem.Builtin.Slice renaming slicePlaces→uz,sliceAdjust→zD,sliceApplied→Iy,slicePartIndex→aa8,sliceFields→aa9
open PySem.Builtin.SmallTypes renaming nextOf→jM,ownedTupleIsFree→oy,ownedTupleHandOut→qV,newRecord→abb,stopIteration→abd
open PySem.Builtin.Str renaming strSliceIndices→IT
open PySem.Builtin.Tuple renaming tupleHashOf→n0,tupleExact→uA,tupleItemsOf→zk,tupleIsExact→IY
open PySem.Calls renaming Name_function_global→Ii,spliced_nil→Iq,spliced_cons→Ir,callWith_builtin→IH,evalArgs_plain→II
open PySem.EqMixed renaming eq_bool_str→aa0,eq_int_str→aa1,eq_str_bool→aa2,eq_str_int→aa3,ne_bool_str→aa4,ne_int_str→aa5,ne_str_bool→aa6,ne_str_int→aa7
open PySem.F renaming plainAttrs_list→c9,slot_list_append→eC,type_list_append→eS,slot_list_pop→ma,slot_enumerate_next→qY,type_list_pop→q_,slot_tuple_hash→um,slot_list_extend→uE,slot_tuple_iterator_next→uU,slot_zip_next→uW,slot_tuple_add→zA,entry_tuple_add→zB,args_tuple_add_2→zC,plain_extend_loop→Ag,type_list_extend→Aj,entry_list_pop→IL,args_object_init_2→IV,excBase_ValueError→I0,excAttr_ValueError→Jb,entry_tuple_iterator_next→Jl,args_tuple_iterator_next_1→Jm,entry_zip_next→Jp,args_zip_next_1→Jq,entry_enumerate_next→JC,args_enumerate_next_1→JD,slot_enumerate_iter→JE,slot_dict_len→JJ
open PySem.Heap renaming lt_size→bg,get?_push_of_some→bt,get?_push_size→c7,SameBut→fh,size_push→ig,get?_update_self→oj,get?_update_other→qM,ExtBut→qU,MadeExcOf→zT,FlyingW→zV,IsTuple→z_
open PySem.Heap.IsSliceOf renaming new→aba
open PySem.Heap.SameBut renaming update→qT
open PySem.Heap.UpToSlots renaming of_keeps→IZ
open PySem.Obj renaming mapSeq→fQ,data_mapFields→om,mapFields→uL,isFreed_of_fields→zR,cls_mapFields→IW
open PySem.PassesOwn renaming never→dg
open PySem.SeqAt renaming EqAt→uC,in_listAt→IG
open PySem.SeqAt.EqAt renaming int_str→HW,str_int→HX
open PySem.Shared renaming heap→Aa
open PySem.Str renaming ofString→gc,length→uB,append→uG
open PySem.Txt renaming slice→uH
open PySem.Value renaming isInt→HU,isStrOf→HV
open PySem.Value.ref renaming inj→Jg
open PySem.Value.type renaming inj→u6
open PySem.W renaming Frag→ak,nsIn→a6,fnOf→bA,keepIn→bG,codeIn→bJ,mg_of→ib,mg_none_of→ik,hideAll→iT,kitCls→iU,of_hideAll→n6,excIn→oq,kitOne→ou,hideAll_none→qJ,hideAll_get→uu,cellsFrom_some→uw,funFrames_hide→uM,methodObj→zl,OpenLaw→zM,Looks→zW,findIn→zX,kitAny→zY,WalkO→IS,kit_cls→I_,mroIn→Je,clsIn→Jf,kia_one→Jh
open PySem.W.Looks renaming ld→Ja,of_pure→abe
open Sum.inr renaming inj→zj
local macro_rules|`(tactic|lia)=>`(tactic|omega)
local macro_rules|`(tactic|cbv)=>`(tactic|decide +kernel)
namespace L2
open PySem PySem.Spec PyProof.Rows
abbrev Key:=Sum Int Str
def mh:Key->Value->Bool
 | .inl k,v=>HU k v
 | .inr x,v=>HV x v
def JS(w:World):Key->Int
 | .inl k=>hashInt k
 | .inr x=>hashStr w x
theorem iX:∀{k:Key} {v:Value},mh k v=true->(∃i t,k=Sum.inl i/\v=Value.int i t)∨(∃x t,k=Sum.inr x/\v=Value.str x t)
 | .inl i,v,h=>by
  obtain⟨t,e⟩:=Value.isInt_shape (k:=i) (v:=v) h;exact .inl ⟨i,t,rfl,e⟩
 | .inr x,v,h=>by
  obtain⟨t,e⟩:=Value.isStrOf_shape (x:=x) (v:=v) h;exact .inr ⟨x,t,rfl,e⟩
theorem JT(i:Int)(t:Tok):mh (.inl i) (.int i t)=true:=by simp[mh,HU]
theorem JU(x:Str)(t:Tok):mh (.inr x) (.str x t)=true:=by simp[mh,HV]
theorem JV(a b:Int):decide ((Sum.inl a:Key)=Sum.inl b)=(a==b):=by
 by_cases e:a=b
 ·subst e;simp
 ·have h:¬(Sum.inl a:Key)=Sum.inl b:=λq=>e (Sum.inl.inj q);rw[decide_eq_false h];exact(beq_eq_false_iff_ne.mpr e).symm
theorem JW(a b:Str):decide ((Sum.inr a:Key)=Sum.inr b)=decide (a=b):=by
 by_cases e:a=b
 ·subst e;simp
 ·have h:¬(Sum.inr a:Key)=Sum.inr b:=λq=>e (zj q);rw[decide_eq_false h,decide_eq_false e]
theorem JX(a:Int)(b:Str):decide ((Sum.inl a:Key)=Sum.inr b)=false:=decide_eq_false (λq=>nomatch q)
theorem JY(a:Str)(b:Int):decide ((Sum.inr a:Key)=Sum.inl b)=false:=decide_eq_false (λq=>nomatch q)
def eT(prog:Program)(w:World):PySem.KeyKind prog w Key where
 is:=mh
 hash:=JS w
 inj:=λv a b ha hb=>by
  rcases iX ha with⟨i,t,rfl,rfl⟩|⟨x,t,rfl,rfl⟩
  ·rcases iX hb with⟨j,u,rfl,e⟩|⟨y,u,rfl,e⟩
   ·injection e with e1 _;rw[e1]
   ·exact nomatch e
  ·rcases iX hb with⟨j,u,rfl,e⟩|⟨y,u,rfl,e⟩
   ·exact nomatch e
   ·injection e with e1 _;rw[e1]
 byValue:=λk v h=>by
  rcases iX h with⟨i,t,rfl,rfl⟩|⟨x,t,rfl,rfl⟩<;>rfl
 pyHash:=λhv h=>by
  rcases iX hv with⟨i,t,rfl,rfl⟩|⟨x,t,rfl,rfl⟩
  ·exact wpAny_pyHash_int h
  ·exact wpAny_pyHash_str h
 eqBool:=λhu hv h=>by
  rcases iX hu with⟨i,t,rfl,rfl⟩|⟨x,t,rfl,rfl⟩
  ·rcases iX hv with⟨j,u,rfl,rfl⟩|⟨y,u,rfl,rfl⟩
   ·rw[JV]at h;exact wpAny_eqBool_int h
   ·rw[JX]at h;exact HW i t y u _ _ _ _ h
  ·rcases iX hv with⟨j,u,rfl,rfl⟩|⟨y,u,rfl,rfl⟩
   ·rw[JY]at h;exact HX x t j u _ _ _ _ h
   ·rw[JW]at h;exact wpAny_eqBool_str h
 «strs»:=λk x t v h=>by
  rcases iX h with⟨i,u,rfl,e⟩|⟨y,u,rfl,e⟩
  ·exact nomatch e
  ·injection e with e1 _;subst e1;cases v<;>rfl
theorem u_(prog:Program)(w:World)(i:Int)(t:Tok):(eT prog w).is (.inl i) (.int i t)=true:=JT i t
theorem va(prog:Program)(w:World)(x:Str)(t:Tok):(eT prog w).is (.inr x) (.str x t)=true:=JU x t
end L2
namespace L2
open PySem PySem.Spec PyProof.Rows SeqAt
inductive DK where
 |int (i:Int)|str (x:Str)|tup (ks:List DK)
mutual
def DK.beq:DK->DK->Bool
 | .int a,.int b=>decide (a=b)
 | .str a,.str b=>decide (a=b)
 | .tup a,.tup b=>DK.fD a b
 |_,_=>false
def DK.fD:List DK->List DK->Bool
 |[],[]=>true
 |a::as,b::bs=>a.beq b&&DK.fD as bs
 |_,_=>false
end
mutual
theorem DK.beq_eq:∀{a b:DK},a.beq b=true->a=b
 | .int a,.int b,h=>by simp only[DK.beq,decide_eq_true_eq]at h;rw[h]
 | .str a,.str b,h=>by simp only[DK.beq,decide_eq_true_eq]at h;rw[h]
 | .tup a,.tup b,h=>by simp only[DK.beq]at h;rw[DK.Am h]
 | .int _,.str _,h=>by simp[DK.beq]at h
 | .int _,.tup _,h=>by simp[DK.beq]at h
 | .str _,.int _,h=>by simp[DK.beq]at h
 | .str _,.tup _,h=>by simp[DK.beq]at h
 | .tup _,.int _,h=>by simp[DK.beq]at h
 | .tup _,.str _,h=>by simp[DK.beq]at h
theorem DK.Am:∀{as bs:List DK},DK.fD as bs=true->as=bs
 |[],[],_=>rfl
 |a::as,b::bs,h=>by
  simp only[DK.fD,eP]at h;rw[DK.beq_eq h.1,DK.Am h.2]
 |[],_::_,h=>by simp[DK.fD]at h
 |_::_,[],h=>by simp[DK.fD]at h
end
mutual
theorem DK.beq_refl:∀a:DK,a.beq a=true
 | .int a=>by simp[DK.beq]
 | .str a=>by simp[DK.beq]
 | .tup as=>by simp only[DK.beq];exact DK.An as
theorem DK.An:∀as:List DK,DK.fD as as=true
 |[]=>by simp[DK.fD]
 |a::as=>by simp only[DK.fD,DK.beq_refl a,DK.An as,lU]
end
instance:DecidableEq DK:=λa b=>if h:a.beq b=true then .isTrue (DK.beq_eq h) else .isFalse λe=>h (e▸DK.beq_refl a)
mutual
def DK.deep:DK->Nat
 | .tup ks=>DK.cH ks+1
 |_=>0
def DK.cH:List DK->Nat
 |[]=>0
 |k::ks=>max k.deep (DK.cH ks)
end
mutual
inductive dh(h:Heap):DK->Value->Prop where
 |int (i:Int) (t:Tok):dh h (.int i) (.int i t)
 |str (x:Str) (t:Tok):dh h (.str x) (.str x t)
 |tup {ks:List DK} {a:Addr} {o:Obj} {items:Array Value} {n:Nat}:h.get? a=some o->o.cls=.type "tuple"->o.data=.seq items n->dc h ks items.toList->dh h (.tup ks) (.ref a)
inductive dc(h:Heap):List DK->List Value->Prop where
 |nil:dc h [] []
 |cons {k:DK} {v:Value} {ks:List DK} {vs:List Value}:dh h k v->dc h ks vs->dc h (k::ks) (v::vs)
end
mutual
theorem dh.inj{h:Heap}:∀{x y:DK} {v:Value},dh h x v->dh h y v->x=y
 |_,_,_,.int i t,e=>by cases e;rfl
 |_,_,_,.str x t,e=>by cases e;rfl
 |_,_,_,.tup h1 _ h3 h4,e=>by
  cases e with
  |tup g1 _ g3 g4 =>
   rw[h1]at g1;cases g1;rw[h3]at g3;cases g3;rw[dc.inj h4 g4]
theorem dc.inj{h:Heap}:∀{xs ys:List DK} {vs:List Value},dc h xs vs->dc h ys vs->xs=ys
 |_,_,_,.nil,e=>by cases e;rfl
 |_,_,_,.cons h1 h2,e=>by
  cases e with
  |cons g1 g2=>rw[dh.inj h1 g1,dc.inj h2 g2]
end
mutual
theorem dh.mono{h h':Heap}(k:∀a o items n,h.get? a=some o->o.data=.seq items n->h'.get? a=some o):∀{x:DK} {v:Value},dh h x v->dh h' x v
 |_,_,.int i t=>.int i t
 |_,_,.str x t=>.str x t
 |_,_,.tup h1 h2 h3 h4=>.tup (k _ _ _ _ h1 h3) h2 h3 (dc.mono k h4)
theorem dc.mono{h h':Heap}(k:∀a o items n,h.get? a=some o->o.data=.seq items n->h'.get? a=some o):∀{xs:List DK} {vs:List Value},dc h xs vs->dc h' xs vs
 |_,_,.nil=>.nil
 |_,_,.cons h1 h2=>.cons (dh.mono k h1) (dc.mono k h2)
end
section
variable(P:Program)(w:World)
mutual
def iY:DK->Int
 | .int i=>(eT P w).hash (.inl i)
 | .str x=>(eT P w).hash (.inr x)
 | .tup ks=>reduceHash (n0 (gg ks))
def gg:List DK->List Int
 |[]=>[]
 |k::ks=>iY k::gg ks
end
end
mutual
def iZ:DK->Nat
 | .int _=>1
 | .str _=>1
 | .tup ks=>jP ks+1
def jP:List DK->Nat
 |[]=>0
 |k::ks=>iZ k+jP ks
end
theorem vb(P:Program)(w:World):∀(ks:List DK) (k:DK),gg P w (ks++[k])=gg P w ks++[iY P w k]
 |[],k=>by simp[gg]
 |x::ks,k=>by rw[kG,gg,gg,vb P w ks k,kG]
theorem vc:∀(ks:List DK) (k:DK),jP (ks++[k])=jP ks+iZ k
 |[],k=>by simp[jP]
 |x::ks,k=>by rw[kG,jP,jP,vc ks k];lia
theorem Ao:∀(a b:List DK),DK.cH (a++b)=max (DK.cH a) (DK.cH b)
 |[],b=>by simp[DK.cH]
 |x::a,b=>by rw[kG,DK.cH,DK.cH,Ao a b];lia
section
variable{P:Program}{w:World}
theorem JZ:∀(n:Nat) {A:Around} {E:Value->Shared->Prop} {s:Shared} {k:DK} {v:Value} {Q:Int->Shared->Prop},k.deep<=n->A.units+n<cLine->dh s.heap k v->Q (iY P w k) {s with toks:=s.toks+iZ k} ->
 wpAny (model P w) A (PySem.pyHash v) Q E s:=by
 intro n
 induction n with
 |zero =>
  intro A E s k v Q hn hu hk h;cases hk with
  |int i t=>rw[iY,iZ]at h;exact(eT P w).pyHash (k:=.inl i) (u_ _ _ i t) h
  |str x t=>rw[iY,iZ]at h;exact(eT P w).pyHash (k:=.inr x) (va _ _ x t) h
  |tup h1 h2 h3 h4=>simp[DK.deep]at hn
 |succ n ih =>
  intro A E s k v Q hn hu hk h;cases hk with
  |int i t=>rw[iY,iZ]at h;exact(eT P w).pyHash (k:=.inl i) (u_ _ _ i t) h
  |str x t=>rw[iY,iZ]at h;exact(eT P w).pyHash (k:=.inr x) (va _ _ x t) h
  |@tup ks a o items m h1 h2 h3 h4 =>
   have hT:s.TypeIs (.ref a) "tuple":=⟨o,h1,h2⟩;have hu0:A.units<cLine:=by lia
   rw[DK.deep]at hn;unfold pyHash
   first|unfold pyHashByItsType|skip
   first|refine ah (wpAny_cRoomFor_or (.inr hu0) ?_)|skip
   refine ah (kH hT um.lookup ?_);show wpAny _ _ (if(some (Value.builtin "tuple.__hash__")==some Value.none)=true then _ else _) Q E s;rw[if_neg (by rw[beq_builtin_none];exact cF)];refine ah (kH hT um.lookup ?_);show wpAny _ _ (callSpecialIfBoundUnlessNone? (.ref a) "__hash__" _ >>= _) Q E s;refine ah (wpAny_callSpecialIfBoundUnlessNone?_slot hT um (f7 um hT F.entry_tuple_hash ?_ (F.args_tuple_hash_1 _)));show wpAny _ _ (zk (.ref a) >>= _) _ _ s;refine ah (wpAny_tupleItemsOf h1 h3 ?_);refine ah ?_;rw[<-HY];refine wpAny_forIn_list _
    (λrest (b:Array Int) s'=>∃done left,ks=done++left/\dc s.heap left rest/\b.toList=gg P w done/\s'={s with toks:=s.toks+jP done})
    _ ?_ ?_ _ _ ⟨[],ks,rfl,h4,rfl,rfl⟩
   ·rintro x rest b s' ⟨done,left,rfl,hl,hb,rfl⟩;cases hl with
    |@cons k _ ks' _ g1 hl' =>
     have hd:k.deep<=n:=by
      rw[Ao,DK.cH]at hn;lia
     refine ah (ih hd ?_ g1 ?_)
     ·show A.units+1+n<cLine;lia
     first
      |exact az ⟨done++[k],ks',by simp,hl',by simp[hb,vb],by simp[vc,uo]⟩
      |exact ah (az (az ⟨done++[k],ks',by simp,hl',by simp[hb,vb],by simp[vc,uo]⟩))
   ·rintro b s' ⟨done,left,rfl,hl,hb,rfl⟩;cases hl;rw[lV]at h;show wpAny _ _ (retInt (n0 b.toList)) _ _ _;rw[hb];refine wpAny_ret_mkInt ?_;show wpAny _ _ (if(decide (-(2:Int)^63<=n0 (gg P w done))&&decide (n0 (gg P w done)<2^63))=true then _ else _) Q E _;rw[iY,iZ]at h;unfold reduceHash at h;by_cases hr:(decide (-(2:Int)^63<=n0 (gg P w done))&&decide (n0 (gg P w done)<2^63))=true
    ·rw[if_pos hr];rw[if_pos hr]at h;exact az (by simpa[uo]using h)
    ·rw[if_neg hr];rw[if_neg hr]at h;exact ah (jG (az (by simpa[uo]using h)))
def oG(ds es:List DK)(i:Nat):Bool:=match ds[i]?,es[i]? with
 |some d,some e=>d.beq e
 |_,_=>true
theorem J0(ds es:List DK)(d e:DK)(n:Nat):(aN (n+1)).all (oG (d::ds) (e::es))=(d.beq e&&(aN n).all (oG ds es)):=by
 rw[HZ,lW,H_];rfl
theorem Ap:∀ds es:List DK,DK.fD ds es=((aN (min ds.length es.length)).all (oG ds es)&&ds.length==es.length)
 |[],[]=>by simp[DK.fD]
 |[],_::_=>by simp[DK.fD]
 |_::_,[]=>by simp[DK.fD]
 |d::ds,e::es=>by
  have ih:=Ap ds es;simp only[DK.fD,bW];rw[Ia,J0,ih,Ib];congr 2;rw[eB];simp
theorem dc.len{h:Heap}:∀{ks:List DK} {vs:List Value},dc h ks vs->ks.length=vs.length
 |_,_,.nil=>rfl
 |_,_,.cons _ q=>by simp[dc.len q]
theorem dc.at{h:Heap}:∀{ks:List DK} {vs:List Value} {i:Nat} {v:Value},dc h ks vs->vs[i]?=some v->∃d,ks[i]?=some d/\dh h d v
 |_,_,_,_,.nil,e=>by simp at e
 |_,_,0,_,.cons r _,e=>by simp at e;subst e;exact⟨_,rfl,r⟩
 |_,_,i+1,v,.cons _ q,e=>by
  obtain⟨d,h1,h2⟩:=dc.at (i:=i) (v:=v) q (by simpa using e);exact⟨d,by simpa using h1,h2⟩
theorem Aq:∀{ds:List DK} {i:Nat} {d:DK},ds[i]?=some d->d.deep<=DK.cH ds
 |[],_,_,e=>by simp at e
 |x::xs,0,_,e=>by simp at e;subst e;simp only[DK.cH];lia
 |x::xs,i+1,d,e=>by
  have:=Aq (ds:=xs) (i:=i) (d:=d) (by simpa using e);simp only[DK.cH];lia
theorem J1{s:Shared}:∀(n:Nat) (A:Around) (d e:DK) (u u':Value),d.deep<=n->A.units+n<cLine->dh s.heap d u->dh s.heap e u'->RcAt A s u u' (d.beq e)/\EqAt A s u u' (d.beq e):=by
 have J2:∀a b:Int,(a==b)=decide (a=b):=λa b=>rfl;have flat:∀(A:Around) (d e:DK) (u u':Value),d.deep=0->A.units<cLine->dh s.heap d u->dh s.heap e u'->RcAt A s u u' (d.beq e)/\EqAt A s u u' (d.beq e):=by
  intro A d e u u' hn hu hd he;cases hd with
  |int a t =>
   cases he with
   |int b t'=>rw[DK.beq,<-J2];exact⟨RcAt.int_int a t b t',EqAt.int_int a t b t'⟩
   |str b t'=>exact⟨RcAt.int_str a t b t',EqAt.int_str a t b t'⟩
   |tup h1 h2 h3 h4=>exact⟨RcAt.int_tuple a t ⟨_,h1,h2,_,h3⟩ hu,EqAt.int_tuple a t ⟨_,h1,h2,_,h3⟩ hu⟩
  |str a t =>
   cases he with
   |int b t'=>exact⟨RcAt.str_int a t b t',EqAt.str_int a t b t'⟩
   |str b t' =>
    have e:(a==b)=decide (a=b):=by
     by_cases c:a=b
     ·subst c;simp
     ·rw[decide_eq_false c];simpa using c
    rw[DK.beq,<-e];exact⟨RcAt.str_str a t b t',EqAt.str_str a t b t'⟩
   |tup h1 h2 h3 h4=>exact⟨RcAt.str_tuple a t ⟨_,h1,h2,_,h3⟩ hu,EqAt.str_tuple a t ⟨_,h1,h2,_,h3⟩ hu⟩
  |tup h1 h2 h3 h4=>simp[DK.deep]at hn
 intro n
 induction n with
 |zero=>exact λA d e u u' hn hu hd he=>flat A d e u u' (by lia) (by lia) hd he
 |succ n ih =>
  intro A d e u u' hn hu hd he;have hu':A.units<cLine:=by lia
  by_cases h0:d.deep=0
  ·exact flat A d e u u' h0 hu' hd he
  have hd0:=hd;cases hd with
  |int a t=>simp[DK.deep]at h0
  |str a t=>simp[DK.deep]at h0
  |@tup ks a o items m h1 h2 h3 h4 =>
   have ht:s.heap.IsTuple a items:=⟨_,h1,h2,_,h3⟩;have J3:=he;cases he with
   |int b t=>exact⟨RcAt.tuple_int b t ht hu',EqAt.tuple_int b t ht hu'⟩
   |str b t=>exact⟨RcAt.tuple_str b t ht hu',EqAt.tuple_str b t ht hu'⟩
   |@tup ls b o' items' m' g1 g2 g3 g4 =>
    have eU:s.heap.IsTuple b items':=⟨_,g1,g2,_,g3⟩;rw[DK.deep]at hn;have e:((aN (min items.size items'.size)).all (oG ks ls)&&items.size==items'.size)=DK.beq (.tup ks) (.tup ls):=by
     rw[DK.beq,Ap,h4.len,g4.len];simp
    have rc:RcAt A s (.ref a) (.ref b) (DK.beq (.tup ks) (.tup ls)):=by
     rw[<-e];refine RcAt.tuples ht eU hu' λj j1 j2=>?_;obtain⟨dx,jQ,oH⟩:=h4.at (i:=j) (v:=items[j]) (by simp[j1]);obtain⟨dy,oI,oJ⟩:=g4.at (i:=j) (v:=items'[j]) (by simp[j2]);have As:=Aq jQ;have:=(ih A.in1 dx dy _ _ (by lia) (by show A.units+1+n<cLine;lia) oH oJ).2;unfold oG;rw[jQ,oI];exact this
    refine⟨rc,?_⟩;by_cases hab:a=b
    ·subst hab;have ed:DK.tup ks=DK.tup ls:=dh.inj hd0 J3;rw[<-ed,DK.beq_refl];exact EqAt.same _
    ·exact EqAt.of_refs hab rc
theorem DK.J4(a b:DK):a.beq b=decide (a=b):=by
 by_cases c:a=b
 ·subst c;rw[DK.beq_refl];simp
 ·rw[decide_eq_false c];cases q:a.beq b with
  |false=>rfl
  |true=>exact absurd (DK.beq_eq q) c
theorem J5:∀(n:Nat) {A:Around} {E:Value->Shared->Prop} {s:Shared} {k:DK} {v:Value} {Q:Bool->Shared->Prop},k.deep<=n->dh s.heap k v->Q true s->wpAny (model P w) A (eqIsQuiet n v) Q E s:=by
 intro n
 induction n with
 |zero =>
  intro A E s k v Q hn hk h;cases hk with
  |int i t=>rw[uq _ rfl];exact az h
  |str x t=>rw[uq _ rfl];exact az h
  |tup h1 h2 h3 h4=>simp[DK.deep]at hn
 |succ n ih =>
  intro A E s k v Q hn hk h;cases hk with
  |int i t=>rw[uq _ rfl];exact az h
  |str x t=>rw[uq _ rfl];exact az h
  |@tup ks a o items m h1 h2 h3 h4 =>
   have hT:s.TypeIs (.ref a) "tuple":=⟨o,h1,h2⟩;rw[DK.deep]at hn;unfold eqIsQuiet;refine ah (kH hT F.slot_tuple_eq.lookup ?_);show wpAny _ _ (isInstance (.ref a) (.type "tuple") >>= _) _ _ s;refine ah (qI hT isSubtype_tuple_tuple ?_);simp only[ur,f9,if_false];refine ah (iR h1 h3 ?_);refine ah ?_;show wpAny _ _ (forIn items _ _) _ _ s;rw[<-HY];refine wpAny_forIn_list _ (λrest r s'=>r.1=none/\s'=s/\∃ls,dc s.heap ls rest/\DK.cH ls<=n) _ ?_ ?_ _ _ ⟨rfl,rfl,ks,h4,by lia⟩
   ·rintro v rest r s' ⟨hr,rfl,ls,hls,hdl⟩;cases hls with
    |@cons l _ ls' _ g1 g2 =>
     rw[DK.cH]at hdl;refine ah (ih (k:=l) (by lia) g1 ?_);simp only[ur,f9,if_false];exact az ⟨rfl,rfl,ls',g2,by lia⟩
   ·rintro⟨r1,r2⟩ s' ⟨hr,rfl,_⟩;simp only at hr;subst hr;exact az h
end
def J6(h:Heap)(k:DK)(a:Addr):Prop:=dh h k (.ref a)/\k.deep<=4
def mi(P:Program)(w:World):HeapKind P w DK where
 is:=J6
 hash:=iY P w
 draws:=iZ
 room:=λA=>A.units+4<cLine
 inj:=λhx hy=>hx.1.inj hy.1
 keeps:=λ{h h' k a d o es ep} x ho hd hs=>⟨x.1.mono λb u items n hb hu=>by
  have hne:b≠d:=by
   rintro rfl;obtain rfl:u=o:=dD (hb.symm.trans ho);rw[hd]at hu;exact nomatch hu
  exact(hs.2 b hne).trans hb,x.2⟩
 pyHash:=λhu hk h=>JZ 4 hk.2 hu hk.1 h
 eqBool:=λ{A E s x y a b Q} hu hx hy h=>by
  have:=(J1 4 A x y (.ref a) (.ref b) hx.2 hu hx.1 hy.1).2;rw[DK.J4]at this;exact this _ _ _ _ h
 quiet:=λ{A E s k a Q} hk h=>J5 8 (bR hk.2 (by decide)) hk.1 h
end L2
namespace L2
open PySem PySem.Spec PyProof.Rows
inductive V where
 |non|bl (b:Bool)|int (i:Int)|str (x:Str)|fS (b:Array UInt8)|flt (b:UInt64)|ref (a:Addr)|ty (n:String)
 deriving DecidableEq
def RelV:V->Value->Prop
 | .non,u=>u=Value.none
 | .bl b,u=>u=Value.bool b
 | .int i,u=>∃t,u=Value.int i t
 | .str x,u=>∃t,u=Value.str x t
 | .fS b,u=>∃t,u=Value.bytes b t
 | .flt b,u=>∃t,u=Value.float b t
 | .ref a,u=>u=Value.ref a
 | .ty n,u=>u=Value.type n
abbrev Vals:List V->List Value->Prop:=Paired RelV
theorem Vals.length{xs:List V}{us:List Value}(r:Vals xs us):xs.length=us.length:=Paired.length r
theorem Vals.get:∀{xs:List V} {us:List Value} {i:Nat} {x:V},Vals xs us->xs[i]?=some x->∃u,us[i]?=some u/\RelV x u
 |_,_,_,_,.nil,e=>by simp at e
 |_,_,0,_,.cons r _,e=>by simp at e;subst e;exact⟨_,rfl,r⟩
 |_,_,i+1,x,.cons _ t,e=>by
  obtain⟨u,h1,h2⟩:=Vals.get (i:=i) (x:=x) t (by simpa using e);exact⟨u,by simpa using h1,h2⟩
theorem Vals.append:∀{xs ys:List V} {us ws:List Value},Vals xs us->Vals ys ws->Vals (xs++ys) (us++ws)
 |_,_,_,_,.nil,s=>s
 |_,_,_,_,.cons r t,s=>.cons r (Vals.append t s)
theorem Vals.take:∀{xs:List V} {us:List Value} (n:Nat),Vals xs us->Vals (xs.take n) (us.take n)
 |_,_,0,_=>.nil
 |_,_,_+1,.nil=>.nil
 |_,_,n+1,.cons r t=>.cons r (Vals.take n t)
theorem Vals.drop:∀{xs:List V} {us:List Value} (n:Nat),Vals xs us->Vals (xs.drop n) (us.drop n)
 |_,_,0,r=>r
 |_,_,_+1,.nil=>.nil
 |_,_,n+1,.cons _ t=>Vals.drop n t
def mj:Option V->Option Value->Prop
 |some v,some u=>RelV v u
 |none,none=>True
 |_,_=>False
def KV{κ:Type}:List (κ×V)->List (κ×Value)->Prop:=Paired λ(p:κ×V) (q:κ×Value)=>p.1=q.1/\RelV p.2 q.2
def kV:Key->V
 | .inl i=>.int i
 | .inr x=>.str x
inductive HO where
 |lst (xs:List V)
 |tup (xs:List V)
 |dK (kvs:List (Key×V))|dT (kvs:List (DK×V))
 |set (S:Int->Bool) (n:Nat)
 |ins (C dx:Addr) (fs:List (Str×V))
 |own (x:Addr)
 |xd (fs:List (Str×V))
 |met (f x:Addr)
 |rg (lo hi:Int)
 |dF (o:Obj) (u:HO)
 |jR (ps:Array Value)
 |ext (φ:Heap->Prop)
abbrev Hp:=Addr->Option HO
def upd(H:Hp)(a:Addr)(o:HO):Hp:=λb=>if b=a then some o else H b
theorem di{H:Hp}{a:Addr}{o:HO}:upd H a o a=some o:=by unfold upd;rw[if_pos rfl]
theorem aY{H:Hp}{a b:Addr}{o:HO}(h:b≠a):upd H a o b=H b:=by unfold upd;rw[if_neg h]
theorem J7{H:Hp}{a:Addr}{o u:HO}:upd (upd H a o) a u=upd H a u:=by
 funext b;unfold upd;split<;>rfl
theorem J8{H:Hp}{a b:Addr}{o u:HO}(h:H a=some o)(h':H b=some u)(d:o≠u):a≠b:=by
 intro e;subst e;rw[h]at h';exact d (dD h')
theorem gh{H:Hp}{a b:Addr}{o:HO}(h:H a=some o)(h':H b=none):a≠b:=by
 intro e;subst e;rw[h]at h';cases h'
mutual
inductive gH(H:Hp):DK->V->Prop where
 |int (i:Int):gH H (.int i) (.int i)
 |str (x:Str):gH H (.str x) (.str x)
 |tup {a:Addr} {ks:List DK} {vs:List V}:H a=some (.tup vs)->gI H ks vs->gH H (.tup ks) (.ref a)
inductive gI(H:Hp):List DK->List V->Prop where
 |nil:gI H [] []
 |cons {k:DK} {v:V} {ks:List DK} {vs:List V}:gH H k v->gI H ks vs->gI H (k::ks) (v::vs)
end
mutual
theorem gH.mono{H H':Hp}(ht:∀b xs,H b=some (.tup xs)->H' b=some (.tup xs)):∀{k:DK} {v:V},gH H k v->gH H' k v
 |_,_,.int i=>.int i
 |_,_,.str x=>.str x
 |_,_,.tup h1 h2=>.tup (ht _ _ h1) (gI.mono ht h2)
theorem gI.mono{H H':Hp}(ht:∀b xs,H b=some (.tup xs)->H' b=some (.tup xs)):∀{ks:List DK} {vs:List V},gI H ks vs->gI H' ks vs
 |_,_,.nil=>.nil
 |_,_,.cons h1 h2=>.cons (gH.mono ht h1) (gI.mono ht h2)
end
structure gj(H:Hp)(k:DK)(a:Addr):Prop where
 at_:gH H k (.ref a)
 deep:k.deep<=4
theorem gj.mono{H H':Hp}{k:DK}{a:Addr}(x:gj H k a)(ht:∀b xs,H b=some (.tup xs)->H' b=some (.tup xs)):gj H' k a:=⟨x.at_.mono ht,x.deep⟩
section
variable(P:Program)(w:World)
def cM(H:Hp)(h:Heap)(a:Addr):HO->Prop
 | .lst xs=>xs.length<=sizeLine/\∃(its:List Value) (n:Nat),Vals xs its/\h.get? a=some {cls:=.type "list",data:=.seq its.toArray n}
 | .tup xs=>xs.length<=sizeLine/\∃its:List Value,Vals xs its/\IsTup h a its.toArray/\∀o,h.get? a=some o->o.dict=none
 | .dK kvs=>kvs.length<=sizeLine/\(a==sysModules)=false/\∃vs,KV kvs vs/\h.DictOf (eT P w) a vs
 | .dT kvs=>kvs.length<=sizeLine/\(a==sysModules)=false/\∃xs:List (DK×Addr×Value),
  Paired (λ(p:DK×V) (q:DK×Addr×Value)=>p.1=q.1/\gj H p.1 q.2.1/\RelV p.2 q.2.2) kvs xs /\
  ∃o es ep,h.get? a=some o/\o.ExactDict/\o.data=.dict es ep/\es.toList=xs.map (entryOfKey (mi P w))/\(xs.map (·.1)).Nodup
 | .set S n=>h.SetOf (intKind P w) a S n
 | .ins C dx fs=>H dx=some (.own a)/\fs.length<=1000/\dx≠a/\h.get? a=some (PySem.W.instObj C dx) /\
  ∃mA,h.Ns1 dx mA/\(∀f,mj (fs.lookup f) (mA f))/\PySem.Within mA (fs.map (·.1))
 | .own _=>∃o,h.get? a=some o
 | .xd fs=>∃mA,h.Ns1 a mA/\∀f,mj (fs.lookup f) (mA f)
 | .rg lo hi=>∃t u v,h.get? a=some {cls:=.type "range",data:=.fields #[.int lo t,.int hi u,.int 1 v]}
 | .dF o u=>h.get? a=some o/\cM H h a u
 | .jR ps=>h.get? a=some {cls:=.none,data:=.fields ps}
 | .met f x=>h.get? a=some (zl (.ref f) (.ref x))
 | .ext φ=>φ h/\(∃o,h.get? a=some o)/\∀h1 h2:Heap,φ h1->(∀o,h1.get? a=some o->h2.get? a=some o)->φ h2
def bS(H:Hp)(h:Heap):Prop:=∀a o,H a=some o->cM P w H h a o
end
section
variable{P:Program}{w:World}{H H':Hp}{h h':Heap}{a:Addr}{o:HO}
theorem cM.lt(x:cM P w H h a o):a<h.objs.size:=by
 cases o with
 |lst xs=>obtain⟨_,_,_,_,e⟩:=x;exact bg e
 |tup xs=>obtain⟨_,_,_,p,_⟩:=x;exact p.lt
 |dK kvs=>obtain⟨_,_,_,_,o,_,_,e,_⟩:=x;exact bg e
 |dT kvs=>obtain⟨_,_,_,_,o,_,_,e,_⟩:=x;exact bg e
 |set S n=>obtain⟨o,_,_,_,e,_⟩:=x;exact bg e
 |ins C dx fs=>obtain⟨_,_,_,e,_⟩:=x;exact bg e
 |own y=>obtain⟨_,e⟩:=x;exact bg e
 |xd fs=>obtain⟨_,⟨_,_,_,e,_⟩,_⟩:=x;exact bg e
 |rg lo hi=>obtain⟨_,_,_,e⟩:=x;exact bg e
 |dF ob u=>obtain⟨e,_⟩:=x;exact bg e
 |jR ps=>exact bg (show h.get? a=some _ from x)
 |met f y=>exact bg (show h.get? a=some _ from x)
 |ext φ=>obtain⟨_,⟨_,e⟩,_⟩:=x;exact bg e
theorem Paired.i0{α β:Type}{F G:α->β->Prop}:∀{l₁:List α} {l₂:List β},Paired F l₁ l₂->(∀a b,F a b->G a b)->Paired G l₁ l₂
 |_,_,.nil,_=>.nil
 |_,_,.cons r t,f=>.cons (f _ _ r) (Paired.i0 t f)
theorem cM.stay(x:cM P w H h a o)(k:∀b u,(b=a∨H b=some (.own a))->h.get? b=some u->h'.get? b=some u)
 (ho:∀b,H b=some (.own a)->H' b=some (.own a)) (ht:∀b xs,H b=some (.tup xs)->H' b=some (.tup xs)):cM P w H' h' a o:=by
 induction o with
 |lst xs=>obtain⟨z,its,n,r,e⟩:=x;exact⟨z,its,n,r,k _ _ (.inl rfl) e⟩
 |tup xs=>obtain⟨z,its,r,⟨ob,e,c⟩,nd⟩:=x;exact⟨z,its,r,⟨ob,k _ _ (.inl rfl) e,c⟩,λo q=>by rw[k _ _ (.inl rfl) e]at q;cases q;exact nd _ e⟩
 |dK kvs=>obtain⟨z,y,vs,r,ob,es,ep,e,c⟩:=x;exact⟨z,y,vs,r,ob,es,ep,k _ _ (.inl rfl) e,c⟩
 |dT kvs =>
  obtain⟨z,y,xs,r,ob,es,ep,e,c⟩:=x;exact⟨z,y,xs,Paired.i0 r λp q z=>⟨z.1,z.2.1.mono ht,z.2.2⟩,ob,es,ep,k _ _ (.inl rfl) e,c⟩
 |set S n=>obtain⟨ob,es,ep,t,e,c⟩:=x;exact⟨ob,es,ep,t,k _ _ (.inl rfl) e,c⟩
 |ins C dx fs =>
  obtain⟨d,z,ne,e,mA,⟨od,es,ep,e2,c⟩,r⟩:=x;exact⟨ho _ d,z,ne,k _ _ (.inl rfl) e,mA,⟨od,es,ep,k _ _ (.inr d) e2,c⟩,r⟩
 |own y=>obtain⟨ob,e⟩:=x;exact⟨ob,k _ _ (.inl rfl) e⟩
 |xd fs=>obtain⟨mA,⟨od,es,ep,e,c⟩,r⟩:=x;exact⟨mA,⟨od,es,ep,k _ _ (.inl rfl) e,c⟩,r⟩
 |rg lo hi=>obtain⟨t,u,v,e⟩:=x;exact⟨t,u,v,k _ _ (.inl rfl) e⟩
 |dF ob u ih=>obtain⟨e,q⟩:=x;exact⟨k _ _ (.inl rfl) e,ih q⟩
 |jR ps =>
  have e:h.get? a=some {cls:=.none,data:=.fields ps}:=x;show h'.get? a=some {cls:=.none,data:=.fields ps};exact k a _ (.inl rfl) e
 |met f y =>
  have e:h.get? a=some (zl (.ref f) (.ref y)):=x;show h'.get? a=some (zl (.ref f) (.ref y));exact k a _ (.inl rfl) e
 |ext φ=>obtain⟨p,⟨o,e⟩,st⟩:=x;exact⟨st _ _ p λo q=>k _ _ (.inl rfl) q,⟨o,k _ _ (.inl rfl) e⟩,st⟩
theorem bS.lt(x:bS P w H h)(e:H a=some o):a<h.objs.size:=(x a o e).lt
theorem bS.fresh(x:bS P w H h)(e:h.objs.size<=a):H a=none:=by
 cases q:H a with
 |none=>rfl
 |some u=>exact absurd (cR (x.lt q) e) (iS _)
theorem bS.kept(x:bS P w H h)(k:∀b u,h.get? b=some u->h'.get? b=some u):bS P w H h':=λa o e =>
 (x a o e).stay (λb u _ q=>k b u q) (λ_ q=>q) λ_ _ q=>q
theorem bS.laid(x:bS P w H h)(k:∀b u,h.get? b=some u->h'.get? b=some u)(hp:h.objs.size<=a)(new:cM P w (upd H a o) h' a o):bS P w (upd H a o) h':=λb u e=>by
 have hn:=x.fresh hp;by_cases hb:b=a
 ·subst hb;rw[di]at e;cases e;exact new
 ·rw[aY hb]at e;exact(x b u e).stay (λc v _ q=>k c v q) (λc q=>by rw[aY (gh q hn)];exact q) λc xs q=>by rw[aY (gh q hn)];exact q
end
def Rd(H:Hp)(a:Addr)(u:HO):Prop:=H a=some u∨∃o,H a=some (.dF o u)
theorem Rd.ok{P:Program}{w:World}{H:Hp}{h:Heap}{a:Addr}{u:HO}(r:Rd H a u)(x:bS P w H h):cM P w H h a u:=by
 rcases r with r|⟨o,r⟩
 ·exact x a u r
 ·obtain⟨_,q⟩:=x a _ r;exact q
def oK:Option HO->Prop
 |some (.lst _)=>True
 |some (.dK _)=>True
 |some (.dT _)=>True
 |some (.set _ _)=>True
 |some (.ins _ _ _)=>True
 |some (.ext _)=>True
 |_=>False
section
variable{P:Program}{w:World}{H:Hp}{h h':Heap}{x e:Addr}{o':HO}
theorem bS.write(ok:bS P w H h)(mu:oK (H x))(he:e=x∨H e=some (.own x))(k:∀b u,b≠e->h.get? b=some u->h'.get? b=some u)(heo:∃u,h'.get? e=some u)
 (new:cM P w (upd H x o') h' x o'):bS P w (upd H x o') h':=λb u q=>by
 have Au:∀c y,H c=some (.own y)->c≠x:=λc y r z=>by subst z;rw[r]at mu;exact mu
 have J9:∀c xs,H c=some (.tup xs)->c≠x:=λc xs r z=>by subst z;rw[r]at mu;exact mu
 by_cases hb:b=x
 ·subst hb;rw[di]at q;cases q;exact new
 ·rw[aY hb]at q;by_cases hbe:b=e
  ·have q':H b=some (.own x):=by
    rcases he with z|z
    ·exact absurd (hbe.trans z) hb
    ·rw[hbe];exact z
   rw[q]at q';cases q';obtain⟨v,hv⟩:=heo;exact⟨v,by rw[hbe];exact hv⟩
  ·refine(ok b u q).stay (λc v hc r=>k c v ?_ r) (λc r=>by rw[aY (Au c b r)];exact r) λc xs r=>by rw[aY (J9 c xs r)];exact r
   rcases hc with rfl|hc
   ·exact hbe
   ·rintro rfl;rcases he with z|z
    ·exact Au c b hc z
    ·rw[hc]at z;cases z;exact hb rfl
end
structure Un(fs ex:List Addr)(H H':Hp)(h h':Heap):Prop where
 keep:∀b o,h.get? b=some o->H b=none->b∉fs->b∉ex->h'.get? b=some o
 slot:∀b o,h.get? b=some o->H b=none->b∈fs->b∉ex->∃sl,h'.get? b=some {o with slots:=sl}
 free:∀b o,h.get? b=some o->H b=none->b∉ex->H' b=none
 there:∀b o,h.get? b=some o->b∉ex->∃o',h'.get? b=some o'
 tups:∀b xs,H b=some (.tup xs)->H' b=some (.tup xs)
 fk:∀b o u,H b=some (.dF o u)->H' b=some (.dF o u)
 fT:∀b ps,H b=some (.jR ps)->∃more,H' b=some (.jR (ps++more))
section
variable{fs fs' ex ex':List Addr}{H H1 H2:Hp}{h h1 h2 h':Heap}{a x e:Addr}{o:HO}
theorem Un.any(u:Un fs ex H H1 h h1){b:Addr}{ob:Obj}(q:h.get? b=some ob)(n:H b=none)(hx:b∉ex):∃sl,h1.get? b=some {ob with slots:=sl}:=by
 by_cases hb:b∈fs
 ·exact u.slot b ob q n hb hx
 ·exact⟨ob.slots,u.keep b ob q n hb hx⟩
theorem Un.kept(k:∀b u,h.get? b=some u->h'.get? b=some u):Un fs ex H H h h' :=
 ⟨λb ob q _ _ _=>k b ob q,λb ob q _ _ _=>⟨ob.slots,k b ob q⟩,λ_ _ _ n _=>n,λb ob q _=>⟨ob,k b ob q⟩,λ_ _ q=>q,λ_ _ _ q=>q,λ_ ps q=>⟨#[],by rw[q];simp⟩⟩
theorem Un.refl:Un fs ex H H h h:=Un.kept λ_ _ q=>q
theorem Un.laid(k:∀b u,h.get? b=some u->h'.get? b=some u)(hp:h.objs.size<=a)(hn:H a=none):Un fs ex H (upd H a o) h h' where
 keep:=λb u q _ _ _=>k b u q
 slot:=λb u q _ _ _=>⟨u.slots,k b u q⟩
 free:=λb u q n _=>by rw[aY (cS (cR (bg q) hp))];exact n
 there:=λb u q _=>⟨u,k b u q⟩
 tups:=λb xs q=>by rw[aY (gh q hn)];exact q
 fk:=λb u xs q=>by rw[aY (gh q hn)];exact q
 fT:=λb ps q=>⟨#[],by rw[aY (gh q hn),q];simp⟩
theorem Un.write(mu:oK (H x))(he:e=x∨H e=some (.own x))(k:∀b u,b≠e->h.get? b=some u->h'.get? b=some u)(heo:∃u,h'.get? e=some u):Un fs ex H (upd H x o) h h':=by
 have hx:∀b,H b=none->b≠x:=λb n z=>by subst z;rw[n]at mu;exact mu
 have hb:∀b,H b=none->b≠e:=λb n z=>by
  subst z;rcases he with r|r
  ·exact hx b n r
  ·rw[n]at r;cases r
 have hm:∀b u,H b=some u->¬oK (some u)->b≠x:=λb u q nm z=>by subst z;rw[q]at mu;exact nm mu
 refine⟨λb u q n _ _=>k b u (hb b n) q,λb u q n _ _=>⟨u.slots,k b u (hb b n) q⟩,λb u q n _=>by rw[aY (hx b n)];exact n,λb u q _=>?_,
  λb xs q=>by rw[aY (hm b _ q λz=>z)];exact q,λb u xs q=>by rw[aY (hm b _ q λz=>z)];exact q,λb ps q=>⟨#[],by rw[aY (hm b _ q λz=>z),q];simp⟩⟩
 by_cases hbe:b=e
 ·subst hbe;exact heo
 ·exact⟨u,k b u hbe q⟩
end
def rh(h:Heap)(H:Hp):List Addr:=(aN h.objs.size).filter λa=>(H a).isSome
def i4(h:Heap)(H:Hp):Heap:=iT h (rh h H)
theorem J_(h:Heap)(H:Hp):(i4 h H).objs.size=h.objs.size:=PySem.W.hideAll_size _ _
theorem J'{h:Heap}{H:Hp}{b:Addr}{o:Obj}(e:h.get? b=some o)(n:H b=none):(i4 h H).get? b=some o :=
 uu _ e λhm=>by
  have q:(H b).isSome=true:=(lX.mp hm).2;rw[n]at q;simp at q
theorem Ka{h:Heap}{H:Hp}{b:Addr}{o:Obj}(e:(i4 h H).get? b=some o):h.get? b=some o/\H b=none:=by
 have e':h.get? b=some o:=n6 (rh h H) e;refine⟨e',?_⟩;cases q:H b with
 |none=>rfl
 |some x =>
  have hm:b∈rh h H:=lX.mpr ⟨f_.mpr (bg e'),by simp[q]⟩;have z:(i4 h H).get? b=none:=qJ (rh h H) hm;rw[z]at e;cases e
def Kb(g h:Heap)(L:Addr):List (Addr×Obj):=(aN h.objs.size).filterMap λa=>if a=L∨(g.get? a).isSome=true then none else(h.get? a).map λo=>(a,o)
def rest(g h:Heap)(L d:Addr):List (Addr×Obj):=(Kb g h L).filter λp=>decide (p.1≠d)
end L2
namespace L2
open PySem PySem.Spec PyProof.Rows
structure Mod(K:ak)(mg:Str->Option Value)(base:Heap):Prop where
 oM:K.In base
 glob:base.Ns mainGlobals mg
 blt:∃mb,base.Ns builtinsNs mb/\∀x:Str,x≠"__name__"->mb x=bootBuiltins x
 nolimit:base.NoLimit
structure Cx where
 prog:Program
 w:World
 K:ak
 mg:Str->Option Value
 base:Heap
 A:Around
 N:List Str
 s₀:Shared
 H₀:Hp
 env:Env
 outer:List Env
 stack:List Env
 ex:List Addr
 fn:Str->Bool
 calm:Bool
 pn:List (Addr×Obj)
 xe:Value->Shared->Prop
def frs(l:List Env):List Addr:=l.filterMap (·.frame)
abbrev Cx.fs(X:Cx):List Addr:=frs X.outer
def ri(sc:Scope)(x:Str):Prop:=sc.names.lookup x=some .local∨sc.names.lookup x=some .cell∨sc.names.lookup x=some .free
def Loc(sc:Scope)(x:Str):Prop:=sc.names.lookup x=some .local∨sc.names.lookup x=some .cell
def Look(env:Env)(h:Heap)(m:Str->Option Value)(x:Str)(u:Value):Prop :=
 (env.kindOf x=some .local/\m x=some u)∨((env.kindOf x=some .cell∨env.kindOf x=some .free)/\∃c,env.cells.lookup x=some c/\h.IsCell c (some u))
structure Cx.Ok(X:Cx):Prop where
 mod:Mod X.K X.mg X.base
 kind:X.env.scope.kind=.function
 glob:X.env.globals=mainGlobals
 blt:X.env.builtins=builtinsNs
 above:X.s₀.heap.objs.size<=X.env.locals
 inj:∀x y c,X.env.cells.lookup x=some c->X.env.cells.lookup y=some c->x=y
 has:∀x,(X.env.kindOf x=some .cell∨X.env.kindOf x=some .free)->∃c,X.env.cells.lookup x=some c
 cab:∀x c,X.fn x=true->X.env.cells.lookup x=some c->X.s₀.heap.objs.size<=c
 hd:X.calm=true->X.A.handled=none
 frames:X.A.frames=some X.stack
 kL:X.stack=X.outer∨(X.stack=X.env::X.outer/\X.env.frame=some X.env.locals)
 oN:∀b∈X.ex,b≠X.env.locals/\∀x c,X.env.cells.lookup x=some c->c≠b
 bs:∀b o,X.base.get? b=some o->X.s₀.heap.get? b=some o/\X.H₀ b=none
 gk:X.base.objs.size<=X.s₀.heap.objs.size
 jS:∀b o,X.base.get? b=some o->b∉X.ex
 jT:∀b∈X.ex,b∉X.fs
 eV:X.s₀.heap.FunFrames X.base X.outer
 ip:∀b∈X.fs,X.H₀ b=none
structure Inv(X:Cx)(pins:List (Addr×Obj))(σ:List (Option V))(H:Hp)(s:Shared):Prop where
 ok:X.Ok
 os:s.os=X.s₀.os
 bare:AllBare s.gens
 base:Un X.fs X.ex X.H₀ H X.s₀.heap s.heap
 loc:∃m,s.heap.Ns X.env.locals m/\∀(i:Nat) (x:Str) (v:V),X.N[i]?=some x->σ[i]?=some (some v)->ri X.env.scope x->∃u,RelV v u/\Look X.env s.heap m x u
 cell:∀x c,X.env.cells.lookup x=some c->∃v,s.heap.IsCell c v
 free:H X.env.locals=none
 eG:∀x c,X.env.cells.lookup x=some c->H c=none
 pin:∀p∈X.pn++pins,s.heap.get? p.1=some p.2/\H p.1=none/\p.1≠X.env.locals/\p.1∉X.fs/\∀v,p.2.data≠.cell v
 hok:bS X.prog X.w H s.heap
 len:σ.length=X.N.length
section
variable{X:Cx}{pins:List (Addr×Obj)}{σ:List (Option V)}{H H':Hp}{s:Shared}{h':Heap}
theorem Cx.Ok.Kc(ok:X.Ok){b:Addr}{o:Obj}(e:X.base.get? b=some o):b∉X.fs:=λhb=>by
 have:=(ok.eV.mem hb).1;rw[e]at this;cases this
theorem Inv.bs(I:Inv X pins σ H s):∀b o,X.base.get? b=some o->s.heap.get? b=some o/\H b=none:=λb o e =>
 ⟨I.base.keep b o (I.ok.bs b o e).1 (I.ok.bs b o e).2 (I.ok.Kc e) (I.ok.jS b o e),I.base.free b o (I.ok.bs b o e).1 (I.ok.bs b o e).2 (I.ok.jS b o e)⟩
theorem Inv.bk(I:Inv X pins σ H s):∀b o,X.base.get? b=some o->s.heap.get? b=some o:=λb o e=>(I.bs b o e).1
theorem Inv.mod(I:Inv X pins σ H s):Mod X.K X.mg X.base:=I.ok.mod
theorem Inv.i5(I:Inv X pins σ H s):X.K.In s.heap:=I.ok.mod.oM.keeps I.bk
theorem Inv.lt(I:Inv X pins σ H s):X.env.locals<s.heap.objs.size:=let⟨_,hn,_⟩:=I.loc;hn.lt
theorem Inv.sz(I:Inv X pins σ H s):X.s₀.heap.objs.size<=s.heap.objs.size:=bR I.ok.above (lY I.lt)
theorem Inv.Kd(I:Inv X pins σ H s){a:Addr}(h:s.heap.objs.size<=a):a∉X.fs:=λhb=>by
 obtain⟨_,o,ho,_⟩:=I.ok.eV.mem hb;exact absurd (cR (bg ho) (bR I.sz h)) (iS _)
theorem Inv.i6(I:Inv X pins σ H s):∀x c,X.env.cells.lookup x=some c->c≠X.env.locals:=λx c e z=>by
 obtain⟨v,o,ho,hd⟩:=I.cell x c e;obtain⟨m,⟨o',es,ep,ho',hd',_⟩,_⟩:=I.loc;rw[z,ho']at ho;cases ho;rw[hd']at hd;cases hd
theorem Inv.eV(I:Inv X pins σ H s):s.heap.FunFrames X.base X.outer:=by
 have all:∀(l:List Env),(∀b∈frs l,b∈X.fs)->X.s₀.heap.FunFrames X.base l->s.heap.FunFrames X.base l:=by
  intro l
  induction l with
  |nil=>intro _ _;trivial
  |cons env r ih =>
   intro hs hl;obtain⟨hk,⟨L,o,hf,hn,ho,hd⟩,hr⟩:=hl;have hL:L∈X.fs:=hs L (by unfold frs;rw[hV,hf];exact b4);obtain⟨sl,e⟩:=I.base.slot L o ho (I.ok.ip L hL) hL λz=>I.ok.jT L z hL;exact⟨hk,⟨L,_,hf,hn,e,hd⟩,ih (λb hb=>hs b (by unfold frs;rw[hV,hf];exact cB _ hb)) hr⟩
 exact all X.outer (λ_ hb=>hb) I.ok.eV
theorem Inv.stack(I:Inv X pins σ H s):s.heap.FunFrames X.base X.stack:=by
 rcases I.ok.kL with e|⟨e,hf⟩
 ·rw[e];exact I.eV
 ·rw[e];obtain⟨m,hn,_⟩:=I.loc;refine .cons (by rw[I.ok.kind];decide) hf hn ?_ I.eV;exact Heap.get?_none_of_le (bR I.ok.gk I.ok.above)
theorem Inv.rj(I:Inv X pins σ H s):∀b∈frs X.stack,b∈X.env.locals::X.fs:=λb hb=>by
 rcases I.ok.kL with e|⟨e,hf⟩
 ·rw[e]at hb;exact cB _ hb
 ·rw[e]at hb;unfold frs at hb;rw[hV,hf]at hb;exact hb
theorem Inv.rm(I:Inv X pins σ H s):∀b∈frs X.stack,H b=none:=λb hb=>by
 rcases a8.mp (I.rj b hb) with e|hb
 ·rw[e];exact I.free
 ·obtain⟨_,o,ho,_⟩:=I.ok.eV.mem hb;exact I.base.free b o ho (I.ok.ip b hb) λz=>I.ok.jT b z hb
theorem Inv.step{g':Array GenState}{t':Nat}{d':Drawn}{ch:List Addr}(I:Inv X pins σ H s)
 (hch:∀b∈ch,(b∈X.ex∨X.s₀.heap.objs.size<=b)/\b≠X.env.locals/\(∀x c,X.env.cells.lookup x=some c->c≠b)/\∀p∈X.pn++pins,p.1≠b)
 (keep:∀b o,b≠X.env.locals->b∉X.fs->b∉ch->s.heap.get? b=some o->H b=none->h'.get? b=some o)
 (slot:∀b o,b≠X.env.locals->b∈X.fs->b∉ch->s.heap.get? b=some o->H b=none->∃sl,h'.get? b=some {o with slots:=sl}) (free:∀b o,b∉ch->s.heap.get? b=some o->H b=none->H' b=none)
 (there:∀b o,b∉ch->s.heap.get? b=some o->∃o',h'.get? b=some o')
 (tups:∀b xs,H b=some (.tup xs)->H' b=some (.tup xs)) (fk:∀b o u,H b=some (.dF o u)->H' b=some (.dF o u)) (fT:∀b ps,H b=some (.jR ps)->∃more,H' b=some (.jR (ps++more)))
 (ns:∀m,s.heap.Ns X.env.locals m->h'.Ns X.env.locals m) (hok:bS X.prog X.w H' h') (hg:AllBare g') :
 Inv X pins σ H' {s with heap:=h',gens:=g',drawn:=d',toks:=t'}:=by
 have Av:∀b o,X.s₀.heap.get? b=some o->b≠X.env.locals:=λb o e=>cS (cR (bg e) I.ok.above);have ro:∀b o,X.s₀.heap.get? b=some o->b∉X.ex->b∉ch:=λb o e hx hb=>by
  rcases(hch b hb).1 with z|z
  ·exact hx z
  ·exact absurd (cR (bg e) z) (iS _)
 have cellK:∀x c,X.env.cells.lookup x=some c->∀v,s.heap.IsCell c v->h'.IsCell c v:=λx c e v bX=>by
  obtain⟨o,ho,hd⟩:=bX;have oO:c∉ch:=λz=>(hch c z).2.2.1 x c e rfl;by_cases hc:c∈X.fs
  ·obtain⟨sl,q⟩:=slot c o (I.i6 x c e) hc oO ho (I.eG x c e);exact⟨_,q,hd⟩
  ·exact⟨o,keep c o (I.i6 x c e) hc oO ho (I.eG x c e),hd⟩
 refine⟨I.ok,I.os,hg,⟨λb o e n hb hx=>?_,λb o e n hb hx=>?_,λb o e n hx=>?_,λb o e hx=>?_,λb xs e=>tups b xs (I.base.tups b xs e),λb o xs e=>fk b o xs (I.base.fk b o xs e),λb ps e=>?_⟩,?_,λx c e=>?_,?_,λx c e=>?_,λp hp=>?_,hok,I.len⟩
 ·exact keep b o (Av b o e) hb (ro b o e hx) (I.base.keep b o e n hb hx) (I.base.free b o e n hx)
 ·obtain⟨sl,e1⟩:=I.base.slot b o e n hb hx;obtain⟨sl',e2⟩:=slot b _ (Av b o e) hb (ro b o e hx) e1 (I.base.free b o e n hx);exact⟨sl',e2⟩
 ·obtain⟨o',e1⟩:=I.base.there b o e hx;exact free b o' (ro b o e hx) e1 (I.base.free b o e n hx)
 ·obtain⟨o',e1⟩:=I.base.there b o e hx;exact there b o' (ro b o e hx) e1
 ·obtain⟨m1,e1⟩:=I.base.fT b ps e;obtain⟨m2,e2⟩:=fT b _ e1;exact⟨m1++m2,by rw[e2,Array.append_assoc]⟩
 ·obtain⟨m,hn,hl⟩:=I.loc;refine⟨m,ns m hn,λi x v e1 e2 e3=>?_⟩;obtain⟨u,r,l⟩:=hl i x v e1 e2 e3;refine⟨u,r,?_⟩;rcases l with l|⟨k,c,e,z⟩
  ·exact .inl l
  ·exact .inr ⟨k,c,e,cellK x c e _ z⟩
 ·obtain⟨v,z⟩:=I.cell x c e;exact⟨v,cellK x c e v z⟩
 ·obtain⟨m,⟨o,_,_,ho,_⟩,_⟩:=I.loc;exact free _ o (λz=>(hch _ z).2.1 rfl) ho I.free
 ·obtain⟨v,o,ho,hd⟩:=I.cell x c e;exact free c o (λz=>(hch c z).2.2.1 x c e rfl) ho (I.eG x c e)
 ·obtain⟨e,n,ne,nf,d⟩:=I.pin p hp;have oO:p.1∉ch:=λz=>(hch p.1 z).2.2.2 p hp rfl;exact⟨keep p.1 p.2 ne nf oO e n,free p.1 p.2 oO e n,ne,nf,d⟩
theorem Inv.un{t':Nat}(I:Inv X pins σ H s)(u:Un X.fs [] H H' s.heap h')(hok:bS X.prog X.w H' h'):Inv X pins σ H' {s with heap:=h',toks:=t'}:=by
 obtain⟨m,⟨o,es,ep,ho,r⟩,_⟩:=id I.loc;obtain⟨sl,hL⟩:=u.any ho I.free (by simp);exact I.step (g':=s.gens) (d':=s.drawn) (ch:=[]) (λ_ z=>nomatch z) (λb o _ hb _ e n=>u.keep b o e n hb (by simp)) (λb o _ hb _ e n=>u.slot b o e n hb (by simp)) (λb o _ e n=>u.free b o e n (by simp)) (λb o _ e=>u.there b o e (by simp)) u.tups u.fk u.fT (λm' hm=>by
  obtain⟨o',es',ep',ho',r'⟩:=hm;rw[ho]at ho';cases ho';exact⟨_,es',ep',hL,r'⟩) hok I.bare
theorem Inv.call{g':Array GenState}{t':Nat}{d':Drawn}{ch:List Addr}(I:Inv X pins σ H s)(u:Un (frs X.stack) ch H H' s.heap h')(hok:bS X.prog X.w H' h')(hg:AllBare g')
 (hch:∀b∈ch,(b∈X.ex∨X.s₀.heap.objs.size<=b)/\b≠X.env.locals/\(∀x c,X.env.cells.lookup x=some c->c≠b)/\∀p∈X.pn++pins,p.1≠b) :
 Inv X pins σ H' {s with heap:=h',gens:=g',drawn:=d',toks:=t'}:=by
 obtain⟨m,⟨o,es,ep,ho,r⟩,_⟩:=id I.loc;obtain⟨sl,hL⟩:=u.any ho I.free λz=>(hch _ z).2.1 rfl;exact I.step (ch:=ch) hch (λb o hL hb hc e n=>u.keep b o e n (λz=>(a8.mp (I.rj b z)).elim hL hb) hc) (λb o _ _ hc e n=>u.any e n hc) (λb o hc e n=>u.free b o e n hc) (λb o hc e=>u.there b o e hc) u.tups u.fk u.fT (λm' hm=>by
  obtain⟨o',es',ep',ho',r'⟩:=hm;rw[ho]at ho';cases ho';exact⟨_,es',ep',hL,r'⟩) hok hg
theorem Inv.turned{t':Nat}{it:Addr}(I:Inv X pins σ H s)(k:∀b o,b≠it->s.heap.get? b=some o->h'.get? b=some o)(hn:H it=none)(hL:it≠X.env.locals)
 (h1:it∈X.ex∨X.s₀.heap.objs.size<=it) (h2:∀x c,X.env.cells.lookup x=some c->c≠it) (h3:∀p∈X.pn++pins,p.1≠it):Inv X pins σ H {s with heap:=h',toks:=t'}:=by
 have jU:∀b u,H b=some u->b≠it:=λb u e z=>by rw[z,hn]at e;cases e
 refine I.step (g':=s.gens) (d':=s.drawn) (ch:=[it]) (λb hb=>?_) (λb o _ _ hc e _=>k b o (λz=>hc (by simp[z])) e) (λb o _ _ hc e _=>⟨o.slots,k b o (λz=>hc (by simp[z])) e⟩) (λ_ _ _ _ n=>n)
  (λb o hc e=>⟨o,k b o (λz=>hc (by simp[z])) e⟩) (λ_ _ e=>e) (λ_ _ _ e=>e) (λb ps e=>⟨#[],by rw[e];simp⟩) (λm hm=>?_) (λb u e=>?_) I.bare
 ·have e:b=it:=by simpa using hb
  subst e;exact⟨h1,hL,h2,h3⟩
 ·obtain⟨o,es,ep,ho,r⟩:=hm;exact⟨o,es,ep,k _ o (dn hL) ho,r⟩
 ·refine(I.hok b u e).stay (λc v hc q=>k c v ?_ q) (λ_ q=>q) λ_ _ q=>q;rcases hc with z|z
  ·rw[z];exact jU b u e
  ·exact jU c _ z
theorem Inv.tok(I:Inv X pins σ H s)(t:Nat):Inv X pins σ H {s with toks:=t}:=I.un (h':=s.heap) (t':=t) Un.refl I.hok
theorem Inv.kept{t':Nat}(I:Inv X pins σ H s)(k:∀b u,s.heap.get? b=some u->h'.get? b=some u):Inv X pins σ H {s with heap:=h',toks:=t'}:=I.un (Un.kept k) (I.hok.kept k)
theorem Inv.laid{a:Addr}{o:HO}{t':Nat}(I:Inv X pins σ H s)(k:∀b u,s.heap.get? b=some u->h'.get? b=some u)(hp:s.heap.objs.size<=a)(new:cM X.prog X.w (upd H a o) h' a o) :
 Inv X pins σ (upd H a o) {s with heap:=h',toks:=t'}:=I.un (Un.laid k hp (I.hok.fresh hp)) (I.hok.laid k hp new)
theorem Inv.write{x e:Addr}{o:HO}{t':Nat}(I:Inv X pins σ H s)(mu:oK (H x))(he:e=x∨H e=some (.own x))(k:∀b u,b≠e->s.heap.get? b=some u->h'.get? b=some u)(heo:∃u,h'.get? e=some u)
 (new:cM X.prog X.w (upd H x o) h' x o):Inv X pins σ (upd H x o) {s with heap:=h',toks:=t'}:=I.un (Un.write mu he k heo) (I.hok.write mu he k heo new)
theorem Inv.Aw{gm:List (Addr×Obj)}(I:Inv X pins σ H s)(h:∀p∈gm,s.heap.get? p.1=some p.2/\H p.1=none/\p.1≠X.env.locals/\p.1∉X.fs/\∀v,p.2.data≠.cell v):Inv X gm σ H s :=
 ⟨I.ok,I.os,I.bare,I.base,I.loc,I.cell,I.free,I.eG,λp hp=>(bI.mp hp).elim (λz=>I.pin p (dE _ z)) (h p),I.hok,I.len⟩
theorem vd{N:List Str}(hN:N.Nodup){i j:Nat}{x:Str}(a:N[i]?=some x)(b:N[j]?=some x):i=j:=by
 obtain⟨h1,e1⟩:=cT.mp a;obtain⟨h2,e2⟩:=cT.mp b;exact(List.getElem_inj hN).mp (e1.trans e2.symm)
theorem Ax{M:Model}{A:Around}{E:Value->Shared->Prop}{i:Nat}{x:Str}{v:V}{u:Value}{Q:Unit->Shared->Prop}(I:Inv X pins σ H s)(hN:X.N.Nodup)(hi:X.N[i]?=some x)(hx:Loc X.env.scope x)(r:RelV v u)
 (h:∀s',Inv X pins (σ.set i (some v)) H s'->(∃a,fh a s.heap s'.heap/\(a=X.env.locals∨X.env.cells.lookup x=some a))->Q () s') (hf:X.fn x=true∨X.env.scope.names.lookup x=some .local:=by first|exact .inl rfl|exact .inr rfl|assumption):wpAny M A (storeName X.env x u) Q E s:=by
 obtain⟨m,hn,hl⟩:=id I.loc;have hcls:(X.env.scope.kind == .class||(X.env.scope.kind == .module&&X.env.locals != X.env.globals))=false:=by rw[I.ok.kind];rfl
 have Ay:i<σ.length:=by rw[I.len];exact(cT.mp hi).1
 have i6:=I.i6;have tracked:∀{a:Addr} {h':Heap},(∃o,s.heap.get? a=some o/\H a=none)->fh a s.heap h'->bS X.prog X.w H h':=λ{a h'} ha hs b ob e=>by
  obtain⟨_,_,hfree⟩:=ha;refine(I.hok b ob e).stay (λc w' hc q=>(hs.2 c ?_).trans q) (λ_ q=>q) λ_ _ q=>q;rintro rfl;rcases hc with rfl|hc
  ·rw[hfree]at e;cases e
  ·rw[hfree]at hc;cases hc
 rcases hx with hk|hk
 ·refine wpAny_storeName_local hk hn (λh' hn' hs=>?_) hcls;obtain⟨oL,_,_,hoL,_⟩:=id hn;refine h _ ⟨I.ok,I.os,I.bare,⟨λb o e n hb hx=>?_,λb o e n hb hx=>?_,I.base.free,λb o e hx=>?_,I.base.tups,I.base.fk,I.base.fT⟩,⟨_,hn',λj y v' e1 e2 e3=>?_⟩,λy c e=>?_,I.free,I.eG,λp hp=>?_,tracked ⟨oL,hoL,I.free⟩ hs,by simpa using I.len⟩ ⟨_,hs,.inl rfl⟩
  ·exact(hs.2 b (cS (cR (bg e) I.ok.above))).trans (I.base.keep b o e n hb hx)
  ·obtain⟨sl,e1⟩:=I.base.slot b o e n hb hx;exact⟨sl,(hs.2 b (cS (cR (bg e) I.ok.above))).trans e1⟩
  ·obtain⟨o',e1⟩:=I.base.there b o e hx;exact⟨o',(hs.2 b (cS (cR (bg e) I.ok.above))).trans e1⟩
  ·by_cases hj:j=i
   ·subst hj;rw[hi]at e1;cases e1;rw[Ic Ay]at e2;cases e2;exact⟨u,r,.inl ⟨hk,by simp⟩⟩
   ·rw[zm (dn hj)]at e2;obtain⟨u',r',q⟩:=hl j y v' e1 e2 e3;refine⟨u',r',?_⟩;rcases q with⟨k,e⟩|⟨k,c,e,z⟩
    ·refine .inl ⟨k,?_⟩;have:y≠x:=λe=>hj (vd hN e1 (e▸hi));simp[this,e]
    ·exact .inr ⟨k,c,e,z.sameBut hs (i6 y c e)⟩
  ·obtain⟨w',z⟩:=I.cell y c e;exact⟨w',z.sameBut hs (i6 y c e)⟩
  ·obtain⟨e,n,ne,nf,d⟩:=I.pin p hp;exact⟨(hs.2 p.1 ne).trans e,n,ne,nf,d⟩
 ·have hfn:X.fn x=true:=by
   rcases hf with z|z
   ·exact z
   ·rw[z]at hk;cases hk
  obtain⟨c,hc⟩:=I.ok.has x (.inl hk);obtain⟨w',z⟩:=I.cell x c hc;refine wpAny_storeName_cell I.ok.kind hk hc z (λh' hc' hs=>?_);obtain⟨oc,hoc,Ke⟩:=id z;refine h {s with heap:=h'} ⟨I.ok,I.os,I.bare,⟨λb o e n hb hx=>?_,λb o e n hb hx=>?_,I.base.free,λb o e hx=>?_,I.base.tups,I.base.fk,I.base.fT⟩,⟨m,hn.sameBut hs (dn (i6 x c hc)),λj y v' e1 e2 e3=>?_⟩,λy c' e=>?_,I.free,I.eG,λp hp=>?_,tracked ⟨oc,hoc,I.eG x c hc⟩ hs,by simpa using I.len⟩ ⟨c,hs,.inr hc⟩
  ·exact(hs.2 b (cS (cR (bg e) (I.ok.cab x c hfn hc)))).trans (I.base.keep b o e n hb hx)
  ·obtain⟨sl,e1⟩:=I.base.slot b o e n hb hx;exact⟨sl,(hs.2 b (cS (cR (bg e) (I.ok.cab x c hfn hc)))).trans e1⟩
  ·obtain⟨o',e1⟩:=I.base.there b o e hx;exact⟨o',(hs.2 b (cS (cR (bg e) (I.ok.cab x c hfn hc)))).trans e1⟩
  ·by_cases hj:j=i
   ·subst hj;rw[hi]at e1;cases e1;rw[Ic Ay]at e2;cases e2;exact⟨u,r,.inr ⟨.inl hk,c,hc,hc'⟩⟩
   ·rw[zm (dn hj)]at e2;obtain⟨u',r',q⟩:=hl j y v' e1 e2 e3;refine⟨u',r',?_⟩;rcases q with q|⟨k,c',e,z'⟩
    ·exact .inl q
    ·refine .inr ⟨k,c',e,z'.sameBut hs ?_⟩;rintro rfl;exact hj (vd hN e1 (I.ok.inj _ _ _ e hc▸hi))
  ·by_cases hcc:c'=c
   ·subst hcc;exact⟨_,hc'⟩
   ·obtain⟨w2,z2⟩:=I.cell y c' e;exact⟨w2,z2.sameBut hs hcc⟩
  ·obtain⟨e,n,ne,nf,d⟩:=I.pin p hp;refine⟨(hs.2 p.1 ?_).trans e,n,ne,nf,d⟩;intro q;rw[q,hoc]at e;have q':oc=p.2:=dD e;exact d w' (by rw[<-q'];exact Ke)
theorem rp{M:Model}{A:Around}{E:Value->Shared->Prop}{i:Nat}{x:Str}{v:V}{u:Value}{Q:Unit->Shared->Prop}(I:Inv X pins σ H s)(hN:X.N.Nodup)(hi:X.N[i]?=some x)(hx:Loc X.env.scope x)(r:RelV v u)
 (h:∀s',Inv X pins (σ.set i (some v)) H s'->Q () s') (hf:X.fn x=true∨X.env.scope.names.lookup x=some .local:=by first|exact .inl rfl|exact .inr rfl|assumption):wpAny M A (storeName X.env x u) Q E s :=
 Ax I hN hi hx r (λs' I' _=>h s' I') hf
theorem Inv.oP{s':Shared}{ch:List Addr}(I:Inv X pins σ H s)(ho:s'.os=s.os)(u:Un (frs X.stack) ch H H' s.heap s'.heap)(hok:bS X.prog X.w H' s'.heap)(hg:AllBare s'.gens)
 (hch:∀b∈ch,(b∈X.ex∨X.s₀.heap.objs.size<=b)/\b≠X.env.locals/\(∀x c,X.env.cells.lookup x=some c->c≠b)/\∀p∈X.pn++pins,p.1≠b):Inv X pins σ H' s':=by
 obtain⟨h',g',d',t',o'⟩:=s';have e:o'=s.os:=ho;subst e;exact I.call (g':=g') (t':=t') (d':=d') u hok hg hch
end
abbrev XK:=Value->Option Addr->Hp->Prop
abbrev St:=List (Option V)
abbrev VK:=V->Hp->Prop
abbrev TE:=St->Hp->VK->Prop
abbrev TT:=St->Hp->(Bool->Hp->Prop)->Prop
abbrev TA:=St->Hp->(List V->Hp->Prop)->Prop
structure Ends where
 nx:St->Hp->Prop
 rt:VK
 bk:St->Hp->Prop:=λ_ _=>False
 ct:St->Hp->Prop:=λ_ _=>False
abbrev TS:=Ends->St->Hp->Prop
inductive EP(X:Cx)(pins:List (Addr×Obj))(σ:St)(Q:VK)(u:Value)(s':Shared):Prop where
 |mk (v:V) (H':Hp) (I:Inv X pins σ H' s') (r:RelV v u) (q:Q v H')
def TP(X:Cx)(pins:List (Addr×Obj))(σ:St)(Q:Bool->Hp->Prop)(b:Bool)(s':Shared):Prop:=∃H',Inv X pins σ H' s'/\Q b H'
inductive AP(X:Cx)(pins:List (Addr×Obj))(σ:St)(Q:List V->Hp->Prop)(us:List Value)(s':Shared):Prop where
 |mk (vs:List V) (H':Hp) (I:Inv X pins σ H' s') (r:Vals vs us) (q:Q vs H')
def SP(X:Cx)(pins:List (Addr×Obj))(D:Ends)(f:Flow)(s':Shared):Prop :=
 match f with
 | .next=>∃σ' H',Inv X pins σ' H' s'/\D.nx σ' H'
 | .brk=>∃σ' H',Inv X pins σ' H' s'/\D.bk σ' H'
 | .cont=>∃σ' H',Inv X pins σ' H' s'/\D.ct σ' H'
 | .ret u=>∃v σ' H',Inv X pins σ' H' s'/\RelV v u/\D.rt v H'
def PE(X:Cx)(e:Expr)(t:TE):Prop :=
 ∀(pins:List (Addr×Obj)) (s:Shared) (σ:St) (H:Hp) (Q:VK),Inv X pins σ H s->t σ H Q->wpAny (model X.prog X.w) X.A (eval e X.env) (EP X pins σ Q) X.xe s
def PT(X:Cx)(e:Expr)(t:TT):Prop :=
 ∀(pins:List (Addr×Obj)) (s:Shared) (σ:St) (H:Hp) (Q:Bool->Hp->Prop),Inv X pins σ H s->t σ H Q->wpAny (model X.prog X.w) X.A (isTrue e X.env (eval e X.env)) (TP X pins σ Q) X.xe s
def PW(X:Cx)(e:Expr)(t:TT):Prop :=
 ∀(whole:Sem Value) (pins:List (Addr×Obj)) (s:Shared) (σ:St) (H:Hp) (Q:Bool->Hp->Prop),Inv X pins σ H s->t σ H Q->wpAny (model X.prog X.w) X.A (isTrue e X.env whole) (TP X pins σ Q) X.xe s
theorem PW.pt{X:Cx}{e:Expr}{t:TT}(h:PW X e t):PT X e t:=h _
def PA(X:Cx)(es:List Expr)(t:TA):Prop :=
 ∀(pos:Pos) (pins:List (Addr×Obj)) (s:Shared) (σ:St) (H:Hp) (Q:List V->Hp->Prop),Inv X pins σ H s->t σ H Q->wpAny (model X.prog X.w) X.A (spliced (backTo pos (starEach es X.env))) (AP X pins σ Q) X.xe s
def PS(X:Cx)(st:Stmt)(t:TS):Prop :=
 ∀(pins:List (Addr×Obj)) (s:Shared) (σ:St) (H:Hp) (D:Ends),Inv X pins σ H s->t D σ H->wpAny (model X.prog X.w) X.A (exec st X.env) (SP X pins D) X.xe s
def dX(X:Cx)(st:List Stmt)(t:TS):Prop :=
 ∀(pins:List (Addr×Obj)) (s:Shared) (σ:St) (H:Hp) (D:Ends),Inv X pins σ H s->t D σ H->wpAny (model X.prog X.w) X.A (execs st X.env) (SP X pins D) X.xe s
theorem aK{α:Type}{t:Sem α}{Q Q':α->Shared->Prop}{M:Model}{A:Around}{E:Value->Shared->Prop}{s:Shared}(h:wpAny M A t Q E s)(hQ:∀a s,Q a s->Q' a s):wpAny M A t Q' E s:=eQ h hQ λ_ _ x=>x
section
variable{X:Cx}
def Az(i:Nat):TE:=λσ H Q=>∃v,σ[i]?=some (some v)/\Q v H
def tC(v:V):TE:=λ_ H Q=>Q v H
theorem Kf{i:Nat}{x:Str}{pos:Pos}(hN:X.N[i]?=some x)(hv:ri X.env.scope x)(hd:(x==("__debug__":Str))=false:=by decide)(hcd:(x==("__classdict__":Str))=false:=by decide):PE X (.Name x pos) (Az i):=by
 intro pins s σ H Q I h;obtain⟨v,e,h⟩:=h;obtain⟨m,hn,hl⟩:=I.loc;obtain⟨u,r,l⟩:=hl i x v hN e hv;have fin:EP X pins σ Q u s:=⟨v,H,I,r,h⟩;rcases l with⟨hk,hm⟩|⟨hk,c,hc,hcell⟩
 ·exact zo (Ig I.ok.kind hk hn hm fin) hd
 ·rcases hk with hk|hk
  ·exact zo (Ih I.ok.kind hk hc hcell fin) hd
  ·exact zo (wpAny_loadName_free I.ok.kind hk hc hcell fin hcd) hd
theorem Kg{i j pos}:PE X (.Constant (.int i) j pos) (tC (.int i)):=λ_ _ _ H _ I h=>wpAny_Constant_int ⟨.int i,H,I.tok _,⟨_,rfl⟩,h⟩
theorem Kh{b j pos}:PE X (.Constant (.bool b) j pos) (tC (.bl b)):=λ_ _ _ H _ I h=>Constant_bool ⟨.bl b,H,I,rfl,h⟩
theorem Ki{j pos}:PE X (.Constant .none j pos) (tC .non):=λ_ _ _ H _ I h=>Constant_none ⟨.non,H,I,rfl,h⟩
theorem Kj{x j pos}:PE X (.Constant (.str x) j pos) (tC (.str x)):=λ_ _ _ H _ I h=>Calls.Constant_str ⟨.str x,H,I.tok _,⟨_,rfl⟩,h⟩
def Gl(X:Cx)(x:Str):Prop:=X.env.kindOf x=some .globalImplicit
theorem rq{E:Value->Shared->Prop}{pins:List (Addr×Obj)}{s:Shared}{σ:St}{H:Hp}{x:Str}{u:Value}{pos:Pos}{Q:Value->Shared->Prop}(I:Inv X pins σ H s)(hg:Gl X x)(hm:X.mg x=some u)(h:Q u s)
 (hd:(x==("__debug__":Str))=false:=by decide):wpAny (model X.prog X.w) X.A (eval (.Name x pos) X.env) Q E s :=
 Ii I.ok.kind hg (Calls.loadGlobal_global (by rw[I.ok.glob];exact I.mod.glob.keeps I.bk) hm h) hd
theorem iq{E:Value->Shared->Prop}{pins:List (Addr×Obj)}{s:Shared}{σ:St}{H:Hp}{x:Str}{u:Value}{pos:Pos}{Q:Value->Shared->Prop}(I:Inv X pins σ H s)(hg:Gl X x)(hm:X.mg x=none)(hv:bootBuiltins x=some u)(h:Q u s)
 (hn:x≠"__name__":=by decide) (hd:(x==("__debug__":Str))=false:=by decide):wpAny (model X.prog X.w) X.A (eval (.Name x pos) X.env) Q E s:=by
 obtain⟨mb,h1,h2⟩:=I.mod.blt;exact Ii I.ok.kind hg (Calls.loadGlobal_builtin (by rw[I.ok.glob];exact I.mod.glob.keeps I.bk) hm (by rw[I.ok.blt];exact h1.keeps I.bk) ((h2 x hn).trans hv) h) hd
theorem AA{x:Str}{v:V}{u:Value}{pos:Pos}(hg:Gl X x)(hm:X.mg x=some u)(r:RelV v u)(hd:(x==("__debug__":Str))=false:=by decide):PE X (.Name x pos) (tC v) :=
 λ_ _ _ H _ I h=>rq I hg hm ⟨v,H,I,r,h⟩ hd
variable{a b:Expr}{ta tb:TE}{pos:Pos}
def PC(X:Cx)(op:CmpOp)(a b:Expr)(t:TE):Prop :=
 ∀(pins:List (Addr×Obj)) (s:Shared) (σ:St) (H:Hp) (Q:VK),Inv X pins σ H s->t σ H Q ->
  wpAny (model X.prog X.w) X.A (eval a X.env) (λv s₁=>wpAny (model X.prog X.w) X.A (eval b X.env) (λu s₂=>wpAny (model X.prog X.w) X.A (compareOp op v u) (EP X pins σ Q) X.xe s₂) X.xe s₁) X.xe s
theorem Kk(b:Expr){op:CmpOp}(h:op≠.In)(h2:op≠.NotIn):behindInMarks op b=false:=by
 have e1:(op==CmpOp.In)=false:=by cases op<;>first|rfl|exact absurd rfl h
 have e2:(op==CmpOp.NotIn)=false:=by cases op<;>first|rfl|exact absurd rfl h2
 cases b<;>simp[behindInMarks,e1,e2]
def tB(t:TE):TT:=λσ H Q=>t σ H λx H1=>∃c,x=.bl c/\Q c H1
theorem ve{op:CmpOp}{t:TE}(h:PC X op a b t)(h1:behindInMarks op b=false:=by first|exact Kk _ (by decide) (by decide)|rfl):PT X (.Compare a [op] [b] pos) (tB t):=by
 intro pins s σ H Q I hw;refine Ij (aK (h pins s σ H _ I hw) λv s1 h1=>aK h1 λu s2 h2=>aK h2 λc s3 ⟨x,H1,I1,r1,q1⟩=>?_) h1;obtain⟨d,rfl,q⟩:=q1;cases r1;exact lZ ⟨H1,I1,q⟩
theorem Kl{e:Expr}{t:TE}(h:PE X e t)(he:∀whole,isTrue e X.env whole=(do let v <-whole;standAt e.pos;holding [v] (truthy v)):=by intro _;rfl):PT X e (tB t):=by
 intro pins s σ H Q I hw;refine isTrue_plain (aK (h pins s σ H _ I hw) λv s1 ⟨x,H1,I1,r1,q1⟩=>?_) (he _);obtain⟨d,rfl,q⟩:=q1;cases r1;exact lZ ⟨H1,I1,q⟩
variable{tA rA:TT}{rest:List Expr}
def Km(t u:TT):TT:=λσ H Q=>t σ H λc H1=>if c=true then u σ H1 Q else Q false H1
def Kn(t u:TT):TT:=λσ H Q=>t σ H λc H1=>if c=true then Q true H1 else u σ H1 Q
def Ko(t:TT):TT:=λσ H Q=>t σ H λc H1=>Q (!c) H1
theorem Kq(ha:PT X a tA):PW X (.BoolOp .And [a] pos) tA:=by
 intro wh pins s σ H Q I h;refine isTrue_and (aK (ha pins s σ H Q I h) λc s1 e=>?_);cases c with
 |true=>exact isTrue_and_nil e
 |false=>exact e
theorem Kr(ha:PT X a tA):PW X (.BoolOp .Or [a] pos) tA:=by
 intro wh pins s σ H Q I h;refine isTrue_or (aK (ha pins s σ H Q I h) λc s1 e=>?_);cases c with
 |false=>exact isTrue_or_nil e
 |true=>exact e
theorem Ks(ha:PT X a tA)(hb:PW X (.BoolOp .And (b::rest) pos) rA):PW X (.BoolOp .And (a::b::rest) pos) (Km tA rA):=by
 intro wh pins s σ H Q I h;refine isTrue_and (aK (ha pins s σ H _ I h) λc s1 ⟨H1,I1,q1⟩=>?_);cases c with
 |true=>exact hb wh pins s1 σ H1 Q I1 q1
 |false=>exact⟨H1,I1,q1⟩
theorem Kt(ha:PT X a tA)(hb:PW X (.BoolOp .Or (b::rest) pos) rA):PW X (.BoolOp .Or (a::b::rest) pos) (Kn tA rA):=by
 intro wh pins s σ H Q I h;refine isTrue_or (aK (ha pins s σ H _ I h) λc s1 ⟨H1,I1,q1⟩=>?_);cases c with
 |true=>exact⟨H1,I1,q1⟩
 |false=>exact hb wh pins s1 σ H1 Q I1 q1
theorem Ku(ha:PT X a tA):PT X (.UnaryOp .Not a pos) (Ko tA):=by
 intro pins s σ H Q I h;exact isTrue_not (ha pins s σ H (λc H1=>Q (!c) H1) I h)
def Kv(ta tb:TE):TE:=λσ H Q=>ta σ H λx H1=>∃c,x=.bl c/\if c=true then tb σ H1 Q else Q (.bl false) H1
def Kw(ta:TE):TE:=λσ H Q=>ta σ H λx H1=>∃c,x=.bl c/\Q (.bl (!c)) H1
theorem Kx{op}{t:TE}(h:PE X a t):PE X (.BoolOp op [a] pos) t:=λpins s σ H Q I hw=>BoolOp_one (h pins s σ H Q I hw)
theorem Ky(ha:PE X a ta)(hb:PE X (.BoolOp .And (b::rest) pos) tb):PE X (.BoolOp .And (a::b::rest) pos) (Kv ta tb):=by
 intro pins s σ H Q I h;refine BoolOp_and (aK (ha pins s σ H _ I h) λv s1 ⟨x,H1,I1,r1,q1⟩=>?_);obtain⟨c,rfl,q1⟩:=q1;cases r1;refine lZ ?_;cases c with
 |true=>exact hb pins s1 σ H1 Q I1 q1
 |false=>exact⟨.bl false,H1,I1,rfl,q1⟩
theorem Kz(ha:PE X a ta):PE X (.UnaryOp .Not a pos) (Kw ta):=by
 intro pins s σ H Q I h;refine UnaryOp_ (aK (ha pins s σ H _ I h) λv s1 ⟨x,H1,I1,r1,q1⟩=>?_);obtain⟨c,rfl,q1⟩:=q1;cases r1;exact not_of (lZ ⟨.bl (!c),H1,I1,rfl,q1⟩)
def KA(t:TT)(ta tb:TE):TE:=λσ H Q=>t σ H λc H1=>if c=true then ta σ H1 Q else tb σ H1 Q
theorem KC{c:Expr}(hc:PT X c tA)(ha:PE X a ta)(hb:PE X b tb):PE X (.IfExp c a b pos) (KA tA ta tb):=by
 intro pins s σ H Q I h;refine wpAny_IfExp (aK (hc pins s σ H _ I h) λd s1 ⟨H1,I1,q1⟩=>?_);cases d with
 |true=>exact ha pins s1 σ H1 Q I1 q1
 |false=>exact hb pins s1 σ H1 Q I1 q1
end
def aZ(K:ak)(H:Hp)(a:Addr)(xs:List V):Prop :=
 Rd H a (.lst xs) ∨
  ∃(o:Obj) (its:Array Value) (n:Nat),K.lookup a=some o/\o.cls=.type "list"/\o.dict=none/\o.data=.seq its n/\its.size<=sizeLine/\Vals xs its.toList
def a9(K:ak)(H:Hp)(a:Addr)(xs:List V):Prop :=
 H a=some (.tup xs)
def KD:Value->Option V
 | .none=>some .non
 | .bool b=>some (.bl b)
 | .int i _=>some (.int i)
 | .str x _=>some (.str x)
 | .bytes b _=>some (.fS b)
 | .float b _=>some (.flt b)
 | .ref a=>some (.ref a)
 | .type n=>some (.ty n)
 |_=>none
theorem RelV.abs{x:V}{u:Value}(r:RelV x u):KD u=some x:=by
 cases x with
 |non=>cases r;rfl
 |bl _=>cases r;rfl
 |int _=>obtain⟨t,rfl⟩:=r;rfl
 |str _=>obtain⟨t,rfl⟩:=r;rfl
 |fS _=>obtain⟨t,rfl⟩:=r;rfl
 |flt _=>obtain⟨t,rfl⟩:=r;rfl
 |ref _=>cases r;rfl
 |ty _=>cases r;rfl
theorem RelV.inj{x y:V}{u:Value}(r:RelV x u)(q:RelV y u):x=y:=dD (r.abs.symm.trans q.abs)
theorem Vals.inj:∀{xs ys:List V} {us:List Value},Vals xs us->Vals ys us->xs=ys
 |_,_,_,.nil,.nil=>rfl
 |_,_,_,.cons r t,.cons r' t'=>by rw[r.inj r',Vals.inj t t']
section
variable{X:Cx}{pins:List (Addr×Obj)}{σ:St}{H:Hp}{s:Shared}{a:Addr}{xs ys:List V}
theorem aZ.of{K:ak}(h:H a=some (.lst xs)):aZ K H a xs:=.inl (.inl h)
theorem a9.of{K:ak}(h:H a=some (.tup xs)):a9 K H a xs:=h
theorem Inv.list(I:Inv X pins σ H s)(h:aZ X.K H a xs):∃its:List Value,Vals xs its/\PlainL s.heap a its.toArray/\xs.length<=sizeLine:=by
 rcases h with h|⟨o,its,n,hk,hc,hd,hs,hz,r⟩
 ·obtain⟨z,its,n,r,e⟩:=h.ok I.hok;exact⟨its,r,⟨_,n,e,rfl,rfl,rfl⟩,z⟩
 ·refine⟨its.toList,r,⟨o,n,I.i5 a o hk,hc,hd,by simpa using hs⟩,?_⟩;have e:=r.length;simp only[Ik]at e;lia
theorem Inv.tuple(I:Inv X pins σ H s)(h:a9 X.K H a xs):∃its:List Value,Vals xs its/\IsTup s.heap a its.toArray/\xs.length<=sizeLine:=by
 obtain⟨z,its,r,p,_⟩:=(show cM X.prog X.w H s.heap a (.tup xs) from I.hok a _ h);exact⟨its,r,p,z⟩
theorem Inv.rB(I:Inv X pins σ H s)(h:aZ X.K H a xs)(h':aZ X.K H a ys):xs=ys:=by
 obtain⟨its,r,⟨o,n,e,_,_,d⟩,_⟩:=I.list h;obtain⟨its',r',⟨o',n',e',_,_,d'⟩,_⟩:=I.list h';rw[e]at e';cases e';rw[d]at d';injection d' with d1 _;have:its=its':=by simpa using congrArg Il d1
 subst this;exact r.inj r'
theorem Inv.mo(I:Inv X pins σ H s)(h:a9 X.K H a xs)(h':a9 X.K H a ys):xs=ys:=by
 obtain⟨its,r,⟨o,e,_,n,d⟩,_⟩:=I.tuple h;obtain⟨its',r',⟨o',e',_,n',d'⟩,_⟩:=I.tuple h';rw[e]at e';cases e';rw[d]at d';injection d' with d1 _;have:its=its':=by simpa using congrArg Il d1
 subst this;exact r.inj r'
end
abbrev Cx.ir(X:Cx)(E:Value->Shared->Prop):Cx:={X with xe:=E}
abbrev Cx.iu(X:Cx):Cx:=X.ir λ_ _=>False
theorem Cx.Ok.ir{X:Cx}(ok:X.Ok)(E:Value->Shared->Prop):(X.ir E).Ok :=
 ⟨ok.mod,ok.kind,ok.glob,ok.blt,ok.above,ok.inj,ok.has,ok.cab,ok.hd,ok.frames,ok.kL,ok.oN,ok.bs,ok.gk,ok.jS,ok.jT,ok.eV,ok.ip⟩
theorem Cx.Ok.jV{X:Cx}{E:Value->Shared->Prop}(ok:(X.ir E).Ok):X.Ok :=
 ⟨ok.mod,ok.kind,ok.glob,ok.blt,ok.above,ok.inj,ok.has,ok.cab,ok.hd,ok.frames,ok.kL,ok.oN,ok.bs,ok.gk,ok.jS,ok.jT,ok.eV,ok.ip⟩
section
variable{X:Cx}{pins:List (Addr×Obj)}{σ:St}{H:Hp}{s:Shared}{E:Value->Shared->Prop}
theorem Inv.ir(I:Inv X pins σ H s)(E:Value->Shared->Prop):Inv (X.ir E) pins σ H s:=⟨I.ok.ir E,I.os,I.bare,I.base,I.loc,I.cell,I.free,I.eG,I.pin,I.hok,I.len⟩
theorem Inv.jV(I:Inv (X.ir E) pins σ H s):Inv X pins σ H s:=⟨I.ok.jV,I.os,I.bare,I.base,I.loc,I.cell,I.free,I.eG,I.pin,I.hok,I.len⟩
theorem SP.jV{D:Ends}{f:Flow}{s':Shared}(h:SP (X.ir E) pins D f s'):SP X pins D f s':=by
 cases f with
 |next=>obtain⟨σ',H',I,q⟩:=h;exact⟨σ',H',I.jV,q⟩
 |brk=>obtain⟨σ',H',I,q⟩:=h;exact⟨σ',H',I.jV,q⟩
 |cont=>obtain⟨σ',H',I,q⟩:=h;exact⟨σ',H',I.jV,q⟩
 |ret u=>obtain⟨v,σ',H',I,r,q⟩:=h;exact⟨v,σ',H',I.jV,r,q⟩
theorem dX.iu{st:List Stmt}{t:TS}(h:dX X.iu st t):dX X st t:=λpins s σ H D I hw =>
 eQ (h pins s σ H D (I.ir _) hw) (λ_ _ q=>q.jV) λ_ _ z=>gb z
end
section
variable{X:Cx}{st:Stmt}{rest:List Stmt}{t u:TS}{e:Expr}{te:TE}{pos:Pos}
def KE:TS:=λD σ H=>D.nx σ H
def KG(t u:TS):TS:=λD σ H=>t {D with nx:=u D} σ H
theorem KH:dX X [] KE:=λ_ _ σ H _ I h=>qK ⟨σ,H,I,h⟩
theorem KI(h1:PS X st t)(h2:dX X rest u):dX X (st::rest) (KG t u):=by
 intro pins s σ H D I h;refine wpAny_execs_cons (aK (h1 pins s σ H {D with nx:=u D} I h) λf s1 q=>?_);cases f with
 |next =>
  obtain⟨σ',H',I',q⟩:=q;exact h2 pins s1 σ' H' D I' q
 |ret v=>exact q
 |brk=>exact q
 |cont=>exact q
theorem KJ(h1:PS X st t):dX X [st] t:=by
 intro pins s σ H D I h;refine wpAny_execs_cons (aK (h1 pins s σ H D I h) λf s1 q=>?_);cases f with
 |next=>exact qK q
 |ret v=>exact q
 |brk=>exact q
 |cont=>exact q
theorem Inv.quiet{pins:List (Addr×Obj)}{σ:St}{H:Hp}{s:Shared}(I:Inv X pins σ H s):interactive X.env=false:=by simp[interactive,I.ok.kind]
def KL(te:TE):TS:=λD σ H=>te σ H λ_ H1=>D.nx σ H1
theorem KN(he:PE X e te)(hs:swapsWith e none pos.line X.env=pure false:=by rfl):PS X (.Expr e pos) (KL te):=by
 intro pins s σ H D I h;exact wpAny_Expr_any (aK (he pins s σ H _ I h) λv s1 i7=>by obtain⟨x,H1,I1,r1,q1⟩:=i7;exact⟨σ,H1,I1,q1⟩) I.quiet hs
def KO(te:TE):TS:=λD σ H=>te σ H D.rt
theorem KP(he:PE X e te):PS X (.Return (some e) pos) (KO te):=by
 intro pins s σ H D I h;exact wpAny_Return_some (aK (he pins s σ H _ I h) λv s1 oQ=>by obtain⟨x,H1,I1,r1,q1⟩:=oQ;exact⟨x,σ,H1,I1,r1,q1⟩)
def KQ:TS:=λD _ H=>D.rt .non H
theorem KS:PS X (.Return none pos) KQ:=λ_ _ σ H _ I h=>wpAny_Return_none ⟨.non,σ,H,I,rfl,h⟩
def KU(c:TT)(t u:TS):TS:=λD σ H=>c σ H λb H1=>if b=true then t D σ H1 else u D σ H1
theorem KW{c:Expr}{a b:List Stmt}{tc:TT}(hc:PT X c tc)(ha:dX X a t)(hb:dX X b u):PS X (.If c a b pos) (KU tc t u):=by
 intro pins s σ H D I h;refine wpAny_If (aK (hc pins s σ H _ I h) λd s1 ⟨H1,I1,q1⟩=>?_);cases d with
 |true=>exact ha pins s1 σ H1 D I1 q1
 |false=>exact hb pins s1 σ H1 D I1 q1
end
abbrev TG:=V->St->Hp->(St->Hp->Prop)->Prop
abbrev i8:=List V->St->Hp->(St->Hp->Prop)->Prop
def PG(X:Cx)(target:Expr)(t:TG):Prop :=
 ∀(pins:List (Addr×Obj)) (s:Shared) (σ:St) (H:Hp) (v:V) (u:Value) (Q:St->Hp->Prop),Inv X pins σ H s->RelV v u->t v σ H Q ->
  wpAny (model X.prog X.w) X.A (assign target X.env u) (λ_ s'=>∃σ' H',Inv X pins σ' H' s'/\Q σ' H') X.xe s
def iw(X:Cx)(ts:List Expr)(t:i8):Prop :=
 ∀(pins:List (Addr×Obj)) (s:Shared) (σ:St) (H:Hp) (vs:List V) (us:List Value) (Q:St->Hp->Prop),Inv X pins σ H s->Vals vs us->t vs σ H Q ->
  wpAny (model X.prog X.w) X.A (assignInOrder ((assignEach ts X.env).map (·.2)) us) (λ_ s'=>∃σ' H',Inv X pins σ' H' s'/\Q σ' H') X.xe s
abbrev rC:=V->V->Hp->VK->Prop
def vf(X:Cx)(op:Operator)(t:rC):Prop :=
 ∀(pins:List (Addr×Obj)) (s:Shared) (σ:St) (H:Hp) (x y:V) (v u:Value) (Q:VK),Inv X pins σ H s->RelV x v->RelV y u->t x y H Q ->
  wpAny (model X.prog X.w) X.A (inplaceOp op v u) (EP X pins σ Q) X.xe s
section
variable{X:Cx}{pos:Pos}
def rD(i:Nat):TG:=λv σ H Q=>Q (σ.set i (some v)) H
theorem KY{i:Nat}{x:Str}(hN:X.N.Nodup)(hi:X.N[i]?=some x)(hx:Loc X.env.scope x)(hf:X.fn x=true∨X.env.scope.names.lookup x=some .local:=by first|exact .inl rfl|exact .inr rfl|assumption):PG X (.Name x pos) (rD i):=by
 intro pins s σ H v u Q I r h;exact Io (rp I hN hi hx r (λs' I'=>⟨_,H,I',h⟩) hf)
def KZ:i8:=λvs σ H Q=>vs=[]/\Q σ H
def K0(t:TG)(u:i8):i8:=λvs σ H Q=>∃v r,vs=v::r/\t v σ H λσ' H'=>u r σ' H' Q
theorem K1:iw X [] KZ:=by
 intro pins s σ H vs us Q I r h;obtain⟨e,h⟩:=h;subst e;cases r;exact assignInOrder_nil ⟨σ,H,I,h⟩
theorem K2{e:Expr}{es:List Expr}{t:TG}{u:i8}(h1:PG X e t)(h2:iw X es u)
 (hs:(assignEach (e::es) X.env).map (·.2)=assign e X.env::(assignEach es X.env).map (·.2):=by rfl):iw X (e::es) (K0 t u):=by
 intro pins s σ H vs us Q I r h;obtain⟨v,vr,e1,h⟩:=h;subst e1;cases r with
 |cons r rr =>
  rw[hs];refine assignInOrder_cons (aK (h1 pins s σ H _ _ _ I r h) λ_ s1 ⟨eW,H1,I1,q1⟩=>?_);exact h2 pins s1 eW H1 _ _ Q I1 rr q1
def K4(K:ak)(n:Nat)(t:i8):TG:=λv σ H Q=>∃a xs,v=.ref a/\a9 K H a xs/\xs.length=n/\t xs σ H Q
theorem K5{es:List Expr}{k:Nat}{t:i8}{n:Nat}(hc:X.calm=true)(h:iw X es t)
 (hn:(assignEach es X.env).length=n:=by rfl) (hst:(assignEach es X.env).findIdx? (·.1)=none:=by rfl):PG X (.Tuple es k pos) (K4 X.K n t):=by
 intro pins s σ H v u Q I r hw;obtain⟨a,xs,e1,hq,hl,hw⟩:=hw;subst e1;cases r;obtain⟨its,rv,ht,hz⟩:=I.tuple hq;refine assign_Tuple_tuple (I.ok.hd hc) ht (by simp[hn,<-hl,rv.length]) hst λh' hx=>?_;have I1:Inv X pins σ H {s with heap:=h'}:=I.kept (t':=s.toks) λb o e=>hx b o (cS (bg e)) e;exact h pins _ σ H xs _ Q I1 (by simpa using rv) hw
def AB(te:TE)(g:TG):TS:=λD σ H=>te σ H λx H1=>g x σ H1 D.nx
theorem K6{i:Nat}{x:Str}{e:Expr}{te:TE}{pos':Pos}(hN:X.N.Nodup)(hi:X.N[i]?=some x)(hx:Loc X.env.scope x)(he:PE X e te)(hs:swapsWith e (some (.Name x pos')) pos.line X.env=pure false:=by rfl)(hf:X.fn x=true∨X.env.scope.names.lookup x=some .local:=by first|exact .inl rfl|exact .inr rfl|assumption) :
 PS X (.Assign [.Name x pos'] e pos) (AB te (rD i)):=by
 intro pins s σ H D I h;refine wpAny_Assign_Name (aK (he pins s σ H _ I h) λv s1 ⟨y,H1,I1,r1,q1⟩=>?_) hs;exact rp I1 hN hi hx r1 (λs2 I2=>⟨_,H1,I2,q1⟩) hf
def K7(i:Nat)(te:TE)(ti:rC):TS:=λD σ H=>∃x,σ[i]?=some (some x)/\te σ H λy H1=>ti x y H1 λz H2=>D.nx (σ.set i (some z)) H2
theorem K8{i:Nat}{x:Str}{e:Expr}{te:TE}{op:Operator}{ti:rC}{pos':Pos}(hN:X.N.Nodup)(hi:X.N[i]?=some x)(hx:Loc X.env.scope x)(he:PE X e te)(ho:vf X op ti)(hf:X.fn x=true∨X.env.scope.names.lookup x=some .local:=by first|exact .inl rfl|exact .inr rfl|assumption) :
 PS X (.AugAssign (.Name x pos') op e pos) (K7 i te ti):=by
 intro pins s σ H D I h;obtain⟨v,e1,h⟩:=h;obtain⟨m,hn,hl⟩:=I.loc;have K9:ri X.env.scope x:=by rcases hx with k|k;exact .inl k;exact .inr (.inl k)
 obtain⟨u,r,l⟩:=hl i x v hi e1 K9;refine wpAny_AugAssign_Name ?_;have go:wpAny (model X.prog X.w) X.A (eval e X.env) (λw s₂=>wpAny (model X.prog X.w) X.A (inplaceOp op u w) (λr s₃=>wpAny (model X.prog X.w) X.A (storeName X.env x r) (λ_=>SP X pins D .next) X.xe s₃) X.xe s₂) X.xe s:=by
  refine aK (he pins s σ H _ I h) λw s1 ⟨y,H1,I1,r1,q1⟩=>?_;refine aK (ho pins s1 σ H1 v y u w _ I1 r r1 q1) λz s2 ⟨zv,H2,I2,r2,q2⟩=>?_;exact rp I2 hN hi hx r2 (λs3 I3=>⟨_,H2,I3,q2⟩) hf
 rcases l with⟨hk,hm⟩|⟨hk,c,hc,hcell⟩
 ·exact Ig I.ok.kind hk hn hm go
 ·rcases hk with hk|hk
  ·exact Ih I.ok.kind hk hc hcell go
  ·rcases hx with k|k
   ·have:X.env.scope.names.lookup x=some .free:=hk;rw[k]at this;cases this
   ·have:X.env.scope.names.lookup x=some .free:=hk;rw[k]at this;cases this
def AD(f:Int->Int->Int):rC:=λx y H Q=>∃i j,x=.int i/\y=.int j/\Q (.int (f i j)) H
theorem K_:vf X .Add (AD λi j=>i+j):=by
 intro pins s σ H x y v u Q I r1 r2 h;obtain⟨i,j,e1,e2,q⟩:=h;subst e1;subst e2;obtain⟨t,rfl⟩:=r1;obtain⟨t',rfl⟩:=r2;exact iadd_int ⟨.int _,H,I.tok _,⟨_,rfl⟩,q⟩
end
section
variable{X:Cx}{pos:Pos}
def K'(c:TT)(tb:TS):TS:=λD σ H=>∃W:Nat->St->Hp->Prop,(∃m,W m σ H)/\∀m σ H,W m σ H ->
 c σ H λb H1=>if b=true then ∃N:St->Hp->Prop,(∀σ' H',N σ' H'->∃m',m'<m/\W m' σ' H')/\tb {D with nx:=N,ct:=N,bk:=D.nx} σ H1 else D.nx σ H1
theorem La{c:Expr}{body:List Stmt}{tc:TT}{tb:TS}(hp:PassesOwn (model X.prog X.w) X.A X.env X.xe)(hc:PT X c tc)(hb:dX X body tb):PS X (.While c body [] pos) (K' tc tb):=by
 intro pins s σ H D I h;obtain⟨W,⟨m0,w0⟩,turn⟩:=h;refine wpAny_While (codeAny_whileLoop (λn s'=>∃σ' H',Inv X pins σ' H' s'/\W n σ' H') ?_ m0 ⟨σ,H,I,w0⟩);rintro n s1 ⟨eW,H1,I1,w1⟩;refine l7 hp (aK (hc pins s1 eW H1 _ I1 (turn n eW H1 w1)) λb s2 ⟨H2,I2,q2⟩=>?_);cases b with
 |true =>
  obtain⟨N,hN,q2⟩:=q2;rw[if_pos rfl];refine l7 hp (aK (hb pins s2 eW H2 _ I2 q2) λf s3 q3=>?_);cases f with
  |next =>
   obtain⟨gJ,H3,I3,n3⟩:=q3;obtain⟨m',hm,w3⟩:=hN gJ H3 n3;exact⟨m',hm,gJ,H3,I3,w3⟩
  |cont =>
   obtain⟨gJ,H3,I3,n3⟩:=q3;obtain⟨m',hm,w3⟩:=hN gJ H3 n3;exact⟨m',hm,gJ,H3,I3,w3⟩
  |brk=>exact q3
  |ret v=>exact q3
 |false =>
  rw[if_neg cF];exact qK ⟨eW,H2,I2,q2⟩
end
structure It where
 go:Nat->Hp->Prop
 jW:Nat->Hp->V->Hp->Prop
 stop:Nat->Hp->Prop
def du(X:Cx)(pins:List (Addr×Obj))(H:Hp)(b:Addr):Prop :=
 H b=none/\b≠X.env.locals/\b∉X.fs/\(b∈X.ex∨X.s₀.heap.objs.size<=b)/\(∀x c,X.env.cells.lookup x=some c->c≠b)/\∀p∈X.pn++pins,p.1≠b
theorem Inv.i9{X:Cx}{pins:List (Addr×Obj)}{σ:St}{H H':Hp}{s:Shared}{b:Addr}(I:Inv X pins σ H s)(hb:s.heap.objs.size<=b)(hn:H' b=none):du X pins H' b:=by
 refine⟨hn,l9 (cR I.lt hb),I.Kd hb,.inr (bR I.sz hb),λx c e z=>?_,λp hp z=>?_⟩
 ·obtain⟨v,q⟩:=I.cell x c e;exact absurd (cR q.lt (by rw[z];exact hb)) (iS _)
 ·exact absurd (cR (bg (I.pin p hp).1) (by rw[z];exact hb)) (iS _)
structure Turn(P:Program)(w:World)(K:ak)(tg:Expr)(J:It)(fp:List Addr)(it:Addr)(tn:Nat->Heap->Prop):Prop where
 mem:it∈fp
 obj:∀i h,tn i h->∀b∈fp,∃o,h.get? b=some o/\∀v,o.data≠.cell v
 keep:∀i h h',tn i h->(∀b∈fp,∀o,h.get? b=some o->h'.get? b=some o)->tn i h'
 item:∀(X:Cx),X.prog=P->X.w=w->X.K=K->X.calm=true->∀(i:Nat) (pins:List (Addr×Obj)) (s:Shared) (σ:St) (H:Hp) (E:Value->Shared->Prop),Inv X pins σ H s->(∀b∈fp,du X pins H b)->tn i s.heap->J.go i H ->
  wpAny (model P w) X.A (pyNext (.ref it)) (λr s1=>∃u,r=some u /\
   wpAny (model P w) X.A (letOwnedTupleGo tg (.ref it) u) (λ_ s2=>∃x H',Inv X pins σ H' s2/\RelV x u/\J.jW i H x H'/\tn (i+1) s2.heap/\∀b∈fp,H' b=none) E s1) E s
 done:∀(X:Cx),X.prog=P->X.w=w->X.K=K->X.calm=true->∀(i:Nat) (pins:List (Addr×Obj)) (s:Shared) (σ:St) (H:Hp) (E:Value->Shared->Prop),Inv X pins σ H s->(∀b∈fp,du X pins H b)->tn i s.heap->J.stop i H ->
  wpAny (model P w) X.A (pyNext (.ref it)) (λr s1=>r=none/\Inv X pins σ H s1) E s
 self:∀(A:Around) (i:Nat) (s:Shared) (Q:Value->Shared->Prop) (E:Value->Shared->Prop),tn i s.heap->Q (.ref it) s->wpAny (model P w) A (pyIter (.ref it)) Q E s
abbrev TI:=St->Hp->(It->Hp->Prop)->Prop
def vg(X:Cx)(pins:List (Addr×Obj))(σ:St)(tg:Expr)(R:It->Hp->Prop)(itv:Value)(s2:Shared):Prop :=
 ∃(it:Addr) (fp:List Addr) (tn:Nat->Heap->Prop) (J:It) (H':Hp),itv=.ref it/\Inv X pins σ H' s2/\Turn X.prog X.w X.K tg J fp it tn/\tn 0 s2.heap/\(∀b∈fp,du X pins H' b)/\R J H'
def PI(X:Cx)(tg iter:Expr)(wi:TI):Prop :=
 ∀(pins:List (Addr×Obj)) (s:Shared) (σ:St) (H:Hp) (R:It->Hp->Prop),Inv X pins σ H s->wi σ H R ->
  wpAny (model X.prog X.w) X.A (eval iter X.env) (λv s1=>wpAny (model X.prog X.w) X.A (pyIter v) (vg X pins σ tg R) X.xe s1) X.xe s
theorem oR {M:Model} {A:Around} {E:Value→Shared→Prop} {s:Shared} {tg:Expr} {it:Addr} {u:Value} {o:Obj} {n:String} {vs:Array Value} {Q:Unit→Shared→Prop} (ho:s.heap.get? it=some o) (hc:o.cls=.type n) (hd:o.data=.fields vs)
    (hn:["enumerate","zip","dict_itemiterator","dict_reverseitemiterator","odict_iterator","itertools.zip_longest","itertools.pairwise"].contains n=false) (hQ:Q () s):wpAny M A (letOwnedTupleGo tg (.ref it) u) Q E s:=by
  unfold letOwnedTupleGo
  cases tg<;>first
    | exact az hQ
    | (cases u<;>first
        | exact az hQ
        | (refine ah (wpAny_load ho ?_)
           rw [hc,hd]
           show wpAny M A (if (["enumerate","zip","dict_itemiterator","dict_reverseitemiterator","odict_iterator","itertools.zip_longest","itertools.pairwise"].contains n&&vs[0]?==some (rawInt _))=true then _ else _) Q E s
           rw [if_neg (by intro h;rw [hn,Bool.false_and] at h;cases h)]
           exact az hQ))
def AE(K:ak)(a:Addr):It :=
 ⟨λi H=>∃xs x,aZ K H a xs/\xs[i]?=some x,λi H x H'=>H'=H/\∀xs,aZ K H a xs->xs[i]?=some x,λi H=>∃xs,aZ K H a xs/\xs.length<=i⟩
def AF(K:ak)(a:Addr):It :=
 ⟨λi H=>∃xs x,a9 K H a xs/\xs[i]?=some x,λi H x H'=>H'=H/\∀xs,a9 K H a xs->xs[i]?=some x,λi H=>∃xs,a9 K H a xs/\xs.length<=i⟩
def oS(lo:Int)(n:Nat):It:=⟨λi _=>i<n,λi H x H'=>H'=H/\x=.int (lo+i),λi _=>n<=i⟩
theorem Lb{P:Program}{w:World}{K:ak}{tg:Expr}(a it:Addr):Turn P w K tg (AE K a) [it] it (λi h=>h.IsListIter it a i) where
 mem:=by simp
 obj:=λi h st b hb=>by
  have e:b=it:=by simpa using hb
  subst e;obtain⟨o,e,c,d⟩:=st;exact⟨o,e,λv z=>by rw[d]at z;cases z⟩
 keep:=λi h h' st k=>st.at λo e=>k it (by simp) o e
 item:=by
  intro X hP hw hK hc i pins s σ H E I hf st hg;subst hP hw hK;obtain⟨xs,x,hq,hx⟩:=hg;obtain⟨its,rv,p,hz⟩:=I.list hq;obtain⟨u,hu,ru⟩:=rv.get hx;obtain⟨f0,f1,f2,f3,f4,f5⟩:=hf it (by simp);refine wpAny_pyNext_list_item st p.isList (x:=u) (by simpa using hu) λh' st' sb=>?_;have I1:Inv X pins σ H {s with heap:=h'}:=I.turned (t':=s.toks) (λb o hb e=>(sb.2 b hb).trans e) f0 f1 f3 f4 f5;obtain⟨o,e,c,d⟩:=id st';exact⟨u,rfl,oR (s:={s with heap:=h'}) e c d (by decide) ⟨x,H,I1,ru,⟨rfl,λys hy=>by rw[I.rB hy hq];exact hx⟩,st',λb hb=>(hf b hb).1⟩⟩
 done:=by
  intro X hP hw hK hc i pins s σ H E I hf st hg;subst hP hw hK;obtain⟨xs,hq,hx⟩:=hg;obtain⟨its,rv,p,hz⟩:=I.list hq;obtain⟨f0,f1,f2,f3,f4,f5⟩:=hf it (by simp);have hl:=rv.length;exact wpAny_pyNext_list_end (I.ok.hd hc) st p.isList (by simp;lia) λh' eb=>⟨rfl,I.turned (t':=s.toks) (λb o hb e=>eb b o hb e) f0 f1 f3 f4 f5⟩
 self:=λ_ _ _ _ _ st h=>wpAny_pyIter_listiter st h
theorem Lc{P:Program}{w:World}{K:ak}{tg:Expr}(a it:Addr):Turn P w K tg (AF K a) [it] it (λi h=>h.IsTupleIter it a i) where
 mem:=by simp
 obj:=λi h st b hb=>by
  have e:b=it:=by simpa using hb
  subst e;obtain⟨o,e,c,d⟩:=st;exact⟨o,e,λv z=>by rw[d]at z;cases z⟩
 keep:=λi h h' st k=>st.at λo e=>k it (by simp) o e
 item:=by
  intro X hP hw hK hc i pins s σ H E I hf st hg;subst hP hw hK;obtain⟨xs,x,hq,hx⟩:=hg;obtain⟨its,rv,p,hz⟩:=I.tuple hq;obtain⟨u,hu,ru⟩:=rv.get hx;obtain⟨f0,f1,f2,f3,f4,f5⟩:=hf it (by simp);refine wpAny_pyNext_tuple_item st (show s.heap.IsTuple a its.toArray from p) (x:=u) (by simpa using hu) λh' st' sb=>?_;have I1:Inv X pins σ H {s with heap:=h'}:=I.turned (t':=s.toks) (λb o hb e=>(sb.2 b hb).trans e) f0 f1 f3 f4 f5;obtain⟨o,e,c,d⟩:=id st';exact⟨u,rfl,oR (s:={s with heap:=h'}) e c d (by decide) ⟨x,H,I1,ru,⟨rfl,λys hy=>by rw[I.mo hy hq];exact hx⟩,st',λb hb=>(hf b hb).1⟩⟩
 done:=by
  intro X hP hw hK hc i pins s σ H E I hf st hg;subst hP hw hK;obtain⟨xs,hq,hx⟩:=hg;obtain⟨its,rv,p,hz⟩:=I.tuple hq;obtain⟨f0,f1,f2,f3,f4,f5⟩:=hf it (by simp);have hl:=rv.length;exact wpAny_pyNext_tuple_end (I.ok.hd hc) st (show s.heap.IsTuple a its.toArray from p) (by simp;lia) λh' eb=>⟨rfl,I.turned (t':=s.toks) (λb o hb e=>eb b o hb e) f0 f1 f3 f4 f5⟩
 self:=λ_ _ _ _ _ st h=>wpAny_pyIter_tupleiter st h
theorem Ld{P:Program}{w:World}{K:ak}{tg:Expr}(it:Addr)(lo:Int)(n:Nat):Turn P w K tg (oS lo n) [it] it (λi h=>IsRangeIter h it (lo+(i:Nat)*1) ((n:Int)-(i:Nat)) 1) where
 mem:=by simp
 obj:=λi h st b hb=>by
  have e:b=it:=by simpa using hb
  subst e;exact⟨_,st,λv z=>by
   have z':Data.fields _=Data.cell v:=z;cases z'⟩
 keep:=λi h h' st k=>k it (by simp) _ st
 item:=by
  intro X hP hw hK hc i pins s σ H E I hf st hg;subst hP hw hK;obtain⟨f0,f1,f2,f3,f4,f5⟩:=hf it (by simp);have W:=Walks.range (prog:=X.prog) (w:=X.w) (I.ok.hd hc) it lo 1 n;refine W.item i s _ _ hg st λv h' tk hv st' kk=>?_;obtain⟨t,rfl⟩:=hv;have I1:Inv X pins σ H {s with heap:=h',toks:=tk}:=I.turned (λb o hb e=>kk b o (by simpa using hb) e) f0 f1 f3 f4 f5;refine⟨_,rfl,oR (s:={s with heap:=h',toks:=tk}) (n:="range_iterator") st' rfl rfl (by decide) ⟨.int (lo+i),H,I1,⟨t,?_⟩,⟨rfl,rfl⟩,st',λb hb=>(hf b hb).1⟩⟩;rw[Int.mul_one]
 done:=by
  intro X hP hw hK hc i pins s σ H E I hf st hg;subst hP hw hK;obtain⟨f0,f1,f2,f3,f4,f5⟩:=hf it (by simp);exact wpAny_pyNext_range_end (I.ok.hd hc) st (by have:n<=i:=hg;lia) λh' eb=>⟨rfl,I.turned (t':=s.toks) (λb o hb e=>eb b o hb e) f0 f1 f3 f4 f5⟩
 self:=λ_ _ _ _ _ st h=>wpAny_pyIter_rangeiter st h
section
variable{X:Cx}{tg:Expr}
def Le(K:ak)(tl:TE):TI:=λσ H R=>tl σ H λx H1=>∃a,x=.ref a/\(∃xs,aZ K H1 a xs)/\R (AE K a) H1
def Lf(K:ak)(tl:TE):TI:=λσ H R=>tl σ H λx H1=>∃a,x=.ref a/\(∃xs,a9 K H1 a xs)/\R (AF K a) H1
theorem Lg{l:Expr}{tl:TE}(hl:PE X l tl):PI X tg l (Le X.K tl):=by
 intro pins s σ H R I h;refine aK (hl pins s σ H _ I h) λv s1 ⟨x,H1,I1,r1,q1⟩=>?_;obtain⟨a,e,⟨xs,hq⟩,q⟩:=q1;subst e;cases r1;obtain⟨its,rv,p,hz⟩:=I1.list hq;refine Ip p.isList ?_;refine⟨s1.heap.objs.size,[s1.heap.objs.size],_,_,H1,rfl,I1.kept (t':=s1.toks) λb o e=>bt _ e,Lb a _,⟨_,c7 _ rfl,rfl,rfl⟩,λb hb=>?_,q⟩;have e:b=s1.heap.objs.size:=by simpa using hb
 subst e;exact I1.i9 (aQ _) (I1.hok.fresh (aQ _))
theorem Lh{l:Expr}{tl:TE}(hl:PE X l tl):PI X tg l (Lf X.K tl):=by
 intro pins s σ H R I h;refine aK (hl pins s σ H _ I h) λv s1 ⟨x,H1,I1,r1,q1⟩=>?_;obtain⟨a,e,⟨xs,hq⟩,q⟩:=q1;subst e;cases r1;obtain⟨its,rv,p,hz⟩:=I1.tuple hq;refine n8 (show s1.heap.IsTuple a its.toArray from p) ?_;refine⟨s1.heap.objs.size,[s1.heap.objs.size],_,_,H1,rfl,I1.kept (t':=s1.toks) λb o e=>bt _ e,Lc a _,⟨_,c7 _ rfl,rfl,rfl⟩,λb hb=>?_,q⟩;have e:b=s1.heap.objs.size:=by simpa using hb
 subst e;exact I1.i9 (aQ _) (I1.hok.fresh (aQ _))
theorem AG{pins:List (Addr×Obj)}{σ:St}{H:Hp}{s:Shared}{R:It->Hp->Prop}{E:Value->Shared->Prop}{lo hi:Int}{t u v:Tok}{tk:Nat}(I:Inv X pins σ H s)(h1:-(2^62)<=lo)(h2:lo<2^62)(h3:-(2^62)<=hi)(h4:hi<2^62)
 (q:R (oS lo (hi-lo).toNat) H):wpAny (model X.prog X.w) X.A (pyIter (.ref s.heap.objs.size)) (vg X pins σ tg R) E {s with heap:=s.heap.push {cls:=.type "range",data:=.fields #[.int lo t,.int hi u,.int 1 v]},toks:=tk}:=by
 refine wpAny_pyIter_range (IsRange.new ..) (small_one h1 h2 h3 h4) ?_;have I1:Inv X pins σ H {s with heap:=s.heap.push {cls:=.type "range",data:=.fields #[.int lo t,.int hi u,.int 1 v]},toks:=tk}:=I.kept λb o e=>bt _ e;refine⟨(s.heap.push {cls:=.type "range",data:=.fields #[.int lo t,.int hi u,.int 1 v]}).objs.size,[(s.heap.push {cls:=.type "range",data:=.fields #[.int lo t,.int hi u,.int 1 v]}).objs.size],_,_,H,rfl,
  I1.kept (t':=tk) λb o e=>bt _ e,Ld _ lo (hi-lo).toNat,?_,λb hb=>?_,q⟩
 ·have e1:lo+((0:Nat):Int)*1=lo:=by simp
  have e2:(((hi-lo).toNat:Nat):Int)-((0:Nat):Int)=aaZ lo hi 1:=by rw[rangeSize_one];split<;>lia
  show IsRangeIter _ _ (lo+((0:Nat):Int)*1) ((((hi-lo).toNat:Nat):Int)-((0:Nat):Int)) 1;rw[e1,e2];exact c7 _ rfl
 ·have e:b=(s.heap.push {cls:=.type "range",data:=.fields #[.int lo t,.int hi u,.int 1 v]}).objs.size:=by simpa using hb
  subst e;exact I1.i9 (aQ _) (I1.hok.fresh (aQ _))
def Li(ta:TA):TI:=λσ H R=>ta σ H λvs H1=>∃j:Int,vs=[.int j]/\-(2^62)<=j/\j<2^62/\R (oS 0 j.toNat) H1
def Lj(ta:TA):TI:=λσ H R=>ta σ H λvs H1=>∃i j:Int,vs=[.int i,.int j]/\(-(2^62)<=i/\i<2^62/\-(2^62)<=j/\j<2^62)/\R (oS i (j-i).toNat) H1
theorem Lk{a:Expr}{ta:TA}{p pos:Pos}(hg:Gl X "range")(hm:X.mg "range"=none)(ha:PA X [a] ta)(hs:starEach [a] X.env=[(false,eval a X.env)]:=by rfl):PI X tg (.Call (.Name "range" p) [a] [] pos) (Li ta):=by
 intro pins s σ H R I h;refine Call_ (iq I hg hm boot_range (jH (aK (ha pos pins s σ H _ I h) λus s1 ⟨vs,H1,I1,r1,q1⟩=>?_) hs rfl));obtain⟨j,e,q1,q2,q⟩:=q1;subst e;cases r1 with
 |cons r rr =>
  cases rr;obtain⟨t,rfl⟩:=r;exact call_range_1 (AG I1 (by lia) (by lia) q1 q2 (by simpa using q))
theorem Ll{a b:Expr}{ta:TA}{p pos:Pos}(hg:Gl X "range")(hm:X.mg "range"=none)(ha:PA X [a,b] ta)(hs:starEach [a,b] X.env=[(false,eval a X.env),(false,eval b X.env)]:=by rfl)(hs2:starEach [b] X.env=[(false,eval b X.env)]:=by rfl) :
 PI X tg (.Call (.Name "range" p) [a,b] [] pos) (Lj ta):=by
 intro pins s σ H R I h;refine Call_ (iq I hg hm boot_range (jH (aK (ha pos pins s σ H _ I h) λus s1 ⟨vs,H1,I1,r1,q1⟩=>?_) (by rw[hs,hs2]) (by rw[hs2];rfl)));obtain⟨i,j,e,⟨q1,q2,q3,q4⟩,q⟩:=q1;subst e;cases r1 with
 |cons r rr =>
  cases rr with
  |cons r' rr =>
   cases rr;obtain⟨t,rfl⟩:=r;obtain⟨t',rfl⟩:=r';exact call_range_2 (AG I1 q1 q2 q3 q4 q)
def Ln(wi:TI)(g:TG)(tb:TS):TS:=λD σ H=>wi σ H λJ H1=>∃W:Nat->Nat->St->Hp->Prop,(∃m,W 0 m σ H1)/\∀i m σ H,W i m σ H ->
 (J.stop i H/\D.nx σ H)∨(J.go i H/\∃N:St->Hp->Prop,(∀σ' H',N σ' H'->∃m',m'<m/\W (i+1) m' σ' H')/\∀x H',J.jW i H x H'->g x σ H' λix H2=>tb {D with nx:=N,ct:=N,bk:=D.nx} ix H2)
def oU(fp:List Addr)(h:Heap):List (Addr×Obj):=fp.filterMap λb=>(h.get? b).map λo=>(b,o)
theorem rE{fp:List Addr}{h:Heap}{b:Addr}{o:Obj}(hb:b∈fp)(e:h.get? b=some o):(b,o)∈oU fp h:=n_.mpr ⟨b,hb,by rw[e];rfl⟩
theorem Lp{fp:List Addr}{h:Heap}{p:Addr×Obj}(hp:p∈oU fp h):p.1∈fp/\h.get? p.1=some p.2:=by
 obtain⟨b,hb,e⟩:=n_.mp hp;cases q:h.get? b with
 |none=>rw[q]at e;cases e
 |some o =>
  rw[q]at e;have e':(b,o)=p:=dD e;subst e';exact⟨hb,q⟩
theorem Inv.pinned{pins:List (Addr×Obj)}{σ:St}{H:Hp}{s:Shared}{fp:List Addr}(I:Inv X pins σ H s)(hf:∀b∈fp,du X pins H b)(ho:∀b∈fp,∃o,s.heap.get? b=some o/\∀v,o.data≠.cell v):Inv X (pins++oU fp s.heap) σ H s :=
 I.Aw λp hp=>(bI.mp hp).elim (λz=>I.pin p (df _ z)) λz=>by
  obtain⟨hb,e⟩:=Lp z;obtain⟨f0,f1,f2,_⟩:=hf p.1 hb;obtain⟨o,e',d⟩:=ho p.1 hb;rw[e]at e';cases e';exact⟨e,f0,f1,f2,d⟩
theorem Inv.rF{pins pl:List (Addr×Obj)}{σ:St}{H:Hp}{s:Shared}(I:Inv X (pins++pl) σ H s):Inv X pins σ H s:=I.Aw λp hp=>I.pin p (df _ (dE _ hp))
theorem Lq{iter:Expr}{body:List Stmt}{wi:TI}{g:TG}{tb:TS}{pos:Pos}(hp:PassesOwn (model X.prog X.w) X.A X.env X.xe)(hc:X.calm=true)(hi:PI X tg iter wi)(hg:PG X tg g)(hb:dX X body tb)
 (hs:∀x,foldedSetIterable iter X.env x=pure x:=by intro _;rfl):PS X (.For tg iter body [] pos) (Ln wi g tb):=by
 intro pins s σ H D I h;refine wpAny_For (aK (hi pins s σ H _ I h) λv s1 h1=>aK h1 λitv s2 h2=>?_) hs;obtain⟨it,fp,tn,J,H2,e,I2,T,st2,f2,W,⟨m0,w0⟩,turn⟩:=h2;subst e;have kM:∀{H':Hp},(∀b∈fp,H' b=none)->∀b∈fp,du X pins H' b:=λhn b hb=>⟨hn b hb,(f2 b hb).2⟩;refine codeAny_forLoop_any (λn s'=>∃i σ' H',Inv X pins σ' H' s'/\tn i s'.heap/\(∀b∈fp,H' b=none)/\W i n σ' H') ?_ m0 ⟨0,σ,H2,I2,st2,λb hb=>(f2 b hb).1,w0⟩;rintro n s3 ⟨i,gJ,H3,I3,st3,gK,w3⟩;rcases turn i n gJ H3 w3 with⟨stop,qn⟩|⟨go,N,hN,step⟩
 ·refine l7 hp (aK (T.done X rfl rfl rfl hc i pins s3 gJ H3 X.xe I3 (kM gK) st3 stop) λr s4 ⟨hr,I4⟩=>?_);subst hr;exact qK ⟨gJ,H3,I4,qn⟩
 ·refine l7 hp (aK (T.item X rfl rfl rfl hc i pins s3 gJ H3 X.xe I3 (kM gK) st3 go) λr s4 ⟨u,hr,h4⟩=>?_);subst hr;refine l7 hp (aK h4 λ_ s5 ⟨x,H5,I5,r5,y5,mq,rG⟩=>?_);have Lr:=I5.pinned (kM rG) (T.obj _ _ mq);refine l7 hp (aK (hg _ s5 gJ H5 x u _ Lr r5 (step x H5 y5)) λ_ s6 ⟨Ls,H6,I6,q6⟩=>?_);refine l7 hp (aK (hb _ s6 Ls H6 _ I6 q6) λf s7 q7=>?_);have again:∀{gL:St} {H7:Hp},Inv X (pins++oU fp s5.heap) gL H7 s7->N gL H7->∃m,m<n/\∃i σ' H',Inv X pins σ' H' s7/\tn i s7.heap/\(∀b∈fp,H' b=none)/\W i m σ' H':=λ{gL H7} I7 n7=>by
   obtain⟨m',hm,w7⟩:=hN gL H7 n7;refine⟨m',hm,i+1,gL,H7,I7.rF,T.keep _ _ _ mq λb hb o e=>(I7.pin (b,o) (df _ (df _ (rE hb e)))).1,λb hb=>?_,w7⟩;obtain⟨o,e,d⟩:=T.obj _ _ mq b hb;exact(I7.pin (b,o) (df _ (df _ (rE hb e)))).2.1
  cases f with
  |next=>obtain⟨gL,H7,I7,n7⟩:=q7;exact again I7 n7
  |cont=>obtain⟨gL,H7,I7,n7⟩:=q7;exact again I7 n7
  |brk=>obtain⟨gL,H7,I7,q7⟩:=q7;exact⟨gL,H7,I7.rF,q7⟩
  |ret v=>obtain⟨x7,gL,H7,I7,r7,q7⟩:=q7;exact⟨x7,gL,H7,I7.rF,r7,q7⟩
end
abbrev R2:=V->V->Hp->VK->Prop
def ck(X:Cx)(f:Value->Value->Sem Value)(r:R2):Prop :=
 ∀(pins:List (Addr×Obj)) (s:Shared) (σ:St) (H:Hp) (x y:V) (v u:Value) (Q:VK),Inv X pins σ H s->RelV x v->RelV y u->r x y H Q ->
  wpAny (model X.prog X.w) X.A (f v u) (EP X pins σ Q) X.xe s
def vh(X:Cx)(f:Value->Sem Value)(r:V->Hp->VK->Prop):Prop :=
 ∀(pins:List (Addr×Obj)) (s:Shared) (σ:St) (H:Hp) (x:V) (v:Value) (Q:VK),Inv X pins σ H s->RelV x v->r x H Q ->
  wpAny (model X.prog X.w) X.A (f v) (EP X pins σ Q) X.xe s
def fm(X:Cx)(f:Value)(r:List V->Hp->VK->Prop):Prop :=
 ∀(pins:List (Addr×Obj)) (s:Shared) (σ:St) (H:Hp) (xs:List V) (us:List Value) (Q:VK),Inv X pins σ H s->Vals xs us->r xs H Q ->
  wpAny (model X.prog X.w) X.A (call f us) (EP X pins σ Q) X.xe s
def Lu(X:Cx)(r:V->Hp->(Bool->Hp->Prop)->Prop):Prop :=
 ∀(pins:List (Addr×Obj)) (s:Shared) (σ:St) (H:Hp) (x:V) (v:Value) (Q:Bool->Hp->Prop),Inv X pins σ H s->RelV x v->r x H Q ->
  wpAny (model X.prog X.w) X.A (truthy v) (TP X pins σ Q) X.xe s
def oV(r:R2)(ta tb:TE):TE:=λσ H Q=>ta σ H λx H1=>tb σ H1 λy H2=>r x y H2 Q
def Lv(r:V->Hp->VK->Prop)(ta:TE):TE:=λσ H Q=>ta σ H λx H1=>r x H1 Q
def rI(C:Int->Int->Prop)(g:Int->Int->V):R2:=λx y H Q=>∃i j,x=.int i/\y=.int j/\C i j/\Q (g i j) H
def iy(g:Int->Int->V):R2:=λx y H Q=>∃i j,x=.int i/\y=.int j/\Q (g i j) H
def rU(g:Int->V):V->Hp->VK->Prop:=λx H Q=>∃i,x=.int i/\Q (g i) H
section
variable{X:Cx}{a b c:Expr}{ta tb tc:TE}{pos:Pos}
theorem vi(ha:PE X a ta)(hb:PE X b tb){pins:List (Addr×Obj)}{s:Shared}{σ:St}{H:Hp}{R:V->V->Hp->Prop}(I:Inv X pins σ H s)
 (h:ta σ H λx H1=>tb σ H1 λy H2=>R x y H2) {Q:Value->Shared->Prop} {f:Value->Value->Sem Value}
 (hf:∀v u s2 x y H2,Inv X pins σ H2 s2->RelV x v->RelV y u->R x y H2->wpAny (model X.prog X.w) X.A (f v u) Q X.xe s2) :
 wpAny (model X.prog X.w) X.A (eval a X.env) (λv s₁=>wpAny (model X.prog X.w) X.A (eval b X.env) (λu s₂=>wpAny (model X.prog X.w) X.A (f v u) Q X.xe s₂) X.xe s₁) X.xe s:=by
 refine aK (ha pins s σ H _ I h) λv s1 ⟨x,H1,I1,r1,q1⟩=>?_;refine aK (hb pins s1 σ H1 _ I1 q1) λu s2 ⟨y,H2,I2,r2,q2⟩=>?_;exact hf v u s2 x y H2 I2 r1 r2 q2
theorem Lw{op:Operator}{r:R2}(ho:ck X (binaryOp op) r)(ha:PE X a ta)(hb:PE X b tb):PE X (.BinOp a op b pos) (oV r ta tb):=by
 intro pins s σ H Q I h;exact wpAny_BinOp (vi ha hb I h λv u s2 x y H2 I2 rx ry q=>ho pins s2 σ H2 x y v u Q I2 rx ry q)
theorem Ly{op:UnaryOp}{r:V->Hp->VK->Prop}(ho:vh X (unaryOp op) r)(ha:PE X a ta):PE X (.UnaryOp op a pos) (Lv r ta):=by
 intro pins s σ H Q I h;exact UnaryOp_ (aK (ha pins s σ H _ I h) λv s1 vj=>by obtain⟨x,H1,I1,r1,q1⟩:=vj;exact ho pins s1 σ H1 x v Q I1 r1 q1)
theorem rH{f:Value->Value->Sem Value}{C:Int->Int->Prop}{g:Int->Int->Int}
 (rule:∀(i j:Int) (t u:Tok) (s:Shared) (Q:Value->Shared->Prop) (E:Value->Shared->Prop),C i j->Q (.int (g i j) s.toks) {s with toks:=s.toks+1}->wpAny (model X.prog X.w) X.A (f (.int i t) (.int j u)) Q E s) :
 ck X f (rI C λi j=>.int (g i j)):=by
 intro pins s σ H x y v u Q I rx ry h;obtain⟨i,j,rfl,rfl,hc,q⟩:=h;obtain⟨t,rfl⟩:=rx;obtain⟨t',rfl⟩:=ry;exact rule i j t t' s _ _ hc ⟨.int (g i j),H,I.tok _,⟨_,rfl⟩,q⟩
theorem AH{f:Value->Value->Sem Value}{g:Int->Int->Int}
 (rule:∀(i j:Int) (t u:Tok) (s:Shared) (Q:Value->Shared->Prop) (E:Value->Shared->Prop),Q (.int (g i j) s.toks) {s with toks:=s.toks+1}->wpAny (model X.prog X.w) X.A (f (.int i t) (.int j u)) Q E s) :
 ck X f (iy λi j=>.int (g i j)):=by
 intro pins s σ H x y v u Q I rx ry h;obtain⟨i,j,rfl,rfl,q⟩:=h;obtain⟨t,rfl⟩:=rx;obtain⟨t',rfl⟩:=ry;exact rule i j t t' s _ _ ⟨.int (g i j),H,I.tok _,⟨_,rfl⟩,q⟩
theorem rJ{f:Value->Value->Sem Value}{g:Int->Int->Bool}
 (rule:∀(i j:Int) (t u:Tok) (s:Shared) (Q:Value->Shared->Prop) (E:Value->Shared->Prop),Q (.bool (g i j)) s->wpAny (model X.prog X.w) X.A (f (.int i t) (.int j u)) Q E s) :
 ck X f (iy λi j=>.bl (g i j)):=by
 intro pins s σ H x y v u Q I rx ry h;obtain⟨i,j,rfl,rfl,q⟩:=h;obtain⟨t,rfl⟩:=rx;obtain⟨t',rfl⟩:=ry;exact rule i j t t' s _ _ ⟨.bl (g i j),H,I,rfl,q⟩
def AI(i j:Int):Prop:=0<j/\j<1073741824
def vk(i j:Int):Prop:=0<=j/\j<=1000000/\i.natAbs<2^64
def oW(i j:Int):Prop:=(-(2^64)<i/\i<2^64)∨(-(2^64)<j/\j<2^64)
theorem oW.ok{i j:Int}(h:oW i j):IntMulOk i j:=by
 rcases h with⟨h1,h2⟩|⟨h1,h2⟩
 ·exact .of_left (intBits_le_64 h1 h2)
 ·exact .of_right (intBits_le_64 h1 h2)
theorem iz:ck X (binaryOp .Add) (iy λi j=>.int (i+j)):=AH λ_ _ _ _ _ _ _ q=>add_int q
theorem Lz:ck X (binaryOp .Sub) (iy λi j=>.int (i-j)):=AH λ_ _ _ _ _ _ _ q=>sub_int q
theorem AJ:ck X (binaryOp .Mult) (rI oW λi j=>.int (i*j)):=rH λ_ _ _ _ _ _ _ hc q=>mul_int q hc.ok
theorem dG:ck X (binaryOp .FloorDiv) (rI AI λi j=>.int (i/j)):=rH λi j _ _ _ _ _ hc q=>by
 have h1:(0:Int)<j:=hc.1;have h2:j<1073741824:=hc.2;exact floordiv_int (by lia) (by rw[Int.fdiv_eq_ediv_of_nonneg i (by lia)];exact q) (.inl (PyProof.noPylong_small (by lia)))
theorem cN:ck X (binaryOp .Mod) (rI (λ_ j=>0<j) λi j=>.int (i%j)):=rH λi j _ _ _ _ _ hc q=>by
 have h1:(0:Int)<j:=hc;exact mod_int' (by lia) (by rw[Int.fmod_eq_emod_of_nonneg i (by lia)];exact q)
theorem oX:ck X (binaryOp .Pow) (rI vk λi j=>.int (i^j.toNat)):=rH λ_ _ _ _ _ _ _ hc q=>pow_int_small hc.1 hc.2.1 hc.2.2 q
theorem LA{f:Value->Sem Value}{g:Int->Int}
 (rule:∀(i:Int) (t:Tok) (s:Shared) (Q:Value->Shared->Prop) (E:Value->Shared->Prop),Q (.int (g i) s.toks) {s with toks:=s.toks+1}->wpAny (model X.prog X.w) X.A (f (.int i t)) Q E s) :
 vh X f (rU λi=>.int (g i)):=by
 intro pins s σ H x v Q I rx h;obtain⟨i,rfl,q⟩:=h;obtain⟨t,rfl⟩:=rx;exact rule i t s _ _ ⟨.int (g i),H,I.tok _,⟨_,rfl⟩,q⟩
theorem LB:vh X (unaryOp .USub) (rU λi=>.int (-i)):=LA λ_ _ _ _ _ q=>neg_int q
end
def AK:V->V->Bool
 | .non,.non=>true | .non,.int _=>true | .int _,.non=>true | .non,.bl _=>true | .bl _,.non=>true | .non,.str _=>true | .str _,.non=>true
 | .int _,.int _=>true | .bl _,.bl _=>true | .str _,.str _=>true | .fS _,.fS _=>true
 | .int _,.str _=>true | .str _,.int _=>true | .bl _,.str _=>true | .str _,.bl _=>true
 |_,_=>false
def vm:R2:=λx y H Q=>AK x y=true/\Q (.bl (decide (x=y))) H
def rK:R2:=λx y H Q=>AK x y=true/\Q (.bl (!decide (x=y))) H
theorem vn{i j:Int}:decide (V.int i=V.int j)=(i==j):=by
 rw[eB];simp
theorem AL{i j:Bool}:decide (V.bl i=V.bl j)=(i==j):=by
 rw[eB];simp
theorem AM{i j:Str}:decide (V.str i=V.str j)=(i==j):=by
 rw[eB];simp
theorem AN{i j:Array UInt8}:decide (V.fS i=V.fS j)=(i.toList==j.toList):=by
 rw[eB];cases i;cases j;simp
section
variable{X:Cx}{a b c:Expr}{ta tb tc:TE}{pos:Pos}
theorem cm{pins:List (Addr×Obj)}{σ:St}{H:Hp}{s:Shared}{Q:VK}{k k':Bool}(I:Inv X pins σ H s)(q:Q (.bl k) H)(e:k=k'):EP X pins σ Q (.bool k') s:=by
 subst e;exact⟨.bl k,H,I,rfl,q⟩
theorem cz:ck X (compareOp .Eq) vm:=by
 intro pins s σ H x y v u Q I rx ry h;obtain⟨hs,q⟩:=h;cases x with
 |non =>
  cases rx;cases y with
  |non=>cases ry;exact PySem.EqNone.eq_none_none (cm I q (by simp))
  |bl j=>cases ry;exact PySem.EqNone.eq_none_bool (cm I q (by simp))
  |int j=>obtain⟨t',rfl⟩:=ry;exact PySem.EqNone.eq_none_int (cm I q (by simp))
  |str j=>obtain⟨t',rfl⟩:=ry;exact PySem.EqNone.eq_none_str (cm I q (by simp))
  |_=>exact absurd (show false=true from hs) cF
 |bl i =>
  cases rx;cases y with
  |non=>cases ry;exact PySem.EqNone.eq_bool_none (cm I q (by simp))
  |bl j=>cases ry;exact eq_bool (cm I q AL)
  |str j=>obtain⟨t',rfl⟩:=ry;exact aa0 (cm I q (by simp))
  |_=>exact absurd (show false=true from hs) cF
 |int i =>
  obtain⟨t,rfl⟩:=rx;cases y with
  |non=>cases ry;exact PySem.EqNone.eq_int_none (cm I q (by simp))
  |int j=>obtain⟨t',rfl⟩:=ry;exact eq_int (cm I q vn)
  |str j=>obtain⟨t',rfl⟩:=ry;exact aa1 (cm I q (by simp))
  |_=>exact absurd (show false=true from hs) cF
 |str i =>
  obtain⟨t,rfl⟩:=rx;cases y with
  |non=>cases ry;exact PySem.EqNone.eq_str_none (cm I q (by simp))
  |bl j=>cases ry;exact aa2 (cm I q (by simp))
  |int j=>obtain⟨t',rfl⟩:=ry;exact aa3 (cm I q (by simp))
  |str j=>obtain⟨t',rfl⟩:=ry;exact eq_str (cm I q AM)
  |_=>exact absurd (show false=true from hs) cF
 |fS i =>
  obtain⟨t,rfl⟩:=rx;cases y with
  |fS j=>obtain⟨t',rfl⟩:=ry;exact PySem.W.eq_bytes (cm I q AN)
  |_=>exact absurd (show false=true from hs) cF
 |_=>cases y<;>exact absurd (show false=true from hs) cF
theorem mr:ck X (compareOp .NotEq) rK:=by
 intro pins s σ H x y v u Q I rx ry h;obtain⟨hs,q⟩:=h;cases x with
 |non =>
  cases rx;cases y with
  |non=>cases ry;exact PySem.EqNone.ne_none_none (cm I q (by simp))
  |bl j=>cases ry;exact PySem.EqNone.ne_none_bool (cm I q (by simp))
  |int j=>obtain⟨t',rfl⟩:=ry;exact PySem.EqNone.ne_none_int (cm I q (by simp))
  |str j=>obtain⟨t',rfl⟩:=ry;exact PySem.EqNone.ne_none_str (cm I q (by simp))
  |_=>exact absurd (show false=true from hs) cF
 |bl i =>
  cases rx;cases y with
  |non=>cases ry;exact PySem.EqNone.ne_bool_none (cm I q (by simp))
  |bl j=>cases ry;exact ne_bool (cm I q (congrArg not AL))
  |str j=>obtain⟨t',rfl⟩:=ry;exact aa4 (cm I q (by simp))
  |_=>exact absurd (show false=true from hs) cF
 |int i =>
  obtain⟨t,rfl⟩:=rx;cases y with
  |non=>cases ry;exact PySem.EqNone.ne_int_none (cm I q (by simp))
  |int j=>obtain⟨t',rfl⟩:=ry;exact ne_int (cm I q (congrArg not vn))
  |str j=>obtain⟨t',rfl⟩:=ry;exact aa5 (cm I q (by simp))
  |_=>exact absurd (show false=true from hs) cF
 |str i =>
  obtain⟨t,rfl⟩:=rx;cases y with
  |non=>cases ry;exact PySem.EqNone.ne_str_none (cm I q (by simp))
  |bl j=>cases ry;exact aa6 (cm I q (by simp))
  |int j=>obtain⟨t',rfl⟩:=ry;exact aa7 (cm I q (by simp))
  |str j=>obtain⟨t',rfl⟩:=ry;exact ne_str (cm I q (congrArg not AM))
  |_=>exact absurd (show false=true from hs) cF
 |fS i =>
  obtain⟨t,rfl⟩:=rx;cases y with
  |fS j=>obtain⟨t',rfl⟩:=ry;exact PySem.W.ne_bytes (cm I q (congrArg not AN))
  |_=>exact absurd (show false=true from hs) cF
 |_=>cases y<;>exact absurd (show false=true from hs) cF
theorem rL:ck X (compareOp .Lt) (iy λi j=>.bl (decide (i<j))):=rJ λ_ _ _ _ _ _ _ q=>lt_int q
theorem LC:ck X (compareOp .LtE) (iy λi j=>.bl (decide (i<=j))):=rJ λ_ _ _ _ _ _ _ q=>le_int q
theorem vo:ck X (compareOp .Gt) (iy λi j=>.bl (decide (j<i))):=rJ λ_ _ _ _ _ _ _ q=>gt_int q
theorem LD:ck X (compareOp .GtE) (iy λi j=>.bl (decide (j<=i))):=rJ λ_ _ _ _ _ _ _ q=>ge_int q
theorem LG:ck X (compareOp .Is) (λx y H Q=>y=.non/\Q (.bl (decide (x=.non))) H):=by
 intro pins s σ H x y v u Q I rx ry h;obtain⟨rfl,q⟩:=h;cases ry;refine is_none_gen (cm I q ?_);cases x<;>first
  |(cases rx;rfl)
  |(obtain⟨t,rfl⟩:=rx;rfl)
theorem bp(b:Expr){op:CmpOp}(h:op≠.In:=by decide)(h2:op≠.NotIn:=by decide):behindInMarks op b=false:=by
 have e1:(op==CmpOp.In)=false:=by cases op<;>first|rfl|exact absurd rfl h
 have e2:(op==CmpOp.NotIn)=false:=by cases op<;>first|rfl|exact absurd rfl h2
 cases b<;>simp[behindInMarks,e1,e2]
theorem LH{op:CmpOp}{r:R2}(ho:ck X (compareOp op) r)(ha:PE X a ta)(hb:PE X b tb)(hm:behindInMarks op b=false):PE X (.Compare a [op] [b] pos) (oV r ta tb):=by
 intro pins s σ H Q I h;exact wpAny_Compare1 (vi ha hb I h λv u s2 x y H2 I2 rx ry q=>ho pins s2 σ H2 x y v u Q I2 rx ry q) hm
def AO(t:TE):TT:=λσ H Q=>t σ H λx H'=>∃k,x=.bl k/\Q k H'
theorem LJ{op:CmpOp}{r:R2}(ho:ck X (compareOp op) r)(ha:PE X a ta)(hb:PE X b tb)(hm:behindInMarks op b=false):PT X (.Compare a [op] [b] pos) (AO (oV r ta tb)):=by
 intro pins s σ H Q I h;refine Ij (aK (ha pins s σ H _ I h) λv s1 ⟨x,H1,I1,r1,q1⟩=>aK (hb pins s1 σ H1 _ I1 q1) λu s2 ⟨y,H2,I2,r2,q2⟩ =>
  aK (ho pins s2 σ H2 x y v u _ I2 r1 r2 q2) λc s3 ⟨z,H3,I3,r3,k,e,q3⟩=>?_) hm
 subst e;cases r3;exact lZ ⟨H3,I3,q3⟩
def vp(K:ak)(x:V)(H:Hp)(k:Bool):Prop :=
 match x with
 | .non=>k=false
 | .bl b=>k=b
 | .int i=>k=(i != 0)
 | .str y=>y.length<=sizeLine/\k=((y.length:Int) != 0)
 | .fS y=>y.size<=sizeLine/\k=((y.size:Int) != 0)
 | .ref p=>(∃xs,aZ K H p xs/\k=!xs.isEmpty)∨(∃xs,a9 K H p xs/\k=!xs.isEmpty)∨∃kvs,H p=some (.dK kvs)/\k=!kvs.isEmpty
 |_=>False
theorem LK{κ:Type}{kvs:List (κ×V)}{vs:List (κ×Value)}(r:KV kvs vs):(!vs.isEmpty)=!kvs.isEmpty:=by
 cases r<;>rfl
theorem AQ{xs:List V}{its:List Value}(r:Vals xs its):(!its.toArray.isEmpty)=!xs.isEmpty:=by
 cases r<;>simp
theorem jX:(sizeLine:Nat)<2^63:=by rw[uv];decide
theorem LL:Lu X (λx H Q=>∃k,vp X.K x H k/\Q k H):=by
 intro pins s σ H x v Q I rx h;obtain⟨k,e,q⟩:=h;have hl:=jX;have hs:sizeLine=16777216:=uv;cases x with
 |non =>
  cases rx;have e':k=false:=e;subst e';exact truthy_none ⟨H,I,q⟩
 |bl b =>
  cases rx;have e':k=b:=e;subst e';exact lZ ⟨H,I,q⟩
 |int i =>
  obtain⟨t,rfl⟩:=rx;have e':k=(i != 0):=e;subst e';exact PySem.P.truthy_int ⟨H,I,q⟩
 |str y =>
  obtain⟨t,rfl⟩:=rx;obtain⟨hy,e'⟩:y.length<=sizeLine/\k=((y.length:Int) != 0):=e;subst e';exact PySem.P.truthy_str (by lia) ⟨H,I.tok _,q⟩
 |fS y =>
  obtain⟨t,rfl⟩:=rx;obtain⟨hy,e'⟩:y.size<=sizeLine/\k=((y.size:Int) != 0):=e;subst e';exact PySem.W.truthy_bytes (by lia) ⟨H,I.tok _,q⟩
 |ref p =>
  cases rx;have e':(∃xs,aZ X.K H p xs/\k=!xs.isEmpty)∨(∃xs,a9 X.K H p xs/\k=!xs.isEmpty)∨∃kvs,H p=some (.dK kvs)/\k=!kvs.isEmpty:=e;rcases e' with⟨xs,hx,e'⟩|⟨xs,hx,e'⟩|⟨kvs,hx,e'⟩
  ·subst e';obtain⟨its,r,pl,hz⟩:=I.list hx;have hlen:=r.length;exact wpAny_truthy_list pl.isList (by simp only[bM];lia) ⟨H,I.tok _,by rw[AQ r];exact q⟩
  ·subst e';obtain⟨its,r,pl,hz⟩:=I.tuple hx;have hlen:=r.length;exact truthy_tuple pl (by simp only[bM];lia) ⟨H,I.tok _,by rw[AQ r];exact q⟩
  ·subst e';obtain⟨hz,hS,vs,r,m⟩:kvs.length<=sizeLine/\(p==sysModules)=false/\∃vs,KV kvs vs/\s.heap.DictOf (eT X.prog X.w) p vs:=I.hok p _ hx;have hlen:kvs.length=vs.length:=Paired.length r;exact wpAny_truthy_dict hS m (by lia) ⟨H,I.tok _,by rw[LK r];exact q⟩
 |_=>exact(show False from e).elim
theorem LM(ha:PE X a ta)(he:∀whole,isTrue a X.env whole=(do let v <-whole;standAt a.pos;holding [v] (truthy v))) :
 PT X a (λσ H Q=>ta σ H λx H'=>∃k,vp X.K x H' k/\Q k H'):=by
 intro pins s σ H Q I h;exact isTrue_plain (aK (ha pins s σ H _ I h) λv s1 vq=>by obtain⟨x,H1,I1,r1,q1⟩:=vq;exact LL pins s1 σ H1 x v Q I1 r1 q1) (he _)
theorem kN:ck X (binaryOp .Add) (λx y H Q=>∃i j,x=.str i/\y=.str j/\i.length+j.length<=sizeLine/\Q (.str (i++j)) H):=by
 intro pins s σ H x y v u Q I rx ry h;obtain⟨i,j,rfl,rfl,hz,q⟩:=h;obtain⟨t,rfl⟩:=rx;obtain⟨t',rfl⟩:=ry;exact add_str (λt' tk=>⟨.str (i++j),H,I.tok _,⟨_,rfl⟩,q⟩) hz
theorem vals1{x:V}{us:List Value}(r:Vals [x] us):∃u,us=[u]/\RelV x u:=by
 cases r with
 |cons r1 r2=>cases r2;exact⟨_,rfl,r1⟩
theorem vals2{x y:V}{us:List Value}(r:Vals [x,y] us):∃u w',us=[u,w']/\RelV x u/\RelV y w':=by
 cases r with
 |cons r1 r2 =>
  cases r2 with
  |cons r3 r4=>cases r4;exact⟨_,_,rfl,r1,r3⟩
theorem LN(hc:X.calm=true):fm X (.builtin "max") (λxs H Q=>∃i j,xs=[.int i,.int j]/\Q (.int (if j>i then j else i)) H):=by
 intro pins s σ H xs us Q I r h;obtain⟨i,j,rfl,q⟩:=h;obtain⟨u,w',rfl,⟨t,rfl⟩,⟨t',rfl⟩⟩:=vals2 r;refine max_two_ints (I.ok.hd hc) λh' tk k=>⟨_,H,I.kept k,?_,q⟩;by_cases hj:j>i
 ·rw[if_pos hj,if_pos hj];exact⟨_,rfl⟩
 ·rw[if_neg hj,if_neg hj];exact⟨_,rfl⟩
end
structure cw(k:Nat)(A:Around):Prop where
 hd:A.handled=none
 dp:A.depth+3*k+5<recursionLimit
 un:A.units+16*k+200<cLine
theorem cw.mono{j k:Nat}{A:Around}(r:cw k A)(h:j<=k):cw j A:=⟨r.hd,by have:=r.dp;lia,by have:=r.un;lia⟩
theorem cw.deeper{k:Nat}{A:Around}(r:cw (k+1) A)(env:Env):cw k (A.deeper env) :=
 ⟨r.hd,by have:=r.dp;show A.depth+1+3*k+5<_;lia,by have:=r.un;show A.units+3+16*k+200<_;lia⟩
theorem cw.depth{k:Nat}{A:Around}(r:cw k A):A.depth<recursionLimit:=by have:=r.dp;lia
theorem cw.units{k:Nat}{A:Around}(r:cw k A):A.units+64<cLine:=by have:=r.un;lia
def LO:TA:=λ_ H Q=>Q [] H
def LP(ta:TE)(tr:TA):TA:=λσ H Q=>ta σ H λx H1=>tr σ H1 λxs H2=>Q (x::xs) H2
section
variable{X:Cx}{e:Expr}{es:List Expr}{te:TE}{t:TA}{pos:Pos}
theorem LQ:PA X [] LO:=λ_ _ _ _ H Q I h=>Iq ⟨[],H,I,.nil,h⟩
theorem LR(ha:PE X e te)(hr:PA X es t)(hs:starEach (e::es) X.env=(false,eval e X.env)::starEach es X.env:=by rfl):PA X (e::es) (LP te t):=by
 intro pos pins s σ H Q I h;rw[hs];show wpAny _ _ (spliced ((false,eval e X.env)::backTo pos (starEach es X.env))) _ _ s;refine Ir (aK (ha pins s σ H _ I h) λu s1 ⟨x,H1,I1,r1,q1⟩=>?_);exact aK (hr pos pins s1 σ H1 _ I1 q1) λus s2 z_11=>by obtain⟨xs,H2,I2,r2,q2⟩:=z_11;exact⟨x::xs,H2,I2,.cons r1 r2,q2⟩
def LS(t:TA):TE:=λσ H Q=>t σ H λxs H1=>xs.length<=sizeLine/\∀p,H1 p=none->Q (.ref p) (upd H1 p (.tup xs))
def LU(t:TA):TE:=λσ H Q=>t σ H λxs H1=>xs.length<=sizeLine/\∀p,H1 p=none->Q (.ref p) (upd H1 p (.lst xs))
theorem LV{x1}(h:PA X es t):PE X (.Tuple es x1 pos) (LS t):=by
 intro pins s σ H Q I hq;refine wpAny_Tuple_spliced (aK (h pos pins s σ H _ I hq) λus s1 ⟨xs,H1,I1,r,z,q⟩=>⟨by rw[<-r.length];exact z,?_⟩);have hf:H1 s1.heap.objs.size=none:=I1.hok.fresh (aQ _);refine⟨.ref s1.heap.objs.size,upd H1 s1.heap.objs.size (.tup xs),I1.laid (t':=s1.toks) (λb u e=>bt _ e) (aQ _) ?_,rfl,q _ hf⟩;exact⟨z,us,r,⟨_,c7 _ rfl,rfl,_,rfl⟩,λo q=>by rw[c7 _ rfl]at q;cases q;rfl⟩
theorem LX(h:PA X es t):PE X (.List es pos) (LU t):=by
 intro pins s σ H Q I hq;refine wpAny_List_spliced (aK (h pos pins s σ H _ I hq) λus s1 ⟨xs,H1,I1,r,z,q⟩=>⟨by rw[<-r.length];exact z,?_⟩);have hf:H1 s1.heap.objs.size=none:=I1.hok.fresh (aQ _);refine⟨.ref s1.heap.objs.size,upd H1 s1.heap.objs.size (.lst xs),I1.laid (t':=s1.toks) (λb u e=>bt _ e) (aQ _) ?_,rfl,q _ hf⟩;exact⟨z,us,0,r,c7 _ rfl⟩
end
abbrev Sp:=List V->Hp->VK->XK->Prop
abbrev fU:=List Env->Hp->Shared->XK->Value->Shared->Prop
structure rM(P:Program)(w:World)(K:ak)(mg:Str->Option Value)(base:Heap)(A:Around)(outer:List Env)(s:Shared)(H:Hp):Prop where
 frames:A.frames=some outer
 mod:Mod K mg base
 bs:∀b o,base.get? b=some o->s.heap.get? b=some o/\H b=none
 gk:base.objs.size<=s.heap.objs.size
 eV:s.heap.FunFrames base outer
 ip:∀b∈frs outer,H b=none
 hok:bS P w H s.heap
 bare:AllBare s.gens
def CE(outer:List Env)(P:Program)(w:World)(H:Hp)(s:Shared)(Q:VK)(u:Value)(s':Shared):Prop :=
 ∃v H',s'.os=s.os/\AllBare s'.gens/\Un (frs outer) [] H H' s.heap s'.heap/\bS P w H' s'.heap/\RelV v u/\Q v H'
def CR(CX:fU)(outer:List Env)(P:Program)(w:World)(H:Hp)(s:Shared)(Q:VK)(E:XK)(r:Result)(s':Shared):Prop :=
 match r with
 | .ok (.ret u)=>CE outer P w H s Q u s'
 | .ok _=>False
 | .error e=>CX outer H s E e s'
structure dv(P:Program)(w:World)(K:ak)(mg:Str->Option Value)(base:Heap)(CX:fU)(k:Nat)(f:Addr)(fd:FuncData)(ps:List Str)(sp:Sp):Prop where
 len:∀vs H Q E,sp vs H Q E->vs.length=ps.length
 run:∀(A:Around) (outer:List Env) (s:Shared) (H:Hp) (args:Args) (us:List Value) (vs:List V) (Q:VK) (E:XK),cw k A->rM P w K mg base A outer s H->BindsTo s fd args (ps.zip us)->Vals vs us->sp vs H Q E ->
  codeAny (model P w) A (.call (.ref f) args) (CR CX outer P w H s Q E) s
theorem dv.mono{P:Program}{w:World}{K:ak}{mg:Str->Option Value}{base:Heap}{CX:fU}{j k:Nat}{f:Addr}{fd:FuncData}{ps:List Str}{sp:Sp}(F:dv P w K mg base CX j f fd ps sp)(h:j<=k) :
 dv P w K mg base CX k f fd ps sp:=⟨F.len,λA outer s H args us vs Q E hr=>F.run A outer s H args us vs Q E (hr.mono h)⟩
theorem dv.imp{P:Program}{w:World}{K:ak}{mg:Str->Option Value}{base:Heap}{CX:fU}{k:Nat}{f:Addr}{fd:FuncData}{ps:List Str}{sp fV:Sp}(F:dv P w K mg base CX k f fd ps sp)
 (h:∀vs H Q E,fV vs H Q E->sp vs H Q E):dv P w K mg base CX k f fd ps fV :=
 ⟨λvs H Q E q=>F.len vs H Q E (h _ _ _ _ q),λA outer s H args us vs Q E hr he hb hv hs=>F.run A outer s H args us vs Q E hr he hb hv (h _ _ _ _ hs)⟩
section
variable{X:Cx}{pins:List (Addr×Obj)}{σ:St}{H:Hp}{s s':Shared}
theorem Inv.env0(I:Inv X pins σ H s):rM X.prog X.w X.K X.mg X.base X.A X.stack s H :=
 ⟨I.ok.frames,I.ok.mod,I.bs,bR I.ok.gk I.sz,I.stack,I.rm,I.hok,I.bare⟩
theorem Inv.after{Q:VK}{u:Value}(I:Inv X pins σ H s)(h:CE X.stack X.prog X.w H s Q u s'):EP X pins σ Q u s':=by
 obtain⟨v,H',os,bare,un,hok,r,q⟩:=h;obtain⟨hh,g,d,t,os'⟩:=s';obtain rfl:os'=s.os:=os;exact⟨v,H',I.call (h':=hh) (g':=g) (d':=d) (t':=t) (ch:=[]) un hok bare (λb z=>absurd z (by simp)),r,q⟩
end
def Binds(K:ak)(fd:FuncData)(ps:List Str)(ds:List Value):Prop :=
 ∀(s:Shared) (us:List Value),K.In s.heap->(us++ds).length=ps.length->BindsTo s fd ⟨us,[]⟩ (ps.zip (us++ds))
theorem Binds.all{K:ak}{fd:FuncData}{ps:List Str}(h:∀us:List Value,us.length=ps.length->bindArgs fd ⟨us,[]⟩=pure (ps.zip us)):Binds K fd ps []:=λs us _ hl=>by
 rw[lV]at hl ⊢;exact .of_eq (h us hl)
def Passes(CX:fU)(X:Cx)(E:XK):Prop:=∀(pins:List (Addr×Obj)) (σ:St) (H:Hp) (s:Shared) (e:Value) (s':Shared),Inv X pins σ H s->CX X.stack H s E e s'->X.xe e s'
structure bf(N P:List Str)(sc:Scope):Prop where
 kind:sc.kind=.function
 co:sc.isCoroutine=false
 gen:sc.isGenerator=false
 nd:N.Nodup
 pre:N.take P.length=P
 par:∀x∈P,sc.names.lookup x=some .local∨sc.names.lookup x=some .cell
 LY:∀y∈sc.names,y.2≠.free
theorem AR{kindOf:Str->Option NameKind}{x:Str}:∀{binds:List (Str×Value)} {m:Str->Option Value},(∀v,(x,v)∉binds)->bindL kindOf binds m x=m x
 |[],_,_=>rfl
 |(n,v)::r,m,h=>by
  unfold bindL;rw[AR λw hw=>h w (cB _ hw)]
  split
  ·have:x≠n:=by rintro rfl;exact h v b4
   simp[this]
  ·rfl
theorem AS{kindOf:Str->Option NameKind}{x:Str}:∀{binds:List (Str×Value)} {m:Str->Option Value},(∀v,(x,v)∉binds)->bindC kindOf binds m x=m x
 |[],_,_=>rfl
 |(n,v)::r,m,h=>by
  unfold bindC;rw[AS λw hw=>h w (cB _ hw)]
  split
  ·rfl
  ·have:x≠n:=by rintro rfl;exact h v b4
   simp[this]
theorem AU{kindOf:Str->Option NameKind}{x:Str}{v:Value}:∀{P:List Str} {vs:List Value} {i:Nat} {m:Str->Option Value},P.Nodup->P[i]?=some x->vs[i]?=some v->kindOf x=some .local ->
 bindL kindOf (P.zip vs) m x=some v
 |[],_,_,_,_,h,_,_=>by simp at h
 |_::_,[],_,_,_,_,h,_=>by simp at h
 |p::P,w::vs,0,m,nd,h1,h2,hk=>by
  simp at h1 h2;subst h1;subst h2;show bindL kindOf ((p,w)::P.zip vs) m p=_;unfold bindL;rw[AR λv hv=>(hW.mp nd).1 (zp hv).1,if_pos hk];simp
 |p::P,w::vs,i+1,m,nd,h1,h2,hk=>by
  show bindL kindOf ((p,w)::P.zip vs) m x=_;unfold bindL;exact AU (i:=i) (hW.mp nd).2 (by simpa using h1) (by simpa using h2) hk
theorem AV{kindOf:Str->Option NameKind}{x:Str}{v:Value}:∀{P:List Str} {vs:List Value} {i:Nat} {m:Str->Option Value},P.Nodup->P[i]?=some x->vs[i]?=some v->kindOf x≠some .local ->
 bindC kindOf (P.zip vs) m x=some v
 |[],_,_,_,_,h,_,_=>by simp at h
 |_::_,[],_,_,_,_,h,_=>by simp at h
 |p::P,w::vs,0,m,nd,h1,h2,hk=>by
  simp at h1 h2;subst h1;subst h2;show bindC kindOf ((p,w)::P.zip vs) m p=_;unfold bindC;rw[AS λv hv=>(hW.mp nd).1 (zp hv).1,if_neg hk];simp
 |p::P,w::vs,i+1,m,nd,h1,h2,hk=>by
  show bindC kindOf ((p,w)::P.zip vs) m x=_;unfold bindC;exact AV (i:=i) (hW.mp nd).2 (by simpa using h1) (by simpa using h2) hk
def start(N:List Str)(vs:List V):St:=vs.map some++eR (N.length-vs.length) none
def cO(CX:fU)(P:Program)(w:World)(K:ak)(mg:Str->Option Value)(base:Heap)(N:List Str)(qual:Str)(scope:Scope)(f:Addr)(cd:Value)(A:Around)(outer:List Env)(s:Shared)(H:Hp)(E:XK):Cx where
 prog:=P
 w:=w
 K:=K
 mg:=mg
 base:=base
 A:=A.deeper (envOfC qual scope s.heap.objs.size f cd)
 N:=N
 s₀:=s
 H₀:=H
 env:=envOfC qual scope s.heap.objs.size f cd
 outer:=outer
 stack:=envOfC qual scope s.heap.objs.size f cd::outer
 ex:=[]
 calm:=true
 fn:=λ_=>true
 pn:=[]
 xe:=λe s'=>wpAny (model P w) (A.deeper (envOfC qual scope s.heap.objs.size f cd)) (leaving (envOfC qual scope s.heap.objs.size f cd) e) (λ_ s''=>CX outer H s E e s'') (λe' s''=>CX outer H s E e' s'') s'
theorem AW{sc:Scope}{n:Nat}{x:Str}(h:sc.names.lookup x=some .cell):∃c,(cellsFrom n sc.names []).lookup x=some c:=by
 have q:=uw sc.names n [] (.inl h);exact ux.mp q
theorem LZ{CX:fU}{P:Program}{w:World}{K:ak}{mg:Str->Option Value}{base:Heap}{N ps:List Str}{qual:Str}{scope:Scope}{f:Addr}{cd:Value}{A:Around}{outer:List Env}{s s1:Shared}{H:Hp}{E:XK}{us:List Value}{vs:List V}
 (S:bf N ps scope) (hd:A.handled=none) (e0:rM P w K mg base A outer s H) (hl:vs.length=ps.length) (r:Vals vs us)
 (x:InCallC s s.heap.objs.size (bindL (envOfC qual scope s.heap.objs.size f cd).kindOf (ps.zip us) λ_=>none) (cellsFrom (s.heap.objs.size+1) scope.names []) (bindC (envOfC qual scope s.heap.objs.size f cd).kindOf (ps.zip us) λ_=>none) s1) :
 Inv (cO CX P w K mg base N qual scope f cd A outer s H E) [] (start N vs) H s1:=by
 have hpl:ps.length<=N.length:=by have:=congrArg kI S.pre;rw[c8]at this;lia
 obtain⟨h1,tk,rfl,hk⟩:=x.done;have oY:∀b:Addr,b∉(cO CX P w K mg base N qual scope f cd A outer s H E).ex:=λb z=>absurd (show b∈([]:List Addr) from z) (by simp);refine⟨⟨e0.mod,S.kind,rfl,rfl,aQ _,λy z c h1 h2=>?_,λy hy=>?_,λy c _ h=>?_,λ_=>hd,Around.frames_deeper e0.frames,.inr ⟨rfl,rfl⟩,λb z=>absurd z (oY b),e0.bs,e0.gk,λb _ _=>oY b,λb z=>absurd z (oY b),e0.eV,e0.ip⟩,
  rfl,e0.bare,Un.kept hk,⟨_,x.toInCall.ns,λi y v h1 h2 h3=>?_⟩,λy c h=>⟨_,x.cell y c h⟩,e0.hok.fresh (aQ _),λy c h=>?_,λp hp=>absurd (show p∈([]:List (Addr×Obj)) from hp) (by simp),e0.hok.kept hk,?_⟩
 ·exact name_of_addr x.apart (hX h1) (hX h2)
 ·have hy:scope.names.lookup y=some .cell∨scope.names.lookup y=some .free:=hy;rcases hy with hy|hy
  ·exact AW hy
  ·exact absurd rfl (S.LY _ (hX hy))
 ·exact lY (x.above y c (hX h))
 ·have hi:i<vs.length:=by
   unfold start at h2;by_cases hi:i<vs.length
   ·exact hi
   ·rw[zq (by simpa using hi)]at h2;rw[Iu]at h2
    split at h2<;>cases h2
  have ha:vs[i]?=some v:=by
   unfold start at h2;rw[zr (by simpa using hi),aJ]at h2;cases e:vs[i]? with
   |none=>rw[e]at h2;cases h2
   |some a=>rw[e]at h2;cases h2;rfl
  obtain⟨u,hu,rv⟩:=r.get ha;have hp:ps[i]?=some y:=by
   rw[<-S.pre,Iv (by lia)];exact h1
  have AX:ps.Nodup:=by rw[<-S.pre];exact S.nd.sublist (uy _ _)
  refine⟨u,rv,?_⟩;rcases S.par y (cU hp) with k|k
  ·exact .inl ⟨k,AU AX hp hu k⟩
  ·obtain⟨c,e⟩:=AW (n:=s.heap.objs.size+1) k;refine .inr ⟨.inl k,c,e,?_⟩;have q:=x.cell y c e;rw[AV AX hp hu (by show scope.names.lookup y≠_;rw[k];decide)]at q;exact q
 ·exact e0.hok.fresh (lY (x.above y c (hX h)))
 ·unfold start;show _=N.length;rw[a5,ay,Iw];lia
theorem vt{CX:fU}{P:Program}{w:World}{K:ak}{mg:Str->Option Value}{base:Heap}{k:Nat}{f:Addr}{name qual:Str}{params:Arguments}{body:List Stmt}{scope:Scope}{dV kV doc pm cdv ct oc:Value}{an od:Option Addr}
 {osl:Array (Option Value)} {N ps:List Str} {sp:Sp} (lk:K.lookup f=some ⟨oc,od,.func (bA name qual params body scope dV kV doc pm an cdv ct),osl⟩) (hcd:bJ K cdv qual=true) (S:bf N ps scope)
 (len:∀vs H Q E,sp vs H Q E->vs.length=ps.length)
 (hbody:∀(A:Around) (outer:List Env) (s:Shared) (H:Hp) (vs:List V) (Q:VK) (E:XK),cw k (A.deeper (envOfC qual scope s.heap.objs.size f cdv))->sp vs H Q E ->
  ∃t,dX (cO CX P w K mg base N qual scope f cdv A outer s H E) body t/\t {nx:=λ_ H'=>Q .non H',rt:=Q} (start N vs) H) :
 dv P w K mg base CX (k+1) f (bA name qual params body scope dV kV doc pm an cdv ct) ps sp:=by
 refine⟨len,λA outer s H args us vs Q E hr e0 hb r hsp=>?_⟩;have hl:=len _ _ _ _ hsp;have KX:K.In s.heap:=e0.mod.oM.keeps λb o e=>(e0.bs b o e).1;have lim:s.heap.NoLimit:=e0.mod.nolimit.keeps λb o e=>(e0.bs b o e).1;have hkind:∀y∈ps.zip us,scope.names.lookup y.1=some .local∨(scope.names.lookup y.1=some .cell/\((cellsFrom (s.heap.objs.size+1) scope.names []).lookup y.1).isSome=true):=λz_13 hy=>by
  obtain⟨n,v⟩:=z_13;rcases S.par n (zp hy).1 with q|q
  ·exact .inl q
  ·exact .inr ⟨q,uw _ _ _ (.inl q)⟩
 refine codeAny_call_function hr.depth (KX _ _ lk) rfl S.co S.gen rfl (PySem.W.codeRec_of KX hcd) (hb _ _ _ _ ?_);refine wpAny_newFunctionEnv_cells S.kind hkind λenv he s1 x=>?_;subst he;refine⟨lim.keeps x.toInCall.keep,codeAny_func ?_⟩;obtain⟨t,ht,hq⟩:=hbody A outer s H vs Q E (hr.deeper _) hsp;have I:Inv (cO CX P w K mg base N qual scope f cdv A outer s H E) [] (start N vs) H s1:=LZ S hr.hd e0 hl r x;refine eQ (ht [] s1 (start N vs) H _ I hq) (λfl s' hs=>?_) λe s' hs=>hs;have fin:∀{σ':St} {H':Hp} {v:V} {u:Value},Inv (cO CX P w K mg base N qual scope f cdv A outer s H E) [] σ' H' s'->RelV v u->Q v H'->CE outer P w H s Q u s' :=
  λ{σ' H' v u} J rv q=>⟨v,H',J.os,J.bare,J.base,J.hok,rv,q⟩
 cases fl with
 |ret u =>
  obtain⟨v,σ',H',J,rv,q⟩:=hs;exact fin J rv q
 |next =>
  obtain⟨σ',H',J,q⟩:=hs;exact fin (v:=V.non) (u:=Value.none) J rfl q
 |brk =>
  obtain⟨_,_,_,q⟩:=hs;exact gb q
 |cont =>
  obtain⟨_,_,_,q⟩:=hs;exact gb q
section
variable{X:Cx}{x:Str}{p pos:Pos}{e:Expr}{es:List Expr}{t:TA}{id T:String}{r:List V->Hp->VK->Prop}
def vv(r:List V->Hp->VK->Prop)(t:TA):TE:=λσ H Q=>t σ H λvs H1=>r vs H1 Q
theorem L3(hc:fm X (.builtin id) r)(hg:Gl X x)(hm:X.mg x=none)(hv:bootBuiltins x=some (.builtin id))(ha:PA X (e::es) t)(hn:x≠"__name__":=by decide)(hdb:(x==("__debug__":Str))=false:=by decide)
 (he:starEach (e::es) X.env=(false,eval e X.env)::starEach es X.env:=by rfl) (hpl:(backTo pos (starEach es X.env)).any (·.1)=false:=by rfl):PE X (.Call (.Name x p) (e::es) [] pos) (vv r t):=by
 intro pins s σ H Q I h;refine zt (iq I hg hm hv ?_ hn hdb);exact PyProof.Rows.callWith_builtin1 (aK (ha pos pins s σ H _ I h) λus s1 z_14=>by obtain⟨vs,H1,I1,r1,q1⟩:=z_14;exact hc pins s1 σ H1 vs us Q I1 r1 q1) he hpl
theorem L4(hc:fm X (.type T) r)(hg:Gl X x)(hm:X.mg x=none)(hv:bootBuiltins x=some (.type T))(ha:PA X (e::es) t)(hn:x≠"__name__":=by decide)(hdb:(x==("__debug__":Str))=false:=by decide)
 (he:starEach (e::es) X.env=(false,eval e X.env)::starEach es X.env:=by rfl) (hpl:(backTo pos (starEach es X.env)).any (·.1)=false:=by rfl):PE X (.Call (.Name x p) (e::es) [] pos) (vv r t):=by
 intro pins s σ H Q I h;refine zt (iq I hg hm hv ?_ hn hdb);exact jH (aK (ha pos pins s σ H _ I h) λus s1 z_15=>by obtain⟨vs,H1,I1,r1,q1⟩:=z_15;exact hc pins s1 σ H1 vs us Q I1 r1 q1) he hpl
end
end L2
namespace HT
open PySem PyProof.Rows
section
open PySem.SeqAt
open PySem.AutoSeq1 (wpAny_loadPart')
open PySem.MeetsSeq PySem.MeetsSeq2 PySem.MeetsSeq3
end
section
variable{prog:Program}{w:World}{A:Around}{E:Value->Shared->Prop}{s:Shared}
theorem L5{t b:Addr}{vs ws:List Value}{Q:Value->Shared->Prop}(ht:IsTup s.heap t vs.toArray)(hb:IsTup s.heap b ws.toArray)(hv:vs≠[])
 (h1:ws=[]->Q (.ref t) s) (h2:ws≠[]->Q (.ref s.heap.objs.size) {s with heap:=s.heap.push {cls:=.type "tuple",data:=.seq (vs++ws).toArray}})
 (hsz:vs.length+ws.length<=sizeLine):wpAny (model prog w) A (binaryOp .Add (.ref t) (.ref b)) Q E s:=by
 obtain⟨⟨cls,dd,data,sl⟩,ho,hc,n,hd⟩:=id ht;obtain⟨⟨cls2,dd2,data2,sl2⟩,ho2,hc2,n2,hd2⟩:=id hb;simp only at hc hd hc2 hd2;subst hc hd hc2 hd2;have e:vs.toArray++ws.toArray=(vs++ws).toArray:=by simp
 by_cases hw:ws=[]
 ·exact zu ⟨_,ho,rfl⟩ ⟨_,ho2,rfl⟩ zw zy zA zB (zC _ _)
   (tuple_addW1 t b vs.toArray ws.toArray n n2 dd dd2 sl sl2 (by simpa using hv) (by simp[hw])) ⟨ho,ho2,h1 hw⟩
 ·refine zu ⟨_,ho,rfl⟩ ⟨_,ho2,rfl⟩ zw zy zA zB (zC _ _)
   (tuple_addW2 t b vs.toArray ws.toArray n n2 dd dd2 sl sl2 (by simpa using hv) (by simpa using hw) (by rw[bM,bM];exact hsz)) ⟨ho,ho2,?_⟩
  rw[e];exact h2 hw
def aG(n d:Nat):Option Int->Nat
 |none=>d
 |some v=>if v<0 then(v+(n:Int)).toNat else min v.toNat n
theorem rN(n d:Nat):aG n d none=d:=rfl
theorem rO(n d k:Nat):aG n d (some (k:Int))=min k n:=by
 show(if(k:Int)<0 then((k:Int)+(n:Int)).toNat else min (k:Int).toNat n)=min k n;rw[if_neg (by lia),fi]
theorem vw(n d:Nat)(hd:d<=n)(o:Option Int):aG n d o<=n:=by
 cases o with
 |none=>exact hd
 |some v =>
  show(if v<0 then(v+(n:Int)).toNat else min v.toNat n)<=n;by_cases hv:v<0
  ·rw[if_pos hv];lia
  ·rw[if_neg hv];exact Nat.min_le_right _ _
theorem AY(v:Int)(n d:Nat):(if v<0 then max (v+(n:Int)) 0 else min v (n:Int))=((aG n d (some v):Nat):Int):=by
 show(if v<0 then max (v+(n:Int)) 0 else min v (n:Int))=(((if v<0 then(v+(n:Int)).toNat else min v.toNat n):Nat):Int);by_cases hv:v<0
 ·simp only[if_pos hv];lia
 ·simp only[if_neg hv];lia
theorem L6(lo hi:Option Int)(n:Nat):zD lo hi 1 (n:Int)=(((aG n 0 lo:Nat):Int),((aG n n hi:Nat):Int)):=by
 have h1:¬((1:Int)<0):=by lia
 unfold zD;simp only[h1,if_false];refine Prod.ext ?_ ?_
 ·cases lo with
  |none=>rfl
  |some v=>exact AY v n 0
 ·cases hi with
  |none=>rfl
  |some v=>exact AY v n n
theorem L7(i j:Nat):uz (i:Int) (j:Int) 1=j-i:=by
 unfold uz;have h1:(1:Int)>0:=by lia
 simp only[h1,if_true,Int.ediv_one]
 split<;>lia
theorem AZ{v:Value}{o:Option Int}{Q:Option Int->Shared->Prop}(p:IsPart v o)(h:Q o s):wpAny (model prog w) A (aa8 v) Q E s:=by
 cases p with
 |none=>exact slicePart_none h
 |int i t=>exact slicePart_int h
theorem A0{sl:Addr}{vl vu:Value}{lo hi:Option Int}{n:Nat}{Q:Int×Int×Nat->Shared->Prop}(hs:s.heap.IsSliceOf sl vl vu .none)(pl:IsPart vl lo)(pu:IsPart vu hi)
 (h:Q (((aG n 0 lo:Nat):Int),1,aG n n hi-aG n 0 lo) s):wpAny (model prog w) A (Iy (.ref sl) (pure (n:Int))) Q E s:=by
 obtain⟨os,hos,hcs,hds⟩:=id hs;unfold Iy aa9;refine ah (ah (cG hos hds (x:=vl) rfl (ah (cG hos hds (x:=vu) rfl (ah (cG hos hds (x:=.none) rfl (az ?_)))))));refine ah (slicePart_none ?_);show wpAny _ _ (if((1:Int)==0)=true then _ else _) _ _ s;rw[if_neg (by decide)];refine ah (AZ pl (ah (AZ pu (ah (az ?_)))));show wpAny _ _ (match zD lo hi 1 (n:Int) with|(lo,hi)=>pure (lo,(1:Int),uz lo hi 1)) _ _ s;rw[L6 lo hi n];show wpAny _ _ (pure (((aG n 0 lo:Nat):Int),(1:Int),uz ((aG n 0 lo:Nat):Int) ((aG n n hi:Nat):Int) 1)) _ _ s;rw[L7];exact az h
theorem L8(xs:Array Value)(i k:Nat):((aN k).filterMap λ(m:Nat)=>xs[((i:Int)+(m:Int)*1).toNat]?).toArray=((xs.toList.drop i).take k).toArray:=by
 have e:(λ(m:Nat)=>xs[((i:Int)+(m:Int)*1).toNat]?)=λm=>xs[i+m]?:=by
  funext m;have:((i:Int)+(m:Int)*1).toNat=i+m:=by lia
  rw[this]
 rw[e];have:=pick_run xs i k;rw[List.filterMap_map]at this;have e2:((λx=>xs[x]?) ∘ λx=>i+x)=λm=>xs[i+m]?:=rfl;rw[e2]at this;rw[this]
theorem L9{t sl:Addr}{items:Array Value}{vl vu:Value}{lo hi:Option Int}{Q:Value->Shared->Prop}(ht:IsTup s.heap t items)(hs:s.heap.IsSliceOf sl vl vu .none)(pl:IsPart vl lo)(pu:IsPart vu hi)
 (hw:¬(aG items.size 0 lo=0/\aG items.size items.size hi=items.size))
 (h:Q (.ref s.heap.objs.size) {s with heap:=s.heap.push {cls:=.type "tuple",data:=.seq ((items.toList.drop (aG items.size 0 lo)).take (aG items.size items.size hi-aG items.size 0 lo)).toArray}})
 (hsz:items.size<=sizeLine):wpAny (model prog w) A (getItem (.ref t) (.ref sl)) Q E s:=by
 have rP:sizeOk (.seq ((items.toList.drop (aG items.size 0 lo)).take (aG items.size items.size hi-aG items.size 0 lo)).toArray):=by
  show((items.toList.drop (aG items.size 0 lo)).take (aG items.size items.size hi-aG items.size 0 lo)).toArray.size<=sizeLine;rw[bM,c8,fP,Ik];lia
 have hj:aG items.size items.size hi<=items.size:=vw _ _ (aQ _) hi;obtain⟨os,hos,hcs,hds⟩:=id hs;have hTs:s.TypeIs (.ref sl) "slice":=⟨os,hos,hcs⟩;unfold getItem
 try with_reducible refine og ?_
 first|refine ah (az ?_)|skip
 refine ah (Iz ht.typeIs (by decide) ?_);refine ah (hZ (name:=gc "__getitem__") ht.typeIs jI
  (f7 jI ht.typeIs IA ?_ (IB _ _)))
 show wpAny _ _ (zk (.ref t) >>= _) _ _ s;refine ah (tupleItemsOf_ ht ?_);refine ah (qL hTs ?_);rw[if_pos (by decide)];refine ah (A0 hs pl pu ?_);have hno:¬((((aG items.size 0 lo:Nat):Int)==0&&(1:Int)==1&&(aG items.size items.size hi-aG items.size 0 lo)==items.size)=true):=by
  intro q;rw[eP,eP]at q;have q1:((aG items.size 0 lo:Nat):Int)=0:=eq_of_beq q.1.1;have q2:aG items.size items.size hi-aG items.size 0 lo=items.size:=eq_of_beq q.2;exact hw ⟨by lia,by lia⟩
 show wpAny _ _ (if(((aG items.size 0 lo:Nat):Int)==0&&(1:Int)==1&&(aG items.size items.size hi-aG items.size 0 lo)==items.size)=true then _ else _) _ _ s;rw[if_neg hno,L8]
 first
  |exact ah (m:=uA _) (h_ (az ⟨_,rfl,az h⟩) rP)
  |exact ah (m:=uA _) (h_ (ah (az (az ⟨_,rfl,az h⟩))) rP)
  |exact ah (ah (m:=uA _) (h_ (az (az ⟨_,rfl,az h⟩)) rP))
  |exact ah (ah (m:=uA _) (h_ (az ⟨_,rfl,az h⟩) rP))
end
end HT
namespace L2
open PySem PySem.Spec PyProof.Rows
abbrev TO:=St->Hp->(Option Int->Hp->Prop)->Prop
def PO(X:Cx)(e:Option Expr)(t:TO):Prop :=
 ∀(pins:List (Addr×Obj)) (s:Shared) (σ:St) (H:Hp) (Q:Option Int->Hp->Prop),Inv X pins σ H s->t σ H Q ->
  wpAny (model X.prog X.w) X.A (evalPart e X.env) (λu s'=>∃o H',Inv X pins σ H' s'/\IsPart u o/\Q o H') X.xe s
def L_:TO:=λ_ H Q=>Q none H
def L'(t:TE):TO:=λσ H Q=>t σ H λx H1=>∃i,x=.int i/\Q (some i) H1
section
variable{X:Cx}{e:Expr}{te:TE}{lo hi:Option Expr}{tl th:TO}{pos p2:Pos}
theorem Ma:PO X none L_:=by
 intro pins s σ H Q I h;rw[evalPart_none];exact az ⟨none,H,I,.none,h⟩
theorem Mb(h:PE X e te):PO X (some e) (L' te):=by
 intro pins s σ H Q I hw;rw[evalPart_some];refine aK (h pins s σ H _ I hw) λu s1 ⟨x,H1,I1,r1,q1⟩=>?_;obtain⟨i,rfl,q⟩:=q1;obtain⟨t,rfl⟩:=r1;exact⟨some i,H1,I1,.int i t,q⟩
def mv(X:Cx)(r:V->Option Int->Option Int->Hp->VK->Prop):Prop :=
 ∀(pins:List (Addr×Obj)) (s:Shared) (σ:St) (H:Hp) (x:V) (v vl vu:Value) (lo hi:Option Int) (sl:Addr) (Q:VK),Inv X pins σ H s->RelV x v->s.heap.IsSliceOf sl vl vu .none->IsPart vl lo->IsPart vu hi->r x lo hi H Q ->
  ∃T id,typeLookup (.type T) "__getitem__"=pure (some (.builtin id))/\s.TypeIs v T/\wpAny (model X.prog X.w) X.A (getItem v (.ref sl)) (EP X pins σ Q) X.xe s
def Mc(r:V->Option Int->Option Int->Hp->VK->Prop)(te:TE)(tl th:TO):TE:=λσ H Q=>te σ H λx H1=>tl σ H1 λl H2=>th σ H2 λu H3=>r x l u H3 Q
theorem Md{r:V->Option Int->Option Int->Hp->VK->Prop}(hr:mv X r)(he:PE X e te)(hl:PO X lo tl)(hu:PO X hi th):PE X (.Subscript e (.Slice lo hi none p2) pos) (Mc r te tl th):=by
 intro pins s σ H Q I h;refine Subscript_ (aK (he pins s σ H _ I h) λv s1 ⟨x,H1,I1,r1,q1⟩=>?_);refine wpAny_Slice (aK (hl pins s1 σ H1 _ I1 q1) λvl s2 ⟨l,H2,I2,pl,q2⟩=>aK (hu pins s2 σ H2 _ I2 q2) λvu s3 ⟨u,H3,I3,pu,q3⟩=>?_);rw[evalPart_none];refine az ?_;have I4:Inv X pins σ H3 {s3 with heap:=s3.heap.push {cls:=.type "slice",data:=.fields #[vl,vu,.none]}}:=I3.kept (t':=s3.toks) λb ob q=>bt _ q;obtain⟨T,id,hT,ht,hg⟩:=hr pins {s3 with heap:=s3.heap.push {cls:=.type "slice",data:=.fields #[vl,vu,.none]}} σ H3 x v vl vu l u s3.heap.objs.size Q I4 r1 (aba ..) pl pu q3;show wpAny (model X.prog X.w) X.A (subscriptTail e (.Slice lo hi none p2) v (.ref s3.heap.objs.size)) (EP X pins σ Q) X.xe {s3 with heap:=s3.heap.push {cls:=.type "slice",data:=.fields #[vl,vu,.none]}};exact tail_any (ops:=[.ref s3.heap.objs.size,v]) ht hT hg (by with_unfolding_all rfl)
def i_(xs:List V)(lo hi:Option Int):List V:=(xs.drop (HT.aG xs.length 0 lo)).take (HT.aG xs.length xs.length hi-HT.aG xs.length 0 lo)
theorem A1(xs:List V)(lo hi:Option Int):(i_ xs lo hi).length<=xs.length:=by
 unfold i_;rw[c8,fP];lia
def Me(K:ak):V->Option Int->Option Int->Hp->VK->Prop:=λx lo hi H Q=>∃a xs,x=.ref a/\a9 K H a xs /\
 ¬(HT.aG xs.length 0 lo=0/\HT.aG xs.length xs.length hi=xs.length)/\∀p,H p=none->Q (.ref p) (upd H p (.tup (i_ xs lo hi)))
theorem Mf:mv X (Me X.K):=by
 intro pins s σ H x v vl vu lo hi sl Q I rx hs pl pu h;obtain⟨a,xs,rfl,hx,hw,q⟩:=h;cases rx;obtain⟨its,r,ht,hz⟩:=I.tuple hx;have hlen:its.toArray.size=xs.length:=by rw[bM];exact r.length.symm
 refine⟨"tuple",_,jI.lookup,ht.typeIs,?_⟩;refine HT.L9 ht hs pl pu (by rw[hlen];exact hw) ?_ (by rw[hlen];exact hz);rw[hlen];refine⟨.ref s.heap.objs.size,_,I.laid (t':=s.toks) (o:=.tup (i_ xs lo hi)) (λb ob q=>bt _ q) (aQ _) ?_,rfl,q _ (I.hok.fresh (aQ _))⟩;exact⟨bR (A1 xs lo hi) hz,_,(r.drop (HT.aG xs.length 0 lo)).take (HT.aG xs.length xs.length hi-HT.aG xs.length 0 lo),zE _ _,λo q=>by rw[c7 _ rfl]at q;cases q;rfl⟩
def Mg(K:ak):R2:=λx y H Q=>∃a b xs ys,x=.ref a/\y=.ref b/\a9 K H a xs/\a9 K H b ys/\xs≠[]/\xs.length+ys.length<=sizeLine /\
 (ys=[]->Q (.ref a) H)/\(ys≠[]->∀p,H p=none->Q (.ref p) (upd H p (.tup (xs++ys))))
theorem Vals.rQ{xs:List V}{us:List Value}(r:Vals xs us):us=[]↔xs=[]:=by
 cases r with
 |nil=>simp
 |cons _ _=>simp
theorem Mh:ck X (binaryOp .Add) (Mg X.K):=by
 intro pins s σ H x y v u Q I rx ry h;obtain⟨a,b,xs,ys,rfl,rfl,ha,hb,hx,hz,q1,q2⟩:=h;cases rx;cases ry;obtain⟨its,r1,p1,_⟩:=I.tuple ha;obtain⟨its2,r2,p2,_⟩:=I.tuple hb;refine HT.L5 p1 p2 (λz=>hx (r1.rQ.mp z)) (λz=>⟨.ref a,H,I,rfl,q1 (r2.rQ.mp z)⟩) (λz=>?_) (by rw[<-r1.length,<-r2.length];exact hz);refine⟨.ref s.heap.objs.size,_,I.laid (t':=s.toks) (o:=.tup (xs++ys)) (λb ob q=>bt _ q) (aQ _) ?_,rfl,q2 (λw=>z (r2.rQ.mpr w)) _ (I.hok.fresh (aQ _))⟩;exact⟨by rw[a5];exact hz,_,r1.append r2,zE _ _,λo q=>by rw[c7 _ rfl]at q;cases q;rfl⟩
end
def kO(n:Nat)(i:Int):Option Nat:=if 0<=i then(if i<n then some i.toNat else none) else if -(n:Int)<=i then some (i+n).toNat else none
def cy{α:Type}(xs:List α)(i:Int):Option α:=(kO xs.length i).bind λj=>xs[j]?
theorem Mi{n:Nat}{i:Int}{j:Nat}(h:kO n i=some j):seqIndex? i n=some j/\j<n/\-(n:Int)<=i/\i<n:=by
 unfold kO at h;by_cases h0:0<=i
 ·rw[if_pos h0]at h;by_cases h1:i<n
  ·rw[if_pos h1]at h;have e:i.toNat=j:=dD h;exact⟨by rw[zF h0 h1,e],by lia,by lia,h1⟩
  ·rw[if_neg h1]at h;cases h
 ·rw[if_neg h0]at h;by_cases h1:-(n:Int)<=i
  ·rw[if_pos h1]at h;have e:(i+n).toNat=j:=dD h;exact⟨by rw[seqIndex_neg (by lia) h1,e],by lia,h1,by lia⟩
  ·rw[if_neg h1]at h;cases h
theorem vx{α:Type}{xs:List α}{i:Int}{v:α}(h:cy xs i=some v):∃j,seqIndex? i xs.length=some j/\xs[j]?=some v/\j<xs.length/\-(xs.length:Int)<=i/\i<xs.length:=by
 unfold cy at h;cases e:kO xs.length i with
 |none=>rw[e]at h;cases h
 |some j =>
  rw[e]at h;obtain⟨h1,h2,h3,h4⟩:=Mi e;exact⟨j,h1,h,h2,h3,h4⟩
theorem fW{α:Type}{xs:List α}{j:Nat}{v:α}(h:xs[j]?=some v):cy xs (j:Int)=some v:=by
 have hj:j<xs.length:=(cT.mp h).1;have e:kO xs.length (j:Int)=some j:=by
  unfold kO;rw[if_pos (by lia),if_pos (by lia)];simp
 unfold cy;rw[e];exact h
def A2(b:Expr):Prop:=∀o i,subscripted b false o i=operate [o,i] (getItem o i)
def oZ(X:Cx)(r:R2):Prop :=
 ∀(value slice:Expr) (pins:List (Addr×Obj)) (s:Shared) (σ:St) (H:Hp) (x y:V) (v u:Value) (Q:VK),Inv X pins σ H s->RelV x v->RelV y u->r x y H Q ->
  subscripted slice false v u=operate [v,u] (getItem v u)->wpAny (model X.prog X.w) X.A (subscriptTail value slice v u) (EP X pins σ Q) X.xe s
def rR(X:Cx)(id:String)(r:V->List V->Hp->VK->Prop):Prop :=
 ∀(pins:List (Addr×Obj)) (s:Shared) (σ:St) (H:Hp) (x:V) (xs:List V) (v:Value) (us:List Value) (Q:VK),Inv X pins σ H s->RelV x v->Vals xs us->r x xs H Q ->
  wpAny (model X.prog X.w) X.A (call (.builtin id) (v::us)) (EP X pins σ Q) X.xe s
section
variable{X:Cx}{a b:Expr}{ta tb:TE}{pos:Pos}
theorem Mj{r:R2}(hr:oZ X r)(ha:PE X a ta)(hb:PE X b tb)(hs:A2 b):PE X (.Subscript a b pos) (oV r ta tb):=by
 intro pins s σ H Q I h;exact Subscript_ (vi ha hb I h λv u s2 x y H2 I2 rx ry q=>hr a b pins s2 σ H2 x y v u Q I2 rx ry q (hs _ _))
def A3(K:ak):R2:=λx y H Q=>∃p xs i v,x=.ref p/\y=.int i/\aZ K H p xs/\cy xs i=some v/\Q v H
def A4(K:ak):R2:=λx y H Q=>∃p xs i v,x=.ref p/\y=.int i/\a9 K H p xs/\cy xs i=some v/\Q v H
def A5:R2:=λx y H Q=>∃z i c,x=.str z/\y=.int i/\z.length<=sizeLine/\cy z.cps.toList i=some c/\Q (.str ⟨#[c]⟩) H
theorem dY:oZ X (A3 X.K):=by
 intro value slice pins s σ H x y v u Q I rx ry h hs;obtain⟨p,xs,i,z,rfl,rfl,hq,he,q⟩:=h;cases rx;obtain⟨t,rfl⟩:=ry;obtain⟨its,r,pl,hz⟩:=I.list hq;obtain⟨j,h1,h2,h3,h4,h5⟩:=vx he;obtain⟨w,ew,jY⟩:=r.get h2;have hl:=r.length;have hn:=jX;have fin:EP X pins σ Q w s:=⟨z,H,I,jY,q⟩;by_cases h0:0<=i
 ·have hj:i.toNat=j:=by
   rw[zF h0 h5]at h1;exact dD h1
  exact item_listR pl.isList h0 (by lia) (by rw[hj];simpa using ew) fin hs
 ·have hj:(i+(its.toArray.size:Int)).toNat=j:=by
   rw[seqIndex_neg (by lia) h4]at h1;rw[bM,<-hl];exact dD h1
  exact IC (x:=w) pl.isList.typeIs ID.lookup
   (wpAny_getItem_list_neg (Q:=λr s'=>r=w/\EP X pins σ Q r s') pl.isList (by lia) (by rw[bM]<;>lia) (by lia) (by rw[hj];simpa using ew) ⟨rfl,fin⟩) hs
theorem aH:oZ X (A4 X.K):=by
 intro value slice pins s σ H x y v u Q I rx ry h hs;obtain⟨p,xs,i,z,rfl,rfl,hq,he,q⟩:=h;cases rx;obtain⟨t,rfl⟩:=ry;obtain⟨its,r,pl,hz⟩:=I.tuple hq;obtain⟨j,h1,h2,h3,h4,h5⟩:=vx he;obtain⟨w,ew,jY⟩:=r.get h2;have hl:=r.length;have hn:=jX;have fin:EP X pins σ Q w s:=⟨z,H,I,jY,q⟩;exact IC (x:=w) pl.typeIs jI.lookup
  (getItem_tuple (j:=j) (Q:=λr s'=>r=w/\EP X pins σ Q r s') pl (by lia) (by lia) (by rw[bM,<-hl];exact h1) (by simpa using ew) ⟨rfl,fin⟩) hs
theorem A6:oZ X A5:=by
 intro value slice pins s σ H x y v u Q I rx ry h hs;obtain⟨z,i,c,rfl,rfl,hz,he,q⟩:=h;obtain⟨t,rfl⟩:=rx;obtain⟨t',rfl⟩:=ry;obtain⟨j,h1,h2,h3,h4,h5⟩:=vx he;have hl:z.cps.toList.length=z.length:=by simp[uB]
 rw[hl]at h1 h4 h5;have hn:=jX;exact tail_any (zG s z t) slot_str_getitem.lookup (getItem_str (c:=c) (by
  have e1:decide (i < -(2^63:Int))=false:=decide_eq_false (by lia);have e2:decide (i>=2^63)=false:=decide_eq_false (by lia);rw[e1,e2,IE]) (by rw[h1];simpa using h2) ⟨.str ⟨#[c]⟩,H,I.tok _,⟨_,rfl⟩,q⟩) hs
theorem Mk(lo hi:Option Int)(n:Nat):(sliceBounds lo hi none n).1=((HT.aG n 0 lo:Nat):Int)/\(sliceBounds lo hi none n).2.1=((HT.aG n n hi:Nat):Int)/\(sliceBounds lo hi none n).2.2=1:=by
 refine⟨?_,?_,rfl⟩
 ·cases lo with
  |none=>simp[sliceBounds,HT.aG]
  |some i =>
   simp only[sliceBounds,HT.aG,IF,show(1:Int)>0 by decide,if_true];by_cases h:i<0
   ·simp only[h,if_true]<;>lia
   ·simp only[h,if_false]<;>lia
 ·cases hi with
  |none=>simp[sliceBounds,HT.aG]
  |some i =>
   simp only[sliceBounds,HT.aG,IF,show(1:Int)>0 by decide,if_true];by_cases h:i<0
   ·simp only[h,if_true]<;>lia
   ·simp only[h,if_false]<;>lia
theorem Ml(its:List Value)(lo hi:Option Int):slicePick its.toArray lo hi none=((its.drop (HT.aG its.length 0 lo)).take (HT.aG its.length its.length hi-HT.aG its.length 0 lo)).toArray:=by
 obtain⟨h1,h2,h3⟩:=Mk lo hi its.toArray.size;unfold slicePick;rw[h1,h2,h3];simp only[sliceRange_one,pick_run,bM]<;>rfl
def A7(K:ak):V->Option Int->Option Int->Hp->VK->Prop:=λx lo hi H Q=>∃a xs,x=.ref a/\aZ K H a xs/\∀p,H p=none->Q (.ref p) (upd H p (.lst (i_ xs lo hi)))
theorem ja:mv X (A7 X.K):=by
 intro pins s σ H x v vl vu lo hi sl Q I rx hs pl pu h;obtain⟨a,xs,rfl,hx,q⟩:=h;cases rx;obtain⟨its,r,ht,hz⟩:=I.list hx;have hlen:=r.length;refine⟨"list",_,ID.lookup,ht.isList.typeIs,?_⟩;refine wpAny_getItem_list_slice ht.isList hs pl pu .none (by simp) ?_ (by rw[bM]<;>lia);rw[Ml,<-hlen];refine⟨.ref s.heap.objs.size,_,I.laid (t':=s.toks) (o:=.lst (i_ xs lo hi)) (λb ob q=>bt _ q) (aQ _) ?_,rfl,q _ (I.hok.fresh (aQ _))⟩;exact⟨bR (A1 xs lo hi) hz,_,0,(r.drop (HT.aG xs.length 0 lo)).take (HT.aG xs.length xs.length hi-HT.aG xs.length 0 lo),c7 _ rfl⟩
def iA:V->Bool
 | .non=>true
 | .bl _=>true
 | .int _=>true
 | .str _=>true
 |_=>false
def gM:V->V->Bool
 | .non,.non=>true
 | .bl a,.bl b=>a==b
 | .bl a,.int b=>(if a then 1 else 0)==b
 | .int a,.bl b=>a==(if b then 1 else 0)
 | .int a,.int b=>a==b
 | .str a,.str b=>a==b
 |_,_=>false
theorem Mm{A:Around}{s:Shared}{y x:V}{u v:Value}(ry:RelV y u)(rx:RelV x v)(fy:iA y=true)(fx:iA x=true):uC A s u v (gM y x):=by
 cases y with
 |non =>
  cases ry;cases x with
  |non=>cases rx;exact SeqAt.EqAt.same _
  |bl b=>cases rx;exact SeqAt.EqAt.none_bool b
  |int b=>obtain⟨t,rfl⟩:=rx;exact SeqAt.EqAt.none_int b t
  |str b=>obtain⟨t,rfl⟩:=rx;exact SeqAt.EqAt.none_str b t
  |_=>exact absurd (show false=true from fx) cF
 |bl a =>
  cases ry;cases x with
  |non=>cases rx;exact SeqAt.EqAt.bool_none a
  |bl b=>cases rx;exact SeqAt.EqAt.bool_bool a b
  |int b=>obtain⟨t,rfl⟩:=rx;exact SeqAt.EqAt.bool_int a b t
  |str b=>obtain⟨t,rfl⟩:=rx;exact SeqAt.EqAt.bool_str a b t
  |_=>exact absurd (show false=true from fx) cF
 |int a =>
  obtain⟨t',rfl⟩:=ry;cases x with
  |non=>cases rx;exact SeqAt.EqAt.int_none a t'
  |bl b=>cases rx;exact SeqAt.EqAt.int_bool a t' b
  |int b=>obtain⟨t,rfl⟩:=rx;exact SeqAt.EqAt.int_int a t' b t
  |str b=>obtain⟨t,rfl⟩:=rx;exact HW a t' b t
  |_=>exact absurd (show false=true from fx) cF
 |str a =>
  obtain⟨t',rfl⟩:=ry;cases x with
  |non=>cases rx;exact SeqAt.EqAt.str_none a t'
  |bl b=>cases rx;exact SeqAt.EqAt.str_bool a t' b
  |int b=>obtain⟨t,rfl⟩:=rx;exact HX a t' b t
  |str b=>obtain⟨t,rfl⟩:=rx;exact SeqAt.EqAt.str_str a t' b t
  |_=>exact absurd (show false=true from fx) cF
 |_=>exact absurd (show false=true from fy) cF
def fo(x:V)(u:Value):Bool:=match u with
 | .none=>gM .non x
 | .bool b=>gM (.bl b) x
 | .int i _=>gM (.int i) x
 | .str z _=>gM (.str z) x
 |_=>false
theorem A8{x y:V}{u:Value}(r:RelV y u)(f:iA y=true):fo x u=gM y x:=by
 cases y with
 |non=>cases r;rfl
 |bl b=>cases r;rfl
 |int i=>obtain⟨t,rfl⟩:=r;rfl
 |str z=>obtain⟨t,rfl⟩:=r;rfl
 |_=>exact absurd (show false=true from f) cF
theorem o6{x:V}:∀{xs:List V} {us:List Value},Vals xs us->xs.all iA=true->us.any (fo x)=xs.any λy=>gM y x
 |_,_,.nil,_=>rfl
 |y::xs,u::us,.cons r t,f=>by
  rw[lW,eP]at f;rw[ia,ia,A8 r f.1,o6 t f.2]
theorem o7{A:Around}{s:Shared}{x:V}{v:Value}(rx:RelV x v)(fx:iA x=true):∀{xs:List V} {us:List Value},Vals xs us->xs.all iA=true->∀u∈us,uC A s u v (fo x u)
 |_,_,.nil,_=>λu hu=>by cases hu
 |y::xs,u::us,.cons r t,f=>λu' hu=>by
  rw[lW,eP]at f;rcases a8.mp hu with rfl|hu
  ·rw[A8 r f.1];exact Mm r rx f.1 fx
  ·exact o7 rx fx t f.2 u' hu
def inV(x:V)(xs:List V):Bool:=xs.any λy=>gM y x
def vy(K:ak)(neg:Bool):R2:=λx y H Q=>∃p xs,y=.ref p/\(aZ K H p xs∨a9 K H p xs)/\iA x=true/\xs.all iA=true/\Q (.bl (if neg then !inV x xs else inV x xs)) H
theorem mw:ck X (compareOp .In) (vy X.K false):=by
 intro pins s σ H x y v u Q I rx ry h;obtain⟨p,xs,rfl,hq,fx,fs,q⟩:=h;cases ry;rcases hq with hq|hq
 ·obtain⟨its,r,pl,hz⟩:=I.list hq;refine IG (fo x) pl.isList (λw hw=>o7 rx fx r fs w (by simpa using hw)) ⟨.bl _,H,I,rfl,?_⟩;rw[show its.toArray.any (fo x)=its.any (fo x) by simp,o6 r fs];exact q
 ·obtain⟨its,r,pl,hz⟩:=I.tuple hq;refine SeqAt.in_tupleAt (fo x) pl (λw hw=>o7 rx fx r fs w (by simpa using hw)) ⟨.bl _,H,I,rfl,?_⟩;rw[show its.toArray.any (fo x)=its.any (fo x) by simp,o6 r fs];exact q
theorem A9:ck X (compareOp .NotIn) (vy X.K true):=by
 intro pins s σ H x y v u Q I rx ry h;obtain⟨p,xs,rfl,hq,fx,fs,q⟩:=h;cases ry;rcases hq with hq|hq
 ·obtain⟨its,r,pl,hz⟩:=I.list hq;refine SeqAt.notIn_listAt (fo x) pl.isList (λw hw=>o7 rx fx r fs w (by simpa using hw)) ⟨.bl _,H,I,rfl,?_⟩;rw[show its.toArray.any (fo x)=its.any (fo x) by simp,o6 r fs];exact q
 ·obtain⟨its,r,pl,hz⟩:=I.tuple hq;refine SeqAt.notIn_tupleAt (fo x) pl (λw hw=>o7 rx fx r fs w (by simpa using hw)) ⟨.bl _,H,I,rfl,?_⟩;rw[show its.toArray.any (fo x)=its.any (fo x) by simp,o6 r fs];exact q
theorem fq:fm X (.builtin "len") (λxs H Q=>∃p ys,xs=[.ref p]/\(aZ X.K H p ys∨a9 X.K H p ys)/\Q (.int ys.length) H):=by
 intro pins s σ H xs us Q I r h;obtain⟨p,ys,rfl,hq,q⟩:=h;obtain⟨u,rfl,rx⟩:=vals1 r;cases rx;have hn:=jX;rcases hq with hq|hq
 ·obtain⟨its,r',pl,hz⟩:=I.list hq;have hlen:=r'.length;exact Calls.call_len_list pl.isList (by simp only[bM]<;>lia) ⟨.int ys.length,H,I.tok _,⟨s.toks+1,by rw[bM,hlen]⟩,q⟩
 ·obtain⟨its,r',pl,hz⟩:=I.tuple hq;have hlen:=r'.length;exact len_tuple pl (by simp only[bM]<;>lia) ⟨.int ys.length,H,I.tok _,⟨s.toks+1,by rw[bM,hlen]⟩,q⟩
theorem Mn:fm X (.builtin "len") (λxs H Q=>∃z,xs=[.str z]/\z.length<=sizeLine/\Q (.int z.length) H):=by
 intro pins s σ H xs us Q I r h;obtain⟨z,rfl,hz,q⟩:=h;obtain⟨u,rfl,t,rfl⟩:=vals1 r;have hn:=jX;exact len_str (by lia) ⟨.int z.length,H,I.tok _,⟨_,rfl⟩,q⟩
theorem Mo:fm X (.type "list") (λxs H Q=>∃p ys,xs=[.ref p]/\(aZ X.K H p ys∨a9 X.K H p ys)/\∀l,H l=none->Q (.ref l) (upd H l (.lst ys))):=by
 intro pins s σ H xs us Q I r h;obtain⟨p,ys,rfl,hq,q⟩:=h;obtain⟨u,rfl,rx⟩:=vals1 r;cases rx;have fin:∀(its:List Value),Vals ys its->ys.length<=sizeLine->∀(h':Heap) (c':Nat),(∀b o',s.heap.get? b=some o'->h'.get? b=some o') ->
  h'.get? s.heap.objs.size=some {cls:=.type "list",dict:=none,data:=.seq its.toArray c',slots:=#[]}->EP X pins σ Q (.ref s.heap.objs.size) {s with heap:=h'}:=λits r' hz h' c' kp e =>
  ⟨.ref s.heap.objs.size,_,I.laid (t':=s.toks) kp (aQ _) (show cM X.prog X.w _ h' _ (.lst ys) from⟨hz,its,c',r',e⟩),rfl,q _ (I.hok.fresh (aQ _))⟩
 rcases hq with hq|hq
 ·obtain⟨its,r',pl,hz⟩:=I.list hq;have hlen:=r'.length;obtain⟨o,ho,hc,n,hd⟩:=pl.isList;exact call_list_seq p (.inl rfl) ho hc hd (λh' c' kp e=>fin its r' hz h' c' kp e) (by simp only[bM]<;>lia)
 ·obtain⟨its,r',pl,hz⟩:=I.tuple hq;have hlen:=r'.length;obtain⟨o,ho,hc,n,hd⟩:=pl;exact call_list_seq p (.inr rfl) ho hc hd (λh' c' kp e=>fin its r' hz h' c' kp e) (by simp only[bM]<;>lia)
theorem gn:fm X (.type "tuple") (λxs H Q=>∃p ys,xs=[.ref p]/\((aZ X.K H p ys/\∀l,H l=none->Q (.ref l) (upd H l (.tup ys)))∨(a9 X.K H p ys/\Q (.ref p) H))):=by
 intro pins s σ H xs us Q I r h;obtain⟨p,ys,rfl,h⟩:=h;obtain⟨u,rfl,rx⟩:=vals1 r;cases rx;rcases h with⟨hq,q⟩|⟨hq,q⟩
 ·obtain⟨its,r',pl,hz⟩:=I.list hq;have hlen:=r'.length;refine call_tuple_list pl.isList (λh' kp=>?_) (by simp only[bM]<;>lia);have I1:Inv X pins σ H {s with heap:=h'}:=I.kept (t':=s.toks) kp;have I2:Inv X pins σ (upd H h'.objs.size (.tup ys)) {s with heap:=h'.push {cls:=.type "tuple",data:=.seq its.toArray}} :=
   I1.laid (t':=s.toks) (λb o e=>bt _ e) (aQ _) (show cM X.prog X.w _ _ _ (.tup ys) from⟨hz,its,r',zE _ _,λo q=>by rw[c7 _ rfl]at q;cases q;rfl⟩)
  exact⟨.ref h'.objs.size,_,I2,rfl,q _ (I1.hok.fresh (aQ _))⟩
 ·obtain⟨its,r',pl,hz⟩:=I.tuple hq;exact call_tuple_same pl ⟨.ref p,H,I,rfl,q⟩
def rS(K:ak)(T:String)(x:V)(H:Hp):Prop:=match x with
 | .str _=>T="str"
 | .int _=>T="int"
 | .ref p=>(T="list"/\∃xs,aZ K H p xs)∨(T="tuple"/\∃o,K.lookup p=some o/\o.cls=.type "tuple"/\o.dict=none) ∨
  (T="dict"/\((∃kvs,H p=some (.dK kvs))∨∃kvs,H p=some (.dT kvs)))∨(T="set"/\∃S n,H p=some (.set S n))
 |_=>False
theorem A_{pins:List (Addr×Obj)}{σ:St}{H:Hp}{s:Shared}{T:String}{x:V}{v:Value}(I:Inv X pins σ H s)(r:RelV x v)(ty:rS X.K T x H) :
 s.TypeIs v T/\∀a,v=.ref a->∃ob,s.heap.get? a=some ob/\ob.dict=none:=by
 cases x with
 |str z =>
  obtain⟨t,rfl⟩:=r;cases (show T="str" from ty);exact⟨zG s z t,λ_ e=>nomatch e⟩
 |int i =>
  obtain⟨t,rfl⟩:=r;cases (show T="int" from ty);exact⟨typeIs_int s i t,λ_ e=>nomatch e⟩
 |ref p =>
  cases r;rcases ty with⟨rfl,xs,hq⟩|⟨rfl,o,hk,hc,hd⟩|⟨rfl,hk⟩|⟨rfl,S,n,hk⟩
  ·obtain⟨its,_,pl,_⟩:=I.list hq;refine⟨pl.isList.typeIs,λa e=>?_⟩;cases e;obtain⟨o,n,e,c,hd,_⟩:=pl;exact⟨o,e,hd⟩
  ·refine⟨⟨o,I.i5 p o hk,hc⟩,λa e=>?_⟩;cases e;exact⟨o,I.i5 _ o hk,hd⟩
  ·have z:∃o,s.heap.get? p=some o/\o.ExactDict:=by
    rcases hk with⟨kvs,hk⟩|⟨kvs,hk⟩
    ·obtain⟨_,_,_,_,o,_,_,e,ex,_⟩:=I.hok p _ hk;exact⟨o,e,ex⟩
    ·obtain⟨_,_,_,_,o,_,_,e,ex,_⟩:=I.hok p _ hk;exact⟨o,e,ex⟩
   obtain⟨o,e,ex⟩:=z;refine⟨⟨o,e,ex.1⟩,λa e2=>?_⟩;cases e2;exact⟨o,e,ex.2.1⟩
  ·obtain⟨o,_,_,_,e,ex,_⟩:=I.hok p _ hk;refine⟨⟨o,e,ex.1⟩,λa e2=>?_⟩;cases e2;exact⟨o,e,ex.2.1⟩
 |_=>exact gb ty
def Mp(K:ak)(T:String)(r:V->List V->Hp->VK->Prop)(to:TE):TE:=λσ H Q=>to σ H λx H1=>rS K T x H1/\r x [] H1 Q
def Mq(K:ak)(T:String)(r:V->List V->Hp->VK->Prop)(to:TE)(t:TA):TE:=λσ H Q=>to σ H λx H1=>rS K T x H1/\t σ H1 λxs H2=>r x xs H2 Q
variable{o e:Expr}{es:List Expr}{to:TE}{t:TA}{name:Str}{apos cpos:Pos}{T id:String}{r:V->List V->Hp->VK->Prop}
theorem Mr(pa:PlainAttrs T)(slot:Slot T name id)(hty:typeOf (.builtin id)=pure (.type "method_descriptor"))(hm:rR X id r)(ho:PE X o to)
 (hbase:attributeBase o name X.env (eval o X.env)=eval o X.env:=by rfl) (hline:(apos.endLine==cpos.line)=true:=by rfl):PE X (.Call (.Attribute o name apos) [] [] cpos) (Mp X.K T r to):=by
 intro pins s σ H Q I h;refine wpAny_Call_method0_late hbase hline (aK (ho pins s σ H _ I h) λv s1 ⟨x,H1,I1,r1,ty,q1⟩=>?_);obtain⟨h1,h2⟩:=A_ I1 r1 ty;exact⟨T,id,pa,slot,hty,h1,h2,IH rfl (PySem.evalArgs_none (hm pins s1 σ H1 x [] v [] Q I1 r1 .nil q1))⟩
theorem Ms(pa:PlainAttrs T)(slot:Slot T name id)(hty:typeOf (.builtin id)=pure (.type "method_descriptor"))(hm:rR X id r)(ho:PE X o to)(ha:PA X (e::es) t)
 (hbase:attributeBase o name X.env (eval o X.env)=eval o X.env:=by rfl)
 (hfew:((backTo cpos (starEach (e::es) X.env)).all (λx=>!x.1)&&(backToKw cpos (keywordEach [] X.env)).all (λx=>x.1.isSome)
  && decide ((e::es).length+([]:List Keyword).length+(if([]:List Keyword).isEmpty then 0 else 1)<30))=true:=by rfl)
 (hline:(apos.endLine==cpos.line)=true:=by rfl) (hs:starEach (e::es) X.env=(false,eval e X.env)::starEach es X.env:=by rfl) (hplain:(backTo cpos (starEach es X.env)).any (·.1)=false:=by rfl) :
 PE X (.Call (.Attribute o name apos) (e::es) [] cpos) (Mq X.K T r to t):=by
 intro pins s σ H Q I h;refine wpAny_Call_method_late hbase hfew hline rfl (aK (ho pins s σ H _ I h) λv s1 ⟨x,H1,I1,r1,ty,q1⟩=>?_);obtain⟨h1,h2⟩:=A_ I1 r1 ty;refine⟨T,id,pa,slot,hty,h1,h2,?_⟩;have hA:=ha cpos pins s1 σ H1 _ I1 q1;rw[hs]at hA ⊢;refine IH (by show(false||(backTo cpos (starEach es X.env)).any (·.1))=false;rw[hplain]<;>rfl) (II ?_);exact aK hA λus s2 z_16=>by obtain⟨vs,H2,I2,r2,q2⟩:=z_16;exact hm pins s2 σ H2 x vs v us Q I2 r1 r2 q2
end
def o8(X:Cx)(id:String)(r:V->List V->Hp->VK->Prop):Prop :=
 ∀(pins:List (Addr×Obj)) (s:Shared) (σ:St) (H:Hp) (x:V) (xs:List V) (v:Value) (us:List Value) (Q:VK),Inv X pins σ H s->RelV x v->Vals xs us->r x xs H Q ->
  wpAny (model X.prog X.w) X.A (call (.builtin id) (v::us)) (EP X pins σ Q) X.xe s
theorem Vals.one:∀{x:V} {us:List Value},Vals [x] us->∃u,us=[u]/\RelV x u
 |_,_,.cons r .nil=>⟨_,rfl,r⟩
theorem Vals.zero:∀{us:List Value},Vals [] us->us=[]
 |_,.nil=>rfl
theorem Vals.dropLast{xs:List V}{us:List Value}(h:Vals xs us):Vals xs.dropLast us.dropLast:=by
 induction h with
 |nil=>exact .nil
 |cons r t ih =>
  cases t with
  |nil=>exact .nil
  |cons q t'=>exact .cons r ih
theorem Vals.eraseIdx:∀{xs:List V} {us:List Value} (i:Nat),Vals xs us->Vals (xs.eraseIdx i) (us.eraseIdx i)
 |_,_,_,.nil=>.nil
 |_,_,0,.cons _ t=>t
 |_,_,i+1,.cons r t=>.cons r (Vals.eraseIdx i t)
theorem Mu{α:Type}(l:List α):l.eraseIdx (l.length-1)=l.dropLast:=by
 induction l with
 |nil=>rfl
 |cons a r ih =>
  cases r with
  |nil=>rfl
  |cons b r =>
   have e:(a::b::r).length-1=((b::r).length-1)+1:=by
    have h1:(a::b::r).length=r.length+2:=rfl;have h2:(b::r).length=r.length+1:=rfl;lia
   rw[e,zI,ih]
   all_goals rfl
theorem Ba{α:Type}:∀(l:List α) (i:Nat),(l.eraseIdx i).length<=l.length
 |[],_=>aQ _
 |_::_,0=>Nat.le_succ _
 |_::r,i+1=>Nat.succ_le_succ (Ba r i)
section
variable{X:Cx}{pins:List (Addr×Obj)}{σ:St}{H:Hp}{s:Shared}{l b:Addr}{xs ys zs:List V}
theorem Inv.o9{its its':List Value}{n:Nat}{f:Array Value->Array Value}{t':Nat}(I:Inv X pins σ H s)(hH:H l=some (.lst xs))
 (e:s.heap.get? l=some {cls:=.type "list",data:=.seq its.toArray n}) (hf:f its.toArray=its'.toArray) (hv:Vals ys its') (hz:ys.length<=sizeLine) :
 Inv X pins σ (upd H l (.lst ys)) {s with heap:=s.heap.update l (fQ f),toks:=t'}:=by
 have q:=PySem.IsL.update e f;rw[hf]at q;refine I.write (x:=l) (e:=l) (by rw[hH];exact trivial) (.inl rfl) (λb' u hb hu=>(qM s.heap (fQ f) (dn hb)).trans hu) ⟨_,q⟩ ?_;exact⟨hz,its',_,hv,q⟩
theorem Inv.rT{its:List Value}{t':Nat}(I:Inv X pins σ H s)(hv:Vals ys its)(hz:ys.length<=sizeLine) :
 Inv X pins σ (upd H s.heap.objs.size (.lst ys)) {s with heap:=s.heap.push {cls:=.type "list",data:=.seq its.toArray},toks:=t'} :=
 I.laid (λ_ _ q=>bt _ q) (aQ _) ⟨hz,its,0,hv,c7 _ rfl⟩
theorem Inv.fresh(I:Inv X pins σ H s):H s.heap.objs.size=none:=I.hok.fresh (aQ _)
theorem Inv.jZ(I:Inv X pins σ H s)(hH:H l=some (.lst xs)):xs.length<=sizeLine/\∃(its:List Value) (n:Nat),Vals xs its/\xs.length=its.length/\s.heap.get? l=some {cls:=.type "list",data:=.seq its.toArray n}:=by
 obtain⟨z,its,n,r,e⟩:=I.hok l _ hH;exact⟨z,its,n,r,r.length,e⟩
theorem Mv{n:Nat}(h:n<=sizeLine):zJ n=false:=by
 unfold zJ;exact decide_eq_false (by lia)
end
section
variable{X:Cx}
def Bb:V->List V->Hp->VK->Prop:=λx vs H Q=>∃l xs y,x=.ref l/\vs=[y]/\H l=some (.lst xs)/\xs.length<sizeLine/\Q .non (upd H l (.lst (xs++[y])))
theorem dZ:o8 X "list.append" Bb:=by
 intro pins s σ H x vs v us Q I rx rv h;obtain⟨l,xs,y,rfl,rfl,hH,hz,q⟩:=h;cases rx;obtain⟨u,rfl,ru⟩:=rv.one;obtain⟨z,its,n,r,hl,e⟩:=I.jZ hH;refine uD eC ⟨_,e,rfl⟩ F.entry_list_append (F.args_list_append_2 _ _) (PySem.list_append l its.toArray n u (by rw[bM];lia)) ⟨e,?_⟩;refine⟨.non,_,I.o9 (its':=its++[u]) hH e (by simp) (r.append (.cons ru .nil)) ?_,rfl,q⟩;rw[a5,l_];lia
def Bc:V->List V->Hp->VK->Prop:=λx vs H Q=>∃l b xs zs,x=.ref l/\vs=[.ref b]/\H l=some (.lst xs)/\H b=some (.lst zs)/\xs.length+zs.length<=sizeLine/\Q .non (upd H l (.lst (xs++zs)))
theorem vz:o8 X "list.extend" Bc:=by
 intro pins s σ H x vs v us Q I rx rv h;obtain⟨l,b,xs,zs,rfl,rfl,hH,hB,hz,q⟩:=h;cases rx;obtain⟨u,rfl,ru⟩:=rv.one;cases ru;obtain⟨z,its,n,r,hl,e⟩:=I.jZ hH;obtain⟨z2,its2,n2,r2,hl2,e2⟩:=I.jZ hB;have hsz:its.toArray.size+its2.toArray.size<=sizeLine:=by rw[bM,bM];lia
 have Mw:¬(!its.toArray.isEmpty&&zJ (its.toArray.size+its2.toArray.size))=true:=by
  rw[Mv hsz,IJ];exact cF
 refine uD uE ⟨_,e,rfl⟩ F.entry_list_extend (F.args_list_extend_2 _ _)
  (AutoSeq1.list_extend_list_list_0 l its.toArray n b its2.toArray n2 Mw (by rw[bM];lia) (by lia)) ⟨e,e2,?_⟩
 refine⟨.non,_,I.o9 (its':=its++its2) hH e (by simp) (r.append r2) ?_,rfl,q⟩;rw[a5];lia
def Mx:V->List V->Hp->VK->Prop:=λx vs H Q=>∃l xs y,x=.ref l/\vs=[]/\H l=some (.lst xs)/\xs[xs.length-1]?=some y/\Q y (upd H l (.lst xs.dropLast))
theorem My:o8 X "list.pop" Mx:=by
 intro pins s σ H x vs v us Q I rx rv h;obtain⟨l,xs,y,rfl,rfl,hH,hy,q⟩:=h;cases rx;have hus:=rv.zero;subst hus;obtain⟨z,its,n,r,hl,e⟩:=I.jZ hH;obtain⟨u,hu,ru⟩:=r.get hy;have hy':its.toArray[its.toArray.size-1]?=some u:=by
  show its.toArray[its.length-1]?=some u;rw[<-IK,<-hl];exact hu
 refine uD ma ⟨_,e,rfl⟩ IL (F.args_list_pop_1 _) (MeetsSeq.list_pop_last l its.toArray n u hy' (by rw[bM];lia)) ⟨e,?_⟩;refine⟨y,_,I.o9 (its':=its.dropLast) hH e ?_ r.dropLast ?_,ru,q⟩
 ·show its.toArray.eraseIdxIfInBounds (its.toArray.size-1)=its.dropLast.toArray;rw[bM,IM,Mu]
 ·rw[IP];lia
def Be:V->List V->Hp->VK->Prop:=λx vs H Q=>∃l xs i k y,x=.ref l/\vs=[.int i]/\H l=some (.lst xs)/\-(2^63)<=i/\i<2^63/\seqIndex? i xs.length=some k/\xs[k]?=some y/\Q y (upd H l (.lst (xs.eraseIdx k)))
theorem Mz:o8 X "list.pop" Be:=by
 intro pins s σ H x vs v us Q I rx rv h;obtain⟨l,xs,i,k,y,rfl,rfl,hH,h1,h2,hk,hy,q⟩:=h;cases rx;obtain⟨u,rfl,ru⟩:=rv.one;obtain⟨t,rfl⟩:=ru;obtain⟨z,its,n,r,hl,e⟩:=I.jZ hH;obtain⟨w,hw,jY⟩:=r.get hy;refine uD ma ⟨_,e,rfl⟩ IL (F.args_list_pop_2 _ _)
  (MeetsSeq.list_pop_at l its.toArray n i t k w (fitsIndex_both h1 h2) (by rw[bM,<-hl];exact hk) (by rw[<-IK];exact hw) (by rw[bM];lia)) ⟨e,?_⟩
 refine⟨y,_,I.o9 (its':=its.eraseIdx k) hH e ?_ (r.eraseIdx k) ?_,jY,q⟩
 ·show its.toArray.eraseIdxIfInBounds k=(its.eraseIdx k).toArray;rw[IM]
 ·have:=Ba xs k;lia
def Bf:R2:=λx y H Q=>∃l b xs zs,x=.ref l/\y=.ref b/\H l=some (.lst xs)/\H b=some (.lst zs)/\xs.length+zs.length<=sizeLine/\∀p,H p=none->Q (.ref p) (upd H p (.lst (xs++zs)))
theorem rV:ck X (binaryOp .Add) Bf:=by
 intro pins s σ H x y v u Q I rx ry h;obtain⟨l,b,xs,zs,rfl,rfl,hH,hB,hz,q⟩:=h;cases rx;cases ry;obtain⟨z,its,n,r,hl,e⟩:=I.jZ hH;obtain⟨z2,its2,n2,r2,hl2,e2⟩:=I.jZ hB;refine PySem.P.add_list e e2 ?_ (by rw[bM,bM];lia);have ea:its.toArray++its2.toArray=(its++its2).toArray:=by simp
 rw[ea];exact⟨.ref _,_,I.rT (t':=s.toks) (r.append r2) (by rw[a5];lia),rfl,q _ I.fresh⟩
end
end L2
namespace Bg
open PySem PySem.W PySem.Calls PyProof.Rows
theorem MA{P:Params}{h:Heap}:∀(ns:List Int) (vs:List Value),WellAll P h vs (ns.map WData.int)->IntsAre vs ns:=by
 intro ns
 induction ns with
 |nil =>
  intro vs w;rw[fR]at w;cases w;exact .nil
 |cons n ns ih =>
  intro vs w;rw[ba]at w;cases w with
  |cons a b =>
   cases a;exact .cons _ _ (ih _ b)
theorem MB{l:OpenLaw}{n:Nat}(hn:l.most=some n){P:Params}{h:Heap}{args:List WData}{vals:List Value}
 (hpre:l.row.toRowW.claim.pre args=true) (hwl:WellAll P h vals args) :
 ∃a vs ns,vals=[Value.ref a]/\args=[WData.list (ns.map WData.int)]/\h.get? a=some {cls:=.type "list",data:=.seq vs.toArray}/\IntsAre vs ns/\ns.length<=n:=by
 have hsh:WShape.hasAll [] args [.list .int]=true:=(pre_splitW hpre).1;have hc:l.pre.holds [] {args:=args}=true:=(pre_splitW hpre).2;obtain⟨d,r,rfl,h1,h2⟩:=hasAllW_cons hsh;obtain rfl:=hasAllW_nil h2;obtain⟨xs,rfl,h3⟩:=hasW_list h1;obtain⟨ns,rfl⟩:=items_int h3;have hlen:ns.length<=n:=by
  unfold OpenLaw.pre at hc;have h4:(WTm.not (.lt (.lit (.int (n:Int))) (.len (.arg 0)))).holds [] {args:=[.list (ns.map .int)]}=true:=by
   have h4:=(holds_andW hc).1;rw[hn]at h4;exact h4
  have h5:=condW_of h4 (w_not (w_lt w_lit (w_len_list (w_arg rfl))));rw[ay]at h5;refine IQ λq=>?_;have q':(n:Int)<((ns.length:Nat):Int):=by lia
  first
   |(rw[decide_eq_true q']at h5;exact absurd h5 (by decide))
   |(simp at h5;lia)
 cases hwl with
 |cons w1 w2 =>
  cases w2;cases w1 with
  |list ho hall=>exact⟨_,_,ns,rfl,rfl,ho,MA ns _ hall,hlen⟩
theorem MC(l:OpenLaw)(args:List WData):l.row.toRowW.claim.post args (.bool true) args=true :=
 postW_of (r:=l.row.toRowW) (X:=(true==true))
  (show WShape.has [] (.bool true) .bool=true by first|rfl|decide|simp[WShape.has,WShape.arms,WShape.armsAll])
  (show(WTm.eq .res (.lit (.bool true))).value [] {args:=args,res:=some (.bool true),after:=args}=some (.bool (true==true)) from w_eq_bool (w_res rfl) w_lit) rfl
theorem MD{l:OpenLaw}{n:Nat}{q:Program}{loose:List Str}{XP:(Str->Option Value)->Heap->Prop}{YP:World->Heap->Prop}{d:DefRec}
 (hn:l.most=some n) (hdf:d.params.defaults=[])
 (call:∀(w:World) (s₀ s₁:Shared) (mg mb:Str->Option Value) (fa:Addr) (o:Obj) (pm cd doc:Value) (a:Addr) (vs:List Value) (ns:List Int),
  Ground q loose [] XP w s₀ mg mb s₁.heap->YP w s₁.heap ->
  s₁.heap.get? fa=some o->o.data=.func (docDef d.name d.params d.body d.scope pm cd doc)->s₁.heap.CodeRec cd d.name->mg d.name=some (.ref fa) ->
  s₁.heap.get? a=some {cls:=.type "list",data:=.seq vs.toArray}->IntsAre vs ns->ns.length<=n->s₁.gens=#[] ->
  codeAny (model l.prog w) callerA (.call (.ref fa) ⟨[.ref a],[]⟩) (λr s'=>r=.ok (.ret (.bool true))/\OldK s₁.heap s'.heap/\s'.os=s₁.os/\AllBare s'.gens) s₁) :
 WalkO q loose XP YP l.row.toRowW d [] (λf vs=>zK f vs):=by
 intro w s₀ s₁ mg mb G Y fa o pm cd doc dV kV ho hd hcd hD hmg hg args vals as hpre hlay hrd hwl hlo;obtain rfl:dV=.none:=Dflts.none hD hdf;obtain rfl:kV=.none:=Dflts.noKw hD;obtain⟨a,vs,ns,rfl,rfl,hobj,hints,hlen⟩:=MB hn hpre hwl;refine enter_call (zL (call w s₀ s₁ mg mb fa o pm cd doc a vs ns G Y ho (fd_plain hd) hcd hmg hobj hints hlen hg) λr s' hq=>?_);obtain⟨rfl,h2,h3,h4⟩:=hq;exact⟨.inl ⟨.bool true,.bool true,[],rfl,λ_=>rfl,.bool true,MC l _,λ_=>⟨List.Pairwise.nil,λ_ hm=>(nomatch hm)⟩⟩,h2,h3,h4⟩
end Bg
namespace L2
open PySem PySem.Spec PyProof.Rows
theorem o_:∀{vs:List Value} {ns:List Int},IntsAre vs ns->Vals (ns.map V.int) vs
 |_,_,.nil=>.nil
 |_,_,.cons n t h=>.cons ⟨t,rfl⟩ (o_ h)
def ph(H:Hp):Prop:=∀b,H b=none∨∃o xs,H b=some (.dF o (.lst xs))
theorem ME{P:Program}{w:World}{K:ak}{mg mb:Str->Option Value}{CX:fU}{k:Nat}{fa a:Addr}{fd:FuncData}{x:Str}{sp:Sp}{s₁:Shared}{vs:List Value}{ns:List Int}
 (KX:K.In s₁.heap) (hns:s₁.heap.Ns mainGlobals mg) (hb:s₁.heap.Ns builtinsNs mb) (hbb:∀x:Str,x≠"__name__"->mb x=bootBuiltins x) (hlim:s₁.heap.NoLimit) (hg:s₁.gens=#[])
 (ha:s₁.heap.get? a=some {cls:=.type "list",data:=.seq vs.toArray}) (hi:IntsAre vs ns) (hl:ns.length<=sizeLine) (hr:cw k callerA)
 (F:∀base:Heap,K.In base->base.Ns mainGlobals mg->dv P w K mg base CX k fa fd [x] sp) (hbind:∀(s:Shared) (u:Value),BindsTo s fd ⟨[u],[]⟩ [(x,u)])
 (hsp:∀H:Hp,ph H->aZ K H a (ns.map V.int)->sp [.ref a] H (λv _=>v=.bl true) λ_ _ _=>False)
 (vA:∀H e s',CX [] H s₁ (λ_ _ _=>False) e s'->False) :
 codeAny (model P w) callerA (.call (.ref fa) ⟨[.ref a],[]⟩) (λr s'=>r=.ok (.ret (.bool true))/\OldK s₁.heap s'.heap/\s'.os=s₁.os/\AllBare s'.gens) s₁:=by
 have rv:=o_ hi;have lenV:=hi.length;have core:∀H:Hp,ph H->aZ K H a (ns.map V.int)->bS P w H s₁.heap->(∀b,H b≠none->b=a)->(H a≠none->K.lookup a=none) ->
  codeAny (model P w) callerA (.call (.ref fa) ⟨[.ref a],[]⟩) (λr s'=>r=.ok (.ret (.bool true))/\OldK s₁.heap s'.heap/\s'.os=s₁.os/\AllBare s'.gens) s₁:=by
  intro H hO hS hok hA hK;have Bh:∀{b:Addr} {o:Obj},s₁.heap.get? b=some o->H b=none->(i4 s₁.heap H).get? b=some o:=λe n=>J' e n;have oY:∀{b:Addr} {o:Obj} {es:Array DictEntry} {ep:Nat},s₁.heap.get? b=some o->o.data=.dict es ep->H b=none:=λ{b o es ep} e d=>by
   cases q:H b with
   |none=>rfl
   |some u =>
    have e':b=a:=hA b (by rw[q];simp);subst e';rw[ha]at e;cases e;have d':Data.seq vs.toArray _=Data.dict es ep:=d;cases d'
  have rW:∀{b:Addr} {m:Str->Option Value},s₁.heap.Ns b m->(i4 s₁.heap H).Ns b m:=λ{b m} z_19=>by obtain⟨o,es,ep,e,d,r⟩:=z_19;exact⟨o,es,ep,Bh e (oY e d),d,r⟩
  have Bi:K.In (i4 s₁.heap H):=λb o e=>Bh (KX b o e) (by
   cases q:H b with
   |none=>rfl
   |some u =>
    have e':b=a:=hA b (by rw[q];simp);subst e';rw[hK (by rw[q];simp)]at e;cases e)
  have hM:Mod K mg (i4 s₁.heap H):=⟨Bi,rW hns,⟨mb,rW hb,hbb⟩,let⟨mc,h1,h2⟩:=hlim;⟨mc,rW h1,h2⟩⟩;have e0:rM P w K mg (i4 s₁.heap H) callerA [] s₁ H:=⟨rfl,hM,λb o e=>Ka e,Nat.le_of_eq (J_ _ _),trivial,λb hb=>absurd (show b∈([]:List Addr) from hb) (by simp),hok,.of_eq hg⟩;refine zL ((F _ Bi (rW hns)).run callerA [] s₁ H ⟨[.ref a],[]⟩ [.ref a] [.ref a] _ _ hr e0 (hbind s₁ (.ref a)) (.cons rfl .nil) (hsp H hO hS)) λr s' h=>?_;cases r with
  |error e=>exact(vA H e s' h).elim
  |ok fl =>
   cases fl with
   |next=>exact gb h
   |brk=>exact gb h
   |cont=>exact gb h
   |ret u =>
    obtain⟨v,H',os,bare,un,hok',r',q⟩:=h;have q':v=.bl true:=q;subst q';obtain rfl:u=Value.bool true:=r';refine⟨rfl,OldK.of_keep λb o e=>?_,os,bare⟩;cases q:H b with
    |none=>exact un.keep b o e q (by intro z;exact absurd (show b∈([]:List Addr) from z) (by simp)) (by simp)
    |some u =>
     rcases hO b with z|⟨ob,xs,z⟩
     ·rw[q]at z;cases z
     ·have z2:=un.fk b ob _ z;obtain⟨e1,_⟩:=hok b _ z;obtain⟨e2,_⟩:=hok' b _ z2;rw[e]at e1;cases e1;exact e2
 cases hk:K.lookup a with
 |some o =>
  have e:=KX a o hk;rw[ha]at e;cases e;refine core (λ_=>none) (λ_=>.inl rfl) (.inr ⟨_,vs.toArray,_,hk,rfl,rfl,rfl,by rw[bM,lenV];exact hl,by simpa using rv⟩) (λb u z=>by have z':(none:Option HO)=some u:=z;cases z') (λb z=>absurd rfl z) λz=>absurd rfl z
 |none =>
  refine core (λb=>if b=a then some (.dF {cls:=.type "list",data:=.seq vs.toArray} (.lst (ns.map V.int))) else none) (λb=>?_) (.inl (.inr ⟨{cls:=.type "list",data:=.seq vs.toArray},if_pos rfl⟩)) (λb u z=>?_) (λb z=>?_) λ_=>hk
  ·by_cases hb:b=a
   ·exact .inr ⟨_,_,if_pos hb⟩
   ·exact .inl (if_neg hb)
  ·by_cases hb:b=a
   ·have z':=(if_pos hb).symm.trans z;cases z';subst hb;exact⟨ha,by rw[ay];exact hl,vs,_,rv,ha⟩
   ·have z':=(if_neg hb).symm.trans z;cases z'
  ·by_cases hb:b=a
   ·exact hb
   ·exact absurd (if_neg hb) z
theorem MF{l:zM}{n k:Nat}{q:Program}{loose:List Str}{XP:(Str->Option Value)->Heap->Prop}{YP:World->Heap->Prop}{d:DefRec}{K:Params->ak}{CX:World->fU}{sp:World->Sp}{x:Str}
 (hn:l.most=some n) (hn2:n<=sizeLine) (hdf:d.params.defaults=[]) (hr:cw k callerA)
 (hY:∀(w:World) (h:Heap),YP w h->(K w.params).In h)
 (F:∀(w:World) (mg:Str->Option Value) (fa:Addr) (h:Heap),(K w.params).In h->h.Ns mainGlobals mg->mg d.name=some (.ref fa) ->
  ∃fd:FuncData,(∀(s:Shared) (u:Value),BindsTo s fd ⟨[u],[]⟩ [(x,u)]) /\
   ∀base:Heap,(K w.params).In base->base.Ns mainGlobals mg->dv l.prog w (K w.params) mg base (CX w) k fa fd [x] (sp w))
 (hsp:∀(w:World) (H:Hp) (a:Addr) (ns:List Int),ns.length<=n->ph H->aZ (K w.params) H a (ns.map V.int)->sp w [.ref a] H (λv _=>v=.bl true) λ_ _ _=>False)
 (vA:∀(w:World) (H:Hp) (s:Shared) (e:Value) (s':Shared),CX w [] H s (λ_ _ _=>False) e s'->False) :
 IS q loose XP YP l.row.toRowW d [] (λf vs=>zK f vs):=by
 refine Bg.MD hn hdf λw s₀ s₁ mg mb fa o pm cd doc a vs ns G Y ho hd hcd hmg hobj hints hlen hg=>?_;have KX:=hY w _ Y;obtain⟨fd,hb,hF⟩:=F w mg fa _ KX G.T.g hmg;exact ME KX G.T.g G.T.b G.T.builtins G.T.nolimit hg hobj hints (bR hlen hn2) hr hF hb (λH hO hS=>hsp w H a ns hlen hO hS) λH e s'=>vA w H s₁ e s'
def bC(s:Stmt):Arguments:=match s with
 | .FunctionDef _ a _ _ _ _ _ _ _ _=>a
 |_=>{posonlyargs:=[],args:=[],vararg:=none,kwonlyargs:=[],kw_defaults:=[],kwarg:=none,defaults:=[]}
def a7(s:Stmt):List Stmt:=match s with
 | .FunctionDef _ _ b _ _ _ _ _ _ _=>b
 |_=>[]
def aq(s:Stmt):Scope:=match s with
 | .FunctionDef _ _ _ _ _ _ sc _ _ _=>sc
 |_=>{kind:=.function,names:=[],isGenerator:=false,isCoroutine:=false}
abbrev E0:XK:=λ_ _ _=>False
structure mx(K:ak)(x qual:Str)(st:Stmt)(f:Addr)(fd:FuncData):Prop where
 ex:∃(oc:Value) (od:Option Addr) (kV doc pm:Value) (an:Option Addr) (cdv ct:Value) (osl:Array (Option Value)),
  fd=bA x qual (bC st) (a7 st) (aq st) .none kV doc pm an cdv ct/\K.lookup f=some ⟨oc,od,.func fd,osl⟩/\bJ K cdv qual=true
 kp:bG K (.ref f)=true
section
variable{P:Program}{w:World}{K:PySem.W.Frag}{mg:Str->Option Value}{base:Heap}
theorem mx.binds{x qual:Str}{st:Stmt}{f:Addr}{fd:FuncData}{ps:List Str}(F:mx K x qual st f fd)
 (h:∀(kV doc pm:Value) (an:Option Addr) (cdv ct:Value) (us:List Value),us.length=ps.length->bindArgs (bA x qual (bC st) (a7 st) (aq st) .none kV doc pm an cdv ct) ⟨us,[]⟩=pure (ps.zip us)):Binds K fd ps []:=by
 obtain⟨oc,od,kV,doc,pm,an,cdv,ct,osl,rfl,lk,hcd⟩:=F.ex;exact .all (h kV doc pm an cdv ct)
theorem Bj{x qual:Str}{st:Stmt}{f:Addr}{oc:Value}{od an:Option Addr}{osl:Array (Option Value)}{kV doc pm cdv ct:Value}(l:K.lookup f=some ⟨oc,od,.func (bA x qual (bC st) (a7 st) (aq st) .none kV doc pm an cdv ct),osl⟩)
 (c:bJ K cdv qual=true) (k:bG K (.ref f)=true):mx K x qual st f (bA x qual (bC st) (a7 st) (aq st) .none kV doc pm an cdv ct):=⟨⟨oc,od,kV,doc,pm,an,cdv,ct,osl,rfl,l,c⟩,k⟩
end
theorem Bk{A:Around}{k:Nat}(hr:cw k A):A.units+5<cLine:=qN (Nat.add_le_add_left (by decide:5<=64) _) hr.units
theorem pj{A B:Prop}(h:B):if false=true then A else B:=by
 rw[if_neg cF];exact h
theorem my{A B:Prop}(h:A):if true=true then A else B:=by
 rw[if_pos rfl];exact h
theorem vB{c A B:Prop}[Decidable c](hc:c)(h:B):if(!decide c)=true then A else B:=by
 rw[decide_eq_true hc];exact pj h
section
variable{κ:Type}[DecidableEq κ]
def eI(kvs:List (κ×V))(k:κ):Option V:=(kvs.find? λkv=>decide (kv.1=k)).map (·.2)
def putK(kvs:List (κ×V))(k:κ)(v:V):List (κ×V) :=
 if(kvs.any λkv=>decide (kv.1=k))=true then kvs.map (λkv=>if kv.1=k then(kv.1,v) else kv) else kvs++[(k,v)]
theorem pq{p:κ×V}{r:List (κ×V)}{k:κ}(e:p.1=k):eI (p::r) k=some p.2:=by simp[eI,gE,e]
theorem pv{p:κ×V}{r:List (κ×V)}{k:κ}(e:¬p.1=k):eI (p::r) k=eI r k:=by simp[eI,gE,e]
theorem Bl(k:κ):∀kvs:List (κ×V),(kvs.any λkv=>decide (kv.1=k))=(eI kvs k).isSome
 |[]=>rfl
 |p::r=>by
  rw[ia];by_cases e:p.1=k
  ·simp only[pq e,decide_eq_true e,Bool.true_or,zN]
  ·rw[pv e,decide_eq_false e,Bool.false_or];exact Bl k r
theorem vC(kvs:List (κ×V))(k:κ)(v:V):(putK kvs k v).length<=kvs.length+1:=by
 unfold putK
 split
 ·rw[ay];lia
 ·rw[a5,bW,dN];lia
theorem mj.pw{o:Option V}{u:Option Value}(r:mj o u):o.isSome=u.isSome:=by
 cases o with
 |none=>cases u with
  |none=>rfl
  |some _=>exact(show False from r).elim
 |some _=>cases u with
  |none=>exact(show False from r).elim
  |some _=>rfl
theorem KV.val{kvs:List (κ×V)}{vs:List (κ×Value)}(r:KV kvs vs)(k:κ):mj (eI kvs k) (valueAt vs k):=by
 unfold KV at r
 induction r with
 |nil=>exact True.intro
 |@cons p q ps qs h t ih =>
  obtain⟨h1,h2⟩:=h;by_cases e:p.1=k
  ·have e':q.1=k:=h1.symm.trans e;have b:valueAt (q::qs) k=some q.2:=by simp[valueAt,gE,e']
   rw[pq e,b];exact h2
  ·have e':¬q.1=k:=λz=>e (h1.trans z);have b:valueAt (q::qs) k=valueAt qs k:=by simp[valueAt,gE,e']
   rw[pv e,b];exact ih
theorem KV.any{kvs:List (κ×V)}{vs:List (κ×Value)}(r:KV kvs vs)(k:κ):(kvs.any λkv=>decide (kv.1=k))=vs.any λkv=>decide (kv.1=k):=by
 unfold KV at r
 induction r with
 |nil=>rfl
 |cons h t ih=>rw[ia,ia,ih,h.1]
theorem KV.repl{kvs:List (κ×V)}{vs:List (κ×Value)}(r:KV kvs vs)(k:κ){y:V}{u:Value}(ry:RelV y u) :
 KV (kvs.map λkv=>if kv.1=k then(kv.1,y) else kv) (vs.map λkv=>if kv.1=k then(kv.1,u) else kv):=by
 unfold KV at r ⊢
 induction r with
 |nil=>exact .nil
 |@cons p q ps qs h t ih =>
  rw[ba,ba];refine .cons ?_ ih;obtain⟨h1,h2⟩:=h;by_cases e:p.1=k
  ·rw[if_pos e,if_pos (h1.symm.trans e)];exact⟨h1,ry⟩
  ·rw[if_neg e,if_neg (λz=>e (h1.trans z))];exact⟨h1,h2⟩
theorem KV.put{kvs:List (κ×V)}{vs:List (κ×Value)}(r:KV kvs vs)(k:κ){y:V}{u:Value}(ry:RelV y u):KV (putK kvs k y) (stored vs k u):=by
 unfold putK stored;rw[r.any k];by_cases e:(vs.any λkv=>decide (kv.1=k))=true
 ·rw[if_pos e,if_pos e];exact r.repl k ry
 ·rw[if_neg e,if_neg e];exact Paired.snoc r ⟨rfl,ry⟩
theorem KV.length{kvs:List (κ×V)}{vs:List (κ×Value)}(r:KV kvs vs):kvs.length=vs.length:=Paired.length r
end
theorem rX{P:Program}{w:World}{k:Key}{u:Value}(r:RelV (kV k) u):(eT P w).is k u=true:=by
 cases k with
 |inl i=>obtain⟨t,e⟩:=(show ∃t,u=Value.int i t from r);subst e;exact u_ P w i t
 |inr x=>obtain⟨t,e⟩:=(show ∃t,u=Value.str x t from r);subst e;exact va P w x t
abbrev KT(H:Hp):List (DK×V)->List (DK×Addr×Value)->Prop:=Paired λp q=>p.1=q.1/\gj H p.1 q.2.1/\RelV p.2 q.2.2
theorem KT.val{H:Hp}{kvs:List (DK×V)}{xs:List (DK×Addr×Value)}(r:KT H kvs xs)(k:DK):mj (eI kvs k) ((atKey xs k).map (·.2)):=by
 induction r with
 |nil=>exact True.intro
 |@cons p q ps qs h t ih =>
  obtain⟨h1,_,h2⟩:=h;by_cases e:p.1=k
  ·have e':q.1=k:=h1.symm.trans e;have b:atKey (q::qs) k=some q.2:=by simp[atKey,gE,e']
   rw[pq e,b];exact h2
  ·have e':¬q.1=k:=λz=>e (h1.trans z);have b:atKey (q::qs) k=atKey qs k:=by simp[atKey,gE,e']
   rw[pv e,b];exact ih
theorem KT.repl{H:Hp}{kvs:List (DK×V)}{xs:List (DK×Addr×Value)}(r:KT H kvs xs)(k:DK){y:V}{u:Value}(ry:RelV y u) :
 KT H (kvs.map λkv=>if kv.1=k then(kv.1,y) else kv) (xs.map (putAt k u)):=by
 induction r with
 |nil=>exact .nil
 |@cons p q ps qs h t ih =>
  rw[ba,ba];refine .cons ?_ ih;obtain⟨h1,h2,h3⟩:=h;unfold putAt;by_cases e:p.1=k
  ·rw[if_pos e,if_pos (h1.symm.trans e)];exact⟨h1,h2,ry⟩
  ·rw[if_neg e,if_neg (λz=>e (h1.trans z))];exact⟨h1,h2,h3⟩
theorem KT.put{H:Hp}{kvs:List (DK×V)}{xs:List (DK×Addr×Value)}(r:KT H kvs xs)(k:DK){b:Addr}{y:V}{u:Value}(hb:gj H k b)(ry:RelV y u) :
 KT H (putK kvs k y) (storedH xs k b u):=by
 have e:(kvs.any λkv=>decide (kv.1=k))=(atKey xs k).isSome:=by
  rw[Bl,(r.val k).pw,uF]
 unfold putK storedH;rw[e];by_cases q:(atKey xs k).isSome=true
 ·rw[if_pos q,if_pos q];exact r.repl k ry
 ·rw[if_neg q,if_neg q];exact Paired.snoc r ⟨rfl,hb,ry⟩
theorem KT.keeps{H H':Hp}{kvs:List (DK×V)}{xs:List (DK×Addr×Value)}(r:KT H kvs xs)(ht:∀b ys,H b=some (.tup ys)->H' b=some (.tup ys)):KT H' kvs xs :=
 Paired.i0 r λ_ _ z=>⟨z.1,z.2.1.mono ht,z.2.2⟩
section
variable{P:Program}{w:World}{H:Hp}{h:Heap}{a:Addr}
theorem Bm{u:HO}(ok:bS P w H h)(e:Rd H a u):cM P w H h a u:=e.ok ok
theorem vE{kvs:List (Key×V)}(ok:bS P w H h)(e:Rd H a (.dK kvs)):kvs.length<=sizeLine/\(a==sysModules)=false/\∃vs,KV kvs vs/\h.DictOf (eT P w) a vs :=
 show cM P w H h a (.dK kvs) from Bm ok e
theorem Bn{kvs:List (Key×V)}(ok:bS P w H h)(e:H a=some (.dK kvs)):kvs.length<=sizeLine/\(a==sysModules)=false/\∃vs,KV kvs vs/\h.DictOf (eT P w) a vs:=vE ok (.inl e)
mutual
theorem key_is{H:Hp}{h:Heap}(ok:bS P w H h):∀{k:DK} {v:V} {u:Value},gH H k v->RelV v u->dh h k u
 |_,_,_,.int i,r=>by obtain⟨t,e⟩:=r;subst e;exact .int i t
 |_,_,_,.str x,r=>by obtain⟨t,e⟩:=r;subst e;exact .str x t
 |_,_,_,.tup (a:=a) (vs:=vs) h1 h2,r=>by
  obtain⟨_,its,rv,⟨o,g1,g2,n,g3⟩,_⟩:=(show cM P w H h a (.tup vs) from ok a _ h1);cases (show _=Value.ref a from r);exact .tup g1 g2 g3 (by simpa using Bo ok h2 rv)
theorem Bo{H:Hp}{h:Heap}(ok:bS P w H h):∀{ks:List DK} {vs:List V} {us:List Value},gI H ks vs->Vals vs us->dc h ks us
 |_,_,_,.nil,r=>by cases r;exact .nil
 |_,_,_,.cons h1 h2,r=>by
  cases r with
  |cons r1 r2=>exact .cons (key_is ok h1 r1) (Bo ok h2 r2)
end
theorem rY{k:DK}(ok:bS P w H h)(e:gj H k a):(mi P w).is h k a:=⟨key_is ok e.at_ rfl,e.deep⟩
theorem vF{A:Around}(hu:A.units+5<cLine):(mi P w).room A.in1:=by
 show A.units+1+4<cLine;lia
theorem vG{kvs:List (DK×V)}(ok:bS P w H h)(e:Rd H a (.dT kvs)):kvs.length<=sizeLine/\(a==sysModules)=false /\
 ∃xs,KT H kvs xs/\h.DictOfH (mi P w) a xs:=by
 obtain⟨z,y,xs,r,o,es,ep,h1,h2,h3,h4,h5⟩:=(show cM P w H h a (.dT kvs) from Bm ok e);refine⟨z,y,xs,r,o,es,ep,h1,h2,h3,h4,λx hx=>?_,h5⟩;have all:∀{l:List (DK×V)} {m:List (DK×Addr×Value)},KT H l m->∀x∈m,(mi P w).is h x.1 x.2.1:=by
  intro l m q
  induction q with
  |nil=>intro x hx;exact nomatch hx
  |@cons p q ps qs hq t ih =>
   intro x hx;rcases a8.mp hx with e|hx
   ·subst e;exact rY ok (by rw[<-hq.1];exact hq.2.1)
   ·exact ih x hx
 exact all r x hx
theorem Bp{kvs:List (DK×V)}(ok:bS P w H h)(e:H a=some (.dT kvs)):kvs.length<=sizeLine/\(a==sysModules)=false /\
 ∃xs,KT H kvs xs/\h.DictOfH (mi P w) a xs:=vG ok (.inl e)
end
def fE(H:Hp)(a:Addr)(y:V)(r:Option V):Prop :=
 (∃kvs k,Rd H a (.dK kvs)/\y=kV k/\r=eI kvs k)∨∃kvs k b,Rd H a (.dT kvs)/\y=.ref b/\gj H k b/\r=eI kvs k
def j0(H:Hp)(a:Addr)(y v:V)(H':Hp):Prop :=
 (∃kvs k,H a=some (.dK kvs)/\y=kV k/\kvs.length<sizeLine/\H'=upd H a (.dK (putK kvs k v))) ∨
 ∃kvs k b,H a=some (.dT kvs)/\y=.ref b/\gj H k b/\kvs.length<sizeLine/\H'=upd H a (.dT (putK kvs k v))
theorem fE.k{H:Hp}{a:Addr}{kvs:List (Key×V)}{k:Key}(e:H a=some (.dK kvs)):fE H a (kV k) (eI kvs k):=.inl ⟨kvs,k,.inl e,rfl,rfl⟩
theorem fE.t{H:Hp}{a b:Addr}{kvs:List (DK×V)}{k:DK}(e:H a=some (.dT kvs))(eb:gj H k b):fE H a (.ref b) (eI kvs k):=.inr ⟨kvs,k,b,.inl e,rfl,eb,rfl⟩
theorem j0.k{H:Hp}{a:Addr}{kvs:List (Key×V)}{k:Key}{v:V}(e:H a=some (.dK kvs))(hl:kvs.length<sizeLine):j0 H a (kV k) v (upd H a (.dK (putK kvs k v))):=.inl ⟨kvs,k,e,rfl,hl,rfl⟩
theorem j0.t{H:Hp}{a b:Addr}{kvs:List (DK×V)}{k:DK}{v:V}(e:H a=some (.dT kvs))(eb:gj H k b)(hl:kvs.length<sizeLine) :
 j0 H a (.ref b) v (upd H a (.dT (putK kvs k v))):=.inr ⟨kvs,k,b,e,rfl,eb,hl,rfl⟩
section
variable{X:Cx}{pins:List (Addr×Obj)}{σ:St}{H:Hp}{s:Shared}{a:Addr}{y v:V}{u r:Value}{o:Option V}{A:Around}{E:Value->Shared->Prop}
theorem Inv.big(I:Inv X pins σ H s):sysModules<s.heap.objs.size:=by
 have h:mainGlobals<s.heap.objs.size:=(I.mod.glob.keeps I.bk).lt;exact Nat.lt_trans (by decide) h
theorem MG{Q:Value->Shared->Prop}(hu:A.units+5<cLine)(I:Inv X pins σ H s)(g:fE H a y o)(ry:RelV y u)(h:∀s',Inv X pins σ H s'->Q (.bool o.isSome) s') :
 wpAny (model X.prog X.w) A (compareOp .In u (.ref a)) Q E s:=by
 rcases g with⟨kvs,k,e,ey,l⟩|⟨kvs,k,b,e,ey,eb,l⟩
 ·subst ey;obtain⟨z,hd,vs,rel,dd⟩:=vE I.hok e;refine wpAny_in_of (rX ry) hd dd.mapOf ?_;rw[<-(rel.val k).pw,<-l];exact h _ (I.tok _)
 ·subst ey;cases (show u=Value.ref b from ry);obtain⟨z,hd,xs,rel,dd⟩:=vG I.hok e;refine wpAny_in_heap (vF hu) (rY I.hok eb) hd dd ?_;have q:=(rel.val k).pw;rw[uF]at q;rw[<-q,<-l];exact h _ (I.tok _)
theorem MH{Q:Value->Shared->Prop}(hu:A.units+5<cLine)(I:Inv X pins σ H s)(g:fE H a y o)(ry:RelV y u)(h:∀s',Inv X pins σ H s'->Q (.bool (!o.isSome)) s') :
 wpAny (model X.prog X.w) A (compareOp .NotIn u (.ref a)) Q E s:=by
 rcases g with⟨kvs,k,e,ey,l⟩|⟨kvs,k,b,e,ey,eb,l⟩
 ·subst ey;obtain⟨z,hd,vs,rel,dd⟩:=vE I.hok e;refine wpAny_notIn_of (rX ry) hd dd.mapOf ?_;rw[<-(rel.val k).pw,<-l];exact h _ (I.tok _)
 ·subst ey;cases (show u=Value.ref b from ry);obtain⟨z,hd,xs,rel,dd⟩:=vG I.hok e;refine wpAny_notIn_heap (vF hu) (rY I.hok eb) hd dd ?_;have q:=(rel.val k).pw;rw[uF]at q;rw[<-q,<-l];exact h _ (I.tok _)
theorem vH{h':Heap}{t':Nat}{ob:HO}(I:Inv X pins σ H s)(mu:oK (H a))(hs:fh a s.heap h')(he:∃q,h'.get? a=some q)(new:cM X.prog X.w (upd H a ob) h' a ob) :
 Inv X pins σ (upd H a ob) {s with heap:=h',toks:=t'} :=
 I.write (x:=a) (e:=a) mu (.inl rfl) (λb q hb z=>(hs.2 b hb).trans z) he new
theorem Bq{P:Program}{w:World}{H':Hp}{h':Heap}{kvs:List (Key×V)}{vs:List (Key×Value)}(z:kvs.length<=sizeLine)(hd:(a==sysModules)=false)(rel:KV kvs vs)(dd:h'.DictOf (eT P w) a vs) :
 cM P w H' h' a (.dK kvs):=⟨z,hd,vs,rel,dd⟩
theorem MI{H':Hp}{Q:Unit->Shared->Prop}(hu:A.units+5<cLine)(I:Inv X pins σ H s)(g:j0 H a y v H')(ry:RelV y u)(rv:RelV v r)(h:∀s',Inv X pins σ H' s'->Q () s') :
 wpAny (model X.prog X.w) A (setItem (.ref a) u r) Q E s:=by
 rcases g with⟨kvs,k,e,ey,l,eH⟩|⟨kvs,k,b,e,ey,eb,l,eH⟩
 ·subst ey eH;obtain⟨z,hd,vs,rel,dd⟩:=Bn I.hok e;have hz:vs.length<=sizeLine:=by rw[<-rel.length];exact z
  have hl:(putK kvs k v).length<=sizeLine:=by have:=vC kvs k v;lia
  refine wpAny_setItem_pairs (hsz:=hz) (rX ry) dd λh' kP hs=>h _ ?_;have he:∃q,h'.get? a=some q:=let⟨q,_,_,hq,_⟩:=kP;⟨q,hq⟩
  exact vH I (by rw[e];exact True.intro) hs he (Bq hl hd (rel.put k rv) kP)
 ·subst ey eH;cases (show u=Value.ref b from ry);obtain⟨z,hd,xs,rel,dd⟩:=Bp I.hok e;have hz:xs.length<=sizeLine:=by rw[<-Paired.length rel];exact z
  have hl:(putK kvs k v).length<=sizeLine:=by have:=vC kvs k v;lia
  refine wpAny_setItem_heap (hsz:=hz) (vF hu) (rY I.hok eb) dd λh' kP hs=>h _ ?_;obtain⟨q,es,ep,hq,h2,h3,h4,_,h5⟩:=kP;refine vH I (by rw[e];exact True.intro) hs ⟨q,hq⟩ ⟨hl,hd,_,(rel.put k eb rv).keeps λc ys ec=>?_,q,es,ep,hq,h2,h3,h4,h5⟩;rw[aY (J8 ec e (λz=>nomatch z))];exact ec
end
def Br(ty td:TE):TE:=λσ H Q=>ty σ H λy H1=>td σ H1 λx H2=>∃a o,x=.ref a/\fE H2 a y o/\Q (.bl o.isSome) H2
def vI(ty td:TE):TE:=λσ H Q=>ty σ H λy H1=>td σ H1 λx H2=>∃a o,x=.ref a/\fE H2 a y o/\Q (.bl (!o.isSome)) H2
def MJ(td ty tv:TE):TS:=λD σ H=>tv σ H λv H1=>td σ H1 λx H2=>ty σ H2 λy H3=>∃a H4,x=.ref a/\j0 H3 a y v H4/\D.nx σ H4
section
variable{X:Cx}{o i e value:Expr}{pos pos' tpos:Pos}{td ty tv:TE}
theorem MK(hu:X.A.units+5<cLine)(hi:PE X i ty)(ho:PE X o td):PC X .In i o (Br ty td):=by
 intro pins s σ H Q I h;refine aK (hi pins s σ H _ I h) λiv s1 ⟨y,H1,I1,ry,q1⟩=>aK (ho pins s1 σ H1 _ I1 q1) λu s2 ⟨x,H2,I2,rx,a,ov,ex,g,q2⟩=>?_;subst ex;obtain rfl:u=Value.ref a:=rx;exact MG hu I2 g ry λs3 I3=>⟨.bl ov.isSome,H2,I3,rfl,q2⟩
theorem Bs(hu:X.A.units+5<cLine)(hi:PE X i ty)(ho:PE X o td):PC X .NotIn i o (vI ty td):=by
 intro pins s σ H Q I h;refine aK (hi pins s σ H _ I h) λiv s1 ⟨y,H1,I1,ry,q1⟩=>aK (ho pins s1 σ H1 _ I1 q1) λu s2 ⟨x,H2,I2,rx,a,ov,ex,g,q2⟩=>?_;subst ex;obtain rfl:u=Value.ref a:=rx;exact MH hu I2 g ry λs3 I3=>⟨.bl (!ov.isSome),H2,I3,rfl,q2⟩
theorem Bt(hu:X.A.units+5<cLine)(ho:PE X o td)(hi:PE X i ty)(hv:PE X value tv)(hs:swapsWith value (some (.Subscript o i pos')) pos.line X.env=pure false) :
 PS X (.Assign [.Subscript o i pos'] value pos) (MJ td ty tv):=by
 intro pins s σ H D I h;refine wpAny_Assign_Subscript (aK (hv pins s σ H _ I h) λr s1 ⟨v,H1,I1,rv,q1⟩=>aK (ho pins s1 σ H1 _ I1 q1) λu s2 ⟨x,H2,I2,rx,q2⟩=>aK (hi pins s2 σ H2 _ I2 q2) λiv s3 ⟨y,H3,I3,ry,a,H4,ex,g,q3⟩=>?_) hs;subst ex;obtain rfl:u=Value.ref a:=rx;exact MI hu I3 g ry rv λs4 I4=>⟨σ,H4,I4,q3⟩
end
theorem ML{P:Program}{w:World}{H:Hp}(h:Heap)(hb:sysModules<h.objs.size):cM P w H (h.push {cls:=.type "dict",data:=.dict #[]}) h.objs.size (.dK []) :=
 ⟨dO _,beq_eq_false_iff_ne.mpr (dn (cS hb)),[],.nil,Heap.DictOf.new h⟩
theorem MM{P:Program}{w:World}{H:Hp}(h:Heap)(hb:sysModules<h.objs.size):cM P w H (h.push {cls:=.type "dict",data:=.dict #[]}) h.objs.size (.dT []) :=
 ⟨dO _,beq_eq_false_iff_ne.mpr (dn (cS hb)),[],.nil,_,#[],0,c7 _ rfl,⟨rfl,rfl,rfl⟩,rfl,rfl,List.nodup_nil⟩
def MN:TE:=λ_ H Q=>∀p,H p=none->Q (.ref p) (upd H p (.dT []))
section
variable{X:Cx}{pos:Pos}
theorem MO:PE X (.Dict [] [] pos) MN:=λpins s σ H Q I h =>
 wpAny_Dict_empty ⟨.ref s.heap.objs.size,_,I.laid (a:=s.heap.objs.size) (o:=.dT []) (t':=s.toks) (λ_ _ q=>bt _ q) (aQ _) (MM s.heap I.big),rfl,h _ (I.hok.fresh (aQ _))⟩
end
def vJ:List (TE×TE)->St->Hp->(List (V×V)->Hp->Prop)->Prop
 |[],_,H,Q=>Q [] H
 |(tk,tv)::r,σ,H,Q=>tk σ H λx H1=>tv σ H1 λy H2=>vJ r σ H2 λps H3=>Q ((x,y)::ps) H3
abbrev VV:List (V×V)->List (Value×Value)->Prop:=Paired λp q=>RelV p.1 q.1/\RelV p.2 q.2
def rZ(X:Cx)(pos:Pos)(keys:List (Option Expr))(values:List Expr)(jb:List (TE×TE)):Prop :=
 ∀(pins:List (Addr×Obj)) (s:Shared) (σ:St) (H:Hp) (Q:List (V×V)->Hp->Prop),Inv X pins σ H s->vJ jb σ H Q ->
  wpAny (model X.prog X.w) X.A (evalPairs (pairTrees keys values X.env pos)) (λvs s'=>∃ps H',Inv X pins σ H' s'/\VV ps vs/\Q ps H') X.xe s
theorem MP{X:Cx}{pos:Pos}:rZ X pos [] [] []:=λpins s σ H Q I h=>pairTrees_nil_walk ⟨[],H,I,.nil,h⟩
theorem MQ{X:Cx}{pos:Pos}{k v:Expr}{ks:List (Option Expr)}{vs:List Expr}{tk tv:TE}{jb:List (TE×TE)}(hk:PE X k tk)(hv:PE X v tv)(hr:rZ X pos ks vs jb) :
 rZ X pos (some k::ks) (v::vs) ((tk,tv)::jb):=λpins s σ H Q I h =>
 pairTrees_cons_walk (aK (hk pins s σ H _ I h) λu s1 ⟨x,H1,I1,rx,q1⟩=>aK (hv pins s1 σ H1 _ I1 q1) λw2 s2 ⟨y,H2,I2,ry,q2⟩ =>
  aK (hr pins s2 σ H2 _ I2 q2) λws s3 bX=>by obtain⟨ps,H3,I3,rel,q3⟩:=bX;exact⟨(x,y)::ps,H3,I3,.cons ⟨rx,ry⟩ rel,q3⟩)
def pA(kvs more:List (Key×V)):List (Key×V):=more.foldl (λacc kv=>putK acc kv.1 kv.2) kvs
theorem KV.merge:∀{more:List (Key×V)} {rs:List (Key×Value)} {kvs:List (Key×V)} {vs:List (Key×Value)},KV more rs->KV kvs vs->KV (pA kvs more) (merged vs rs):=by
 intro more rs kvs vs r;unfold KV at r
 induction r generalizing kvs vs with
 |nil=>intro q;exact q
 |@cons p q ps qs h t ih =>
  intro r0;have e:KV (putK kvs p.1 p.2) (stored vs q.1 q.2):=by
   have:=r0.put p.1 h.2;rw[<-h.1];exact this
  exact ih e
theorem Bu:∀(more kvs:List (Key×V)),(pA kvs more).length<=kvs.length+more.length
 |[],kvs=>by show kvs.length<=kvs.length+0;lia
 |p::r,kvs=>by
  have h1:=Bu r (putK kvs p.1 p.2);have h2:=vC kvs p.1 p.2;show(pA (putK kvs p.1 p.2) r).length<=_;rw[bW];lia
theorem Bv{P:Program}{w:World}:∀{kvs:List (Key×V)} {ws:List (Value×Value)},VV (kvs.map λkv=>(kV kv.1,kv.2)) ws->∃rs,Carries (eT P w) ws rs/\KV kvs rs
 |[],_,r=>by rw[fR]at r;cases r;exact⟨[],True.intro,.nil⟩
 |p::kvs,_,r=>by
  rw[ba]at r;cases r with
  |@cons a b as bs h t =>
   obtain⟨rs,c,q⟩:=Bv (P:=P) (w:=w) t;obtain⟨b1,b2⟩:=b;exact⟨(p.1,b2)::rs,⟨rX h.1,rfl,c⟩,.cons ⟨rfl,h.2⟩ q⟩
def Bw(jb:List (TE×TE)):TE:=λσ H Q=>∀p,H p=none->vJ jb σ (upd H p (.dK [])) λps H2=>H2 p=some (.dK [])/\∃kvs:List (Key×V),ps=kvs.map (λkv=>(kV kv.1,kv.2))/\kvs.length<=15/\Q (.ref p) (upd H2 p (.dK (pA [] kvs)))
theorem MR{X:Cx}{pos:Pos}{keys:List (Option Expr)}{values:List Expr}{jb:List (TE×TE)}(h:rZ X pos keys values jb)(hall:keys.all (·.isSome)=true)(hl:keys.length=values.length)(h0:keys≠[])
 (h15:keys.length<=15):PE X (.Dict keys values pos) (Bw jb):=by
 intro pins s σ H Q I q;have hn:=I.hok.fresh (aQ s.heap.objs.size);have I1:=I.laid (a:=s.heap.objs.size) (o:=.dK []) (h':=s.heap.push {cls:=.type "dict",data:=.dict #[]}) (t':=s.toks) (λ_ _ q=>bt _ q) (aQ _) (ML s.heap I.big);refine wpAny_Dict_walk (knd:=eT X.prog X.w) hall hl h0 h15 (aK (h pins _ σ _ _ I1 (q _ hn)) λws s2 ⟨ps,H2,I2,rel,e,kvs,ep,lk,q2⟩=>?_);subst ep;obtain⟨rs,c,rk⟩:=Bv (P:=X.prog) (w:=X.w) rel;obtain⟨z,hd,pB,r0,dd⟩:=Bn I2.hok e;cases r0;refine⟨rs,c,dd,λh' kP hs=>⟨.ref s.heap.objs.size,_,?_,rfl,q2⟩⟩;have hz:(pA [] kvs).length<=sizeLine:=by
  have h1:=Bu kvs [];rw[dN]at h1;rw[uv];lia
 have he:∃q,h'.get? s.heap.objs.size=some q:=let⟨q,_,_,hq,_⟩:=kP;⟨q,hq⟩
 exact vH I2 (by rw[e];exact True.intro) hs he (Bq hz hd (rk.merge .nil) kP)
end L2
namespace L2
open PySem PySem.Spec PyProof.Rows
end L2
namespace EE
open PySem PySem.Spec PyProof.Rows L2
structure aC(K:ak)(mg:Str->Option Value)(x:Str)(st:Stmt)(ps:List Str):Prop where
 ex:∃f fd,mx K x x st f fd/\Binds K fd ps []/\mg x=some (.ref f)
section
variable{P:Program}{w:World}{K:PySem.W.Frag}{mg:Str->Option Value}{base:Heap}
theorem bT{h:Heap}{x:Str}{st:Stmt}{ps:List Str}{f:Addr}{oc:Value}{od an:Option Addr}{osl:Array (Option Value)}{kV doc pm cdv ct:Value}(X:K.In h)(G:h.Ns mainGlobals mg)
 (a:a6 K mainGlobals x=some (some (.ref f))) (l:K.lookup f=some ⟨oc,od,.func (bA x x (bC st) (a7 st) (aq st) .none kV doc pm an cdv ct),osl⟩)
 (c:bJ K cdv x=true) (k:bG K (.ref f)=true)
 (hb:∀(kV doc pm:Value) (an:Option Addr) (cdv ct:Value) (us:List Value),us.length=ps.length->bindArgs (bA x x (bC st) (a7 st) (aq st) .none kV doc pm an cdv ct) ⟨us,[]⟩=pure (ps.zip us)):aC K mg x st ps:=by
 have F:=Bj (st:=st) l c k;exact⟨f,_,F,F.binds hb,ib X G a⟩
end
section
variable{X:Cx}{k:Nat}{ps:List Str}{sp:Sp}{x:Str}{p pos:Pos}{e:Expr}{es:List Expr}{t:TA}
theorem MS{i:Int}(h:∃t,X.mg x=some (.int i t))(hg:Gl X x)(hd:(x==("__debug__":Str))=false:=by decide):PE X (.Name x pos) (tC (.int i)):=by
 obtain⟨t,e⟩:=h;exact AA (v:=.int i) hg e ⟨t,rfl⟩ hd
def Bx:V->List V->Hp->VK->Prop:=λx vs H Q=>∃l ys y,x=.ref l/\vs=[]/\H l=some (.lst (ys++[y]))/\Q y (upd H l (.lst ys))
theorem r8:o8 X "list.pop" Bx:=by
 intro pins s σ H x vs v us Q I rx rv h;obtain⟨l,ys,y,rfl,rfl,hH,q⟩:=h;refine My pins s σ H _ _ v us Q I rx rv ⟨l,ys++[y],y,rfl,rfl,hH,by simp,?_⟩;rw[List.dropLast_concat];exact q
end
theorem By{c A B:Prop}[Decidable c](hc:¬c)(h:A):if(!decide c)=true then A else B:=by
 rw[decide_eq_false hc];exact my h
theorem pC{c A B:Prop}[Decidable c](hc:c)(h:A):if decide c=true then A else B:=by
 rw[decide_eq_true hc];exact my h
theorem r9{c A B:Prop}[Decidable c](hc:¬c)(h:B):if decide c=true then A else B:=by
 rw[decide_eq_false hc];exact pj h
theorem MT{c A B:Prop}[Decidable c](h1:c->A)(h2:¬c->B):if decide c=true then A else B:=by
 by_cases h:c
 ·exact pC h (h1 h)
 ·exact r9 h (h2 h)
theorem snoc_cases{α:Type}(xs:List α):xs=[]∨∃ys y,xs=ys++[y]:=by
 cases xs with
 |nil=>exact .inl rfl
 |cons a r=>exact .inr ⟨(a::r).dropLast,(a::r).getLast (by simp),(List.dropLast_concat_getLast (by simp)).symm⟩
inductive pD where
 |bw
 |pair (l r:pD)
def pD.size:pD->Nat
 | .bw=>0
 | .pair l r=>l.size+r.size+1
def TR(H:Hp):pD->V->Prop
 | .bw,v=>v=.non
 | .pair l r,v=>∃a x y,v=.ref a/\H a=some (.tup [x,y])/\TR H l x/\TR H r y
def sizes:List pD->Nat
 |[]=>0
 |t::r=>t.size+sizes r
end EE
namespace EE
open PySem PySem.Spec PyProof.Rows L2 SeqAt
inductive Dt where
 |non|bl (b:Bool)|int (i:Int)|str (x:Str)|tup (xs:List Dt)|lst (xs:List Dt)
mutual
def aV:Dt->Dt->Bool
 | .non,.non=>true
 | .bl a,.bl b=>a==b
 | .bl a,.int b=>(if a then 1 else 0)==b
 | .int a,.bl b=>a==(if b then 1 else 0)
 | .int a,.int b=>a==b
 | .str a,.str b=>a==b
 | .tup xs,.tup ys=>fF xs ys
 | .lst xs,.lst ys=>fF xs ys
 |_,_=>false
def fF:List Dt->List Dt->Bool
 |[],[]=>true
 |x::xs,y::ys=>aV x y&&fF xs ys
 |_,_=>false
end
mutual
def cI:Dt->Nat
 | .tup xs=>d6 xs+1
 | .lst xs=>d6 xs+1
 |_=>0
def d6:List Dt->Nat
 |[]=>0
 |x::xs=>max (cI x) (d6 xs)
end
mutual
theorem mz:∀d:Dt,aV d d=true
 | .non=>rfl
 | .bl b=>by simp[aV]
 | .int i=>by simp[aV]
 | .str x=>by simp[aV]
 | .tup xs=>by simp only[aV];exact vK xs
 | .lst xs=>by simp only[aV];exact vK xs
theorem vK:∀ds:List Dt,fF ds ds=true
 |[]=>rfl
 |d::ds=>by simp only[fF,mz d,vK ds,lU]
end
mutual
def gN:Dt->Bool
 | .bl _=>false
 | .tup xs=>gO xs
 | .lst xs=>gO xs
 |_=>true
def gO:List Dt->Bool
 |[]=>true
 |x::xs=>gN x&&gO xs
end
mutual
theorem Bz:∀{d e:Dt},gN d=true->gN e=true->aV d e=true->d=e
 | .non,.non,_,_,_=>rfl
 | .int a,.int b,_,_,h=>by simp only[aV,beq_iff_eq]at h;rw[h]
 | .str a,.str b,_,_,h=>by simp only[aV,beq_iff_eq]at h;rw[h]
 | .tup xs,.tup ys,p,q,h=>by
  simp only[aV]at h;simp only[gN]at p q;rw[vL p q h]
 | .lst xs,.lst ys,p,q,h=>by
  simp only[aV]at h;simp only[gN]at p q;rw[vL p q h]
 | .bl _,_,p,_,_=>by simp[gN]at p
 |_,.bl _,_,q,_=>by simp[gN]at q
 | .non,.int _,_,_,h=>by simp[aV]at h
 | .non,.str _,_,_,h=>by simp[aV]at h
 | .non,.tup _,_,_,h=>by simp[aV]at h
 | .non,.lst _,_,_,h=>by simp[aV]at h
 | .int _,.non,_,_,h=>by simp[aV]at h
 | .int _,.str _,_,_,h=>by simp[aV]at h
 | .int _,.tup _,_,_,h=>by simp[aV]at h
 | .int _,.lst _,_,_,h=>by simp[aV]at h
 | .str _,.non,_,_,h=>by simp[aV]at h
 | .str _,.int _,_,_,h=>by simp[aV]at h
 | .str _,.tup _,_,_,h=>by simp[aV]at h
 | .str _,.lst _,_,_,h=>by simp[aV]at h
 | .tup _,.non,_,_,h=>by simp[aV]at h
 | .tup _,.int _,_,_,h=>by simp[aV]at h
 | .tup _,.str _,_,_,h=>by simp[aV]at h
 | .tup _,.lst _,_,_,h=>by simp[aV]at h
 | .lst _,.non,_,_,h=>by simp[aV]at h
 | .lst _,.int _,_,_,h=>by simp[aV]at h
 | .lst _,.str _,_,_,h=>by simp[aV]at h
 | .lst _,.tup _,_,_,h=>by simp[aV]at h
theorem vL:∀{ds es:List Dt},gO ds=true->gO es=true->fF ds es=true->ds=es
 |[],[],_,_,_=>rfl
 |d::ds,e::es,p,q,h=>by
  simp only[gO,eP]at p q;simp only[fF,eP]at h;rw[Bz p.1 q.1 h.1,vL p.2 q.2 h.2]
 |[],_::_,_,_,h=>by simp[fF]at h
 |_::_,[],_,_,h=>by simp[fF]at h
end
mutual
inductive DR(K:ak)(H:Hp):Dt->V->Prop where
 |non:DR K H .non .non
 |bl (b:Bool):DR K H (.bl b) (.bl b)
 |int (i:Int):DR K H (.int i) (.int i)
 |str (x:Str):DR K H (.str x) (.str x)
 |tup {a:Addr} {xs:List V} {ds:List Dt}:a9 K H a xs->dj K H ds xs->DR K H (.tup ds) (.ref a)
 |lst {a:Addr} {xs:List V} {ds:List Dt}:aZ K H a xs->dj K H ds xs->DR K H (.lst ds) (.ref a)
inductive dj(K:ak)(H:Hp):List Dt->List V->Prop where
 |nil:dj K H [] []
 |cons {d:Dt} {v:V} {ds:List Dt} {vs:List V}:DR K H d v->dj K H ds vs->dj K H (d::ds) (v::vs)
end
section
variable{X:Cx}{pins:List (Addr×Obj)}{σ:L2.St}{H:Hp}{s:Shared}
theorem BA{a:Addr}{xs ys:List V}(I:Inv X pins σ H s)(h:aZ X.K H a xs)(h':a9 X.K H a ys):False:=by
 obtain⟨its,_,p,_⟩:=I.list h;obtain⟨its',_,q,_⟩:=I.tuple h';exact ne_of_list_tuple p.isList (show s.heap.IsTuple a its'.toArray from q) rfl
mutual
theorem DR.inj(I:Inv X pins σ H s):∀{d e:Dt} {v:V},DR X.K H d v->DR X.K H e v->d=e
 |_,_,_,.non,h=>by cases h;rfl
 |_,_,_,.bl _,h=>by cases h;rfl
 |_,_,_,.int _,h=>by cases h;rfl
 |_,_,_,.str _,h=>by cases h;rfl
 |_,_,_,.tup p q,h=>by
  cases h with
  |tup p' q' =>
   have e:=I.mo p p';subst e;rw[dj.inj I q q']
  |lst p' q'=>exact(BA I p' p).elim
 |_,_,_,.lst p q,h=>by
  cases h with
  |lst p' q' =>
   have e:=I.rB p p';subst e;rw[dj.inj I q q']
  |tup p' q'=>exact(BA I p p').elim
theorem dj.inj(I:Inv X pins σ H s):∀{ds es:List Dt} {vs:List V},dj X.K H ds vs->dj X.K H es vs->ds=es
 |_,_,_,.nil,h=>by cases h;rfl
 |_,_,_,.cons p q,h=>by
  cases h with
  |cons p' q'=>rw[DR.inj I p p',dj.inj I q q']
end
theorem dj.len:∀{ds:List Dt} {vs:List V},dj X.K H ds vs->ds.length=vs.length
 |_,_,.nil=>rfl
 |_,_,.cons _ q=>by simp[dj.len q]
theorem dj.at:∀{ds:List Dt} {vs:List V} {i:Nat} {v:V},dj X.K H ds vs->vs[i]?=some v->∃d,ds[i]?=some d/\DR X.K H d v
 |_,_,_,_,.nil,e=>by simp at e
 |_,_,0,_,.cons r _,e=>by simp at e;subst e;exact⟨_,rfl,r⟩
 |_,_,i+1,v,.cons _ q,e=>by
  obtain⟨d,h1,h2⟩:=dj.at (i:=i) (v:=v) q (by simpa using e);exact⟨d,by simpa using h1,h2⟩
def gp(ds es:List Dt)(i:Nat):Bool:=match ds[i]?,es[i]? with
 |some d,some e=>aV d e
 |_,_=>true
theorem MU(ds es:List Dt)(d e:Dt)(n:Nat):(aN (n+1)).all (gp (d::ds) (e::es))=(aV d e&&(aN n).all (gp ds es)):=by
 rw[HZ,lW,H_];rfl
theorem r_:∀ds es:List Dt,fF ds es=((aN (min ds.length es.length)).all (gp ds es)&&ds.length==es.length)
 |[],[]=>rfl
 |[],_::_=>by simp[fF]
 |_::_,[]=>by simp[fF]
 |d::ds,e::es=>by
  have ih:=r_ ds es;simp only[fF,bW];rw[Ia,MU,ih,Ib];congr 2;rw[eB];simp
theorem vM:∀{ds:List Dt} {i:Nat} {d:Dt},ds[i]?=some d->cI d<=d6 ds
 |[],_,_,e=>by simp at e
 |x::xs,0,_,e=>by simp at e;subst e;simp only[d6];lia
 |x::xs,i+1,d,e=>by
  have:=vM (ds:=xs) (i:=i) (d:=d) (by simpa using e);simp only[d6];lia
theorem sa{xs:List V}{us:List Value}{j:Nat}(r:Vals xs us)(h:j<us.toArray.size):∃x,xs[j]?=some x/\RelV x us.toArray[j]:=by
 have hl:=r.length;have hj:j<xs.length:=by simpa[hl]using h
 have e:xs[j]?=some xs[j]:=aX hj;obtain⟨u,hu,ru⟩:=r.get e;refine⟨_,e,?_⟩;have:us.toArray[j]=u:=by
  have z:us[j]?=some us[j]:=aX (by simpa using h);rw[z]at hu;simpa using dD hu
 rw[this];exact ru
theorem units_in1{A:Around}:A.in1.units=A.units+1:=rfl
theorem vN(I:Inv X pins σ H s):∀(n:Nat) (A:Around) (d e:Dt) (v v':V) (u u':Value),cI d<=n->A.units+n<cLine->DR X.K H d v->DR X.K H e v'->RelV v u->RelV v' u' ->
 RcAt A s u u' (aV d e)/\EqAt A s u u' (aV d e):=by
 intro n
 induction n with
 |zero =>
  intro A d e v v' u u' hn hu hd he r r';have hu':A.units<cLine:=by lia
  cases hd with
  |non =>
   cases r;cases he with
   |non=>cases r';exact⟨RcAt.none_none,EqAt.same _⟩
   |bl b=>cases r';exact⟨RcAt.none_bool b,EqAt.none_bool b⟩
   |int b=>obtain⟨t,rfl⟩:=r';exact⟨RcAt.none_int b t,EqAt.none_int b t⟩
   |str b=>obtain⟨t,rfl⟩:=r';exact⟨RcAt.none_str b t,EqAt.none_str b t⟩
   |tup p q =>
    cases r';obtain⟨its,_,ht,_⟩:=I.tuple p;exact⟨RcAt.none_tuple ht hu',EqAt.none_tuple ht hu'⟩
   |lst p q =>
    cases r';obtain⟨its,_,ht,_⟩:=I.list p;exact⟨RcAt.none_list ht.isList hu',EqAt.none_list ht.isList hu'⟩
  |bl a =>
   cases r;cases he with
   |non=>cases r';exact⟨RcAt.bool_none a,EqAt.bool_none a⟩
   |bl b=>cases r';exact⟨RcAt.bool_bool a b,EqAt.bool_bool a b⟩
   |int b=>obtain⟨t,rfl⟩:=r';exact⟨RcAt.bool_int a b t,EqAt.bool_int a b t⟩
   |str b=>obtain⟨t,rfl⟩:=r';exact⟨RcAt.bool_str a b t,EqAt.bool_str a b t⟩
   |tup p q =>
    cases r';obtain⟨its,_,ht,_⟩:=I.tuple p;exact⟨RcAt.bool_tuple a ht hu',EqAt.bool_tuple a ht hu'⟩
   |lst p q =>
    cases r';obtain⟨its,_,ht,_⟩:=I.list p;exact⟨RcAt.bool_list a ht.isList hu',EqAt.bool_list a ht.isList hu'⟩
  |int a =>
   obtain⟨t0,rfl⟩:=r;cases he with
   |non=>cases r';exact⟨RcAt.int_none a t0,EqAt.int_none a t0⟩
   |bl b=>cases r';exact⟨RcAt.int_bool a t0 b,EqAt.int_bool a t0 b⟩
   |int b=>obtain⟨t,rfl⟩:=r';exact⟨RcAt.int_int a t0 b t,EqAt.int_int a t0 b t⟩
   |str b=>obtain⟨t,rfl⟩:=r';exact⟨RcAt.int_str a t0 b t,EqAt.int_str a t0 b t⟩
   |tup p q =>
    cases r';obtain⟨its,_,ht,_⟩:=I.tuple p;exact⟨RcAt.int_tuple a t0 ht hu',EqAt.int_tuple a t0 ht hu'⟩
   |lst p q =>
    cases r';obtain⟨its,_,ht,_⟩:=I.list p;exact⟨RcAt.int_list a t0 ht.isList hu',EqAt.int_list a t0 ht.isList hu'⟩
  |str a =>
   obtain⟨t0,rfl⟩:=r;cases he with
   |non=>cases r';exact⟨RcAt.str_none a t0,EqAt.str_none a t0⟩
   |bl b=>cases r';exact⟨RcAt.str_bool a t0 b,EqAt.str_bool a t0 b⟩
   |int b=>obtain⟨t,rfl⟩:=r';exact⟨RcAt.str_int a t0 b t,EqAt.str_int a t0 b t⟩
   |str b=>obtain⟨t,rfl⟩:=r';exact⟨RcAt.str_str a t0 b t,EqAt.str_str a t0 b t⟩
   |tup p q =>
    cases r';obtain⟨its,_,ht,_⟩:=I.tuple p;exact⟨RcAt.str_tuple a t0 ht hu',EqAt.str_tuple a t0 ht hu'⟩
   |lst p q =>
    cases r';obtain⟨its,_,ht,_⟩:=I.list p;exact⟨RcAt.str_list a t0 ht.isList hu',EqAt.str_list a t0 ht.isList hu'⟩
  |tup p q=>simp[cI]at hn
  |lst p q=>simp[cI]at hn
 |succ n ih =>
  intro A d e v v' u u' hn hu hd he r r';by_cases h0:cI d<=n
  ·exact ih A d e v v' u u' h0 (by lia) hd he r r'
  have hu':A.units<cLine:=by lia
  have items:∀{xs ys:List V} {ds es:List Dt} {its its2:List Value},d6 ds<=n->dj X.K H ds xs->dj X.K H es ys->Vals xs its->Vals ys its2 ->
   ∀j (h1:j<its.toArray.size) (h2:j<its2.toArray.size),EqAt A.in1 s its.toArray[j] its2.toArray[j] (gp ds es j):=λ{xs ys ds es its its2} hdd q q' rv rv' j h1 h2=>by
   obtain⟨x,hx,rx⟩:=sa rv h1;obtain⟨y,hy,ry⟩:=sa rv' h2;obtain⟨dx,jQ,oH⟩:=q.at hx;obtain⟨dy,oI,oJ⟩:=q'.at hy;have As:=vM jQ;have:=(ih A.in1 dx dy x y _ _ (by lia) (by rw[units_in1];lia) oH oJ rx ry).2;unfold gp;rw[jQ,oI];exact this
  cases hd with
  |non=>exact absurd (dO _) h0
  |bl _=>exact absurd (dO _) h0
  |int _=>exact absurd (dO _) h0
  |str _=>exact absurd (dO _) h0
  |@tup a xs ds p q =>
   cases r;obtain⟨its,rv,ht,_⟩:=I.tuple p;cases he with
   |non=>cases r';exact⟨RcAt.tuple_none ht hu',EqAt.tuple_none ht hu'⟩
   |bl b=>cases r';exact⟨RcAt.tuple_bool b ht hu',EqAt.tuple_bool b ht hu'⟩
   |int b=>obtain⟨t,rfl⟩:=r';exact⟨RcAt.tuple_int b t ht hu',EqAt.tuple_int b t ht hu'⟩
   |str b=>obtain⟨t,rfl⟩:=r';exact⟨RcAt.tuple_str b t ht hu',EqAt.tuple_str b t ht hu'⟩
   |@tup b ys es p' q' =>
    cases r';obtain⟨its2,j3,eU,_⟩:=I.tuple p';have hdd:d6 ds<=n:=by simp only[cI]at hn;lia
    have e:((aN (min its.toArray.size its2.toArray.size)).all (gp ds es)&&its.toArray.size==its2.toArray.size)=aV (.tup ds) (.tup es):=by
     simp only[aV];rw[r_,q.len,q'.len,rv.length,j3.length];simp
    have rc:RcAt A s (.ref a) (.ref b) (aV (.tup ds) (.tup es)):=by
     rw[<-e];exact RcAt.tuples ht eU hu' (items hdd q q' rv j3)
    refine⟨rc,?_⟩;by_cases hab:a=b
    ·subst hab;have ed:Dt.tup ds=Dt.tup es:=DR.inj I (.tup p q) (.tup p' q');rw[<-ed,mz];exact EqAt.same _
    ·exact EqAt.of_refs hab rc
   |@lst b ys es p' q' =>
    cases r';obtain⟨its2,_,eU,_⟩:=I.list p';exact⟨RcAt.tuple_list ht eU.isList hu',EqAt.tuple_list ht eU.isList hu'⟩
  |@lst a xs ds p q =>
   cases r;obtain⟨its,rv,ht,_⟩:=I.list p;cases he with
   |non=>cases r';exact⟨RcAt.list_none ht.isList hu',EqAt.list_none ht.isList hu'⟩
   |bl b=>cases r';exact⟨RcAt.list_bool b ht.isList hu',EqAt.list_bool b ht.isList hu'⟩
   |int b=>obtain⟨t,rfl⟩:=r';exact⟨RcAt.list_int b t ht.isList hu',EqAt.list_int b t ht.isList hu'⟩
   |str b=>obtain⟨t,rfl⟩:=r';exact⟨RcAt.list_str b t ht.isList hu',EqAt.list_str b t ht.isList hu'⟩
   |@tup b ys es p' q' =>
    cases r';obtain⟨its2,_,eU,_⟩:=I.tuple p';exact⟨RcAt.list_tuple ht.isList eU hu',EqAt.list_tuple ht.isList eU hu'⟩
   |@lst b ys es p' q' =>
    cases r';obtain⟨its2,j3,eU,_⟩:=I.list p';have hdd:d6 ds<=n:=by simp only[cI]at hn;lia
    have rc:RcAt A s (.ref a) (.ref b) (aV (.lst ds) (.lst es)):=by
     simp only[aV];rw[r_,q.len,q'.len,rv.length,j3.length];by_cases hsz:its.length=its2.length
     ·have e:((aN (min its.length its2.length)).all (gp ds es)&&its.length==its2.length)=(aN its.toArray.size).all (gp ds es):=by
       simp[hsz]
      rw[e];exact RcAt.lists ht.isList eU.isList (by simpa using hsz) hu' (items hdd q q' rv j3)
     ·have e:((aN (min its.length its2.length)).all (gp ds es)&&its.length==its2.length)=false:=by
       rw[beq_eq_false_iff_ne.mpr hsz,IJ]
      rw[e];exact RcAt.lists_lengths ht.isList eU.isList (by simpa using hsz) hu'
    refine⟨rc,?_⟩;by_cases hab:a=b
    ·subst hab;have ed:Dt.lst ds=Dt.lst es:=DR.inj I (.lst p q) (.lst p' q');rw[<-ed,mz];exact EqAt.same _
    ·exact EqAt.of_refs hab rc
theorem BB{n:Nat}(hu:X.A.units+n<cLine):ck X (compareOp .Eq) (λx y H Q=>∃d e,DR X.K H d x/\DR X.K H e y/\cI d<=n/\Q (.bl (aV d e)) H):=by
 intro pins s σ H x y v u Q I rx ry h;obtain⟨d,e,hd,he,hn,q⟩:=h;exact(vN I n X.A d e x y v u hn hu hd he rx ry).1 X.prog X.w X.xe _ ⟨.bl (aV d e),H,I,rfl,q⟩
end
end EE
namespace EE
open PySem PySem.Spec PyProof.Rows L2
def textOf(cs:List Nat):Str:=⟨cs.toArray⟩
theorem fG(cs:List Nat):(textOf cs).length=cs.length:=by simp[textOf,uB]
theorem pE(a b:List Nat):textOf a++textOf b=textOf (a++b):=by
 show uG (textOf a) (textOf b)=textOf (a++b);simp[textOf,uG]
def jc(cs:List Nat)(lo hi:Option Int):List Nat:=(cs.drop (HT.aG cs.length 0 lo)).take (HT.aG cs.length cs.length hi-HT.aG cs.length 0 lo)
theorem MV(lo hi:Option Int)(n:Nat):IT lo hi 1 n=sliceRange ((HT.aG n 0 lo:Nat):Int) ((HT.aG n n hi:Nat):Int) 1:=by
 have a:∀(i:Int) (d:Nat),max 0 (min (if i<0 then i+(n:Int) else i) (n:Int))=((HT.aG n d (some i):Nat):Int):=by
  intro i d;simp only[HT.aG];by_cases h:i<0
  ·simp only[h,if_true];lia
  ·simp only[h,if_false];lia
 unfold IT;cases lo with
 |none =>
  cases hi with
  |none=>rfl
  |some j =>
   show sliceRange (0:Int) (max 0 (min (if j<0 then j+(n:Int) else j) (n:Int))) 1=_;rw[a j n];rfl
 |some i =>
  cases hi with
  |none =>
   show sliceRange (max 0 (min (if i<0 then i+(n:Int) else i) (n:Int))) (n:Int) 1=_;rw[a i 0];rfl
  |some j =>
   show sliceRange (max 0 (min (if i<0 then i+(n:Int) else i) (n:Int))) (max 0 (min (if j<0 then j+(n:Int) else j) (n:Int))) 1=_;rw[a i 0,a j n]
theorem MW(x:Str)(lo hi:Option Int):uH x lo hi=textOf (jc x.cps.toList lo hi):=by
 have hl:x.cps.toList.length=x.length:=by simp[uB]
 have l1:HT.aG x.length 0 lo<=x.length:=HT.vw _ _ (dO _) lo;have l2:HT.aG x.length x.length hi<=x.length:=HT.vw _ _ (aQ _) hi;unfold uH jc;rw[MV,sliceRange_one,hl,pick_run];by_cases h:((1:Int)==1&&((aN (HT.aG x.length x.length hi-HT.aG x.length 0 lo)).map (HT.aG x.length 0 lo+·)).length==x.length)=true
 ·rw[if_pos h];simp only[ay,qO,eP,beq_iff_eq]at h;have h2:=h.2;have e1:HT.aG x.length 0 lo=0:=by lia
  have e2:HT.aG x.length x.length hi=x.length:=by lia
  rw[e1,e2,qP,qQ,<-hl,ic];simp[textOf]
 ·rw[if_neg h];rfl
def BC:V->Option Int->Option Int->Hp->VK->Prop:=λx lo hi H Q=>∃z,x=.str z/\z.length<=sizeLine/\Q (.str (textOf (jc z.cps.toList lo hi))) H
theorem mB{X:Cx}:mv X BC:=by
 intro pins s σ H x v vl vu lo hi sl Q I rx hs pl pu h;obtain⟨z,rfl,hz,q⟩:=h;obtain⟨t,rfl⟩:=rx;refine⟨"str",_,slot_str_getitem.lookup,zG s z t,?_⟩;have fin:∀t' k,EP X pins σ Q (.str (uH z lo hi) t') {s with toks:=k}:=λt' k=>⟨.str _,H,I.tok _,⟨_,rfl⟩,by rw[MW];exact q⟩;have len:(uH z lo hi).length<=sizeLine:=bR (Txt.slice_le z lo hi) hz;obtain⟨o,ho,hc,hd⟩:=hs;cases pl with
 |none =>
  cases pu with
  |none=>exact uI (l:=none) (u:=none) (st:=none) ⟨o,ho,hc,hd⟩ rfl (uJ ⟨len,fin⟩)
  |int j tj=>exact uI (l:=none) (u:=some (j,tj)) (st:=none) ⟨o,ho,hc,hd⟩ rfl (uJ ⟨len,fin⟩)
 |int i ti =>
  cases pu with
  |none=>exact uI (l:=some (i,ti)) (u:=none) (st:=none) ⟨o,ho,hc,hd⟩ rfl (uJ ⟨len,fin⟩)
  |int j tj=>exact uI (l:=some (i,ti)) (u:=some (j,tj)) (st:=none) ⟨o,ho,hc,hd⟩ rfl (uJ ⟨len,fin⟩)
theorem BD{α β:Type}(f:α->β->Sem (ForInStep β))(g:β->α->β):∀(l:List α) (b:β),(∀x∈l,∀b,f x b=pure (.yield (g b x)))->forIn l b f=pure (l.foldl g b)
 |[],b,_=>rfl
 |x::l,b,h=>by
  rw[qR,h x b4 b];exact BD f g l (g b x) λy hy=>h y (cB _ hy)
def jd(env:Env)(acc:List (Str×Addr))(y:Str×NameKind):List (Str×Addr):=if y.2 == .free then(y.1,(env.cells.lookup y.1).getD 0)::acc else acc
def gq(scope:Scope)(env:Env):List (Str×Addr):=scope.names.foldl (jd env) []
theorem BE{scope:Scope}{env:Env}(h:∀y∈scope.names,y.2=.free->∃c,env.cells.lookup y.1=some c):closureFor scope env=pure (gq scope env):=by
 simp only[closureFor];rw[BD _ (jd env) scope.names [] (λy hy b=>?_)]
 ·rfl
 ·obtain⟨n,k⟩:=y;by_cases hk:k=.free
  ·subst hk;obtain⟨c,e⟩:=h _ hy rfl;have e':env.cells.lookup n=some c:=e;simp only[jd,beq_self_eq_true,if_true,cellOf,e',IU];rfl
  ·have:(k==NameKind.free)=false:=by simpa using hk
   simp only[jd,this,f9,if_false]
theorem BF{env:Env}:∀(names:List (Str×NameKind)) (acc:List (Str×Addr)),(∀y∈names,y.2=.free->∃c,env.cells.lookup y.1=some c)->(∀y c,acc.lookup y=some c->env.cells.lookup y=some c) ->
 ∀y c,(names.foldl (jd env) acc).lookup y=some c->env.cells.lookup y=some c
 |[],acc,_,h,y,c,e=>h y c e
 |(n,k)::r,acc,hf,h,y,c,e=>by
  rw[zO]at e;refine BF r _ (λz hz=>hf z (cB _ hz)) (λy c e=>?_) y c e;unfold jd at e;by_cases hk:k=.free
  ·subst hk;obtain⟨c0,e0⟩:=hf _ b4 rfl;have e0':env.cells.lookup n=some c0:=e0;simp only[beq_self_eq_true,if_true,e0',IU,gF]at e;by_cases hy:y=n
   ·subst hy;simp at e;rw[<-e];exact e0'
   ·have hb:(y==n)=false:=by simpa using hy
    simp only[hb]at e;exact h y c e
  ·have hb:(k==NameKind.free)=false:=by simpa using hk
   simp only[hb,f9,if_false]at e;exact h y c e
theorem vO{env:Env}:∀(names:List (Str×NameKind)) (acc:List (Str×Addr)) (y:Str),(y,NameKind.free)∈names∨(∃c,acc.lookup y=some c)->∃c,(names.foldl (jd env) acc).lookup y=some c
 |[],acc,y,h=>by
  rcases h with h|h
  ·simp at h
  ·exact h
 |(n,k)::r,acc,y,h=>by
  rw[zO];refine vO r _ y ?_;rcases h with h|⟨c,h⟩
  ·rcases a8.mp h with h|h
   ·cases h;exact .inr ⟨(env.cells.lookup n).getD 0,by simp[jd]⟩
   ·exact .inl h
  ·refine .inr ?_;unfold jd;by_cases hk:k=.free
   ·subst hk;simp only[beq_self_eq_true,if_true,gF];by_cases hy:y=n
    ·subst hy;simp
    ·have hb:(y==n)=false:=by simpa using hy
     simp only[hb];exact⟨c,h⟩
   ·have hb:(k==NameKind.free)=false:=by simpa using hk
    simp only[hb,f9,if_false];exact⟨c,h⟩
theorem BG{scope:Scope}{env:Env}{y:Str}{k:NameKind}(h:(relabel scope env).names.lookup y=some k):∃k',(y,k')∈scope.names/\(k=k'∨(k'=.free/\k=.cell)):=by
 have go:∀(l:List (Str×NameKind)),(l.map λ(n,k)=>if(k == .free&&env.scope.kind == .function&&env.kindOf n==some .cell) then(n,NameKind.cell) else(n,k)).lookup y=some k->∃k',(y,k')∈l/\(k=k'∨(k'=.free/\k=.cell)):=by
  intro l
  induction l with
  |nil=>intro h;simp at h
  |cons a r ih =>
   obtain⟨n,k0⟩:=a;intro h;rw[ba]at h;by_cases hc:(k0==NameKind.free&&env.scope.kind == .function&&env.kindOf n==some .cell)=true
   ·simp only[hc,if_true,gF]at h;by_cases hy:y=n
    ·subst hy;simp only[beq_self_eq_true]at h;refine⟨k0,b4,.inr ⟨?_,by simpa using h.symm⟩⟩;simp only[eP]at hc;simpa using hc.1.1
    ·have hb:(y==n)=false:=by simpa using hy
     simp only[hb]at h;obtain⟨k',m,q⟩:=ih h;exact⟨k',cB _ m,q⟩
   ·dsimp only at h;rw[if_neg hc]at h;by_cases hy:y=n
    ·subst hy;simp at h;exact⟨k0,b4,.inl h.symm⟩
    ·have hb:(y==n)=false:=by simpa using hy
     simp only[gF,hb]at h;obtain⟨k',m,q⟩:=ih h;exact⟨k',cB _ m,q⟩
 exact go scope.names h
theorem MX{scope:Scope}{env:Env}{y:Str}(hk:env.scope.kind=.function)(hc:env.kindOf y=some .cell)(h:scope.names.lookup y=some .free):(relabel scope env).names.lookup y=some .cell:=by
 have go:∀(l:List (Str×NameKind)),l.lookup y=some .free->(l.map λ(n,k)=>if(k == .free&&env.scope.kind == .function&&env.kindOf n==some .cell) then(n,NameKind.cell) else(n,k)).lookup y=some .cell:=by
  intro l
  induction l with
  |nil=>intro h;simp at h
  |cons a r ih =>
   obtain⟨n,k0⟩:=a;intro h;rw[ba];by_cases hy:y=n
   ·subst hy;simp only[gF,beq_self_eq_true,jJ]at h;subst h;simp[hk,hc]
   ·have hb:(y==n)=false:=by simpa using hy
    simp only[gF,hb]at h;by_cases hcc:(k0==NameKind.free&&env.scope.kind == .function&&env.kindOf n==some .cell)=true
    ·simp only[hcc,if_true,gF,hb];exact ih h
    ·dsimp only;rw[if_neg hcc];simp only[gF,hb];exact ih h
 exact go scope.names h
def vP(X:Cx)(scope:Scope)(C:Addr)(N:List Str)(fp:List Addr)(pins:List (Addr×Obj))(s:Shared)(H:Hp):Cx where
 prog:=X.prog
 w:=X.w
 K:=X.K
 mg:=X.mg
 base:=X.base
 A:=X.A
 N:=N
 s₀:=s
 H₀:=H
 env:=compEnvC scope (gq scope X.env) C X.env
 outer:=X.stack
 stack:=X.stack
 ex:=fp
 fn:=λ_=>false
 calm:=true
 pn:=X.pn++pins
 xe:=λ_ _=>False
def pick(σ:L2.St)(js:List Nat):L2.St:=js.map λj=>(σ[j]?).getD none
section
variable{X:Cx}{elt iter:Expr}{x:Str}{px pos:Pos}{scope bE:Scope}{M N:List Str}{js:List Nat}{wi:TI}{te:TE}
theorem mC(hjs:M.map some=js.map λj=>N[j]?):(∀(k:Nat) (y:Str),M[k]?=some y->∃j:Nat,js[k]?=some j/\N[j]?=some y)/\js.length=M.length:=by
 constructor
 ·intro k y h;have e:(M.map some)[k]?=some (some y):=by rw[aJ,h];rfl
  rw[hjs,aJ]at e;cases q:js[k]? with
  |none=>rw[q]at e;cases e
  |some j =>
   rw[q]at e;exact⟨j,rfl,by simpa using e⟩
 ·have:=congrArg kI hjs;simpa using this.symm
end
def j5(K:ak)(H:Hp)(a:Addr)(xs:List V):Prop:=(∃o,H a=some (.dF o (.lst xs))) ∨
 ∃(o:Obj) (its:Array Value) (n:Nat),K.lookup a=some o/\o.cls=.type "list"/\o.dict=none/\o.data=.seq its n/\its.size<=sizeLine/\Vals xs its.toList
theorem j5.sq{K:ak}{H:Hp}{a:Addr}{xs:List V}(h:j5 K H a xs):aZ K H a xs:=by
 rcases h with⟨o,h⟩|h
 ·exact .inl (.inr ⟨o,h⟩)
 ·exact .inr h
theorem j5.of{K:ak}{H:Hp}{a:Addr}{xs:List V}(h:aZ K H a xs)(o:ph H):j5 K H a xs:=by
 rcases h with(h|h)|h
 ·rcases o a with e|⟨ob,ys,e⟩
  ·rw[e]at h;cases h
  ·rw[e]at h;cases h
 ·exact .inl h
 ·exact .inr h
theorem MY:Slot "reversed" "__init__" "object.__init__" :=
 .of (owner:="object") (n:="__init__") (by rw[oh,oi];kernel_rfl) (by cbv) (by cbv) (by cbv)
  (by first|exact .inl (by cbv)|exact .inr (by cbv)) (by rw[uK];kernel_rfl)
theorem MZ:TypeCalled "reversed" "reversed.__new__" "object.__init__" :=
 ⟨by cbv,F.create_reversed,⟨_,_,F.mro_reversed⟩,F.made_reversed,F.plain_reversed_new,F.sub_reversed_self,MY⟩
theorem M0:typeLookup (.type "tuple") "__reversed__"=pure none:=by rw[oh,oi];kernel_rfl
theorem M1:isSubtype (.type "tuple") (.type "dict")=pure false:=by rw[uK];kernel_rfl
theorem pF:Slot "reversed" "__next__" "reversed.__next__" :=
 .of (owner:="reversed") (n:="__next__") (by rw[oh,oi];kernel_rfl) (by cbv) (by cbv) (by cbv)
  (by first|exact .inl (by cbv)|exact .inr (by cbv)) (by rw[uK];kernel_rfl)
theorem BH:entryFor table "reversed.__next__"=some Builtin.«reversed.__next__»:=entryFor_of_tree (by kernel_rfl)
theorem BI(a:Value):argsOk "reversed.__next__" ⟨[a],[]⟩:=by unfold argsOk;kernel_rfl
theorem BJ:Slot "reversed" "__iter__" "reversed.__iter__" :=
 .of (owner:="reversed") (n:="__iter__") (by rw[oh,oi];kernel_rfl) (by cbv) (by cbv) (by cbv)
  (by first|exact .inl (by cbv)|exact .inr (by cbv)) (by rw[uK];kernel_rfl)
theorem M3:entryFor table "reversed.__iter__"=some Builtin.«dict_keyiterator.__iter__» :=
 entryFor_alias (id':="dict_keyiterator.__iter__") (by kernel_rfl) (by first|rfl|cbv|(unfold String.splitOn;simp +decide [String.splitOnAux])) (by cbv) (by kernel_rfl)
theorem M4(a:Value):argsOk "reversed.__iter__" ⟨[a],[]⟩:=by unfold argsOk;kernel_rfl
def j6(h:Heap)(a l:Addr)(i:Int):Prop:=∃o,h.get? a=some o/\o.cls=.type "reversed"/\o.data=.fields #[.ref l,rawInt i]
theorem j6.typeIs{s:Shared}{a l:Addr}{i:Int}(x:j6 s.heap a l i):s.TypeIs (.ref a) "reversed":=let⟨o,ho,hc,_⟩:=x;⟨o,ho,hc⟩
section
variable{prog:Program}{w:World}{A:Around}{E:Value->Shared->Prop}{s:Shared}
theorem M5(l:Addr)(items:Array Value)(hz:(items.size:Int)<2^63):Meets (Builtin.«reversed.__new__» ⟨[.type "reversed",.ref l],[]⟩) (λ_ R s=>s.heap.IsTuple l items /\
 ∀tk,R (.ok (.ret (.ref s.heap.objs.size))) {s with heap:=s.heap.push {cls:=.type "reversed",data:=.fields #[.ref l,rawInt ((items.size:Int)-1)]},toks:=tk}) :=
 .of_wp λprog w A R s h=>by
  obtain⟨ht,h⟩:=h;have hT:s.TypeIs (.ref l) "tuple":=let⟨o,ho,hc,_⟩:=ht;⟨o,ho,hc⟩
  unfold Builtin.«reversed.__new__»;refine ah (kJ (newClass_reversed _) ?_)
  try dsimp only
  refine ah (kJ (a:=()) (by first|rfl|kernel_rfl) ?_);refine ah (kJ (a:=()) (by first|rfl|kernel_rfl) ?_)
  try dsimp only
  refine ah (kH hT M0 ?_)
  try dsimp only
  refine ah ?_;refine ah (m:=isInstance (.ref l) (.type "dict")) (qI (T:="tuple") (b:=false) hT M1 ?_);simp only[f9,if_false];refine ah (kH hT jI.lookup ?_)
  try dsimp only
  rw[if_pos (by decide)];refine az ?_;simp only[ur,f9,if_false];refine ah (len_tuple ht hz ?_);refine ah (m:=asInt? (.int (items.size:Int) s.toks)) (kJ (a:=some (items.size:Int)) rfl ?_)
  try dsimp only
  refine ah (m:=abb (.type "reversed") [.ref l,rawInt ((items.size:Int)-1)]) ?_;refine h_ (data:=.fields #[.ref l,rawInt ((items.size:Int)-1)]) ?_;exact az ⟨_,rfl,h _⟩
theorem M6{l:Addr}{items:Array Value}{Q:Value->Shared->Prop}(ht:s.heap.IsTuple l items)(hz:(items.size:Int)<2^63)
 (h:∀tk,Q (.ref s.heap.objs.size) {s with heap:=s.heap.push {cls:=.type "reversed",data:=.fields #[.ref l,rawInt ((items.size:Int)-1)]},toks:=tk}):wpAny (model prog w) A (call (.type "reversed") [.ref l]) Q E s:=by
 refine zP MZ (by decide) (F.typeCall_reversed_1 _) (F.newCall_reversed_1 _) (λobj=>IV obj _) F.entry_reversed_new (M5 l items hz) ⟨ht,λtk=>?_⟩;exact⟨⟨_,c7 _ rfl,rfl⟩,h tk⟩
theorem M7{it l:Addr}{i:Nat}{items:Array Value}{x:Value}{Q:Option Value->Shared->Prop}(hit:j6 s.heap it l (i:Int))(hl:s.heap.IsTuple l items)(hx:items[i]?=some x)(hz:(items.size:Int)<2^63)
 (hQ:∀h' tk,j6 h' it l ((i:Int)-1)->fh it s.heap h'->Q (some x) {s with heap:=h',toks:=tk}):wpAny (model prog w) A (pyNext (.ref it)) Q E s:=by
 obtain⟨o,ho,hc,hd⟩:=id hit;have hT:s.TypeIs (.ref l) "tuple":=let⟨o,ho,hc,_⟩:=hl;⟨o,ho,hc⟩
 unfold pyNext;refine ah (jK (hZ (name:=gc "__next__") hit.typeIs pF
  (f7 pF hit.typeIs BH ?_ (BI _))))
 unfold Builtin.«reversed.__next__»;refine ah (kJ (a:=(Value.ref it,[])) rfl ?_)
 try dsimp only
 refine ah (cG ho hd (x:=.ref l) rfl ?_)
 try dsimp only
 refine ah (cG ho hd (x:=rawInt (i:Int)) rfl ?_);show wpAny _ _ (if(i:Int)<0 then _ else _) _ _ s;rw[if_neg (by lia)];refine ah (kH hT jI.lookup ?_);show wpAny _ _ (if(some (Value.builtin "tuple.__getitem__")).isNone=true then _ else _) _ _ s;rw[if_neg (by simp)];refine ah (zQ ?_);have hi:i<items.size:=(Array.getElem?_eq_some_iff.mp hx).1;refine ah (jK (getItem_tuple (j:=i) hl (by lia) (by lia) (zF (by lia) (by lia)) hx ?_));refine ah (cG (s:={s with toks:=s.toks+1}) ho hd (x:=rawInt (i:Int)) rfl ?_);show wpAny _ _ (setField (.ref it) 1 (rawInt ((i:Int)-1)) >>= λ_=>ret x) _ _ _;refine ah (qS ho hd (by simp) ?_);refine az ⟨x,rfl,az (hQ _ _ ?_ (qT ..))⟩;exact⟨_,oj _ ho (zR (om hd _)),(IW ..).trans hc,by
  rw[om hd];simp⟩
theorem M8{it l:Addr}{Q:Option Value->Shared->Prop}(hh:A.handled=none)(hit:j6 s.heap it l (-1))
 (hQ:∀h',qU it s.heap h'->Q none {s with heap:=h'}):wpAny (model prog w) A (pyNext (.ref it)) Q E s:=by
 obtain⟨o,ho,hc,hd⟩:=id hit;unfold pyNext;refine ah (jK (hZ (name:=gc "__next__") hit.typeIs pF
  (f7 pF hit.typeIs BH ?_ (BI _))))
 unfold Builtin.«reversed.__next__»;refine ah (kJ (a:=(Value.ref it,[])) rfl ?_)
 try dsimp only
 refine ah (cG ho hd (x:=.ref l) rfl ?_)
 try dsimp only
 refine ah (cG ho hd (x:=rawInt (-1)) rfl ?_);show wpAny _ _ (if(-1:Int)<0 then _ else _) _ _ s;rw[if_pos (by decide)];refine ah (jG ?_);refine ah ?_;refine ah (m:=setField (.ref it) 1 (rawInt (-1))) (qS ho hd (by simp) ?_);have ho1:=oj (a:=it) (uL λxs=>xs.setIfInBounds 1 (rawInt (-1))) ho (zR (om hd _));refine qS ho1 (om hd _) (by simp) ?_;refine ah (m:=abd) ?_;show wpAny _ _ (newExc (.type "StopIteration") [] >>= _) _ _ _;refine ah ?_;simp only[newExc,newTuple];refine ah (h_ ?_ (by size_fits));refine ah (m:=firstArgMember _ _) (kJ (a:=Value.none) (by first|rfl|(simp only[firstArgMember];rfl)) ?_);refine h_ ?_ (by size_fits);simp only[raiseNew];refine ah (wpAny_handled ?_)
 first|rw[show A.in1.handled=none from hh]|rw[hh]
 refine ah (az (wpAny_throw ?_));refine ah (qI (T:="StopIteration") (b:=true) ⟨_,c7 _ rfl,rfl⟩ zS ?_);refine az (hQ _ ?_);have e1:=(qT (h:=s.heap) (a:=it) (f:=uL λxs=>xs.setIfInBounds 1 (rawInt (-1)))).extBut;have e2:=(qT (h:=s.heap.update it (uL λxs=>xs.setIfInBounds 1 (rawInt (-1)))) (a:=it) (f:=uL λxs=>xs.setIfInBounds 0 Value.none)).extBut;exact λb ob hb e=>bt _ (bt _ (e2 b ob hb (e1 b ob hb e)))
theorem BK{it l:Addr}{i:Int}{Q:Value->Shared->Prop}(hit:j6 s.heap it l i)(h:Q (.ref it) s):wpAny (model prog w) A (pyIter (.ref it)) Q E s:=by
 refine IX hit.typeIs BJ (f7 BJ hit.typeIs M3 ?_ (M4 _));show wpAny _ _ (ret (.ref it)) _ _ s;exact az ⟨_,rfl,"reversed",_,hit.typeIs,pF.lookup,h⟩
end
def BL(K:ak)(a:Addr)(n:Nat):It :=
 ⟨λi H=>i<n/\∃xs,a9 K H a xs/\xs.length=n,λi H x H'=>H'=H/\∀xs,a9 K H a xs->xs[n-1-i]?=some x,λi _=>n<=i⟩
theorem M9{P:Program}{w:World}{K:ak}{tg:Expr}(a it:Addr)(n:Nat):Turn P w K tg (BL K a n) [it] it (λi h=>i<=n/\j6 h it a ((n:Int)-1-(i:Int))) where
 mem:=by simp
 obj:=λi h st b hb=>by
  have e:b=it:=by simpa using hb
  subst e;obtain⟨_,o,e,c,d⟩:=st;exact⟨o,e,λv z=>by rw[d]at z;cases z⟩
 keep:=λi h h' st k=>let⟨hi,o,ho,r⟩:=st;⟨hi,o,k it (by simp) o ho,r⟩
 item:=by
  intro X hP hw hK hc i pins s σ H E I hf st hg;subst hP hw hK;obtain⟨hi,xs,hq,hn⟩:=hg;obtain⟨its,rv,p,hz⟩:=I.tuple hq;have hl:=rv.length;have hx:xs[n-1-i]?=some xs[n-1-i]:=aX (by lia);obtain⟨u,hu,ru⟩:=rv.get hx;obtain⟨f0,f1,f2,f3,f4,f5⟩:=hf it (by simp);have e1:(n:Int)-1-(i:Int)=((n-1-i:Nat):Int):=by lia
  have st2:=st.2;rw[e1]at st2;have M_:=jX;refine M7 st2 (show s.heap.IsTuple a its.toArray from p) (x:=u) (by simpa using hu) (by simp only[bM];lia) λh' tk st' sb=>?_;have I1:Inv X pins σ H {s with heap:=h',toks:=tk}:=I.turned (λb o hb e=>(sb.2 b hb).trans e) f0 f1 f3 f4 f5;obtain⟨o,e,c,d⟩:=id st';have e2:((n-1-i:Nat):Int)-1=(n:Int)-1-((i+1:Nat):Int):=by lia
  refine⟨u,rfl,oR (s:={s with heap:=h',toks:=tk}) e c d (by decide) ⟨xs[n-1-i],H,I1,ru,⟨rfl,λys hy=>by rw[I.mo hy hq];exact hx⟩,⟨hi,?_⟩,λb hb=>(hf b hb).1⟩⟩;rw[<-e2];exact st'
 done:=by
  intro X hP hw hK hc i pins s σ H E I hf st hg;subst hP hw hK;obtain⟨f0,f1,f2,f3,f4,f5⟩:=hf it (by simp);have hg':n<=i:=hg;have e1:(n:Int)-1-(i:Int)=-1:=by have:=st.1;lia
  have st2:=st.2;rw[e1]at st2;exact M8 (I.ok.hd hc) st2 λh' eb=>⟨rfl,I.turned (t':=s.toks) (λb o hb e=>eb b o hb e) f0 f1 f3 f4 f5⟩
 self:=λ_ _ _ _ _ st h=>BK st.2 h
def M'(K:ak)(te:TA):TI:=λσ H R=>te σ H λvs H1=>∃a xs,vs=[.ref a]/\a9 K H1 a xs/\R (BL K a xs.length) H1
theorem BM:bootBuiltins "reversed"=some (.type "reversed"):=by cbv
theorem Nc{X:Cx}{tg a:Expr}{ta:TA}{p pos:Pos}(hg:Gl X "reversed")(hm:X.mg "reversed"=none)(ha:PA X [a] ta)(hs:starEach [a] X.env=[(false,eval a X.env)]:=by rfl):PI X tg (.Call (.Name "reversed" p) [a] [] pos) (M' X.K ta):=by
 intro pins s σ H R I h;refine Call_ (iq I hg hm BM (jH (aK (ha pos pins s σ H _ I h) λus s1 ⟨vs,H1,I1,r1,q1⟩=>?_) hs rfl));obtain⟨b,xs,e,hq,q⟩:=q1;subst e;cases r1 with
 |cons r rr =>
  cases rr;cases r;obtain⟨its,rv,pt,hz⟩:=I1.tuple hq;have hl:=rv.length;have M_:=jX;refine M6 (show s1.heap.IsTuple b its.toArray from pt) (by simp only[bM];lia) λtk=>?_;have I2:Inv X pins σ H1 {s1 with heap:=s1.heap.push {cls:=.type "reversed",data:=.fields #[.ref b,rawInt ((its.toArray.size:Int)-1)]},toks:=tk}:=I1.kept λc o e=>bt _ e;have st:j6 (s1.heap.push {cls:=.type "reversed",data:=.fields #[.ref b,rawInt ((its.toArray.size:Int)-1)]}) s1.heap.objs.size b ((its.toArray.size:Int)-1):=⟨_,c7 _ rfl,rfl,rfl⟩;refine BK st ?_;have e1:(its.toArray.size:Int)-1=(xs.length:Int)-1-((0:Nat):Int):=by simp only[bM];lia
  refine⟨s1.heap.objs.size,[s1.heap.objs.size],_,_,H1,rfl,I2,M9 b _ xs.length,⟨dO _,by rw[<-e1];exact st⟩,λc hc=>?_,q⟩;have e:c=s1.heap.objs.size:=by simpa using hc
  subst e;exact I1.i9 (aQ _) (I1.hok.fresh (aQ _))
end EE
namespace E3
open PySem PySem.Spec PyProof.Rows L2 EE
inductive D where
 |non|bl (b:Bool)|int (i:Int)|str (x:Str)|tup (xs:List D)|bY (xs:List D)|ref (a:Addr)|ty (n:String)
inductive O where
 |lst (xs:List D)|bU (kvs:List (Key×D))|exc (C:Addr)|ins (C:Addr) (fs:List (Str×D))|tab (kvs:List (DK×D))
abbrev af:=Addr->Option O
abbrev aE:=List (Option D)
abbrev K3:=D->af->Prop
abbrev X3:=Addr->Addr->af->Prop
abbrev bF:=aE->X3
def up(S:af)(a:Addr)(o:O):af:=λb=>if b=a then some o else S b
def emp:af:=λ_=>none
theorem ao{S:af}{a:Addr}{o:O}:up S a o a=some o:=if_pos rfl
theorem bH{S:af}{a b:Addr}{o:O}(h:b≠a):up S a o b=S b:=if_neg h
theorem ne3{S:af}{a b:Addr}{o:O}(h:S a=some o)(h':S b=none):a≠b:=by
 intro e;subst e;rw[h]at h';cases h'
theorem aL{S:af}{a b:Addr}{o u:O}(h:S b=some u)(h':S a=none):up S a o b=some u:=by rw[bH (ne3 h h')];exact h
structure Zt where
 p:Addr->Prop
 base:Hp
instance:CoeFun Zt (λ_=>Addr->Prop):=⟨Zt.p⟩
def mD(a C:Addr):Heap->Prop:=λh=>∃o,h.get? a=some o/\o.cls=.ref C/\∃xs n,o.data=.fields xs/\n=xs.size
mutual
inductive Rp(K:ak)(H:Hp):D->V->Prop where
 |non:Rp K H .non .non
 |bl (b:Bool):Rp K H (.bl b) (.bl b)
 |int (i:Int):Rp K H (.int i) (.int i)
 |str (x:Str):Rp K H (.str x) (.str x)
 |ref (a:Addr):Rp K H (.ref a) (.ref a)
 |ty (n:String):Rp K H (.ty n) (.ty n)
 |tup {a:Addr} {xs:List V} {ds:List D}:a9 K H a xs->aS K H ds xs->Rp K H (.tup ds) (.ref a)
 |bY {a:Addr} {xs:List V} {ds:List D}:j5 K H a xs->aS K H ds xs->Rp K H (.bY ds) (.ref a)
inductive aS(K:ak)(H:Hp):List D->List V->Prop where
 |nil:aS K H [] []
 |cons {d:D} {v:V} {ds:List D} {vs:List V}:Rp K H d v->aS K H ds vs->aS K H (d::ds) (v::vs)
end
structure Kp(Z:Zt)(H H':Hp):Prop where
 tup:∀b xs,H b=some (.tup xs)->H' b=some (.tup xs)
 dF:∀b o u,H b=some (.dF o u)->H' b=some (.dF o u)
 hid:∀b,Z b->H' b=H b
theorem Kp.refl(Z:Zt)(H:Hp):Kp Z H H:=⟨λ_ _ h=>h,λ_ _ _ h=>h,λ_ _=>rfl⟩
theorem Kp.trans{Z:Zt}{H H1 H2:Hp}(a:Kp Z H H1)(b:Kp Z H1 H2):Kp Z H H2 :=
 ⟨λc xs h=>b.tup _ _ (a.tup _ _ h),λc o u h=>b.dF _ _ _ (a.dF _ _ _ h),λc z=>(b.hid c z).trans (a.hid c z)⟩
theorem Kp.gu{K:ak}{Z:Zt}{H H':Hp}{a:Addr}{xs:List V}(k:Kp Z H H')(h:a9 K H a xs):a9 K H' a xs:=by
 exact k.tup _ _ h
theorem Kp.vQ{K:ak}{Z:Zt}{H H':Hp}{a:Addr}{xs:List V}(k:Kp Z H H')(h:j5 K H a xs):j5 K H' a xs:=by
 rcases h with⟨o,h⟩|h
 ·exact .inl ⟨o,k.dF _ _ _ h⟩
 ·exact .inr h
mutual
theorem Rp.mono{K:ak}{Z:Zt}{H H':Hp}(k:Kp Z H H'):∀{d:D} {v:V},Rp K H d v->Rp K H' d v
 |_,_,.non=>.non
 |_,_,.bl b=>.bl b
 |_,_,.int i=>.int i
 |_,_,.str x=>.str x
 |_,_,.ref a=>.ref a
 |_,_,.ty n=>.ty n
 |_,_,.tup h r=>.tup (k.gu h) (aS.mono k r)
 |_,_,.bY h r=>.bY (k.vQ h) (aS.mono k r)
theorem aS.mono{K:ak}{Z:Zt}{H H':Hp}(k:Kp Z H H'):∀{ds:List D} {vs:List V},aS K H ds vs->aS K H' ds vs
 |_,_,.nil=>.nil
 |_,_,.cons h r=>.cons (Rp.mono k h) (aS.mono k r)
end
section
variable{K:PySem.W.Frag}{H:Hp}
theorem aS.len:∀{ds:List D} {vs:List V},aS K H ds vs->ds.length=vs.length
 |_,_,.nil=>rfl
 |_,_,.cons _ r=>by simp[aS.len r]
theorem aS.at:∀{ds:List D} {vs:List V} {i:Nat} {d:D},aS K H ds vs->ds[i]?=some d->∃v,vs[i]?=some v/\Rp K H d v
 |_,_,_,_,.nil,e=>by simp at e
 |_,_,0,_,.cons r _,e=>by simp at e;subst e;exact⟨_,rfl,r⟩
 |_,_,i+1,d,.cons _ q,e=>by
  obtain⟨v,h1,h2⟩:=aS.at (i:=i) (d:=d) q (by simpa using e);exact⟨v,by simpa using h1,h2⟩
theorem aS.append:∀{ds es:List D} {vs ws:List V},aS K H ds vs->aS K H es ws->aS K H (ds++es) (vs++ws)
 |_,_,_,_,.nil,s=>s
 |_,_,_,_,.cons r t,s=>.cons r (aS.append t s)
theorem aS.take:∀{ds:List D} {vs:List V} (n:Nat),aS K H ds vs->aS K H (ds.take n) (vs.take n)
 |_,_,0,_=>.nil
 |_,_,_+1,.nil=>.nil
 |_,_,n+1,.cons r t=>.cons r (aS.take n t)
theorem aS.drop:∀{ds:List D} {vs:List V} (n:Nat),aS K H ds vs->aS K H (ds.drop n) (vs.drop n)
 |_,_,0,r=>r
 |_,_,_+1,.nil=>.nil
 |_,_,n+1,.cons _ t=>aS.drop n t
theorem aS.snoc_inv:∀{ds:List D} {d:D} {vs:List V},aS K H (ds++[d]) vs->∃ws w,vs=ws++[w]/\aS K H ds ws/\Rp K H d w
 |[],d,_,.cons r .nil=>⟨[],_,rfl,.nil,r⟩
 |_::ds,d,_,.cons r q=>by
  obtain⟨ws,w,rfl,a,b⟩:=aS.snoc_inv (ds:=ds) q;exact⟨_::ws,w,rfl,.cons r a,b⟩
theorem aS.ints:∀(ns:List Int),aS K H (ns.map D.int) (ns.map V.int)
 |[]=>.nil
 |n::ns=>.cons (.int n) (aS.ints ns)
end
def OR(K:ak)(H:Hp)(a:Addr):O->Prop
 | .lst ds=>∃vs,H a=some (.lst vs)/\aS K H ds vs
 | .bU kvs=>∃ws,H a=some (.dK ws)/\Paired (λ(p:Key×D) (q:Key×V)=>p.1=q.1/\Rp K H p.2 q.2) kvs ws
 | .exc C=>H a=some (.ext (mD a C))
 | .ins C fs=>∃dx ws,H a=some (.ins C dx ws)/\Paired (λ(p:Str×D) (q:Str×V)=>p.1=q.1/\Rp K H p.2 q.2) fs ws
 | .tab kvs=>∃ws,H a=some (.dT ws)/\Paired (λ(p:DK×D) (q:DK×V)=>p.1=q.1/\Rp K H p.2 q.2) kvs ws
structure Rl(K:ak)(Z:Zt)(S:af)(H:Hp):Prop where
 obj:∀a o,S a=some o->OR K H a o
 hid:∀a,Z a->S a=none/\H a≠none
 old:Kp Z Z.base H
theorem OR.there{K:ak}{H:Hp}{a:Addr}{o:O}(h:OR K H a o):H a≠none:=by
 cases o with
 |lst ds=>obtain⟨vs,e,_⟩:=h;rw[e];simp
 |bU ds=>obtain⟨vs,e,_⟩:=h;rw[e];simp
 |tab ds=>obtain⟨vs,e,_⟩:=h;rw[e];simp
 |exc C=>have e:H a=_:=h;rw[e];simp
 |ins C fs=>obtain⟨dx,vs,e,_⟩:=h;rw[e];simp
theorem OR.Nd{K:ak}{H:Hp}{a:Addr}{o:O}(h:OR K H a o):(∀xs,H a≠some (.tup xs))/\∀q u,H a≠some (.dF q u):=by
 cases o with
 |lst ds=>obtain⟨vs,e,_⟩:=h;rw[e];exact⟨λ_ z=>(nomatch z),λ_ _ z=>(nomatch z)⟩
 |bU ds=>obtain⟨vs,e,_⟩:=h;rw[e];exact⟨λ_ z=>(nomatch z),λ_ _ z=>(nomatch z)⟩
 |tab ds=>obtain⟨vs,e,_⟩:=h;rw[e];exact⟨λ_ z=>(nomatch z),λ_ _ z=>(nomatch z)⟩
 |exc C=>have e:H a=_:=h;rw[e];exact⟨λ_ z=>(nomatch z),λ_ _ z=>(nomatch z)⟩
 |ins C fs=>obtain⟨dx,vs,e,_⟩:=h;rw[e];exact⟨λ_ z=>(nomatch z),λ_ _ z=>(nomatch z)⟩
theorem Rl.fresh{K:ak}{Z:Zt}{S:af}{H:Hp}{p:Addr}(r:Rl K Z S H)(h:H p=none):S p=none/\¬Z p:=by
 constructor
 ·cases e:S p with
  |none=>rfl
  |some o=>exact absurd h (r.obj p o e).there
 ·exact λz=>(r.hid p z).2 h
theorem Kp.new{Z:Zt}{H:Hp}{p:Addr}{o:HO}(h:H p=none)(hz:¬Z p):Kp Z H (upd H p o) :=
 ⟨λb xs e=>by rw[aY (gh e h)];exact e,λb q u e=>by rw[aY (gh e h)];exact e,λb z=>aY λe=>hz (e▸z)⟩
theorem Kp.at{K:ak}{Z:Zt}{S:af}{H:Hp}{p:Addr}{o:O}{q:HO}(r:Rl K Z S H)(h:S p=some o):Kp Z H (upd H p q):=by
 have n:=(r.obj p o h).Nd;refine⟨λb xs e=>?_,λb q u e=>?_,λb z=>?_⟩
 ·rw[aY];exact e;rintro rfl;exact n.1 _ e
 ·rw[aY];exact e;rintro rfl;exact n.2 _ _ e
 ·rw[aY];rintro rfl;rw[(r.hid _ z).1]at h;cases h
theorem OR.keep{K:ak}{Z:Zt}{H H':Hp}{a:Addr}{o:O}(h:OR K H a o)(k:Kp Z H H')(e:H' a=H a):OR K H' a o:=by
 cases o with
 |lst ds=>obtain⟨vs,h1,h2⟩:=h;exact⟨vs,e.trans h1,h2.mono k⟩
 |bU ds=>obtain⟨vs,h1,h2⟩:=h;exact⟨vs,e.trans h1,Paired.i0 h2 λp q z=>⟨z.1,z.2.mono k⟩⟩
 |tab ds=>obtain⟨vs,h1,h2⟩:=h;exact⟨vs,e.trans h1,Paired.i0 h2 λp q z=>⟨z.1,z.2.mono k⟩⟩
 |exc C=>exact e.trans h
 |ins C fs=>obtain⟨dx,vs,h1,h2⟩:=h;exact⟨dx,vs,e.trans h1,Paired.i0 h2 λp q z=>⟨z.1,z.2.mono k⟩⟩
theorem Rl.put{K:ak}{Z:Zt}{S:af}{H:Hp}{p:Addr}{o:O}{q:HO}(r:Rl K Z S H)(k:Kp Z H (upd H p q))(hz:¬Z p)(h:OR K (upd H p q) p o):Rl K Z (up S p o) (upd H p q):=by
 refine⟨λb u e=>?_,λb z=>?_,r.old.trans k⟩
 ·by_cases hb:b=p
  ·subst hb;rw[ao]at e;cases e;exact h
  ·rw[bH hb]at e;exact(r.obj b u e).keep k (aY hb)
 ·have hb:b≠p:=λe=>hz (e▸z);rw[bH hb,aY hb];exact r.hid b z
theorem Rl.mE{K:ak}{Z:Zt}{S:af}{H:Hp}{p:Addr}{o:O}(r:Rl K Z S H)(h:S p=some o):¬Z p:=λz=>by
 rw[(r.hid _ z).1]at h;cases h
theorem Rl.lay{K:ak}{Z:Zt}{S:af}{H:Hp}{p:Addr}{q:HO}(r:Rl K Z S H)(h:H p=none):Rl K Z S (upd H p q):=by
 obtain⟨hs,hz⟩:=r.fresh h;refine⟨λb u e=>(r.obj b u e).keep (Kp.new h hz) (aY (ne3 e hs)),λb z=>?_,r.old.trans (Kp.new h hz)⟩;have hb:b≠p:=λe=>hz (e▸z);rw[aY hb];exact r.hid b z
def RO(K:ak)(H:Hp)(o:Option D)(p:Option V):Prop:=∀d,o=some d->∃v,p=some v/\Rp K H d v
abbrev SR(K:ak)(H:Hp):aE->L2.St->Prop:=Paired (RO K H)
theorem RO.mono{K:ak}{Z:Zt}{H H':Hp}(k:Kp Z H H'){o:Option D}{p:Option V}(h:RO K H o p):RO K H' o p:=λd e=>by
 obtain⟨v,h1,h2⟩:=h d e;exact⟨v,h1,h2.mono k⟩
theorem SR.mono{K:ak}{Z:Zt}{H H':Hp}(k:Kp Z H H'){σ:aE}{τ:L2.St}(h:SR K H σ τ):SR K H' σ τ:=Paired.i0 h λ_ _ q=>q.mono k
theorem SR.at{K:ak}{H:Hp}:∀{σ:aE} {τ:L2.St} {i:Nat} {d:D},SR K H σ τ->σ[i]?=some (some d)->∃v,τ[i]?=some (some v)/\Rp K H d v
 |_,_,_,_,.nil,e=>by simp at e
 |_,_,0,_,.cons r _,e=>by
  simp at e;obtain⟨v,h1,h2⟩:=r _ e;exact⟨v,by simp[h1],h2⟩
 |_,_,i+1,d,.cons _ q,e=>by
  obtain⟨v,h1,h2⟩:=SR.at (i:=i) (d:=d) q (by simpa using e);exact⟨v,by simpa using h1,h2⟩
theorem SR.set{K:ak}{H:Hp}{d:D}{v:V}(r:Rp K H d v):∀{σ:aE} {τ:L2.St} (i:Nat),SR K H σ τ->SR K H (σ.set i (some d)) (τ.set i (some v))
 |_,_,_,.nil=>.nil
 |_,_,0,.cons _ t=>.cons (λe he=>by cases he;exact⟨v,rfl,r⟩) t
 |_,_,i+1,.cons q t=>.cons q (SR.set r i t)
theorem SR.sd{K:ak}{H:Hp}:∀{ds:List D} {vs:List V},aS K H ds vs->SR K H (ds.map some) (vs.map some)
 |_,_,.nil=>.nil
 |_,_,.cons r t=>.cons (λe he=>by cases he;exact⟨_,rfl,r⟩) (SR.sd t)
theorem SR.nones{K:ak}{H:Hp}:∀n:Nat,SR K H (eR n none) (eR n none)
 |0=>.nil
 |n+1=>.cons (λd e=>by cases e) (SR.nones n)
theorem gP{α β:Type}{F:α->β->Prop}:∀{a b:List α} {c d:List β},Paired F a c->Paired F b d->Paired F (a++b) (c++d)
 |_,_,_,_,.nil,s=>s
 |_,_,_,_,.cons r t,s=>.cons r (gP t s)
abbrev aD:=aE->af->K3->Prop
abbrev b7:=aE->af->(Bool->af->Prop)->Prop
abbrev cb:=aE->af->(List D->af->Prop)->Prop
structure fH where
 nx:aE->af->Prop
 rt:K3
 bk:aE->af->Prop:=λ_ _=>False
 ct:aE->af->Prop:=λ_ _=>False
abbrev bP:=fH->aE->af->Prop
section
variable(K:PySem.W.Frag)(Z:Zt)
def CK(H:Hp)(Q3:K3)(Q:VK):Prop:=∀d S v H',Kp Z H H'->Rp K H' d v->Rl K Z S H'->Q3 d S->Q v H'
def CT(H:Hp)(Q3:Bool->af->Prop)(Q:Bool->Hp->Prop):Prop:=∀b S H',Kp Z H H'->Rl K Z S H'->Q3 b S->Q b H'
def CA(H:Hp)(Q3:List D->af->Prop)(Q:List V->Hp->Prop):Prop:=∀ds S vs H',Kp Z H H'->aS K H' ds vs->Rl K Z S H'->Q3 ds S->Q vs H'
def CS(H:Hp)(Q3:aE->af->Prop)(Q:L2.St->Hp->Prop):Prop:=∀σ S τ H',Kp Z H H'->SR K H' σ τ->Rl K Z S H'->Q3 σ S->Q τ H'
structure CD(H:Hp)(D3:fH)(D:Ends):Prop where
 nx:CS K Z H D3.nx D.nx
 bk:CS K Z H D3.bk D.bk
 ct:CS K Z H D3.ct D.ct
 rt:CK K Z H D3.rt D.rt
inductive lE(t:aD)(τ:L2.St)(H:Hp)(Q:VK):Prop where
 |mk (σ:aE) (S:af) (Q3:K3) (hs:SR K H σ τ) (hr:Rl K Z S H) (ht:t σ S Q3) (hc:CK K Z H Q3 Q)
inductive lT(t:b7)(τ:L2.St)(H:Hp)(Q:Bool->Hp->Prop):Prop where
 |mk (σ:aE) (S:af) (Q3:Bool->af->Prop) (hs:SR K H σ τ) (hr:Rl K Z S H) (ht:t σ S Q3) (hc:CT K Z H Q3 Q)
inductive lA(t:cb)(τ:L2.St)(H:Hp)(Q:List V->Hp->Prop):Prop where
 |mk (σ:aE) (S:af) (Q3:List D->af->Prop) (hs:SR K H σ τ) (hr:Rl K Z S H) (ht:t σ S Q3) (hc:CA K Z H Q3 Q)
inductive lS(t:bP)(D:Ends)(τ:L2.St)(H:Hp):Prop where
 |mk (D3:fH) (σ:aE) (S:af) (hs:SR K H σ τ) (hr:Rl K Z S H) (ht:t D3 σ S) (hc:CD K Z H D3 D)
end
variable{K:PySem.W.Frag}{Z:Zt}
theorem CK.mono{H H':Hp}{Q3:K3}{Q:VK}(k:Kp Z H H')(h:CK K Z H Q3 Q):CK K Z H' Q3 Q:=λd S v H2 k2=>h d S v H2 (k.trans k2)
theorem CT.mono{H H':Hp}{Q3:Bool->af->Prop}{Q:Bool->Hp->Prop}(k:Kp Z H H')(h:CT K Z H Q3 Q):CT K Z H' Q3 Q:=λd S H2 k2=>h d S H2 (k.trans k2)
theorem CS.mono{H H':Hp}{Q3:aE->af->Prop}{Q:L2.St->Hp->Prop}(k:Kp Z H H')(h:CS K Z H Q3 Q):CS K Z H' Q3 Q:=λd S v H2 k2=>h d S v H2 (k.trans k2)
theorem CD.mono{H H':Hp}{D3:fH}{D:Ends}(k:Kp Z H H')(h:CD K Z H D3 D):CD K Z H' D3 D:=⟨h.nx.mono k,h.bk.mono k,h.ct.mono k,h.rt.mono k⟩
structure Nf(h:Heap)(a C T:Addr):Prop where
 ne:T≠a
 exc:∃oe vs a0,h.get? a=some oe/\oe.cls=.ref C/\oe.data=.fields vs/\vs[0]?=some a0/\vs[1]?=some (.ref T)
 tb:∃oT ts,h.get? T=some oT/\oT.data=.fields ts/\ts[3]?=some .none
def b8(P:Program)(w:World):fU:=λouter H s E e s'=>∃(a C T:Addr) (H':Hp),e=.ref a/\s'.os=s.os/\AllBare s'.gens/\Un (frs outer) [] H H' s.heap s'.heap/\bS P w H' s'.heap /\
 Nf s'.heap a C T/\H' a=none/\H' T=none/\s.heap.get? a=none/\s.heap.get? T=none/\E (.ref C) (some a) H'
def vR(CX:fU)(X:Cx)(E:XK)(τ:L2.St):Prop:=∀(pins:List (Addr×Obj)) (H:Hp) (s:Shared) (e:Value) (s':Shared),Inv X pins τ H s->CX X.stack H s E e s'->X.xe e s'
def BN(X:Cx)(E:XK)(τ:L2.St):Prop:=∀(pins:List (Addr×Obj)) (H:Hp) (s s3:Shared) (e C:Addr) (args:List Value),Inv X pins τ H s->zT s.heap s3.heap e (.ref C) args->s3.os=s.os->s3.gens=s.gens->E (.ref C) (some e) H->X.xe (.ref e) s3
theorem Ng{P:Program}{w:World}{X:Cx}{τ:L2.St}:vR (b8 P w) X E0 τ:=λ_ _ _ _ _ _ h=>by
 obtain⟨a,C,T,H',_,_,_,_,_,_,_,_,_,_,z⟩:=h;exact z.elim
abbrev cJ:bF:=λ_ _ _ _=>False
def BO(K:ak)(Z:Zt)(H:Hp)(W3:X3)(E:XK):Prop:=∀C a S H',Kp Z H H'->Rl K Z S H'->H' a=none->W3 C a S->E (.ref C) (some a) H'
structure ZX(X:Cx)(W3:bF) where
 z:Zt
 E:L2.St->XK
 pass:∀τ,vR (b8 X.prog X.w) X (E τ) τ
 rz:∀τ,BN X (E τ) τ
 ce:∀σ τ C a S H,SR X.K H σ τ->Rl X.K z S H->H a=none->W3 σ C a S->E τ (.ref C) (some a) H
def ZX.no(X:Cx)(z:Zt):ZX X cJ:=⟨z,λ_=>E0,λ_=>Ng,λ_ _ _ _ _ _ _ _ _ _ _ _ z=>z.elim,λ_ _ _ _ _ _ _ _ _ z=>z.elim⟩
def aF(X:Cx)(W3:bF)(e:Expr)(t:aD):Prop:=∀Z:ZX X W3,PE X e (lE X.K Z.z t)
def dw(X:Cx)(W3:bF)(e:Expr)(t:b7):Prop:=∀Z:ZX X W3,PT X e (lT X.K Z.z t)
def dH(X:Cx)(W3:bF)(e:Expr)(t:b7):Prop:=∀Z:ZX X W3,PW X e (lT X.K Z.z t)
def d7(X:Cx)(W3:bF)(es:List Expr)(t:cb):Prop:=∀Z:ZX X W3,PA X es (lA X.K Z.z t)
def d8(X:Cx)(W3:bF)(st:Stmt)(t:bP):Prop:=∀Z:ZX X W3,PS X st (lS X.K Z.z t)
def cV(X:Cx)(W3:bF)(st:List Stmt)(t:bP):Prop:=∀Z:ZX X W3,dX X st (lS X.K Z.z t)
theorem PE.imp{X:Cx}{e:Expr}{t u:TE}(h:PE X e t)(f:∀σ H Q,u σ H Q->t σ H Q):PE X e u:=λpins s σ H Q I q=>h pins s σ H Q I (f _ _ _ q)
theorem PT.imp{X:Cx}{e:Expr}{t u:TT}(h:PT X e t)(f:∀σ H Q,u σ H Q->t σ H Q):PT X e u:=λpins s σ H Q I q=>h pins s σ H Q I (f _ _ _ q)
theorem PW.imp{X:Cx}{e:Expr}{t u:TT}(h:PW X e t)(f:∀σ H Q,u σ H Q->t σ H Q):PW X e u:=λw pins s σ H Q I q=>h w pins s σ H Q I (f _ _ _ q)
theorem PA.imp{X:Cx}{e:List Expr}{t u:TA}(h:PA X e t)(f:∀σ H Q,u σ H Q->t σ H Q):PA X e u:=λp pins s σ H Q I q=>h p pins s σ H Q I (f _ _ _ q)
theorem PS.imp{X:Cx}{st:Stmt}{t u:TS}(h:PS X st t)(f:∀D σ H,u D σ H->t D σ H):PS X st u:=λpins s σ H D I q=>h pins s σ H D I (f _ _ _ q)
theorem dX.imp{X:Cx}{st:List Stmt}{t u:TS}(h:dX X st t)(f:∀D σ H,u D σ H->t D σ H):dX X st u:=λpins s σ H D I q=>h pins s σ H D I (f _ _ _ q)
end E3
namespace E3
open PySem PySem.Spec PyProof.Rows L2 EE
section
variable{X:Cx}{W3:bF}{a b c e:Expr}{es:List Expr}{pos:Pos}
def v3(i:Nat):aD:=λσ S Q=>∃d,σ[i]?=some (some d)/\Q d S
def c3(d:D):aD:=λ_ S Q=>Q d S
theorem Nh{i:Nat}(h:PE X e (Az i)):aF X W3 e (v3 i):=λZ=>PE.imp h λτ H Q bX=>by
 obtain⟨σ,S,Q3,hs,hr,⟨d,e,q⟩,c⟩:=bX;obtain⟨v,h1,h2⟩:=hs.at e;exact⟨v,h1,c d S v H (Kp.refl _ _) h2 hr q⟩
theorem aa(i:Nat){x:Str}{pos:Pos}(hN:X.N[i]?=some x:=by rfl)(hv:ri X.env.scope x:=by first|exact Or.inl rfl|exact Or.inr (Or.inl rfl)|exact Or.inr (Or.inr rfl))(hd:(x==("__debug__":Str))=false:=by decide)
 (hcd:(x==("__classdict__":Str))=false:=by decide):aF X W3 (.Name x pos) (v3 i):=Nh (Kf hN hv hd hcd)
theorem mF{v:V}{d:D}(h:PE X e (tC v))(r:∀H,Rp X.K H d v):aF X W3 e (c3 d):=λZ=>PE.imp h λτ H Q dP=>by obtain⟨σ,S,Q3,hs,hr,q,c⟩:=dP;exact c d S v H (Kp.refl _ _) (r H) hr q
theorem aj{i j}:aF X W3 (.Constant (.int i) j pos) (c3 (.int i)):=mF Kg λ_=>.int _
theorem mG{b j}:aF X W3 (.Constant (.bool b) j pos) (c3 (.bl b)):=mF Kh λ_=>.bl _
theorem BP{j}:aF X W3 (.Constant .none j pos) (c3 .non):=mF Ki λ_=>.non
theorem bb{x j}:aF X W3 (.Constant (.str x) j pos) (c3 (.str x)):=mF Kj λ_=>.str _
theorem Ni{x:Str}{i:Int}(h:∃t,X.mg x=some (.int i t))(hg:Gl X x)(hd:(x==("__debug__":Str))=false:=by decide):aF X W3 (.Name x pos) (c3 (.int i)) :=
 mF (MS h hg hd) λ_=>.int _
theorem j7{x:Str}{C:Addr}(h:X.mg x=some (.ref C))(hg:Gl X x)(hd:(x==("__debug__":Str))=false:=by decide):aF X W3 (.Name x pos) (c3 (.ref C)) :=
 mF (AA (v:=.ref C) hg h rfl hd) λ_=>.ref _
abbrev R3:=D->D->af->K3->Prop
def c_(K:ak)(r3:R3)(r:R2):Prop:=∀(Z:Zt) x y S Q3 v w H Q,Rp K H x v->Rp K H y w->Rl K Z S H->r3 x y S Q3->CK K Z H Q3 Q->r v w H Q
def o3(r:R3)(ta tb:aD):aD:=λσ S Q=>ta σ S λx S1=>tb σ S1 λy S2=>r x y S2 Q
def gv(t:aD):b7:=λσ S Q=>t σ S λx S'=>∃k,x=.bl k/\Q k S'
variable{ta tb tc:aD}{tA tB:b7}{t:cb}
theorem se{K:ak}{Z:Zt}{r3:R3}{r:R2}(hd:c_ K r3 r){τ:L2.St}{H:Hp}{Q:VK}(h:lE K Z (o3 r3 ta tb) τ H Q):oV r (lE K Z ta) (lE K Z tb) τ H Q:=by
 obtain⟨σ,S,Q3,hs,hr,ht,hc⟩:=h;refine⟨σ,S,_,hs,hr,ht,λx S1 v H1 k1 r1 l1 q1=>?_⟩;refine⟨σ,S1,_,hs.mono k1,l1,q1,λy S2 w H2 k2 r2 l2 q2=>?_⟩;exact hd Z x y S2 Q3 v w H2 Q (r1.mono k2) r2 l2 q2 (hc.mono (k1.trans k2))
theorem aM{op:Operator}{r3:R3}{r:R2}(ho:ck X (binaryOp op) r)(hd:c_ X.K r3 r)(ha:aF X W3 a ta)(hb:aF X W3 b tb):aF X W3 (.BinOp a op b pos) (o3 r3 ta tb) :=
 λZ=>PE.imp (Lw ho (ha Z) (hb Z)) λ_ _ _ h=>se hd h
theorem je{op:CmpOp}{r3:R3}{r:R2}(ho:ck X (compareOp op) r)(hd:c_ X.K r3 r)(ha:aF X W3 a ta)(hb:aF X W3 b tb)(hm:behindInMarks op b=false):aF X W3 (.Compare a [op] [b] pos) (o3 r3 ta tb) :=
 λZ=>PE.imp (LH ho (ha Z) (hb Z) hm) λ_ _ _ h=>se hd h
theorem pG{K:ak}{Z:Zt}{t3:aD}{t2:TE}(hd:∀τ H Q,lE K Z t3 τ H Q->t2 τ H Q){τ:L2.St}{H:Hp}{Q:Bool->Hp->Prop}(h:lT K Z (gv t3) τ H Q):AO t2 τ H Q:=by
 obtain⟨σ,S,Q3,hs,hr,ht,hc⟩:=h;refine hd τ H _ ⟨σ,S,_,hs,hr,ht,λx S1 v H1 k1 r1 l1 q1=>?_⟩;obtain⟨k,rfl,q⟩:=q1;cases r1;exact⟨k,rfl,hc k S1 H1 k1 l1 q⟩
theorem bq{op:CmpOp}{r3:R3}{r:R2}(ho:ck X (compareOp op) r)(hd:c_ X.K r3 r)(ha:aF X W3 a ta)(hb:aF X W3 b tb)(hm:behindInMarks op b=false):dw X W3 (.Compare a [op] [b] pos) (gv (o3 r3 ta tb)) :=
 λZ=>PT.imp (LJ ho (ha Z) (hb Z) hm) λ_ _ _ h=>pG (λ_ _ _ h=>se hd h) h
theorem aB{r3:R3}{r:R2}(ho:oZ X r)(hd:c_ X.K r3 r)(ha:aF X W3 a ta)(hb:aF X W3 b tb)(hs:A2 b):aF X W3 (.Subscript a b pos) (o3 r3 ta tb) :=
 λZ=>PE.imp (Mj ho (ha Z) (hb Z) hs) λ_ _ _ h=>se hd h
theorem kQ(h:aF X W3 e ta)(he:∀whole,isTrue e X.env whole=(do let v <-whole;standAt e.pos;holding [v] (truthy v)):=by intro _;rfl):dw X W3 e (gv ta) :=
 λZ=>PT.imp (Kl (h Z) he) λ_ _ _ q=>pG (t2:=lE X.K Z.z ta) (λ_ _ _ z=>z) q
def u3(r:D->af->K3->Prop)(ta:aD):aD:=λσ S Q=>ta σ S λx S1=>r x S1 Q
theorem j8(ha:aF X W3 a ta):aF X W3 (.UnaryOp .USub a pos) (u3 (λx S Q=>∃i,x=.int i/\Q (.int (-i)) S) ta):=λZ=>PE.imp (Ly LB (ha Z)) λτ H Q jf=>by
 obtain⟨σ,S,Q3,hs,hr,ht,hc⟩:=jf;refine⟨σ,S,_,hs,hr,ht,λx S1 v H1 k1 r1 l1 q1=>?_⟩;obtain⟨i,rfl,q⟩:=q1;cases r1;exact⟨i,rfl,hc _ S1 _ H1 k1 (.int _) l1 q⟩
def BQ(t u:b7):b7:=λσ S Q=>t σ S λc S1=>if c=true then u σ S1 Q else Q false S1
def or3(t u:b7):b7:=λσ S Q=>t σ S λc S1=>if c=true then Q true S1 else u σ S1 Q
def BR(t:b7):b7:=λσ S Q=>t σ S λc S1=>Q (!c) S1
def BS(ta tb:aD):aD:=λσ S Q=>ta σ S λx S1=>∃c,x=.bl c/\if c=true then tb σ S1 Q else Q (.bl false) S1
def BU(ta:aD):aD:=λσ S Q=>ta σ S λx S1=>∃c,x=.bl c/\Q (.bl (!c)) S1
def BV(t:b7)(ta tb:aD):aD:=λσ S Q=>t σ S λc S1=>if c=true then ta σ S1 Q else tb σ S1 Q
variable{rest:List Expr}
theorem kR(ha:dw X W3 a tA):dH X W3 (.BoolOp .And [a] pos) tA:=λZ=>Kq (ha Z)
theorem sf(ha:dw X W3 a tA):dH X W3 (.BoolOp .Or [a] pos) tA:=λZ=>Kr (ha Z)
theorem w_and(ha:dw X W3 a tA)(hb:dH X W3 (.BoolOp .And (b::rest) pos) tB):dH X W3 (.BoolOp .And (a::b::rest) pos) (BQ tA tB):=λZ=>PW.imp (Ks (ha Z) (hb Z)) λτ H Q i7=>by
 obtain⟨σ,S,Q3,hs,hr,ht,hc⟩:=i7;refine⟨σ,S,_,hs,hr,ht,λc S1 H1 k1 l1 q1=>?_⟩;cases c with
 |true=>exact⟨σ,S1,Q3,hs.mono k1,l1,q1,hc.mono k1⟩
 |false=>exact hc false S1 H1 k1 l1 q1
theorem w_or(ha:dw X W3 a tA)(hb:dH X W3 (.BoolOp .Or (b::rest) pos) tB):dH X W3 (.BoolOp .Or (a::b::rest) pos) (or3 tA tB):=λZ=>PW.imp (Kt (ha Z) (hb Z)) λτ H Q oQ=>by
 obtain⟨σ,S,Q3,hs,hr,ht,hc⟩:=oQ;refine⟨σ,S,_,hs,hr,ht,λc S1 H1 k1 l1 q1=>?_⟩;cases c with
 |true=>exact hc true S1 H1 k1 l1 q1
 |false=>exact⟨σ,S1,Q3,hs.mono k1,l1,q1,hc.mono k1⟩
theorem dH.pt(h:dH X W3 e tA):dw X W3 e tA:=λZ=>(h Z).pt
theorem BW(ha:dw X W3 a tA):dw X W3 (.UnaryOp .Not a pos) (BR tA):=λZ=>PT.imp (Ku (ha Z)) λτ H Q vT=>by obtain⟨σ,S,Q3,hs,hr,ht,hc⟩:=vT;exact⟨σ,S,_,hs,hr,ht,λc S1 H1 k1 l1 q1=>hc (!c) S1 H1 k1 l1 q1⟩
theorem Nj{op}(h:aF X W3 a ta):aF X W3 (.BoolOp op [a] pos) ta:=λZ=>Kx (h Z)
theorem BX(ha:aF X W3 a ta)(hb:aF X W3 (.BoolOp .And (b::rest) pos) tb):aF X W3 (.BoolOp .And (a::b::rest) pos) (BS ta tb):=λZ=>PE.imp (Ky (ha Z) (hb Z)) λτ H Q vU=>by
 obtain⟨σ,S,Q3,hs,hr,ht,hc⟩:=vU;refine⟨σ,S,_,hs,hr,ht,λx S1 v H1 k1 r1 l1 q1=>?_⟩;obtain⟨c,rfl,q1⟩:=q1;cases r1;refine⟨c,rfl,?_⟩;cases c with
 |true=>exact⟨σ,S1,Q3,hs.mono k1,l1,q1,hc.mono k1⟩
 |false=>exact hc _ S1 _ H1 k1 (.bl _) l1 q1
theorem Nk(ha:aF X W3 a ta):aF X W3 (.UnaryOp .Not a pos) (BU ta):=λZ=>PE.imp (Kz (ha Z)) λτ H Q Nl=>by
 obtain⟨σ,S,Q3,hs,hr,ht,hc⟩:=Nl;refine⟨σ,S,_,hs,hr,ht,λx S1 v H1 k1 r1 l1 q1=>?_⟩;obtain⟨c,rfl,q1⟩:=q1;cases r1;exact⟨c,rfl,hc _ S1 _ H1 k1 (.bl _) l1 q1⟩
theorem mH(hc:dw X W3 c tA)(ha:aF X W3 a ta)(hb:aF X W3 b tb):aF X W3 (.IfExp c a b pos) (BV tA ta tb):=λZ=>PE.imp (KC (hc Z) (ha Z) (hb Z)) λτ H Q vq=>by
 obtain⟨σ,S,Q3,hs,hr,ht,hc⟩:=vq;refine⟨σ,S,_,hs,hr,ht,λc S1 H1 k1 l1 q1=>?_⟩;cases c with
 |true=>exact⟨σ,S1,Q3,hs.mono k1,l1,q1,hc.mono k1⟩
 |false=>exact⟨σ,S1,Q3,hs.mono k1,l1,q1,hc.mono k1⟩
def IsL(S:af)(x:D)(ds:List D):Prop:=(∃a,x=.ref a/\S a=some (.lst ds))∨x=.bY ds
theorem IsL.down{K:ak}{Z:Zt}{S:af}{H:Hp}{x:D}{ds:List D}{v:V}(h:IsL S x ds)(r:Rp K H x v)(l:Rl K Z S H):∃a vs,v=.ref a/\aZ K H a vs/\aS K H ds vs:=by
 rcases h with⟨a,rfl,e⟩|rfl
 ·cases r;obtain⟨vs,h1,h2⟩:=l.obj a _ e;exact⟨a,vs,rfl,aZ.of h1,h2⟩
 ·cases r with
  |bY h1 h2=>exact⟨_,_,rfl,h1.sq,h2⟩
def pH(S:af):D->Bool->Prop
 | .non,k=>k=false
 | .bl b,k=>k=b
 | .int i,k=>k=(i != 0)
 | .str y,k=>y.length<=sizeLine/\k=((y.length:Int) != 0)
 | .tup ds,k=>k=!ds.isEmpty
 | .bY ds,k=>k=!ds.isEmpty
 | .ref a,k=>(∃ds,S a=some (.lst ds)/\k=!ds.isEmpty)∨∃kvs,S a=some (.bU kvs)/\k=!kvs.isEmpty
 | .ty _,_=>False
theorem aS.empty{K:ak}{H:Hp}{ds:List D}{vs:List V}(r:aS K H ds vs):ds.isEmpty=vs.isEmpty:=by cases r<;>rfl
theorem pH.down{K:ak}{Z:Zt}{S:af}{H:Hp}{x:D}{v:V}{k:Bool}(h:pH S x k)(r:Rp K H x v)(l:Rl K Z S H):vp K v H k:=by
 cases r with
 |non=>exact h
 |bl b=>exact h
 |int i=>exact h
 |str x=>exact h
 |ty n=>exact h
 |tup h1 h2=>exact .inr (.inl ⟨_,h1,by rw[<-h2.empty];exact h⟩)
 |bY h1 h2=>exact .inl ⟨_,h1.sq,by rw[<-h2.empty];exact h⟩
 |ref a =>
  rcases h with⟨ds,e,q⟩|⟨kvs,e,q⟩
  ·obtain⟨vs,h1,h2⟩:=l.obj a _ e;exact .inl ⟨vs,aZ.of h1,by rw[<-h2.empty];exact q⟩
  ·obtain⟨ws,h1,h2⟩:=l.obj a _ e;refine .inr (.inr ⟨ws,h1,?_⟩);cases h2<;>exact q
def BY(ta:aD):b7:=λσ S Q=>ta σ S λx S1=>∃k,pH S1 x k/\Q k S1
theorem sg(ha:aF X W3 a ta)(he:∀whole,isTrue a X.env whole=(do let v <-whole;standAt a.pos;holding [v] (truthy v))):dw X W3 a (BY ta):=λZ=>PT.imp (LM (ha Z) he) λτ H Q z_11=>by
 obtain⟨σ,S,Q3,hs,hr,ht,hc⟩:=z_11;refine⟨σ,S,_,hs,hr,ht,λx S1 v H1 k1 r1 l1 q1=>?_⟩;obtain⟨k,h,q⟩:=q1;exact⟨k,h.down r1 l1,hc k S1 H1 k1 l1 q⟩
def gw:cb:=λ_ S Q=>Q [] S
def eJ(ta:aD)(tr:cb):cb:=λσ S Q=>ta σ S λx S1=>tr σ S1 λxs S2=>Q (x::xs) S2
theorem ai:d7 X W3 [] gw:=λZ=>PA.imp LQ λτ H Q z_12=>by obtain⟨σ,S,Q3,hs,hr,ht,hc⟩:=z_12;exact hc [] S [] H (Kp.refl _ _) .nil hr ht
theorem ae(ha:aF X W3 e ta)(hr:d7 X W3 es t)(hs:starEach (e::es) X.env=(false,eval e X.env)::starEach es X.env:=by rfl):d7 X W3 (e::es) (eJ ta t):=λZ=>PA.imp (LR (ha Z) (hr Z) hs) λτ H Q z_13=>by
 obtain⟨σ,S,Q3,hs,hr,ht,hc⟩:=z_13;refine⟨σ,S,_,hs,hr,ht,λx S1 v H1 k1 r1 l1 q1=>?_⟩;exact⟨σ,S1,_,hs.mono k1,l1,q1,λxs S2 vs H2 k2 r2 l2 q2=>hc (x::xs) S2 (v::vs) H2 (k1.trans k2) (.cons (r1.mono k2) r2) l2 q2⟩
def cC(S:af)(ds:List D)(Q:K3):Prop:=∀p,S p=none->Q (.ref p) (up S p (.lst ds))
theorem cC.down{K:ak}{Z:Zt}{S:af}{H:Hp}{ds:List D}{vs:List V}{Q3:K3}{Q:VK}(h:cC S ds Q3)(r:aS K H ds vs)(l:Rl K Z S H)(c:CK K Z H Q3 Q):∀p,H p=none->Q (.ref p) (upd H p (.lst vs)):=λp hp=>by
 obtain⟨hs,hz⟩:=l.fresh hp;have k:=Kp.new (o:=HO.lst vs) hp hz;exact c _ _ _ _ k (.ref p) (l.put (o:=.lst ds) k hz ⟨vs,di,r.mono k⟩) (h p hs)
theorem tup.down{K:ak}{Z:Zt}{S:af}{H:Hp}{ds:List D}{vs:List V}{Q3:K3}{Q:VK}(h:Q3 (.tup ds) S)(r:aS K H ds vs)(l:Rl K Z S H)(c:CK K Z H Q3 Q):∀p,H p=none->Q (.ref p) (upd H p (.tup vs)):=λp hp=>by
 obtain⟨hs,hz⟩:=l.fresh hp;have k:=Kp.new (o:=HO.tup vs) hp hz;exact c _ _ _ _ k (.tup (a9.of di) (r.mono k)) (l.lay hp) h
def BZ(t:cb):aD:=λσ S Q=>t σ S λxs S1=>xs.length<=sizeLine/\Q (.tup xs) S1
def B0(t:cb):aD:=λσ S Q=>t σ S λxs S1=>xs.length<=sizeLine/\cC S1 xs Q
theorem bD{x1}(h:d7 X W3 es t):aF X W3 (.Tuple es x1 pos) (BZ t):=λZ=>PE.imp (LV (h Z)) λτ H Q ⟨σ,S,Q3,hs,hr,ht,hc⟩ =>
 ⟨σ,S,_,hs,hr,ht,λxs S1 vs H1 k1 r1 l1 z_14=>by obtain⟨z,q⟩:=z_14;exact⟨by rw[<-r1.len];exact z,tup.down q r1 l1 (hc.mono k1)⟩⟩
theorem cP(h:d7 X W3 es t):aF X W3 (.List es pos) (B0 t):=λZ=>PE.imp (LX (h Z)) λτ H Q ⟨σ,S,Q3,hs,hr,ht,hc⟩ =>
 ⟨σ,S,_,hs,hr,ht,λxs S1 vs H1 k1 r1 l1 z_15=>by obtain⟨z,q⟩:=z_15;exact⟨by rw[<-r1.len];exact z,cC.down q r1 l1 (hc.mono k1)⟩⟩
def fI(K:ak)(r3:List D->af->K3->Prop)(r:List V->Hp->VK->Prop):Prop:=∀(Z:Zt) ds S Q3 vs H Q,aS K H ds vs->Rl K Z S H->r3 ds S Q3->CK K Z H Q3 Q->r vs H Q
def mI(r:List D->af->K3->Prop)(t:cb):aD:=λσ S Q=>t σ S λvs S1=>r vs S1 Q
variable{x:Str}{p:Pos}{id T:String}{r3:List D->af->K3->Prop}{r:List V->Hp->VK->Prop}
theorem B1{K:ak}{Z:Zt}(hd:fI K r3 r){τ:L2.St}{H:Hp}{Q:VK}(h:lE K Z (mI r3 t) τ H Q):vv r (lA K Z t) τ H Q:=by
 obtain⟨σ,S,Q3,hs,hr,ht,hc⟩:=h;exact⟨σ,S,_,hs,hr,ht,λds S1 vs H1 k1 r1 l1 q1=>hd Z ds S1 Q3 vs H1 Q r1 l1 q1 (hc.mono k1)⟩
theorem cK(hc:fm X (.builtin id) r)(hd:fI X.K r3 r)(hg:Gl X x)(hm:X.mg x=none)(hv:bootBuiltins x=some (.builtin id))(ha:d7 X W3 (e::es) t)(hn:x≠"__name__":=by decide)(hdb:(x==("__debug__":Str))=false:=by decide)
 (he:starEach (e::es) X.env=(false,eval e X.env)::starEach es X.env:=by rfl) (hpl:(backTo pos (starEach es X.env)).any (·.1)=false:=by rfl):aF X W3 (.Call (.Name x p) (e::es) [] pos) (mI r3 t) :=
 λZ=>PE.imp (L3 hc hg hm hv (ha Z) hn hdb he hpl) λ_ _ _ h=>B1 hd h
theorem ft(hc:fm X (.type T) r)(hd:fI X.K r3 r)(hg:Gl X x)(hm:X.mg x=none)(hv:bootBuiltins x=some (.type T))(ha:d7 X W3 (e::es) t)(hn:x≠"__name__":=by decide)(hdb:(x==("__debug__":Str))=false:=by decide)
 (he:starEach (e::es) X.env=(false,eval e X.env)::starEach es X.env:=by rfl) (hpl:(backTo pos (starEach es X.env)).any (·.1)=false:=by rfl):aF X W3 (.Call (.Name x p) (e::es) [] pos) (mI r3 t) :=
 λZ=>PE.imp (L4 hc hg hm hv (ha Z) hn hdb he hpl) λ_ _ _ h=>B1 hd h
def mJ(K:ak)(r3:D->List D->af->K3->Prop)(r:V->List V->Hp->VK->Prop):Prop:=∀(Z:Zt) x ds S Q3 v vs H Q,Rp K H x v->aS K H ds vs->Rl K Z S H->r3 x ds S Q3->CK K Z H Q3 Q->r v vs H Q
def kS(T:String)(x:D)(S:af):Prop:=(T="str"/\∃z,x=.str z)∨(T="list"/\∃ds,IsL S x ds)∨(T="dict"/\∃a kvs,x=.ref a/\S a=some (.bU kvs))
theorem kS.down{K:ak}{Z:Zt}{S:af}{H:Hp}{T:String}{x:D}{v:V}(h:kS T x S)(r:Rp K H x v)(l:Rl K Z S H):rS K T v H:=by
 rcases h with⟨rfl,z,rfl⟩|⟨rfl,ds,h⟩|⟨rfl,a,kvs,rfl,e⟩
 ·cases r;rfl
 ·obtain⟨a,vs,rfl,h1,_⟩:=h.down r l;exact .inl ⟨rfl,vs,h1⟩
 ·cases r;obtain⟨ws,h1,_⟩:=l.obj a _ e;exact .inr (.inr (.inl ⟨rfl,.inl ⟨ws,h1⟩⟩))
def B2(T:String)(r:D->List D->af->K3->Prop)(to:aD):aD:=λσ S Q=>to σ S λx S1=>kS T x S1/\r x [] S1 Q
def vV(T:String)(r:D->List D->af->K3->Prop)(to:aD)(t:cb):aD:=λσ S Q=>to σ S λx S1=>kS T x S1/\t σ S1 λxs S2=>r x xs S2 Q
variable{o:Expr}{to:aD}{name:Str}{apos cpos:Pos}{m3:D->List D->af->K3->Prop}{m:V->List V->Hp->VK->Prop}
theorem sh(pa:PlainAttrs T)(slot:Slot T name id)(hty:typeOf (.builtin id)=pure (.type "method_descriptor"))(hm:rR X id m)(hd:mJ X.K m3 m)(ho:aF X W3 o to)
 (hbase:attributeBase o name X.env (eval o X.env)=eval o X.env:=by rfl) (hline:(apos.endLine==cpos.line)=true:=by rfl):aF X W3 (.Call (.Attribute o name apos) [] [] cpos) (B2 T m3 to) :=
 λZ=>PE.imp (Mr pa slot hty hm (ho Z) hbase hline) λτ H Q ⟨σ,S,Q3,hs,hr,ht,hc⟩ =>
  ⟨σ,S,_,hs,hr,ht,λx S1 v H1 k1 r1 l1 z_16=>by obtain⟨ty,q⟩:=z_16;exact⟨ty.down r1 l1,hd Z.z x [] S1 Q3 v [] H1 Q r1 .nil l1 q (hc.mono k1)⟩⟩
theorem dz(pa:PlainAttrs T)(slot:Slot T name id)(hty:typeOf (.builtin id)=pure (.type "method_descriptor"))(hm:rR X id m)(hd:mJ X.K m3 m)(ho:aF X W3 o to)(ha:d7 X W3 (e::es) t)
 (hbase:attributeBase o name X.env (eval o X.env)=eval o X.env:=by rfl)
 (hfew:((backTo cpos (starEach (e::es) X.env)).all (λx=>!x.1)&&(backToKw cpos (keywordEach [] X.env)).all (λx=>x.1.isSome)
  && decide ((e::es).length+([]:List Keyword).length+(if([]:List Keyword).isEmpty then 0 else 1)<30))=true:=by rfl)
 (hline:(apos.endLine==cpos.line)=true:=by rfl) (hs:starEach (e::es) X.env=(false,eval e X.env)::starEach es X.env:=by rfl) (hplain:(backTo cpos (starEach es X.env)).any (·.1)=false:=by rfl) :
 aF X W3 (.Call (.Attribute o name apos) (e::es) [] cpos) (vV T m3 to t) :=
 λZ=>PE.imp (Ms pa slot hty hm (ho Z) (ha Z) hbase hfew hline hs hplain) λτ H Q ⟨σ,S,Q3,hs,hr,ht,hc⟩ =>
  ⟨σ,S,_,hs,hr,ht,λx S1 v H1 k1 r1 l1 z_17=>by obtain⟨ty,q⟩:=z_17;exact⟨ty.down r1 l1,σ,S1,_,hs.mono k1,l1,q,λds S2 vs H2 k2 r2 l2 q2=>hd Z.z x ds S2 Q3 v vs H2 Q (r1.mono k2) r2 l2 q2 (hc.mono (k1.trans k2))⟩⟩
abbrev kT:=aE->af->(Option Int->af->Prop)->Prop
def CO(K:ak)(Z:Zt)(H:Hp)(Q3:Option Int->af->Prop)(Q:Option Int->Hp->Prop):Prop:=∀d S H',Kp Z H H'->Rl K Z S H'->Q3 d S->Q d H'
def lO(K:ak)(Z:Zt)(t:kT):TO:=λτ H Q=>∃σ S Q3,SR K H σ τ/\Rl K Z S H/\t σ S Q3/\CO K Z H Q3 Q
def pI(X:Cx)(W3:bF)(e:Option Expr)(t:kT):Prop:=∀Z:ZX X W3,PO X e (lO X.K Z.z t)
def B3:kT:=λ_ S Q=>Q none S
def part3(t:aD):kT:=λσ S Q=>t σ S λx S1=>∃i,x=.int i/\Q (some i) S1
theorem PO.imp{X:Cx}{e:Option Expr}{t u:TO}(h:PO X e t)(f:∀σ H Q,u σ H Q->t σ H Q):PO X e u:=λpins s σ H Q I q=>h pins s σ H Q I (f _ _ _ q)
theorem eX:pI X W3 none B3:=λZ=>PO.imp Ma λτ H Q z_18=>by obtain⟨σ,S,Q3,hs,hr,ht,hc⟩:=z_18;exact hc none S H (Kp.refl _ _) hr ht
theorem eY(h:aF X W3 e ta):pI X W3 (some e) (part3 ta):=λZ=>PO.imp (Mb (h Z)) λτ H Q z_19=>by
 obtain⟨σ,S,Q3,hs,hr,ht,hc⟩:=z_19;refine⟨σ,S,_,hs,hr,ht,λx S1 v H1 k1 r1 l1 q1=>?_⟩;obtain⟨i,rfl,q⟩:=q1;cases r1;exact⟨i,rfl,hc _ S1 H1 k1 l1 q⟩
def si(K:ak)(r3:D->Option Int->Option Int->af->K3->Prop)(r:V->Option Int->Option Int->Hp->VK->Prop):Prop:=∀(Z:Zt) x lo hi S Q3 v H Q,Rp K H x v->Rl K Z S H->r3 x lo hi S Q3->CK K Z H Q3 Q->r v lo hi H Q
def B4(r:D->Option Int->Option Int->af->K3->Prop)(te:aD)(tl th:kT):aD:=λσ S Q=>te σ S λx S1=>tl σ S1 λl S2=>th σ S2 λu S3=>r x l u S3 Q
theorem eZ{lo hi:Option Expr}{tl th:kT}{p2:Pos}{s3:D->Option Int->Option Int->af->K3->Prop}{s2:V->Option Int->Option Int->Hp->VK->Prop}(hr:mv X s2)(hd:si X.K s3 s2)(he:aF X W3 e ta)(hl:pI X W3 lo tl)(hu:pI X W3 hi th) :
 aF X W3 (.Subscript e (.Slice lo hi none p2) pos) (B4 s3 ta tl th):=λZ=>PE.imp (Md hr (he Z) (hl Z) (hu Z)) λτ H Q vW=>by obtain⟨σ,S,Q3,hs,hr,ht,hc⟩:=vW;exact 
 ⟨σ,S,_,hs,hr,ht,λx S1 v H1 k1 r1 l1 q1=>⟨σ,S1,_,hs.mono k1,l1,q1,λl S2 H2 k2 l2 q2=>⟨σ,S2,_,hs.mono (k1.trans k2),l2,q2,λu S3 H3 k3 l3 q3 =>
  hd Z.z x l u S3 Q3 v H3 Q (r1.mono (k2.trans k3)) l3 q3 (hc.mono (k1.trans (k2.trans k3)))⟩⟩⟩
def kD:Key->D
 | .inl i=>.int i
 | .inr x=>.str x
def dA(kvs:List (Key×D))(k:Key):Option D:=(kvs.find? λkv=>decide (kv.1=k)).map (·.2)
def putD(kvs:List (Key×D))(k:Key)(v:D):List (Key×D):=if(kvs.any λkv=>decide (kv.1=k))=true then kvs.map λkv=>if kv.1=k then(kv.1,v) else kv else kvs++[(k,v)]
def vY(ty td:aD):aD:=λσ S Q=>ty σ S λy S1=>td σ S1 λx S2=>∃a kvs k,x=.ref a/\S2 a=some (.bU kvs)/\y=kD k/\Q (.bl (dA kvs k).isSome) S2
def vZ(ty td:aD):aD:=λσ S Q=>ty σ S λy S1=>td σ S1 λx S2=>∃a kvs k,x=.ref a/\S2 a=some (.bU kvs)/\y=kD k/\Q (.bl (!(dA kvs k).isSome)) S2
theorem v5{K:ak}{H:Hp}{k:Key}{v:V}(r:Rp K H (kD k) v):v=kV k:=by
 cases k with
 |inl i=>cases r;rfl
 |inr x=>cases r;rfl
abbrev KR(K:ak)(H:Hp):=Paired (λ(p:Key×D) (q:Key×V)=>p.1=q.1/\Rp K H p.2 q.2)
theorem KR.val{K:ak}{H:Hp}{kvs:List (Key×D)}{ws:List (Key×V)}(r:KR K H kvs ws)(k:Key):RO K H (dA kvs k) (eI ws k)/\(dA kvs k).isSome=(eI ws k).isSome:=by
 induction r with
 |nil=>exact⟨λd e=>(nomatch e),rfl⟩
 |@cons p q ps qs h t ih =>
  obtain⟨h1,h2⟩:=h;by_cases e:p.1=k
  ·have e2:q.1=k:=h1▸e;have a:dA (p::ps) k=some p.2:=by simp[dA,gE,e]
   rw[a,pq e2];exact⟨λd z=>by cases z;exact⟨_,rfl,h2⟩,rfl⟩
  ·have e2:¬q.1=k:=h1▸e;have a:dA (p::ps) k=dA ps k:=by simp[dA,gE,e]
   rw[a,pv e2];exact ih
theorem KR.any{K:ak}{H:Hp}{kvs:List (Key×D)}{ws:List (Key×V)}(r:KR K H kvs ws)(k:Key):(kvs.any λkv=>decide (kv.1=k))=ws.any λkv=>decide (kv.1=k):=by
 induction r with
 |nil=>rfl
 |@cons p q ps qs h t ih=>rw[ia,ia,ih,h.1]
theorem KR.repl{K:ak}{H:Hp}(k:Key){d:D}{v:V}(h:Rp K H d v):∀{kvs:List (Key×D)} {ws:List (Key×V)},KR K H kvs ws->KR K H (kvs.map λkv=>if kv.1=k then(kv.1,d) else kv) (ws.map λkv=>if kv.1=k then(kv.1,v) else kv)
 |_,_,.nil=>.nil
 |_,_,.cons (a:=p) (b:=q) ⟨e,r⟩ t=>by
  refine .cons ?_ (KR.repl k h t);dsimp only;by_cases c:q.1=k
  ·rw[if_pos c,if_pos (e▸c)];exact⟨e,h⟩
  ·rw[if_neg c,if_neg (e▸c)];exact⟨e,r⟩
theorem KR.put{K:ak}{H:Hp}{kvs:List (Key×D)}{ws:List (Key×V)}(r:KR K H kvs ws)(k:Key){d:D}{v:V}(h:Rp K H d v):KR K H (putD kvs k d) (putK ws k v):=by
 unfold putD putK;rw[r.any k]
 split
 ·exact KR.repl k h r
 ·exact gP r (.cons ⟨rfl,h⟩ .nil)
theorem KR.len{K:ak}{H:Hp}{kvs:List (Key×D)}{ws:List (Key×V)}(r:KR K H kvs ws):kvs.length=ws.length:=Paired.length r
theorem fE.down{K:ak}{Z:Zt}{S:af}{H:Hp}{a:Addr}{kvs:List (Key×D)}{k:Key}{v:V}(l:Rl K Z S H)(e:S a=some (.bU kvs))(r:Rp K H (kD k) v):∃ws,fE H a v (eI ws k)/\KR K H kvs ws:=by
 obtain⟨ws,h1,h2⟩:=l.obj a _ e;rw[v5 r];exact⟨ws,fE.k h1,h2⟩
theorem Nn{i:Expr}{td ty:aD}{K:ak}{Z:Zt}{τ:L2.St}{H:Hp}{Q:VK}(h:lE K Z (vY ty td) τ H Q):Br (lE K Z ty) (lE K Z td) τ H Q:=by
 obtain⟨σ,S,Q3,hs,hr,ht,hc⟩:=h;refine⟨σ,S,_,hs,hr,ht,λy S1 w H1 k1 r1 l1 q1=>⟨σ,S1,_,hs.mono k1,l1,q1,λx S2 v H2 k2 r2 l2 q2=>?_⟩⟩;obtain⟨a,kvs,k,rfl,e,rfl,q⟩:=q2;cases r2;obtain⟨ws,g,kr⟩:=fE.down l2 e (r1.mono k2);refine⟨a,_,rfl,g,?_⟩;rw[<-(kr.val k).2];exact hc _ S2 _ H2 (k1.trans k2) (.bl _) l2 q
theorem Np{i:Expr}{td ty:aD}{K:ak}{Z:Zt}{τ:L2.St}{H:Hp}{Q:VK}(h:lE K Z (vZ ty td) τ H Q):vI (lE K Z ty) (lE K Z td) τ H Q:=by
 obtain⟨σ,S,Q3,hs,hr,ht,hc⟩:=h;refine⟨σ,S,_,hs,hr,ht,λy S1 w H1 k1 r1 l1 q1=>⟨σ,S1,_,hs.mono k1,l1,q1,λx S2 v H2 k2 r2 l2 q2=>?_⟩⟩;obtain⟨a,kvs,k,rfl,e,rfl,q⟩:=q2;cases r2;obtain⟨ws,g,kr⟩:=fE.down l2 e (r1.mono k2);refine⟨a,_,rfl,g,?_⟩;rw[<-(kr.val k).2];exact hc _ S2 _ H2 (k1.trans k2) (.bl _) l2 q
theorem Nq{i:Expr}{td ty:aD}(hu:X.A.units+5<cLine)(hi:aF X W3 i ty)(ho:aF X W3 o td)(h1:behindInMarks .In o=false:=by with_unfolding_all rfl):dw X W3 (.Compare i [.In] [o] pos) (gv (vY ty td)) :=
 λZ=>PT.imp (ve (MK hu (hi Z) (ho Z)) h1) λ_ _ _ h=>pG (λ_ _ _ h=>Nn (i:=i) h) h
theorem Nr{i:Expr}{td ty:aD}(hu:X.A.units+5<cLine)(hi:aF X W3 i ty)(ho:aF X W3 o td)(h1:behindInMarks .NotIn o=false:=by with_unfolding_all rfl):dw X W3 (.Compare i [.NotIn] [o] pos) (gv (vZ ty td)) :=
 λZ=>PT.imp (ve (Bs hu (hi Z) (ho Z)) h1) λ_ _ _ h=>pG (λ_ _ _ h=>Np (i:=i) h) h
end
section
variable{X:Cx}{W3:bF}{st:Stmt}{rest:List Stmt}{t u:bP}{e:Expr}{te:aD}{pos:Pos}
def B5:bP:=λD σ S=>D.nx σ S
def mK(t u:bP):bP:=λD σ S=>t {D with nx:=u D} σ S
theorem bZ:cV X W3 [] B5:=λZ=>dX.imp KH λD τ H bX=>by obtain⟨D3,σ,S,hs,hr,ht,hc⟩:=bX;exact hc.nx σ S τ H (Kp.refl _ _) hs hr ht
theorem au(h1:d8 X W3 st t)(h2:cV X W3 rest u):cV X W3 (st::rest) (mK t u):=λZ=>dX.imp (KI (h1 Z) (h2 Z)) λD τ H ⟨D3,σ,S,hs,hr,ht,hc⟩ =>
 ⟨_,σ,S,hs,hr,ht,⟨λσ' S' aP H' k r l q=>⟨D3,σ',S',r,l,q,hc.mono k⟩,hc.bk,hc.ct,hc.rt⟩⟩
theorem aA(h1:d8 X W3 st t):cV X W3 [st] t:=λZ=>KJ (h1 Z)
def sj(te:aD):bP:=λD σ S=>te σ S λ_ S1=>D.nx σ S1
theorem de(he:aF X W3 e te)(hs:swapsWith e none pos.line X.env=pure false:=by rfl):d8 X W3 (.Expr e pos) (sj te):=λZ=>PS.imp (KN (he Z) hs) λD τ H ⟨D3,σ,S,hs,hr,ht,hc⟩ =>
 ⟨σ,S,_,hs,hr,ht,λd S' v H' k r l q=>hc.nx σ S' τ H' k (hs.mono k) l q⟩
def B6(te:aD):bP:=λD σ S=>te σ S D.rt
theorem bc(he:aF X W3 e te):d8 X W3 (.Return (some e) pos) (B6 te):=λZ=>PS.imp (KP (he Z)) λD τ H vT=>by obtain⟨D3,σ,S,hs,hr,ht,hc⟩:=vT;exact⟨σ,S,_,hs,hr,ht,hc.rt⟩
def B7:bP:=λD _ S=>D.rt .non S
theorem Nt:d8 X W3 (.Return none pos) B7:=λZ=>PS.imp KS λD τ H vU=>by obtain⟨D3,σ,S,hs,hr,ht,hc⟩:=vU;exact hc.rt .non S .non H (Kp.refl _ _) .non hr ht
def mL(c:b7)(t u:bP):bP:=λD σ S=>c σ S λb S1=>if b=true then t D σ S1 else u D σ S1
theorem cE{c:Expr}{a b:List Stmt}{tc:b7}(hc:dw X W3 c tc)(ha:cV X W3 a t)(hb:cV X W3 b u):d8 X W3 (.If c a b pos) (mL tc t u):=λZ=>PS.imp (KW (hc Z) (ha Z) (hb Z)) λD τ H vj=>by
 obtain⟨D3,σ,S,hs,hr,ht,hc⟩:=vj;refine⟨σ,S,_,hs,hr,ht,λb S' H' k l q=>?_⟩;cases b with
 |true=>exact⟨D3,σ,S',hs.mono k,l,q,hc.mono k⟩
 |false=>exact⟨D3,σ,S',hs.mono k,l,q,hc.mono k⟩
abbrev e_:=D->aE->af->(aE->af->Prop)->Prop
def lG(K:ak)(Z:Zt)(t:e_):TG:=λv τ H Q=>∃d σ S Q3,Rp K H d v/\SR K H σ τ/\Rl K Z S H/\t d σ S Q3/\CS K Z H Q3 Q
def gx(X:Cx)(W3:bF)(tg:Expr)(t:e_):Prop:=∀Z:ZX X W3,PG X tg (lG X.K Z.z t)
theorem PG.imp{X:Cx}{e:Expr}{t u:TG}(h:PG X e t)(f:∀v σ H Q,u v σ H Q->t v σ H Q):PG X e u:=λpins s σ H v w Q I r q=>h pins s σ H v w Q I r (f _ _ _ _ q)
def iB(i:Nat):e_:=λv σ S Q=>Q (σ.set i (some v)) S
theorem cA{i:Nat}{x:Str}(hN:X.N.Nodup)(hi:X.N[i]?=some x)(hx:Loc X.env.scope x)(hf:X.fn x=true∨X.env.scope.names.lookup x=some .local:=by first|exact .inl rfl|exact .inr rfl|assumption):gx X W3 (.Name x pos) (iB i) :=
 λZ=>PG.imp (KY hN hi hx hf) λv τ H Q z_11=>by obtain⟨d,σ,S,Q3,r,hs,hr,ht,hc⟩:=z_11;exact hc _ S _ H (Kp.refl _ _) (hs.set r i) hr ht
abbrev iC:=List D->aE->af->(aE->af->Prop)->Prop
def Nu(K:ak)(Z:Zt)(t:iC):i8:=λv τ H Q=>∃d σ S Q3,aS K H d v/\SR K H σ τ/\Rl K Z S H/\t d σ S Q3/\CS K Z H Q3 Q
def pJ(X:Cx)(W3:bF)(tg:List Expr)(t:iC):Prop:=∀Z:ZX X W3,iw X tg (Nu X.K Z.z t)
theorem iw.imp{X:Cx}{e:List Expr}{t u:i8}(h:iw X e t)(f:∀v σ H Q,u v σ H Q->t v σ H Q):iw X e u:=λpins s σ H v w Q I r q=>h pins s σ H v w Q I r (f _ _ _ _ q)
def sk:iC:=λvs σ S Q=>vs=[]/\Q σ S
def mM(t:e_)(u:iC):iC:=λvs σ S Q=>∃v r,vs=v::r/\t v σ S λσ' S'=>u r σ' S' Q
theorem sm:pJ X W3 [] sk:=λZ=>iw.imp K1 λv τ H Q z_12=>by
 obtain⟨d,σ,S,Q3,r,hs,hr,⟨e,q⟩,hc⟩:=z_12;subst e;cases r;exact⟨rfl,hc σ S τ H (Kp.refl _ _) hs hr q⟩
theorem j9{es:List Expr}{t:e_}{u:iC}(h1:gx X W3 e t)(h2:pJ X W3 es u)
 (hs:(assignEach (e::es) X.env).map (·.2)=assign e X.env::(assignEach es X.env).map (·.2):=by rfl):pJ X W3 (e::es) (mM t u):=λZ=>iw.imp (K2 (h1 Z) (h2 Z) hs) λv τ H Q z_13=>by
 obtain⟨d,σ,S,Q3,r,hs,hr,⟨d1,dr,e,q⟩,hc⟩:=z_13;subst e;cases r with
 |cons r rr=>exact⟨_,_,rfl,d1,σ,S,_,r,hs,hr,q,λσ' S' aP H' k r' l q'=>⟨dr,σ',S',Q3,rr.mono k,r',l,q',hc.mono k⟩⟩
def so(n:Nat)(t:iC):e_:=λv σ S Q=>∃xs,v=.tup xs/\xs.length=n/\t xs σ S Q
theorem su{es:List Expr}{k:Nat}{t:iC}{n:Nat}(hc:X.calm=true)(h:pJ X W3 es t)
 (hn:(assignEach es X.env).length=n:=by rfl) (hst:(assignEach es X.env).findIdx? (·.1)=none:=by rfl):gx X W3 (.Tuple es k pos) (so n t):=λZ=>PG.imp (K5 hc (h Z) hn hst) λv τ H Q z_14=>by
 obtain⟨d,σ,S,Q3,r,hs,hr,⟨xs,e,hl,q⟩,hc⟩:=z_14;subst e;cases r with
 |tup h1 h2=>exact⟨_,_,rfl,h1,by rw[<-h2.len];exact hl,xs,σ,S,Q3,h2,hs,hr,q,hc⟩
def pK(i:Nat)(te:aD):bP:=λD σ S=>te σ S λx S1=>D.nx (σ.set i (some x)) S1
theorem aO{i:Nat}{x:Str}{pos':Pos}(hN:X.N.Nodup)(hi:X.N[i]?=some x)(hx:Loc X.env.scope x)(he:aF X W3 e te)(hs:swapsWith e (some (.Name x pos')) pos.line X.env=pure false:=by rfl)(hf:X.fn x=true∨X.env.scope.names.lookup x=some .local:=by first|exact .inl rfl|exact .inr rfl|assumption) :
 d8 X W3 (.Assign [.Name x pos'] e pos) (pK i te):=λZ=>PS.imp (K6 hN hi hx (he Z) hs hf) λD τ H z_15=>by obtain⟨D3,σ,S,hs,hr,ht,hc⟩:=z_15;exact 
 ⟨σ,S,_,hs,hr,ht,λd S' v H' k r l q=>hc.nx _ S' _ H' k ((hs.mono k).set r i) l q⟩
def B8(td ty tv:aD):bP:=λD σ S=>tv σ S λv S1=>td σ S1 λx S2=>ty σ S2 λy S3=>∃a kvs k,x=.ref a/\S3 a=some (.bU kvs)/\y=kD k/\kvs.length<sizeLine/\D.nx σ (up S3 a (.bU (putD kvs k v)))
theorem Nv{o i value:Expr}{td ty tv:aD}{pos':Pos}(hu:X.A.units+5<cLine)(ho:aF X W3 o td)(hi:aF X W3 i ty)(hv:aF X W3 value tv)(hs:swapsWith value (some (.Subscript o i pos')) pos.line X.env=pure false) :
 d8 X W3 (.Assign [.Subscript o i pos'] value pos) (B8 td ty tv):=λZ=>PS.imp (Bt hu (ho Z) (hi Z) (hv Z) hs) λD τ H z_17=>by
 obtain⟨D3,σ,S,hs,hr,ht,hc⟩:=z_17;refine⟨σ,S,_,hs,hr,ht,λd S1 v H1 k1 r1 l1 q1=>⟨σ,S1,_,hs.mono k1,l1,q1,λx S2 w H2 k2 r2 l2 q2=>⟨σ,S2,_,hs.mono (k1.trans k2),l2,q2,λy S3 z H3 k3 r3 l3 q3=>?_⟩⟩⟩;obtain⟨a,kvs,k,rfl,e,rfl,hz,q⟩:=q3;cases r2;obtain⟨ws,h1,h2⟩:=l3.obj a _ e;have ey:=v5 r3;subst ey;have kk:Kp Z.z H3 (upd H3 a (.dK (putK ws k v))):=Kp.at l3 e;have h2':KR X.K H3 kvs ws:=h2;refine⟨a,_,rfl,j0.k h1 (by rw[<-h2'.len];exact hz),?_⟩;have k12:=k1.trans (k2.trans (k3.trans kk));refine hc.nx σ _ τ _ k12 (hs.mono k12) (l3.put (o:=.bU (putD kvs k d)) kk (l3.mE e) ⟨_,di,?_⟩) q;have h3:KR X.K (upd H3 a (.dK (putK ws k v))) kvs ws:=Paired.i0 h2' λp q z=>⟨z.1,z.2.mono kk⟩;exact h3.put k ((r1.mono (k2.trans k3)).mono kk)
def B9(i:Nat)(te:aD)(f:Int->Int->Int):bP:=λD σ S=>∃a,σ[i]?=some (some (.int a))/\te σ S λy S1=>∃b,y=.int b/\D.nx (σ.set i (some (.int (f a b)))) S1
theorem Nw{i:Nat}{x:Str}{op:Operator}{f:Int->Int->Int}{pos':Pos}(hN:X.N.Nodup)(hi:X.N[i]?=some x)(hx:Loc X.env.scope x)(he:aF X W3 e te)(ho:vf X op (AD f))(hf:X.fn x=true∨X.env.scope.names.lookup x=some .local:=by first|exact .inl rfl|exact .inr rfl|assumption) :
 d8 X W3 (.AugAssign (.Name x pos') op e pos) (B9 i te f):=λZ=>PS.imp (K8 hN hi hx (he Z) ho hf) λD τ H z_18=>by
 obtain⟨D3,σ,S,hs,hr,⟨a,ea,ht⟩,hc⟩:=z_18;obtain⟨v,h1,h2⟩:=hs.at ea;cases h2;refine⟨_,h1,σ,S,_,hs,hr,ht,λy S' v H' k r l q=>?_⟩;obtain⟨b,rfl,q⟩:=q;cases r;exact⟨a,b,rfl,rfl,hc.nx _ S' _ H' k ((hs.mono k).set (.int _) i) l q⟩
def B_(c:b7)(tb:bP):bP:=λD σ S=>∃W:Nat->aE->af->Prop,(∃m,W m σ S)/\∀m σ S,W m σ S ->
 c σ S λb S1=>if b=true then tb {D with nx:=λσ' S'=>∃m',m'<m/\W m' σ' S',ct:=λσ' S'=>∃m',m'<m/\W m' σ' S',bk:=D.nx} σ S1 else D.nx σ S1
theorem kU{c:Expr}{body:List Stmt}{tc:b7}{tb:bP}(hp:PassesOwn (model X.prog X.w) X.A X.env X.xe)(hc:dw X W3 c tc)(hb:cV X W3 body tb):d8 X W3 (.While c body [] pos) (B_ tc tb):=λZ=>PS.imp (La hp (hc Z) (hb Z)) λD τ H z_19=>by
 obtain⟨D3,σ,S,hs,hr,⟨W,⟨m0,w0⟩,turn⟩,hc⟩:=z_19;refine⟨λm aP H'=>∃σ' S',Kp Z.z H H'/\SR X.K H' σ' aP/\Rl X.K Z.z S' H'/\W m σ' S',⟨m0,σ,S,Kp.refl _ _,hs,hr,w0⟩,?_⟩;rintro m Nx H1 ⟨eW,S1,k1,s1,l1,w1⟩;refine⟨eW,S1,_,s1,l1,turn m eW S1 w1,λb S2 H2 k2 l2 q2=>?_⟩;cases b with
 |true =>
  rw[if_pos rfl]at q2 ⊢;refine⟨λaP H'=>∃m',m'<m/\∃σ' S',Kp Z.z H H'/\SR X.K H' σ' aP/\Rl X.K Z.z S' H'/\W m' σ' S',λaP H' z=>z,_,eW,S2,s1.mono k2,l2,q2,⟨?_,?_,?_,?_⟩⟩
  ·exact λσ' S' aP H' k r l vW=>by obtain⟨m',hm,w⟩:=vW;exact⟨m',hm,σ',S',k1.trans (k2.trans k),r,l,w⟩
  ·exact hc.nx.mono (k1.trans k2)
  ·exact λσ' S' aP H' k r l Ny=>by obtain⟨m',hm,w⟩:=Ny;exact⟨m',hm,σ',S',k1.trans (k2.trans k),r,l,w⟩
  ·exact hc.rt.mono (k1.trans k2)
 |false =>
  rw[if_neg cF]at q2 ⊢;exact hc.nx eW S2 Nx H2 (k1.trans k2) (s1.mono k2) l2 q2
end
abbrev dQ:=aE->af->(List D->(af->Prop)->af->Prop)->Prop
structure Wk(K:ak)(Z:Zt)(J:It)(ds:List D)(Al:af->Prop)(H0:Hp):Prop where
 go:∀i d S H,Kp Z H0 H->Rl K Z S H->Al S->ds[i]?=some d->J.go i H/\∀v H',J.jW i H v H'->Kp Z H H'/\Rp K H' d v/\(∀S',Rl K Z S' H->Rl K Z S' H')/\∀b,H b≠none->H' b=H b
 stop:∀S H,Kp Z H0 H->Rl K Z S H->Al S->J.stop ds.length H
def lI(K:ak)(Z:Zt)(t:dQ):TI:=λτ H R=>∃σ S R3,SR K H σ τ/\Rl K Z S H/\t σ S R3/\∀ds Al S' J H',Kp Z H H'->Rl K Z S' H'->R3 ds Al S'->Wk K Z J ds Al H'->R J H'
def eK(X:Cx)(W3:bF)(tg iter:Expr)(t:dQ):Prop:=∀Z:ZX X W3,PI X tg iter (lI X.K Z.z t)
theorem PI.imp{X:Cx}{tg e:Expr}{t u:TI}(h:PI X tg e t)(f:∀σ H R,u σ H R->t σ H R):PI X tg e u:=λpins s σ H Q I q=>h pins s σ H Q I (f _ _ _ q)
section
variable{X:Cx}{W3:bF}{tg l:Expr}{tl:aD}{pos:Pos}
def B'(tl:aD):dQ:=λσ S R=>tl σ S λx S1=>(∃a ds,x=.ref a/\S1 a=some (.lst ds)/\R ds (λS=>S a=some (.lst ds)) S1)∨∃ds,x=.bY ds/\R ds (λ_=>True) S1
theorem eL(hl:aF X W3 l tl):eK X W3 tg l (B' tl):=λZ=>PI.imp (Lg (hl Z)) λτ H R Nz=>by
 obtain⟨σ,S,R3,hs,hr,ht,hc⟩:=Nz;refine⟨σ,S,_,hs,hr,ht,λx S1 v H1 k1 r1 l1 q1=>?_⟩;rcases q1 with⟨a,ds,rfl,e,q⟩|⟨ds,rfl,q⟩
 ·cases r1;obtain⟨vs,h1,h2⟩:=l1.obj a _ e;refine⟨a,rfl,⟨vs,aZ.of h1⟩,hc ds _ S1 _ H1 k1 l1 q ⟨λi d S2 H2 k2 l2 al hd=>?_,λS2 H2 k2 l2 al=>?_⟩⟩
  ·obtain⟨ws,h3,h4⟩:=l2.obj a _ al;obtain⟨v,hv,rv⟩:=h4.at hd;refine⟨⟨ws,v,aZ.of h3,hv⟩,λv' H' y=>?_⟩;obtain⟨rfl,y⟩:=y;have:=y ws (aZ.of h3);rw[hv]at this;cases this;exact⟨Kp.refl _ _,rv,λ_ z=>z,λ_ _=>rfl⟩
  ·obtain⟨ws,h3,h4⟩:=l2.obj a _ al;exact⟨ws,aZ.of h3,by rw[h4.len];exact aQ _⟩
 ·cases r1 with
  |@bY a vs _ h1 h2 =>
   refine⟨a,rfl,⟨vs,h1.sq⟩,hc ds _ S1 _ H1 k1 l1 q ⟨λi d S2 H2 k2 l2 al hd=>?_,λS2 H2 k2 l2 al=>?_⟩⟩
   ·obtain⟨v,hv,rv⟩:=h2.at hd;have h3:=(k2.vQ h1).sq;refine⟨⟨vs,v,h3,hv⟩,λv' H' y=>?_⟩;obtain⟨rfl,y⟩:=y;have:=y vs h3;rw[hv]at this;cases this;exact⟨Kp.refl _ _,rv.mono k2,λ_ z=>z,λ_ _=>rfl⟩
   ·exact⟨vs,(k2.vQ h1).sq,by rw[h2.len];exact aQ _⟩
def Cb(tl:aD):dQ:=λσ S R=>tl σ S λx S1=>∃ds,x=.tup ds/\R ds (λ_=>True) S1
theorem j_(hl:aF X W3 l tl):eK X W3 tg l (Cb tl):=λZ=>PI.imp (Lh (hl Z)) λτ H R NA=>by
 obtain⟨σ,S,R3,hs,hr,ht,hc⟩:=NA;refine⟨σ,S,_,hs,hr,ht,λx S1 v H1 k1 r1 l1 q1=>?_⟩;obtain⟨ds,rfl,q⟩:=q1;cases r1 with
 |@tup a vs _ h1 h2 =>
  refine⟨a,rfl,⟨vs,h1⟩,hc ds _ S1 _ H1 k1 l1 q ⟨λi d S2 H2 k2 l2 al hd=>?_,λS2 H2 k2 l2 al=>?_⟩⟩
  ·obtain⟨v,hv,rv⟩:=h2.at hd;have h3:=k2.gu h1;refine⟨⟨vs,v,h3,hv⟩,λv' H' y=>?_⟩;obtain⟨rfl,y⟩:=y;have:=y vs h3;rw[hv]at this;cases this;exact⟨Kp.refl _ _,rv.mono k2,λ_ z=>z,λ_ _=>rfl⟩
  ·exact⟨vs,k2.gu h1,by rw[h2.len];exact aQ _⟩
def Cc(ta:cb):dQ:=λσ S R=>ta σ S λxs S1=>∃ds,xs=[.tup ds]/\R ds.reverse (λ_=>True) S1
theorem NB{a:Expr}{ta:cb}{p:Pos}(hg:Gl X "reversed")(hm:X.mg "reversed"=none)(ha:d7 X W3 [a] ta)(hs:starEach [a] X.env=[(false,eval a X.env)]:=by rfl):eK X W3 tg (.Call (.Name "reversed" p) [a] [] pos) (Cc ta) :=
 λZ=>PI.imp (Nc hg hm (ha Z) hs) λτ H R NC=>by
 obtain⟨σ,S,R3,hs,hr,ht,hc⟩:=NC;refine⟨σ,S,_,hs,hr,ht,λxs S1 pB H1 k1 r1 l1 q1=>?_⟩;obtain⟨ds,rfl,q⟩:=q1;cases r1 with
 |cons r1 rr =>
  cases rr;cases r1 with
  |@tup a vs _ h1 h2 =>
   have hl:=h2.len;refine⟨a,vs,rfl,h1,hc _ _ S1 _ H1 k1 l1 q ⟨λi d S2 H2 k2 l2 al hd=>?_,λS2 H2 k2 l2 al=>?_⟩⟩
   ·have hi:i<ds.length:=by
     have:=(cT.mp hd).1;simpa using this
    rw[zU hi]at hd;obtain⟨v,hv,rv⟩:=h2.at hd;have h3:=k2.gu h1;rw[hl]at hv;refine⟨⟨by lia,vs,h3,rfl⟩,λv' H' y=>?_⟩;obtain⟨rfl,y⟩:=y;have:=y vs h3;rw[hv]at this;cases this;exact⟨Kp.refl _ _,rv.mono k2,λ_ z=>z,λ_ _=>rfl⟩
   ·show vs.length<=ds.reverse.length;rw[oo,hl];exact aQ _
def nums(lo:Int)(n:Nat):List D:=(aN n).map λi:Nat=>.int (lo+(i:Int))
theorem fJ{lo:Int}{n i:Nat}{d:D}(h:(nums lo n)[i]?=some d):i<n/\d=.int (lo+(i:Int)):=by
 unfold nums at h;rw[aJ]at h;cases e:(aN n)[i]? with
 |none=>rw[e]at h;cases h
 |some c =>
  rw[e]at h;cases h;obtain⟨h1,h2⟩:=cT.mp e;rw[List.getElem_range]at h2;subst h2;exact⟨by simpa using h1,rfl⟩
theorem dI{lo:Int}{n:Nat}:(nums lo n).length=n:=by simp[nums]
def Cd(ta:cb):dQ:=λσ S R=>ta σ S λvs S1=>∃j:Int,vs=[.int j]/\-(2^62)<=j/\j<2^62/\R (nums 0 j.toNat) (λ_=>True) S1
def Ce(ta:cb):dQ:=λσ S R=>ta σ S λvs S1=>∃i j:Int,vs=[.int i,.int j]/\(-(2^62)<=i/\i<2^62/\-(2^62)<=j/\j<2^62)/\R (nums i (j-i).toNat) (λ_=>True) S1
theorem Cf{K:ak}{Z:Zt}{lo:Int}{n:Nat}{H:Hp}:Wk K Z (oS lo n) (nums lo n) (λ_=>True) H:=by
 refine⟨λi d S2 H2 k2 l2 al hd=>?_,λS2 H2 k2 l2 al=>?_⟩
 ·obtain⟨hi,rfl⟩:=fJ hd;refine⟨hi,λv' H' y=>?_⟩;obtain⟨rfl,rfl⟩:=y;exact⟨Kp.refl _ _,.int _,λ_ z=>z,λ_ _=>rfl⟩
 ·show n<=(nums lo n).length;rw[dI];exact aQ _
theorem gQ{a:Expr}{ta:cb}{p:Pos}(hg:Gl X "range")(hm:X.mg "range"=none)(ha:d7 X W3 [a] ta)(hs:starEach [a] X.env=[(false,eval a X.env)]:=by rfl):eK X W3 tg (.Call (.Name "range" p) [a] [] pos) (Cd ta) :=
 λZ=>PI.imp (Lk hg hm (ha Z) hs) λτ H R ND=>by
 obtain⟨σ,S,R3,hs,hr,ht,hc⟩:=ND;refine⟨σ,S,_,hs,hr,ht,λxs S1 pB H1 k1 r1 l1 q1=>?_⟩;obtain⟨j,rfl,h1,h2,q⟩:=q1;cases r1 with
 |cons r1 rr =>
  cases rr;cases r1;exact⟨j,rfl,h1,h2,hc _ _ S1 _ H1 k1 l1 q Cf⟩
theorem NF{a b:Expr}{ta:cb}{p:Pos}(hg:Gl X "range")(hm:X.mg "range"=none)(ha:d7 X W3 [a,b] ta)(hs:starEach [a,b] X.env=[(false,eval a X.env),(false,eval b X.env)]:=by rfl)(hs2:starEach [b] X.env=[(false,eval b X.env)]:=by rfl) :
 eK X W3 tg (.Call (.Name "range" p) [a,b] [] pos) (Ce ta):=λZ=>PI.imp (Ll hg hm (ha Z) hs hs2) λτ H R NG=>by
 obtain⟨σ,S,R3,hs,hr,ht,hc⟩:=NG;refine⟨σ,S,_,hs,hr,ht,λxs S1 pB H1 k1 r1 l1 q1=>?_⟩;obtain⟨i,j,rfl,h1,q⟩:=q1;cases r1 with
 |cons r1 rr =>
  cases rr with
  |cons r2 rr =>
   cases rr;cases r1;cases r2;exact⟨i,j,rfl,h1,hc _ _ S1 _ H1 k1 l1 q Cf⟩
def Cg(wi:dQ)(g:e_)(tb:bP):bP:=λD σ S=>wi σ S λds Al S1=>∃W:Nat->aE->af->Prop,W 0 σ S1/\(∀i σ S,W i σ S->Al S) /\
 (∀i d σ S,ds[i]?=some d->W i σ S->g d σ S λix S2=>tb {D with nx:=W (i+1),ct:=W (i+1),bk:=D.nx} ix S2)/\∀σ S,W ds.length σ S->D.nx σ S
theorem dk{iter:Expr}{body:List Stmt}{wi:dQ}{g:e_}{tb:bP}(hp:PassesOwn (model X.prog X.w) X.A X.env X.xe)(hc:X.calm=true)(hi:eK X W3 tg iter wi)(hg:gx X W3 tg g)(hb:cV X W3 body tb)
 (hs:∀x,foldedSetIterable iter X.env x=pure x:=by intro _;rfl):d8 X W3 (.For tg iter body [] pos) (Cg wi g tb):=λZ=>PS.imp (Lq hp hc (hi Z) (hg Z) (hb Z) hs) λD τ H NH=>by
 obtain⟨D3,σ,S,hs,hr,ht,hc⟩:=NH;refine⟨σ,S,_,hs,hr,ht,λds Al S1 J H1 k1 l1 q1 wk=>?_⟩;obtain⟨W,w0,al,turn,done⟩:=q1;refine⟨λi m aP H'=>m=ds.length-i/\i<=ds.length/\∃σ' S',Kp Z.z H1 H'/\SR X.K H' σ' aP/\Rl X.K Z.z S' H'/\W i σ' S',⟨ds.length,by simp,dO _,σ,S1,Kp.refl _ _,hs.mono k1,l1,w0⟩,?_⟩;rintro i m NI H2 ⟨rfl,hi,ix,S2,k2,s2,l2,w2⟩;by_cases hlt:i<ds.length
 ·have hd:ds[i]?=some ds[i]:=aX hlt;obtain⟨go,yl⟩:=wk.go i _ S2 H2 k2 l2 (al _ _ _ w2) hd;refine .inr ⟨go,λaP H'=>i<ds.length/\∃σ' S',Kp Z.z H1 H'/\SR X.K H' σ' aP/\Rl X.K Z.z S' H'/\W (i+1) σ' S',λaP H' z=>⟨ds.length-(i+1),by lia,rfl,z.1,z.2⟩,λv H3 y=>?_⟩;obtain⟨k3,rv,l3,_⟩:=yl v H3 y;refine⟨_,ix,S2,_,rv,s2.mono k3,l3 _ l2,turn i _ ix S2 hd w2,λCi S4 v7 H4 k4 s4 l4 q4=>?_⟩;have k14:=k2.trans (k3.trans k4);refine⟨_,Ci,S4,s4,l4,q4,⟨?_,?_,?_,?_⟩⟩
  ·exact λσ' S' aP H' k r l w=>⟨hlt,σ',S',k14.trans k,r,l,w⟩
  ·exact hc.nx.mono (k1.trans k14)
  ·exact λσ' S' aP H' k r l w=>⟨hlt,σ',S',k14.trans k,r,l,w⟩
  ·exact hc.rt.mono (k1.trans k14)
 ·have e:i=ds.length:=by lia
  subst e;exact .inl ⟨wk.stop S2 H2 k2 l2 (al _ _ _ w2),hc.nx ix S2 NI H2 (k1.trans k2) s2 l2 (done ix S2 w2)⟩
def cW(σ:aE)(js:List Nat):aE:=js.map λj=>(σ[j]?).getD none
theorem SR.picks{K:ak}{H:Hp}{σ:aE}{τ:L2.St}(h:SR K H σ τ)(js:List Nat):SR K H (cW σ js) (pick τ js):=by
 unfold cW pick
 induction js with
 |nil=>exact .nil
 |cons j js ih =>
  refine .cons (λd e=>?_) ih;dsimp only at e ⊢;cases q:σ[j]? with
  |none=>rw[q]at e;cases e
  |some o =>
   rw[q]at e;have e:o=some d:=e;subst e;obtain⟨v,h1,h2⟩:=h.at q;exact⟨v,by rw[h1];rfl,h2⟩
def pL(K:ak)(te:aD):TE:=λτ H Q=>∃Z:Zt,lE K Z te τ H Q
theorem aF.ex{X:Cx}{e:Expr}{te:aD}(h:aF X cJ e te):PE X e (pL X.K te):=λpins s σ H Q I NJ=>by obtain⟨Z,q⟩:=NJ;exact h (ZX.no X Z) pins s σ H Q I q
abbrev Zt.hide(Z:Zt)(H:Hp)(p:Addr):Zt:=⟨λa=>Z a∨a=p,H⟩
theorem Rl.hide{K:ak}{Z:Zt}{S:af}{H:Hp}{p:Addr}(l:Rl K Z S H)(hs:S p=none)(hh:H p≠none):Rl K (Z.hide H p) S H :=
 ⟨l.obj,λa z=>z.elim (l.hid a) λe=>e▸⟨hs,hh⟩,Kp.refl _ _⟩
theorem Rl.dJ{K:ak}{Z Z':Zt}{S:af}{H:Hp}(l:Rl K Z' S H)(h:∀a,Z a->Z' a)(o:Kp Z Z.base H):Rl K Z S H:=⟨l.obj,λa z=>l.hid a (h a z),o⟩
theorem Kp.dJ{Z Z':Zt}{H H':Hp}(k:Kp Z' H H')(h:∀a,Z a->Z' a):Kp Z H H':=⟨k.tup,k.dF,λa z=>k.hid a (h a z)⟩
variable{elt iter:Expr}{x:Str}{px:Pos}{scope bE:Scope}{M N:List Str}{js:List Nat}{wi:dQ}{te:aD}
end
section
variable{K:PySem.W.Frag}
def i3(g:Int->Int->D):R3:=λx y S Q=>∃i j,x=.int i/\y=.int j/\Q (g i j) S
def pM(C:Int->Int->Prop)(g:Int->Int->D):R3:=λx y S Q=>∃i j,x=.int i/\y=.int j/\C i j/\Q (g i j) S
theorem gR{g:Int->Int->Int}:c_ K (i3 λi j=>.int (g i j)) (iy λi j=>.int (g i j)):=by
 intro Z x y S Q3 v w H Q rx ry l h c;obtain⟨i,j,rfl,rfl,q⟩:=h;cases rx;cases ry;exact⟨i,j,rfl,rfl,c _ S _ H (Kp.refl _ _) (.int _) l q⟩
theorem jg{g:Int->Int->Bool}:c_ K (i3 λi j=>.bl (g i j)) (iy λi j=>.bl (g i j)):=by
 intro Z x y S Q3 v w H Q rx ry l h c;obtain⟨i,j,rfl,rfl,q⟩:=h;cases rx;cases ry;exact⟨i,j,rfl,rfl,c _ S _ H (Kp.refl _ _) (.bl _) l q⟩
theorem a_{C:Int->Int->Prop}{g:Int->Int->Int}:c_ K (pM C λi j=>.int (g i j)) (rI C λi j=>.int (g i j)):=by
 intro Z x y S Q3 v w H Q rx ry l h c;obtain⟨i,j,rfl,rfl,h,q⟩:=h;cases rx;cases ry;exact⟨i,j,rfl,rfl,h,c _ S _ H (Kp.refl _ _) (.int _) l q⟩
def Cj:R3:=λx y S Q=>∃i j,x=.str i/\y=.str j/\i.length+j.length<=sizeLine/\Q (.str (i++j)) S
theorem kW:c_ K Cj (λx y H Q=>∃i j,x=.str i/\y=.str j/\i.length+j.length<=sizeLine/\Q (.str (i++j)) H):=by
 intro Z x y S Q3 v w H Q rx ry l h c;obtain⟨i,j,rfl,rfl,h,q⟩:=h;cases rx;cases ry;exact⟨i,j,rfl,rfl,h,c _ S _ H (Kp.refl _ _) (.str _) l q⟩
def v8:D->Bool
 | .non=>true
 |_=>false
theorem NK{H:Hp}{x:D}{v:V}(r:Rp K H x v):v8 x=decide (v=.non):=by
 cases r<;>rfl
def Ck:R3:=λx y S Q=>y=.non/\Q (.bl (v8 x)) S
theorem NL:c_ K Ck (λx y H Q=>y=.non/\Q (.bl (decide (x=.non))) H):=by
 intro Z x y S Q3 v w H Q rx ry l h c;obtain⟨rfl,q⟩:=h;cases ry;rw[<-NK rx];exact⟨rfl,c _ S _ H (Kp.refl _ _) (.bl _) l q⟩
def Cm:R3:=i3 λi j=>.bl (decide (i=j))
def Cn:R3:=i3 λi j=>.bl (!decide (i=j))
def v9:R3:=λx y S Q=>∃i j,x=.str i/\y=.str j/\Q (.bl (decide (i=j))) S
def Co:R3:=λx y S Q=>∃i j,x=.str i/\y=.str j/\Q (.bl (!decide (i=j))) S
theorem Cp{i j:Int}:decide (V.int i=V.int j)=decide (i=j):=by rw[vn];rfl
theorem Cq{i j:Str}:decide (V.str i=V.str j)=decide (i=j):=by
 by_cases h:i=j
 ·subst h;simp
 ·have:V.str i≠V.str j:=λe=>h (V.str.inj e);simp[h]
theorem fK:c_ K Cm vm:=by
 intro Z x y S Q3 v w H Q rx ry l h c;obtain⟨i,j,rfl,rfl,q⟩:=h;cases rx;cases ry;refine⟨rfl,?_⟩;rw[Cp];exact c _ S _ H (Kp.refl _ _) (.bl _) l q
theorem NM:c_ K Cn rK:=by
 intro Z x y S Q3 v w H Q rx ry l h c;obtain⟨i,j,rfl,rfl,q⟩:=h;cases rx;cases ry;refine⟨rfl,?_⟩;rw[Cp];exact c _ S _ H (Kp.refl _ _) (.bl _) l q
theorem fu:c_ K v9 vm:=by
 intro Z x y S Q3 v w H Q rx ry l h c;obtain⟨i,j,rfl,rfl,q⟩:=h;cases rx;cases ry;refine⟨rfl,?_⟩;rw[Cq];exact c _ S _ H (Kp.refl _ _) (.bl _) l q
theorem sv:c_ K Co rK:=by
 intro Z x y S Q3 v w H Q rx ry l h c;obtain⟨i,j,rfl,rfl,q⟩:=h;cases rx;cases ry;refine⟨rfl,?_⟩;rw[Cq];exact c _ S _ H (Kp.refl _ _) (.bl _) l q
mutual
inductive Dn(S:af):D->Dt->Prop where
 |non:Dn S .non .non
 |bl (b:Bool):Dn S (.bl b) (.bl b)
 |int (i:Int):Dn S (.int i) (.int i)
 |str (x:Str):Dn S (.str x) (.str x)
 |tup {ds:List D} {es:List Dt}:dM S ds es->Dn S (.tup ds) (.tup es)
 |bY {ds:List D} {es:List Dt}:dM S ds es->Dn S (.bY ds) (.lst es)
 |ref {a:Addr} {ds:List D} {es:List Dt}:S a=some (.lst ds)->dM S ds es->Dn S (.ref a) (.lst es)
inductive dM(S:af):List D->List Dt->Prop where
 |nil:dM S [] []
 |cons {d:D} {e:Dt} {ds:List D} {es:List Dt}:Dn S d e->dM S ds es->dM S (d::ds) (e::es)
end
mutual
theorem Dn.down{Z:Zt}{S:af}{H:Hp}(l:Rl K Z S H):∀{d:D} {e:Dt} {v:V},Dn S d e->Rp K H d v->DR K H e v
 |_,_,_,.non,r=>by cases r;exact .non
 |_,_,_,.bl _,r=>by cases r;exact .bl _
 |_,_,_,.int _,r=>by cases r;exact .int _
 |_,_,_,.str _,r=>by cases r;exact .str _
 |_,_,_,.tup h,r=>by cases r with|tup p q=>exact .tup p (dM.down l h q)
 |_,_,_,.bY h,r=>by cases r with|bY p q=>exact .lst p.sq (dM.down l h q)
 |_,_,_,.ref e h,r=>by
  cases r;obtain⟨vs,h1,h2⟩:=l.obj _ _ e;exact .lst (aZ.of h1) (dM.down l h h2)
theorem dM.down{Z:Zt}{S:af}{H:Hp}(l:Rl K Z S H):∀{ds:List D} {es:List Dt} {vs:List V},dM S ds es->aS K H ds vs->dj K H es vs
 |_,_,_,.nil,r=>by cases r;exact .nil
 |_,_,_,.cons h t,r=>by cases r with|cons p q=>exact .cons (Dn.down l h p) (dM.down l t q)
end
mutual
def D.dt:D->Dt
 | .non=>.non
 | .bl b=>.bl b
 | .int i=>.int i
 | .str x=>.str x
 | .tup ds=>.tup (D.dB ds)
 | .bY ds=>.lst (D.dB ds)
 | .ref _=>.non
 | .ty _=>.non
def D.dB:List D->List Dt
 |[]=>[]
 |d::ds=>d.dt::D.dB ds
end
mutual
def D.pure:D->Bool
 | .tup ds=>D.gS ds
 | .bY ds=>D.gS ds
 | .ref _=>false
 | .ty _=>false
 |_=>true
def D.gS:List D->Bool
 |[]=>true
 |d::ds=>d.pure&&D.gS ds
end
mutual
theorem Dn.of{S:af}:∀{d:D},d.pure=true->Dn S d d.dt
 | .non,_=>.non
 | .bl _,_=>.bl _
 | .int _,_=>.int _
 | .str _,_=>.str _
 | .tup ds,h=>by simp only[D.pure]at h;simp only[D.dt];exact .tup (dM.of h)
 | .bY ds,h=>by simp only[D.pure]at h;simp only[D.dt];exact .bY (dM.of h)
 | .ref _,h=>by simp[D.pure]at h
 | .ty _,h=>by simp[D.pure]at h
theorem dM.of{S:af}:∀{ds:List D},D.gS ds=true->dM S ds (D.dB ds)
 |[],_=>.nil
 |d::ds,h=>by
  simp only[D.gS,eP]at h;simp only[D.dB];exact .cons (Dn.of h.1) (dM.of h.2)
end
theorem D.pN:∀{ds:List D},D.gS ds=true↔∀d∈ds,d.pure=true
 |[]=>by simp[D.gS]
 |d::ds=>by simp[D.gS,D.pN (ds:=ds)]
theorem D.mO:∀ds:List D,D.dB ds=ds.map D.dt
 |[]=>rfl
 |d::ds=>by simp only[D.dB,ba,D.mO ds]
def sy(n:Nat):R3:=λx y S Q=>∃d e,Dn S x d/\Dn S y e/\cI d<=n/\Q (.bl (aV d e)) S
theorem Cr{n:Nat}:c_ K (sy n) (λx y H Q=>∃d e,DR K H d x/\DR K H e y/\cI d<=n/\Q (.bl (aV d e)) H):=by
 intro Z x y S Q3 v w H Q rx ry l h c;obtain⟨d,e,h1,h2,hn,q⟩:=h;exact⟨d,e,h1.down l rx,h2.down l ry,hn,c _ S _ H (Kp.refl _ _) (.bl _) l q⟩
def iD:D->Bool
 | .non=>true
 | .bl _=>true
 | .int _=>true
 | .str _=>true
 |_=>false
def vD:D->V
 | .non=>.non
 | .bl b=>.bl b
 | .int i=>.int i
 | .str x=>.str x
 |_=>.non
theorem Cs{H:Hp}{x:D}{v:V}(r:Rp K H x v)(h:iD x=true):v=vD x/\iA v=true:=by
 cases r<;>first|exact⟨rfl,rfl⟩|(simp[iD]at h)
theorem v_{H:Hp}:∀{ds:List D} {vs:List V},aS K H ds vs->ds.all iD=true->vs=ds.map vD/\vs.all iA=true
 |_,_,.nil,_=>⟨rfl,rfl⟩
 |_,_,.cons r t,h=>by
  simp only[lW,eP]at h;obtain⟨e1,f1⟩:=Cs r h.1;obtain⟨e2,f2⟩:=v_ t h.2;subst e1;subst e2;exact⟨rfl,by simp only[lW,f1,f2,lU]⟩
def memD(x:D)(ds:List D):Bool:=inV (vD x) (ds.map vD)
def pO(neg:Bool):R3:=λx y S Q=>∃ds,(IsL S y ds∨y=.tup ds)/\iD x=true/\ds.all iD=true/\Q (.bl (if neg then !memD x ds else memD x ds)) S
theorem j'{neg:Bool}:c_ K (pO neg) (vy K neg):=by
 intro Z x y S Q3 v w H Q rx ry l h c;obtain⟨ds,hy,fx,fd,q⟩:=h;obtain⟨e1,f1⟩:=Cs rx fx;subst e1;rcases hy with hy|rfl
 ·obtain⟨a,vs,rfl,h1,h2⟩:=hy.down ry l;obtain⟨e2,f2⟩:=v_ h2 fd;subst e2;exact⟨a,_,rfl,.inl h1,f1,f2,c _ S _ H (Kp.refl _ _) (.bl _) l q⟩
 ·cases ry with
  |tup h1 h2 =>
   obtain⟨e2,f2⟩:=v_ h2 fd;subst e2;exact⟨_,_,rfl,.inr h1,f1,f2,c _ S _ H (Kp.refl _ _) (.bl _) l q⟩
theorem wa(x:Str)(xs:List Str):memD (.str x) (xs.map D.str)=decide (x∈xs):=by
 unfold memD inV
 induction xs with
 |nil=>rfl
 |cons y ys ih =>
  simp only[ba,ia,a8];rw[ih];by_cases h:y=x
  ·subst h;simp[gM,vD]
  ·have h':¬x=y:=λz=>h z.symm;simp[gM,vD,h,h']
theorem wb(xs:List Str):(xs.map D.str).all iD=true:=by
 induction xs with
 |nil=>rfl
 |cons y ys ih=>simp only[ba,lW,ih];rfl
def wc:R3:=λx y S Q=>∃ds i d,IsL S x ds/\y=.int i/\cy ds i=some d/\Q d S
def kb:R3:=λx y S Q=>∃ds i d,x=.tup ds/\y=.int i/\cy ds i=some d/\Q d S
def Ct:R3:=λx y S Q=>∃z i c,x=.str z/\y=.int i/\z.length<=sizeLine/\cy z.cps.toList i=some c/\Q (.str ⟨#[c]⟩) S
theorem aS.cy{H:Hp}{ds:List D}{vs:List V}{i:Int}{d:D}(r:aS K H ds vs)(h:L2.cy ds i=some d):∃v,L2.cy vs i=some v/\Rp K H d v:=by
 unfold L2.cy at h ⊢;rw[r.len]at h;cases e:kO vs.length i with
 |none=>rw[e]at h;cases h
 |some j =>
  rw[e]at h;exact r.at h
theorem d9:c_ K wc (A3 K):=by
 intro Z x y S Q3 v w H Q rx ry l h c;obtain⟨ds,i,d,h1,rfl,h2,q⟩:=h;cases ry;obtain⟨a,vs,rfl,h3,h4⟩:=h1.down rx l;obtain⟨u,h5,h6⟩:=h4.cy h2;exact⟨a,vs,i,u,rfl,rfl,h3,h5,c d S u H (Kp.refl _ _) h6 l q⟩
theorem aI:c_ K kb (A4 K):=by
 intro Z x y S Q3 v w H Q rx ry l h c;obtain⟨ds,i,d,rfl,rfl,h2,q⟩:=h;cases ry;cases rx with
 |tup h3 h4 =>
  obtain⟨u,h5,h6⟩:=h4.cy h2;exact⟨_,_,i,u,rfl,rfl,h3,h5,c d S u H (Kp.refl _ _) h6 l q⟩
theorem Cu:c_ K Ct A5:=by
 intro Z x y S Q3 v w H Q rx ry l h c;obtain⟨z,i,k,rfl,rfl,hz,h2,q⟩:=h;cases ry;cases rx;exact⟨z,i,k,rfl,rfl,hz,h2,c _ S _ H (Kp.refl _ _) (.str _) l q⟩
def cutD(xs:List D)(lo hi:Option Int):List D:=(xs.drop (HT.aG xs.length 0 lo)).take (HT.aG xs.length xs.length hi-HT.aG xs.length 0 lo)
theorem aS.cut{H:Hp}{ds:List D}{vs:List V}(r:aS K H ds vs)(lo hi:Option Int):aS K H (cutD ds lo hi) (i_ vs lo hi):=by
 unfold cutD i_;rw[r.len];exact(r.drop _).take _
def Cv:D->Option Int->Option Int->af->K3->Prop:=λx lo hi S Q=>∃ds,IsL S x ds/\cC S (cutD ds lo hi) Q
def Cw:D->Option Int->Option Int->af->K3->Prop:=λx lo hi S Q=>∃ds,x=.tup ds/\Q (.tup (cutD ds lo hi)) S
def Cy:D->Option Int->Option Int->af->K3->Prop:=λx lo hi S Q=>∃z,x=.str z/\z.length<=sizeLine/\Q (.str (textOf (jc z.cps.toList lo hi))) S
theorem jh:si K Cv (A7 K):=by
 intro Z x lo hi S Q3 v H Q rx l h c;obtain⟨ds,h1,q⟩:=h;obtain⟨a,vs,rfl,h3,h4⟩:=h1.down rx l;exact⟨a,vs,rfl,h3,cC.down q (h4.cut lo hi) l c⟩
theorem mP:si K Cy BC:=by
 intro Z x lo hi S Q3 v H Q rx l h c;obtain⟨z,rfl,hz,q⟩:=h;cases rx;exact⟨z,rfl,hz,c _ S _ H (Kp.refl _ _) (.str _) l q⟩
def Cz:R3:=λx y S Q=>∃a b ds es,x=.ref a/\y=.ref b/\S a=some (.lst ds)/\S b=some (.lst es)/\ds.length+es.length<=sizeLine/\cC S (ds++es) Q
theorem sA:c_ K Cz Bf:=by
 intro Z x y S Q3 v w H Q rx ry l h c;obtain⟨a,b,ds,es,rfl,rfl,h1,h2,hz,q⟩:=h;cases rx;cases ry;obtain⟨vs,h3,h4⟩:=l.obj a _ h1;obtain⟨ws,h5,h6⟩:=l.obj b _ h2;exact⟨a,b,vs,ws,rfl,rfl,h3,h5,by rw[<-h4.len,<-h6.len];exact hz,cC.down q (h4.append h6) l c⟩
def pP:List D->af->K3->Prop:=λxs S Q=>∃x ds,xs=[x]/\(IsL S x ds∨x=.tup ds)/\Q (.int ds.length) S
theorem fv:fI K pP (λxs H Q=>∃p ys,xs=[.ref p]/\(aZ K H p ys∨a9 K H p ys)/\Q (.int ys.length) H):=by
 intro Z ds S Q3 vs H Q r l h c;obtain⟨x,es,rfl,hx,q⟩:=h;cases r with
 |cons r rr =>
  cases rr;rcases hx with hx|rfl
  ·obtain⟨a,ws,rfl,h3,h4⟩:=hx.down r l;refine⟨a,ws,rfl,.inl h3,?_⟩;rw[<-h4.len];exact c _ S _ H (Kp.refl _ _) (.int _) l q
  ·cases r with
   |tup h3 h4 =>
    refine⟨_,_,rfl,.inr h3,?_⟩;rw[<-h4.len];exact c _ S _ H (Kp.refl _ _) (.int _) l q
def CB:List D->af->K3->Prop:=λxs S Q=>∃z,xs=[.str z]/\z.length<=sizeLine/\Q (.int z.length) S
theorem NN:fI K CB (λxs H Q=>∃z,xs=[.str z]/\z.length<=sizeLine/\Q (.int z.length) H):=by
 intro Z ds S Q3 vs H Q r l h c;obtain⟨z,rfl,hz,q⟩:=h;cases r with
 |cons r rr =>
  cases rr;cases r;exact⟨z,rfl,hz,c _ S _ H (Kp.refl _ _) (.int _) l q⟩
def CC:List D->af->K3->Prop:=λxs S Q=>∃x ds,xs=[x]/\(IsL S x ds∨x=.tup ds)/\cC S ds Q
theorem NO:fI K CC (λxs H Q=>∃p ys,xs=[.ref p]/\(aZ K H p ys∨a9 K H p ys)/\∀l,H l=none->Q (.ref l) (upd H l (.lst ys))):=by
 intro Z ds S Q3 vs H Q r l h c;obtain⟨x,es,rfl,hx,q⟩:=h;cases r with
 |cons r rr =>
  cases rr;rcases hx with hx|rfl
  ·obtain⟨a,ws,rfl,h3,h4⟩:=hx.down r l;exact⟨a,ws,rfl,.inl h3,cC.down q h4 l c⟩
  ·cases r with
   |tup h3 h4=>exact⟨_,_,rfl,.inr h3,cC.down q h4 l c⟩
def CF:List D->af->K3->Prop:=λxs S Q=>∃x ds,xs=[x]/\(IsL S x ds∨x=.tup ds)/\Q (.tup ds) S
theorem gy:fI K CF (λxs H Q=>∃p ys,xs=[.ref p]/\((aZ K H p ys/\∀l,H l=none->Q (.ref l) (upd H l (.tup ys)))∨(a9 K H p ys/\Q (.ref p) H))):=by
 intro Z ds S Q3 vs H Q r l h c;obtain⟨x,es,rfl,hx,q⟩:=h;cases r with
 |cons r rr =>
  cases rr;rcases hx with hx|rfl
  ·obtain⟨a,ws,rfl,h3,h4⟩:=hx.down r l;exact⟨a,ws,rfl,.inl ⟨h3,tup.down q h4 l c⟩⟩
  ·cases r with
   |tup h3 h4=>exact⟨_,_,rfl,.inr ⟨h3,c _ S _ H (Kp.refl _ _) (.tup h3 h4) l q⟩⟩
def sC:D->List D->af->K3->Prop:=λx ys S Q=>∃a ds y,x=.ref a/\ys=[y]/\S a=some (.lst ds)/\ds.length<sizeLine/\Q .non (up S a (.lst (ds++[y])))
theorem eM:mJ K sC Bb:=by
 intro Z x ds S Q3 v vs H Q rx r l h c;obtain⟨a,es,y,rfl,rfl,e,hz,q⟩:=h;cases rx;cases r with
 |@cons _ w _ _ r rr =>
  cases rr;obtain⟨ws,h1,h2⟩:=l.obj a _ e;have kk:Kp Z H (upd H a (.lst (ws++[w]))):=Kp.at l e;exact⟨a,ws,w,rfl,rfl,h1,by rw[<-h2.len];exact hz,c _ _ _ _ kk .non (l.put (o:=.lst (es++[y])) kk (l.mE e) ⟨_,di,(h2.mono kk).append (.cons (r.mono kk) .nil)⟩) q⟩
def CG:D->List D->af->K3->Prop:=λx ys S Q=>∃a ds y,x=.ref a/\ys=[]/\S a=some (.lst (ds++[y]))/\Q y (up S a (.lst ds))
theorem sD:mJ K CG Bx:=by
 intro Z x ds S Q3 v vs H Q rx r l h c;obtain⟨a,es,y,rfl,rfl,e,q⟩:=h;cases rx;cases r;obtain⟨ws,h1,h2⟩:=l.obj a _ e;obtain⟨us,u,rfl,h3,h4⟩:=h2.snoc_inv;have kk:Kp Z H (upd H a (.lst us)):=Kp.at l e;exact⟨a,us,u,rfl,rfl,h1,c _ _ _ _ kk (h4.mono kk) (l.put (o:=.lst es) kk (l.mE e) ⟨_,di,h3.mono kk⟩) q⟩
def CH:D->List D->af->K3->Prop:=λx ys S Q=>∃a b ds es,x=.ref a/\ys=[.ref b]/\S a=some (.lst ds)/\S b=some (.lst es)/\ds.length+es.length<=sizeLine/\Q .non (up S a (.lst (ds++es)))
theorem wd:mJ K CH Bc:=by
 intro Z x ds S Q3 v vs H Q rx r l h c;obtain⟨a,b,es,fs,rfl,rfl,e,e2,hz,q⟩:=h;cases rx;cases r with
 |cons r rr =>
  cases rr;cases r;obtain⟨ws,h1,h2⟩:=l.obj a _ e;obtain⟨us,h3,h4⟩:=l.obj b _ e2;have kk:Kp Z H (upd H a (.lst (ws++us))):=Kp.at l e;exact⟨a,b,ws,us,rfl,rfl,h1,h3,by rw[<-h2.len,<-h4.len];exact hz,c _ _ _ _ kk .non (l.put (o:=.lst (es++fs)) kk (l.mE e) ⟨_,di,(h2.mono kk).append (h4.mono kk)⟩) q⟩
end
end E3
namespace E3
open PySem PySem.Spec PyProof.Rows L2 EE
section
variable{prog:Program}{w:World}{A:Around}{E:Value->Shared->Prop}{s:Shared}
theorem NP{t sl:Addr}{items:Array Value}{vl vu:Value}{lo hi:Option Int}{Q:Value->Shared->Prop}(ht:IsTup s.heap t items)(hs:s.heap.IsSliceOf sl vl vu .none)(pl:IsPart vl lo)(pu:IsPart vu hi)
 (hw:HT.aG items.size 0 lo=0/\HT.aG items.size items.size hi=items.size) (h:Q (.ref t) s):wpAny (model prog w) A (getItem (.ref t) (.ref sl)) Q E s:=by
 obtain⟨os,hos,hcs,hds⟩:=id hs;have hTs:s.TypeIs (.ref sl) "slice":=⟨os,hos,hcs⟩;obtain⟨o,ho,hc,hd⟩:=id ht;unfold getItem
 try with_reducible refine og ?_
 first|refine ah (az ?_)|skip
 refine ah (Iz ht.typeIs (by decide) ?_);refine ah (hZ (name:=gc "__getitem__") ht.typeIs jI
  (f7 jI ht.typeIs IA ?_ (IB _ _)))
 show wpAny _ _ (zk (.ref t) >>= _) _ _ s;refine ah (tupleItemsOf_ ht ?_);refine ah (qL hTs ?_);rw[if_pos (by decide)];refine ah (HT.A0 hs pl pu ?_);have NQ:(((HT.aG items.size 0 lo:Nat):Int)==0&&(1:Int)==1&&(HT.aG items.size items.size hi-HT.aG items.size 0 lo)==items.size)=true:=by
  rw[hw.1,hw.2];simp
 show wpAny _ _ (if(((HT.aG items.size 0 lo:Nat):Int)==0&&(1:Int)==1&&(HT.aG items.size items.size hi-HT.aG items.size 0 lo)==items.size)=true then _ else _) _ _ s;rw[if_pos NQ];refine ah (m:=IY (Value.ref t)) ?_;unfold IY
 first
  |refine ah (qL ht.typeIs (az ?_))
  |exact ah (qL ht.typeIs (az ?_))
 rw[if_pos (by decide)];exact ah (jG (az ⟨_,rfl,az h⟩))
end
section
variable{X:Cx}
def CI(K:ak):V->Option Int->Option Int->Hp->VK->Prop:=λx lo hi H Q=>∃a xs,x=.ref a/\a9 K H a xs /\
 ((HT.aG xs.length 0 lo=0/\HT.aG xs.length xs.length hi=xs.length)->Q (.ref a) H)/\(¬(HT.aG xs.length 0 lo=0/\HT.aG xs.length xs.length hi=xs.length)->∀p,H p=none->Q (.ref p) (upd H p (.tup (i_ xs lo hi))))
theorem NR:mv X (CI X.K):=by
 intro pins s σ H x v vl vu lo hi sl Q I rx hs pl pu h;obtain⟨a,xs,rfl,hx,h1,h2⟩:=h;by_cases hw:HT.aG xs.length 0 lo=0/\HT.aG xs.length xs.length hi=xs.length
 ·cases rx;obtain⟨its,r,ht,hz⟩:=I.tuple hx;have hlen:its.toArray.size=xs.length:=by rw[bM];exact r.length.symm
  refine⟨"tuple",_,jI.lookup,ht.typeIs,?_⟩;refine NP ht hs pl pu (by rw[hlen];exact hw) ?_;exact⟨.ref a,H,I,rfl,h1 hw⟩
 ·exact Mf pins s σ H _ v vl vu lo hi sl Q I rx hs pl pu ⟨a,xs,rfl,hx,hw,h2 hw⟩
theorem NS{xs:List D}{lo hi:Option Int}(h:HT.aG xs.length 0 lo=0/\HT.aG xs.length xs.length hi=xs.length):cutD xs lo hi=xs:=by
 unfold cutD;rw[h.1,h.2,qP,qQ,ic]
theorem NT{K:ak}:si K Cw (CI K):=by
 intro Z x lo hi S Q3 v H Q rx l h c;obtain⟨ds,rfl,q⟩:=h;cases rx with
 |@tup a vs _ h3 h4 =>
  refine⟨a,vs,rfl,h3,λe=>?_,λ_=>tup.down q (h4.cut lo hi) l c⟩;rw[<-h4.len]at e;rw[NS e]at q;exact c _ S _ H (Kp.refl _ _) (.tup h3 h4) l q
def oM(m n:String):Option Bool:=if m=n then some true else if m="bool"/\n="int" then some true else
 if m∈["NoneType","bool","int","str","tuple","list","dict"]/\n∈["bool","int","str","tuple","list","dict"] then some false else none
end
abbrev aW:=List D->af->K3->X3->Prop
inductive gU(K:ak)(sp:aW)(vs:List V)(H:Hp)(Q:VK)(E:XK):Prop where
 |mk (Z:Zt) (ds:List D) (S:af) (Q3:K3) (E3:X3) (h1:aS K H ds vs) (h2:Rl K Z S H) (h3:sp ds S Q3 E3) (h4:CK K Z H Q3 Q) (h5:BO K Z H E3 E)
structure av(P:Program)(w:World)(K:ak)(mg:Str->Option Value)(base:Heap)(k:Nat)(x:Str)(ps:List Str)(sp:aW):Prop where
 ex:∃f fd,dv P w K mg base (b8 P w) k f fd ps (gU K sp)/\Binds K fd ps []/\bG K (.ref f)=true/\mg x=some (.ref f)
def d_(N:List Str)(ds:List D):aE:=ds.map some++eR (N.length-ds.length) none
section
variable{P:Program}{w:World}{K:PySem.W.Frag}{mg:Str->Option Value}{base:Heap}
theorem av.mono{j k:Nat}{x:Str}{ps:List Str}{sp:aW}(C:av P w K mg base j x ps sp)(h:j<=k):av P w K mg base k x ps sp:=by
 obtain⟨f,fd,F,r⟩:=C.ex;exact⟨f,fd,F.mono h,r⟩
theorem av.imp{k:Nat}{x:Str}{ps:List Str}{sp fV:aW}(C:av P w K mg base k x ps sp)(h:∀ds S Q E,fV ds S Q E->sp ds S Q E):av P w K mg base k x ps fV:=by
 obtain⟨f,fd,F,r⟩:=C.ex;refine⟨f,fd,F.imp λvs H Q E bX=>by obtain⟨Z,ds,S,Q3,E3,h1,h2,h3,h4,h5⟩:=bX;exact⟨Z,ds,S,Q3,E3,h1,h2,h _ _ _ _ h3,h4,h5⟩,r⟩
def kc(S A B:af):Prop:=∀a,(S a=A a/\B a=none)∨(A a=none/\S a=B a)
def Sub(A B:af):Prop:=∀a o,A a=some o->B a=some o
def fr(sp:aW):aW:=λds S Q E=>∃S0 F,kc S S0 F/\sp ds S0 (λd S1=>∃S2,Sub S2 S1/\∀S',kc S' S2 F->Q d S') (λC a S1=>∃S2,Sub S2 S1/\∀S',kc S' S2 F->E C a S')
theorem Rl.sub{Z:Zt}{S S':af}{H:Hp}(l:Rl K Z S H)(h:Sub S' S):Rl K Z S' H:=by
 refine⟨λa o e=>l.obj a o (h a o e),λa z=>⟨?_,(l.hid a z).2⟩,l.old⟩;cases e:S' a with
 |none=>rfl
 |some o =>
  have:=h a o e;rw[(l.hid a z).1]at this;cases this
def join(A B:af):af:=λa=>match A a with
 |some o=>some o
 |none=>B a
abbrev Zt.with(Z:Zt)(H:Hp)(F:af):Zt:=⟨λa=>Z a∨F a≠none,H⟩
theorem Rl.frame{Z:Zt}{S S0 F S1 S2:af}{H H':Hp}(l:Rl K Z S H)(hs:kc S S0 F)(k:Kp (Z.with H F) H H')(l1:Rl K (Z.with H F) S1 H')(h2:Sub S2 S1) :
 kc (join S2 F) S2 F/\Rl K Z (join S2 F) H':=by
 have l2:=l1.sub h2;have NU:∀a,F a≠none->S2 a=none:=λa z=>(l2.hid a (.inr z)).1;refine⟨λa=>?_,λa o e=>?_,λa z=>?_,l.old.trans (k.dJ λa z=>.inl z)⟩
 ·cases e:F a with
  |none =>
   refine .inl ⟨?_,rfl⟩;unfold join;cases e2:S2 a with
   |none=>exact e
   |some o=>rfl
  |some o =>
   have:=NU a (by rw[e];simp);refine .inr ⟨this,?_⟩;unfold join;rw[this];exact e
 ·unfold join at e;cases e2:S2 a with
  |some q =>
   rw[e2]at e;cases e;exact l2.obj a _ e2
  |none =>
   rw[e2]at e;have e:F a=some o:=e;have hne:F a≠none:=by rw[e];simp
   have hS:S a=some o:=by
    rcases hs a with⟨_,z⟩|⟨_,z⟩
    ·exact absurd z hne
    ·rw[z];exact e
   exact(l.obj a o hS).keep k (k.hid a (.inr hne))
 ·have z1:=l2.hid a (.inl z);have z2:=(l.hid a z).1;refine⟨?_,z1.2⟩;unfold join;rw[z1.1];show F a=none;rcases hs a with⟨_,q⟩|⟨_,q⟩
  ·exact q
  ·rw[<-q];exact z2
theorem av.frame{k:Nat}{x:Str}{ps:List Str}{sp:aW}(C:av P w K mg base k x ps sp):av P w K mg base k x ps (fr sp):=by
 obtain⟨f,fd,F0,r⟩:=C.ex;refine⟨f,fd,F0.imp λvs H Q E ⟨Z,ds,S,Q3,E3,h1,l,⟨S0,F,hs,h3⟩,cq,ce⟩=>?_,r⟩;refine⟨Z.with H F,ds,S0,_,_,h1,⟨λa o e=>?_,λa z=>?_,Kp.refl _ _⟩,h3,?_,?_⟩
 ·refine l.obj a o ?_;rcases hs a with⟨q,_⟩|⟨q,_⟩
  ·rw[q];exact e
  ·rw[q]at e;cases e
 ·rcases z with z|z
  ·have z2:=l.hid a z;refine⟨?_,z2.2⟩;rcases hs a with⟨q,_⟩|⟨q,_⟩
   ·rw[<-q];exact z2.1
   ·exact q
  ·rcases hs a with⟨_,q⟩|⟨q,q2⟩
   ·exact absurd q z
   ·refine⟨q,?_⟩;cases e:F a with
    |none=>exact absurd e z
    |some o=>exact(l.obj a o (q2.trans e)).there
 ·rintro d S1 v H' k1 r1 l1 ⟨S2,hsub,q⟩;obtain⟨fV,l'⟩:=l.frame hs k1 l1 hsub;exact cq d _ v H' (k1.dJ λa z=>.inl z) r1 l' (q _ fV)
 ·rintro C a S1 H' k1 l1 ha ⟨S2,hsub,q⟩;obtain⟨fV,l'⟩:=l.frame hs k1 l1 hsub;exact ce C a _ H' (k1.dJ λa z=>.inl z) l' ha (q _ fV)
theorem sE(S:af):kc S emp S:=λ_=>.inr ⟨rfl,rfl⟩
theorem sF{S F:af}(h:kc S emp F):S=F:=by
 funext a;rcases h a with⟨q,z⟩|⟨_,q⟩
 ·rw[q,z];rfl
 ·exact q
theorem sG(S:af):Sub emp S:=λa o e=>(nomatch e)
def one(p:Addr)(o:O):af:=λa=>if a=p then some o else none
theorem NV{S F:af}{p:Addr}{o:O}(h:kc S (one p o) F):F p=none/\S=up F p o:=by
 have hp:F p=none:=by
  rcases h p with⟨_,z⟩|⟨q,_⟩
  ·exact z
  ·simp[one]at q
 refine⟨hp,funext λa=>?_⟩;by_cases e:a=p
 ·subst e;rw[ao];rcases h a with⟨q,_⟩|⟨q,_⟩
  ·rw[q];simp[one]
  ·simp[one]at q
 ·rw[bH e];rcases h a with⟨q,z⟩|⟨_,q⟩
  ·rw[q,z];simp[one,e]
  ·exact q
theorem sub_one{S:af}{p:Addr}{o:O}(h:S p=some o):Sub (one p o) S:=λa u e=>by
 unfold one at e
 split at e
 ·subst a;cases e;exact h
 ·cases e
def vS(A:List D->(D->Prop)->Prop):aW:=λds S Q _=>A ds λd=>Q d S
def mQ(A:List D->(List D->Prop)->Prop):aW:=λds S Q _=>A ds λys=>cC S ys Q
variable{x:Str}{st:Stmt}{N ps:List Str}{k:Nat}
abbrev Zt.at(Z:Zt)(H:Hp):Zt:=⟨Z.p,H⟩
theorem Rl.into{Z:Zt}{S:af}{H:Hp}(l:Rl K Z S H):Rl K (Z.at H) S H:=⟨l.obj,l.hid,Kp.refl _ _⟩
theorem Rl.out{Z:Zt}{S S':af}{H H':Hp}(l':Rl K (Z.at H) S' H')(l:Rl K Z S H)(k:Kp (Z.at H) H H'):Rl K Z S' H':=⟨l'.obj,l'.hid,l.old.trans (k.dJ λ_ z=>z)⟩
def CJ{X:Cx}(Z:Zt)(H:Hp):ZX X cJ:=ZX.no X (Z.at H)
theorem _root_.EE.aC.sH{sp:aW}(h:aC K mg x st ps)(S:bf N ps (aq st))(len:∀vs H Q E,sp vs H Q E->vs.length=ps.length)
 (hbody:∀(f:Addr) (cdv:Value) (A:Around) (outer:List Env) (s:Shared) (H:Hp) (E:XK) (ds:List D) (S:af) (Q:K3) (E3:X3),cw k (A.deeper (envOfC x (aq st) s.heap.objs.size f cdv))->sp ds S Q E3 ->
  ∃t Q',cV (cO (b8 P w) P w K mg base N x (aq st) f cdv A outer s H E).iu cJ (a7 st) t/\t {nx:=λ_ S'=>Q' .non S',rt:=Q'} (d_ N ds) S/\∀d S',Q' d S'->Q d S'):av P w K mg base (k+1) x ps sp:=by
 obtain⟨f,fd,F,b,m⟩:=h.ex;obtain⟨oc,od,kV,doc,pm,an,cdv,ct,osl,rfl,lk,hcd⟩:=F.ex;refine⟨f,_,vt lk hcd S (λvs H Q E dP=>by obtain⟨Z,ds,S,Q3,E3,h1,_,h3,_,_⟩:=dP;rw[<-h1.len];exact len _ _ _ _ h3) λA outer s H vs Q E hr ⟨Z,ds,S3,Q3,E3,h1,h2,h3,h4,_⟩=>?_,b,F.kp,m⟩;obtain⟨t,Q',ht,q,hw⟩:=hbody f cdv A outer s H E ds S3 Q3 E3 hr h3;refine⟨_,(ht (CJ Z H)).iu,_,d_ N ds,S3,?_,h2.into,q,⟨?_,?_,?_,?_⟩⟩
 ·unfold d_ L2.start;rw[h1.len];exact gP (SR.sd h1) (SR.nones _)
 ·intro σ S' τ H' kk _ l q';exact h4 .non S' .non H' (kk.dJ λ_ z=>z) .non (l.out h2 kk) (hw _ _ q')
 ·exact λ_ _ _ _ _ _ _ z=>z
 ·exact λ_ _ _ _ _ _ _ z=>z
 ·exact λd S' v H' kk r l q'=>h4 d S' v H' (kk.dJ λ_ z=>z) r (l.out h2 kk) (hw _ _ q')
theorem _root_.EE.aC.val{A:List D->(D->Prop)->Prop}(h:aC K mg x st ps)(S:bf N ps (aq st))(len:∀ds q,A ds q->ds.length=ps.length)
 (hbody:∀(f:Addr) (cdv:Value) (Ar:Around) (outer:List Env) (s:Shared) (H:Hp) (E:XK) (ds:List D) (q:D->Prop),cw k (Ar.deeper (envOfC x (aq st) s.heap.objs.size f cdv))->A ds q ->
  ∃t,cV (cO (b8 P w) P w K mg base N x (aq st) f cdv Ar outer s H E).iu cJ (a7 st) t/\t {nx:=λ_ _=>q .non,rt:=λd _=>q d} (d_ N ds) emp):av P w K mg base (k+1) x ps (vS A):=by
 have C:av P w K mg base (k+1) x ps (λds S Q E=>S=emp/\∃q,A ds q/\∀d S',q d->Q d S'):=by
  refine h.sH S (λvs H Q E jf=>by obtain⟨_,q,z,_⟩:=jf;exact len _ _ z) λf cdv Ar outer s H E ds S3 Q E3 hr z=>?_;obtain⟨rfl,q,z,hq⟩:=z;obtain⟨t,h1,h2⟩:=hbody f cdv Ar outer s H E ds _ hr z;exact⟨t,λd _=>q d,h1,h2,hq⟩
 exact C.frame.imp λds S Q E z=>⟨emp,S,sE S,rfl,_,z,λd S1 hq=>⟨emp,sG _,λS' h=>sF h▸hq⟩⟩
theorem _root_.EE.aC.lst{A:List D->(List D->Prop)->Prop}(h:aC K mg x st ps)(S:bf N ps (aq st))(len:∀ds q,A ds q->ds.length=ps.length)
 (hbody:∀(f:Addr) (cdv:Value) (Ar:Around) (outer:List Env) (s:Shared) (H:Hp) (E:XK) (ds:List D) (q:List D->Prop),cw k (Ar.deeper (envOfC x (aq st) s.heap.objs.size f cdv))->A ds q ->
  ∃t,cV (cO (b8 P w) P w K mg base N x (aq st) f cdv Ar outer s H E).iu cJ (a7 st) t/\t {nx:=λ_ _=>False,rt:=λd S'=>∃p ys,d=.ref p/\S' p=some (.lst ys)/\q ys} (d_ N ds) emp):av P w K mg base (k+1) x ps (mQ A):=by
 have C:av P w K mg base (k+1) x ps (λds S Q E=>S=emp/\∃q,A ds q/\∀d S',(∃p ys,d=.ref p/\S' p=some (.lst ys)/\q ys)->Q d S'):=by
  refine h.sH S (λvs H Q E i7=>by obtain⟨_,q,z,_⟩:=i7;exact len _ _ z) λf cdv Ar outer s H E ds S3 Q E3 hr z=>?_;obtain⟨rfl,q,z,hq⟩:=z;obtain⟨t,h1,h2⟩:=hbody f cdv Ar outer s H E ds _ hr z;refine⟨t,λd S'=>∃p ys,d=.ref p/\S' p=some (.lst ys)/\q ys,h1,?_,hq⟩;have e:(λ(_:aE) (_:af)=>False)=λ(_:aE) (S':af)=>∃p ys,D.non=.ref p/\S' p=some (.lst ys)/\q ys:=by
   funext _ S';refine propext ⟨gb,λz=>?_⟩;obtain⟨p,ys,z,_⟩:=z;cases z
  rw[<-e];exact h2
 refine C.frame.imp λds S Q E z=>⟨emp,S,sE S,rfl,_,z,λd S1 ⟨p,ys,e,hp,hq⟩=>⟨one p (.lst ys),sub_one hp,λS' h=>?_⟩⟩;obtain⟨h1,rfl⟩:=NV h;subst e;exact hq p h1
section
variable{X:Cx}{CX:fU}{k:Nat}{f C:Addr}{fd:FuncData}{ps:List Str}{sp:Sp}{sI:List V}{ds:List Value}{E:L2.St->XK}{x:Str}{p pos:Pos}{e:Expr}{es:List Expr}{t:TA}
theorem NW(F:dv X.prog X.w X.K X.mg X.base CX k f fd ps sp)(hr:cw k X.A)(hg:Gl X x)(hm:X.mg x=some (.ref f))(hk:bG X.K (.ref f)=true)(hb:Binds X.K fd ps ds)(hd:Vals sI ds)(hx:∀τ,vR CX X (E τ) τ)
 (ha:PA X (e::es) t) (hdb:(x==("__debug__":Str))=false:=by decide) (he:starEach (e::es) X.env=(false,eval e X.env)::starEach es X.env:=by rfl) (hpl:(backTo pos (starEach es X.env)).any (·.1)=false:=by rfl) :
 PE X (.Call (.Name x p) (e::es) [] pos) (λτ H Q=>t τ H λvs H1=>sp (vs++sI) H1 Q (E τ)):=by
 intro pins s σ H Q I h;refine zt (rq I hg hm ?_ hdb);refine PySem.W.callWith_K (h₀:=X.base) I.ok.mod.oM hk (aK (ha pos pins s σ H _ I h) λus s1 ⟨vs,H1,I1,r,q⟩=>⟨I1.i5,?_⟩) he hpl;have r2:Vals (vs++sI) (us++ds):=r.append hd;have hl:(us++ds).length=ps.length:=by rw[<-r2.length];exact F.len _ _ _ _ q
 refine wpAny_call (zL (F.run X.A X.stack s1 H1 ⟨us,[]⟩ (us++ds) (vs++sI) Q (E σ) hr I1.env0 (hb s1 us I1.i5 hl) r2 q) λr s' hq=>?_);cases r with
 |error e=>exact hx σ pins H1 s1 e s' I1 hq
 |ok fl =>
  cases fl with
  |ret u=>exact I1.after hq
  |next=>exact gb hq
  |brk=>exact gb hq
  |cont=>exact gb hq
end
def mR(sp:aW)(W3:bF)(t:cb):aD:=λσ S Q=>t σ S λds S1=>sp ds S1 Q (W3 σ)
variable{X:Cx}{W3:bF}{y:Str}{pos p:Pos}{e:Expr}{es:List Expr}{t:cb}{sp:aW}
theorem aR(C:av X.prog X.w X.K X.mg X.base k y ps sp)(hr:cw k X.A)(hg:Gl X y)(ha:d7 X W3 (e::es) t)
 (hdb:(y==("__debug__":Str))=false:=by decide) (he:starEach (e::es) X.env=(false,eval e X.env)::starEach es X.env:=by rfl) (hpl:(backTo pos (starEach es X.env)).any (·.1)=false:=by rfl) :
 aF X W3 (.Call (.Name y p) (e::es) [] pos) (mR sp W3 t):=by
 obtain⟨f,fd,F,b,kp,m⟩:=C.ex;refine λZ=>PE.imp (NW F hr hg m kp b .nil Z.pass (ha Z) hdb he hpl) λτ H Q ⟨σ,S,Q3,hs,hr,ht,hc⟩=>?_;refine⟨σ,S,_,hs,hr,ht,λds S1 vs H1 k1 r1 l1 q1=>?_⟩;exact⟨Z.z,ds,S1,Q3,W3 σ,by rw[lV];exact r1,l1,q1,hc.mono k1,λC a S2 H2 k2 l2 ha z=>Z.ce σ τ C a S2 H2 (hs.mono (k1.trans k2)) l2 ha z⟩
end
section
variable{σ:aE}{S:af}{Q:K3}{QT:Bool->af->Prop}{QA:List D->af->Prop}{QO:Option Int->af->Prop}{ta tb te:aD}{tA tB:b7}{t u:bP}{al:cb}{r:R3}{n b c:aE->af->Prop}{rt:K3}{i:Nat}
theorem NX(h:t ⟨u ⟨n,rt,b,c⟩,rt,b,c⟩ σ S):mK t u ⟨n,rt,b,c⟩ σ S:=h
theorem NY(h:n σ S):B5 ⟨n,rt,b,c⟩ σ S:=h
theorem NZ(h:te σ S λ_ S1=>n σ S1):sj te ⟨n,rt,b,c⟩ σ S:=h
theorem N1(h:te σ S rt):B6 te ⟨n,rt,b,c⟩ σ S:=h
theorem N2(h:rt .non S):B7 ⟨n,rt,b,c⟩ σ S:=h
theorem N3(h:te σ S λx S1=>n (σ.set i (some x)) S1):pK i te ⟨n,rt,b,c⟩ σ S:=h
theorem N4{f:Int->Int->Int}{a:Int}(ha:σ[i]?=some (some (.int a)))(h:te σ S λy S1=>∃b,y=.int b/\n (σ.set i (some (.int (f a b)))) S1):B9 i te f ⟨n,rt,b,c⟩ σ S:=⟨a,ha,h⟩
theorem N5{k:Int}{P:Int->Prop}(h:P k):∃b,D.int k=.int b/\P b:=⟨k,rfl,h⟩
theorem N6(h:tA σ S λb' S1=>if b'=true then t ⟨n,rt,b,c⟩ σ S1 else u ⟨n,rt,b,c⟩ σ S1):mL tA t u ⟨n,rt,b,c⟩ σ S:=h
theorem N7{v:D}{Qs:aE->af->Prop}(h:Qs (σ.set i (some v)) S):iB i v σ S Qs:=h
theorem N8{d:D}(h:σ[i]?=some (some d))(q:Q d S):v3 i σ S Q:=⟨d,h,q⟩
theorem N9{d:D}(q:Q d S):c3 d σ S Q:=q
theorem N_(h:ta σ S λx S1=>tb σ S1 λy S2=>r x y S2 Q):o3 r ta tb σ S Q:=h
theorem N'{g:Int->Int->D}{k j:Int}(q:Q (g k j) S):i3 g (.int k) (.int j) S Q:=⟨k,j,rfl,rfl,q⟩
theorem Oa{g:Int->Int->D}{k j:Int}(h:0<j)(q:Q (g k j) S):pM (λ_ j=>0<j) g (.int k) (.int j) S Q:=⟨k,j,rfl,rfl,h,q⟩
theorem Ob{g:Int->Int->D}{k j:Int}(h:0<j/\j<1073741824)(q:Q (g k j) S):pM AI g (.int k) (.int j) S Q:=⟨k,j,rfl,rfl,h,q⟩
theorem kX{x y:Str}(h:x.length+y.length<=sizeLine)(q:Q (.str (x++y)) S):Cj (.str x) (.str y) S Q:=⟨x,y,rfl,rfl,h,q⟩
theorem Oc{x:D}(q:Q (.bl (v8 x)) S):Ck x .non S Q:=⟨rfl,q⟩
theorem mS{k j:Int}(q:Q (.bl (decide (k=j))) S):Cm (.int k) (.int j) S Q:=⟨k,j,rfl,rfl,q⟩
theorem Od{k j:Int}(q:Q (.bl (!decide (k=j))) S):Cn (.int k) (.int j) S Q:=⟨k,j,rfl,rfl,q⟩
theorem Oe{k j:Str}(q:Q (.bl (decide (k=j))) S):v9 (.str k) (.str j) S Q:=⟨k,j,rfl,rfl,q⟩
theorem Of{k j:Str}(q:Q (.bl (!decide (k=j))) S):Co (.str k) (.str j) S Q:=⟨k,j,rfl,rfl,q⟩
theorem Og(h:te σ S λx S'=>∃k,x=.bl k/\QT k S'):gv te σ S QT:=h
theorem Oh{k:Bool}{P:Bool->Prop}(h:P k):∃b,D.bl k=.bl b/\P b:=⟨k,rfl,h⟩
theorem Oi(h:te σ S λx S1=>∃k,pH S1 x k/\QT k S1):BY te σ S QT:=h
theorem CM{a:Addr}{ds:List D}{P:Bool->Prop}(hS:S a=some (.lst ds))(h:P (!ds.isEmpty)):∃k,pH S (.ref a) k/\P k:=⟨_,.inl ⟨ds,hS,rfl⟩,h⟩
theorem Oj(h:tA σ S λc' S1=>if c'=true then tB σ S1 QT else QT false S1):BQ tA tB σ S QT:=h
theorem Ol(h:tA σ S λc' S1=>if c'=true then QT true S1 else tB σ S1 QT):or3 tA tB σ S QT:=h
theorem Om(h:tA σ S λc' S1=>QT (!c') S1):BR tA σ S QT:=h
theorem Oo(h:ta σ S λx S1=>∃c',x=.bl c'/\if c'=true then tb σ S1 Q else Q (.bl false) S1):BS ta tb σ S Q:=h
theorem Oq(h:ta σ S λx S1=>∃c',x=.bl c'/\Q (.bl (!c')) S1):BU ta σ S Q:=h
theorem Ot(h:tA σ S λc' S1=>if c'=true then ta σ S1 Q else tb σ S1 Q):BV tA ta tb σ S Q:=h
theorem Ou(h:QA [] S):gw σ S QA:=h
theorem Ov(h:te σ S λx S1=>al σ S1 λxs S2=>QA (x::xs) S2):eJ te al σ S QA:=h
theorem Ow(h:al σ S λxs S1=>xs.length<=sizeLine/\Q (.tup xs) S1):BZ al σ S Q:=h
theorem Ox(h:al σ S λxs S1=>xs.length<=sizeLine/\cC S1 xs Q):B0 al σ S Q:=h
theorem Oy{α:Type}{xs:List α}{P:Prop}(h:xs.length<=sizeLine)(q:P):xs.length<=sizeLine/\P:=⟨h,q⟩
theorem Oz{f:List D->af->K3->Prop}(h:al σ S λvs S1=>f vs S1 Q):mI f al σ S Q:=h
theorem OA{sp:aW}{W3:bF}(h:al σ S λds S1=>sp ds S1 Q (W3 σ)):mR sp W3 al σ S Q:=h
theorem OB{T:String}{m:D->List D->af->K3->Prop}(h:te σ S λx S1=>kS T x S1/\al σ S1 λxs S2=>m x xs S2 Q):vV T m te al σ S Q:=h
theorem OC{T:String}{m:D->List D->af->K3->Prop}(h:te σ S λx S1=>kS T x S1/\m x [] S1 Q):B2 T m te σ S Q:=h
theorem we{a:Addr}{ds:List D}{P:Prop}(h:S a=some (.lst ds))(q:P):kS "list" (.ref a) S/\P:=⟨.inr (.inl ⟨rfl,ds,.inl ⟨a,rfl,h⟩⟩),q⟩
theorem ee{a:Addr}{ds:List D}{y:D}(h:S a=some (.lst ds))(hz:ds.length<sizeLine)(q:Q .non (up S a (.lst (ds++[y])))):sC (.ref a) [y] S Q:=⟨a,ds,y,rfl,rfl,h,hz,q⟩
theorem sJ{a:Addr}{ds:List D}{y:D}(h:S a=some (.lst (ds++[y])))(q:Q y (up S a (.lst ds))):CG (.ref a) [] S Q:=⟨a,ds,y,rfl,rfl,h,q⟩
theorem mT{a a':Addr}{ds es:List D}(h:S a=some (.lst ds))(h':S a'=some (.lst es))(hz:ds.length+es.length<=sizeLine)(q:Q .non (up S a (.lst (ds++es)))):CH (.ref a) [.ref a'] S Q:=⟨a,a',ds,es,rfl,rfl,h,h',hz,q⟩
theorem sL{ds:List D}{k:Int}{d:D}(h:cy ds k=some d)(q:Q d S):kb (.tup ds) (.int k) S Q:=⟨ds,k,d,rfl,rfl,h,q⟩
theorem gz{a:Addr}{ds:List D}{k:Int}{d:D}(hS:S a=some (.lst ds))(h:cy ds k=some d)(q:Q d S):wc (.ref a) (.int k) S Q:=⟨ds,k,d,.inl ⟨a,rfl,hS⟩,rfl,h,q⟩
theorem CN{ds:List D}{k:Int}{d:D}(h:cy ds k=some d)(q:Q d S):wc (.bY ds) (.int k) S Q:=⟨ds,k,d,.inr rfl,rfl,h,q⟩
theorem CP{z:Str}{k:Int}{cp:Nat}(hz:z.length<=sizeLine)(h:cy z.cps.toList k=some cp)(q:Q (.str ⟨#[cp]⟩) S):Ct (.str z) (.int k) S Q:=⟨z,k,cp,rfl,rfl,hz,h,q⟩
theorem CQ{a:Addr}{ds:List D}(hS:S a=some (.lst ds))(q:Q (.int ds.length) S):pP [.ref a] S Q:=⟨_,ds,rfl,.inl (.inl ⟨a,rfl,hS⟩),q⟩
theorem OD{ds:List D}(q:Q (.int ds.length) S):pP [.bY ds] S Q:=⟨_,ds,rfl,.inl (.inr rfl),q⟩
theorem OE{ds:List D}(q:Q (.int ds.length) S):pP [.tup ds] S Q:=⟨_,ds,rfl,.inr rfl,q⟩
theorem OF{z:Str}(hz:z.length<=sizeLine)(q:Q (.int z.length) S):CB [.str z] S Q:=⟨z,rfl,hz,q⟩
theorem OG{a:Addr}{ds:List D}(hS:S a=some (.lst ds))(q:cC S ds Q):CC [.ref a] S Q:=⟨_,ds,rfl,.inl (.inl ⟨a,rfl,hS⟩),q⟩
theorem CU{a:Addr}{ds:List D}(hS:S a=some (.lst ds))(q:Q (.tup ds) S):CF [.ref a] S Q:=⟨_,ds,rfl,.inl (.inl ⟨a,rfl,hS⟩),q⟩
theorem OH{f:D->Option Int->Option Int->af->K3->Prop}{tl th:kT}(h:te σ S λx S1=>tl σ S1 λl S2=>th σ S2 λu' S3=>f x l u' S3 Q):B4 f te tl th σ S Q:=h
theorem OI(h:QO none S):B3 σ S QO:=h
theorem OJ(h:te σ S λx S1=>∃k,x=.int k/\QO (some k) S1):part3 te σ S QO:=h
theorem CV{a:Addr}{ds:List D}{lo hi:Option Int}(hS:S a=some (.lst ds))(q:cC S (cutD ds lo hi) Q):Cv (.ref a) lo hi S Q:=⟨ds,.inl ⟨a,rfl,hS⟩,q⟩
theorem OK{ds:List D}{lo hi:Option Int}(q:Q (.tup (cutD ds lo hi)) S):Cw (.tup ds) lo hi S Q:=⟨ds,rfl,q⟩
theorem mU{z:Str}{lo hi:Option Int}(hz:z.length<=sizeLine)(q:Q (.str (textOf (jc z.cps.toList lo hi))) S):Cy (.str z) lo hi S Q:=⟨z,rfl,hz,q⟩
theorem sM{a a':Addr}{ds es:List D}(h:S a=some (.lst ds))(h':S a'=some (.lst es))(hz:ds.length+es.length<=sizeLine)(q:cC S (ds++es) Q):Cz (.ref a) (.ref a') S Q:=⟨a,a',ds,es,rfl,rfl,h,h',hz,q⟩
theorem OL{wi:dQ}{g:e_}(h:wi σ S λds Al S1=>∃W:Nat->aE->af->Prop,W 0 σ S1/\(∀i σ S,W i σ S->Al S) /\
 (∀i d σ S,ds[i]?=some d->W i σ S->g d σ S λix S2=>t ⟨W (i+1),rt,n,W (i+1)⟩ ix S2)/\∀σ S,W ds.length σ S->n σ S):Cg wi g t ⟨n,rt,b,c⟩ σ S:=h
theorem kY(W:Nat->aE->af->Prop)(m:Nat)(h0:W m σ S)(h:∀m σ S,W m σ S->tA σ S λb S1=>if b=true then t ⟨λσ' S'=>∃m',m'<m/\W m' σ' S',rt,n,λσ' S'=>∃m',m'<m/\W m' σ' S'⟩ σ S1 else n σ S1) :
 B_ tA t ⟨n,rt,b,c⟩ σ S:=⟨W,⟨m,h0⟩,h⟩
abbrev RI:=List D->(af->Prop)->af->Prop
variable{R:RI}
def CW(R:RI)(x:D)(S:af):Prop:=(∃a ds,x=.ref a/\S a=some (.lst ds)/\R ds (λS=>S a=some (.lst ds)) S)∨∃ds,x=.bY ds/\R ds (λ_=>True) S
theorem OM(h:te σ S λx S1=>CW R x S1):B' te σ S R:=h
theorem CY{a:Addr}{ds:List D}(hS:S a=some (.lst ds))(q:R ds (λS=>S a=some (.lst ds)) S):CW R (.ref a) S:=.inl ⟨a,ds,rfl,hS,q⟩
def wg(R:RI)(x:D)(S:af):Prop:=∃ds,x=.tup ds/\R ds (λ_=>True) S
theorem ON(h:te σ S λx S1=>wg R x S1):Cb te σ S R:=h
theorem OO{ds:List D}(q:R ds (λ_=>True) S):wg R (.tup ds) S:=⟨ds,rfl,q⟩
def CZ(R:RI)(xs:List D)(S:af):Prop:=∃ds,xs=[.tup ds]/\R ds.reverse (λ_=>True) S
theorem OP(h:al σ S λxs S1=>CZ R xs S1):Cc al σ S R:=h
theorem OQ{ds:List D}(q:R ds.reverse (λ_=>True) S):CZ R [.tup ds] S:=⟨ds,rfl,q⟩
theorem OS{z:Str}{P:Str->Prop}(h:P z):∃y,D.str z=.str y/\P y:=⟨z,rfl,h⟩
def C2(R:RI)(vs:List D)(S:af):Prop:=∃j:Int,vs=[.int j]/\-(2^62)<=j/\j<2^62/\R (nums 0 j.toNat) (λ_=>True) S
theorem OT(h:al σ S λvs S1=>C2 R vs S1):Cd al σ S R:=h
theorem OU{j:Int}(h1:-(2^62)<=j/\j<2^62)(q:R (nums 0 j.toNat) (λ_=>True) S):C2 R [.int j] S:=⟨j,rfl,h1.1,h1.2,q⟩
def C3(R:RI)(vs:List D)(S:af):Prop:=∃i j:Int,vs=[.int i,.int j]/\(-(2^62)<=i/\i<2^62/\-(2^62)<=j/\j<2^62)/\R (nums i (j-i).toNat) (λ_=>True) S
theorem OV(h:al σ S λvs S1=>C3 R vs S1):Ce al σ S R:=h
theorem OW{i j:Int}(h1:-(2^62)<=i/\i<2^62/\-(2^62)<=j/\j<2^62)(q:R (nums i (j-i).toNat) (λ_=>True) S):C3 R [.int i,.int j] S:=⟨i,j,rfl,h1,q⟩
def wj(neg:Bool)(Q:K3)(x y:D)(S:af):Prop:=∃a kvs k,x=.ref a/\S a=some (.bU kvs)/\y=kD k/\Q (.bl (if neg then !(dA kvs k).isSome else(dA kvs k).isSome)) S
theorem OX(h:te σ S λy S1=>ta σ S1 λx S2=>wj false Q x y S2):vY te ta σ S Q:=h
theorem OY(h:te σ S λy S1=>ta σ S1 λx S2=>wj true Q x y S2):vZ te ta σ S Q:=h
theorem C4{neg:Bool}{a:Addr}{kvs:List (Key×D)}{z:Str}(hS:S a=some (.bU kvs))(q:Q (.bl (if neg then !(dA kvs (.inr z)).isSome else(dA kvs (.inr z)).isSome)) S):wj neg Q (.ref a) (.str z) S:=⟨a,kvs,.inr z,rfl,hS,rfl,q⟩
def C5(n:aE->af->Prop)(σ:aE)(v x y:D)(S:af):Prop:=∃a kvs k,x=.ref a/\S a=some (.bU kvs)/\y=kD k/\kvs.length<sizeLine/\n σ (up S a (.bU (putD kvs k v)))
theorem OZ{tv:aD}(h:tv σ S λv S1=>te σ S1 λx S2=>ta σ S2 λy S3=>C5 n σ v x y S3):B8 te ta tv ⟨n,rt,b,c⟩ σ S:=h
theorem O0{a:Addr}{kvs:List (Key×D)}{z:Str}{v:D}(hS:S a=some (.bU kvs))(hz:kvs.length<sizeLine)(q:n σ (up S a (.bU (putD kvs (.inr z) v)))):C5 n σ v (.ref a) (.str z) S:=⟨a,kvs,.inr z,rfl,hS,rfl,hz,q⟩
end
theorem dv.frame{P:Program}{w:World}{K:ak}{mg:Str->Option Value}{base:Heap}{k:Nat}{f:Addr}{fd:FuncData}{ps:List Str}{sp:aW}(F:dv P w K mg base (b8 P w) k f fd ps (gU K sp)):dv P w K mg base (b8 P w) k f fd ps (gU K (fr sp)):=by
 refine L2.dv.imp F λvs H Q E ⟨Z,ds,S,Q3,E3,h1,l,⟨S0,F,hs,h3⟩,cq,ce⟩=>?_;refine⟨Z.with H F,ds,S0,_,_,h1,⟨λa o e=>?_,λa z=>?_,Kp.refl _ _⟩,h3,?_,?_⟩
 ·refine l.obj a o ?_;rcases hs a with⟨q,_⟩|⟨q,_⟩
  ·rw[q];exact e
  ·rw[q]at e;cases e
 ·rcases z with z|z
  ·have z2:=l.hid a z;refine⟨?_,z2.2⟩;rcases hs a with⟨q,_⟩|⟨q,_⟩
   ·rw[<-q];exact z2.1
   ·exact q
  ·rcases hs a with⟨_,q⟩|⟨q,q2⟩
   ·exact absurd q z
   ·refine⟨q,?_⟩;cases e:F a with
    |none=>exact absurd e z
    |some o=>exact(l.obj a o (q2.trans e)).there
 ·rintro d S1 v H' k1 r1 l1 ⟨S2,hsub,q⟩;obtain⟨fV,l'⟩:=l.frame hs k1 l1 hsub;exact cq d _ v H' (k1.dJ λa z=>.inl z) r1 l' (q _ fV)
 ·rintro C a S1 H' k1 l1 ha ⟨S2,hsub,q⟩;obtain⟨fV,l'⟩:=l.frame hs k1 l1 hsub;exact ce C a _ H' (k1.dJ λa z=>.inl z) l' ha (q _ fV)
def mV:aW:=vS λds q=>∃ns:List Int,ds=[.bY (ns.map D.int)]/\ns.length<=63/\q (.bl true)
theorem O1{P:Program}{w:World}{K:ak}{mg:Str->Option Value}{base:Heap}{k:Nat}{st:Stmt}{f:Addr}{fd:FuncData}{N:List Str}(F:mx K "law" "law" st f fd)(S:bf N ["script"] (aq st))
 (hbody:∀(cdv:Value) (A:Around) (outer:List Env) (s:Shared) (H:Hp) (E:XK) (ns:List Int),cw k (A.deeper (envOfC "law" (aq st) s.heap.objs.size f cdv))->ns.length<=63 ->
  ∃t,cV (cO (b8 P w) P w K mg base N "law" (aq st) f cdv A outer s H E).iu cJ (a7 st) t/\t {nx:=λ_ _=>False,rt:=λd _=>d=.bl true} (d_ N [.bY (ns.map D.int)]) emp) :
 dv P w K mg base (b8 P w) (k+1) f fd ["script"] (gU K mV):=by
 obtain⟨oc,od,kV,doc,pm,an,cdv,ct,osl,rfl,lk,hcd⟩:=F.ex;refine L2.dv.imp (sp:=gU K (fr λds S Q E=>S=emp/\∃ns:List Int,ds=[.bY (ns.map D.int)]/\ns.length<=63/\∀S',Q (.bl true) S')) (dv.frame ?_) λvs H Q E bX=>by obtain⟨Z,ds,S,Q3,E3,h1,l,⟨ns,e,h63,q⟩,h,h'⟩:=bX;exact⟨Z,ds,S,Q3,E3,h1,l,⟨emp,S,sE S,rfl,ns,e,h63,λS1=>⟨emp,sG _,λS' hS=>sF hS▸q⟩⟩,h,h'⟩
 refine vt lk hcd S (λvs H Q E dP=>by obtain⟨Z,ds,S,Q3,E3,h1,_,⟨_,ns,z,_⟩,_,_⟩:=dP;rw[<-h1.len,z];rfl) λA outer s H vs Q E hr ⟨Z,ds,S3,Q3,E3,h1,h2,⟨e1,ns,e2,h63,hq⟩,h4,_⟩=>?_;subst e1 e2;obtain⟨t,ht,q⟩:=hbody cdv A outer s H E ns hr h63;refine⟨_,(ht (CJ Z H)).iu,_,d_ N [.bY (ns.map D.int)],emp,?_,h2.into,q,⟨?_,?_,?_,?_⟩⟩
 ·unfold d_ L2.start;rw[h1.len];exact gP (SR.sd h1) (SR.nones _)
 ·exact λ_ _ _ _ _ _ _ z=>z.elim
 ·exact λ_ _ _ _ _ _ _ z=>z
 ·exact λ_ _ _ _ _ _ _ z=>z
 ·intro d S' v H' kk r l e;have e:d=.bl true:=e;subst e;exact h4 _ S' v H' (kk.dJ λ_ z=>z) r (l.out h2 kk) (hq S')
theorem O2{K:ak}{H:Hp}{a:Addr}{ns:List Int}(hl:ns.length<=63)(hO:ph H)(h:aZ K H a (ns.map V.int)):gU K mV [.ref a] H (λv _=>v=.bl true) λ_ _ _=>False:=by
 refine⟨⟨λ_=>False,H⟩,[.bY (ns.map D.int)],emp,λd _=>d=.bl true,λ_ _ _=>False,.cons (.bY (j5.of h hO) (aS.ints ns)) .nil,⟨λa o e=>(nomatch e),λa z=>z.elim,Kp.refl _ _⟩,⟨ns,rfl,hl,rfl⟩,?_,λ_ _ _ _ _ _ _ z=>z⟩;intro d S v H' _ r _ e;have e:d=.bl true:=e;subst e;cases r;rfl
theorem sN{A:Around}{k:Nat}(hr:cw k A):A.units+200<cLine:=by have:=hr.un;lia
theorem Sub.refl(S:af):Sub S S:=λ_ _ h=>h
theorem Sub.trans{A B C:af}(h:Sub A B)(h':Sub B C):Sub A C:=λa o e=>h' a o (h a o e)
theorem Sub.up{A B:af}{p:Addr}{o:O}(h:Sub A B)(hp:B p=none):Sub A (up B p o):=λa u e=>aL (h a u e) hp
theorem Sub.free{A B:af}{p:Addr}(h:Sub A B)(hp:B p=none):A p=none:=by
 cases e:A p with
 |none=>rfl
 |some o=>rw[h p o e]at hp;cases hp
theorem Sub.upd{A B:af}{p:Addr}{o:O}(h:Sub A B):Sub (E3.up A p o) (E3.up B p o):=λa u e=>by
 by_cases c:a=p
 ·subst c;rw[ao]at e ⊢;exact e
 ·rw[bH c]at e ⊢;exact h a u e
theorem Sub.at{A B:af}{p:Addr}{o:O}(h:Sub A B)(hp:A p=none):Sub A (E3.up B p o):=λa u e=>by
 rw[bH (ne3 e hp)];exact h a u e
section
variable{P:Program}{w:World}{K:PySem.W.Frag}{mg:Str->Option Value}{base:Heap}{x:Str}{st:Stmt}{N ps:List Str}{k:Nat}
theorem av.drop{sp:aW}(C:av P w K mg base k x ps sp):av P w K mg base k x ps (λds S Q E=>sp ds S (λd S1=>∃S2,Sub S2 S1/\Q d S2) E):=by
 obtain⟨f,fd,F0,r⟩:=C.ex;refine⟨f,fd,F0.imp λvs H Q E ⟨Z,ds,S,Q3,E3,h1,l,h3,cq,ce⟩=>⟨Z,ds,S,_,E3,h1,l,h3,?_,ce⟩,r⟩;rintro d S1 v H' k1 r1 l1 ⟨S2,hsub,q⟩;exact cq d S2 v H' k1 r1 (l1.sub hsub) q
def gA(A:List D->af->(D->Prop)->Prop):aW:=λds S Q _=>A ds S λd=>Q d S
def iE(A:List D->af->(List D->Prop)->Prop):aW:=λds S Q _=>A ds S λys=>cC S ys Q
theorem _root_.EE.aC.gA{A:List D->af->(D->Prop)->Prop}(h:aC K mg x st ps)(S:bf N ps (aq st))(len:∀ds S q,A ds S q->ds.length=ps.length)
 (hbody:∀(f:Addr) (cdv:Value) (Ar:Around) (outer:List Env) (s:Shared) (H:Hp) (E:XK) (ds:List D) (S:af) (q:D->Prop),cw k (Ar.deeper (envOfC x (aq st) s.heap.objs.size f cdv))->A ds S q ->
  ∃t,cV (cO (b8 P w) P w K mg base N x (aq st) f cdv Ar outer s H E).iu cJ (a7 st) t/\t {nx:=λ_ S'=>Sub S S'/\q .non,rt:=λd S'=>Sub S S'/\q d} (d_ N ds) S):av P w K mg base (k+1) x ps (gA A):=by
 have C:av P w K mg base (k+1) x ps (λds S Q E=>∃q,A ds S q/\∀d S',Sub S S'/\q d->Q d S'):=by
  refine h.sH S (λvs H Q E bX=>by obtain⟨q,z,_⟩:=bX;exact len _ _ _ z) λf cdv Ar outer s H E ds S3 Q E3 hr ⟨q,z,hq⟩=>?_;obtain⟨t,h1,h2⟩:=hbody f cdv Ar outer s H E ds S3 _ hr z;exact⟨t,λd S'=>Sub S3 S'/\q d,h1,h2,hq⟩
 exact C.drop.imp λds S Q E z=>⟨_,z,λd S1 hq=>⟨S,hq.1,hq.2⟩⟩
theorem _root_.EE.aC.iE{A:List D->af->(List D->Prop)->Prop}(h:aC K mg x st ps)(S:bf N ps (aq st))(len:∀ds S q,A ds S q->ds.length=ps.length)
 (hbody:∀(f:Addr) (cdv:Value) (Ar:Around) (outer:List Env) (s:Shared) (H:Hp) (E:XK) (ds:List D) (S:af) (q:List D->Prop),cw k (Ar.deeper (envOfC x (aq st) s.heap.objs.size f cdv))->A ds S q ->
  ∃t,cV (cO (b8 P w) P w K mg base N x (aq st) f cdv Ar outer s H E).iu cJ (a7 st) t /\
   t {nx:=λ_ _=>False,rt:=λd S'=>∃p ys,d=.ref p/\S p=none/\Sub S S'/\S' p=some (.lst ys)/\q ys} (d_ N ds) S):av P w K mg base (k+1) x ps (iE A):=by
 have C:av P w K mg base (k+1) x ps (λds S Q E=>∃q,A ds S q/\∀d S',(∃p ys,d=.ref p/\S p=none/\Sub S S'/\S' p=some (.lst ys)/\q ys)->Q d S'):=by
  refine h.sH S (λvs H Q E dP=>by obtain⟨q,z,_⟩:=dP;exact len _ _ _ z) λf cdv Ar outer s H E ds S3 Q E3 hr ⟨q,z,hq⟩=>?_;obtain⟨t,h1,h2⟩:=hbody f cdv Ar outer s H E ds S3 _ hr z;refine⟨t,λd S'=>∃p ys,d=.ref p/\S3 p=none/\Sub S3 S'/\S' p=some (.lst ys)/\q ys,h1,?_,hq⟩;have e:(λ(_:aE) (_:af)=>False)=λ(_:aE) (S':af)=>∃p ys,D.non=.ref p/\S3 p=none/\Sub S3 S'/\S' p=some (.lst ys)/\q ys:=by
   funext _ S';refine propext ⟨gb,λz=>?_⟩;obtain⟨p,ys,z,_⟩:=z;cases z
  rw[<-e];exact h2
 refine C.drop.imp λds S Q E z=>⟨_,z,λd S1 ⟨p,ys,e,hp,hs,hp1,hq⟩=>⟨up S p (.lst ys),?_,?_⟩⟩
 ·intro a o ha;by_cases c:a=p
  ·subst c;rw[ao]at ha;cases ha;exact hp1
  ·rw[bH c]at ha;exact hs a o ha
 ·subst e;exact hq p hp
theorem _root_.EE.aC.O3{sp:aW}(h:aC K mg x st ps)(no:∀ds S Q E,¬sp ds S Q E)(j:Nat):av P w K mg base j x ps sp:=by
 obtain⟨f,fd,F,b,m⟩:=h.ex;have C6:∀vs H Q E,¬gU K sp vs H Q E:=λvs H Q E oQ=>by obtain⟨Z,ds,S,Q3,E3,_,_,z,_,_⟩:=oQ;exact no _ _ _ _ z
 exact⟨f,fd,⟨λvs H Q E h=>absurd h (C6 vs H Q E),λA outer s H args us vs Q E _ _ _ _ h=>absurd h (C6 vs H Q E)⟩,b,F.kp,m⟩
end
section
variable{σ:aE}{S:af}{Q:K3}
theorem O4{g:Int->Int->D}{k j:Int}(h:vk k j)(q:Q (g k j) S):pM vk g (.int k) (.int j) S Q:=⟨k,j,rfl,rfl,h,q⟩
theorem C7{g:Int->Int->D}{k j:Int}(h:oW k j)(q:Q (g k j) S):pM oW g (.int k) (.int j) S Q:=⟨k,j,rfl,rfl,h,q⟩
theorem O5{σ:aE}{te:aD}(h:te σ S λx S1=>∃i,x=.int i/\Q (.int (-i)) S1):u3 (λx S Q=>∃i,x=.int i/\Q (.int (-i)) S) te σ S Q:=h
end
end E3
namespace E3
end E3
namespace E3
end E3
namespace E3
end E3
namespace E3
open PySem PySem.Spec PyProof.Rows L2 EE
theorem O6{P:Program}{w:World}{H:Hp}{h:Heap}{a:Addr}{o:HO}(x:cM P w H h a o):∃u,h.get? a=some u:=by
 cases o with
 |lst xs=>obtain⟨_,_,_,_,e⟩:=x;exact⟨_,e⟩
 |tup xs=>obtain⟨_,_,_,⟨o,e,_⟩,_⟩:=x;exact⟨_,e⟩
 |dK kvs=>obtain⟨_,_,_,_,o,_,_,e,_⟩:=x;exact⟨_,e⟩
 |dT kvs=>obtain⟨_,_,_,_,o,_,_,e,_⟩:=x;exact⟨_,e⟩
 |set S n=>obtain⟨o,_,_,_,e,_⟩:=x;exact⟨_,e⟩
 |ins C dx fs=>obtain⟨_,_,_,e,_⟩:=x;exact⟨_,e⟩
 |own y=>exact x
 |xd fs=>obtain⟨_,⟨_,_,_,e,_⟩,_⟩:=x;exact⟨_,e⟩
 |rg lo hi=>obtain⟨_,_,_,e⟩:=x;exact⟨_,e⟩
 |dF ob u=>obtain⟨e,_⟩:=x;exact⟨_,e⟩
 |jR ps=>exact⟨_,show h.get? a=some _ from x⟩
 |met f y=>exact⟨_,show h.get? a=some _ from x⟩
 |ext φ=>exact x.2.1
theorem sO{P:Program}{w:World}{H:Hp}{h:Heap}{a:Addr}(x:bS P w H h)(e:h.get? a=none):H a=none:=by
 cases q:H a with
 |none=>rfl
 |some o=>obtain⟨u,z⟩:=O6 (x a o q);rw[e]at z;cases z
section
variable{P:Program}{w:World}{K:PySem.W.Frag}{mg:Str->Option Value}{base:Heap}{N:List Str}{qual:Str}{scope:Scope}{f:Addr}{cd:Value}{A:Around}{outer:List Env}{s s2:Shared}{H H1:Hp}{E:XK}
 {pins:List (Addr×Obj)} {σ:L2.St} {a C:Addr}
theorem wm(I:Inv (cO (b8 P w) P w K mg base N qual scope f cd A outer s H E) pins σ H1 s2):s2.heap.FunFrames base (envOfC qual scope s.heap.objs.size f cd::outer):=by
 obtain⟨m,⟨o,es,ep,ho,hd,_⟩,_⟩:=I.loc;have hk:scope.kind=.function:=I.ok.kind;refine⟨?_,⟨s.heap.objs.size,o,rfl,?_,ho,λvs z=>?_⟩,I.eV⟩
 ·show scope.kind≠.module;rw[hk];intro z;cases z
 ·cases q:base.get? s.heap.objs.size with
  |none=>rfl
  |some u=>exact absurd (cR (bg q) I.ok.gk) (iS _)
 ·rw[hd]at z;cases z
theorem C8{a0:Value}{h':Heap}(hold:List Addr)(I:Inv (cO (b8 P w) P w K mg base N qual scope f cd A outer s H E) pins σ H1 s2)(hh:∀b∈hold,H1 b=none/\s.heap.get? b=none)(na:H1 a=none/\s.heap.get? a=none)
 (fl:zV (iT s2.heap (hold++frs (envOfC qual scope s.heap.objs.size f cd::outer))) outer a (.ref C) a0 h') (us:s2.heap.UpToSlots h') (q:E (.ref C) (some a) H1) {s3:Shared} (h3:s3.heap=h') (ho:s3.os=s2.os) (hg:s3.gens=s2.gens) :
 b8 P w outer H s E (.ref a) s3:=by
 have all:=wm I;have wo:frs (envOfC qual scope s.heap.objs.size f cd::outer)=s.heap.objs.size::frs outer:=rfl;have hL:s.heap.get? s.heap.objs.size=none:=by
  cases q:s.heap.get? s.heap.objs.size with
  |none=>rfl
  |some u=>exact absurd (bg q) (iS _)
 have frame:∀b,b∈frs (envOfC qual scope s.heap.objs.size f cd::outer)->H1 b=none/\∃o,s2.heap.get? b=some o/\∀vs,o.data≠.fields vs:=by
  intro b hb;refine⟨?_,(all.mem hb).2⟩;rw[wo]at hb;rcases a8.mp hb with rfl|hb
  ·exact I.free
  ·obtain⟨_,o,e,_⟩:=I.ok.eV.mem hb;exact I.base.free b o e (I.ok.ip b hb) (by exact cc)
 have keep:∀b o,s2.heap.get? b=some o->b∉hold->b∉frs (envOfC qual scope s.heap.objs.size f cd::outer)->h'.get? b=some o:=λb o e n1 n2 =>
  fl.1 b o (uu _ e λz=>(bI.mp z).elim n1 n2)
 have slot:∀b o,s2.heap.get? b=some o->b∈frs (envOfC qual scope s.heap.objs.size f cd::outer)->∃sl,h'.get? b=some {o with slots:=sl}:=λb o e hb=>by
  obtain⟨_,o',e',hn⟩:=frame b hb;rw[e]at e';cases e';exact us b o e hn
 have pQ:∀b o,s.heap.get? b=some o->b∉hold:=λb o e z=>by rw[(hh b z).2]at e;cases e
 have nL:∀b o,s.heap.get? b=some o->b∉frs outer->b∉frs (envOfC qual scope s.heap.objs.size f cd::outer):=λb o e n z=>by
  rw[wo]at z;rcases a8.mp z with rfl|z
  ·rw[hL]at e;cases e
  ·exact n z
 obtain⟨f1,f2,f3,oe,vs,T,oT,ts,he,⟨hc,h0⟩,hd,h1,hnT,hTe,hT,hdT,O7⟩:=fl;have O8:T∉frs (envOfC qual scope s.heap.objs.size f cd::outer):=λz=>by
  obtain⟨_,o',e',hn⟩:=frame T z;obtain⟨sl,e2⟩:=us T o' e' hn;rw[hT]at e2;cases e2;exact hn _ hdT
 have tT:H1 T=none/\s.heap.get? T=none:=by
  by_cases hz:T∈hold
  ·exact hh T hz
  ·have n2:s2.heap.get? T=none:=by
    cases q:s2.heap.get? T with
    |none=>rfl
    |some o =>
     rw[uu _ q λz=>(bI.mp z).elim hz O8]at hnT;cases hnT
   refine⟨sO I.hok n2,?_⟩;cases q:s.heap.get? T with
   |none=>rfl
   |some o =>
    obtain⟨o',e'⟩:=I.base.there T o q (by exact cc);rw[n2]at e';cases e'
 refine⟨a,C,T,H1,rfl,ho.trans I.os,?_,?_,?_,?_,na.1,tT.1,na.2,tT.2,q⟩
 ·rw[hg];exact I.bare
 ·rw[h3];refine⟨λb o e n hf hx=>?_,λb o e n hf hx=>?_,λb o e n hx=>I.base.free b o e n (by exact cc),λb o e hx=>?_,I.base.tups,I.base.fk,I.base.fT⟩
  ·exact keep b o (I.base.keep b o e n hf (by exact cc)) (pQ b o e) (nL b o e hf)
  ·obtain⟨sl,e1⟩:=I.base.slot b o e n hf (by exact cc);obtain⟨sl',e2⟩:=slot b _ e1 (by rw[wo];exact .tail _ hf);exact⟨sl',e2⟩
  ·obtain⟨o',e1⟩:=I.base.there b o e (by exact cc);by_cases hb:b∈frs (envOfC qual scope s.heap.objs.size f cd::outer)
   ·obtain⟨sl,e2⟩:=slot b _ e1 hb;exact⟨_,e2⟩
   ·exact⟨_,keep b _ e1 (pQ b o e) hb⟩
 ·rw[h3];intro b o e;refine(I.hok b o e).stay (λc u hc q=>?_) (λ_ q=>q) λ_ _ q=>q;have pR:H1 c≠none:=by
   rcases hc with rfl|z
   ·rw[e];simp
   ·rw[z];simp
  exact keep c u q (λz=>pR (hh c z).1) λz=>pR (frame c z).1
 ·rw[h3];exact⟨hTe,⟨oe,vs,a0,he,hc,hd,h0,h1⟩,⟨oT,ts,hT,hdT,O7⟩⟩
theorem O9:Passes (b8 P w) (cO (b8 P w) P w K mg base N qual scope f cd A outer s H E) E:=by
 rintro pins σ H1 s1 e s' I ⟨a,C,T,H',he,hos,hb,u,hok,kZ,ha,hT,na,nT,z⟩;subst he;have I':=I.oP hos u hok hb λ_ z=>nomatch z;have all:=wm I';have old:∀b,s1.heap.get? b=none->s.heap.get? b=none:=λb e=>by
  cases q:s.heap.get? b with
  |none=>rfl
  |some o =>
   obtain⟨o',e'⟩:=I.base.there b o q (by exact cc);rw[e]at e';cases e'
 obtain⟨oe,vs,a0,e1,e2,e3,e4,e5⟩:=kZ.exc;obtain⟨oT,ts,t1,t2,t3⟩:=kZ.tb;have hl:∀env∈(envOfC qual scope s.heap.objs.size f cd::outer),∀b,env.frame=some b->b∈[a,T]++frs (envOfC qual scope s.heap.objs.size f cd::outer):=λenv he b hb=>df _ (n_.mpr ⟨env,he,hb⟩);show wpAny _ _ (leaving (envOfC qual scope s.heap.objs.size f cd) (.ref a)) _ _ s';refine wpAny_leaves_onW (base:=iT s'.heap ([a,T]++frs (envOfC qual scope s.heap.objs.size f cd::outer))) I'.ok.frames rfl ⟨λb o q=>n6 _ q,qJ _ (by simp),uM all hl,
  oe,vs,T,oT,ts,e1,⟨e2,e4⟩,e3,e5,qJ _ (by simp),kZ.ne,t1,t2,t3⟩ λh' x1 x2=>?_
 refine C8 [a,T] I' (λb hb=>?_) ⟨ha,old a na⟩ x1 x2 z rfl rfl rfl;rcases a8.mp hb with rfl|hb
 ·exact⟨ha,old b na⟩
 ·rcases a8.mp hb with rfl|hb
  ·exact⟨hT,old b nT⟩
  ·cases hb
theorem leave_new{args:List Value}{s3:Shared}{e:Addr}(I:Inv (cO (b8 P w) P w K mg base N qual scope f cd A outer s H E) pins σ H1 s2)(hx:zT s2.heap s3.heap e (.ref C) args)(ho:s3.os=s2.os)(hg:s3.gens=s2.gens)(q:E (.ref C) (some e) H1) :
 (cO (b8 P w) P w K mg base N qual scope f cd A outer s H E).xe (.ref e) s3:=by
 have all:=wm I;have hl:∀env∈(envOfC qual scope s.heap.objs.size f cd::outer),∀b,env.frame=some b->b∈[]++frs (envOfC qual scope s.heap.objs.size f cd::outer):=λenv he b hb=>df _ (n_.mpr ⟨env,he,hb⟩);show wpAny _ _ (leaving (envOfC qual scope s.heap.objs.size f cd) (.ref e)) _ _ s3;refine wpAny_leaves_madeW (base:=iT s2.heap ([]++frs (envOfC qual scope s.heap.objs.size f cd::outer))) (h:=s2.heap) I.ok.frames rfl (λb o q=>n6 _ q) (uM all hl) hx λh' t x1 _ _ x4=>?_;refine C8 [] I (λb hb=>nomatch hb) ⟨sO I.hok hx.new,?_⟩ x1 ((IZ hx.keeps).trans x4) q rfl ho hg;cases q:s.heap.get? e with
 |none=>rfl
 |some o =>
  obtain⟨o',e'⟩:=I.base.there e o q (by exact cc);rw[hx.new]at e';cases e'
end
section
variable{P:Program}{w:World}{K:PySem.W.Frag}{mg:Str->Option Value}{base:Heap}{x:Str}{st:Stmt}{N ps:List Str}{k:Nat}
def O_{f:Addr}{cdv:Value}{A:Around}{outer:List Env}{s:Shared}{H:Hp}{E:XK}{scope:Scope}(Z:Zt)(W:X3)(o:Kp Z Z.base H)(ce:BO K Z H W E):ZX (cO (b8 P w) P w K mg base N x scope f cdv A outer s H E) (λ_=>W) where
 z:=Z.at H
 E:=λ_=>E
 pass:=λτ pins H s e s' I q=>O9 pins τ H s e s' I q
 rz:=λ_ _ _ _ _ _ _ _ I hx ho hg q=>leave_new I hx ho hg q
 ce:=λ_ _ C a S H' _ l ha q=>ce C a S H' (l.old.dJ λ_ z=>z) ⟨l.obj,l.hid,o.trans (l.old.dJ λ_ z=>z)⟩ ha q
theorem _root_.EE.aC.pS{sp:aW}(h:aC K mg x st ps)(S:bf N ps (aq st))(len:∀vs H Q E,sp vs H Q E->vs.length=ps.length)
 (hbody:∀(f:Addr) (cdv:Value) (A:Around) (outer:List Env) (s:Shared) (H:Hp) (E:XK) (ds:List D) (S:af) (Q:K3) (W:X3),cw k (A.deeper (envOfC x (aq st) s.heap.objs.size f cdv))->sp ds S Q W ->
  ∃t Q' W',cV (cO (b8 P w) P w K mg base N x (aq st) f cdv A outer s H E) (λ_=>W') (a7 st) t/\t {nx:=λ_ S'=>Q' .non S',rt:=Q'} (d_ N ds) S/\(∀d S',Q' d S'->Q d S')/\∀C a S',W' C a S'->W C a S'):av P w K mg base (k+1) x ps sp:=by
 obtain⟨f,fd,F,b,m⟩:=h.ex;obtain⟨oc,od,kV,doc,pm,an,cdv,ct,osl,rfl,lk,hcd⟩:=F.ex;refine⟨f,_,vt lk hcd S (λvs H Q E bX=>by obtain⟨Z,ds,S,Q3,E3,h1,_,h3,_,_⟩:=bX;rw[<-h1.len];exact len _ _ _ _ h3) λA outer s H vs Q E hr ⟨Z,ds,S3,Q3,E3,h1,h2,h3,h4,h5⟩=>?_,b,F.kp,m⟩;obtain⟨t,Q',W',ht,q,hw,hx⟩:=hbody f cdv A outer s H E ds S3 Q3 E3 hr h3;refine⟨_,ht (O_ Z W' h2.old λC a S' H' kk l ha z=>h5 C a S' H' kk l ha (hx _ _ _ z)),_,d_ N ds,S3,?_,h2.into,q,⟨?_,?_,?_,?_⟩⟩
 ·unfold d_ L2.start;rw[h1.len];exact gP (SR.sd h1) (SR.nones _)
 ·intro σ S' τ H' kk _ l q';exact h4 .non S' .non H' (kk.dJ λ_ z=>z) .non (l.out h2 kk) (hw _ _ q')
 ·exact λ_ _ _ _ _ _ _ z=>z
 ·exact λ_ _ _ _ _ _ _ z=>z
 ·exact λd S' v H' kk r l q'=>h4 d S' v H' (kk.dJ λ_ z=>z) r (l.out h2 kk) (hw _ _ q')
def vX(A:List D->(D->Prop)->(Addr->Prop)->Prop):aW:=λds S Q W=>A ds (λd=>Q d S) λC=>∀a,W C a S
theorem _root_.EE.aC.O'{A:List D->(D->Prop)->(Addr->Prop)->Prop}(h:aC K mg x st ps)(S:bf N ps (aq st))(len:∀ds q qx,A ds q qx->ds.length=ps.length)
 (hbody:∀(f:Addr) (cdv:Value) (Ar:Around) (outer:List Env) (s:Shared) (H:Hp) (E:XK) (ds:List D) (q:D->Prop) (qx:Addr->Prop),cw k (Ar.deeper (envOfC x (aq st) s.heap.objs.size f cdv))->A ds q qx ->
  ∃t,cV (cO (b8 P w) P w K mg base N x (aq st) f cdv Ar outer s H E) (λ_ C _ _=>qx C) (a7 st) t/\t {nx:=λ_ _=>q .non,rt:=λd _=>q d} (d_ N ds) emp):av P w K mg base (k+1) x ps (vX A):=by
 have C:av P w K mg base (k+1) x ps (λds S Q E=>S=emp/\∃q qx,A ds q qx/\(∀d S',q d->Q d S')/\∀C a S',qx C->E C a S'):=by
  refine h.pS S (λvs H Q E dP=>by obtain⟨_,q,qx,z,_⟩:=dP;exact len _ _ _ z) λf cdv Ar outer s H E ds S3 Q E3 hr z=>?_;obtain⟨rfl,q,qx,z,hq,hx⟩:=z;obtain⟨t,h1,h2⟩:=hbody f cdv Ar outer s H E ds _ _ hr z;exact⟨t,λd _=>q d,λC _ _=>qx C,h1,h2,hq,hx⟩
 exact C.frame.imp λds S Q E z=>⟨emp,S,sE S,rfl,_,_,z,λd S1 hq=>⟨emp,sG _,λS' h=>sF h▸hq⟩,λC a S1 hx=>⟨emp,sG _,λS' h=>sF h▸hx a⟩⟩
theorem mW{qual:Str}{scope:Scope}{f:Addr}{cd:Value}{A:Around}{outer:List Env}{s:Shared}{H:Hp}{E:XK} :
 PassesOwn (model P w) (cO (b8 P w) P w K mg base N qual scope f cd A outer s H E).A (cO (b8 P w) P w K mg base N qual scope f cd A outer s H E).env (cO (b8 P w) P w K mg base N qual scope f cd A outer s H E).xe:=PassesOwn.leaving
end
abbrev sP:List Value:=[.type "ValueError",.type "Exception",.type "BaseException",.type "object"]
theorem Pa{K:ak}{h:Heap}{C:Addr}{bmB:List Value}{newId:String}(X:K.In h)(q:oq K C bmB newId=true) :
 ∃bm N nm qn bs hdct sn sub ab col dd q0 q1 q2 q3 q5 mN,h.get? C=some (excClassObj nm qn C N bs bm hdct sn sub ab col dd q0 q1 q2 q3 q5 newId)/\h.Ns N mN/\mN "__init__"=none/\OwnTail h bmB bm:=by
 unfold oq at q
 split at q
 ·rename_i dd cd sl ho
  split at q
  ·rename_i Ca bm q0 q1 q2 q3 n q5 hmr hsz
   simp only[eP,beq_iff_eq,Bool.not_eq_true']at q;obtain⟨⟨⟨⟨⟨rfl,rfl⟩,hde⟩,ht⟩,hns⟩,hin⟩:=q;obtain⟨nm,bs,mro,ns,qn,hd,sn,sub,ab,col,del⟩:=cd;dsimp only at hmr hde hns hin;subst hmr hde;have Pb:sl=#[q0,q1,q2,q3,some (.builtin n),q5]:=by
    obtain⟨l⟩:=sl;simp only at hsz;rw[hsz]
   subst Pb;exact⟨bm,ns,nm,qn,bs,hd,sn,sub,ab,col,dd,q0,q1,q2,q3,q5,_,X _ _ ho,.of_isNs (PySem.W.isNs_of_in X hns),PySem.W.nsMap_none_of_in X hns hin,PySem.W.tail_of_in X ht⟩
  ·cases q
 ·cases q
section
variable{X:Cx}{x:Str}{C:Addr}{np cpos pos:Pos}{e:Expr}{es:List Expr}
theorem Pc{ta:TA}{E:L2.St->XK}(hm:X.mg x=some (.ref C))(q:oq X.K C sP "ValueError.__new__"=true)(hc:X.calm=true)(hg:Gl X x)(rz:∀τ,BN X (E τ) τ)(ha:PA X (e::es) ta)
 (hd:(x==("__debug__":Str))=false:=by decide) (he:starEach (e::es) X.env=(false,eval e X.env)::starEach es X.env:=by rfl) (hpl:(backTo cpos (starEach es X.env)).any (·.1)=false:=by rfl) :
 PS X (.Raise (some (.Call (.Name x np) (e::es) [] cpos)) none pos) (λ_ τ H=>ta τ H λvs H1=>vs.length<=sizeLine/\∀a,H1 a=none->E τ (.ref C) (some a) H1):=by
 intro pins s σ H D I h;obtain⟨bm,N,nm,qn,bs,hdct,sn,sub,ab,col,dd,k0,k1,k2,k3,k5,mN,hC,hN,hni,T⟩:=Pa I.mod.oM q;refine wpAny_Raise_call_subT (C:=C) (nm:=nm) (q:=qn) (N:=N) (bs:=bs) (bm:=bm) (hdct:=hdct) (sn:=sn) (sub:=sub) (ab:=ab) (col:=col) (dd:=dd) (k0:=k0) (k1:=k1) (k2:=k2) (k3:=k3) (k5:=k5)
  I0 (mN:=mN) (T.hasType I0.hasBase) (I.ok.hd hc) (by rw[he];show(false||(backTo cpos (starEach es X.env)).any (·.1))=false;rw[hpl];rfl) hni (rq I hg hm ⟨rfl,?_⟩ hd)
 have h1:=ha cpos pins s σ H _ I h;rw[he]at h1 ⊢;refine II (eQ h1 (λus s1 ⟨vs,H1,I1,r,hl,z⟩=>?_) λ_ _ y=>y);have keep:∀b o,X.base.get? b=some o->s1.heap.get? b=some o:=I1.bk;refine⟨rfl,by show us.length<=sizeLine;rw[<-r.length];exact hl,keep _ _ hC,hN.keeps keep,T.keeps keep,λh' a hx=>?_⟩;exact rz σ pins H1 s1 _ a C us I1 hx rfl rfl (z a (sO I1.hok hx.new))
def C9(W3:bF)(C:Addr)(ta:cb):bP:=λ_ σ S=>ta σ S λds S1=>ds.length<=sizeLine/\∀a,W3 σ C a S1
variable{W3:bF}
theorem wq{ta:cb}(hm:X.mg x=some (.ref C))(q:oq X.K C sP "ValueError.__new__"=true)(hc:X.calm=true)(hg:Gl X x)(ha:d7 X W3 (e::es) ta)
 (hd:(x==("__debug__":Str))=false:=by decide) (he:starEach (e::es) X.env=(false,eval e X.env)::starEach es X.env:=by rfl) (hpl:(backTo cpos (starEach es X.env)).any (·.1)=false:=by rfl) :
 d8 X W3 (.Raise (some (.Call (.Name x np) (e::es) [] cpos)) none pos) (C9 W3 C ta):=λZ=>PS.imp (Pc hm q hc hg Z.rz (ha Z) hd he hpl) λD τ H bX=>by obtain⟨D3,σ,S,hs,hr,ht,hcd⟩:=bX;exact 
 ⟨σ,S,_,hs,hr,ht,λds S1 vs H1 k1 r1 l1 q1=>⟨by rw[<-r1.len];exact q1.1,λa ha=>Z.ce σ τ C a S1 H1 (hs.mono k1) l1 ha (q1.2 a)⟩⟩
def wt:D->Str->Prop
 | .str y,z=>z=y/\y.length<=sizeLine
 | .int a,z=>z=toString a/\a.natAbs.log2<1920
 |_,_=>False
def C_(te:aD):aD:=λσ S Q=>te σ S λd S1=>∃y,wt d y/\Q (.str y) S1
theorem Pd{te:aD}(he:aF X W3 e te):aF X W3 (.FormattedValue e (-1) none pos) (C_ te):=by
 rintro Z pins s τ H Q I ⟨σ,S,Q3,hs,hr,ht,hc⟩;refine wpAny_FormattedValue_plain (eQ (he Z pins s τ H (λv H1=>∃y,(v=.str y/\y.length<=sizeLine∨∃a:Int,v=.int a/\y=toString a/\a.natAbs.log2<1920)/\Q (.str y) H1) I ⟨σ,S,_,hs,hr,ht,λd S1 v H1 k1 r1 l1 q1=>?_⟩) (λu s1 z=>?_) λ_ _ y=>y)
 ·obtain⟨y,f,q⟩:=q1;cases r1 with
  |str x=>obtain⟨rfl,hl⟩:=f;exact⟨_,.inl ⟨rfl,hl⟩,hc _ S1 _ H1 k1 (.str _) l1 q⟩
  |int a=>obtain⟨rfl,hl⟩:=f;exact⟨_,.inr ⟨a,rfl,rfl,hl⟩,hc _ S1 _ H1 k1 (.str _) l1 q⟩
  |_=>exact f.elim
 ·obtain⟨v,H1,I1,r,y,hv,q⟩:=z;rcases hv with⟨rfl,hl⟩|⟨a,rfl,rfl,hl⟩
  ·obtain⟨t,rfl⟩:=r;exact wpAny_formatField_str ⟨.str y,H1,I1,⟨_,rfl⟩,q⟩ ⟨.str y,H1,I1.tok _,⟨_,rfl⟩,q⟩ hl
  ·obtain⟨t,rfl⟩:=r;exact wpAny_formatField_int hl ⟨.str _,H1,I1.tok _,⟨_,rfl⟩,q⟩
def pT(X:Cx)(W3:bF)(es:List Expr)(t:Str->aD):Prop:=∀(Z:ZX X W3) (pins:List (Addr×Obj)) (s:Shared) (τ:L2.St) (H:Hp) (Q:VK) (acc:Str),Inv X pins τ H s->lE X.K Z.z (t acc) τ H Q ->
 Joins (model X.prog X.w) X.A X.xe (evalEach es X.env) acc (λout s1=>out.length<=sizeLine/\∃H1,Inv X pins τ H1 s1/\Q (.str out) H1) s
def Dd(acc:Str):aD:=λ_ S Q=>acc.length<=sizeLine/\Q (.str acc) S
def De(te:aD)(t:Str->aD)(acc:Str):aD:=λσ S Q=>te σ S λd S1=>∃y,d=.str y/\(acc++y).length<=sizeLine/\t (acc++y) σ S1 Q
theorem Pe:pT X W3 [] Dd:=λZ pins s τ H Q acc I dP=>by obtain⟨σ,S,Q3,hs,hr,ht,hc⟩:=dP;exact⟨ht.1,H,I,hc _ S _ H (Kp.refl _ _) (.str _) hr ht.2⟩
theorem wu{te:aD}{t:Str->aD}(he:aF X W3 e te)(ht:pT X W3 es t):pT X W3 (e::es) (De te t):=by
 rintro Z pins s τ H Q acc I ⟨σ,S,Q3,hs,hr,h,hc⟩;refine eQ (he Z pins s τ H (λv H1=>∃y,v=.str y/\(acc++y).length<=sizeLine/\lE X.K Z.z (t (acc++y)) τ H1 Q) I ⟨σ,S,_,hs,hr,h,λd S1 v H1 k1 r1 l1 q1=>?_⟩) (λu s1 z=>?_) λ_ _ y=>y
 ·obtain⟨y,rfl,hl,q⟩:=q1;cases r1;exact⟨y,rfl,hl,σ,S1,Q3,hs.mono k1,l1,q,hc.mono k1⟩
 ·obtain⟨v,H1,I1,r,y,rfl,hl,q⟩:=z;obtain⟨t',rfl⟩:=r;exact⟨y,t',rfl,hl,ht Z pins s1 τ H1 Q _ I1 q⟩
theorem Pf{e2:Expr}{t:Str->aD}(h:pT X W3 (e::e2::es) t):aF X W3 (.JoinedStr (e::e2::es) pos) (t Str.empty):=by
 intro Z pins s τ H Q I hq;have j:=h Z pins s τ H Q _ I hq;refine wpAny_JoinedStr ?_;have mono:∀(l:List (Sem Value)) (acc:Str) (s:Shared) {R R':Str->Shared->Prop},(∀o s,R o s->R' o s)->Joins (model X.prog X.w) X.A X.xe l acc R s->Joins (model X.prog X.w) X.A X.xe l acc R' s:=by
  intro l
  induction l with
  |nil=>exact λacc s R R' f q=>f _ _ q
  |cons a l ih=>exact λacc s R R' f q=>eQ q (λv s1 jf=>by obtain⟨y,t,e,hl,z⟩:=jf;exact⟨y,t,e,hl,ih _ _ f z⟩) λ_ _ z=>z
 exact mono _ _ _ (λo s1 i7=>by obtain⟨hl,H1,I1,q⟩:=i7;exact⟨hl,.str o,H1,I1.tok _,⟨_,rfl⟩,q⟩) j
end
section
variable{σ:aE}{S:af}{Q:K3}{te:aD}{al:cb}{n b c:aE->af->Prop}{rt:K3}{W3:bF}{C:Addr}
theorem Ph(h:al σ S λds S1=>ds.length<=sizeLine/\∀a,W3 σ C a S1):C9 W3 C al ⟨n,rt,b,c⟩ σ S:=h
theorem Pj(h:te σ S λd S1=>∃y,wt d y/\Q (.str y) S1):C_ te σ S Q:=h
theorem Pk{y:Str}{P:Str->Prop}(hl:y.length<=sizeLine)(q:P y):∃z,wt (.str y) z/\P z:=⟨y,⟨rfl,hl⟩,q⟩
theorem Pl{acc:Str}(hl:acc.length<=sizeLine)(q:Q (.str acc) S):Dd acc σ S Q:=⟨hl,q⟩
theorem Pm{t:Str->aD}{acc:Str}(h:te σ S λd S1=>∃y,d=.str y/\(acc++y).length<=sizeLine/\t (acc++y) σ S1 Q):De te t acc σ S Q:=h
end
abbrev _root_.L2.Cx.caught(X:Cx)(v:Value):Cx:={X with A:=X.A.mark (some v),calm:=false,xe:=λ_ _=>False}
abbrev _root_.L2.Cx.tried(X:Cx)(xe:Value->Shared->Prop)(pn:List (Addr×Obj)):Cx:={X with xe:=xe,pn:=pn}
section
variable{X:Cx}{pins pn:List (Addr×Obj)}{τ:L2.St}{H H1:Hp}{s s1:Shared}{a C:Addr}{v:Value}{xe:Value->Shared->Prop}
theorem Pn(ok:X.Ok):(X.caught v).Ok:=⟨ok.mod,ok.kind,ok.glob,ok.blt,ok.above,ok.inj,ok.has,ok.cab,(λz=>nomatch z),ok.frames,ok.kL,ok.oN,ok.bs,ok.gk,ok.jS,ok.jT,ok.eV,ok.ip⟩
theorem Po(ok:X.Ok):(X.tried xe pn).Ok:=⟨ok.mod,ok.kind,ok.glob,ok.blt,ok.above,ok.inj,ok.has,ok.cab,ok.hd,ok.frames,ok.kL,ok.oN,ok.bs,ok.gk,ok.jS,ok.jT,ok.eV,ok.ip⟩
theorem Df(I:Inv X pins τ H s):Inv (X.caught v) pins τ H s:=⟨Pn I.ok,I.os,I.bare,I.base,I.loc,I.cell,I.free,I.eG,I.pin,I.hok,I.len⟩
theorem sQ(ok:X.Ok)(I:Inv (X.caught v) pins τ H s):Inv X pins τ H s:=⟨ok,I.os,I.bare,I.base,I.loc,I.cell,I.free,I.eG,I.pin,I.hok,I.len⟩
theorem Pp(I:Inv X pins τ H s):Inv (X.tried xe (X.pn++pins)) [] τ H s:=⟨Po I.ok,I.os,I.bare,I.base,I.loc,I.cell,I.free,I.eG,λp hp=>I.pin p (by simpa using hp),I.hok,I.len⟩
theorem mX{gm:List (Addr×Obj)}(ok:X.Ok)(I:Inv (X.tried xe (X.pn++pins)) gm τ H s):Inv X pins τ H s:=⟨ok,I.os,I.bare,I.base,I.loc,I.cell,I.free,I.eG,λp hp=>I.pin p (dE _ hp),I.hok,I.len⟩
theorem Pq{D:Ends}{f:Flow}(ok:X.Ok)(h:SP (X.tried xe (X.pn++pins)) [] D f s):SP X pins D f s:=by
 cases f with
 |next=>obtain⟨σ',H',I,q⟩:=h;exact⟨σ',H',mX ok I,q⟩
 |brk=>obtain⟨σ',H',I,q⟩:=h;exact⟨σ',H',mX ok I,q⟩
 |cont=>obtain⟨σ',H',I,q⟩:=h;exact⟨σ',H',mX ok I,q⟩
 |ret u=>obtain⟨v,σ',H',I,r,q⟩:=h;exact⟨v,σ',H',mX ok I,r,q⟩
structure eO(X:Cx)(pins:List (Addr×Obj))(τ:L2.St)(H:Hp)(a C:Addr)(s:Shared):Prop where
 ex:∃(s1:Shared) (H1:Hp) (g:Heap) (hold:List Addr) (a0:Value),Inv X pins τ H1 s1/\Un (frs X.stack) [] H1 H s1.heap g/\bS X.prog X.w H g/\(∀b∈hold,H b=none/\s1.heap.get? b=none)/\(H a=none/\s1.heap.get? a=none) /\
  zV (iT g (hold++frs X.stack)) X.stack a (.ref C) a0 s.heap/\g.UpToSlots s.heap/\s.os=s1.os/\AllBare s.gens
theorem eO.exc(h:eO X pins τ H a C s):∃o vs,s.heap.get? a=some o/\o.cls=.ref C/\o.data=.fields vs:=by
 obtain⟨s1,H1,g,hold,a0,I,u,ok,hh,na,fl,us,ho,hb⟩:=h.ex;obtain⟨oe,vs,h1,h2,h3,h4⟩:=fl.first;exact⟨oe,vs,h1,h2,h3⟩
theorem eO.no(h:eO X pins τ H a C s):H a=none:=by
 obtain⟨s1,H1,g,hold,a0,I,u,ok,hh,na,fl,us,ho,hb⟩:=h.ex;exact na.1
theorem eO.un(h:eO X pins τ H a C s)(o:Option HO)(hO:∀q,o=some q->cM X.prog X.w (upd H a q) s.heap a q):Inv X pins τ (match o with|some q=>upd H a q|none=>H) s:=by
 obtain⟨s1,H1,g,hold,a0,I,u,ok,hh,na,fl,us,ho,hb⟩:=h.ex;have I':s.heap=s.heap:=rfl;have fr:∀b∈frs X.stack,H b=none/\∃o,g.get? b=some o/\∀vs,o.data≠.fields vs:=by
  intro b hb;obtain⟨o,e,hn⟩:=(I.stack.mem hb).2;obtain⟨sl,e'⟩:=u.slot b o e (I.rm b hb) hb (by exact cc);exact⟨u.free b o e (I.rm b hb) (by exact cc),_,e',hn⟩
 have keep:∀b o,g.get? b=some o->b∉hold->b∉frs X.stack->s.heap.get? b=some o:=λb o e n1 n2=>fl.1 b o (uu _ e λz=>(bI.mp z).elim n1 n2);have slot:∀b o,g.get? b=some o->b∈frs X.stack->∃sl,s.heap.get? b=some {o with slots:=sl}:=λb o e hb=>by
  obtain⟨_,o',e',hn⟩:=fr b hb;rw[e]at e';cases e';exact us b o e hn
 have pQ:∀b o,s1.heap.get? b=some o->b∉hold:=λb o e z=>by rw[(hh b z).2]at e;cases e
 have Pt:∀b o,s1.heap.get? b=some o->b≠a:=λb o e z=>by rw[z,na.2]at e;cases e
 have un:Un (frs X.stack) [] H1 H s1.heap s.heap:=by
  refine⟨λb o e n hf hx=>?_,λb o e n hf hx=>?_,u.free,λb o e hx=>?_,u.tups,u.fk,u.fT⟩
  ·exact keep b o (u.keep b o e n hf hx) (pQ b o e) hf
  ·obtain⟨sl,e1⟩:=u.slot b o e n hf hx;obtain⟨sl',e2⟩:=slot b _ e1 hf;exact⟨sl',e2⟩
  ·obtain⟨o',e1⟩:=u.there b o e hx;by_cases hb:b∈frs X.stack
   ·obtain⟨sl,e2⟩:=slot b _ e1 hb;exact⟨_,e2⟩
   ·exact⟨_,keep b _ e1 (pQ b o e) hb⟩
 have hok:bS X.prog X.w H s.heap:=by
  intro b o e;refine(ok b o e).stay (λc u hc q=>?_) (λ_ q=>q) λ_ _ q=>q;have pR:H c≠Option.none:=by
   rcases hc with rfl|z
   ·rw[e];simp
   ·rw[z];simp
  exact keep c u q (λz=>pR (hh c z).1) λz=>pR (fr c z).1
 cases o with
 |none=>exact I.oP ho un hok hb λ_ z=>nomatch z
 |some q =>
  have n1:∀b o,H b=some o->b≠a:=λb o e z=>by rw[z,na.1]at e;cases e
  refine I.oP ho ⟨un.keep,un.slot,λb o e n hx=>?_,un.there,λb xs e=>?_,λb o u e=>?_,λb ps e=>?_⟩ (λb o e=>?_) hb λ_ z=>nomatch z
  ·show upd H a q b=Option.none;rw[aY (Pt b o e)];exact un.free b o e n hx
  ·show upd H a q b=_;rw[aY (n1 b _ (un.tups b xs e))];exact un.tups b xs e
  ·show upd H a q b=_;rw[aY (n1 b _ (un.fk b o u e))];exact un.fk b o u e
  ·obtain⟨more,e1⟩:=un.fT b ps e;refine⟨more,?_⟩;show upd H a q b=_;rw[aY (n1 b _ e1)];exact e1
  ·have e:upd H a q b=some o:=e;by_cases hb:b=a
   ·subst hb;rw[di]at e;cases e;exact hO _ rfl
   ·rw[aY hb]at e;refine(hok b o e).stay (λc u hc q=>q) (λc z=>?_) λc xs z=>?_
    ·show upd H a q c=_;rw[aY (n1 c _ z)];exact z
    ·show upd H a q c=_;rw[aY (n1 c _ z)];exact z
theorem eO.inv(h:eO X pins τ H a C s):Inv X pins τ H s:=h.un none λ_ z=>nomatch z
theorem eO.as(h:eO X pins τ H a C s):Inv X pins τ (upd H a (.ext (mD a C))) s:=by
 obtain⟨o,vs,h1,h2,h3⟩:=h.exc;refine h.un (some _) λq e=>?_;cases e;refine⟨⟨o,h1,h2,vs,_,h3,rfl⟩,⟨o,h1⟩,λh1 h2 bX k=>by obtain⟨o,e,c,vs,n,d,hn⟩:=bX;exact⟨o,k o e,c,vs,n,d,hn⟩⟩
theorem eO.lands{M:Model}{A:Around}{E:Value->Shared->Prop}{Q:Unit->Shared->Prop}(h:eO X pins τ H a C s)(k:∀s',eO X pins τ H a C s'->Q () s'):wpAny M A (setFlight (.ref a) none) Q E s:=by
 obtain⟨s1,H1,g,hold,a0,I,u,ok,hh,na,fl,us,ho,hb⟩:=h.ex;exact lands_againW fl λh' sR us'=>k _ ⟨s1,H1,g,hold,a0,I,u,ok,hh,na,sR,us.trans us',ho,hb⟩
theorem Pu{E:XK}{e:Value}{s':Shared}{M:Model}{Ex:Value->Shared->Prop}{Q:Unit->Shared->Prop}(hst:X.stack=X.env::X.outer)(hf:X.env.frame=some X.env.locals)(I:Inv X pins τ H1 s1)(cx:b8 X.prog X.w X.stack H1 s1 E e s')
 (k:∀a C H s5,e=.ref a->E (.ref C) (some a) H->eO X pins τ H a C s5->Q () s5) :
 wpAny M X.A (noteFrame e X.env) (λ_ s2=>wpAny M X.A (setFlight e none) Q Ex s2) Ex s':=by
 obtain⟨a,C,T,H',he,hos,hb,u,hok,kZ,ha,hT,na,nT,z⟩:=cx;subst he;have I':=I.oP hos u hok hb λ_ z=>nomatch z;have all:=I'.stack;obtain⟨oe,vs,a0,e1,e2,e3,e4,e5⟩:=kZ.exc;obtain⟨oT,ts,t1,t2,t3⟩:=kZ.tb;have hl:∀env∈X.stack,∀b,env.frame=some b->b∈[a,T]++frs X.stack:=λenv he b hb=>df _ (n_.mpr ⟨env,he,hb⟩);have fl:zV (iT s'.heap ([a,T]++frs X.stack)) X.stack a (.ref C) a0 s'.heap:=⟨λb o q=>n6 _ q,qJ _ (by simp),uM all hl,
  oe,vs,T,oT,ts,e1,⟨e2,e4⟩,e3,e5,qJ _ (by simp),kZ.ne,t1,t2,t3⟩
 have sR:=fl;rw[hst]at sR;refine wpAny_looks_onW (by rw[I.ok.frames,hst]) hf sR λh4 held Pw=>?_;refine wpAny_landsW held λh5 pU wx=>?_;rw[<-hst]at pU;refine k a C H' _ rfl z ⟨s1,H1,s'.heap,[a,T],a0,I,u,hok,λb hb=>?_,⟨ha,na⟩,pU,Pw.trans wx,hos,hb⟩;rcases a8.mp hb with rfl|hb
 ·exact⟨ha,na⟩
 ·rcases a8.mp hb with rfl|hb
  ·exact⟨hT,nT⟩
  ·cases hb
theorem Px{args:List Value}{s3:Shared}{M:Model}{Ex:Value->Shared->Prop}{Q:Unit->Shared->Prop}(hst:X.stack=X.env::X.outer)(hf:X.env.frame=some X.env.locals)(I:Inv X pins τ H1 s1)(hx:zT s1.heap s3.heap a (.ref C) args)
 (ho:s3.os=s1.os) (hg:s3.gens=s1.gens) (k:∀s5,eO X pins τ H1 a C s5->Q () s5) :
 wpAny M X.A (noteFrame (.ref a) X.env) (λ_ s2=>wpAny M X.A (setFlight (.ref a) none) Q Ex s2) Ex s3:=by
 obtain⟨t,he,htn,ht⟩:=hx.there;have all:=I.stack;have hl:∀env∈X.stack,∀b,env.frame=some b->b∈[]++frs X.stack:=λenv he b hb=>df _ (n_.mpr ⟨env,he,hb⟩);have ff:=uM (as:=[]++frs X.stack) all hl;have fresh:∀b,s1.heap.get? b=none->(iT s1.heap ([]++frs X.stack)).get? b=none:=λb hb=>by
  cases q:(iT s1.heap ([]++frs X.stack)).get? b with
  |none=>rfl
  |some o=>have:=n6 _ q;rw[hb]at this;cases this
 have Py:=ff;rw[hst]at Py;unfold noteFrame;simp only[hf];refine ah (cG he rfl (x:=.none) rfl ?_);rw[if_neg (by decide)];refine wpAny_entryW (base:=iT s1.heap ([]++frs (X.env::X.outer))) (outer:=X.outer) (by rw[I.ok.frames,hst]) ?_ hf he (λb o hb=>?_) ?_ rfl (by simp) (a0:=.ref t) rfl λh4 ⟨n1,n2,n3,n4⟩=>?_
 ·rw[<-hst];exact ff.of_keeps λb o hb _=>⟨o,hx.keeps b o hb,rfl⟩
 ·rw[<-hst]at hb;exact hx.keeps b o (n6 _ hb)
 ·rw[<-hst];exact fresh a hx.new
 ·refine wpAny_landsW (base:=iT s1.heap ([]++frs (X.env::X.outer))) (l:=X.env::X.outer) (L:=X.env.locals) (cls:=.ref C) (a0:=.ref t) ⟨n1,by rw[<-hst];exact fresh a hx.new,n2,n3⟩ λh5 pU wx=>?_;rw[<-hst]at pU;have hbare:AllBare s3.gens:=by rw[hg];exact I.bare
  have hno:∀b∈([]:List Addr),H1 b=Option.none/\s1.heap.get? b=Option.none:=λb hb=>absurd hb cc;exact k _ ⟨s1,H1,s1.heap,[],.ref t,I,Un.refl,I.hok,hno,⟨sO I.hok hx.new,hx.new⟩,pU,((IZ hx.keeps).trans n4).trans wx,ho,hbare⟩
end
theorem Pz{K:ak}{M:Model}{A:Around}{E:Value->Shared->Prop}{s:Shared}{a C Dc:Addr}{o:Obj}{b:Bool}{Q:Bool->Shared->Prop}(X:K.In s.heap)(h1:s.heap.get? a=some o)(h2:o.cls=.ref C)(hk:iU K (.ref C) (.ref Dc)=some b)
 (hb:iU K (.ref Dc) (.type "BaseException")=some true) (q:Q b s):wpAny M A (excMatches (.ref a) (.ref Dc)) Q E s:=by
 obtain⟨t1,t2,t3⟩:=I_ (M:=M) X hk;obtain⟨_,_,t4⟩:=I_ (M:=M) X hb;have LI:zW M s.heap (isInstance (.ref Dc) (.type "tuple")) false:=t1.andThen (abe tc_notTuple);have LE:zW M s.heap (isExcClass (.ref Dc)) true:=t2.andThen (by simpa using t4);have LT:zW M s.heap (typeOf (.ref a)) (.ref C):=h2▸(Ja h1).andThen .now;unfold excMatches;refine ah (LI.here ?_);rw[if_neg (by decide)];refine ah (az ?_);dsimp only;rw[qR];refine ah (ah (ah (LE.here ?_)));rw[if_neg (by decide)];refine az ?_;dsimp only;rw[uN];refine az (ah (LT.here ?_));rw[qR];refine ah (ah (ah (t3.here ?_)));cases b
 ·rw[if_neg (by decide)];refine az ?_;dsimp only;rw[uN];exact az (az q)
 ·rw[if_pos rfl];exact az (az (az q))
section
variable{X:Cx}{W3:bF}{pins:List (Addr×Obj)}{τ:L2.St}{H:Hp}{s:Shared}
theorem SR.sS{K:ak}{H:Hp}:∀{σ:aE} {τ:L2.St} (i:Nat),SR K H σ τ->SR K H (σ.set i none) (τ.set i none)
 |_,_,_,.nil=>.nil
 |_,_,0,.cons _ t=>.cons (λe he=>by cases he) t
 |_,_,i+1,.cons q t=>.cons q (SR.sS i t)
theorem name_goes{M:Model}{A:Around}{E:Value->Shared->Prop}{i:Nat}{x:Str}{pos:Pos}{Q:Unit->Shared->Prop}(I:Inv X pins τ H s)(hN:X.N.Nodup)(hi:X.N[i]?=some x)(hk:X.env.scope.names.lookup x=some .local)(h:∀s',Inv X pins (τ.set i none) H s'->Q () s') :
 wpAny M A (do bindName X.env x .none;unbindBehindTheSuite X.env x pos) Q E s:=by
 obtain⟨m,hn,hl⟩:=id I.loc;have hcls:(X.env.scope.kind == .class||(X.env.scope.kind == .module&&X.env.locals != X.env.globals))=false:=by rw[I.ok.kind];rfl
 obtain⟨oL,_,_,hoL,_⟩:=id hn;refine wpAny_nameGoes_keeps hk hn hcls λh' v hn' hs=>h _ ?_;have ne:∀b o,X.s₀.heap.get? b=some o->b≠X.env.locals:=λb o e=>cS (cR (bg e) I.ok.above);refine⟨I.ok,I.os,I.bare,⟨λb o e n hb hx=>?_,λb o e n hb hx=>?_,I.base.free,λb o e hx=>?_,I.base.tups,I.base.fk,I.base.fT⟩,⟨_,hn',λj y v' e1 e2 e3=>?_⟩,λy c e=>?_,I.free,I.eG,λp hp=>?_,λb ob e=>?_,by simpa using I.len⟩
 ·exact(hs.2 b (ne b o e)).trans (I.base.keep b o e n hb hx)
 ·obtain⟨sl,e1⟩:=I.base.slot b o e n hb hx;exact⟨sl,(hs.2 b (ne b o e)).trans e1⟩
 ·obtain⟨o',e1⟩:=I.base.there b o e hx;exact⟨o',(hs.2 b (ne b o e)).trans e1⟩
 ·by_cases hj:j=i
  ·subst hj;rw[List.getElem?_set]at e2;simp at e2
  ·rw[zm (dn hj)]at e2;obtain⟨u',r',q⟩:=hl j y v' e1 e2 e3;refine⟨u',r',?_⟩;rcases q with⟨k,e⟩|⟨k,c,e,z⟩
   ·refine .inl ⟨k,?_⟩;have:y≠x:=λe=>hj (vd hN e1 (e▸hi));simp[this,e]
   ·exact .inr ⟨k,c,e,z.sameBut hs (I.i6 y c e)⟩
 ·obtain⟨w',z⟩:=I.cell y c e;exact⟨w',z.sameBut hs (I.i6 y c e)⟩
 ·obtain⟨e,n,ne,nf,d⟩:=I.pin p hp;exact⟨(hs.2 p.1 ne).trans e,n,ne,nf,d⟩
 ·refine(I.hok b ob e).stay (λc w' hc q=>(hs.2 c ?_).trans q) (λ_ q=>q) λ_ _ q=>q;rintro rfl;have hfree:=I.free;rcases hc with rfl|hc
  ·rw[hfree]at e;cases e
  ·rw[hfree]at hc;cases hc
def sT(X:Cx)(hs:List ExceptHandler)(r:fH->bF):Prop:=∀(z:Zt) (pins:List (Addr×Obj)) (s:Shared) (τ:L2.St) (σ:aE) (H:Hp) (S:af) (D:Ends) (D3:fH) (a C:Addr),eO X pins τ H a C s->SR X.K H σ τ->Rl X.K z S H->CD X.K z H D3 D->r D3 σ C a S ->
 wpAny (model X.prog X.w) X.A (handleBy (.ref a) X.env hs) (SP X pins D) X.xe s
theorem PB:sT X [] (λ_ _ _ _ _=>False):=λ_ _ _ _ _ _ _ _ _ _ _ _ _ _ _ h=>h.elim
def Dg(K:ak)(Dc:Addr)(i:Nat)(t:bP)(r:fH->bF):fH->bF:=λD3 σ C a S=>∃b,iU K (.ref C) (.ref Dc)=some b /\
 if b=true then S a=none->t {nx:=λσ' S'=>D3.nx (σ'.set i none) S',rt:=D3.rt,bk:=λσ' S'=>D3.bk (σ'.set i none) S',ct:=λσ' S'=>D3.ct (σ'.set i none) S'} (σ.set i (some (.ref a))) (up S a (.exc C)) else r D3 σ C a S
variable{x n:Str}{Dc:Addr}{i:Nat}{np pos:Pos}{b0:Stmt}{suite:List Stmt}{rest:List ExceptHandler}{t:bP}{r:fH->bF}
theorem PD(hm:X.mg x=some (.ref Dc))(hb:iU X.K (.ref Dc) (.type "BaseException")=some true)(hg:Gl X x)(hN:X.N.Nodup)(hi:X.N[i]?=some n)(hl:X.env.scope.names.lookup n=some .local)
 (ht:∀v,cV (X.caught v) cJ (b0::suite) t) (hr:sT X rest r) (hd:(x==("__debug__":Str))=false:=by decide):sT X (.ExceptHandler (some (.Name x np)) (some n) (b0::suite) pos::rest) (Dg X.K Dc i t r):=by
 intro z pins s τ σ H S D D3 a C gV hs l cd h;obtain⟨b,hk,h⟩:=h;have I:=gV.inv;obtain⟨o,vs,h1,h2,h3⟩:=gV.exc;refine wpAny_handleBy_cons (codeAny_handlers_test (rq (X:=X.caught (.ref a)) (Df I) hg hm (Pz I.i5 h1 h2 hk hb ?_) hd)) (by intro q;cases q);cases b with
 |false=>exact hr z pins s τ σ H S D D3 a C gV hs l cd h
 |true =>
  have hn:=gV.no;have hS:S a=none:=(l.fresh hn).1;have hz:¬z a:=(l.fresh hn).2;have h:=h hS;have kp:Kp z H (upd H a (.ext (mD a C))):=Kp.new hn hz;refine codeAny_handlers_suite_as (gV.lands λs6 h6=>?_);refine rp (X:=X.caught (.ref a)) (v:=.ref a) (Df h6.as) hN hi (.inl hl) rfl (λs7 I7=>?_) (.inr hl);have go:=ht (.ref a) (ZX.no _ z) pins s7 _ _ {nx:=λaP H'=>D.nx (aP.set i none) H',rt:=D.rt,bk:=λaP H'=>D.bk (aP.set i none) H',ct:=λaP H'=>D.ct (aP.set i none) H'} I7
   ⟨_,_,_,(hs.mono kp).set (.ref a) i,l.put (o:=.exc C) kp hz (show upd H a (.ext (mD a C)) a=some (.ext (mD a C)) from di),h,
    ⟨λσ' S' aP H' k' s' l' q'=>cd.nx _ S' _ H' (kp.trans k') (s'.sS i) l' q',λσ' S' aP H' k' s' l' q'=>cd.bk _ S' _ H' (kp.trans k') (s'.sS i) l' q',
     λσ' S' aP H' k' s' l' q'=>cd.ct _ S' _ H' (kp.trans k') (s'.sS i) l' q',λd S' v H' k' r' l' q'=>cd.rt d S' v H' (kp.trans k') r' l' q'⟩⟩
  refine eQ go (λf s8 q=>?_) λ_ _ z=>z.elim;cases f with
  |next=>obtain⟨aP,H',I8,q⟩:=q;exact name_goes (sQ I.ok I8) hN hi hl λs9 I9=>⟨_,H',I9,q⟩
  |brk=>obtain⟨aP,H',I8,q⟩:=q;exact name_goes (sQ I.ok I8) hN hi hl λs9 I9=>⟨_,H',I9,q⟩
  |cont=>obtain⟨aP,H',I8,q⟩:=q;exact name_goes (sQ I.ok I8) hN hi hl λs9 I9=>⟨_,H',I9,q⟩
  |ret u=>obtain⟨v,aP,H',I8,rv,q⟩:=q;exact name_goes (sQ I.ok I8) hN hi hl λs9 I9=>⟨v,_,H',I9,rv,q⟩
def Dh(tb:bF->bP)(r:fH->bF):bP:=λD3 σ S=>tb (r D3) D3 σ S
theorem Di{K:ak}{Z:Zt}{S S':af}{H H':Hp}{D3:fH}{D:Ends}(l:Rl K Z S H)(hc:CD K Z H D3 D)(l':Rl K (Z.at H) S' H'):CD K (Z.at H) H' D3 D:=by
 have k0:Kp Z H H':=l'.old.dJ λ_ z=>z;have out:∀{S2:af} {H2:Hp},Kp (Z.at H) H' H2->Rl K (Z.at H) S2 H2->Kp Z H H2/\Rl K Z S2 H2:=λk l2=>⟨k0.trans (k.dJ λ_ z=>z),l2.out l (l'.old.trans k)⟩;exact⟨λσ' S2 aP H2 k s2 l2 q=>hc.nx _ _ _ _ (out k l2).1 s2 (out k l2).2 q,λσ' S2 aP H2 k s2 l2 q=>hc.bk _ _ _ _ (out k l2).1 s2 (out k l2).2 q,λσ' S2 aP H2 k s2 l2 q=>hc.ct _ _ _ _ (out k l2).1 s2 (out k l2).2 q,
  λd S2 v H2 k r l2 q=>hc.rt _ _ _ _ (out k l2).1 r (out k l2).2 q⟩
theorem PF{body:List Stmt}{h0:ExceptHandler}{hs:List ExceptHandler}{tb:bF->bP}(hst:X.stack=X.env::X.outer)(hf:X.env.frame=some X.env.locals)
 (hb:∀xe pn (W:bF),cV (X.tried xe pn) W body (tb W)) (hh:sT X (h0::hs) r):d8 X W3 (.Try body (h0::hs) [] [] pos) (Dh tb r):=by
 rintro Z pins s τ H D I ⟨D3,σ,S,PH,l,ht,hc⟩;refine wpAny_Try_except ?_;have main:∀aP a C H' s5 σ' S',eO X pins aP H' a C s5->SR X.K H' σ' aP->Rl X.K (Z.z.at H) S' H'->r D3 σ' C a S'->wpAny (model X.prog X.w) X.A (handleBy (.ref a) X.env (h0::hs)) (SP X pins D) X.xe s5 :=
  λaP a C H' s5 σ' S' gV sr l' w=>hh (Z.z.at H) pins s5 aP σ' H' S' D D3 a C gV sr l' (Di l hc l') w
 let Dj:Value->Shared->Prop:=λe s1=>wpAny (model X.prog X.w) X.A (noteFrame e X.env) (λ_ s2=>wpAny (model X.prog X.w) X.A (setFlight e none) (λ_ s3=>wpAny (model X.prog X.w) X.A (handleBy e X.env (h0::hs)) (SP X pins D) X.xe s3) X.xe s2) X.xe s1
 let zx:ZX (X.tried Dj (X.pn++pins)) (r D3):={
  z:=Z.z.at H
  E:=λτ cv oa H'=>∃C a σ S,cv=.ref C/\oa=some a/\SR X.K H' σ τ/\Rl X.K (Z.z.at H) S H'/\r D3 σ C a S
  pass:=λaP gm H1 s1 e s' I1 cx=>Pu hst hf (mX I.ok I1) cx λa C H' s5 he hE gV=>by
   subst he;obtain⟨C',a',σ',S',e1,e2,sr,l',w⟩:=hE;cases e1;cases e2;exact main aP a C H' s5 σ' S' gV sr l' w
  rz:=λaP gm H1 s1 s3 a C args I1 hx ho hg hE=>Px hst hf (mX I.ok I1) hx ho hg λs5 gV=>by
   obtain⟨C',a',σ',S',e1,e2,sr,l',w⟩:=hE;cases e1;cases e2;exact main aP a C H1 s5 σ' S' gV sr l' w
  ce:=λσ τ C a S H' sr l' _ w=>⟨C,a,σ,S,rfl,rfl,sr,l',w⟩}
 refine eQ (hb Dj (X.pn++pins) (r D3) zx [] s τ H D (Pp I) ⟨D3,σ,S,PH,l.into,ht,Di l hc l.into⟩) (λf s1 q=>?_) λ_ _ z=>z;have q:=Pq I.ok q;cases f with
 |next=>exact qK q
 |brk=>exact q
 |cont=>exact q
 |ret u=>exact q
end
section
variable{σ:aE}{S:af}{n b c:aE->af->Prop}{rt:K3}{K:PySem.W.Frag}{C Dc a:Addr}{i:Nat}{t:bP}{r:fH->bF}
theorem PJ{tb:bF->bP}(h:tb (r ⟨n,rt,b,c⟩) ⟨n,rt,b,c⟩ σ S):Dh tb r ⟨n,rt,b,c⟩ σ S:=h
theorem sU(hk:iU K (.ref C) (.ref Dc)=some true)(h:S a=none->t ⟨λσ' S'=>n (σ'.set i none) S',rt,λσ' S'=>b (σ'.set i none) S',λσ' S'=>c (σ'.set i none) S'⟩ (σ.set i (some (.ref a))) (up S a (.exc C))):Dg K Dc i t r ⟨n,rt,b,c⟩ σ C a S:=⟨true,hk,by rw[if_pos rfl];exact h⟩
end
end E3
namespace E3
section
open PySem PySem.Spec PyProof.Rows L2 EE PySem.W Builtin Builtin.ObjectAttr Builtin.Getset_descriptor
theorem PK{K:ak}{prog:Program}{w:World}{A:Around}{E:Value->Shared->Prop}{s:Shared}{a C:Addr}{o:Obj}{Q:Option Value->Shared->Prop}(X:K.In s.heap)(h1:s.heap.get? a=some o)(h2:o.cls=.ref C)
 (hga:findIn K (.ref C) "__getattribute__"=some (some (.builtin "BaseException.__getattribute__"))) (hgt:findIn K (.ref C) "__getattr__"=some none) (ha:findIn K (.ref C) "__class__"=some (some (.builtin "object.__class__")))
 (hn:specialIn K (.builtin "object.__class__") "__get__"=some (some (.builtin "getset_descriptor.__get__"))) (htk:takesIn K (.builtin "object.__class__")=some true) (hm:mroIn K C (.type "object")=some true) (PL:mroIn K C (.type "BaseException")=some true)
 (h:Q (some (.ref C)) {s with toks:=s.toks+1}):wpAny (model prog w) A (getAttr? (.ref a) "__class__") Q E s:=by
 obtain⟨hh,g,d,t,os⟩:=s;have L0:Looks (model prog w) hh (typeOf (.ref a)) (.ref C):=h2▸(Looks.ld h1).andThen .now;have L1:=looks_findIn (M:=model prog w) X hga;have L2:=looks_findIn (M:=model prog w) X hgt;have LF:Looks (model prog w) hh (abf (.ref a) (.ref C) "__class__") (.bind (.builtin "getset_descriptor.__get__") (.builtin "object.__class__")) :=
  by
  have d1:Looks (model prog w) hh (abg (some (.builtin "object.__class__")) (some (.builtin "getset_descriptor.__get__"))) (some (.builtin "getset_descriptor.__get__",.builtin "object.__class__")):=by
   have d0:=looks_takesIn (M:=model prog w) X htk;intro A' Q' E' s' k q;refine ah (d0 A' _ E' s' k ?_);rw[if_pos rfl];exact az q
  exact(looks_findIn X ha).andThen ((looks_specialIn X hn).andThen (d1.andThen (Looks.tag .now)))
 have Lm:Looks (model prog w) hh (isSubtype (.ref C) (.type "BaseException")) true:=looks_mroIn X PL;have Lo:Looks (model prog w) hh (isSubtype (.ref C) (.type "object")) true:=looks_mroIn X hm;unfold getAttr? getAttrBy? getAttrBy;refine ah (wpAny_mkText (ah (jK (og (ah (L0.at (ah (L1.at ?_))))))));show wpAny _ _ (getAttrByItsOwn _ _ _ _ _ _) _ _ _;unfold getAttrByItsOwn;refine ah (L2.at ?_);refine ah (jK (og ?_));show wpAny _ _ (boundAndCalled _ _ _) _ _ _;unfold boundAndCalled;rw[Jb.ga.bind];refine ah (az ?_);refine wpAny_call (Jc Jb.ga.plain F.entry_bexc_ga ?_);have hk:builtinKind "BaseException.__getattribute__"=some .slot:=by cbv
 have hs:splitId "BaseException.__getattribute__"=some ("BaseException","__getattribute__"):=by cbv
 simp only[checkBuiltinCall,hk,hs];have LI:Looks (model prog w) hh (isInstance (.ref a) (.type "BaseException")) true:=L0.andThen Lm;refine ah (LI.at ?_);simp only[ur,f9,if_false];have fin:∀s1:Shared,s1=⟨hh,g,d,t+1,os⟩->wpAny (model prog w) A (handedOut (.ref C)) (λa s'=>wpAny (model prog w) A (pure (some a)) Q E s') E s1:=λs1 e=>by
  subst e;exact az (az h)
 have get:∀{R:Result->Shared->Prop} {A:Around},R (.ok (.ret (.ref C))) ⟨hh,g,d,t+1,os⟩->codeAny (model prog w) A (.call (.builtin "getset_descriptor.__get__") ⟨[.builtin "object.__class__",.ref a,.ref C],[]⟩) R ⟨hh,g,d,t+1,os⟩:=by
  intro R A hR;refine Jc KF.slot_gs.plain KF.entry_gs (KF.slot_gs.check _ _ _ _ _ _ _ _ KF.type_class (KF.args_gs _ _ _) ?_);unfold Builtin.«getset_descriptor.__get__» descrGet;rw[dga_obj];refine ah (az ?_);unfold descrGetter descrCheckInstance descrNameAndClass isInstance;simp only[KF.owner_class];(repeat lk);refine⟨Code.quiet_builtin _ (by cbv),codeAny_builtin KF.entry_class ?_⟩;unfold Builtin.«object.__class__» shownTypeOf
  repeat lk
  exact hR
 have body:∀{A:Around} {Q:Fin->Shared->Prop} {E:Value->Shared->Prop},Q (.done (.ret (.ref C))) ⟨hh,g,d,t+1,os⟩->wpAny (model prog w) A (Builtin.«object.__getattribute__» ⟨[.ref a,.str "__class__" t],[]⟩) Q E ⟨hh,g,d,t+1,os⟩:=by
  intro A Q E hQ;unfold Builtin.«object.__getattribute__» slotArgs
  repeat (first|with_reducible refine Looks.at (by assumption) ?_|wp_step)
  exact get (az hQ)
 cases hsig:Manifest.signature? "BaseException.__getattribute__" with
 |none =>
  refine az (body ?_);exact az (az h)
 |some sig =>
  have ha:=F.args_bexc_ga (.ref a) (.str "__class__" t);simp only[argsOk,hsig]at ha;have h2:Jd "BaseException.__getattribute__" sig ⟨[.ref a,.str "__class__" t],[]⟩=pure ():=ha;show wpAny _ _ (Jd "BaseException.__getattribute__" sig ⟨[.ref a,.str "__class__" t],[]⟩) _ _ _;rw[h2];refine az (body ?_);exact az (az h)
end
open PySem PySem.Spec PyProof.Rows L2 EE
def kd(K:ak)(C:Addr):Bool:=oq K C sP "ValueError.__new__"&&zX K (.ref C) "__getattribute__"==some (some (.builtin "BaseException.__getattribute__"))&&zX K (.ref C) "__getattr__"==some none &&
 zX K (.ref C) "__class__"==some (some (.builtin "object.__class__"))&&PySem.W.specialIn K (.builtin "object.__class__") "__get__"==some (some (.builtin "getset_descriptor.__get__"))&&PySem.W.takesIn K (.builtin "object.__class__")==some true &&
 Je K C (.type "object")==some true&&Je K C (.type "BaseException")==some true&&iU K (.ref C) (.type "BaseException")==some true&&iU K (.ref C) (.type "ValueError")==some true&&(Jf K C).isSome
def Dk(a C:Addr)(h:Heap):Prop:=∃o,h.get? a=some o/\o.cls=.ref C
theorem wz{K:ak}{a C:Addr}(e:kd K C=true):PySem.W.KitX K (.ref a) (.ref C) (Dk a C):=by
 unfold kd at e;simp only[eP,beq_iff_eq]at e;obtain⟨⟨⟨⟨⟨⟨⟨⟨⟨⟨_,e1⟩,e2⟩,e3⟩,e4⟩,e5⟩,e6⟩,e7⟩,_⟩,_⟩,e8⟩:=e;obtain⟨cd,e8⟩:=ux.mp e8;unfold Jf at e8
 split at e8
 ·rename_i c' d' cd' sl' ho
  refine⟨λM h X p=>?_,λM h X p=>?_,λh tp dd its n sl X htp=>?_,λX p k=>?_⟩
  ·obtain⟨o,h1,h2⟩:=p;exact h2▸(Ja h1).andThen .now
  ·intro A' Q' E' s' k q;unfold isType loadHead;exact ah (wpAny_loadPart (k _ _ (X _ _ ho)) (az q))
  ·refine Bool.eq_false_iff.mpr λq=>?_;have e:C=tp:=Jg (beq_iff_eq.mp q);subst e;cases (X _ _ ho).symm.trans htp
  ·obtain⟨o,h1,h2⟩:=p;exact PK X h1 h2 e1 e2 e3 e4 e5 e6 e7 k
 ·cases e8
section
variable{X:Cx}
theorem Dl:∀{cs:List Addr} {us:List Value},Vals (cs.map V.ref) us->us=cs.map Value.ref
 |[],_,.nil=>rfl
 |_::cs,_,.cons r t=>by rw[Dl t,show _=Value.ref _ from r];rfl
def Dm(K:ak):List V->Hp->VK->Prop:=λxs H Q=>∃(a C:Addr) (c:V) (b:Bool),xs=[.ref a,c]/\H a=some (.ext (mD a C))/\kd K C=true/\Q (.bl b) H /\
 ((∃Dc,c=.ref Dc/\ou K (.ref C) (.ref Dc)=some b)∨(∃n,c=.ty n/\ou K (.ref C) (.type n)=some b)∨∃(t:Addr) (cs:List Addr),c=.ref t/\a9 K H t (cs.map V.ref)/\zY K (.ref C) (cs.map Value.ref)=some b)
theorem sV:fm X (.builtin "isinstance") (Dm X.K):=by
 intro pins s σ H xs us Q I r h;obtain⟨a,C,c,b,rfl,hH,e,q,h⟩:=h;obtain⟨u,v,rfl,ru,rv⟩:=vals2 r;cases (show u=Value.ref a from ru);have p:Dk a C s.heap:=by
  obtain⟨⟨o,h1,h2,_⟩,_⟩:=I.hok a _ hH;exact⟨o,h1,h2⟩
 rcases h with⟨Dc,rfl,hk⟩|⟨n,rfl,hk⟩|⟨t,cs,rfl,ht,hk⟩
 ·cases (show v=Value.ref Dc from rv);exact Jh (wz e) I.i5 p hk (λz=>nomatch z) λtk=>⟨.bl b,H,I.tok _,rfl,q⟩
 ·cases (show v=Value.type n from rv);exact Jh (wz e) I.i5 p hk (λz=>nomatch z) λtk=>⟨.bl b,H,I.tok _,rfl,q⟩
 ·cases (show v=Value.ref t from rv);obtain⟨its,rs,⟨o,h1,h2,n,h3⟩,_⟩:=I.tuple ht;cases Dl rs;obtain⟨oc,od,dt,sl⟩:=o;cases h2;cases h3;exact PySem.W.kia_tup (wz e) I.i5 p h1 hk (λz=>nomatch z) λtk=>⟨.bl b,H,I.tok _,rfl,q⟩
end
inductive Rf where
 |err|text|twice|such|count|apart|many|way
 deriving DecidableEq
def Rf.nm:Rf->Str
 | .err=>"ErrandError" | .text=>"BadText" | .twice=>"Twice" | .such=>"NoSuch" | .count=>"WrongCount" | .apart=>"Apart" | .many=>"TooMany" | .way=>"NoWay"
def Rf.sub(i j:Rf):Bool:=decide (i=j)||decide (j=.err)
structure fb(K:ak)(mg:Str->Option Value)(es:List Rf)(adr:Rf->Addr):Prop where
 bound:∀i∈es,mg i.nm=some (.ref (adr i))
 one:∀i∈es,kd K (adr i)=true
 two:∀i∈es,∀j∈es,iU K (.ref (adr i)) (.ref (adr j))=some (i.sub j)
section
variable{K:PySem.W.Frag}{mg:Str->Option Value}{es:List Rf}{adr:Rf->Addr}(R:fb K mg es adr){i j:Rf}
include R
theorem fb.exc(hi:i∈es):oq K (adr i) sP "ValueError.__new__"=true:=by
 have e:=R.one i hi;unfold kd at e;simp only[eP]at e;exact e.1.1.1.1.1.1.1.1.1.1
theorem fb.base(hi:i∈es):iU K (.ref (adr i)) (.type "BaseException")=some true:=by
 have e:=R.one i hi;unfold kd at e;simp only[eP,beq_iff_eq]at e;exact e.1.1.2
theorem fb.val(hi:i∈es):ou K (.ref (adr i)) (.type "ValueError")=some true:=by
 have e:=R.one i hi;unfold kd at e;simp only[eP,beq_iff_eq]at e;unfold ou;rw[if_neg (by intro z;cases beq_iff_eq.mp z)];exact e.1.2
theorem fb.is(hi:i∈es)(hj:j∈es):ou K (.ref (adr i)) (.ref (adr j))=some (i.sub j):=by
 unfold ou;have h:=R.two i hi j hj
 split
 ·rename_i z
  have e:adr i=adr j:=Jg (beq_iff_eq.mp z);rw[<-e,R.two i hi i hi]at h;rw[<-h];unfold Rf.sub;simp
 ·exact h
theorem fb.any(hi:i∈es):∀{js:List Rf},(∀j∈js,j∈es)->zY K (.ref (adr i)) ((js.map adr).map Value.ref)=some (js.any λj=>i.sub j)
 |[],_=>rfl
 |j::js,h=>by
  have hr:=fb.any hi (js:=js) λk hk=>h k (.tail _ hk);simp only[ba,zY,R.is hi (h j (.head _)),ia];cases i.sub j
  ·exact hr
  ·rfl
end
def wA(es:List Rf)(adr:Rf->Addr):List D->af->K3->Prop:=λxs S Q=>∃a i c b,xs=[.ref a,c]/\S a=some (.exc (adr i))/\i∈es/\Q (.bl b) S /\
 ((∃j∈es,c=.ref (adr j)/\b=i.sub j)∨(c=.ty "ValueError"/\b=true)∨∃js:List Rf,(∀j∈js,j∈es)/\c=.tup (js.map λj=>.ref (adr j))/\b=js.any λj=>i.sub j)
theorem Dp{K:ak}{H:Hp}{adr:Rf->Addr}:∀{js:List Rf} {vs:List V},aS K H (js.map λj=>D.ref (adr j)) vs->vs=(js.map adr).map V.ref
 |[],_,.nil=>rfl
 |_::js,_,.cons (.ref _) q=>by rw[Dp q];rfl
theorem sW{K:ak}{mg:Str->Option Value}{es:List Rf}{adr:Rf->Addr}(R:fb K mg es adr):fI K (wA es adr) (Dm K):=by
 intro Z ds S Q3 vs H Q r l h c;obtain⟨a,i,x,b,rfl,hS,hi,q,h⟩:=h;cases r with
 |cons r rr =>
  cases rr with
  |cons r2 rr =>
   cases rr;cases r;refine⟨a,adr i,_,b,rfl,l.obj a _ hS,R.one i hi,c _ S _ H (Kp.refl _ _) (.bl _) l q,?_⟩;rcases h with⟨j,hj,rfl,rfl⟩|⟨rfl,rfl⟩|⟨js,hj,rfl,rfl⟩
   ·cases r2;exact .inl ⟨_,rfl,R.is hi hj⟩
   ·cases r2;exact .inr (.inl ⟨_,rfl,R.val hi⟩)
   ·cases r2 with
    |tup h1 h2 =>
     cases Dp h2;exact .inr (.inr ⟨_,js.map adr,rfl,h1,R.any hi hj⟩)
section
variable{S:af}{Q:K3}{es:List Rf}{adr:Rf->Addr}{a:Addr}{i j:Rf}
theorem ji(hS:S a=some (.exc (adr i)))(hi:i∈es)(hj:j∈es)(q:Q (.bl (i.sub j)) S):wA es adr [.ref a,.ref (adr j)] S Q:=⟨a,i,_,_,rfl,hS,hi,q,.inl ⟨j,hj,rfl,rfl⟩⟩
theorem sX(js:List Rf)(hS:S a=some (.exc (adr i)))(hi:i∈es)(hj:∀j∈js,j∈es)(q:Q (.bl (js.any λj=>i.sub j)) S):wA es adr [.ref a,.tup (js.map λj=>.ref (adr j))] S Q:=⟨a,i,_,_,rfl,hS,hi,q,.inr (.inr ⟨js,hj,rfl,rfl⟩)⟩
end
def wB(K:ak)(l:List (Rf×Addr)):Bool:=l.all λp=>kd K p.2&&l.all λq=>iU K (.ref p.2) (.ref q.2)==some (p.1.sub q.1)
def pV(l:List (Rf×Addr))(i:Rf):Addr:=(l.lookup i).getD 0
theorem lookup_mem{i:Rf}:∀{l:List (Rf×Addr)},i∈l.map (·.1)->(i,pV l i)∈l
 |(j,b)::l,h=>by
  unfold pV;by_cases e:i=j
  ·subst e;simp[List.lookup]
  ·have:(i==j)=false:=by simpa using e
   rw[List.lookup,this];rcases a8.mp h with z|z
   ·exact absurd z e
   ·exact .tail _ (lookup_mem (l:=l) z)
theorem PM{K:ak}{mg:Str->Option Value}{l:List (Rf×Addr)}(h:wB K l=true)(hm:∀i∈l.map (·.1),mg i.nm=some (.ref (pV l i))):fb K mg (l.map (·.1)) (pV l):=by
 unfold wB at h;simp only[List.all_eq_true,eP,beq_iff_eq]at h;exact⟨hm,λi hi=>(h _ (lookup_mem hi)).1,λi hi j hj=>(h _ (lookup_mem hi)).2 _ (lookup_mem hj)⟩
section
variable{P:Program}{w:World}{K:PySem.W.Frag}{mg:Str->Option Value}{base:Heap}{x:Str}{st:Stmt}{N ps:List Str}{k:Nat}
theorem av.sY{sp:aW}(C:av P w K mg base k x ps sp):av P w K mg base k x ps (λds S Q E=>sp ds S (λd S1=>∃S2,Sub S2 S1/\Q d S2) λC a S1=>∃S2,Sub S2 S1/\E C a S2):=by
 obtain⟨f,fd,F0,r⟩:=C.ex;refine⟨f,fd,F0.imp λvs H Q E ⟨Z,ds,S,Q3,E3,h1,l,h3,cq,ce⟩=>⟨Z,ds,S,_,_,h1,l,h3,?_,?_⟩,r⟩
 ·rintro d S1 v H' k1 r1 l1 ⟨S2,hsub,q⟩;exact cq d S2 v H' k1 r1 (l1.sub hsub) q
 ·rintro C a S1 H' k1 l1 ha ⟨S2,hsub,q⟩;exact ce C a S2 H' k1 (l1.sub hsub) ha q
def sZ(A:List D->af->(D->Prop)->(Addr->Prop)->Prop):aW:=λds S Q W=>A ds S (λd=>Q d S) λC=>∀a,W C a S
def s_(A:List D->af->(D->Addr->O->Prop)->(Addr->Prop)->Prop):aW:=λds S Q W=>A ds S (λd a o=>Q d (up S a o)) λC=>∀a,W C a S
theorem _root_.EE.aC.sZ{A:List D->af->(D->Prop)->(Addr->Prop)->Prop}(h:aC K mg x st ps)(S:bf N ps (aq st))(len:∀ds S q qx,A ds S q qx->ds.length=ps.length)
 (hbody:∀(f:Addr) (cdv:Value) (Ar:Around) (outer:List Env) (s:Shared) (H:Hp) (E:XK) (ds:List D) (S:af) (q:D->Prop) (qx:Addr->Prop),cw k (Ar.deeper (envOfC x (aq st) s.heap.objs.size f cdv))->A ds S q qx ->
  ∃t,cV (cO (b8 P w) P w K mg base N x (aq st) f cdv Ar outer s H E) (λ_ C _ S'=>Sub S S'/\qx C) (a7 st) t/\t {nx:=λ_ S'=>Sub S S'/\q .non,rt:=λd S'=>Sub S S'/\q d} (d_ N ds) S):av P w K mg base (k+1) x ps (sZ A):=by
 have C:av P w K mg base (k+1) x ps (λds S Q E=>∃q qx,A ds S q qx/\(∀d S',Sub S S'/\q d->Q d S')/\∀C a S',Sub S S'/\qx C->E C a S'):=by
  refine h.pS S (λvs H Q E bX=>by obtain⟨q,qx,z,_⟩:=bX;exact len _ _ _ _ z) λf cdv Ar outer s H E ds S3 Q E3 hr ⟨q,qx,z,hq,hx⟩=>?_;obtain⟨t,h1,h2⟩:=hbody f cdv Ar outer s H E ds S3 _ _ hr z;exact⟨t,λd S'=>Sub S3 S'/\q d,λC _ S'=>Sub S3 S'/\qx C,h1,h2,hq,hx⟩
 exact C.sY.imp λds S Q E z=>⟨_,_,z,λd S1 hq=>⟨S,hq.1,hq.2⟩,λC a S1 hx=>⟨S,hx.1,hx.2 a⟩⟩
theorem _root_.EE.aC.s_{A:List D->af->(D->Addr->O->Prop)->(Addr->Prop)->Prop}(h:aC K mg x st ps)(S:bf N ps (aq st))(len:∀ds S q qx,A ds S q qx->ds.length=ps.length)
 (hbody:∀(f:Addr) (cdv:Value) (Ar:Around) (outer:List Env) (s:Shared) (H:Hp) (E:XK) (ds:List D) (S:af) (q:D->Addr->O->Prop) (qx:Addr->Prop),cw k (Ar.deeper (envOfC x (aq st) s.heap.objs.size f cdv))->A ds S q qx ->
  ∃t,cV (cO (b8 P w) P w K mg base N x (aq st) f cdv Ar outer s H E) (λ_ C _ S'=>Sub S S'/\qx C) (a7 st) t /\
   t {nx:=λ_ S'=>∃a o,Sub (up S a o) S'/\q .non a o,rt:=λd S'=>∃a o,Sub (up S a o) S'/\q d a o} (d_ N ds) S):av P w K mg base (k+1) x ps (s_ A):=by
 have C:av P w K mg base (k+1) x ps (λds S Q E=>∃q qx,A ds S q qx/\(∀d S',(∃a o,Sub (up S a o) S'/\q d a o)->Q d S')/\∀C a S',Sub S S'/\qx C->E C a S'):=by
  refine h.pS S (λvs H Q E dP=>by obtain⟨q,qx,z,_⟩:=dP;exact len _ _ _ _ z) λf cdv Ar outer s H E ds S3 Q E3 hr ⟨q,qx,z,hq,hx⟩=>?_;obtain⟨t,h1,h2⟩:=hbody f cdv Ar outer s H E ds S3 _ _ hr z;exact⟨t,λd S'=>∃a o,Sub (up S3 a o) S'/\q d a o,λC _ S'=>Sub S3 S'/\qx C,h1,h2,hq,hx⟩
 exact C.sY.imp λds S Q E z=>⟨_,_,z,λd S1 jf=>by obtain⟨a,o,hs,hq⟩:=jf;exact⟨_,hs,hq⟩,λC a S1 hx=>⟨S,hx.1,hx.2 a⟩⟩
end
section
variable{X:Cx}{W3:bF}
def PN(Q:K3)(x y:D)(S:af):Prop:=(∃a kvs k,x=.ref a/\S a=some (.bU kvs)/\y=kD k/\Q (.bl (!(dA kvs k).isSome)) S)∨∃ds,x=.tup ds/\iD y=true/\ds.all iD=true/\Q (.bl (!memD y ds)) S
def abh(ty td:aD):aD:=λσ S Q=>ty σ S λy S1=>td σ S1 λx S2=>PN Q x y S2
section
variable{σ:aE}{S:af}{Q:K3}{te ta:aD}
theorem PQ{x:D}{ds:List D}(hx:iD x=true)(hd:ds.all iD=true)(q:Q (.bl (memD x ds)) S):pO false x (.tup ds) S Q:=⟨ds,.inr rfl,hx,hd,q⟩
end
theorem Dq{b:Bool}{A B:Prop}(h:b=true)(q:A):if b=true then A else B:=by rw[if_pos h];exact q
theorem Dr{b:Bool}{A B:Prop}(h:b=false)(q:B):if b=true then A else B:=by rw[if_neg (by rw[h];exact cF)];exact q
end
theorem dm{n:Nat}(h:n<=1000000):n<=sizeLine:=bR h (by decide)
theorem fc{n:Nat}(h:n<=1000000):n<sizeLine:=qN h (by decide)
theorem wC{α:Type}{xs:List α}{i:Int}{v:α}(h0:0<=i)(h:xs[i.toNat]?=some v):cy xs i=some v:=by
 have e:i=((i.toNat:Nat):Int):=by lia
 rw[e];exact fW h
theorem wD{α:Type}{x:α}{xs:List α}:cy (x::xs) 0=some x:=fW (j:=0) rfl
theorem wF{α:Type}{x y:α}{xs:List α}:cy (x::y::xs) 1=some y:=fW (j:=1) rfl
theorem Ds{α:Type}{x y z:α}{xs:List α}:cy (x::y::z::xs) 2=some z:=fW (j:=2) rfl
theorem pW{xs:List D}{p:Int}(h0:0<=p):cutD xs none (some p)=xs.take p.toNat:=by
 unfold cutD;have e:p=((p.toNat:Nat):Int):=by lia
 rw[e,HT.rN,HT.rO,qP,qQ,<-e];by_cases h:p.toNat<=xs.length
 ·rw[uO h]
 ·rw[uP (by lia),jL (by lia),jL (by lia)]
theorem wG{xs:List D}{p:Int}(h0:0<=p):cutD xs (some p) none=xs.drop p.toNat:=by
 unfold cutD;have e:p=((p.toNat:Nat):Int):=by lia
 rw[e,HT.rN,HT.rO,<-e];by_cases h:p.toNat<=xs.length
 ·rw[uO h,jL (by rw[fP];lia)]
 ·rw[uP (by lia),uQ (aQ _),uQ (by lia)];simp
theorem tf{cs:List Nat}{p:Int}(h0:0<=p):jc cs none (some p)=cs.take p.toNat:=by
 unfold jc;have e:p=((p.toNat:Nat):Int):=by lia
 rw[e,HT.rN,HT.rO,qP,qQ,<-e];by_cases h:p.toNat<=cs.length
 ·rw[uO h]
 ·rw[uP (by lia),jL (by lia),jL (by lia)]
theorem Du{cs:List Nat}{p:Int}(h0:0<=p):jc cs (some p) none=cs.drop p.toNat:=by
 unfold jc;have e:p=((p.toNat:Nat):Int):=by lia
 rw[e,HT.rN,HT.rO,<-e];by_cases h:p.toNat<=cs.length
 ·rw[uO h,jL (by rw[fP];lia)]
 ·rw[uP (by lia),uQ (aQ _),uQ (by lia)];simp
def cX(x:Str):Prop:=∃cs:List Nat,x=textOf cs/\1<=cs.length/\cs.length<=8/\∀c∈cs,97<=c/\c<=122
theorem PR{a b:List Nat}(h:textOf a=textOf b):a=b:=by
 have:=congrArg (λx:Str=>x.cps.toList) h;simpa[textOf]using this
theorem gW(cs:List Nat):(textOf cs).cps.toList=cs:=by simp[textOf]
theorem Dv:("abcdefghijklmnopqrstuvwxyz":Str)=textOf (zZ 97 26):=by cbv
theorem Dw:("abcdefghijkl":Str)=textOf (zZ 97 12):=by cbv
theorem tm:("abcd":Str)=textOf [97,98,99,100]:=by cbv
theorem Dx{n:Nat}{i:Int}(h0:0<=i)(h1:i<n):cy (zZ 97 n) i=some (97+i.toNat):=by
 refine wC h0 ?_;rw[List.getElem?_range' (by lia)];simp
def iF(cs:List Nat)(p k:Nat):List Nat:=(cs.take p++[97+k])++cs.drop p
def ke(cs:List Nat)(k:Nat):List Nat:=cs.take 4++[97,98,99,100].take (k+1)
def kf(cs:List Nat)(k:Nat):List Nat:=[97,98,99,100].drop (3-k)++cs.take 4
def tq(cs:List Nat):Prop:=∀c∈cs,97<=c/\c<=122
structure Row(n:Nat)(xs:List Str):Prop where
 len:xs.length=n
 nd:xs.Nodup
 ok:∀x∈xs,cX x
theorem wH{n:Nat}{f:Nat->List Nat}(inj:∀i j,i<n->j<n->f i=f j->i=j)(ok:∀i,i<n->cX (textOf (f i))):Row n ((aN n).map λk=>textOf (f k)):=by
 refine⟨by simp,?_,λx hx=>?_⟩
 ·rw[uR,Ji];have:=List.nodup_range (n:=n);rw[uR]at this;refine Jj (λ{a b} ha hb hab e=>hab ?_) this;exact inj a b (f_.mp ha) (f_.mp hb) (PR e)
 ·obtain⟨k,hk,rfl⟩:=bj.mp hx;exact ok k (f_.mp hk)
theorem PU{n p:Nat}{cs:List Nat}(hl:tq cs)(h7:cs.length<=7)(hn:n<=12):Row n ((aN n).map λk=>textOf (iF cs p k)):=by
 refine wH (λi j hi hj e=>?_) λi hi=>⟨_,rfl,?_,?_,?_⟩
 ·unfold iF at e;have e2:=List.append_inj_left' e rfl;have e3:=List.append_inj_right e2 rfl;simp at e3;exact e3
 ·simp[iF];lia
 ·simp only[iF,a5,c8,bW,dN,fP];lia
 ·intro c hc;simp only[iF,bI,b5]at hc;rcases hc with(hc|rfl)|hc
  ·exact hl c (md hc)
  ·lia
  ·exact hl c (uS hc)
theorem row2{n:Nat}{cs:List Nat}(hl:tq cs)(hn:n<=4):Row n ((aN n).map λk=>textOf (ke cs k)):=by
 refine wH (λi j hi hj e=>?_) λi hi=>⟨_,rfl,?_,?_,?_⟩
 ·have:=congrArg kI e;simp only[ke,a5,c8,bW,dN]at this;lia
 ·simp only[ke,a5,c8,bW,dN];lia
 ·simp only[ke,a5,c8,bW,dN];lia
 ·intro c hc;simp only[ke,bI]at hc;rcases hc with hc|hc
  ·exact hl c (md hc)
  ·have:=md hc;simp only[a8,cc,or_false]at this;lia
theorem PV{n:Nat}{cs:List Nat}(hl:tq cs)(hn:n<=4):Row n ((aN n).map λk=>textOf (kf cs k)):=by
 refine wH (λi j hi hj e=>?_) λi hi=>⟨_,rfl,?_,?_,?_⟩
 ·have:=congrArg kI e;simp only[kf,a5,c8,fP,bW,dN]at this;lia
 ·simp only[kf,a5,c8,fP,bW,dN];lia
 ·simp only[kf,a5,c8,fP,bW,dN];lia
 ·intro c hc;simp only[kf,bI]at hc;rcases hc with hc|hc
  ·have:=uS hc;simp only[a8,cc,or_false]at this;lia
  ·exact hl c (md hc)
theorem Row.turn{n t:Nat}{xs:List Str}(r:Row n xs):Row n (xs.drop t++xs.take t):=by
 have e:=ow t xs;have pm:(xs.drop t++xs.take t).Perm xs:=by
  have:=List.perm_append_comm (l₁:=xs.drop t) (l₂:=xs.take t);rw[e]at this;exact this
 exact⟨pm.length_eq.trans r.len,pm.nodup_iff.mpr r.nd,λx hx=>r.ok x (pm.mem_iff.mp hx)⟩
inductive Sy where
 |name (x:Str)|bw|pair (a b:Sy)|left (a:Sy)|right (a:Sy)|fork (a b c:Sy)|send (x:Str) (as:List Sy)
mutual
def Sy.d:Sy->D
 | .name x=>.tup [.str "name",.str x]
 | .bw=>.tup [.str "bud"]
 | .pair a b=>.tup [.str "pair",a.d,b.d]
 | .left a=>.tup [.str "left",a.d]
 | .right a=>.tup [.str "right",a.d]
 | .fork a b c=>.tup [.str "fork",a.d,b.d,c.d]
 | .send x as=>.tup [.str "send",.str x,.tup (Sy.ds as)]
def Sy.ds:List Sy->List D
 |[]=>[]
 |a::as=>a.d::Sy.ds as
end
mutual
def Sy.deep:Sy->Nat
 | .name _=>1
 | .bw=>1
 | .pair a b=>max a.deep b.deep+1
 | .left a=>a.deep+1
 | .right a=>a.deep+1
 | .fork a b c=>max a.deep (max b.deep c.deep)+1
 | .send _ as=>Sy.cH as+1
def Sy.cH:List Sy->Nat
 |[]=>0
 |a::as=>max a.deep (Sy.cH as)
end
def Sy.parts:Sy->List Sy
 | .name _=>[]
 | .bw=>[]
 | .pair a b=>[a,b]
 | .left a=>[a]
 | .right a=>[a]
 | .fork a b c=>[a,b,c]
 | .send _ as=>as
mutual
def Sy.pre:Sy->List Sy
 | .name x=>[.name x]
 | .bw=>[.bw]
 | .pair a b=>.pair a b::(a.pre++b.pre)
 | .left a=>.left a::a.pre
 | .right a=>.right a::a.pre
 | .fork a b c=>.fork a b c::(a.pre++(b.pre++c.pre))
 | .send x as=>.send x as::Sy.br as
def Sy.br:List Sy->List Sy
 |[]=>[]
 |a::as=>a.pre++Sy.br as
end
theorem Sy.gX(s:Sy):s.pre=s::Sy.br s.parts:=by
 cases s<;>simp[Sy.pre,Sy.parts,Sy.br]
theorem Sy.k_:∀as:List Sy,Sy.ds as=as.map Sy.d
 |[]=>rfl
 |a::as=>by simp only[Sy.ds,ba,Sy.k_ as]
theorem Sy.wI:∀as bs:List Sy,Sy.br (as++bs)=Sy.br as++Sy.br bs
 |[],bs=>by simp[Sy.br]
 |a::as,bs=>by simp[Sy.br,Sy.wI as bs]
mutual
def Sy.wf(ar:Str->Option Nat)(ps:List Str):Sy->Prop
 | .name x=>x∈ps
 | .bw=>True
 | .pair a b=>a.wf ar ps/\b.wf ar ps
 | .left a=>a.wf ar ps
 | .right a=>a.wf ar ps
 | .fork a b c=>a.wf ar ps/\b.wf ar ps/\c.wf ar ps
 | .send x as=>ar x=some as.length/\1<=as.length/\as.length<=4/\Sy.la ar ps as
def Sy.la(ar:Str->Option Nat)(ps:List Str):List Sy->Prop
 |[]=>True
 |a::as=>a.wf ar ps/\Sy.la ar ps as
end
theorem Sy.Dy{ar:Str->Option Nat}{ps:List Str}:∀{as:List Sy},Sy.la ar ps as↔∀a∈as,a.wf ar ps
 |[]=>by simp[Sy.la]
 |a::as=>by simp[Sy.la,Sy.Dy (as:=as)]
theorem Sy.mY:∀{as:List Sy} {n:Nat},(∀a∈as,a.deep<=n)->Sy.cH as<=n
 |[],_,_=>dO _
 |a::as,n,h=>by
  simp only[Sy.cH];have h1:=h a b4;have h2:=Sy.mY (as:=as) (n:=n) λb hb=>h b (cB _ hb);lia
theorem Sy.tu:∀{as:List Sy} {a:Sy},a∈as->a.deep<=Sy.cH as
 |b::as,a,h=>by
  simp only[Sy.cH];rcases a8.mp h with rfl|h
  ·lia
  ·have:=Sy.tu h;lia
def Sy.sends(s:Sy):Nat:=(s.pre.filter λa=>match a with | .send _ _=>true|_=>false).length
def Sy.iG(as:List Sy):Nat:=((Sy.br as).filter λa=>match a with | .send _ _=>true|_=>false).length
theorem Sy.tw(a:Sy)(as:List Sy):Sy.iG (a::as)=a.sends+Sy.iG as:=by simp[Sy.iG,Sy.sends,Sy.br]
def jj:List Str->List Nat->Str->Option Nat
 |x::xs,n::ns,y=>if y=x then some n else jj xs ns y
 |_,_,_=>none
theorem Dz:∀{xs:List Str} {ns:List Nat} {i:Nat} {x:Str} {n:Nat},xs.Nodup->xs[i]?=some x->ns[i]?=some n->jj xs ns x=some n
 |[],_,_,_,_,_,h,_=>by simp at h
 |_::_,[],_,_,_,_,_,h=>by simp at h
 |y::xs,m::ns,0,x,n,_,h1,h2=>by
  simp at h1 h2;subst h1 h2;simp[jj]
 |y::xs,m::ns,i+1,x,n,nd,h1,h2=>by
  have hx:x∈xs:=cU (by simpa using h1);have hne:x≠y:=λz=>(hW.mp nd).1 (z▸hx);rw[jj,if_neg hne];exact Dz (hW.mp nd).2 (by simpa using h1) (by simpa using h2)
structure Er where
 name:Str
 ps:List Str
 body:Sy
def Er.d(e:Er):D:=.tup [.str e.name,.tup (e.ps.map D.str),e.body.d]
end E3
namespace E3
open PySem PySem.Spec PyProof.Rows L2 EE
theorem PX{α:Type}{xs:List α}(c:Int)(h:0<xs.length):∃(j:Nat) (v:α),c%(xs.length:Int)=(j:Int)/\j<xs.length/\xs[j]?=some v:=by
 have h0:=ie c (show(xs.length:Int)≠0 by lia);have h1:=uT c (show(0:Int)<xs.length by lia);have hj:(c%(xs.length:Int)).toNat<xs.length:=by lia
 exact⟨(c%(xs.length:Int)).toNat,xs[(c%(xs.length:Int)).toNat],by lia,hj,aX hj⟩
theorem Sy.tx(s:Sy):s.sends=(match s with | .send _ _=>1|_=>0)+Sy.iG s.parts:=by
 cases s<;>simp[Sy.sends,Sy.iG,Sy.pre,Sy.parts,Sy.br]<;>lia
def eh(prog:List Er):Str->Option Nat:=jj (prog.map Er.name) (prog.map λe=>e.ps.length)
theorem PY{k:Key}:dA [] k=none:=rfl
theorem PZ{p:Key×D}{r:List (Key×D)}{k:Key}:dA (p::r) k=if p.1=k then some p.2 else dA r k:=by
 by_cases e:p.1=k
 ·simp[dA,gE,e]
 ·simp[dA,gE,e]
theorem P0{kvs:List (Key×D)}{k:Key}:dA kvs k=none↔k∉kvs.map (·.1):=by
 induction kvs with
 |nil=>simp[PY]
 |cons p r ih =>
  rw[PZ,ba,a8];by_cases e:p.1=k
  ·simp[e]
  ·have e':¬k=p.1:=λz=>e z.symm;simp[e,e',ih]
theorem P1{kvs:List (Key×D)}{k:Key}{v:D}(h:k∉kvs.map (·.1)):putD kvs k v=kvs++[(k,v)]:=by
 unfold putD;rw[if_neg];intro z;obtain⟨p,hp,e⟩:=ox.mp z;exact h (bj.mpr ⟨p,hp,of_decide_eq_true e⟩)
def Sy.nm:Sy->Option Str
 | .send x _=>some x
 |_=>none
def Sy.kg(s:Sy):List Str:=s.pre.filterMap Sy.nm
theorem Sy.P2(s:Sy):s.kg.length=s.sends:=by
 unfold Sy.kg Sy.sends;generalize s.pre=l
 induction l with
 |nil=>rfl
 |cons a r ih =>
  cases a<;>simp[Sy.nm,hV,Jk,ih]
def bQ(prog:List Er):List (Str×Str):=(prog.map λe=>e.body.kg.map λto=>(e.name,to)).flatten
def gB(p:Str×Str):D:=.tup [.str p.1,.str p.2]
theorem DA(prog:List Er):(bQ prog).length=(prog.map λe=>e.body.sends).sum:=by
 unfold bQ
 induction prog with
 |nil=>rfl
 |cons e r ih=>simp[Sy.P2,ih]
theorem wJ{ds:List Dt}{n:Nat}(h:∀d∈ds,cI d<=n):d6 ds<=n:=by
 induction ds with
 |nil=>simp[d6]
 |cons d r ih =>
  simp only[d6];have h1:=h d b4;have h2:=ih λe he=>h e (cB _ he);lia
end E3
namespace EE
open PySem PySem.Spec PyProof.Rows L2
def lb(X:Cx)(ifs:List Expr)(t:TT):Prop :=
 ∀(pins:List (Addr×Obj)) (s:Shared) (σ:L2.St) (H:Hp) (Q:Bool->Hp->Prop),Inv X pins σ H s->t σ H Q ->
  wpAny (model X.prog X.w) X.A (forIn ifs true λc r=>if r=true then do let ok <-isTrue c X.env (eval c X.env);pure (ForInStep.yield ok) else pure (ForInStep.yield r)) (TP X pins σ Q) X.xe s
def P4:TT:=λ_ H Q=>Q true H
theorem P5{X:Cx}:lb X [] P4:=λ_ _ _ _ _ I h=>wpAny_tests_nil ⟨_,I,h⟩
theorem P6{X:Cx}{c:Expr}{t:TT}(h:PT X c t):lb X [c] t:=λpins s σ H Q I q=>wpAny_tests_one (h pins s σ H Q I q)
def tz(wi:TI)(g:TG)(tt:TT)(te:TE)(n:Nat)(js:List Nat):TE:=λσ H Q=>wi σ H λJ H1=>∀D,H1 D=none->∃W:Nat->Nat->L2.St->Hp->Prop,(∃m,W 0 m (eR n none++pick σ js) (upd H1 D (.lst []))) /\
 ∀i m τ H2,W i m τ H2->(J.stop i H2/\Q (.ref D) H2)∨(J.go i H2/\∃N:L2.St->Hp->Prop,(∀aP H',N aP H'->∃m',m'<m/\W (i+1) m' aP H')/\∀v H',J.jW i H2 v H' ->
  g v τ H' λaP H3=>tt aP H3 λb H4=>if b=true then te aP H4 λy H5=>∃ys,H5 D=some (.lst ys)/\ys.length<sizeLine/\N aP (upd H5 D (.lst (ys++[y]))) else N aP H4)
section
variable{X:Cx}{elt iter tg:Expr}{ifs:List Expr}{pos:Pos}{scope:Scope}{O M:List Str}{js:List Nat}{wi:TI}{g:TG}{tt:TT}{te:TE}
theorem P7{prog:Program}{w:World}{A:Around}{R:Result->Shared->Prop}{s:Shared}{it acc:Value}{env:Env}(I:Nat->Shared->Prop)
 (turn:∀n s,I n s->wpAny (model prog w) A (pyNext it) (λr s₁=>match r with
  |none=>R (.ok .next) s₁
  |some v=>wpAny (model prog w) A (letOwnedTupleGo tg it v) (λ_ s₂=>wpAny (model prog w) A (assign tg env v) (λ_ s₃ =>
   wpAny (model prog w) A (forIn ifs true λc r=>if r=true then do let ok <-isTrue c env (eval c env);pure (ForInStep.yield ok) else pure (ForInStep.yield r)) (λok s₄ =>
    if ok=true then wpAny (model prog w) A (eval elt env) (λy s₅=>wpAny (model prog w) A (call (.builtin "list.append") [acc,y]) (λ_ s₆=>∃m,m<n/\I m s₆) (λ_ _=>False) s₅) (λ_ _=>False) s₄
    else ∃m,m<n/\I m s₄) (λ_ _=>False) s₃) (λ_ _=>False) s₂) (λ_ _=>False) s₁) (λ_ _=>False) s)
 (n:Nat) (h:I n s):codeAny (model prog w) A (.compLoop (.ListComp elt [⟨tg,iter,ifs,0⟩] scope pos) 0 it acc env) R s:=by
 refine codeAny_loop rfl I (λn s hI=>?_) n h;show wpAny _ _ ((compTurn (.ListComp elt [⟨tg,iter,ifs,0⟩] scope pos) 0 it acc env).onRaise (λx=>do noteFrame x env;theTreesLotGoes x)) _ _ s;refine wpAny_noted ?_;rw[compTurn_list];refine ah (wpAny_standAt (ah (eQ (turn n s hI) (λr s₁ h₁=>?_) λ_ _ z=>z.elim)));cases r with
 |none=>exact az h₁
 |some v =>
  refine ah (eQ h₁ (λ_ s₂ h₂=>ah (eQ h₂ (λ_ s₃ h₃=>ah (eQ h₃ (λok s₄ h₄=>?_) λ_ _ z=>z.elim)) λ_ _ z=>z.elim)) λ_ _ z=>z.elim);cases ok with
  |false=>exact az ⟨rfl,h₄⟩
  |true=>exact ah (ah (eQ h₄ (λy s₅ h₅=>ah (eQ h₅ (λ_ s₆ h₆=>az (az ⟨rfl,h₆⟩)) λ_ _ z=>z.elim)) λ_ _ z=>z.elim))
end
theorem tD{X:Cx}{pins:List (Addr×Obj)}{σ:L2.St}{H:Hp}{s:Shared}{h':Heap}{t':Nat}{fp:List Addr}(I:Inv X pins σ H s)(k:∀b o,b∉fp->s.heap.get? b=some o->h'.get? b=some o)(hf:∀b∈fp,du X pins H b):Inv X pins σ H {s with heap:=h',toks:=t'}:=by
 have jU:∀b u,H b=some u->b∉fp:=λb u e z=>by
  rw[(hf b z).1]at e;cases e
 refine I.step (g':=s.gens) (d':=s.drawn) (ch:=fp) (λb hb=>?_) (λb o _ _ hc e _=>k b o hc e) (λb o _ _ hc e _=>⟨o.slots,k b o hc e⟩) (λ_ _ _ _ n=>n) (λb o hc e=>⟨o,k b o hc e⟩) (λ_ _ e=>e) (λ_ _ _ e=>e)
  (λb ps e=>⟨#[],by rw[e];simp⟩) (λm hm=>?_) (λb u e=>?_) I.bare
 ·obtain⟨f0,f1,f2,f3,f4,f5⟩:=hf b hb;exact⟨f3,f1,f4,f5⟩
 ·obtain⟨o,es,ep,ho,r⟩:=hm;exact⟨o,es,ep,k _ o (λz=>(hf _ z).2.1 rfl) ho,r⟩
 ·refine(I.hok b u e).stay (λc v hc q=>k c v ?_ q) (λ_ q=>q) λ_ _ q=>q;rcases hc with z|z
  ·rw[z];exact jU b u e
  ·exact jU c _ z
section
variable{prog:Program}{w:World}{A:Around}{E:Value->Shared->Prop}{s:Shared}
theorem tE{j t:Addr}{k:Nat}{its:Array Value}{x:Value}{Q:Value->Shared->Prop}(hj:s.heap.IsTupleIter j t k)(ht:s.heap.IsTuple t its)(hx:its[k]?=some x)
 (hQ:∀h',h'.IsTupleIter j t (k+1)->fh j s.heap h'->Q x {s with heap:=h'}):wpAny (model prog w) A (jM (.ref j)) Q E s:=by
 obtain⟨ob,hob,hcl,hda⟩:=id hj;obtain⟨ot,hot,_,nt,hdt⟩:=ht;unfold jM;refine ah (hZ (name:=gc "__next__") hj.typeIs uU (f7 uU hj.typeIs Jl ?_ (Jm _)));show wpAny _ _ (field (.ref j) 0 >>= _) _ _ s;refine ah (cG hob hda (x:=.ref t) rfl ?_);show wpAny _ _ (if(Value.ref t==Value.none)=true then _ else _) _ _ _;rw[if_neg (λz:(Value.ref t==Value.none)=true=>cF z)];show wpAny _ _ (field (.ref j) 1 >>= _) _ _ s;refine ah (cG hob hda (x:=.int k 0) rfl ?_);show wpAny _ _ (seqItems? (.ref t) >>= _) _ _ _;refine ah (iR hot hdt ?_);simp only[fi,hx];refine ah (qS hob hda (by simp) (az ⟨x,rfl,az (hQ _ ⟨_,oj _ hob (zR (om hda _)),(IW ..).trans hcl,?_⟩ (qT ..))⟩));rw[om hda];simp[rawInt]
theorem tF{j t:Addr}{k:Nat}{its:Array Value}{Q:Value->Shared->Prop}(hh:A.handled=none)(hj:s.heap.IsTupleIter j t k)(ht:s.heap.IsTuple t its)(hx:its[k]?=none)
 (hE:∀h' e,qU j s.heap h'->(∃o,h'.get? e=some o/\o.cls=.type "StopIteration")->E (.ref e) {s with heap:=h'}):wpAny (model prog w) A (jM (.ref j)) Q E s:=by
 obtain⟨ob,hob,hcl,hda⟩:=id hj;obtain⟨ot,hot,_,nt,hdt⟩:=ht;unfold jM;refine ah (hZ (name:=gc "__next__") hj.typeIs uU (f7 uU hj.typeIs Jl ?_ (Jm _)));show wpAny _ _ (field (.ref j) 0 >>= _) _ _ s;refine ah (cG hob hda (x:=.ref t) rfl ?_);show wpAny _ _ (if(Value.ref t==Value.none)=true then _ else _) _ _ _;rw[if_neg (λz:(Value.ref t==Value.none)=true=>cF z)];show wpAny _ _ (field (.ref j) 1 >>= _) _ _ s;refine ah (cG hob hda (x:=.int k 0) rfl ?_);show wpAny _ _ (seqItems? (.ref t) >>= _) _ _ _;refine ah (iR hot hdt ?_);simp only[fi,hx];refine ah (jG (ah (qS hob hda (by simp) ?_)));show wpAny _ _ (newExc (.type "StopIteration") [] >>= _) _ _ _;refine ah ?_;simp only[newExc,newTuple];refine ah (h_ ?_ (by size_fits));refine ah (m:=firstArgMember _ _) (kJ (a:=Value.none) (by first|rfl|(simp only[firstArgMember];rfl)) (h_ ?_ (by size_fits)));simp only[raiseNew];refine ah (wpAny_handled ?_)
 first
  |rw[show A.in1.handled=none from hh]
  |rw[hh]
 exact ah (az (wpAny_throw (hE _ _ (((qT ..).extBut.push _).push _) ⟨_,c7 _ rfl,rfl⟩)))
end
section
variable{prog:Program}{w:World}{A:Around}{E:Value->Shared->Prop}{s:Shared}{z TI TO i1 i2 a b:Addr}{k:Nat}{xs ys:Array Value}{x y p q:Value}
structure ZN(z TI TO i1 i2:Addr):Prop where
 a:TI≠z
 b:TO≠z
 c:i1≠z
 d:i2≠z
 e:TI≠TO
 f:TI≠i1
 g:TI≠i2
 h:TO≠i1
 i:TO≠i2
 j:i1≠i2
structure ZA(z TO i1 i2 a:Addr):Prop where
 z:a≠z
 o:a≠TO
 i:a≠i1
 j:a≠i2
theorem iH{h h':Heap}{a c:Addr}{xs:Array Value}(x:h.IsTuple a xs)(e:qU c h h')(n:a≠c):h'.IsTuple a xs:=by
 obtain⟨o,ho,r⟩:=x;exact⟨o,e _ _ n ho,r⟩
theorem P8{Q:Value->Shared->Prop}(N:ZN z TI TO i1 i2)(Na:ZA z TO i1 i2 a)(Nb:ZA z TO i1 i2 b)
 (hz:IsZip s.heap z TI TO .none) (hI:IsPair s.heap TI (.ref i1) (.ref i2)) (hO:IsPair s.heap TO p q) (h1:s.heap.IsTupleIter i1 a k) (h2:s.heap.IsTupleIter i2 b k) (ha:s.heap.IsTuple a xs) (hb:s.heap.IsTuple b ys) (hx:xs[k]?=some x) (hy:ys[k]?=some y)
 (hQ:∀h5 h8,h5.objs.size=s.heap.objs.size->(∀c o,c≠z->c≠TO->c≠i1->c≠i2->s.heap.get? c=some o->h5.get? c=some o)->IsPair h5 TO x y->h5.IsTupleIter i1 a (k+1)->h5.IsTupleIter i2 b (k+1) ->
  (∃o,h5.get? z=some o)->fh z (h5.push {cls:=.type "tuple",data:=.seq #[x,y]}) h8->IsZip h8 z TI TO (rawInt h5.objs.size)->Q (.ref h5.objs.size) {s with heap:=h8}) :
 wpAny (model prog w) A (Builtin.«zip.__next__» ⟨[.ref z],[]⟩) (λfin s'=>∃v,fin=.done (.ret v)/\Q v s') E s:=by
 show wpAny _ _ (field (.ref z) 2 >>= _) _ _ s;refine ah (cG hz rfl (x:=.bool false) rfl ?_);show wpAny _ _ (field (.ref z) 3 >>= _) _ _ s;refine ah (cG hz rfl (x:=.ref TI) rfl (ah (iR hI rfl ?_)));show wpAny _ _ (oy (.ref z) >>= _) _ _ s;refine ah ?_;unfold oy;refine ah (cG hz rfl (x:=.none) rfl (az ?_));simp only[if_true];refine ah (jG (ah (cG hz rfl (x:=.ref TO) rfl (ah (gf hz (by simp) λg1 hz1 e1=>?_)))));replace hz1:IsZip g1 z TI TO .ellipsis:=hz1;refine ah ?_;simp only[Jn,Jo,qR,uN];refine ah (ah (uV ?_));show wpAny _ _ (jM (.ref i1) >>= _) _ _ _;refine ah (tE (h1.extBut e1.extBut N.c) (iH ha e1.extBut Na.z) hx λg2 DB e2=>az ?_);have o2:IsPair g2 TO p q:=e2.extBut _ _ N.h (e1.extBut _ _ N.b hO);refine ah (iR o2 rfl (ah (z0 o2 λg3 o3 e3=>?_)));replace o3:IsPair g3 TO x q:=o3;refine ah (oA (az (ah (ah (uV ?_)))));show wpAny _ _ (jM (.ref i2) >>= _) _ _ _;refine ah (tE (((h2.extBut e1.extBut N.d).extBut e2.extBut N.j.symm).extBut e3.extBut N.i.symm) (iH (iH (iH hb e1.extBut Nb.z) e2.extBut Nb.i) e3.extBut Nb.o) hy λg4 j4 e4=>az ?_);have o4:IsPair g4 TO x q:=e4.extBut _ _ N.i o3;refine ah (iR o4 rfl (ah (z0 o4 λg5 o5 e5=>?_)));replace o5:IsPair g5 TO x y:=o5;refine ah (oA (az (az (ah (iR o5 rfl (ah (wpAny_newTuple ?_)))))));have hsz:g5.objs.size=s.heap.objs.size:=by rw[e5.1,e4.1,e3.1,e2.1,e1.1]
 have z5:IsZip g5 z TI TO .ellipsis:=e5.extBut _ _ N.b.symm (e4.extBut _ _ N.d.symm (e3.extBut _ _ N.b.symm (e2.extBut _ _ N.c.symm hz1)));show wpAny _ _ (qV (.ref z) (.ref g5.objs.size) >>= _) _ _ _;refine ah ?_;unfold qV;have z6:IsZip (g5.push {cls:=.type "tuple",data:=.seq #[x,y]}) z TI TO .ellipsis:=bt _ z5;refine ah (gf z6 (by simp) λg7 z7 e7=>?_);replace z7:IsZip g7 z TI TO (rawInt g5.objs.size):=z7;refine gf z7 (by simp) λg8 z8 e8=>az ⟨_,rfl,?_⟩;replace z8:IsZip g8 z TI TO (rawInt g5.objs.size):=z8;exact hQ g5 g8 hsz (λc o c1 c2 c3 c4 e=>e5.extBut _ _ c2 (e4.extBut _ _ c4 (e3.extBut _ _ c2 (e2.extBut _ _ c3 (e1.extBut _ _ c1 e))))) o5
  (((DB.extBut e3.extBut N.h.symm).extBut e4.extBut N.j).extBut e5.extBut N.h.symm) (j4.extBut e5.extBut N.i.symm) ⟨_,z5⟩ ⟨e8.1.trans e7.1,λc n=>(e8.2 c n).trans (e7.2 c n)⟩ z8
theorem P9{Q:Fin->Shared->Prop}(hh:A.handled=none)(N:ZN z TI TO i1 i2)(Na:ZA z TO i1 i2 a)(Nb:ZA z TO i1 i2 b)
 (hz:IsZip s.heap z TI TO .none) (hI:IsPair s.heap TI (.ref i1) (.ref i2)) (hO:IsPair s.heap TO p q) (h1:s.heap.IsTupleIter i1 a k) (h2:s.heap.IsTupleIter i2 b k) (ha:s.heap.IsTuple a xs) (hb:s.heap.IsTuple b ys) (hend:xs[k]?=none∨ys[k]?=none)
 (hE:∀h' e,(∀c o,c≠z->c≠TO->c≠i1->c≠i2->s.heap.get? c=some o->h'.get? c=some o)->(∃o,h'.get? e=some o/\o.cls=.type "StopIteration")->E (.ref e) {s with heap:=h'}) :
 wpAny (model prog w) A (Builtin.«zip.__next__» ⟨[.ref z],[]⟩) Q E s:=by
 show wpAny _ _ (field (.ref z) 2 >>= _) _ _ s;refine ah (cG hz rfl (x:=.bool false) rfl ?_);show wpAny _ _ (field (.ref z) 3 >>= _) _ _ s;refine ah (cG hz rfl (x:=.ref TI) rfl (ah (iR hI rfl ?_)));show wpAny _ _ (oy (.ref z) >>= _) _ _ s;refine ah ?_;unfold oy;refine ah (cG hz rfl (x:=.none) rfl (az ?_));simp only[if_true];refine ah (jG (ah (cG hz rfl (x:=.ref TO) rfl (ah (gf hz (by simp) λg1 hz1 e1=>?_)))));replace hz1:IsZip g1 z TI TO .ellipsis:=hz1;refine ah ?_;simp only[Jn,Jo,qR,uN];refine ah (ah (uV ?_));show wpAny _ _ (jM (.ref i1) >>= _) _ _ _;cases hx:xs[k]? with
 |none =>
  refine ah (tF hh (h1.extBut e1.extBut N.c) (iH ha e1.extBut Na.z) hx λg2 e e2 ⟨oe,hoe,hce⟩=>?_);have z2:IsZip g2 z TI TO .ellipsis:=e2 _ _ N.c.symm hz1;have ez:e≠z:=λx=>by
   subst x;rw[z2]at hoe;cases hoe;simp at hce
  exact gf z2 (by simp) λg3 _ e3=>hE g3 e (λc o c1 _ c3 _ x=>e3.extBut _ _ c1 (e2 _ _ c3 (e1.extBut _ _ c1 x))) ⟨oe,e3.extBut _ _ ez hoe,hce⟩
 |some x =>
  have hy:ys[k]?=none:=by
   rcases hend with h|h
   ·rw[hx]at h;cases h
   ·exact h
  refine ah (tE (h1.extBut e1.extBut N.c) (iH ha e1.extBut Na.z) hx λg2 DB e2=>az ?_);have o2:IsPair g2 TO p q:=e2.extBut _ _ N.h (e1.extBut _ _ N.b hO);refine ah (iR o2 rfl (ah (z0 o2 λg3 o3 e3=>?_)));refine ah (oA (az (ah (ah (uV ?_)))));show wpAny _ _ (jM (.ref i2) >>= _) _ _ _;refine ah (tF hh (((h2.extBut e1.extBut N.d).extBut e2.extBut N.j.symm).extBut e3.extBut N.i.symm) (iH (iH (iH hb e1.extBut Nb.z) e2.extBut Nb.i) e3.extBut Nb.o) hy λg4 e e4 ⟨oe,hoe,hce⟩=>?_);have z4:IsZip g4 z TI TO .ellipsis:=e4 _ _ N.d.symm (e3.extBut _ _ N.b.symm (e2.extBut _ _ N.c.symm hz1));have ez:e≠z:=λx=>by
   subst x;rw[z4]at hoe;cases hoe;simp at hce
  exact gf z4 (by simp) λg5 _ e5=>hE g5 e (λc o c1 c2 c3 c4 x=>e5.extBut _ _ c1 (e4 _ _ c4 (e3.extBut _ _ c2 (e2.extBut _ _ c3 (e1.extBut _ _ c1 x))))) ⟨oe,e5.extBut _ _ ez hoe,hce⟩
end
def wK (K:ak) (a b:Addr):It :=
  ⟨λi H=>∃xs ys x y,a9 K H a xs∧a9 K H b ys∧xs[i]?=some x∧ys[i]?=some y,
   λi H v H'=>∃T x y,v=.ref T∧H T=none∧H'=upd H T (.tup [x,y])∧(∀xs,a9 K H a xs→xs[i]?=some x)∧∀ys,a9 K H b ys→ys[i]?=some y,
   λi H=>∃xs ys,a9 K H a xs∧a9 K H b ys∧(xs.length≤i∨ys.length≤i)⟩
def ZT(z TI TO i1 i2 a b:Addr)(i:Nat)(h:Heap):Prop:=IsZip h z TI TO .none/\IsPair h TI (.ref i1) (.ref i2)/\(∃x y,IsPair h TO x y)/\h.IsTupleIter i1 a i/\h.IsTupleIter i2 b i
theorem P_{P:Program}{w:World}{K:ak}{es:List Expr}{kt:Nat}{tp:Pos}(z TI TO i1 i2 a b:Addr)(N:ZN z TI TO i1 i2)(Na:ZA z TO i1 i2 a)(Nb:ZA z TO i1 i2 b) :
 Turn P w K (.Tuple es kt tp) (wK K a b) [z,TI,TO,i1,i2] z (ZT z TI TO i1 i2 a b) where
 mem:=b4
 obj:=λi h st c hc=>by
  obtain⟨s1,s2,⟨x,y,s3⟩,⟨o4,s4,_,d4⟩,⟨o5,s5,_,d5⟩⟩:=st;simp only[a8,cc,or_false]at hc;rcases hc with rfl|rfl|rfl|rfl|rfl
  ·exact⟨_,s1,λv e=>nomatch e⟩
  ·exact⟨_,s2,λv e=>nomatch e⟩
  ·exact⟨_,s3,λv e=>nomatch e⟩
  ·exact⟨_,s4,λv e=>by rw[d4]at e;cases e⟩
  ·exact⟨_,s5,λv e=>by rw[d5]at e;cases e⟩
 keep:=λi h h' st kk=>by
  obtain⟨s1,s2,⟨x,y,s3⟩,s4,s5⟩:=st;exact⟨kk z (by simp) _ s1,kk TI (by simp) _ s2,⟨x,y,kk TO (by simp) _ s3⟩,s4.at λo e=>kk i1 (by simp) o e,s5.at λo e=>kk i2 (by simp) o e⟩
 item:=by
  intro X hP hw hK hc i pins s σ H E I hf st hg;subst hP hw hK;obtain⟨xs,ys,x,y,hq,hq',hx,hy⟩:=hg;obtain⟨its,rv,pt,hz⟩:=I.tuple hq;obtain⟨jts,rv',mZ,hz'⟩:=I.tuple hq';obtain⟨u,hu,ru⟩:=rv.get hx;obtain⟨u',hu',P'⟩:=rv'.get hy;obtain⟨s1,s2,⟨p,q,s3⟩,s4,s5⟩:=st;have hT:s.TypeIs (.ref z) "zip":=⟨_,s1,rfl⟩;unfold pyNext;refine ah (jK (hZ (name:=gc "__next__") hT uW (f7 uW hT Jp
   (P8 N Na Nb s1 s2 s3 s4 s5 (show s.heap.IsTuple a its.toArray from pt) (show s.heap.IsTuple b jts.toArray from mZ) (x:=u) (y:=u') (by simpa using hu) (by simpa using hu') λh5 h8 sz k5 o5 t1 t2 zz e8 z8=>az ?_) (Jq _))))
  refine⟨_,rfl,wpAny_letOwnedTupleGo_zip z8 λh9 z9 e9=>?_⟩;have fz:∀c o,s.heap.get? c=some o->c∉[z,TI,TO,i1,i2]->h5.get? c=some o:=λc o e n=>by
   simp only[a8,cc,or_false,not_or]at n;exact k5 c o n.1 n.2.2.1 n.2.2.2.1 n.2.2.2.2 e
  have I5:Inv X pins σ H {s with heap:=h5}:=tD (t':=s.toks) I (λc o n e=>fz c o e n) hf;have hfr:H h5.objs.size=none:=I5.hok.fresh (aQ _);have I6:Inv X pins σ (upd H h5.objs.size (.tup [x,y])) {s with heap:=h5.push {cls:=.type "tuple",data:=.seq #[u,u']}} :=
   I5.laid (t':=s.toks) (λb u e=>bt _ e) (aQ _) ⟨(by decide:2<=sizeLine),[u,u'],.cons ru (.cons P' .nil),⟨_,c7 _ rfl,rfl,_,rfl⟩,λo q=>by rw[c7 _ rfl]at q;cases q;rfl⟩
  obtain⟨oz,Qa⟩:=zz;have Qb:z<h5.objs.size:=bg Qa;obtain⟨f0,f1,f2,f3,f4,f5⟩:=hf z b4;have f0':upd H h5.objs.size (.tup [x,y]) z=none:=by rw[aY (cS Qb)];exact f0
  have I8:Inv X pins σ (upd H h5.objs.size (.tup [x,y])) {s with heap:=h8}:=I6.turned (t':=s.toks) (λc o n e=>(e8.2 c n).trans e) f0' f1 f3 f4 f5;have I9:Inv X pins σ (upd H h5.objs.size (.tup [x,y])) {s with heap:=h9}:=I8.turned (t':=s.toks) (λc o n e=>(e9.2 c n).trans e) f0' f1 f3 f4 f5;have tG:∀c o,c≠z->h5.get? c=some o->h9.get? c=some o:=λc o n e=>(e9.2 c n).trans ((e8.2 c n).trans (bt _ e));refine⟨.ref h5.objs.size,_,I9,rfl,⟨_,x,y,rfl,hfr,rfl,λzs hy=>by rw[I.mo hy hq];exact hx,λzs hy'=>by rw[I.mo hy' hq'];exact hy⟩,
   ⟨z9,tG _ _ N.a (k5 _ _ N.a N.e N.f N.g s2),⟨_,_,tG _ _ N.b o5⟩,t1.at λo e=>tG _ o N.c e,t2.at λo e=>tG _ o N.d e⟩,λc hc=>?_⟩
  have cl:c<h5.objs.size:=by
   rw[sz];simp only[a8,cc,or_false]at hc;obtain⟨o4,s4,_⟩:=s4;obtain⟨o5,s5,_⟩:=s5;rcases hc with rfl|rfl|rfl|rfl|rfl
   ·exact bg s1
   ·exact bg s2
   ·exact bg s3
   ·exact bg s4
   ·exact bg s5
  rw[aY (cS cl)];exact(hf c hc).1
 done:=by
  intro X hP hw hK hc i pins s σ H E I hf st hg;subst hP hw hK;obtain⟨xs,ys,hq,hq',hend⟩:=hg;obtain⟨its,rv,pt,hz⟩:=I.tuple hq;obtain⟨jts,rv',mZ,hz'⟩:=I.tuple hq';have hl:=rv.length;have hl':=rv'.length;obtain⟨s1,s2,⟨p,q,s3⟩,s4,s5⟩:=st;have hT:s.TypeIs (.ref z) "zip":=⟨_,s1,rfl⟩;unfold pyNext;refine ah (jK (hZ (name:=gc "__next__") hT uW (f7 uW hT Jp
   (P9 (I.ok.hd hc) N Na Nb s1 s2 s3 s4 s5 (show s.heap.IsTuple a its.toArray from pt) (show s.heap.IsTuple b jts.toArray from mZ) ?_ λh' e kk ⟨oe,hoe,hce⟩=>?_) (Jq _))))
  ·rcases hend with h|h
   ·exact .inl (by simp;lia)
   ·exact .inr (by simp;lia)
  ·refine ah (qI (T:="StopIteration") (b:=true) ⟨oe,hoe,hce⟩ zS (az ⟨rfl,tD (t':=s.toks) I (λc o n e=>?_) hf⟩));simp only[a8,cc,or_false,not_or]at n;exact kk c o n.1 n.2.2.1 n.2.2.2.1 n.2.2.2.2 e
 self:=λ_ _ _ _ _ st h=>wpAny_pyIter_zip st.1 h
def zH(h:Heap)(a b:Addr):Heap:=((((h.push {cls:=.type "tuple_iterator",data:=.fields #[.ref a,.int 0 0]}).push {cls:=.type "tuple_iterator",data:=.fields #[.ref b,.int 0 0]}).push
 {cls:=.type "tuple",data:=.seq #[.ref h.objs.size,.ref (h.objs.size+1)]}).push {cls:=.type "tuple",data:=.seq #[.none,.none]}).push
 {cls:=.type "zip",data:=.fields #[.none,.bool false,.bool false,.ref (h.objs.size+2),.ref (h.objs.size+3)]}
theorem pX{h:Heap}{o:Obj}{n:Nat}(e:h.objs.size=n)(hf:o.isFreed=false:=by rfl):(h.push o).get? n=some o:=by
 rw[<-e];exact c7 _ hf
theorem wL(h:Heap)(a b:Addr):IsZip (zH h a b) (h.objs.size+4) (h.objs.size+2) (h.objs.size+3) .none:=pX (by simp[ig])
theorem Qc(h:Heap)(a b:Addr):IsPair (zH h a b) (h.objs.size+2) (.ref h.objs.size) (.ref (h.objs.size+1)):=bt _ (bt _ (pX (by simp[ig])))
theorem Qd(h:Heap)(a b:Addr):IsPair (zH h a b) (h.objs.size+3) .none .none:=bt _ (pX (by simp[ig]))
theorem Qf(h:Heap)(a b:Addr):(zH h a b).IsTupleIter h.objs.size a 0:=⟨_,bt _ (bt _ (bt _ (bt _ (pX rfl)))),rfl,rfl⟩
theorem Qg(h:Heap)(a b:Addr):(zH h a b).IsTupleIter (h.objs.size+1) b 0:=⟨_,bt _ (bt _ (bt _ (pX (by simp[ig])))),rfl,rfl⟩
theorem Qh{h:Heap}{a b c:Addr}{o:Obj}(e:h.get? c=some o):(zH h a b).get? c=some o :=
 bt _ (bt _ (bt _ (bt _ (bt _ e))))
theorem Qi(a b:Addr)(xs ys:Array Value):Meets (Builtin.«zip.__new__» ⟨[.type "zip",.ref a,.ref b],[]⟩) (λ_ R s=>s.heap.IsTuple a xs/\s.heap.IsTuple b ys/\R (.ok (.ret (.ref (s.heap.objs.size+4)))) {s with heap:=zH s.heap a b}) :=
 .of_wp λprog w A R s h=>by
  obtain⟨hp,g,d,tk,os⟩:=s;obtain⟨ha,hb,h⟩:=h;have hsub:=sub_zip;have ha':z_ (Aa ⟨hp,g,d,tk,os⟩) a xs:=ha;have hb':z_ (Aa ⟨hp.push {cls:=.type "tuple_iterator",data:=.fields #[.ref a,.int 0 0]},g,d,tk,os⟩) b ys:=by
   obtain⟨o,e,r⟩:=hb;exact⟨o,bt _ e,r⟩
  wp_walk using n8 ha',n8 hb'
  refine⟨_,rfl,?_⟩;simp only[ig];exact h
section
variable{X:Cx}{es:List Expr}{kt:Nat}{tp:Pos}
theorem Qj{prog:Program}{w:World}{A:Around}{E:Value->Shared->Prop}{s:Shared}{a b:Addr}{xs ys:Array Value}{Q:Value->Shared->Prop}(ha:s.heap.IsTuple a xs)(hb:s.heap.IsTuple b ys)(h:Q (.ref (s.heap.objs.size+4)) {s with heap:=zH s.heap a b}) :
 wpAny (model prog w) A (call (.type "zip") [.ref a,.ref b]) Q E s:=by
 refine zP PySem.F.called_zip (by decide) (PySem.F.typeCall_zip_2 _ _) (PySem.F.newCall_zip_2 _ _) (λobj=>PySem.F.args_object_init_3 obj _ _) PySem.F.entry_zip_new (Qi a b xs ys) ⟨ha,hb,?_⟩;show _/\_;exact⟨⟨_,wL s.heap a b,rfl⟩,h⟩
def Qk(K:ak)(ta:TA):TI:=λσ H R=>ta σ H λvs H1=>∃a b,vs=[.ref a,.ref b]/\(∃xs,a9 K H1 a xs)/\(∃ys,a9 K H1 b ys)/\R (wK K a b) H1
theorem Ql{a b:Expr}{ta:TA}{p pos:Pos}(hg:Gl X "zip")(hm:X.mg "zip"=none)(ha:PA X [a,b] ta)(hs:starEach [a,b] X.env=[(false,eval a X.env),(false,eval b X.env)])(hs2:starEach [b] X.env=[(false,eval b X.env)]) :
 PI X (.Tuple es kt tp) (.Call (.Name "zip" p) [a,b] [] pos) (Qk X.K ta):=by
 intro pins s σ H R I h;refine Call_ (iq I hg hm boot_zip (jH (aK (ha pos pins s σ H _ I h) λus s1 ⟨vs,H1,I1,r1,q1⟩=>?_) (by rw[hs,hs2]) (by rw[hs2];rfl)));obtain⟨x,y,e,⟨xs,hx⟩,⟨ys,hy⟩,q⟩:=q1;subst e;obtain⟨u,u',rfl,r,r'⟩:=vals2 r1;cases r;cases r';obtain⟨its,rv,pt,_⟩:=I1.tuple hx;obtain⟨jts,rv',mZ,_⟩:=I1.tuple hy;refine Qj (show s1.heap.IsTuple x its.toArray from pt) (show s1.heap.IsTuple y jts.toArray from mZ) (wpAny_pyIter_zip (wL s1.heap x y) ?_);have lx:x<s1.heap.objs.size:=by
  obtain⟨o,e,_⟩:=pt;exact bg e
 have ly:y<s1.heap.objs.size:=by
  obtain⟨o,e,_⟩:=mZ;exact bg e
 have I2:Inv X pins σ H1 {s1 with heap:=zH s1.heap x y}:=I1.kept (t':=s1.toks) λ_ _ e=>Qh e;have nd:∀(i j:Nat),i≠j->s1.heap.objs.size+i≠s1.heap.objs.size+j:=λi j h e=>h (Nat.add_left_cancel e);have nx:∀{c:Addr} (i:Nat),c<s1.heap.objs.size->c≠s1.heap.objs.size+i:=λi h=>cS (cR h (qW _ _));refine⟨s1.heap.objs.size+4,[s1.heap.objs.size+4,s1.heap.objs.size+2,s1.heap.objs.size+3,s1.heap.objs.size,s1.heap.objs.size+1],_,_,H1,rfl,I2,
  P_ _ _ _ _ _ x y ⟨nd 2 4 (by decide),nd 3 4 (by decide),nd 0 4 (by decide),nd 1 4 (by decide),nd 2 3 (by decide),nd 2 0 (by decide),nd 2 1 (by decide),nd 3 0 (by decide),nd 3 1 (by decide),nd 0 1 (by decide)⟩ ⟨nx 4 lx,nx 3 lx,nx 0 lx,nx 1 lx⟩ ⟨nx 4 ly,nx 3 ly,nx 0 ly,nx 1 ly⟩,
  ⟨wL ..,Qc ..,⟨_,_,Qd ..⟩,Qf ..,Qg ..⟩,λc hc=>?_,q⟩
 have cl:s1.heap.objs.size<=c:=by
  simp only[a8,cc,or_false]at hc;rcases hc with rfl|rfl|rfl|rfl|rfl
  ·exact qW _ _
  ·exact qW _ _
  ·exact qW _ _
  ·exact aQ _
  ·exact qW _ _
 exact I1.i9 cl (I1.hok.fresh cl)
end
end EE
namespace E3
open PySem PySem.Spec PyProof.Rows L2 EE
def wM(K:ak)(g:e_):TG:=λv τ H Q=>∃Z:Zt,lG K Z g v τ H Q
def pY(K:ak)(t:b7):TT:=λτ H Q=>∃Z:Zt,lT K Z t τ H Q
theorem gx.ex{X:Cx}{e:Expr}{g:e_}(h:gx X cJ e g):PG X e (wM X.K g):=λpins s σ H v u Q I r bX=>by obtain⟨Z,q⟩:=bX;exact h (ZX.no X Z) pins s σ H v u Q I r q
theorem dw.ex{X:Cx}{e:Expr}{t:b7}(h:dw X cJ e t):PT X e (pY X.K t):=λpins s σ H Q I dP=>by obtain⟨Z,q⟩:=dP;exact h (ZX.no X Z) pins s σ H Q I q
def gY(X:Cx)(ifs:List Expr)(t:b7):Prop:=lb X ifs (pY X.K t)
theorem gY.ex{X:Cx}{ifs:List Expr}{t:b7}(h:gY X ifs t):lb X ifs (pY X.K t):=h
def kh:b7:=λ_ S Q=>Q true S
theorem dR{X:Cx}:gY X [] kh:=λpins s σ H Q I jf=>by obtain⟨Z,_,S,_,_,hr,ht,hc⟩:=jf;exact P5 pins s σ H Q I (hc true S H (Kp.refl _ _) hr ht)
theorem DC{X:Cx}{c:Expr}{t:b7}(h:dw X cJ c t):gY X [c] t:=P6 h.ex
def pZ(n:Nat)(g:e_)(Sh:D->aE->Prop):Prop:=∀d ρ,Sh d ρ->ρ.length=n/\∀eW S Q,Q (ρ++eW) S->g d (eR n none++eW) S Q
def iI:D->aE->Prop:=λd ρ=>ρ=[some d]
def wN:D->aE->Prop:=λd ρ=>∃a b,d=.tup [a,b]/\ρ=[some a,some b]
theorem tH:pZ 1 (iB 0) iI:=λd ρ h=>by
 cases h;exact⟨rfl,λeW S Q q=>q⟩
theorem Qm:pZ 2 (so 2 (mM (iB 0) (mM (iB 1) sk))) wN:=λd ρ h=>by
 obtain⟨a,b,rfl,rfl⟩:=h;exact⟨rfl,λeW S Q q=>⟨_,rfl,rfl,a,_,rfl,b,_,rfl,rfl,q⟩⟩
def iJ(wi:dQ)(Sh:D->aE->Prop)(tt:b7)(te:aD)(js:List Nat):aD:=λσ S Q=>wi σ S λds Al S1=>∃W:Nat->List D->af->Prop,W 0 [] S1/\(∀i ys S,W i ys S->Al S/\ys.length<sizeLine) /\
 (∀i d ys S,ds[i]?=some d->W i ys S->∃ρ,Sh d ρ/\tt (ρ++cW σ js) S λb S2=>if b=true then te (ρ++cW σ js) S2 λy S3=>W (i+1) (ys++[y]) S3 else W (i+1) ys S2)/\∀ys S,W ds.length ys S->cC S ys Q
theorem SR.blank{K:ak}{H:Hp}{r:aE}:∀{ρ:aE} {τ:L2.St},SR K H (ρ++r) τ->SR K H (eR ρ.length none++r) τ
 |[],_,h=>h
 |_::ρ,_,.cons _ t=>.cons (λd e=>by cases e) (SR.blank (ρ:=ρ) t)
theorem tI{K:ak}{Z:Zt}{wi:dQ}{Sh:D->aE->Prop}{g:e_}{tt:b7}{te:aD}{n:Nat}{js:List Nat}{τ:L2.St}{H:Hp}{Q:VK}(hsh:pZ n g Sh)(h:lE K Z (iJ wi Sh tt te js) τ H Q) :
 tz (lI K Z wi) (wM K g) (pY K tt) (pL K te) n js τ H Q:=by
 obtain⟨σ,S,Q3,hs,hr,ht,hc⟩:=h;refine⟨σ,S,_,hs,hr,ht,λds Al S1 J H1 k1 l1 q1 wk=>?_⟩;intro p hp;obtain⟨W,w0,al,turn,done⟩:=q1;obtain⟨hsp,iK⟩:=l1.fresh hp;have kp:Kp Z H1 (upd H1 p (.lst [])):=Kp.new hp iK;have Qn:SR K (upd H1 p (.lst [])) (eR n none++cW σ js) (eR n none++pick τ js):=gP (SR.nones n) ((hs.mono (k1.trans kp)).picks js);refine⟨λi m aP H'=>m=ds.length-i/\i<=ds.length/\SR K H' (eR n none++cW σ js) aP/\∃ys vs S',Kp Z H1 H'/\H' p=some (.lst vs)/\aS K H' ys vs/\S' p=none/\Rl K Z S' H'/\W i ys S',
  ⟨ds.length,by simp,dO _,Qn,[],[],S1,kp,di,.nil,hsp,l1.lay hp,w0⟩,?_⟩
 rintro i m aP H2 ⟨rfl,hi,Qo,ys,vs,S2,k2,hp2,ry,hs2,l2,w2⟩;obtain⟨DD,hz⟩:=al _ _ _ w2;by_cases hlt:i<ds.length
 ·have hd:ds[i]?=some ds[i]:=aX hlt;obtain⟨go,yl⟩:=wk.go i _ S2 H2 k2 l2 DD hd;refine .inr ⟨go,λaP H'=>i<ds.length/\SR K H' (eR n none++cW σ js) aP/\∃ys vs S',Kp Z H1 H'/\H' p=some (.lst vs)/\aS K H' ys vs/\S' p=none/\Rl K Z S' H'/\W (i+1) ys S',
   λaP H' z=>⟨ds.length-(i+1),by lia,rfl,z.1,z.2⟩,λv H3 y=>?_⟩
  obtain⟨k3,rv,l3,o3⟩:=yl v H3 y;have hp3:H3 p=some (.lst vs):=(o3 p (by rw[hp2];simp)).trans hp2;obtain⟨ρ,p8,step⟩:=turn i _ ys S2 hd w2;obtain⟨hn,hg⟩:=hsh _ ρ p8;refine⟨Z.hide H3 p,ds[i],_,S2,λσ' S'=>σ'=ρ++cW σ js/\S'=S2,rv,Qo.mono k3,(l3 _ l2).hide hs2 (by rw[hp3];simp),hg _ _ _ ⟨rfl,rfl⟩,?_⟩;rintro Ci S4 v7 H4 k4 tJ l4 ⟨rfl,rfl⟩;refine⟨Z.hide H3 p,_,_,_,tJ,l4,step,?_⟩;intro b S5 H5 k5 l5 q5;have DE:∀{S6:af} {H6:Hp},Kp (Z.hide H3 p) H4 H6->Rl K (Z.hide H3 p) S6 H6->H6 p=some (.lst vs)/\Kp Z H3 H6/\Rl K Z S6 H6/\S6 p=none:=λ{S6 H6} k6 l6=>by
   have kk:=(k4.trans k6).dJ (Z:=Z) λa z=>.inl z;exact⟨((k4.trans k6).hid p (.inr rfl)).trans hp3,kk,l6.dJ (Z:=Z) (λa z=>.inl z) ((l3 _ l2).old.trans kk),(l6.hid p (.inr rfl)).1⟩
  have bl:∀{H6:Hp},SR K H6 (ρ++cW σ js) v7->SR K H6 (eR n none++cW σ js) v7:=λ{H6} z=>by
   have:=SR.blank z;rw[hn]at this;exact this
  cases b with
  |false =>
   rw[if_neg cF];obtain⟨jk,kk,Qp,Qq⟩:=DE k5 l5;exact⟨hlt,bl (tJ.mono k5),ys,vs,S5,k2.trans (k3.trans kk),jk,ry.mono (k3.trans kk),Qq,Qp,q5⟩
  |true =>
   rw[if_pos rfl];refine⟨Z.hide H3 p,_,S5,_,tJ.mono k5,l5,q5,?_⟩;intro d S6 w H6 k6 r6 l6 q6;obtain⟨m6,DF,wO,DG⟩:=DE (k5.trans k6) l6;have kk:Kp Z H6 (upd H6 p (.lst (vs++[w]))):=by
    refine⟨λb xs e=>?_,λb q u e=>?_,λb z=>?_⟩
    ·rw[aY];exact e;rintro rfl;rw[m6]at e;cases e
    ·rw[aY];exact e;rintro rfl;rw[m6]at e;cases e
    ·rw[aY];rintro rfl;exact iK z
   have hlen:ys.length=vs.length:=ry.len;refine⟨vs,m6,by lia,hlt,bl ((tJ.mono (k5.trans k6)).mono kk),ys++[d],vs++[w],S6,k2.trans (k3.trans (DF.trans kk)),di,(ry.mono (k3.trans (DF.trans kk))).append (.cons (r6.mono kk) .nil),DG,
    ⟨λb u e=>(wO.obj b u e).keep kk (aY (ne3 e DG)),λb z=>?_,wO.old.trans kk⟩,q6⟩
   have hb:b≠p:=λe=>iK (e▸z);rw[aY hb];exact wO.hid b z
 ·have e:i=ds.length:=by lia
  subst e;refine .inl ⟨wk.stop S2 H2 k2 l2 DD,?_⟩;refine hc (.ref p) (up S2 p (.lst ys)) (.ref p) H2 (k1.trans k2) (.ref p) ⟨λb u e=>?_,λb z=>?_,l2.old⟩ (done ys S2 w2 p hs2)
  ·by_cases hb:b=p
   ·subst hb;rw[ao]at e;cases e;exact⟨vs,hp2,ry⟩
   ·rw[bH hb]at e;exact l2.obj b u e
  ·have hb:b≠p:=λe=>iK (e▸z);rw[bH hb];exact l2.hid b z
section
variable{σ:aE}{S:af}{Q:K3}{wi:dQ}{js:List Nat}{tt:b7}{te:aD}{Sh:D->aE->Prop}
theorem Qr(h:wi σ S λds Al S1=>∃W:Nat->List D->af->Prop,W 0 [] S1/\(∀i ys S,W i ys S->Al S/\ys.length<sizeLine) /\
 (∀i d ys S,ds[i]?=some d->W i ys S->∃ρ,Sh d ρ/\tt (ρ++cW σ js) S λb S2=>if b=true then te (ρ++cW σ js) S2 λy S3=>W (i+1) (ys++[y]) S3 else W (i+1) ys S2)/\∀ys S,W ds.length ys S->cC S ys Q):iJ wi Sh tt te js σ S Q:=h
theorem tK{ds:List D}{Al:af->Prop}{S1:af}(p:Nat->Bool)(f:Nat->D)(hz:ds.length<=100000)(hA:Al S1)
 (h:∀i d,ds[i]?=some d->∃ρ,Sh d ρ/\(∀P:Bool->af->Prop,P (p i) S1->tt (ρ++cW σ js) S1 P)/\(p i=true->∀P:K3,P (f i) S1->te (ρ++cW σ js) S1 P)) (q:cC S1 (((aN ds.length).filter p).map f) Q) :
 ∃W:Nat->List D->af->Prop,W 0 [] S1/\(∀i ys S,W i ys S->Al S/\ys.length<sizeLine) /\
 (∀i d ys S,ds[i]?=some d->W i ys S->∃ρ,Sh d ρ/\tt (ρ++cW σ js) S λb S2=>if b=true then te (ρ++cW σ js) S2 λy S3=>W (i+1) (ys++[y]) S3 else W (i+1) ys S2)/\∀ys S,W ds.length ys S->cC S ys Q:=by
 refine⟨λi ys S=>i<=ds.length/\ys=((aN i).filter p).map f/\S=S1,⟨dO _,rfl,rfl⟩,?_,?_,?_⟩
 ·rintro i ys S ⟨hi,rfl,rfl⟩;refine⟨hA,?_⟩;rw[ay];have:=Ab p (aN i);rw[qO]at this;exact fc (bR this (bR hi (bR hz (by decide))))
 ·rintro i d ys S hd ⟨hi,rfl,rfl⟩;obtain⟨ρ,p8,h1,h2⟩:=h i d hd;have hi':=(cT.mp hd).1;refine⟨ρ,p8,h1 _ ?_⟩;cases c:p i with
  |true =>
   rw[if_pos rfl];refine h2 c _ ⟨hi',?_,rfl⟩;rw[qX,oB,b6];simp[c]
  |false =>
   rw[if_neg (by decide)];refine⟨hi',?_,rfl⟩;rw[qX,oB,b6];simp[c]
 ·rintro ys S ⟨_,rfl,rfl⟩;exact q
theorem DH{n:Nat}{f:Nat->D}:((aN n).filter λ_=>true).map f=(aN n).map f:=by rw[Jr.mpr λ_ _=>rfl]
theorem wQ{d:D}{P:aE->Prop}(h:P [some d]):∃ρ,iI d ρ/\P ρ:=⟨_,rfl,h⟩
theorem DI{a b:D}{P:aE->Prop}(h:P [some a,some b]):∃ρ,wN (.tup [a,b]) ρ/\P ρ:=⟨_,⟨a,b,rfl,rfl⟩,h⟩
theorem DJ{P:Bool->af->Prop}(h:P true S):kh σ S P:=h
end
def iL(as bs:List D):List D:=(as.zip bs).map λp=>.tup [p.1,p.2]
def DL(ta:cb):dQ:=λσ S R=>ta σ S λxs S1=>∃as bs,xs=[.tup as,.tup bs]/\R (iL as bs) (λ_=>True) S1
theorem Qt{K:ak}{Z:Zt}{a b:Addr}{xs ys:List V}{as bs:List D}{H1:Hp}(h1:a9 K H1 a xs)(r1:aS K H1 as xs)(h2:a9 K H1 b ys)(r2:aS K H1 bs ys):Wk K Z (wK K a b) (iL as bs) (λ_=>True) H1:=by
 constructor
 ·intro i d S H k l _ hd;unfold iL at hd;rw[aJ]at hd;obtain⟨p,hp,rfl⟩:=b9.mp hd;obtain⟨ha,hb⟩:=Js.mp hp;obtain⟨x,hx,rx⟩:=r1.at ha;obtain⟨y,hy,ry⟩:=r2.at hb;refine⟨⟨xs,ys,x,y,k.gu h1,k.gu h2,hx,hy⟩,?_⟩;rintro v H' ⟨T,x',y',rfl,hT,rfl,fx,fy⟩;have ex:x'=x:=by
   have:=fx _ (k.gu h1);rw[hx]at this;exact(dD this).symm
  have ey:y'=y:=by
   have:=fy _ (k.gu h2);rw[hy]at this;exact(dD this).symm
  subst ex ey;obtain⟨_,hz⟩:=l.fresh hT;have kn:Kp Z H (upd H T (.tup [x',y'])):=Kp.new hT hz;exact⟨kn,.tup di (.cons (rx.mono (k.trans kn)) (.cons (ry.mono (k.trans kn)) .nil)),λS' l'=>l'.lay hT,λb hb=>aY λe=>hb (e▸hT)⟩
 ·intro S H k l _;refine⟨xs,ys,k.gu h1,k.gu h2,?_⟩;have e1:=r1.len;have e2:=r2.len;simp only[iL,ay,List.length_zip];lia
section
variable{X:Cx}{W3:bF}{es:List Expr}{kt:Nat}{tp pos p:Pos}{a b:Expr}{ta:cb}{σ:aE}{S:af}{R:RI}{al:cb}
theorem Qu(hg:Gl X "zip")(hm:X.mg "zip"=none)(ha:d7 X W3 [a,b] ta)(hs:starEach [a,b] X.env=[(false,eval a X.env),(false,eval b X.env)]:=by rfl)(hs2:starEach [b] X.env=[(false,eval b X.env)]:=by rfl) :
 eK X W3 (.Tuple es kt tp) (.Call (.Name "zip" p) [a,b] [] pos) (DL ta):=λZ=>PI.imp (Ql hg hm (ha Z) hs hs2) λτ H R i7=>by
 obtain⟨σ,S,R3,hs,hr,ht,hc⟩:=i7;refine⟨σ,S,_,hs,hr,ht,λds S1 vs H1 k1 r1 l1 q1=>?_⟩;obtain⟨as,bs,rfl,q⟩:=q1;cases r1 with
 |cons ra rr =>
  cases rr with
  |cons rb rn =>
   cases rn;cases ra with
   |tup h1 h2 =>
    cases rb with
    |tup h3 h4=>exact⟨_,_,rfl,⟨_,h1⟩,⟨_,h3⟩,hc (iL as bs) _ S1 _ H1 k1 l1 q (Qt h1 h2 h3 h4)⟩
def DM(R:RI)(xs:List D)(S:af):Prop:=∃as bs,xs=[.tup as,.tup bs]/\R (iL as bs) (λ_=>True) S
theorem Qv(h:al σ S λxs S1=>DM R xs S1):DL al σ S R:=h
theorem Qw{as bs:List D}(q:R (iL as bs) (λ_=>True) S):DM R [.tup as,.tup bs] S:=⟨as,bs,rfl,q⟩
end
end E3
namespace EE
open PySem PySem.Spec PyProof.Rows L2
theorem o_:∀{ns:List Int} {us:List Value},Vals (ns.map V.int) us->∃ps:List (Int×Tok),us=ps.map (λp=>.int p.1 p.2)/\ps.map (·.1)=ns
 |[],_,.nil=>⟨[],rfl,rfl⟩
 |n::ns,_,.cons r t=>by
  obtain⟨tk,rfl⟩:=r;obtain⟨ps,rfl,e⟩:=o_ t;exact⟨(n,tk)::ps,rfl,by rw[ba,e]⟩
theorem DN:∀{bs:List Bool} {us:List Value},Vals (bs.map V.bl) us->us=bs.map Value.bool
 |[],_,.nil=>rfl
 |b::bs,_,.cons r t=>by
  cases r;rw[DN t];rfl
section
variable{X:Cx}
theorem Qx(hc:X.calm=true):fm X (.builtin "max") (λxs H Q=>∃(a:Addr) (ns:List Int),xs=[.ref a]/\aZ X.K H a (ns.map V.int)/\ns≠[]/\∀M,M∈ns->(∀b∈ns,b<=M)->Q (.int M) H):=by
 intro pins s σ H xs us Q I r h;obtain⟨a,ns,rfl,hq,hne,q⟩:=h;obtain⟨u,rfl,r1⟩:=vals1 r;cases r1;obtain⟨its,rv,p,hz⟩:=I.list hq;obtain⟨ps,rfl,rfl⟩:=o_ rv;have hl:0<ps.length:=by
  cases ps with
  |nil=>exact absurd rfl hne
  |cons _ _=>simp
 have num:∀(j:Nat) (hj:j<ps.length),numAt ps.toArray j=(ps[j]).1:=λj hj=>by simp[numAt,hj]
 refine max_intList (xs:=ps.toArray) (I.ok.hd hc) (by have:=p.isList;simpa[intItems]using this) (by simpa using hl) λv h' tk hv k=>?_;obtain⟨t,rfl⟩:=intItems_at hv;have best:=argBest_gt (numAt ps.toArray) (ps.toArray.size-1);have hsz:ps.toArray.size=ps.length:=by simp
 have hlt:argBest (λi j=>decide (numAt ps.toArray i>numAt ps.toArray j)) (ps.toArray.size-1)<ps.length:=by lia
 refine⟨.int (numAt ps.toArray (argBest (λi j=>decide (numAt ps.toArray i>numAt ps.toArray j)) (ps.toArray.size-1))),H,I.kept k,⟨t,rfl⟩,q _ ?_ λb hb=>?_⟩
 ·rw[num _ hlt];exact bj.mpr ⟨_,oC hlt,rfl⟩
 ·obtain⟨p,hp,rfl⟩:=bj.mp hb;obtain⟨j,hj,rfl⟩:=jN hp;have:=best.2 j (by lia);rw[num j hj]at this;exact this
theorem Qy(hc:X.calm=true):fm X (.builtin "max") (λxs H Q=>∃i j k,xs=[.int i,.int j,.int k]/\Q (.int (max (max i j) k)) H):=by
 intro pins s σ H xs us Q I r h;obtain⟨i,j,k,rfl,q⟩:=h;cases r with
 |cons r1 rr =>
  obtain⟨u,w',rfl,⟨t',rfl⟩,⟨t'',rfl⟩⟩:=vals2 rr;obtain⟨t,rfl⟩:=r1;refine max_three_ints (I.ok.hd hc) λh' tk kk=>⟨_,H,I.kept kk,?_,q⟩;by_cases h1:j>i
  ·rw[if_pos h1];by_cases h2:k>j
   ·rw[if_pos h2,show max (max i j) k=k by lia];exact⟨_,rfl⟩
   ·rw[if_neg h2,show max (max i j) k=j by lia];exact⟨_,rfl⟩
  ·rw[if_neg h1];by_cases h2:k>i
   ·rw[if_pos h2,show max (max i j) k=k by lia];exact⟨_,rfl⟩
   ·rw[if_neg h2,show max (max i j) k=i by lia];exact⟨_,rfl⟩
theorem range_any(bs:List Bool):((aN bs.length).any λi=>bs.getD i true)=bs.any id:=by
 rw[eB,ox,ox];constructor
 ·rintro⟨j,hj,h⟩;have hj':=f_.mp hj;rw[bu,aX hj']at h;exact⟨_,oC hj',h⟩
 ·rintro⟨b,hb,h⟩;obtain⟨j,hj,rfl⟩:=jN hb;refine⟨j,f_.mpr hj,?_⟩;rw[bu,aX hj];exact h
theorem Qz{prog:Program}{w:World}{A:Around}{bs:List Bool}:TruthOf prog w A (λi v=>(bs.map Value.bool).toArray[i]?=some v) (λi=>bs.getD i true):=by
 intro i v s Q E hP hQ;rw[List.getElem?_toArray,aJ]at hP;obtain⟨b,hb,rfl⟩:=b9.mp hP;dsimp only at hQ;rw[bu,hb]at hQ;exact lZ hQ
theorem DO(hc:X.calm=true):fm X (.builtin "any") (λxs H Q=>∃(a:Addr) (bs:List Bool),xs=[.ref a]/\aZ X.K H a (bs.map V.bl)/\Q (.bl (bs.any id)) H):=by
 intro pins s σ H xs us Q I r h;obtain⟨a,bs,rfl,hq,q⟩:=h;obtain⟨u,rfl,r1⟩:=vals1 r;cases r1;obtain⟨its,rv,p,hz⟩:=I.list hq;obtain rfl:=DN rv;have pl:=p.isList;have hlt:a<s.heap.objs.size:=by
  obtain⟨_,e,_⟩:=pl;exact bg e
 refine call_any_walk (Ip pl ⟨_,_,_,_,_,_,_,rfl,Walks.list (A:=X.A.in1) (I.ok.hd hc) s.heap.objs.size a (cS hlt) (bs.map Value.bool).toArray,⟨⟨_,c7 _ rfl,rfl,rfl⟩,pl.push _⟩,Qz,λh' tk hk=>?_⟩);have hz:(bs.map Value.bool).toArray.size=bs.length:=by simp
 rw[hz,range_any];refine⟨.bl _,H,I.kept λb o e=>hk b o (λhm=>?_) (bt _ e),rfl,q⟩;have e1:b=s.heap.objs.size:=by simpa using hm
 exact absurd (bg e) (by rw[e1];exact iS _)
end
end EE
namespace E3
open PySem PySem.Spec PyProof.Rows L2 EE
section
variable{K:PySem.W.Frag}
theorem QB{H:Hp}{ns:List Int}{vs:List V}(h:aS K H (ns.map D.int) vs):vs=ns.map V.int:=by
 induction ns generalizing vs with
 |nil=>cases h;rfl
 |cons n ns ih =>
  rw[ba]at h;cases h with
  |cons h t=>cases h;rw[ih t];rfl
theorem QC{H:Hp}{bs:List Bool}{vs:List V}(h:aS K H (bs.map D.bl) vs):vs=bs.map V.bl:=by
 induction bs generalizing vs with
 |nil=>cases h;rfl
 |cons n ns ih =>
  rw[ba]at h;cases h with
  |cons h t=>cases h;rw[ih t];rfl
def DP:List D->af->K3->Prop:=λxs S Q=>∃(x:D) (ns:List Int),xs=[x]/\IsL S x (ns.map D.int)/\ns≠[]/\∀M,M∈ns->(∀b∈ns,b<=M)->Q (.int M) S
theorem QD:fI K DP (λxs H Q=>∃(a:Addr) (ns:List Int),xs=[.ref a]/\aZ K H a (ns.map V.int)/\ns≠[]/\∀M,M∈ns->(∀b∈ns,b<=M)->Q (.int M) H):=by
 intro Z ds S Q3 vs H Q r l h c;obtain⟨x,ns,rfl,hx,hne,q⟩:=h;cases r with
 |cons r rr =>
  cases rr;obtain⟨a,ws,rfl,h1,h2⟩:=hx.down r l;rw[QB h2]at h1;exact⟨a,ns,rfl,h1,hne,λM h3 h4=>c _ S _ H (Kp.refl _ _) (.int _) l (q M h3 h4)⟩
def DQ:List D->af->K3->Prop:=λxs S Q=>∃i j,xs=[.int i,.int j]/\Q (.int (if j>i then j else i)) S
theorem QE:fI K DQ (λxs H Q=>∃i j,xs=[.int i,.int j]/\Q (.int (if j>i then j else i)) H):=by
 intro Z ds S Q3 vs H Q r l h c;obtain⟨i,j,rfl,q⟩:=h;cases r with
 |cons r rr =>
  cases rr with
  |cons r' rr =>
   cases rr;cases r;cases r';exact⟨i,j,rfl,c _ S _ H (Kp.refl _ _) (.int _) l q⟩
def DS:List D->af->K3->Prop:=λxs S Q=>∃i j k,xs=[.int i,.int j,.int k]/\Q (.int (max (max i j) k)) S
theorem QF:fI K DS (λxs H Q=>∃i j k,xs=[.int i,.int j,.int k]/\Q (.int (max (max i j) k)) H):=by
 intro Z ds S Q3 vs H Q r l h c;obtain⟨i,j,k,rfl,q⟩:=h;cases r with
 |cons r rr =>
  cases rr with
  |cons r' rr =>
   cases rr with
   |cons r'' rr =>
    cases rr;cases r;cases r';cases r'';exact⟨i,j,k,rfl,c _ S _ H (Kp.refl _ _) (.int _) l q⟩
def DT(f:List Bool->Bool):List D->af->K3->Prop:=λxs S Q=>∃(x:D) (bs:List Bool),xs=[x]/\IsL S x (bs.map D.bl)/\Q (.bl (f bs)) S
theorem DU{f:List Bool->Bool}:fI K (DT f) (λxs H Q=>∃(a:Addr) (bs:List Bool),xs=[.ref a]/\aZ K H a (bs.map V.bl)/\Q (.bl (f bs)) H):=by
 intro Z ds S Q3 vs H Q r l h c;obtain⟨x,bs,rfl,hx,q⟩:=h;cases r with
 |cons r rr =>
  cases rr;obtain⟨a,ws,rfl,h1,h2⟩:=hx.down r l;rw[QC h2]at h1;exact⟨a,bs,rfl,h1,c _ S _ H (Kp.refl _ _) (.bl _) l q⟩
end
section
variable{σ:aE}{S:af}{Q:K3}{ta tb tc:aD}{r r':R3}
theorem QG{a:Addr}{ns:List Int}(hS:S a=some (.lst (ns.map D.int)))(hn:ns≠[])(q:∀M,M∈ns->(∀b∈ns,b<=M)->Q (.int M) S):DP [.ref a] S Q:=⟨_,ns,rfl,.inl ⟨a,rfl,hS⟩,hn,q⟩
theorem QH{i j:Int}(q:Q (.int (if j>i then j else i)) S):DQ [.int i,.int j] S Q:=⟨i,j,rfl,q⟩
theorem QI{i j k:Int}(q:Q (.int (max (max i j) k)) S):DS [.int i,.int j,.int k] S Q:=⟨i,j,k,rfl,q⟩
theorem DV{f:List Bool->Bool}{a:Addr}{bs:List Bool}(hS:S a=some (.lst (bs.map D.bl)))(q:Q (.bl (f bs)) S):DT f [.ref a] S Q:=⟨_,bs,rfl,.inl ⟨a,rfl,hS⟩,q⟩
end
def wR(c:b7)(t u:bP):bP:=mL c t u
theorem iM{X:Cx}{W3:bF}{c:Expr}{a b:List Stmt}{tc:b7}{t u:bP}{pos:Pos}(hc:dw X W3 c tc)(ha:cV X W3 a t)(hb:cV X W3 b u):d8 X W3 (.If c a b pos) (wR tc t u):=cE hc ha hb
theorem p_{tc:b7}{t u:bP}{n:aE->af->Prop}{rt:K3}{bk ct:aE->af->Prop}{σ:aE}{S:af}(Mid:aE->af->Prop)(h1:∀n':aE->af->Prop,(∀σ S,Mid σ S->n' σ S)->mL tc t u ⟨n',rt,bk,ct⟩ σ S)
 (h2:∀σ S,Mid σ S->n σ S):wR tc t u ⟨n,rt,bk,ct⟩ σ S:=h1 n h2
def jn(a b:Int):Int:=if a=0∨b=0 then 0 else if b>a then b else a
abbrev cf:=List (List Int)
def at2(B:cf)(j k:Nat):Int:=(B.getD j []).getD k 0
def dS(f:Nat->Int)(n:Nat):Int:=(aN n).foldl (λacc j=>max acc (f j)) 0
def dot(row:List Int)(B:cf)(k:Nat):Int:=dS (λj=>jn (row.getD j 0) (at2 B j k)) row.length
def gC(A B:cf):cf:=A.map λrow=>(aN (B.headD []).length).map λk=>dot row B k
structure Mt(m n:Nat)(A:cf):Prop where
 len:A.length=m
 row:∀r∈A,r.length=n
 num:∀r∈A,∀x∈r,0<=x/\x<=2
theorem wU{f:Nat->Int}{t:Int}:∀(l:List Nat) (z:Int),t<=l.foldl (λacc j=>max acc (f j)) z↔t<=z∨∃j∈l,t<=f j
 |[],z=>by simp
 |j::l,z=>by
  rw[zO,wU l];constructor
  ·rintro(h|⟨i,hi,h⟩)
   ·rcases Int.le_total z (f j) with c|c
    ·rw[Int.max_eq_right c]at h;exact .inr ⟨j,b4,h⟩
    ·rw[Int.max_eq_left c]at h;exact .inl h
   ·exact .inr ⟨i,cB _ hi,h⟩
  ·rintro(h|⟨i,hi,h⟩)
   ·exact .inl (by lia)
   ·rcases a8.mp hi with rfl|hi
    ·exact .inl (by lia)
    ·exact .inr ⟨i,hi,h⟩
theorem DW{f:Nat->Int}{n:Nat}{t:Int}(ht:1<=t):t<=dS f n↔∃j,j<n/\t<=f j:=by
 unfold dS;rw[wU];constructor
 ·rintro(h|⟨j,hj,h⟩)
  ·lia
  ·exact⟨j,f_.mp hj,h⟩
 ·rintro⟨j,hj,h⟩;exact .inr ⟨j,f_.mpr hj,h⟩
theorem wV{f:Nat->Int}{n:Nat}:0<=dS f n:=by
 unfold dS;rw[wU];exact .inl (Ac _)
theorem DX{f:Nat->Int}{n:Nat}{t:Int}(h0:0<=t)(h:∀j,j<n->f j<=t):dS f n<=t:=by
 rcases Int.lt_or_le t (dS f n) with c|c
 ·obtain⟨j,hj,q⟩:=(DW (show 1<=t+1 by lia)).mp (show t+1<=dS f n by lia);have:=h j hj;lia
 ·exact c
theorem QJ{f:Nat->Int}{n:Nat}{M:Int}(h0:∀j,j<n->0<=f j)(hm:M∈(aN n).map f)(hb:∀b∈(aN n).map f,b<=M):M=dS f n:=by
 obtain⟨j,hj,rfl⟩:=bj.mp hm;have hj:=f_.mp hj;have a:dS f n<=f j:=DX (h0 j hj) λi hi=>hb _ (bj.mpr ⟨i,f_.mpr hi,rfl⟩);have b:f j<=dS f n:=by
  rcases Int.lt_or_le (f j) 1 with c|c
  ·exact Int.le_trans (show f j<=0 by lia) wV
  ·exact(DW c).mpr ⟨j,hj,Ac _⟩
 lia
theorem QK{f:Nat->Int}{n:Nat}:dS f (n+1)=max (dS f n) (f n):=by
 unfold dS;rw[qX,List.foldl_append];rfl
theorem QL{a b:Int}(ha:0<=a)(hb:0<=b):0<=jn a b:=by
 unfold jn
 split
 ·exact Ac _
 ·split<;>lia
theorem QM{a b:Int}(ha:a<=2)(hb:b<=2):jn a b<=2:=by
 unfold jn
 split
 ·decide
 ·split<;>lia
theorem getD_mem{l:List Int}{j:Nat}(h:j<l.length):l.getD j 0∈l:=by
 rw[bu,aX h];exact oC h
theorem qa{l:cf}{j:Nat}(h:j<l.length):l.getD j []∈l:=by
 rw[bu,aX h];exact oC h
theorem tL{row:List Int}(h:∀x∈row,0<=x/\x<=2)(j:Nat):0<=row.getD j 0/\row.getD j 0<=2:=by
 by_cases hj:j<row.length
 ·exact h _ (getD_mem hj)
 ·rw[bu,b_ (by lia)];exact⟨by decide,by decide⟩
theorem Mt.at{m n:Nat}{B:cf}(h:Mt m n B)(j k:Nat):0<=at2 B j k/\at2 B j k<=2:=by
 unfold at2;by_cases hj:j<B.length
 ·exact tL (h.num _ (qa hj)) k
 ·rw[bu (l:=B),b_ (by lia)];simp
theorem QN{m n:Nat}{B:cf}{row:List Int}(h:Mt m n B)(hr:∀x∈row,0<=x/\x<=2)(k:Nat):0<=dot row B k/\dot row B k<=2 :=
 ⟨wV,DX (by decide) λj _=>QM (tL hr j).2 (h.at j k).2⟩
theorem Mt.head{m n:Nat}{B:cf}(h:Mt m n B)(hm:0<m):(B.headD []).length=n:=by
 cases B with
 |nil =>
  have:=h.len;simp at this;lia
 |cons r _=>exact h.row r b4
theorem Mt.cmp{m n p:Nat}{A B:cf}(hA:Mt m n A)(hB:Mt n p B)(hn:0<n):Mt m p (gC A B):=by
 refine⟨by rw[gC,ay];exact hA.len,λr hr=>?_,λr hr x hx=>?_⟩
 ·obtain⟨row,_,rfl⟩:=bj.mp hr;rw[ay,qO,hB.head hn]
 ·obtain⟨row,hrow,rfl⟩:=bj.mp hr;obtain⟨k,_,rfl⟩:=bj.mp hx;exact QN hB (hA.num row hrow) k
def bh(r:List Int):D:=.tup (r.map D.int)
def fL(A:cf):D:=.tup (A.map bh)
def cL(f t:Str)(A:cf):D:=.tup [.str f,.str t,fL A]
theorem QP{x a b:Int}:memD (.int x) [.int a,.int b]=decide (a=x∨b=x):=by
 rw[eB];simp[memD,inV,vD,gM]
theorem QQ(r:List Int):D.gS (r.map D.int)=true:=D.pN.mpr λd hd=>by
 obtain⟨x,_,rfl⟩:=bj.mp hd;rfl
theorem QR(r:List Int):d6 (D.dB (r.map D.int))<=1:=by
 rw[D.mO];refine wJ λd hd=>?_;obtain⟨e,he,rfl⟩:=bj.mp hd;obtain⟨x,_,rfl⟩:=bj.mp he;simp[D.dt,cI]
theorem QS(f t:Str)(A:cf):(cL f t A).pure=true:=by
 have h:D.gS (A.map bh)=true:=D.pN.mpr λd hd=>by
  obtain⟨r,_,rfl⟩:=bj.mp hd;simp only[bh,D.pure];exact QQ r
 simp only[cL,fL,D.pure,D.gS,h,lU]
theorem QU(f t:Str)(A:cf):cI (cL f t A).dt<=10:=by
 have h:d6 (D.dB (A.map bh))<=3:=by
  rw[D.mO];refine wJ λd hd=>?_;obtain⟨e,he,rfl⟩:=bj.mp hd;obtain⟨r,_,rfl⟩:=bj.mp he;have:=QR r;simp only[bh,D.dt,cI];lia
 simp only[cL,fL,D.dt,D.dB,cI,d6];lia
section
variable{S:af}{Q:K3}{f t:Str}{A:cf}{r:List Int}{R:RI}
theorem QV(q:Q (.int (r.length:Int)) S):pP [bh r] S Q:=⟨_,r.map D.int,rfl,.inr rfl,by rw[ay];exact q⟩
theorem QW(q:R (A.map bh) (λ_=>True) S):wg R (fL A) S:=⟨_,rfl,q⟩
theorem tM{k:Nat}{i:Int}(e:i=(k:Int))(hk:k<A.length)(q:Q (bh (A.getD k [])) S):kb (fL A) (.int i) S Q:=by
 subst e;refine⟨A.map bh,_,_,rfl,rfl,fW ?_,q⟩;rw[aJ,bu,aX hk];rfl
theorem tN{k:Nat}{i:Int}(e:i=(k:Int))(hk:k<r.length)(q:Q (.int (r.getD k 0)) S):kb (bh r) (.int i) S Q:=by
 subst e;refine⟨r.map D.int,_,_,rfl,rfl,fW ?_,q⟩;rw[aJ,bu,aX hk];rfl
end
section
variable{P:Program}{w:World}{K:PySem.W.Frag}{mg:Str->Option Value}{base:Heap}{x:Str}{st:Stmt}{N ps:List Str}{k:Nat}
def ki(A:List D->af->(List D->Prop)->(Addr->Prop)->Prop):aW:=λds S Q W=>A ds S (λys=>cC S ys Q) λC=>∀a,W C a S
theorem _root_.EE.aC.ki{A:List D->af->(List D->Prop)->(Addr->Prop)->Prop}(h:aC K mg x st ps)(S:bf N ps (aq st))(len:∀ds S q qx,A ds S q qx->ds.length=ps.length)
 (hbody:∀(f:Addr) (cdv:Value) (Ar:Around) (outer:List Env) (s:Shared) (H:Hp) (E:XK) (ds:List D) (S:af) (q:List D->Prop) (qx:Addr->Prop),cw k (Ar.deeper (envOfC x (aq st) s.heap.objs.size f cdv))->A ds S q qx ->
  ∃t,cV (cO (b8 P w) P w K mg base N x (aq st) f cdv Ar outer s H E) (λ_ C _ S'=>Sub S S'/\qx C) (a7 st) t /\
   t {nx:=λ_ _=>False,rt:=λd S'=>∃p ys,d=.ref p/\S p=none/\Sub S S'/\S' p=some (.lst ys)/\q ys} (d_ N ds) S):av P w K mg base (k+1) x ps (ki A):=by
 have C:av P w K mg base (k+1) x ps (λds S Q E=>∃q qx,A ds S q qx/\(∀d S',(∃p ys,d=.ref p/\S p=none/\Sub S S'/\S' p=some (.lst ys)/\q ys)->Q d S')/\∀C a S',Sub S S'/\qx C->E C a S'):=by
  refine h.pS S (λvs H Q E bX=>by obtain⟨q,qx,z,_⟩:=bX;exact len _ _ _ _ z) λf cdv Ar outer s H E ds S3 Q E3 hr ⟨q,qx,z,hq,hx⟩=>?_;obtain⟨t,h1,h2⟩:=hbody f cdv Ar outer s H E ds S3 _ _ hr z;refine⟨t,λd S'=>∃p ys,d=.ref p/\S3 p=none/\Sub S3 S'/\S' p=some (.lst ys)/\q ys,λC _ S'=>Sub S3 S'/\qx C,h1,?_,hq,hx⟩;have e:(λ(_:aE) (_:af)=>False)=λ(_:aE) (S':af)=>∃p ys,D.non=.ref p/\S3 p=none/\Sub S3 S'/\S' p=some (.lst ys)/\q ys:=by
   funext _ S';refine propext ⟨gb,λz=>?_⟩;obtain⟨p,ys,z,_⟩:=z;cases z
  rw[<-e];exact h2
 refine C.sY.imp λds S Q E z=>⟨_,_,z,λd S1 ⟨p,ys,e,hp,hs,hp1,hq⟩=>⟨up S p (.lst ys),?_,?_⟩,λC a S1 hx=>⟨S,hx.1,hx.2 a⟩⟩
 ·intro a o ha;by_cases c:a=p
  ·subst c;rw[ao]at ha;cases ha;exact hp1
  ·rw[bH c]at ha;exact hs a o ha
 ·subst e;exact hq p hp
end
def wW(tk tv:aD):aD:=λσ S Q=>tk σ S λx S1=>tv σ S1 λy S2=>∃key,x=kD key/\∀p,S2 p=none->Q (.ref p) (up S2 p (.bU [(key,y)]))
theorem QX{K:ak}{Z:Zt}{tk tv:aD}{τ:L2.St}{H:Hp}{Q:VK}(h:lE K Z (wW tk tv) τ H Q):Bw [(pL K tk,pL K tv)] τ H Q:=by
 obtain⟨σ,S,Q3,hs,hr,ht,hc⟩:=h;intro p hp;obtain⟨hsp,iK⟩:=hr.fresh hp;have kp:Kp Z H (upd H p (.dK [])):=Kp.new hp iK;have l0:Rl K Z S (upd H p (.dK [])):=hr.lay hp;refine⟨Z.hide (upd H p (.dK [])) p,σ,S,_,hs.mono kp,l0.hide hsp (by rw[di];simp),ht,?_⟩;intro x S1 v H1 k1 r1 l1 q1;refine⟨Z.hide (upd H p (.dK [])) p,σ,S1,_,(hs.mono kp).mono k1,l1,q1,?_⟩;intro y S2 w H2 k2 r2 l2 q2;obtain⟨key,rfl,q2⟩:=q2;have kk:=(k1.trans k2).dJ (Z:=Z) λa z=>.inl z;have QY:=l2.dJ (Z:=Z) (λa z=>.inl z) (l0.old.trans kk);have hp2:H2 p=some (.dK []):=((k1.trans k2).hid p (.inr rfl)).trans di;have QZ:S2 p=none:=(l2.hid p (.inr rfl)).1;have ev:v=kV key:=v5 (r1.mono k2);have kw:Kp Z H2 (upd H2 p (.dK [(key,w)])):=by
  refine⟨λb xs e=>?_,λb q u e=>?_,λb z=>?_⟩
  ·rw[aY];exact e;rintro rfl;rw[hp2]at e;cases e
  ·rw[aY];exact e;rintro rfl;rw[hp2]at e;cases e
  ·rw[aY];rintro rfl;exact iK z
 refine⟨hp2,[(key,w)],by rw[ev];rfl,(by decide:1<=15),?_⟩;refine hc (.ref p) (up S2 p (.bU [(key,y)])) (.ref p) (upd H2 p (.dK [(key,w)])) (kp.trans (kk.trans kw)) (.ref p) ?_ (q2 p QZ);exact QY.put kw iK ⟨_,di,.cons ⟨rfl,r2.mono kw⟩ .nil⟩
theorem Q0{X:Cx}{W3:bF}{k v:Expr}{tk tv:aD}{pos:Pos}(hk:aF X cJ k tk)(hv:aF X cJ v tv):aF X W3 (.Dict [some k] [v] pos) (wW tk tv):=λZ =>
 PE.imp (MR (MQ hk.ex hv.ex MP) rfl rfl (by simp) (by decide:1<=15)) λ_ _ _ h=>QX h
theorem Q1{σ:aE}{S:af}{Q:K3}{tk tv:aD}(h:tk σ S λx S1=>tv σ S1 λy S2=>∃key,x=kD key/\∀p,S2 p=none->Q (.ref p) (up S2 p (.bU [(key,y)]))):wW tk tv σ S Q:=h
inductive jl(E:List (Str×Str))(a:Str):Str->Prop where
 |refl:jl E a a
 |step {x y:Str}:jl E a x->(x,y)∈E->jl E a y
open Classical in
def m7(E:List (Str×Str))(a x:Str):Bool:=decide (jl E a x)
theorem wX{E:List (Str×Str)}{a x:Str}:m7 E a x=true↔jl E a x:=by
 unfold m7;exact@decide_eq_true_iff _ (Classical.propDecidable _)
theorem jm{α:Type}[DecidableEq α]:∀{ks ns:List α},ks.Nodup->(∀x∈ks,x∈ns)->ks.length<=ns.length
 |[],_,_,_=>dO _
 |k::ks,ns,h,hs=>by
  have hk:=hs k b4;have h1:=Jt hk;have h2:0<ns.length:=Ju hk;have h3:=jm (ks:=ks) (ns:=ns.erase k) (hW.mp h).2 λx hx=>by
   have hne:x≠k:=λe=>(hW.mp h).1 (e▸hx);exact(Jw hne).mpr (hs x (cB _ hx))
  simp only[bW];lia
structure gZ(E:List (Str×Str))(ns:List Str)(a:Str)(ks ps:List Str):Prop where
 nd:ks.Nodup
 top:a∈ks
 ok:∀x∈ks,jl E a x
 sub:∀x∈ps,x∈ks
 nm:∀x∈ks,x∈ns
 shut:∀x∈ks,x∉ps->∀y,(x,y)∈E->y∈ks
theorem gZ.start{E:List (Str×Str)}{ns:List Str}{a:Str}(h:a∈ns):gZ E ns a [a] [a] :=
 ⟨by simp,by simp,λx hx=>by rw[b5.mp hx];exact .refl,λx hx=>hx,λx hx=>by rw[b5.mp hx];exact h,λx hx hn=>absurd hx hn⟩
theorem gZ.len{E:List (Str×Str)}{ns:List Str}{a:Str}{ks ps:List Str}(h:gZ E ns a ks ps):ks.length<=ns.length:=jm h.nd h.nm
theorem gZ.all{E:List (Str×Str)}{ns:List Str}{a:Str}{ks:List Str}(h:gZ E ns a ks [])(x:Str):x∈ks↔jl E a x:=by
 refine⟨h.ok x,λr=>?_⟩
 induction r with
 |refl=>exact h.top
 |step _ e ih=>exact h.shut _ ih (by simp) _ e
structure iN(E:List (Str×Str))(ns:List Str)(a s:Str)(D ks ps:List Str):Prop where
 nd:ks.Nodup
 top:a∈ks
 ok:∀x∈ks,jl E a x
 me:s∈ks
 sub:∀x∈ps,x∈ks
 nm:∀x∈ks,x∈ns
 shut:∀x∈ks,x∉ps->x≠s->∀y,(x,y)∈E->y∈ks
 did:∀y∈D,y∈ks
theorem gZ.pop{E:List (Str×Str)}{ns:List Str}{a s:Str}{ks ps:List Str}(h:gZ E ns a ks (ps++[s])):iN E ns a s [] ks ps :=
 ⟨h.nd,h.top,h.ok,h.sub s (by simp),λx hx=>h.sub x (dE _ hx),h.nm,λx hx h1 h2=>h.shut x hx (by simp[h1,h2]),λy hy=>by simp at hy⟩
theorem iN.old{E:List (Str×Str)}{ns:List Str}{a s y:Str}{D ks ps:List Str}(h:iN E ns a s D ks ps)(hy:y∈ks):iN E ns a s (D++[y]) ks ps :=
 ⟨h.nd,h.top,h.ok,h.me,h.sub,h.nm,h.shut,λz hz=>by
  rcases bI.mp hz with q|q
  ·exact h.did z q
  ·rw[b5.mp q];exact hy⟩
theorem iN.new{E:List (Str×Str)}{ns:List Str}{a s y:Str}{D ks ps:List Str}(h:iN E ns a s D ks ps)(hE:(s,y)∈E)(hn:y∈ns)(hy:y∉ks):iN E ns a s (D++[y]) (ks++[y]) (ps++[y]):=by
 refine⟨?_,by simp[h.top],λx hx=>?_,by simp[h.me],λx hx=>?_,λx hx=>?_,λx hx h1 h2 z hz=>?_,λz hz=>?_⟩
 ·rw[uX];refine⟨h.nd,by simp,λp hp q hq=>?_⟩;rw[b5.mp hq];exact λe=>hy (e▸hp)
 ·rcases bI.mp hx with q|q
  ·exact h.ok x q
  ·rw[b5.mp q];exact .step (h.ok s h.me) hE
 ·rcases bI.mp hx with q|q
  ·exact dE _ (h.sub x q)
  ·exact df _ q
 ·rcases bI.mp hx with q|q
  ·exact h.nm x q
  ·rw[b5.mp q];exact hn
 ·rcases bI.mp hx with q|q
  ·exact dE _ (h.shut x q (λz=>h1 (dE _ z)) h2 z hz)
  ·exact absurd (df _ q) h1
 ·rcases bI.mp hz with q|q
  ·exact dE _ (h.did z q)
  ·exact df _ q
theorem iN.done{E:List (Str×Str)}{ns:List Str}{a s:Str}{D ks ps:List Str}(h:iN E ns a s D ks ps)(hD:∀y,(s,y)∈E->y∈D):gZ E ns a ks ps :=
 ⟨h.nd,h.top,h.ok,h.sub,h.nm,λx hx h1 y hy=>by
  by_cases e:x=s
  ·subst e;exact h.did y (hD y hy)
  ·exact h.shut x hx h1 e y hy⟩
def eo(ks:List Str):List (Key×D):=ks.map λx=>(Sum.inr x,D.bl true)
theorem DY(ks:List Str)(x:Str):(dA (eo ks) (.inr x)).isSome=decide (x∈ks):=by
 have e:(eo ks).map (·.1)=ks.map Sum.inr:=by unfold eo;rw[dq];rfl
 rw[eB,decide_eq_true_iff,Option.isSome_iff_ne_none,ne_eq,P0,e,Classical.not_not];constructor
 ·intro h;obtain⟨y,hy,q⟩:=bj.mp h;exact zj q▸hy
 ·intro h;exact bj.mpr ⟨x,h,rfl⟩
theorem Q2{ks:List Str}{x:Str}(h:x∉ks):putD (eo ks) (.inr x) (.bl true)=eo (ks++[x]):=by
 rw[P1]
 ·unfold eo;rw[b6];rfl
 ·intro z;unfold eo at z;rw[dq]at z;obtain⟨y,hy,q⟩:=bj.mp z;exact h (zj q▸hy)
theorem Q4{S:af}{Q:K3}{a:Addr}{xs:List Str}{z:Str}(hS:S a=some (.lst (xs.map D.str)))(q:Q (.bl (!decide (z∈xs))) S):pO true (.str z) (.ref a) S Q :=
 ⟨_,.inl (.inl ⟨a,rfl,hS⟩),rfl,wb xs,by rw[wa,if_pos rfl];exact q⟩
theorem Q5{names:List Str}{p:Str->Bool}:((aN names.length).filter λi=>p (names.getD i "")).map (λi=>D.str (names.getD i ""))=(names.filter p).map D.str:=by
 have e:names=(aN names.length).map λi=>names.getD i "":=by
  apply fj;intro i;rw[aJ];by_cases hi:i<names.length
  ·rw[fB hi,aX hi];simp[bu,hi]
  ·rw[b_ (by lia),b_ (by simpa using hi)];rfl
 conv=>rhs;rw[e,Jx,dq]
 rfl
end E3
namespace EE
open PySem PySem.Spec PyProof.Rows L2
section
variable{X:Cx}
def DZ(K:ak)(n:Nat):R2:=λx y H Q=>∃ds es,DR K H (.tup ds) x/\DR K H (.tup es) y/\cI (.tup ds)<=n/\Q (.bl (!aV (.tup ds) (.tup es))) H
theorem Q6{n:Nat}(hu:X.A.units+n<cLine):ck X (compareOp .NotEq) (DZ X.K n):=by
 intro pins s σ H x y v u Q I rx ry h;obtain⟨ds,es,hd,he,hn,q⟩:=h;have hu':X.A.units<cLine:=by lia
 cases hd with
 |@tup a xs _ p q1 =>
  cases rx;obtain⟨its,rv,ht,_⟩:=I.tuple p;cases he with
  |@tup b ys _ p' q2 =>
   cases ry;obtain⟨its2,j3,eU,_⟩:=I.tuple p';have hdd:d6 ds<=n-1/\1<=n:=by
    simp only[cI]at hn;lia
   have each:∀j (h1:j<its.toArray.size) (h2:j<its2.toArray.size),uC X.A.in1 s its.toArray[j] its2.toArray[j] (gp ds es j):=λj h1 h2=>by
    obtain⟨x,hx,rx⟩:=sa rv h1;obtain⟨y,hy,ry⟩:=sa j3 h2;obtain⟨dx,jQ,oH⟩:=q1.at hx;obtain⟨dy,oI,oJ⟩:=q2.at hy;have As:=vM jQ;have:=(vN I (n-1) X.A.in1 dx dy x y _ _ (by lia) (by rw[units_in1];lia) oH oJ rx ry).2;unfold gp;rw[jQ,oI];exact this
   have e:((aN (min its.toArray.size its2.toArray.size)).all (gp ds es)&&its.toArray.size==its2.toArray.size)=aV (.tup ds) (.tup es):=by
    simp only[aV];rw[r_,q1.len,q2.len,rv.length,j3.length];simp
   have rc:=SeqAt.RcNeAt.tuples ht eU hu' each;rw[e]at rc;exact rc X.prog X.w X.xe _ ⟨.bl _,H,I,rfl,q⟩
end
end EE
namespace E3
open PySem PySem.Spec PyProof.Rows L2 EE
def D4(n:Nat):R3:=λx y S Q=>∃ds es,Dn S x (.tup ds)/\Dn S y (.tup es)/\cI (.tup ds)<=n/\Q (.bl (!aV (.tup ds) (.tup es))) S
theorem Q7{K:ak}{n:Nat}:c_ K (D4 n) (DZ K n):=by
 intro Z x y S Q3 v w H Q rx ry l h c;obtain⟨d,e,h1,h2,hn,q⟩:=h;exact⟨d,e,h1.down l rx,h2.down l ry,hn,c _ S _ H (Kp.refl _ _) (.bl _) l q⟩
end E3
namespace EE
open PySem PySem.Spec PyProof.Rows L2
def Q8(σ:List Str)(v:Str):List Str:=if v∈σ then σ else σ++[v]
def met(vs:List Str):List Str:=vs.foldl Q8 []
end EE
namespace E3
open PySem PySem.Spec PyProof.Rows L2 EE
end E3
namespace EE
open PySem PySem.Spec PyProof.Rows L2
def D5(K:ak)(a:Addr)(n:Nat):It :=
 ⟨λi H=>i<n/\∃xs,aZ K H a xs/\xs.length=n,λi H x H'=>H'=H/\∀xs,aZ K H a xs->xs[n-1-i]?=some x,λi _=>n<=i⟩
theorem Q9{P:Program}{w:World}{K:ak}{tg:Expr}(a it:Addr)(n:Nat):Turn P w K tg (D5 K a n) [it] it (λi h=>i<=n/\h.IsRevIter it a ((n:Int)-1-(i:Int))) where
 mem:=by simp
 obj:=λi h st b hb=>by
  have e:b=it:=by simpa using hb
  subst e;obtain⟨_,o,e,c,d⟩:=st;exact⟨o,e,λv z=>by rw[d]at z;cases z⟩
 keep:=λi h h' st k=>let⟨hi,o,ho,r⟩:=st;⟨hi,o,k it (by simp) o ho,r⟩
 item:=by
  intro X hP hw hK hc i pins s σ H E I hf st hg;subst hP hw hK;obtain⟨hi,xs,hq,hn⟩:=hg;obtain⟨its,rv,p,hz⟩:=I.list hq;have hl:=rv.length;have hx:xs[n-1-i]?=some xs[n-1-i]:=aX (by lia);obtain⟨u,hu,ru⟩:=rv.get hx;obtain⟨f0,f1,f2,f3,f4,f5⟩:=hf it (by simp);have e1:(n:Int)-1-(i:Int)=((n-1-i:Nat):Int):=by lia
  have st2:=st.2;rw[e1]at st2;refine wpAny_pyNext_rev_item st2 p.isList (x:=u) (by simpa using hu) λh' st' sb=>?_;have I1:Inv X pins σ H {s with heap:=h'}:=I.turned (t':=s.toks) (λb o hb e=>(sb.2 b hb).trans e) f0 f1 f3 f4 f5;obtain⟨o,e,c,d⟩:=id st';have e2:((n-1-i:Nat):Int)-1=(n:Int)-1-((i+1:Nat):Int):=by lia
  refine⟨u,rfl,oR (s:={s with heap:=h'}) e c d (by decide) ⟨xs[n-1-i],H,I1,ru,⟨rfl,λys hy=>by rw[I.rB hy hq];exact hx⟩,⟨hi,?_⟩,λb hb=>(hf b hb).1⟩⟩;rw[<-e2];exact st'
 done:=by
  intro X hP hw hK hc i pins s σ H E I hf st hg;subst hP hw hK;obtain⟨f0,f1,f2,f3,f4,f5⟩:=hf it (by simp);have hg':n<=i:=hg;have e1:(n:Int)-1-(i:Int)=-1:=by have:=st.1;lia
  have st2:=st.2;rw[e1]at st2;exact wpAny_pyNext_rev_end (I.ok.hd hc) st2 λh' eb=>⟨rfl,I.turned (t':=s.toks) (λb o hb e=>eb b o hb e) f0 f1 f3 f4 f5⟩
 self:=λ_ _ _ _ _ st h=>Jy st.2 h
def Q_(K:ak)(te:TA):TI:=λσ H R=>te σ H λvs H1=>∃a xs,vs=[.ref a]/\aZ K H1 a xs/\R (D5 K a xs.length) H1
theorem Ra{X:Cx}{tg a:Expr}{ta:TA}{p pos:Pos}(hg:Gl X "reversed")(hm:X.mg "reversed"=none)(ha:PA X [a] ta)(hs:starEach [a] X.env=[(false,eval a X.env)]:=by rfl):PI X tg (.Call (.Name "reversed" p) [a] [] pos) (Q_ X.K ta):=by
 intro pins s σ H R I h;refine Call_ (iq I hg hm BM (jH (aK (ha pos pins s σ H _ I h) λus s1 ⟨vs,H1,I1,r1,q1⟩=>?_) hs rfl));obtain⟨b,xs,e,hq,q⟩:=q1;subst e;cases r1 with
 |cons r rr =>
  cases rr;cases r;obtain⟨its,rv,pt,hz⟩:=I1.list hq;have hl:=rv.length;refine call_reversed_list pt.isList ?_;have I2:Inv X pins σ H1 {s1 with heap:=s1.heap.push (revObj b ((its.toArray.size:Int)-1))}:=I1.kept (t':=s1.toks) λc o e=>bt _ e;have st:(s1.heap.push (revObj b ((its.toArray.size:Int)-1))).IsRevIter s1.heap.objs.size b ((its.toArray.size:Int)-1):=⟨_,c7 _ rfl,rfl,rfl⟩;refine Jy st ?_;have e1:(its.toArray.size:Int)-1=(xs.length:Int)-1-((0:Nat):Int):=by simp only[bM];lia
  refine⟨s1.heap.objs.size,[s1.heap.objs.size],_,_,H1,rfl,I2,Q9 b _ xs.length,⟨dO _,by rw[<-e1];exact st⟩,λc hc=>?_,q⟩;have e:c=s1.heap.objs.size:=by simpa using hc
  subst e;exact I1.i9 (aQ _) (I1.hok.fresh (aQ _))
end EE
namespace E3
open PySem PySem.Spec PyProof.Rows L2 EE
section
variable{X:Cx}{W3:bF}{tg:Expr}{pos:Pos}
def D6(ta:cb):dQ:=λσ S R=>ta σ S λxs S1=>∃a ds,xs=[.ref a]/\S1 a=some (.lst ds)/\R ds.reverse (λS=>S a=some (.lst ds)) S1
theorem D7{a:Expr}{ta:cb}{p:Pos}(hg:Gl X "reversed")(hm:X.mg "reversed"=none)(ha:d7 X W3 [a] ta)(hs:starEach [a] X.env=[(false,eval a X.env)]:=by rfl):eK X W3 tg (.Call (.Name "reversed" p) [a] [] pos) (D6 ta) :=
 λZ=>PI.imp (Ra hg hm (ha Z) hs) λτ H R bX=>by
 obtain⟨σ,S,R3,hs,hr,ht,hc⟩:=bX;refine⟨σ,S,_,hs,hr,ht,λxs S1 pB H1 k1 r1 l1 q1=>?_⟩;obtain⟨b,ds,rfl,e,q⟩:=q1;cases r1 with
 |cons r1 rr =>
  cases rr;cases r1;obtain⟨vs,h1,h2⟩:=l1.obj b _ e;have hl:=h2.len;refine⟨b,vs,rfl,aZ.of h1,hc _ _ S1 _ H1 k1 l1 q ⟨λi d S2 H2 k2 l2 al hd=>?_,λS2 H2 k2 l2 al=>?_⟩⟩
  ·have hi:i<ds.length:=by
    have:=(cT.mp hd).1;simpa using this
   rw[zU hi]at hd;obtain⟨ws,h3,h4⟩:=l2.obj b _ al;have hl4:=h4.len;obtain⟨v,hv,rv⟩:=h4.at hd;rw[hl]at hv;refine⟨⟨by lia,ws,aZ.of h3,by lia⟩,λv' H' y=>?_⟩;obtain⟨rfl,y⟩:=y;have:=y ws (aZ.of h3);rw[hv]at this;cases this;exact⟨Kp.refl _ _,rv,λ_ z=>z,λ_ _=>rfl⟩
  ·show vs.length<=ds.reverse.length;rw[oo,hl];exact aQ _
end
end E3
namespace EE
open PySem PySem.Spec PyProof.Rows L2
theorem kj:∀(names:List (Str×NameKind)) (n:Nat) (acc:List (Str×Addr)),cellsFrom n names acc=cellsFrom n names []++acc
 |[],_,_=>rfl
 |(y,k)::r,n,acc=>by
  unfold cellsFrom
  split
  ·rw[kj r (n+1) ((y,n)::acc),kj r (n+1) [(y,n)],uY];rfl
  ·exact kj r n acc
theorem wY:∀(names:List (Str×NameKind)) (n:Nat) (y:Str) (c:Addr),(y,c)∈cellsFrom n names []->(y,NameKind.cell)∈names
 |[],_,_,_,h=>by cases h
 |(x,k)::r,n,y,c,h=>by
  unfold cellsFrom at h
  split at h
  ·rename_i hk
   rw[kj,bI]at h;rcases h with h|h
   ·exact cB _ (wY r _ y c h)
   ·have e:(y,c)=(x,n):=by simpa using h
    cases e;rw[show k=NameKind.cell by simpa using hk];exact b4
  ·exact cB _ (wY r n y c h)
theorem Rb{M:Model}{A:Around}{E:Value->Shared->Prop}{s:Shared}{scope:Scope}{globals:Addr}{cl:List (Str×Addr)}{qual:Str}{func:Option Addr}{code:Value}{env:Env}{Q:Env->Shared->Prop}(_hk:scope.kind=.function)
 (hQ:∀h',h'.Ns s.heap.objs.size (λ_=>none)->(∀b o,s.heap.get? b=some o->h'.get? b=some o)->CellsOk h' (s.heap.objs.size+1) (cellsFrom (s.heap.objs.size+1) scope.names []) ->
  Q {scope:=scope,locals:=s.heap.objs.size,globals:=globals,cells:=cellsFrom (s.heap.objs.size+1) scope.names cl,qual:=qual,func:=func,code:=env.code,frame:=env.frame,builtins:=env.builtins} {s with heap:=h'}) :
 wpAny M A (newFunctionEnv scope globals cl [] qual func code (some env)) Q E s:=by
 simp only[newFunctionEnv,zN,if_true];refine ah (wpAny_alloc ?_);refine ah (wpAny_layCells _ (λname kind cells=>by cases hkc:kind==NameKind.cell<;>simp[hkc]) _ _ _ _ ?_);have ok:=cellsFrom_ok scope.names (s.heap.push {cls:=.type "dict",data:=.dict #[]}) (s.heap.objs.size+1) [] ⟨λ_ _ hm=>(nomatch hm),List.Pairwise.nil⟩ (by rw[ig];exact aQ _);rw[ig]at ok;rw[show({s with heap:=s.heap.push {cls:=.type "dict",data:=.dict #[]}}:Shared).heap.objs.size=s.heap.objs.size+1 from ig ..];refine ah (az (az ?_));exact hQ _ ((Heap.Ns.new s.heap (.type "dict")).keeps (pushCells_keeps _ _)) (λb o e=>pushCells_keeps _ _ b o (bt _ e)) ok
structure dU(bE:Scope)(O M:List Str)(scope:Scope):Prop where
 kind:scope.kind=.function
 cell:∀y∈scope.names,y.2=.cell->scope.names.lookup y.1=some .cell
 names:∀y∈scope.names,y.2=.local->scope.names.lookup y.1=some .local
 free:∀y∈scope.names,y.2=.free->bE.names.lookup y.1=some .cell
 nd:(O++M).Nodup
 mine:∀y∈M,scope.names.lookup y=some .free
def bx(X:Cx)(scope:Scope)(C:Addr)(N:List Str)(fp:List Addr)(pins:List (Addr×Obj))(s:Shared)(H:Hp):Cx :=
 {vP X scope C N fp pins s H with env:=compEnvC scope (cellsFrom (C+1) scope.names (gq scope X.env)) C X.env,fn:=λy=>scope.names.lookup y==some .cell}
section
variable{X:Cx}{pins:List (Addr×Obj)}{σ:L2.St}{H:Hp}{s:Shared}{scope:Scope}{O M:List Str}{js:List Nat}{C:Addr}{fp:List Addr}
theorem dU.cells(S:dU X.env.scope O M scope)(I:Inv X pins σ H s):∀y∈scope.names,y.2=.free->∃c,X.env.cells.lookup y.1=some c:=λy hy hk=>I.ok.has y.1 (.inl (S.free y hy hk))
theorem dU.sub(S:dU X.env.scope O M scope)(I:Inv X pins σ H s){y:Str}{c:Addr}(e:(gq scope X.env).lookup y=some c):X.env.cells.lookup y=some c :=
 BF scope.names [] (S.cells I) (λ_ _ h=>by simp at h) y c e
theorem dU.get(S:dU X.env.scope O M scope)(I:Inv X pins σ H s){s1:Shared}(ok:CellsOk s1.heap (C+1) (cellsFrom (C+1) scope.names [])){y:Str}{c:Addr}(e:(cellsFrom (C+1) scope.names (gq scope X.env)).lookup y=some c) :
 ((y,c)∈cellsFrom (C+1) scope.names []/\(s1.heap.IsCell c none/\C+1<=c))∨X.env.cells.lookup y=some c:=by
 rw[kj,uZ]at e;cases q:(cellsFrom (C+1) scope.names []).lookup y with
 |none=>rw[q]at e;exact .inr (S.sub I (by simpa using e))
 |some c' =>
  rw[q]at e;have e':c'=c:=by simpa using e
  subst e';exact .inl ⟨hX q,ok.empty y c' (hX q)⟩
theorem Rc{s1:Shared}{m:Str->Option Value}(S:dU X.env.scope O M scope)(hc:X.calm=true)(I:Inv X pins σ H s)(hjs:∀(k:Nat) (y:Str),M[k]?=some y->∃j:Nat,js[k]?=some j/\X.N[j]?=some y)(hlen:js.length=M.length)
 (hf:∀b∈fp,du X pins H b) (hfl:∀b∈fp,b<s.heap.objs.size) (hC:s.heap.objs.size<=C) (hn:s1.heap.Ns C m) (hk:∀b o,s.heap.get? b=some o->s1.heap.get? b=some o)
 (ok:CellsOk s1.heap (C+1) (cellsFrom (C+1) scope.names [])) (hos:s1.os=s.os) (hg:AllBare s1.gens) :
 Inv (bx X scope C (O++M) fp pins s H) [] (eR O.length none++pick σ js) H s1:=by
 have Rg:∀b∈fp,b∉frs X.stack:=λb hb z=>by
  obtain⟨f0,f1,f2,_⟩:=hf b hb;rcases a8.mp (I.rj b z) with e|e
  ·exact f1 e
  ·exact f2 e
 have cellK:∀(c:Addr) (v:Option Value),s.heap.IsCell c v->s1.heap.IsCell c v:=λc v bX=>by obtain⟨o,e,d⟩:=bX;exact⟨o,hk c o e,d⟩
 have old:∀{y:Str} {c:Addr},X.env.cells.lookup y=some c->c<C+1:=λ{y c} e=>by
  obtain⟨v,o,q,_⟩:=I.cell y c e;exact Nat.lt_succ_of_lt (cR (bg q) hC)
 have some_of:∀{y:Str},((∃c,(cellsFrom (C+1) scope.names []).lookup y=some c)∨∃c,(gq scope X.env).lookup y=some c)->∃c,(cellsFrom (C+1) scope.names (gq scope X.env)).lookup y=some c:=λ{y} h=>by
  rw[kj,uZ];cases q:(cellsFrom (C+1) scope.names []).lookup y with
  |some c=>exact⟨c,by simp⟩
  |none =>
   rcases h with⟨c,h⟩|⟨c,h⟩
   ·rw[q]at h;cases h
   ·exact⟨c,by simpa using h⟩
 refine⟨⟨I.ok.mod,S.kind,I.ok.glob,I.ok.blt,hC,λy z c h1 h2=>?_,λy hy=>?_,λy c h e=>?_,λ_=>I.ok.hd hc,I.ok.frames,.inl rfl,λb hb=>?_,I.bs,
  bR I.ok.gk I.sz,λb o e hb=>?_,Rg,I.stack,I.rm⟩,hos,hg,Un.kept hk,⟨m,hn,λi y v h1 h2 h3=>?_⟩,λy c e=>?_,I.hok.fresh hC,λy c e=>?_,λp hp=>?_,I.hok.kept hk,?_⟩
 ·rcases S.get I ok h1 with⟨m1,g1⟩|o1<;>rcases S.get I ok h2 with⟨m2,g2⟩|o2
  ·exact name_of_addr ok.apart m1 m2
  ·exact absurd g1.2 (Nat.not_le.mpr (old o2))
  ·exact absurd g2.2 (Nat.not_le.mpr (old o1))
  ·exact I.ok.inj y z c o1 o2
 ·have hy':(relabel scope X.env).names.lookup y=some .cell∨(relabel scope X.env).names.lookup y=some .free:=hy;have cl:(y,NameKind.cell)∈scope.names->∃c,(cellsFrom (C+1) scope.names []).lookup y=some c:=λmm =>
   ux.mp (uw _ _ _ (.inl (S.cell _ mm rfl)))
  have fr:(y,NameKind.cell)∈scope.names∨(y,NameKind.free)∈scope.names:=by
   rcases hy' with h|h
   ·obtain⟨k',mm,e|e⟩:=BG h
    ·rw[<-e]at mm;exact .inl mm
    ·rw[e.1]at mm;exact .inr mm
   ·obtain⟨k',mm,e|e⟩:=BG h
    ·rw[<-e]at mm;exact .inr mm
    ·exact absurd e.2 (by intro z;cases z)
  rcases fr with fr|fr
  ·exact some_of (.inl (cl fr))
  ·exact some_of (.inr (vO scope.names [] y (.inl fr)))
 ·have h':scope.names.lookup y=some .cell:=by simpa[bx]using h
  obtain⟨c',q⟩:=ux.mp (uw scope.names (C+1) [] (.inl h'));have e':(cellsFrom (C+1) scope.names (gq scope X.env)).lookup y=some c:=e;rw[kj,uZ,q]at e';have e2:c'=c:=by simpa using e'
  subst e2;exact bR hC (lY (ok.empty y c' (hX q)).2)
 ·obtain⟨f0,f1,f2,f3,f4,f5⟩:=hf b hb;refine⟨cS (cR (hfl b hb) hC),λy c e=>?_⟩;rcases S.get I ok e with⟨_,h⟩|h
  ·exact λz=>iS _ (cR (cR (hfl b hb) hC) (z▸lY h.2))
  ·exact f4 y c h
 ·obtain⟨f0,f1,f2,f3,f4,f5⟩:=hf b hb;rcases f3 with f3|f3
  ·exact I.ok.jS b o e f3
  ·exact absurd (bg e) (Nat.not_lt.mpr (bR I.ok.gk f3))
 ·have wZ:(O++M)[i]?=some y:=h1;by_cases hi:i<O.length
  ·rw[zr (by simpa using hi),Iu,if_pos hi]at h2;have h2':(none:Option V)=some v:=dD h2;cases h2'
  ·have hge:O.length<=i:=IQ hi;rw[zq hge]at wZ;rw[zq (by simpa using hge),Iw]at h2;obtain⟨j,ej,eN⟩:=hjs _ y wZ;have Rh:σ[j]?=some (some v):=by
    unfold pick at h2;rw[aJ,ej]at h2;have z:(σ[j]?).getD none=some v:=by simpa using h2
    cases q:σ[j]? with
    |none=>rw[q]at z;cases z
    |some o=>rw[q]at z;rw[show o=some v from z]
   have hfree:=S.mine y (cU wZ);have hcell:X.env.kindOf y=some .cell:=S.free (y,.free) (hX hfree) rfl;obtain⟨m0,_,hl0⟩:=I.loc;obtain⟨u,r,l⟩:=hl0 j y v eN Rh (.inr (.inl hcell));refine⟨u,r,.inr ⟨.inl (MX I.ok.kind hcell hfree),?_⟩⟩;obtain⟨c',e'⟩:=vO (env:=X.env) scope.names [] y (.inl (hX hfree));have e2:=S.sub I (show(gq scope X.env).lookup y=some c' from e');have e3:(cellsFrom (C+1) scope.names (gq scope X.env)).lookup y=some c':=by
    rw[kj,uZ];cases q:(cellsFrom (C+1) scope.names []).lookup y with
    |none=>exact e'
    |some c2 =>
     have:=S.cell _ (wY _ _ _ _ (hX q)) rfl;rw[hfree]at this;cases this
   rcases l with⟨z,_⟩|⟨_,c,hcc,hic⟩
   ·rw[hcell]at z;cases z
   ·rw[hcc]at e2;have:c=c':=dD e2;subst this;exact⟨c,e3,cellK c _ hic⟩
 ·rcases S.get I ok e with⟨_,h⟩|h
  ·exact⟨none,h.1⟩
  ·obtain⟨v,h⟩:=I.cell y c h;exact⟨v,cellK c v h⟩
 ·rcases S.get I ok e with⟨_,h⟩|h
  ·exact I.hok.fresh (bR hC (lY h.2))
  ·exact I.eG y c h
 ·have hp':p∈X.pn++pins:=by simpa[bx,vP]using hp
  obtain⟨e,n,ne,nf,d⟩:=I.pin p hp';refine⟨hk _ _ e,n,cS (cR (bg e) hC),λz=>?_,d⟩;rcases a8.mp (I.rj p.1 z) with q|q
  ·exact ne q
  ·exact nf q
 ·show(eR O.length none++pick σ js).length=(O++M).length;simp[pick,hlen]
theorem D8{N:List Str}{gm:List (Addr×Obj)}{σ':L2.St}{H':Hp}{s':Shared}{h':Heap}(I:Inv X pins σ H s)(hf:∀b∈fp,du X pins H b)(J:Inv (bx X scope C N fp pins s H) gm σ' H' s')
 (hC:s.heap.objs.size<=C) (hs:fh C s'.heap h'):Inv X pins σ H' {s' with heap:=h'}:=by
 have u0:Un (frs X.stack) fp H H' s.heap s'.heap:=J.base;have nC:∀b o,s.heap.get? b=some o->b≠C:=λb o e z=>absurd (bg e) (by rw[z];exact Nat.not_lt.mpr hC);have u:Un (frs X.stack) fp H H' s.heap h':=⟨λb o e n hb hx=>(hs.2 b (nC b o e)).trans (u0.keep b o e n hb hx),λb o e n hb hx=>let⟨sl,q⟩:=u0.slot b o e n hb hx;⟨sl,(hs.2 b (nC b o e)).trans q⟩,u0.free,
  λb o e hx=>let⟨o',q⟩:=u0.there b o e hx;⟨o',(hs.2 b (nC b o e)).trans q⟩,u0.tups,u0.fk,u0.fT⟩
 have fC:H' C=none:=J.free;have hok:bS X.prog X.w H' h':=λb ob e=>(J.hok b ob e).stay (λc w hc q=>(hs.2 c (λz=>by
  subst z;rcases hc with z|z
  ·rw[<-z,fC]at e;cases e
  ·rw[fC]at z;cases z)).trans q) (λ_ q=>q) λ_ _ q=>q
 exact I.oP (s':={s' with heap:=h'}) (ch:=fp) J.os u hok J.bare λb hb=>by
  obtain⟨f0,f1,f2,f3,f4,f5⟩:=hf b hb;exact⟨f3,f1,f4,f5⟩
end
section
variable{X:Cx}{elt iter tg:Expr}{ifs:List Expr}{pos:Pos}{scope:Scope}{O M:List Str}{js:List Nat}{wi:TI}{g:TG}{tt:TT}{te:TE}
theorem D9{pins:List (Addr×Obj)}{σ:L2.St}{H2:Hp}{s2:Shared}{it D:Addr}{fp:List Addr}{tn:Nat->Heap->Prop}{J:It}{W:Nat->Nat->L2.St->Hp->Prop}{Qe:Hp->Prop}{R:Addr->Result->Shared->Prop}{E:Value->Shared->Prop}{m0:Nat}
 (S:dU X.env.scope O M scope) (hc:X.calm=true) (hjs:∀(k:Nat) (y:Str),M[k]?=some y->∃j:Nat,js[k]?=some j/\X.N[j]?=some y) (hlen:js.length=M.length)
 (hg:∀(C:Addr) (fp:List Addr) (pins:List (Addr×Obj)) (s:Shared) (H:Hp),PG (bx X scope C (O++M) fp pins s H) tg g)
 (ht:∀(C:Addr) (fp:List Addr) (pins:List (Addr×Obj)) (s:Shared) (H:Hp),lb (bx X scope C (O++M) fp pins s H) ifs tt)
 (he:∀(C:Addr) (fp:List Addr) (pins:List (Addr×Obj)) (s:Shared) (H:Hp),PE (bx X scope C (O++M) fp pins s H) elt te)
 (I:Inv X pins σ H2 s2) (T:Turn X.prog X.w X.K tg J fp it tn) (st:tn 0 s2.heap) (hf:∀b∈fp,du X pins H2 b) (w0:W 0 m0 (eR O.length none++pick σ js) H2)
 (turn:∀i m τ H3,W i m τ H3->(J.stop i H3/\Qe H3)∨(J.go i H3/\∃N:L2.St->Hp->Prop,(∀aP H',N aP H'->∃m',m'<m/\W (i+1) m' aP H')/\∀v H',J.jW i H3 v H' ->
  g v τ H' λaP H4=>tt aP H4 λb H5=>if b=true then te aP H5 λy H6=>∃ys,H6 D=some (.lst ys)/\ys.length<sizeLine/\N aP (upd H6 D (.lst (ys++[y]))) else N aP H5))
 (fin:∀(C:Addr) (s':Shared) (H':Hp) (gm:List (Addr×Obj)) (σ':L2.St),s2.heap.objs.size<=C->Inv (bx X scope C (O++M) fp pins s2 H2) gm σ' H' s'->Qe H'->R C (.ok .next) s') :
 wpAny (model X.prog X.w) X.A (newFunctionEnv scope X.env.globals (gq scope X.env) [] X.env.qual none .none (some X.env)) (λcenv s4 =>
  codeAny (model X.prog X.w) X.A (.compStart (.ListComp elt [⟨tg,iter,ifs,0⟩] scope pos) 0 (.ref it) (.ref D) {cenv with scope:=relabel scope X.env}) (R cenv.locals) s4) E s2:=by
 refine Rb S.kind λh1 hns old ok=>?_;have hfl:∀b∈fp,b<s2.heap.objs.size:=λb hb=>by
  obtain⟨o,e,_⟩:=T.obj 0 _ st b hb;exact bg e
 have I4:Inv (bx X scope s2.heap.objs.size (O++M) fp pins s2 H2) [] (eR O.length none++pick σ js) H2 {s2 with heap:=h1} :=
  Rc S hc I hjs hlen hf hfl (aQ _) hns old ok rfl I.bare
 have lg:tn 0 h1:=T.keep _ _ _ st λb hb o e=>old b o e;have kM:∀{H':Hp},(∀b∈fp,H' b=none)->∀b∈fp,du (bx X scope s2.heap.objs.size (O++M) fp pins s2 H2) [] H' b:=λ{H'} hn b hb=>by
  obtain⟨f0,f1,f2,f3,f4,f5⟩:=hf b hb;refine⟨hn b hb,cS (hfl b hb),I4.ok.jT b hb,.inl hb,λy c e=>?_,λp hp=>f5 p ?_⟩
  ·rcases S.get (s1:={s2 with heap:=h1}) I ok e with⟨_,h⟩|h
   ·exact λz=>iS _ (cR (hfl b hb) (z▸lY h.2))
   ·exact f4 y c h
  ·simpa[bx,vP]using hp
 have loop:∀s3:Shared,s3={s2 with heap:=h1} ->
  codeAny (model X.prog X.w) X.A (.compLoop (.ListComp elt [⟨tg,iter,ifs,0⟩] scope pos) 0 (.ref it) (.ref D) (compEnvC scope (cellsFrom (s2.heap.objs.size+1) scope.names (gq scope X.env)) s2.heap.objs.size X.env)) (R s2.heap.objs.size) s3:=by
  rintro s3 rfl;refine P7 (λn s'=>∃(i:Nat) (τ:L2.St) (H':Hp),Inv (bx X scope s2.heap.objs.size (O++M) fp pins s2 H2) [] τ H' s'/\tn i s'.heap/\(∀b∈fp,H' b=none)/\W i n τ H') ?_ m0
   ⟨0,_,H2,I4,lg,λb hb=>(hf b hb).1,w0⟩
  rintro n s5 ⟨i,τ,H5,I5,mq,rG,w5⟩;rcases turn i n τ H5 w5 with⟨stop,qe⟩|⟨go,N,hN,step⟩
  ·refine aK (T.done (bx X scope s2.heap.objs.size (O++M) fp pins s2 H2) rfl rfl rfl rfl i [] s5 _ H5 (λ_ _=>False) I5 (kM rG) mq stop) λr s6 ⟨hr,I6⟩=>?_;subst hr;exact fin _ s6 H5 [] _ (aQ _) I6 qe
  ·refine aK (T.item (bx X scope s2.heap.objs.size (O++M) fp pins s2 H2) rfl rfl rfl rfl i [] s5 _ H5 (λ_ _=>False) I5 (kM rG) mq go) λr s6 ⟨u,hr,h6⟩=>?_;subst hr;refine aK h6 λ_ s7 ⟨v,H7,I7,r7,y7,w4,Ri⟩=>?_;have Rj:=I7.pinned (kM Ri) (T.obj _ _ w4);have back:∀{σ9:L2.St} {H9:Hp} {s9:Shared},Inv (bx X scope s2.heap.objs.size (O++M) fp pins s2 H2) ([]++oU fp s7.heap) σ9 H9 s9->N σ9 H9 ->
    ∃m,m<n/\∃(i:Nat) (τ:L2.St) (H':Hp),Inv (bx X scope s2.heap.objs.size (O++M) fp pins s2 H2) [] τ H' s9/\tn i s9.heap/\(∀b∈fp,H' b=none)/\W i m τ H':=by
    intro σ9 H9 s9 I9 n9;obtain⟨m',hm,Rk⟩:=hN σ9 H9 n9;refine⟨m',hm,i+1,σ9,H9,I9.rF,T.keep _ _ _ w4 λb hb o e=>(I9.pin (b,o) (df _ (df _ (rE hb e)))).1,λb hb=>?_,Rk⟩;obtain⟨o,e,d⟩:=T.obj _ _ w4 b hb;exact(I9.pin (b,o) (df _ (df _ (rE hb e)))).2.1
   refine aK (hg s2.heap.objs.size fp pins s2 H2 _ s7 _ H7 v u _ Rj r7 (step v H7 y7)) λ_ s8 ⟨Rm,H8,I8,q8⟩=>?_;refine aK (ht s2.heap.objs.size fp pins s2 H2 _ s8 _ H8 _ I8 q8) λok s9 ⟨H9,I9,q9⟩=>?_;cases ok with
   |false=>exact back I9 q9
   |true =>
    refine aK (he s2.heap.objs.size fp pins s2 H2 _ s9 _ H9 _ I9 q9) λyv Rn ⟨y,Ro,Rq,r10,ys,hD,hz,Rr⟩=>?_;refine aK (dZ (X:=bx X scope s2.heap.objs.size (O++M) fp pins s2 H2) _ Rn _ Ro (.ref D) [y] (.ref D) [yv] (λ_ H'=>N Rm H') Rq rfl (.cons r10 .nil) ⟨D,ys,y,rfl,rfl,hD,hz,Rr⟩) λ_ s11 ⟨_,H11,Rt,_,Ru⟩=>?_;exact back Rt Ru
 exact codeAny_compStart_list (loop _ rfl) (eQ (T.self X.A 0 _ _ _ lg (loop _ rfl)) (λ_ _ z=>z) λ_ _ z=>z)
theorem D_(S:dU X.env.scope O M scope)(hc:X.calm=true)(hjs:∀(k:Nat) (y:Str),M[k]?=some y->∃j:Nat,js[k]?=some j/\X.N[j]?=some y)(hlen:js.length=M.length)(hi:PI X tg iter wi)
 (hg:∀(C:Addr) (fp:List Addr) (pins:List (Addr×Obj)) (s:Shared) (H:Hp),PG (bx X scope C (O++M) fp pins s H) tg g)
 (ht:∀(C:Addr) (fp:List Addr) (pins:List (Addr×Obj)) (s:Shared) (H:Hp),lb (bx X scope C (O++M) fp pins s H) ifs tt)
 (he:∀(C:Addr) (fp:List Addr) (pins:List (Addr×Obj)) (s:Shared) (H:Hp),PE (bx X scope C (O++M) fp pins s H) elt te) (hs:∀v,foldedSetIterable iter X.env v=pure v:=by intro _;rfl) :
 PE X (.ListComp elt [⟨tg,iter,ifs,0⟩] scope pos) (tz wi g tt te O.length js):=by
 intro pins s σ H Q I h;rw[eval_ListComp];refine Jz (use:=none) rfl hs (BE (S.cells I)) S.kind S.names (aK (hi pins s σ H _ I h) λxv s1 h1=>aK h1 λitv s2 h2=>?_);obtain⟨it,fp,tn,J,H1,rfl,I2,T,st2,f2,q⟩:=h2;refine h_ ?_ (by show 0<=sizeLine;decide);have hD:H1 s2.heap.objs.size=none:=I2.hok.fresh (aQ _);obtain⟨W,⟨m0,w0⟩,turn⟩:=q _ hD;have I3:Inv X pins σ (upd H1 s2.heap.objs.size (.lst [])) {s2 with heap:=s2.heap.push {cls:=.type "list",data:=.seq ([]:List Value).toArray}}:=I2.rT (t':=s2.toks) .nil (dO _);have gK:∀b∈fp,du X pins (upd H1 s2.heap.objs.size (.lst [])) b:=λb hb=>by
  obtain⟨f0,f⟩:=f2 b hb;obtain⟨o,e,_⟩:=T.obj 0 _ st2 b hb;exact⟨by rw[aY (cS (bg e))];exact f0,f⟩
 refine D9 (Qe:=λH'=>Q (.ref s2.heap.objs.size) H') (R:=λC=>compPost (model X.prog X.w) X.A X.xe none (EP X pins σ Q) (.ref s2.heap.objs.size) C) S hc hjs hlen hg ht he I3 T (T.keep _ _ _ st2 λb hb o e=>bt _ e) gK w0 turn ?_;intro C s' H' gm σ' hC Jv qe;obtain⟨m,hn,_⟩:=Jv.loc;exact⟨m,hn,λh' hs'=>⟨.ref _,H',D8 I3 gK Jv hC hs',rfl,qe⟩⟩
end
end EE
namespace E3
open PySem PySem.Spec PyProof.Rows L2 EE
section
variable{X:Cx}{W3:bF}{elt iter tg:Expr}{ifs:List Expr}{x x':Str}{px tO pos tp:Pos}{kt:Nat}{scope bE:Scope}{O M N:List Str}{js:List Nat}{wi:dQ}{g:e_}{Sh:D->aE->Prop}{tt:b7}{te:aD}
theorem Rv{scope:Scope}{env:Env}{y:Str}(h:scope.names.lookup y=some .cell):(relabel scope env).names.lookup y=some .cell:=by
 have go:∀(l:List (Str×NameKind)),l.lookup y=some .cell->(l.map λ(n,k)=>if(k == .free&&env.scope.kind == .function&&env.kindOf n==some .cell) then(n,NameKind.cell) else(n,k)).lookup y=some .cell:=by
  intro l
  induction l with
  |nil=>intro h;simp at h
  |cons a r ih =>
   obtain⟨n,k0⟩:=a;intro h;rw[ba];by_cases hy:y=n
   ·subst hy;simp only[gF,beq_self_eq_true,jJ]at h;subst h;simp
   ·have hb:(y==n)=false:=by simpa using hy
    simp only[gF,hb]at h;by_cases hcc:(k0==NameKind.free&&env.scope.kind == .function&&env.kindOf n==some .cell)=true
    ·simp only[hcc,if_true,gF,hb];exact ih h
    ·dsimp only;rw[if_neg hcc];simp only[gF,hb];exact ih h
 exact go scope.names h
theorem Rw(S:dU bE [x] M scope)(hx:scope.names.lookup x=some .cell)(hjs:M.map some=js.map λj=>N[j]?)(hc:X.calm=true)(hi:eK X W3 (.Name x px) iter wi)
 (ht:∀(C:Addr) (fp:List Addr) (pins:List (Addr×Obj)) (s:Shared) (H:Hp),gY (bx X scope C ([x]++M) fp pins s H) ifs tt)
 (he:∀(C:Addr) (fp:List Addr) (pins:List (Addr×Obj)) (s:Shared) (H:Hp),aF (bx X scope C ([x]++M) fp pins s H) cJ elt te)
 (fX:X.env.scope=bE:=by rfl) (hN:X.N=N:=by rfl) (hs:∀v,foldedSetIterable iter X.env v=pure v:=by intro _;rfl) :
 aF X W3 (.ListComp elt [⟨.Name x px,iter,ifs,0⟩] scope pos) (iJ wi iI tt te js):=λZ=>by
 subst fX hN;have hg:∀(C:Addr) (fp:List Addr) (pins:List (Addr×Obj)) (s:Shared) (H:Hp),gx (bx X scope C ([x]++M) fp pins s H) cJ (.Name x px) (iB 0):=λC fp pins s H =>
  cA (i:=0) S.nd rfl (.inr (Rv hx)) (.inl (by show(scope.names.lookup x==some .cell)=true;rw[hx];rfl))
 exact PE.imp (D_ S hc (mC hjs).1 (mC hjs).2 (hi Z) (λC fp pins s H=>(hg C fp pins s H).ex) (λC fp pins s H=>(ht C fp pins s H).ex) (λC fp pins s H=>(he C fp pins s H).ex) hs) λ_ _ _ h=>tI tH h
def D'(scope bE:Scope):Scope:={scope with names:=scope.names.map λ(n,k)=>if(k == .free&&bE.kind == .function&&bE.names.lookup n==some .cell) then(n,.cell) else(n,k)}
end
section
variable{σ:aE}{Q:K3}{js:List Nat}{te:aD}{Sh:D->aE->Prop}
theorem qb{ds:List D}{Al:af->Prop}{S1:af}(f:Nat->D)(hz:ds.length<=10000)(hA:∀S,Sub S1 S->Al S)
 (h:∀i d S,ds[i]?=some d->Sub S1 S->∃ρ,Sh d ρ/\∀P:K3,(∀S',Sub S S'->P (f i) S')->te (ρ++cW σ js) S P) (q:∀S,Sub S1 S->cC S ((aN ds.length).map f) Q) :
 ∃W:Nat->List D->af->Prop,W 0 [] S1/\(∀i ys S,W i ys S->Al S/\ys.length<sizeLine) /\
 (∀i d ys S,ds[i]?=some d->W i ys S->∃ρ,Sh d ρ/\kh (ρ++cW σ js) S λb S2=>if b=true then te (ρ++cW σ js) S2 λy S3=>W (i+1) (ys++[y]) S3 else W (i+1) ys S2)/\∀ys S,W ds.length ys S->cC S ys Q:=by
 refine⟨λi ys S=>i<=ds.length/\ys=(aN i).map f/\Sub S1 S,⟨dO _,rfl,Sub.refl _⟩,?_,?_,?_⟩
 ·rintro i ys S ⟨hi,rfl,hs⟩;refine⟨hA S hs,?_⟩;rw[ay,qO];exact qN (bR hi hz) (by decide)
 ·rintro i d ys S hd ⟨hi,rfl,hs⟩;obtain⟨ρ,p8,h⟩:=h i d S hd hs;refine⟨ρ,p8,DJ ?_⟩;rw[if_pos rfl];refine h _ λS' hs'=>⟨(cT.mp hd).1,?_,hs.trans hs'⟩;rw[qX,b6];rfl
 ·rintro ys S ⟨_,rfl,hs⟩;exact q S hs
end
end E3
namespace EE
open PySem PySem.Spec PyProof.Rows L2
section
variable{X:Cx}
def Ea(K:ak):R2:=λx y H Q=>∃a b xs ys,x=.ref a/\y=.ref b/\a9 K H a xs/\a9 K H b ys/\xs.length+ys.length<=sizeLine /\
 (xs=[]->Q (.ref b) H)/\(xs≠[]->(ys=[]->Q (.ref a) H)/\(ys≠[]->∀p,H p=none->Q (.ref p) (upd H p (.tup (xs++ys)))))
theorem Eb:ck X (binaryOp .Add) (Ea X.K):=by
 intro pins s σ H x y v u Q I rx ry h;obtain⟨a,b,xs,ys,rfl,rfl,ha,hb,hz,q0,q1⟩:=h;by_cases hx:xs=[]
 ·cases rx;cases ry;obtain⟨its,r1,p1,_⟩:=I.tuple ha;obtain⟨its2,r2,p2,_⟩:=I.tuple hb;have hi:its=[]:=r1.rQ.mpr hx;obtain⟨⟨cls,dd,data,sl⟩,ho,hc,n,hd⟩:=id p1;obtain⟨⟨cls2,dd2,data2,sl2⟩,ho2,hc2,n2,hd2⟩:=id p2;simp only at hc hd hc2 hd2;subst hc hd hc2 hd2;exact zu ⟨_,ho,rfl⟩ ⟨_,ho2,rfl⟩ zw zy zA zB (zC _ _)
   (tuple_addW0 a b its.toArray its2.toArray n n2 dd dd2 sl sl2 (by simp[hi])) ⟨ho,ho2,⟨.ref b,H,I,rfl,q0 hx⟩⟩
 ·exact Mh pins s σ H (.ref a) (.ref b) v u Q I rx ry ⟨a,b,xs,ys,rfl,rfl,ha,hb,hx,hz,(q1 hx).1,(q1 hx).2⟩
theorem Ec:fm X (.type "int") (λxs H Q=>∃b:Bool,xs=[.bl b]/\Q (.int (if b then 1 else 0)) H):=by
 intro pins s σ H xs us Q I r h;obtain⟨b,rfl,q⟩:=h;obtain⟨u,rfl,r1⟩:=vals1 r;obtain rfl:u=Value.bool b:=r1;exact call_int_bool ⟨.int (if b then 1 else 0),H,I.tok _,⟨_,rfl⟩,q⟩
end
end EE
namespace E3
open PySem PySem.Spec PyProof.Rows L2 EE
section
variable{K:PySem.W.Frag}{S:af}{Q:K3}
def Ed:R3:=λx y S Q=>∃ds es,x=.tup ds/\y=.tup es/\ds.length+es.length<=sizeLine/\Q (.tup (ds++es)) S
theorem Ee:c_ K Ed (Ea K):=by
 intro Z x y S Q3 v w H Q rx ry l h c;obtain⟨ds,es,rfl,rfl,hz,q⟩:=h;cases rx with
 |@tup a vs _ h1 h2 =>
  cases ry with
  |@tup b ws _ h3 h4 =>
   refine⟨a,b,vs,ws,rfl,rfl,h1,h3,by rw[<-h2.len,<-h4.len];exact hz,λe=>?_,λ_=>⟨λe=>?_,λ_=>tup.down q (h2.append h4) l c⟩⟩
   ·subst e;cases h2;rw[JA]at q;exact c _ S _ H (Kp.refl _ _) (.tup h3 h4) l q
   ·subst e;cases h4;rw[lV]at q;exact c _ S _ H (Kp.refl _ _) (.tup h1 h2) l q
theorem w6{ds es:List D}(hz:ds.length+es.length<=sizeLine)(q:Q (.tup (ds++es)) S):Ed (.tup ds) (.tup es) S Q:=⟨ds,es,rfl,rfl,hz,q⟩
def Ef:List D->af->K3->Prop:=λxs S Q=>∃b:Bool,xs=[.bl b]/\Q (.int (if b then 1 else 0)) S
theorem Eg:fI K Ef (λxs H Q=>∃b:Bool,xs=[.bl b]/\Q (.int (if b then 1 else 0)) H):=by
 intro Z ds S Q3 vs H Q r l h c;obtain⟨b,rfl,q⟩:=h;cases r with
 |cons r rr =>
  cases rr;cases r;exact⟨b,rfl,c _ S _ H (Kp.refl _ _) (.int _) l q⟩
theorem Ry{b:Bool}(q:Q (.int (if b then 1 else 0)) S):Ef [.bl b] S Q:=⟨b,rfl,q⟩
theorem Rz{a:Addr}{xs:List Str}{z:Str}(hS:S a=some (.lst (xs.map D.str)))(q:Q (.bl (decide (z∈xs))) S):pO false (.str z) (.ref a) S Q :=
 ⟨_,.inl (.inl ⟨a,rfl,hS⟩),rfl,wb xs,by rw[wa,if_neg cF];exact q⟩
theorem RA{xs:List Str}{z:Str}(q:Q (.bl (!decide (z∈xs))) S):pO true (.str z) (.tup (xs.map D.str)) S Q :=
 ⟨_,.inr rfl,rfl,wb xs,by rw[wa,if_pos rfl];exact q⟩
theorem RB{xs:List D}:cutD xs none (some (-1))=xs.dropLast:=by
 unfold cutD HT.aG;simp only[qP,qQ];rw[if_pos (by decide),List.dropLast_eq_take];congr 1;lia
end
section
variable{σ:aE}{S:af}{R:RI}{al:cb}
def Eh(R:RI)(xs:List D)(S:af):Prop:=∃a ds,xs=[.ref a]/\S a=some (.lst ds)/\R ds.reverse (λS=>S a=some (.lst ds)) S
theorem RC(h:al σ S λxs S1=>Eh R xs S1):D6 al σ S R:=h
theorem Ei{a:Addr}{ds:List D}(hS:S a=some (.lst ds))(q:R ds.reverse (λS=>S a=some (.lst ds)) S):Eh R [.ref a] S:=⟨a,ds,rfl,hS,q⟩
end
def Sy.base:Sy->Option Str
 | .name x=>some x
 | .left a=>a.base
 | .right a=>a.base
 |_=>none
def qc:Option Str->D
 |some x=>.str x
 |none=>.non
def Sy.bases(a:Sy):List Str:=a.base.toList
def Sy.pp(ext:Sy->List Str):Sy->List Str->List (Sy×List Str)
 | .fork a b c,k=>[(a,k),(b,k++ext a),(c,k)]
 |s,k=>s.parts.map λa=>(a,k)
mutual
def Sy.bz(ext:Sy->List Str):Sy->List Str->List (Sy×List Str)
 | .name x,k=>[(.name x,k)]
 | .bw,k=>[(.bw,k)]
 | .pair a b,k=>(.pair a b,k)::(a.bz ext k++b.bz ext k)
 | .left a,k=>(.left a,k)::a.bz ext k
 | .right a,k=>(.right a,k)::a.bz ext k
 | .fork a b c,k=>(.fork a b c,k)::(a.bz ext k++(b.bz ext (k++ext a)++c.bz ext k))
 | .send x as,k=>(.send x as,k)::Sy.km ext as k
def Sy.km(ext:Sy->List Str):List Sy->List Str->List (Sy×List Str)
 |[],_=>[]
 |a::as,k=>a.bz ext k++Sy.km ext as k
end
def cY(ext:Sy->List Str)(ps:List (Sy×List Str)):List (Sy×List Str):=(ps.map λp=>p.1.bz ext p.2).flatten
theorem Ej(ext:Sy->List Str)(k:List Str):∀as:List Sy,Sy.km ext as k=cY ext (as.map λa=>(a,k))
 |[]=>rfl
 |a::as=>by rw[Sy.km,Ej ext k as];rfl
theorem m8(ext:Sy->List Str)(s:Sy)(k:List Str):s.bz ext k=(s,k)::cY ext (s.pp ext k):=by
 cases s<;>simp[Sy.bz,Sy.pp,Sy.parts,cY]
 rw[Ej];simp[cY,JB]
theorem tP(ext:Sy->List Str)(as bs:List (Sy×List Str)):cY ext (as++bs)=cY ext as++cY ext bs:=by simp[cY]
theorem w8(ext:Sy->List Str)(a:Sy×List Str)(bs:List (Sy×List Str)):cY ext (a::bs)=a.1.bz ext a.2++cY ext bs:=by simp[cY]
theorem w9(ext:Sy->List Str):∀as:List (Sy×List Str),as.length<=(cY ext as).length
 |[]=>by simp
 |a::as=>by
  have:=w9 ext as;rw[w8,m8];simp;lia
theorem Ek(ext:Sy->List Str)(s:Sy)(k:List Str):(s.pp ext k).map (·.1)=s.parts:=by cases s<;>simp[Sy.pp,Sy.parts,JB]
mutual
theorem Sy.fM(ext:Sy->List Str):∀(s:Sy) (k:List Str),(s.bz ext k).map (·.1)=s.pre
 | .name _,_=>rfl
 | .bw,_=>rfl
 | .pair a b,k=>by simp[Sy.bz,Sy.pre,Sy.fM ext a,Sy.fM ext b]
 | .left a,k=>by simp[Sy.bz,Sy.pre,Sy.fM ext a]
 | .right a,k=>by simp[Sy.bz,Sy.pre,Sy.fM ext a]
 | .fork a b c,k=>by simp[Sy.bz,Sy.pre,Sy.fM ext a,Sy.fM ext b,Sy.fM ext c]
 | .send x as,k=>by simp[Sy.bz,Sy.pre,Sy.El ext as]
theorem Sy.El(ext:Sy->List Str):∀(as:List Sy) (k:List Str),(Sy.km ext as k).map (·.1)=Sy.br as
 |[],_=>rfl
 |a::as,k=>by simp[Sy.km,Sy.br,Sy.fM ext a,Sy.El ext as]
end
mutual
theorem Sy.jo{e1 e2:Sy->List Str}{R:List Str->List Str->Prop}{A:Sy->Prop}(hA:∀a b c,A (.fork a b c)->A a)(step:∀a k1 k2,A a->R k1 k2->R (k1++e1 a) (k2++e2 a)) :
 ∀(s:Sy) (k1 k2:List Str),(∀a∈s.pre,A a)->R k1 k2->Paired (λp q=>p.1=q.1/\R p.2 q.2) (s.bz e1 k1) (s.bz e2 k2)
 | .name _,k1,k2,_,r=>.cons ⟨rfl,r⟩ .nil
 | .bw,k1,k2,_,r=>.cons ⟨rfl,r⟩ .nil
 | .pair a b,k1,k2,h,r=>.cons ⟨rfl,r⟩ (gP (Sy.jo hA step a k1 k2 (λx hx=>h x (by simp[Sy.pre,hx])) r) (Sy.jo hA step b k1 k2 (λx hx=>h x (by simp[Sy.pre,hx])) r))
 | .left a,k1,k2,h,r=>.cons ⟨rfl,r⟩ (Sy.jo hA step a k1 k2 (λx hx=>h x (by simp[Sy.pre,hx])) r)
 | .right a,k1,k2,h,r=>.cons ⟨rfl,r⟩ (Sy.jo hA step a k1 k2 (λx hx=>h x (by simp[Sy.pre,hx])) r)
 | .fork a b c,k1,k2,h,r=>.cons ⟨rfl,r⟩ (gP (Sy.jo hA step a k1 k2 (λx hx=>h x (by simp[Sy.pre,hx])) r)
  (gP (Sy.jo hA step b _ _ (λx hx=>h x (by simp[Sy.pre,hx])) (step a k1 k2 (hA a b c (h _ (by simp[Sy.pre]))) r)) (Sy.jo hA step c k1 k2 (λx hx=>h x (by simp[Sy.pre,hx])) r)))
 | .send x as,k1,k2,h,r=>.cons ⟨rfl,r⟩ (Sy.Em hA step as k1 k2 (λx hx=>h x (by simp[Sy.pre,hx])) r)
theorem Sy.Em{e1 e2:Sy->List Str}{R:List Str->List Str->Prop}{A:Sy->Prop}(hA:∀a b c,A (.fork a b c)->A a)(step:∀a k1 k2,A a->R k1 k2->R (k1++e1 a) (k2++e2 a)) :
 ∀(as:List Sy) (k1 k2:List Str),(∀a∈Sy.br as,A a)->R k1 k2->Paired (λp q=>p.1=q.1/\R p.2 q.2) (Sy.km e1 as k1) (Sy.km e2 as k2)
 |[],_,_,_,_=>.nil
 |a::as,k1,k2,h,r=>gP (Sy.jo hA step a k1 k2 (λx hx=>h x (by simp[Sy.br,hx])) r) (Sy.Em hA step as k1 k2 (λx hx=>h x (by simp[Sy.br,hx])) r)
end
def bK(p:Sy×List Str):D:=.tup [p.1.d,.tup (p.2.map D.str)]
def aT(p:Str)(a:Sy)(k:List Str):Int :=
 match a with
 | .bw=>if p∈k then 2 else 1
 | .name x=>if x=p then 1 else 0
 |a=>if a.base=some p then(if p∈k then 2 else 1) else 0
def bV(told:Str->Sy->List Str->Int)(e:Er)(q:Sy×List Str):List (Str×Str×cf) :=
 match q.1 with
 | .send x as=>[(e.name,x,e.ps.map λp=>as.map λa=>told p a q.2)]
 |_=>[]
def ax(g:Str×Str×cf):D:=cL g.1 g.2.1 g.2.2
def cQ(told:Str->Sy->List Str->Int)(ext:Sy->List Str)(prog:List Er):List (Str×Str×cf):=(prog.map λe=>((e.body.bz ext []).map (bV told e)).flatten).flatten
section
variable{K:PySem.W.Frag}{S:af}{Q:K3}
def En:R3:=λx y S Q=>∃(o:Option Str) (p:Str),x=qc o/\y=.str p/\Q (.bl (!decide (o=some p))) S
theorem RD:c_ K En rK:=by
 intro Z x y S Q3 v w H Q rx ry l h c;obtain⟨o,p,rfl,rfl,q⟩:=h;cases ry;cases o with
 |none =>
  cases rx;refine⟨rfl,?_⟩;have e:decide (V.non=V.str p)=decide ((none:Option Str)=some p):=by simp
  rw[e];exact c _ S _ H (Kp.refl _ _) (.bl _) l q
 |some x =>
  cases rx;refine⟨rfl,?_⟩;have e:decide (V.str x=V.str p)=decide (some x=some p):=by rw[eB];simp
  rw[e];exact c _ S _ H (Kp.refl _ _) (.bl _) l q
theorem RE{o:Option Str}{p:Str}(q:Q (.bl (!decide (o=some p))) S):En (qc o) (.str p) S Q:=⟨o,p,rfl,rfl,q⟩
end
end E3
namespace E3
open PySem PySem.Spec PyProof.Rows L2 EE
def Sy.txt:Sy->Str
 | .name x=>x
 | .left a=>(a.txt++" ")++"left"
 | .right a=>(a.txt++" ")++"right"
 |_=>""
def Sy.cu:Sy->List Str
 | .name x=>[x]
 | .left a=>a.cu++[(a.txt++" ")++"left"]
 | .right a=>a.cu++[(a.txt++" ")++"right"]
 |_=>[]
def Sy.pfx(s:Sy):List Str:=if s.base.isSome then s.cu else[]
def wrap:List Bool->Sy->Sy
 |[],r=>r
 |true::l,r=>.left (wrap l r)
 |false::l,r=>.right (wrap l r)
def ko(b:Bool):Str:=if b then "left" else "right"
theorem w_:∀(bs:List Bool) (r:Sy),(wrap bs r).base=r.base
 |[],_=>rfl
 |true::l,r=>w_ l r
 |false::l,r=>w_ l r
theorem tQ:∀(bs:List Bool) (b:Bool) (r:Sy),wrap (bs++[b]) r=wrap bs (wrap [b] r)
 |[],_,_=>rfl
 |true::l,b,r=>by simp only[kG,wrap,tQ l b r]
 |false::l,b,r=>by simp only[kG,wrap,tQ l b r]
theorem Eo(b:Bool)(l:List Bool)(r:Sy):(wrap (b::l) r).txt=((wrap l r).txt++" ")++ko b:=by cases b<;>rfl
theorem Ep(b:Bool)(l:List Bool)(r:Sy):(wrap (b::l) r).cu=(wrap l r).cu++[((wrap l r).txt++" ")++ko b]:=by cases b<;>rfl
theorem xa:∀(bs:List Bool) (r:Sy),(wrap bs r).deep=bs.length+r.deep
 |[],_=>by simp[wrap]
 |true::l,r=>by simp only[wrap,Sy.deep,xa l r,bW];lia
 |false::l,r=>by simp only[wrap,Sy.deep,xa l r,bW];lia
theorem m9:∀{s:Sy} {x:Str},s.base=some x->∃l,s.cu=x::l
 | .name y,x,h=>by cases h;exact⟨[],rfl⟩
 | .left a,x,h=>let⟨l,e⟩:=m9 (s:=a) h;⟨l++[(a.txt++" ")++"left"],by simp[Sy.cu,e]⟩
 | .right a,x,h=>let⟨l,e⟩:=m9 (s:=a) h;⟨l++[(a.txt++" ")++"right"],by simp[Sy.cu,e]⟩
 | .bw,_,h=>by cases h
 | .pair _ _,_,h=>by cases h
 | .fork _ _ _,_,h=>by cases h
 | .send _ _,_,h=>by cases h
def bL(p:Str)(a:Sy)(k:List Str):Int :=
 match a with
 | .bw=>1+(if p∈k then 1 else 0)
 |a=>if a.base=some p then 1+(if ∃t∈a.pfx.dropLast,t∈k then 1 else 0) else 0
theorem eq_nil{S:af}{a b:Addr}{ds:List D}{n:Nat}{Q:K3}(ha:S a=some (.lst ds))(hb:S b=some (.lst []))(hp:∀d∈ds,d.pure=true)(hd:∀d∈ds,cI d.dt+1<=n)(h1:1<=n)(q:Q (.bl ds.isEmpty) S):sy n (.ref a) (.ref b) S Q:=by
 refine⟨.lst (D.dB ds),.lst [],.ref ha (dM.of (D.pN.mpr hp)),.ref hb .nil,?_,?_⟩
 ·simp only[cI];have:d6 (D.dB ds)<=n-1:=by
   rw[D.mO];refine wJ λd hd'=>?_;obtain⟨x,hx,rfl⟩:=bj.mp hd';have:=hd x hx;lia
  lia
 ·have e:aV (.lst (D.dB ds)) (.lst [])=ds.isEmpty:=by cases ds<;>simp[aV,fF,D.dB]
  rw[e];exact q
theorem Es(a b:Str):(a++b).cps.toList=a.cps.toList++b.cps.toList:=by
 show(uG a b).cps.toList=_;simp[uG]
theorem Et{a b:Str}(h:a.cps.toList=b.cps.toList):a=b:=by
 cases a;cases b;congr 1;exact Array.toList_inj.mp h
def stem(t:Str):List Nat:=t.cps.toList.takeWhile (λc=>c != 32)
theorem xb{p:Nat->Bool}:∀(a b:List Nat),(∀c∈a,p c=true)->(a++b).takeWhile p=a++b.takeWhile p
 |[],_,_=>rfl
 |c::a,b,h=>by
  rw[kG,Ad,if_pos (h c b4),xb a b λd hd=>h d (cB _ hd)];rfl
theorem cX.stem{x:Str}(h:cX x):stem x=x.cps.toList:=by
 obtain⟨cs,rfl,_,_,h⟩:=h;unfold E3.stem;rw[gW];have:=xb cs [] (p:=λc=>c != 32) λc hc=>by
  have:=h c hc;simp;lia
 simpa using this
theorem Eu:∀(a b:List Nat),(∃c∈a,c=32)->(a++b).takeWhile (λc=>c != 32)=a.takeWhile (λc=>c != 32)
 |[],_,⟨c,h,_⟩=>by simp at h
 |d::a,b,⟨c,h,e⟩=>by
  rw[kG,Ad,Ad];by_cases hd:d=32
  ·subst hd;rfl
  ·have hb:(d != 32)=true:=by simpa using hd
   rw[if_pos hb,if_pos hb];rcases a8.mp h with z|z
   ·exact absurd (z▸e) hd
   ·rw[Eu a b ⟨c,z,e⟩]
theorem tR{t u:Str}{x:Str}(hx:cX x)(h:stem t=x.cps.toList)(h2:t=x∨∃c∈t.cps.toList,c=32):stem ((t++" ")++u)=x.cps.toList/\∃c∈((t++" ")++u).cps.toList,c=32:=by
 have eb:(" ":Str).cps.toList=[32]:=by cbv
 have e:((t++" ")++u).cps.toList=t.cps.toList++(32::u.cps.toList):=by
  rw[Es,Es,eb];simp
 refine⟨?_,32,by rw[e];simp,rfl⟩;unfold stem;rw[e];rcases h2 with rfl|h2
 ·obtain⟨cs,rfl,_,_,hc⟩:=hx;rw[gW,xb _ _ λc hh=>by have:=hc c hh;simp;lia];simp
 ·rw[Eu _ _ h2];exact h
theorem tS{x:Str}(hx:cX x):∀{s:Sy},s.base=some x->stem s.txt=x.cps.toList/\(s.txt=x∨∃c∈s.txt.cps.toList,c=32)
 | .name y,h=>by cases h;exact⟨hx.stem,.inl rfl⟩
 | .left a,h=>let⟨h1,h2⟩:=tS hx (s:=a) h;let⟨h3,h4⟩:=tR (u:="left") hx h1 h2;⟨h3,.inr h4⟩
 | .right a,h=>let⟨h1,h2⟩:=tS hx (s:=a) h;let⟨h3,h4⟩:=tR (u:="right") hx h1 h2;⟨h3,.inr h4⟩
 | .bw,h=>by cases h
 | .pair _ _,h=>by cases h
 | .fork _ _ _,h=>by cases h
 | .send _ _,h=>by cases h
theorem qd{x:Str}(hx:cX x):∀{s:Sy},s.base=some x->∀t∈s.cu,stem t=x.cps.toList
 | .name y,h,t,ht=>by cases h;rw[b5.mp ht];exact hx.stem
 | .left a,h,t,ht=>by
  rcases bI.mp ht with ht|ht
  ·exact qd hx (s:=a) h t ht
  ·rw[b5.mp ht];have:=tS hx (s:=a) h;exact(tR hx this.1 this.2).1
 | .right a,h,t,ht=>by
  rcases bI.mp ht with ht|ht
  ·exact qd hx (s:=a) h t ht
  ·rw[b5.mp ht];have:=tS hx (s:=a) h;exact(tR hx this.1 this.2).1
 | .bw,h,_,_=>by cases h
 | .pair _ _,h,_,_=>by cases h
 | .fork _ _ _,h,_,_=>by cases h
 | .send _ _,h,_,_=>by cases h
def jq(k1 k2:List Str):Prop:=∀p,cX p->(p∈k1↔p∈k2)/\∀t∈k2,stem t=p.cps.toList->p∈k2
theorem jq.nil:jq [] []:=λp _=>⟨Iff.rfl,λt ht=>by simp at ht⟩
theorem jq.step{a:Sy}{k1 k2:List Str}(ha:∀x,a.base=some x->cX x)(r:jq k1 k2):jq (k1++a.bases) (k2++a.pfx):=by
 cases hb:a.base with
 |none =>
  have e1:a.bases=[]:=by unfold Sy.bases;rw[hb];rfl
  have e2:a.pfx=[]:=by unfold Sy.pfx;rw[hb];rfl
  rw[e1,e2,lV,lV];exact r
 |some x =>
  have hx:=ha x hb;have e1:a.bases=[x]:=by unfold Sy.bases;rw[hb];rfl
  have e2:a.pfx=a.cu:=by unfold Sy.pfx;rw[hb];rfl
  obtain⟨l,el⟩:=m9 hb;have hmem:x∈a.cu:=by rw[el];exact b4
  intro p hp;obtain⟨r1,r2⟩:=r p hp;rw[e1,e2];refine⟨⟨λh=>?_,λh=>?_⟩,λt ht es=>?_⟩
  ·rcases bI.mp h with h|h
   ·exact dE _ (r1.mp h)
   ·rw[b5.mp h];exact df _ hmem
  ·rcases bI.mp h with h|h
   ·exact dE _ (r1.mpr h)
   ·have h1:=qd hx hb p h;rw[hp.stem]at h1;rw[Et h1];simp
  ·rcases bI.mp ht with ht|ht
   ·exact dE _ (r2 t ht es)
   ·have h1:=qd hx hb t ht;rw[es]at h1;rw[Et h1];exact df _ hmem
theorem RF{p:Str}{a:Sy}{k1 k2:List Str}(hp:cX p)(r:jq k1 k2):aT p a k1=bL p a k2:=by
 obtain⟨r1,r2⟩:=r p hp;have long:a.base=some p->2<=a.pfx.length->((∃t∈a.pfx.dropLast,t∈k2)↔p∈k1):=λhb hl=>by
  have e2:a.pfx=a.cu:=by unfold Sy.pfx;rw[hb];rfl
  obtain⟨l,el⟩:=m9 hb;rw[e2]at hl ⊢;refine⟨λbX=>by obtain⟨t,ht,hk⟩:=bX;exact r1.mpr (r2 t hk (qd hp hb t (List.dropLast_subset _ ht))),λh=>⟨p,?_,r1.mp h⟩⟩;rw[el]at hl ⊢;cases l with
  |nil=>simp at hl
  |cons y l=>simp
 have Ew:∀b:Sy,b.base=some p->1<=b.cu.length:=λb hb=>by
  obtain⟨l,el⟩:=m9 hb;rw[el];simp
 cases a with
 |bw =>
  simp only[aT,bL];by_cases h:p∈k1
  ·rw[if_pos h,if_pos (r1.mp h)];rfl
  ·rw[if_neg h,if_neg (λz=>h (r1.mpr z))];rfl
 |name x =>
  simp only[aT,bL,Sy.base,Sy.pfx,Sy.cu,zN,if_true,List.dropLast_singleton];by_cases h:x=p
  ·rw[if_pos h,if_pos (by rw[h]),if_neg (by simp)];rfl
  ·rw[if_neg h,if_neg (by simpa using h)]
 |left b =>
  simp only[aT,bL];by_cases h:(Sy.left b).base=some p
  ·have:=long h (by
    have e2:(Sy.left b).pfx=(Sy.left b).cu:=by unfold Sy.pfx;rw[h];rfl
    have:=Ew b h;rw[e2];simp only[Sy.cu,a5,bW,dN];lia)
   rw[if_pos h,if_pos h];by_cases h1:p∈k1
   ·rw[if_pos h1,if_pos (this.mpr h1)];rfl
   ·rw[if_neg h1,if_neg (λz=>h1 (this.mp z))];rfl
  ·rw[if_neg h,if_neg h]
 |right b =>
  simp only[aT,bL];by_cases h:(Sy.right b).base=some p
  ·have:=long h (by
    have e2:(Sy.right b).pfx=(Sy.right b).cu:=by unfold Sy.pfx;rw[h];rfl
    have:=Ew b h;rw[e2];simp only[Sy.cu,a5,bW,dN];lia)
   rw[if_pos h,if_pos h];by_cases h1:p∈k1
   ·rw[if_pos h1,if_pos (this.mpr h1)];rfl
   ·rw[if_neg h1,if_neg (λz=>h1 (this.mp z))];rfl
  ·rw[if_neg h,if_neg h]
 |pair _ _=>simp[aT,bL,Sy.base]
 |fork _ _ _=>simp[aT,bL,Sy.base]
 |send _ _=>simp[aT,bL,Sy.base]
mutual
theorem Sy.fY{ar:Str->Option Nat}{ps:List Str}:∀{s:Sy},s.wf ar ps->∀a∈s.pre,a.wf ar ps
 | .name x,h,a,ha=>by simp only[Sy.pre,b5]at ha;subst ha;exact h
 | .bw,h,a,ha=>by simp only[Sy.pre,b5]at ha;subst ha;exact h
 | .pair x y,h,a,ha=>by
  simp only[Sy.pre,a8,bI]at ha;rcases ha with rfl|ha|ha
  ·exact h
  ·simp only[Sy.wf]at h;exact Sy.fY h.1 a ha
  ·simp only[Sy.wf]at h;exact Sy.fY h.2 a ha
 | .left x,h,a,ha=>by
  simp only[Sy.pre,a8]at ha;rcases ha with rfl|ha
  ·exact h
  ·simp only[Sy.wf]at h;exact Sy.fY h a ha
 | .right x,h,a,ha=>by
  simp only[Sy.pre,a8]at ha;rcases ha with rfl|ha
  ·exact h
  ·simp only[Sy.wf]at h;exact Sy.fY h a ha
 | .fork x y z,h,a,ha=>by
  simp only[Sy.pre,a8,bI]at ha;rcases ha with rfl|ha|ha|ha
  ·exact h
  ·simp only[Sy.wf]at h;exact Sy.fY h.1 a ha
  ·simp only[Sy.wf]at h;exact Sy.fY h.2.1 a ha
  ·simp only[Sy.wf]at h;exact Sy.fY h.2.2 a ha
 | .send x as,h,a,ha=>by
  simp only[Sy.pre,a8]at ha;rcases ha with rfl|ha
  ·exact h
  ·simp only[Sy.wf]at h;exact Sy.Ey h.2.2.2 a ha
theorem Sy.Ey{ar:Str->Option Nat}{ps:List Str}:∀{as:List Sy},Sy.la ar ps as->∀a∈Sy.br as,a.wf ar ps
 |[],_,a,ha=>by simp[Sy.br]at ha
 |x::xs,h,a,ha=>by
  simp only[Sy.br,bI]at ha;simp only[Sy.la]at h;rcases ha with ha|ha
  ·exact Sy.fY h.1 a ha
  ·exact Sy.Ey h.2 a ha
end
theorem tU{ar:Str->Option Nat}{ps:List Str}:∀{s:Sy} {x:Str},s.wf ar ps->s.base=some x->x∈ps
 | .name y,x,h,hb=>by cases hb;exact h
 | .left a,x,h,hb=>tU (s:=a) (by simpa only[Sy.wf]using h) hb
 | .right a,x,h,hb=>tU (s:=a) (by simpa only[Sy.wf]using h) hb
 | .bw,_,_,hb=>by cases hb
 | .pair _ _,_,_,hb=>by cases hb
 | .fork _ _ _,_,_,hb=>by cases hb
 | .send _ _,_,_,hb=>by cases hb
theorem Ez{ar:Str->Option Nat}{ps:List Str}{s:Sy}(h:s.wf ar ps):s.parts.length<=4:=by
 cases s<;>simp[Sy.parts]
 simp only[Sy.wf]at h;exact h.2.2.1
theorem RG{e:Er}{s:Sy}{k1 k2:List Str}(hps:∀x∈e.ps,cX x)(r:jq k1 k2):bV aT e (s,k1)=bV bL e (s,k2):=by
 cases s with
 |send x as =>
  simp only[bV];congr 3;refine u4 λp hp=>?_;exact u4 λa _=>RF (hps p hp) r
 |_=>rfl
theorem EA{α β:Type}{F:α->α->Prop}{f g:α->List β}:∀{xs ys:List α},Paired F xs ys->(∀x y,F x y->f x=g y)->(xs.map f).flatten=(ys.map g).flatten
 |_,_,.nil,_=>rfl
 |_,_,.cons h r,hf=>by rw[ba,ba,kK,kK,hf _ _ h,EA r hf]
theorem RH{ar:Str->Option Nat}:∀{prog:List Er},(∀e∈prog,(∀x∈e.ps,cX x)/\e.body.wf ar e.ps)->cQ aT Sy.bases prog=cQ bL Sy.pfx prog:=by
 intro prog h;unfold cQ;congr 1;refine u4 λe he=>?_;obtain⟨hps,hw⟩:=h e he;refine EA (Sy.jo (R:=jq) (A:=λa=>a.wf ar e.ps) (λa b c z=>by simp only[Sy.wf]at z;exact z.1) (λa k1 k2 ha r=>r.step λx hx=>hps x (tU ha hx)) e.body [] [] (λa ha=>Sy.fY hw a ha) jq.nil) ?_;rintro⟨s1,k1⟩ ⟨s2,k2⟩ ⟨e1,r⟩;dsimp only at e1 r;subst e1;exact RG hps r
theorem RJ{told:Str->Sy->List Str->Int}{e:Er}{q:Sy×List Str}:(bV told e q).length<=1:=by
 obtain⟨s,k⟩:=q;cases s<;>simp[bV]
theorem EB{told:Str->Sy->List Str->Int}{e:Er}:∀l:List (Sy×List Str),((l.map (bV told e)).flatten).length<=l.length
 |[]=>by simp
 |q::l=>by
  have h1:=RJ (told:=told) (e:=e) (q:=q);have h2:=EB (told:=told) (e:=e) l;rw[ba,kK,a5,bW];lia
theorem RK(ext:Sy->List Str)(s:Sy)(k:List Str):(s.bz ext k).length=s.pre.length:=by
 rw[<-Sy.fM ext s k,ay]
theorem EC{told:Str->Sy->List Str->Int}{e:Er}:∀l:List (Sy×List Str),((l.map (bV told e)).flatten).length=((l.map bo).filter λa=>match a with | .send _ _=>true|_=>false).length
 |[]=>rfl
 |(s,k)::l=>by
  have ih:=EC (told:=told) (e:=e) l;rw[ba,kK,a5,ba,ih];cases s<;>simp[bV,Jk]
  lia
theorem RL{told:Str->Sy->List Str->Int}{ext:Sy->List Str}{e:Er}:(((e.body.bz ext []).map (bV told e)).flatten).length=e.body.sends:=by
 rw[EC,Sy.fM];rfl
theorem ED{told:Str->Sy->List Str->Int}{ext:Sy->List Str}{z:Nat}:∀{prog:List Er},(∀e∈prog,e.body.sends<=z)->(cQ told ext prog).length<=prog.length*z
 |[],_=>by simp[cQ]
 |e::prog,h=>by
  have h1:=RL (told:=told) (ext:=ext) (e:=e);have h0:=h e b4;have h2:=ED (told:=told) (ext:=ext) (prog:=prog) λb hb=>h b (cB _ hb);have e1:cQ told ext (e::prog)=((e.body.bz ext []).map (bV told e)).flatten++cQ told ext prog:=by simp[cQ]
  rw[e1,a5,bW,Nat.succ_mul];lia
theorem EF{ext:Sy->List Str}{m:Nat}(he:∀a,(ext a).length<=m):∀(n:Nat) (s:Sy) (k:List Str),s.deep<=n->∀p∈s.bz ext k,p.2.length<=k.length+n*m
 |0,s,k,h,p,hp=>by cases s<;>simp[Sy.deep]at h
 |n+1,s,k,h,p,hp=>by
  rw[m8]at hp;rcases a8.mp hp with rfl|hp
  ·dsimp only;lia
  ·unfold cY at hp;obtain⟨l,hl,hp⟩:=Ae.mp hp;obtain⟨⟨a,k'⟩,ha,rfl⟩:=bj.mp hl;have hk:k'.length<=k.length+m/\a.deep<=n:=by
    cases s with
    |fork x y z =>
     simp only[Sy.pp,a8,cc,or_false,iV]at ha;simp only[Sy.deep]at h;have:=he x;rcases ha with⟨rfl,rfl⟩|⟨rfl,rfl⟩|⟨rfl,rfl⟩
     ·exact⟨by lia,by lia⟩
     ·exact⟨by rw[a5];lia,by lia⟩
     ·exact⟨by lia,by lia⟩
    |name x=>simp[Sy.pp,Sy.parts]at ha
    |bw=>simp[Sy.pp,Sy.parts]at ha
    |pair x y =>
     simp only[Sy.pp,Sy.parts,ba,fR,a8,cc,or_false,iV]at ha;simp only[Sy.deep]at h;rcases ha with⟨rfl,rfl⟩|⟨rfl,rfl⟩<;>exact⟨by lia,by lia⟩
    |left x =>
     simp only[Sy.pp,Sy.parts,ba,fR,a8,cc,or_false,iV]at ha;simp only[Sy.deep]at h;obtain⟨rfl,rfl⟩:=ha;exact⟨by lia,by lia⟩
    |right x =>
     simp only[Sy.pp,Sy.parts,ba,fR,a8,cc,or_false,iV]at ha;simp only[Sy.deep]at h;obtain⟨rfl,rfl⟩:=ha;exact⟨by lia,by lia⟩
    |send x as =>
     simp only[Sy.pp,Sy.parts,bj,iV]at ha;obtain⟨b,hb,rfl,rfl⟩:=ha;have:=Sy.tu hb;simp only[Sy.deep]at h;exact⟨by lia,by lia⟩
   have:=EF he n a k' hk.2 p hp;have e:(n+1)*m=n*m+m:=Nat.succ_mul n m;lia
theorem RM(a:Sy):a.bases.length<=1:=by
 unfold Sy.bases;cases a.base<;>simp
theorem xc:∀s:Sy,s.cu.length<=s.deep
 | .name _=>by simp[Sy.cu,Sy.deep]
 | .left a=>by have:=xc a;simp only[Sy.cu,Sy.deep,a5,bW,dN];lia
 | .right a=>by have:=xc a;simp only[Sy.cu,Sy.deep,a5,bW,dN];lia
 | .bw=>by simp[Sy.cu]
 | .pair _ _=>by simp[Sy.cu]
 | .fork _ _ _=>by simp[Sy.cu]
 | .send _ _=>by simp[Sy.cu]
theorem xf(s:Sy):s.pfx.length<=s.deep:=by
 unfold Sy.pfx
 split
 ·exact xc s
 ·simp
theorem xg{a b:Sy}:∀{as:List Sy},a∈as->b∈a.pre->b∈Sy.br as
 |c::as,h,hb=>by
  rw[Sy.br,bI];rcases a8.mp h with rfl|h
  ·exact .inl hb
  ·exact .inr (xg h hb)
theorem EG{a:Sy}:∀{as:List Sy},a∈as->a.pre.length<=(Sy.br as).length
 |c::as,h=>by
  rw[Sy.br,a5];rcases a8.mp h with rfl|h
  ·lia
  ·have:=EG h;lia
structure m_(n:Nat)(e:Er)(s:Sy)(k:List Str):Prop where
 deep:s.deep<=n
 EH:n<=50
 kl:k.length+n*100<=10000
 ps:e.ps.length<=1000
 size:s.pre.length<=100000
 all:∀a∈s.pre,a.parts.length<=1000/\∀x,a.base=some x->x.length<=1000
theorem m_.part{n:Nat}{e:Er}{s:Sy}{k:List Str}(h:m_ (n+1) e s k){a:Sy}{k':List Str}(ha:(a,k')∈s.pp Sy.pfx k):m_ n e a k':=by
 have hmem:a∈s.parts:=by rw[<-Ek Sy.pfx s k];exact iW (f:=bo) ha
 have hpre:∀b∈a.pre,b∈s.pre:=λb hb=>by rw[Sy.gX];exact cB _ (xg hmem hb)
 have hsz:a.pre.length<=s.pre.length:=by
  have:=EG hmem;rw[Sy.gX s,bW];lia
 have h1:=h.deep;have h2:=h.EH;have h3:=h.kl;have hd:a.deep<=n/\k'.length<=k.length+100:=by
  cases s with
  |fork x y z =>
   simp only[Sy.pp,a8,cc,or_false,iV]at ha;simp only[Sy.deep]at h1;have:=xf x;rcases ha with⟨rfl,rfl⟩|⟨rfl,rfl⟩|⟨rfl,rfl⟩
   ·exact⟨by lia,by lia⟩
   ·exact⟨by lia,by rw[a5];lia⟩
   ·exact⟨by lia,by lia⟩
  |name x=>simp[Sy.pp,Sy.parts]at ha
  |bw=>simp[Sy.pp,Sy.parts]at ha
  |pair x y =>
   simp only[Sy.pp,Sy.parts,ba,fR,a8,cc,or_false,iV]at ha;simp only[Sy.deep]at h1;rcases ha with⟨rfl,rfl⟩|⟨rfl,rfl⟩<;>exact⟨by lia,by lia⟩
  |left x =>
   simp only[Sy.pp,Sy.parts,ba,fR,a8,cc,or_false,iV]at ha;simp only[Sy.deep]at h1;obtain⟨rfl,rfl⟩:=ha;exact⟨by lia,by lia⟩
  |right x =>
   simp only[Sy.pp,Sy.parts,ba,fR,a8,cc,or_false,iV]at ha;simp only[Sy.deep]at h1;obtain⟨rfl,rfl⟩:=ha;exact⟨by lia,by lia⟩
  |send x as =>
   simp only[Sy.pp,Sy.parts,bj,iV]at ha;obtain⟨b,hb,rfl,rfl⟩:=ha;have:=Sy.tu hb;simp only[Sy.deep]at h1;exact⟨by lia,by lia⟩
 exact⟨hd.1,by lia,by have:=hd.2;lia,h.ps,by have:=h.size;lia,λb hb=>h.all b (hpre b hb)⟩
def dC(e:Er)(s:Sy)(k:List Str)(j:Nat):List (Str×Str×cf):=bV bL e (s,k)++((cY Sy.pfx ((s.pp Sy.pfx k).take j)).map (bV bL e)).flatten
theorem xh{e:Er}{s:Sy}{k:List Str}:dC e s k 0=bV bL e (s,k):=by simp[dC,cY]
theorem RN{e:Er}{s:Sy}{k:List Str}{j:Nat}(h:s.parts.length<=j):dC e s k j=((s.bz Sy.pfx k).map (bV bL e)).flatten:=by
 have hl:(s.pp Sy.pfx k).length=s.parts.length:=by rw[<-Ek Sy.pfx s k,ay]
 unfold dC;rw[jL (by lia),m8];simp
theorem EI{e:Er}{s:Sy}{k:List Str}{j:Nat}{a:Sy}{k':List Str}(h:(s.pp Sy.pfx k)[j]?=some (a,k')):dC e s k (j+1)=dC e s k j++((a.bz Sy.pfx k').map (bV bL e)).flatten:=by
 unfold dC;have ht:(s.pp Sy.pfx k).take (j+1)=(s.pp Sy.pfx k).take j++[(a,k')]:=by rw[ij,h];rfl
 rw[ht,tP];simp[cY]
theorem RP{e:Er}{s:Sy}{k:List Str}{j:Nat}:(dC e s k j).length<=s.pre.length:=by
 have h1:=EB (told:=bL) (e:=e) (s.bz Sy.pfx k);rw[RK]at h1;refine bR ?_ h1;rw[m8]
 conv=>rhs;rw[<-ow j (s.pp Sy.pfx k)]
 unfold dC;rw[tP];simp only[ba,kK,b6,Af,a5];lia
theorem EJ{s:Sy}{k:List Str}{j:Nat}{a:Sy}(h:s.parts[j]?=some a)(hf:∀x y z,s=.fork x y z->j≠1):(s.pp Sy.pfx k)[j]?=some (a,k):=by
 cases s with
 |fork x y z =>
  have hj:=hf x y z rfl
  match j,h,hj with
  |0,h,_=>cases h;rfl
  |1,_,hj=>exact absurd rfl hj
  |2,h,_=>cases h;rfl
  |j+3,h,_=>simp[Sy.parts]at h
 |name x=>simp[Sy.parts]at h
 |bw=>simp[Sy.parts]at h
 |pair x y=>simp only[Sy.pp,aJ,h,u5]
 |left x=>simp only[Sy.pp,aJ,h,u5]
 |right x=>simp only[Sy.pp,aJ,h,u5]
 |send x as=>simp only[Sy.pp,aJ,h,u5]
end E3
namespace CL
section
variable{α:Type}[DecidableEq α]
abbrev Fd(α:Type):=List (α×List Int)
def putN(f:Fd α)(g:α)(w:List Int):Option (Fd α):=if g∈f.map bo then some f else if 40<=f.length then none else some (f++[(g,w)])
def g6:List (Int×α)->Fd α->Option (Fd α)
 |[],f=>some f
 |(n,g)::nb,f=>(putN f g [n]).bind (g6 nb)
def put2(fit:α->α->Bool)(cmp:α->α->α)(a:α×List Int):List (Int×α)->Fd α->Option (Fd α)
 |[],f=>some f
 |(n,g)::nb,f=>(if fit a.1 g then putN f (cmp a.1 g) (a.2++[n]) else some f).bind (put2 fit cmp a nb)
def fN(fit:α->α->Bool)(cmp:α->α->α)(nb:List (Int×α)):Nat->Nat->Fd α->Option (Fd α)
 |0,_,f=>some f
 |k+1,place,f=>match f[place]? with
  |none=>some f
  |some a=>(put2 fit cmp a nb f).bind (fN fit cmp nb k (place+1))
def gD(fit:α->α->Bool)(cmp:α->α->α)(nb:List (Int×α)):Option (Fd α):=(g6 nb []).bind (fN fit cmp nb 41 0)
structure Ok(f:Fd α):Prop where
 nd:(f.map bo).Nodup
 len:f.length<=40
theorem Ok.nil:Ok ([]:Fd α):=⟨by simp,by simp⟩
structure Step(f f':Fd α):Prop where
 ok:Ok f'
 pre:∃r,f'=f++r
theorem Step.trans{f g h:Fd α}(a:Step f g)(b:Step g h):Step f h:=by
 obtain⟨r,e⟩:=a.pre;obtain⟨r',e'⟩:=b.pre;exact⟨b.ok,r++r',by rw[e',e,uY]⟩
theorem Step.mem{f g:Fd α}(a:Step f g){x:α}(h:x∈f.map bo):x∈g.map bo:=by
 obtain⟨r,e⟩:=a.pre;rw[e,b6];exact dE _ h
theorem Step.at{f g:Fd α}(a:Step f g){i:Nat}{x:α×List Int}(h:f[i]?=some x):g[i]?=some x:=by
 obtain⟨r,e⟩:=a.pre;rw[e,zr (cT.mp h).1];exact h
theorem tV{f f':Fd α}{g:α}{w:List Int}(h:Ok f)(e:putN f g w=some f'):Step f f'/\g∈f'.map bo:=by
 unfold putN at e
 split at e
 ·rename_i hg
  cases e;exact⟨⟨h,[],by simp⟩,hg⟩
 ·rename_i hg
  split at e
  ·cases e
  ·rename_i hl
   cases e;refine⟨⟨⟨?_,?_⟩,_,rfl⟩,by simp⟩
   ·rw[b6,uX];refine⟨h.nd,by simp,λa ha b hb=>?_⟩;simp only[ba,fR,b5]at hb;subst hb;rintro rfl;exact hg ha
   ·rw[a5,l_];lia
theorem EK:∀{nb:List (Int×α)} {f f':Fd α},Ok f->g6 nb f=some f'->Step f f'/\∀p∈nb,p.2∈f'.map bo
 |[],f,f',h,e=>by cases e;exact⟨⟨h,[],by simp⟩,λp hp=>by cases hp⟩
 |(n,g)::nb,f,f',h,e=>by
  rw[g6,jO]at e;obtain⟨f1,e1,e2⟩:=e;obtain⟨s1,m1⟩:=tV h e1;obtain⟨s2,m2⟩:=EK s1.ok e2;refine⟨s1.trans s2,λp hp=>?_⟩;rcases a8.mp hp with rfl|hp
  ·exact s2.mem m1
  ·exact m2 p hp
variable{fit:α->α->Bool}{cmp:α->α->α}
theorem EL{a:α×List Int}:∀{nb:List (Int×α)} {f f':Fd α},Ok f->put2 fit cmp a nb f=some f'->Step f f'/\∀p∈nb,fit a.1 p.2=true->cmp a.1 p.2∈f'.map bo
 |[],f,f',h,e=>by cases e;exact⟨⟨h,[],by simp⟩,λp hp=>by cases hp⟩
 |(n,g)::nb,f,f',h,e=>by
  rw[put2,jO]at e;obtain⟨f1,e1,e2⟩:=e;have s1:Step f f1/\(fit a.1 g=true->cmp a.1 g∈f1.map bo):=by
   split at e1
   ·obtain⟨s1,m1⟩:=tV h e1;exact⟨s1,λ_=>m1⟩
   ·rename_i hf
    cases e1;exact⟨⟨h,[],by simp⟩,λz=>absurd z hf⟩
  obtain⟨s2,m2⟩:=EL s1.1.ok e2;refine⟨s1.1.trans s2,λp hp hf=>?_⟩;rcases a8.mp hp with rfl|hp
  ·exact s2.mem (s1.2 hf)
  ·exact m2 p hp hf
theorem EM{nb:List (Int×α)}:∀{k place:Nat} {f f':Fd α},Ok f->41<=place+k->fN fit cmp nb k place f=some f' ->
 Step f f'/\∀i x,place<=i->f'[i]?=some x->∀p∈nb,fit x.1 p.2=true->cmp x.1 p.2∈f'.map bo
 |0,place,f,f',h,hk,e=>by
  cases e;refine⟨⟨h,[],by simp⟩,λi x hi hx=>?_⟩;have:=(cT.mp hx).1;have:=h.len;lia
 |k+1,place,f,f',h,hk,e=>by
  rw[fN]at e;cases ha:f[place]? with
  |none =>
   rw[ha]at e;cases e;refine⟨⟨h,[],by simp⟩,λi x hi hx=>?_⟩;have h1:=(cT.mp hx).1;have h2:=List.getElem?_eq_none_iff.mp ha;lia
  |some a =>
   rw[ha]at e;dsimp only at e;rw[jO]at e;obtain⟨f1,e1,e2⟩:=e;obtain⟨s1,m1⟩:=EL h e1;obtain⟨s2,m2⟩:=EM s1.ok (by lia) e2;refine⟨s1.trans s2,λi x hi hx p hp hf=>?_⟩;by_cases qf:i=place
   ·subst qf;have:=(s1.trans s2).at ha;rw[hx]at this;cases this;exact s2.mem (m1 p hp hf)
   ·exact m2 i x (by lia) hx p hp hf
structure RQ(fit:α->α->Bool)(cmp:α->α->α)(nb:List (Int×α))(F:Fd α):Prop where
 ok:Ok F
 own:∀p∈nb,p.2∈F.map bo
 up:∀a∈F.map bo,∀p∈nb,fit a p.2=true->cmp a p.2∈F.map bo
theorem nc{nb:List (Int×α)}{F:Fd α}(e:gD fit cmp nb=some F):RQ fit cmp nb F:=by
 unfold gD at e;rw[jO]at e;obtain⟨f1,e1,e2⟩:=e;obtain⟨s1,m1⟩:=EK Ok.nil e1;obtain⟨s2,m2⟩:=EM s1.ok (by lia) e2;refine⟨s2.ok,λp hp=>s2.mem (m1 p hp),λa ha p hp hf=>?_⟩;obtain⟨x,hx,rfl⟩:=bj.mp ha;obtain⟨i,hi,rfl⟩:=jN hx;exact m2 i _ (by lia) (aX hi) p hp hf
theorem jm{β:Type}[DecidableEq β]:∀{l c:List β},l.Nodup->(∀x∈l,x∈c)->l.length<=c.length
 |[],_,_,_=>dO _
 |x::l,c,h,hs=>by
  have hx:=hs x b4;have h1:=jm (l:=l) (c:=c.erase x) (hW.mp h).2 λy hy=>by
   refine(Jw ?_).mpr (hs y (cB _ hy));rintro rfl;exact(hW.mp h).1 hy
  rw[Jt hx]at h1;have:0<c.length:=Ju hx;rw[bW];lia
section
variable{β:Type}[DecidableEq β]{φ:α->β}{Gd:α->Prop}{C:List β}(inj:∀a b,Gd a->Gd b->φ a=φ b->a=b)
def In(φ:α->β)(Gd:α->Prop)(C:List β)(f:Fd α):Prop:=∀a∈f.map bo,Gd a/\φ a∈C
include inj
theorem In.len{f:Fd α}(nd:(f.map bo).Nodup)(h:In φ Gd C f):f.length<=C.length:=by
 have h1:((f.map bo).map φ).Nodup:=by
  rw[uR,Ji];rw[uR]at nd;exact Jj (λ{a b} ha hb hab e=>hab (inj a b (h a ha).1 (h b hb).1 e)) nd
 have h2:=jm (c:=C) h1 λx hx=>by
  obtain⟨a,ha,rfl⟩:=bj.mp hx;exact(h a ha).2
 simpa using h2
theorem EN{f:Fd α}{g:α}{w:List Int}(hC:C.length<=40)(h:Ok f)(hi:In φ Gd C f)(hg:Gd g/\φ g∈C):∃f',putN f g w=some f'/\Ok f'/\In φ Gd C f':=by
 unfold putN
 split
 ·exact⟨f,rfl,h,hi⟩
 ·rename_i hm
  have nd:((f++[(g,w)]).map bo).Nodup:=by
   rw[b6,uX];refine⟨h.nd,by simp,λa ha b hb=>?_⟩;simp only[ba,fR,b5]at hb;subst hb;rintro rfl;exact hm ha
  have hin:In φ Gd C (f++[(g,w)]):=λa ha=>by
   rw[b6]at ha;rcases bI.mp ha with ha|ha
   ·exact hi a ha
   ·simp only[ba,fR,b5]at ha;subst ha;exact hg
  have hl:=In.len inj nd hin;rw[a5,l_]at hl;rw[if_neg (by lia)];exact⟨_,rfl,⟨nd,by rw[a5,l_];lia⟩,hin⟩
theorem EO(hC:C.length<=40):∀{nb:List (Int×α)} {f:Fd α},Ok f->In φ Gd C f->(∀p∈nb,Gd p.2/\φ p.2∈C)->∃f',g6 nb f=some f'/\Ok f'/\In φ Gd C f'
 |[],f,h,hi,_=>⟨f,rfl,h,hi⟩
 |(n,g)::nb,f,h,hi,hn=>by
  obtain⟨f1,e1,h1,i1⟩:=EN (w:=[n]) inj hC h hi (hn (n,g) b4);obtain⟨f2,e2,h2,i2⟩:=EO hC (nb:=nb) h1 i1 λp hp=>hn p (cB _ hp);exact⟨f2,by rw[g6,e1];exact e2,h2,i2⟩
theorem ER(hC:C.length<=40){a:α×List Int}:∀{nb:List (Int×α)} {f:Fd α},Ok f->In φ Gd C f->(∀p∈nb,fit a.1 p.2=true->Gd (cmp a.1 p.2)/\φ (cmp a.1 p.2)∈C)->∃f',put2 fit cmp a nb f=some f'/\Ok f'/\In φ Gd C f'
 |[],f,h,hi,_=>⟨f,rfl,h,hi⟩
 |(n,g)::nb,f,h,hi,hn=>by
  have s1:∃f1,(if fit a.1 g then putN f (cmp a.1 g) (a.2++[n]) else some f)=some f1/\Ok f1/\In φ Gd C f1:=by
   by_cases hf:fit a.1 g=true
   ·rw[if_pos hf];exact EN inj hC h hi (hn (n,g) b4 hf)
   ·rw[if_neg hf];exact⟨f,rfl,h,hi⟩
  obtain⟨f1,e1,h1,i1⟩:=s1;obtain⟨f2,e2,h2,i2⟩:=ER hC (nb:=nb) h1 i1 λp hp=>hn p (cB _ hp);exact⟨f2,by rw[put2,e1];exact e2,h2,i2⟩
theorem ET(hC:C.length<=40){nb:List (Int×α)}(hn:∀a,Gd a->φ a∈C->∀p∈nb,fit a p.2=true->Gd (cmp a p.2)/\φ (cmp a p.2)∈C):∀{k place:Nat} {f:Fd α},Ok f->In φ Gd C f->∃f',fN fit cmp nb k place f=some f'/\Ok f'/\In φ Gd C f'
 |0,_,f,h,hi=>⟨f,rfl,h,hi⟩
 |k+1,place,f,h,hi=>by
  rw[fN];cases ha:f[place]? with
  |none=>exact⟨f,rfl,h,hi⟩
  |some a =>
   have hm:=hi a.1 (iW (f:=bo) (cU ha));obtain⟨f1,e1,h1,i1⟩:=ER (a:=a) inj hC (nb:=nb) h hi λp hp hf=>hn a.1 hm.1 hm.2 p hp hf;obtain⟨f2,e2,h2,i2⟩:=ET hC hn (k:=k) (place:=place+1) h1 i1;exact⟨f2,by dsimp only;rw[e1];exact e2,h2,i2⟩
theorem RR(hC:C.length<=40){nb:List (Int×α)}(h0:∀p∈nb,Gd p.2/\φ p.2∈C)(hn:∀a,Gd a->φ a∈C->∀p∈nb,fit a p.2=true->Gd (cmp a p.2)/\φ (cmp a p.2)∈C) :
 ∃F,gD fit cmp nb=some F/\Ok F/\In φ Gd C F:=by
 obtain⟨f1,e1,h1,i1⟩:=EO inj hC (nb:=nb) (Ok.nil (α:=α)) (λa ha=>by simp at ha) h0;obtain⟨f2,e2,h2,i2⟩:=ET (fit:=fit) (cmp:=cmp) inj hC hn (k:=41) (place:=0) h1 i1;exact⟨f2,by unfold gD;rw[e1];exact e2,h2,i2⟩
end
theorem RS{nb:List (Int×α)}{k place:Nat}{f:Fd α}(h:f.length<=place):fN fit cmp nb k place f=some f:=by
 cases k with
 |zero=>rfl
 |succ k=>rw[fN,b_ h]
section
variable{Pr:α->Prop}
theorem EU{f f':Fd α}{g:α}{w:List Int}(h:∀a∈f.map bo,Pr a)(hg:Pr g)(e:putN f g w=some f'):∀a∈f'.map bo,Pr a:=by
 unfold putN at e
 split at e
 ·cases e;exact h
 ·split at e
  ·cases e
  ·cases e;intro a ha;rw[b6]at ha;rcases bI.mp ha with ha|ha
   ·exact h a ha
   ·simp only[ba,fR,b5]at ha;rw[ha];exact hg
theorem EV:∀{l:List (Int×α)} {f f':Fd α},(∀p∈l,Pr p.2)->(∀a∈f.map bo,Pr a)->g6 l f=some f'->∀a∈f'.map bo,Pr a
 |[],f,f',_,h,e=>by cases e;exact h
 |(n,g)::l,f,f',hl,h,e=>by
  rw[g6,jO]at e;obtain⟨f1,e1,e2⟩:=e;exact EV (λp hp=>hl p (cB _ hp)) (EU h (hl (n,g) b4) e1) e2
theorem EW{a:α×List Int}:∀{l:List (Int×α)} {f f':Fd α},(∀p∈l,fit a.1 p.2=true->Pr (cmp a.1 p.2))->(∀a∈f.map bo,Pr a)->put2 fit cmp a l f=some f'->∀a∈f'.map bo,Pr a
 |[],f,f',_,h,e=>by cases e;exact h
 |(n,g)::l,f,f',hl,h,e=>by
  rw[put2,jO]at e;obtain⟨f1,e1,e2⟩:=e;refine EW (λp hp=>hl p (cB _ hp)) ?_ e2
  split at e1
  ·rename_i hf
   exact EU h (hl (n,g) b4 hf) e1
  ·cases e1;exact h
theorem EX{nb:List (Int×α)}(hn:∀a,Pr a->∀p∈nb,fit a p.2=true->Pr (cmp a p.2)):∀{k place:Nat} {f f':Fd α},(∀a∈f.map bo,Pr a)->fN fit cmp nb k place f=some f'->∀a∈f'.map bo,Pr a
 |0,_,f,f',h,e=>by cases e;exact h
 |k+1,place,f,f',h,e=>by
  rw[fN]at e;cases ha:f[place]? with
  |none=>rw[ha]at e;cases e;exact h
  |some a =>
   rw[ha]at e;dsimp only at e;rw[jO]at e;obtain⟨f1,e1,e2⟩:=e;exact EX hn (EW (hn a.1 (h a.1 (iW (f:=bo) (cU ha)))) h e1) e2
theorem EY{nb:List (Int×α)}{F:Fd α}(h0:∀p∈nb,Pr p.2)(hn:∀a,Pr a->∀p∈nb,fit a p.2=true->Pr (cmp a p.2))(e:gD fit cmp nb=some F):∀a∈F.map bo,Pr a:=by
 unfold gD at e;rw[jO]at e;obtain⟨f1,e1,e2⟩:=e;exact EX hn (EV h0 (λa ha=>by simp at ha) e1) e2
end
end
end CL
namespace EE
open PySem PySem.Spec PyProof.Rows L2
abbrev iO(h:Heap)(e it:Addr)(i:Int)(f0 f1 old:Value):Prop :=
 h.get? e=some {cls:=.type "enumerate",dict:=none,data:=.fields #[f0,f1,.ref it,rawInt i,.none,old],slots:=#[]}
def fZ(h:Heap)(e it:Addr)(i:Int):Prop:=∃f0 b old,(f0=.none∨∃a:Nat,f0=rawInt a)/\iO h e it i f0 (.bool b) old
section
variable{prog:Program}{w:World}{A:Around}{E:Value->Shared->Prop}{s:Shared}
theorem RT{M:Model}{a:Addr}{Q:Option Obj->Shared->Prop}(h:Q (s.heap.get? a) s):wpAny M A (loadIfAlive a) Q E s:=λΓ p _=>by
 unfold loadIfAlive;rw[Sem.wp_loadIfAlive];exact h
theorem RU{e it:Addr}{fp:List Addr}{n i:Nat}{P:Nat->Value->Prop}{St:Nat->Heap->Prop}{Q:Value->Shared->Prop}
 (D:Draws prog w A it fp n P St) (he:fZ s.heap e it i) (hst:St i s.heap) (hlt:i<n) (hne:e≠it) (hef:e∉fp)
 (hQ:∀x h' tk,P i x->fZ h' e it ((i:Int)+1)->St (i+1) h' ->
  h'.get? s.heap.objs.size=some {cls:=.type "tuple",data:=.seq #[.int i tk,x]}->h'.objs.size=s.heap.objs.size+1 ->
  (∀b o,b≠e->b≠it->s.heap.get? b=some o->h'.get? b=some o)->Q (.ref s.heap.objs.size) {s with heap:=h',toks:=tk+1}) :
 wpAny (model prog w) A (Builtin.«enumerate.__next__» ⟨[.ref e],[]⟩) (λfin s'=>∃v,fin=.done (.ret v)/\Q v s') E s:=by
 obtain⟨f0,b,old,lh,he⟩:=he;obtain⟨hp,g,d,tk₀,os⟩:=s;show wpAny _ _ (field (.ref e) 2 >>= _) _ _ _;refine ah (cG he rfl (x:=.ref it) rfl ?_);refine ah (D.item i _ _ _ hlt hst λx h₁ tk hPx hit₁ hs₁=>?_);replace hs₁:fh it hp h₁:=hs₁;have he₁:iO h₁ e it i f0 (.bool b) old:=(hs₁.2 e hne).trans he;show wpAny _ _ (field (.ref e) 3 >>= _) _ _ ⟨h₁,g,d,tk,os⟩;refine ah (cG he₁ rfl (x:=rawInt i) rfl ?_);show wpAny _ _ (field (.ref e) 4 >>= _) _ _ ⟨h₁,g,d,tk,os⟩;refine ah (cG he₁ rfl (x:=.none) rfl ?_);show wpAny _ _ (mkInt i >>= _) _ _ ⟨h₁,g,d,tk,os⟩;refine ah (zQ ?_);show wpAny _ _ (setField (.ref e) 3 (rawInt ((i:Int)+1)) >>= _) _ _ ⟨h₁,g,d,tk+1,os⟩;refine ah (gf he₁ (by simp) λh₂ he₂ hs₂=>?_);replace hs₂:fh e h₁ h₂:=hs₂;replace he₂:iO h₂ e it ((i:Int)+1) f0 (.bool b) old:=he₂;show wpAny _ _ (setField (.ref e) 4 .none >>= _) _ _ ⟨h₂,g,d,tk+1,os⟩;refine ah (gf he₂ (by simp) λh₃ he₃ hs₃=>?_);replace hs₃:fh e h₂ h₃:=hs₃;replace he₃:iO h₃ e it ((i:Int)+1) f0 (.bool b) old:=he₃;show wpAny _ _ (newTuple [.int i tk,x] >>= _) _ _ ⟨h₃,g,d,tk+1,os⟩;refine ah (wpAny_newTuple ?_);have he₄:iO (h₃.push {cls:=.type "tuple",data:=.seq #[.int i tk,x]}) e it ((i:Int)+1) f0 (.bool b) old:=bt _ he₃;generalize hh₄:h₃.push {cls:=.type "tuple",data:=.seq #[.int i tk,x]}=h₄ at he₄;have hsz:h₃.objs.size=hp.objs.size:=by rw[hs₃.1,hs₂.1,hs₁.1]
 have hel:e<hp.objs.size:=bg he;have ht₄:h₄.get? hp.objs.size=some {cls:=.type "tuple",data:=.seq #[.int i tk,x]}:=by rw[<-hh₄,<-hsz];exact c7 _ rfl
 have hz₄:h₄.objs.size=hp.objs.size+1:=by rw[<-hh₄,ig,hsz]
 have hk₄:∀b o,b≠e->b≠it->hp.get? b=some o->h₄.get? b=some o:=λb o hbe hbi hb=>by
  rw[<-hh₄];exact bt _ (hs₃.extBut b o hbe (hs₂.extBut b o hbe (hs₁.extBut b o hbi hb)))
 have hit₄:St (i+1) h₄:=D.frame _ _ _ hit₁ λb hb o y=>by
  have hbe:b≠e:=λq=>hef (q▸hb);rw[<-hh₄];exact bt _ (hs₃.extBut b o hbe (hs₂.extBut b o hbe y))
 show wpAny _ _ (oy (.ref e) >>= _) _ _ ⟨h₄,g,d,tk+1,os⟩;rw[hsz];clear hh₄ he₃ hs₃ he₂ hs₂ he₁ hs₁ hit₁ hsz h₃ h₂ h₁;have free:wpAny (model prog w) A (do
  rule "enumerate.__next__.owned-tuple-again"
  let old <-field (.ref e) 5
  setField (.ref e) 5 x
  qV (.ref e) (.ref hp.objs.size)
  letGo [old] [.ref hp.objs.size]
  PySem.ret (.ref hp.objs.size)) (λfin s'=>∃v,fin=.done (.ret v)/\Q v s') E ⟨h₄,g,d,tk+1,os⟩:=by
  refine ah (jG ?_);refine ah (cG he₄ rfl (x:=old) rfl ?_);refine ah (gf he₄ (by simp) λh₅ he₅ hs₅=>?_);replace hs₅:fh e h₄ h₅:=hs₅;replace he₅:iO h₅ e it ((i:Int)+1) f0 (.bool b) x:=he₅;show wpAny _ _ (qV (.ref e) (.ref hp.objs.size) >>= _) _ _ ⟨h₅,g,d,tk+1,os⟩;refine ah ?_;unfold qV;refine ah (gf he₅ (by simp) λh₆ he₆ hs₆=>?_);replace hs₆:fh e h₅ h₆:=hs₆;replace he₆:iO h₆ e it ((i:Int)+1) (rawInt hp.objs.size) (.bool b) x:=he₆;refine gf he₆ (by simp) λh₇ he₇ hs₇=>?_;replace hs₇:fh e h₆ h₇:=hs₇;replace he₇:iO h₇ e it ((i:Int)+1) (rawInt hp.objs.size) (.bool false) x:=he₇;refine ah (oA (az ⟨_,rfl,hQ x h₇ tk hPx ⟨_,_,_,.inr ⟨_,rfl⟩,he₇⟩ ?_ ?_ ?_ ?_⟩))
  ·exact D.frame _ _ _ hit₄ λb hb o y=>by
    have hbe:b≠e:=λq=>hef (q▸hb);exact hs₇.extBut b o hbe (hs₆.extBut b o hbe (hs₅.extBut b o hbe y))
  ·exact hs₇.extBut _ _ (l9 hel) (hs₆.extBut _ _ (l9 hel) (hs₅.extBut _ _ (l9 hel) ht₄))
  ·rw[hs₇.1,hs₆.1,hs₅.1,hz₄]
  ·exact λb o hbe hbi hb=>hs₇.extBut b o hbe (hs₆.extBut b o hbe (hs₅.extBut b o hbe (hk₄ b o hbe hbi hb)))
 have keep:∀h₅ b',iO h₅ e it ((i:Int)+1) f0 (.bool b') old->fh e h₄ h₅->wpAny (model prog w) A (PySem.ret (.ref hp.objs.size)) (λfin s'=>∃v,fin=.done (.ret v)/\Q v s') E ⟨h₅,g,d,tk+1,os⟩:=λh₅ b' he₅ hs₅=>by
  refine az ⟨_,rfl,hQ x h₅ tk hPx ⟨_,_,_,lh,he₅⟩ ?_ ?_ ?_ ?_⟩
  ·exact D.frame _ _ _ hit₄ λb hb o y=>by
    have hbe:b≠e:=λq=>hef (q▸hb);exact hs₅.extBut b o hbe y
  ·exact hs₅.extBut _ _ (l9 hel) ht₄
  ·rw[hs₅.1,hz₄]
  ·exact λb o hbe hbi hb=>hs₅.extBut b o hbe (hk₄ b o hbe hbi hb)
 refine ah ?_;unfold oy;refine ah (cG he₄ rfl (x:=f0) rfl ?_);rcases lh with rfl|⟨a,rfl⟩
 ·refine az ?_;simp only[if_true];exact free
 ·show wpAny _ _ (loadIfAlive (oD a) >>= _) _ _ _;refine ah (RT ?_);cases hal:h₄.get? (oD a) with
  |none =>
   simp only[hal,Option.isNone_none,if_true];refine az ?_;simp only[if_true];exact free
  |some o =>
   simp only[hal,Option.isNone_some,f9,if_false];refine ah (cG he₄ rfl (x:=.bool b) rfl ?_);cases b with
   |true =>
    simp only[bne_self_eq_false,f9,if_false];refine az ?_;simp only[f9,if_false];exact keep h₄ true he₄ ⟨rfl,λ_ _=>rfl⟩
   |false =>
    rw[if_pos (by decide)];refine ah (gf he₄ (by simp) λh₅ he₅ hs₅=>?_);refine az ?_;simp only[f9,if_false];exact keep h₅ true he₅ hs₅
theorem EZ{e it:Addr}{fp:List Addr}{n i:Nat}{P:Nat->Value->Prop}{St:Nat->Heap->Prop}{Q:Option Value->Shared->Prop}
 (D:Draws prog w A.in1 it fp n P St) (he:fZ s.heap e it i) (hst:St i s.heap) (hlt:i<n) (hne:e≠it) (hef:e∉fp)
 (hQ:∀x h' tk,P i x->fZ h' e it ((i:Int)+1)->St (i+1) h' ->
  h'.get? s.heap.objs.size=some {cls:=.type "tuple",data:=.seq #[.int i tk,x]}->h'.objs.size=s.heap.objs.size+1 ->
  (∀b o,b≠e->b≠it->s.heap.get? b=some o->h'.get? b=some o)->Q (some (.ref s.heap.objs.size)) {s with heap:=h',toks:=tk+1}) :
 wpAny (model prog w) A (pyNext (.ref e)) Q E s:=by
 have hT:s.TypeIs (.ref e) "enumerate":=by obtain⟨_,_,_,_,he⟩:=he;exact⟨_,he,rfl⟩
 unfold pyNext;exact ah (jK (hZ (name:=gc "__next__") hT qY
  (f7 qY hT JC
   (RU D he hst hlt hne hef λx h' tk a b c d k q=>az (hQ x h' tk a b c d k q)) (JD _))))
theorem E1{e it:Addr}{i:Int}{Q:Option Value->Shared->Prop}(he:fZ s.heap e it i)
 (hd:∀(Q':Value->Shared->Prop) (E':Value->Shared->Prop),(∀h' x,qU it s.heap h'->(∃o,h'.get? x=some o/\o.cls=.type "StopIteration")->E' (.ref x) {s with heap:=h'})->wpAny (model prog w) A.in1 (jM (.ref it)) Q' E' s)
 (hQ:∀h',qU it s.heap h'->Q none {s with heap:=h'}):wpAny (model prog w) A (pyNext (.ref e)) Q E s:=by
 obtain⟨_,_,_,_,he⟩:=he;have hT:s.TypeIs (.ref e) "enumerate":=⟨_,he,rfl⟩;unfold pyNext;refine ah (jK (hZ (name:=gc "__next__") hT qY
  (f7 qY hT JC ?_ (JD _))))
 show wpAny _ _ (field (.ref e) 2 >>= _) _ _ _;refine ah (cG he rfl (x:=.ref it) rfl ?_);refine ah (hd _ _ λh' x he' hx'=>?_);obtain⟨o,ho,hc⟩:=hx';refine ah (qI (T:="StopIteration") (b:=true) ⟨o,ho,hc⟩ zS ?_);exact az (hQ _ he')
theorem qg{e it:Addr}{i:Int}{Q:Value->Shared->Prop}(he:fZ s.heap e it i)(h:Q (.ref e) s):wpAny (model prog w) A (pyIter (.ref e)) Q E s:=by
 obtain⟨_,_,_,_,he⟩:=he;have hT:s.TypeIs (.ref e) "enumerate":=⟨_,he,rfl⟩;refine IX hT JE (f7 JE hT PySem.F.entry_enumerate_iter ?_ (PySem.F.args_enumerate_iter_1 _));show wpAny _ _ (ret (.ref e)) _ _ s;exact az ⟨_,rfl,"enumerate",_,hT,qY.lookup,h⟩
theorem E2{tg:Expr}{e it a:Addr}{i:Int}{Q:Unit->Shared->Prop}(he:fZ s.heap e it i)(hQ:∀h',fZ h' e it i->fh e s.heap h'->Q () {s with heap:=h'}) :
 wpAny (model prog w) A (letOwnedTupleGo tg (.ref e) (.ref a)) Q E s:=by
 have h0:=he;obtain⟨f0,b,old,lh,he⟩:=he;have same:Q () s:=hQ s.heap h0 ⟨rfl,λ_ _=>rfl⟩;have go:wpAny (model prog w) A (letOwnedTupleGo (.Tuple [] 0 default) (.ref e) (.ref a)) Q E s:=by
  unfold letOwnedTupleGo;refine ah (wpAny_load he ?_);dsimp only
  split
  ·refine ah (jG ?_);show wpAny _ A (setField (.ref e) 0 .none) Q E s;exact gf he (by simp) λh' he' hs'=>hQ h' ⟨_,_,_,.inl rfl,he'⟩ hs'
  ·exact az same
 cases tg<;>first
  |exact az same
  |exact go
end
theorem RV{prog:Program}{w:World}{A:Around}(hh:A.handled=none)(it l:Addr)(hne:l≠it)(items:Array Value) :
 Draws prog w A it [it,l] items.size (λi v=>items[i]?=some v) (λi h=>h.IsTupleIter it l i/\h.IsTuple l items) where
 live:=λ_ _ st=>let⟨o,ho,_⟩:=st.1;⟨o,ho⟩
 frame:=λ_ _ _ st hk=>⟨st.1.at λo e=>hk it (by simp) o e,let⟨o,ho,r⟩:=st.2;⟨o,hk l (by simp) o ho,r⟩⟩
 item:=λi s Q E hi st hQ=>by
  refine tE st.1 st.2 (x:=items[i]) (by simp[hi]) λh' hit' hs'=>?_;exact hQ _ h' s.toks (by simp[hi]) ⟨hit',iH st.2 hs'.extBut hne⟩ hs'
 done:=λs Q E st hE=>tF hh st.1 st.2 (by simp) hE
theorem RW(l:Addr)(items:Array Value) :
 Meets (Builtin.«enumerate.__new__» ⟨[.type "enumerate",.ref l],[]⟩) (λ_ R s=>s.heap.IsTuple l items /\
  R (.ok (.ret (.ref (s.heap.push {cls:=.type "tuple_iterator",data:=.fields #[.ref l,.int 0 0]}).objs.size)))
   {s with heap:=(s.heap.push {cls:=.type "tuple_iterator",data:=.fields #[.ref l,.int 0 0]}).push {cls:=.type "enumerate",data:=.fields #[.none,.bool false,.ref s.heap.objs.size,rawInt 0,.none,.none]}}) :=
 .of_wp λprog w A R s h=>by
  obtain⟨hp,g,d,tk,os⟩:=s;obtain⟨hl,h⟩:=h;have hsub:=sub_enumerate;have hL:z_ (Aa ⟨hp,g,d,tk,os⟩) l items:=hl
  wp_walk
  refine wpAny_stack_any λst=>az ?_
  split
  ·rename_i c _ _ _ _ _
   cases (c==Value.type "enumerate")
   ·wp_walk using n8 hL
    exact⟨_,rfl,h⟩
   ·wp_walk using n8 hL
    exact⟨_,rfl,h⟩
  ·wp_walk using n8 hL
   exact⟨_,rfl,h⟩
section
variable{prog:Program}{w:World}{A:Around}{E:Value->Shared->Prop}{s:Shared}
theorem E4{l:Addr}{items:Array Value}{Q:Value->Shared->Prop}(hL:s.heap.IsTuple l items)
 (h:∀h',fZ h' (s.heap.objs.size+1) s.heap.objs.size 0->h'.IsTupleIter s.heap.objs.size l 0->h'.objs.size=s.heap.objs.size+2 ->
  (∀b o,s.heap.get? b=some o->h'.get? b=some o)->Q (.ref (s.heap.objs.size+1)) {s with heap:=h'}) :
 wpAny (model prog w) A (call (.type "enumerate") [.ref l]) Q E s:=by
 refine zP PySem.F.called_enumerate (by decide) (PySem.F.typeCall_enumerate_1 _) (PySem.F.newCall_enumerate_1 _) (λobj=>IV obj _) PySem.F.entry_enumerate_new
  (RW l items) ⟨hL,?_⟩
 have hz:(s.heap.push {cls:=.type "tuple_iterator",data:=.fields #[.ref l,.int 0 0]}).objs.size=s.heap.objs.size+1:=ig ..;show _/\_;rw[hz];have he:iO ((s.heap.push {cls:=.type "tuple_iterator",data:=.fields #[.ref l,.int 0 0]}).push
  {cls:=.type "enumerate",data:=.fields #[.none,.bool false,.ref s.heap.objs.size,rawInt 0,.none,.none]}) (s.heap.objs.size+1) s.heap.objs.size 0 .none (.bool false) .none:=by
  have:=c7 (s.heap.push {cls:=.type "tuple_iterator",data:=.fields #[.ref l,.int 0 0]})
   (o:={cls:=.type "enumerate",data:=.fields #[.none,.bool false,.ref s.heap.objs.size,rawInt 0,.none,.none]}) rfl
  rw[hz]at this;exact this
 refine⟨⟨_,he,rfl⟩,h _ ⟨_,_,_,.inl rfl,he⟩ ⟨_,bt _ (c7 _ rfl),rfl,rfl⟩ (by rw[ig,hz]) λb o x=>bt _ (bt _ x)⟩
theorem E5{l:Addr}{items:Array Value}{Q:Value->Shared->Prop}(hL:s.heap.IsList l items)
 (h:∀h',fZ h' (s.heap.objs.size+1) s.heap.objs.size 0->h'.IsListIter s.heap.objs.size l 0->h'.objs.size=s.heap.objs.size+2 ->
  (∀b o,s.heap.get? b=some o->h'.get? b=some o)->Q (.ref (s.heap.objs.size+1)) {s with heap:=h'}) :
 wpAny (model prog w) A (call (.type "enumerate") [.ref l]) Q E s :=
 call_enumerate_list hL λh' he hi hz hk=>h h' ⟨_,_,_,.inl rfl,he⟩ hi hz hk
end
theorem RX{X:Cx}{pins:List (Addr×Obj)}{σ:L2.St}{H:Hp}{s:Shared}{h':Heap}{t':Nat}{fp:List Addr}{a:Addr}{o:HO}(I:Inv X pins σ H s)(k:∀b u,b∉fp->s.heap.get? b=some u->h'.get? b=some u)(hf:∀b∈fp,du X pins H b)
 (hp:s.heap.objs.size<=a) (new:cM X.prog X.w (upd H a o) h' a o):Inv X pins σ (upd H a o) {s with heap:=h',toks:=t'}:=by
 have hn:H a=none:=I.hok.fresh hp;have jU:∀b u,H b=some u->b∉fp:=λb u e z=>by
  rw[(hf b z).1]at e;cases e
 refine I.step (g':=s.gens) (d':=s.drawn) (ch:=fp) (λb hb=>?_) (λb o _ _ hc e _=>k b o hc e) (λb o _ _ hc e _=>⟨o.slots,k b o hc e⟩) (λb u _ e n=>?_) (λb o hc e=>⟨o,k b o hc e⟩) (λb xs e=>?_) (λb u v e=>?_)
  (λb ps e=>⟨#[],by rw[aY (gh e hn),e];simp⟩) (λm hm=>?_) (λb u e=>?_) I.bare
 ·obtain⟨f0,f1,f2,f3,f4,f5⟩:=hf b hb;exact⟨f3,f1,f4,f5⟩
 ·rw[aY (cS (cR (bg e) hp))];exact n
 ·rw[aY (gh e hn)];exact e
 ·rw[aY (gh e hn)];exact e
 ·obtain⟨o,es,ep,ho,r⟩:=hm;exact⟨o,es,ep,k _ o (λz=>(hf _ z).2.1 rfl) ho,r⟩
 ·by_cases hb:b=a
  ·subst hb;rw[di]at e;cases e;exact new
  ·rw[aY hb]at e;refine(I.hok b u e).stay (λc v hc q=>k c v ?_ q) (λc q=>by rw[aY (gh q hn)];exact q) λc xs q=>by rw[aY (gh q hn)];exact q
   rcases hc with z|z
   ·rw[z];exact jU b u e
   ·exact jU c _ z
def iP(sq:Hp->List V->Prop):It :=
 ⟨λi H=>∃xs,sq H xs/\i<xs.length,λi H x H'=>∃p y,x=.ref p/\H p=none/\H'=upd H p (.tup [.int i,y])/\∀xs,sq H xs->xs[i]?=some y,λi H=>∃xs,sq H xs/\xs.length<=i⟩
theorem E6{X:Cx}{pins:List (Addr×Obj)}{σ:L2.St}{H:Hp}{s:Shared}{h':Heap}{e it:Addr}{i:Nat}{tk:Nat}{u:Value}{y:V}(I:Inv X pins σ H s)(hf:∀b∈[e,it],du X pins H b)(ru:RelV y u)
 (hT:h'.get? s.heap.objs.size=some {cls:=.type "tuple",data:=.seq #[.int i tk,u]}) (k:∀b o,b≠e->b≠it->s.heap.get? b=some o->h'.get? b=some o) :
 Inv X pins σ (upd H s.heap.objs.size (.tup [.int i,y])) {s with heap:=h',toks:=tk+1} :=
 RX (fp:=[e,it]) I (λb o n q=>k b o (λz=>n (by simp[z])) (λz=>n (by simp[z])) q) hf (aQ _) ⟨(by decide:2<=sizeLine),[.int i tk,u],.cons ⟨tk,rfl⟩ (.cons ru .nil),⟨_,hT,rfl,_,rfl⟩,λo q=>by rw[hT]at q;cases q;rfl⟩
theorem E7{P:Program}{w:World}{K:ak}{tg:Expr}(l e it:Addr)(hne:e≠it):Turn P w K tg (iP λH xs=>aZ K H l xs) [e,it] e (λi h=>fZ h e it i/\h.IsListIter it l i) where
 mem:=b4
 obj:=λi h st c hc=>by
  obtain⟨⟨f0,b,old,_,s1⟩,⟨o2,s2,_,d2⟩⟩:=st;simp only[a8,cc,or_false]at hc;rcases hc with rfl|rfl
  ·exact⟨_,s1,λv z=>nomatch z⟩
  ·exact⟨_,s2,λv z=>by rw[d2]at z;cases z⟩
 keep:=λi h h' st kk=>by
  obtain⟨⟨f0,b,old,lh,s1⟩,s2⟩:=st;exact⟨⟨f0,b,old,lh,kk e (by simp) _ s1⟩,s2.at λo q=>kk it (by simp) o q⟩
 item:=by
  intro X hP hw hK hc i pins s σ H E I hf st hg;subst hP hw hK;obtain⟨xs,hq,hi⟩:=hg;obtain⟨its,rv,pt,hz⟩:=I.list hq;have hl:=rv.length;obtain⟨u,hu,ru⟩:=rv.get (aX hi);have ps:s.heap.IsList l its.toArray:=pt.isList;have hle:l≠e:=by
   rintro rfl;obtain⟨o,q,c,_⟩:=ps;obtain⟨_,_,_,_,q2⟩:=st.1;rw[q2]at q;cases q;exact absurd (u6 c) (by decide)
  have hli:l≠it:=by
   rintro rfl;obtain⟨o,q,c,_⟩:=ps;obtain⟨o2,q2,c2,_⟩:=st.2;rw[q2]at q;cases q;rw[c2]at c;exact absurd (u6 c) (by decide)
  refine EZ (Draws.list (A:=X.A.in1) (show X.A.in1.handled=none from I.ok.hd hc) it l hli its.toArray) st.1 ⟨st.2,ps⟩ (by rw[bM];lia) hne (by simp[hne,dn hle]) λx h' tk hx he hst hT hsz k=>?_;have ex:u=x:=by
   have e1:its[i]?=some x:=by simpa using hx
   rw[hu]at e1;exact dD e1
  subst ex;refine⟨_,rfl,E2 (s:={s with heap:=h',toks:=tk+1}) he λh2 he2 sb=>?_⟩;have el:e<s.heap.objs.size:=by obtain⟨_,_,_,_,q⟩:=st.1;exact bg q
  have il:it<s.heap.objs.size:=by obtain⟨_,q,_⟩:=st.2;exact bg q
  have k2:∀b o,b≠e->b≠it->s.heap.get? b=some o->h2.get? b=some o:=λb o n1 n2 q=>(sb.2 b n1).trans (k b o n1 n2 q);have e1:((i:Int)+1)=((i+1:Nat):Int):=by lia
  rw[e1]at he2;have Im:=E6 (s:=s) (i:=i) (y:=xs[i]) (tk:=tk) I hf ru ((sb.2 _ (l9 el)).trans hT) k2;refine⟨.ref s.heap.objs.size,_,Im,rfl,⟨_,xs[i],rfl,I.hok.fresh (aQ _),rfl,λzs hy=>by rw[I.rB hy hq];exact aX hi⟩,
   ⟨he2,hst.1.at λo q=>(sb.2 it (dn hne)).trans q⟩,λc hc'=>?_⟩
  simp only[a8,cc,or_false]at hc';rcases hc' with rfl|rfl
  ·rw[aY (cS el)];exact(hf _ (by simp)).1
  ·rw[aY (cS il)];exact(hf _ (by simp)).1
 done:=by
  intro X hP hw hK hc i pins s σ H E I hf st hg;subst hP hw hK;obtain⟨xs,hq,hi⟩:=hg;obtain⟨its,rv,pt,hz⟩:=I.list hq;have hl:=rv.length;have ps:s.heap.IsList l its.toArray:=pt.isList;refine E1 st.1 (λQ' E' hE=>wpAny_nextOf_list_end (I.ok.hd hc) st.2 ps (by simp;lia) hE) λh' eb=>⟨rfl,tD (t':=s.toks) (fp:=[e,it]) I (λc o n q=>eb c o (λz=>n (by simp[z])) q) hf⟩
 self:=λ_ _ _ _ _ st h=>qg st.1 h
theorem E8{P:Program}{w:World}{K:ak}{tg:Expr}(l e it:Addr)(hne:e≠it):Turn P w K tg (iP λH xs=>a9 K H l xs) [e,it] e (λi h=>fZ h e it i/\h.IsTupleIter it l i) where
 mem:=b4
 obj:=λi h st c hc=>by
  obtain⟨⟨f0,b,old,_,s1⟩,⟨o2,s2,_,d2⟩⟩:=st;simp only[a8,cc,or_false]at hc;rcases hc with rfl|rfl
  ·exact⟨_,s1,λv z=>nomatch z⟩
  ·exact⟨_,s2,λv z=>by rw[d2]at z;cases z⟩
 keep:=λi h h' st kk=>by
  obtain⟨⟨f0,b,old,lh,s1⟩,s2⟩:=st;exact⟨⟨f0,b,old,lh,kk e (by simp) _ s1⟩,s2.at λo q=>kk it (by simp) o q⟩
 item:=by
  intro X hP hw hK hc i pins s σ H E I hf st hg;subst hP hw hK;obtain⟨xs,hq,hi⟩:=hg;obtain⟨its,rv,pt,hz⟩:=I.tuple hq;have hl:=rv.length;obtain⟨u,hu,ru⟩:=rv.get (aX hi);have ps:s.heap.IsTuple l its.toArray:=pt;have hle:l≠e:=by
   rintro rfl;obtain⟨o,q,c,_⟩:=ps;obtain⟨_,_,_,_,q2⟩:=st.1;rw[q2]at q;cases q;exact absurd (u6 c) (by decide)
  have hli:l≠it:=by
   rintro rfl;obtain⟨o,q,c,_⟩:=ps;obtain⟨o2,q2,c2,_⟩:=st.2;rw[q2]at q;cases q;rw[c2]at c;exact absurd (u6 c) (by decide)
  refine EZ (RV (A:=X.A.in1) (show X.A.in1.handled=none from I.ok.hd hc) it l hli its.toArray) st.1 ⟨st.2,ps⟩ (by rw[bM];lia) hne (by simp[hne,dn hle]) λx h' tk hx he hst hT hsz k=>?_;have ex:u=x:=by
   have e1:its[i]?=some x:=by simpa using hx
   rw[hu]at e1;exact dD e1
  subst ex;refine⟨_,rfl,E2 (s:={s with heap:=h',toks:=tk+1}) he λh2 he2 sb=>?_⟩;have el:e<s.heap.objs.size:=by obtain⟨_,_,_,_,q⟩:=st.1;exact bg q
  have il:it<s.heap.objs.size:=by obtain⟨_,q,_⟩:=st.2;exact bg q
  have k2:∀b o,b≠e->b≠it->s.heap.get? b=some o->h2.get? b=some o:=λb o n1 n2 q=>(sb.2 b n1).trans (k b o n1 n2 q);have e1:((i:Int)+1)=((i+1:Nat):Int):=by lia
  rw[e1]at he2;have Im:=E6 (s:=s) (i:=i) (y:=xs[i]) (tk:=tk) I hf ru ((sb.2 _ (l9 el)).trans hT) k2;refine⟨.ref s.heap.objs.size,_,Im,rfl,⟨_,xs[i],rfl,I.hok.fresh (aQ _),rfl,λzs hy=>by rw[I.mo hy hq];exact aX hi⟩,
   ⟨he2,hst.1.at λo q=>(sb.2 it (dn hne)).trans q⟩,λc hc'=>?_⟩
  simp only[a8,cc,or_false]at hc';rcases hc' with rfl|rfl
  ·rw[aY (cS el)];exact(hf _ (by simp)).1
  ·rw[aY (cS il)];exact(hf _ (by simp)).1
 done:=by
  intro X hP hw hK hc i pins s σ H E I hf st hg;subst hP hw hK;obtain⟨xs,hq,hi⟩:=hg;obtain⟨its,rv,pt,hz⟩:=I.tuple hq;have hl:=rv.length;have ps:s.heap.IsTuple l its.toArray:=pt;refine E1 st.1 (λQ' E' hE=>tF (I.ok.hd hc) st.2 ps (by simp;lia) hE) λh' eb=>⟨rfl,tD (t':=s.toks) (fp:=[e,it]) I (λc o n q=>eb c o (λz=>n (by simp[z])) q) hf⟩
 self:=λ_ _ _ _ _ st h=>qg st.1 h
section
variable{X:Cx}{tg a:Expr}{ta:TA}{p pos:Pos}
def xi(K:ak)(ta:TA):TI:=λσ H R=>ta σ H λvs H1=>∃l,vs=[.ref l]/\(((∃xs,aZ K H1 l xs)/\R (iP λH xs=>aZ K H l xs) H1)∨((∃xs,a9 K H1 l xs)/\R (iP λH xs=>a9 K H l xs) H1))
theorem RY{pins:List (Addr×Obj)}{σ:L2.St}{H1:Hp}{s1:Shared}{l:Addr}{R:It->Hp->Prop}(I1:Inv X pins σ H1 s1)(q:((∃xs,aZ X.K H1 l xs)/\R (iP λH xs=>aZ X.K H l xs) H1)∨((∃xs,a9 X.K H1 l xs)/\R (iP λH xs=>a9 X.K H l xs) H1)) :
 wpAny (model X.prog X.w) X.A (call (.type "enumerate") [.ref l]) (λv s2=>wpAny (model X.prog X.w) X.A (pyIter v) (vg X pins σ tg R) X.xe s2) X.xe s1:=by
 have hne:s1.heap.objs.size+1≠s1.heap.objs.size:=by lia
 have fin:∀(h':Heap),(∀b o,s1.heap.get? b=some o->h'.get? b=some o)->Inv X pins σ H1 {s1 with heap:=h'}/\∀b∈[s1.heap.objs.size+1,s1.heap.objs.size],du X pins H1 b:=λh' k=>⟨I1.kept (t':=s1.toks) k,λb hb=>by
  have cl:s1.heap.objs.size<=b:=by
   simp only[a8,cc,or_false]at hb;lia
  exact I1.i9 cl (I1.hok.fresh cl)⟩
 rcases q with⟨⟨xs,hx⟩,q⟩|⟨⟨xs,hx⟩,q⟩
 ·obtain⟨its,rv,pt,_⟩:=I1.list hx;refine E5 pt.isList λh' he hi hz k=>qg he ?_;obtain⟨I2,f2⟩:=fin h' k;exact⟨_,_,_,_,H1,rfl,I2,E7 l _ _ hne,⟨he,hi⟩,f2,q⟩
 ·obtain⟨its,rv,pt,_⟩:=I1.tuple hx;refine E4 (show s1.heap.IsTuple l its.toArray from pt) λh' he hi hz k=>qg he ?_;obtain⟨I2,f2⟩:=fin h' k;exact⟨_,_,_,_,H1,rfl,I2,E8 l _ _ hne,⟨he,hi⟩,f2,q⟩
theorem RZ(hg:Gl X "enumerate")(hm:X.mg "enumerate"=none)(ha:PA X [a] ta)(hs:starEach [a] X.env=[(false,eval a X.env)]:=by rfl):PI X tg (.Call (.Name "enumerate" p) [a] [] pos) (xi X.K ta):=by
 intro pins s σ H R I h;refine Call_ (iq I hg hm boot_enumerate (jH (aK (ha pos pins s σ H _ I h) λus s1 ⟨vs,H1,I1,r1,q1⟩=>?_) hs rfl));obtain⟨l,rfl,q⟩:=q1;obtain⟨u,rfl,r⟩:=vals1 r1;cases r;exact RY I1 q
end
def qh(X:Cx):Cx:={X with A:=X.A.in1.in1}
theorem inv2{X:Cx}{pins:List (Addr×Obj)}{σ:L2.St}{H:Hp}{s:Shared}(I:Inv X pins σ H s):Inv (qh X) pins σ H s :=
 ⟨⟨I.ok.mod,I.ok.kind,I.ok.glob,I.ok.blt,I.ok.above,I.ok.inj,I.ok.has,I.ok.cab,I.ok.hd,I.ok.frames,I.ok.kL,I.ok.oN,I.ok.bs,I.ok.gk,I.ok.jS,I.ok.jT,I.ok.eV,I.ok.ip⟩,I.os,I.bare,I.base,I.loc,I.cell,I.free,I.eG,I.pin,I.hok,I.len⟩
theorem E9{X:Cx}{pins:List (Addr×Obj)}{σ:L2.St}{H:Hp}{s:Shared}(I:Inv (qh X) pins σ H s)(ok:X.Ok):Inv X pins σ H s:=⟨ok,I.os,I.bare,I.base,I.loc,I.cell,I.free,I.eG,I.pin,I.hok,I.len⟩
theorem E_{X:Cx}{pins:List (Addr×Obj)}{H:Hp}{b:Addr}(h:du X pins H b):du (qh X) pins H b:=h
section
variable{X:Cx}{pins:List (Addr×Obj)}{σ:L2.St}{J:It}{fp:List Addr}{it D:Addr}{tn:Nat->Heap->Prop}{R:Result->Shared->Prop}
theorem R0(hc:X.calm=true)(ok:X.Ok){nx:Str}{px:Pos}(T:Turn X.prog X.w X.K (.Name nx px) J fp it tn)(W:Nat->Nat->Hp->Prop)
 (turn:∀i m H2,W i m H2->(J.stop i H2/\∀s',Inv X pins σ H2 s'->R (.ok (.ret .none)) s')∨(J.go i H2/\∀v H',J.jW i H2 v H'->∃ys,H' D=some (.lst ys)/\ys.length<sizeLine/\∃m',m'<m/\W (i+1) m' (upd H' D (.lst (ys++[v]))))) :
 ∀(m i:Nat) (H2:Hp) (s:Shared),W i m H2->Inv X pins σ H2 s->(∀b∈fp,du X pins H2 b)->tn i s.heap->codeAny (model X.prog X.w) X.A.in1 (.builtin "list.extend.loop" ⟨[.ref D,.ref it,.none],[]⟩) R s:=by
 intro m
 induction m using Nat.strongRecOn with
 |ind m ih =>
  intro i H2 s w I hf st;refine codeAny_builtin PySem.F.entry_extend_loop ?_;rw[Around.under_plainId Ag _];show wpAny _ X.A.in1.in1 (pyNext (.ref it) >>= _) _ _ s;rcases turn i m H2 w with⟨stop,fin⟩|⟨go,step⟩
  ·refine ah (aK (T.done (qh X) rfl rfl rfl hc i pins s σ H2 _ (inv2 I) (λb hb=>E_ (hf b hb)) st stop) λr s1 ⟨hr,I1⟩=>?_);subst hr;exact az (fin s1 (E9 I1 ok))
  ·refine ah (aK (T.item (qh X) rfl rfl rfl hc i pins s σ H2 _ (inv2 I) (λb hb=>E_ (hf b hb)) st go) λr s1 ⟨u,hr,h1⟩=>?_);subst hr;show wpAny _ X.A.in1.in1 (letOwnedTupleGo (.Name nx px) (.ref it) u >>= λ_=>updateSeq D (·.push u) >>= λ_=>again (.builtin "list.extend.loop" ⟨[.ref D,.ref it,.none],[]⟩)) _ _ s1;refine ah (aK h1 λ_ s2 ⟨v,H3,I3,rv,hy,st3,gK⟩=>?_);obtain⟨ys,hD,hz,m',hm,w'⟩:=step v H3 hy;have Fb:=E9 I3 ok;obtain⟨z,its,n,r,hl,e⟩:=Fb.jZ hD;have I4:=Fb.o9 (its':=its++[u]) (f:=(·.push u)) (t':=s2.toks) hD e (by simp) (r.append (.cons rv .nil)) (by rw[a5,l_];lia);have hDf:∀b∈fp,b≠D:=λb hb z=>by rw[z]at hb;rw[gK D hb]at hD;cases hD
   refine ah (u7 e rfl (az ⟨plainId_quiet Ag _,ih m' hm (i+1) _ _ w' I4 (λb hb=>?_) (T.keep _ _ _ st3 λb hb o q=>?_)⟩) ?_)
   ·obtain⟨f0,f⟩:=hf b hb;exact⟨by rw[aY (hDf b hb)];exact gK b hb,f⟩
   ·exact(qM _ _ (dn (hDf b hb))).trans q
   ·simp only[bM,Array.size_push];have:=r.length;lia
end
namespace FE
theorem R4:typeLookup (.type "enumerate") "__len__"=pure none:=by rw[oh,oi];kernel_rfl
theorem R5:typeLookup (.type "enumerate") "__length_hint__"=pure none:=by rw[oh,oi];kernel_rfl
end FE
section
variable{X:Cx}{a:Expr}{ta:TA}{p p2 pos pos2:Pos}{g:TG}{tt:TT}{te:TE}
theorem R6(hc:X.calm=true)(gl:Gl X "list")(ml:X.mg "list"=none)(ge:Gl X "enumerate")(me:X.mg "enumerate"=none)(ha:PA X [a] ta)
 (hg:∀v o H Q,g v [o] H Q->Q [some v] H) (ht:∀τ H Q,tt τ H Q->Q true H) (he:∀v H Q,te [some v] H Q->Q v H)
 (hs:starEach [.Call (.Name "enumerate" p2) [a] [] pos2] X.env=[(false,eval (.Call (.Name "enumerate" p2) [a] [] pos2) X.env)]:=by rfl) (hs2:starEach [a] X.env=[(false,eval a X.env)]:=by rfl) :
 PE X (.Call (.Name "list" p) [.Call (.Name "enumerate" p2) [a] [] pos2] [] pos) (tz (xi X.K ta) g tt te 1 []):=by
 intro pins s σ H Q I h;refine Call_ (iq I gl ml boot_list (jH ?_ hs rfl));rw[hs];show wpAny _ _ (spliced ((false,eval (.Call (.Name "enumerate" p2) [a] [] pos2) X.env)::backTo pos [])) _ _ s;refine Ir (Call_ (iq I ge me boot_enumerate (jH (aK (ha pos2 pins s σ H _ I h) λus s1 ⟨vs,H1,I1,r1,q1⟩=>?_) hs2 rfl)));obtain⟨l,rfl,q⟩:=q1;obtain⟨u,rfl,r⟩:=vals1 r1;cases r;have main:∀(J:It) (tn:Nat->Heap->Prop) (h':Heap),Turn X.prog X.w X.K (.Name "x" p) J [s1.heap.objs.size+1,s1.heap.objs.size] (s1.heap.objs.size+1) tn->tn 0 h'->(∀i h,tn i h->fZ h (s1.heap.objs.size+1) s1.heap.objs.size i)->h'.objs.size=s1.heap.objs.size+2 ->
  (∀b o,s1.heap.get? b=some o->h'.get? b=some o) ->
  (∀D,H1 D=none->∃W:Nat->Nat->L2.St->Hp->Prop,(∃m,W 0 m (eR 1 none++pick σ []) (upd H1 D (.lst []))) /\
   ∀i m τ H2,W i m τ H2->(J.stop i H2/\Q (.ref D) H2)∨(J.go i H2/\∃N:L2.St->Hp->Prop,(∀aP H',N aP H'->∃m',m'<m/\W (i+1) m' aP H')/\∀v H',J.jW i H2 v H' ->
    g v τ H' λaP H3=>tt aP H3 λb H4=>if b=true then te aP H4 λy H5=>∃ys,H5 D=some (.lst ys)/\ys.length<sizeLine/\N aP (upd H5 D (.lst (ys++[y]))) else N aP H4)) ->
  wpAny (model X.prog X.w) X.A (spliced (backTo pos [])) (λvs s3=>wpAny (model X.prog X.w) X.A (call (.type "list") (.ref (s1.heap.objs.size+1)::vs)) (EP X pins σ Q) X.xe s3) X.xe {s1 with heap:=h'}:=λJ tn h' T st hE hz k q=>by
  refine Iq ?_;have I2:Inv X pins σ H1 {s1 with heap:=h'}:=I1.kept (t':=s1.toks) k;have f2:∀b∈[s1.heap.objs.size+1,s1.heap.objs.size],du X pins H1 b:=λb hb=>by
   have cl:s1.heap.objs.size<=b:=by
    simp only[a8,cc,or_false]at hb;lia
   exact I1.i9 cl (I1.hok.fresh cl)
  have R7:H1 h'.objs.size=none:=I2.hok.fresh (aQ _);obtain⟨W,⟨m0,w0⟩,turn⟩:=q h'.objs.size R7;have I3:Inv X pins σ (upd H1 h'.objs.size (.lst [])) {s1 with heap:=h'.push {cls:=.type "list",data:=.seq #[]}}:=I2.rT (its:=[]) (t':=s1.toks) .nil (dO _);have st3:tn 0 (h'.push {cls:=.type "list",data:=.seq #[]}):=T.keep _ _ _ st λb hb o q=>bt _ q;have ne3:∀b∈[s1.heap.objs.size+1,s1.heap.objs.size],b≠h'.objs.size:=λb hb=>by
   simp only[a8,cc,or_false]at hb;rw[hz];lia
  have f3:∀b∈[s1.heap.objs.size+1,s1.heap.objs.size],du X pins (upd H1 h'.objs.size (.lst [])) b:=λb hb=>by
   obtain⟨f0,f⟩:=f2 b hb;exact⟨by rw[aY (ne3 b hb)];exact f0,f⟩
  refine callType_codes (Q₁:=λobj s₁=>obj=.ref h'.objs.size/\s₁={s1 with heap:=h'.push {cls:=.type "list",data:=.seq #[]}}) PySem.F.called_list (PySem.F.typeCall_list_1 _) PySem.F.entry_list_init
   (code_list_new (s:={s1 with heap:=h'}) _ ⟨rfl,rfl⟩) λobj s₁ h₁=>?_
  obtain⟨rfl,rfl⟩:=h₁;have hS:(h'.push {cls:=.type "list",data:=.seq #[]}).get? h'.objs.size=some {cls:=.type "list",data:=.seq #[]}:=c7 _ rfl;refine⟨⟨_,hS,rfl⟩,PySem.F.args_list_init_2 _ _,?_⟩;show wpAny _ X.A.in1.in1 (do let old <-JF (.ref h'.objs.size);Builtin.List.listUpdate (.ref h'.objs.size) (λ_=>#[]);letGo old.toList.reverse;Ah (.ref h'.objs.size) (.ref (s1.heap.objs.size+1)) .none) _ _ _;refine ah ?_;unfold JF;refine ah (iR hS rfl (az ?_));show wpAny _ X.A.in1.in1 (updateSeq h'.objs.size (λ_=>#[]) >>= λ_=>letGo (#[]:Array Value).toList.reverse >>= λ_=>Ah (.ref h'.objs.size) (.ref (s1.heap.objs.size+1)) .none) _ _ _;have upI:∀{Hx:Hp} {sx:Shared} (f:Array Value->Array Value) (its its':List Value) (n:Nat),Inv X pins σ Hx sx->Hx h'.objs.size=some (.lst [])->sx.heap.get? h'.objs.size=some {cls:=.type "list",data:=.seq its.toArray n}->True:=λ_ _ _ _ _ _ _=>trivial;refine ah (u7 hS rfl ?_);have e4:=oj (fQ (λ_=>(#[]:Array Value))) hS rfl;have k4:∀b o,b≠h'.objs.size->(h'.push {cls:=.type "list",data:=.seq #[]}).get? b=some o->((h'.push {cls:=.type "list",data:=.seq #[]}).update h'.objs.size (fQ (λ_=>(#[]:Array Value)))).get? b=some o:=λb o n q=>(qM _ _ (dn n)).trans q;refine ah (oA ?_);unfold Ah;have lg:tn 0 ((h'.push {cls:=.type "list",data:=.seq #[]}).update h'.objs.size (fQ (λ_=>(#[]:Array Value)))):=T.keep _ _ _ st3 λb hb o q=>k4 b o (ne3 b hb) q;generalize hg4:(h'.push {cls:=.type "list",data:=.seq #[]}).update h'.objs.size (fQ (λ_=>(#[]:Array Value)))=h4 at e4 k4 lg;have xj:({s1 with heap:=h4}:Shared).TypeIs (.ref (s1.heap.objs.size+1)) "enumerate":=by obtain⟨_,_,_,_,q⟩:=hE 0 _ lg;exact⟨_,q,rfl⟩
  refine ah (qL xj ?_);have h1:JG (.ref h'.objs.size) (.ref (s1.heap.objs.size+1))=false:=by
   have:h'.objs.size≠s1.heap.objs.size+1:=by rw[hz];lia
   simp[JG,this]
  have h2:(Value.type "enumerate"==Value.type "list")=false:=by decide
  have h3:(Value.type "enumerate"==Value.type "tuple")=false:=by decide
  simp only[h1,h2,h3,IE,f9,if_false];refine ah (qg (s:={s1 with heap:=h4}) (hE 0 _ lg) ?_);refine ah (og ?_);unfold Builtin.List.listLengthHint;refine ah (kH xj FE.R4 ?_);show wpAny _ X.A.in1.in1 (specialOf (Value.ref (s1.heap.objs.size+1)) (gc "__length_hint__") >>= _) _ _ _;refine ah (kH xj FE.R5 ?_);refine az ?_;show wpAny _ X.A.in1.in1 (rule "list.extend.makes-room" >>= λ_=>Builtin.List.listTouch (.ref h'.objs.size) >>= λ_ =>
   again (.builtin "list.extend.loop" ⟨[.ref h'.objs.size,.ref (s1.heap.objs.size+1),.none],[]⟩)) _ _ _
  refine ah (jG ?_);refine ah ?_;show wpAny _ X.A.in1.in1 (updateSeq h'.objs.size (·.push .none) >>= λ_=>updateSeq h'.objs.size (·.pop)) _ _ _;refine ah (u7 e4 rfl ?_);have e5:=oj (fQ (·.push Value.none)) e4 rfl;refine u7 (hz:=by seq_fits) e5 rfl ?_;have e6:=oj (fQ (·.pop)) e5 rfl;have k6:∀b o,b≠h'.objs.size->h4.get? b=some o->((h4.update h'.objs.size (fQ (·.push Value.none))).update h'.objs.size (fQ (·.pop))).get? b=some o :=
   λb o n q=>(qM _ _ (dn n)).trans ((qM _ _ (dn n)).trans q)
  have I6:Inv X pins σ (upd H1 h'.objs.size (.lst [])) {s1 with heap:=(h4.update h'.objs.size (fQ (·.push Value.none))).update h'.objs.size (fQ (·.pop))}:=by
   have:=I3.write (x:=h'.objs.size) (e:=h'.objs.size) (o:=.lst []) (t':=s1.toks) (h':=(h4.update h'.objs.size (fQ (·.push Value.none))).update h'.objs.size (fQ (·.pop))) (by rw[di];trivial) (.inl rfl) (λb u n q=>k6 b u n (k4 b u n q)) ⟨_,e6⟩ ⟨dO _,[],_,.nil,e6⟩;rw[J7]at this;exact this
  refine az ⟨plainId_quiet Ag _,?_⟩;refine R0 (X:=X) (pins:=pins) (σ:=σ) (D:=h'.objs.size) hc I.ok T (λi m Hx=>∃o,W i m [o] Hx) ?_ m0 0 _ _ ⟨none,w0⟩ I6 f3 (T.keep _ _ _ lg λb hb o q=>k6 b o (ne3 b hb) q);rintro i m H2 ⟨o,w⟩;rcases turn i m [o] H2 w with⟨stop,qe⟩|⟨go,N,hN,step⟩
  ·exact .inl ⟨stop,λs' I'=>⟨rfl,.ref _,H2,I',rfl,qe⟩⟩
  ·refine .inr ⟨go,λv Hy hy=>?_⟩;have:=ht _ _ _ (hg v o Hy _ (step v Hy hy));rw[if_pos rfl]at this;obtain⟨ys,h1,h2,h3⟩:=he v Hy _ this;obtain⟨m',hm,w'⟩:=hN _ _ h3;exact⟨ys,h1,h2,m',hm,_,w'⟩
 have Fc:s1.heap.objs.size+1≠s1.heap.objs.size:=by lia
 rcases q with⟨⟨xs,hx⟩,q⟩|⟨⟨xs,hx⟩,q⟩
 ·obtain⟨its,rv,pt,_⟩:=I1.list hx;exact E5 pt.isList λh' hen hi hz k=>main _ _ h' (E7 l _ _ Fc) ⟨hen,hi⟩ (λi h z=>z.1) hz k q
 ·obtain⟨its,rv,pt,_⟩:=I1.tuple hx;exact E4 (show s1.heap.IsTuple l its.toArray from pt) λh' hen hi hz k=>main _ _ h' (E8 l _ _ Fc) ⟨hen,hi⟩ (λi h z=>z.1) hz k q
end
end EE
namespace E3
open PySem PySem.Spec PyProof.Rows L2 EE
def eu(ds:List D):List D:=ds.zipIdx.map λp=>.tup [.int (p.2:Int),p.1]
theorem tW{ds:List D}{i:Nat}:(eu ds)[i]?=(ds[i]?).map λd=>D.tup [.int (i:Int),d]:=by
 unfold eu;rw[aJ,Ai];cases ds[i]?<;>simp
theorem lj{ds:List D}:(eu ds).length=ds.length:=by simp[eu]
def tX(R:RI)(xs:List D)(S:af):Prop:=∃x ds,xs=[x]/\((∃a,x=.ref a/\S a=some (.lst ds)/\R (eu ds) (λS=>S a=some (.lst ds)) S)∨(x=.tup ds/\R (eu ds) (λ_=>True) S))
def tY(ta:cb):dQ:=λσ S R=>ta σ S λxs S1=>tX R xs S1
theorem Fe{K:ak}{Z:Zt}{sq:Hp->List V->Prop}{xs:List V}{d:D}{x:V}{i:Nat}{S:af}{H:Hp}(l:Rl K Z S H)(hs:sq H xs)(hx:xs[i]?=some x)(rx:Rp K H d x) :
 (iP sq).go i H/\∀v H',(iP sq).jW i H v H'->Kp Z H H'/\Rp K H' (.tup [.int (i:Int),d]) v/\(∀S',Rl K Z S' H->Rl K Z S' H')/\∀b,H b≠none->H' b=H b:=by
 refine⟨⟨xs,hs,(cT.mp hx).1⟩,?_⟩;rintro v H' ⟨T,y,rfl,hT,rfl,fy⟩;have ey:y=x:=by
  have:=fy _ hs;rw[hx]at this;exact(dD this).symm
 subst ey;obtain⟨_,hz⟩:=l.fresh hT;have kn:Kp Z H (upd H T (.tup [.int i,y])):=Kp.new hT hz;exact⟨kn,.tup di (.cons (.int _) (.cons (rx.mono kn) .nil)),λS' l'=>l'.lay hT,λb hb=>aY λe=>hb (e▸hT)⟩
theorem R8{K:ak}{Z:Zt}{a:Addr}{xs:List V}{ds:List D}{H1:Hp}(h1:a9 K H1 a xs)(r1:aS K H1 ds xs):Wk K Z (iP λH xs=>a9 K H a xs) (eu ds) (λ_=>True) H1:=by
 constructor
 ·intro i d S H k l _ hd;rw[tW]at hd;obtain⟨e,he,rfl⟩:=b9.mp hd;obtain⟨x,hx,rx⟩:=r1.at he;exact Fe l (k.gu h1) hx (rx.mono k)
 ·intro S H k l _;refine⟨xs,k.gu h1,?_⟩;rw[lj,r1.len];exact aQ _
theorem R9{K:ak}{Z:Zt}{a:Addr}{ds:List D}{H1:Hp}:Wk K Z (iP λH xs=>aZ K H a xs) (eu ds) (λS=>S a=some (.lst ds)) H1:=by
 constructor
 ·intro i d S H k l al hd;rw[tW]at hd;obtain⟨e,he,rfl⟩:=b9.mp hd;obtain⟨ws,h3,h4⟩:=l.obj a _ al;obtain⟨x,hx,rx⟩:=h4.at he;exact Fe l (aZ.of h3) hx rx
 ·intro S H k l al;obtain⟨ws,h3,h4⟩:=l.obj a _ al;refine⟨ws,aZ.of h3,?_⟩;rw[lj,h4.len];exact aQ _
theorem Ff{K:ak}{Z:Zt}{ta:cb}{τ:L2.St}{H:Hp}{R:It->Hp->Prop}(h:lI K Z (tY ta) τ H R):xi K (lA K Z ta) τ H R:=by
 obtain⟨σ,S,R3,hs,hr,ht,hc⟩:=h;refine⟨σ,S,_,hs,hr,ht,λxs S1 pB H1 k1 r1 l1 q1=>?_⟩;obtain⟨x,ds,rfl,q⟩:=q1;cases r1 with
 |cons r1 rr =>
  cases rr;rcases q with⟨a,rfl,hS,q⟩|⟨rfl,q⟩
  ·cases r1;obtain⟨vs,h1,h2⟩:=l1.obj a _ hS;exact⟨a,rfl,.inl ⟨⟨vs,aZ.of h1⟩,hc _ _ S1 _ H1 k1 l1 q R9⟩⟩
  ·cases r1 with
   |tup h1 h2=>exact⟨_,rfl,.inr ⟨⟨_,h1⟩,hc _ _ S1 _ H1 k1 l1 q (R8 h1 h2)⟩⟩
section
variable{X:Cx}{W3:bF}{tg:Expr}{pos pos2 p p2:Pos}{a:Expr}{ta:cb}{σ:aE}{S:af}{R:RI}{al:cb}
theorem Fg(hg:Gl X "enumerate")(hm:X.mg "enumerate"=none)(ha:d7 X W3 [a] ta)(hs:starEach [a] X.env=[(false,eval a X.env)]:=by rfl):eK X W3 tg (.Call (.Name "enumerate" p) [a] [] pos) (tY ta) :=
 λZ=>PI.imp (RZ hg hm (ha Z) hs) λ_ _ _ h=>Ff h
theorem R_(h:al σ S λxs S1=>tX R xs S1):tY al σ S R:=h
theorem Fh{b:Addr}{ds:List D}(hS:S b=some (.lst ds))(q:R (eu ds) (λS=>S b=some (.lst ds)) S):tX R [.ref b] S:=⟨_,ds,rfl,.inl ⟨b,rfl,hS,q⟩⟩
theorem Sa{ds:List D}(q:R (eu ds) (λ_=>True) S):tX R [.tup ds] S:=⟨_,ds,rfl,.inr ⟨rfl,q⟩⟩
theorem Sb(gl:Gl X "list")(ml:X.mg "list"=none)(ge:Gl X "enumerate")(me:X.mg "enumerate"=none)(hc:X.calm=true)(ha:d7 X W3 [a] ta)
 (hs:starEach [.Call (.Name "enumerate" p2) [a] [] pos2] X.env=[(false,eval (.Call (.Name "enumerate" p2) [a] [] pos2) X.env)]:=by rfl) (hs2:starEach [a] X.env=[(false,eval a X.env)]:=by rfl) :
 aF X W3 (.Call (.Name "list" p) [.Call (.Name "enumerate" p2) [a] [] pos2] [] pos) (iJ (tY ta) iI kh (v3 0) []):=λZ=>by
 refine PE.imp (R6 (g:=wM X.K (iB 0)) (tt:=pY X.K kh) (te:=pL X.K (v3 0)) hc gl ml ge me (ha Z) ?_ ?_ ?_ hs hs2) λτ H Q h=>?_
 ·rintro v o H Q ⟨Z',d,σ,S,Q3,rd,rs,rl,t,c⟩;cases rs with
  |cons r1 r2 =>
   cases r2;exact c _ S [some v] H (Kp.refl _ _) (.cons (λd' e=>by cases e;exact⟨v,rfl,rd⟩) .nil) rl t
 ·rintro τ H Q ⟨Z',σ,S,Q3,rs,rl,t,c⟩;exact c true S H (Kp.refl _ _) rl t
 ·rintro v H Q ⟨Z',σ,S,Q3,rs,rl,⟨d,hd,q⟩,c⟩;obtain⟨v',h1,h2⟩:=rs.at hd;have e:v'=v:=by simpa using h1.symm
  subst e;exact c d S v' H (Kp.refl _ _) h2 rl q
 ·exact Ff (tI tH h)
theorem Sd{n:Nat}{xs:List D}{t:iC}{Q:aE->af->Prop}(hn:xs.length=n)(h:t xs σ S Q):so n t (.tup xs) σ S Q:=⟨xs,rfl,hn,h⟩
theorem Se{v:D}{r:List D}{t:e_}{u:iC}{Q:aE->af->Prop}(h:t v σ S λσ' S'=>u r σ' S' Q):mM t u (v::r) σ S Q:=⟨v,r,rfl,h⟩
theorem Sf{Q:aE->af->Prop}(h:Q σ S):sk [] σ S Q:=⟨rfl,h⟩
end
end E3
namespace EE
open PySem PySem.Spec PyProof.Rows L2
section
variable{X:Cx}
theorem Sg{n:Nat}(hu:X.A.units+(n+1)<cLine):ck X (compareOp .In) (λx y H Q=>∃d p xs ds,DR X.K H d x/\y=.ref p/\aZ X.K H p xs/\dj X.K H ds xs/\(∀e∈ds,cI e<=n)/\Q (.bl (ds.any λe=>aV e d)) H):=by
 intro pins s σ H x y v u Q I rx ry h;obtain⟨d,p,xs,ds,hd,rfl,hq,hds,hn,q⟩:=h;cases ry;obtain⟨its,r,pl,hz⟩:=I.list hq;have hl1:=r.length;have hl2:=hds.len;have hl3:ds.length=its.length:=by lia
 have each:∀(i:Nat) (w:Value),its[i]?=some w->∃e z,ds[i]?=some e/\DR X.K H e z/\RelV z w/\uC X.A.in1 s w v (aV e d):=λi w hw=>by
  have hi:i<xs.length:=by have:=(cT.mp hw).1;lia
  obtain⟨w',hw',jY⟩:=r.get (aX hi);rw[hw]at hw';cases hw';obtain⟨e,he,hde⟩:=hds.at (aX hi);exact⟨e,xs[i],he,hde,jY,(vN I n X.A.in1 e d xs[i] x w v (hn e (cU he)) (by show X.A.units+1+n<cLine;lia) hde hd jY rx).2⟩
 classical
 refine IG (λw=>decide (∃(i:Nat) (e:Dt),its[i]?=some w/\ds[i]?=some e/\aV e d=true)) pl.isList (λw hw=>?_) ⟨.bl _,H,I,rfl,?_⟩
 ·obtain⟨i,hi,ew⟩:=jN (show w∈its by simpa using hw);have Fi:its[i]?=some w:=by rw[aX hi,ew]
  obtain⟨e,z,he,hde,rz,Si⟩:=each i w Fi;have ef:decide (∃(i:Nat) (e:Dt),its[i]?=some w/\ds[i]?=some e/\aV e d=true)=aV e d:=by
   rw[eB,decide_eq_true_iff];refine⟨λ⟨j,e',h1,h2,h3⟩=>?_,λh3=>⟨i,e,Fi,he,h3⟩⟩;obtain⟨e2,z2,he2,Sj,Sk,_⟩:=each j w h1;rw[h2]at he2;cases he2;have ez:z2=z:=Sk.inj rz;subst ez;rw[DR.inj I hde Sj];exact h3
  rw[ef];exact Si
 ·have eb:(its.toArray.any λw=>decide (∃(i:Nat) (e:Dt),its[i]?=some w/\ds[i]?=some e/\aV e d=true))=ds.any λe=>aV e d:=by
   rw[eB];simp only[List.any_toArray,ox,decide_eq_true_iff];constructor
   ·rintro⟨w,_,i,e,_,h2,h3⟩;exact⟨e,cU h2,h3⟩
   ·rintro⟨e,he,h3⟩;obtain⟨i,hi,rfl⟩:=jN he;exact⟨its[i],oC _,i,_,aX (by lia),aX hi,h3⟩
  rw[eb];exact q
end
end EE
namespace E3
open PySem PySem.Spec PyProof.Rows L2 EE
section
variable{P:Program}{w:World}{K:PySem.W.Frag}{mg:Str->Option Value}{base:Heap}{x:Str}{st:Stmt}{N ps:List Str}{k:Nat}
def kq(A:List D->af->(D->af->Prop)->(Addr->Prop)->Prop):aW:=λds S Q W=>A ds S Q λC=>∀a,W C a S
theorem _root_.EE.aC.kq{A:List D->af->(D->af->Prop)->(Addr->Prop)->Prop}(h:aC K mg x st ps)(S:bf N ps (aq st))(len:∀ds S q qx,A ds S q qx->ds.length=ps.length)
 (hbody:∀(f:Addr) (cdv:Value) (Ar:Around) (outer:List Env) (s:Shared) (H:Hp) (E:XK) (ds:List D) (S:af) (q:D->af->Prop) (qx:Addr->Prop),cw k (Ar.deeper (envOfC x (aq st) s.heap.objs.size f cdv))->A ds S q qx ->
  ∃t,cV (cO (b8 P w) P w K mg base N x (aq st) f cdv Ar outer s H E) (λ_ C _ S'=>Sub S S'/\qx C) (a7 st) t /\
   t {nx:=λ_ S'=>∃T,Sub T S'/\q .non T,rt:=λd S'=>∃T,Sub T S'/\q d T} (d_ N ds) S):av P w K mg base (k+1) x ps (kq A):=by
 have C:av P w K mg base (k+1) x ps (λds S Q E=>∃q qx,A ds S q qx/\(∀d S',(∃T,Sub T S'/\q d T)->Q d S')/\∀C a S',Sub S S'/\qx C->E C a S'):=by
  refine h.pS S (λvs H Q E bX=>by obtain⟨q,qx,z,_⟩:=bX;exact len _ _ _ _ z) λf cdv Ar outer s H E ds S3 Q E3 hr ⟨q,qx,z,hq,hx⟩=>?_;obtain⟨t,h1,h2⟩:=hbody f cdv Ar outer s H E ds S3 _ _ hr z;exact⟨t,λd S'=>∃T,Sub T S'/\q d T,λC _ S'=>Sub S3 S'/\qx C,h1,h2,hq,hx⟩
 exact C.sY.imp λds S Q E z=>⟨_,_,z,λd S1 dP=>by obtain⟨T,hs,hq⟩:=dP;exact⟨T,hs,hq⟩,λC a S1 hx=>⟨S,hx.1,hx.2 a⟩⟩
end
section
variable{K:PySem.W.Frag}{S:af}{Q:K3}
def Fj(n:Nat):R3:=λx y S Q=>∃d a xs ds,Dn S x d/\y=.ref a/\S a=some (.lst xs)/\dM S xs ds/\(∀e∈ds,cI e<=n)/\Q (.bl (ds.any λe=>aV e d)) S
theorem Sl{n:Nat}:c_ K (Fj n) (λx y H Q=>∃d p xs ds,DR K H d x/\y=.ref p/\aZ K H p xs/\dj K H ds xs/\(∀e∈ds,cI e<=n)/\Q (.bl (ds.any λe=>aV e d)) H):=by
 intro Z x y S Q3 v w H Q rx ry l h c;obtain⟨d,a,xs,ds,h1,rfl,h2,h3,hn,q⟩:=h;cases ry;obtain⟨vs,h4,h5⟩:=l.obj a _ h2;exact⟨d,a,vs,ds,h1.down l rx,rfl,aZ.of h4,h3.down l h5,hn,c _ S _ H (Kp.refl _ _) (.bl _) l q⟩
end
abbrev Gr:=Str×Str×cf
abbrev eA(g h:Gr):Bool:=decide (g.2.1=h.1)
def bO(g h:Gr):Gr:=(g.1,h.2.1,gC g.2.2 h.2.2)
def ng(w:List Int):D:=.tup (w.map D.int)
def cZ(p:Gr×List Int):D:=.tup [ax p.1,ng p.2]
def fw(p:Int×Gr):D:=.tup [.int p.1,ax p.2]
theorem tZ(g:Gr):(ax g).pure=true:=QS ..
theorem Fk(g:Gr):cI (ax g).dt<=10:=QU ..
theorem Fl:∀r:List Int,D.dB (r.map D.int)=r.map Dt.int
 |[]=>rfl
 |x::r=>by rw[ba,ba,D.dB,Fl r];rfl
theorem Fm:∀A:cf,D.dB (A.map bh)=A.map λr=>Dt.tup (r.map Dt.int)
 |[]=>rfl
 |r::A=>by rw[ba,ba,D.dB,Fm A];simp only[bh,D.dt,Fl]
theorem xk(g:Gr):(ax g).dt=.tup [.str g.1,.str g.2.1,.tup (g.2.2.map λr=>Dt.tup (r.map Dt.int))]:=by
 simp only[ax,cL,fL,D.dt,D.dB,Fm]
theorem Fn:∀r:List Int,gO (r.map Dt.int)=true
 |[]=>rfl
 |x::r=>by simp only[ba,gO,gN,Fn r,lU]
theorem Fo:∀A:cf,gO (A.map λr=>Dt.tup (r.map Dt.int))=true
 |[]=>rfl
 |r::A=>by simp only[ba,gO,gN,Fn r,Fo A,lU]
theorem Fp(g:Gr):gN (ax g).dt=true:=by
 rw[xk];simp only[gN,gO,Fo,lU]
theorem Fq:∀{r r':List Int},r.map Dt.int=r'.map Dt.int->r=r'
 |[],[],_=>rfl
 |[],_::_,h=>by cases h
 |_::_,[],h=>by cases h
 |x::r,y::r',h=>by
  simp only[ba,oE,Dt.int.injEq]at h;rw[h.1,Fq h.2]
theorem Fs:∀{A B:cf},(A.map λr=>Dt.tup (r.map Dt.int))=(B.map λr=>Dt.tup (r.map Dt.int))->A=B
 |[],[],_=>rfl
 |[],_::_,h=>by cases h
 |_::_,[],h=>by cases h
 |r::A,r'::B,h=>by
  simp only[ba,oE,Dt.tup.injEq]at h;rw[Fq h.1,Fs h.2]
theorem Sm{g h:Gr}(e:(ax g).dt=(ax h).dt):g=h:=by
 rw[xk,xk]at e;simp only[Dt.tup.injEq,oE,Dt.str.injEq,and_true]at e;obtain⟨g1,g2,g3⟩:=g;obtain⟨h1,h2,h3⟩:=h;obtain⟨e1,e2,e3⟩:=e;dsimp only at e1 e2 e3;rw[e1,e2,Fs e3]
theorem Ft(g h:Gr):aV (ax g).dt (ax h).dt=decide (g=h):=by
 by_cases e:g=h
 ·rw[e,mz];simp
 ·rw[decide_eq_false e];cases c:aV (ax g).dt (ax h).dt with
  |false=>rfl
  |true=>exact absurd (Sm (Bz (Fp g) (Fp h) c)) e
section
variable{S:af}{Q:K3}
theorem Sn{a:Addr}{gs:List Gr}{g:Gr}{n:Nat}(hn:10<=n)(hS:S a=some (.lst (gs.map ax)))(q:Q (.bl (decide (g∈gs))) S):Fj n (ax g) (.ref a) S Q:=by
 refine⟨(ax g).dt,a,gs.map ax,D.dB (gs.map ax),Dn.of (tZ g),rfl,hS,dM.of (D.pN.mpr λd hd=>?_),λe he=>?_,?_⟩
 ·obtain⟨h,_,rfl⟩:=bj.mp hd;exact tZ h
 ·rw[D.mO]at he;obtain⟨d,hd,rfl⟩:=bj.mp he;obtain⟨h,_,rfl⟩:=bj.mp hd;exact bR (Fk h) hn
 ·have e:((D.dB (gs.map ax)).any λe=>aV e (ax g).dt)=decide (g∈gs):=by
   rw[D.mO,dq,JH,eB,ox,decide_eq_true_iff];constructor
   ·rintro⟨h,hh,e⟩;have e2:aV (ax h).dt (ax g).dt=true:=e;rw[Ft,decide_eq_true_iff]at e2;rw[<-e2];exact hh
   ·intro h;exact⟨g,h,by show aV (ax g).dt (ax g).dt=true;exact mz _⟩
  rw[e];exact q
theorem So{g h:Gr}{n:Nat}(hn:10<=n)(q:Q (.bl (decide (g=h))) S):sy n (ax g) (ax h) S Q :=
 ⟨_,_,Dn.of (tZ g),Dn.of (tZ h),bR (Fk g) hn,by rw[Ft];exact q⟩
end
structure Gd(ar:Str->Option Nat)(g:Gr):Prop where
 ex:∃m n,ar g.1=some m/\ar g.2.1=some n/\1<=m/\1<=n/\m<=4/\n<=4/\Mt m n g.2.2
theorem Gd.cmp{ar:Str->Option Nat}{g h:Gr}(hg:Gd ar g)(hh:Gd ar h)(hf:g.2.1=h.1):Gd ar (bO g h):=by
 obtain⟨m,n,e1,e2,m1,n1,m4,n4,hM⟩:=hg.ex;obtain⟨m',n',e1',e2',m1',Sq,m4',Sr,hM'⟩:=hh.ex;rw[hf,e1']at e2;cases e2;exact⟨m,n',e1,e2',m1,Sq,m4,Sr,hM.cmp hM' (by lia)⟩
def qi(A:cf):Bool:=(aN A.length).any λi=>decide ((A.getD i []).getD i 0=2)
def g9(g:Gr):Bool:=eA g g&&(decide (bO g g=g)&&!qi g.2.2)
abbrev da(nb:List (Int×Gr)):Option (CL.Fd Gr):=CL.gD eA bO nb
def qj(F:CL.Fd Gr):Option (List Int):=(F.find? λp=>g9 p.1).map (·.2)
def cg(gs:List Gr):List (Int×Gr):=gs.zipIdx.map λp=>((p.2:Int),p.1)
theorem Ss(gs:List Gr):eu (gs.map ax)=(cg gs).map fw:=by
 unfold eu cg;apply fj;intro i;simp only[aJ,Ai];cases gs[i]?<;>simp[fw]
theorem jr{gs:List Gr}{p:Int×Gr}(h:p∈cg gs):p.2∈gs:=by
 unfold cg at h;obtain⟨q,hq,rfl⟩:=bj.mp h;exact List.fst_mem_of_mem_zipIdx hq
theorem Fu(gs:List Gr):(cg gs).length=gs.length:=by simp[cg]
theorem xl{gs:List Gr}{g:Gr}(h:g∈gs):∃p∈cg gs,p.2=g:=by
 obtain⟨i,hi,rfl⟩:=jN h;refine⟨((i:Int),gs[i]),?_,rfl⟩;unfold cg;exact bj.mpr ⟨(gs[i],i),JI.mpr (aX hi),rfl⟩
end E3
namespace E3
abbrev cD(counts:List Nat):List D:=counts.map λc:Nat=>D.int (c:Int)
end E3
namespace E3
open PySem PySem.Spec PyProof.Rows L2 EE
def Su(Nm:List Str)(g:Gr):Prop:=g.1∈Nm/\g.2.1∈Nm
def tb(xs ys:List Str)(x:Str):Str:=ys.getD (xs.idxOf x) ""
theorem Fv:∀{xs:List Str} {ns:List Nat} {y:Str} {n:Nat},jj xs ns y=some n->y∈xs
 |[],_,_,_,h=>by simp[jj]at h
 |_::_,[],_,_,h=>by simp[jj]at h
 |x::xs,m::ns,y,n,h=>by
  rw[jj]at h
  split at h
  ·rename_i e;rw[e];exact b4
  ·exact cB _ (Fv h)
end E3
namespace CL
end CL
namespace E3
open PySem PySem.Spec PyProof.Rows L2 EE
end E3
namespace EE
open PySem PySem.Spec PyProof.Rows L2
end EE
namespace E3
open PySem PySem.Spec PyProof.Rows L2 EE
section
variable{σ:aE}{S:af}{Q:K3}{QT:Bool->af->Prop}{QA:List D->af->Prop}{ta tb te:aD}{tA:b7}{t u u':bP}{al:cb}{r:R3}{n b c:aE->af->Prop}{rt:K3}{i i' Fw:Nat}{d e d2 d3:D}{D3:fH}{sp:aW}{W3:bF}{f:List D->af->K3->Prop}{ds:List D}{k:Int}{a:Addr}
theorem Sv(h:te σ S λx S1=>u D3 (σ.set i (some x)) S1):mK (pK i te) u D3 σ S:=h
theorem Sw(h:te σ S λ_ S1=>u D3 σ S1):mK (sj te) u D3 σ S:=h
theorem Sx(h:tA σ S λb' S1=>if b'=true then t ⟨u' ⟨n,rt,b,c⟩,rt,b,c⟩ σ S1 else u ⟨u' ⟨n,rt,b,c⟩,rt,b,c⟩ σ S1):mK (mL tA t u) u' ⟨n,rt,b,c⟩ σ S:=h
theorem Sz(h:σ[i]?=some (some (.ref a)))(hS:S a=some (.lst ds))(q:te σ S λy S1=>sC (.ref a) [y] S1 λ_ S2=>u D3 σ S2):mK (sj (vV "list" sC (v3 i) (eJ te gw))) u D3 σ S :=
 ⟨_,h,.inr (.inl ⟨rfl,ds,.inl ⟨a,rfl,hS⟩⟩),q⟩
theorem SA(h:σ[i]?=some (some (.tup ds)))(hd:cy ds k=some d)(q:Q d S):o3 kb (v3 i) (c3 (.int k)) σ S Q:=⟨_,h,ds,k,d,rfl,rfl,hd,q⟩
theorem SD{es:List D}{j:Int}(h:σ[i]?=some (some (.tup ds)))(hd:cy ds k=some (.tup es))(he:cy es j=some d)(q:Q d S):o3 kb (o3 kb (v3 i) (c3 (.int k))) (c3 (.int j)) σ S Q:=⟨_,h,ds,k,_,rfl,rfl,hd,es,j,d,rfl,rfl,he,q⟩
theorem SE{x z:Str}(h:σ[i]?=some (some (.tup ds)))(hx:cy ds k=some (.str x))(q:QT (decide (x=z)) S):gv (o3 v9 (o3 kb (v3 i) (c3 (.int k))) (c3 (.str z))) σ S QT:=⟨_,h,ds,k,_,rfl,rfl,hx,x,z,rfl,rfl,_,rfl,q⟩
theorem SF(h:σ[i]?=some (some d))(q:r d e S λz S'=>∃k,z=.bl k/\QT k S'):gv (o3 r (v3 i) (c3 e)) σ S QT:=⟨d,h,q⟩
theorem SG(h:σ[i]?=some (some d))(h':σ[i']?=some (some e))(q:r d e S λz S'=>∃k,z=.bl k/\QT k S'):gv (o3 r (v3 i) (v3 i')) σ S QT:=⟨d,h,e,h',q⟩
theorem SH(q:ta σ S λx S1=>r x e S1 λz S'=>∃k,z=.bl k/\QT k S'):gv (o3 r ta (c3 e)) σ S QT:=q
theorem SI(q:ta σ S λx S1=>tb σ S1 λy S2=>r x y S2 λz S'=>∃k,z=.bl k/\QT k S'):gv (o3 r ta tb) σ S QT:=q
theorem SJ(h:σ[i]?=some (some d))(q:r d e S Q):o3 r (v3 i) (c3 e) σ S Q:=⟨d,h,q⟩
theorem SK(h:σ[i]?=some (some d))(h':σ[i']?=some (some e))(q:r d e S Q):o3 r (v3 i) (v3 i') σ S Q:=⟨d,h,e,h',q⟩
theorem SM(h:σ[i]?=some (some d))(q:tb σ S λy S2=>r d y S2 Q):o3 r (v3 i) tb σ S Q:=⟨d,h,q⟩
theorem SN(q:tb σ S λy S2=>r d y S2 Q):o3 r (c3 d) tb σ S Q:=q
theorem SO(q:ta σ S λx S1=>r x e S1 Q):o3 r ta (c3 e) σ S Q:=q
theorem SQ(h:σ[i]?=some (some d))(q:f [d] S Q):mI f (eJ (v3 i) gw) σ S Q:=⟨d,h,q⟩
theorem SS(q:te σ S λx S1=>f [x] S1 Q):mI f (eJ te gw) σ S Q:=q
theorem SU(h:σ[i]?=some (some d))(q:sp [d] S Q (W3 σ)):mR sp W3 (eJ (v3 i) gw) σ S Q:=⟨d,h,q⟩
theorem SV(q:te σ S λx S1=>sp [x] S1 Q (W3 σ)):mR sp W3 (eJ te gw) σ S Q:=q
theorem SW(h:σ[i]?=some (some d))(h2:σ[i']?=some (some d2))(q:sp [d,d2] S Q (W3 σ)):mR sp W3 (eJ (v3 i) (eJ (v3 i') gw)) σ S Q:=⟨d,h,d2,h2,q⟩
theorem SX(h:σ[i]?=some (some d))(h2:σ[i']?=some (some d2))(h3:σ[Fw]?=some (some d3))(q:sp [d,d2,d3] S Q (W3 σ)):mR sp W3 (eJ (v3 i) (eJ (v3 i') (eJ (v3 Fw) gw))) σ S Q:=⟨d,h,d2,h2,d3,h3,q⟩
theorem SY(h:σ[i]?=some (some d))(q:QA [d] S):eJ (v3 i) gw σ S QA:=⟨d,h,q⟩
theorem S7(h:σ[i]?=some (some d))(q:al σ S λxs S2=>QA (d::xs) S2):eJ (v3 i) al σ S QA:=⟨d,h,q⟩
theorem S8(q:QA [d] S):eJ (c3 d) gw σ S QA:=q
theorem S9(q:al σ S λxs S2=>QA (d::xs) S2):eJ (c3 d) al σ S QA:=q
theorem S_(q:te σ S λx S1=>QA [x] S1):eJ te gw σ S QA:=q
end
end E3
namespace EE
open PySem PySem.Spec PyProof.Rows L2
end EE
namespace E3
open PySem PySem.Spec PyProof.Rows L2 EE
end E3
namespace EE
open PySem PySem.Spec PyProof.Rows L2
end EE
namespace E3
open PySem PySem.Spec PyProof.Rows L2 EE
end E3
namespace EE
open PySem PySem.Spec PyProof.Rows L2 Builtin Builtin.Str
end EE
namespace E3
open PySem PySem.Spec PyProof.Rows L2 EE
end E3
namespace EE
open PySem PySem.Spec PyProof.Rows L2
end EE
namespace E3
open PySem PySem.Spec PyProof.Rows L2 EE
end E3
namespace EE
open PySem PySem.Spec PyProof.Rows L2
theorem Ta{prog:Program}{w:World}{K:Type}[DecidableEq K](knd:HeapKind prog w K)(d:Addr)(hd:(d==sysModules)=false) :
 MeetsIn prog w (Builtin.«dict.__len__» ⟨[.ref d],[]⟩) (λ_ R s=>∃kvs,s.heap.DictOfH knd d kvs/\R (.ok (.ret (.int kvs.length s.toks))) {s with toks:=s.toks+1}) :=
 .of_wp λA R s bX=>by
  obtain⟨kvs,hm,h⟩:=bX;obtain⟨o,es,ep,ho,hc,hdat,hk,hp,hn⟩:=hm;show wpAny _ _ (dictSize d >>= _) _ _ s;unfold dictSize;refine ah (ah (wpAny_dictEntries ho hdat (az ?_)));show wpAny _ _ (Builtin.Dict.pendingCount d >>= _) _ _ s;refine ah (wpAny_pendingCount_other hd ?_);refine wpAny_ret_mkInt ?_;have:es.size=kvs.length:=size_of_entries hk;rw[Nat.add_zero,this];exact h
theorem Tb{prog:Program}{w:World}{K:Type}[DecidableEq K]{knd:HeapKind prog w K}{A:Around}{E:Value->Shared->Prop}{s:Shared}{d:Addr}{kvs:List (K×Addr×Value)}{Q:Value->Shared->Prop}(hd:(d==sysModules)=false)(hm:s.heap.DictOfH knd d kvs)(hfit:(kvs.length:Int)<2^63)
 (h:Q (.int kvs.length (s.toks+1)) {s with toks:=s.toks+1+1}):wpAny (model prog w) A (Builtin.«len» ⟨[.ref d],[]⟩) (λfin s'=>∃r,fin=.done (.ret r)/\Q r s') E s:=by
 unfold Builtin.«len»;refine ah (m:=oneArg "len" _) (az ?_);refine ah (m:=callSpecial? (.ref d) (gc "__len__")) (hZ (name:=gc "__len__") hm.typeIs JJ
  (call_meetsIn JJ hm.typeIs F.entry_dict_len (F.args_dict_len_1 _) (Ta knd d hd) ⟨kvs,hm,?_⟩))
 show wpAny _ _ _ _ _ {s with toks:=s.toks+1};refine ah (og (az ?_));refine ah (oA ?_);show wpAny _ _ (if((kvs.length:Nat):Int)<0 then _ else _) _ _ _;rw[if_neg (by lia)];show wpAny _ _ (if((kvs.length:Nat):Int)>=2^63 then _ else _) _ _ _;rw[if_neg (by lia)];exact ah (zQ (az ⟨_,rfl,h⟩))
theorem Fx{X:Cx}:fm X (.builtin "len") (λxs H Q=>∃a kvs,xs=[V.ref a]/\H a=some (.dT kvs)/\Q (.int kvs.length) H):=by
 intro pins s σ H xs us Q I r h;obtain⟨a,kvs,rfl,e,q⟩:=h;obtain⟨u,rfl,ru⟩:=r.one;cases ru;obtain⟨z,hd,xs,rel,dd⟩:=Bp I.hok e;have hl:kvs.length=xs.length:=Paired.length rel;refine Calls.call_function_entry kind_len plain_len entry_len (args_len1 _) (Tb hd dd (by rw[<-hl];rw[uv]at z;lia) ⟨.int kvs.length,H,I.tok _,⟨_,by rw[hl]⟩,q⟩)
end EE
namespace E3
open PySem PySem.Spec PyProof.Rows L2 EE
mutual
def dW:D->Option DK
 | .int i=>some (.int i)
 | .str x=>some (.str x)
 | .tup ds=>(iQ ds).map .tup
 |_=>none
def iQ:List D->Option (List DK)
 |[]=>some []
 |d::ds=>(dW d).bind λk=>(iQ ds).map (k::·)
end
mutual
theorem Fy{K:ak}{H:Hp}:∀{d:D} {v:V} {k:DK},Rp K H d v->dW d=some k->gH H k v
 |_,_,_,.int i,e=>by simp only[dW,jJ]at e;subst e;exact .int i
 |_,_,_,.str x,e=>by simp only[dW,jJ]at e;subst e;exact .str x
 |_,_,_,.tup h1 h2,e=>by
  rw[dW]at e;obtain⟨ks,e1,e2⟩:=b9.mp e;subst e2;exact .tup h1 (Fz h2 e1)
 |_,_,_,.non,e=>by simp[dW]at e
 |_,_,_,.bl _,e=>by simp[dW]at e
 |_,_,_,.ref _,e=>by simp[dW]at e
 |_,_,_,.ty _,e=>by simp[dW]at e
 |_,_,_,.bY _ _,e=>by simp[dW]at e
theorem Fz{K:ak}{H:Hp}:∀{ds:List D} {vs:List V} {ks:List DK},aS K H ds vs->iQ ds=some ks->gI H ks vs
 |_,_,_,.nil,e=>by simp only[iQ,jJ]at e;subst e;exact .nil
 |_,_,_,.cons h1 h2,e=>by
  rw[iQ]at e;obtain⟨k,e1,e2⟩:=jO.mp e;obtain⟨ks,e3,e4⟩:=b9.mp e2;subst e4;exact .cons (Fy h1 e1) (Fz h2 e3)
end
theorem FA{K:ak}{H:Hp}{ds:List D}{v:V}{k:DK}(r:Rp K H (.tup ds) v)(e:dW (.tup ds)=some k)(hd:k.deep<=4):∃b,v=.ref b/\gj H k b:=by
 have h:=Fy r e;cases r with
 |tup h1 h2=>exact⟨_,rfl,h,hd⟩
def f6(kvs:List (DK×D))(k:DK):Option D:=(kvs.find? λkv=>decide (kv.1=k)).map (·.2)
def ll(kvs:List (DK×D))(k:DK)(v:D):List (DK×D):=if(kvs.any λkv=>decide (kv.1=k))=true then kvs.map λkv=>if kv.1=k then(kv.1,v) else kv else kvs++[(k,v)]
abbrev TR(K:ak)(H:Hp):=Paired (λ(p:DK×D) (q:DK×V)=>p.1=q.1/\Rp K H p.2 q.2)
theorem TR.val{K:ak}{H:Hp}{kvs:List (DK×D)}{ws:List (DK×V)}(r:TR K H kvs ws)(k:DK):RO K H (f6 kvs k) (eI ws k)/\(f6 kvs k).isSome=(eI ws k).isSome:=by
 induction r with
 |nil=>exact⟨λd e=>(nomatch e),rfl⟩
 |@cons p q ps qs h t ih =>
  obtain⟨h1,h2⟩:=h;by_cases e:p.1=k
  ·have e2:q.1=k:=h1▸e;have a:f6 (p::ps) k=some p.2:=by simp[f6,gE,e]
   rw[a,pq e2];exact⟨λd z=>by cases z;exact⟨_,rfl,h2⟩,rfl⟩
  ·have e2:¬q.1=k:=h1▸e;have a:f6 (p::ps) k=f6 ps k:=by simp[f6,gE,e]
   rw[a,pv e2];exact ih
theorem TR.any{K:ak}{H:Hp}{kvs:List (DK×D)}{ws:List (DK×V)}(r:TR K H kvs ws)(k:DK):(kvs.any λkv=>decide (kv.1=k))=ws.any λkv=>decide (kv.1=k):=by
 induction r with
 |nil=>rfl
 |@cons p q ps qs h t ih=>rw[ia,ia,ih,h.1]
theorem TR.repl{K:ak}{H:Hp}(k:DK){d:D}{v:V}(h:Rp K H d v):∀{kvs:List (DK×D)} {ws:List (DK×V)},TR K H kvs ws->TR K H (kvs.map λkv=>if kv.1=k then(kv.1,d) else kv) (ws.map λkv=>if kv.1=k then(kv.1,v) else kv)
 |_,_,.nil=>.nil
 |_,_,.cons (a:=p) (b:=q) ⟨e,r⟩ t=>by
  refine .cons ?_ (TR.repl k h t);dsimp only;by_cases c:q.1=k
  ·rw[if_pos c,if_pos (e▸c)];exact⟨e,h⟩
  ·rw[if_neg c,if_neg (e▸c)];exact⟨e,r⟩
theorem TR.put{K:ak}{H:Hp}{kvs:List (DK×D)}{ws:List (DK×V)}(r:TR K H kvs ws)(k:DK){d:D}{v:V}(h:Rp K H d v):TR K H (ll kvs k d) (putK ws k v):=by
 unfold ll putK;rw[r.any k]
 split
 ·exact TR.repl k h r
 ·exact gP r (.cons ⟨rfl,h⟩ .nil)
def FC:aD:=λ_ S Q=>∀p,S p=none->Q (.ref p) (up S p (.tab []))
def qk(neg:Bool)(Q:K3)(x y:D)(S:af):Prop:=∃a kvs ds k,x=.ref a/\S a=some (.tab kvs)/\y=.tup ds/\dW (.tup ds)=some k/\k.deep<=4/\Q (.bl (if neg then !(f6 kvs k).isSome else(f6 kvs k).isSome)) S
def xm(neg:Bool)(ty td:aD):aD:=λσ S Q=>ty σ S λy S1=>td σ S1 λx S2=>qk neg Q x y S2
def ql(n:aE->af->Prop)(σ:aE)(v x y:D)(S:af):Prop:=∃a kvs ds k,x=.ref a/\S a=some (.tab kvs)/\y=.tup ds/\dW (.tup ds)=some k/\k.deep<=4/\kvs.length<sizeLine/\n σ (up S a (.tab (ll kvs k v)))
def FD(td ty tv:aD):bP:=λD σ S=>tv σ S λv S1=>td σ S1 λx S2=>ty σ S2 λy S3=>ql D.nx σ v x y S3
section
variable{X:Cx}{W3:bF}{o i value:Expr}{pos pos':Pos}{td ty tv:aD}
theorem Tc:aF X W3 (.Dict [] [] pos) FC:=λZ=>PE.imp MO λτ H Q ⟨σ,S,Q3,hs,hr,ht,hc⟩=>λp hp=>by
 obtain⟨h1,hz⟩:=hr.fresh hp;have k:=Kp.new (o:=HO.dT []) hp hz;exact hc _ _ _ _ k (.ref p) (hr.put (o:=.tab []) k hz ⟨[],di,.nil⟩) (ht p h1)
theorem Td{K:ak}{Z:Zt}{τ:L2.St}{H:Hp}{Q:VK}(h:lE K Z (xm true ty td) τ H Q):vI (lE K Z ty) (lE K Z td) τ H Q:=by
 obtain⟨σ,S,Q3,hs,hr,ht,hc⟩:=h;refine⟨σ,S,_,hs,hr,ht,λy S1 w H1 k1 r1 l1 q1=>⟨σ,S1,_,hs.mono k1,l1,q1,λx S2 v H2 k2 r2 l2 q2=>?_⟩⟩;obtain⟨a,kvs,ds,k,rfl,e,rfl,ek,hd,q⟩:=q2;cases r2;obtain⟨ws,h1,h2⟩:=l2.obj a _ e;obtain⟨b,rfl,kr⟩:=FA (r1.mono k2) ek hd;refine⟨a,_,rfl,fE.t h1 kr,?_⟩;rw[<-(TR.val h2 k).2];exact hc _ S2 _ H2 (k1.trans k2) (.bl _) l2 q
theorem FF(hu:X.A.units+5<cLine)(hi:aF X W3 i ty)(ho:aF X W3 o td)(h1:behindInMarks .NotIn o=false:=by with_unfolding_all rfl):dw X W3 (.Compare i [.NotIn] [o] pos) (gv (xm true ty td)) :=
 λZ=>PT.imp (ve (Bs hu (hi Z) (ho Z)) h1) λ_ _ _ h=>pG (λ_ _ _ h=>Td h) h
theorem FH(hu:X.A.units+5<cLine)(ho:aF X W3 o td)(hi:aF X W3 i ty)(hv:aF X W3 value tv)(hs:swapsWith value (some (.Subscript o i pos')) pos.line X.env=pure false) :
 d8 X W3 (.Assign [.Subscript o i pos'] value pos) (FD td ty tv):=λZ=>PS.imp (Bt hu (ho Z) (hi Z) (hv Z) hs) λD τ H dP=>by
 obtain⟨D3,σ,S,hs,hr,ht,hc⟩:=dP;refine⟨σ,S,_,hs,hr,ht,λd S1 v H1 k1 r1 l1 q1=>⟨σ,S1,_,hs.mono k1,l1,q1,λx S2 w H2 k2 r2 l2 q2=>⟨σ,S2,_,hs.mono (k1.trans k2),l2,q2,λy S3 z H3 k3 r3 l3 q3=>?_⟩⟩⟩;obtain⟨a,kvs,ds,k,rfl,e,rfl,ek,hd,hz,q⟩:=q3;cases r2;obtain⟨ws,h1,h2⟩:=l3.obj a _ e;obtain⟨b,rfl,kr⟩:=FA r3 ek hd;have kk:Kp Z.z H3 (upd H3 a (.dT (putK ws k v))):=Kp.at l3 e;have h2':TR X.K H3 kvs ws:=h2;refine⟨a,_,rfl,j0.t h1 kr (by rw[<-Paired.length h2'];exact hz),?_⟩;have k12:=k1.trans (k2.trans (k3.trans kk));refine hc.nx σ _ τ _ k12 (hs.mono k12) (l3.put (o:=.tab (ll kvs k d)) kk (l3.mE e) ⟨_,di,?_⟩) q;have h3:TR X.K (upd H3 a (.dT (putK ws k v))) kvs ws:=Paired.i0 h2' λp q z=>⟨z.1,z.2.mono kk⟩;exact h3.put k ((r1.mono (k2.trans k3)).mono kk)
end
def FI:List D->af->K3->Prop:=λxs S Q=>∃a kvs,xs=[.ref a]/\S a=some (.tab kvs)/\Q (.int kvs.length) S
theorem FJ{K:ak}:fI K FI (λxs H Q=>∃a kvs,xs=[V.ref a]/\H a=some (.dT kvs)/\Q (.int kvs.length) H):=by
 intro Z ds S Q3 vs H Q r l h c;obtain⟨a,kvs,rfl,e,q⟩:=h;cases r with
 |cons r rr =>
  cases rr;cases r;obtain⟨ws,h1,h2⟩:=l.obj a _ e;refine⟨a,ws,rfl,h1,?_⟩;rw[<-Paired.length h2];exact c _ S _ H (Kp.refl _ _) (.int _) l q
theorem xn{S:af}{Q:K3}{a:Addr}{kvs:List (DK×D)}(hS:S a=some (.tab kvs))(q:Q (.int kvs.length) S):FI [.ref a] S Q:=⟨a,kvs,rfl,hS,q⟩
section
variable{σ:aE}{S:af}{Q:K3}{td ty tv:aD}{n b c:aE->af->Prop}{rt:K3}
theorem Te(h:∀p,S p=none->Q (.ref p) (up S p (.tab []))):FC σ S Q:=h
theorem Tf{neg:Bool}(h:ty σ S λy S1=>td σ S1 λx S2=>qk neg Q x y S2):xm neg ty td σ S Q:=h
theorem Tg(h:tv σ S λv S1=>td σ S1 λx S2=>ty σ S2 λy S3=>ql n σ v x y S3):FD td ty tv ⟨n,rt,b,c⟩ σ S:=h
theorem Th{neg:Bool}{a:Addr}{kvs:List (DK×D)}{ds:List D}{k:DK}(hS:S a=some (.tab kvs))(ek:dW (.tup ds)=some k)(hd:k.deep<=4)(q:Q (.bl (if neg then !(f6 kvs k).isSome else(f6 kvs k).isSome)) S):qk neg Q (.ref a) (.tup ds) S:=⟨a,kvs,ds,k,rfl,hS,rfl,ek,hd,q⟩
theorem Ti{v:D}{a:Addr}{kvs:List (DK×D)}{ds:List D}{k:DK}(hS:S a=some (.tab kvs))(ek:dW (.tup ds)=some k)(hd:k.deep<=4)(hz:kvs.length<sizeLine)(q:n σ (up S a (.tab (ll kvs k v)))):ql n σ v (.ref a) (.tup ds) S:=⟨a,kvs,ds,k,rfl,hS,rfl,ek,hd,hz,q⟩
end
end E3
namespace EE
open PySem PySem.Spec PyProof.Rows L2
end EE
namespace E3
open PySem PySem.Spec PyProof.Rows L2 EE
end E3
namespace EE
open PySem PySem.Spec PyProof.Rows L2
section
variable{X:Cx}{elt iter tg:Expr}{ifs:List Expr}{pos:Pos}{scope:Scope}{O M:List Str}{js:List Nat}{wi:TI}{g:TG}{tt:TT}{te:TE}
theorem Tj{i:Nat}{y:Str}{py spos:Pos}(S:dU X.env.scope O M scope)(hc:X.calm=true)(hjs:∀(k:Nat) (y:Str),M[k]?=some y->∃j:Nat,js[k]?=some j/\X.N[j]?=some y)(hlen:js.length=M.length)(hi:PI X tg iter wi)
 (hg:∀(C:Addr) (fp:List Addr) (pins:List (Addr×Obj)) (s:Shared) (H:Hp),PG (bx X scope C (O++M) fp pins s H) tg g)
 (ht:∀(C:Addr) (fp:List Addr) (pins:List (Addr×Obj)) (s:Shared) (H:Hp),lb (bx X scope C (O++M) fp pins s H) ifs tt)
 (he:∀(C:Addr) (fp:List Addr) (pins:List (Addr×Obj)) (s:Shared) (H:Hp),PE (bx X scope C (O++M) fp pins s H) elt te)
 (hN:X.N.Nodup) (hy:X.N[i]?=some y) (hl:X.env.scope.names.lookup y=some .local)
 (hsw:swapsWith (.ListComp elt [⟨tg,iter,ifs,0⟩] scope pos) (some (.Name y py)) spos.line X.env=pure true:=by rfl) (hs:∀v,foldedSetIterable iter X.env v=pure v:=by intro _;rfl) :
 PS X (.Assign [.Name y py] (.ListComp elt [⟨tg,iter,ifs,0⟩] scope pos) spos) (AB (tz wi g tt te O.length js) (rD i)):=by
 intro pins s σ H D0 I h;rw[exec_Assign_Name_used _ _ _ _ hsw];refine ah (wpAny_standAt (ah ?_));show wpAny _ X.A (do let _ <-comprehension (.ListComp elt [⟨tg,iter,ifs,0⟩] scope pos) scope X.env _ (newList []) false (eval iter X.env) (some (assign (.Name y py) X.env))) _ _ s;refine ah (eQ (Jz (use:=some (assign (.Name y py) X.env)) (Q:=λ_ s'=>SP X pins D0 .next s') rfl hs (BE (S.cells I)) S.kind S.names
  (aK (hi pins s σ H _ I h) λxv s1 h1=>aK h1 λitv s2 h2=>?_)) (λ_ s' hq=>az (az hq)) λ_ _ e=>e)
 obtain⟨it,fp,tn,J,H1,rfl,I2,T,st2,f2,q⟩:=h2;refine h_ ?_ (by show 0<=sizeLine;decide);have hD:H1 s2.heap.objs.size=none:=I2.hok.fresh (aQ _);obtain⟨W,⟨m0,w0⟩,turn⟩:=q _ hD;have I3:Inv X pins σ (upd H1 s2.heap.objs.size (.lst [])) {s2 with heap:=s2.heap.push {cls:=.type "list",data:=.seq ([]:List Value).toArray}}:=I2.rT (t':=s2.toks) .nil (dO _);have gK:∀b∈fp,du X pins (upd H1 s2.heap.objs.size (.lst [])) b:=λb hb=>by
  obtain⟨f0,f⟩:=f2 b hb;obtain⟨o,e,_⟩:=T.obj 0 _ st2 b hb;exact⟨by rw[aY (cS (bg e))];exact f0,f⟩
 refine D9 (Qe:=λH'=>rD i (.ref s2.heap.objs.size) σ H' D0.nx) (R:=λC=>compPost (model X.prog X.w) X.A X.xe (some (assign (.Name y py) X.env)) (λ_ s'=>SP X pins D0 .next s') (.ref s2.heap.objs.size) C) S hc hjs hlen hg ht he I3 T
  (T.keep _ _ _ st2 λb hb o e=>bt _ e) gK w0 turn ?_
 intro C s' H' gm σ' hC Jv qe;have Ie:Inv X pins σ H' s':=D8 I3 gK Jv hC (Heap.SameBut.refl ..);obtain⟨m,hn,_⟩:=Jv.loc;have fC:=I3.i9 (H':=H') hC Jv.free;obtain⟨c0,c1,c2,c3,c4,c5⟩:=fC;show wpAny _ X.A (assign (.Name y py) X.env (.ref s2.heap.objs.size)) (λ_ s''=>∃m,s''.heap.Ns C m/\∀h',fh C s''.heap h'->SP X pins D0 .next {s'' with heap:=h'}) X.xe s';refine Io (Ax Ie hN hy (.inl hl) (show RelV (.ref s2.heap.objs.size) (.ref s2.heap.objs.size) from rfl) (λs'' Tn ⟨a,hsb,ha⟩=>?_) (.inr hl));have To:C≠a:=by
  rcases ha with rfl|ha
  ·exact c1
  ·exact dn (c4 _ _ ha)
 exact⟨m,hn.sameBut hsb To,λh' hs'=>⟨_,H',Tn.turned (t':=s''.toks) (λb o hb e=>(hs'.2 b hb).trans e) c0 c1 c3 c4 c5,qe⟩⟩
end
end EE
namespace E3
open PySem PySem.Spec PyProof.Rows L2 EE
section
variable{X:Cx}{W3:bF}{elt iter tg:Expr}{ifs:List Expr}{x x':Str}{px tO pos tp:Pos}{kt:Nat}{scope bE:Scope}{O M N:List Str}{js:List Nat}{wi:dQ}{g:e_}{Sh:D->aE->Prop}{tt:b7}{te:aD}
theorem lo1(S:dU bE [x] M scope)(hx:scope.names.lookup x=some .local)(C:Addr)(fp:List Addr)(pins:List (Addr×Obj))(s:Shared)(H:Hp):gx (bx X scope C ([x]++M) fp pins s H) cJ (.Name x px) (iB 0) :=
 cA (i:=0) S.nd rfl (.inl (oF hx)) (.inr (oF hx))
theorem lo2(S:dU bE [x,x'] M scope)(hx:scope.names.lookup x=some .local/\scope.names.lookup x'=some .local)(C:Addr)(fp:List Addr)(pins:List (Addr×Obj))(s:Shared)(H:Hp) :
 gx (bx X scope C ([x,x']++M) fp pins s H) cJ (.Tuple [.Name x px,.Name x' tO] kt tp) (so 2 (mM (iB 0) (mM (iB 1) sk))) :=
 su rfl (j9 (cA (i:=0) S.nd rfl (.inl (oF hx.1)) (.inr (oF hx.1))) (j9 (cA (i:=1) S.nd rfl (.inl (oF hx.2)) (.inr (oF hx.2))) sm))
theorem FK(S:dU bE O M scope)(hjs:M.map some=js.map λj=>N[j]?)(hc:X.calm=true)(hsh:pZ O.length g Sh)(hi:eK X W3 tg iter wi)
 (hg:∀(C:Addr) (fp:List Addr) (pins:List (Addr×Obj)) (s:Shared) (H:Hp),gx (bx X scope C (O++M) fp pins s H) cJ tg g)
 (ht:∀(C:Addr) (fp:List Addr) (pins:List (Addr×Obj)) (s:Shared) (H:Hp),gY (bx X scope C (O++M) fp pins s H) ifs tt)
 (he:∀(C:Addr) (fp:List Addr) (pins:List (Addr×Obj)) (s:Shared) (H:Hp),aF (bx X scope C (O++M) fp pins s H) cJ elt te)
 (fX:X.env.scope=bE) (hN:X.N=N) (hs:∀v,foldedSetIterable iter X.env v=pure v) :
 aF X W3 (.ListComp elt [⟨tg,iter,ifs,0⟩] scope pos) (iJ wi Sh tt te js):=λZ=>by
 subst fX hN;exact PE.imp (D_ S hc (mC hjs).1 (mC hjs).2 (hi Z) (λC fp pins s H=>(hg C fp pins s H).ex) (λC fp pins s H=>(ht C fp pins s H).ex) (λC fp pins s H=>(he C fp pins s H).ex) hs) λ_ _ _ h=>tI hsh h
theorem Tp{i:Nat}{y:Str}{py spos:Pos}(S:dU bE O M scope)(hjs:M.map some=js.map λj=>N[j]?)(hc:X.calm=true)(hsh:pZ O.length g Sh)(hi:eK X W3 tg iter wi)
 (hg:∀(C:Addr) (fp:List Addr) (pins:List (Addr×Obj)) (s:Shared) (H:Hp),gx (bx X scope C (O++M) fp pins s H) cJ tg g)
 (ht:∀(C:Addr) (fp:List Addr) (pins:List (Addr×Obj)) (s:Shared) (H:Hp),gY (bx X scope C (O++M) fp pins s H) ifs tt)
 (he:∀(C:Addr) (fp:List Addr) (pins:List (Addr×Obj)) (s:Shared) (H:Hp),aF (bx X scope C (O++M) fp pins s H) cJ elt te)
 (xo:X.N.Nodup) (hy:X.N[i]?=some y) (hl:X.env.scope.names.lookup y=some .local) (fX:X.env.scope=bE) (hN:X.N=N)
 (hsw:swapsWith (.ListComp elt [⟨tg,iter,ifs,0⟩] scope pos) (some (.Name y py)) spos.line X.env=pure true) (hs:∀v,foldedSetIterable iter X.env v=pure v) :
 d8 X W3 (.Assign [.Name y py] (.ListComp elt [⟨tg,iter,ifs,0⟩] scope pos) spos) (pK i (iJ wi Sh tt te js)):=λZ=>by
 subst fX hN;exact PS.imp (Tj S hc (mC hjs).1 (mC hjs).2 (hi Z) (λC fp pins s H=>(hg C fp pins s H).ex) (λC fp pins s H=>(ht C fp pins s H).ex) (λC fp pins s H=>(he C fp pins s H).ex) xo hy hl hsw hs) λD τ H ⟨D3,σ,S,hs,hr,ht,hc⟩ =>
  tI hsh ⟨σ,S,_,hs,hr,ht,λd S' v H' k r l q=>hc.nx _ S' _ H' k ((hs.mono k).set r i) l q⟩
theorem jt(S:dU bE [x] M scope)(hx:scope.names.lookup x=some .local)(hjs:M.map some=js.map λj=>N[j]?)(hc:X.calm=true)(hi:eK X W3 (.Name x px) iter wi)
 (ht:∀(C:Addr) (fp:List Addr) (pins:List (Addr×Obj)) (s:Shared) (H:Hp),gY (bx X scope C ([x]++M) fp pins s H) ifs tt)
 (he:∀(C:Addr) (fp:List Addr) (pins:List (Addr×Obj)) (s:Shared) (H:Hp),aF (bx X scope C ([x]++M) fp pins s H) cJ elt te)
 (fX:X.env.scope=bE:=by rfl) (hN:X.N=N:=by rfl) (hs:∀v,foldedSetIterable iter X.env v=pure v:=by intro _;rfl) :
 aF X W3 (.ListComp elt [⟨.Name x px,iter,ifs,0⟩] scope pos) (iJ wi iI tt te js):=FK S hjs hc tH hi (lo1 S hx) ht he fX hN hs
theorem ju{i:Nat}{y:Str}{py spos:Pos}(S:dU bE [x] M scope)(hx:scope.names.lookup x=some .local)(hjs:M.map some=js.map λj=>N[j]?)(hc:X.calm=true)(hi:eK X W3 (.Name x px) iter wi)
 (ht:∀(C:Addr) (fp:List Addr) (pins:List (Addr×Obj)) (s:Shared) (H:Hp),gY (bx X scope C ([x]++M) fp pins s H) ifs tt)
 (he:∀(C:Addr) (fp:List Addr) (pins:List (Addr×Obj)) (s:Shared) (H:Hp),aF (bx X scope C ([x]++M) fp pins s H) cJ elt te)
 (xo:X.N.Nodup) (hy:X.N[i]?=some y) (hl:X.env.scope.names.lookup y=some .local) (fX:X.env.scope=bE:=by rfl) (hN:X.N=N:=by rfl)
 (hsw:swapsWith (.ListComp elt [⟨.Name x px,iter,ifs,0⟩] scope pos) (some (.Name y py)) spos.line X.env=pure true:=by rfl) (hs:∀v,foldedSetIterable iter X.env v=pure v:=by intro _;rfl) :
 d8 X W3 (.Assign [.Name y py] (.ListComp elt [⟨.Name x px,iter,ifs,0⟩] scope pos) spos) (pK i (iJ wi iI tt te js)):=Tp S hjs hc tH hi (lo1 S hx) ht he xo hy hl fX hN hsw hs
theorem FL(S:dU bE [x,x'] M scope)(hx:scope.names.lookup x=some .local/\scope.names.lookup x'=some .local)(hjs:M.map some=js.map λj=>N[j]?)(hc:X.calm=true)(hi:eK X W3 (.Tuple [.Name x px,.Name x' tO] kt tp) iter wi)
 (ht:∀(C:Addr) (fp:List Addr) (pins:List (Addr×Obj)) (s:Shared) (H:Hp),gY (bx X scope C ([x,x']++M) fp pins s H) ifs tt)
 (he:∀(C:Addr) (fp:List Addr) (pins:List (Addr×Obj)) (s:Shared) (H:Hp),aF (bx X scope C ([x,x']++M) fp pins s H) cJ elt te)
 (fX:X.env.scope=bE:=by rfl) (hN:X.N=N:=by rfl) (hs:∀v,foldedSetIterable iter X.env v=pure v:=by intro _;rfl) :
 aF X W3 (.ListComp elt [⟨.Tuple [.Name x px,.Name x' tO] kt tp,iter,ifs,0⟩] scope pos) (iJ wi wN tt te js):=FK S hjs hc Qm hi (lo2 S hx) ht he fX hN hs
theorem Tq{X:Cx}{sc0 xp:Scope}{C0:Addr}{N0:List Str}{qm:List Addr}{qo:List (Addr×Obj)}{s0:Shared}{H0:Hp}(S:dU (D' sc0 xp) [x] M scope)(hx:scope.names.lookup x=some .local)(hjs:M.map some=js.map λj=>N0[j]?)(hi:eK (bx X sc0 C0 N0 qm qo s0 H0) W3 (.Name x px) iter wi)
 (ht:∀(C:Addr) (fp:List Addr) (pins:List (Addr×Obj)) (s:Shared) (H:Hp),gY (bx (bx X sc0 C0 N0 qm qo s0 H0) scope C ([x]++M) fp pins s H) ifs tt)
 (he:∀(C:Addr) (fp:List Addr) (pins:List (Addr×Obj)) (s:Shared) (H:Hp),aF (bx (bx X sc0 C0 N0 qm qo s0 H0) scope C ([x]++M) fp pins s H) cJ elt te)
 (fX:X.env.scope=xp:=by rfl) (hs:∀v,foldedSetIterable iter (bx X sc0 C0 N0 qm qo s0 H0).env v=pure v:=by intro _;rfl) :
 aF (bx X sc0 C0 N0 qm qo s0 H0) W3 (.ListComp elt [⟨.Name x px,iter,ifs,0⟩] scope pos) (iJ wi iI tt te js):=by
 subst fX;exact jt (bE:=D' sc0 X.env.scope) (N:=N0) S hx hjs rfl hi ht he rfl rfl hs
end
section
variable{σ:aE}{Q:K3}{js:List Nat}{te:aD}
theorem fO{ds:List D}{Al:af->Prop}{S1:af}(f:Nat->D)(hz:ds.length<=10000)(hA:Al S1)
 (h:∀i d,ds[i]?=some d->∀P:K3,P (f i) S1->te (some d::cW σ js) S1 P) (q:cC S1 ((aN ds.length).map f) Q) :
 ∃W:Nat->List D->af->Prop,W 0 [] S1/\(∀i ys S,W i ys S->Al S/\ys.length<sizeLine) /\
 (∀i d ys S,ds[i]?=some d->W i ys S->∃ρ,iI d ρ/\kh (ρ++cW σ js) S λb S2=>if b=true then te (ρ++cW σ js) S2 λy S3=>W (i+1) (ys++[y]) S3 else W (i+1) ys S2)/\∀ys S,W ds.length ys S->cC S ys Q:=by
 refine tK (tt:=kh) (λ_=>true) f (bR hz (by decide)) hA (λi d hd=>⟨[some d],rfl,λP hP=>hP,λ_ P hP=>h i d hd P hP⟩) ?_;rw[DH];exact q
theorem Tr{ds:List D}{Al:af->Prop}{S1:af}(f:Nat->D)(hz:ds.length<=10000)(hA:∀S,Sub S1 S->Al S)
 (h:∀i d S,ds[i]?=some d->Sub S1 S->∀P:K3,(∀S',Sub S S'->P (f i) S')->te (some d::cW σ js) S P) (q:∀S,Sub S1 S->cC S ((aN ds.length).map f) Q) :
 ∃W:Nat->List D->af->Prop,W 0 [] S1/\(∀i ys S,W i ys S->Al S/\ys.length<sizeLine) /\
 (∀i d ys S,ds[i]?=some d->W i ys S->∃ρ,iI d ρ/\kh (ρ++cW σ js) S λb S2=>if b=true then te (ρ++cW σ js) S2 λy S3=>W (i+1) (ys++[y]) S3 else W (i+1) ys S2)/\∀ys S,W ds.length ys S->cC S ys Q :=
 qb (Sh:=iI) f hz hA (λi d S hd hs=>⟨[some d],rfl,h i d S hd hs⟩) q
end
section
variable{K:PySem.W.Frag}
theorem FN{H:Hp}:∀{ds:List D} {vs:List V},aS K H ds vs->∀k,aS K H (ds.eraseIdx k) (vs.eraseIdx k)
 |_,_,.nil,_=>.nil
 |_,_,.cons _ t,0=>t
 |_,_,.cons h t,k+1=>.cons h (FN t k)
def FO:D->List D->af->K3->Prop:=λx vs S Q=>∃a ds k y,x=.ref a/\vs=[.int ((k:Nat):Int)]/\S a=some (.lst ds)/\k<=100000/\ds[k]?=some y/\Q y (up S a (.lst (ds.eraseIdx k)))
theorem Ts:mJ K FO Be:=by
 intro Z x ds S Q3 v vs H Q rx r l h c;obtain⟨a,es,k,y,rfl,rfl,e,hk9,ey,q⟩:=h;cases rx;obtain⟨ws,h1,h2⟩:=l.obj a _ e;obtain⟨u,hu,ru⟩:=h2.at ey;have kk:Kp Z H (upd H a (.lst (ws.eraseIdx k))):=Kp.at l e;have hk:k<ws.length:=(cT.mp hu).1;cases r with
 |cons r1 rr =>
  cases rr;cases r1;refine⟨a,ws,(k:Int),k,u,rfl,rfl,h1,?_,?_,?_,hu,c _ _ _ _ kk (ru.mono kk) (l.put (o:=.lst (es.eraseIdx k)) kk (l.mE e) ⟨_,di,FN (h2.mono kk) k⟩) q⟩
  ·lia
  ·lia
  ·unfold seqIndex?;have h3:¬((k:Int)<0):=by lia
   have h4:(k:Int)<(ws.length:Int):=by lia
   simp[h3,h4]
theorem Tt{S:af}{Q:K3}{a:Addr}{ds:List D}{i:Int}{k:Nat}{y:D}(hi:i=(k:Int))(hS:S a=some (.lst ds))(hk:k<=100000)(hy:ds[k]?=some y)(q:Q y (up S a (.lst (ds.eraseIdx k)))):FO (.ref a) [.int i] S Q:=⟨a,ds,k,y,rfl,by rw[hi],hS,hk,hy,q⟩
end
end E3
namespace PySem.SeqAt
open AutoSeq1 (wpAny_loadPart')
open MeetsSeq MeetsSeq2 MeetsSeq3
section
variable{prog:Program}{w:World}{A:Around}{i j:Int}{t u:Tok}{Q E:Value->Shared->Prop}{s:Shared}
open PySem.Spec PyProof.Rows in
open PySem.Spec PyProof.Rows in
end
end PySem.SeqAt
namespace EE
open PySem PySem.Spec PyProof.Rows L2
end EE
namespace E3
open PySem PySem.Spec PyProof.Rows L2 EE
end E3
set_option maxHeartbeats 4000000
namespace LW
open PySem PySem.Spec PyProof.Rows L2 EE E3
seal aF dw dH d7 d8 cV pI gx pJ eK pT
local macro_rules|`(tactic|nofun)=>do let w:=λ(s:String)=>(s.splitOn " ").toArray.map λx=>Lean.mkIdent (.mkStr (.mkSimple "E3") x);let at_ <-`(tactic|(first|exact rfl|exact wD|exact wF|exact Ds|exact abi));let v0 <-(w "SF SJ SQ SU SY").mapM λn=>`(Lean.Parser.Tactic.tacticSeq|apply $n);let v1 <-(w "SG SK SW").mapM λn=>`(Lean.Parser.Tactic.tacticSeq|apply $n);let v3 <-(w "SM S7 N8").mapM λn=>`(Lean.Parser.Tactic.tacticSeq|apply $n);let a1 <-(w "Sv Sw Sx SH SI SN SO SS SV S8 S9 S_ NX N3 N9 N_ N' Ov Ou N6 Og Oh N5 N1 NZ NY N2 N7 mS Od Oe Of Oc O5 Oj Ol Om Oo Oq Ot Oi Ow Ox Oz OA OB OC OE OD OH OI OJ OK Qr DJ Qv RC R_ Sa Se Sf Ry RA RE Qw QH QI OL OM ON OP OS OT OV OO OQ Ph Pj Pm PJ Te Tf Tg Q1 OX OY OZ QV QW").mapM λn=>`(Lean.Parser.Tactic.tacticSeq|apply $n);let a2 <-(w "CM we CQ OG CU CV Fh Ei Rz CY C4").mapM λn=>`(Lean.Parser.Tactic.tacticSeq|refine $n (by assumption) ?_);let a3 <-(w "CM we CQ CU CV Fh Ei CY C4").mapM λn=>`(Lean.Parser.Tactic.tacticSeq|refine $n ao ?_);let al:=a1++a2++a3;`(tactic|repeat (first|((with_reducible apply Sz);(exact rfl);(first|assumption|exact ao))|((with_reducible apply SE);(exact rfl);$at_)|((with_reducible apply SA);(exact rfl);$at_)|((with_reducible apply SD);(exact rfl);$at_;$at_)|((with_reducible first $[| $v0]*);(exact rfl))|((with_reducible first $[| $v1]*);(exact rfl);(exact rfl))|((with_reducible apply SX);(exact rfl);(exact rfl);(exact rfl))|((with_reducible first $[| $v3]*);(exact rfl))|(with_reducible first $[| $al]*)|(with_reducible first|refine pC rfl ?_|refine vB rfl ?_|refine my ?_|refine pj ?_|refine pC (by assumption) ?_|refine r9 (by assumption) ?_|refine By (by assumption) ?_|refine vB (by assumption) ?_)|((with_reducible refine Oa ?_ ?_);(first|decide|omega))|((with_reducible refine Ob ?_ ?_);(first|exact⟨by decide,by decide⟩|omega))|((with_reducible refine O4 ?_ ?_);exact⟨by decide,by decide,by decide⟩)|((with_reducible refine C7 ?_ ?_);(first|exact .inl ⟨by decide,by decide⟩|exact .inr ⟨by decide,by decide⟩))|((with_reducible refine Oy ?_ ?_);exact dm (Nat.le_of_ble_eq_true rfl))|((with_reducible apply sL);$at_)|((with_reducible apply gz (by assumption));$at_)|((with_reducible apply gz ao);$at_)|((with_reducible apply CN);exact rfl)|((with_reducible apply N4);exact rfl)|((with_reducible refine Sd ?_ ?_);exact rfl)|((with_reducible refine w6 ?_ ?_);exact dm (Nat.le_of_ble_eq_true rfl))|((with_reducible refine PQ ?_ ?_ ?_);(exact rfl);(exact rfl))|((with_reducible refine Dq ?_ ?_);exact rfl)|((with_reducible refine Dr ?_ ?_);exact rfl)|((with_reducible refine OW ?_ ?_);(first|exact⟨by decide,by decide,by decide,by decide⟩|exact⟨by omega,by omega,by omega,by omega⟩))|((with_reducible refine OU ?_ ?_);(first|exact⟨by decide,by decide⟩|exact⟨by omega,by omega⟩))|((with_reducible refine OF ?_ ?_);assumption)|(with_reducible first|refine Dq (by decide +kernel) ?_|refine Dr (by decide +kernel) ?_|refine pC (by omega) ?_|refine r9 (by omega) ?_|refine By (by omega) ?_|refine vB (by omega) ?_)))
def top(i:Nat):Stmt:=PySem.Challenge.pw_errandend_k17_too_many.main.body.getD i (.Pass ⟨0,0,0,0⟩)
abbrev nh:Stmt:=top 10
theorem t5:bf ["program","found","errand","saying"] ["program"] (aq nh):=⟨rfl,rfl,rfl,by cbv,rfl,by cbv,by cbv⟩
abbrev ni:Stmt:=top 11
theorem qp:bf ["body","found","pending","saying","part"] ["body"] (aq ni):=⟨rfl,rfl,rfl,by cbv,rfl,by cbv,by cbv⟩
abbrev nj:Stmt:=top 12
theorem Tu:bf ["saying"] ["saying"] (aq nj):=⟨rfl,rfl,rfl,by cbv,rfl,by cbv,by cbv⟩
abbrev nk:Stmt:=top 13
theorem Tv:bf ["name","known"] ["name","known"] (aq nk):=⟨rfl,rfl,rfl,by cbv,rfl,by cbv,by cbv⟩
abbrev lp:Stmt:=top 15
theorem nq:bf ["program","found","errand","placed","send","rows"] ["program"] (aq lp):=⟨rfl,rfl,rfl,by cbv,rfl,by cbv,by cbv⟩
abbrev nr:Stmt:=top 16
theorem qq:bf ["body","found","pending","placed","inner"] ["body"] (aq nr):=⟨rfl,rfl,rfl,by cbv,rfl,by cbv,by cbv⟩
abbrev lq:Stmt:=top 17
theorem xq:bf ["saying","known","param","inner"] ["saying","known"] (aq lq):=⟨rfl,rfl,rfl,by cbv,rfl,by cbv,by cbv⟩
abbrev nu:Stmt:=top 18
theorem xr:bf ["saying","rest"] ["saying"] (aq nu):=⟨rfl,rfl,rfl,by cbv,rfl,by cbv,by cbv⟩
abbrev lr:Stmt:=top 19
theorem Tw:bf ["param","sayings","known"] ["param","sayings","known"] (aq lr):=⟨rfl,rfl,rfl,by cbv,rfl,by cbv,by cbv⟩
abbrev nv:Stmt:=top 20
theorem Tx:bf ["param","saying","known"] ["param","saying","known"] (aq nv):=⟨rfl,rfl,rfl,by cbv,rfl,by cbv,by cbv⟩
abbrev lu:Stmt:=top 21
theorem FP:bf ["one","other","rows"] ["one","other"] (aq lu):=⟨rfl,rfl,rfl,by cbv,rfl,by cbv,by cbv⟩
abbrev ny:Stmt:=top 22
theorem Tz:bf ["one","other"] ["one","other"] (aq ny):=⟨rfl,rfl,rfl,by cbv,rfl,by cbv,by cbv⟩
abbrev lB:Stmt:=top 23
theorem TB:bf ["row","rows"] ["row","rows"] (aq lB):=⟨rfl,rfl,rfl,by cbv,rfl,by cbv,by cbv⟩
abbrev lC:Stmt:=top 24
theorem TC:bf ["row","rows","column"] ["row","rows","column"] (aq lC):=⟨rfl,rfl,rfl,by cbv,rfl,by cbv,by cbv⟩
abbrev nz:Stmt:=top 25
theorem TF:bf ["one","other"] ["one","other"] (aq nz):=⟨rfl,rfl,rfl,by cbv,rfl,by cbv,by cbv⟩
abbrev nA:Stmt:=top 28
theorem TH:bf ["program"] ["program"] (aq nA):=⟨rfl,rfl,rfl,by cbv,rfl,by cbv,by cbv⟩
abbrev nB:Stmt:=top 29
theorem TJ:bf ["program"] ["program"] (aq nB):=⟨rfl,rfl,rfl,by cbv,rfl,by cbv,by cbv⟩
abbrev ku:Stmt:=top 30
theorem lD:bf ["program","name","names","steps","found","pending","sender","step"] ["program","name"] (aq ku):=⟨rfl,rfl,rfl,by cbv,rfl,by cbv,by cbv⟩
abbrev lF:Stmt:=top 31
theorem xt:bf ["program","name","names","numbered"] ["program","name"] (aq lF):=⟨rfl,rfl,rfl,by cbv,rfl,by cbv,by cbv⟩
abbrev nD:Stmt:=top 32
theorem jv:bf ["numbered","found","number","graph","place","ahead"] ["numbered"] (aq nD):=⟨rfl,rfl,rfl,by cbv,rfl,by cbv,by cbv⟩
abbrev lH:Stmt:=top 33
theorem TK:bf ["found","graph","way"] ["found","graph","way"] (aq lH):=⟨rfl,rfl,rfl,by cbv,rfl,by cbv,by cbv⟩
abbrev lJ:Stmt:=top 34
theorem xu:bf ["pairs","graph","way"] ["pairs"] (aq lJ):=⟨rfl,rfl,rfl,by cbv,rfl,by cbv,by cbv⟩
abbrev nE:Stmt:=top 35
theorem TL:bf ["graph"] ["graph"] (aq nE):=⟨rfl,rfl,rfl,by cbv,rfl,by cbv,by cbv⟩
abbrev lK:Stmt:=top 36
theorem TM:bf ["graph"] ["graph"] (aq lK):=⟨rfl,rfl,rfl,by cbv,rfl,by cbv,by cbv⟩
abbrev nF:Stmt:=top 38
theorem TN:bf ["script","k"] ["script","k"] (aq nF):=⟨rfl,rfl,rfl,by cbv,rfl,by cbv,by cbv⟩
abbrev jw:Stmt:=top 39
theorem g_:bf ["cell","many","base","left","k","place","found","turn"] ["cell","many"] (aq jw):=⟨rfl,rfl,rfl,by cbv,rfl,by cbv,by cbv⟩
abbrev nG:Stmt:=top 40
theorem kx:bf ["one","other","rows","row","new","k","best","j"] ["one","other"] (aq nG):=⟨rfl,rfl,rfl,by cbv,rfl,by cbv,by cbv⟩
abbrev nH:Stmt:=top 42
theorem lL:bf ["saying","steps","path","found","step"] ["saying"] (aq nH):=⟨rfl,rfl,rfl,by cbv,rfl,by cbv,by cbv⟩
abbrev lM:Stmt:=top 43
theorem FQ:bf ["param","saying","known","found"] ["param","saying","known"] (aq lM):=⟨rfl,rfl,rfl,by cbv,rfl,by cbv,by cbv⟩
abbrev ky:Stmt:=top 44
theorem lN:bf ["errand","saying","known","found","rows","one","k","more"] ["errand","saying","known"] (aq ky):=⟨rfl,rfl,rfl,by cbv,rfl,by cbv,by cbv⟩
abbrev nI:Stmt:=top 45
theorem xw:bf ["program","found","errand"] ["program"] (aq nI):=⟨rfl,rfl,rfl,by cbv,rfl,by cbv,by cbv⟩
abbrev nJ:Stmt:=top 46
theorem lP:bf ["own","most","seen","todo","graph","one","more"] ["own","most"] (aq nJ):=⟨rfl,rfl,rfl,by cbv,rfl,by cbv,by cbv⟩
abbrev nK:Stmt:=top 47
theorem kz:bf ["cell","params","left","found","k","one"] ["cell","params"] (aq nK):=⟨rfl,rfl,rfl,by cbv,rfl,by cbv,by cbv⟩
abbrev nM:Stmt:=top 48
theorem jy:bf ["way","program","name","told","e"] ["way","program","name"] (aq nM):=⟨rfl,rfl,rfl,by cbv,rfl,by cbv,by cbv⟩
abbrev lQ:Stmt:=top 49
theorem FR:bf ["name","params","row"] ["name","params"] (aq lQ):=⟨rfl,rfl,rfl,by cbv,rfl,by cbv,by cbv⟩
abbrev kA:Stmt:=top 50
theorem jz:bf ["script","names","params","cell","sizes","program","due"] ["script"] (aq kA):=⟨rfl,rfl,rfl,by cbv,rfl,by cbv,by cbv⟩
abbrev jA:Stmt:=top 51
theorem hG:bf ["script","many","names","params","saying","k","program","due","way"] ["script"] (aq jA):=⟨rfl,rfl,rfl,by cbv,rfl,by cbv,by cbv⟩
inductive jB{hJ α1:Type}(p:hJ->α1->Prop):Prop where
 |mk (a0:hJ) (a1:α1) (h:p a0 a1)
inductive nN{hJ α1 α2:Type}(p:hJ->α1->α2->Prop):Prop where
 |mk (a0:hJ) (a1:α1) (a2:α2) (h:p a0 a1 a2)
inductive jC{hJ α1 α2 α3:Type}(p:hJ->α1->α2->α3->Prop):Prop where
 |mk (a0:hJ) (a1:α1) (a2:α2) (a3:α3) (h:p a0 a1 a2 a3)
inductive qr{hJ α1 α2 α3 FT:Type}(p:hJ->α1->α2->α3->FT->Prop):Prop where
 |mk (a0:hJ) (a1:α1) (a2:α2) (a3:α3) (a4:FT) (h:p a0 a1 a2 a3 a4)
theorem xx{us:List Value}{n:Nat}(h:us.length=n+1):∃a t,us=a::t/\t.length=n:=by
 cases us with
 |nil=>cases h
 |cons a t=>exact⟨a,t,rfl,Nat.succ.inj h⟩
theorem TQ{us:List Value}(h:us.length=0):us=[]:=List.eq_nil_of_length_eq_zero h
theorem fe{us:List Value}(h:us.length=1):∃a0,us=[a0]:=by
 obtain⟨a0,t,rfl,g⟩:=xx h;obtain rfl:=TQ g;exact⟨a0,rfl⟩
theorem ln2{us:List Value}(h:us.length=2):∃a0 a1,us=[a0,a1]:=by
 obtain⟨a0,t,rfl,g⟩:=xx h;obtain⟨a1,rfl⟩:=fe g;exact⟨a0,a1,rfl⟩
theorem lR{us:List Value}(h:us.length=3):∃a0 a1 a2,us=[a0,a1,a2]:=by
 obtain⟨a0,t,rfl,g⟩:=xx h;obtain⟨a1,a2,rfl⟩:=ln2 g;exact⟨a0,a1,a2,rfl⟩
structure Gs(K:ak)(mg:Str->Option Value):Prop where
 len:mg "len"=none
 range:mg "range"=none
 t6:mg "isinstance"=none
 tuple:mg "tuple"=none
 list:mg "list"=none
 int:mg "int"=none
 xy:mg "reversed"=none
 any:mg "any"=none
 enumerate:mg "enumerate"=none
 max:mg "max"=none
 zip:mg "zip"=none
 TU:∃t,mg "MOST_IN_CLOSURE"=some (.int 40 t)
abbrev ES:List Rf:=[.err,.text,.twice,.such,.count,.apart,.many,.way]
section
variable{P:Program}{w:World}{K:PySem.W.Frag}{mg:Str->Option Value}{base:Heap}{adr:Rf->Addr}
def cellAt(ns:List Int)(k:Int):Int:=ns.getD k.toNat 0
inductive TV (ds:List D)(q:D->Prop):Prop where
 |mk (ns:List Int) (k:Int) (_:ds=[.bY (ns.map D.int),.int k]) (_:0<=k) (_:q (.int (cellAt ns k)))
def qt :aW:=vS TV
theorem TX{k:Nat}(h:aC K mg "_law_cell_at" nF ["script","k"])(G:Gs K mg):av P w K mg base (k+1) "_law_cell_at" ["script","k"] qt:=by
 refine h.val TN (by rintro ds q ⟨ns,k,e,_⟩;rw[e];rfl) λf cdv A outer s H E ds q hr ⟨ns,k,e,h0,hq⟩=>?_;subst e;refine⟨_,(au (cE (bq rL jg (aa 1) (cK fq fv rfl G.len eE (ae (aa 0) ai)) (bp _)) (aA (bc (aB dY d9 (aa 0) (aa 1) (λ_ _=>rfl)))) bZ)
 (aA (bc aj))),?_⟩
 nofun;have hl:(ns.map D.int).length=ns.length:=ay _;refine MT (λc=>?_) (λc=>?_)
 ·rw[hl]at c;have hk:k.toNat<ns.length:=by lia
  nofun;refine CN (wC h0 (v:=.int (cellAt ns k)) ?_) hq;rw[aJ,aX hk];simp[cellAt,bu,aX hk]
 ·rw[hl]at c;have hk:ns.length<=k.toNat:=by lia
  nofun;have e:cellAt ns k=0:=by simp[cellAt,bu,b_ hk]
  rw[e]at hq;exact hq
def Lo(x:Str):Prop:=∃c∈x.cps.toList,c<=108
theorem FU{x:Str}(h:Lo x):x≠"zz":=by
 rintro rfl;obtain⟨c,hc,hl⟩:=h;have e:("zz":Str).cps.toList=[122,122]:=by cbv
 rw[e]at hc;simp at hc;lia
theorem xA{n:Nat}{f:Nat->List Nat}(h:∀k,k<n->∃c∈f k,c<=108):∀x∈(aN n).map λk=>textOf (f k),Lo x:=λx hx=>by
 obtain⟨k,hk,rfl⟩:=bj.mp hx;obtain⟨c,hc,hl⟩:=h k (f_.mp hk);exact⟨c,by rw[gW];exact hc,hl⟩
theorem lo1{cs:List Nat}{p n:Nat}(h:n<=12):∀x∈(aN n).map λk=>textOf (iF cs p k),Lo x:=xA λk hk=>⟨97+k,by simp[iF],by lia⟩
theorem lo2{cs:List Nat}{n:Nat}:∀x∈(aN n).map λk=>textOf (ke cs k),Lo x:=xA λk _=>⟨97,by simp[ke],by decide⟩
theorem TY{cs:List Nat}{n:Nat}(h:n<=4):∀x∈(aN n).map λk=>textOf (kf cs k),Lo x:=xA λk hk=>⟨100,by
 rcases(by lia:k=0∨k=1∨k=2∨k=3) with rfl|rfl|rfl|rfl<;>simp[kf],by decide⟩
inductive TZ (ds:List D)(q:List D->Prop):Prop where
 |mk (c n:Int) (_:ds=[.int c,.int n]) (_:0<=c) (_:1<=n) (_:n<=12) (_:∀xs:List Str,Row n.toNat xs->(∀x∈xs,Lo x)->q (xs.map D.str))
def xB :aW:=mQ TZ
theorem T7{k:Nat}(h:aC K mg "_law_names" jw ["cell","many"])(G:Gs K mg):av P w K mg base (k+1) "_law_names" ["cell","many"] xB:=by
 refine h.lst g_ (by rintro ds q ⟨c,n,e,_⟩;rw[e];rfl) λf cdv A outer s H E ds q hr ⟨c,n,e,hc,hn1,hn2,hq⟩=>?_;subst e;refine⟨_,(au (aO (i:=2) g_.nd rfl (Or.inr rfl) bb)
 (au (aO (i:=3) g_.nd rfl (Or.inl rfl) (aM dG a_ (aa 0) aj))
 (au (dk dg rfl (gQ rfl G.range (ae (aM cN a_ (aa 0) aj) ai)) (cA (i:=4) g_.nd rfl (Or.inl rfl)) (au (aO (i:=2) g_.nd rfl (Or.inr rfl) (aM kN kW (aa 2) (aB A6 Cu bb (aM cN a_ (aa 3) aj) (λ_ _=>rfl))))
 (aA (aO (i:=3) g_.nd rfl (Or.inl rfl) (aM dG a_ (aa 3) aj)))))
 (au (aO (i:=5) g_.nd rfl (Or.inr rfl) (aM cN a_ (aM dG a_ (aa 0) aj) (aM iz gR (cK Mn NN rfl G.len eE (ae (aa 2) ai)) aj)))
 (au (ju (i:=6) (bE:=aq jw) (N:=["cell","many","base","left","k","place","found","turn"]) (M:=["base","place"]) (js:=[2,5]) ⟨rfl,by cbv,by cbv,by cbv,by cbv,by cbv⟩ (by cbv) (by cbv) rfl (gQ rfl G.range (ae (aa 1) ai)) (λ_ _ _ _ _=>dR) (λ_ _ _ _ _=>(aM kN kW (aM kN kW (eZ mB mP (aa 1) eX (eY (aa 2))) (aB A6 Cu bb (aa 0) (λ_ _=>rfl))) (eZ mB mP (aa 1) (eY (aa 2)) eX))) g_.nd rfl rfl)
 (au (iM (dH.pt (w_and (bq rL jg (aa 1) aj (bp _)) (kR (bq cz fK (aM cN a_ (aM dG a_ (aa 0) aj) aj) aj (bp _))))) (aA (ju (i:=6) (bE:=aq jw) (N:=["cell","many","base","left","k","place","found","turn"]) (M:=["base"]) (js:=[2]) ⟨rfl,by cbv,by cbv,by cbv,by cbv,by cbv⟩ (by cbv) (by cbv) rfl (gQ rfl G.range (ae (aa 1) ai)) (λ_ _ _ _ _=>dR) (λ_ _ _ _ _=>(aM kN kW (eZ mB mP (aa 1) eX (eY aj)) (eZ mB mP bb eX (eY (aM iz gR (aa 0) aj))))) g_.nd rfl rfl)) bZ)
 (au (iM (dH.pt (w_and (bq rL jg (aa 1) aj (bp _)) (kR (bq cz fK (aM cN a_ (aM dG a_ (aa 0) aj) aj) aj (bp _))))) (aA (ju (i:=6) (bE:=aq jw) (N:=["cell","many","base","left","k","place","found","turn"]) (M:=["base"]) (js:=[2]) ⟨rfl,by cbv,by cbv,by cbv,by cbv,by cbv⟩ (by cbv) (by cbv) rfl (gQ rfl G.range (ae (aa 1) ai)) (λ_ _ _ _ _=>dR) (λ_ _ _ _ _=>(aM kN kW (eZ mB mP bb (eY (aM Lz gR aj (aa 0))) eX) (eZ mB mP (aa 1) eX (eY aj)))) g_.nd rfl rfl)) bZ)
 (au (aO (i:=7) g_.nd rfl (Or.inl rfl) (aM cN a_ (aM dG a_ (aa 0) aj) (aa 1)))
 (aA (bc (aM rV sA (eZ ja jh (aa 6) (eY (aa 7)) eX) (eZ ja jh (aa 6) eX (eY (aa 7)))))))))))))),?_⟩
 nofun;refine⟨λi σ S=>nN λ(lf:Int) (cs:List Nat) (x4:Option D)=>σ=[some (.int c),some (.int n),some (.str (textOf cs)),some (.int lf),x4,none,none,none]/\cs.length=i/\tq cs/\S=emp,
  ⟨_,[],none,rfl,rfl,λc hc=>by simp at hc,rfl⟩,λ_ _ _ _=>trivial,?turn,?done⟩
 case turn =>
  rintro i d σ S hd ⟨lf,cs,x4,rfl,hl,hL,rfl⟩;obtain⟨hi,rfl⟩:=fJ hd;have T8:=uT lf (show(0:Int)<26 by decide);have T9:=ie lf (show(26:Int)≠0 by decide);nofun;refine CP (cp:=97+(lf%26).toNat) ?_ ?_ ?_
  ·rw[Dv,fG];decide
  ·rw[Dv,gW];exact Dx T9 T8
  refine kX (y:=textOf [97+(lf%26).toNat]) ?_ ?_
  ·rw[fG,fG];refine dm ?_;simp only[bW,dN];lia
  rw[pE];nofun;refine⟨_,cs++[97+(lf%26).toNat],_,rfl,by simp[hl],λd hd=>?_,rfl⟩;rcases bI.mp hd with hd|hd
  ·exact hL d hd
  ·simp at hd;lia
 rintro σ S ⟨lf,cs,x4,rfl,hl,hL,rfl⟩;rw[dI]at hl;have T_:cs.length<=7:=by lia
 have lz:∀ds:List Nat,ds.length<=100->(textOf ds).length<=sizeLine:=λds h=>by rw[fG];exact dm (by lia)
 have hz:=lz cs (by lia);nofun;rw[fG];have p0:=ie (c/11) (show((cs.length:Int)+1)≠0 by lia);obtain⟨pl,Ua⟩:∃pl,(c/11)%((cs.length:Int)+1)=pl:=⟨_,rfl⟩;rw[Ua]at p0 ⊢;refine fO (λk=>.str (textOf (iF cs pl.toNat k))) (by rw[dI];exact bR (show n.toNat<=12 by lia) (by decide)) trivial ?e1 ?_
 case e1 =>
  intro i d hd P hP;obtain⟨hi,rfl⟩:=fJ hd;nofun;refine mU hz ?_;rw[gW,tf p0];nofun;refine CP (cp:=97+i) ?_ ?_ ?_
  ·rw[Dw,fG];decide
  ·rw[Dw,gW,Dx (by lia) (by lia)];simp
  refine kX (y:=textOf [97+i]) ?_ ?_
  ·rw[fG,fG,c8];exact dm (by simp only[bW,dN];lia)
  rw[pE];nofun;refine mU hz ?_;rw[gW,Du p0];refine kX ?_ ?_
  ·rw[fG,fG,a5,c8,fP];exact dm (by simp only[bW,dN];lia)
  rw[pE];exact hP
 rw[dI];intro D1 hD1;have FV:n.toNat<=12:=by lia
 have m1:∀f:Nat->List Nat,((aN n.toNat).map λk=>D.str (textOf (f k)))=((aN n.toNat).map λk=>textOf (f k)).map D.str:=λf=>by rw[dq];rfl
 rw[m1];have R1:Row n.toNat ((aN n.toNat).map λk=>textOf (iF cs pl.toNat k)):=PU hL T_ (by lia);have L1:∀x∈(aN n.toNat).map λk=>textOf (iF cs pl.toNat k),Lo x:=lo1 (by lia);nofun;refine p_ (λσ T=>jB λ(r:Addr) (xs:List Str)=>σ=[some (.int c),some (.int n),some (.str (textOf cs)),some (.int lf),x4,some (.int pl),some (.ref r),none]/\T r=some (.lst (xs.map D.str))/\Row n.toNat xs/\∀x∈xs,Lo x) ?_ ?_
 ·intro n' hn';by_cases h5:n<5
  case neg =>
   nofun;exact hn' _ _ ⟨D1,_,rfl,ao,R1,L1⟩
  by_cases e1:c/17%3=1
  case neg =>
   nofun;exact hn' _ _ ⟨D1,_,rfl,ao,R1,L1⟩
  nofun;refine fO (λk=>.str (textOf (ke cs k))) (by rw[dI];exact bR FV (by decide)) trivial ?e2 ?_
  case e2 =>
   intro i d hd P hP;obtain⟨hi,rfl⟩:=fJ hd;nofun;refine mU hz ?_;rw[gW,tf (by decide)];nofun;refine mU (by rw[tm];exact lz _ (by decide)) ?_;rw[tm,gW,tf (by lia)];have ei:((0:Int)+(i:Int)+1).toNat=i+1:=by lia
   rw[ei];refine kX ?_ ?_
   ·rw[fG,fG,c8,c8];exact dm (by lia)
   rw[pE];exact hP
  rw[dI];intro D2 hD2;rw[m1];nofun;exact hn' _ _ ⟨D2,_,rfl,ao,row2 hL (by lia),lo2⟩
 clear R1 L1;rintro σ T ⟨r,xs,rfl,hr1,R,L⟩;nofun;refine p_ (λσ T=>jB λ(r:Addr) (xs:List Str)=>σ=[some (.int c),some (.int n),some (.str (textOf cs)),some (.int lf),x4,some (.int pl),some (.ref r),none]/\T r=some (.lst (xs.map D.str))/\Row n.toNat xs/\∀x∈xs,Lo x) ?_ ?_
 ·intro n' hn';by_cases h5:n<5
  case neg =>
   nofun;exact hn' _ _ ⟨r,xs,rfl,hr1,R,L⟩
  by_cases e2:c/17%3=2
  case neg =>
   nofun;exact hn' _ _ ⟨r,xs,rfl,hr1,R,L⟩
  nofun;refine fO (λk=>.str (textOf (kf cs k))) (by rw[dI];exact bR FV (by decide)) trivial ?e3 ?_
  case e3 =>
   intro i d hd P hP;obtain⟨hi,rfl⟩:=fJ hd;nofun;refine mU (by rw[tm];exact lz _ (by decide)) ?_;rw[tm,gW,Du (by lia)];have ei:((3:Int)-(0+(i:Int))).toNat=3-i:=by lia
   rw[ei];nofun;refine mU hz ?_;rw[gW,tf (by decide)];refine kX ?_ ?_
   ·rw[fG,fG,c8,fP];exact dm (by simp only[bW,dN];lia)
   rw[pE];exact hP
  rw[dI];intro D2 hD2;rw[m1];nofun;exact hn' _ _ ⟨D2,_,rfl,ao,PV hL (by lia),TY (by lia)⟩
 rintro σ T' ⟨r,xs,rfl,hr1,R,L⟩;have t0:=ie (c/13) (show n≠0 by lia);nofun;rw[wG t0];intro p1 hp1;have hD4:=aL (o:=.lst ((xs.map D.str).drop (c/13%n).toNat)) hr1 hp1;nofun;rw[pW t0];intro p2 hp2;have t7:=R.len;refine sM (aL ao hp2) ao ?_ ?_
 ·rw[fP,c8,ay];exact dm (by lia)
 intro r hr';refine⟨r,_,rfl,ao,?_⟩;have:=hq _ (R.turn (t:=(c/13%n).toNat)) (λx hx=>L x ((bI.mp hx).elim uS md));rw[b6,JK,qZ]at this;exact this
inductive Ub (ds:List D)(q:D->Prop):Prop where
 |mk (s:Sy) (_:ds=[s.d]) (_:q (.tup (s.parts.map Sy.d)))
def xC :aW:=vS Ub
theorem FW{k:Nat}(h:aC K mg "parts" nj ["saying"])(G:Gs K mg):av P w K mg base (k+1) "parts" ["saying"] xC:=by
 refine h.val Tu (by rintro ds q ⟨s,e,_⟩;rw[e];rfl) λf cdv A outer s0 H E ds q hr hA=>?_;obtain⟨s,rfl,hq⟩:=hA;refine⟨_,(au (cE (bq mw j' (aB aH aI (aa 0) aj (λ_ _=>rfl)) (bD (ae bb (ae bb ai))) (by with_unfolding_all rfl)) (aA (bc (bD ai))) bZ)
 (au (cE (bq cz fu (aB aH aI (aa 0) aj (λ_ _=>rfl)) bb (bp _)) (aA (bc (aB aH aI (aa 0) aj (λ_ _=>rfl)))) bZ)
 (aA (bc (eZ NR NT (aa 0) (eY aj) eX))))),?_⟩
 cases s with
 |name x =>
  simp only[Sy.d];nofun;exact hq
 |bw =>
  simp only[Sy.d];nofun;exact hq
 |pair a b =>
  simp only[Sy.d];nofun;exact hq
 |left a =>
  simp only[Sy.d];nofun;exact hq
 |right a =>
  simp only[Sy.d];nofun;exact hq
 |fork a b c =>
  simp only[Sy.d];nofun;exact hq
 |send x as =>
  simp only[Sy.d];nofun;rw[Sy.k_];exact hq
inductive Uc (ds:List D)(q:D->Prop):Prop where
 |mk (s:Sy) (_:ds=[s.d]) (_:q (qc s.base))
def xD :aW:=vS Uc
theorem Ud{k:Nat}(h:aC K mg "path_parameter" nu ["saying"])(G:Gs K mg):av P w K mg base (k+1) "path_parameter" ["saying"] xD:=by
 refine h.val xr (by rintro ds q ⟨s,e,_⟩;rw[e];rfl) λf cdv A outer s0 H E ds q hr hA=>?_;obtain⟨s,rfl,hq⟩:=hA;refine⟨_,(au (aO (i:=1) xr.nd rfl (Or.inl rfl) (aa 0))
 (au (kU dg (bq mw j' (aB aH aI (aa 1) aj (λ_ _=>rfl)) (bD (ae bb (ae bb ai))) (by with_unfolding_all rfl)) (aA (aO (i:=1) xr.nd rfl (Or.inl rfl) (aB aH aI (aa 1) aj (λ_ _=>rfl)))))
 (aA (bc (mH (bq cz fu (aB aH aI (aa 1) aj (λ_ _=>rfl)) bb (bp _)) (aB aH aI (aa 1) aj (λ_ _=>rfl)) BP))))),?_⟩
 nofun;refine kY (λm σ S=>∃r:Sy,σ=[some s.d,some r.d]/\r.base=s.base/\m=r.deep) _ ⟨s,rfl,rfl,rfl⟩ ?_;rintro m σ S ⟨r,rfl,hb,rfl⟩;rw[<-hb]at hq;cases r with
 |left a =>
  simp only[Sy.d];nofun;exact⟨a.deep,by simp only[Sy.deep];lia,a,rfl,hb,rfl⟩
 |right a =>
  simp only[Sy.d];nofun;exact⟨a.deep,by simp only[Sy.deep];lia,a,rfl,hb,rfl⟩
 |name x =>
  simp only[Sy.d];nofun;exact hq
 |bw =>
  simp only[Sy.d];nofun;exact hq
 |pair a b =>
  simp only[Sy.d];nofun;exact hq
 |fork a b c =>
  simp only[Sy.d];nofun;exact hq
 |send x as =>
  simp only[Sy.d];nofun;exact hq
inductive Ue (ds:List D)(q:D->Prop):Prop where
 |mk (p:Str) (s:Sy) (k:List Str) (_:ds=[.str p,s.d,.tup (k.map D.str)]) (_:q (.int (aT p s k)))
def FX :aW:=vS Ue
theorem Ug{k:Nat}(h:aC K mg "told_number" nv ["param","saying","known"])(G:Gs K mg)(xE:av P w K mg base k "path_parameter" ["saying"] xD) :
 av P w K mg base (k+1) "told_number" ["param","saying","known"] FX:=by
 refine h.val Tx (by rintro ds q ⟨_,_,_,e,_⟩;rw[e];rfl) λf cdv A outer s0 H E ds q hr hA=>?_;obtain⟨p,s,kn,rfl,hq⟩:=hA;refine⟨_,(au (cE (dH.pt (w_and (bq mr sv (aB aH aI (aa 1) aj (λ_ _=>rfl)) bb (bp _)) (kR (bq mr RD (aR xE hr rfl (ae (aa 1) ai)) (aa 0) (bp _))))) (aA (bc aj)) bZ)
 (au (cE (dH.pt (w_or (bq cz fu (aB aH aI (aa 1) aj (λ_ _=>rfl)) bb (bp _)) (sf (bq A9 j' (aa 0) (aa 2) (by with_unfolding_all rfl))))) (aA (bc aj)) bZ)
 (aA (bc aj)))),?_⟩
 by_cases hk:p∈kn
 ·cases s with
  |bw =>
   simp only[Sy.d];nofun;simpa[aT,hk]using hq
  |name x =>
   by_cases hs:Sy.base (.name x)=some p
   ·simp only[Sy.d];nofun;refine⟨(.name x),rfl,?_⟩;nofun;have hs':=hs;simp only[Sy.base,jJ]at hs';simpa[aT,hs']using hq
   ·simp only[Sy.d];nofun;refine⟨(.name x),rfl,?_⟩;nofun;have hs':=hs;simp only[Sy.base,jJ]at hs';simpa[aT,hs']using hq
  |pair a b =>
   by_cases hs:Sy.base (.pair a b)=some p
   ·simp only[Sy.d];nofun;refine⟨(.pair a b),rfl,?_⟩;nofun;simpa[aT,hs,hk]using hq
   ·simp only[Sy.d];nofun;refine⟨(.pair a b),rfl,?_⟩;nofun;simpa[aT,hs,hk]using hq
  |left a =>
   by_cases hs:Sy.base (.left a)=some p
   ·simp only[Sy.d];nofun;refine⟨(.left a),rfl,?_⟩;nofun;simpa[aT,hs,hk]using hq
   ·simp only[Sy.d];nofun;refine⟨(.left a),rfl,?_⟩;nofun;simpa[aT,hs,hk]using hq
  |right a =>
   by_cases hs:Sy.base (.right a)=some p
   ·simp only[Sy.d];nofun;refine⟨(.right a),rfl,?_⟩;nofun;simpa[aT,hs,hk]using hq
   ·simp only[Sy.d];nofun;refine⟨(.right a),rfl,?_⟩;nofun;simpa[aT,hs,hk]using hq
  |fork a b c =>
   by_cases hs:Sy.base (.fork a b c)=some p
   ·simp only[Sy.d];nofun;refine⟨(.fork a b c),rfl,?_⟩;nofun;simpa[aT,hs,hk]using hq
   ·simp only[Sy.d];nofun;refine⟨(.fork a b c),rfl,?_⟩;nofun;simpa[aT,hs,hk]using hq
  |send x as =>
   by_cases hs:Sy.base (.send x as)=some p
   ·simp only[Sy.d];nofun;refine⟨(.send x as),rfl,?_⟩;nofun;simpa[aT,hs,hk]using hq
   ·simp only[Sy.d];nofun;refine⟨(.send x as),rfl,?_⟩;nofun;simpa[aT,hs,hk]using hq
 ·cases s with
  |bw =>
   simp only[Sy.d];nofun;simpa[aT,hk]using hq
  |name x =>
   by_cases hs:Sy.base (.name x)=some p
   ·simp only[Sy.d];nofun;refine⟨(.name x),rfl,?_⟩;nofun;have hs':=hs;simp only[Sy.base,jJ]at hs';simpa[aT,hs']using hq
   ·simp only[Sy.d];nofun;refine⟨(.name x),rfl,?_⟩;nofun;have hs':=hs;simp only[Sy.base,jJ]at hs';simpa[aT,hs']using hq
  |pair a b =>
   by_cases hs:Sy.base (.pair a b)=some p
   ·simp only[Sy.d];nofun;refine⟨(.pair a b),rfl,?_⟩;nofun;simpa[aT,hs,hk]using hq
   ·simp only[Sy.d];nofun;refine⟨(.pair a b),rfl,?_⟩;nofun;simpa[aT,hs,hk]using hq
  |left a =>
   by_cases hs:Sy.base (.left a)=some p
   ·simp only[Sy.d];nofun;refine⟨(.left a),rfl,?_⟩;nofun;simpa[aT,hs,hk]using hq
   ·simp only[Sy.d];nofun;refine⟨(.left a),rfl,?_⟩;nofun;simpa[aT,hs,hk]using hq
  |right a =>
   by_cases hs:Sy.base (.right a)=some p
   ·simp only[Sy.d];nofun;refine⟨(.right a),rfl,?_⟩;nofun;simpa[aT,hs,hk]using hq
   ·simp only[Sy.d];nofun;refine⟨(.right a),rfl,?_⟩;nofun;simpa[aT,hs,hk]using hq
  |fork a b c =>
   by_cases hs:Sy.base (.fork a b c)=some p
   ·simp only[Sy.d];nofun;refine⟨(.fork a b c),rfl,?_⟩;nofun;simpa[aT,hs,hk]using hq
   ·simp only[Sy.d];nofun;refine⟨(.fork a b c),rfl,?_⟩;nofun;simpa[aT,hs,hk]using hq
  |send x as =>
   by_cases hs:Sy.base (.send x as)=some p
   ·simp only[Sy.d];nofun;refine⟨(.send x as),rfl,?_⟩;nofun;simpa[aT,hs,hk]using hq
   ·simp only[Sy.d];nofun;refine⟨(.send x as),rfl,?_⟩;nofun;simpa[aT,hs,hk]using hq
inductive Uh (ds:List D)(q:D->Prop):Prop where
 |mk (p:Str) (as:List Sy) (k:List Str) (_:ds=[.str p,.tup (as.map Sy.d),.tup (k.map D.str)]) (_:as.length<=1000) (_:q (bh (as.map λa=>aT p a k)))
def FY :aW:=vS Uh
theorem Ui{k:Nat}(h:aC K mg "told_row" lr ["param","sayings","known"])(G:Gs K mg)(Uj:av P w K mg base k "told_number" ["param","saying","known"] FX) :
 av P w K mg base (k+1) "told_row" ["param","sayings","known"] FY:=by
 refine h.val Tw (by rintro ds q ⟨_,_,_,e,_⟩;rw[e];rfl) λf cdv A outer s0 H E ds q hr hA=>?_;obtain⟨p,as,kn,rfl,hl,hq⟩:=hA;refine⟨_,(aA (bc (ft gn gy rfl G.tuple gG (ae (jt (bE:=aq lr) (N:=["param","sayings","known"]) (M:=["param","known"]) (js:=[0,2]) ⟨rfl,by cbv,by cbv,by cbv,by cbv,by cbv⟩ (by cbv) (by cbv) rfl (j_ (aa 1)) (λ_ _ _ _ _=>dR) (λ_ _ _ _ _=>(aR Uj hr rfl (ae (aa 1) (ae (aa 0) (ae (aa 2) ai)))))) ai)))),?_⟩;nofun;refine fO (λi=>.int (aT p (as.getD i .bw) kn)) (by rw[ay];lia) trivial ?_ ?_
 ·intro i d hd P hP;rw[aJ]at hd;obtain⟨a,ha,rfl⟩:=b9.mp hd;rw[bu,ha]at hP;nofun;exact⟨p,a,kn,rfl,hP⟩
 have el:((aN (as.map Sy.d).length).map λi=>D.int (aT p (as.getD i .bw) kn))=(as.map λa=>aT p a kn).map D.int:=by
  rw[ay,dq];apply fj;intro i;rw[aJ,aJ];by_cases hi:i<as.length
  ·rw[fB hi,aX hi];simp[bu,hi]
  ·rw[b_ (by simpa using hi),b_ (by lia)];rfl
 rw[el];intro p1 hp1;nofun;exact hq
inductive Uk (ds:List D)(q:List D->Prop):Prop where
 |mk (s:Sy) (k:List Str) (_:ds=[s.d,.tup (k.map D.str)]) (_:k.length<=1000) (_:s.parts.length<=1000) (_:q ((s.pp Sy.bases k).map bK))
def FZ :aW:=mQ Uk
theorem Ul{k:Nat}(h:aC K mg "placed_parts" lq ["saying","known"])(G:Gs K mg)(xF:av P w K mg base k "parts" ["saying"] xC)(xE:av P w K mg base k "path_parameter" ["saying"] xD) :
 av P w K mg base (k+1) "placed_parts" ["saying","known"] FZ:=by
 refine h.lst xq (by rintro ds q ⟨_,_,e,_⟩;rw[e];rfl) λf cdv A outer s0 H E ds q hr hA=>?_;obtain⟨s,kn,rfl,hk,hp,hq⟩:=hA;refine⟨_,(au (cE (bq mr sv (aB aH aI (aa 0) aj (λ_ _=>rfl)) bb (bp _)) (aA (bc (jt (bE:=aq lq) (N:=["saying","known","param","inner"]) (M:=["known"]) (js:=[1]) ⟨rfl,by cbv,by cbv,by cbv,by cbv,by cbv⟩ (by cbv) (by cbv) rfl (j_ (aR xF hr rfl (ae (aa 0) ai))) (λ_ _ _ _ _=>dR) (λ_ _ _ _ _=>(bD (ae (aa 0) (ae (aa 1) ai))))))) bZ)
 (au (aO (i:=2) xq.nd rfl (Or.inl rfl) (aR xE hr rfl (ae (aB aH aI (aa 0) aj (λ_ _=>rfl)) ai)))
 (au (aO (i:=3) xq.nd rfl (Or.inl rfl) (mH (bq LG NL (aa 2) BP (bp _)) (aa 1) (aM Eb Ee (aa 1) (bD (ae (aa 2) ai)))))
 (aA (bc (cP (ae (bD (ae (aB aH aI (aa 0) aj (λ_ _=>rfl)) (ae (aa 1) ai))) (ae (bD (ae (aB aH aI (aa 0) aj (λ_ _=>rfl)) (ae (aa 3) ai))) (ae (bD (ae (aB aH aI (aa 0) aj (λ_ _=>rfl)) (ae (aa 1) ai))) ai))))))))),?_⟩
 by_cases hf:∃a b c,s=.fork a b c
 ·obtain⟨a,b,c,rfl⟩:=hf;simp only[Sy.d];nofun;refine⟨a,rfl,?_⟩;cases hb:a.base with
  |none =>
   simp only[qc];nofun;intro p1 hp1;nofun;refine⟨p1,_,rfl,ao,?_⟩;simpa[Sy.pp,bK,Sy.bases,hb]using hq
  |some x =>
   simp only[qc];nofun;refine w6 (by rw[ay];exact dm (by simp;lia)) ?_;nofun;intro p1 hp1;nofun;refine⟨p1,_,rfl,ao,?_⟩;simpa[Sy.pp,bK,Sy.bases,hb]using hq
 ·have et:∃t r,s.d=.tup (.str t::r)/\¬t="fork":=by
   cases s<;>first|exact⟨_,_,rfl,by decide⟩|exact(hf ⟨_,_,_,rfl⟩).elim
  obtain⟨t,r,ed,ht⟩:=et;have ep:s.pp Sy.bases kn=s.parts.map λa=>(a,kn):=by
   cases s<;>first|rfl|exact(hf ⟨_,_,_,rfl⟩).elim
  have es:D.tup (.str t::r)=s.d:=ed.symm;rw[ed];nofun;refine⟨s,by rw[ed],?_⟩;nofun;refine fO (λi=>.tup [(s.parts.getD i .bw).d,.tup (kn.map D.str)]) (by rw[ay];lia) trivial ?_ ?_
  ·intro i d hd P hP;rw[aJ]at hd;obtain⟨a,ha,rfl⟩:=b9.mp hd;rw[bu,ha]at hP;nofun;exact hP
  have el:((aN (s.parts.map Sy.d).length).map λi=>D.tup [(s.parts.getD i .bw).d,.tup (kn.map D.str)])=(s.pp Sy.bases kn).map bK:=by
   rw[ay,ep,dq];apply fj;intro i;rw[aJ,aJ];by_cases hi:i<s.parts.length
   ·rw[fB hi,aX hi];simp[bu,hi,bK]
   ·rw[b_ (by simpa using hi),b_ (by lia)];rfl
  rw[el];intro p1 hp1;nofun;exact⟨p1,_,rfl,ao,hq⟩
inductive Um (ds:List D)(q:List D->Prop):Prop where
 |mk (s:Sy) (_:ds=[s.d]) (_:s.pre.length<=100000) (_:(∀p∈s.bz Sy.bases [],p.2.length<=1000/\p.1.parts.length<=1000)) (_:q (((s.bz Sy.bases []).filter λp=>p.1.nm.isSome).map bK))
def F1 :aW:=mQ Um
theorem Uo{k:Nat}(h:aC K mg "placed_sends" nr ["body"])(G:Gs K mg)(Up:av P w K mg base k "placed_parts" ["saying","known"] FZ) :
 av P w K mg base (k+1) "placed_sends" ["body"] F1:=by
 refine h.lst qq (by rintro ds q ⟨s,e,_⟩;rw[e];rfl) λf cdv A outer s0 H E ds q hr hA=>?_;obtain⟨s,rfl,hz,hk,hq⟩:=hA;refine⟨_,(au (aO (i:=1) qq.nd rfl (Or.inl rfl) (cP ai))
 (au (aO (i:=2) qq.nd rfl (Or.inl rfl) (cP (ae (bD (ae (aa 0) (ae (bD ai) ai))) ai)))
 (au (kU dg (sg (aa 2) (λ_=>rfl)) (au (aO (i:=3) qq.nd rfl (Or.inl rfl) (sh c9 ma q_ r8 sD (aa 2)))
 (au (cE (bq cz fu (aB aH aI (aB aH aI (aa 3) aj (λ_ _=>rfl)) aj (λ_ _=>rfl)) bb (bp _)) (aA (de (dz c9 eC eS dZ eM (aa 1) (ae (aa 3) ai)))) bZ)
 (aA (dk dg rfl (D7 rfl G.xy (ae (aR Up hr rfl (ae (aB aH aI (aa 3) aj (λ_ _=>rfl)) (ae (aB aH aI (aa 3) aj (λ_ _=>rfl)) ai))) ai)) (cA (i:=4) qq.nd rfl (Or.inl rfl)) (aA (de (dz c9 eC eS dZ eM (aa 2) (ae (aa 4) ai)))))))))
 (aA (bc (aa 1)))))),?_⟩
 have hz':(s.bz Sy.bases []).length<=100000:=by
  have:=congrArg kI (Sy.fM Sy.bases s []);rw[ay]at this;lia
 nofun;intro pf hpf;nofun;intro pe hpe;have hne:pf≠pe:=ne3 ao hpe;nofun;refine kY (λm σ S=>jC λ(fs ps:List (Sy×List Str)) (x3 x4:Option D)=>σ=[some s.d,some (.ref pf),some (.ref pe),x3,x4]/\S pf=some (.lst ((fs.filter λp=>p.1.nm.isSome).map bK))/\S pe=some (.lst (ps.map bK))/\fs++cY Sy.bases ps.reverse=s.bz Sy.bases []/\m=(cY Sy.bases ps.reverse).length)
  _ ⟨[],[(s,[])],none,none,rfl,aL ao hpe,ao,by simp[cY],rfl⟩ ?_
 rintro m σ S ⟨fs,ps,x3,x4,rfl,hf,he,hfs,rfl⟩;nofun;rcases snoc_cases ps with rfl|⟨ps',s',rfl⟩
 ·refine pj ?_;nofun;refine⟨pf,_,rfl,hf,?_⟩;have e:fs=s.bz Sy.bases []:=by simpa[cY]using hfs
  rw[e];exact hq
 ·have eb:(!((ps'++[s']).map bK).isEmpty)=true:=by simp
  rw[eb];refine my ?_;have hlen:=congrArg kI hfs;rw[a5]at hlen;have er:(ps'++[s']).reverse=s'::ps'.reverse:=by simp
  rw[er,w8,m8]at hfs hlen;simp only[a5,bW]at hlen;have hmem:s'∈s.bz Sy.bases []:=by
   rw[<-hfs];simp
  obtain⟨k1,k2⟩:=hk s' hmem;have hfl:(fs.filter λp=>p.1.nm.isSome).length<=fs.length:=Ab _ _;have he':S pe=some (.lst (ps'.map bK++[bK s'])):=by rw[he];simp
  obtain⟨s1,kn⟩:=s';dsimp only at hlen hfs k1 k2;have et:∃t r,s1.d=.tup (.str t::r)/\(s1.nm.isSome=true->t="send")/\(s1.nm.isSome=false->¬t="send"):=by
   cases s1<;>exact⟨_,_,rfl,λz=>by first|rfl|(simp[Sy.nm]at z),λz=>by first|decide|(simp[Sy.nm]at z)⟩
  obtain⟨t,r,ed,ht1,eU⟩:=et;nofun;refine sJ he' ?_;have ev:bK (s1,kn)=.tup [.tup (.str t::r),.tup (kn.map D.str)]:=by unfold bK;rw[ed]
  rw[ev];have hf1:up S pe (.lst (ps'.map bK)) pf=some (.lst ((fs.filter λp=>p.1.nm.isSome).map bK)):=by rw[bH hne];exact hf
  have F3:up S pe (.lst (ps'.map bK)) pe=some (.lst (ps'.map bK)):=ao;have done:∀(S3:af) (x4:Option D),S3 pf=some (.lst (((fs++[(s1,kn)]).filter λp=>p.1.nm.isSome).map bK))->S3 pe=some (.lst ((ps'++(s1.pp Sy.bases kn).reverse).map bK)) ->
   ∃m',m'<(cY Sy.bases (ps'++[(s1,kn)]).reverse).length/\jC λ(fs ps:List (Sy×List Str)) (x3 Uq:Option D)=>[some s.d,some (.ref pf),some (.ref pe),some (.tup [.tup (.str t::r),.tup (kn.map D.str)]),x4]=[some s.d,some (D.ref pf),some (.ref pe),x3,Uq] /\
    S3 pf=some (.lst ((fs.filter λp=>p.1.nm.isSome).map bK))/\S3 pe=some (.lst (ps.map bK))/\fs++cY Sy.bases ps.reverse=s.bz Sy.bases []/\m'=(cY Sy.bases ps.reverse).length:=λS3 x4 g1 g2=>by
   refine⟨_,?_,fs++[(s1,kn)],ps'++(s1.pp Sy.bases kn).reverse,_,_,rfl,g1,g2,?_,rfl⟩
   ·rw[er,w8,m8];simp only[JL,JM,tP,a5,bW];lia
   ·rw[<-hfs];simp[tP]
  have hpl:(s1.pp Sy.bases kn).length<=(cY Sy.bases (s1.pp Sy.bases kn)).length:=w9 _ _;have hpl':ps'.length<=(cY Sy.bases ps'.reverse).length:=by
   have:=w9 Sy.bases ps'.reverse;simpa using this
  have el:(((s1.pp Sy.bases kn).map bK).reverse).length=(s1.pp Sy.bases kn).length:=by simp
  cases hnm:s1.nm.isSome;have e1:=eU hnm;nofun;have g1:up S pe (.lst (ps'.map bK)) pf=some (.lst (((fs++[(s1,kn)]).filter λp=>p.1.nm.isSome).map bK)):=by
   rw[hf1];simp[oB,hnm]
  have g2:=F3;generalize up S pe (.lst (ps'.map bK))=S2 at g1 g2 ⊢
  rotate_left
  have e1:=ht1 hnm;subst e1;nofun;refine ee hf1 (by rw[ay];exact fc (by lia)) ?_;have g1:up (up S pe (.lst (ps'.map bK))) pf (.lst (((fs.filter λp=>p.1.nm.isSome).map bK)++[.tup [.tup (.str "send"::r),.tup (kn.map D.str)]])) pf=some (.lst (((fs++[(s1,kn)]).filter λp=>p.1.nm.isSome).map bK)):=by
   rw[ao];simp[oB,hnm,bK,ed]
  have g2:up (up S pe (.lst (ps'.map bK))) pf (.lst (((fs.filter λp=>p.1.nm.isSome).map bK)++[.tup [.tup (.str "send"::r),.tup (kn.map D.str)]])) pe=some (.lst (ps'.map bK)):=by
   rw[bH (dn hne)];exact F3
  generalize up (up S pe (.lst (ps'.map bK))) pf (.lst (((fs.filter λp=>p.1.nm.isSome).map bK)++[.tup [.tup (.str "send"::r),.tup (kn.map D.str)]]))=S2 at g1 g2 ⊢;nofun
  all_goals
   refine⟨s1,kn,by rw[ed],k1,k2,?_⟩;intro pl t8;have n1:pf≠pl:=ne3 g1 t8;have n2:pe≠pl:=ne3 g2 t8;nofun;refine⟨λi σ S'=>∃x4,σ=[some s.d,some (.ref pf),some (.ref pe),_,x4]/\S' pl=some (.lst ((s1.pp Sy.bases kn).map bK))/\S' pf=some (.lst (((fs++[(s1,kn)]).filter λp=>p.1.nm.isSome).map bK)) /\
    S' pe=some (.lst (ps'.map bK++(((s1.pp Sy.bases kn).map bK).reverse).take i)),⟨_,rfl,ao,aL g1 t8,by rw[aL g2 t8];simp⟩,λi σ S' ⟨_,_,g,_⟩=>g,?_,?_⟩
   ·rintro i d σ S' hd ⟨y4,rfl,h1,h2,h3⟩;have hi:=(cT.mp hd).1;rw[el]at hi;nofun;refine ee h3 ?_ ?_
    ·rw[a5,c8,ay,el];exact fc (by lia)
    refine⟨_,rfl,by rw[bH (dn n2)];exact h1,by rw[bH hne];exact h2,?_⟩;rw[ao,ij,hd,uY];rfl
   ·rintro σ S' ⟨y4,rfl,h1,h2,h3⟩;refine done S' _ h2 ?_;rw[h3,jL (aQ _),b6,JN]
def xG(e:Er):Prop:=e.body.pre.length<=100000/\(∀p∈e.body.bz Sy.bases [],p.2.length<=1000/\p.1.parts.length<=1000)/\e.ps.length<=1000
inductive Ur (ds:List D)(S:af)(q:List D->Prop):Prop where
 |mk (a:Addr) (prog:List Er) (_:ds=[.ref a]) (_:S a=some (.lst (prog.map Er.d))) (_:(∀e∈prog,xG e)) (_:(cQ aT Sy.bases prog).length<=100000) (_:q ((cQ aT Sy.bases prog).map ax))
def xH :aW:=iE Ur
theorem F4{told:Str->Sy->List Str->Int}{ext:Sy->List Str}{prog:List Er}{i:Nat}{e:Er}(he:prog[i]?=some e):cQ told ext (prog.take (i+1))=cQ told ext (prog.take i)++((e.body.bz ext []).map (bV told e)).flatten:=by
 have htk:prog.take (i+1)=prog.take i++[e]:=by rw[ij,he];rfl
 rw[htk];simp[cQ]
theorem F5{told:Str->Sy->List Str->Int}{ext:Sy->List Str}{prog:List Er}(i:Nat):(cQ told ext (prog.take i)).length<=(cQ told ext prog).length:=by
 conv=>rhs;rw[<-ow i prog]
 simp only[cQ,b6,Af,a5];lia
theorem F6{told:Str->Sy->List Str->Int}{e:Er}:∀l:List (Sy×List Str),((l.filter λp=>p.1.nm.isSome).map (bV told e)).flatten=(l.map (bV told e)).flatten
 |[]=>rfl
 |(s,k)::l=>by
  have ih:=F6 (told:=told) (e:=e) l;cases s with
  |send x as =>
   have e1:(((Sy.send x as,k):Sy×List Str)::l).filter (λp=>p.1.nm.isSome)=(Sy.send x as,k)::l.filter λp=>p.1.nm.isSome:=rfl;rw[e1,ba,kK,ba,kK,ih]
  |name x=>exact ih
  |bw=>exact ih
  |pair _ _=>exact ih
  |left _=>exact ih
  |right _=>exact ih
  |fork _ _ _=>exact ih
theorem Us{k:Nat}(h:aC K mg "graphs" lp ["program"])(G:Gs K mg)(Ut:av P w K mg base k "placed_sends" ["body"] F1)(C0:av P w K mg base k "told_row" ["param","sayings","known"] FY) :
 av P w K mg base (k+1) "graphs" ["program"] xH:=by
 have Uu:=C0;refine h.iE nq (by rintro ds S q ⟨_,_,e,_⟩;rw[e];rfl) λf cdv A outer s0 H E ds S q hr hA=>?_;obtain⟨pr,prog,rfl,hS,hok,hz,hq⟩:=hA;refine⟨_,(au (aO (i:=1) nq.nd rfl (Or.inl rfl) (cP ai))
 (au (dk dg rfl (eL (aa 0)) (cA (i:=2) nq.nd rfl (Or.inl rfl)) (aA (dk dg rfl (eL (aR Ut hr rfl (ae (aB aH aI (aa 2) aj (λ_ _=>rfl)) ai))) (cA (i:=3) nq.nd rfl (Or.inr rfl)) (au (aO (i:=4) nq.nd rfl (Or.inr rfl) (aB aH aI (aa 3) aj (λ_ _=>rfl)))
 (au (ju (i:=5) (bE:=aq lp) (N:=["program","found","errand","placed","send","rows"]) (M:=["send","placed"]) (js:=[4,3]) ⟨rfl,by cbv,by cbv,by cbv,by cbv,by cbv⟩ (by cbv) (by cbv) rfl (j_ (aB aH aI (aa 2) aj (λ_ _=>rfl))) (λ_ _ _ _ _=>dR) (λ_ _ _ _ _=>(aR Uu hr rfl (ae (aa 0) (ae (aB aH aI (aa 1) aj (λ_ _=>rfl)) (ae (aB aH aI (aa 2) aj (λ_ _=>rfl)) ai))))) nq.nd rfl rfl)
 (aA (de (dz c9 eC eS dZ eM (aa 1) (ae (bD (ae (aB aH aI (aa 2) aj (λ_ _=>rfl)) (ae (aB aH aI (aa 4) aj (λ_ _=>rfl)) (ae (ft gn gy rfl G.tuple gG (ae (aa 5) ai)) ai)))) ai)))))))))
 (aA (bc (aa 1))))),?_⟩
 nofun;intro pf hpf;have hne:pr≠pf:=ne3 hS hpf;have hS1:=aL (o:=.lst []) hS hpf;nofun;refine⟨λi σ S'=>jC λx2 x3 x4 x5=>σ=[some (.ref pr),some (.ref pf),x2,x3,x4,x5]/\Sub S S'/\S' pf=some (.lst ((cQ aT Sy.bases (prog.take i)).map ax)),⟨none,none,none,none,rfl,(Sub.refl S).up hpf,by rw[ao];rfl⟩,
  λi σ S' ⟨x2,x3,x4,x5,_,h1,_⟩=>h1 _ _ hS,?_,?_⟩
 ·rintro i d σ S' hd ⟨x2,x3,x4,x5,rfl,h1,h2⟩;rw[aJ]at hd;obtain⟨e,he,rfl⟩:=b9.mp hd;have qu:e∈prog:=cU he;obtain⟨o1,o2,o3⟩:=hok e qu;have hsn:=F4 (told:=aT) (ext:=Sy.bases) he;have hbd:=F5 (told:=aT) (ext:=Sy.bases) (prog:=prog) (i+1);rw[hsn,a5]at hbd;unfold Er.d;nofun;refine⟨e.body,rfl,o1,o2,?_⟩;intro pl hpl;have xI:pf≠pl:=ne3 h2 hpl;obtain⟨L,hL⟩:∃L,L=(e.body.bz Sy.bases []).filter λp=>p.1.nm.isSome:=⟨_,rfl⟩;rw[<-hL];have hLf:(L.map (bV aT e)).flatten=((e.body.bz Sy.bases []).map (bV aT e)).flatten:=by rw[hL];exact F6 _
  nofun;refine⟨λj σ S2=>nN λx3 x4 x5=>σ=[some (.ref pr),some (.ref pf),some e.d,x3,x4,x5]/\Sub S S2/\S2 pl=some (.lst (L.map bK))/\S2 pf=some (.lst ((cQ aT Sy.bases (prog.take i)++((L.take j).map (bV aT e)).flatten).map ax)),
   ⟨_,_,_,rfl,h1.up hpl,ao,by rw[aL h2 hpl];simp⟩,λj σ S2 ⟨_,_,_,_,_,g,_⟩=>g,?_,?_⟩
  ·rintro j d σ S2 hd ⟨y3,y4,y5,rfl,g1,g2,g3⟩;rw[aJ]at hd;obtain⟨⟨a,kn⟩,ha,rfl⟩:=b9.mp hd;have haL:(a,kn)∈L:=cU ha;rw[hL,lX]at haL;obtain⟨p1,p2⟩:=o2 _ haL.1;have jD:L.take (j+1)=L.take j++[(a,kn)]:=by rw[ij,ha];rfl
   have qv:((L.take j).map (bV aT e)).flatten.length<=(((e.body.bz Sy.bases []).map (bV aT e)).flatten).length:=by
    rw[<-hLf]
    conv=>rhs;rw[<-ow j L]
    simp only[b6,Af,a5];lia
   cases a with
   |send x as =>
    have F7:as.length<=1000:=p2;unfold bK Er.d;simp only[Sy.d,Sy.k_];nofun;refine fO (λi=>bh (as.map λa=>aT (e.ps.getD i "") a kn)) (by rw[ay];lia) trivial ?_ ?_
    ·intro i d hd P hP;rw[aJ]at hd;obtain⟨p,hp,rfl⟩:=b9.mp hd;rw[bu,hp]at hP;nofun;exact⟨p,as,kn,rfl,F7,hP⟩
    have el:((aN (e.ps.map D.str).length).map λi=>bh (as.map λa=>aT (e.ps.getD i "") a kn))=(e.ps.map λp=>as.map λa=>aT p a kn).map bh:=by
     rw[ay,dq];apply fj;intro i;rw[aJ,aJ];by_cases hi:i<e.ps.length
     ·rw[fB hi,aX hi];simp[bu,hi]
     ·rw[b_ (by simpa using hi),b_ (by lia)];rfl
    rw[el];intro p3 hp3;have g4:=aL (o:=.lst ((e.ps.map λp=>as.map λa=>aT p a kn).map bh)) g3 hp3;have n3:pf≠p3:=ne3 g3 hp3;nofun;refine ee g4 (by rw[ay,a5];exact fc (by lia)) ?_;refine⟨_,_,_,rfl,?_,?_,?_⟩
    ·intro b o hb;rw[bH]
     ·exact(g1.up hp3) b o hb
     ·rintro rfl;rw[hpf]at hb;cases hb
    ·rw[bH (dn xI)];exact aL g2 hp3
    ·rw[ao,jD];simp[bV,ax,cL,fL]
   |name x=>simp[Sy.nm]at haL
   |bw=>simp[Sy.nm]at haL
   |pair _ _=>simp[Sy.nm]at haL
   |left _=>simp[Sy.nm]at haL
   |right _=>simp[Sy.nm]at haL
   |fork _ _ _=>simp[Sy.nm]at haL
  ·rintro σ S2 ⟨y3,y4,y5,rfl,g1,g2,g3⟩;refine⟨_,_,_,_,rfl,g1,?_⟩;rw[g3,ay,ic,hsn,hLf]
 ·rintro σ S' ⟨x2,x3,x4,x5,rfl,h1,h2⟩;rw[ay,ic]at h2;nofun;exact⟨pf,_,rfl,hpf,h1,h2,hq⟩
inductive Uv (ds:List D)(q:List D->Prop):Prop where
 |mk (s:Sy) (_:ds=[s.d]) (_:s.pre.length<=100000) (_:q (s.pre.map Sy.d))
def F8 :aW:=mQ Uv
theorem Uw{k:Nat}(h:aC K mg "in_order" ni ["body"])(G:Gs K mg)(xF:av P w K mg base k "parts" ["saying"] xC):av P w K mg base (k+1) "in_order" ["body"] F8:=by
 refine h.lst qp (by rintro ds q ⟨s,e,_⟩;rw[e];rfl) λf cdv A outer s0 H E ds q hr hA=>?_;obtain⟨s,rfl,hz,hq⟩:=hA;refine⟨_,(au (aO (i:=1) qp.nd rfl (Or.inl rfl) (cP ai))
 (au (aO (i:=2) qp.nd rfl (Or.inl rfl) (cP (ae (aa 0) ai)))
 (au (kU dg (sg (aa 2) (λ_=>rfl)) (au (aO (i:=3) qp.nd rfl (Or.inl rfl) (sh c9 ma q_ r8 sD (aa 2)))
 (au (de (dz c9 eC eS dZ eM (aa 1) (ae (aa 3) ai)))
 (aA (dk dg rfl (NB rfl G.xy (ae (aR xF hr rfl (ae (aa 3) ai)) ai)) (cA (i:=4) qp.nd rfl (Or.inl rfl)) (aA (de (dz c9 eC eS dZ eM (aa 2) (ae (aa 4) ai)))))))))
 (aA (bc (aa 1)))))),?_⟩
 nofun;intro pf hpf;nofun;intro pe hpe;have hne:pf≠pe:=ne3 ao hpe;nofun;refine kY (λm σ S=>jC λ(fs ps:List Sy) (x3 x4:Option D)=>σ=[some s.d,some (.ref pf),some (.ref pe),x3,x4]/\S pf=some (.lst (fs.map Sy.d))/\S pe=some (.lst (ps.map Sy.d))/\fs++Sy.br ps.reverse=s.pre/\m=(Sy.br ps.reverse).length)
  _ ⟨[],[s],none,none,rfl,aL ao hpe,ao,by simp[Sy.br],rfl⟩ ?_
 rintro m σ S ⟨fs,ps,x3,x4,rfl,hf,he,hfs,rfl⟩;nofun;rcases snoc_cases ps with rfl|⟨ps',s',rfl⟩
 ·refine pj ?_;nofun;refine⟨pf,_,rfl,hf,?_⟩;have e:fs=s.pre:=by simpa[Sy.br]using hfs
  rw[e];exact hq
 ·have eb:(!((ps'++[s']).map Sy.d).isEmpty)=true:=by simp
  rw[eb];refine my ?_;have hlen:=congrArg kI hfs;rw[a5]at hlen;have er:(ps'++[s']).reverse=s'::ps'.reverse:=by simp
  rw[er,Sy.br,Sy.gX]at hfs hlen;simp only[a5,bW]at hlen;have he':S pe=some (.lst (ps'.map Sy.d++[s'.d])):=by rw[he];simp
  nofun;refine sJ he' ?_;nofun;have hf1:up S pe (.lst (ps'.map Sy.d)) pf=some (.lst (fs.map Sy.d)):=by rw[bH hne];exact hf
  refine we hf1 ?_;nofun;refine ee hf1 (by rw[ay];exact fc (by lia)) ?_;nofun;refine⟨s',rfl,?_⟩;nofun;refine⟨λi σ S'=>∃x4,σ=[some s.d,some (.ref pf),some (.ref pe),some s'.d,x4]/\S' pf=some (.lst ((fs++[s']).map Sy.d))/\S' pe=some (.lst (ps'.map Sy.d++((s'.parts.map Sy.d).reverse).take i)),
   ⟨x4,rfl,by rw[ao];simp,?_⟩,λ_ _ _ _=>trivial,?_,?_⟩
  ·rw[bH (dn hne),ao];simp
  ·rintro i d σ S' hd ⟨y4,rfl,g1,g2⟩;have hi:=(cT.mp hd).1;rw[oo,ay]at hi;have hpl:s'.parts.length<=(Sy.br s'.parts).length:=by
    generalize s'.parts=l
    induction l with
    |nil=>simp
    |cons a r ih=>rw[Sy.br,Sy.gX];simp;lia
   nofun;refine ee g2 ?_ ?_
   ·rw[a5,c8,oo,ay,ay];have:ps'.length<=(Sy.br ps'.reverse).length:=by
     have:∀l:List Sy,l.length<=(Sy.br l).length:=λl=>by
      induction l with
      |nil=>simp
      |cons a r ih=>rw[Sy.br,Sy.gX];simp;lia
     have:=this ps'.reverse;simpa using this
    exact fc (by lia)
   refine⟨_,rfl,by rw[bH hne];exact g1,?_⟩;rw[ao,ij,hd,uY];rfl
  ·rintro σ S' ⟨y4,rfl,g1,g2⟩;refine⟨_,?_,fs++[s'],ps'++s'.parts.reverse,_,_,rfl,g1,?_,?_,rfl⟩
   ·simp only[JL,JM,List.reverse_cons,List.reverse_nil,JA,List.singleton_append,Sy.wI,Sy.br,Sy.gX s',a5,bW,dN];lia
   ·rw[g2,jL (by simp),b6,JN]
   ·rw[<-hfs];simp[Sy.wI]
inductive Ux (ds:List D)(S:af)(q:List D->Prop):Prop where
 |mk (pr:Addr) (prog:List Er) (_:ds=[.ref pr]) (_:S pr=some (.lst (prog.map Er.d))) (_:prog.length<=100) (_:(∀e∈prog,e.body.pre.length<=20000)) (_:(bQ prog).length<=100000) (_:q ((bQ prog).map gB))
def F9 :aW:=iE Ux
theorem Uy{k:Nat}(h:aC K mg "sends" nh ["program"])(G:Gs K mg)(xJ:av P w K mg base k "in_order" ["body"] F8):av P w K mg base (k+1) "sends" ["program"] F9:=by
 refine h.iE t5 (by rintro ds S q ⟨pr,prog,e,_⟩;rw[e];rfl) λf cdv A outer s0 H E ds S q hr hA=>?_;obtain⟨pr,prog,rfl,hS,hl,hz,hs,hq⟩:=hA;refine⟨_,(au (aO (i:=1) t5.nd rfl (Or.inl rfl) (cP ai))
 (au (dk dg rfl (eL (aa 0)) (cA (i:=2) t5.nd rfl (Or.inl rfl)) (aA (dk dg rfl (eL (aR xJ hr rfl (ae (aB aH aI (aa 2) aj (λ_ _=>rfl)) ai))) (cA (i:=3) t5.nd rfl (Or.inl rfl)) (aA (cE (bq cz fu (aB aH aI (aa 3) aj (λ_ _=>rfl)) bb (bp _)) (aA (de (dz c9 eC eS dZ eM (aa 1) (ae (bD (ae (aB aH aI (aa 2) aj (λ_ _=>rfl)) (ae (aB aH aI (aa 3) aj (λ_ _=>rfl)) ai))) ai)))) bZ)))))
 (aA (bc (aa 1))))),?_⟩
 nofun;intro pf hpf;have hne:pr≠pf:=ne3 hS hpf;have hS1:=aL (o:=.lst []) hS hpf;nofun;refine⟨λi σ S'=>jB λx2 x3=>σ=[some (.ref pr),some (.ref pf),x2,x3]/\Sub S S'/\S' pf=some (.lst ((bQ (prog.take i)).map gB)),⟨none,none,rfl,(Sub.refl S).up hpf,by rw[ao];rfl⟩,
  λi σ S' ⟨x2,x3,_,h1,_⟩=>h1 _ _ hS,?_,?_⟩
 ·rintro i d σ S' hd ⟨x2,x3,rfl,h1,h2⟩;rw[aJ]at hd;obtain⟨e,he⟩:∃e,prog[i]?=some e:=by
   cases c:prog[i]? with
   |none=>rw[c]at hd;cases hd
   |some e=>exact⟨e,rfl⟩
  rw[he]at hd;cases hd;have qu:e∈prog:=cU he;have htk:prog.take (i+1)=prog.take i++[e]:=by rw[ij,he];rfl
  have hso:bQ (prog.take (i+1))=bQ (prog.take i)++e.body.kg.map λto=>(e.name,to):=by rw[htk];simp[bQ]
  have hbd:(bQ (prog.take (i+1))).length<=(bQ prog).length:=by
   rw[DA,DA]
   conv=>rhs;rw[<-ow (i+1) prog,b6,List.sum_append]
   lia
  unfold Er.d;nofun;refine⟨e.body,rfl,by have:=hz e qu;lia,?_⟩;intro pl hpl;nofun;refine⟨λj σ S2=>∃x3,σ=[some (.ref pr),some (.ref pf),some e.d,x3]/\Sub S S2/\S2 pl=some (.lst (e.body.pre.map Sy.d))/\S2 pf=some (.lst ((bQ (prog.take i)++((e.body.pre.take j).filterMap Sy.nm).map λto=>(e.name,to)).map gB)),
   ⟨_,rfl,h1.up hpl,ao,by rw[aL h2 hpl];simp⟩,λj σ S2 ⟨_,_,_,g,_⟩=>g,?_,?_⟩
  ·rintro j d σ S2 hd ⟨y3,rfl,g1,g2,g3⟩;rw[aJ]at hd;obtain⟨a,ha⟩:∃a,e.body.pre[j]?=some a:=by
    cases c:e.body.pre[j]? with
    |none=>rw[c]at hd;cases hd
    |some a=>exact⟨a,rfl⟩
   rw[ha]at hd;cases hd;have xI:pl≠pf:=(ne3 h2 hpl).symm;have jD:e.body.pre.take (j+1)=e.body.pre.take j++[a]:=by rw[ij,ha];rfl
   have qv:(bQ (prog.take i)++((e.body.pre.take j).filterMap Sy.nm).map λto=>(e.name,to)).length<=100000:=by
    have:((e.body.pre.take j).filterMap Sy.nm).length<=e.body.kg.length:=by
     unfold Sy.kg
     conv=>rhs;rw[<-ow j e.body.pre,mf,a5]
     lia
    rw[hso,a5,ay]at hbd;rw[a5,ay];lia
   cases a with
   |send x as =>
    simp only[Sy.d];unfold Er.d;nofun;refine ee g3 (by rw[ay];exact fc (by lia)) ?_;refine⟨_,rfl,?_,by rw[bH xI];exact g2,?_⟩
    ·intro b o hb;rw[bH]
     ·exact g1 b o hb
     ·rintro rfl;rw[hpf]at hb;cases hb
    ·rw[ao,jD];simp[Sy.nm,gB]
   |name x =>
    simp only[Sy.d];nofun;exact⟨_,rfl,g1,g2,by rw[jD,mf];simpa[hV,Sy.nm]using g3⟩
   |bw =>
    simp only[Sy.d];nofun;exact⟨_,rfl,g1,g2,by rw[jD,mf];simpa[hV,Sy.nm]using g3⟩
   |pair _ _ =>
    simp only[Sy.d];nofun;exact⟨_,rfl,g1,g2,by rw[jD,mf];simpa[hV,Sy.nm]using g3⟩
   |left _ =>
    simp only[Sy.d];nofun;exact⟨_,rfl,g1,g2,by rw[jD,mf];simpa[hV,Sy.nm]using g3⟩
   |right _ =>
    simp only[Sy.d];nofun;exact⟨_,rfl,g1,g2,by rw[jD,mf];simpa[hV,Sy.nm]using g3⟩
   |fork _ _ _ =>
    simp only[Sy.d];nofun;exact⟨_,rfl,g1,g2,by rw[jD,mf];simpa[hV,Sy.nm]using g3⟩
  ·rintro σ S2 ⟨y3,rfl,g1,g2,g3⟩;refine⟨_,_,rfl,g1,?_⟩;rw[g3,ay,ic,hso];rfl
 ·rintro σ S' ⟨x2,x3,rfl,h1,h2⟩;rw[ay,ic]at h2;nofun;exact⟨pf,_,rfl,hpf,h1,h2,hq⟩
inductive Uz(adr:Rf->Addr)(ds:List D)(S:af)(q:D->Prop)(qx:Addr->Prop):Prop where
 |mk (x:Str) (a:Addr) (xs:List Str) (_:ds=[.str x,.ref a]) (_:S a=some (.lst (xs.map D.str))) (_:x.length<=100) (_:(x∈xs->q .non)) (_:(x∉xs->qx (adr .such)))
def F_(adr:Rf->Addr):aW:=sZ (Uz adr)
theorem UA{k:Nat}(h:aC K mg "refuse_missing" nk ["name","known"])(R:fb K mg ES adr):av P w K mg base (k+1) "refuse_missing" ["name","known"] (F_ adr):=by
 refine h.sZ Tv (by rintro ds S q qx ⟨x,y,_,e,_⟩;rw[e];rfl) λf cdv A outer s0 H E ds S q qx hr hA=>?_;obtain⟨x,a,xs,rfl,hS,hlen,h1,h2⟩:=hA;have hx:x.length<=sizeLine:=bR hlen (by decide);have e1:(Str.empty++("there is no ":Str)).length=12:=by cbv
 have e2:(" here":Str).length=5:=by cbv
 refine⟨_,(aA (cE (bq A9 j' (aa 0) (aa 1) (by with_unfolding_all rfl)) (aA (wq (C:=adr .such) (R.bound .such (by decide)) (R.exc (by decide)) rfl rfl (ae (Pf (wu bb (wu (Pd (aa 0)) (wu bb Pe)))) ai))) bZ)),?_⟩;nofun;refine Q4 hS ?_;by_cases c:x∈xs
 ·nofun;exact⟨Sub.refl _,h1 c⟩
 ·nofun;refine⟨by rw[e1];decide,?_⟩;nofun;refine Pk hx ?_;nofun;refine⟨by rw[rf,e1];exact bR (by lia:_<=200) (by decide),?_⟩;nofun;refine⟨by rw[rf,rf,e1,e2];exact bR (by lia:_<=200) (by decide),?_⟩;refine Pl (by rw[rf,rf,e1,e2];exact bR (by lia:_<=200) (by decide)) ?_;nofun;exact λa=>⟨Sub.refl _,h2 c⟩
inductive UB (ds:List D)(q:D->Prop):Prop where
 |mk (a b:Int) (_:ds=[.int a,.int b]) (_:q (.int (jn a b)))
def Ga :aW:=vS UB
theorem UC{k:Nat}(h:aC K mg "joined_number" nz ["one","other"])(G:Gs K mg):av P w K mg base (k+1) "joined_number" ["one","other"] Ga:=by
 refine h.val TF (by rintro ds q ⟨a,b,e,_⟩;rw[e];rfl) λf cdv A outer s0 H E ds q hr hA=>?_;obtain⟨a,b,rfl,hq⟩:=hA;unfold jn at hq;refine⟨_,(aA (bc (mH (bq mw j' aj (bD (ae (aa 0) (ae (aa 1) ai))) (by with_unfolding_all rfl)) aj (cK (LN rfl) QE rfl G.max boot_max (ae (aa 0) (ae (aa 1) ai)))))),?_⟩;nofun;rw[QP];by_cases hc:a=0∨b=0
 ·rw[if_pos hc]at hq;refine pC hc ?_;nofun;exact hq
 ·rw[if_neg hc]at hq;refine r9 hc ?_;nofun;exact hq
inductive UD (ds:List D)(q:D->Prop):Prop where
 |mk (row:List Int) (B:cf) (n p k:Nat) (_:ds=[bh row,fL B,.int k]) (_:Mt n p B) (_:row.length=n) (_:(∀x∈row,0<=x/\x<=2)) (_:0<n) (_:n<=1000) (_:k<p) (_:q (.int (dot row B k)))
def Gb :aW:=vS UD
theorem UE{k:Nat}(h:aC K mg "largest_between" lC ["row","rows","column"])(G:Gs K mg)(UG:av P w K mg base k "joined_number" ["one","other"] Ga) :
 av P w K mg base (k+1) "largest_between" ["row","rows","column"] Gb:=by
 refine h.val TC (by rintro ds q ⟨_,_,_,_,_,e,_⟩;rw[e];rfl) λf cdv A outer s0 H E ds q hr hA=>?_;obtain⟨row,B,n,p,c,rfl,hB,hl,hr',hn,hn',hc,hq⟩:=hA;refine⟨_,(aA (bc (cK (Qx rfl) QD rfl G.max boot_max (ae (FL (bE:=aq lC) (N:=["row","rows","column"]) (M:=["column"]) (js:=[2]) ⟨rfl,by cbv,by cbv,by cbv,by cbv,by cbv⟩ (by cbv) (by cbv) rfl (Qu rfl G.zip (ae (aa 0) (ae (aa 1) ai))) (λ_ _ _ _ _=>dR) (λ_ _ _ _ _=>(aR UG hr rfl (ae (aa 0) (ae (aB aH aI (aa 1) (aa 2) (λ_ _=>rfl)) ai))))) ai)))),?_⟩;unfold bh fL;nofun;have hz:(iL (row.map D.int) (B.map bh)).length=n:=by simp[iL,hl,hB.len]
 refine tK (λ_=>true) (λj=>.int (jn (row.getD j 0) (at2 B j c))) (by rw[hz];lia) trivial ?_ ?_
 ·intro j d hd;obtain⟨hj,_⟩:=cT.mp hd;rw[hz]at hj;have ed:d=.tup [.int (row.getD j 0),bh (B.getD j [])]:=by
   have h1:(row.map D.int)[j]?=some (.int (row.getD j 0)):=by rw[aJ,aX (by lia),bu,aX (by lia)];rfl
   have hjB:j<B.length:=by rw[hB.len];exact hj
   have h2:(B.map bh)[j]?=some (bh (B.getD j [])):=by rw[aJ,aX hjB,bu,aX hjB];rfl
   unfold iL at hd;have iK:((row.map D.int).zip (B.map bh))[j]?=some (D.int (row.getD j 0),bh (B.getD j [])):=Js.mpr ⟨h1,h2⟩;rw[aJ,iK]at hd;exact(dD hd).symm
  rw[ed];refine DI ⟨λP hP=>?_,λ_ P hP=>?_⟩
  ·nofun;exact hP
  ·unfold bh;have Gc:c<(B.getD j []).length:=by rw[hB.row _ (qa (by rw[hB.len];exact hj))];exact hc
   nofun;refine sL (wC (by lia) (v:=.int (at2 B j c)) ?_) ?_
   ·rw[aJ,fi,aX Gc];unfold at2;rw[bu (l:=B.getD j []),aX Gc];rfl
   nofun;exact⟨_,_,rfl,hP⟩
 rw[DH,hz];intro p1 hp1;nofun;have el:((aN n).map λj=>D.int (jn (row.getD j 0) (at2 B j c)))=((aN n).map λj=>jn (row.getD j 0) (at2 B j c)).map D.int:=by rw[dq];rfl
 rw[el];refine QG ao (λe=>?_) λM h1 h2=>?_
 ·have:=congrArg kI e;simp at this;lia
 have e:=QJ (λj _=>QL (tL hr' j).1 (hB.at j c).1) h1 h2;have e2:dot row B c=M:=by unfold dot;rw[hl];exact e.symm
 rw[e2]at hq;exact hq
inductive UH (ds:List D)(q:D->Prop):Prop where
 |mk (row:List Int) (B:cf) (n p:Nat) (_:ds=[bh row,fL B]) (_:Mt n p B) (_:row.length=n) (_:(∀x∈row,0<=x/\x<=2)) (_:0<n) (_:n<=1000) (_:p<=1000) (_:q (bh ((aN p).map λk=>dot row B k)))
def Ge :aW:=vS UH
theorem UI{k:Nat}(h:aC K mg "composed_row" lB ["row","rows"])(G:Gs K mg)(UJ:av P w K mg base k "largest_between" ["row","rows","column"] Gb) :
 av P w K mg base (k+1) "composed_row" ["row","rows"] Ge:=by
 refine h.val TB (by rintro ds q ⟨_,_,_,_,e,_⟩;rw[e];rfl) λf cdv A outer s0 H E ds q hr hA=>?_;obtain⟨row,B,n,p,rfl,hB,hl,hr',hn,hn',hp,hq⟩:=hA;have h0:(B.getD 0 []).length=p:=hB.row _ (qa (by rw[hB.len];exact hn));refine⟨_,(aA (bc (ft gn gy rfl G.tuple gG (ae (jt (bE:=aq lB) (N:=["row","rows"]) (M:=["row","rows"]) (js:=[0,1]) ⟨rfl,by cbv,by cbv,by cbv,by cbv,by cbv⟩ (by cbv) (by cbv) rfl (gQ rfl G.range (ae (cK fq fv rfl G.len eE (ae (aB aH aI (aa 1) aj (λ_ _=>rfl)) ai)) ai)) (λ_ _ _ _ _=>dR) (λ_ _ _ _ _=>(aR UJ hr rfl (ae (aa 1) (ae (aa 2) (ae (aa 0) ai)))))) ai)))),?_⟩;nofun;refine tM (k:=0) rfl (by rw[hB.len];exact hn) ?_;nofun;rw[h0];refine fO (λk=>.int (dot row B k)) (by rw[dI];lia) trivial ?_ ?_
 ·intro i d hd P hP;obtain⟨hi,rfl⟩:=fJ hd;nofun;refine⟨row,B,n,p,i,?_,hB,hl,hr',hn,hn',by lia,hP⟩;rw[Int.zero_add]
 rw[dI,fi];intro p1 hp1;nofun;have el:((aN p).map λk=>D.int (dot row B k))=((aN p).map λk=>dot row B k).map D.int:=by rw[dq];rfl
 rw[el];exact hq
inductive UK (ds:List D)(q:D->Prop):Prop where
 |mk (f t f' t':Str) (A B:cf) (_:ds=[cL f t A,cL f' t' B]) (_:q (.bl (decide (t=f'))))
def t9 :aW:=vS UK
theorem UL{k:Nat}(h:aC K mg "fit" ny ["one","other"]):av P w K mg base (k+1) "fit" ["one","other"] t9:=by
 refine h.val Tz (by rintro ds q ⟨_,_,_,_,_,_,e,_⟩;rw[e];rfl) λf cdv A outer s0 H E ds q hr hA=>?_;obtain⟨fr,t,f',t',A',B,rfl,hq⟩:=hA;refine⟨_,(aA (bc (je cz fu (aB aH aI (aa 0) aj (λ_ _=>rfl)) (aB aH aI (aa 1) aj (λ_ _=>rfl)) (bp _)))),?_⟩;unfold cL;nofun;exact hq
inductive UM(adr:Rf->Addr)(ds:List D)(q:D->Prop)(qx:Addr->Prop):Prop where
 |mk (f t f' t':Str) (A B:cf) (m n p:Nat) (_:ds=[cL f t A,cL f' t' B]) (_:m<=1000) (_:n<=1000) (_:p<=1000) (_:0<n) (_:(t=f'->Mt m n A/\Mt n p B/\q (cL f t' (gC A B)))) (_:(t≠f'->qx (adr .apart)))
def xK(adr:Rf->Addr):aW:=vX (UM adr)
theorem UN{k:Nat}(h:aC K mg "composed" lu ["one","other"])(G:Gs K mg)(R:fb K mg ES adr)(jE:av P w K mg base k "fit" ["one","other"] t9)(UO:av P w K mg base k "composed_row" ["row","rows"] Ge) :
 av P w K mg base (k+1) "composed" ["one","other"] (xK adr):=by
 refine h.O' FP (by rintro ds q qx ⟨_,_,_,_,_,_,_,_,_,e,_⟩;rw[e];rfl) λf cdv A outer s0 H E ds q qx hr hA=>?_;obtain⟨fr,t,f',t',A',B,m,n,p,rfl,hm,hn,hp,hn0,hy,hno⟩:=hA;refine⟨_,(au (cE (BW (kQ (aR jE hr rfl (ae (aa 0) (ae (aa 1) ai))))) (aA (wq (C:=adr .apart) (R.bound .apart (by decide)) (R.exc (by decide)) rfl rfl (ae bb ai))) bZ)
 (au (ju (i:=2) (bE:=aq lu) (N:=["one","other","rows"]) (M:=["other"]) (js:=[1]) ⟨rfl,by cbv,by cbv,by cbv,by cbv,by cbv⟩ (by cbv) (by cbv) rfl (j_ (aB aH aI (aa 0) aj (λ_ _=>rfl))) (λ_ _ _ _ _=>dR) (λ_ _ _ _ _=>(aR UO hr rfl (ae (aa 0) (ae (aB aH aI (aa 1) aj (λ_ _=>rfl)) ai)))) FP.nd rfl rfl)
 (aA (bc (bD (ae (aB aH aI (aa 0) aj (λ_ _=>rfl)) (ae (aB aH aI (aa 1) aj (λ_ _=>rfl)) (ae (ft gn gy rfl G.tuple gG (ae (aa 2) ai)) ai)))))))),?_⟩
 by_cases hc:t=f'
 ·obtain⟨hA,hB,hq⟩:=hy hc;nofun;refine⟨fr,t,f',t',A',B,rfl,?_⟩;nofun;unfold cL;nofun;unfold fL;nofun;refine fO (λi=>bh ((aN p).map λk=>dot (A'.getD i []) B k)) (by rw[ay,hA.len];lia) trivial ?_ ?_
  ·intro i d hd P hP;rw[aJ]at hd;obtain⟨row,hrow,rfl⟩:=b9.mp hd;have hmem:=cU hrow;have eg:A'.getD i []=row:=by rw[bu,hrow];rfl
   rw[eg]at hP;nofun;exact⟨row,B,n,p,rfl,hB,hA.row row hmem,hA.num row hmem,hn0,hn,hp,hP⟩
  have el:((aN (A'.map bh).length).map λi=>bh ((aN p).map λk=>dot (A'.getD i []) B k))=(gC A' B).map bh:=by
   unfold gC;rw[ay,hB.head hn0,dq];apply fj;intro i;rw[aJ,aJ];by_cases hi:i<A'.length
   ·rw[fB hi,aX hi];simp[bu,hi]
   ·rw[b_ (by simpa using hi),b_ (by lia)];rfl
  rw[el];intro p1 hp1;nofun;exact hq
 ·nofun;refine⟨fr,t,f',t',A',B,rfl,?_⟩;nofun;exact λa=>hno hc
inductive UP(adr:Rf->Addr)(ds:List D)(S:af)(q:D->Addr->O->Prop)(qx:Addr->Prop):Prop where
 |mk (pf:Addr) (F:CL.Fd Gr) (g:Gr) (way:List Int) (_:ds=[.ref pf,ax g,ng way]) (_:S pf=some (.lst (F.map cZ))) (_:F.length<=40) (_:(∀F',CL.putN F g way=some F'->q .non pf (.lst (F'.map cZ)))) (_:(CL.putN F g way=none->qx (adr .many)))
def Gf(adr:Rf->Addr):aW:=s_ (UP adr)
theorem sub_self{S:af}{a:Addr}{o:O}(h:S a=some o){S':af}(hs:Sub S S'):Sub (up S a o) S':=λb u e=>by
 by_cases c:b=a
 ·subst c;rw[ao]at e;cases e;exact hs _ _ h
 ·rw[bH c]at e;exact hs _ _ e
theorem UQ{k:Nat}(h:aC K mg "put_new" lH ["found","graph","way"])(G:Gs K mg)(R:fb K mg ES adr):av P w K mg base (k+1) "put_new" ["found","graph","way"] (Gf adr):=by
 refine h.s_ TK (by rintro ds S q qx ⟨_,_,_,_,e,_⟩;rw[e];rfl) λf cdv A outer s0 H E ds S q qx hr hA=>?_;obtain⟨pf,F,g,way,rfl,hS,hl,hy,hn⟩:=hA;refine⟨_,(au (cE (bq (Sg (sN hr)) Sl (aa 1) (jt (bE:=aq lH) (N:=["found","graph","way"]) (M:=[]) (js:=[]) ⟨rfl,by cbv,by cbv,by cbv,by cbv,by cbv⟩ (by cbv) (by cbv) rfl (eL (aa 0)) (λ_ _ _ _ _=>dR) (λ_ _ _ _ _=>(aB aH aI (aa 0) aj (λ_ _=>rfl)))) (by with_unfolding_all rfl)) (aA Nt) bZ)
 (au (cE (bq LD jg (cK fq fv rfl G.len eE (ae (aa 0) ai)) (Ni G.TU rfl) (bp _)) (aA (wq (C:=adr .many) (R.bound .many (by decide)) (R.exc (by decide)) rfl rfl (ae bb ai))) bZ)
 (aA (de (dz c9 eC eS dZ eM (aa 0) (ae (bD (ae (aa 1) (ae (aa 2) ai))) ai)))))),?_⟩
 nofun;refine fO (λi=>ax ((F.getD i (g,[])).1)) (by rw[ay];lia) hS ?_ ?_
 ·intro i d hd P hP;rw[aJ]at hd;obtain⟨p,hp,rfl⟩:=b9.mp hd;rw[bu,hp]at hP;unfold cZ;nofun;exact hP
 have el:((aN (F.map cZ).length).map λi=>ax ((F.getD i (g,[])).1))=(F.map bo).map ax:=by
  rw[ay,dq];apply fj;intro i;rw[aJ,aJ];by_cases hi:i<F.length
  ·rw[fB hi,aX hi];simp[bu,hi]
  ·rw[b_ (by simpa using hi),b_ (by lia)];rfl
 rw[el];intro p1 hp1;have h1:=aL (o:=.lst ((F.map bo).map ax)) hS hp1;have s1:Sub S (up S p1 (.lst ((F.map bo).map ax))):=(Sub.refl S).up hp1;have h2:up S p1 (.lst ((F.map bo).map ax)) p1=_:=ao;generalize up S p1 (.lst ((F.map bo).map ax))=S1 at h1 h2 s1 ⊢;refine Sn (by decide) h2 ?_;by_cases hm:g∈F.map bo
 ·rw[decide_eq_true hm];nofun;exact⟨pf,_,sub_self hS s1,hy F (by unfold CL.putN;rw[if_pos hm])⟩
 rw[decide_eq_false hm];have hlen:((F.map cZ).length:Int)=(F.length:Int):=by rw[ay]
 by_cases t_:40<=F.length
 ·have UR:((F.map cZ).length:Int)>=40:=by lia
  nofun;intro a;exact⟨s1,hn (by unfold CL.putN;rw[if_neg hm,if_pos t_])⟩
 ·have UR:¬((F.map cZ).length:Int)>=40:=by lia
  nofun;refine ee h1 (by rw[ay];exact fc (by lia)) ?_;have e:F.map cZ++[D.tup [ax g,ng way]]=(F++[(g,way)]).map cZ:=by simp[cZ]
  rw[e];exact⟨pf,_,Sub.upd s1,hy (F++[(g,way)]) (by unfold CL.putN;rw[if_neg hm,if_neg t_])⟩
inductive US(adr:Rf->Addr)(ds:List D)(S:af)(q:List D->Prop)(qx:Addr->Prop):Prop where
 |mk (pn:Addr) (nb:List (Int×Gr)) (ar:Str->Option Nat) (_:ds=[.ref pn]) (_:S pn=some (.lst (nb.map fw))) (_:nb.length<=1000) (_:(∀p∈nb,Gd ar p.2)) (_:(∀F,da nb=some F->q (F.map cZ))) (_:(da nb=none->qx (adr .many)))
def xM(adr:Rf->Addr):aW:=ki (US adr)
structure FG(ar:Str->Option Nat)(F:CL.Fd Gr):Prop where
 gd:∀p∈F,Gd ar p.1
 wl:∀p∈F,p.2.length<=1000
theorem FG.put{ar:Str->Option Nat}{F F':CL.Fd Gr}{g:Gr}{w:List Int}(h:FG ar F)(hg:Gd ar g)(hw:w.length<=1000)(e:CL.putN F g w=some F'):FG ar F':=by
 unfold CL.putN at e
 split at e
 ·cases e;exact h
 ·split at e
  ·cases e
  ·cases e;refine⟨λp hp=>?_,λp hp=>?_⟩
   ·rcases bI.mp hp with hp|hp
    ·exact h.gd p hp
    ·rw[b5.mp hp];exact hg
   ·rcases bI.mp hp with hp|hp
    ·exact h.wl p hp
    ·rw[b5.mp hp];exact hw
theorem Gg{α:Type}{l:List α}{j:Nat}{x:α}(h:l[j]?=some x):l.drop j=x::l.drop (j+1):=by
 obtain⟨hj,rfl⟩:=cT.mp h;exact JO hj
theorem UT{k:Nat}(h:aC K mg "closure_of" nD ["numbered"])(G:Gs K mg)(R:fb K mg ES adr)(ua:av P w K mg base k "put_new" ["found","graph","way"] (Gf adr))(jE:av P w K mg base k "fit" ["one","other"] t9)
 (nO:av P w K mg base k "composed" ["one","other"] (xK adr)):av P w K mg base (k+1) "closure_of" ["numbered"] (xM adr):=by
 refine h.ki jv (by rintro ds S q qx ⟨_,_,_,e,_⟩;rw[e];rfl) λf cdv A outer s0 H E ds S q qx hr hA=>?_;obtain⟨pn,nb,ar,rfl,hS,hnl,hgd,hy,hno⟩:=hA;refine⟨_,(au (aO (i:=1) jv.nd rfl (Or.inl rfl) (cP ai))
 (au (dk mW rfl (eL (aa 0)) (su rfl (j9 (cA (i:=2) jv.nd rfl (Or.inl rfl)) (j9 (cA (i:=3) jv.nd rfl (Or.inl rfl)) sm))) (aA (de (aR ua hr rfl (ae (aa 1) (ae (aa 3) (ae (bD (ae (aa 2) ai)) ai)))))))
 (au (aO (i:=4) jv.nd rfl (Or.inl rfl) aj)
 (au (kU mW (bq rL jg (aa 4) (cK fq fv rfl G.len eE (ae (aa 1) ai)) (bp _)) (au (aO (i:=5) jv.nd rfl (Or.inl rfl) (aB dY d9 (aa 1) (aa 4) (λ_ _=>rfl)))
 (au (dk mW rfl (eL (aa 0)) (su rfl (j9 (cA (i:=2) jv.nd rfl (Or.inl rfl)) (j9 (cA (i:=3) jv.nd rfl (Or.inl rfl)) sm))) (aA (cE (kQ (aR jE hr rfl (ae (aB aH aI (aa 5) aj (λ_ _=>rfl)) (ae (aa 3) ai)))) (aA (de (aR ua hr rfl (ae (aa 1) (ae (aR nO hr rfl (ae (aB aH aI (aa 5) aj (λ_ _=>rfl)) (ae (aa 3) ai))) (ae (aM Eb Ee (aB aH aI (aa 5) aj (λ_ _=>rfl)) (bD (ae (aa 2) ai))) ai)))))) bZ)))
 (aA (Nw (i:=4) jv.nd rfl (Or.inl rfl) aj K_)))))
 (aA (bc (aa 1))))))),?_⟩
 nofun;intro pf hpf;have hS1:=aL (o:=.lst []) hS hpf;have hne:pn≠pf:=ne3 hS hpf;nofun;refine⟨λj σ S'=>nN λ(F:CL.Fd Gr) (x2 x3:Option D)=>σ=[some (.ref pn),some (.ref pf),x2,x3,none,none]/\Sub S S'/\S' pf=some (.lst (F.map cZ))/\CL.Ok F/\FG ar F/\(∀p∈F,p.2.length<=1)/\CL.g6 nb []=CL.g6 (nb.drop j) F,
  ⟨[],_,_,rfl,(Sub.refl S).up hpf,ao,CL.Ok.nil,⟨by simp,by simp⟩,by simp,by simp⟩,λj σ S' ⟨_,_,_,_,h1,_⟩=>h1 _ _ hS,?turn,?done⟩
 case turn =>
  rintro j d σ S' hd ⟨F,x2,x3,rfl,h1,h2,hok,hfg,hw1,e1⟩;rw[aJ]at hd;obtain⟨⟨n,g⟩,hp,rfl⟩:=b9.mp hd;have hpm:=cU hp;rw[Gg hp,CL.g6]at e1;unfold fw;nofun;refine⟨pf,F,g,[n],rfl,h2,hok.len,λF' eF=>?_,λeF=>?_⟩
  ·have hst:=CL.tV hok eF;refine⟨F',_,_,rfl,h1.at hpf,ao,hst.1.ok,hfg.put (hgd _ hpm) (by simp) eF,λp hp'=>?_,by rw[e1,eF];rfl⟩;unfold CL.putN at eF
   split at eF
   ·cases eF;exact hw1 p hp'
   ·split at eF
    ·cases eF
    ·cases eF;rcases bI.mp hp' with z|z
     ·exact hw1 p z
     ·rw[b5.mp z];simp
  ·intro a;refine⟨h1,hno ?_⟩;show CL.gD eA bO nb=none;unfold CL.gD;rw[e1,eF];rfl
 rintro σ S' ⟨F,x2,x3,rfl,h1,h2,hok,hfg,hw1,e1⟩;rw[ay,JP]at e1;have e2:da nb=CL.fN eA bO nb 41 0 F:=by
  show CL.gD eA bO nb=_;unfold CL.gD;rw[e1];rfl
 clear e1;nofun;refine kY (λm σ T=>qr λ(F:CL.Fd Gr) (x2 x3 x5:Option D) (pl:Nat)=>σ=[some (.ref pn),some (.ref pf),x2,x3,some (.int (pl:Int)),x5]/\Sub S T/\T pf=some (.lst (F.map cZ))/\CL.Ok F/\FG ar F/\(∀p∈F,p.2.length<=pl+1)/\pl+m=41/\da nb=CL.fN eA bO nb m pl F)
  41 ⟨F,x2,x3,none,0,rfl,h1,h2,hok,hfg,hw1,rfl,e2⟩ ?_
 clear h1 h2 hok hfg hw1 e2;rintro m σ T ⟨F,x2,x3,x5,pl,rfl,h1,h2,hok,hfg,hw1,hm,e1⟩;have qv:((F.map cZ).length:Int)=(F.length:Int):=by rw[ay]
 have t_:=hok.len;by_cases hlt:pl<F.length
 rotate_left
 ·have hlt':¬((pl:Int)<((F.map cZ).length:Int)):=by lia
  nofun;rw[CL.RS (by lia)]at e1;exact⟨pf,_,rfl,hpf,h1,h2,hy F e1⟩
 have hlt':((pl:Int)<((F.map cZ).length:Int)):=by lia
 obtain⟨m,rfl⟩:∃m',m=m'+1:=⟨m-1,by lia⟩;obtain⟨a,ha⟩:∃a,F[pl]?=some a:=⟨_,aX hlt⟩;have nP:=cU ha;rw[CL.fN,ha]at e1;dsimp only at e1;obtain⟨ag,aw⟩:=a;have hga:=hfg.gd _ nP;have UU:=hw1 _ nP;dsimp only at hga UU;have hTn:=h1 _ _ hS;nofun;refine gz h2 (d:=cZ (ag,aw)) (fW (by rw[aJ,ha];rfl)) ?_;nofun;refine⟨λj σ T'=>nN λ(F':CL.Fd Gr) (x2 x3:Option D)=>σ=[some (.ref pn),some (.ref pf),x2,x3,some (.int (pl:Int)),some (cZ (ag,aw))]/\Sub S T'/\T' pf=some (.lst (F'.map cZ))/\CL.Ok F'/\FG ar F'/\(∀p∈F',p.2.length<=pl+2)/\da nb=(CL.put2 eA bO (ag,aw) (nb.drop j) F').bind (CL.fN eA bO nb m (pl+1)),
  ⟨F,_,_,rfl,h1,h2,hok,hfg,λp hp=>by have:=hw1 p hp;lia,by rw[e1];rfl⟩,λj σ T' ⟨_,_,_,_,h1,_⟩=>h1 _ _ hS,?abj,?UW⟩
 case UW =>
  rintro σ T' ⟨F',y2,y3,rfl,k1,k2,qw,ub,kw,e3⟩;rw[ay,JP]at e3;nofun;have ep:(pl:Int)+1=((pl+1:Nat):Int):=by lia
  rw[ep];exact⟨m,by lia,F',y2,y3,_,pl+1,rfl,k1,k2,qw,ub,kw,by lia,e3⟩
 clear h1 h2 hok hfg hw1 hlt hlt' qv t_ ha nP e1;rintro j d σ T' hd ⟨F',y2,y3,rfl,k1,k2,qw,ub,kw,e3⟩;rw[aJ]at hd;obtain⟨⟨n,g⟩,hp,rfl⟩:=b9.mp hd;have hpm:=cU hp;have xN:=hgd _ hpm;dsimp only at xN;rw[Gg hp,CL.put2]at e3;dsimp only at e3;unfold fw cZ;nofun;refine⟨ag.1,ag.2.1,g.1,g.2.1,ag.2.2,g.2.2,rfl,?_⟩;by_cases hf:ag.2.1=g.1
 rotate_left
 ·have hff:¬(eA ag g=true):=by simpa[eA]using hf
  rw[if_neg hff]at e3;nofun;exact⟨F',_,_,rfl,k1,k2,qw,ub,kw,e3⟩
 have hff:eA ag g=true:=by simpa[eA]using hf
 rw[if_pos hff]at e3;obtain⟨m1,n1,q1,q2,q3,q4,q5,q6,qy⟩:=hga.ex;obtain⟨m2,n2,r1,r2,r3,r4,r5,r6,UX⟩:=xN.ex;have xO:m2=n1:=by rw[hf,r1]at q2;exact dD q2
 subst xO;nofun;refine⟨ag.1,ag.2.1,g.1,g.2.1,ag.2.2,g.2.2,m1,m2,n2,rfl,by lia,by lia,by lia,by lia,λ_=>⟨qy,UX,?_⟩,λz=>absurd hf z⟩;unfold ng;nofun;refine w6 (by rw[ay];exact dm (by simp;lia)) ?_;nofun;refine⟨pf,F',bO ag g,aw++[n],?_,k2,qw.len,λF2 eF=>?_,λeF=>?_⟩
 ·simp[ng,ax,bO]
 ·have hst:=CL.tV qw eF;refine⟨F2,_,_,rfl,k1.at hpf,ao,hst.1.ok,ub.put (hga.cmp xN hf) (by rw[a5];simp;lia) eF,λp hp'=>?_,by rw[e3,eF];rfl⟩;unfold CL.putN at eF
  split at eF
  ·cases eF;exact kw p hp'
  ·split at eF
   ·cases eF
   ·cases eF;rcases bI.mp hp' with z|z
    ·exact kw p z
    ·rw[b5.mp z,a5];simp;lia
 ·intro a;refine⟨k1,hno ?_⟩;rw[e3,eF];rfl
inductive UY (ds:List D)(q:D->Prop):Prop where
 |mk (f t:Str) (A:cf) (n:Nat) (_:ds=[cL f t A]) (_:Mt n n A) (_:n<=1000) (_:q (.bl (qi A)))
def Gh :aW:=vS UY
theorem UZ{k:Nat}(h:aC K mg "falls_here" lK ["graph"])(G:Gs K mg):av P w K mg base (k+1) "falls_here" ["graph"] Gh:=by
 refine h.val TM (by rintro ds q ⟨_,_,_,_,e,_⟩;rw[e];rfl) λf cdv A outer s0 H E ds q hr hA=>?_;obtain⟨fr,t,A',n,rfl,hM,hn,hq⟩:=hA;refine⟨_,(aA (bc (cK (DO rfl) (DU (f:=λbs=>bs.any id)) rfl G.any boot_any (ae (FL (bE:=aq lK) (N:=["graph"]) (M:=[]) (js:=[]) ⟨rfl,by cbv,by cbv,by cbv,by cbv,by cbv⟩ (by cbv) (by cbv) rfl (Fg rfl G.enumerate (ae (aB aH aI (aa 0) aj (λ_ _=>rfl)) ai)) (λ_ _ _ _ _=>dR) (λ_ _ _ _ _=>(je cz fK (aB aH aI (aa 1) (aa 0) (λ_ _=>rfl)) aj (bp _)))) ai)))),?_⟩;unfold cL fL;nofun;refine qb (λi=>.bl (decide ((A'.getD i []).getD i 0=2))) (by rw[lj,ay,hM.len];lia) (λ_ _=>trivial) ?_ ?_
 ·intro i d S hd hs;rw[tW]at hd;obtain⟨d2,hd2,rfl⟩:=b9.mp hd;rw[aJ]at hd2;obtain⟨row,hrow,rfl⟩:=b9.mp hd2;have hi:i<A'.length:=(cT.mp hrow).1;have hrl:=hM.row row (cU hrow);have hil:i<row.length:=by rw[hrl];have:=hM.len;lia
  refine DI λP hP=>?_;rw[bu (l:=A'),hrow]at hP;unfold bh;nofun;refine sL (d:=.int (row.getD i 0)) (fW (by rw[aJ,aX hil];simp[bu,hil])) ?_;nofun;exact hP _ (Sub.refl _)
 intro S hs p1 hp1;nofun;have eb:((aN (eu (A'.map bh)).length).map λi=>D.bl (decide ((A'.getD i []).getD i 0=2)))=((aN A'.length).map λi=>decide ((A'.getD i []).getD i 0=2)).map D.bl:=by rw[lj,ay,dq];rfl
 rw[eb];refine DV ao ?_;have ea:(((aN A'.length).map λi=>decide ((A'.getD i []).getD i 0=2)).any id)=qi A':=by
  unfold qi;rw[JH];rfl
 rw[ea];nofun;exact hq
inductive U0 (ds:List D)(q:D->Prop):Prop where
 |mk (ar:Str->Option Nat) (g:Gr) (_:ds=[ax g]) (_:Gd ar g) (_:q (.bl (g9 g)))
def Gi :aW:=vS U0
theorem U1{k:Nat}(h:aC K mg "is_idle_round" nE ["graph"])(G:Gs K mg)(jE:av P w K mg base k "fit" ["one","other"] t9)(nO:av P w K mg base k "composed" ["one","other"] (xK adr))
 (xP:av P w K mg base k "falls_here" ["graph"] Gh):av P w K mg base (k+1) "is_idle_round" ["graph"] Gi:=by
 refine h.val TL (by rintro ds q ⟨_,_,e,_⟩;rw[e];rfl) λf cdv A outer s0 H E ds q hr hA=>?_;obtain⟨ar,g,rfl,hg,hq⟩:=hA;refine⟨_,(aA (bc (BX (aR jE hr rfl (ae (aa 0) (ae (aa 0) ai))) (BX (je (BB (sN hr)) Cr (aR nO hr rfl (ae (aa 0) (ae (aa 0) ai))) (aa 0) (bp _)) (Nj (Nk (aR xP hr rfl (ae (aa 0) ai)))))))),?_⟩;obtain⟨m1,n1,q1,q2,q3,q4,q5,q6,qy⟩:=hg.ex;nofun;refine⟨g.1,g.2.1,g.1,g.2.1,g.2.2,g.2.2,rfl,?_⟩;by_cases hf:g.2.1=g.1
 rotate_left
 ·have hi:g9 g=false:=by simp[g9,eA,hf]
  rw[hi]at hq;rw[decide_eq_false hf];nofun;exact hq
 have xO:n1=m1:=by rw[hf,q1]at q2;exact(dD q2).symm
 subst xO;rw[decide_eq_true hf];nofun;refine⟨g.1,g.2.1,g.1,g.2.1,g.2.2,g.2.2,n1,n1,n1,rfl,by lia,by lia,by lia,by lia,λ_=>⟨qy,qy,?_⟩,λz=>absurd hf z⟩;nofun;show sy _ (ax (bO g g)) (ax g) _ _;refine So (by decide) ?_;by_cases hc:bO g g=g
 rotate_left
 ·have hi:g9 g=false:=by simp[g9,eA,hf,hc]
  rw[hi]at hq;rw[decide_eq_false hc];nofun;exact hq
 rw[decide_eq_true hc];nofun;refine⟨g.1,g.2.1,g.2.2,n1,rfl,qy,by lia,?_⟩;nofun;have hi:g9 g=!qi g.2.2:=by simp[g9,eA,hf,hc]
 rw[hi]at hq;exact hq
def xQ(w:List Int):D:=.tup [.str "open",ng w]
def qz(F:CL.Fd Gr)(S:af)(q:D->af->Prop):Prop:=(∀w,qj F=some w->q (xQ w) S)/\(qj F=none->∀p,S p=none->q (.tup [.str "ends",.ref p]) (up S p (.lst ((F.map bo).map ax))))
inductive U2 (ds:List D)(S:af)(q:D->af->Prop)(_:Addr->Prop):Prop where
 |mk (pp:Addr) (F:CL.Fd Gr) (ar:Str->Option Nat) (_:ds=[.ref pp]) (_:S pp=some (.lst (F.map cZ))) (_:F.length<=40) (_:(∀p∈F,Gd ar p.1)) (_:qz F S q)
def xR :aW:=kq U2
theorem U3{k:Nat}(h:aC K mg "telling_of" lJ ["pairs"])(G:Gs K mg)(U4:av P w K mg base k "is_idle_round" ["graph"] Gi):av P w K mg base (k+1) "telling_of" ["pairs"] xR:=by
 refine h.kq xu (by rintro ds S q qx ⟨_,_,_,e,_⟩;rw[e];rfl) λf cdv A outer s0 H E ds S q qx hr hA=>?_;obtain⟨pp,F,ar,rfl,hS,hl,hgd,hy,hn⟩:=hA;refine⟨_,(au (dk mW rfl (eL (aa 0)) (su rfl (j9 (cA (i:=1) xu.nd rfl (Or.inl rfl)) (j9 (cA (i:=2) xu.nd rfl (Or.inl rfl)) sm))) (aA (cE (kQ (aR U4 hr rfl (ae (aa 1) ai))) (aA (bc (bD (ae bb (ae (aa 2) ai))))) bZ)))
 (aA (bc (bD (ae bb (ae (jt (bE:=aq lJ) (N:=["pairs","graph","way"]) (M:=[]) (js:=[]) ⟨rfl,by cbv,by cbv,by cbv,by cbv,by cbv⟩ (by cbv) (by cbv) rfl (eL (aa 0)) (λ_ _ _ _ _=>dR) (λ_ _ _ _ _=>(aB aH aI (aa 0) aj (λ_ _=>rfl)))) ai)))))),?_⟩
 nofun;refine⟨λj σ S'=>jB λ(x1 x2:Option D)=>σ=[some (.ref pp),x1,x2]/\S'=S/\∀i p,i<j->F[i]?=some p->g9 p.1=false,⟨_,_,rfl,rfl,λi p hi=>by lia⟩,λj σ S' ⟨_,_,_,e,_⟩=>by rw[e];exact hS,?_,?_⟩
 ·rintro j d σ S' hd ⟨x1,x2,rfl,rfl,hb⟩;rw[aJ]at hd;obtain⟨⟨g,wy⟩,hp,rfl⟩:=b9.mp hd;have hg:=hgd _ (cU hp);unfold cZ;nofun;refine⟨ar,g,rfl,hg,?_⟩;cases hi:g9 g with
  |true =>
   nofun;refine⟨S',Sub.refl _,hy wy ?_⟩;unfold qj;have:F.find? (λp=>g9 p.1)=some (g,wy):=by
    rw[List.find?_eq_some_iff_getElem];obtain⟨hj,ej⟩:=cT.mp hp;refine⟨hi,j,hj,ej,λi hij=>?_⟩;have:=hb i F[i] hij (aX (by lia));simpa using this
   rw[this];rfl
  |false =>
   nofun;refine⟨_,_,rfl,rfl,λi p hij qf=>?_⟩;by_cases e:i=j
   ·subst e;rw[hp]at qf;cases qf;exact hi
   ·exact hb i p (by lia) qf
 rintro σ S' ⟨x1,x2,rfl,rfl,hb⟩;have htn:qj F=none:=by
  unfold qj;rw[List.find?_eq_none.mpr λp hp=>?_]
  ·rfl
  ·obtain⟨i,hi,rfl⟩:=jN hp;rw[hb i F[i] (by rw[ay];exact hi) (aX hi)];decide
 nofun;refine fO (λi=>ax ((F.getD i (("","",[]),[])).1)) (by rw[ay];lia) hS ?_ ?_
 ·intro i d hd P hP;rw[aJ]at hd;obtain⟨p,hp,rfl⟩:=b9.mp hd;rw[bu,hp]at hP;unfold cZ;nofun;exact hP
 have el:((aN (F.map cZ).length).map λi=>ax ((F.getD i (("","",[]),[])).1))=(F.map bo).map ax:=by
  rw[ay,dq];apply fj;intro i;rw[aJ,aJ];by_cases hi:i<F.length
  ·rw[fB hi,aX hi];simp[bu,hi]
  ·rw[b_ (by simpa using hi),b_ (by lia)];rfl
 rw[el];intro p1 hp1;nofun;exact⟨_,Sub.refl _,hn htn p1 hp1⟩
theorem xS(a b:Str):(a++b).length=a.length+b.length:=by
 show(a.cps++b.cps).size=_;simp[uB]
theorem Gj:∀(bs:List Bool) (r:Sy),(wrap bs r).txt.length<=r.txt.length+6*bs.length
 |[],_=>by simp[wrap]
 |b::l,r=>by
  have:=Gj l r;rw[Eo,xS,xS,bW];have e1:(" ":Str).length=1:=by cbv
  have e2:(ko b).length<=5:=by cases b<;>cbv
  lia
inductive U5 (ds:List D)(q:List D->Prop):Prop where
 |mk (s:Sy) (_:ds=[s.d]) (_:s.deep<=1000) (_:(∀x,s.base=some x->x.length<=1000)) (_:q (s.pfx.map D.str))
def xT :aW:=mQ U5
theorem U6{k:Nat}(h:aC K mg "_law_prefixes" nH ["saying"])(G:Gs K mg):av P w K mg base (k+1) "_law_prefixes" ["saying"] xT:=by
 refine h.lst lL (by rintro ds q ⟨s,e,_⟩;rw[e];rfl) λf cdv A outer s0 H E ds q hr hA=>?_;obtain⟨s,rfl,hd,hx,hq⟩:=hA;refine⟨_,(au (aO (i:=1) lL.nd rfl (Or.inl rfl) (cP ai))
 (au (kU dg (dH.pt (w_or (bq cz fu (aB aH aI (aa 0) aj (λ_ _=>rfl)) bb (bp _)) (sf (bq cz fu (aB aH aI (aa 0) aj (λ_ _=>rfl)) bb (bp _))))) (au (de (dz c9 eC eS dZ eM (aa 1) (ae (aB aH aI (aa 0) aj (λ_ _=>rfl)) ai)))
 (aA (aO (i:=0) lL.nd rfl (Or.inl rfl) (aB aH aI (aa 0) aj (λ_ _=>rfl))))))
 (au (cE (bq mr sv (aB aH aI (aa 0) aj (λ_ _=>rfl)) bb (bp _)) (aA (bc (cP ai))) bZ)
 (au (aO (i:=2) lL.nd rfl (Or.inl rfl) (aB aH aI (aa 0) aj (λ_ _=>rfl)))
 (au (aO (i:=3) lL.nd rfl (Or.inl rfl) (cP (ae (aa 2) ai)))
 (au (dk dg rfl (D7 rfl G.xy (ae (aa 1) ai)) (cA (i:=4) lL.nd rfl (Or.inl rfl)) (au (aO (i:=2) lL.nd rfl (Or.inl rfl) (aM kN kW (aM kN kW (aa 2) bb) (aa 4)))
 (aA (de (dz c9 eC eS dZ eM (aa 3) (ae (aa 2) ai))))))
 (aA (bc (aa 3))))))))),?_⟩
 nofun;intro pt hpt;nofun;refine kY (λm σ S=>jB λ(bs:List Bool) (r:Sy)=>σ=[some r.d,some (.ref pt),none,none,none]/\S pt=some (.lst (bs.map λb=>D.str (ko b)))/\wrap bs r=s/\m=r.deep) _ ⟨[],s,rfl,ao,rfl,rfl⟩ ?_;rintro m σ S ⟨bs,r,rfl,hS,hw,rfl⟩;have hdp:=xa bs r;rw[hw]at hdp;have hb:=w_ bs r;rw[hw]at hb;cases r with
 |left a =>
  simp only[Sy.d];nofun;refine ee hS (by rw[ay];exact fc (by lia)) ?_;nofun;exact⟨a.deep,by simp only[Sy.deep];lia,bs++[true],a,rfl,by rw[ao];simp[ko],by rw[tQ];exact hw,rfl⟩
 |right a =>
  simp only[Sy.d];nofun;refine ee hS (by rw[ay];exact fc (by lia)) ?_;nofun;exact⟨a.deep,by simp only[Sy.deep];lia,bs++[false],a,rfl,by rw[ao];simp[ko],by rw[tQ];exact hw,rfl⟩
 |name x =>
  simp only[Sy.d];nofun;intro pf hpf;have hne:pt≠pf:=ne3 hS hpf;have hS2:=aL (o:=.lst [.str x]) hS hpf;have hx':=hx x (by rw[hb];rfl);nofun;refine⟨λj σ S'=>∃x4,σ=[some (.tup [.str "name",.str x]),some (.ref pt),some (.str (wrap (bs.drop (bs.length-j)) (.name x)).txt),some (.ref pf),x4]/\S' pt=some (.lst (bs.map λb=>D.str (ko b)))/\S' pf=some (.lst ((wrap (bs.drop (bs.length-j)) (.name x)).cu.map D.str)) /\
   (wrap (bs.drop (bs.length-j)) (.name x)).cu.length=j+1,
   ⟨none,by simp[wrap,Sy.txt],hS2,by rw[ao];simp[wrap,Sy.cu],by simp[wrap,Sy.cu]⟩,λj σ S' ⟨_,_,g,_⟩=>g,?_,?_⟩
  ·rintro j d σ S' hd ⟨x4,rfl,g1,g2,g3⟩;have hj:=(cT.mp hd).1;rw[oo,ay]at hj;rw[zU (by rw[ay];exact hj),ay,aJ]at hd;obtain⟨b,Gm,rfl⟩:=b9.mp hd;have qA:bs.drop (bs.length-(j+1))=b::bs.drop (bs.length-j):=by
    have hlt:bs.length-1-j<bs.length:=by lia
    have e1:bs.length-(j+1)=bs.length-1-j:=by lia
    rw[e1,JO hlt];have e2:bs.length-1-j+1=bs.length-j:=by lia
    rw[e2];rw[aX hlt]at Gm;rw[dD Gm]
   have qv:=Gj (bs.drop (bs.length-j)) (.name x);rw[fP]at qv;have t7:(Sy.name x).txt.length<=1000:=hx';have e1:(" ":Str).length=1:=by cbv
   have e2:(ko b).length<=5:=by cases b<;>cbv
   nofun;refine kX (dm (by lia)) ?_;nofun;refine kX (dm (by rw[xS];lia)) ?_;nofun;refine ee g2 (by rw[ay];exact fc (by lia)) ?_;refine⟨_,by rw[qA,Eo];rfl,by rw[bH hne];exact g1,?_,?_⟩
   ·rw[ao,qA,Ep];simp
   ·rw[qA,Ep,a5,g3];rfl
  ·rintro σ S' ⟨x4,rfl,g1,g2,g3⟩;rw[oo,ay]at g2;have e0:bs.drop (bs.length-bs.length)=bs:=by simp
   rw[e0,hw]at g2;nofun;refine⟨pf,_,rfl,g2,?_⟩;have:s.pfx=s.cu:=by unfold Sy.pfx;rw[hb];rfl
   rw[<-this];exact hq
 |bw =>
  have e0:s.pfx=[]:=by unfold Sy.pfx;rw[hb];rfl
  rw[e0]at hq;simp only[Sy.d];nofun;intro p1 hp1;nofun;exact⟨p1,_,rfl,ao,hq⟩
 |pair a b =>
  have e0:s.pfx=[]:=by unfold Sy.pfx;rw[hb];rfl
  rw[e0]at hq;simp only[Sy.d];nofun;intro p1 hp1;nofun;exact⟨p1,_,rfl,ao,hq⟩
 |fork a b c =>
  have e0:s.pfx=[]:=by unfold Sy.pfx;rw[hb];rfl
  rw[e0]at hq;simp only[Sy.d];nofun;intro p1 hp1;nofun;exact⟨p1,_,rfl,ao,hq⟩
 |send x as =>
  have e0:s.pfx=[]:=by unfold Sy.pfx;rw[hb];rfl
  rw[e0]at hq;simp only[Sy.d];nofun;intro p1 hp1;nofun;exact⟨p1,_,rfl,ao,hq⟩
inductive U7 (ds:List D)(S:af)(q:D->Prop):Prop where
 |mk (p:Str) (s:Sy) (kn:Addr) (k:List Str) (_:ds=[.str p,s.d,.ref kn]) (_:S kn=some (.lst (k.map D.str))) (_:s.deep<=1000) (_:(∀x,s.base=some x->x.length<=1000)) (_:s.pfx.length<=1000) (_:q (.int (bL p s k)))
def Gn :aW:=gA U7
theorem U8{k:Nat}(h:aC K mg "_law_told" lM ["param","saying","known"])(G:Gs K mg)(nQ:av P w K mg base k "_law_prefixes" ["saying"] xT):av P w K mg base (k+1) "_law_told" ["param","saying","known"] Gn:=by
 refine h.gA FQ (by rintro ds S q ⟨_,_,_,_,e,_⟩;rw[e];rfl) λf cdv A outer s0 H E ds S q hr hA=>?_;obtain⟨p,s,kn,kk,rfl,hk,hd,hx,hpl,hq⟩:=hA;refine⟨_,(au (cE (bq cz fu (aB aH aI (aa 1) aj (λ_ _=>rfl)) bb (bp _)) (aA (bc (aM iz gR aj (ft Ec Eg rfl G.int boot_int (ae (je mw j' (aa 0) (aa 2) (by with_unfolding_all rfl)) ai))))) bZ)
 (au (aO (i:=3) FQ.nd rfl (Or.inl rfl) (aR nQ hr rfl (ae (aa 1) ai)))
 (au (cE (dH.pt (w_or (bq (BB (sN hr)) Cr (aa 3) (cP ai) (bp _)) (sf (bq mr sv (aB dY d9 (aa 3) aj (λ_ _=>rfl)) (aa 0) (bp _))))) (aA (bc aj)) bZ)
 (aA (bc (aM iz gR aj (ft Ec Eg rfl G.int boot_int (ae (cK (DO rfl) (DU (f:=λbs=>bs.any id)) rfl G.any boot_any (ae (jt (bE:=aq lM) (N:=["param","saying","known","found"]) (M:=["known"]) (js:=[2]) ⟨rfl,by cbv,by cbv,by cbv,by cbv,by cbv⟩ (by cbv) (by cbv) rfl (eL (eZ ja jh (aa 3) eX (eY (j8 aj)))) (λ_ _ _ _ _=>dR) (λ_ _ _ _ _=>(je mw j' (aa 0) (aa 1) (by with_unfolding_all rfl)))) ai)) ai)))))))),?_⟩
 by_cases hb:s=.bw
 ·subst hb;simp only[Sy.d];nofun;refine⟨Sub.refl _,?_⟩;simpa[bL]using hq
 have et:∃t r,s.d=.tup (.str t::r)/\¬t="bud":=by
  cases s<;>first|exact⟨_,_,rfl,by decide⟩|exact(hb rfl).elim
 obtain⟨t,r,ed,ht⟩:=et;have hq':q (.int (if s.base=some p then 1+(if ∃t∈s.pfx.dropLast,t∈kk then 1 else 0) else 0)):=by
  have e:bL p s kk=if s.base=some p then 1+(if ∃t∈s.pfx.dropLast,t∈kk then 1 else 0) else 0:=by cases s<;>first|rfl|exact(hb rfl).elim
  rw[<-e];exact hq
 rw[ed];nofun;refine⟨s,by rw[ed],hd,hx,?_⟩;intro pf hpf;have f1:=aL (o:=.lst (s.pfx.map D.str)) hk hpf;have s1:Sub S (up S pf (.lst (s.pfx.map D.str))):=(Sub.refl S).up hpf;have f2:up S pf (.lst (s.pfx.map D.str)) pf=some (.lst (s.pfx.map D.str)):=ao;generalize up S pf (.lst (s.pfx.map D.str))=S1 at f1 f2 s1 ⊢;nofun;intro p0 hp0;have g1:=aL (o:=.lst []) f1 hp0;have g2:=aL (o:=.lst []) f2 hp0;have s2:Sub S (up S1 p0 (.lst [])):=s1.up hp0;refine eq_nil g2 ao (λd hd=>?_) (λd hd=>?_) (by decide) ?_
 ·obtain⟨x,_,rfl⟩:=bj.mp hd;rfl
 ·obtain⟨x,_,rfl⟩:=bj.mp hd;simp[D.dt,cI]
 generalize up S1 p0 (.lst [])=S2 at g1 g2 s2 ⊢;cases hbs:s.base with
 |none =>
  have e0:s.pfx=[]:=by unfold Sy.pfx;rw[hbs];rfl
  rw[e0];rw[hbs]at hq';nofun;exact⟨s2,by simpa using hq'⟩
 |some x =>
  obtain⟨l,el⟩:=m9 hbs;have e0:s.pfx=x::l:=by unfold Sy.pfx;rw[hbs];exact el
  have g3:S2 pf=some (.lst (.str x::l.map D.str)):=by rw[g2,e0];rfl
  rw[e0]at hpl;rw[hbs,e0]at hq';rw[e0];by_cases hxp:x=p
  ·nofun;rw[RB];obtain⟨dl,hdl⟩:∃dl,dl=(x::l).dropLast:=⟨_,rfl⟩;have ec:(D.str x::l.map D.str).dropLast=dl.map D.str:=by rw[hdl,<-ba,List.map_dropLast]
   have abk:dl.length<=1000:=by rw[hdl,IP];lia
   rw[ec];intro pc qB;have c1:=aL (o:=.lst (dl.map D.str)) g1 qB;have c2:up S2 pc (.lst (dl.map D.str)) pc=some (.lst (dl.map D.str)):=ao;have s3:=s2.up (o:=.lst (dl.map D.str)) qB;generalize up S2 pc (.lst (dl.map D.str))=S3 at c1 c2 s3 ⊢;nofun;refine fO (λi=>.bl (decide (dl.getD i ""∈kk))) (by rw[ay];lia) c2 ?_ ?_
   ·intro i d hd P hP;rw[aJ]at hd;obtain⟨a,ha,rfl⟩:=b9.mp hd;rw[bu,ha]at hP;nofun;exact hP
   intro p4 kB;nofun;have eb:((aN (dl.map D.str).length).map λi=>D.bl (decide (dl.getD i ""∈kk)))=(dl.map λt=>decide (t∈kk)).map D.bl:=by
    rw[ay,dq];apply fj;intro i;rw[aJ,aJ];by_cases hi:i<dl.length
    ·rw[fB hi,aX hi];simp[bu,hi]
    ·rw[b_ (by simpa using hi),b_ (by lia)];rfl
   rw[eb];refine DV ao ?_;have ea:((dl.map λt=>decide (t∈kk)).any id)=decide (∃t∈dl,t∈kk):=by
    rw[eB];simp
   rw[ea];nofun;refine⟨s3.up kB,?_⟩;rw[if_pos (by rw[hxp]),<-hdl]at hq';by_cases hz:∃t∈dl,t∈kk
   ·rw[if_pos hz]at hq';rw[decide_eq_true hz];exact hq'
   ·rw[if_neg hz]at hq';rw[decide_eq_false hz];exact hq'
  ·nofun;exact⟨s2,by simpa[hxp]using hq'⟩
inductive U9(n:Nat)(ds:List D)(S:af)(q:List D->Prop):Prop where
 |mk (e:Er) (s:Sy) (kn:Addr) (k:List Str) (_:ds=[e.d,s.d,.ref kn]) (_:S kn=some (.lst (k.map D.str))) (_:m_ n e s k) (_:q ((((s.bz Sy.pfx k).map (bV bL e)).flatten).map ax))
def xU(n:Nat):aW:=iE (U9 n)
theorem Gp(h:aC K mg "_law_graphs_in" ky ["errand","saying","known"])(G:Gs K mg)(C0:av P w K mg base 1 "_law_prefixes" ["saying"] xT)(C1:av P w K mg base 2 "_law_told" ["param","saying","known"] Gn) :
 ∀n:Nat,av P w K mg base (n+2) "_law_graphs_in" ["errand","saying","known"] (xU n)
 |0=>h.O3 (by rintro ds S Q E ⟨e,s,_,_,_,_,hk,_⟩;have:=hk.deep;cases s<;>simp[Sy.deep]at this) _
 |n+1=>by
  have uc:=Gp h G C0 C1 n;have nQ:=C0.mono (show 1<=n+2 by lia);have xV:=C1.mono (show 2<=n+2 by lia);refine h.iE lN (by rintro ds S q ⟨_,_,_,_,e,_⟩;rw[e];rfl) λf cdv A outer s0 H E ds S q hr hA=>?_;obtain⟨e,s,kn,k,rfl,hS,hok,hq⟩:=hA;refine⟨_,(au (aO (i:=3) lN.nd rfl (Or.inl rfl) (cP ai))
 (au (cE (bq cz fu (aB aH aI (aa 1) aj (λ_ _=>rfl)) bb (bp _)) (au (aO (i:=4) lN.nd rfl (Or.inl rfl) (ft gn gy rfl G.tuple gG (ae (Rw (bE:=aq ky) (N:=["errand","saying","known","found","rows","one","k","more"]) (M:=["saying","known"]) (js:=[1,2]) ⟨rfl,by cbv,by cbv,by cbv,by cbv,by cbv⟩ (by cbv) (by cbv) rfl (j_ (aB aH aI (aa 0) aj (λ_ _=>rfl))) (λ_ _ _ _ _=>dR) (λ_ _ _ _ _=>(ft gn gy rfl G.tuple gG (ae (Tq (xp:=aq ky) (M:=["x","known"]) (js:=[0,2]) ⟨rfl,by cbv,by cbv,by cbv,by cbv,by cbv⟩ (by cbv) (by cbv) (j_ (aB aH aI (aa 1) aj (λ_ _=>rfl))) (λ_ _ _ _ _=>dR) (λ_ _ _ _ _=>(aR xV hr rfl (ae (aa 1) (ae (aa 0) (ae (aa 2) ai)))))) ai)))) ai)))
 (au (de (dz c9 eC eS dZ eM (aa 3) (ae (bD (ae (aB aH aI (aa 0) aj (λ_ _=>rfl)) (ae (aB aH aI (aa 1) aj (λ_ _=>rfl)) (ae (aa 4) ai)))) ai)))
 (au (dk dg rfl (j_ (aB aH aI (aa 1) aj (λ_ _=>rfl))) (cA (i:=5) lN.nd rfl (Or.inl rfl)) (aA (de (dz c9 uE Aj vz wd (aa 3) (ae (aR uc hr rfl (ae (aa 0) (ae (aa 5) (ae (aa 2) ai)))) ai)))))
 (aA (bc (aa 3)))))) bZ)
 (au (cE (dH.pt (w_or (bq cz fu (aB aH aI (aa 1) aj (λ_ _=>rfl)) bb (bp _)) (sf (bq cz fu (aB aH aI (aa 1) aj (λ_ _=>rfl)) bb (bp _))))) (aA (bc (aa 3))) bZ)
 (au (dk dg rfl (NF rfl G.range (ae aj (ae (cK fq fv rfl G.len eE (ae (aa 1) ai)) ai))) (cA (i:=6) lN.nd rfl (Or.inl rfl)) (au (aO (i:=7) lN.nd rfl (Or.inl rfl) (aa 2))
 (au (cE (dH.pt (w_and (bq cz fu (aB aH aI (aa 1) aj (λ_ _=>rfl)) bb (bp _)) (kR (bq cz fK (aa 6) aj (bp _))))) (aA (aO (i:=7) lN.nd rfl (Or.inl rfl) (aM rV sA (aa 2) (aR nQ hr rfl (ae (aB aH aI (aa 1) aj (λ_ _=>rfl)) ai))))) bZ)
 (aA (de (dz c9 uE Aj vz wd (aa 3) (ae (aR uc hr rfl (ae (aa 0) (ae (aB aH aI (aa 1) (aa 6) (λ_ _=>rfl)) (ae (aa 7) ai)))) ai)))))))
 (aA (bc (aa 3))))))),?_⟩
  have hall:=hok.all;have abl:=hok.EH;have hkl:=hok.kl;have hdp:=hok.deep;have hsz:=hok.size;have hps:=hok.ps;have hfin:∀{S':af} {pf:Addr} {j:Nat},S pf=none->Sub S S'->S' pf=some (.lst ((dC e s k j).map ax))->s.parts.length<=j->∃p ys,D.ref pf=.ref p/\S p=none/\Sub S S'/\S' p=some (.lst ys)/\q ys:=λ{S' pf j} h1 h2 h3 h4=>by
   rw[RN h4]at h3;exact⟨pf,_,rfl,h1,h2,h3,hq⟩
  have hstep:∀{S':af} {pf:Addr} {j:Nat} {a:Sy} {k':List Str} {ka:Addr} {Q:K3},S pf=none->Sub S S'->S' pf=some (.lst ((dC e s k j).map ax))->(s.pp Sy.pfx k)[j]?=some (a,k')->S' ka=some (.lst (k'.map D.str)) ->
   (∀pl:Addr,S' pl=none->∀ys:List D,(((dC e s k j).map ax)++ys).length<=100000->ys=(((a.bz Sy.pfx k').map (bV bL e)).flatten).map ax->Sub S (up (up S' pl (.lst ys)) pf (.lst (((dC e s k j).map ax)++ys))) ->
    up (up S' pl (.lst ys)) pf (.lst (((dC e s k j).map ax)++ys)) pf=some (.lst ((dC e s k (j+1)).map ax))->Q (.ref pl) (up S' pl (.lst ys)))->xU n [e.d,a.d,.ref ka] S' Q (λ_ _ _=>False):=λ{S' pf j a k' ka Q} h1 h2 h3 h4 h5 h6=>by
   refine⟨e,a,ka,k',rfl,h5,hok.part (cU h4),λpl hpl=>h6 pl hpl _ ?_ rfl ?_ ?_⟩
   ·have:=RP (e:=e) (s:=s) (k:=k) (j:=j+1);rw[EI h4,a5]at this;rw[a5,ay,ay];lia
   ·exact(h2.up hpl).at h1
   ·rw[ao,EI h4,b6]
  by_cases hsend:∃x as,s=.send x as
  ·obtain⟨x,as,rfl⟩:=hsend;have has:as.length<=1000:=(hall (Sy.send x as) (by rw[Sy.gX];exact b4)).1;have hin:∀a∈as,∀b∈a.pre,b∈(Sy.send x as).pre:=λa ha b hb=>by rw[Sy.gX];exact cB _ (xg ha hb)
   have ud:∀a:Sy,a∈a.pre:=λa=>by rw[Sy.gX];exact b4
   simp only[Sy.d,Sy.k_];unfold Er.d;nofun;intro pf hpf;have hS1:=aL (o:=.lst []) hS hpf;nofun;refine qb (λi=>bh (as.map λa=>bL (e.ps.getD i "") a k)) (by rw[ay];lia) (λ_ _=>trivial) ?_ ?_
   ·intro i d S2 hd s2;rw[aJ]at hd;obtain⟨p,hp,rfl⟩:=b9.mp hd;refine⟨[some (.str p)],rfl,λP hP=>?_⟩;rw[bu,hp]at hP;have k2:=s2 _ _ hS1;nofun;refine qb (λj=>.int (bL p (as.getD j .bw) k)) (by rw[ay];lia) (λ_ _=>trivial) ?_ ?_
    ·intro j d S3 hd s3;rw[aJ]at hd;obtain⟨a,ha,rfl⟩:=b9.mp hd;refine⟨[some a.d],rfl,λP hP=>?_⟩;rw[bu,ha]at hP;have k3:=s3 _ _ k2;have nP:=cU ha;have had:=Sy.tu nP;simp only[Sy.deep]at hdp;have hpl:=xf a;nofun;exact⟨p,a,kn,k,rfl,k3,by lia,(hall a (hin a nP a (ud a))).2,by lia,hP _ (Sub.refl _)⟩
    intro S3 s3;have el:((aN (as.map Sy.d).length).map λj=>D.int (bL p (as.getD j .bw) k))=(as.map λa=>bL p a k).map D.int:=by
     rw[ay,dq];apply fj;intro i;rw[aJ,aJ];by_cases hi:i<as.length
     ·rw[fB hi,aX hi];simp[bu,hi]
     ·rw[b_ (by simpa using hi),b_ (by lia)];rfl
    rw[el];intro p4 kB;nofun;exact hP _ (s3.up kB)
   intro S4 s4;have el:((aN (e.ps.map D.str).length).map λi=>bh (as.map λa=>bL (e.ps.getD i "") a k))=(e.ps.map λp=>as.map λa=>bL p a k).map bh:=by
    rw[ay,dq];apply fj;intro i;rw[aJ,aJ];by_cases hi:i<e.ps.length
    ·rw[fB hi,aX hi];simp[bu,hi]
    ·rw[b_ (by simpa using hi),b_ (by lia)];rfl
   rw[el];intro p5 jk;have g1:=aL (o:=.lst ((e.ps.map λp=>as.map λa=>bL p a k).map bh)) (s4 _ _ hS1) jk;have g2:=aL (o:=.lst ((e.ps.map λp=>as.map λa=>bL p a k).map bh)) (s4 _ _ (show up S pf (.lst []) pf=some (.lst []) from ao)) jk;have g3:Sub S (up S4 p5 (.lst ((e.ps.map λp=>as.map λa=>bL p a k).map bh))):=(((Sub.refl S).up hpf).trans s4).up jk;have g0:up S4 p5 (.lst ((e.ps.map λp=>as.map λa=>bL p a k).map bh)) p5=_:=ao;generalize up S4 p5 (.lst ((e.ps.map λp=>as.map λa=>bL p a k).map bh))=S5 at g0 g1 g2 g3 ⊢;nofun;refine ee g2 (by decide) ?_;nofun;have e0:([]:List D)++[D.tup [.str e.name,.str x,.tup ((e.ps.map λp=>as.map λa=>bL p a k).map bh)]]=(dC e (.send x as) k 0).map ax:=by
    rw[xh];simp[bV,ax,cL,fL]
   rw[e0];refine⟨λj σ S'=>jC λx4 x5 x6 x7=>σ=[some e.d,some (Sy.send x as).d,some (.ref kn),some (.ref pf),x4,x5,x6,x7]/\Sub S S'/\S' pf=some (.lst ((dC e (.send x as) k j).map ax)),
    ⟨_,_,_,_,by simp only[Sy.d,Sy.k_,Er.d];rfl,g3.at hpf,ao⟩,λ_ _ _ _=>trivial,?_,?_⟩
   ·rintro j d σ S' hd ⟨x4,x5,x6,x7,rfl,h1,h2⟩;rw[aJ]at hd;obtain⟨a,ha,rfl⟩:=b9.mp hd;have hpp:=EJ (s:=.send x as) (k:=k) ha (λ_ _ _ z=>by cases z);nofun;refine hstep hpf h1 h2 hpp (h1 _ _ hS) λpl hpl ys hl hy q1 q2=>?_;nofun;refine mT (aL h2 hpl) ao (by rw[<-a5];exact dm (by lia)) ?_;exact⟨_,_,_,_,rfl,q1,q2⟩
   ·rintro σ S' ⟨x4,x5,x6,x7,rfl,h1,h2⟩;nofun;exact hfin hpf h1 h2 (by simp[Sy.parts])
  by_cases qC:(∃x,s=.name x)∨s=.bw
  ·have hp0:s.parts=[]:=by rcases qC with⟨x,rfl⟩|rfl<;>rfl
   have hg0:dC e s k 0=[]:=by rw[xh];rcases qC with⟨x,rfl⟩|rfl<;>rfl
   rcases qC with⟨x,rfl⟩|rfl
   all_goals
    simp only[Sy.d];nofun;intro pf hpf;nofun;exact hfin (j:=0) hpf ((Sub.refl S).up hpf) (by rw[ao,hg0];rfl) (by rw[hp0];exact aQ _)
  have hg0:dC e s k 0=[]:=by
   rw[xh];cases s<;>first|rfl|exact(hsend ⟨_,_,rfl⟩).elim
  have kB:s.parts.length<=3:=by
   cases s<;>first|exact(hsend ⟨_,_,rfl⟩).elim|exact aQ _|simp[Sy.parts]
  by_cases xW:∃a b c,s=.fork a b c
  ·obtain⟨a,b,c,rfl⟩:=xW;have had:a.deep<=50:=by simp only[Sy.deep]at hdp;lia
   have hab:=(hall a (by simp only[Sy.pre];exact cB _ (dE _ (by rw[Sy.gX];exact b4)))).2;have hpa:=xf a;have hl1:(([D.str "fork",a.d,b.d,c.d]:List D).length:Int)<=4:=by simp
   have hl0:(0:Int)<=(([D.str "fork",a.d,b.d,c.d]:List D).length:Int):=by simp
   simp only[Sy.d];nofun;intro pf hpf;have hS1:=aL (o:=.lst []) hS hpf;nofun;refine⟨λj σ S'=>jC λx4 x5 x6 x7=>σ=[some e.d,some (Sy.fork a b c).d,some (.ref kn),some (.ref pf),x4,x5,x6,x7]/\Sub S S'/\S' pf=some (.lst ((dC e (.fork a b c) k j).map ax)),
    ⟨_,_,_,_,rfl,(Sub.refl S).up hpf,by rw[ao,hg0];rfl⟩,λ_ _ _ _=>trivial,?_,?_⟩
   ·rintro j d σ S' hd ⟨x4,x5,x6,x7,rfl,h1,h2⟩;obtain⟨hj,rfl⟩:=fJ hd;have Gq:j<3:=hj;simp only[Sy.d];rcases(by lia:j=0∨j=1∨j=2) with rfl|rfl|rfl
    ·nofun;refine hstep (k':=k) hpf h1 h2 rfl (h1 _ _ hS) λpl hpl ys hl hy q1 q2=>?_;nofun;refine mT (aL h2 hpl) ao (by rw[<-a5];exact dm (by lia)) ?_;exact⟨_,_,_,_,rfl,q1,q2⟩
    ·nofun;refine⟨a,rfl,by lia,hab,?_⟩;intro pp hpp;have m1:=aL (o:=.lst (a.pfx.map D.str)) (h1 _ _ hS) hpp;refine sM m1 ao (by rw[ay,ay];exact dm (by lia)) ?_;intro pk nR;rw[<-b6];have m2:=aL (o:=.lst ((k++a.pfx).map D.str)) (aL (o:=.lst (a.pfx.map D.str)) h2 hpp) nR;have m3:=(h1.up (o:=.lst (a.pfx.map D.str)) hpp).up (o:=.lst ((k++a.pfx).map D.str)) nR;have m4:up (up S' pp (.lst (a.pfx.map D.str))) pk (.lst ((k++a.pfx).map D.str)) pk=_:=ao;generalize up (up S' pp (.lst (a.pfx.map D.str))) pk (.lst ((k++a.pfx).map D.str))=S6 at m2 m3 m4 ⊢;nofun;refine hstep (k':=k++a.pfx) hpf m3 m2 rfl m4 λpl hpl ys hl hy q1 q2=>?_;nofun;refine mT (aL m2 hpl) ao (by rw[<-a5];exact dm (by lia)) ?_;exact⟨_,_,_,_,rfl,q1,q2⟩
    ·nofun;refine hstep (k':=k) hpf h1 h2 rfl (h1 _ _ hS) λpl hpl ys hl hy q1 q2=>?_;nofun;refine mT (aL h2 hpl) ao (by rw[<-a5];exact dm (by lia)) ?_;exact⟨_,_,_,_,rfl,q1,q2⟩
   ·rintro σ S' ⟨x4,x5,x6,x7,rfl,h1,h2⟩;nofun;exact hfin hpf h1 h2 (by simp[Sy.parts,dI])
  have et:∃t,s.d=.tup (.str t::s.parts.map Sy.d)/\¬t="send"/\¬t="name"/\¬t="bud"/\¬t="fork":=by
   cases s<;>first|exact⟨_,rfl,by decide,by decide,by decide,by decide⟩|exact(hsend ⟨_,_,rfl⟩).elim|exact(xW ⟨_,_,_,rfl⟩).elim|exact(qC (.inl ⟨_,rfl⟩)).elim|exact(qC (.inr rfl)).elim
  obtain⟨t,ed,t1,t2,t3,t4⟩:=et;have hl1:((D.str t::s.parts.map Sy.d).length:Int)<=4:=by simp only[bW,ay];lia
  have hl0:(0:Int)<=((D.str t::s.parts.map Sy.d).length:Int):=by lia
  rw[ed];nofun;intro pf hpf;have hS1:=aL (o:=.lst []) hS hpf;nofun;refine⟨λj σ S'=>jC λx4 x5 x6 x7=>σ=[some e.d,some (.tup (.str t::s.parts.map Sy.d)),some (.ref kn),some (.ref pf),x4,x5,x6,x7]/\Sub S S'/\S' pf=some (.lst ((dC e s k j).map ax)),
   ⟨_,_,_,_,rfl,(Sub.refl S).up hpf,by rw[ao,hg0];rfl⟩,λ_ _ _ _=>trivial,?_,?_⟩
  ·rintro j d σ S' hd ⟨x4,x5,x6,x7,rfl,h1,h2⟩;obtain⟨hj,rfl⟩:=fJ hd;have Gq:j<s.parts.length:=by
    simp only[bW,ay]at hj;lia
   obtain⟨a,ha⟩:∃a,s.parts[j]?=some a:=⟨_,aX Gq⟩;have hpp:=EJ (k:=k) ha (λx y z z'=>absurd ⟨x,y,z,z'⟩ xW);have hat:cy (D.str t::s.parts.map Sy.d) (1+(j:Int))=some a.d:=by
    have e:(1:Int)+(j:Int)=((j+1:Nat):Int):=by lia
    rw[e];refine fW ?_;rw[List.getElem?_cons_succ,aJ,ha];rfl
   nofun;refine sL hat ?_;nofun;refine hstep hpf h1 h2 hpp (h1 _ _ hS) λpl hpl ys hl hy q1 q2=>?_;nofun;refine mT (aL h2 hpl) ao (by rw[<-a5];exact dm (by lia)) ?_;exact⟨_,_,_,_,rfl,q1,q2⟩
  ·rintro σ S' ⟨x4,x5,x6,x7,rfl,h1,h2⟩;nofun;refine hfin hpf h1 h2 ?_;rw[dI];simp only[bW,ay];lia
inductive U_ (ds:List D)(S:af)(q:List D->Prop):Prop where
 |mk (a:Addr) (prog:List Er) (_:ds=[.ref a]) (_:S a=some (.lst (prog.map Er.d))) (_:(∀e∈prog,m_ 20 e e.body [])) (_:(cQ bL Sy.pfx prog).length<=100000) (_:q ((cQ bL Sy.pfx prog).map ax))
def xX :aW:=iE U_
theorem U'(h:aC K mg "_law_graphs" nI ["program"])(G:Gs K mg)(uc:av P w K mg base 22 "_law_graphs_in" ["errand","saying","known"] (xU 20)) :
 av P w K mg base 23 "_law_graphs" ["program"] xX:=by
 refine h.iE xw (by rintro ds S q ⟨_,_,e,_⟩;rw[e];rfl) λf cdv A outer s0 H E ds S q hr hA=>?_;obtain⟨pr,prog,rfl,hS,hok,hz,hq⟩:=hA;refine⟨_,(au (aO (i:=1) xw.nd rfl (Or.inl rfl) (cP ai))
 (au (dk dg rfl (eL (aa 0)) (cA (i:=2) xw.nd rfl (Or.inl rfl)) (aA (de (dz c9 uE Aj vz wd (aa 1) (ae (aR uc hr rfl (ae (aa 2) (ae (aB aH aI (aa 2) aj (λ_ _=>rfl)) (ae (cP ai) ai)))) ai)))))
 (aA (bc (aa 1))))),?_⟩
 nofun;intro pf hpf;have hS1:=aL (o:=.lst []) hS hpf;nofun;refine⟨λi σ S'=>∃x2,σ=[some (.ref pr),some (.ref pf),x2]/\Sub S S'/\S' pf=some (.lst ((cQ bL Sy.pfx (prog.take i)).map ax)),⟨none,rfl,(Sub.refl S).up hpf,by rw[ao];rfl⟩,
  λi σ S' ⟨x2,_,h1,_⟩=>h1 _ _ hS,?_,?_⟩
 ·rintro i d σ S' hd ⟨x2,rfl,h1,h2⟩;rw[aJ]at hd;obtain⟨e,he,rfl⟩:=b9.mp hd;have qu:e∈prog:=cU he;have hsn:=F4 (told:=bL) (ext:=Sy.pfx) he;have hbd:=F5 (told:=bL) (ext:=Sy.pfx) (prog:=prog) (i+1);rw[hsn,a5]at hbd;have ed:e.d=.tup [.str e.name,.tup (e.ps.map D.str),e.body.d]:=rfl;rw[ed];nofun;intro p0 hp0;nofun;refine⟨e,e.body,p0,[],rfl,ao,hok e qu,?_⟩;intro pl hpl;have m1:=aL (o:=.lst ((((e.body.bz Sy.pfx []).map (bV bL e)).flatten).map ax)) (aL (o:=.lst []) h2 hp0) hpl;nofun;refine mT m1 ao (by rw[ay,ay];exact dm (by lia)) ?_;refine⟨_,rfl,((h1.up hp0).up hpl).at hpf,?_⟩;rw[ao,hsn,b6]
 ·rintro σ S' ⟨x2,rfl,h1,h2⟩;rw[ay,ic]at h2;nofun;exact⟨pf,_,rfl,hpf,h1,h2,hq⟩
structure Plain(ps:List Str)(n:Nat)(s:Sy):Prop where
 wf:∀ar,s.wf ar ps
 deep:s.deep<=n
 sends:s.sends=0
 size:s.pre.length+1<=2^n
theorem ue(a:Sy)(as:List Sy):(Sy.br (a::as)).length=a.pre.length+(Sy.br as).length:=by simp[Sy.br]
theorem uf(s:Sy):s.pre.length=1+(Sy.br s.parts).length:=by rw[Sy.gX];simp;lia
theorem ug{ps:List Str}{x:Str}(h:x∈ps):Plain ps 1 (.name x):=⟨λ_=>h,by simp[Sy.deep],by simp[Sy.sends,Sy.pre],by simp[Sy.pre]⟩
theorem Plain.one{ps:List Str}{n:Nat}{s:Sy}(h:Plain ps n s):(Sy.br [s]).length+2<=2^(n+1):=by
 have:=h.size;rw[ue,Nat.pow_succ];simp[Sy.br];lia
theorem Plain.left{ps:List Str}{n:Nat}{s:Sy}(h:Plain ps n s):Plain ps (n+1) (.left s):=⟨h.wf,by have:=h.deep;simp only[Sy.deep];lia,by rw[Sy.tx];simp only[Sy.parts,Sy.tw,h.sends];simp[Sy.iG,Sy.br],
 by have:=h.one;rw[uf];simp only[Sy.parts];lia⟩
theorem Plain.mono{ps:List Str}{n m:Nat}{s:Sy}(h:Plain ps n s)(hm:n<=m):Plain ps m s:=⟨h.wf,bR h.deep hm,h.sends,bR h.size (Nat.pow_le_pow_right (by decide) hm)⟩
structure uh(ar:Str->Option Nat)(ps:List Str)(x:Str)(as:List Sy):Prop where
 ar:ar x=some as.length
 l1:1<=as.length
 l4:as.length<=4
 plain:∀a∈as,Plain ps 5 a
structure Bd(ar:Str->Option Nat)(ps:List Str)(n m z:Nat)(s:Sy):Prop where
 wf:s.wf ar ps
 deep:s.deep<=n
 sends:s.sends<=m
 size:s.pre.length<=z
theorem Plain.bd{ar:Str->Option Nat}{ps:List Str}{n:Nat}{s:Sy}(h:Plain ps n s):Bd ar ps n 0 (2^n) s:=⟨h.wf ar,h.deep,by rw[h.sends];exact aQ _,by have:=h.size;lia⟩
theorem Bd.mono{ar:Str->Option Nat}{ps:List Str}{n m z n' m' z':Nat}{s:Sy}(h:Bd ar ps n m z s)(h1:n<=n')(h2:m<=m')(h3:z<=z'):Bd ar ps n' m' z' s:=⟨h.wf,bR h.deep h1,bR h.sends h2,bR h.size h3⟩
theorem Bd.pair{ar:Str->Option Nat}{ps:List Str}{n m z m' z':Nat}{s t:Sy}(h:Bd ar ps n m z s)(h':Bd ar ps n m' z' t):Bd ar ps (n+1) (m+m') (1+z+z') (.pair s t) :=
 ⟨⟨h.wf,h'.wf⟩,by have:=h.deep;have:=h'.deep;simp only[Sy.deep];lia,by have:=h.sends;have:=h'.sends;rw[Sy.tx];simp only[Sy.parts,Sy.tw];simp[Sy.iG,Sy.br];lia,
  by have:=h.size;have:=h'.size;rw[uf];simp only[Sy.parts,ue];simp[Sy.br];lia⟩
theorem Bd.fork{ar:Str->Option Nat}{ps:List Str}{n m z m' z' m2 z2:Nat}{s t u:Sy}(h:Bd ar ps n m z s)(h':Bd ar ps n m' z' t)(h2:Bd ar ps n m2 z2 u):Bd ar ps (n+1) (m+m'+m2) (1+z+z'+z2) (.fork s t u) :=
 ⟨⟨h.wf,h'.wf,h2.wf⟩,by have:=h.deep;have:=h'.deep;have:=h2.deep;simp only[Sy.deep];lia,by have:=h.sends;have:=h'.sends;have:=h2.sends;rw[Sy.tx];simp only[Sy.parts,Sy.tw];simp[Sy.iG,Sy.br];lia,
  by have:=h.size;have:=h'.size;have:=h2.size;rw[uf];simp only[Sy.parts,ue];simp[Sy.br];lia⟩
theorem Gu{ps:List Str}:∀{as:List Sy},(∀a∈as,Plain ps 5 a)->Sy.iG as=0/\(Sy.br as).length<=31*as.length
 |[],_=>by simp[Sy.iG,Sy.br]
 |a::as,h=>by
  have h1:=h a b4;have h2:=Gu (as:=as) λb hb=>h b (cB _ hb);have:=h1.sends;have:=h1.size;rw[Sy.tw,ue,bW];lia
theorem uh.bd{ar:Str->Option Nat}{ps:List Str}{x:Str}{as:List Sy}(h:uh ar ps x as):Bd ar ps 6 1 125 (.send x as):=by
 obtain⟨h1,h2⟩:=Gu h.plain;have:=h.l4;refine⟨⟨h.ar,h.l1,h.l4,Sy.Dy.mpr λa ha=>(h.plain a ha).wf ar⟩,?_,?_,?_⟩
 ·have:=Sy.mY (as:=as) (n:=5) λa ha=>(h.plain a ha).deep;simp only[Sy.deep];lia
 ·rw[Sy.tx];simp only[Sy.parts];lia
 ·rw[uf];simp only[Sy.parts];lia
structure Pg(prog:List Er):Prop where
 abm:1<=prog.length
 len:prog.length<=12
 nd:(prog.map Er.name).Nodup
 nm:∀e∈prog,cX e.name
 ps:∀e∈prog,1<=e.ps.length/\e.ps.length<=4/\e.ps.Nodup/\∀x∈e.ps,cX x
 body:∀e∈prog,Bd (eh prog) e.ps 12 12 5000 e.body
abbrev aU(prog:List Er):List Gr:=cQ aT Sy.bases prog
structure qD(ar:Str->Option Nat)(prog:List Er):Prop where
 gr:∀e∈prog,xG e
 len:(aU prog).length<=1000
 gd:∀g∈aU prog,Gd ar g
theorem Va{x:Str}(h:cX x):x.length<=1000:=by
 obtain⟨cs,rfl,_,h8,_⟩:=h;show(textOf cs).cps.size<=1000;simp only[textOf,bM];lia
theorem Vb(p:Str)(a:Sy)(k:List Str):0<=aT p a k/\aT p a k<=2:=by
 cases a<;>simp only[aT]<;>(repeat split)<;>decide
theorem Gv{prog:List Er}{g:Gr}:g∈aU prog↔∃e∈prog,g∈((e.body.bz Sy.bases []).map (bV aT e)).flatten:=by
 unfold aU cQ;rw[Ae];constructor
 ·rintro⟨l,hl,hg⟩;obtain⟨e,he,rfl⟩:=bj.mp hl;exact⟨e,he,hg⟩
 ·rintro⟨e,he,hg⟩;exact⟨_,iW he,hg⟩
theorem xY{prog:List Er}(nd:(prog.map Er.name).Nodup){e:Er}(he:e∈prog):eh prog e.name=some e.ps.length:=by
 obtain⟨i,hi,rfl⟩:=jN he;exact Dz nd (i:=i) (by rw[aJ,aX hi];rfl) (by rw[aJ,aX hi];rfl)
theorem Pg.gd{prog:List Er}(h:Pg prog):∀g∈aU prog,Gd (eh prog) g/\Su (prog.map Er.name) g:=by
 intro g hg;obtain⟨e,he,hg⟩:=Gv.mp hg;obtain⟨l,hl,hg⟩:=Ae.mp hg;obtain⟨⟨s,k⟩,hs,rfl⟩:=bj.mp hl;have hm:s∈e.body.pre:=by rw[<-Sy.fM Sy.bases e.body []];exact iW (f:=bo) hs
 have hw:=(h.body e he).wf;have hws:=Sy.fY hw s hm;obtain⟨p1,p4,_,_⟩:=h.ps e he;cases s with
 |send x as =>
  simp only[bV,b5]at hg;subst hg;simp only[Sy.wf]at hws;refine⟨⟨e.ps.length,as.length,xY h.nd he,hws.1,p1,hws.2.1,p4,hws.2.2.1,by simp,λr hr=>?_,λr hr x hx=>?_⟩,iW he,Fv hws.1⟩
  ·obtain⟨p,_,rfl⟩:=bj.mp hr;simp
  ·obtain⟨p,_,rfl⟩:=bj.mp hr;obtain⟨a,_,rfl⟩:=bj.mp hx;exact Vb p a k
 |_=>simp[bV]at hg
theorem Pg.Vc{prog:List Er}(h:Pg prog):∀e∈prog,xG e:=λe he=>by
 have hb:=h.body e he;refine⟨by have:=hb.size;lia,λp hp=>⟨?_,?_⟩,by have:=(h.ps e he).2.1;lia⟩
 ·have:=EF RM 12 e.body [] hb.deep p hp;simp only[dN]at this;lia
 ·have hm:p.1∈e.body.pre:=by rw[<-Sy.fM Sy.bases e.body []];exact iW (f:=bo) hp
  have:=Ez (Sy.fY hb.wf p.1 hm);lia
theorem Pg.ok{prog:List Er}(h:Pg prog):qD (eh prog) prog:=by
 refine⟨h.Vc,?_,λg hg=>(h.gd g hg).1⟩;have h1:=ED (told:=aT) (ext:=Sy.bases) (λe he=>(h.body e he).sends);have h2:=h.len;have h3:prog.length*12<=12*12:=Nat.mul_le_mul_right _ h2;show(cQ aT Sy.bases prog).length<=1000;lia
theorem Pg.gi{prog:List Er}(h:Pg prog):∀e∈prog,m_ 20 e e.body []:=λe he=>by
 have hb:=h.body e he;refine⟨by have:=hb.deep;lia,by decide,by decide,by have:=(h.ps e he).2.1;lia,by have:=hb.size;lia,λa ha=>⟨?_,λx hx=>?_⟩⟩
 ·have:=Ez (Sy.fY hb.wf a ha);lia
 ·exact Va ((h.ps e he).2.2.2 x (tU (Sy.fY hb.wf a ha) hx))
theorem Pg.same{prog:List Er}(h:Pg prog):cQ bL Sy.pfx prog=aU prog :=
 (RH λe he=>⟨(h.ps e he).2.2.2,(h.body e he).wf⟩).symm
inductive Vd(adr:Rf->Addr)(ds:List D)(S:af)(q:List D->Prop)(qx:Addr->Prop):Prop where
 |mk (pr:Addr) (prog:List Er) (ar:Str->Option Nat) (_:ds=[.ref pr]) (_:S pr=some (.lst (prog.map Er.d))) (_:qD ar prog) (_:(∀F,da (cg (aU prog))=some F->q (F.map cZ))) (_:(da (cg (aU prog))=none->qx (adr .many)))
def xZ(adr:Rf->Addr):aW:=ki (Vd adr)
theorem Ve{k:Nat}(h:aC K mg "closure" nA ["program"])(G:Gs K mg)(nS:av P w K mg base k "graphs" ["program"] xH)(nU:av P w K mg base k "closure_of" ["numbered"] (xM adr)) :
 av P w K mg base (k+1) "closure" ["program"] (xZ adr):=by
 refine h.ki TH (by rintro ds S q qx ⟨_,_,_,e,_⟩;rw[e];rfl) λf cdv A outer s0 H E ds S q qx hr hA=>?_;obtain⟨pr,prog,ar,rfl,hS,hok,hy,hn⟩:=hA;refine⟨_,(aA (bc (aR nU hr rfl (ae (Sb rfl G.list rfl G.enumerate rfl (ae (aR nS hr rfl (ae (aa 0) ai)) ai)) ai)))),?_⟩;have hl:=hok.len;nofun;refine⟨pr,prog,rfl,hS,hok.gr,by show(aU prog).length<=100000;lia,?_⟩;intro pg ui;have g1:up S pg (.lst ((aU prog).map ax)) pg=some (.lst ((aU prog).map ax)):=ao;have s1:Sub S (up S pg (.lst ((aU prog).map ax))):=(Sub.refl S).up ui;generalize up S pg (.lst ((aU prog).map ax))=S1 at g1 s1 ⊢;nofun;refine qb (λi=>(eu ((aU prog).map ax)).getD i .non) (by rw[lj,ay];lia) (λS hs=>hs _ _ g1) ?_ ?_
 ·intro i d S2 hd hs;refine wQ λP hP=>?_;rw[bu,hd]at hP;nofun;exact hP _ (Sub.refl _)
 intro S2 s2;have el:((aN (eu ((aU prog).map ax)).length).map λi=>(eu ((aU prog).map ax)).getD i .non)=(cg (aU prog)).map fw:=by
  rw[<-Ss];apply fj;intro i;rw[aJ];by_cases hi:i<(eu ((aU prog).map ax)).length
  ·rw[fB hi,aX hi];simp[bu,hi]
  ·rw[b_ (by simpa using hi),b_ (by lia)];rfl
 rw[el];intro pn hpn;have s3:Sub S (up S2 pn (.lst ((cg (aU prog)).map fw))):=(s1.trans s2).up hpn;have g3:up S2 pn (.lst ((cg (aU prog)).map fw)) pn=_:=ao;generalize up S2 pn (.lst ((cg (aU prog)).map fw))=S3 at s3 g3 ⊢;nofun;refine⟨pn,_,ar,rfl,g3,by rw[Fu];exact hl,λp hp=>hok.gd _ (jr hp),λF eF=>?_,λeF a=>⟨s3,hn eF⟩⟩;intro pf hpf;nofun;exact⟨pf,_,rfl,s3.free hpf,s3.up hpf,ao,hy F eF⟩
theorem Gw{ar:Str->Option Nat}{nb:List (Int×Gr)}{F:CL.Fd Gr}(h:∀p∈nb,Gd ar p.2)(e:da nb=some F):∀p∈F,Gd ar p.1:=λp hp =>
 CL.EY (Pr:=Gd ar) h (λa ha p hp hf=>ha.cmp (h p hp) (by simpa[eA]using hf)) e p.1 (iW (f:=bo) hp)
theorem Gy{F:CL.Fd Gr}{S S1:af}{q:D->af->Prop}(h:qz F S q)(hs:Sub S S1):qz F S1 λd T=>∃T',Sub T' T/\q d T' :=
 ⟨λw e=>⟨S,hs,h.1 w e⟩,λe p hp=>⟨_,hs.upd,h.2 e p (hs.free hp)⟩⟩
inductive Vf(adr:Rf->Addr)(ds:List D)(S:af)(q:D->af->Prop)(qx:Addr->Prop):Prop where
 |mk (pr:Addr) (prog:List Er) (ar:Str->Option Nat) (_:ds=[.ref pr]) (_:S pr=some (.lst (prog.map Er.d))) (_:qD ar prog) (_:(∀F,da (cg (aU prog))=some F->qz F S q)) (_:(da (cg (aU prog))=none->qx (adr .many)))
def Gz(adr:Rf->Addr):aW:=kq (Vf adr)
theorem Vg{k:Nat}(h:aC K mg "judged" nB ["program"])(G:Gs K mg)(nV:av P w K mg base k "closure" ["program"] (xZ adr))(nW:av P w K mg base k "telling_of" ["pairs"] xR) :
 av P w K mg base (k+1) "judged" ["program"] (Gz adr):=by
 refine h.kq TJ (by rintro ds S q qx ⟨_,_,_,e,_⟩;rw[e];rfl) λf cdv A outer s0 H E ds S q qx hr hA=>?_;obtain⟨pr,prog,ar,rfl,hS,hok,hy,hn⟩:=hA;refine⟨_,(aA (bc (aR nW hr rfl (ae (aR nV hr rfl (ae (aa 0) ai)) ai)))),?_⟩;nofun;refine⟨pr,prog,ar,rfl,hS,hok,λF eF=>?_,λeF a=>⟨Sub.refl _,hn eF⟩⟩;intro pf hpf;have hc:=CL.nc eF;nofun;exact⟨pf,F,ar,rfl,ao,hc.ok.len,Gw (λp hp=>hok.gd _ (jr hp)) eF,Gy (hy F eF) ((Sub.refl S).up hpf)⟩
structure uj(prog:List Er):Prop where
 len:prog.length<=100
 nd:(prog.map Er.name).Nodup
 pre:∀e∈prog,e.body.pre.length<=20000
 sends:(bQ prog).length<=100000
 to:∀p∈bQ prog,p.2∈prog.map Er.name
def x8(prog:List Er)(a:Str):List D:=((prog.map Er.name).filter (m7 (bQ prog) a)).map D.str
inductive Vh(adr:Rf->Addr)(ds:List D)(S:af)(q:List D->Prop)(qx:Addr->Prop):Prop where
 |mk (pr:Addr) (prog:List Er) (a:Str) (_:ds=[.ref pr,.str a]) (_:S pr=some (.lst (prog.map Er.d))) (_:uj prog) (_:a.length<=100) (_:(a∈prog.map Er.name->q (x8 prog a))) (_:(a∉prog.map Er.name->qx (adr .such)))
def GA(adr:Rf->Addr):aW:=ki (Vh adr)
theorem Vi{k:Nat}(h:aC K mg "reached" ku ["program","name"])(G:Gs K mg)(R:fb K mg ES adr)(Vj:av P w K mg base k "refuse_missing" ["name","known"] (F_ adr))(x9:av P w K mg base k "sends" ["program"] F9) :
 av P w K mg base (k+1) "reached" ["program","name"] (GA adr):=by
 refine h.ki lD (by rintro ds S q qx ⟨_,_,_,e,_⟩;rw[e];rfl) λf cdv A outer s0 H E ds S q qx hr hA=>?_;obtain⟨pr,prog,a,rfl,hS,hf,hal,hq,GB⟩:=hA;have hu:=Bk hr;have Vk:=hf.len;obtain⟨names,hnames⟩:∃names,prog.map Er.name=names:=⟨_,rfl⟩;have hnl:names.length=prog.length:=by rw[<-hnames,ay]
 refine⟨_,(au (ju (i:=2) (bE:=aq ku) (N:=["program","name","names","steps","found","pending","sender","step"]) (M:=[]) (js:=[]) ⟨rfl,by cbv,by cbv,by cbv,by cbv,by cbv⟩ (by cbv) (by cbv) rfl (eL (aa 0)) (λ_ _ _ _ _=>dR) (λ_ _ _ _ _=>(aB aH aI (aa 0) aj (λ_ _=>rfl))) lD.nd rfl rfl)
 (au (de (aR Vj hr rfl (ae (aa 1) (ae (aa 2) ai))))
 (au (aO (i:=3) lD.nd rfl (Or.inl rfl) (aR x9 hr rfl (ae (aa 0) ai)))
 (au (aO (i:=4) lD.nd rfl (Or.inr rfl) (Q0 (aa 1) mG))
 (au (aO (i:=5) lD.nd rfl (Or.inl rfl) (cP (ae (aa 1) ai)))
 (au (kU mW (sg (aa 5) (λ_=>rfl)) (au (aO (i:=6) lD.nd rfl (Or.inl rfl) (sh c9 ma q_ r8 sD (aa 5)))
 (aA (dk mW rfl (eL (aa 3)) (cA (i:=7) lD.nd rfl (Or.inl rfl)) (aA (cE (dH.pt (w_and (bq cz fu (aB aH aI (aa 7) aj (λ_ _=>rfl)) (aa 6) (bp _)) (kR (Nr hu (aB aH aI (aa 7) aj (λ_ _=>rfl)) (aa 4))))) (au (Nv hu (aa 4) (aB aH aI (aa 7) aj (λ_ _=>rfl)) mG rfl)
 (aA (de (dz c9 eC eS dZ eM (aa 5) (ae (aB aH aI (aa 7) aj (λ_ _=>rfl)) ai))))) bZ))))))
 (aA (bc (jt (bE:=aq ku) (N:=["program","name","names","steps","found","pending","sender","step"]) (M:=["found"]) (js:=[4]) ⟨rfl,by cbv,by cbv,by cbv,by cbv,by cbv⟩ (by cbv) (by cbv) rfl (eL (aa 2)) (λ_ _ _ _ _=>(DC (Nq hu (aa 0) (aa 1)))) (λ_ _ _ _ _=>(aa 0))))))))))),?_⟩
 nofun;refine fO (λi=>.str (names.getD i "")) (by rw[ay];lia) (by exact hS) ?_ ?_
 ·intro i d hd P hP;rw[aJ]at hd;obtain⟨e,he,rfl⟩:=b9.mp hd;unfold Er.d;nofun;have:names.getD i ""=e.name:=by rw[<-hnames,bu,aJ,he];rfl
  rw[this]at hP;exact hP
 have en:((aN (prog.map Er.d).length).map λi=>D.str (names.getD i ""))=names.map D.str:=by
  rw[ay,<-hnl];apply fj;intro i;rw[aJ,aJ];by_cases hi:i<names.length
  ·rw[fB hi,aX hi];simp[bu,hi]
  ·rw[b_ (by simpa using hi),b_ (by lia)];rfl
 rw[en];intro nm hnm;have s1:Sub S (up S nm (.lst (names.map D.str))):=(Sub.refl S).up hnm;have k1:up S nm (.lst (names.map D.str)) nm=some (.lst (names.map D.str)):=ao;have z1:S nm=none:=hnm;generalize up S nm (.lst (names.map D.str))=S1 at s1 k1 ⊢;nofun;rw[hnames]at hq GB;refine⟨a,nm,names,rfl,k1,hal,λhin=>?_,λhno x=>⟨s1,GB hno⟩⟩;nofun;refine⟨pr,prog,rfl,s1 _ _ hS,by lia,hf.pre,hf.sends,?_⟩;intro st hst;have s2:=s1.up (o:=.lst ((bQ prog).map gB)) hst;have k2:=aL (o:=.lst ((bQ prog).map gB)) k1 hst;have k3:up S1 st (.lst ((bQ prog).map gB)) st=some (.lst ((bQ prog).map gB)):=ao;generalize up S1 st (.lst ((bQ prog).map gB))=S2 at s2 k2 k3 ⊢;nofun;refine⟨.inr a,rfl,λfd hfd=>?_⟩;have z2:S fd=none:=s2.free hfd;have q1:nm≠fd:=ne3 k2 hfd;have q2:st≠fd:=ne3 k3 hfd;have s3:=s2.up (o:=.bU [(.inr a,.bl true)]) hfd;have k4:=aL (o:=.bU [(.inr a,.bl true)]) k2 hfd;have k5:=aL (o:=.bU [(.inr a,.bl true)]) k3 hfd;have k6:up S2 fd (.bU [(.inr a,.bl true)]) fd=some (.bU (eo [a])):=ao;generalize up S2 fd (.bU [(.inr a,.bl true)])=S3 at s3 k4 k5 k6 ⊢;nofun;intro pd hpd;have z3:S pd=none:=s3.free hpd;have q3:nm≠pd:=ne3 k4 hpd;have q4:st≠pd:=ne3 k5 hpd;have q5:fd≠pd:=ne3 k6 hpd;have s4:=s3.up (o:=.lst [.str a]) hpd;have k7:=aL (o:=.lst [.str a]) k4 hpd;have k8:=aL (o:=.lst [.str a]) k5 hpd;have k9:=aL (o:=.lst [.str a]) k6 hpd;have k10:up S3 pd (.lst [.str a]) pd=some (.lst (([a]:List Str).map D.str)):=ao;generalize up S3 pd (.lst [.str a])=S4 at s4 k7 k8 k9 k10 ⊢;have x_:∀{X:af} {p:Addr} {o:O},Sub S X->S p=none->Sub S (up X p o):=λh hp=>h.at hp;nofun;refine kY (λm σ S'=>jC λ(ks ps:List Str) (x6 x7:Option D)=>σ=[some (.ref pr),some (.str a),some (.ref nm),some (.ref st),some (.ref fd),some (.ref pd),x6,x7]/\S' nm=some (.lst (names.map D.str))/\S' st=some (.lst ((bQ prog).map gB))/\S' fd=some (.bU (eo ks)) /\
  S' pd=some (.lst (ps.map D.str))/\Sub S S'/\gZ (bQ prog) names a ks ps/\m=2*(names.length-ks.length)+ps.length/\ps.length<=ks.length) (2*(names.length-1)+1)
  ⟨[a],[a],none,none,rfl,k7,k8,k9,k10,s4,gZ.start hin,rfl,by simp⟩ ?_
 rintro m σ S' ⟨ks,ps,x6,x7,rfl,m1,m2,m3,m4,m5,hk,hm,nR⟩;have hkl:=hk.len;nofun;rcases snoc_cases ps with rfl|⟨ps,s,rfl⟩
 ·nofun;refine tK (λi=>decide (names.getD i ""∈ks)) (λi=>.str (names.getD i "")) (by rw[ay];lia) (by exact m1) ?_ ?_
  ·intro i d hd;rw[aJ]at hd;obtain⟨x,hx,rfl⟩:=b9.mp hd;have ex:names.getD i ""=x:=by rw[bu,hx];rfl
   rw[ex];refine wQ ⟨λP hP=>?_,λ_ P hP=>?_⟩
   ·nofun;rw[DY];exact hP
   ·nofun;exact hP
  rw[ay,Q5 (p:=λx=>decide (x∈ks))];have ef:names.filter (λx=>decide (x∈ks))=names.filter (m7 (bQ prog) a):=JQ λx _=>by
   rw[eB,decide_eq_true_iff,wX];exact hk.all x
  rw[ef];intro pz hpz;have:=hq hin;unfold x8 at this;rw[hnames]at this;exact⟨pz,_,rfl,m5.free hpz,m5.up hpz,ao,this⟩
 have eb:(!((ps++[s]).map D.str).isEmpty)=true:=by simp
 rw[eb];refine my ?_;rw[b6]at m4;nofun;refine sJ m4 ?_;have n1:up S' pd (.lst (ps.map D.str)) nm=_:=(bH q3).trans m1;have n2:up S' pd (.lst (ps.map D.str)) st=_:=(bH q4).trans m2;have n3:up S' pd (.lst (ps.map D.str)) fd=_:=(bH q5).trans m3;have n4:up S' pd (.lst (ps.map D.str)) pd=_:=ao;have n5:Sub S (up S' pd (.lst (ps.map D.str))):=x_ m5 z3;generalize up S' pd (.lst (ps.map D.str))=S5 at n1 n2 n3 n4 n5 ⊢;simp only[a5,bW,dN]at hm nR;have h2:=hk.pop;nofun;refine⟨λj σ T=>jC λ(ks' ps':List Str) (t:Nat) (x7:Option D)=>σ=[some (.ref pr),some (.str a),some (.ref nm),some (.ref st),some (.ref fd),some (.ref pd),some (.str s),x7]/\T nm=some (.lst (names.map D.str))/\T st=some (.lst ((bQ prog).map gB))/\T fd=some (.bU (eo ks')) /\
  T pd=some (.lst (ps'.map D.str))/\Sub S T/\iN (bQ prog) names a s ((((bQ prog).take j).filter λp=>decide (p.1=s)).map (·.2)) ks' ps'/\ks'.length=ks.length+t/\ps'.length=ps.length+t,
  ⟨ks,ps,0,_,rfl,n1,n2,n3,n4,n5,by simpa using h2,rfl,rfl⟩,λj σ T ⟨_,_,_,_,_,_,h,_⟩=>h,?_,?_⟩
 ·rintro j d σ T hd ⟨ks',ps',t,x7,rfl,o1,o2,o3,o4,o5,hs2,e1,e2⟩;rw[aJ]at hd;obtain⟨p,hp,rfl⟩:=b9.mp hd;have hpm:=cU hp;have htk:(bQ prog).take (j+1)=(bQ prog).take j++[p]:=by rw[ij,hp];rfl
  have hto:=hf.to p hpm;rw[hnames]at hto;have hkn:=jm hs2.nd hs2.nm;unfold gB;by_cases c1:p.1=s
  ·have ef:([p].filter λp=>decide (p.1=s)).map (·.2)=[p.2]:=by simp[c1]
   have eD:(((bQ prog).take (j+1)).filter λp=>decide (p.1=s)).map (·.2)=(((bQ prog).take j).filter λp=>decide (p.1=s)).map (·.2)++[p.2]:=by rw[htk,oB,b6,ef]
   nofun;rw[DY];have Vl:(if true=true then !decide (p.2∈ks') else decide (p.2∈ks'))=!decide (p.2∈ks'):=rfl;rw[Vl];by_cases c2:p.2∈ks'
   ·nofun;exact⟨ks',ps',t,_,rfl,o1,o2,o3,o4,o5,by rw[eD];exact hs2.old c2,e1,e2⟩
   ·nofun;have hlz:(eo ks').length<sizeLine:=by unfold eo;rw[ay];exact qN (bR hkn (show names.length<=100 by lia)) (by decide)
    refine O0 o3 hlz ?_;rw[Q2 c2];have r1:up T fd (.bU (eo (ks'++[p.2]))) nm=_:=(bH q1).trans o1;have r2:up T fd (.bU (eo (ks'++[p.2]))) st=_:=(bH q2).trans o2;have r3:up T fd (.bU (eo (ks'++[p.2]))) fd=_:=ao;have r4:up T fd (.bU (eo (ks'++[p.2]))) pd=_:=(bH (dn q5)).trans o4;have r5:Sub S (up T fd (.bU (eo (ks'++[p.2])))):=x_ o5 z2;generalize up T fd (.bU (eo (ks'++[p.2])))=T2 at r1 r2 r3 r4 r5 ⊢;nofun;refine ee r4 (by rw[ay];exact qN (show ps'.length<=300 by lia) (by decide)) ?_;refine⟨ks'++[p.2],ps'++[p.2],t+1,_,rfl,(bH q3).trans r1,(bH q4).trans r2,(bH q5).trans r3,by rw[ao,b6];rfl,x_ r5 z3,by rw[eD];exact hs2.new (by rw[<-c1];exact hpm) hto c2,by simp;lia,by simp;lia⟩
  ·have ef:([p].filter λp=>decide (p.1=s)).map (·.2)=[]:=by simp[c1]
   have eD:(((bQ prog).take (j+1)).filter λp=>decide (p.1=s)).map (·.2)=(((bQ prog).take j).filter λp=>decide (p.1=s)).map (·.2):=by rw[htk,oB,b6,ef,lV]
   nofun;exact⟨ks',ps',t,_,rfl,o1,o2,o3,o4,o5,by rw[eD];exact hs2,e1,e2⟩
 ·rintro σ T ⟨ks',ps',t,x7,rfl,o1,o2,o3,o4,o5,hs2,e1,e2⟩;rw[ay,ic]at hs2;have hkn:=jm hs2.nd hs2.nm;refine⟨2*(names.length-ks'.length)+ps'.length,by lia,ks',ps',_,_,rfl,o1,o2,o3,o4,o5,hs2.done λy hy=>?_,rfl,by lia⟩;exact bj.mpr ⟨(s,y),lX.mpr ⟨hy,by simp⟩,rfl⟩
def fg(prog:List Er)(a:Str):List (Int×Gr):=(cg (aU prog)).filter λp=>decide (p.2.1∈(prog.map Er.name).filter (m7 (bQ prog) a))
inductive Vm(adr:Rf->Addr)(ds:List D)(S:af)(q:D->af->Prop)(qx:Addr->Prop):Prop where
 |mk (pr:Addr) (prog:List Er) (a:Str) (ar:Str->Option Nat) (_:ds=[.ref pr,.str a]) (_:S pr=some (.lst (prog.map Er.d))) (_:uj prog) (_:a.length<=100) (_:qD ar prog) (_:(a∉prog.map Er.name->qx (adr .such))) (_:(a∈prog.map Er.name->∀F,da (fg prog a)=some F->qz F S q)) (_:(a∈prog.map Er.name->da (fg prog a)=none->qx (adr .many)))
def ya(adr:Rf->Addr):aW:=kq (Vm adr)
theorem Vn{k:Nat}(h:aC K mg "judged_from" lF ["program","name"])(G:Gs K mg)(yb:av P w K mg base k "reached" ["program","name"] (GA adr))(nS:av P w K mg base k "graphs" ["program"] xH)(nU:av P w K mg base k "closure_of" ["numbered"] (xM adr))
 (nW:av P w K mg base k "telling_of" ["pairs"] xR):av P w K mg base (k+1) "judged_from" ["program","name"] (ya adr):=by
 refine h.kq xt (by rintro ds S q qx ⟨_,_,_,_,e,_⟩;rw[e];rfl) λf cdv A outer s0 H E ds S q qx hr hA=>?_;obtain⟨pr,prog,a,ar,rfl,hS,hf,hal,hok,qE,hy',hn'⟩:=hA;refine⟨_,(au (aO (i:=2) xt.nd rfl (Or.inr rfl) (aR yb hr rfl (ae (aa 0) (ae (aa 1) ai))))
 (au (ju (i:=3) (bE:=aq lF) (N:=["program","name","names","numbered"]) (M:=["names"]) (js:=[2]) ⟨rfl,by cbv,by cbv,by cbv,by cbv,by cbv⟩ (by cbv) (by cbv) rfl (Fg rfl G.enumerate (ae (aR nS hr rfl (ae (aa 0) ai)) ai)) (λ_ _ _ _ _=>(DC (bq mw j' (aB aH aI (aB aH aI (aa 0) aj (λ_ _=>rfl)) aj (λ_ _=>rfl)) (aa 1) (by with_unfolding_all rfl)))) (λ_ _ _ _ _=>(aa 0)) xt.nd rfl rfl)
 (aA (bc (aR nW hr rfl (ae (aR nU hr rfl (ae (aa 3) ai)) ai)))))),?_⟩
 have hl:=hok.len;obtain⟨cn,hcn⟩:∃cn,cn=(prog.map Er.name).filter (m7 (bQ prog) a):=⟨_,rfl⟩;have Vo:x8 prog a=cn.map D.str:=by rw[hcn];rfl
 nofun;refine⟨pr,prog,a,rfl,hS,hf,hal,λhin=>?_,λz x=>⟨Sub.refl _,qE z⟩⟩;have hy:=hy' hin;have hn:=hn' hin;rw[Vo];intro pc qB;have g1:=aL (o:=.lst (cn.map D.str)) hS qB;have g2:up S pc (.lst (cn.map D.str)) pc=some (.lst (cn.map D.str)):=ao;have s1:Sub S (up S pc (.lst (cn.map D.str))):=(Sub.refl S).up qB;generalize up S pc (.lst (cn.map D.str))=S1 at g1 g2 s1 ⊢;nofun;refine⟨pr,prog,rfl,g1,hok.gr,by show(aU prog).length<=100000;lia,?_⟩;intro pg ui;have k2:=aL (o:=.lst ((aU prog).map ax)) g2 ui;have k3:up S1 pg (.lst ((aU prog).map ax)) pg=some (.lst ((aU prog).map ax)):=ao;have s2:=s1.up (o:=.lst ((aU prog).map ax)) ui;generalize up S1 pg (.lst ((aU prog).map ax))=S2 at k2 k3 s2 ⊢;nofun;refine tK (λi=>decide ((((aU prog).map ax).length=0∨((aU prog).getD i ("","",[])).1∈cn)/\True)) (λ(i:Nat)=>fw ((i:Int),(aU prog).getD i ("","",[]))) (by rw[lj,ay];lia) (by exact k3) ?_ ?_
 ·intro i d hd;rw[tW,aJ]at hd;obtain⟨d2,hd2,rfl⟩:=b9.mp hd;obtain⟨g,hg,rfl⟩:=b9.mp hd2;have eg:(aU prog).getD i ("","",[])=g:=by rw[bu,hg];rfl
  have hz:¬((aU prog).map ax).length=0:=by rw[ay];have:=(cT.mp hg).1;lia
  rw[eg];refine wQ ⟨λP hP=>?_,λ_ P hP=>?_⟩
  ·unfold ax cL;nofun;have e:decide ((((aU prog).map ax).length=0∨g.1∈cn)/\True)=decide (g.1∈cn):=by
    rw[eB,decide_eq_true_iff,decide_eq_true_iff];exact⟨λz=>z.1.resolve_left hz,λz=>⟨.inr z,trivial⟩⟩
   rw[e]at hP;exact hP
  ·nofun;exact hP
 have el:((aN (eu ((aU prog).map ax)).length).filter λi=>decide ((((aU prog).map ax).length=0∨((aU prog).getD i ("","",[])).1∈cn)/\True)).map (λ(i:Nat)=>fw ((i:Int),(aU prog).getD i ("","",[])))=(fg prog a).map fw:=by
  unfold fg;rw[<-hcn,lj,ay];have e1:cg (aU prog)=(aN (aU prog).length).map λ(i:Nat)=>((i:Int),(aU prog).getD i ("","",[])):=by
   unfold cg;apply fj;intro i;simp only[aJ,Ai];by_cases hi:i<(aU prog).length
   ·rw[fB hi,aX hi];simp[bu,hi]
   ·rw[b_ (by lia),b_ (by simpa using hi)];rfl
  rw[e1,Jx,dq];congr 1;refine JQ λi hi=>?_;have hi':=f_.mp hi;rw[eB,decide_eq_true_iff];simp only[JR,decide_eq_true_iff];exact⟨λz=>z.1.resolve_left (by lia),λz=>⟨.inr z,trivial⟩⟩
 rw[el];intro pn hpn;have s3:=s2.up (o:=.lst ((fg prog a).map fw)) hpn;have k4:up S2 pn (.lst ((fg prog a).map fw)) pn=_:=ao;generalize up S2 pn (.lst ((fg prog a).map fw))=S3 at k4 s3 ⊢;have hsub:∀p∈fg prog a,Gd ar p.2:=λp hp=>hok.gd _ (jr (lX.mp hp).1);have hfl:(fg prog a).length<=1000:=bR (Ab _ _) (by rw[Fu];exact hl);nofun;refine⟨pn,fg prog a,ar,rfl,k4,hfl,hsub,λF eF=>?_,λeF x=>⟨s3,hn eF⟩⟩;intro pf hpf;have hc:=CL.nc eF;nofun;exact⟨pf,F,ar,rfl,ao,hc.ok.len,Gw hsub eF,Gy (hy F eF) (s3.up hpf)⟩
theorem xl{gs:List Gr}{g:Gr}(h:g∈gs):∃n,(n,g)∈cg gs:=by
 obtain⟨i,hi,e⟩:=jN h;refine⟨(i:Int),bj.mpr ⟨(g,i),?_,rfl⟩⟩;exact JI.mpr (by rw[aX hi,e])
theorem Vp{gs:List Gr}{F:CL.Fd Gr}(e:da (cg gs)=some F):(F.map bo).Nodup/\(∀g∈gs,g∈F.map bo)/\∀a∈F.map bo,∀g∈gs,a.2.1=g.1->bO a g∈F.map bo:=by
 have hc:=CL.nc e;refine⟨hc.ok.nd,λg hg=>?_,λa ha g hg hf=>?_⟩
 ·obtain⟨n,hn⟩:=xl hg;exact hc.own _ hn
 ·obtain⟨n,hn⟩:=xl hg;exact hc.up a ha _ hn (decide_eq_true hf)
theorem GC{gs:List Gr}(e:da (cg gs)=none){ks:List Gr}(h0:∀g∈gs,g∈ks)(hn:∀a∈ks,∀g∈gs,a.2.1=g.1->bO a g∈ks):40<ks.length:=by
 rcases Ak 40 ks.length with h|h
 ·exact h
 ·obtain⟨F,eF,_⟩:=CL.RR (fit:=eA) (cmp:=bO) (φ:=λg:Gr=>g) (Gd:=λ_=>True) (C:=ks) (λa b _ _ z=>z) h (nb:=cg gs) (λp hp=>⟨trivial,h0 _ (jr hp)⟩) (λa _ ha p hp hf=>⟨trivial,hn a ha _ (jr hp) (of_decide_eq_true hf)⟩);rw[show CL.gD eA bO (cg gs)=none from e]at eF;cases eF
def kC(r:List Int):DK:=.tup (r.map DK.int)
def hU(g:Gr):DK:=.tup [.str g.1,.str g.2.1,.tup (g.2.2.map kC)]
theorem GD:∀r:List Int,iQ (r.map D.int)=some (r.map DK.int)
 |[]=>rfl
 |x::r=>by simp[iQ,dW,GD r]
theorem GF:∀A:cf,iQ (A.map bh)=some (A.map kC)
 |[]=>rfl
 |r::A=>by simp[iQ,dW,bh,kC,GD r,GF A]
theorem GG(g:Gr):∃ds,ax g=.tup ds/\dW (.tup ds)=some (hU g):=by
 refine⟨_,rfl,?_⟩;simp[dW,iQ,fL,hU,GF]
theorem GH:∀{r r':List Int},r.map DK.int=r'.map DK.int->r=r'
 |[],[],_=>rfl
 |[],_::_,h=>by cases h
 |_::_,[],h=>by cases h
 |x::r,y::r',h=>by
  simp only[ba,oE,DK.int.injEq]at h;rw[h.1,GH h.2]
theorem GI:∀{A B:cf},A.map kC=B.map kC->A=B
 |[],[],_=>rfl
 |[],_::_,h=>by cases h
 |_::_,[],h=>by cases h
 |r::A,r'::B,h=>by
  simp only[ba,oE,kC,DK.tup.injEq]at h;rw[GH h.1,GI (A:=A) (B:=B) h.2]
theorem GJ{g h:Gr}(e:hU g=hU h):g=h:=by
 obtain⟨g1,g2,g3⟩:=g;obtain⟨h1,h2,h3⟩:=h;unfold hU at e;simp only[DK.tup.injEq,oE,DK.str.injEq,and_true]at e;obtain⟨e1,e2,e3⟩:=e;rw[e1,e2,GI e3]
theorem mY{n:Nat}:∀{l:List DK},(∀x∈l,x.deep<=n)->DK.cH l<=n
 |[],_=>by simp[DK.cH]
 |x::l,h=>by
  have h1:=h x b4;have h2:=mY λy hy=>h y (cB _ hy);simp only[DK.cH];lia
theorem GK(g:Gr):(hU g).deep<=4:=by
 have h1:DK.cH (g.2.2.map kC)<=2:=mY λx hx=>by
  obtain⟨r,_,rfl⟩:=bj.mp hx;have h0:DK.cH (r.map DK.int)<=1:=mY λy hy=>by
   obtain⟨z,_,rfl⟩:=bj.mp hy;simp[DK.deep]
  simp only[kC,DK.deep];lia
 simp only[hU,DK.deep,DK.cH];lia
def gT(ks:List Gr):List (DK×D):=ks.map λg=>(hU g,.bl true)
theorem Vq{ks:List Gr}{g:Gr}:(f6 (gT ks) (hU g)).isSome=decide (g∈ks):=by
 rw[eB,decide_eq_true_iff];unfold f6;rw[uF,List.find?_isSome];constructor
 ·rintro⟨x,hx,e⟩;obtain⟨q,hq,rfl⟩:=bj.mp hx;rw[<-GJ (of_decide_eq_true e)];exact hq
 ·intro h;exact⟨_,iW (f:=λg=>(hU g,D.bl true)) h,by simp⟩
theorem Vr{ks:List Gr}{g:Gr}(h:g∉ks):ll (gT ks) (hU g) (.bl true)=gT (ks++[g]):=by
 unfold ll;rw[if_neg,gT,gT,b6]
 ·rfl
 ·intro z;obtain⟨x,hx,e⟩:=ox.mp z;obtain⟨q,hq,rfl⟩:=bj.mp hx;rw[GJ (of_decide_eq_true e)]at hq;exact h hq
section
variable{S:af}{Q:K3}{n:aE->af->Prop}{σ:aE}
theorem GL{neg:Bool}{a:Addr}{ks:List Gr}{g:Gr}(hS:S a=some (.tab (gT ks)))(q:Q (.bl (if neg then !decide (g∈ks) else decide (g∈ks))) S):qk neg Q (.ref a) (ax g) S:=by
 obtain⟨ds,e1,e2⟩:=GG g;rw[e1];exact Th hS e2 (GK g) (by rw[Vq];exact q)
theorem GN{a:Addr}{ks:List Gr}{g:Gr}(hS:S a=some (.tab (gT ks)))(hz:ks.length<=10000)(hg:g∉ks)(q:n σ (up S a (.tab (gT (ks++[g]))))):ql n σ (.bl true) (.ref a) (ax g) S:=by
 obtain⟨ds,e1,e2⟩:=GG g;rw[e1];exact Ti hS e2 (GK g) (by unfold gT;rw[ay];exact fc (by lia)) (by rw[Vr hg];exact q)
end
theorem Vs{a b:Int}(ha:0<=a)(hb:0<=b):a*b>0↔¬(a=0∨b=0):=by
 constructor
 ·intro h z;rcases z with rfl|rfl<;>simp at h
 ·intro h;have h1:0<a:=by lia
  have h2:0<b:=by lia
  exact Int.mul_pos h1 h2
inductive Vt (ds:List D)(q:D->Prop):Prop where
 |mk (f t f' t':Str) (A B:cf) (m n p:Nat) (_:ds=[cL f t A,cL f' t' B]) (_:Mt m n A) (_:Mt n p B) (_:0<n) (_:m<=1000) (_:n<=1000) (_:p<=1000) (_:q (cL f t' (gC A B)))
def GO :aW:=vS Vt
theorem Vu{k:Nat}(h:aC K mg "_law_compose" nG ["one","other"])(G:Gs K mg):av P w K mg base (k+1) "_law_compose" ["one","other"] GO:=by
 refine h.val kx (by rintro ds q ⟨_,_,_,_,_,_,_,_,_,e,_⟩;rw[e];rfl) λf cdv A outer s0 H E ds q hr hA=>?_;obtain⟨fr,t,f',t',A',B,m,n,p,rfl,hA,hB,hn,hm',hn',hp',hq⟩:=hA;have hAl:=hA.len;have hBl:=hB.len;refine⟨_,(au (aO (i:=2) kx.nd rfl (Or.inl rfl) (cP ai))
 (au (dk dg rfl (j_ (aB aH aI (aa 0) aj (λ_ _=>rfl))) (cA (i:=3) kx.nd rfl (Or.inl rfl)) (au (aO (i:=4) kx.nd rfl (Or.inl rfl) (cP ai))
 (au (dk dg rfl (gQ rfl G.range (ae (cK fq fv rfl G.len eE (ae (aB aH aI (aB aH aI (aa 1) aj (λ_ _=>rfl)) aj (λ_ _=>rfl)) ai)) ai)) (cA (i:=5) kx.nd rfl (Or.inl rfl)) (au (aO (i:=6) kx.nd rfl (Or.inl rfl) aj)
 (au (dk dg rfl (gQ rfl G.range (ae (cK fq fv rfl G.len eE (ae (aa 3) ai)) ai)) (cA (i:=7) kx.nd rfl (Or.inl rfl)) (aA (cE (bq vo jg (aM AJ a_ (aB aH aI (aa 3) (aa 7) (λ_ _=>rfl)) (aB aH aI (aB aH aI (aB aH aI (aa 1) aj (λ_ _=>rfl)) (aa 7) (λ_ _=>rfl)) (aa 5) (λ_ _=>rfl))) aj (bp _)) (aA (aO (i:=6) kx.nd rfl (Or.inl rfl) (cK (Qy rfl) QF rfl G.max boot_max (ae (aa 6) (ae (aB aH aI (aa 3) (aa 7) (λ_ _=>rfl)) (ae (aB aH aI (aB aH aI (aB aH aI (aa 1) aj (λ_ _=>rfl)) (aa 7) (λ_ _=>rfl)) (aa 5) (λ_ _=>rfl)) ai)))))) bZ)))
 (aA (de (dz c9 eC eS dZ eM (aa 4) (ae (aa 6) ai)))))))
 (aA (de (dz c9 eC eS dZ eM (aa 2) (ae (ft gn gy rfl G.tuple gG (ae (aa 4) ai)) ai)))))))
 (aA (bc (bD (ae (aB aH aI (aa 0) aj (λ_ _=>rfl)) (ae (aB aH aI (aa 1) aj (λ_ _=>rfl)) (ae (ft gn gy rfl G.tuple gG (ae (aa 2) ai)) ai)))))))),?_⟩
 nofun;intro p1 hp1;nofun;refine⟨λi σ S=>qr λx3 x4 x5 x6 x7=>σ=[some (cL fr t A'),some (cL f' t' B),some (.ref p1),x3,x4,x5,x6,x7]/\S p1=some (.lst ((gC (A'.take i) B).map bh)),⟨_,_,_,_,_,rfl,by simp[gC,ao]⟩,λ_ _ _ _=>trivial,?turn,?done⟩
 case turn =>
  rintro i d σ S hd ⟨x3,x4,x5,x6,x7,rfl,k1⟩;rw[aJ]at hd;obtain⟨row,hrow,rfl⟩:=b9.mp hd;have hmem:=cU hrow;have hrl:=hA.row row hmem;have hrn:=hA.num row hmem;nofun;intro p2 hp2;have Vv:p1≠p2:=ne3 k1 hp2;have k2:=aL (o:=.lst []) k1 hp2;have k3:up S p2 (.lst []) p2=some (.lst []):=ao;nofun;generalize up S p2 (.lst [])=S1 at k2 k3 ⊢;have h0:(B.getD 0 []).length=p:=hB.row _ (qa (by lia));refine tM (k:=0) rfl (by lia) ?_;nofun;rw[h0];refine⟨λk σ S=>nN λx5 x6 x7=>σ=[some (cL fr t A'),some (cL f' t' B),some (.ref p1),some (bh row),some (.ref p2),x5,x6,x7]/\S p1=some (.lst ((gC (A'.take i) B).map bh))/\S p2=some (.lst (((aN k).map λk=>dot row B k).map D.int)),
   ⟨_,_,_,rfl,k2,k3⟩,λ_ _ _ _=>trivial,?_,?_⟩
  ·rintro k d σ S hd ⟨x5,x6,x7,rfl,m1,m2⟩;obtain⟨hk,rfl⟩:=fJ hd;rw[fi]at hk;nofun;refine⟨λj σ S'=>∃x7,σ=[some (cL fr t A'),some (cL f' t' B),some (.ref p1),some (bh row),some (.ref p2),some (.int (0+(k:Int))),some (.int (dS (λj=>jn (row.getD j 0) (at2 B j k)) j)),x7]/\S'=S,⟨_,rfl,rfl⟩,λ_ _ _ _=>trivial,?_,?_⟩
   ·rintro j d σ S' hd ⟨x7,rfl,rfl⟩;obtain⟨hj,rfl⟩:=fJ hd;rw[fi]at hj;have hjB:j<B.length:=by lia
    have a1:=tL hrn j;have a2:=hB.at j k;have hkl:k<(B.getD j []).length:=by rw[hB.row _ (qa hjB)];exact hk
    have nn:0<=dS (λj=>jn (row.getD j 0) (at2 B j k)) j:=wV;have qE:dS (λj=>jn (row.getD j 0) (at2 B j k)) (j+1)=max (dS (λj=>jn (row.getD j 0) (at2 B j k)) j) (jn (row.getD j 0) (at2 B j k)):=QK;obtain⟨best,hbest⟩:∃best,dS (λj=>jn (row.getD j 0) (at2 B j k)) j=best:=⟨_,rfl⟩;rw[hbest]at nn qE ⊢;have mg:=Vs a1.1 a2.1;nofun;refine tN (k:=j) (by lia) hj ?_;nofun;refine tM (k:=j) (by lia) hjB ?_;nofun;refine tN (k:=k) (by lia) hkl ?_;refine C7 (.inl ⟨by lia,by lia⟩) ?_;have ea:(B.getD j []).getD k 0=at2 B j k:=rfl;rw[ea];by_cases hz:row.getD j 0=0∨at2 B j k=0
    ·have hz':¬row.getD j 0*at2 B j k>0:=λz=>mg.mp z hz;nofun;refine⟨some (.int (0+(j:Int))),?_,rfl⟩;have:max best (jn (row.getD j 0) (at2 B j k))=best:=by
      unfold jn;rw[if_pos hz];lia
     rw[qE,this];rfl
    ·have hz':row.getD j 0*at2 B j k>0:=mg.mpr hz;nofun;refine tN (k:=j) (by lia) hj ?_;nofun;refine tM (k:=j) (by lia) hjB ?_;nofun;refine tN (k:=k) (by lia) hkl ?_;nofun;refine⟨some (.int (0+(j:Int))),?_,rfl⟩;have:max (max best (row.getD j 0)) (at2 B j k)=max best (jn (row.getD j 0) (at2 B j k)):=by
      unfold jn;rw[if_neg hz]
      split<;>lia
     rw[qE,<-this];rfl
   ·rintro σ S' ⟨x7,rfl,rfl⟩;rw[dI,fi];nofun;refine ee m2 (by rw[ay,ay,qO];exact cR (show k<1001 by lia) (by decide)) ?_;refine⟨_,_,_,rfl,?_,?_⟩
    ·rw[bH Vv];exact m1
    ·rw[ao,qX,b6,b6];rfl
  ·rintro σ S ⟨x5,x6,x7,rfl,m1,m2⟩;rw[dI,fi]at m2;nofun;have hlt:i<A'.length:=(cT.mp hrow).1;refine ee m1 (by rw[ay,gC,ay,c8];exact cR (show min i A'.length<1001 by lia) (by decide)) ?_;refine⟨_,_,_,_,_,rfl,?_⟩;rw[ao,ij,hrow];simp only[gC,b6,Option.toList,ba,fR,hB.head hn,bh]
 rintro σ S ⟨x3,x4,x5,x6,x7,rfl,k1⟩;rw[ay,ic]at k1;nofun;exact hq
structure Gk(ar:Str->Option Nat)(gs ks ps:List Gr):Prop where
 nd:ks.Nodup
 gd:∀x∈ks,Gd ar x
 sub:∀x∈ps,x∈ks
 mn:∀C:List Gr,(∀g∈gs,g∈C)->(∀a∈C,∀g∈gs,a.2.1=g.1->bO a g∈C)->∀x∈ks,x∈C
theorem Gk.put{ar:Str->Option Nat}{gs ks ps:List Gr}{x:Gr}(h:Gk ar gs ks ps)(hx:x∉ks)(hg:Gd ar x)(hm:∀C:List Gr,(∀g∈gs,g∈C)->(∀a∈C,∀g∈gs,a.2.1=g.1->bO a g∈C)->x∈C):Gk ar gs (ks++[x]) (ps++[x]):=by
 have two:∀{l:List Gr} {y:Gr},y∈l++[x]->y∈l∨y=x:=λhy=>by
  rcases bI.mp hy with z|z
  ·exact .inl z
  ·exact .inr (b5.mp z)
 refine⟨?_,λy hy=>?_,λy hy=>?_,λC h1 h2 y hy=>?_⟩
 ·rw[uX];refine⟨h.nd,by simp,λa ha b hb=>?_⟩;rw[b5.mp hb];rintro rfl;exact hx ha
 ·rcases two hy with z|z
  ·exact h.gd y z
  ·rw[z];exact hg
 ·rcases two hy with z|z
  ·exact dE _ (h.sub y z)
  ·rw[z];exact df _ (by simp)
 ·rcases two hy with z|z
  ·exact h.mn C h1 h2 y z
  ·rw[z];exact hm C h1 h2
inductive Vw (ds:List D)(S:af)(q:D->Prop):Prop where
 |mk (po:Addr) (gs:List Gr) (ar:Str->Option Nat) (most:Nat) (_:ds=[.ref po,.int (most:Int)]) (_:S po=some (.lst (gs.map ax))) (_:(∀g∈gs,Gd ar g)) (_:gs.length<=1000) (_:most<=1000) (_:∀ks:List Gr,ks.Nodup->(∀g∈gs,g∈ks)->(∀C:List Gr,(∀g∈gs,g∈C)->(∀a∈C,∀g∈gs,a.2.1=g.1->bO a g∈C)->∀x∈ks,x∈C)->(ks.length<=most->∀a∈ks,∀g∈gs,a.2.1=g.1->bO a g∈ks)->q (.int (ks.length:Int)))
def yc :aW:=gA Vw
theorem Vx{k:Nat}(h:aC K mg "_law_graph_count" nJ ["own","most"])(G:Gs K mg)(yd:av P w K mg base k "_law_compose" ["one","other"] GO):av P w K mg base (k+1) "_law_graph_count" ["own","most"] yc:=by
 refine h.gA lP (by rintro ds S q ⟨_,_,_,_,e,_⟩;rw[e];rfl) λf cdv A outer s0 H E ds S q hr hA=>?_;obtain⟨po,gs,ar,most,rfl,hS,hgd,Vk,Vy,hq⟩:=hA;have hu:=Bk hr;refine⟨_,(au (aO (i:=2) lP.nd rfl (Or.inl rfl) Tc)
 (au (aO (i:=3) lP.nd rfl (Or.inl rfl) (cP ai))
 (au (dk dg rfl (eL (aa 0)) (cA (i:=4) lP.nd rfl (Or.inl rfl)) (aA (cE (FF hu (aa 4) (aa 2)) (au (FH hu (aa 2) (aa 4) mG rfl)
 (aA (de (dz c9 eC eS dZ eM (aa 3) (ae (aa 4) ai))))) bZ)))
 (au (kU dg (dH.pt (w_and (sg (aa 3) (λ_=>rfl)) (kR (bq LC jg (cK Fx FJ rfl G.len eE (ae (aa 2) ai)) (aa 1) (bp _))))) (au (aO (i:=4) lP.nd rfl (Or.inl rfl) (sh c9 ma q_ r8 sD (aa 3)))
 (aA (dk dg rfl (eL (aa 0)) (cA (i:=5) lP.nd rfl (Or.inl rfl)) (aA (cE (bq cz fu (aB aH aI (aa 5) aj (λ_ _=>rfl)) (aB aH aI (aa 4) aj (λ_ _=>rfl)) (bp _)) (au (aO (i:=6) lP.nd rfl (Or.inl rfl) (aR yd hr rfl (ae (aa 4) (ae (aa 5) ai))))
 (aA (cE (FF hu (aa 6) (aa 2)) (au (FH hu (aa 2) (aa 6) mG rfl)
 (aA (de (dz c9 eC eS dZ eM (aa 3) (ae (aa 6) ai))))) bZ))) bZ))))))
 (aA (bc (cK Fx FJ rfl G.len eE (ae (aa 2) ai)))))))),?_⟩
 nofun;intro sn hsn;have hS1:=aL (o:=.tab []) hS hsn;have h1:up S sn (.tab []) sn=some (.tab (gT [])):=ao;have z1:po≠sn:=ne3 hS hsn;have s1:Sub S (up S sn (.tab [])):=(Sub.refl S).up hsn;generalize up S sn (.tab [])=S1 at h1 s1 hS1 ⊢;nofun;intro td htd;have z2:S td=none:=s1.free htd;have z3:sn≠td:=ne3 h1 htd;have z4:po≠td:=ne3 hS1 htd;have s2:=s1.up (o:=.lst []) htd;have h2:=aL (o:=.lst []) h1 htd;have h3:up S1 td (.lst []) td=some (.lst (([]:List Gr).map ax)):=ao;generalize up S1 td (.lst [])=S2 at s2 h2 h3 ⊢;have hS2:=s2 _ _ hS;nofun;refine⟨λj σ S'=>jB λ(ks:List Gr) (x4:Option D)=>σ=[some (.ref po),some (.int (most:Int)),some (.ref sn),some (.ref td),x4,none,none]/\Sub S S'/\S' sn=some (.tab (gT ks))/\S' td=some (.lst (ks.map ax))/\Gk ar gs ks ks/\(∀g∈gs.take j,g∈ks)/\ks.length<=j,
  ⟨[],none,rfl,s2,h2,h3,⟨by simp,by simp,by simp,by simp⟩,by simp,by simp⟩,λj σ S' ⟨_,_,_,h,_⟩=>h _ _ hS,?_,?_⟩
 ·rintro j d σ S' hd ⟨ks,x4,rfl,m1,m2,m3,hk,hin,hkl⟩;rw[aJ]at hd;obtain⟨g,hg,rfl⟩:=b9.mp hd;have qF:=cU hg;have hjl:=(cT.mp hg).1;have htk:gs.take (j+1)=gs.take j++[g]:=by rw[ij,hg];rfl
  nofun;refine GL m2 ?_;by_cases c:g∈ks
  ·rw[decide_eq_true c];nofun;refine⟨ks,_,rfl,m1,m2,m3,hk,λx hx=>?_,by lia⟩;rw[htk]at hx;rcases bI.mp hx with hx|hx
   ·exact hin x hx
   ·rw[b5.mp hx];exact c
  ·rw[decide_eq_false c];nofun;refine GN m2 (by lia) c ?_;have u1:Sub S (up S' sn (.tab (gT (ks++[g])))):=m1.at hsn;have u2:up S' sn (.tab (gT (ks++[g]))) sn=_:=ao;have u3:up S' sn (.tab (gT (ks++[g]))) td=_:=(bH z3.symm).trans m3;generalize up S' sn (.tab (gT (ks++[g])))=T2 at u1 u2 u3 ⊢;nofun;refine ee u3 (by rw[ay];exact fc (by lia)) ?_;refine⟨ks++[g],_,rfl,u1.at z2,by rw[bH z3];exact u2,by rw[ao,b6];rfl,hk.put c (hgd g qF) λC h1 _=>h1 g qF,λx hx=>?_,by rw[a5,l_];lia⟩;rw[htk]at hx;rcases bI.mp hx with hx|hx
   ·exact dE _ (hin x hx)
   ·exact df _ hx
 rintro σ S3 ⟨ks,x4,rfl,m1,m2,m3,hk,hin,hkl⟩;rw[ay]at hin hkl;rw[ic]at hin;nofun;refine kY (λm σ S'=>qr λ(ks ps:List Gr) (x4 x5 x6:Option D)=>σ=[some (.ref po),some (.int (most:Int)),some (.ref sn),some (.ref td),x4,x5,x6]/\Sub S S'/\S' sn=some (.tab (gT ks))/\S' td=some (.lst (ps.map ax))/\Gk ar gs ks ps/\(∀g∈gs,g∈ks) /\
  (∀x∈ks,x∉ps->∀g∈gs,x.2.1=g.1->bO x g∈ks)/\ks.length<=most+gs.length/\ps.length<=ks.length/\m=2*(most+gs.length-ks.length)+ps.length) _
  ⟨ks,ks,_,_,_,rfl,m1,m2,m3,hk,hin,λx hx hn=>absurd hx hn,by lia,aQ _,rfl⟩ ?_
 clear m1 m2 m3 hk hin hkl;rintro m σ S' ⟨ks,ps,x4,x5,x6,rfl,m1,m2,m3,hk,hin,hcl,hkb,nR,hm'⟩;have stop:(ks.length<=most->ps=[])->q (.int (ks.length:Int)):=λhz=>hq ks hk.nd hin hk.mn λz a ha g hg hf=>hcl a ha (by rw[hz z];simp) g hg hf;have hkl:(gT ks).length=ks.length:=by unfold gT;rw[ay]
 nofun;rcases snoc_cases ps with rfl|⟨ps,p,rfl⟩
 ·nofun;refine xn m2 ?_;nofun;rw[hkl];exact⟨m1,stop λ_=>rfl⟩
 have eb:(!((ps++[p]).map ax).isEmpty)=true:=by simp
 rw[eb];nofun;refine xn m2 ?_;rw[hkl];by_cases c0:(ks.length:Int)<=(most:Int)
 rotate_left
 ·nofun;refine xn m2 ?_;nofun;rw[hkl];exact⟨m1,stop λz=>absurd z (by lia)⟩
 nofun;rw[b6]at m3;have hpm:p∈ks:=hk.sub p (by simp);have abn:ps.length+1<=ks.length:=by simpa using nR
 refine sJ m3 ?_;have n1:Sub S (up S' td (.lst (ps.map ax))):=m1.at z2;have n2:up S' td (.lst (ps.map ax)) sn=_:=(bH z3).trans m2;have n3:up S' td (.lst (ps.map ax)) td=_:=ao;generalize up S' td (.lst (ps.map ax))=S4 at n1 n2 n3 ⊢;have n4:=n1 _ _ hS;have GP:=hk.gd p hpm;nofun;refine⟨λj σ T=>qr λ(ks' ps':List Gr) (c:Nat) (x5 x6:Option D)=>σ=[some (.ref po),some (.int (most:Int)),some (.ref sn),some (.ref td),some (ax p),x5,x6]/\Sub S T/\T sn=some (.tab (gT ks'))/\T td=some (.lst (ps'.map ax)) /\
  Gk ar gs ks' ps'/\(∀g∈gs,g∈ks')/\p∈ks'/\(∀x∈ks',x∉ps'->x≠p->∀g∈gs,x.2.1=g.1->bO x g∈ks')/\(∀g∈gs.take j,p.2.1=g.1->bO p g∈ks')/\ks'.length=ks.length+c/\ps'.length=ps.length+c/\c<=j,
  ⟨ks,ps,0,_,_,rfl,n1,n2,n3,⟨hk.nd,hk.gd,λx hx=>hk.sub x (dE _ hx),hk.mn⟩,hin,hpm,λx hx hn hne=>hcl x hx λz=>?_,by simp,rfl,rfl,aQ _⟩,λj σ T ⟨_,_,_,_,_,_,h,_⟩=>h _ _ hS,?_,?_⟩
 ·rcases bI.mp z with z|z
  ·exact hn z
  ·exact hne (b5.mp z)
 ·rintro j d σ T hd ⟨ks',ps',c,x5,x6,rfl,o1,o2,o3,hk',qG,hp',hcl',hdn,e1,e2,hcj⟩;rw[aJ]at hd;obtain⟨g,hg,rfl⟩:=b9.mp hd;have qF:=cU hg;have hjl:=(cT.mp hg).1;have htk:gs.take (j+1)=gs.take j++[g]:=by rw[ij,hg];rfl
  have more:∀{l:List Gr},(∀x∈gs.take j,p.2.1=x.1->bO p x∈l)->(p.2.1=g.1->bO p g∈l)->∀x∈gs.take (j+1),p.2.1=x.1->bO p x∈l:=λ{l} a b x hx=>by
   rw[htk]at hx;rcases bI.mp hx with hx|hx
   ·exact a x hx
   ·rw[b5.mp hx];exact b
  unfold ax;by_cases hf:g.1=p.2.1
  rotate_left
  ·nofun;exact⟨ks',ps',c,_,_,rfl,o1,o2,o3,hk',qG,hp',hcl',more hdn λz=>absurd z.symm hf,e1,e2,by lia⟩
  have GQ:=hgd g qF;obtain⟨m,c',q1,q2,p1,p2,p3,p4,hM⟩:=GP.ex;obtain⟨m',c2,Vz,q2',p1',F7,p3',p4',hM'⟩:=GQ.ex;rw[<-hf,Vz]at q2;cases q2;nofun;refine⟨p.1,p.2.1,g.1,g.2.1,p.2.2,g.2.2,m,c',c2,rfl,hM,hM',by lia,by lia,by lia,by lia,?_⟩;nofun;show qk true _ _ (ax (bO p g)) _;refine GL o2 ?_;by_cases c3:bO p g∈ks'
  ·rw[decide_eq_true c3];nofun;exact⟨ks',ps',c,_,_,rfl,o1,o2,o3,hk',qG,hp',hcl',more hdn λ_=>c3,e1,e2,by lia⟩
  ·rw[decide_eq_false c3];nofun;show ql _ _ _ _ (ax (bO p g)) _;refine GN o2 (by lia) c3 ?_;have u1:Sub S (up T sn (.tab (gT (ks'++[bO p g])))):=o1.at hsn;have u2:up T sn (.tab (gT (ks'++[bO p g]))) sn=_:=ao;have u3:up T sn (.tab (gT (ks'++[bO p g]))) td=_:=(bH z3.symm).trans o3;generalize up T sn (.tab (gT (ks'++[bO p g])))=T2 at u1 u2 u3 ⊢;nofun;refine ee u3 (by rw[ay];exact fc (by lia)) ?_;refine⟨ks'++[bO p g],ps'++[bO p g],c+1,_,_,rfl,u1.at z2,by rw[bH z3];exact u2,by rw[ao,b6];rfl,hk'.put c3 (GP.cmp GQ hf.symm) λC h1 h2=>h2 p (hk'.mn C h1 h2 p hp') g qF hf.symm,λx hx=>dE _ (qG x hx),dE _ hp',λx hx hn hne y hy VA=>?_,more (λx hx hfx=>dE _ (hdn x hx hfx)) λ_=>df _ (by simp),by simp;lia,by simp;lia,by lia⟩;rcases bI.mp hx with hx|hx
   ·exact dE _ (hcl' x hx (λz=>hn (dE _ z)) hne y hy VA)
   ·exact absurd (df _ hx) hn
 ·rintro σ T ⟨ks',ps',c,x5,x6,rfl,o1,o2,o3,hk',qG,hp',hcl',hdn,e1,e2,hcj⟩;rw[ay]at hcj hdn;rw[ic]at hdn;rw[a5,l_]at hm';refine⟨_,?_,ks',ps',_,_,_,rfl,o1,o2,o3,hk',qG,λx hx hn g hg hf=>?_,by lia,by lia,rfl⟩
  ·lia
  ·by_cases hxp:x=p
   ·subst hxp;exact hdn g hg hf
   ·exact hcl' x hx hn hxp g hg hf
theorem GR{α β:Type}{f:α->β}:∀(l:List α) (k:Nat),(l.map f).eraseIdx k=(l.eraseIdx k).map f
 |[],_=>rfl
 |_::_,0=>rfl
 |x::l,k+1=>by rw[ba,zI,zI,ba,GR l k]
def Ord(pp:List Str)(as:List Sy):Prop:=as.length=pp.length/\∀s∈as,∃x∈pp,s=.name x∨s=.left (.name x)
inductive VB (ds:List D)(S:af)(q:D->Prop):Prop where
 |mk (c:Int) (a:Addr) (pp:List Str) (_:ds=[.int c,.ref a]) (_:S a=some (.lst (pp.map D.str))) (_:pp.length<=4) (_:∀as:List Sy,Ord pp as->q (.tup (as.map Sy.d)))
def GS :aW:=gA VB
theorem VC{k:Nat}(h:aC K mg "_law_order" nK ["cell","params"])(G:Gs K mg):av P w K mg base (k+1) "_law_order" ["cell","params"] GS:=by
 refine h.gA kz (by rintro ds S q ⟨_,_,_,e,_⟩;rw[e];rfl) λf cdv A outer s0 H E ds S q hr hA=>?_;obtain⟨c,a,pp,rfl,hS,hl,hq⟩:=hA;refine⟨_,(au (aO (i:=2) kz.nd rfl (Or.inl rfl) (ft Mo NO rfl G.list boot_list (ae (aa 1) ai)))
 (au (aO (i:=3) kz.nd rfl (Or.inl rfl) (cP ai))
 (au (dk dg rfl (gQ rfl G.range (ae (cK fq fv rfl G.len eE (ae (aa 1) ai)) ai)) (cA (i:=4) kz.nd rfl (Or.inl rfl)) (au (aO (i:=5) kz.nd rfl (Or.inl rfl) (bD (ae bb (ae (dz c9 ma q_ Mz Ts (aa 2) (ae (aM cN a_ (aa 0) (cK fq fv rfl G.len eE (ae (aa 2) ai))) ai)) ai))))
 (au (aO (i:=0) kz.nd rfl (Or.inl rfl) (aM dG a_ (aa 0) aj))
 (au (iM (bq cz fK (aM cN a_ (aa 0) aj) aj (bp _)) (aA (aO (i:=5) kz.nd rfl (Or.inl rfl) (bD (ae bb (ae (aa 5) ai))))) bZ)
 (au (aO (i:=0) kz.nd rfl (Or.inl rfl) (aM dG a_ (aa 0) aj))
 (aA (de (dz c9 eC eS dZ eM (aa 3) (ae (aa 5) ai)))))))))
 (aA (bc (ft gn gy rfl G.tuple gG (ae (aa 3) ai))))))),?_⟩
 nofun;intro pl hpl;have a1:=aL (o:=.lst (pp.map D.str)) hS hpl;have a2:up S pl (.lst (pp.map D.str)) pl=_:=ao;have s1:Sub S (up S pl (.lst (pp.map D.str))):=(Sub.refl S).up hpl;generalize up S pl (.lst (pp.map D.str))=S1 at a1 a2 s1 ⊢;nofun;intro pf hpf;have z1:S pf=none:=s1.free hpf;have n1:pl≠pf:=ne3 a2 hpf;have b1:=aL (o:=.lst []) a1 hpf;have b2:=aL (o:=.lst []) a2 hpf;have b3:up S1 pf (.lst []) pf=some (.lst (([]:List Sy).map Sy.d)):=ao;have s2:=s1.up (o:=.lst []) hpf;generalize up S1 pf (.lst [])=S2 at b1 b2 b3 s2 ⊢;have hlen:(pp.map D.str).length=pp.length:=ay _;nofun;refine⟨λj σ S'=>qr λ(c:Int) (left:List Str) (as:List Sy) (x4 x5:Option D)=>σ=[some (.int c),some (.ref a),some (.ref pl),some (.ref pf),x4,x5]/\Sub S S'/\S' pl=some (.lst (left.map D.str))/\S' pf=some (.lst (as.map Sy.d))/\as.length=j/\left.length+j=pp.length/\(∀x∈left,x∈pp)/\∀s∈as,∃x∈pp,s=.name x∨s=.left (.name x),
  ⟨c,pp,[],_,_,rfl,s2,b2,b3,rfl,rfl,λx hx=>hx,by simp⟩,λ_ _ _ _=>trivial,?_,?_⟩
 ·rintro j d σ S' hd ⟨c,left,as,x4,x5,rfl,m1,m2,m3,hal,hll,hin,has⟩;obtain⟨hj,rfl⟩:=fJ hd;rw[fi,ay]at hj;have hl0:0<left.length:=by lia
  have abo:(0:Int)<((left.map D.str).length:Int):=by rw[ay];lia
  obtain⟨jx,x,VD,hjl,hjx⟩:=PX (xs:=left) c hl0;have hx:x∈pp:=hin x (cU hjx);nofun;refine Tt (k:=jx) (y:=.str x) (by rw[ay];exact VD) m2 (by lia) (by rw[aJ,hjx];rfl) ?_;have e1:(left.map D.str).eraseIdx jx=(left.eraseIdx jx).map D.str:=GR _ _;rw[e1];have u1:Sub S (up S' pl (.lst ((left.eraseIdx jx).map D.str))):=m1.at hpl;have u2:up S' pl (.lst ((left.eraseIdx jx).map D.str)) pl=_:=ao;have u3:up S' pl (.lst ((left.eraseIdx jx).map D.str)) pf=_:=(bH n1.symm).trans m3;generalize up S' pl (.lst ((left.eraseIdx jx).map D.str))=T at u1 u2 u3 ⊢;nofun;refine p_ (λσ T'=>nN λ(c:Int) (s:Sy) (x4:Option D)=>σ=[some (.int c),some (.ref a),some (.ref pl),some (.ref pf),x4,some s.d]/\T'=T/\(s=.name x∨s=.left (.name x))) ?_ ?_
  ·intro n' hn';by_cases c5:c/4%5=1
   ·nofun;exact hn' _ _ ⟨_,.left (.name x),_,rfl,rfl,.inr rfl⟩
   ·nofun;exact hn' _ _ ⟨_,.name x,_,rfl,rfl,.inl rfl⟩
  rintro σ T' ⟨c,s,x4,rfl,rfl,VE⟩;nofun;refine ee u3 (by rw[ay];exact fc (by lia)) ?_;refine⟨_,left.eraseIdx jx,as++[s],_,_,rfl,u1.at z1,(bH n1).trans u2,by rw[ao,b6];rfl,by simp[hal],?_,λy hy=>hin y (List.mem_of_mem_eraseIdx hy),λy hy=>?_⟩
  ·rw[List.length_eraseIdx_of_lt hjl];lia
  ·rcases bI.mp hy with hy|hy
   ·exact has y hy
   ·rw[b5.mp hy];exact⟨x,hx,VE⟩
 ·rintro σ S' ⟨c,left,as,x4,x5,rfl,m1,m2,m3,hal,hll,hin,has⟩;rw[dI,fi,ay]at hal;nofun;exact⟨m1,hq as ⟨hal,has⟩⟩
inductive VF (ds:List D)(S:af)(q:D->Prop):Prop where
 |mk (way:Int) (pr:Addr) (prog:List Er) (a:Str) (ar:Str->Option Nat) (_:ds=[.int way,.ref pr,.str a]) (_:S pr=some (.lst (prog.map Er.d))) (_:qD ar prog) (_:uj prog) (_:a.length<=100) (_:(way=0->(∀F,da (cg (aU prog))=some F->q (.int (F.length:Int)))/\(da (cg (aU prog))=none->q (.int (-1))))) (_:(way=1->(∀F,da (cg (aU prog))=some F->q (.int 2))/\(da (cg (aU prog))=none->q (.int (-1))))) (_:(way≠0->way≠1->(a∉prog.map Er.name->q (.int (-3)))/\(a∈prog.map Er.name->(∀F,da (fg prog a)=some F->q (.int 2))/\(da (fg prog a)=none->q (.int (-1))))))
def ye :aW:=gA VF
theorem VG{k:Nat}(h:aC K mg "_law_asked" nM ["way","program","name"])(G:Gs K mg)(R:fb K mg ES adr)(nV:av P w K mg base k "closure" ["program"] (xZ adr))(yf:av P w K mg base k "judged" ["program"] (Gz adr))(nX:av P w K mg base k "judged_from" ["program","name"] (ya adr)) :
 av P w K mg base (k+1) "_law_asked" ["way","program","name"] ye:=by
 refine h.gA jy (by rintro ds S q ⟨_,_,_,_,_,e,_⟩;rw[e];rfl) λf cdv A outer s0 H E ds S q hr hA=>?_;obtain⟨way,pr,prog,a,ar,rfl,hS,hok,hf,hal,h0,h1,h2⟩:=hA;refine⟨_,(au (aO (i:=3) jy.nd rfl (Or.inl rfl) aj)
 (au (PF rfl rfl (λ_ _ _=>(aA (cE (bq cz fK (aa 0) aj (bp _)) (aA (aO (i:=3) jy.nd rfl (Or.inl rfl) (cK fq fv rfl G.len eE (ae (aR nV hr rfl (ae (aa 1) ai)) ai)))) (aA (cE (bq cz fK (aa 0) aj (bp _)) (aA (aO (i:=3) jy.nd rfl (Or.inl rfl) (cK fq fv rfl G.len eE (ae (aR yf hr rfl (ae (aa 1) ai)) ai)))) (aA (aO (i:=3) jy.nd rfl (Or.inl rfl) (cK fq fv rfl G.len eE (ae (aR nX hr rfl (ae (aa 1) (ae (aa 2) ai))) ai))))))))) (PD (i:=4) (R.bound .err (by decide)) (R.base (i:=.err) (by decide)) rfl jy.nd rfl rfl (λ_=>(au (aO (i:=3) jy.nd rfl (Or.inl rfl) (mH (kQ (cK sV (sW R) rfl G.t6 u9 (ae (aa 4) (ae (j7 (R.bound .many (by decide)) rfl) ai)))) (j8 aj) (j8 aj)))
 (au (aO (i:=3) jy.nd rfl (Or.inl rfl) (mH (dH.pt (w_and (kQ (cK sV (sW R) rfl G.t6 u9 (ae (aa 4) (ae (j7 (R.bound .such (by decide)) rfl) ai)))) (kR (BW (kQ (cK sV (sW R) rfl G.t6 u9 (ae (aa 4) (ae (j7 (R.bound .many (by decide)) rfl) ai)))))))) (j8 aj) (aa 3)))
 (aA (aO (i:=3) jy.nd rfl (Or.inl rfl) (mH (kQ (cK sV (sW R) rfl G.t6 u9 (ae (aa 4) (ae (bD (ae (j7 (R.bound .apart (by decide)) rfl) (ae (j7 (R.bound .text (by decide)) rfl) (ae (j7 (R.bound .way (by decide)) rfl) (ae (j7 (R.bound .twice (by decide)) rfl) (ae (j7 (R.bound .count (by decide)) rfl) ai)))))) ai)))) (j8 aj) (aa 3))))))) PB))
 (aA (bc (aa 3))))),?_⟩
 by_cases c0:way=0
 ·have q:=h0 c0;nofun;refine⟨pr,prog,ar,rfl,hS,hok,λF eF=>?_,λeF x=>?_⟩
  ·intro p1 hp1;nofun;refine⟨(Sub.refl S).up hp1,?_⟩;rw[ay];exact q.1 F eF
  ·refine sU (R.two .many (by decide) .err (by decide)) λha=>?_;nofun;refine ji (i:=.many) (j:=.many) ao (by decide) (by decide) ?_;nofun;refine ji (i:=.many) (j:=.such) ao (by decide) (by decide) ?_;nofun;refine sX [.apart,.text,.way,.twice,.count] (i:=.many) ao (by decide) (by decide) ?_;nofun;exact⟨(Sub.refl S).up ha,q.2 eF⟩
 by_cases c1:way=1
 ·have q:=h1 c1;nofun;refine⟨pr,prog,ar,rfl,hS,hok,λF eF=>⟨λw e=>?_,λe p hp=>?_⟩,λeF x=>?_⟩
  ·unfold xQ;nofun;exact⟨Sub.refl _,q.1 F eF⟩
  ·nofun;exact⟨(Sub.refl S).up hp,q.1 F eF⟩
  ·refine sU (R.two .many (by decide) .err (by decide)) λha=>?_;nofun;refine ji (i:=.many) (j:=.many) ao (by decide) (by decide) ?_;nofun;refine ji (i:=.many) (j:=.such) ao (by decide) (by decide) ?_;nofun;refine sX [.apart,.text,.way,.twice,.count] (i:=.many) ao (by decide) (by decide) ?_;nofun;exact⟨(Sub.refl S).up ha,q.2 eF⟩
 have q:=h2 c0 c1;nofun;refine⟨pr,prog,a,ar,rfl,hS,hf,hal,hok,λhno x=>?_,λhin F eF=>⟨λw e=>?_,λe p hp=>?_⟩,λhin eF x=>?_⟩
 ·refine sU (R.two .such (by decide) .err (by decide)) λha=>?_;nofun;refine ji (i:=.such) (j:=.many) ao (by decide) (by decide) ?_;nofun;refine ji (i:=.such) (j:=.such) ao (by decide) (by decide) ?_;nofun;refine ji (i:=.such) (j:=.many) ao (by decide) (by decide) ?_;nofun;refine sX [.apart,.text,.way,.twice,.count] (i:=.such) ao (by decide) (by decide) ?_;nofun;exact⟨(Sub.refl S).up ha,q.1 hno⟩
 ·unfold xQ;nofun;exact⟨Sub.refl _,(q.2 hin).1 F eF⟩
 ·nofun;exact⟨(Sub.refl S).up hp,(q.2 hin).1 F eF⟩
 ·refine sU (R.two .many (by decide) .err (by decide)) λha=>?_;nofun;refine ji (i:=.many) (j:=.many) ao (by decide) (by decide) ?_;nofun;refine ji (i:=.many) (j:=.such) ao (by decide) (by decide) ?_;nofun;refine sX [.apart,.text,.way,.twice,.count] (i:=.many) ao (by decide) (by decide) ?_;nofun;exact⟨(Sub.refl S).up ha,(q.2 hin).2 eF⟩
def kE(x p:Str)(l:List Str):Er:=⟨x,p::l,.fork (.name p) (.send x (l.map Sy.name++[.left (.name p)])) .bw⟩
inductive VH (ds:List D)(S:af)(q:D->Prop):Prop where
 |mk (x p:Str) (l:List Str) (a:Addr) (_:ds=[.str x,.ref a]) (_:S a=some (.lst ((p::l).map D.str))) (_:l.length<=3) (_:q (kE x p l).d)
def GU :aW:=gA VH
theorem VI{k:Nat}(h:aC K mg "_law_wheel" lQ ["name","params"])(G:Gs K mg):av P w K mg base (k+1) "_law_wheel" ["name","params"] GU:=by
 refine h.gA FR (by rintro ds S q ⟨_,_,_,_,e,_⟩;rw[e];rfl) λf cdv A outer s0 H E ds S q hr hA=>?_;obtain⟨x,p,l,a,rfl,hS,hl,hq⟩:=hA;refine⟨_,(au (ju (i:=2) (bE:=aq lQ) (N:=["name","params","row"]) (M:=[]) (js:=[]) ⟨rfl,by cbv,by cbv,by cbv,by cbv,by cbv⟩ (by cbv) (by cbv) rfl (eL (eZ ja jh (aa 1) (eY aj) eX)) (λ_ _ _ _ _=>dR) (λ_ _ _ _ _=>(bD (ae bb (ae (aa 0) ai)))) FR.nd rfl rfl)
 (au (de (dz c9 eC eS dZ eM (aa 2) (ae (bD (ae bb (ae (bD (ae bb (ae (aB dY d9 (aa 1) aj (λ_ _=>rfl)) ai))) ai))) ai)))
 (aA (bc (bD (ae (aa 0) (ae (ft gn gy rfl G.tuple gG (ae (aa 1) ai)) (ae (bD (ae bb (ae (bD (ae bb (ae (aB dY d9 (aa 1) aj (λ_ _=>rfl)) ai))) (ae (bD (ae bb (ae (aa 0) (ae (ft gn gy rfl G.tuple gG (ae (aa 2) ai)) ai)))) (ae (bD (ae bb ai)) ai))))) ai)))))))),?_⟩
 nofun;rw[wG (by decide)];have e1:List.drop (oD 1) (List.map D.str (p::l))=l.map D.str:=rfl;rw[e1];intro p1 hp1;have a1:=aL (o:=.lst (l.map D.str)) hS hp1;have a2:up S p1 (.lst (l.map D.str)) p1=_:=ao;have s1:Sub S (up S p1 (.lst (l.map D.str))):=(Sub.refl S).up hp1;generalize up S p1 (.lst (l.map D.str))=S1 at a1 a2 s1 ⊢;nofun;refine fO (λi=>(Sy.name (l.getD i "")).d) (by rw[ay];lia) (by exact a2) ?_ ?_
 ·intro i d hd P hP;rw[aJ]at hd;obtain⟨y,hy,rfl⟩:=b9.mp hd;rw[bu,hy]at hP;nofun;exact hP
 have el:((aN (l.map D.str).length).map λi=>(Sy.name (l.getD i "")).d)=(l.map Sy.name).map Sy.d:=by
  rw[ay,dq];apply fj;intro i;rw[aJ,aJ];by_cases hi:i<l.length
  ·rw[fB hi,aX hi];simp[bu,hi]
  ·rw[b_ (by simpa using hi),b_ (by lia)];rfl
 rw[el];intro p2 hp2;have b1:=aL (o:=.lst ((l.map Sy.name).map Sy.d)) a1 hp2;have b2:up S1 p2 (.lst ((l.map Sy.name).map Sy.d)) p2=_:=ao;have z2:S p2=none:=s1.free hp2;have s2:=s1.up (o:=.lst ((l.map Sy.name).map Sy.d)) hp2;have n1:a≠p2:=ne3 a1 hp2;generalize up S1 p2 (.lst ((l.map Sy.name).map Sy.d))=S2 at b1 b2 s2 ⊢;nofun;refine ee b2 (by simp only[ay];exact fc (by lia)) ?_;have e2:(l.map Sy.name).map Sy.d++[.tup [.str "left",.tup [.str "name",.str p]]]=(l.map Sy.name++[Sy.left (.name p)]).map Sy.d:=by rw[b6];rfl
 have c1:up S2 p2 (.lst ((l.map Sy.name++[Sy.left (.name p)]).map Sy.d)) a=_:=(bH n1).trans b1;have c2:up S2 p2 (.lst ((l.map Sy.name++[Sy.left (.name p)]).map Sy.d)) p2=_:=ao;have s3:Sub S (up S2 p2 (.lst ((l.map Sy.name++[Sy.left (.name p)]).map Sy.d))):=s2.at z2;rw[<-e2]at c1 c2 s3;generalize up S2 p2 (.lst ((l.map Sy.name).map Sy.d++[.tup [.str "left",.tup [.str "name",.str p]]]))=S3 at c1 c2 s3 ⊢;rw[e2]at c2;nofun;refine⟨s3,?_⟩;have ed:(kE x p l).d=.tup [.str x,.tup ((p::l).map D.str),.tup [.str "fork",.tup [.str "name",.str p],.tup [.str "send",.str x,.tup ((l.map Sy.name++[Sy.left (.name p)]).map Sy.d)],.tup [.str "bud"]]]:=by
  simp only[kE,Er.d,Sy.d,Sy.k_]
 rw[ed]at hq;exact hq
theorem GV{e:Er}:∀(s:Sy) (k:List Str),(((s.bz Sy.bases k).map (bV aT e)).flatten).map (λg=>(g.1,g.2.1))=s.kg.map λto=>(e.name,to):=by
 have key:∀l:List (Sy×List Str),((l.map (bV aT e)).flatten).map (λg=>(g.1,g.2.1))=((l.map bo).filterMap Sy.nm).map λto=>(e.name,to):=by
  intro l
  induction l with
  |nil=>rfl
  |cons q l ih =>
   obtain⟨s,k⟩:=q;rw[ba,kK,b6,ih,ba];cases s<;>simp[bV,Sy.nm,hV]
 intro s k;rw[key,Sy.fM];rfl
theorem uk:∀prog:List Er,(aU prog).map (λg=>(g.1,g.2.1))=bQ prog
 |[]=>rfl
 |e::prog=>by
  have hc:aU (e::prog)=((e.body.bz Sy.bases []).map (bV aT e)).flatten++aU prog:=by simp[aU,cQ]
  rw[hc,b6,GV,uk prog];simp[bQ]
theorem Pg.fit{prog:List Er}(h:Pg prog):uj prog:=by
 refine⟨by have:=h.len;lia,h.nd,λe he=>by have:=(h.body e he).size;lia,?_,λp hp=>?_⟩
 ·have:=h.ok.len;rw[<-uk,ay];lia
 ·rw[<-uk]at hp;obtain⟨g,hg,rfl⟩:=bj.mp hp;exact(h.gd g hg).2.2
theorem GW{ar:Str->Option Nat}{ps:List Str}:Bd ar ps 1 0 1 .bw:=⟨trivial,by simp[Sy.deep],by simp[Sy.sends,Sy.pre],by simp[Sy.pre]⟩
theorem GX{ps:List Str}{s:Sy}(h:∃x∈ps,s=.name x∨s=.left (.name x)):Plain ps 5 s:=by
 obtain⟨x,hx,rfl|rfl⟩:=h
 ·exact(ug hx).mono (by decide)
 ·exact(ug hx).left.mono (by decide)
theorem GY{ar:Str->Option Nat}{ps:List Str}{x p:Str}{s:Sy}{n m z:Nat}(hp:p∈ps)(hs:Bd ar ps n m z s)(hn:1<=n):Bd ar ps (n+1) (0+m+0) (1+2^1+z+1) (.fork (.name p) s .bw) :=
 Bd.fork ((ug hp).bd.mono hn (aQ _) (aQ _)) hs (GW.mono hn (aQ _) (aQ _))
theorem VJ{prog:List Er}(h1:1<=prog.length)(h12:prog.length<=12)(nd:(prog.map Er.name).Nodup)(hw:∀e∈prog,cX e.name/\∃p l,e=kE e.name p l/\l.length<=3/\(p::l).Nodup/\∀x∈p::l,cX x):Pg prog:=by
 refine⟨h1,h12,nd,λe he=>(hw e he).1,λe he=>?_,λe he=>?_⟩
 ·obtain⟨_,p,l,ew,hl,hnd,hnm⟩:=hw e he;have eps:e.ps=p::l:=by rw[ew];rfl
  rw[eps];exact⟨by simp,by simp;lia,hnd,hnm⟩
 ·obtain⟨_,p,l,ew,hl,hnd,hnm⟩:=hw e he;have eps:e.ps=p::l:=by rw[ew];rfl
  have VL:e.body=.fork (.name p) (.send e.name (l.map Sy.name++[.left (.name p)])) .bw:=by rw[ew];rfl
  have har:eh prog e.name=some (l.map Sy.name++[Sy.left (.name p)]).length:=by
   rw[xY nd he,eps];simp
  have hs:uh (eh prog) (p::l) e.name (l.map Sy.name++[.left (.name p)]):=by
   refine⟨har,by simp,by simp;lia,λa ha=>GX ?_⟩;rcases bI.mp ha with ha|ha
   ·obtain⟨y,hy,rfl⟩:=bj.mp ha;exact⟨y,cB _ hy,.inl rfl⟩
   ·rw[b5.mp ha];exact⟨p,b4,.inr rfl⟩
  rw[eps,VL];exact(GY (x:=e.name) b4 hs.bd (by decide)).mono (by decide) (by decide) (by decide)
def chain(x:Str):List (List Sy)->Sy
 |[]=>.bw
 |as::r=>.pair (.send x as) (chain x r)
theorem GZ{ar:Str->Option Nat}{ps:List Str}{x:Str}:∀{l:List (List Sy)},(∀as∈l,uh ar ps x as)->Bd ar ps (6+l.length) l.length (126*l.length+1) (chain x l)
 |[],_=>GW.mono (by decide) (aQ _) (by decide)
 |as::r,h=>by
  have h1:=(h as b4).bd;have h2:=GZ (l:=r) λb hb=>h b (cB _ hb);have h3:=Bd.pair (h1.mono (show 6<=6+r.length by lia) (aQ _) (aQ _)) h2;exact h3.mono (by simp;lia) (by simp;lia) (by simp;lia)
def bN(x p:Str)(l:List Str)(rows:List (List Sy)):Er:=⟨x,p::l,.fork (.name p) (chain x rows) .bw⟩
def cj(y:Str):Er:=⟨y,["x"],.left (.name "x")⟩
theorem VM:cX ("x":Str):=⟨[120],by cbv,by decide,by decide,by decide⟩
theorem VN{prog:List Er}{x y p:Str}{l:List Str}{rows:List (List Sy)}(hp:prog=[bN x p l rows]∨prog=[cj y,bN x p l rows])(hx:cX x)(hy:cX y)(hxy:x≠y)(hl:l.length<=2)(hnd:(p::l).Nodup)(hnm:∀z∈p::l,cX z)(hr:rows.length<=3)(ho:∀as∈rows,Ord (p::l) as):Pg prog:=by
 have hnd2:(prog.map Er.name).Nodup:=by
  rcases hp with rfl|rfl
  ·simp
  ·simp only[ba,fR,hW,b5];exact⟨λz=>hxy z.symm,by simp⟩
 have hm:bN x p l rows∈prog:=by rcases hp with rfl|rfl<;>simp
 have har:eh prog x=some (p::l).length:=xY hnd2 hm;have hsb:Bd (eh prog) (p::l) 12 12 5000 (bN x p l rows).body:=by
  have hb:=GZ (ar:=eh prog) (ps:=p::l) (x:=x) (l:=rows) λas ha=>⟨by rw[har,(ho as ha).1],by rw[(ho as ha).1];simp,by rw[(ho as ha).1];simp;lia,λs hs=>GX ((ho as ha).2 s hs)⟩;exact(GY (x:=x) b4 hb (by lia)).mono (by lia) (by lia) (by lia)
 have hab:Bd (eh prog) (["x"]:List Str) 12 12 5000 (cj y).body:=((ug (show("x":Str)∈(["x"]:List Str) by simp)).left.bd).mono (by decide) (by decide) (by decide);have each:∀e∈prog,e=bN x p l rows∨e=cj y:=λe he=>by
  rcases hp with rfl|rfl
  ·exact .inl (b5.mp he)
  ·rcases a8.mp he with z|z
   ·exact .inr z
   ·exact .inl (b5.mp z)
 refine⟨by rcases hp with rfl|rfl<;>simp,by rcases hp with rfl|rfl<;>simp,hnd2,λe he=>?_,λe he=>?_,λe he=>?_⟩
 ·rcases each e he with rfl|rfl
  ·exact hx
  ·exact hy
 ·rcases each e he with rfl|rfl
  ·exact⟨by simp[bN],by simp[bN];lia,hnd,hnm⟩
  ·exact⟨by simp[cj],by simp[cj],by simp[cj],λz hz=>by rw[b5.mp hz];exact VM⟩
 ·rcases each e he with rfl|rfl
  ·exact hsb
  ·exact hab
theorem G0{gs ks:List Gr}{F:CL.Fd Gr}(eF:da (cg gs)=some F)(nd:ks.Nodup)(h0:∀g∈gs,g∈ks)(mn:∀C:List Gr,(∀g∈gs,g∈C)->(∀a∈C,∀g∈gs,a.2.1=g.1->bO a g∈C)->∀x∈ks,x∈C)(hcl:ks.length<=40->∀a∈ks,∀g∈gs,a.2.1=g.1->bO a g∈ks):ks.length=F.length:=by
 obtain⟨hnd,hown,hup⟩:=Vp eF;have h1:ks.length<=F.length:=by
  have:=CL.jm nd (mn _ hown hup);simpa using this
 have hl:F.length<=40:=(CL.nc eF).ok.len;have hc:=hcl (by lia);have h2:F.length<=ks.length:=by
  have:=CL.jm (c:=ks) hnd λx hx=>CL.EY (Pr:=λg=>g∈ks) (λp hp=>h0 _ (jr hp)) (λa ha p hp hf=>hc a ha _ (jr hp) (of_decide_eq_true hf)) eF x hx;simpa using this
 lia
theorem qH{tc:b7}{t u:bP}{D3:fH}{σ:aE}{S:af}(h:mL tc t u D3 σ S):wR tc t u D3 σ S:=h
inductive VO (ds:List D)(q:D->Prop):Prop where
 |mk (ns:List Int) (_:ds=[.bY (ns.map D.int)]) (_:q (.bl true))
def G1 :aW:=vS VO
theorem VP{k:Nat}(h:aC K mg "_law_wheels_right" kA ["script"])(G:Gs K mg)(fA:av P w K mg base k "_law_cell_at" ["script","k"] qt)(kF:av P w K mg base k "_law_names" ["cell","many"] xB)(yg:av P w K mg base k "_law_wheel" ["name","params"] GU)
 (nY:av P w K mg base k "_law_graphs" ["program"] xX) (nZ:av P w K mg base k "_law_graph_count" ["own","most"] yc) (jF:av P w K mg base k "_law_asked" ["way","program","name"] ye):av P w K mg base (k+1) "_law_wheels_right" ["script"] G1:=by
 refine h.val jz (by rintro ds q ⟨_,e,_⟩;rw[e];rfl) λf cdv A outer s0 H E ds q hr hA=>?_;obtain⟨ns,rfl,hq⟩:=hA;refine⟨_,(au (aO (i:=1) jz.nd rfl (Or.inr rfl) (aR kF hr rfl (ae (aM cN a_ (aR fA hr rfl (ae (aa 0) (ae aj ai))) (aM oX a_ aj aj)) (ae aj ai))))
 (au (aO (i:=2) jz.nd rfl (Or.inr rfl) (aR kF hr rfl (ae (aM cN a_ (aR fA hr rfl (ae (aa 0) (ae aj ai))) (aM oX a_ aj aj)) (ae aj ai))))
 (au (aO (i:=3) jz.nd rfl (Or.inr rfl) (aM dG a_ (aR fA hr rfl (ae (aa 0) (ae aj ai))) aj))
 (au (aO (i:=4) jz.nd rfl (Or.inr rfl) (eZ ja jh (cP (ae aj (ae aj (ae aj (ae aj (ae aj (ae aj (ae aj ai)))))))) eX (eY (aM iz gR aj (aM cN a_ (aa 3) aj)))))
 (au (iM (bq cz fK (aM cN a_ (aM dG a_ (aa 3) aj) aj) aj (bp _)) (aA (aO (i:=4) jz.nd rfl (Or.inr rfl) (jt (bE:=aq kA) (N:=["script","names","params","cell","sizes","program","due"]) (M:=["cell"]) (js:=[3]) ⟨rfl,by cbv,by cbv,by cbv,by cbv,by cbv⟩ (by cbv) (by cbv) rfl (gQ rfl G.range (ae aj ai)) (λ_ _ _ _ _=>dR) (λ_ _ _ _ _=>(aM iz gR aj (aM cN a_ (aM dG a_ (aa 1) (aM AJ a_ aj (aM iz gR (aa 0) aj))) aj)))))) bZ)
 (au (aO (i:=4) jz.nd rfl (Or.inr rfl) (aM rV sA (eZ ja jh (aa 4) (eY (aM cN a_ (aM dG a_ (aa 3) aj) (cK fq fv rfl G.len eE (ae (aa 4) ai)))) eX) (eZ ja jh (aa 4) eX (eY (aM cN a_ (aM dG a_ (aa 3) aj) (cK fq fv rfl G.len eE (ae (aa 4) ai)))))))
 (au (ju (i:=5) (bE:=aq kA) (N:=["script","names","params","cell","sizes","program","due"]) (M:=["names","params","sizes"]) (js:=[1,2,4]) ⟨rfl,by cbv,by cbv,by cbv,by cbv,by cbv⟩ (by cbv) (by cbv) rfl (gQ rfl G.range (ae (cK fq fv rfl G.len eE (ae (aa 4) ai)) ai)) (λ_ _ _ _ _=>dR) (λ_ _ _ _ _=>(aR yg hr rfl (ae (aB dY d9 (aa 1) (aa 0) (λ_ _=>rfl)) (ae (eZ ja jh (aa 2) eX (eY (aB dY d9 (aa 3) (aa 0) (λ_ _=>rfl)))) ai)))) jz.nd rfl rfl)
 (au (aO (i:=6) jz.nd rfl (Or.inl rfl) (aR nZ hr rfl (ae (aR nY hr rfl (ae (aa 5) ai)) (ae aj ai))))
 (au (iM (bq vo jg (aa 6) aj (bp _)) (aA (bc (je cz fK (aR jF hr rfl (ae (aM cN a_ (aM dG a_ (aa 3) aj) aj) (ae (aa 5) (ae (aB dY d9 (aa 1) aj (λ_ _=>rfl)) ai)))) (j8 aj) (bp _)))) bZ)
 (aA (bc (je cz fK (aR jF hr rfl (ae (aM cN a_ (aM dG a_ (aa 3) aj) aj) (ae (aa 5) (ae (aB dY d9 (aa 1) aj (λ_ _=>rfl)) ai)))) (aB dY d9 (cP (ae (aa 6) (ae aj ai))) (aM cN a_ (aM dG a_ (aa 3) aj) aj) (λ_ _=>rfl)) (bp _))))))))))))),?_⟩
 have cell:∀{k:Int} {S:af} {Q:K3} {W:X3},0<=k->Q (.int (cellAt ns k)) S->qt [.bY (ns.map D.int),.int k] S Q W:=λh0 q=>⟨ns,_,rfl,h0,q⟩;nofun;refine cell (by decide) ?_;nofun;refine⟨_,8,rfl,ie _ (by decide),by decide,by decide,λxs Rx Lx=>?_⟩;intro pn hpn;nofun;refine cell (by decide) ?_;nofun;refine⟨_,4,rfl,ie _ (by decide),by decide,by decide,λpp Rp _=>?_⟩;intro pm hpm;have a1:up (up emp pn (.lst (xs.map D.str))) pm (.lst (pp.map D.str)) pn=_:=aL ao hpm;have a2:up (up emp pn (.lst (xs.map D.str))) pm (.lst (pp.map D.str)) pm=_:=ao;generalize up (up emp pn (.lst (xs.map D.str))) pm (.lst (pp.map D.str))=S1 at a1 a2 ⊢;nofun;refine cell (by decide) ?_;nofun;generalize cellAt ns 0/162=c;intro p1 hp1;have b1:=aL (o:=.lst [.int 4,.int 4,.int 4,.int 4,.int 4,.int 3,.int 1]) a1 hp1;have b2:=aL (o:=.lst [.int 4,.int 4,.int 4,.int 4,.int 4,.int 3,.int 1]) a2 hp1;have b3:up S1 p1 (.lst [.int 4,.int 4,.int 4,.int 4,.int 4,.int 3,.int 1]) p1=some (.lst (cD [4,4,4,4,4,3,1])):=ao;generalize up S1 p1 (.lst [.int 4,.int 4,.int 4,.int 4,.int 4,.int 3,.int 1])=S2 at b1 b2 b3 ⊢;nofun;have c2:c%2=0∨c%2=1:=by lia
 have e1:∃bB:List Nat,E3.cutD (cD [4,4,4,4,4,3,1]) none (some (6+c%2))=cD bB/\1<=bB.length/\bB.length<=8/\∀s∈bB,1<=s/\s<=4:=by
  refine⟨([4,4,4,4,4,3,1]:List Nat).take (6+c%2).toNat,by rw[pW (by lia),cD,cD,qZ],?_,?_,λs hs=>?_⟩
  ·rcases c2 with e|e<;>rw[e]<;>decide
  ·rcases c2 with e|e<;>rw[e]<;>decide
  ·have:=md hs;simp at this;lia
 obtain⟨bB,e1,l1,l8,hz⟩:=e1;rw[e1];intro p2 hp2;have d1:=aL (o:=.lst (cD bB)) b1 hp2;have d2:=aL (o:=.lst (cD bB)) b2 hp2;have d3:up S2 p2 (.lst (cD bB)) p2=_:=ao;generalize up S2 p2 (.lst (cD bB))=S3 at d1 d2 d3 ⊢;nofun;refine p_ (λσ T=>jB λ(p2:Addr) (bB:List Nat)=>σ=[some (.bY (ns.map D.int)),some (.ref pn),some (.ref pm),some (.int c),some (.ref p2),none,none]/\T pn=some (.lst (xs.map D.str))/\T pm=some (.lst (pp.map D.str))/\T p2=some (.lst (cD bB))/\1<=bB.length/\bB.length<=8/\∀s∈bB,1<=s/\s<=4) ?_ ?_
 ·intro n' hn';by_cases c3:c/2%3=2
  ·nofun;refine fO (λk=>.int (1+c/(6*(0+(k:Int)+1))%4)) (by rw[dI];decide) trivial ?_ ?_
   ·intro j d hd P hP;obtain⟨hj,rfl⟩:=fJ hd;nofun;exact hP
   rw[dI];have e2:((aN (oD 8)).map λk:Nat=>D.int (1+c/(6*(0+(k:Int)+1))%4))=cD ((aN 8).map λk:Nat=>(1+c/(6*(0+(k:Int)+1))%4).toNat):=by
    rw[cD,dq];refine u4 λk _=>?_;have:=ie (c/(6*(0+(k:Int)+1))) (show(4:Int)≠0 by decide);simp only[JR,D.int.injEq];lia
   rw[e2];intro p3 hp3;nofun;refine hn' _ _ ⟨p3,_,rfl,aL d1 hp3,aL d2 hp3,ao,by simp,by simp,λs hs=>?_⟩;obtain⟨k,_,rfl⟩:=bj.mp hs;have h1:=ie (c/(6*(0+(k:Int)+1))) (show(4:Int)≠0 by decide);have h2:=uT (c/(6*(0+(k:Int)+1))) (show(0:Int)<4 by decide);lia
  ·nofun;exact hn' _ _ ⟨p2,bB,rfl,d1,d2,d3,l1,l8,hz⟩
 clear d1 d2 d3 l1 l8 hz e1;rintro σ T ⟨p3,bB,rfl,d1,d2,d3,l1,l8,hz⟩;have hlz:((cD bB).length:Int)=(bB.length:Int):=by rw[cD,ay]
 have VQ:(0:Int)<((cD bB).length:Int):=by lia
 have r0:=ie (c/5) (show((cD bB).length:Int)≠0 by lia);have r1:=uT (c/5) VQ;nofun;rw[wG r0];intro p4 kB;have f1:=aL (o:=.lst ((cD bB).drop (c/5%((cD bB).length:Int)).toNat)) d1 kB;have f2:=aL (o:=.lst ((cD bB).drop (c/5%((cD bB).length:Int)).toNat)) d2 kB;have f3:=aL (o:=.lst ((cD bB).drop (c/5%((cD bB).length:Int)).toNat)) d3 kB;have f4:up T p4 (.lst ((cD bB).drop (c/5%((cD bB).length:Int)).toNat)) p4=_:=ao;generalize up T p4 (.lst ((cD bB).drop (c/5%((cD bB).length:Int)).toNat))=T1 at f1 f2 f3 f4 ⊢;nofun;rw[pW r0];obtain⟨r,hr'⟩:∃r:Nat,(c/5%((cD bB).length:Int)).toNat=r:=⟨_,rfl⟩;rw[hr']at f4 ⊢;have qA:(cD bB).drop r=cD (bB.drop r):=by rw[cD,cD,JK]
 have VR:(cD bB).take r=cD (bB.take r):=by rw[cD,cD,qZ]
 rw[VR];rw[qA]at f4;intro p5 jk;have g1:=aL (o:=.lst (cD (bB.take r))) f1 jk;have g2:=aL (o:=.lst (cD (bB.take r))) f2 jk;have g4:=aL (o:=.lst (cD (bB.take r))) f4 jk;have g5:up T1 p5 (.lst (cD (bB.take r))) p5=_:=ao;generalize up T1 p5 (.lst (cD (bB.take r)))=T2 at g1 g2 g4 g5 ⊢;refine sM g4 g5 (by simp only[cD,ay,fP,c8];exact dm (by lia)) ?_;obtain⟨zs,hzs⟩:∃zs,bB.drop r++bB.take r=zs:=⟨_,rfl⟩;have yh:cD (bB.drop r)++cD (bB.take r)=cD zs:=by rw[<-hzs,cD,cD,cD,b6]
 have hzl:zs.length=bB.length:=by rw[<-hzs,a5,fP,c8];lia
 have VS:∀s∈zs,1<=s/\s<=4:=λs hs=>by
  rw[<-hzs]at hs;rcases bI.mp hs with hs|hs
  ·exact hz s (uS hs)
  ·exact hz s (md hs)
 rw[yh];intro p6 m6;have k1:=aL (o:=.lst (cD zs)) g1 m6;have k2:=aL (o:=.lst (cD zs)) g2 m6;have k3:up T2 p6 (.lst (cD zs)) p6=_:=ao;generalize up T2 p6 (.lst (cD zs))=T3 at k1 k2 k3 ⊢;have hpl:pp.length=4:=Rp.len;obtain⟨p,l,rfl⟩:∃p l,pp=p::l:=by
  cases pp with
  |nil=>simp at hpl
  |cons p l=>exact⟨p,l,rfl⟩
 have t7:xs.length=8:=Rx.len;have G2:(cD zs).length=zs.length:=by rw[cD,ay]
 obtain⟨prog,hprog⟩:∃prog:List Er,prog=(aN zs.length).map λk=>kE (xs.getD k "") p (l.take (zs.getD k 1-1)):=⟨_,rfl⟩;nofun;refine Tr (λk=>(kE (xs.getD k "") p (l.take (zs.getD k 1-1))).d) (by rw[dI,fi];lia) (λ_ _=>trivial) ?_ ?_
 ·intro j d S' hd hs' P hP;obtain⟨hj,rfl⟩:=fJ hd;rw[fi,G2]at hj;rw[Int.zero_add];have m1:=hs' _ _ k1;have m2:=hs' _ _ k2;have m3:=hs' _ _ k3;have ez:zs[j]?=some (zs.getD j 1):=by rw[bu,aX hj];rfl
  have hz1:=VS _ (cU ez);have ex:xs[j]?=some (xs.getD j ""):=by rw[bu,aX (by lia)];rfl
  nofun;refine gz m1 (fW (by rw[aJ,ex];rfl)) ?_;nofun;refine gz m3 (fW (by rw[cD,aJ,ez];rfl)) ?_;nofun;rw[pW (by lia)];have et:List.take (oD ((zs.getD j 1:Nat):Int)) ((p::l).map D.str)=(p::l.take (zs.getD j 1-1)).map D.str:=by
   obtain⟨s,hs⟩:∃s,zs.getD j 1=s+1:=⟨zs.getD j 1-1,by lia⟩;rw[fi,hs];simp[qZ]
  rw[et];intro p7 VT;refine⟨_,p,l.take (zs.getD j 1-1),p7,rfl,ao,by rw[c8];lia,?_⟩;exact hP _ ((Sub.refl S').up VT)
 rw[dI,fi,G2];have VU:((aN zs.length).map λk=>(kE (xs.getD k "") p (l.take (zs.getD k 1-1))).d)=prog.map Er.d:=by rw[hprog,dq];rfl
 rw[VU];intro T4 s4 pr hpr;replace k1:=aL (o:=.lst (prog.map Er.d)) (s4 _ _ k1) hpr;have k4:up T4 pr (.lst (prog.map Er.d)) pr=_:=ao;generalize up T4 pr (.lst (prog.map Er.d))=T5 at k1 k4 ⊢;have abp:prog.length=zs.length:=by rw[hprog];simp
 have hpn:prog.map Er.name=xs.take zs.length:=by
  rw[hprog,dq];apply fj;intro i;rw[aJ];by_cases hi:i<zs.length
  ·rw[fB hi,Iv hi,aX (by lia)];simp[kE,bu,show i<xs.length by lia]
  ·rw[b_ (by simpa using hi),b_ (by rw[c8];lia)];rfl
 have hg:Pg prog:=VJ (by lia) (by lia) (by rw[hpn];exact(uy _ _).nodup Rx.nd) λe he=>by
  rw[hprog]at he;obtain⟨i,hi,rfl⟩:=bj.mp he;have hi:=f_.mp hi;have hsub:(p::l.take (zs.getD i 1-1)).Sublist (p::l):=(uy _ _).cons_cons p;refine⟨Rx.ok _ ?_,p,l.take (zs.getD i 1-1),rfl,by rw[c8];simp at hpl;lia,hsub.nodup Rp.nd,λy hy=>Rp.ok y (hsub.subset hy)⟩;show xs.getD i ""∈xs;rw[bu,aX (by lia)];exact oC _
 have hok:=hg.ok;nofun;refine⟨pr,prog,rfl,k4,hg.gi,by rw[hg.same];have:=hok.len;lia,?_⟩;rw[hg.same];intro po hpo;have q1:=aL (o:=.lst ((aU prog).map ax)) k1 hpo;have q4:=aL (o:=.lst ((aU prog).map ax)) k4 hpo;have q5:up T5 po (.lst ((aU prog).map ax)) po=_:=ao;generalize up T5 po (.lst ((aU prog).map ax))=T6 at q1 q4 q5 ⊢;nofun;refine⟨po,aU prog,eh prog,40,rfl,q5,hok.gd,hok.len,by decide,λks nd h0 mn hcl=>?_⟩;have hw:c/7%2=0∨c/7%2=1:=by lia
 obtain⟨x0,yi⟩:∃x0,xs[0]?=some x0:=⟨xs[0]'(by lia),aX (by lia)⟩;have hx0:x0∈xs:=cU yi;have G3:x0.length<=100:=by
  obtain⟨cs,rfl,_,h8,_⟩:=Rx.ok x0 hx0;show(textOf cs).cps.size<=100;simp only[textOf,bM];lia
 have hfit:=hg.fit;nofun;refine qH ?_;cases eF:da (cg (aU prog)) with
 |none =>
  have yj:40<ks.length:=by
   rcases Ak 40 ks.length with h|h
   ·exact h
   ·exact GC eF h0 (hcl h)
  have yk:(40:Int)<(ks.length:Int):=by lia
  nofun;refine gz q1 (fW (j:=0) (by rw[aJ,yi];rfl)) ?_;nofun;refine⟨_,pr,prog,x0,eh prog,rfl,q4,hok,hfit,G3,λ_=>⟨λF z=>(by rw[eF]at z;cases z),λ_=>?_⟩,λ_=>⟨λF z=>(by rw[eF]at z;cases z),λ_=>?_⟩,λz1 z2=>by lia⟩
  ·nofun;exact hq
  ·nofun;exact hq
 |some F =>
  have hc:=G0 eF nd h0 mn hcl;have hl:F.length<=40:=(CL.nc eF).ok.len;have yk:¬(40:Int)<(ks.length:Int):=by lia
  nofun;refine gz q1 (fW (j:=0) (by rw[aJ,yi];rfl)) ?_;nofun;refine⟨_,pr,prog,x0,eh prog,rfl,q4,hok,hfit,G3,λe0=>⟨λF' z=>?_,λz=>(by rw[eF]at z;cases z)⟩,λe0=>⟨λF' z=>?_,λz=>(by rw[eF]at z;cases z)⟩,λz1 z2=>by lia⟩
  ·rw[eF]at z;cases z;nofun;intro p9 hp9;nofun;rw[e0];refine gz ao wD ?_;rw[hc];refine mS ?_;simpa using hq
  ·nofun;intro p9 hp9;nofun;rw[e0];refine gz ao wF ?_;refine mS ?_;simpa using hq
theorem G4{prog:List Er}{x y p:Str}{l:List Str}{rows:List (List Sy)}(hp:prog=[bN x p l rows]∨prog=[cj y,bN x p l rows]):∀e∈prog,e=bN x p l rows∨e=cj y:=λe he=>by
 rcases hp with rfl|rfl
 ·exact .inl (b5.mp he)
 ·rcases a8.mp he with z|z
  ·exact .inr z
  ·exact .inl (b5.mp z)
theorem ym{prog:List Er}{x y p:Str}{l:List Str}{rows:List (List Sy)}(hp:prog=[bN x p l rows]∨prog=[cj y,bN x p l rows]):∀g∈aU prog,g.1=x:=λg hg=>by
 obtain⟨e,he,hg⟩:=Gv.mp hg;have h1:=iW (f:=λg:Gr=>(g.1,g.2.1)) hg;rw[GV]at h1;obtain⟨to,hto,e1⟩:=bj.mp h1;rcases G4 hp e he with rfl|rfl
 ·exact(congrArg bo e1).symm
 ·simp[cj,Sy.kg,Sy.pre,Sy.nm]at hto
theorem ud{prog:List Er}{x y p:Str}{l:List Str}{rows:List (List Sy)}(hp:prog=[bN x p l rows]∨prog=[cj y,bN x p l rows]):x∈prog.map Er.name:=by
 rcases hp with rfl|rfl<;>simp[bN]
theorem VW{prog:List Er}{x y p:Str}{l:List Str}{rows:List (List Sy)}(hp:prog=[bN x p l rows]∨prog=[cj y,bN x p l rows]):fg prog x=cg (aU prog):=by
 unfold fg;refine Jr.mpr λq hq=>decide_eq_true ?_;rw[ym hp _ (jr hq)];exact lX.mpr ⟨ud hp,wX.mpr .refl⟩
theorem G5{prog:List Er}{x y p:Str}{l:List Str}{rows:List (List Sy)}(hp:prog=[bN x p l rows]∨prog=[cj y,bN x p l rows])(hxy:x≠y):fg prog y=[]:=by
 unfold fg;refine List.filter_eq_nil_iff.mpr λq hq h=>?_;have h:=of_decide_eq_true h;rw[ym hp _ (jr hq)]at h;have key:∀z,jl (bQ prog) y z->z=y:=by
  intro z hz
  induction hz with
  |refl=>rfl
  |step _ hm ih =>
   rw[ih,<-uk]at hm;obtain⟨g,hg,e⟩:=bj.mp hm;exact absurd ((ym hp g hg).symm.trans (congrArg (λq:Str×Str=>q.1) e)) hxy
 exact hxy (key x (wX.mp (lX.mp h).2))
theorem G6:da ([]:List (Int×Gr))=some []:=rfl
theorem VX(x:Str)(as:List Sy)(r:List (List Sy)):(chain x (as::r)).d=.tup [.str "pair",.tup [.str "send",.str x,.tup (as.map Sy.d)],(chain x r).d]:=by
 simp only[chain,Sy.d,Sy.k_]
theorem VY{S:af}{Q:K3}{a b:Addr}(ha:S a=some (.lst []))(hb:S b=some (.lst []))(q:Q (.bl false) S):D4 200 (.tup [.str "ends",.ref a]) (.tup [.str "ends",.ref b]) S Q:=by
 refine⟨[.str "ends",.lst []],[.str "ends",.lst []],.tup (.cons (.str _) (.cons (.ref ha .nil) .nil)),.tup (.cons (.str _) (.cons (.ref hb .nil) .nil)),by simp[cI,d6],?_⟩;rw[mz];exact q
theorem VZ{f:Addr}{fd:FuncData}(F:mx K "law" "law" jA f fd)(G:Gs K mg)(fA:av P w K mg base 39 "_law_cell_at" ["script","k"] qt)(kF:av P w K mg base 39 "_law_names" ["cell","many"] xB)(yn:av P w K mg base 39 "_law_order" ["cell","params"] GS)
 (yo:av P w K mg base 39 "_law_wheels_right" ["script"] G1) (nY:av P w K mg base 39 "_law_graphs" ["program"] xX) (nZ:av P w K mg base 39 "_law_graph_count" ["own","most"] yc) (jF:av P w K mg base 39 "_law_asked" ["way","program","name"] ye) (nX:av P w K mg base 39 "judged_from" ["program","name"] (ya adr)) :
 dv P w K mg base (b8 P w) 40 f fd ["script"] (gU K mV):=by
 refine O1 F hG λcdv A outer s H E ns hr h63=>?_;refine⟨_,(au (iM (bq cz fK (aM cN a_ (aM dG a_ (aR fA hr rfl (ae (aa 0) (ae aj ai))) aj) aj) aj (bp _)) (aA (bc (aR yo hr rfl (ae (aa 0) ai)))) bZ)
 (au (aO (i:=1) hG.nd rfl (Or.inl rfl) (aM iz gR aj (aM cN a_ (aR fA hr rfl (ae (aa 0) (ae aj ai))) aj)))
 (au (aO (i:=2) hG.nd rfl (Or.inl rfl) (aR kF hr rfl (ae (aM cN a_ (aR fA hr rfl (ae (aa 0) (ae aj ai))) (aM oX a_ aj aj)) (ae aj ai))))
 (au (aO (i:=3) hG.nd rfl (Or.inl rfl) (eZ ja jh (aR kF hr rfl (ae (aM cN a_ (aR fA hr rfl (ae (aa 0) (ae aj ai))) (aM oX a_ aj aj)) (ae aj ai))) eX (eY (aa 1))))
 (au (aO (i:=4) hG.nd rfl (Or.inl rfl) (bD (ae bb ai)))
 (au (dk dg rfl (gQ rfl G.range (ae (aM iz gR aj (aM cN a_ (aM dG a_ (aR fA hr rfl (ae (aa 0) (ae aj ai))) aj) aj)) ai)) (cA (i:=5) hG.nd rfl (Or.inl rfl)) (aA (aO (i:=4) hG.nd rfl (Or.inl rfl) (bD (ae bb (ae (bD (ae bb (ae (aB dY d9 (aa 2) aj (λ_ _=>rfl)) (ae (aR yn hr rfl (ae (aM cN a_ (aR fA hr rfl (ae (aa 0) (ae (aM iz gR aj (aa 5)) ai))) (aM oX a_ aj aj)) (ae (aa 3) ai))) ai)))) (ae (aa 4) ai)))))))
 (au (aO (i:=6) hG.nd rfl (Or.inl rfl) (cP (ae (bD (ae (aB dY d9 (aa 2) aj (λ_ _=>rfl)) (ae (ft gn gy rfl G.tuple gG (ae (aa 3) ai)) (ae (bD (ae bb (ae (bD (ae bb (ae (aB dY d9 (aa 3) aj (λ_ _=>rfl)) ai))) (ae (aa 4) (ae (bD (ae bb ai)) ai))))) ai)))) ai)))
 (au (iM (bq cz fK (aM cN a_ (aM dG a_ (aR fA hr rfl (ae (aa 0) (ae aj ai))) aj) aj) aj (bp _)) (au (aO (i:=6) hG.nd rfl (Or.inl rfl) (aM rV sA (cP (ae (bD (ae (aB dY d9 (aa 2) aj (λ_ _=>rfl)) (ae (bD (ae bb ai)) (ae (bD (ae bb (ae (bD (ae bb (ae bb ai))) ai))) ai)))) ai)) (aa 6)))
 (aA (iM (bq (Q6 (sN hr)) Q7 (aR nX hr rfl (ae (aa 6) (ae (aB dY d9 (aa 2) aj (λ_ _=>rfl)) ai))) (bD (ae bb (ae (cP ai) ai))) (bp _)) (aA (bc mG)) bZ))) bZ)
 (au (iM (bq mr NM (aR jF hr rfl (ae aj (ae (aa 6) (ae bb ai)))) (j8 aj) (bp _)) (aA (bc mG)) bZ)
 (au (aO (i:=7) hG.nd rfl (Or.inl rfl) (aR nZ hr rfl (ae (aR nY hr rfl (ae (aa 6) ai)) (ae aj ai))))
 (au (aO (i:=8) hG.nd rfl (Or.inl rfl) (aM cN a_ (aM dG a_ (aR fA hr rfl (ae (aa 0) (ae aj ai))) aj) aj))
 (au (iM (bq vo jg (aa 7) aj (bp _)) (aA (bc (je cz fK (aR jF hr rfl (ae (aa 8) (ae (aa 6) (ae (aB dY d9 (aa 2) aj (λ_ _=>rfl)) ai)))) (j8 aj) (bp _)))) bZ)
 (aA (bc (je cz fK (aR jF hr rfl (ae (aa 8) (ae (aa 6) (ae (aB dY d9 (aa 2) aj (λ_ _=>rfl)) ai)))) (aB dY d9 (cP (ae (aa 7) (ae aj (ae aj ai)))) (aa 8) (λ_ _=>rfl)) (bp _)))))))))))))))),?_⟩
 have cell:∀{k:Int} {S:af} {Q:K3} {W:X3},0<=k->Q (.int (cellAt ns k)) S->qt [.bY (ns.map D.int),.int k] S Q W:=λh0 q=>⟨ns,_,rfl,h0,q⟩;nofun;refine qH ?_;nofun;refine cell (by decide) ?_;by_cases c0:cellAt ns 0/54%3=1
 ·nofun;exact⟨ns,rfl,rfl⟩
 nofun;refine cell (by decide) ?_;nofun;refine cell (by decide) ?_;nofun;refine⟨_,2,rfl,ie _ (by decide),by decide,by decide,λxs Rx Lx=>?_⟩;intro pn hpn;nofun;refine cell (by decide) ?_;nofun;refine⟨_,4,rfl,ie _ (by decide),by decide,by decide,λpp Rp _=>?_⟩;intro pm hpm;have a1:up (up emp pn (.lst (xs.map D.str))) pm (.lst (pp.map D.str)) pn=_:=aL ao hpm;have a2:up (up emp pn (.lst (xs.map D.str))) pm (.lst (pp.map D.str)) pm=_:=ao;generalize up (up emp pn (.lst (xs.map D.str))) pm (.lst (pp.map D.str))=S1 at a1 a2 ⊢;have c2:cellAt ns 0%2=0∨cellAt ns 0%2=1:=by lia
 obtain⟨many,yj⟩:∃many:Nat,2+cellAt ns 0%2=((many+1:Nat):Int):=⟨(1+cellAt ns 0%2).toNat,by lia⟩;have Vy:many<=2:=by lia
 have hpl:pp.length=4:=Rp.len;obtain⟨p,l4,rfl⟩:∃p l,pp=p::l:=by
  cases pp with
  |nil=>simp at hpl
  |cons p l=>exact⟨p,l,rfl⟩
 obtain⟨x0,x1,rfl⟩:∃x0 x1,xs=[x0,x1]:=by
  have t7:xs.length=2:=Rx.len
  match xs,t7 with
  |[a,b],_=>exact⟨a,b,rfl⟩
 have yp:x0≠x1:=by
  have:=Rx.nd;simp at this;exact this
 rw[yj];nofun;rw[pW (by lia)];obtain⟨l,hl⟩:∃l,l=l4.take many:=⟨_,rfl⟩;have et:List.take (oD ((many+1:Nat):Int)) ((p::l4).map D.str)=(p::l).map D.str:=by
  rw[fi,hl];simp[qZ]
 rw[et];have hll:l.length<=2:=by rw[hl,c8];lia
 have hsub:(p::l).Sublist (p::l4):=by rw[hl];exact(uy _ _).cons_cons p
 have hnd:(p::l).Nodup:=hsub.nodup Rp.nd;have hnm:∀z∈p::l,cX z:=λz hz=>Rp.ok z (hsub.subset hz);intro p3 hp3;have b1:=aL (o:=.lst ((p::l).map D.str)) a1 hp3;have b3:up S1 p3 (.lst ((p::l).map D.str)) p3=some (.lst ((p::l).map D.str)):=ao;generalize up S1 p3 (.lst ((p::l).map D.str))=S2 at b1 b3 ⊢;nofun;refine cell (by decide) ?_;nofun;refine⟨λj σ S=>jB λ(rows:List (List Sy)) (x5:Option D)=>σ=[some (.bY (ns.map D.int)),some (.int ((many+1:Nat):Int)),some (.ref pn),some (.ref p3),some ((chain x0 rows).d),x5,none,none,none]/\S pn=some (.lst ([x0,x1].map D.str))/\S p3=some (.lst ((p::l).map D.str))/\rows.length=j/\∀as∈rows,Ord (p::l) as,
  ⟨[],_,rfl,b1,b3,rfl,by simp⟩,λ_ _ _ _=>trivial,?_,?_⟩
 ·rintro j d σ S' hd ⟨rows,x5,rfl,g1,g3,hrl,yq⟩;obtain⟨hj,rfl⟩:=fJ hd;nofun;refine cell (by lia) ?_;nofun;refine⟨_,p3,p::l,rfl,g3,by simp;lia,λas ho=>?_⟩;nofun;refine⟨as::rows,_,by rw[VX];rfl,g1,g3,by simp[hrl],λb hb=>?_⟩;rcases a8.mp hb with rfl|hb
  ·exact ho
  ·exact yq b hb
 rintro σ S' ⟨rows,x5,rfl,g1,g3,hrl,yq⟩;rw[dI]at hrl;have V0:rows.length<=3:=by lia
 have V1:D.tup [.str x0,.tup ((p::l).map D.str),.tup [.str "fork",.tup [.str "name",.str p],(chain x0 rows).d,.tup [.str "bud"]]]=(bN x0 p l rows).d:=by simp only[bN,Er.d,Sy.d]
 have V2:D.tup [.str x1,.tup [.str "x"],.tup [.str "left",.tup [.str "name",.str "x"]]]=(cj x1).d:=by simp only[cj,Er.d,Sy.d];rfl
 have yr:cX x0:=Rx.ok x0 (by simp);have G7:cX x1:=Rx.ok x1 (by simp);have short:∀x,cX x->x.length<=100:=λx hx=>by
  obtain⟨cs,rfl,_,h8,_⟩:=hx;show(textOf cs).cps.size<=100;simp only[textOf,bM];lia
 have G8:∀{prog:List Er},(prog=[bN x0 p l rows]∨prog=[cj x1,bN x0 p l rows])->Pg prog:=λhp=>VN hp yr G7 yp hll hnd hnm V0 yq;nofun;rw[V1];intro pr hpr;have k1:=aL (o:=.lst [(bN x0 p l rows).d]) g1 hpr;have k4:up S' pr (.lst [(bN x0 p l rows).d]) pr=some (.lst ([bN x0 p l rows].map Er.d)):=ao;generalize up S' pr (.lst [(bN x0 p l rows).d])=T1 at k1 k4 ⊢;nofun;refine p_ (λσ T=>jB λ(pr:Addr) (prog:List Er)=>σ=[some (.bY (ns.map D.int)),some (.int ((many+1:Nat):Int)),some (.ref pn),some (.ref p3),some ((chain x0 rows).d),x5,some (.ref pr),none,none]/\T pn=some (.lst ([x0,x1].map D.str))/\T pr=some (.lst (prog.map Er.d))/\(prog=[bN x0 p l rows]∨prog=[cj x1,bN x0 p l rows])) ?_ ?_
 ·intro n' hn';nofun;refine cell (by decide) ?_;by_cases c6:cellAt ns 0/6%3=1
  ·nofun;rw[V2];intro pa hpa;have m1:=aL (o:=.lst [(cj x1).d]) k1 hpa;have m4:=aL (o:=.lst [(cj x1).d]) k4 hpa;have m5:up T1 pa (.lst [(cj x1).d]) pa=some (.lst ([cj x1].map Er.d)):=ao;generalize up T1 pa (.lst [(cj x1).d])=T2 at m1 m4 m5 ⊢;nofun;refine sM m5 m4 (dm (by simp)) ?_;have yh:[cj x1].map Er.d++[bN x0 p l rows].map Er.d=[cj x1,bN x0 p l rows].map Er.d:=rfl;rw[yh];intro pb hpb;have q1:=aL (o:=.lst ([cj x1,bN x0 p l rows].map Er.d)) m1 hpb;have q4:up T2 pb (.lst ([cj x1,bN x0 p l rows].map Er.d)) pb=_:=ao;generalize up T2 pb (.lst ([cj x1,bN x0 p l rows].map Er.d))=T3 at q1 q4 ⊢;have hp2:[cj x1,bN x0 p l rows]=[bN x0 p l rows]∨[cj x1,bN x0 p l rows]=[cj x1,bN x0 p l rows]:=.inr rfl;have hP:=G8 hp2;nofun;refine qH ?_;nofun;have hin:x1∈[cj x1,bN x0 p l rows].map Er.name:=by simp[cj]
   refine⟨pb,_,x1,eh _,rfl,q4,hP.fit,short x1 G7,hP.ok,λz=>absurd hin z,λ_ F eF=>?_,λ_ eF=>?_⟩
   ·rw[G5 hp2 yp,G6]at eF;cases eF;refine⟨λw e=>(by cases e),λ_ pe hpe=>?_⟩;have r1:=aL (o:=.lst ((([]:CL.Fd Gr).map bo).map ax)) q1 hpe;have r4:=aL (o:=.lst ((([]:CL.Fd Gr).map bo).map ax)) q4 hpe;have r5:up T3 pe (.lst ((([]:CL.Fd Gr).map bo).map ax)) pe=some (.lst []):=ao;generalize up T3 pe (.lst ((([]:CL.Fd Gr).map bo).map ax))=T4 at r1 r4 r5 ⊢;nofun;intro pe2 yt;nofun;refine VY (aL r5 yt) ao ?_;nofun;exact hn' _ _ ⟨pb,_,rfl,aL r1 yt,aL r4 yt,hp2⟩
   ·rw[G5 hp2 yp,G6]at eF;cases eF
  ·nofun;exact hn' _ _ ⟨pr,_,rfl,k1,k4,.inl rfl⟩
 clear k1 k4;rintro σ T ⟨pr,prog,rfl,k1,k4,hp⟩;have hP:=G8 hp;have hok:=hP.ok;have hfit:=hP.fit;have V3:("zz":Str)∉prog.map Er.name:=λh=>by
  have hz:∀x∈prog.map Er.name,x=x0∨x=x1:=λx hx=>by
   obtain⟨e,he,rfl⟩:=bj.mp hx;rcases G4 hp e he with rfl|rfl
   ·exact .inl rfl
   ·exact .inr rfl
  rcases hz _ h with z|z
  ·exact FU (Lx x0 (by simp)) z.symm
  ·exact FU (Lx x1 (by simp)) z.symm
 nofun;refine qH ?_;nofun;refine⟨_,pr,prog,"zz",eh prog,rfl,k4,hok,hfit,by cbv,λz=>absurd z (by decide),λz=>absurd z (by decide),λ_ _=>⟨λ_=>?_,λz=>absurd z V3⟩⟩;nofun;refine⟨pr,prog,rfl,k4,hP.gi,by rw[hP.same];have:=hok.len;lia,?_⟩;rw[hP.same];intro po hpo;have q1:=aL (o:=.lst ((aU prog).map ax)) k1 hpo;have q4:=aL (o:=.lst ((aU prog).map ax)) k4 hpo;have q5:up T po (.lst ((aU prog).map ax)) po=_:=ao;generalize up T po (.lst ((aU prog).map ax))=T6 at q1 q4 q5 ⊢;nofun;refine⟨po,aU prog,eh prog,40,rfl,q5,hok.gd,hok.len,by decide,λks nd h0 mn hcl=>?_⟩;nofun;refine cell (by decide) ?_;have hw:cellAt ns 0/18%3=0∨cellAt ns 0/18%3=1∨cellAt ns 0/18%3=2:=by lia
 have G9:=ud hp;have hfr:=VW hp;nofun;refine qH ?_;cases eF:da (cg (aU prog)) with
 |none =>
  have yj:40<ks.length:=by
   rcases Ak 40 ks.length with h|h
   ·exact h
   ·exact GC eF h0 (hcl h)
  have yk:(40:Int)<(ks.length:Int):=by lia
  nofun;refine⟨_,pr,prog,x0,eh prog,rfl,q4,hok,hfit,short x0 yr,λ_=>⟨λF z=>(by rw[eF]at z;cases z),λ_=>?_⟩,λ_=>⟨λF z=>(by rw[eF]at z;cases z),λ_=>?_⟩,λ_ _=>⟨λz=>absurd G9 z,λ_=>⟨λF z=>(by rw[hfr,eF]at z;cases z),λ_=>?_⟩⟩⟩
  ·nofun;rfl
  ·nofun;rfl
  ·nofun;rfl
 |some F =>
  have hc:=G0 eF nd h0 mn hcl;have hl:F.length<=40:=(CL.nc eF).ok.len;have yk:¬(40:Int)<(ks.length:Int):=by lia
  nofun;refine⟨_,pr,prog,x0,eh prog,rfl,q4,hok,hfit,short x0 yr,λe0=>⟨λF' z=>?_,λz=>(by rw[eF]at z;cases z)⟩,λe0=>⟨λF' z=>?_,λz=>(by rw[eF]at z;cases z)⟩,λe0 e1=>⟨λz=>absurd G9 z,λ_=>⟨λF' z=>?_,λz=>(by rw[hfr,eF]at z;cases z)⟩⟩⟩
  ·rw[eF]at z;cases z;nofun;intro p9 hp9;nofun;rw[e0];refine gz ao wD ?_;rw[hc];refine mS ?_;simp
  ·nofun;intro p9 hp9;nofun;rw[e0];refine gz ao wF ?_;refine mS ?_;simp
  ·nofun;intro p9 hp9;nofun;have e2:cellAt ns 0/18%3=2:=by lia
   rw[e2];refine gz ao Ds ?_;refine mS ?_;simp
end
theorem all_mk{l:zM}{w:World}{K:ak}{h:Heap}{mg:Str->Option Value}{fa yu yw yx yy yz yA yB yC yD yE yF yG yH yI yJ yK yL yM yN yO yP yQ yR yS yT yU yV yW yX yY yZ y0 y1 y6 y8 y9 y_:Addr}
 (X:K.In h) (G:h.Ns mainGlobals mg) (hfa:mg "law"=some (.ref fa))
 {V4 V5 V6 V7 V8 V9 V_ V' Wa Wb Wc Wd We Wf Wg Wh Wi Wj Wl Wm Wn Wo Wp Wq Wr Ws Wt Wu Wv Ww Wx Wy Wz WA WB WC WD WE WG WH WI WJ WK WL WM WN WO WQ WR WS WT WU WV WW WX WY WZ W0 W1 W2 W4 W5 W6 W7 W8 W9 W_ Xa Xb Xc Xd Xe Xf G_:Option Addr}
 {Xg Xh Xi Xj Xk Xl Xm Xn Xo Xp Xq Xr Xs Xt Xu Xv Xw Xx Xy Xz XA XB XC XD XE XF XG XH XI XJ XM XN XO XQ XR XS XT:Array (Option Value)}
 {XU XW XX XY G' XZ X0 X1 X2 X4 Ha X5 X6 X7 X8 X9 Hb X_ X' Ya Yb Yc Hc Yd Ye Yf Yg Yh Hd Yi Yj Yk Yl Ym He Yn Yo Yp Yq Yr Hf Ys Yt Yu Yv Yw Hg Yx Yy Yz YA YB Hh YC YD YE YF YG Hi YH YI YJ YK YL Hj YM YN YO YQ YR Hk YS YT YU YV YW Hl YX YY YZ Y0 Y1 Hm Y2 Y3 Y4 Y5 Y6 Hn Y7 Y8 Y9 Y_ Y' Ho Za Zb Zc Zd Ze Hq Zf Zg Zh Zi Zj Hr Zk Zl Zm Zn Zo Hs Zp Zq Zr Zs Zu Ht Zv Zw Zx Zy Zz Hu ZC ZD ZE ZF ZG Hv ZH ZI ZJ ZK ZL Hw ZM ZO ZP ZQ ZR Hz ZS ZU ZV ZW ZY HA ZZ Z0 Z1 Z2 Z3 HB Z4 Z5 Z6 Z7 Z8 HC Z9 Z_ aaa aab aac HD aad aae aaf aag aah HE aai aaj aak aal aam HF aan aao aap aaq aar HG aas aat aau aav aaw HH aax aay aaz aaA aaB HI aaC aaD aaE aaF aaG HJ aaH aaI aaJ aaK aaL HK aaM aaN aaO aaP aaQ HL aaR aaS HM HN HP za HQ:Value}
 {aaT:Tok}
 (a_0:a6 K mainGlobals "sends"=some (some (.ref yu)))
 (l_0:K.lookup yu=some ⟨XU,V4,.func (bA "sends" "sends" (bC nh) (a7 nh) (aq nh) .none XW XX XY V5 G' XZ),Xg⟩)
 (c_0:bJ K G' "sends"=true) (k_0:bG K (.ref yu)=true)
 (a_1:a6 K mainGlobals "in_order"=some (some (.ref yw)))
 (l_1:K.lookup yw=some ⟨X0,V6,.func (bA "in_order" "in_order" (bC ni) (a7 ni) (aq ni) .none X1 X2 X4 V7 Ha X5),Xh⟩)
 (c_1:bJ K Ha "in_order"=true) (k_1:bG K (.ref yw)=true)
 (a_2:a6 K mainGlobals "parts"=some (some (.ref yx)))
 (l_2:K.lookup yx=some ⟨X6,V8,.func (bA "parts" "parts" (bC nj) (a7 nj) (aq nj) .none X7 X8 X9 V9 Hb X_),Xi⟩)
 (c_2:bJ K Hb "parts"=true) (k_2:bG K (.ref yx)=true)
 (a_3:a6 K mainGlobals "refuse_missing"=some (some (.ref yy)))
 (l_3:K.lookup yy=some ⟨X',V_,.func (bA "refuse_missing" "refuse_missing" (bC nk) (a7 nk) (aq nk) .none Ya Yb Yc V' Hc Yd),Xj⟩)
 (c_3:bJ K Hc "refuse_missing"=true) (k_3:bG K (.ref yy)=true)
 (a_4:a6 K mainGlobals "graphs"=some (some (.ref yz)))
 (l_4:K.lookup yz=some ⟨Ye,Wa,.func (bA "graphs" "graphs" (bC lp) (a7 lp) (aq lp) .none Yf Yg Yh Wb Hd Yi),Xk⟩)
 (c_4:bJ K Hd "graphs"=true) (k_4:bG K (.ref yz)=true)
 (a_5:a6 K mainGlobals "placed_sends"=some (some (.ref yA)))
 (l_5:K.lookup yA=some ⟨Yj,Wc,.func (bA "placed_sends" "placed_sends" (bC nr) (a7 nr) (aq nr) .none Yk Yl Ym Wd He Yn),Xl⟩)
 (c_5:bJ K He "placed_sends"=true) (k_5:bG K (.ref yA)=true)
 (a_6:a6 K mainGlobals "placed_parts"=some (some (.ref yB)))
 (l_6:K.lookup yB=some ⟨Yo,We,.func (bA "placed_parts" "placed_parts" (bC lq) (a7 lq) (aq lq) .none Yp Yq Yr Wf Hf Ys),Xm⟩)
 (c_6:bJ K Hf "placed_parts"=true) (k_6:bG K (.ref yB)=true)
 (a_7:a6 K mainGlobals "path_parameter"=some (some (.ref yC)))
 (l_7:K.lookup yC=some ⟨Yt,Wg,.func (bA "path_parameter" "path_parameter" (bC nu) (a7 nu) (aq nu) .none Yu Yv Yw Wh Hg Yx),Xn⟩)
 (c_7:bJ K Hg "path_parameter"=true) (k_7:bG K (.ref yC)=true)
 (a_8:a6 K mainGlobals "told_row"=some (some (.ref yD)))
 (l_8:K.lookup yD=some ⟨Yy,Wi,.func (bA "told_row" "told_row" (bC lr) (a7 lr) (aq lr) .none Yz YA YB Wj Hh YC),Xo⟩)
 (c_8:bJ K Hh "told_row"=true) (k_8:bG K (.ref yD)=true)
 (a_9:a6 K mainGlobals "told_number"=some (some (.ref yE)))
 (l_9:K.lookup yE=some ⟨YD,Wl,.func (bA "told_number" "told_number" (bC nv) (a7 nv) (aq nv) .none YE YF YG Wm Hi YH),Xp⟩)
 (c_9:bJ K Hi "told_number"=true) (k_9:bG K (.ref yE)=true)
 (a_a:a6 K mainGlobals "composed"=some (some (.ref yF)))
 (l_a:K.lookup yF=some ⟨YI,Wn,.func (bA "composed" "composed" (bC lu) (a7 lu) (aq lu) .none YJ YK YL Wo Hj YM),Xq⟩)
 (c_a:bJ K Hj "composed"=true) (k_a:bG K (.ref yF)=true)
 (a_b:a6 K mainGlobals "fit"=some (some (.ref yG)))
 (l_b:K.lookup yG=some ⟨YN,Wp,.func (bA "fit" "fit" (bC ny) (a7 ny) (aq ny) .none YO YQ YR Wq Hk YS),Xr⟩)
 (c_b:bJ K Hk "fit"=true) (k_b:bG K (.ref yG)=true)
 (a_c:a6 K mainGlobals "composed_row"=some (some (.ref yH)))
 (l_c:K.lookup yH=some ⟨YT,Wr,.func (bA "composed_row" "composed_row" (bC lB) (a7 lB) (aq lB) .none YU YV YW Ws Hl YX),Xs⟩)
 (c_c:bJ K Hl "composed_row"=true) (k_c:bG K (.ref yH)=true)
 (a_d:a6 K mainGlobals "largest_between"=some (some (.ref yI)))
 (l_d:K.lookup yI=some ⟨YY,Wt,.func (bA "largest_between" "largest_between" (bC lC) (a7 lC) (aq lC) .none YZ Y0 Y1 Wu Hm Y2),Xt⟩)
 (c_d:bJ K Hm "largest_between"=true) (k_d:bG K (.ref yI)=true)
 (a_e:a6 K mainGlobals "joined_number"=some (some (.ref yJ)))
 (l_e:K.lookup yJ=some ⟨Y3,Wv,.func (bA "joined_number" "joined_number" (bC nz) (a7 nz) (aq nz) .none Y4 Y5 Y6 Ww Hn Y7),Xu⟩)
 (c_e:bJ K Hn "joined_number"=true) (k_e:bG K (.ref yJ)=true)
 (a_f:a6 K mainGlobals "closure"=some (some (.ref yK)))
 (l_f:K.lookup yK=some ⟨Y8,Wx,.func (bA "closure" "closure" (bC nA) (a7 nA) (aq nA) .none Y9 Y_ Y' Wy Ho Za),Xv⟩)
 (c_f:bJ K Ho "closure"=true) (k_f:bG K (.ref yK)=true)
 (a_g:a6 K mainGlobals "judged"=some (some (.ref yL)))
 (l_g:K.lookup yL=some ⟨Zb,Wz,.func (bA "judged" "judged" (bC nB) (a7 nB) (aq nB) .none Zc Zd Ze WA Hq Zf),Xw⟩)
 (c_g:bJ K Hq "judged"=true) (k_g:bG K (.ref yL)=true)
 (a_h:a6 K mainGlobals "reached"=some (some (.ref yM)))
 (l_h:K.lookup yM=some ⟨Zg,WB,.func (bA "reached" "reached" (bC ku) (a7 ku) (aq ku) .none Zh Zi Zj WC Hr Zk),Xx⟩)
 (c_h:bJ K Hr "reached"=true) (k_h:bG K (.ref yM)=true)
 (a_i:a6 K mainGlobals "judged_from"=some (some (.ref yN)))
 (l_i:K.lookup yN=some ⟨Zl,WD,.func (bA "judged_from" "judged_from" (bC lF) (a7 lF) (aq lF) .none Zm Zn Zo WE Hs Zp),Xy⟩)
 (c_i:bJ K Hs "judged_from"=true) (k_i:bG K (.ref yN)=true)
 (a_j:a6 K mainGlobals "closure_of"=some (some (.ref yO)))
 (l_j:K.lookup yO=some ⟨Zq,WG,.func (bA "closure_of" "closure_of" (bC nD) (a7 nD) (aq nD) .none Zr Zs Zu WH Ht Zv),Xz⟩)
 (c_j:bJ K Ht "closure_of"=true) (k_j:bG K (.ref yO)=true)
 (a_k:a6 K mainGlobals "put_new"=some (some (.ref yP)))
 (l_k:K.lookup yP=some ⟨Zw,WI,.func (bA "put_new" "put_new" (bC lH) (a7 lH) (aq lH) .none Zx Zy Zz WJ Hu ZC),XA⟩)
 (c_k:bJ K Hu "put_new"=true) (k_k:bG K (.ref yP)=true)
 (a_l:a6 K mainGlobals "telling_of"=some (some (.ref yQ)))
 (l_l:K.lookup yQ=some ⟨ZD,WK,.func (bA "telling_of" "telling_of" (bC lJ) (a7 lJ) (aq lJ) .none ZE ZF ZG WL Hv ZH),XB⟩)
 (c_l:bJ K Hv "telling_of"=true) (k_l:bG K (.ref yQ)=true)
 (a_m:a6 K mainGlobals "is_idle_round"=some (some (.ref yR)))
 (l_m:K.lookup yR=some ⟨ZI,WM,.func (bA "is_idle_round" "is_idle_round" (bC nE) (a7 nE) (aq nE) .none ZJ ZK ZL WN Hw ZM),XC⟩)
 (c_m:bJ K Hw "is_idle_round"=true) (k_m:bG K (.ref yR)=true)
 (a_n:a6 K mainGlobals "falls_here"=some (some (.ref yS)))
 (l_n:K.lookup yS=some ⟨ZO,WO,.func (bA "falls_here" "falls_here" (bC lK) (a7 lK) (aq lK) .none ZP ZQ ZR WQ Hz ZS),XD⟩)
 (c_n:bJ K Hz "falls_here"=true) (k_n:bG K (.ref yS)=true)
 (a_o:a6 K mainGlobals "_law_cell_at"=some (some (.ref yT)))
 (l_o:K.lookup yT=some ⟨ZU,WR,.func (bA "_law_cell_at" "_law_cell_at" (bC nF) (a7 nF) (aq nF) .none ZV ZW ZY WS HA ZZ),XE⟩)
 (c_o:bJ K HA "_law_cell_at"=true) (k_o:bG K (.ref yT)=true)
 (a_p:a6 K mainGlobals "_law_names"=some (some (.ref yU)))
 (l_p:K.lookup yU=some ⟨Z0,WT,.func (bA "_law_names" "_law_names" (bC jw) (a7 jw) (aq jw) .none Z1 Z2 Z3 WU HB Z4),XF⟩)
 (c_p:bJ K HB "_law_names"=true) (k_p:bG K (.ref yU)=true)
 (a_q:a6 K mainGlobals "_law_compose"=some (some (.ref yV)))
 (l_q:K.lookup yV=some ⟨Z5,WV,.func (bA "_law_compose" "_law_compose" (bC nG) (a7 nG) (aq nG) .none Z6 Z7 Z8 WW HC Z9),XG⟩)
 (c_q:bJ K HC "_law_compose"=true) (k_q:bG K (.ref yV)=true)
 (a_r:a6 K mainGlobals "_law_prefixes"=some (some (.ref yW)))
 (l_r:K.lookup yW=some ⟨Z_,WX,.func (bA "_law_prefixes" "_law_prefixes" (bC nH) (a7 nH) (aq nH) .none aaa aab aac WY HD aad),XH⟩)
 (c_r:bJ K HD "_law_prefixes"=true) (k_r:bG K (.ref yW)=true)
 (a_s:a6 K mainGlobals "_law_told"=some (some (.ref yX)))
 (l_s:K.lookup yX=some ⟨aae,WZ,.func (bA "_law_told" "_law_told" (bC lM) (a7 lM) (aq lM) .none aaf aag aah W0 HE aai),XI⟩)
 (c_s:bJ K HE "_law_told"=true) (k_s:bG K (.ref yX)=true)
 (a_t:a6 K mainGlobals "_law_graphs_in"=some (some (.ref yY)))
 (l_t:K.lookup yY=some ⟨aaj,W1,.func (bA "_law_graphs_in" "_law_graphs_in" (bC ky) (a7 ky) (aq ky) .none aak aal aam W2 HF aan),XJ⟩)
 (c_t:bJ K HF "_law_graphs_in"=true) (k_t:bG K (.ref yY)=true)
 (a_u:a6 K mainGlobals "_law_graphs"=some (some (.ref yZ)))
 (l_u:K.lookup yZ=some ⟨aao,W4,.func (bA "_law_graphs" "_law_graphs" (bC nI) (a7 nI) (aq nI) .none aap aaq aar W5 HG aas),XM⟩)
 (c_u:bJ K HG "_law_graphs"=true) (k_u:bG K (.ref yZ)=true)
 (a_v:a6 K mainGlobals "_law_graph_count"=some (some (.ref y0)))
 (l_v:K.lookup y0=some ⟨aat,W6,.func (bA "_law_graph_count" "_law_graph_count" (bC nJ) (a7 nJ) (aq nJ) .none aau aav aaw W7 HH aax),XN⟩)
 (c_v:bJ K HH "_law_graph_count"=true) (k_v:bG K (.ref y0)=true)
 (a_w:a6 K mainGlobals "_law_order"=some (some (.ref y1)))
 (l_w:K.lookup y1=some ⟨aay,W8,.func (bA "_law_order" "_law_order" (bC nK) (a7 nK) (aq nK) .none aaz aaA aaB W9 HI aaC),XO⟩)
 (c_w:bJ K HI "_law_order"=true) (k_w:bG K (.ref y1)=true)
 (a_x:a6 K mainGlobals "_law_asked"=some (some (.ref y6)))
 (l_x:K.lookup y6=some ⟨aaD,W_,.func (bA "_law_asked" "_law_asked" (bC nM) (a7 nM) (aq nM) .none aaE aaF aaG Xa HJ aaH),XQ⟩)
 (c_x:bJ K HJ "_law_asked"=true) (k_x:bG K (.ref y6)=true)
 (a_y:a6 K mainGlobals "_law_wheel"=some (some (.ref y8)))
 (l_y:K.lookup y8=some ⟨aaI,Xb,.func (bA "_law_wheel" "_law_wheel" (bC lQ) (a7 lQ) (aq lQ) .none aaJ aaK aaL Xc HK aaM),XR⟩)
 (c_y:bJ K HK "_law_wheel"=true) (k_y:bG K (.ref y8)=true)
 (a_z:a6 K mainGlobals "_law_wheels_right"=some (some (.ref y9)))
 (l_z:K.lookup y9=some ⟨aaN,Xd,.func (bA "_law_wheels_right" "_law_wheels_right" (bC kA) (a7 kA) (aq kA) .none aaO aaP aaQ Xe HL aaR),XS⟩)
 (c_z:bJ K HL "_law_wheels_right"=true) (k_z:bG K (.ref y9)=true)
 (a_10:a6 K mainGlobals "law"=some (some (.ref y_)))
 (l_10:K.lookup y_=some ⟨aaS,Xf,.func (bA "law" "law" (bC jA) (a7 jA) (aq jA) .none HM HN HP G_ za HQ),XT⟩)
 (c_10:bJ K za "law"=true) (k_10:bG K (.ref y_)=true)
 (z_12:a6 K mainGlobals "len"=some none)
 (z_13:a6 K mainGlobals "range"=some none)
 (z_14:a6 K mainGlobals "isinstance"=some none)
 (z_15:a6 K mainGlobals "tuple"=some none)
 (z_16:a6 K mainGlobals "list"=some none)
 (z_17:a6 K mainGlobals "int"=some none)
 (z_18:a6 K mainGlobals "reversed"=some none)
 (z_19:a6 K mainGlobals "any"=some none)
 (z_1a:a6 K mainGlobals "enumerate"=some none)
 (z_1b:a6 K mainGlobals "max"=some none)
 (z_1c:a6 K mainGlobals "zip"=some none)
 (z_11:a6 K mainGlobals "MOST_IN_CLOSURE"=some (some (.int 40 aaT)))
 {zb zc zd ze zf zg zh zi:Addr}
 (x_1d:a6 K mainGlobals "ErrandError"=some (some (.ref zb)))
 (x_1e:a6 K mainGlobals "BadText"=some (some (.ref zc)))
 (x_1f:a6 K mainGlobals "Twice"=some (some (.ref zd)))
 (x_1g:a6 K mainGlobals "NoSuch"=some (some (.ref ze)))
 (x_1h:a6 K mainGlobals "WrongCount"=some (some (.ref zf)))
 (x_1i:a6 K mainGlobals "Apart"=some (some (.ref zg)))
 (x_1j:a6 K mainGlobals "TooMany"=some (some (.ref zh)))
 (x_1k:a6 K mainGlobals "NoWay"=some (some (.ref zi)))
 (x_1l:wB K [(.err,zb),(.text,zc),(.twice,zd),(.such,ze),(.count,zf),(.apart,zg),(.many,zh),(.way,zi)]=true) :
 ∃fd:FuncData,(∀(s:Shared) (v:Value),BindsTo s fd ⟨[v],[]⟩ [("script",v)])/\∀base:Heap,K.In base->base.Ns mainGlobals mg->dv l.prog w K mg base (b8 l.prog w) 40 fa fd ["script"] (gU K mV):=by
 have e:=hfa.symm.trans (ib X G a_10);cases e;have H_0:aC K mg "sends" nh ["program"]:=bT X G a_0 l_0 c_0 k_0 λ_ _ _ _ _ _ us hl=>by obtain⟨_,rfl⟩:=fe hl;rfl
 have H_1:aC K mg "in_order" ni ["body"]:=bT X G a_1 l_1 c_1 k_1 λ_ _ _ _ _ _ us hl=>by obtain⟨_,rfl⟩:=fe hl;rfl
 have HR:aC K mg "parts" nj ["saying"]:=bT X G a_2 l_2 c_2 k_2 λ_ _ _ _ _ _ us hl=>by obtain⟨_,rfl⟩:=fe hl;rfl
 have H_3:aC K mg "refuse_missing" nk ["name","known"]:=bT X G a_3 l_3 c_3 k_3 λ_ _ _ _ _ _ us hl=>by obtain⟨_,_,rfl⟩:=ln2 hl;rfl
 have H_4:aC K mg "graphs" lp ["program"]:=bT X G a_4 l_4 c_4 k_4 λ_ _ _ _ _ _ us hl=>by obtain⟨_,rfl⟩:=fe hl;rfl
 have H_5:aC K mg "placed_sends" nr ["body"]:=bT X G a_5 l_5 c_5 k_5 λ_ _ _ _ _ _ us hl=>by obtain⟨_,rfl⟩:=fe hl;rfl
 have H_6:aC K mg "placed_parts" lq ["saying","known"]:=bT X G a_6 l_6 c_6 k_6 λ_ _ _ _ _ _ us hl=>by obtain⟨_,_,rfl⟩:=ln2 hl;rfl
 have H_7:aC K mg "path_parameter" nu ["saying"]:=bT X G a_7 l_7 c_7 k_7 λ_ _ _ _ _ _ us hl=>by obtain⟨_,rfl⟩:=fe hl;rfl
 have H_8:aC K mg "told_row" lr ["param","sayings","known"]:=bT X G a_8 l_8 c_8 k_8 λ_ _ _ _ _ _ us hl=>by obtain⟨_,_,_,rfl⟩:=lR hl;rfl
 have H_9:aC K mg "told_number" nv ["param","saying","known"]:=bT X G a_9 l_9 c_9 k_9 λ_ _ _ _ _ _ us hl=>by obtain⟨_,_,_,rfl⟩:=lR hl;rfl
 have H_a:aC K mg "composed" lu ["one","other"]:=bT X G a_a l_a c_a k_a λ_ _ _ _ _ _ us hl=>by obtain⟨_,_,rfl⟩:=ln2 hl;rfl
 have H_b:aC K mg "fit" ny ["one","other"]:=bT X G a_b l_b c_b k_b λ_ _ _ _ _ _ us hl=>by obtain⟨_,_,rfl⟩:=ln2 hl;rfl
 have H_c:aC K mg "composed_row" lB ["row","rows"]:=bT X G a_c l_c c_c k_c λ_ _ _ _ _ _ us hl=>by obtain⟨_,_,rfl⟩:=ln2 hl;rfl
 have H_d:aC K mg "largest_between" lC ["row","rows","column"]:=bT X G a_d l_d c_d k_d λ_ _ _ _ _ _ us hl=>by obtain⟨_,_,_,rfl⟩:=lR hl;rfl
 have H_e:aC K mg "joined_number" nz ["one","other"]:=bT X G a_e l_e c_e k_e λ_ _ _ _ _ _ us hl=>by obtain⟨_,_,rfl⟩:=ln2 hl;rfl
 have H_f:aC K mg "closure" nA ["program"]:=bT X G a_f l_f c_f k_f λ_ _ _ _ _ _ us hl=>by obtain⟨_,rfl⟩:=fe hl;rfl
 have H_g:aC K mg "judged" nB ["program"]:=bT X G a_g l_g c_g k_g λ_ _ _ _ _ _ us hl=>by obtain⟨_,rfl⟩:=fe hl;rfl
 have H_h:aC K mg "reached" ku ["program","name"]:=bT X G a_h l_h c_h k_h λ_ _ _ _ _ _ us hl=>by obtain⟨_,_,rfl⟩:=ln2 hl;rfl
 have H_i:aC K mg "judged_from" lF ["program","name"]:=bT X G a_i l_i c_i k_i λ_ _ _ _ _ _ us hl=>by obtain⟨_,_,rfl⟩:=ln2 hl;rfl
 have H_j:aC K mg "closure_of" nD ["numbered"]:=bT X G a_j l_j c_j k_j λ_ _ _ _ _ _ us hl=>by obtain⟨_,rfl⟩:=fe hl;rfl
 have H_k:aC K mg "put_new" lH ["found","graph","way"]:=bT X G a_k l_k c_k k_k λ_ _ _ _ _ _ us hl=>by obtain⟨_,_,_,rfl⟩:=lR hl;rfl
 have H_l:aC K mg "telling_of" lJ ["pairs"]:=bT X G a_l l_l c_l k_l λ_ _ _ _ _ _ us hl=>by obtain⟨_,rfl⟩:=fe hl;rfl
 have H_m:aC K mg "is_idle_round" nE ["graph"]:=bT X G a_m l_m c_m k_m λ_ _ _ _ _ _ us hl=>by obtain⟨_,rfl⟩:=fe hl;rfl
 have H_n:aC K mg "falls_here" lK ["graph"]:=bT X G a_n l_n c_n k_n λ_ _ _ _ _ _ us hl=>by obtain⟨_,rfl⟩:=fe hl;rfl
 have H_o:aC K mg "_law_cell_at" nF ["script","k"]:=bT X G a_o l_o c_o k_o λ_ _ _ _ _ _ us hl=>by obtain⟨_,_,rfl⟩:=ln2 hl;rfl
 have H_p:aC K mg "_law_names" jw ["cell","many"]:=bT X G a_p l_p c_p k_p λ_ _ _ _ _ _ us hl=>by obtain⟨_,_,rfl⟩:=ln2 hl;rfl
 have H_q:aC K mg "_law_compose" nG ["one","other"]:=bT X G a_q l_q c_q k_q λ_ _ _ _ _ _ us hl=>by obtain⟨_,_,rfl⟩:=ln2 hl;rfl
 have H_r:aC K mg "_law_prefixes" nH ["saying"]:=bT X G a_r l_r c_r k_r λ_ _ _ _ _ _ us hl=>by obtain⟨_,rfl⟩:=fe hl;rfl
 have H_s:aC K mg "_law_told" lM ["param","saying","known"]:=bT X G a_s l_s c_s k_s λ_ _ _ _ _ _ us hl=>by obtain⟨_,_,_,rfl⟩:=lR hl;rfl
 have H_t:aC K mg "_law_graphs_in" ky ["errand","saying","known"]:=bT X G a_t l_t c_t k_t λ_ _ _ _ _ _ us hl=>by obtain⟨_,_,_,rfl⟩:=lR hl;rfl
 have H_u:aC K mg "_law_graphs" nI ["program"]:=bT X G a_u l_u c_u k_u λ_ _ _ _ _ _ us hl=>by obtain⟨_,rfl⟩:=fe hl;rfl
 have H_v:aC K mg "_law_graph_count" nJ ["own","most"]:=bT X G a_v l_v c_v k_v λ_ _ _ _ _ _ us hl=>by obtain⟨_,_,rfl⟩:=ln2 hl;rfl
 have H_w:aC K mg "_law_order" nK ["cell","params"]:=bT X G a_w l_w c_w k_w λ_ _ _ _ _ _ us hl=>by obtain⟨_,_,rfl⟩:=ln2 hl;rfl
 have H_x:aC K mg "_law_asked" nM ["way","program","name"]:=bT X G a_x l_x c_x k_x λ_ _ _ _ _ _ us hl=>by obtain⟨_,_,_,rfl⟩:=lR hl;rfl
 have H_y:aC K mg "_law_wheel" lQ ["name","params"]:=bT X G a_y l_y c_y k_y λ_ _ _ _ _ _ us hl=>by obtain⟨_,_,rfl⟩:=ln2 hl;rfl
 have H_z:aC K mg "_law_wheels_right" kA ["script"]:=bT X G a_z l_z c_z k_z λ_ _ _ _ _ _ us hl=>by obtain⟨_,rfl⟩:=fe hl;rfl
 have Gx:Gs K mg:=⟨ik X G z_12,ik X G z_13,ik X G z_14,ik X G z_15,ik X G z_16,ik X G z_17,ik X G z_18,ik X G z_19,ik X G z_1a,ik X G z_1b,ik X G z_1c,⟨_,ib X G z_11⟩⟩;have Rx:fb K mg ES (pV [(Rf.err,zb),(Rf.text,zc),(Rf.twice,zd),(Rf.such,ze),(Rf.count,zf),(Rf.apart,zg),(Rf.many,zh),(Rf.way,zi)]):=PM x_1l λi hi=>by
  rcases(by simpa using hi:i=Rf.err∨i=Rf.text∨i=Rf.twice∨i=Rf.such∨i=Rf.count∨i=Rf.apart∨i=Rf.many∨i=Rf.way) with rfl|rfl|rfl|rfl|rfl|rfl|rfl|rfl
  ·exact ib X G x_1d
  ·exact ib X G x_1e
  ·exact ib X G x_1f
  ·exact ib X G x_1g
  ·exact ib X G x_1h
  ·exact ib X G x_1i
  ·exact ib X G x_1j
  ·exact ib X G x_1k
 have aaU:=Bj (st:=jA) l_10 c_10 k_10;refine⟨bA "law" "law" (bC jA) (a7 jA) (aq jA) .none HM HN HP G_ za HQ,λs v=>.of_eq rfl,λbase _ _=>?_⟩;have fA:=TX (P:=l.prog) (w:=w) (base:=base) (k:=0) H_o Gx;have kF:=T7 (P:=l.prog) (w:=w) (base:=base) (k:=0) H_p Gx;have HS:=Ud (P:=l.prog) (w:=w) (base:=base) (k:=0) H_7 Gx;have aaV:=Ui (k:=2) H_8 Gx (Ug (k:=1) H_9 Gx HS);have aaW:=Uo (k:=2) H_5 Gx (Ul (k:=1) H_6 Gx (FW (k:=0) HR Gx) HS);have nS:=Us (k:=3) H_4 Gx aaW aaV;have aaX:=UI (P:=l.prog) (w:=w) (base:=base) (k:=2) H_c Gx (UE (k:=1) H_d Gx (UC (k:=0) H_e Gx));have jE:=UL (P:=l.prog) (w:=w) (base:=base) (k:=0) H_b;have nO:=UN (k:=3) H_a Gx Rx (jE.mono (by decide)) aaX;have ua:=UQ (P:=l.prog) (w:=w) (base:=base) (k:=0) H_k Gx Rx;have nU:=UT (k:=4) H_j Gx Rx (ua.mono (by decide)) (jE.mono (by decide)) nO;have xP:=UZ (P:=l.prog) (w:=w) (base:=base) (k:=0) H_n Gx;have aaY:=U1 (k:=4) H_m Gx (jE.mono (by decide)) nO (xP.mono (by decide));have nW:=U3 (k:=5) H_l Gx aaY;have nV:=Ve (k:=5) H_f Gx (nS.mono (by decide)) nU;have yf:=Vg (k:=6) H_g Gx nV (nW.mono (by decide));have nQ:=U6 (P:=l.prog) (w:=w) (base:=base) (k:=0) H_r Gx;have xV:=U8 (k:=1) H_s Gx nQ;have nY:=U' H_u Gx (Gp H_t Gx nQ xV 20);have xJ:=Uw (P:=l.prog) (w:=w) (base:=base) (k:=1) H_1 Gx (FW (k:=0) HR Gx);have x9:=Uy (k:=2) H_0 Gx xJ;have yb:=Vi (k:=3) H_h Gx Rx ((UA (k:=0) H_3 Rx).mono (by decide)) x9;have nX:=Vn (k:=6) H_i Gx (yb.mono (by decide)) (nS.mono (by decide)) (nU.mono (by decide)) (nW.mono (by decide));have yd:=Vu (P:=l.prog) (w:=w) (base:=base) (k:=0) H_q Gx;have nZ:=Vx (k:=1) H_v Gx yd;have yn:=VC (P:=l.prog) (w:=w) (base:=base) (k:=0) H_w Gx;have jF:=VG (k:=7) H_x Gx Rx (nV.mono (by decide)) yf nX;have yg:=VI (P:=l.prog) (w:=w) (base:=base) (k:=0) H_y Gx;have yo:=VP (k:=30) H_z Gx (fA.mono (by decide)) (kF.mono (by decide)) (yg.mono (by decide)) (nY.mono (by decide)) (nZ.mono (by decide)) (jF.mono (by decide));exact VZ aaU Gx (fA.mono (by decide)) (kF.mono (by decide)) (yn.mono (by decide)) (yo.mono (by decide)) (nY.mono (by decide)) (nZ.mono (by decide)) (jF.mono (by decide)) (nX.mono (by decide))
theorem walk{l:zM}{q:Program}{loose:List Str}{XP:(Str->Option Value)->Heap->Prop}{YP:World->Heap->Prop}{d:DefRec}{K:Params->ak}(hn:l.most=some 63)(hdf:d.params.defaults=[])
 (hY:∀(w:World) (h:Heap),YP w h->(K w.params).In h)
 (F:∀(w:World) (mg:Str->Option Value) (fa:Addr) (h:Heap),(K w.params).In h->h.Ns mainGlobals mg->mg d.name=some (.ref fa) ->
  ∃fd:FuncData,(∀(s:Shared) (u:Value),BindsTo s fd ⟨[u],[]⟩ [("script",u)])/\∀base:Heap,(K w.params).In base->base.Ns mainGlobals mg->dv l.prog w (K w.params) mg base (b8 l.prog w) 40 fa fd ["script"] (gU (K w.params) mV)) :
 IS q loose XP YP l.row.toRowW d [] (λf vs=>zK f vs) :=
 L2.MF (n:=63) (k:=40) (x:="script") (CX:=λw=>b8 l.prog w) (sp:=λw=>gU (K w.params) mV) hn (by decide) hdf ⟨rfl,by decide,by decide⟩ hY F (λ_ _ a ns hl hO hS=>O2 hl hO hS) λ_ _ _ _ _ z=>by
  obtain⟨a,C,T,H',_,_,_,_,_,_,_,_,_,_,z⟩:=z;exact z
end LW
end
inductive PySem.W.Fast:Prop|tw4904992584078664527|tw11820439799117037779|tw1135645960351609889|tw4068008484928939179|tw2949045827228559178|tw13415793217425380482|tw16435800739053495139|tw6279789250896578731|tw3728827611029500439|tw3131374732722445879|tw1000848371513362818|tw13376243067881076983|tw5160858822062504067|tw15728600880929787132|tw7193932028269041960|tw18151583084691680867|tw12301503101012240712|tw11087781316504026487|tw7876587876933115426|tw10070959060890342023|tw8573241215028851580|tw6528832778288113599|tw8383099772876649814|tw13207859010495501628|tw10724103154835055080|tw16411902926348926423|tw16514495837081060967|tw17837645999870183208|tw11051431301602020223|tw3217607455302613770|tw3337935185152931111|tw3270517076303674934|tw17469018949234545516|tw12265799570036701494|tw3585470203967842897|tw9287593251058295407|tw18340698221947247744|tw17937143319335310384|tw13884079218140644107|tw13960913256037593329|tw7984355233021542376|tw11612272870895722031|tw6763475825324837961|tw5195849857465218329|tw11861708500251720760|tw12126777715796657098|tw13718742587844033466|tw14780408774423025256|tw12063006944134799011|tw3186341654017369171|tw1068786444125603668|tw4075003129092760001|tw6294979194385208485|tw14699807792053481852|tw11998130122954242888|tw14472932224016576218|tw6851581505550827070|tw12874623142063801789|tw7005114703748462932|tw6670020385513379357|tw8568072120165473078|tw18343463241482182659|tw5883652590993419788|tw15666093244829915124|tw14903631097476897501|tw17363855130224392128|tw807093885459155546|tw4129185686509514869|tw5727156490154730848|tw12744104437985733084|tw7688395235196374138|tw6549491127796555161|tw12411861839686814390|tw580284532083903995|tw3736103865346962913|tw16903563295398372275|tw1237226205278974064|tw9559191133189233632|tw2241180275254628011|tw16422786224996593544|tw8759467154727548404|tw4373771521251681184|tw17010056896942142871|tw8984358277085882318|tw952196596099084466|tw13122401090479437613|tw10313769600201073626|tw16208187436659487398|tw2466694839576988150|tw6190499397106172180|tw13819132845872068521|tw14993815444666925919|tw2787007242142413122|tw9889314592771039902|tw6350276234769564739|tw28758362589095611|tw10183634279773290391|tw17394460282528862525|tw99824977349641247|tw5527160989260294048|tw12277176811634096822|tw7004685982345654002|tw4561447516978603964|tw16988978756121798100|tw6164690052423024779|tw2240366147373064277|tw13314615176726467828|tw12878234003368582107|tw17568267120805246509|tw910696533482420866|tw17362682319164914332|tw7553345041763577662|tw4049424693191407946|tw17669020965988285116|tw17191470252631272891|tw7289752825070951091|tw2090367524159705576|tw311711016957700144|tw12137081144437229788|tw1900683318616244711|tw11003975914094502493|tw18175820784211399843|tw10541750017692747180|tw15401442813514897516|tw17732650226985537309|tw14773037526201237836|tw15834936965693458342|tw16599887265894667004|tw2513650382388186354|tw18259186618128435131|tw11234728278966389240|tw9234619597322167786|tw6872890166187223890|tw9829884639483712235|tw9202835279175747614|tw9320939410499838494|tw6313468350673727062|tw9798908165641556290|tw10406344198015490902|tw14619165320844419588|tw9827324263236358635|tw9663300207216485356|tw18433609799388954567|tw5880988705213747702|tw17992794193116005296|tw15933439942823786410|tw14376265458608543301|tw5566615144155204346|tw13134093258705672001|tw4086190382030190230|tw13382290221771037945|tw17355416893083429953|tw17746138188104504050|tw5031378457874393345|tw4786402117004301506|tw10869436740236047825|tw15011628219628986336|tw11644066037457375055|tw4660084461874664066|tw15785130097199734207|tw5623565308705365339|tw396557386015661116|tw16278564693110447492|tw5289685464837526953|tw564689929904021769|tw71186031170822826|tw247754571069194044|tw9090830192159187945|tw14691656196513584194|tw8865545939468067792|tw13755390599536667430|tw17331577435014269653|tw935186840554706364|tw9146478110920473243|tw2068269048359017147|tw7484569445459528577|tw10186664969191704469|tw2390925190863918851|tw4886132188123513496|tw12289256772583502437|tw15813914006892641339|tw13163717822101764703|tw14879443349601912074|tw1368853041308716758|tw13989718525883494617|tw16520042715136123001|tw9318913706190728700|tw17918048847702426459|tw3091652578477945898|tw2948778457878442772|tw2646957589723802934|tw16536317744348442983|tw16536014698365453320|tw2334934739806316612|tw12997618061501189814|tw16641407884970020628
open PySem PySem.W PyProof.Rows
set_option maxRecDepth 100000 in
set_option maxHeartbeats 0 in
theorem PySem.Challenge.cw_errandend_k17_too_many_holds : PySem.Challenge.rw_errandend_k17_too_many.Holds := by
 w_on; o_law; k_head; (case hw => w_witness2)
 k_fill
 refine LW.walk (l := PySem.Challenge.rw_errandend_k17_too_many) rfl rfl (fun w h Y => PySem.W.kIn_of Y) ?F
 case F =>
  intro w mg fa h KX G hmg
  refine' LW.all_mk KX G hmg ?a_0 ?l_0 ?c_0 ?k_0 ?a_1 ?l_1 ?c_1 ?k_1 ?a_2 ?l_2 ?c_2 ?k_2 ?a_3 ?l_3 ?c_3 ?k_3 ?a_4 ?l_4 ?c_4 ?k_4 ?a_5 ?l_5 ?c_5 ?k_5 ?a_6 ?l_6 ?c_6 ?k_6 ?a_7 ?l_7 ?c_7 ?k_7 ?a_8 ?l_8 ?c_8 ?k_8 ?a_9 ?l_9 ?c_9 ?k_9 ?a_a ?l_a ?c_a ?k_a ?a_b ?l_b ?c_b ?k_b ?a_c ?l_c ?c_c ?k_c ?a_d ?l_d ?c_d ?k_d ?a_e ?l_e ?c_e ?k_e ?a_f ?l_f ?c_f ?k_f ?a_g ?l_g ?c_g ?k_g ?a_h ?l_h ?c_h ?k_h ?a_i ?l_i ?c_i ?k_i ?a_j ?l_j ?c_j ?k_j ?a_k ?l_k ?c_k ?k_k ?a_l ?l_l ?c_l ?k_l ?a_m ?l_m ?c_m ?k_m ?a_n ?l_n ?c_n ?k_n ?a_o ?l_o ?c_o ?k_o ?a_p ?l_p ?c_p ?k_p ?a_q ?l_q ?c_q ?k_q ?a_r ?l_r ?c_r ?k_r ?a_s ?l_s ?c_s ?k_s ?a_t ?l_t ?c_t ?k_t ?a_u ?l_u ?c_u ?k_u ?a_v ?l_v ?c_v ?k_v ?a_w ?l_w ?c_w ?k_w ?a_x ?l_x ?c_x ?k_x ?a_y ?l_y ?c_y ?k_y ?a_z ?l_z ?c_z ?k_z ?a_10 ?l_10 ?c_10 ?k_10 ?z_12 ?z_13 ?z_14 ?z_15 ?z_16 ?z_17 ?z_18 ?z_19 ?z_1a ?z_1b ?z_1c ?z_11 ?x_1d ?x_1e ?x_1f ?x_1g ?x_1h ?x_1i ?x_1j ?x_1k ?x_1l
  (case a_0=>k_is)
  (case l_0=>k_is)
  (case c_0=>k_is)
  (case k_0=>k_is)
  (case a_1=>k_is)
  (case l_1=>k_is)
  (case c_1=>k_is)
  (case k_1=>k_is)
  (case a_2=>k_is)
  (case l_2=>k_is)
  (case c_2=>k_is)
  (case k_2=>k_is)
  (case a_3=>k_is)
  (case l_3=>k_is)
  (case c_3=>k_is)
  (case k_3=>k_is)
  (case a_4=>k_is)
  (case l_4=>k_is)
  (case c_4=>k_is)
  (case k_4=>k_is)
  (case a_5=>k_is)
  (case l_5=>k_is)
  (case c_5=>k_is)
  (case k_5=>k_is)
  (case a_6=>k_is)
  (case l_6=>k_is)
  (case c_6=>k_is)
  (case k_6=>k_is)
  (case a_7=>k_is)
  (case l_7=>k_is)
  (case c_7=>k_is)
  (case k_7=>k_is)
  (case a_8=>k_is)
  (case l_8=>k_is)
  (case c_8=>k_is)
  (case k_8=>k_is)
  (case a_9=>k_is)
  (case l_9=>k_is)
  (case c_9=>k_is)
  (case k_9=>k_is)
  (case a_a=>k_is)
  (case l_a=>k_is)
  (case c_a=>k_is)
  (case k_a=>k_is)
  (case a_b=>k_is)
  (case l_b=>k_is)
  (case c_b=>k_is)
  (case k_b=>k_is)
  (case a_c=>k_is)
  (case l_c=>k_is)
  (case c_c=>k_is)
  (case k_c=>k_is)
  (case a_d=>k_is)
  (case l_d=>k_is)
  (case c_d=>k_is)
  (case k_d=>k_is)
  (case a_e=>k_is)
  (case l_e=>k_is)
  (case c_e=>k_is)
  (case k_e=>k_is)
  (case a_f=>k_is)
  (case l_f=>k_is)
  (case c_f=>k_is)
  (case k_f=>k_is)
  (case a_g=>k_is)
  (case l_g=>k_is)
  (case c_g=>k_is)
  (case k_g=>k_is)
  (case a_h=>k_is)
  (case l_h=>k_is)
  (case c_h=>k_is)
  (case k_h=>k_is)
  (case a_i=>k_is)
  (case l_i=>k_is)
  (case c_i=>k_is)
  (case k_i=>k_is)
  (case a_j=>k_is)
  (case l_j=>k_is)
  (case c_j=>k_is)
  (case k_j=>k_is)
  (case a_k=>k_is)
  (case l_k=>k_is)
  (case c_k=>k_is)
  (case k_k=>k_is)
  (case a_l=>k_is)
  (case l_l=>k_is)
  (case c_l=>k_is)
  (case k_l=>k_is)
  (case a_m=>k_is)
  (case l_m=>k_is)
  (case c_m=>k_is)
  (case k_m=>k_is)
  (case a_n=>k_is)
  (case l_n=>k_is)
  (case c_n=>k_is)
  (case k_n=>k_is)
  (case a_o=>k_is)
  (case l_o=>k_is)
  (case c_o=>k_is)
  (case k_o=>k_is)
  (case a_p=>k_is)
  (case l_p=>k_is)
  (case c_p=>k_is)
  (case k_p=>k_is)
  (case a_q=>k_is)
  (case l_q=>k_is)
  (case c_q=>k_is)
  (case k_q=>k_is)
  (case a_r=>k_is)
  (case l_r=>k_is)
  (case c_r=>k_is)
  (case k_r=>k_is)
  (case a_s=>k_is)
  (case l_s=>k_is)
  (case c_s=>k_is)
  (case k_s=>k_is)
  (case a_t=>k_is)
  (case l_t=>k_is)
  (case c_t=>k_is)
  (case k_t=>k_is)
  (case a_u=>k_is)
  (case l_u=>k_is)
  (case c_u=>k_is)
  (case k_u=>k_is)
  (case a_v=>k_is)
  (case l_v=>k_is)
  (case c_v=>k_is)
  (case k_v=>k_is)
  (case a_w=>k_is)
  (case l_w=>k_is)
  (case c_w=>k_is)
  (case k_w=>k_is)
  (case a_x=>k_is)
  (case l_x=>k_is)
  (case c_x=>k_is)
  (case k_x=>k_is)
  (case a_y=>k_is)
  (case l_y=>k_is)
  (case c_y=>k_is)
  (case k_y=>k_is)
  (case a_z=>k_is)
  (case l_z=>k_is)
  (case c_z=>k_is)
  (case k_z=>k_is)
  (case a_10=>k_is)
  (case l_10=>k_is)
  (case c_10=>k_is)
  (case k_10=>k_is)
  (case z_12=>k_is)
  (case z_13=>k_is)
  (case z_14=>k_is)
  (case z_15=>k_is)
  (case z_16=>k_is)
  (case z_17=>k_is)
  (case z_18=>k_is)
  (case z_19=>k_is)
  (case z_1a=>k_is)
  (case z_1b=>k_is)
  (case z_1c=>k_is)
  (case z_11=>k_is)
  (case x_1d=>k_is)
  (case x_1e=>k_is)
  (case x_1f=>k_is)
  (case x_1g=>k_is)
  (case x_1h=>k_is)
  (case x_1i=>k_is)
  (case x_1j=>k_is)
  (case x_1k=>k_is)
  (case x_1l=>kernel_rfl)
#print axioms PySem.Challenge.cw_errandend_k17_too_many_holds
