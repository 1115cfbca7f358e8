import PyProof.Rows.All
import Wide.All
import OpenK.AllK
import Wide.FinOn
import Lean
import PyProof.EqAt
import PyProof.EqKinds
import PyProof.TupleCall
import PySem.Challenge.RW_errandend_k16_closure
set_option Elab.async false
set_option linter.all false
set_option maxRecDepth 100000
noncomputable section
open Array renaming forIn_toList→Ir,length_toList→IH,toList→II
open Bool renaming false_ne_true→cF,eq_iff_iff→e_,and_eq_true→fE,false_eq_true→i_,and_self→l9,and_assoc→Iy,not_true→Iz,or_false→Ja,and_false→Jd
open False renaming elim→fS
open Function renaming comp_def→JI
open Int renaming toNat_natCast→fT,emod_nonneg→kN,toNat→oI,le_refl→uQ,emod_lt_of_pos→Ab
open List renaming length_map→aA,getElem?_map→aJ,getElem?_eq_getElem→aV,range→aW,mem_cons→a9,length_append→ba,map_cons→bo,mem_map→bp,getElem?_eq_some_iff→bH,getD_eq_getElem?_getD→bJ,mem_append→bR,mem_cons_self→bY,not_mem_nil→bZ,size_toArray→b7,length_cons→cf,mem_cons_of_mem→cg,mem_of_getElem?→cj,mem_singleton→cH,map_append→cI,getElem?_eq_none→cT,length_take→dh,mem_append_right→dG,replicate→eG,length_nil→eJ,map_map→eL,mem_append_left→fb,length_drop→fc,map_nil→fU,take_succ→gw,ext_getElem?→gx,mem_range→gV,lookup_cons→gW,nodup_cons→ik,take_length→ir,getElem_of_mem→iw,mem_map_of_mem→ix,getElem?_range→iy,length_singleton→jd,find?_cons→je,cons_append→jO,take_of_length_le→jS,getElem?_append_left→kJ,any_cons→kL,append_nil→l_,all_cons→ma,length→mj,getElem_mem→mq,any_eq_true→mr,flatten_cons→mv,mem_filterMap→oy,drop_zero→oC,nodup_iff_pairwise_ne→oF,getElem?_append_right→qQ,length_range→qT,forIn_cons→qU,pairwise_map→qV,mem_of_mem_take→qW,range_succ→qZ,getElem?_take_of_lt→ur,forIn_nil→uF,drop_eq_nil_of_le→uI,take_append_drop→uJ,filter_append→uP,length_reverse→uR,lookup_append→uS,drop_eq_getElem_cons→uX,drop_length→uY,mem_filter→zf,filterMap_cons→zg,of_mem_zip→zq,take_sublist→zt,foldl_cons→zX,range'→z_,mem_of_mem_drop→Aa,getElem?_zip_eq_some→Af,getElem?_reverse→Ag,append_assoc→Ah,takeWhile_cons→Ai,map_congr_left→Aj,mem_flatten→Ak,flatten_append→Am,nodup_append→An,getElem?_zipIdx→Aq,map_take→As,mem_zipIdx_iff_getElem?→Av,range_succ_eq_map→Iu,all_map→Iv,getElem?_set_self→IB,getElem?_set_ne→IC,any_eq_false→IL,getElem?_replicate→IU,length_replicate→IV,length_dropLast→Je,dropLast_concat→Jj,zipIdx_cons→Jx,zipIdx_nil→Jy,length_filter_le→JB,length_erase_of_mem→JC,length_pos_of_mem→JD,mem_erase_of_ne→JE,nil_append→JH,getElem?_eq_none_iff→JJ,any_map→JR,map_drop→JW,find?_eq_none→JY,length_pos_iff→JZ,pairwise_cons→J0,pairwise_iff_getElem→J1,getElem_zipIdx→J2,getElem?_inj→J4
open List.Pairwise renaming imp_of_mem→Jr
open List.cons renaming injEq→oJ
open Nat renaming le_refl→aX,le_trans→bX,lt_of_lt_of_le→cZ,ne_of_lt→c_,zero_le→dQ,lt_irrefl→jb,le_of_lt→md,ne_of_gt→mi,add_assoc→ou,sub_zero→oD,le_add_right→qY,min_eq_left→uG,min_eq_right→uH,lt_of_le_of_lt→zT,sub_self→Aw,succ_min_succ→Iw,le_of_not_lt→Jf,strongRecOn→JN
open Ne renaming symm→cG
open Option renaming map_eq_some_iff→bU,bind_eq_some_iff→eK,isSome_map→uz,map_some→uT,isSome_iff_exists→zr,isSome_some→zU,getD_none→Jb,getD_some→Jl,toList_some→J3
open Option.some renaming inj→cS,injEq→jR
open Prod renaming fst→aP,snd→mw
open Prod.mk renaming injEq→jf
open PyProof.Rows renaming boot_tuple→gY,callWith_type1→kH,slot_tuple_getitem→mo,boot_isinstance→rf,Subscript_→zF,entry_tuple_getitem→IY,args_tuple_getitem→IZ,subscriptTail_builtinR→I0
open PyProof.Rows.IsTup renaming new→zG
open PySem renaming wpAny_bind→aj,wpAny_pure→aG,wpAny_field→di,boot_len→dH,wpAny_mono→eE,wpAny_setField_rec→gv,mem_of_lookup→ip,wpAny_call_entry→i9,wpAny_seqItems→ja,wpAny_truthy_bool→jP,wpAny_callSpecial?_slot→jQ,wpAny_rule→kG,wpAny_newObj_type→kK,Addr→kM,wpAny_holding→mf,wpAny_passesOwn→mh,wpAny_specialOf→oq,wpAny_pyIter_tuple→ox,wpAny_letGo→oH,lookup_relabel_local→oK,wpAny_execs_nil→qO,wpAny_typeOf→qR,eqIsQuiet_byValue→uk,wpAny_getItem_str_slice→uC,post_val_or_str→uD,wpAny_onRaise→uM,wpAny_attempt→uN,wpAny_updateSeq→uV,wpAny_loadPart'→uW,wpAny_isInstance→zc,wpAny_Name→zh,wpAny_standAt→zi,sizeLine_eq→zj,wpAny_Call_Name_kw→zu,concat_meets→zw,noFill_tuple_add→zy,seq_tuple_add→zA,seqIndex_of→zI,seqIndex_neg→zJ,typeIs_str→zK,call_meets→zO,call→zQ,codeAny_mono→zR,call_meetsIn→zV,wpAny_updateSeq_pair→Ac,Within→IA,wpAny_loadName_local→ID,wpAny_loadName_cell→IE,wpAny_isTrue_Compare1→IG,wpAny_assign_Name→IJ,wpAny_pyIter_list→IK,wpAny_sequenceKey→IX,slot_list_getitem→I_,wpAny_pyIter_revIter→JF,wpAny_comprehension_free→JG,builtinLookup_eq_fast→JO,richCompare_meets_room→JV
open PySem.AutoSeq1 renaming sub_tuple_tuple→JT
open PySem.Builtin.List renaming listTooLong→zN,listExtendWith→Ap,listItems→JP,listSameRef→JQ
open PySem.Builtin.Range renaming rangeSize→abJ
open PySem.Builtin.Slice renaming slicePlaces→uu,sliceAdjust→zE,sliceApplied→IW,slicePartIndex→abS,sliceFields→abT
open PySem.Builtin.SmallTypes renaming nextOf→jT,ownedTupleIsFree→oG,ownedTupleHandOut→qX
open PySem.Builtin.Str renaming strSliceIndices→Jk
open PySem.Builtin.Tuple renaming tupleHashOf→oo,tupleExact→uv,tupleItemsOf→zb,tupleIsExact→Jm,tupleCompareSizes→JU
open PySem.Calls renaming spliced_cons→uo,spliced_nil→zp,callWith_builtin→zL,evalArgs_plain→zM,Name_function_global→IF
open PySem.EqMixed renaming eq_bool_str→abK,eq_int_str→abL,eq_str_bool→abM,eq_str_int→abN,ne_bool_str→abO,ne_int_str→abP,ne_str_bool→abQ,ne_str_int→abR
open PySem.F renaming plainAttrs_list→eM,slot_list_append→gu,type_list_append→gZ,slot_enumerate_next→q_,slot_tuple_hash→uj,slot_list_extend→uy,slot_tuple_iterator_next→uK,slot_zip_next→uO,slot_tuple_add→zB,entry_tuple_add→zC,args_tuple_add_2→zD,slot_list_pop→zP,slot_dict_get→zW,plain_extend_loop→Ao,type_list_extend→Au,entry_dict_get→Jh,args_dict_get_3→Ji,excBase_ValueError→Jp,entry_tuple_iterator_next→Js,args_tuple_iterator_next_1→Jt,entry_zip_next→Jz,args_zip_next_1→JA,entry_enumerate_next→JK,args_enumerate_next_1→JL,slot_enumerate_iter→JM,slot_dict_len→JS,type_list_pop→JX
open PySem.Heap renaming lt_size→bh,get?_push_of_some→bC,get?_push_size→dn,SameBut→fF,size_push→iu,get?_update_other→oA,get?_update_self→qS,ExtBut→uL,MadeExcOf→zY,FlyingW→zZ,IsTuple→Ad
open PySem.Heap.IsSliceOf renaming new→abU
open PySem.Heap.SameBut renaming update→Jw
open PySem.Heap.UpToSlots renaming of_keeps→Jo
open PySem.Obj renaming mapSeq→eI,data_mapFields→Ju
open PySem.PassesOwn renaming never→da
open PySem.SeqAt renaming EqAt→ux,in_listAt→Jc
open PySem.SeqAt.EqAt renaming int_str→Ip,str_int→Iq
open PySem.Shared renaming heap→Ae
open PySem.Str renaming ofString→iq,length→uw,append→uA
open PySem.Txt renaming slice→uB
open PySem.Value renaming isInt→Il,isStrOf→Io
open PySem.Value.type renaming inj→uU
open PySem.W renaming Frag→ak,nsIn→bb,fnOf→br,keepIn→bD,codeIn→bF,kia_one→gq,kitCls→gX,mg_none_of→g6,hideAll→jc,kitOne→kI,of_hideAll→ow,mg_of→oB,excIn→oE,hideAll_none→qN,findIn→qP,hideAll_get→um,cellsFrom_some→uq,funFrames_hide→uE,instObj→zd,methodObj→ze,lookIn→zl,mroIn→zm,kitx_list→zo,OpenLaw→zS,Looks→z0,plainGet→IM,specialIn→IP,takesIn→IQ,kitx_tuple→IS,kitx_dict→IT,WalkO→Jg,subIn→Jn,kit_cls→Jq
open PySem.W.Looks renaming of_pure→abV,ld→abW
local macro_rules|`(tactic|lia)=>`(tactic|omega)
local macro_rules|`(tactic|cbv)=>`(tactic|decide +kernel)
namespace L2
open PySem PySem.Spec PyProof.Rows
abbrev Key:=Sum Int Str
def mx:Key->Value->Bool
 | .inl k,v=>Il k v
 | .inr x,v=>Io x v
def J5(w:World):Key->Int
 | .inl k=>hashInt k
 | .inr x=>hashStr w x
theorem jg:∀{k:Key} {v:Value},mx k v=true->(∃i t,k=Sum.inl i/\v=Value.int i t)∨(∃x t,k=Sum.inr x/\v=Value.str x t)
 | .inl i,v,h=>by
  obtain⟨t,e⟩:=Value.isInt_shape (k:=i) (v:=v) h;exact .inl ⟨i,t,rfl,e⟩
 | .inr x,v,h=>by
  obtain⟨t,e⟩:=Value.isStrOf_shape (x:=x) (v:=v) h;exact .inr ⟨x,t,rfl,e⟩
theorem J6(i:Int)(t:Tok):mx (.inl i) (.int i t)=true:=by simp[mx,Il]
theorem J7(x:Str)(t:Tok):mx (.inr x) (.str x t)=true:=by simp[mx,Io]
theorem J8(a b:Int):decide ((Sum.inl a:Key)=Sum.inl b)=(a==b):=by
 by_cases e:a=b
 ·subst e;simp
 ·have h:¬(Sum.inl a:Key)=Sum.inl b:=λq=>e (Sum.inl.inj q);rw[decide_eq_false h];exact(beq_eq_false_iff_ne.mpr e).symm
theorem J9(a b:Str):decide ((Sum.inr a:Key)=Sum.inr b)=decide (a=b):=by
 by_cases e:a=b
 ·subst e;simp
 ·have h:¬(Sum.inr a:Key)=Sum.inr b:=λq=>e (Sum.inr.inj q);rw[decide_eq_false h,decide_eq_false e]
theorem J_(a:Int)(b:Str):decide ((Sum.inl a:Key)=Sum.inr b)=false:=decide_eq_false (λq=>nomatch q)
theorem J'(a:Str)(b:Int):decide ((Sum.inr a:Key)=Sum.inl b)=false:=decide_eq_false (λq=>nomatch q)
def fe(prog:Program)(w:World):PySem.KeyKind prog w Key where
 is:=mx
 hash:=J5 w
 inj:=λv a b ha hb=>by
  rcases jg ha with⟨i,t,rfl,rfl⟩|⟨x,t,rfl,rfl⟩
  ·rcases jg hb with⟨j,u,rfl,e⟩|⟨y,u,rfl,e⟩
   ·injection e with e1 _;rw[e1]
   ·exact nomatch e
  ·rcases jg hb with⟨j,u,rfl,e⟩|⟨y,u,rfl,e⟩
   ·exact nomatch e
   ·injection e with e1 _;rw[e1]
 byValue:=λk v h=>by
  rcases jg h with⟨i,t,rfl,rfl⟩|⟨x,t,rfl,rfl⟩<;>rfl
 pyHash:=λhv h=>by
  rcases jg hv with⟨i,t,rfl,rfl⟩|⟨x,t,rfl,rfl⟩
  ·exact wpAny_pyHash_int h
  ·exact wpAny_pyHash_str h
 eqBool:=λhu hv h=>by
  rcases jg hu with⟨i,t,rfl,rfl⟩|⟨x,t,rfl,rfl⟩
  ·rcases jg hv with⟨j,u,rfl,rfl⟩|⟨y,u,rfl,rfl⟩
   ·rw[J8]at h;exact wpAny_eqBool_int h
   ·rw[J_]at h;exact Ip i t y u _ _ _ _ h
  ·rcases jg hv with⟨j,u,rfl,rfl⟩|⟨y,u,rfl,rfl⟩
   ·rw[J']at h;exact Iq x t j u _ _ _ _ h
   ·rw[J9]at h;exact wpAny_eqBool_str h
 «strs»:=λk x t v h=>by
  rcases jg h with⟨i,u,rfl,e⟩|⟨y,u,rfl,e⟩
  ·exact nomatch e
  ·injection e with e1 _;subst e1;cases v<;>rfl
theorem uZ(prog:Program)(w:World)(i:Int)(t:Tok):(fe prog w).is (.inl i) (.int i t)=true:=J6 i t
theorem u4(prog:Program)(w:World)(x:Str)(t:Tok):(fe prog w).is (.inr x) (.str x t)=true:=J7 x t
end L2
namespace L2
open PySem PySem.Spec PyProof.Rows SeqAt
inductive DK where
 |int (i:Int)|str (x:Str)|tup (ks:List DK)
mutual
def DK.beq:DK->DK->Bool
 | .int a,.int b=>decide (a=b)
 | .str a,.str b=>decide (a=b)
 | .tup a,.tup b=>DK.fG a b
 |_,_=>false
def DK.fG:List DK->List DK->Bool
 |[],[]=>true
 |a::as,b::bs=>a.beq b&&DK.fG as bs
 |_,_=>false
end
mutual
theorem DK.beq_eq:∀{a b:DK},a.beq b=true->a=b
 | .int a,.int b,h=>by simp only[DK.beq,decide_eq_true_eq]at h;rw[h]
 | .str a,.str b,h=>by simp only[DK.beq,decide_eq_true_eq]at h;rw[h]
 | .tup a,.tup b,h=>by simp only[DK.beq]at h;rw[DK.Ax h]
 | .int _,.str _,h=>by simp[DK.beq]at h
 | .int _,.tup _,h=>by simp[DK.beq]at h
 | .str _,.int _,h=>by simp[DK.beq]at h
 | .str _,.tup _,h=>by simp[DK.beq]at h
 | .tup _,.int _,h=>by simp[DK.beq]at h
 | .tup _,.str _,h=>by simp[DK.beq]at h
theorem DK.Ax:∀{as bs:List DK},DK.fG as bs=true->as=bs
 |[],[],_=>rfl
 |a::as,b::bs,h=>by
  simp only[DK.fG,fE]at h;rw[DK.beq_eq h.1,DK.Ax h.2]
 |[],_::_,h=>by simp[DK.fG]at h
 |_::_,[],h=>by simp[DK.fG]at h
end
mutual
theorem DK.beq_refl:∀a:DK,a.beq a=true
 | .int a=>by simp[DK.beq]
 | .str a=>by simp[DK.beq]
 | .tup as=>by simp only[DK.beq];exact DK.Ay as
theorem DK.Ay:∀as:List DK,DK.fG as as=true
 |[]=>by simp[DK.fG]
 |a::as=>by simp only[DK.fG,DK.beq_refl a,DK.Ay as,l9]
end
instance:DecidableEq DK:=λa b=>if h:a.beq b=true then .isTrue (DK.beq_eq h) else .isFalse λe=>h (e▸DK.beq_refl a)
mutual
def DK.deep:DK->Nat
 | .tup ks=>DK.cN ks+1
 |_=>0
def DK.cN:List DK->Nat
 |[]=>0
 |k::ks=>max k.deep (DK.cN ks)
end
mutual
inductive dj(h:Heap):DK->Value->Prop where
 |int (i:Int) (t:Tok):dj h (.int i) (.int i t)
 |str (x:Str) (t:Tok):dj h (.str x) (.str x t)
 |tup {ks:List DK} {a:Addr} {o:Obj} {items:Array Value} {n:Nat}:h.get? a=some o->o.cls=.type "tuple"->o.data=.seq items n->dc h ks items.toList->dj h (.tup ks) (.ref a)
inductive dc(h:Heap):List DK->List Value->Prop where
 |nil:dc h [] []
 |cons {k:DK} {v:Value} {ks:List DK} {vs:List Value}:dj h k v->dc h ks vs->dc h (k::ks) (v::vs)
end
mutual
theorem dj.inj{h:Heap}:∀{x y:DK} {v:Value},dj h x v->dj h y v->x=y
 |_,_,_,.int i t,e=>by cases e;rfl
 |_,_,_,.str x t,e=>by cases e;rfl
 |_,_,_,.tup h1 _ h3 h4,e=>by
  cases e with
  |tup g1 _ g3 g4 =>
   rw[h1]at g1;cases g1;rw[h3]at g3;cases g3;rw[dc.inj h4 g4]
theorem dc.inj{h:Heap}:∀{xs ys:List DK} {vs:List Value},dc h xs vs->dc h ys vs->xs=ys
 |_,_,_,.nil,e=>by cases e;rfl
 |_,_,_,.cons h1 h2,e=>by
  cases e with
  |cons g1 g2=>rw[dj.inj h1 g1,dc.inj h2 g2]
end
mutual
theorem dj.mono{h h':Heap}(k:∀a o items n,h.get? a=some o->o.data=.seq items n->h'.get? a=some o):∀{x:DK} {v:Value},dj h x v->dj h' x v
 |_,_,.int i t=>.int i t
 |_,_,.str x t=>.str x t
 |_,_,.tup h1 h2 h3 h4=>.tup (k _ _ _ _ h1 h3) h2 h3 (dc.mono k h4)
theorem dc.mono{h h':Heap}(k:∀a o items n,h.get? a=some o->o.data=.seq items n->h'.get? a=some o):∀{xs:List DK} {vs:List Value},dc h xs vs->dc h' xs vs
 |_,_,.nil=>.nil
 |_,_,.cons h1 h2=>.cons (dj.mono k h1) (dc.mono k h2)
end
section
variable(P:Program)(w:World)
mutual
def jh:DK->Int
 | .int i=>(fe P w).hash (.inl i)
 | .str x=>(fe P w).hash (.inr x)
 | .tup ks=>reduceHash (oo (gy ks))
def gy:List DK->List Int
 |[]=>[]
 |k::ks=>jh k::gy ks
end
end
mutual
def ji:DK->Nat
 | .int _=>1
 | .str _=>1
 | .tup ks=>jU ks+1
def jU:List DK->Nat
 |[]=>0
 |k::ks=>ji k+jU ks
end
theorem u5(P:Program)(w:World):∀(ks:List DK) (k:DK),gy P w (ks++[k])=gy P w ks++[jh P w k]
 |[],k=>by simp[gy]
 |x::ks,k=>by rw[jO,gy,gy,u5 P w ks k,jO]
theorem u6:∀(ks:List DK) (k:DK),jU (ks++[k])=jU ks+ji k
 |[],k=>by simp[jU]
 |x::ks,k=>by rw[jO,jU,jU,u6 ks k];lia
theorem Az:∀(a b:List DK),DK.cN (a++b)=max (DK.cN a) (DK.cN b)
 |[],b=>by simp[DK.cN]
 |x::a,b=>by rw[jO,DK.cN,DK.cN,Az a b];lia
section
variable{P:Program}{w:World}
theorem Ka:∀(n:Nat) {A:Around} {E:Value->Shared->Prop} {s:Shared} {k:DK} {v:Value} {Q:Int->Shared->Prop},k.deep<=n->A.units+n<cLine->dj s.heap k v->Q (jh P w k) {s with toks:=s.toks+ji k} ->
 wpAny (model P w) A (PySem.pyHash v) Q E s:=by
 intro n
 induction n with
 |zero =>
  intro A E s k v Q hn hu hk h;cases hk with
  |int i t=>rw[jh,ji]at h;exact(fe P w).pyHash (k:=.inl i) (uZ _ _ i t) h
  |str x t=>rw[jh,ji]at h;exact(fe P w).pyHash (k:=.inr x) (u4 _ _ x t) h
  |tup h1 h2 h3 h4=>simp[DK.deep]at hn
 |succ n ih =>
  intro A E s k v Q hn hu hk h;cases hk with
  |int i t=>rw[jh,ji]at h;exact(fe P w).pyHash (k:=.inl i) (uZ _ _ i t) h
  |str x t=>rw[jh,ji]at h;exact(fe P w).pyHash (k:=.inr x) (u4 _ _ x t) h
  |@tup ks a o items m h1 h2 h3 h4 =>
   have hT:s.TypeIs (.ref a) "tuple":=⟨o,h1,h2⟩;have hu0:A.units<cLine:=by lia
   rw[DK.deep]at hn;unfold pyHash
   first|unfold pyHashByItsType|skip
   first|refine aj (wpAny_cRoomFor_or (.inr hu0) ?_)|skip
   refine aj (oq hT uj.lookup ?_);show wpAny _ _ (if(some (Value.builtin "tuple.__hash__")==some Value.none)=true then _ else _) Q E s;rw[if_neg (by rw[beq_builtin_none];exact cF)];refine aj (oq hT uj.lookup ?_);show wpAny _ _ (callSpecialIfBoundUnlessNone? (.ref a) "__hash__" _ >>= _) Q E s;refine aj (wpAny_callSpecialIfBoundUnlessNone?_slot hT uj (i9 uj hT F.entry_tuple_hash ?_ (F.args_tuple_hash_1 _)));show wpAny _ _ (zb (.ref a) >>= _) _ _ s;refine aj (wpAny_tupleItemsOf h1 h3 ?_);refine aj ?_;rw[<-Ir];refine wpAny_forIn_list _
    (λrest (b:Array Int) s'=>∃done left,ks=done++left/\dc s.heap left rest/\b.toList=gy P w done/\s'={s with toks:=s.toks+jU done})
    _ ?_ ?_ _ _ ⟨[],ks,rfl,h4,rfl,rfl⟩
   ·rintro x rest b s' ⟨done,left,rfl,hl,hb,rfl⟩;cases hl with
    |@cons k _ ks' _ g1 hl' =>
     have hd:k.deep<=n:=by
      rw[Az,DK.cN]at hn;lia
     refine aj (ih hd ?_ g1 ?_)
     ·show A.units+1+n<cLine;lia
     first
      |exact aG ⟨done++[k],ks',by simp,hl',by simp[hb,u5],by simp[u6,ou]⟩
      |exact aj (aG (aG ⟨done++[k],ks',by simp,hl',by simp[hb,u5],by simp[u6,ou]⟩))
   ·rintro b s' ⟨done,left,rfl,hl,hb,rfl⟩;cases hl;rw[l_]at h;show wpAny _ _ (retInt (oo b.toList)) _ _ _;rw[hb];refine wpAny_ret_mkInt ?_;show wpAny _ _ (if(decide (-(2:Int)^63<=oo (gy P w done))&&decide (oo (gy P w done)<2^63))=true then _ else _) Q E _;rw[jh,ji]at h;unfold reduceHash at h;by_cases hr:(decide (-(2:Int)^63<=oo (gy P w done))&&decide (oo (gy P w done)<2^63))=true
    ·rw[if_pos hr];rw[if_pos hr]at h;exact aG (by simpa[ou]using h)
    ·rw[if_neg hr];rw[if_neg hr]at h;exact aj (kG (aG (by simpa[ou]using h)))
def oM(ds es:List DK)(i:Nat):Bool:=match ds[i]?,es[i]? with
 |some d,some e=>d.beq e
 |_,_=>true
theorem Kb(ds es:List DK)(d e:DK)(n:Nat):(aW (n+1)).all (oM (d::ds) (e::es))=(d.beq e&&(aW n).all (oM ds es)):=by
 rw[Iu,ma,Iv];rfl
theorem AA:∀ds es:List DK,DK.fG ds es=((aW (min ds.length es.length)).all (oM ds es)&&ds.length==es.length)
 |[],[]=>by simp[DK.fG]
 |[],_::_=>by simp[DK.fG]
 |_::_,[]=>by simp[DK.fG]
 |d::ds,e::es=>by
  have ih:=AA ds es;simp only[DK.fG,cf];rw[Iw,Kb,ih,Iy];congr 2;rw[e_];simp
theorem dc.len{h:Heap}:∀{ks:List DK} {vs:List Value},dc h ks vs->ks.length=vs.length
 |_,_,.nil=>rfl
 |_,_,.cons _ q=>by simp[dc.len q]
theorem dc.at{h:Heap}:∀{ks:List DK} {vs:List Value} {i:Nat} {v:Value},dc h ks vs->vs[i]?=some v->∃d,ks[i]?=some d/\dj h d v
 |_,_,_,_,.nil,e=>by simp at e
 |_,_,0,_,.cons r _,e=>by simp at e;subst e;exact⟨_,rfl,r⟩
 |_,_,i+1,v,.cons _ q,e=>by
  obtain⟨d,h1,h2⟩:=dc.at (i:=i) (v:=v) q (by simpa using e);exact⟨d,by simpa using h1,h2⟩
theorem AB:∀{ds:List DK} {i:Nat} {d:DK},ds[i]?=some d->d.deep<=DK.cN ds
 |[],_,_,e=>by simp at e
 |x::xs,0,_,e=>by simp at e;subst e;simp only[DK.cN];lia
 |x::xs,i+1,d,e=>by
  have:=AB (ds:=xs) (i:=i) (d:=d) (by simpa using e);simp only[DK.cN];lia
theorem Kc{s:Shared}:∀(n:Nat) (A:Around) (d e:DK) (u u':Value),d.deep<=n->A.units+n<cLine->dj s.heap d u->dj s.heap e u'->RcAt A s u u' (d.beq e)/\EqAt A s u u' (d.beq e):=by
 have Ke:∀a b:Int,(a==b)=decide (a=b):=λa b=>rfl;have flat:∀(A:Around) (d e:DK) (u u':Value),d.deep=0->A.units<cLine->dj s.heap d u->dj s.heap e u'->RcAt A s u u' (d.beq e)/\EqAt A s u u' (d.beq e):=by
  intro A d e u u' hn hu hd he;cases hd with
  |int a t =>
   cases he with
   |int b t'=>rw[DK.beq,<-Ke];exact⟨RcAt.int_int a t b t',EqAt.int_int a t b t'⟩
   |str b t'=>exact⟨RcAt.int_str a t b t',EqAt.int_str a t b t'⟩
   |tup h1 h2 h3 h4=>exact⟨RcAt.int_tuple a t ⟨_,h1,h2,_,h3⟩ hu,EqAt.int_tuple a t ⟨_,h1,h2,_,h3⟩ hu⟩
  |str a t =>
   cases he with
   |int b t'=>exact⟨RcAt.str_int a t b t',EqAt.str_int a t b t'⟩
   |str b t' =>
    have e:(a==b)=decide (a=b):=by
     by_cases c:a=b
     ·subst c;simp
     ·rw[decide_eq_false c];simpa using c
    rw[DK.beq,<-e];exact⟨RcAt.str_str a t b t',EqAt.str_str a t b t'⟩
   |tup h1 h2 h3 h4=>exact⟨RcAt.str_tuple a t ⟨_,h1,h2,_,h3⟩ hu,EqAt.str_tuple a t ⟨_,h1,h2,_,h3⟩ hu⟩
  |tup h1 h2 h3 h4=>simp[DK.deep]at hn
 intro n
 induction n with
 |zero=>exact λA d e u u' hn hu hd he=>flat A d e u u' (by lia) (by lia) hd he
 |succ n ih =>
  intro A d e u u' hn hu hd he;have hu':A.units<cLine:=by lia
  by_cases h0:d.deep=0
  ·exact flat A d e u u' h0 hu' hd he
  have hd0:=hd;cases hd with
  |int a t=>simp[DK.deep]at h0
  |str a t=>simp[DK.deep]at h0
  |@tup ks a o items m h1 h2 h3 h4 =>
   have ht:s.heap.IsTuple a items:=⟨_,h1,h2,_,h3⟩;have Kf:=he;cases he with
   |int b t=>exact⟨RcAt.tuple_int b t ht hu',EqAt.tuple_int b t ht hu'⟩
   |str b t=>exact⟨RcAt.tuple_str b t ht hu',EqAt.tuple_str b t ht hu'⟩
   |@tup ls b o' items' m' g1 g2 g3 g4 =>
    have dD:s.heap.IsTuple b items':=⟨_,g1,g2,_,g3⟩;rw[DK.deep]at hn;have e:((aW (min items.size items'.size)).all (oM ks ls)&&items.size==items'.size)=DK.beq (.tup ks) (.tup ls):=by
     rw[DK.beq,AA,h4.len,g4.len];simp
    have rc:RcAt A s (.ref a) (.ref b) (DK.beq (.tup ks) (.tup ls)):=by
     rw[<-e];refine RcAt.tuples ht dD hu' λj j1 j2=>?_;obtain⟨dx,jV,oN⟩:=h4.at (i:=j) (v:=items[j]) (by simp[j1]);obtain⟨dy,oO,oP⟩:=g4.at (i:=j) (v:=items'[j]) (by simp[j2]);have AD:=AB jV;have:=(ih A.in1 dx dy _ _ (by lia) (by show A.units+1+n<cLine;lia) oN oP).2;unfold oM;rw[jV,oO];exact this
    refine⟨rc,?_⟩;by_cases hab:a=b
    ·subst hab;have ed:DK.tup ks=DK.tup ls:=dj.inj hd0 Kf;rw[<-ed,DK.beq_refl];exact EqAt.same _
    ·exact EqAt.of_refs hab rc
theorem DK.Kg(a b:DK):a.beq b=decide (a=b):=by
 by_cases c:a=b
 ·subst c;rw[DK.beq_refl];simp
 ·rw[decide_eq_false c];cases q:a.beq b with
  |false=>rfl
  |true=>exact absurd (DK.beq_eq q) c
theorem Kh:∀(n:Nat) {A:Around} {E:Value->Shared->Prop} {s:Shared} {k:DK} {v:Value} {Q:Bool->Shared->Prop},k.deep<=n->dj s.heap k v->Q true s->wpAny (model P w) A (eqIsQuiet n v) Q E s:=by
 intro n
 induction n with
 |zero =>
  intro A E s k v Q hn hk h;cases hk with
  |int i t=>rw[uk _ rfl];exact aG h
  |str x t=>rw[uk _ rfl];exact aG h
  |tup h1 h2 h3 h4=>simp[DK.deep]at hn
 |succ n ih =>
  intro A E s k v Q hn hk h;cases hk with
  |int i t=>rw[uk _ rfl];exact aG h
  |str x t=>rw[uk _ rfl];exact aG h
  |@tup ks a o items m h1 h2 h3 h4 =>
   have hT:s.TypeIs (.ref a) "tuple":=⟨o,h1,h2⟩;rw[DK.deep]at hn;unfold eqIsQuiet;refine aj (oq hT F.slot_tuple_eq.lookup ?_);show wpAny _ _ (isInstance (.ref a) (.type "tuple") >>= _) _ _ s;refine aj (zc hT isSubtype_tuple_tuple ?_);simp only[Iz,i_,if_false];refine aj (ja h1 h3 ?_);refine aj ?_;show wpAny _ _ (forIn items _ _) _ _ s;rw[<-Ir];refine wpAny_forIn_list _ (λrest r s'=>r.1=none/\s'=s/\∃ls,dc s.heap ls rest/\DK.cN ls<=n) _ ?_ ?_ _ _ ⟨rfl,rfl,ks,h4,by lia⟩
   ·rintro v rest r s' ⟨hr,rfl,ls,hls,hdl⟩;cases hls with
    |@cons l _ ls' _ g1 g2 =>
     rw[DK.cN]at hdl;refine aj (ih (k:=l) (by lia) g1 ?_);simp only[Iz,i_,if_false];exact aG ⟨rfl,rfl,ls',g2,by lia⟩
   ·rintro⟨r1,r2⟩ s' ⟨hr,rfl,_⟩;simp only at hr;subst hr;exact aG h
end
def Ki(h:Heap)(k:DK)(a:Addr):Prop:=dj h k (.ref a)/\k.deep<=4
def kO(P:Program)(w:World):HeapKind P w DK where
 is:=Ki
 hash:=jh P w
 draws:=ji
 room:=λA=>A.units+4<cLine
 inj:=λhx hy=>hx.1.inj hy.1
 keeps:=λ{h h' k a d o es ep} x ho hd hs=>⟨x.1.mono λb u items n hb hu=>by
  have hne:b≠d:=by
   rintro rfl;obtain rfl:u=o:=cS (hb.symm.trans ho);rw[hd]at hu;exact nomatch hu
  exact(hs.2 b hne).trans hb,x.2⟩
 pyHash:=λhu hk h=>Ka 4 hk.2 hu hk.1 h
 eqBool:=λ{A E s x y a b Q} hu hx hy h=>by
  have:=(Kc 4 A x y (.ref a) (.ref b) hx.2 hu hx.1 hy.1).2;rw[DK.Kg]at this;exact this _ _ _ _ h
 quiet:=λ{A E s k a Q} hk h=>Kh 8 (bX hk.2 (by decide)) hk.1 h
end L2
namespace L2
open PySem PySem.Spec PyProof.Rows
inductive V where
 |non|bl (b:Bool)|int (i:Int)|str (x:Str)|fV (b:Array UInt8)|flt (b:UInt64)|ref (a:Addr)|ty (n:String)
 deriving DecidableEq
def RelV:V->Value->Prop
 | .non,u=>u=Value.none
 | .bl b,u=>u=Value.bool b
 | .int i,u=>∃t,u=Value.int i t
 | .str x,u=>∃t,u=Value.str x t
 | .fV b,u=>∃t,u=Value.bytes b t
 | .flt b,u=>∃t,u=Value.float b t
 | .ref a,u=>u=Value.ref a
 | .ty n,u=>u=Value.type n
abbrev Vals:List V->List Value->Prop:=Paired RelV
theorem Vals.length{xs:List V}{us:List Value}(r:Vals xs us):xs.length=us.length:=Paired.length r
theorem Vals.get:∀{xs:List V} {us:List Value} {i:Nat} {x:V},Vals xs us->xs[i]?=some x->∃u,us[i]?=some u/\RelV x u
 |_,_,_,_,.nil,e=>by simp at e
 |_,_,0,_,.cons r _,e=>by simp at e;subst e;exact⟨_,rfl,r⟩
 |_,_,i+1,x,.cons _ t,e=>by
  obtain⟨u,h1,h2⟩:=Vals.get (i:=i) (x:=x) t (by simpa using e);exact⟨u,by simpa using h1,h2⟩
theorem Vals.set{x:V}{u:Value}(r:RelV x u):∀{xs:List V} {us:List Value} (i:Nat),Vals xs us->Vals (xs.set i x) (us.set i u)
 |_,_,_,.nil=>.nil
 |_,_,0,.cons _ t=>.cons r t
 |_,_,i+1,.cons q t=>.cons q (Vals.set r i t)
theorem Vals.append:∀{xs ys:List V} {us ws:List Value},Vals xs us->Vals ys ws->Vals (xs++ys) (us++ws)
 |_,_,_,_,.nil,s=>s
 |_,_,_,_,.cons r t,s=>.cons r (Vals.append t s)
theorem Vals.take:∀{xs:List V} {us:List Value} (n:Nat),Vals xs us->Vals (xs.take n) (us.take n)
 |_,_,0,_=>.nil
 |_,_,_+1,.nil=>.nil
 |_,_,n+1,.cons r t=>.cons r (Vals.take n t)
theorem Vals.drop:∀{xs:List V} {us:List Value} (n:Nat),Vals xs us->Vals (xs.drop n) (us.drop n)
 |_,_,0,r=>r
 |_,_,_+1,.nil=>.nil
 |_,_,n+1,.cons _ t=>Vals.drop n t
def fW:Option V->Option Value->Prop
 |some v,some u=>RelV v u
 |none,none=>True
 |_,_=>False
def KV{κ:Type}:List (κ×V)->List (κ×Value)->Prop:=Paired λ(p:κ×V) (q:κ×Value)=>p.1=q.1/\RelV p.2 q.2
def kV:Key->V
 | .inl i=>.int i
 | .inr x=>.str x
inductive HO where
 |lst (xs:List V)
 |tup (xs:List V)
 |dK (kvs:List (Key×V))|dT (kvs:List (DK×V))
 |set (S:Int->Bool) (n:Nat)
 |ins (C dx:Addr) (fs:List (Str×V))
 |own (x:Addr)
 |xd (fs:List (Str×V))
 |met (f x:Addr)
 |rg (lo hi:Int)
 |c6 (o:Obj) (u:HO)
 |jW (ps:Array Value)
 |ext (φ:Heap->Prop)
abbrev Hp:=Addr->Option HO
def upd(H:Hp)(a:Addr)(o:HO):Hp:=λb=>if b=a then some o else H b
theorem d7{H:Hp}{a:Addr}{o:HO}:upd H a o a=some o:=by unfold upd;rw[if_pos rfl]
theorem a_{H:Hp}{a b:Addr}{o:HO}(h:b≠a):upd H a o b=H b:=by unfold upd;rw[if_neg h]
theorem Kj{H:Hp}{a:Addr}{o u:HO}:upd (upd H a o) a u=upd H a u:=by
 funext b;unfold upd;split<;>rfl
theorem Kk{H:Hp}{a b:Addr}{o u:HO}(h:H a=some o)(h':H b=some u)(d:o≠u):a≠b:=by
 intro e;subst e;rw[h]at h';exact d (cS h')
theorem gz{H:Hp}{a b:Addr}{o:HO}(h:H a=some o)(h':H b=none):a≠b:=by
 intro e;subst e;rw[h]at h';cases h'
mutual
inductive g9(H:Hp):DK->V->Prop where
 |int (i:Int):g9 H (.int i) (.int i)
 |str (x:Str):g9 H (.str x) (.str x)
 |tup {a:Addr} {ks:List DK} {vs:List V}:H a=some (.tup vs)->g_ H ks vs->g9 H (.tup ks) (.ref a)
inductive g_(H:Hp):List DK->List V->Prop where
 |nil:g_ H [] []
 |cons {k:DK} {v:V} {ks:List DK} {vs:List V}:g9 H k v->g_ H ks vs->g_ H (k::ks) (v::vs)
end
mutual
theorem g9.mono{H H':Hp}(ht:∀b xs,H b=some (.tup xs)->H' b=some (.tup xs)):∀{k:DK} {v:V},g9 H k v->g9 H' k v
 |_,_,.int i=>.int i
 |_,_,.str x=>.str x
 |_,_,.tup h1 h2=>.tup (ht _ _ h1) (g_.mono ht h2)
theorem g_.mono{H H':Hp}(ht:∀b xs,H b=some (.tup xs)->H' b=some (.tup xs)):∀{ks:List DK} {vs:List V},g_ H ks vs->g_ H' ks vs
 |_,_,.nil=>.nil
 |_,_,.cons h1 h2=>.cons (g9.mono ht h1) (g_.mono ht h2)
end
structure gA(H:Hp)(k:DK)(a:Addr):Prop where
 at_:g9 H k (.ref a)
 deep:k.deep<=4
theorem gA.mono{H H':Hp}{k:DK}{a:Addr}(x:gA H k a)(ht:∀b xs,H b=some (.tup xs)->H' b=some (.tup xs)):gA H' k a:=⟨x.at_.mono ht,x.deep⟩
section
variable(P:Program)(w:World)
def cB(H:Hp)(h:Heap)(a:Addr):HO->Prop
 | .lst xs=>xs.length<=sizeLine/\∃(its:List Value) (n:Nat),Vals xs its/\h.get? a=some {cls:=.type "list",data:=.seq its.toArray n}
 | .tup xs=>xs.length<=sizeLine/\∃its:List Value,Vals xs its/\IsTup h a its.toArray/\∀o,h.get? a=some o->o.dict=none
 | .dK kvs=>kvs.length<=sizeLine/\(a==sysModules)=false/\∃vs,KV kvs vs/\h.DictOf (fe P w) a vs
 | .dT kvs=>kvs.length<=sizeLine/\(a==sysModules)=false/\∃xs:List (DK×Addr×Value),
  Paired (λ(p:DK×V) (q:DK×Addr×Value)=>p.1=q.1/\gA H p.1 q.2.1/\RelV p.2 q.2.2) kvs xs /\
  ∃o es ep,h.get? a=some o/\o.ExactDict/\o.data=.dict es ep/\es.toList=xs.map (entryOfKey (kO P w))/\(xs.map (·.1)).Nodup
 | .set S n=>h.SetOf (intKind P w) a S n
 | .ins C dx fs=>H dx=some (.own a)/\fs.length<=1000/\dx≠a/\h.get? a=some (zd C dx) /\
  ∃mA,h.Ns1 dx mA/\(∀f,fW (fs.lookup f) (mA f))/\IA mA (fs.map (·.1))
 | .own _=>∃o,h.get? a=some o
 | .xd fs=>∃mA,h.Ns1 a mA/\∀f,fW (fs.lookup f) (mA f)
 | .rg lo hi=>∃t u v,h.get? a=some {cls:=.type "range",data:=.fields #[.int lo t,.int hi u,.int 1 v]}
 | .c6 o u=>h.get? a=some o/\cB H h a u
 | .jW ps=>h.get? a=some {cls:=.none,data:=.fields ps}
 | .met f x=>h.get? a=some (ze (.ref f) (.ref x))
 | .ext φ=>φ h/\(∃o,h.get? a=some o)/\∀h1 h2:Heap,φ h1->(∀o,h1.get? a=some o->h2.get? a=some o)->φ h2
def bS(H:Hp)(h:Heap):Prop:=∀a o,H a=some o->cB P w H h a o
end
section
variable{P:Program}{w:World}{H H':Hp}{h h':Heap}{a:Addr}{o:HO}
theorem cB.lt(x:cB P w H h a o):a<h.objs.size:=by
 cases o with
 |lst xs=>obtain⟨_,_,_,_,e⟩:=x;exact bh e
 |tup xs=>obtain⟨_,_,_,p,_⟩:=x;exact p.lt
 |dK kvs=>obtain⟨_,_,_,_,o,_,_,e,_⟩:=x;exact bh e
 |dT kvs=>obtain⟨_,_,_,_,o,_,_,e,_⟩:=x;exact bh e
 |set S n=>obtain⟨o,_,_,_,e,_⟩:=x;exact bh e
 |ins C dx fs=>obtain⟨_,_,_,e,_⟩:=x;exact bh e
 |own y=>obtain⟨_,e⟩:=x;exact bh e
 |xd fs=>obtain⟨_,⟨_,_,_,e,_⟩,_⟩:=x;exact bh e
 |rg lo hi=>obtain⟨_,_,_,e⟩:=x;exact bh e
 |c6 ob u=>obtain⟨e,_⟩:=x;exact bh e
 |jW ps=>exact bh (show h.get? a=some _ from x)
 |met f y=>exact bh (show h.get? a=some _ from x)
 |ext φ=>obtain⟨_,⟨_,e⟩,_⟩:=x;exact bh e
theorem Paired.jX{α β:Type}{F G:α->β->Prop}:∀{l₁:List α} {l₂:List β},Paired F l₁ l₂->(∀a b,F a b->G a b)->Paired G l₁ l₂
 |_,_,.nil,_=>.nil
 |_,_,.cons r t,f=>.cons (f _ _ r) (Paired.jX t f)
theorem cB.stay(x:cB P w H h a o)(k:∀b u,(b=a∨H b=some (.own a))->h.get? b=some u->h'.get? b=some u)
 (ho:∀b,H b=some (.own a)->H' b=some (.own a)) (ht:∀b xs,H b=some (.tup xs)->H' b=some (.tup xs)):cB P w H' h' a o:=by
 induction o with
 |lst xs=>obtain⟨z,its,n,r,e⟩:=x;exact⟨z,its,n,r,k _ _ (.inl rfl) e⟩
 |tup xs=>obtain⟨z,its,r,⟨ob,e,c⟩,nd⟩:=x;exact⟨z,its,r,⟨ob,k _ _ (.inl rfl) e,c⟩,λo q=>by rw[k _ _ (.inl rfl) e]at q;cases q;exact nd _ e⟩
 |dK kvs=>obtain⟨z,y,vs,r,ob,es,ep,e,c⟩:=x;exact⟨z,y,vs,r,ob,es,ep,k _ _ (.inl rfl) e,c⟩
 |dT kvs =>
  obtain⟨z,y,xs,r,ob,es,ep,e,c⟩:=x;exact⟨z,y,xs,Paired.jX r λp q z=>⟨z.1,z.2.1.mono ht,z.2.2⟩,ob,es,ep,k _ _ (.inl rfl) e,c⟩
 |set S n=>obtain⟨ob,es,ep,t,e,c⟩:=x;exact⟨ob,es,ep,t,k _ _ (.inl rfl) e,c⟩
 |ins C dx fs =>
  obtain⟨d,z,ne,e,mA,⟨od,es,ep,e2,c⟩,r⟩:=x;exact⟨ho _ d,z,ne,k _ _ (.inl rfl) e,mA,⟨od,es,ep,k _ _ (.inr d) e2,c⟩,r⟩
 |own y=>obtain⟨ob,e⟩:=x;exact⟨ob,k _ _ (.inl rfl) e⟩
 |xd fs=>obtain⟨mA,⟨od,es,ep,e,c⟩,r⟩:=x;exact⟨mA,⟨od,es,ep,k _ _ (.inl rfl) e,c⟩,r⟩
 |rg lo hi=>obtain⟨t,u,v,e⟩:=x;exact⟨t,u,v,k _ _ (.inl rfl) e⟩
 |c6 ob u ih=>obtain⟨e,q⟩:=x;exact⟨k _ _ (.inl rfl) e,ih q⟩
 |jW ps =>
  have e:h.get? a=some {cls:=.none,data:=.fields ps}:=x;show h'.get? a=some {cls:=.none,data:=.fields ps};exact k a _ (.inl rfl) e
 |met f y =>
  have e:h.get? a=some (ze (.ref f) (.ref y)):=x;show h'.get? a=some (ze (.ref f) (.ref y));exact k a _ (.inl rfl) e
 |ext φ=>obtain⟨p,⟨o,e⟩,st⟩:=x;exact⟨st _ _ p λo q=>k _ _ (.inl rfl) q,⟨o,k _ _ (.inl rfl) e⟩,st⟩
theorem bS.lt(x:bS P w H h)(e:H a=some o):a<h.objs.size:=(x a o e).lt
theorem bS.fresh(x:bS P w H h)(e:h.objs.size<=a):H a=none:=by
 cases q:H a with
 |none=>rfl
 |some u=>exact absurd (cZ (x.lt q) e) (jb _)
theorem bS.kept(x:bS P w H h)(k:∀b u,h.get? b=some u->h'.get? b=some u):bS P w H h':=λa o e =>
 (x a o e).stay (λb u _ q=>k b u q) (λ_ q=>q) λ_ _ q=>q
theorem bS.laid(x:bS P w H h)(k:∀b u,h.get? b=some u->h'.get? b=some u)(hp:h.objs.size<=a)(new:cB P w (upd H a o) h' a o):bS P w (upd H a o) h':=λb u e=>by
 have hn:=x.fresh hp;by_cases hb:b=a
 ·subst hb;rw[d7]at e;cases e;exact new
 ·rw[a_ hb]at e;exact(x b u e).stay (λc v _ q=>k c v q) (λc q=>by rw[a_ (gz q hn)];exact q) λc xs q=>by rw[a_ (gz q hn)];exact q
end
def Rd(H:Hp)(a:Addr)(u:HO):Prop:=H a=some u∨∃o,H a=some (.c6 o u)
theorem Rd.ok{P:Program}{w:World}{H:Hp}{h:Heap}{a:Addr}{u:HO}(r:Rd H a u)(x:bS P w H h):cB P w H h a u:=by
 rcases r with r|⟨o,r⟩
 ·exact x a u r
 ·obtain⟨_,q⟩:=x a _ r;exact q
def oQ:Option HO->Prop
 |some (.lst _)=>True
 |some (.dK _)=>True
 |some (.dT _)=>True
 |some (.set _ _)=>True
 |some (.ins _ _ _)=>True
 |some (.ext _)=>True
 |_=>False
section
variable{P:Program}{w:World}{H:Hp}{h h':Heap}{x e:Addr}{o':HO}
theorem bS.write(ok:bS P w H h)(mu:oQ (H x))(he:e=x∨H e=some (.own x))(k:∀b u,b≠e->h.get? b=some u->h'.get? b=some u)(heo:∃u,h'.get? e=some u)
 (new:cB P w (upd H x o') h' x o'):bS P w (upd H x o') h':=λb u q=>by
 have AE:∀c y,H c=some (.own y)->c≠x:=λc y r z=>by subst z;rw[r]at mu;exact mu
 have Kl:∀c xs,H c=some (.tup xs)->c≠x:=λc xs r z=>by subst z;rw[r]at mu;exact mu
 by_cases hb:b=x
 ·subst hb;rw[d7]at q;cases q;exact new
 ·rw[a_ hb]at q;by_cases hbe:b=e
  ·have q':H b=some (.own x):=by
    rcases he with z|z
    ·exact absurd (hbe.trans z) hb
    ·rw[hbe];exact z
   rw[q]at q';cases q';obtain⟨v,hv⟩:=heo;exact⟨v,by rw[hbe];exact hv⟩
  ·refine(ok b u q).stay (λc v hc r=>k c v ?_ r) (λc r=>by rw[a_ (AE c b r)];exact r) λc xs r=>by rw[a_ (Kl c xs r)];exact r
   rcases hc with rfl|hc
   ·exact hbe
   ·rintro rfl;rcases he with z|z
    ·exact AE c b hc z
    ·rw[hc]at z;cases z;exact hb rfl
end
structure Un(fs ex:List Addr)(H H':Hp)(h h':Heap):Prop where
 keep:∀b o,h.get? b=some o->H b=none->b∉fs->b∉ex->h'.get? b=some o
 slot:∀b o,h.get? b=some o->H b=none->b∈fs->b∉ex->∃sl,h'.get? b=some {o with slots:=sl}
 free:∀b o,h.get? b=some o->H b=none->b∉ex->H' b=none
 there:∀b o,h.get? b=some o->b∉ex->∃o',h'.get? b=some o'
 tups:∀b xs,H b=some (.tup xs)->H' b=some (.tup xs)
 fH:∀b o u,H b=some (.c6 o u)->H' b=some (.c6 o u)
 gB:∀b ps,H b=some (.jW ps)->∃more,H' b=some (.jW (ps++more))
section
variable{fs fs' ex ex':List Addr}{H H1 H2:Hp}{h h1 h2 h':Heap}{a x e:Addr}{o:HO}
theorem Un.any(u:Un fs ex H H1 h h1){b:Addr}{ob:Obj}(q:h.get? b=some ob)(n:H b=none)(hx:b∉ex):∃sl,h1.get? b=some {ob with slots:=sl}:=by
 by_cases hb:b∈fs
 ·exact u.slot b ob q n hb hx
 ·exact⟨ob.slots,u.keep b ob q n hb hx⟩
theorem Un.kept(k:∀b u,h.get? b=some u->h'.get? b=some u):Un fs ex H H h h' :=
 ⟨λb ob q _ _ _=>k b ob q,λb ob q _ _ _=>⟨ob.slots,k b ob q⟩,λ_ _ _ n _=>n,λb ob q _=>⟨ob,k b ob q⟩,λ_ _ q=>q,λ_ _ _ q=>q,λ_ ps q=>⟨#[],by rw[q];simp⟩⟩
theorem Un.refl:Un fs ex H H h h:=Un.kept λ_ _ q=>q
theorem Un.laid(k:∀b u,h.get? b=some u->h'.get? b=some u)(hp:h.objs.size<=a)(hn:H a=none):Un fs ex H (upd H a o) h h' where
 keep:=λb u q _ _ _=>k b u q
 slot:=λb u q _ _ _=>⟨u.slots,k b u q⟩
 free:=λb u q n _=>by rw[a_ (c_ (cZ (bh q) hp))];exact n
 there:=λb u q _=>⟨u,k b u q⟩
 tups:=λb xs q=>by rw[a_ (gz q hn)];exact q
 fH:=λb u xs q=>by rw[a_ (gz q hn)];exact q
 gB:=λb ps q=>⟨#[],by rw[a_ (gz q hn),q];simp⟩
theorem Un.write(mu:oQ (H x))(he:e=x∨H e=some (.own x))(k:∀b u,b≠e->h.get? b=some u->h'.get? b=some u)(heo:∃u,h'.get? e=some u):Un fs ex H (upd H x o) h h':=by
 have hx:∀b,H b=none->b≠x:=λb n z=>by subst z;rw[n]at mu;exact mu
 have hb:∀b,H b=none->b≠e:=λb n z=>by
  subst z;rcases he with r|r
  ·exact hx b n r
  ·rw[n]at r;cases r
 have hm:∀b u,H b=some u->¬oQ (some u)->b≠x:=λb u q nm z=>by subst z;rw[q]at mu;exact nm mu
 refine⟨λb u q n _ _=>k b u (hb b n) q,λb u q n _ _=>⟨u.slots,k b u (hb b n) q⟩,λb u q n _=>by rw[a_ (hx b n)];exact n,λb u q _=>?_,
  λb xs q=>by rw[a_ (hm b _ q λz=>z)];exact q,λb u xs q=>by rw[a_ (hm b _ q λz=>z)];exact q,λb ps q=>⟨#[],by rw[a_ (hm b _ q λz=>z),q];simp⟩⟩
 by_cases hbe:b=e
 ·subst hbe;exact heo
 ·exact⟨u,k b u hbe q⟩
end
def rh(h:Heap)(H:Hp):List Addr:=(aW h.objs.size).filter λa=>(H a).isSome
def jj(h:Heap)(H:Hp):Heap:=jc h (rh h H)
theorem Km(h:Heap)(H:Hp):(jj h H).objs.size=h.objs.size:=PySem.W.hideAll_size _ _
theorem Kn{h:Heap}{H:Hp}{b:Addr}{o:Obj}(e:h.get? b=some o)(n:H b=none):(jj h H).get? b=some o :=
 um _ e λhm=>by
  have q:(H b).isSome=true:=(zf.mp hm).2;rw[n]at q;simp at q
theorem Ko{h:Heap}{H:Hp}{b:Addr}{o:Obj}(e:(jj h H).get? b=some o):h.get? b=some o/\H b=none:=by
 have e':h.get? b=some o:=ow (rh h H) e;refine⟨e',?_⟩;cases q:H b with
 |none=>rfl
 |some x =>
  have hm:b∈rh h H:=zf.mpr ⟨gV.mpr (bh e'),by simp[q]⟩;have z:(jj h H).get? b=none:=qN (rh h H) hm;rw[z]at e;cases e
def Kq(g h:Heap)(L:Addr):List (Addr×Obj):=(aW h.objs.size).filterMap λa=>if a=L∨(g.get? a).isSome=true then none else(h.get? a).map λo=>(a,o)
def rest(g h:Heap)(L d:Addr):List (Addr×Obj):=(Kq g h L).filter λp=>decide (p.1≠d)
end L2
namespace L2
open PySem PySem.Spec PyProof.Rows
structure Mod(K:ak)(mg:Str->Option Value)(base:Heap):Prop where
 hJ:K.In base
 glob:base.Ns mainGlobals mg
 blt:∃mb,base.Ns builtinsNs mb/\∀x:Str,x≠"__name__"->mb x=bootBuiltins x
 nolimit:base.NoLimit
structure Cx where
 prog:Program
 w:World
 K:ak
 mg:Str->Option Value
 base:Heap
 A:Around
 N:List Str
 s₀:Shared
 H₀:Hp
 env:Env
 outer:List Env
 stack:List Env
 ex:List Addr
 fn:Str->Bool
 calm:Bool
 pn:List (Addr×Obj)
 xe:Value->Shared->Prop
def frs(l:List Env):List Addr:=l.filterMap (·.frame)
abbrev Cx.fs(X:Cx):List Addr:=frs X.outer
def rj(sc:Scope)(x:Str):Prop:=sc.names.lookup x=some .local∨sc.names.lookup x=some .cell∨sc.names.lookup x=some .free
def Loc(sc:Scope)(x:Str):Prop:=sc.names.lookup x=some .local∨sc.names.lookup x=some .cell
def Look(env:Env)(h:Heap)(m:Str->Option Value)(x:Str)(u:Value):Prop :=
 (env.kindOf x=some .local/\m x=some u)∨((env.kindOf x=some .cell∨env.kindOf x=some .free)/\∃c,env.cells.lookup x=some c/\h.IsCell c (some u))
structure Cx.Ok(X:Cx):Prop where
 mod:Mod X.K X.mg X.base
 kind:X.env.scope.kind=.function
 glob:X.env.globals=mainGlobals
 blt:X.env.builtins=builtinsNs
 above:X.s₀.heap.objs.size<=X.env.locals
 inj:∀x y c,X.env.cells.lookup x=some c->X.env.cells.lookup y=some c->x=y
 has:∀x,(X.env.kindOf x=some .cell∨X.env.kindOf x=some .free)->∃c,X.env.cells.lookup x=some c
 cab:∀x c,X.fn x=true->X.env.cells.lookup x=some c->X.s₀.heap.objs.size<=c
 hd:X.calm=true->X.A.handled=none
 frames:X.A.frames=some X.stack
 kP:X.stack=X.outer∨(X.stack=X.env::X.outer/\X.env.frame=some X.env.locals)
 oR:∀b∈X.ex,b≠X.env.locals/\∀x c,X.env.cells.lookup x=some c->c≠b
 bs:∀b o,X.base.get? b=some o->X.s₀.heap.get? b=some o/\X.H₀ b=none
 gC:X.base.objs.size<=X.s₀.heap.objs.size
 jY:∀b o,X.base.get? b=some o->b∉X.ex
 jZ:∀b∈X.ex,b∉X.fs
 eO:X.s₀.heap.FunFrames X.base X.outer
 iz:∀b∈X.fs,X.H₀ b=none
structure Inv(X:Cx)(pins:List (Addr×Obj))(σ:List (Option V))(H:Hp)(s:Shared):Prop where
 ok:X.Ok
 os:s.os=X.s₀.os
 bare:AllBare s.gens
 base:Un X.fs X.ex X.H₀ H X.s₀.heap s.heap
 loc:∃m,s.heap.Ns X.env.locals m/\∀(i:Nat) (x:Str) (v:V),X.N[i]?=some x->σ[i]?=some (some v)->rj X.env.scope x->∃u,RelV v u/\Look X.env s.heap m x u
 cell:∀x c,X.env.cells.lookup x=some c->∃v,s.heap.IsCell c v
 free:H X.env.locals=none
 eP:∀x c,X.env.cells.lookup x=some c->H c=none
 pin:∀p∈X.pn++pins,s.heap.get? p.1=some p.2/\H p.1=none/\p.1≠X.env.locals/\p.1∉X.fs/\∀v,p.2.data≠.cell v
 hok:bS X.prog X.w H s.heap
 len:σ.length=X.N.length
section
variable{X:Cx}{pins:List (Addr×Obj)}{σ:List (Option V)}{H H':Hp}{s:Shared}{h':Heap}
theorem Cx.Ok.Kr(ok:X.Ok){b:Addr}{o:Obj}(e:X.base.get? b=some o):b∉X.fs:=λhb=>by
 have:=(ok.eO.mem hb).1;rw[e]at this;cases this
theorem Inv.bs(I:Inv X pins σ H s):∀b o,X.base.get? b=some o->s.heap.get? b=some o/\H b=none:=λb o e =>
 ⟨I.base.keep b o (I.ok.bs b o e).1 (I.ok.bs b o e).2 (I.ok.Kr e) (I.ok.jY b o e),I.base.free b o (I.ok.bs b o e).1 (I.ok.bs b o e).2 (I.ok.jY b o e)⟩
theorem Inv.bk(I:Inv X pins σ H s):∀b o,X.base.get? b=some o->s.heap.get? b=some o:=λb o e=>(I.bs b o e).1
theorem Inv.mod(I:Inv X pins σ H s):Mod X.K X.mg X.base:=I.ok.mod
theorem Inv.dI(I:Inv X pins σ H s):X.K.In s.heap:=I.ok.mod.hJ.keeps I.bk
theorem Inv.lt(I:Inv X pins σ H s):X.env.locals<s.heap.objs.size:=let⟨_,hn,_⟩:=I.loc;hn.lt
theorem Inv.sz(I:Inv X pins σ H s):X.s₀.heap.objs.size<=s.heap.objs.size:=bX I.ok.above (md I.lt)
theorem Inv.Ks(I:Inv X pins σ H s){a:Addr}(h:s.heap.objs.size<=a):a∉X.fs:=λhb=>by
 obtain⟨_,o,ho,_⟩:=I.ok.eO.mem hb;exact absurd (cZ (bh ho) (bX I.sz h)) (jb _)
theorem Inv.kQ(I:Inv X pins σ H s):∀x c,X.env.cells.lookup x=some c->c≠X.env.locals:=λx c e z=>by
 obtain⟨v,o,ho,hd⟩:=I.cell x c e;obtain⟨m,⟨o',es,ep,ho',hd',_⟩,_⟩:=I.loc;rw[z,ho']at ho;cases ho;rw[hd']at hd;cases hd
theorem Inv.eO(I:Inv X pins σ H s):s.heap.FunFrames X.base X.outer:=by
 have all:∀(l:List Env),(∀b∈frs l,b∈X.fs)->X.s₀.heap.FunFrames X.base l->s.heap.FunFrames X.base l:=by
  intro l
  induction l with
  |nil=>intro _ _;trivial
  |cons env r ih =>
   intro hs hl;obtain⟨hk,⟨L,o,hf,hn,ho,hd⟩,hr⟩:=hl;have hL:L∈X.fs:=hs L (by unfold frs;rw[zg,hf];exact bY);obtain⟨sl,e⟩:=I.base.slot L o ho (I.ok.iz L hL) hL λz=>I.ok.jZ L z hL;exact⟨hk,⟨L,_,hf,hn,e,hd⟩,ih (λb hb=>hs b (by unfold frs;rw[zg,hf];exact cg _ hb)) hr⟩
 exact all X.outer (λ_ hb=>hb) I.ok.eO
theorem Inv.stack(I:Inv X pins σ H s):s.heap.FunFrames X.base X.stack:=by
 rcases I.ok.kP with e|⟨e,hf⟩
 ·rw[e];exact I.eO
 ·rw[e];obtain⟨m,hn,_⟩:=I.loc;refine .cons (by rw[I.ok.kind];decide) hf hn ?_ I.eO;exact Heap.get?_none_of_le (bX I.ok.gC I.ok.above)
theorem Inv.rk(I:Inv X pins σ H s):∀b∈frs X.stack,b∈X.env.locals::X.fs:=λb hb=>by
 rcases I.ok.kP with e|⟨e,hf⟩
 ·rw[e]at hb;exact cg _ hb
 ·rw[e]at hb;unfold frs at hb;rw[zg,hf]at hb;exact hb
theorem Inv.rm(I:Inv X pins σ H s):∀b∈frs X.stack,H b=none:=λb hb=>by
 rcases a9.mp (I.rk b hb) with e|hb
 ·rw[e];exact I.free
 ·obtain⟨_,o,ho,_⟩:=I.ok.eO.mem hb;exact I.base.free b o ho (I.ok.iz b hb) λz=>I.ok.jZ b z hb
theorem Inv.step{g':Array GenState}{t':Nat}{d':Drawn}{ch:List Addr}(I:Inv X pins σ H s)
 (hch:∀b∈ch,(b∈X.ex∨X.s₀.heap.objs.size<=b)/\b≠X.env.locals/\(∀x c,X.env.cells.lookup x=some c->c≠b)/\∀p∈X.pn++pins,p.1≠b)
 (keep:∀b o,b≠X.env.locals->b∉X.fs->b∉ch->s.heap.get? b=some o->H b=none->h'.get? b=some o)
 (slot:∀b o,b≠X.env.locals->b∈X.fs->b∉ch->s.heap.get? b=some o->H b=none->∃sl,h'.get? b=some {o with slots:=sl}) (free:∀b o,b∉ch->s.heap.get? b=some o->H b=none->H' b=none)
 (there:∀b o,b∉ch->s.heap.get? b=some o->∃o',h'.get? b=some o')
 (tups:∀b xs,H b=some (.tup xs)->H' b=some (.tup xs)) (fH:∀b o u,H b=some (.c6 o u)->H' b=some (.c6 o u)) (gB:∀b ps,H b=some (.jW ps)->∃more,H' b=some (.jW (ps++more)))
 (ns:∀m,s.heap.Ns X.env.locals m->h'.Ns X.env.locals m) (hok:bS X.prog X.w H' h') (hg:AllBare g') :
 Inv X pins σ H' {s with heap:=h',gens:=g',drawn:=d',toks:=t'}:=by
 have AF:∀b o,X.s₀.heap.get? b=some o->b≠X.env.locals:=λb o e=>c_ (cZ (bh e) I.ok.above);have rp:∀b o,X.s₀.heap.get? b=some o->b∉X.ex->b∉ch:=λb o e hx hb=>by
  rcases(hch b hb).1 with z|z
  ·exact hx z
  ·exact absurd (cZ (bh e) z) (jb _)
 have cellK:∀x c,X.env.cells.lookup x=some c->∀v,s.heap.IsCell c v->h'.IsCell c v:=λx c e v ck=>by
  obtain⟨o,ho,hd⟩:=ck;have oS:c∉ch:=λz=>(hch c z).2.2.1 x c e rfl;by_cases hc:c∈X.fs
  ·obtain⟨sl,q⟩:=slot c o (I.kQ x c e) hc oS ho (I.eP x c e);exact⟨_,q,hd⟩
  ·exact⟨o,keep c o (I.kQ x c e) hc oS ho (I.eP x c e),hd⟩
 refine⟨I.ok,I.os,hg,⟨λb o e n hb hx=>?_,λb o e n hb hx=>?_,λb o e n hx=>?_,λb o e hx=>?_,λb xs e=>tups b xs (I.base.tups b xs e),λb o xs e=>fH b o xs (I.base.fH b o xs e),λb ps e=>?_⟩,?_,λx c e=>?_,?_,λx c e=>?_,λp hp=>?_,hok,I.len⟩
 ·exact keep b o (AF b o e) hb (rp b o e hx) (I.base.keep b o e n hb hx) (I.base.free b o e n hx)
 ·obtain⟨sl,e1⟩:=I.base.slot b o e n hb hx;obtain⟨sl',e2⟩:=slot b _ (AF b o e) hb (rp b o e hx) e1 (I.base.free b o e n hx);exact⟨sl',e2⟩
 ·obtain⟨o',e1⟩:=I.base.there b o e hx;exact free b o' (rp b o e hx) e1 (I.base.free b o e n hx)
 ·obtain⟨o',e1⟩:=I.base.there b o e hx;exact there b o' (rp b o e hx) e1
 ·obtain⟨m1,e1⟩:=I.base.gB b ps e;obtain⟨m2,e2⟩:=gB b _ e1;exact⟨m1++m2,by rw[e2,Array.append_assoc]⟩
 ·obtain⟨m,hn,hl⟩:=I.loc;refine⟨m,ns m hn,λi x v e1 e2 e3=>?_⟩;obtain⟨u,r,l⟩:=hl i x v e1 e2 e3;refine⟨u,r,?_⟩;rcases l with l|⟨k,c,e,z⟩
  ·exact .inl l
  ·exact .inr ⟨k,c,e,cellK x c e _ z⟩
 ·obtain⟨v,z⟩:=I.cell x c e;exact⟨v,cellK x c e v z⟩
 ·obtain⟨m,⟨o,_,_,ho,_⟩,_⟩:=I.loc;exact free _ o (λz=>(hch _ z).2.1 rfl) ho I.free
 ·obtain⟨v,o,ho,hd⟩:=I.cell x c e;exact free c o (λz=>(hch c z).2.2.1 x c e rfl) ho (I.eP x c e)
 ·obtain⟨e,n,ne,nf,d⟩:=I.pin p hp;have oS:p.1∉ch:=λz=>(hch p.1 z).2.2.2 p hp rfl;exact⟨keep p.1 p.2 ne nf oS e n,free p.1 p.2 oS e n,ne,nf,d⟩
theorem Inv.un{t':Nat}(I:Inv X pins σ H s)(u:Un X.fs [] H H' s.heap h')(hok:bS X.prog X.w H' h'):Inv X pins σ H' {s with heap:=h',toks:=t'}:=by
 obtain⟨m,⟨o,es,ep,ho,r⟩,_⟩:=id I.loc;obtain⟨sl,hL⟩:=u.any ho I.free (by simp);exact I.step (g':=s.gens) (d':=s.drawn) (ch:=[]) (λ_ z=>nomatch z) (λb o _ hb _ e n=>u.keep b o e n hb (by simp)) (λb o _ hb _ e n=>u.slot b o e n hb (by simp)) (λb o _ e n=>u.free b o e n (by simp)) (λb o _ e=>u.there b o e (by simp)) u.tups u.fH u.gB (λm' hm=>by
  obtain⟨o',es',ep',ho',r'⟩:=hm;rw[ho]at ho';cases ho';exact⟨_,es',ep',hL,r'⟩) hok I.bare
theorem Inv.call{g':Array GenState}{t':Nat}{d':Drawn}{ch:List Addr}(I:Inv X pins σ H s)(u:Un (frs X.stack) ch H H' s.heap h')(hok:bS X.prog X.w H' h')(hg:AllBare g')
 (hch:∀b∈ch,(b∈X.ex∨X.s₀.heap.objs.size<=b)/\b≠X.env.locals/\(∀x c,X.env.cells.lookup x=some c->c≠b)/\∀p∈X.pn++pins,p.1≠b) :
 Inv X pins σ H' {s with heap:=h',gens:=g',drawn:=d',toks:=t'}:=by
 obtain⟨m,⟨o,es,ep,ho,r⟩,_⟩:=id I.loc;obtain⟨sl,hL⟩:=u.any ho I.free λz=>(hch _ z).2.1 rfl;exact I.step (ch:=ch) hch (λb o hL hb hc e n=>u.keep b o e n (λz=>(a9.mp (I.rk b z)).elim hL hb) hc) (λb o _ _ hc e n=>u.any e n hc) (λb o hc e n=>u.free b o e n hc) (λb o hc e=>u.there b o e hc) u.tups u.fH u.gB (λm' hm=>by
  obtain⟨o',es',ep',ho',r'⟩:=hm;rw[ho]at ho';cases ho';exact⟨_,es',ep',hL,r'⟩) hok hg
theorem Inv.turned{t':Nat}{it:Addr}(I:Inv X pins σ H s)(k:∀b o,b≠it->s.heap.get? b=some o->h'.get? b=some o)(hn:H it=none)(hL:it≠X.env.locals)
 (h1:it∈X.ex∨X.s₀.heap.objs.size<=it) (h2:∀x c,X.env.cells.lookup x=some c->c≠it) (h3:∀p∈X.pn++pins,p.1≠it):Inv X pins σ H {s with heap:=h',toks:=t'}:=by
 have j0:∀b u,H b=some u->b≠it:=λb u e z=>by rw[z,hn]at e;cases e
 refine I.step (g':=s.gens) (d':=s.drawn) (ch:=[it]) (λb hb=>?_) (λb o _ _ hc e _=>k b o (λz=>hc (by simp[z])) e) (λb o _ _ hc e _=>⟨o.slots,k b o (λz=>hc (by simp[z])) e⟩) (λ_ _ _ _ n=>n)
  (λb o hc e=>⟨o,k b o (λz=>hc (by simp[z])) e⟩) (λ_ _ e=>e) (λ_ _ _ e=>e) (λb ps e=>⟨#[],by rw[e];simp⟩) (λm hm=>?_) (λb u e=>?_) I.bare
 ·have e:b=it:=by simpa using hb
  subst e;exact⟨h1,hL,h2,h3⟩
 ·obtain⟨o,es,ep,ho,r⟩:=hm;exact⟨o,es,ep,k _ o (cG hL) ho,r⟩
 ·refine(I.hok b u e).stay (λc v hc q=>k c v ?_ q) (λ_ q=>q) λ_ _ q=>q;rcases hc with z|z
  ·rw[z];exact j0 b u e
  ·exact j0 c _ z
theorem Inv.tok(I:Inv X pins σ H s)(t:Nat):Inv X pins σ H {s with toks:=t}:=I.un (h':=s.heap) (t':=t) Un.refl I.hok
theorem Inv.kept{t':Nat}(I:Inv X pins σ H s)(k:∀b u,s.heap.get? b=some u->h'.get? b=some u):Inv X pins σ H {s with heap:=h',toks:=t'}:=I.un (Un.kept k) (I.hok.kept k)
theorem Inv.laid{a:Addr}{o:HO}{t':Nat}(I:Inv X pins σ H s)(k:∀b u,s.heap.get? b=some u->h'.get? b=some u)(hp:s.heap.objs.size<=a)(new:cB X.prog X.w (upd H a o) h' a o) :
 Inv X pins σ (upd H a o) {s with heap:=h',toks:=t'}:=I.un (Un.laid k hp (I.hok.fresh hp)) (I.hok.laid k hp new)
theorem Inv.write{x e:Addr}{o:HO}{t':Nat}(I:Inv X pins σ H s)(mu:oQ (H x))(he:e=x∨H e=some (.own x))(k:∀b u,b≠e->s.heap.get? b=some u->h'.get? b=some u)(heo:∃u,h'.get? e=some u)
 (new:cB X.prog X.w (upd H x o) h' x o):Inv X pins σ (upd H x o) {s with heap:=h',toks:=t'}:=I.un (Un.write mu he k heo) (I.hok.write mu he k heo new)
theorem Inv.AG{gD:List (Addr×Obj)}(I:Inv X pins σ H s)(h:∀p∈gD,s.heap.get? p.1=some p.2/\H p.1=none/\p.1≠X.env.locals/\p.1∉X.fs/\∀v,p.2.data≠.cell v):Inv X gD σ H s :=
 ⟨I.ok,I.os,I.bare,I.base,I.loc,I.cell,I.free,I.eP,λp hp=>(bR.mp hp).elim (λz=>I.pin p (fb _ z)) (h p),I.hok,I.len⟩
theorem AH{N:List Str}(hN:N.Nodup){i j:Nat}{x:Str}(a:N[i]?=some x)(b:N[j]?=some x):i=j:=by
 obtain⟨h1,e1⟩:=bH.mp a;obtain⟨h2,e2⟩:=bH.mp b;exact(List.getElem_inj hN).mp (e1.trans e2.symm)
theorem AI{M:Model}{A:Around}{E:Value->Shared->Prop}{i:Nat}{x:Str}{v:V}{u:Value}{Q:Unit->Shared->Prop}(I:Inv X pins σ H s)(hN:X.N.Nodup)(hi:X.N[i]?=some x)(hx:Loc X.env.scope x)(r:RelV v u)
 (h:∀s',Inv X pins (σ.set i (some v)) H s'->(∃a,fF a s.heap s'.heap/\(a=X.env.locals∨X.env.cells.lookup x=some a))->Q () s') (hf:X.fn x=true∨X.env.scope.names.lookup x=some .local:=by first|exact .inl rfl|exact .inr rfl|assumption):wpAny M A (storeName X.env x u) Q E s:=by
 obtain⟨m,hn,hl⟩:=id I.loc;have hcls:(X.env.scope.kind == .class||(X.env.scope.kind == .module&&X.env.locals != X.env.globals))=false:=by rw[I.ok.kind];rfl
 have AJ:i<σ.length:=by rw[I.len];exact(bH.mp hi).1
 have kQ:=I.kQ;have tracked:∀{a:Addr} {h':Heap},(∃o,s.heap.get? a=some o/\H a=none)->fF a s.heap h'->bS X.prog X.w H h':=λ{a h'} ha hs b ob e=>by
  obtain⟨_,_,hfree⟩:=ha;refine(I.hok b ob e).stay (λc w' hc q=>(hs.2 c ?_).trans q) (λ_ q=>q) λ_ _ q=>q;rintro rfl;rcases hc with rfl|hc
  ·rw[hfree]at e;cases e
  ·rw[hfree]at hc;cases hc
 rcases hx with hk|hk
 ·refine wpAny_storeName_local hk hn (λh' hn' hs=>?_) hcls;obtain⟨oL,_,_,hoL,_⟩:=id hn;refine h _ ⟨I.ok,I.os,I.bare,⟨λb o e n hb hx=>?_,λb o e n hb hx=>?_,I.base.free,λb o e hx=>?_,I.base.tups,I.base.fH,I.base.gB⟩,⟨_,hn',λj y v' e1 e2 e3=>?_⟩,λy c e=>?_,I.free,I.eP,λp hp=>?_,tracked ⟨oL,hoL,I.free⟩ hs,by simpa using I.len⟩ ⟨_,hs,.inl rfl⟩
  ·exact(hs.2 b (c_ (cZ (bh e) I.ok.above))).trans (I.base.keep b o e n hb hx)
  ·obtain⟨sl,e1⟩:=I.base.slot b o e n hb hx;exact⟨sl,(hs.2 b (c_ (cZ (bh e) I.ok.above))).trans e1⟩
  ·obtain⟨o',e1⟩:=I.base.there b o e hx;exact⟨o',(hs.2 b (c_ (cZ (bh e) I.ok.above))).trans e1⟩
  ·by_cases hj:j=i
   ·subst hj;rw[hi]at e1;cases e1;rw[IB AJ]at e2;cases e2;exact⟨u,r,.inl ⟨hk,by simp⟩⟩
   ·rw[IC (cG hj)]at e2;obtain⟨u',r',q⟩:=hl j y v' e1 e2 e3;refine⟨u',r',?_⟩;rcases q with⟨k,e⟩|⟨k,c,e,z⟩
    ·refine .inl ⟨k,?_⟩;have:y≠x:=λe=>hj (AH hN e1 (e▸hi));simp[this,e]
    ·exact .inr ⟨k,c,e,z.sameBut hs (kQ y c e)⟩
  ·obtain⟨w',z⟩:=I.cell y c e;exact⟨w',z.sameBut hs (kQ y c e)⟩
  ·obtain⟨e,n,ne,nf,d⟩:=I.pin p hp;exact⟨(hs.2 p.1 ne).trans e,n,ne,nf,d⟩
 ·have hfn:X.fn x=true:=by
   rcases hf with z|z
   ·exact z
   ·rw[z]at hk;cases hk
  obtain⟨c,hc⟩:=I.ok.has x (.inl hk);obtain⟨w',z⟩:=I.cell x c hc;refine wpAny_storeName_cell I.ok.kind hk hc z (λh' hc' hs=>?_);obtain⟨oc,hoc,Ku⟩:=id z;refine h {s with heap:=h'} ⟨I.ok,I.os,I.bare,⟨λb o e n hb hx=>?_,λb o e n hb hx=>?_,I.base.free,λb o e hx=>?_,I.base.tups,I.base.fH,I.base.gB⟩,⟨m,hn.sameBut hs (cG (kQ x c hc)),λj y v' e1 e2 e3=>?_⟩,λy c' e=>?_,I.free,I.eP,λp hp=>?_,tracked ⟨oc,hoc,I.eP x c hc⟩ hs,by simpa using I.len⟩ ⟨c,hs,.inr hc⟩
  ·exact(hs.2 b (c_ (cZ (bh e) (I.ok.cab x c hfn hc)))).trans (I.base.keep b o e n hb hx)
  ·obtain⟨sl,e1⟩:=I.base.slot b o e n hb hx;exact⟨sl,(hs.2 b (c_ (cZ (bh e) (I.ok.cab x c hfn hc)))).trans e1⟩
  ·obtain⟨o',e1⟩:=I.base.there b o e hx;exact⟨o',(hs.2 b (c_ (cZ (bh e) (I.ok.cab x c hfn hc)))).trans e1⟩
  ·by_cases hj:j=i
   ·subst hj;rw[hi]at e1;cases e1;rw[IB AJ]at e2;cases e2;exact⟨u,r,.inr ⟨.inl hk,c,hc,hc'⟩⟩
   ·rw[IC (cG hj)]at e2;obtain⟨u',r',q⟩:=hl j y v' e1 e2 e3;refine⟨u',r',?_⟩;rcases q with q|⟨k,c',e,z'⟩
    ·exact .inl q
    ·refine .inr ⟨k,c',e,z'.sameBut hs ?_⟩;rintro rfl;exact hj (AH hN e1 (I.ok.inj _ _ _ e hc▸hi))
  ·by_cases hcc:c'=c
   ·subst hcc;exact⟨_,hc'⟩
   ·obtain⟨w2,z2⟩:=I.cell y c' e;exact⟨w2,z2.sameBut hs hcc⟩
  ·obtain⟨e,n,ne,nf,d⟩:=I.pin p hp;refine⟨(hs.2 p.1 ?_).trans e,n,ne,nf,d⟩;intro q;rw[q,hoc]at e;have q':oc=p.2:=cS e;exact d w' (by rw[<-q'];exact Ku)
theorem u7{M:Model}{A:Around}{E:Value->Shared->Prop}{i:Nat}{x:Str}{v:V}{u:Value}{Q:Unit->Shared->Prop}(I:Inv X pins σ H s)(hN:X.N.Nodup)(hi:X.N[i]?=some x)(hx:Loc X.env.scope x)(r:RelV v u)
 (h:∀s',Inv X pins (σ.set i (some v)) H s'->Q () s') (hf:X.fn x=true∨X.env.scope.names.lookup x=some .local:=by first|exact .inl rfl|exact .inr rfl|assumption):wpAny M A (storeName X.env x u) Q E s :=
 AI I hN hi hx r (λs' I' _=>h s' I') hf
theorem Inv.oU{s':Shared}{ch:List Addr}(I:Inv X pins σ H s)(ho:s'.os=s.os)(u:Un (frs X.stack) ch H H' s.heap s'.heap)(hok:bS X.prog X.w H' s'.heap)(hg:AllBare s'.gens)
 (hch:∀b∈ch,(b∈X.ex∨X.s₀.heap.objs.size<=b)/\b≠X.env.locals/\(∀x c,X.env.cells.lookup x=some c->c≠b)/\∀p∈X.pn++pins,p.1≠b):Inv X pins σ H' s':=by
 obtain⟨h',g',d',t',o'⟩:=s';have e:o'=s.os:=ho;subst e;exact I.call (g':=g') (t':=t') (d':=d') u hok hg hch
end
abbrev XK:=Value->Option Addr->Hp->Prop
abbrev St:=List (Option V)
abbrev VK:=V->Hp->Prop
abbrev TE:=St->Hp->VK->Prop
abbrev TT:=St->Hp->(Bool->Hp->Prop)->Prop
abbrev TA:=St->Hp->(List V->Hp->Prop)->Prop
structure Ends where
 nx:St->Hp->Prop
 rt:VK
 bk:St->Hp->Prop:=λ_ _=>False
 ct:St->Hp->Prop:=λ_ _=>False
abbrev TS:=Ends->St->Hp->Prop
inductive EP(X:Cx)(pins:List (Addr×Obj))(σ:St)(Q:VK)(u:Value)(s':Shared):Prop where
 |mk (v:V) (H':Hp) (I:Inv X pins σ H' s') (r:RelV v u) (q:Q v H')
def TP(X:Cx)(pins:List (Addr×Obj))(σ:St)(Q:Bool->Hp->Prop)(b:Bool)(s':Shared):Prop:=∃H',Inv X pins σ H' s'/\Q b H'
inductive AP(X:Cx)(pins:List (Addr×Obj))(σ:St)(Q:List V->Hp->Prop)(us:List Value)(s':Shared):Prop where
 |mk (vs:List V) (H':Hp) (I:Inv X pins σ H' s') (r:Vals vs us) (q:Q vs H')
def SP(X:Cx)(pins:List (Addr×Obj))(D:Ends)(f:Flow)(s':Shared):Prop :=
 match f with
 | .next=>∃σ' H',Inv X pins σ' H' s'/\D.nx σ' H'
 | .brk=>∃σ' H',Inv X pins σ' H' s'/\D.bk σ' H'
 | .cont=>∃σ' H',Inv X pins σ' H' s'/\D.ct σ' H'
 | .ret u=>∃v σ' H',Inv X pins σ' H' s'/\RelV v u/\D.rt v H'
def PE(X:Cx)(e:Expr)(t:TE):Prop :=
 ∀(pins:List (Addr×Obj)) (s:Shared) (σ:St) (H:Hp) (Q:VK),Inv X pins σ H s->t σ H Q->wpAny (model X.prog X.w) X.A (eval e X.env) (EP X pins σ Q) X.xe s
def PT(X:Cx)(e:Expr)(t:TT):Prop :=
 ∀(pins:List (Addr×Obj)) (s:Shared) (σ:St) (H:Hp) (Q:Bool->Hp->Prop),Inv X pins σ H s->t σ H Q->wpAny (model X.prog X.w) X.A (isTrue e X.env (eval e X.env)) (TP X pins σ Q) X.xe s
def PW(X:Cx)(e:Expr)(t:TT):Prop :=
 ∀(whole:Sem Value) (pins:List (Addr×Obj)) (s:Shared) (σ:St) (H:Hp) (Q:Bool->Hp->Prop),Inv X pins σ H s->t σ H Q->wpAny (model X.prog X.w) X.A (isTrue e X.env whole) (TP X pins σ Q) X.xe s
theorem PW.pt{X:Cx}{e:Expr}{t:TT}(h:PW X e t):PT X e t:=h _
def PA(X:Cx)(es:List Expr)(t:TA):Prop :=
 ∀(pos:Pos) (pins:List (Addr×Obj)) (s:Shared) (σ:St) (H:Hp) (Q:List V->Hp->Prop),Inv X pins σ H s->t σ H Q->wpAny (model X.prog X.w) X.A (spliced (backTo pos (starEach es X.env))) (AP X pins σ Q) X.xe s
def PS(X:Cx)(st:Stmt)(t:TS):Prop :=
 ∀(pins:List (Addr×Obj)) (s:Shared) (σ:St) (H:Hp) (D:Ends),Inv X pins σ H s->t D σ H->wpAny (model X.prog X.w) X.A (exec st X.env) (SP X pins D) X.xe s
def dR(X:Cx)(st:List Stmt)(t:TS):Prop :=
 ∀(pins:List (Addr×Obj)) (s:Shared) (σ:St) (H:Hp) (D:Ends),Inv X pins σ H s->t D σ H->wpAny (model X.prog X.w) X.A (execs st X.env) (SP X pins D) X.xe s
theorem aE{α:Type}{t:Sem α}{Q Q':α->Shared->Prop}{M:Model}{A:Around}{E:Value->Shared->Prop}{s:Shared}(h:wpAny M A t Q E s)(hQ:∀a s,Q a s->Q' a s):wpAny M A t Q' E s:=eE h hQ λ_ _ x=>x
section
variable{X:Cx}
def AK(i:Nat):TE:=λσ H Q=>∃v,σ[i]?=some (some v)/\Q v H
def tC(v:V):TE:=λ_ H Q=>Q v H
theorem Kv{i:Nat}{x:Str}{pos:Pos}(hN:X.N[i]?=some x)(hv:rj X.env.scope x)(hd:(x==("__debug__":Str))=false:=by decide)(hcd:(x==("__classdict__":Str))=false:=by decide):PE X (.Name x pos) (AK i):=by
 intro pins s σ H Q I h;obtain⟨v,e,h⟩:=h;obtain⟨m,hn,hl⟩:=I.loc;obtain⟨u,r,l⟩:=hl i x v hN e hv;have fin:EP X pins σ Q u s:=⟨v,H,I,r,h⟩;rcases l with⟨hk,hm⟩|⟨hk,c,hc,hcell⟩
 ·exact zh (ID I.ok.kind hk hn hm fin) hd
 ·rcases hk with hk|hk
  ·exact zh (IE I.ok.kind hk hc hcell fin) hd
  ·exact zh (wpAny_loadName_free I.ok.kind hk hc hcell fin hcd) hd
theorem Kw{i j pos}:PE X (.Constant (.int i) j pos) (tC (.int i)):=λ_ _ _ H _ I h=>wpAny_Constant_int ⟨.int i,H,I.tok _,⟨_,rfl⟩,h⟩
theorem Kx{b j pos}:PE X (.Constant (.bool b) j pos) (tC (.bl b)):=λ_ _ _ H _ I h=>Constant_bool ⟨.bl b,H,I,rfl,h⟩
theorem Ky{j pos}:PE X (.Constant .none j pos) (tC .non):=λ_ _ _ H _ I h=>Constant_none ⟨.non,H,I,rfl,h⟩
theorem Kz{x j pos}:PE X (.Constant (.str x) j pos) (tC (.str x)):=λ_ _ _ H _ I h=>Calls.Constant_str ⟨.str x,H,I.tok _,⟨_,rfl⟩,h⟩
def Gl(X:Cx)(x:Str):Prop:=X.env.kindOf x=some .globalImplicit
theorem rq{E:Value->Shared->Prop}{pins:List (Addr×Obj)}{s:Shared}{σ:St}{H:Hp}{x:Str}{u:Value}{pos:Pos}{Q:Value->Shared->Prop}(I:Inv X pins σ H s)(hg:Gl X x)(hm:X.mg x=some u)(h:Q u s)
 (hd:(x==("__debug__":Str))=false:=by decide):wpAny (model X.prog X.w) X.A (eval (.Name x pos) X.env) Q E s :=
 IF I.ok.kind hg (Calls.loadGlobal_global (by rw[I.ok.glob];exact I.mod.glob.keeps I.bk) hm h) hd
theorem iA{E:Value->Shared->Prop}{pins:List (Addr×Obj)}{s:Shared}{σ:St}{H:Hp}{x:Str}{u:Value}{pos:Pos}{Q:Value->Shared->Prop}(I:Inv X pins σ H s)(hg:Gl X x)(hm:X.mg x=none)(hv:bootBuiltins x=some u)(h:Q u s)
 (hn:x≠"__name__":=by decide) (hd:(x==("__debug__":Str))=false:=by decide):wpAny (model X.prog X.w) X.A (eval (.Name x pos) X.env) Q E s:=by
 obtain⟨mb,h1,h2⟩:=I.mod.blt;exact IF I.ok.kind hg (Calls.loadGlobal_builtin (by rw[I.ok.glob];exact I.mod.glob.keeps I.bk) hm (by rw[I.ok.blt];exact h1.keeps I.bk) ((h2 x hn).trans hv) h) hd
theorem KA{x:Str}{v:V}{u:Value}{pos:Pos}(hg:Gl X x)(hm:X.mg x=some u)(r:RelV v u)(hd:(x==("__debug__":Str))=false:=by decide):PE X (.Name x pos) (tC v) :=
 λ_ _ _ H _ I h=>rq I hg hm ⟨v,H,I,r,h⟩ hd
theorem KC{x:Str}{v:V}{u:Value}{pos:Pos}(hg:Gl X x)(hm:X.mg x=none)(hv:bootBuiltins x=some u)(r:RelV v u)(hn:x≠"__name__":=by decide)(hd:(x==("__debug__":Str))=false:=by decide):PE X (.Name x pos) (tC v) :=
 λ_ _ _ H _ I h=>iA I hg hm hv ⟨v,H,I,r,h⟩ hn hd
variable{a b:Expr}{ta tb:TE}{pos:Pos}
def PC(X:Cx)(op:CmpOp)(a b:Expr)(t:TE):Prop :=
 ∀(pins:List (Addr×Obj)) (s:Shared) (σ:St) (H:Hp) (Q:VK),Inv X pins σ H s->t σ H Q ->
  wpAny (model X.prog X.w) X.A (eval a X.env) (λv s₁=>wpAny (model X.prog X.w) X.A (eval b X.env) (λu s₂=>wpAny (model X.prog X.w) X.A (compareOp op v u) (EP X pins σ Q) X.xe s₂) X.xe s₁) X.xe s
theorem KD(b:Expr){op:CmpOp}(h:op≠.In)(h2:op≠.NotIn):behindInMarks op b=false:=by
 have e1:(op==CmpOp.In)=false:=by cases op<;>first|rfl|exact absurd rfl h
 have e2:(op==CmpOp.NotIn)=false:=by cases op<;>first|rfl|exact absurd rfl h2
 cases b<;>simp[behindInMarks,e1,e2]
def tB(t:TE):TT:=λσ H Q=>t σ H λx H1=>∃c,x=.bl c/\Q c H1
theorem AL{op:CmpOp}{t:TE}(h:PC X op a b t)(h1:behindInMarks op b=false:=by first|exact KD _ (by decide) (by decide)|rfl):PT X (.Compare a [op] [b] pos) (tB t):=by
 intro pins s σ H Q I hw;refine IG (aE (h pins s σ H _ I hw) λv s1 h1=>aE h1 λu s2 h2=>aE h2 λc s3 ⟨x,H1,I1,r1,q1⟩=>?_) h1;obtain⟨d,rfl,q⟩:=q1;cases r1;exact jP ⟨H1,I1,q⟩
theorem KE{e:Expr}{t:TE}(h:PE X e t)(he:∀whole,isTrue e X.env whole=(do let v <-whole;standAt e.pos;holding [v] (truthy v)):=by intro _;rfl):PT X e (tB t):=by
 intro pins s σ H Q I hw;refine isTrue_plain (aE (h pins s σ H _ I hw) λv s1 ⟨x,H1,I1,r1,q1⟩=>?_) (he _);obtain⟨d,rfl,q⟩:=q1;cases r1;exact jP ⟨H1,I1,q⟩
variable{tA rA:TT}{rest:List Expr}
def KG(t u:TT):TT:=λσ H Q=>t σ H λc H1=>if c=true then u σ H1 Q else Q false H1
def KH(t u:TT):TT:=λσ H Q=>t σ H λc H1=>if c=true then Q true H1 else u σ H1 Q
def KI(t:TT):TT:=λσ H Q=>t σ H λc H1=>Q (!c) H1
theorem KJ(ha:PT X a tA):PW X (.BoolOp .And [a] pos) tA:=by
 intro wh pins s σ H Q I h;refine isTrue_and (aE (ha pins s σ H Q I h) λc s1 e=>?_);cases c with
 |true=>exact isTrue_and_nil e
 |false=>exact e
theorem KL(ha:PT X a tA):PW X (.BoolOp .Or [a] pos) tA:=by
 intro wh pins s σ H Q I h;refine isTrue_or (aE (ha pins s σ H Q I h) λc s1 e=>?_);cases c with
 |false=>exact isTrue_or_nil e
 |true=>exact e
theorem KN(ha:PT X a tA)(hb:PW X (.BoolOp .And (b::rest) pos) rA):PW X (.BoolOp .And (a::b::rest) pos) (KG tA rA):=by
 intro wh pins s σ H Q I h;refine isTrue_and (aE (ha pins s σ H _ I h) λc s1 ⟨H1,I1,q1⟩=>?_);cases c with
 |true=>exact hb wh pins s1 σ H1 Q I1 q1
 |false=>exact⟨H1,I1,q1⟩
theorem KO(ha:PT X a tA)(hb:PW X (.BoolOp .Or (b::rest) pos) rA):PW X (.BoolOp .Or (a::b::rest) pos) (KH tA rA):=by
 intro wh pins s σ H Q I h;refine isTrue_or (aE (ha pins s σ H _ I h) λc s1 ⟨H1,I1,q1⟩=>?_);cases c with
 |true=>exact⟨H1,I1,q1⟩
 |false=>exact hb wh pins s1 σ H1 Q I1 q1
theorem KP(ha:PT X a tA):PT X (.UnaryOp .Not a pos) (KI tA):=by
 intro pins s σ H Q I h;exact isTrue_not (ha pins s σ H (λc H1=>Q (!c) H1) I h)
def KQ(ta tb:TE):TE:=λσ H Q=>ta σ H λx H1=>∃c,x=.bl c/\if c=true then tb σ H1 Q else Q (.bl false) H1
def KR(ta:TE):TE:=λσ H Q=>ta σ H λx H1=>∃c,x=.bl c/\Q (.bl (!c)) H1
theorem KS{op}{t:TE}(h:PE X a t):PE X (.BoolOp op [a] pos) t:=λpins s σ H Q I hw=>BoolOp_one (h pins s σ H Q I hw)
theorem KU(ha:PE X a ta)(hb:PE X (.BoolOp .And (b::rest) pos) tb):PE X (.BoolOp .And (a::b::rest) pos) (KQ ta tb):=by
 intro pins s σ H Q I h;refine BoolOp_and (aE (ha pins s σ H _ I h) λv s1 ⟨x,H1,I1,r1,q1⟩=>?_);obtain⟨c,rfl,q1⟩:=q1;cases r1;refine jP ?_;cases c with
 |true=>exact hb pins s1 σ H1 Q I1 q1
 |false=>exact⟨.bl false,H1,I1,rfl,q1⟩
theorem KW(ha:PE X a ta):PE X (.UnaryOp .Not a pos) (KR ta):=by
 intro pins s σ H Q I h;refine UnaryOp_ (aE (ha pins s σ H _ I h) λv s1 ⟨x,H1,I1,r1,q1⟩=>?_);obtain⟨c,rfl,q1⟩:=q1;cases r1;exact not_of (jP ⟨.bl (!c),H1,I1,rfl,q1⟩)
def KY(t:TT)(ta tb:TE):TE:=λσ H Q=>t σ H λc H1=>if c=true then ta σ H1 Q else tb σ H1 Q
theorem KZ{c:Expr}(hc:PT X c tA)(ha:PE X a ta)(hb:PE X b tb):PE X (.IfExp c a b pos) (KY tA ta tb):=by
 intro pins s σ H Q I h;refine wpAny_IfExp (aE (hc pins s σ H _ I h) λd s1 ⟨H1,I1,q1⟩=>?_);cases d with
 |true=>exact ha pins s1 σ H1 Q I1 q1
 |false=>exact hb pins s1 σ H1 Q I1 q1
end
def a6(K:ak)(H:Hp)(a:Addr)(xs:List V):Prop :=
 Rd H a (.lst xs) ∨
  ∃(o:Obj) (its:Array Value) (n:Nat),K.lookup a=some o/\o.cls=.type "list"/\o.dict=none/\o.data=.seq its n/\its.size<=sizeLine/\Vals xs its.toList
def bq(K:ak)(H:Hp)(a:Addr)(xs:List V):Prop :=
 H a=some (.tup xs)
def K0:Value->Option V
 | .none=>some .non
 | .bool b=>some (.bl b)
 | .int i _=>some (.int i)
 | .str x _=>some (.str x)
 | .bytes b _=>some (.fV b)
 | .float b _=>some (.flt b)
 | .ref a=>some (.ref a)
 | .type n=>some (.ty n)
 |_=>none
theorem RelV.abs{x:V}{u:Value}(r:RelV x u):K0 u=some x:=by
 cases x with
 |non=>cases r;rfl
 |bl _=>cases r;rfl
 |int _=>obtain⟨t,rfl⟩:=r;rfl
 |str _=>obtain⟨t,rfl⟩:=r;rfl
 |fV _=>obtain⟨t,rfl⟩:=r;rfl
 |flt _=>obtain⟨t,rfl⟩:=r;rfl
 |ref _=>cases r;rfl
 |ty _=>cases r;rfl
theorem RelV.inj{x y:V}{u:Value}(r:RelV x u)(q:RelV y u):x=y:=cS (r.abs.symm.trans q.abs)
theorem Vals.inj:∀{xs ys:List V} {us:List Value},Vals xs us->Vals ys us->xs=ys
 |_,_,_,.nil,.nil=>rfl
 |_,_,_,.cons r t,.cons r' t'=>by rw[r.inj r',Vals.inj t t']
section
variable{X:Cx}{pins:List (Addr×Obj)}{σ:St}{H:Hp}{s:Shared}{a:Addr}{xs ys:List V}
theorem a6.of{K:ak}(h:H a=some (.lst xs)):a6 K H a xs:=.inl (.inl h)
theorem bq.of{K:ak}(h:H a=some (.tup xs)):bq K H a xs:=h
theorem Inv.list(I:Inv X pins σ H s)(h:a6 X.K H a xs):∃its:List Value,Vals xs its/\PlainL s.heap a its.toArray/\xs.length<=sizeLine:=by
 rcases h with h|⟨o,its,n,hk,hc,hd,hs,hz,r⟩
 ·obtain⟨z,its,n,r,e⟩:=h.ok I.hok;exact⟨its,r,⟨_,n,e,rfl,rfl,rfl⟩,z⟩
 ·refine⟨its.toList,r,⟨o,n,I.dI a o hk,hc,hd,by simpa using hs⟩,?_⟩;have e:=r.length;simp only[IH]at e;lia
theorem Inv.tuple(I:Inv X pins σ H s)(h:bq X.K H a xs):∃its:List Value,Vals xs its/\IsTup s.heap a its.toArray/\xs.length<=sizeLine:=by
 obtain⟨z,its,r,p,_⟩:=(show cB X.prog X.w H s.heap a (.tup xs) from I.hok a _ h);exact⟨its,r,p,z⟩
theorem Inv.rB(I:Inv X pins σ H s)(h:a6 X.K H a xs)(h':a6 X.K H a ys):xs=ys:=by
 obtain⟨its,r,⟨o,n,e,_,_,d⟩,_⟩:=I.list h;obtain⟨its',r',⟨o',n',e',_,_,d'⟩,_⟩:=I.list h';rw[e]at e';cases e';rw[d]at d';injection d' with d1 _;have:its=its':=by simpa using congrArg II d1
 subst this;exact r.inj r'
theorem Inv.oV(I:Inv X pins σ H s)(h:bq X.K H a xs)(h':bq X.K H a ys):xs=ys:=by
 obtain⟨its,r,⟨o,e,_,n,d⟩,_⟩:=I.tuple h;obtain⟨its',r',⟨o',e',_,n',d'⟩,_⟩:=I.tuple h';rw[e]at e';cases e';rw[d]at d';injection d' with d1 _;have:its=its':=by simpa using congrArg II d1
 subst this;exact r.inj r'
end
abbrev Cx.iB(X:Cx)(E:Value->Shared->Prop):Cx:={X with xe:=E}
abbrev Cx.gE(X:Cx):Cx:=X.iB λ_ _=>False
theorem Cx.Ok.iB{X:Cx}(ok:X.Ok)(E:Value->Shared->Prop):(X.iB E).Ok :=
 ⟨ok.mod,ok.kind,ok.glob,ok.blt,ok.above,ok.inj,ok.has,ok.cab,ok.hd,ok.frames,ok.kP,ok.oR,ok.bs,ok.gC,ok.jY,ok.jZ,ok.eO,ok.iz⟩
theorem Cx.Ok.j3{X:Cx}{E:Value->Shared->Prop}(ok:(X.iB E).Ok):X.Ok :=
 ⟨ok.mod,ok.kind,ok.glob,ok.blt,ok.above,ok.inj,ok.has,ok.cab,ok.hd,ok.frames,ok.kP,ok.oR,ok.bs,ok.gC,ok.jY,ok.jZ,ok.eO,ok.iz⟩
section
variable{X:Cx}{pins:List (Addr×Obj)}{σ:St}{H:Hp}{s:Shared}{E:Value->Shared->Prop}
theorem Inv.iB(I:Inv X pins σ H s)(E:Value->Shared->Prop):Inv (X.iB E) pins σ H s:=⟨I.ok.iB E,I.os,I.bare,I.base,I.loc,I.cell,I.free,I.eP,I.pin,I.hok,I.len⟩
theorem Inv.j3(I:Inv (X.iB E) pins σ H s):Inv X pins σ H s:=⟨I.ok.j3,I.os,I.bare,I.base,I.loc,I.cell,I.free,I.eP,I.pin,I.hok,I.len⟩
theorem SP.j3{D:Ends}{f:Flow}{s':Shared}(h:SP (X.iB E) pins D f s'):SP X pins D f s':=by
 cases f with
 |next=>obtain⟨σ',H',I,q⟩:=h;exact⟨σ',H',I.j3,q⟩
 |brk=>obtain⟨σ',H',I,q⟩:=h;exact⟨σ',H',I.j3,q⟩
 |cont=>obtain⟨σ',H',I,q⟩:=h;exact⟨σ',H',I.j3,q⟩
 |ret u=>obtain⟨v,σ',H',I,r,q⟩:=h;exact⟨v,σ',H',I.j3,r,q⟩
theorem dR.gE{st:List Stmt}{t:TS}(h:dR X.gE st t):dR X st t:=λpins s σ H D I hw =>
 eE (h pins s σ H D (I.iB _) hw) (λ_ _ q=>q.j3) λ_ _ z=>fS z
end
section
variable{X:Cx}{st:Stmt}{rest:List Stmt}{t u:TS}{e:Expr}{te:TE}{pos:Pos}
def K1:TS:=λD σ H=>D.nx σ H
def K2(t u:TS):TS:=λD σ H=>t {D with nx:=u D} σ H
theorem K4:dR X [] K1:=λ_ _ σ H _ I h=>qO ⟨σ,H,I,h⟩
theorem K5(h1:PS X st t)(h2:dR X rest u):dR X (st::rest) (K2 t u):=by
 intro pins s σ H D I h;refine wpAny_execs_cons (aE (h1 pins s σ H {D with nx:=u D} I h) λf s1 q=>?_);cases f with
 |next =>
  obtain⟨σ',H',I',q⟩:=q;exact h2 pins s1 σ' H' D I' q
 |ret v=>exact q
 |brk=>exact q
 |cont=>exact q
theorem K6(h1:PS X st t):dR X [st] t:=by
 intro pins s σ H D I h;refine wpAny_execs_cons (aE (h1 pins s σ H D I h) λf s1 q=>?_);cases f with
 |next=>exact qO q
 |ret v=>exact q
 |brk=>exact q
 |cont=>exact q
theorem Inv.quiet{pins:List (Addr×Obj)}{σ:St}{H:Hp}{s:Shared}(I:Inv X pins σ H s):interactive X.env=false:=by simp[interactive,I.ok.kind]
def K7(te:TE):TS:=λD σ H=>te σ H λ_ H1=>D.nx σ H1
theorem K8(he:PE X e te)(hs:swapsWith e none pos.line X.env=pure false:=by rfl):PS X (.Expr e pos) (K7 te):=by
 intro pins s σ H D I h;exact wpAny_Expr_any (aE (he pins s σ H _ I h) λv s1 jk=>by obtain⟨x,H1,I1,r1,q1⟩:=jk;exact⟨σ,H1,I1,q1⟩) I.quiet hs
def K9(te:TE):TS:=λD σ H=>te σ H D.rt
theorem K_(he:PE X e te):PS X (.Return (some e) pos) (K9 te):=by
 intro pins s σ H D I h;exact wpAny_Return_some (aE (he pins s σ H _ I h) λv s1 oW=>by obtain⟨x,H1,I1,r1,q1⟩:=oW;exact⟨x,σ,H1,I1,r1,q1⟩)
def K':TS:=λD _ H=>D.rt .non H
theorem La:PS X (.Return none pos) K':=λ_ _ σ H _ I h=>wpAny_Return_none ⟨.non,σ,H,I,rfl,h⟩
def Lb(c:TT)(t u:TS):TS:=λD σ H=>c σ H λb H1=>if b=true then t D σ H1 else u D σ H1
theorem Lc{c:Expr}{a b:List Stmt}{tc:TT}(hc:PT X c tc)(ha:dR X a t)(hb:dR X b u):PS X (.If c a b pos) (Lb tc t u):=by
 intro pins s σ H D I h;refine wpAny_If (aE (hc pins s σ H _ I h) λd s1 ⟨H1,I1,q1⟩=>?_);cases d with
 |true=>exact ha pins s1 σ H1 D I1 q1
 |false=>exact hb pins s1 σ H1 D I1 q1
end
abbrev TG:=V->St->Hp->(St->Hp->Prop)->Prop
abbrev jl:=List V->St->Hp->(St->Hp->Prop)->Prop
def PG(X:Cx)(target:Expr)(t:TG):Prop :=
 ∀(pins:List (Addr×Obj)) (s:Shared) (σ:St) (H:Hp) (v:V) (u:Value) (Q:St->Hp->Prop),Inv X pins σ H s->RelV v u->t v σ H Q ->
  wpAny (model X.prog X.w) X.A (assign target X.env u) (λ_ s'=>∃σ' H',Inv X pins σ' H' s'/\Q σ' H') X.xe s
def iC(X:Cx)(ts:List Expr)(t:jl):Prop :=
 ∀(pins:List (Addr×Obj)) (s:Shared) (σ:St) (H:Hp) (vs:List V) (us:List Value) (Q:St->Hp->Prop),Inv X pins σ H s->Vals vs us->t vs σ H Q ->
  wpAny (model X.prog X.w) X.A (assignInOrder ((assignEach ts X.env).map (·.2)) us) (λ_ s'=>∃σ' H',Inv X pins σ' H' s'/\Q σ' H') X.xe s
abbrev u9:=V->V->V->Hp->(Hp->Prop)->Prop
def AM(X:Cx)(t:u9):Prop :=
 ∀(pins:List (Addr×Obj)) (s:Shared) (σ:St) (H:Hp) (o i v:V) (ov iv u:Value) (Q:Hp->Prop),Inv X pins σ H s->RelV o ov->RelV i iv->RelV v u->t o i v H Q ->
  wpAny (model X.prog X.w) X.A (setItem ov iv u) (λ_ s'=>∃H',Inv X pins σ H' s'/\Q H') X.xe s
abbrev rC:=V->V->Hp->VK->Prop
def u_(X:Cx)(op:Operator)(t:rC):Prop :=
 ∀(pins:List (Addr×Obj)) (s:Shared) (σ:St) (H:Hp) (x y:V) (v u:Value) (Q:VK),Inv X pins σ H s->RelV x v->RelV y u->t x y H Q ->
  wpAny (model X.prog X.w) X.A (inplaceOp op v u) (EP X pins σ Q) X.xe s
section
variable{X:Cx}{pos:Pos}
def rD(i:Nat):TG:=λv σ H Q=>Q (σ.set i (some v)) H
theorem Ld{i:Nat}{x:Str}(hN:X.N.Nodup)(hi:X.N[i]?=some x)(hx:Loc X.env.scope x)(hf:X.fn x=true∨X.env.scope.names.lookup x=some .local:=by first|exact .inl rfl|exact .inr rfl|assumption):PG X (.Name x pos) (rD i):=by
 intro pins s σ H v u Q I r h;exact IJ (u7 I hN hi hx r (λs' I'=>⟨_,H,I',h⟩) hf)
def Le:jl:=λvs σ H Q=>vs=[]/\Q σ H
def Lf(t:TG)(u:jl):jl:=λvs σ H Q=>∃v r,vs=v::r/\t v σ H λσ' H'=>u r σ' H' Q
theorem Lg:iC X [] Le:=by
 intro pins s σ H vs us Q I r h;obtain⟨e,h⟩:=h;subst e;cases r;exact assignInOrder_nil ⟨σ,H,I,h⟩
theorem Lh{e:Expr}{es:List Expr}{t:TG}{u:jl}(h1:PG X e t)(h2:iC X es u)
 (hs:(assignEach (e::es) X.env).map (·.2)=assign e X.env::(assignEach es X.env).map (·.2):=by rfl):iC X (e::es) (Lf t u):=by
 intro pins s σ H vs us Q I r h;obtain⟨v,vr,e1,h⟩:=h;subst e1;cases r with
 |cons r rr =>
  rw[hs];refine assignInOrder_cons (aE (h1 pins s σ H _ _ _ I r h) λ_ s1 ⟨eQ,H1,I1,q1⟩=>?_);exact h2 pins s1 eQ H1 _ _ Q I1 rr q1
def Li(K:ak)(n:Nat)(t:jl):TG:=λv σ H Q=>∃a xs,v=.ref a/\bq K H a xs/\xs.length=n/\t xs σ H Q
theorem Lj{es:List Expr}{k:Nat}{t:jl}{n:Nat}(hc:X.calm=true)(h:iC X es t)
 (hn:(assignEach es X.env).length=n:=by rfl) (hst:(assignEach es X.env).findIdx? (·.1)=none:=by rfl):PG X (.Tuple es k pos) (Li X.K n t):=by
 intro pins s σ H v u Q I r hw;obtain⟨a,xs,e1,hq,hl,hw⟩:=hw;subst e1;cases r;obtain⟨its,rv,ht,hz⟩:=I.tuple hq;refine assign_Tuple_tuple (I.ok.hd hc) ht (by simp[hn,<-hl,rv.length]) hst λh' hx=>?_;have I1:Inv X pins σ H {s with heap:=h'}:=I.kept (t':=s.toks) λb o e=>hx b o (c_ (bh e)) e;exact h pins _ σ H xs _ Q I1 (by simpa using rv) hw
def Lk(to ti:TE)(t:u9):TG:=λv σ H Q=>to σ H λo H1=>ti σ H1 λi H2=>t o i v H2 λH3=>Q σ H3
theorem Ll{o i:Expr}{to ti:TE}{t:u9}(ho:PE X o to)(hi:PE X i ti)(hs:AM X t)
 (ha:∀v,assign (.Subscript o i pos) X.env v=(do
  let ov <-holding [v] (eval o X.env)
  let iv <-holding [v,ov] (eval i X.env)
  standAt pos
  holding [v,ov,iv] (setItem ov iv v)
  release [v,ov,iv] []):=by intro _;rfl):PG X (.Subscript o i pos) (Lk to ti t):=by
 intro pins s σ H v u Q I r h;rw[ha];refine aj (mf (aE (ho pins s σ H _ I h) λov s1 ⟨x,H1,I1,r1,q1⟩=>?_));refine aj (mf (aE (hi pins s1 σ H1 _ I1 q1) λiv s2 ⟨y,H2,I2,r2,q2⟩=>?_));refine aj (zi (aj (mf (aE (hs pins s2 σ H2 x y v ov iv u _ I2 r1 r2 r q2) λ_ s3 ⟨H3,I3,q3⟩=>?_))));exact wpAny_release ⟨σ,H3,I3,q3⟩
def rE(te:TE)(g:TG):TS:=λD σ H=>te σ H λx H1=>g x σ H1 D.nx
theorem Lm{tg e:Expr}{te:TE}{g:TG}(he:PE X e te)(hg:PG X tg g)(hs:swapsWithSole [tg] e pos.line X.env=pure false:=by rfl)(hw:swappedStores [tg] e X.env=pure none:=by rfl)
 (h1:(assignEach [tg] X.env).map (·.2)=[assign tg X.env]:=by rfl):PS X (.Assign [tg] e pos) (rE te g):=by
 intro pins s σ H D I h;refine wpAny_Assign_stores (aE (he pins s σ H _ I h) λv s1 ⟨x,H1,I1,r1,q1⟩=>?_) hs hw;rw[h1];exact aE (hg pins s1 σ H1 x v _ I1 r1 q1) λ_ s2 q=>q
theorem Ln{i:Nat}{x:Str}{e:Expr}{te:TE}{pos':Pos}(hN:X.N.Nodup)(hi:X.N[i]?=some x)(hx:Loc X.env.scope x)(he:PE X e te)(hs:swapsWith e (some (.Name x pos')) pos.line X.env=pure false:=by rfl)(hf:X.fn x=true∨X.env.scope.names.lookup x=some .local:=by first|exact .inl rfl|exact .inr rfl|assumption) :
 PS X (.Assign [.Name x pos'] e pos) (rE te (rD i)):=by
 intro pins s σ H D I h;refine wpAny_Assign_Name (aE (he pins s σ H _ I h) λv s1 ⟨y,H1,I1,r1,q1⟩=>?_) hs;exact u7 I1 hN hi hx r1 (λs2 I2=>⟨_,H1,I2,q1⟩) hf
def Lo(i:Nat)(te:TE)(ti:rC):TS:=λD σ H=>∃x,σ[i]?=some (some x)/\te σ H λy H1=>ti x y H1 λz H2=>D.nx (σ.set i (some z)) H2
theorem Lp{i:Nat}{x:Str}{e:Expr}{te:TE}{op:Operator}{ti:rC}{pos':Pos}(hN:X.N.Nodup)(hi:X.N[i]?=some x)(hx:Loc X.env.scope x)(he:PE X e te)(ho:u_ X op ti)(hf:X.fn x=true∨X.env.scope.names.lookup x=some .local:=by first|exact .inl rfl|exact .inr rfl|assumption) :
 PS X (.AugAssign (.Name x pos') op e pos) (Lo i te ti):=by
 intro pins s σ H D I h;obtain⟨v,e1,h⟩:=h;obtain⟨m,hn,hl⟩:=I.loc;have Lq:rj X.env.scope x:=by rcases hx with k|k;exact .inl k;exact .inr (.inl k)
 obtain⟨u,r,l⟩:=hl i x v hi e1 Lq;refine wpAny_AugAssign_Name ?_;have go:wpAny (model X.prog X.w) X.A (eval e X.env) (λw s₂=>wpAny (model X.prog X.w) X.A (inplaceOp op u w) (λr s₃=>wpAny (model X.prog X.w) X.A (storeName X.env x r) (λ_=>SP X pins D .next) X.xe s₃) X.xe s₂) X.xe s:=by
  refine aE (he pins s σ H _ I h) λw s1 ⟨y,H1,I1,r1,q1⟩=>?_;refine aE (ho pins s1 σ H1 v y u w _ I1 r r1 q1) λz s2 ⟨zv,H2,I2,r2,q2⟩=>?_;exact u7 I2 hN hi hx r2 (λs3 I3=>⟨_,H2,I3,q2⟩) hf
 rcases l with⟨hk,hm⟩|⟨hk,c,hc,hcell⟩
 ·exact ID I.ok.kind hk hn hm go
 ·rcases hk with hk|hk
  ·exact IE I.ok.kind hk hc hcell go
  ·rcases hx with k|k
   ·have:X.env.scope.names.lookup x=some .free:=hk;rw[k]at this;cases this
   ·have:X.env.scope.names.lookup x=some .free:=hk;rw[k]at this;cases this
def AN(f:Int->Int->Int):rC:=λx y H Q=>∃i j,x=.int i/\y=.int j/\Q (.int (f i j)) H
theorem Lr:u_ X .Add (AN λi j=>i+j):=by
 intro pins s σ H x y v u Q I r1 r2 h;obtain⟨i,j,e1,e2,q⟩:=h;subst e1;subst e2;obtain⟨t,rfl⟩:=r1;obtain⟨t',rfl⟩:=r2;exact iadd_int ⟨.int _,H,I.tok _,⟨_,rfl⟩,q⟩
end
section
variable{X:Cx}{pos:Pos}
def Ls(c:TT)(tb:TS):TS:=λD σ H=>∃W:Nat->St->Hp->Prop,(∃m,W m σ H)/\∀m σ H,W m σ H ->
 c σ H λb H1=>if b=true then ∃N:St->Hp->Prop,(∀σ' H',N σ' H'->∃m',m'<m/\W m' σ' H')/\tb {D with nx:=N,ct:=N,bk:=D.nx} σ H1 else D.nx σ H1
theorem Lu{c:Expr}{body:List Stmt}{tc:TT}{tb:TS}(hp:PassesOwn (model X.prog X.w) X.A X.env X.xe)(hc:PT X c tc)(hb:dR X body tb):PS X (.While c body [] pos) (Ls tc tb):=by
 intro pins s σ H D I h;obtain⟨W,⟨m0,w0⟩,turn⟩:=h;refine wpAny_While (codeAny_whileLoop (λn s'=>∃σ' H',Inv X pins σ' H' s'/\W n σ' H') ?_ m0 ⟨σ,H,I,w0⟩);rintro n s1 ⟨eQ,H1,I1,w1⟩;refine mh hp (aE (hc pins s1 eQ H1 _ I1 (turn n eQ H1 w1)) λb s2 ⟨H2,I2,q2⟩=>?_);cases b with
 |true =>
  obtain⟨N,hN,q2⟩:=q2;rw[if_pos rfl];refine mh hp (aE (hb pins s2 eQ H2 _ I2 q2) λf s3 q3=>?_);cases f with
  |next =>
   obtain⟨hR,H3,I3,n3⟩:=q3;obtain⟨m',hm,w3⟩:=hN hR H3 n3;exact⟨m',hm,hR,H3,I3,w3⟩
  |cont =>
   obtain⟨hR,H3,I3,n3⟩:=q3;obtain⟨m',hm,w3⟩:=hN hR H3 n3;exact⟨m',hm,hR,H3,I3,w3⟩
  |brk=>exact q3
  |ret v=>exact q3
 |false =>
  rw[if_neg cF];exact qO ⟨eQ,H2,I2,q2⟩
end
structure It where
 go:Nat->Hp->Prop
 j5:Nat->Hp->V->Hp->Prop
 stop:Nat->Hp->Prop
def dq(X:Cx)(pins:List (Addr×Obj))(H:Hp)(b:Addr):Prop :=
 H b=none/\b≠X.env.locals/\b∉X.fs/\(b∈X.ex∨X.s₀.heap.objs.size<=b)/\(∀x c,X.env.cells.lookup x=some c->c≠b)/\∀p∈X.pn++pins,p.1≠b
theorem Inv.j6{X:Cx}{pins:List (Addr×Obj)}{σ:St}{H H':Hp}{s:Shared}{b:Addr}(I:Inv X pins σ H s)(hb:s.heap.objs.size<=b)(hn:H' b=none):dq X pins H' b:=by
 refine⟨hn,mi (cZ I.lt hb),I.Ks hb,.inr (bX I.sz hb),λx c e z=>?_,λp hp z=>?_⟩
 ·obtain⟨v,q⟩:=I.cell x c e;exact absurd (cZ q.lt (by rw[z];exact hb)) (jb _)
 ·exact absurd (cZ (bh (I.pin p hp).1) (by rw[z];exact hb)) (jb _)
structure Turn(P:Program)(w:World)(K:ak)(tg:Expr)(J:It)(fp:List Addr)(it:Addr)(tn:Nat->Heap->Prop):Prop where
 mem:it∈fp
 obj:∀i h,tn i h->∀b∈fp,∃o,h.get? b=some o/\∀v,o.data≠.cell v
 keep:∀i h h',tn i h->(∀b∈fp,∀o,h.get? b=some o->h'.get? b=some o)->tn i h'
 item:∀(X:Cx),X.prog=P->X.w=w->X.K=K->X.calm=true->∀(i:Nat) (pins:List (Addr×Obj)) (s:Shared) (σ:St) (H:Hp) (E:Value->Shared->Prop),Inv X pins σ H s->(∀b∈fp,dq X pins H b)->tn i s.heap->J.go i H ->
  wpAny (model P w) X.A (pyNext (.ref it)) (λr s1=>∃u,r=some u /\
   wpAny (model P w) X.A (letOwnedTupleGo tg (.ref it) u) (λ_ s2=>∃x H',Inv X pins σ H' s2/\RelV x u/\J.j5 i H x H'/\tn (i+1) s2.heap/\∀b∈fp,H' b=none) E s1) E s
 done:∀(X:Cx),X.prog=P->X.w=w->X.K=K->X.calm=true->∀(i:Nat) (pins:List (Addr×Obj)) (s:Shared) (σ:St) (H:Hp) (E:Value->Shared->Prop),Inv X pins σ H s->(∀b∈fp,dq X pins H b)->tn i s.heap->J.stop i H ->
  wpAny (model P w) X.A (pyNext (.ref it)) (λr s1=>r=none/\Inv X pins σ H s1) E s
 self:∀(A:Around) (i:Nat) (s:Shared) (Q:Value->Shared->Prop) (E:Value->Shared->Prop),tn i s.heap->Q (.ref it) s->wpAny (model P w) A (pyIter (.ref it)) Q E s
abbrev TI:=St->Hp->(It->Hp->Prop)->Prop
def va(X:Cx)(pins:List (Addr×Obj))(σ:St)(tg:Expr)(R:It->Hp->Prop)(itv:Value)(s2:Shared):Prop :=
 ∃(it:Addr) (fp:List Addr) (tn:Nat->Heap->Prop) (J:It) (H':Hp),itv=.ref it/\Inv X pins σ H' s2/\Turn X.prog X.w X.K tg J fp it tn/\tn 0 s2.heap/\(∀b∈fp,dq X pins H' b)/\R J H'
def PI(X:Cx)(tg iter:Expr)(wi:TI):Prop :=
 ∀(pins:List (Addr×Obj)) (s:Shared) (σ:St) (H:Hp) (R:It->Hp->Prop),Inv X pins σ H s->wi σ H R ->
  wpAny (model X.prog X.w) X.A (eval iter X.env) (λv s1=>wpAny (model X.prog X.w) X.A (pyIter v) (va X pins σ tg R) X.xe s1) X.xe s
theorem rF {M:Model} {A:Around} {E:Value→Shared→Prop} {s:Shared} {tg:Expr} {it:Addr} {u:Value} {o:Obj} {n:String} {vs:Array Value} {Q:Unit→Shared→Prop} (ho:s.heap.get? it=some o) (hc:o.cls=.type n) (hd:o.data=.fields vs)
    (hn:["enumerate","zip","dict_itemiterator","dict_reverseitemiterator","odict_iterator","itertools.zip_longest","itertools.pairwise"].contains n=false) (hQ:Q () s):wpAny M A (letOwnedTupleGo tg (.ref it) u) Q E s:=by
  unfold letOwnedTupleGo
  cases tg<;>first
    | exact aG hQ
    | (cases u<;>first
        | exact aG hQ
        | (refine aj (wpAny_load ho ?_)
           rw [hc,hd]
           show wpAny M A (if (["enumerate","zip","dict_itemiterator","dict_reverseitemiterator","odict_iterator","itertools.zip_longest","itertools.pairwise"].contains n&&vs[0]?==some (rawInt _))=true then _ else _) Q E s
           rw [if_neg (by intro h;rw [hn,Bool.false_and] at h;cases h)]
           exact aG hQ))
def AO(K:ak)(a:Addr):It :=
 ⟨λi H=>∃xs x,a6 K H a xs/\xs[i]?=some x,λi H x H'=>H'=H/\∀xs,a6 K H a xs->xs[i]?=some x,λi H=>∃xs,a6 K H a xs/\xs.length<=i⟩
def AQ(K:ak)(a:Addr):It :=
 ⟨λi H=>∃xs x,bq K H a xs/\xs[i]?=some x,λi H x H'=>H'=H/\∀xs,bq K H a xs->xs[i]?=some x,λi H=>∃xs,bq K H a xs/\xs.length<=i⟩
def oX(lo:Int)(n:Nat):It:=⟨λi _=>i<n,λi H x H'=>H'=H/\x=.int (lo+i),λi _=>n<=i⟩
theorem Lv{P:Program}{w:World}{K:ak}{tg:Expr}(a it:Addr):Turn P w K tg (AO K a) [it] it (λi h=>h.IsListIter it a i) where
 mem:=by simp
 obj:=λi h st b hb=>by
  have e:b=it:=by simpa using hb
  subst e;obtain⟨o,e,c,d⟩:=st;exact⟨o,e,λv z=>by rw[d]at z;cases z⟩
 keep:=λi h h' st k=>st.at λo e=>k it (by simp) o e
 item:=by
  intro X hP hw hK hc i pins s σ H E I hf st hg;subst hP hw hK;obtain⟨xs,x,hq,hx⟩:=hg;obtain⟨its,rv,p,hz⟩:=I.list hq;obtain⟨u,hu,ru⟩:=rv.get hx;obtain⟨f0,f1,f2,f3,f4,f5⟩:=hf it (by simp);refine wpAny_pyNext_list_item st p.isList (x:=u) (by simpa using hu) λh' st' sb=>?_;have I1:Inv X pins σ H {s with heap:=h'}:=I.turned (t':=s.toks) (λb o hb e=>(sb.2 b hb).trans e) f0 f1 f3 f4 f5;obtain⟨o,e,c,d⟩:=id st';exact⟨u,rfl,rF (s:={s with heap:=h'}) e c d (by decide) ⟨x,H,I1,ru,⟨rfl,λys hy=>by rw[I.rB hy hq];exact hx⟩,st',λb hb=>(hf b hb).1⟩⟩
 done:=by
  intro X hP hw hK hc i pins s σ H E I hf st hg;subst hP hw hK;obtain⟨xs,hq,hx⟩:=hg;obtain⟨its,rv,p,hz⟩:=I.list hq;obtain⟨f0,f1,f2,f3,f4,f5⟩:=hf it (by simp);have hl:=rv.length;exact wpAny_pyNext_list_end (I.ok.hd hc) st p.isList (by simp;lia) λh' eb=>⟨rfl,I.turned (t':=s.toks) (λb o hb e=>eb b o hb e) f0 f1 f3 f4 f5⟩
 self:=λ_ _ _ _ _ st h=>wpAny_pyIter_listiter st h
theorem Lw{P:Program}{w:World}{K:ak}{tg:Expr}(a it:Addr):Turn P w K tg (AQ K a) [it] it (λi h=>h.IsTupleIter it a i) where
 mem:=by simp
 obj:=λi h st b hb=>by
  have e:b=it:=by simpa using hb
  subst e;obtain⟨o,e,c,d⟩:=st;exact⟨o,e,λv z=>by rw[d]at z;cases z⟩
 keep:=λi h h' st k=>st.at λo e=>k it (by simp) o e
 item:=by
  intro X hP hw hK hc i pins s σ H E I hf st hg;subst hP hw hK;obtain⟨xs,x,hq,hx⟩:=hg;obtain⟨its,rv,p,hz⟩:=I.tuple hq;obtain⟨u,hu,ru⟩:=rv.get hx;obtain⟨f0,f1,f2,f3,f4,f5⟩:=hf it (by simp);refine wpAny_pyNext_tuple_item st (show s.heap.IsTuple a its.toArray from p) (x:=u) (by simpa using hu) λh' st' sb=>?_;have I1:Inv X pins σ H {s with heap:=h'}:=I.turned (t':=s.toks) (λb o hb e=>(sb.2 b hb).trans e) f0 f1 f3 f4 f5;obtain⟨o,e,c,d⟩:=id st';exact⟨u,rfl,rF (s:={s with heap:=h'}) e c d (by decide) ⟨x,H,I1,ru,⟨rfl,λys hy=>by rw[I.oV hy hq];exact hx⟩,st',λb hb=>(hf b hb).1⟩⟩
 done:=by
  intro X hP hw hK hc i pins s σ H E I hf st hg;subst hP hw hK;obtain⟨xs,hq,hx⟩:=hg;obtain⟨its,rv,p,hz⟩:=I.tuple hq;obtain⟨f0,f1,f2,f3,f4,f5⟩:=hf it (by simp);have hl:=rv.length;exact wpAny_pyNext_tuple_end (I.ok.hd hc) st (show s.heap.IsTuple a its.toArray from p) (by simp;lia) λh' eb=>⟨rfl,I.turned (t':=s.toks) (λb o hb e=>eb b o hb e) f0 f1 f3 f4 f5⟩
 self:=λ_ _ _ _ _ st h=>wpAny_pyIter_tupleiter st h
theorem Lx{P:Program}{w:World}{K:ak}{tg:Expr}(it:Addr)(lo:Int)(n:Nat):Turn P w K tg (oX lo n) [it] it (λi h=>IsRangeIter h it (lo+(i:Nat)*1) ((n:Int)-(i:Nat)) 1) where
 mem:=by simp
 obj:=λi h st b hb=>by
  have e:b=it:=by simpa using hb
  subst e;exact⟨_,st,λv z=>by
   have z':Data.fields _=Data.cell v:=z;cases z'⟩
 keep:=λi h h' st k=>k it (by simp) _ st
 item:=by
  intro X hP hw hK hc i pins s σ H E I hf st hg;subst hP hw hK;obtain⟨f0,f1,f2,f3,f4,f5⟩:=hf it (by simp);have W:=Walks.range (prog:=X.prog) (w:=X.w) (I.ok.hd hc) it lo 1 n;refine W.item i s _ _ hg st λv h' tk hv st' kk=>?_;obtain⟨t,rfl⟩:=hv;have I1:Inv X pins σ H {s with heap:=h',toks:=tk}:=I.turned (λb o hb e=>kk b o (by simpa using hb) e) f0 f1 f3 f4 f5;refine⟨_,rfl,rF (s:={s with heap:=h',toks:=tk}) (n:="range_iterator") st' rfl rfl (by decide) ⟨.int (lo+i),H,I1,⟨t,?_⟩,⟨rfl,rfl⟩,st',λb hb=>(hf b hb).1⟩⟩;rw[Int.mul_one]
 done:=by
  intro X hP hw hK hc i pins s σ H E I hf st hg;subst hP hw hK;obtain⟨f0,f1,f2,f3,f4,f5⟩:=hf it (by simp);exact wpAny_pyNext_range_end (I.ok.hd hc) st (by have:n<=i:=hg;lia) λh' eb=>⟨rfl,I.turned (t':=s.toks) (λb o hb e=>eb b o hb e) f0 f1 f3 f4 f5⟩
 self:=λ_ _ _ _ _ st h=>wpAny_pyIter_rangeiter st h
section
variable{X:Cx}{tg:Expr}
def Ly(K:ak)(tl:TE):TI:=λσ H R=>tl σ H λx H1=>∃a,x=.ref a/\(∃xs,a6 K H1 a xs)/\R (AO K a) H1
def Lz(K:ak)(tl:TE):TI:=λσ H R=>tl σ H λx H1=>∃a,x=.ref a/\(∃xs,bq K H1 a xs)/\R (AQ K a) H1
theorem LA{l:Expr}{tl:TE}(hl:PE X l tl):PI X tg l (Ly X.K tl):=by
 intro pins s σ H R I h;refine aE (hl pins s σ H _ I h) λv s1 ⟨x,H1,I1,r1,q1⟩=>?_;obtain⟨a,e,⟨xs,hq⟩,q⟩:=q1;subst e;cases r1;obtain⟨its,rv,p,hz⟩:=I1.list hq;refine IK p.isList ?_;refine⟨s1.heap.objs.size,[s1.heap.objs.size],_,_,H1,rfl,I1.kept (t':=s1.toks) λb o e=>bC _ e,Lv a _,⟨_,dn _ rfl,rfl,rfl⟩,λb hb=>?_,q⟩;have e:b=s1.heap.objs.size:=by simpa using hb
 subst e;exact I1.j6 (aX _) (I1.hok.fresh (aX _))
theorem LB{l:Expr}{tl:TE}(hl:PE X l tl):PI X tg l (Lz X.K tl):=by
 intro pins s σ H R I h;refine aE (hl pins s σ H _ I h) λv s1 ⟨x,H1,I1,r1,q1⟩=>?_;obtain⟨a,e,⟨xs,hq⟩,q⟩:=q1;subst e;cases r1;obtain⟨its,rv,p,hz⟩:=I1.tuple hq;refine ox (show s1.heap.IsTuple a its.toArray from p) ?_;refine⟨s1.heap.objs.size,[s1.heap.objs.size],_,_,H1,rfl,I1.kept (t':=s1.toks) λb o e=>bC _ e,Lw a _,⟨_,dn _ rfl,rfl,rfl⟩,λb hb=>?_,q⟩;have e:b=s1.heap.objs.size:=by simpa using hb
 subst e;exact I1.j6 (aX _) (I1.hok.fresh (aX _))
theorem AR{pins:List (Addr×Obj)}{σ:St}{H:Hp}{s:Shared}{R:It->Hp->Prop}{E:Value->Shared->Prop}{lo hi:Int}{t u v:Tok}{tk:Nat}(I:Inv X pins σ H s)(h1:-(2^62)<=lo)(h2:lo<2^62)(h3:-(2^62)<=hi)(h4:hi<2^62)
 (q:R (oX lo (hi-lo).toNat) H):wpAny (model X.prog X.w) X.A (pyIter (.ref s.heap.objs.size)) (va X pins σ tg R) E {s with heap:=s.heap.push {cls:=.type "range",data:=.fields #[.int lo t,.int hi u,.int 1 v]},toks:=tk}:=by
 refine wpAny_pyIter_range (IsRange.new ..) (small_one h1 h2 h3 h4) ?_;have I1:Inv X pins σ H {s with heap:=s.heap.push {cls:=.type "range",data:=.fields #[.int lo t,.int hi u,.int 1 v]},toks:=tk}:=I.kept λb o e=>bC _ e;refine⟨(s.heap.push {cls:=.type "range",data:=.fields #[.int lo t,.int hi u,.int 1 v]}).objs.size,[(s.heap.push {cls:=.type "range",data:=.fields #[.int lo t,.int hi u,.int 1 v]}).objs.size],_,_,H,rfl,
  I1.kept (t':=tk) λb o e=>bC _ e,Lx _ lo (hi-lo).toNat,?_,λb hb=>?_,q⟩
 ·have e1:lo+((0:Nat):Int)*1=lo:=by simp
  have e2:(((hi-lo).toNat:Nat):Int)-((0:Nat):Int)=abJ lo hi 1:=by rw[rangeSize_one];split<;>lia
  show IsRangeIter _ _ (lo+((0:Nat):Int)*1) ((((hi-lo).toNat:Nat):Int)-((0:Nat):Int)) 1;rw[e1,e2];exact dn _ rfl
 ·have e:b=(s.heap.push {cls:=.type "range",data:=.fields #[.int lo t,.int hi u,.int 1 v]}).objs.size:=by simpa using hb
  subst e;exact I1.j6 (aX _) (I1.hok.fresh (aX _))
def LC(ta:TA):TI:=λσ H R=>ta σ H λvs H1=>∃j:Int,vs=[.int j]/\-(2^62)<=j/\j<2^62/\R (oX 0 j.toNat) H1
def LD(ta:TA):TI:=λσ H R=>ta σ H λvs H1=>∃i j:Int,vs=[.int i,.int j]/\(-(2^62)<=i/\i<2^62/\-(2^62)<=j/\j<2^62)/\R (oX i (j-i).toNat) H1
theorem LF{a:Expr}{ta:TA}{p pos:Pos}(hg:Gl X "range")(hm:X.mg "range"=none)(ha:PA X [a] ta)(hs:starEach [a] X.env=[(false,eval a X.env)]:=by rfl):PI X tg (.Call (.Name "range" p) [a] [] pos) (LC ta):=by
 intro pins s σ H R I h;refine Call_ (iA I hg hm boot_range (kH (aE (ha pos pins s σ H _ I h) λus s1 ⟨vs,H1,I1,r1,q1⟩=>?_) hs rfl));obtain⟨j,e,q1,q2,q⟩:=q1;subst e;cases r1 with
 |cons r rr =>
  cases rr;obtain⟨t,rfl⟩:=r;exact call_range_1 (AR I1 (by lia) (by lia) q1 q2 (by simpa using q))
theorem LG{a b:Expr}{ta:TA}{p pos:Pos}(hg:Gl X "range")(hm:X.mg "range"=none)(ha:PA X [a,b] ta)(hs:starEach [a,b] X.env=[(false,eval a X.env),(false,eval b X.env)]:=by rfl)(hs2:starEach [b] X.env=[(false,eval b X.env)]:=by rfl) :
 PI X tg (.Call (.Name "range" p) [a,b] [] pos) (LD ta):=by
 intro pins s σ H R I h;refine Call_ (iA I hg hm boot_range (kH (aE (ha pos pins s σ H _ I h) λus s1 ⟨vs,H1,I1,r1,q1⟩=>?_) (by rw[hs,hs2]) (by rw[hs2];rfl)));obtain⟨i,j,e,⟨q1,q2,q3,q4⟩,q⟩:=q1;subst e;cases r1 with
 |cons r rr =>
  cases rr with
  |cons r' rr =>
   cases rr;obtain⟨t,rfl⟩:=r;obtain⟨t',rfl⟩:=r';exact call_range_2 (AR I1 q1 q2 q3 q4 q)
def LH(wi:TI)(g:TG)(tb:TS):TS:=λD σ H=>wi σ H λJ H1=>∃W:Nat->Nat->St->Hp->Prop,(∃m,W 0 m σ H1)/\∀i m σ H,W i m σ H ->
 (J.stop i H/\D.nx σ H)∨(J.go i H/\∃N:St->Hp->Prop,(∀σ' H',N σ' H'->∃m',m'<m/\W (i+1) m' σ' H')/\∀x H',J.j5 i H x H'->g x σ H' λiD H2=>tb {D with nx:=N,ct:=N,bk:=D.nx} iD H2)
def oY(fp:List Addr)(h:Heap):List (Addr×Obj):=fp.filterMap λb=>(h.get? b).map λo=>(b,o)
theorem rG{fp:List Addr}{h:Heap}{b:Addr}{o:Obj}(hb:b∈fp)(e:h.get? b=some o):(b,o)∈oY fp h:=oy.mpr ⟨b,hb,by rw[e];rfl⟩
theorem LJ{fp:List Addr}{h:Heap}{p:Addr×Obj}(hp:p∈oY fp h):p.1∈fp/\h.get? p.1=some p.2:=by
 obtain⟨b,hb,e⟩:=oy.mp hp;cases q:h.get? b with
 |none=>rw[q]at e;cases e
 |some o =>
  rw[q]at e;have e':(b,o)=p:=cS e;subst e';exact⟨hb,q⟩
theorem Inv.pinned{pins:List (Addr×Obj)}{σ:St}{H:Hp}{s:Shared}{fp:List Addr}(I:Inv X pins σ H s)(hf:∀b∈fp,dq X pins H b)(ho:∀b∈fp,∃o,s.heap.get? b=some o/\∀v,o.data≠.cell v):Inv X (pins++oY fp s.heap) σ H s :=
 I.AG λp hp=>(bR.mp hp).elim (λz=>I.pin p (dG _ z)) λz=>by
  obtain⟨hb,e⟩:=LJ z;obtain⟨f0,f1,f2,_⟩:=hf p.1 hb;obtain⟨o,e',d⟩:=ho p.1 hb;rw[e]at e';cases e';exact⟨e,f0,f1,f2,d⟩
theorem Inv.rH{pins pl:List (Addr×Obj)}{σ:St}{H:Hp}{s:Shared}(I:Inv X (pins++pl) σ H s):Inv X pins σ H s:=I.AG λp hp=>I.pin p (dG _ (fb _ hp))
theorem LK{iter:Expr}{body:List Stmt}{wi:TI}{g:TG}{tb:TS}{pos:Pos}(hp:PassesOwn (model X.prog X.w) X.A X.env X.xe)(hc:X.calm=true)(hi:PI X tg iter wi)(hg:PG X tg g)(hb:dR X body tb)
 (hs:∀x,foldedSetIterable iter X.env x=pure x:=by intro _;rfl):PS X (.For tg iter body [] pos) (LH wi g tb):=by
 intro pins s σ H D I h;refine wpAny_For (aE (hi pins s σ H _ I h) λv s1 h1=>aE h1 λitv s2 h2=>?_) hs;obtain⟨it,fp,tn,J,H2,e,I2,T,st2,f2,W,⟨m0,w0⟩,turn⟩:=h2;subst e;have kR:∀{H':Hp},(∀b∈fp,H' b=none)->∀b∈fp,dq X pins H' b:=λhn b hb=>⟨hn b hb,(f2 b hb).2⟩;refine codeAny_forLoop_any (λn s'=>∃i σ' H',Inv X pins σ' H' s'/\tn i s'.heap/\(∀b∈fp,H' b=none)/\W i n σ' H') ?_ m0 ⟨0,σ,H2,I2,st2,λb hb=>(f2 b hb).1,w0⟩;rintro n s3 ⟨i,hR,H3,I3,st3,hU,w3⟩;rcases turn i n hR H3 w3 with⟨stop,qn⟩|⟨go,N,hN,step⟩
 ·refine mh hp (aE (T.done X rfl rfl rfl hc i pins s3 hR H3 X.xe I3 (kR hU) st3 stop) λr s4 ⟨hr,I4⟩=>?_);subst hr;exact qO ⟨hR,H3,I4,qn⟩
 ·refine mh hp (aE (T.item X rfl rfl rfl hc i pins s3 hR H3 X.xe I3 (kR hU) st3 go) λr s4 ⟨u,hr,h4⟩=>?_);subst hr;refine mh hp (aE h4 λ_ s5 ⟨x,H5,I5,r5,y5,my,rJ⟩=>?_);have LL:=I5.pinned (kR rJ) (T.obj _ _ my);refine mh hp (aE (hg _ s5 hR H5 x u _ LL r5 (step x H5 y5)) λ_ s6 ⟨LM,H6,I6,q6⟩=>?_);refine mh hp (aE (hb _ s6 LM H6 _ I6 q6) λf s7 q7=>?_);have again:∀{hV:St} {H7:Hp},Inv X (pins++oY fp s5.heap) hV H7 s7->N hV H7->∃m,m<n/\∃i σ' H',Inv X pins σ' H' s7/\tn i s7.heap/\(∀b∈fp,H' b=none)/\W i m σ' H':=λ{hV H7} I7 n7=>by
   obtain⟨m',hm,w7⟩:=hN hV H7 n7;refine⟨m',hm,i+1,hV,H7,I7.rH,T.keep _ _ _ my λb hb o e=>(I7.pin (b,o) (dG _ (dG _ (rG hb e)))).1,λb hb=>?_,w7⟩;obtain⟨o,e,d⟩:=T.obj _ _ my b hb;exact(I7.pin (b,o) (dG _ (dG _ (rG hb e)))).2.1
  cases f with
  |next=>obtain⟨hV,H7,I7,n7⟩:=q7;exact again I7 n7
  |cont=>obtain⟨hV,H7,I7,n7⟩:=q7;exact again I7 n7
  |brk=>obtain⟨hV,H7,I7,q7⟩:=q7;exact⟨hV,H7,I7.rH,q7⟩
  |ret v=>obtain⟨x7,hV,H7,I7,r7,q7⟩:=q7;exact⟨x7,hV,H7,I7.rH,r7,q7⟩
end
abbrev R2:=V->V->Hp->VK->Prop
def bT(X:Cx)(f:Value->Value->Sem Value)(r:R2):Prop :=
 ∀(pins:List (Addr×Obj)) (s:Shared) (σ:St) (H:Hp) (x y:V) (v u:Value) (Q:VK),Inv X pins σ H s->RelV x v->RelV y u->r x y H Q ->
  wpAny (model X.prog X.w) X.A (f v u) (EP X pins σ Q) X.xe s
def vb(X:Cx)(f:Value->Sem Value)(r:V->Hp->VK->Prop):Prop :=
 ∀(pins:List (Addr×Obj)) (s:Shared) (σ:St) (H:Hp) (x:V) (v:Value) (Q:VK),Inv X pins σ H s->RelV x v->r x H Q ->
  wpAny (model X.prog X.w) X.A (f v) (EP X pins σ Q) X.xe s
def fI(X:Cx)(f:Value)(r:List V->Hp->VK->Prop):Prop :=
 ∀(pins:List (Addr×Obj)) (s:Shared) (σ:St) (H:Hp) (xs:List V) (us:List Value) (Q:VK),Inv X pins σ H s->Vals xs us->r xs H Q ->
  wpAny (model X.prog X.w) X.A (call f us) (EP X pins σ Q) X.xe s
def LN(X:Cx)(r:V->Hp->(Bool->Hp->Prop)->Prop):Prop :=
 ∀(pins:List (Addr×Obj)) (s:Shared) (σ:St) (H:Hp) (x:V) (v:Value) (Q:Bool->Hp->Prop),Inv X pins σ H s->RelV x v->r x H Q ->
  wpAny (model X.prog X.w) X.A (truthy v) (TP X pins σ Q) X.xe s
def oZ(r:R2)(ta tb:TE):TE:=λσ H Q=>ta σ H λx H1=>tb σ H1 λy H2=>r x y H2 Q
def LO(r:V->Hp->VK->Prop)(ta:TE):TE:=λσ H Q=>ta σ H λx H1=>r x H1 Q
def rI(C:Int->Int->Prop)(g:Int->Int->V):R2:=λx y H Q=>∃i j,x=.int i/\y=.int j/\C i j/\Q (g i j) H
def iE(g:Int->Int->V):R2:=λx y H Q=>∃i j,x=.int i/\y=.int j/\Q (g i j) H
def rU(g:Int->V):V->Hp->VK->Prop:=λx H Q=>∃i,x=.int i/\Q (g i) H
section
variable{X:Cx}{a b c:Expr}{ta tb tc:TE}{pos:Pos}
theorem vc(ha:PE X a ta)(hb:PE X b tb){pins:List (Addr×Obj)}{s:Shared}{σ:St}{H:Hp}{R:V->V->Hp->Prop}(I:Inv X pins σ H s)
 (h:ta σ H λx H1=>tb σ H1 λy H2=>R x y H2) {Q:Value->Shared->Prop} {f:Value->Value->Sem Value}
 (hf:∀v u s2 x y H2,Inv X pins σ H2 s2->RelV x v->RelV y u->R x y H2->wpAny (model X.prog X.w) X.A (f v u) Q X.xe s2) :
 wpAny (model X.prog X.w) X.A (eval a X.env) (λv s₁=>wpAny (model X.prog X.w) X.A (eval b X.env) (λu s₂=>wpAny (model X.prog X.w) X.A (f v u) Q X.xe s₂) X.xe s₁) X.xe s:=by
 refine aE (ha pins s σ H _ I h) λv s1 ⟨x,H1,I1,r1,q1⟩=>?_;refine aE (hb pins s1 σ H1 _ I1 q1) λu s2 ⟨y,H2,I2,r2,q2⟩=>?_;exact hf v u s2 x y H2 I2 r1 r2 q2
theorem LP{op:Operator}{r:R2}(ho:bT X (binaryOp op) r)(ha:PE X a ta)(hb:PE X b tb):PE X (.BinOp a op b pos) (oZ r ta tb):=by
 intro pins s σ H Q I h;exact wpAny_BinOp (vc ha hb I h λv u s2 x y H2 I2 rx ry q=>ho pins s2 σ H2 x y v u Q I2 rx ry q)
theorem LQ{op:UnaryOp}{r:V->Hp->VK->Prop}(ho:vb X (unaryOp op) r)(ha:PE X a ta):PE X (.UnaryOp op a pos) (LO r ta):=by
 intro pins s σ H Q I h;exact UnaryOp_ (aE (ha pins s σ H _ I h) λv s1 vd=>by obtain⟨x,H1,I1,r1,q1⟩:=vd;exact ho pins s1 σ H1 x v Q I1 r1 q1)
theorem rK{f:Value->Value->Sem Value}{C:Int->Int->Prop}{g:Int->Int->Int}
 (rule:∀(i j:Int) (t u:Tok) (s:Shared) (Q:Value->Shared->Prop) (E:Value->Shared->Prop),C i j->Q (.int (g i j) s.toks) {s with toks:=s.toks+1}->wpAny (model X.prog X.w) X.A (f (.int i t) (.int j u)) Q E s) :
 bT X f (rI C λi j=>.int (g i j)):=by
 intro pins s σ H x y v u Q I rx ry h;obtain⟨i,j,rfl,rfl,hc,q⟩:=h;obtain⟨t,rfl⟩:=rx;obtain⟨t',rfl⟩:=ry;exact rule i j t t' s _ _ hc ⟨.int (g i j),H,I.tok _,⟨_,rfl⟩,q⟩
theorem AS{f:Value->Value->Sem Value}{g:Int->Int->Int}
 (rule:∀(i j:Int) (t u:Tok) (s:Shared) (Q:Value->Shared->Prop) (E:Value->Shared->Prop),Q (.int (g i j) s.toks) {s with toks:=s.toks+1}->wpAny (model X.prog X.w) X.A (f (.int i t) (.int j u)) Q E s) :
 bT X f (iE λi j=>.int (g i j)):=by
 intro pins s σ H x y v u Q I rx ry h;obtain⟨i,j,rfl,rfl,q⟩:=h;obtain⟨t,rfl⟩:=rx;obtain⟨t',rfl⟩:=ry;exact rule i j t t' s _ _ ⟨.int (g i j),H,I.tok _,⟨_,rfl⟩,q⟩
theorem rL{f:Value->Value->Sem Value}{g:Int->Int->Bool}
 (rule:∀(i j:Int) (t u:Tok) (s:Shared) (Q:Value->Shared->Prop) (E:Value->Shared->Prop),Q (.bool (g i j)) s->wpAny (model X.prog X.w) X.A (f (.int i t) (.int j u)) Q E s) :
 bT X f (iE λi j=>.bl (g i j)):=by
 intro pins s σ H x y v u Q I rx ry h;obtain⟨i,j,rfl,rfl,q⟩:=h;obtain⟨t,rfl⟩:=rx;obtain⟨t',rfl⟩:=ry;exact rule i j t t' s _ _ ⟨.bl (g i j),H,I,rfl,q⟩
def AU(i j:Int):Prop:=0<j/\j<1073741824
def ve(i j:Int):Prop:=0<=j/\j<=1000000/\i.natAbs<2^64
def o6(i j:Int):Prop:=(-(2^64)<i/\i<2^64)∨(-(2^64)<j/\j<2^64)
theorem o6.ok{i j:Int}(h:o6 i j):IntMulOk i j:=by
 rcases h with⟨h1,h2⟩|⟨h1,h2⟩
 ·exact .of_left (intBits_le_64 h1 h2)
 ·exact .of_right (intBits_le_64 h1 h2)
theorem kS:bT X (binaryOp .Add) (iE λi j=>.int (i+j)):=AS λ_ _ _ _ _ _ _ q=>add_int q
theorem AV:bT X (binaryOp .Sub) (iE λi j=>.int (i-j)):=AS λ_ _ _ _ _ _ _ q=>sub_int q
theorem AW:bT X (binaryOp .Mult) (rI o6 λi j=>.int (i*j)):=rK λ_ _ _ _ _ _ _ hc q=>mul_int q hc.ok
theorem dS:bT X (binaryOp .FloorDiv) (rI AU λi j=>.int (i/j)):=rK λi j _ _ _ _ _ hc q=>by
 have h1:(0:Int)<j:=hc.1;have h2:j<1073741824:=hc.2;exact floordiv_int (by lia) (by rw[Int.fdiv_eq_ediv_of_nonneg i (by lia)];exact q) (.inl (PyProof.noPylong_small (by lia)))
theorem c7:bT X (binaryOp .Mod) (rI (λ_ j=>0<j) λi j=>.int (i%j)):=rK λi j _ _ _ _ _ hc q=>by
 have h1:(0:Int)<j:=hc;exact mod_int' (by lia) (by rw[Int.fmod_eq_emod_of_nonneg i (by lia)];exact q)
theorem AX:bT X (binaryOp .Pow) (rI ve λi j=>.int (i^j.toNat)):=rK λ_ _ _ _ _ _ _ hc q=>pow_int_small hc.1 hc.2.1 hc.2.2 q
theorem LR{f:Value->Sem Value}{g:Int->Int}
 (rule:∀(i:Int) (t:Tok) (s:Shared) (Q:Value->Shared->Prop) (E:Value->Shared->Prop),Q (.int (g i) s.toks) {s with toks:=s.toks+1}->wpAny (model X.prog X.w) X.A (f (.int i t)) Q E s) :
 vb X f (rU λi=>.int (g i)):=by
 intro pins s σ H x v Q I rx h;obtain⟨i,rfl,q⟩:=h;obtain⟨t,rfl⟩:=rx;exact rule i t s _ _ ⟨.int (g i),H,I.tok _,⟨_,rfl⟩,q⟩
theorem LS:vb X (unaryOp .USub) (rU λi=>.int (-i)):=LR λ_ _ _ _ _ q=>neg_int q
end
def AY:V->V->Bool
 | .non,.non=>true | .non,.int _=>true | .int _,.non=>true | .non,.bl _=>true | .bl _,.non=>true | .non,.str _=>true | .str _,.non=>true
 | .int _,.int _=>true | .bl _,.bl _=>true | .str _,.str _=>true | .fV _,.fV _=>true
 | .int _,.str _=>true | .str _,.int _=>true | .bl _,.str _=>true | .str _,.bl _=>true
 |_,_=>false
def vf:R2:=λx y H Q=>AY x y=true/\Q (.bl (decide (x=y))) H
def rM:R2:=λx y H Q=>AY x y=true/\Q (.bl (!decide (x=y))) H
theorem vg{i j:Int}:decide (V.int i=V.int j)=(i==j):=by
 rw[e_];simp
theorem AZ{i j:Bool}:decide (V.bl i=V.bl j)=(i==j):=by
 rw[e_];simp
theorem A0{i j:Str}:decide (V.str i=V.str j)=(i==j):=by
 rw[e_];simp
theorem A1{i j:Array UInt8}:decide (V.fV i=V.fV j)=(i.toList==j.toList):=by
 rw[e_];cases i;cases j;simp
section
variable{X:Cx}{a b c:Expr}{ta tb tc:TE}{pos:Pos}
theorem cm{pins:List (Addr×Obj)}{σ:St}{H:Hp}{s:Shared}{Q:VK}{k k':Bool}(I:Inv X pins σ H s)(q:Q (.bl k) H)(e:k=k'):EP X pins σ Q (.bool k') s:=by
 subst e;exact⟨.bl k,H,I,rfl,q⟩
theorem cJ:bT X (compareOp .Eq) vf:=by
 intro pins s σ H x y v u Q I rx ry h;obtain⟨hs,q⟩:=h;cases x with
 |non =>
  cases rx;cases y with
  |non=>cases ry;exact PySem.EqNone.eq_none_none (cm I q (by simp))
  |bl j=>cases ry;exact PySem.EqNone.eq_none_bool (cm I q (by simp))
  |int j=>obtain⟨t',rfl⟩:=ry;exact PySem.EqNone.eq_none_int (cm I q (by simp))
  |str j=>obtain⟨t',rfl⟩:=ry;exact PySem.EqNone.eq_none_str (cm I q (by simp))
  |_=>exact absurd (show false=true from hs) cF
 |bl i =>
  cases rx;cases y with
  |non=>cases ry;exact PySem.EqNone.eq_bool_none (cm I q (by simp))
  |bl j=>cases ry;exact eq_bool (cm I q AZ)
  |str j=>obtain⟨t',rfl⟩:=ry;exact abK (cm I q (by simp))
  |_=>exact absurd (show false=true from hs) cF
 |int i =>
  obtain⟨t,rfl⟩:=rx;cases y with
  |non=>cases ry;exact PySem.EqNone.eq_int_none (cm I q (by simp))
  |int j=>obtain⟨t',rfl⟩:=ry;exact eq_int (cm I q vg)
  |str j=>obtain⟨t',rfl⟩:=ry;exact abL (cm I q (by simp))
  |_=>exact absurd (show false=true from hs) cF
 |str i =>
  obtain⟨t,rfl⟩:=rx;cases y with
  |non=>cases ry;exact PySem.EqNone.eq_str_none (cm I q (by simp))
  |bl j=>cases ry;exact abM (cm I q (by simp))
  |int j=>obtain⟨t',rfl⟩:=ry;exact abN (cm I q (by simp))
  |str j=>obtain⟨t',rfl⟩:=ry;exact eq_str (cm I q A0)
  |_=>exact absurd (show false=true from hs) cF
 |fV i =>
  obtain⟨t,rfl⟩:=rx;cases y with
  |fV j=>obtain⟨t',rfl⟩:=ry;exact PySem.W.eq_bytes (cm I q A1)
  |_=>exact absurd (show false=true from hs) cF
 |_=>cases y<;>exact absurd (show false=true from hs) cF
theorem j7:bT X (compareOp .NotEq) rM:=by
 intro pins s σ H x y v u Q I rx ry h;obtain⟨hs,q⟩:=h;cases x with
 |non =>
  cases rx;cases y with
  |non=>cases ry;exact PySem.EqNone.ne_none_none (cm I q (by simp))
  |bl j=>cases ry;exact PySem.EqNone.ne_none_bool (cm I q (by simp))
  |int j=>obtain⟨t',rfl⟩:=ry;exact PySem.EqNone.ne_none_int (cm I q (by simp))
  |str j=>obtain⟨t',rfl⟩:=ry;exact PySem.EqNone.ne_none_str (cm I q (by simp))
  |_=>exact absurd (show false=true from hs) cF
 |bl i =>
  cases rx;cases y with
  |non=>cases ry;exact PySem.EqNone.ne_bool_none (cm I q (by simp))
  |bl j=>cases ry;exact ne_bool (cm I q (congrArg not AZ))
  |str j=>obtain⟨t',rfl⟩:=ry;exact abO (cm I q (by simp))
  |_=>exact absurd (show false=true from hs) cF
 |int i =>
  obtain⟨t,rfl⟩:=rx;cases y with
  |non=>cases ry;exact PySem.EqNone.ne_int_none (cm I q (by simp))
  |int j=>obtain⟨t',rfl⟩:=ry;exact ne_int (cm I q (congrArg not vg))
  |str j=>obtain⟨t',rfl⟩:=ry;exact abP (cm I q (by simp))
  |_=>exact absurd (show false=true from hs) cF
 |str i =>
  obtain⟨t,rfl⟩:=rx;cases y with
  |non=>cases ry;exact PySem.EqNone.ne_str_none (cm I q (by simp))
  |bl j=>cases ry;exact abQ (cm I q (by simp))
  |int j=>obtain⟨t',rfl⟩:=ry;exact abR (cm I q (by simp))
  |str j=>obtain⟨t',rfl⟩:=ry;exact ne_str (cm I q (congrArg not A0))
  |_=>exact absurd (show false=true from hs) cF
 |fV i =>
  obtain⟨t,rfl⟩:=rx;cases y with
  |fV j=>obtain⟨t',rfl⟩:=ry;exact PySem.W.ne_bytes (cm I q (congrArg not A1))
  |_=>exact absurd (show false=true from hs) cF
 |_=>cases y<;>exact absurd (show false=true from hs) cF
theorem o7:bT X (compareOp .Lt) (iE λi j=>.bl (decide (i<j))):=rL λ_ _ _ _ _ _ _ q=>lt_int q
theorem A2:bT X (compareOp .LtE) (iE λi j=>.bl (decide (i<=j))):=rL λ_ _ _ _ _ _ _ q=>le_int q
theorem rN:bT X (compareOp .Gt) (iE λi j=>.bl (decide (j<i))):=rL λ_ _ _ _ _ _ _ q=>gt_int q
theorem A3:bT X (compareOp .GtE) (iE λi j=>.bl (decide (j<=i))):=rL λ_ _ _ _ _ _ _ q=>ge_int q
theorem o8:bT X (compareOp .Is) (λx y H Q=>y=.non/\Q (.bl (decide (x=.non))) H):=by
 intro pins s σ H x y v u Q I rx ry h;obtain⟨rfl,q⟩:=h;cases ry;refine is_none_gen (cm I q ?_);cases x<;>first
  |(cases rx;rfl)
  |(obtain⟨t,rfl⟩:=rx;rfl)
theorem aZ(b:Expr){op:CmpOp}(h:op≠.In:=by decide)(h2:op≠.NotIn:=by decide):behindInMarks op b=false:=by
 have e1:(op==CmpOp.In)=false:=by cases op<;>first|rfl|exact absurd rfl h
 have e2:(op==CmpOp.NotIn)=false:=by cases op<;>first|rfl|exact absurd rfl h2
 cases b<;>simp[behindInMarks,e1,e2]
theorem LU{op:CmpOp}{r:R2}(ho:bT X (compareOp op) r)(ha:PE X a ta)(hb:PE X b tb)(hm:behindInMarks op b=false):PE X (.Compare a [op] [b] pos) (oZ r ta tb):=by
 intro pins s σ H Q I h;exact wpAny_Compare1 (vc ha hb I h λv u s2 x y H2 I2 rx ry q=>ho pins s2 σ H2 x y v u Q I2 rx ry q) hm
def vh(t:TE):TT:=λσ H Q=>t σ H λx H'=>∃k,x=.bl k/\Q k H'
theorem LV{op:CmpOp}{r:R2}(ho:bT X (compareOp op) r)(ha:PE X a ta)(hb:PE X b tb)(hm:behindInMarks op b=false):PT X (.Compare a [op] [b] pos) (vh (oZ r ta tb)):=by
 intro pins s σ H Q I h;refine IG (aE (ha pins s σ H _ I h) λv s1 ⟨x,H1,I1,r1,q1⟩=>aE (hb pins s1 σ H1 _ I1 q1) λu s2 ⟨y,H2,I2,r2,q2⟩ =>
  aE (ho pins s2 σ H2 x y v u _ I2 r1 r2 q2) λc s3 ⟨z,H3,I3,r3,k,e,q3⟩=>?_) hm
 subst e;cases r3;exact jP ⟨H3,I3,q3⟩
def A4(r r':R2)(ta tb tc:TE):TE:=λσ H Q=>ta σ H λx H1=>tb σ H1 λy H2=>r x y H2 λz H3=>∃k,z=.bl k /\
 (if k=true then tc σ H3 λw' H4=>r' y w' H4 Q else Q (.bl false) H3)
theorem LX{op op':CmpOp}{r r':R2}(ho:bT X (compareOp op) r)(ho':bT X (compareOp op') r')(ha:PE X a ta)(hb:PE X b tb)(hc:PE X c tc)
 (hm:lastMarks [op,op'] [b,c]=false:=by with_unfolding_all rfl):PT X (.Compare a [op,op'] [b,c] pos) (vh (A4 r r' ta tb tc)):=by
 intro pins s σ H Q I h;refine isTrue_chain (aE (ha pins s σ H _ I h) λv s1 ⟨x,H1,I1,r1,q1⟩=>test_link (aE (hb pins s1 σ H1 _ I1 q1) λu s2 ⟨y,H2,I2,r2,q2⟩ =>
  aE (ho pins s2 σ H2 x y v u _ I2 r1 r2 q2) λd s3 ⟨z,H3,I3,r3,k,e,q3⟩=>?_)) hm
 subst e;cases r3;refine jP ?_;cases k with
 |false =>
  obtain⟨k',e',q'⟩:=q3;cases e';exact ite_ff ⟨H3,I3,q'⟩
 |true =>
  refine ite_tt (test_last (aE (hc pins s3 σ H3 _ I3 q3) λw' s4 ⟨z',H4,I4,r4,q4⟩=>aE (ho' pins s4 σ H4 y z' u w' _ I4 r2 r4 q4) λd' s5 ⟨z2,H5,I5,r5,k2,e2,q5⟩=>?_));subst e2;cases r5;exact jP ⟨H5,I5,q5⟩
def vi(K:ak)(x:V)(H:Hp)(k:Bool):Prop :=
 match x with
 | .non=>k=false
 | .bl b=>k=b
 | .int i=>k=(i != 0)
 | .str y=>y.length<=sizeLine/\k=((y.length:Int) != 0)
 | .fV y=>y.size<=sizeLine/\k=((y.size:Int) != 0)
 | .ref p=>(∃xs,a6 K H p xs/\k=!xs.isEmpty)∨(∃xs,bq K H p xs/\k=!xs.isEmpty)∨∃kvs,H p=some (.dK kvs)/\k=!kvs.isEmpty
 |_=>False
theorem LY{κ:Type}{kvs:List (κ×V)}{vs:List (κ×Value)}(r:KV kvs vs):(!vs.isEmpty)=!kvs.isEmpty:=by
 cases r<;>rfl
theorem A5{xs:List V}{its:List Value}(r:Vals xs its):(!its.toArray.isEmpty)=!xs.isEmpty:=by
 cases r<;>simp
theorem kU:(sizeLine:Nat)<2^63:=by rw[zj];decide
theorem LZ:LN X (λx H Q=>∃k,vi X.K x H k/\Q k H):=by
 intro pins s σ H x v Q I rx h;obtain⟨k,e,q⟩:=h;have hl:=kU;have hs:sizeLine=16777216:=zj;cases x with
 |non =>
  cases rx;have e':k=false:=e;subst e';exact truthy_none ⟨H,I,q⟩
 |bl b =>
  cases rx;have e':k=b:=e;subst e';exact jP ⟨H,I,q⟩
 |int i =>
  obtain⟨t,rfl⟩:=rx;have e':k=(i != 0):=e;subst e';exact PySem.P.truthy_int ⟨H,I,q⟩
 |str y =>
  obtain⟨t,rfl⟩:=rx;obtain⟨hy,e'⟩:y.length<=sizeLine/\k=((y.length:Int) != 0):=e;subst e';exact PySem.P.truthy_str (by lia) ⟨H,I.tok _,q⟩
 |fV y =>
  obtain⟨t,rfl⟩:=rx;obtain⟨hy,e'⟩:y.size<=sizeLine/\k=((y.size:Int) != 0):=e;subst e';exact PySem.W.truthy_bytes (by lia) ⟨H,I.tok _,q⟩
 |ref p =>
  cases rx;have e':(∃xs,a6 X.K H p xs/\k=!xs.isEmpty)∨(∃xs,bq X.K H p xs/\k=!xs.isEmpty)∨∃kvs,H p=some (.dK kvs)/\k=!kvs.isEmpty:=e;rcases e' with⟨xs,hx,e'⟩|⟨xs,hx,e'⟩|⟨kvs,hx,e'⟩
  ·subst e';obtain⟨its,r,pl,hz⟩:=I.list hx;have hlen:=r.length;exact wpAny_truthy_list pl.isList (by simp only[b7];lia) ⟨H,I.tok _,by rw[A5 r];exact q⟩
  ·subst e';obtain⟨its,r,pl,hz⟩:=I.tuple hx;have hlen:=r.length;exact truthy_tuple pl (by simp only[b7];lia) ⟨H,I.tok _,by rw[A5 r];exact q⟩
  ·subst e';obtain⟨hz,hS,vs,r,m⟩:kvs.length<=sizeLine/\(p==sysModules)=false/\∃vs,KV kvs vs/\s.heap.DictOf (fe X.prog X.w) p vs:=I.hok p _ hx;have hlen:kvs.length=vs.length:=Paired.length r;exact wpAny_truthy_dict hS m (by lia) ⟨H,I.tok _,by rw[LY r];exact q⟩
 |_=>exact(show False from e).elim
theorem L0(ha:PE X a ta)(he:∀whole,isTrue a X.env whole=(do let v <-whole;standAt a.pos;holding [v] (truthy v))) :
 PT X a (λσ H Q=>ta σ H λx H'=>∃k,vi X.K x H' k/\Q k H'):=by
 intro pins s σ H Q I h;exact isTrue_plain (aE (ha pins s σ H _ I h) λv s1 vj=>by obtain⟨x,H1,I1,r1,q1⟩:=vj;exact LZ pins s1 σ H1 x v Q I1 r1 q1) (he _)
theorem kW:bT X (binaryOp .Add) (λx y H Q=>∃i j,x=.str i/\y=.str j/\i.length+j.length<=sizeLine/\Q (.str (i++j)) H):=by
 intro pins s σ H x y v u Q I rx ry h;obtain⟨i,j,rfl,rfl,hz,q⟩:=h;obtain⟨t,rfl⟩:=rx;obtain⟨t',rfl⟩:=ry;exact add_str (λt' tk=>⟨.str (i++j),H,I.tok _,⟨_,rfl⟩,q⟩) hz
theorem vals1{x:V}{us:List Value}(r:Vals [x] us):∃u,us=[u]/\RelV x u:=by
 cases r with
 |cons r1 r2=>cases r2;exact⟨_,rfl,r1⟩
theorem vals2{x y:V}{us:List Value}(r:Vals [x,y] us):∃u w',us=[u,w']/\RelV x u/\RelV y w':=by
 cases r with
 |cons r1 r2 =>
  cases r2 with
  |cons r3 r4=>cases r4;exact⟨_,_,rfl,r1,r3⟩
theorem L1(hc:X.calm=true):fI X (.builtin "max") (λxs H Q=>∃i j,xs=[.int i,.int j]/\Q (.int (if j>i then j else i)) H):=by
 intro pins s σ H xs us Q I r h;obtain⟨i,j,rfl,q⟩:=h;obtain⟨u,w',rfl,⟨t,rfl⟩,⟨t',rfl⟩⟩:=vals2 r;refine max_two_ints (I.ok.hd hc) λh' tk k=>⟨_,H,I.kept k,?_,q⟩;by_cases hj:j>i
 ·rw[if_pos hj,if_pos hj];exact⟨_,rfl⟩
 ·rw[if_neg hj,if_neg hj];exact⟨_,rfl⟩
end
structure vk(h:Heap)(x dx C:Addr)(mA:Str->Option Value):Prop where
 obj:h.get? x=some (zd C dx)
 ns:h.Ns1 dx mA
 ne:dx≠x
theorem L3{h:Heap}{dx:Addr}{mA:Str->Option Value}(n:h.Ns1 dx mA):∃od,h.get? dx=some od/\∀name,zl name od=some (mA name):=by
 obtain⟨o,es,ep,ho,hd,hk,_,hm⟩:=n;refine⟨o,ho,λname=>?_⟩;have e:=hm name;unfold nsFind findBy at e;rw[<-Array.find?_toList]at e;unfold zl;rw[hd];dsimp only
 split
 ·rename_i y q
  rw[q]at e;exact congrArg some e
 ·rename_i q
  rw[q]at e;have a:es.toList.any (·.refKey)=false:=by
   rw[IL];intro y hy;obtain⟨z,t,hkey⟩:=hk y (Array.mem_toList_iff.mp hy);simp[DictEntry.refKey,hkey]
  have a':¬es.toList.any (·.refKey)=true:=by rw[a];exact cF
  rw[if_neg a'];exact congrArg some e
theorem vk.look{h:Heap}{x dx C:Addr}{mA:Str->Option Value}(I:vk h x dx C mA):∃od,PySem.W.InstAt h x (zd C dx) C (some od)/\∀name,zl name od=some (mA name) :=
 let⟨od,ho,hl⟩:=L3 I.ns
 ⟨od,⟨I.obj,rfl,rfl,ho⟩,hl⟩
theorem fW.some_of{v:V}{o:Option Value}(r:fW (some v) o):∃u,o=some u/\RelV v u:=by
 cases o with
 |none=>exact(show False from r).elim
 |some u=>exact⟨u,rfl,r⟩
section
variable{P:Program}{w:World}{H H':Hp}{h h':Heap}{a C dx:Addr}{fs fs':List (Str×V)}
theorem L4(hok:bS P w H h)(e:H a=some (.ins C dx fs)):∃mA,vk h a dx C mA/\(∀f,fW (fs.lookup f) (mA f))/\IA mA (fs.map (·.1))/\fs.length<=1000/\H dx=some (.own a):=by
 obtain⟨d,z,ne,ob,mA,n,r,q⟩:=(show cB P w H h a (.ins C dx fs) from hok a _ e);exact⟨mA,⟨ob,n,ne⟩,r,q,z,d⟩
end
structure vm(K:ak)(C:Addr):Prop where
 pg:IM K C Str.empty=true
 hd:PySem.W.hasDictIn K C=true
 po:PySem.W.plainOver K C=true
 sa:qP K (.ref C) "__setattr__"=some (some (.builtin "object.__setattr__"))
theorem vm.get{K:ak}{C:Addr}(c:vm K C)(f:Str):IM K C f=true:=c.pg
section
variable{X:Cx}{pins:List (Addr×Obj)}{σ:St}{H:Hp}{s:Shared}{A:Around}{E:Value->Shared->Prop}{Q:Value->Shared->Prop}{c:Value}{b:Bool}
inductive fX(K:ak)(H:Hp):V->Value->Prop where
 |non:fX K H .non (.type "NoneType")
 |bl (x:Bool):fX K H (.bl x) (.type "bool")
 |int (i:Int):fX K H (.int i) (.type "int")
 |str (x:Str):fX K H (.str x) (.type "str")
 |flt (x:UInt64):fX K H (.flt x) (.type "float")
 |lst {a:Addr} {xs:List V} (e:H a=some (.lst xs)):fX K H (.ref a) (.type "list")
 |c6 {a:Addr} {o:Obj} {xs:List V} (e:H a=some (.c6 o (.lst xs))):fX K H (.ref a) (.type "list")
 |tup {a:Addr} {xs:List V} (e:H a=some (.tup xs)):fX K H (.ref a) (.type "tuple")
 |dK {a:Addr} {kvs:List (Key×V)} (e:H a=some (.dK kvs)):fX K H (.ref a) (.type "dict")
 |dT {a:Addr} {kvs:List (DK×V)} (e:H a=some (.dT kvs)):fX K H (.ref a) (.type "dict")
 |ins {a C dx:Addr} {fs:List (Str×V)} (e:H a=some (.ins C dx fs)) (cl:vm K C) (ha:qP K (.ref C) "__class__"=some (some (.builtin "object.__class__")))
  (hn:IP K (.builtin "object.__class__") "__get__"=some (some (.builtin "getset_descriptor.__get__"))) (htk:IQ K (.builtin "object.__class__")=some true)
  (hm:zm K C (.type "object")=some true):fX K H (.ref a) (.ref C)
theorem L5{x:V}{u t:Value}(I:Inv X pins σ H s)(rx:RelV x u)(ty:fX X.K H x t)(e:kI X.K t c=some b)(h:∀tk,Q (.bool b) {s with toks:=tk}) :
 wpAny (model X.prog X.w) A (call (.builtin "isinstance") [u,c]) Q E s:=by
 cases ty with
 |non=>cases (show u=Value.none from rx);exact gq PySem.W.kitx_none I.dI True.intro e (λz=>nomatch z) h
 |bl y=>cases (show u=Value.bool y from rx);exact gq PySem.W.kitx_bool I.dI True.intro e (λz=>nomatch z) h
 |int i=>obtain⟨t,q⟩:=(show ∃t,u=Value.int i t from rx);cases q;exact gq PySem.W.kitx_int I.dI True.intro e (λz=>nomatch z) h
 |str y=>obtain⟨t,q⟩:=(show ∃t,u=Value.str y t from rx);cases q;exact gq PySem.W.kitx_str I.dI True.intro e (λz=>nomatch z) h
 |flt y=>obtain⟨t,q⟩:=(show ∃t,u=Value.float y t from rx);cases q;exact gq PySem.W.kitx_float I.dI True.intro e (λz=>nomatch z) h
 |@lst a xs ea =>
  cases (show u=Value.ref a from rx);obtain⟨_,_,n,_,h1⟩:=(show cB X.prog X.w H s.heap a (.lst xs) from I.hok a _ ea);exact gq zo I.dI ⟨_,h1,rfl⟩ e (λz=>nomatch z) h
 |@c6 a ob xs ea =>
  cases (show u=Value.ref a from rx);obtain⟨_,_,_,n,_,h1⟩:=(show cB X.prog X.w H s.heap a (.c6 ob (.lst xs)) from I.hok a _ ea);exact gq zo I.dI ⟨_,h1,rfl⟩ e (λz=>nomatch z) h
 |@tup a xs ea =>
  cases (show u=Value.ref a from rx);obtain⟨_,_,_,p,_⟩:=(show cB X.prog X.w H s.heap a (.tup xs) from I.hok a _ ea);obtain⟨o,h1,h2,_⟩:=p;exact gq IS I.dI ⟨o,h1,h2⟩ e (λz=>nomatch z) h
 |@dK a kvs ea =>
  cases (show u=Value.ref a from rx);obtain⟨_,_,vs,_,p⟩:=(show cB X.prog X.w H s.heap a (.dK kvs) from I.hok a _ ea);obtain⟨o,es,ep,h1,h2,_⟩:=p;exact gq IT I.dI ⟨o,h1,h2.1⟩ e (λz=>nomatch z) h
 |@dT a kvs ea =>
  cases (show u=Value.ref a from rx);obtain⟨_,_,xs,_,o,es,ep,h1,h2,_⟩:=(show cB X.prog X.w H s.heap a (.dT kvs) from I.hok a _ ea);exact gq IT I.dI ⟨o,h1,h2.1⟩ e (λz=>nomatch z) h
 |@ins a C dx fs ea cl ha hn htk hm =>
  cases (show u=Value.ref a from rx);obtain⟨mA,O,_⟩:=L4 I.hok ea;obtain⟨od,J,_⟩:=O.look;exact gq (PySem.W.kitx_own (cl.get _) cl.hd ha hn htk hm) I.dI J e (λz=>nomatch z) h
end
structure cu(k:Nat)(A:Around):Prop where
 hd:A.handled=none
 dp:A.depth+3*k+5<recursionLimit
 un:A.units+16*k+200<cLine
theorem cu.mono{j k:Nat}{A:Around}(r:cu k A)(h:j<=k):cu j A:=⟨r.hd,by have:=r.dp;lia,by have:=r.un;lia⟩
theorem cu.deeper{k:Nat}{A:Around}(r:cu (k+1) A)(env:Env):cu k (A.deeper env) :=
 ⟨r.hd,by have:=r.dp;show A.depth+1+3*k+5<_;lia,by have:=r.un;show A.units+3+16*k+200<_;lia⟩
theorem cu.depth{k:Nat}{A:Around}(r:cu k A):A.depth<recursionLimit:=by have:=r.dp;lia
theorem cu.units{k:Nat}{A:Around}(r:cu k A):A.units+64<cLine:=by have:=r.un;lia
def L6:TA:=λ_ H Q=>Q [] H
def L7(ta:TE)(tr:TA):TA:=λσ H Q=>ta σ H λx H1=>tr σ H1 λxs H2=>Q (x::xs) H2
section
variable{X:Cx}{e:Expr}{es:List Expr}{te:TE}{t:TA}{pos:Pos}
theorem L8:PA X [] L6:=λ_ _ _ _ H Q I h=>zp ⟨[],H,I,.nil,h⟩
theorem L9(ha:PE X e te)(hr:PA X es t)(hs:starEach (e::es) X.env=(false,eval e X.env)::starEach es X.env:=by rfl):PA X (e::es) (L7 te t):=by
 intro pos pins s σ H Q I h;rw[hs];show wpAny _ _ (spliced ((false,eval e X.env)::backTo pos (starEach es X.env))) _ _ s;refine uo (aE (ha pins s σ H _ I h) λu s1 ⟨x,H1,I1,r1,q1⟩=>?_);exact aE (hr pos pins s1 σ H1 _ I1 q1) λus s2 o9=>by obtain⟨xs,H2,I2,r2,q2⟩:=o9;exact⟨x::xs,H2,I2,.cons r1 r2,q2⟩
def L_(t:TA):TE:=λσ H Q=>t σ H λxs H1=>xs.length<=sizeLine/\∀p,H1 p=none->Q (.ref p) (upd H1 p (.tup xs))
def L'(t:TA):TE:=λσ H Q=>t σ H λxs H1=>xs.length<=sizeLine/\∀p,H1 p=none->Q (.ref p) (upd H1 p (.lst xs))
theorem Ma{x1}(h:PA X es t):PE X (.Tuple es x1 pos) (L_ t):=by
 intro pins s σ H Q I hq;refine wpAny_Tuple_spliced (aE (h pos pins s σ H _ I hq) λus s1 ⟨xs,H1,I1,r,z,q⟩=>⟨by rw[<-r.length];exact z,?_⟩);have hf:H1 s1.heap.objs.size=none:=I1.hok.fresh (aX _);refine⟨.ref s1.heap.objs.size,upd H1 s1.heap.objs.size (.tup xs),I1.laid (t':=s1.toks) (λb u e=>bC _ e) (aX _) ?_,rfl,q _ hf⟩;exact⟨z,us,r,⟨_,dn _ rfl,rfl,_,rfl⟩,λo q=>by rw[dn _ rfl]at q;cases q;rfl⟩
theorem Mb(h:PA X es t):PE X (.List es pos) (L' t):=by
 intro pins s σ H Q I hq;refine wpAny_List_spliced (aE (h pos pins s σ H _ I hq) λus s1 ⟨xs,H1,I1,r,z,q⟩=>⟨by rw[<-r.length];exact z,?_⟩);have hf:H1 s1.heap.objs.size=none:=I1.hok.fresh (aX _);refine⟨.ref s1.heap.objs.size,upd H1 s1.heap.objs.size (.lst xs),I1.laid (t':=s1.toks) (λb u e=>bC _ e) (aX _) ?_,rfl,q _ hf⟩;exact⟨z,us,0,r,dn _ rfl⟩
end
abbrev Sp:=List V->Hp->VK->XK->Prop
abbrev fY:=List Env->Hp->Shared->XK->Value->Shared->Prop
structure rO(P:Program)(w:World)(K:ak)(mg:Str->Option Value)(base:Heap)(A:Around)(outer:List Env)(s:Shared)(H:Hp):Prop where
 frames:A.frames=some outer
 mod:Mod K mg base
 bs:∀b o,base.get? b=some o->s.heap.get? b=some o/\H b=none
 gC:base.objs.size<=s.heap.objs.size
 eO:s.heap.FunFrames base outer
 iz:∀b∈frs outer,H b=none
 hok:bS P w H s.heap
 bare:AllBare s.gens
def CE(outer:List Env)(P:Program)(w:World)(H:Hp)(s:Shared)(Q:VK)(u:Value)(s':Shared):Prop :=
 ∃v H',s'.os=s.os/\AllBare s'.gens/\Un (frs outer) [] H H' s.heap s'.heap/\bS P w H' s'.heap/\RelV v u/\Q v H'
def CR(CX:fY)(outer:List Env)(P:Program)(w:World)(H:Hp)(s:Shared)(Q:VK)(E:XK)(r:Result)(s':Shared):Prop :=
 match r with
 | .ok (.ret u)=>CE outer P w H s Q u s'
 | .ok _=>False
 | .error e=>CX outer H s E e s'
structure du(P:Program)(w:World)(K:ak)(mg:Str->Option Value)(base:Heap)(CX:fY)(k:Nat)(f:Addr)(fd:FuncData)(ps:List Str)(sp:Sp):Prop where
 len:∀vs H Q E,sp vs H Q E->vs.length=ps.length
 run:∀(A:Around) (outer:List Env) (s:Shared) (H:Hp) (args:Args) (us:List Value) (vs:List V) (Q:VK) (E:XK),cu k A->rO P w K mg base A outer s H->BindsTo s fd args (ps.zip us)->Vals vs us->sp vs H Q E ->
  codeAny (model P w) A (.call (.ref f) args) (CR CX outer P w H s Q E) s
theorem du.mono{P:Program}{w:World}{K:ak}{mg:Str->Option Value}{base:Heap}{CX:fY}{j k:Nat}{f:Addr}{fd:FuncData}{ps:List Str}{sp:Sp}(F:du P w K mg base CX j f fd ps sp)(h:j<=k) :
 du P w K mg base CX k f fd ps sp:=⟨F.len,λA outer s H args us vs Q E hr=>F.run A outer s H args us vs Q E (hr.mono h)⟩
theorem du.imp{P:Program}{w:World}{K:ak}{mg:Str->Option Value}{base:Heap}{CX:fY}{k:Nat}{f:Addr}{fd:FuncData}{ps:List Str}{sp fZ:Sp}(F:du P w K mg base CX k f fd ps sp)
 (h:∀vs H Q E,fZ vs H Q E->sp vs H Q E):du P w K mg base CX k f fd ps fZ :=
 ⟨λvs H Q E q=>F.len vs H Q E (h _ _ _ _ q),λA outer s H args us vs Q E hr he hb hv hs=>F.run A outer s H args us vs Q E hr he hb hv (h _ _ _ _ hs)⟩
section
variable{X:Cx}{pins:List (Addr×Obj)}{σ:St}{H:Hp}{s s':Shared}
theorem Inv.env0(I:Inv X pins σ H s):rO X.prog X.w X.K X.mg X.base X.A X.stack s H :=
 ⟨I.ok.frames,I.ok.mod,I.bs,bX I.ok.gC I.sz,I.stack,I.rm,I.hok,I.bare⟩
theorem Inv.after{Q:VK}{u:Value}(I:Inv X pins σ H s)(h:CE X.stack X.prog X.w H s Q u s'):EP X pins σ Q u s':=by
 obtain⟨v,H',os,bare,un,hok,r,q⟩:=h;obtain⟨hh,g,d,t,os'⟩:=s';obtain rfl:os'=s.os:=os;exact⟨v,H',I.call (h':=hh) (g':=g) (d':=d) (t':=t) (ch:=[]) un hok bare (λb z=>absurd z (by simp)),r,q⟩
end
def Binds(K:ak)(fd:FuncData)(ps:List Str)(ds:List Value):Prop :=
 ∀(s:Shared) (us:List Value),K.In s.heap->(us++ds).length=ps.length->BindsTo s fd ⟨us,[]⟩ (ps.zip (us++ds))
theorem Binds.all{K:ak}{fd:FuncData}{ps:List Str}(h:∀us:List Value,us.length=ps.length->bindArgs fd ⟨us,[]⟩=pure (ps.zip us)):Binds K fd ps []:=λs us _ hl=>by
 rw[l_]at hl ⊢;exact .of_eq (h us hl)
def Passes(CX:fY)(X:Cx)(E:XK):Prop:=∀(pins:List (Addr×Obj)) (σ:St) (H:Hp) (s:Shared) (e:Value) (s':Shared),Inv X pins σ H s->CX X.stack H s E e s'->X.xe e s'
structure bc(N P:List Str)(sc:Scope):Prop where
 kind:sc.kind=.function
 co:sc.isCoroutine=false
 gen:sc.isGenerator=false
 nd:N.Nodup
 pre:N.take P.length=P
 par:∀x∈P,sc.names.lookup x=some .local∨sc.names.lookup x=some .cell
 Mc:∀y∈sc.names,y.2≠.free
theorem A6{kindOf:Str->Option NameKind}{x:Str}:∀{binds:List (Str×Value)} {m:Str->Option Value},(∀v,(x,v)∉binds)->bindL kindOf binds m x=m x
 |[],_,_=>rfl
 |(n,v)::r,m,h=>by
  unfold bindL;rw[A6 λw hw=>h w (cg _ hw)]
  split
  ·have:x≠n:=by rintro rfl;exact h v bY
   simp[this]
  ·rfl
theorem A7{kindOf:Str->Option NameKind}{x:Str}:∀{binds:List (Str×Value)} {m:Str->Option Value},(∀v,(x,v)∉binds)->bindC kindOf binds m x=m x
 |[],_,_=>rfl
 |(n,v)::r,m,h=>by
  unfold bindC;rw[A7 λw hw=>h w (cg _ hw)]
  split
  ·rfl
  ·have:x≠n:=by rintro rfl;exact h v bY
   simp[this]
theorem A8{kindOf:Str->Option NameKind}{x:Str}{v:Value}:∀{P:List Str} {vs:List Value} {i:Nat} {m:Str->Option Value},P.Nodup->P[i]?=some x->vs[i]?=some v->kindOf x=some .local ->
 bindL kindOf (P.zip vs) m x=some v
 |[],_,_,_,_,h,_,_=>by simp at h
 |_::_,[],_,_,_,_,h,_=>by simp at h
 |p::P,w::vs,0,m,nd,h1,h2,hk=>by
  simp at h1 h2;subst h1;subst h2;show bindL kindOf ((p,w)::P.zip vs) m p=_;unfold bindL;rw[A6 λv hv=>(ik.mp nd).1 (zq hv).1,if_pos hk];simp
 |p::P,w::vs,i+1,m,nd,h1,h2,hk=>by
  show bindL kindOf ((p,w)::P.zip vs) m x=_;unfold bindL;exact A8 (i:=i) (ik.mp nd).2 (by simpa using h1) (by simpa using h2) hk
theorem A9{kindOf:Str->Option NameKind}{x:Str}{v:Value}:∀{P:List Str} {vs:List Value} {i:Nat} {m:Str->Option Value},P.Nodup->P[i]?=some x->vs[i]?=some v->kindOf x≠some .local ->
 bindC kindOf (P.zip vs) m x=some v
 |[],_,_,_,_,h,_,_=>by simp at h
 |_::_,[],_,_,_,_,h,_=>by simp at h
 |p::P,w::vs,0,m,nd,h1,h2,hk=>by
  simp at h1 h2;subst h1;subst h2;show bindC kindOf ((p,w)::P.zip vs) m p=_;unfold bindC;rw[A7 λv hv=>(ik.mp nd).1 (zq hv).1,if_neg hk];simp
 |p::P,w::vs,i+1,m,nd,h1,h2,hk=>by
  show bindC kindOf ((p,w)::P.zip vs) m x=_;unfold bindC;exact A9 (i:=i) (ik.mp nd).2 (by simpa using h1) (by simpa using h2) hk
def start(N:List Str)(vs:List V):St:=vs.map some++eG (N.length-vs.length) none
def cP(CX:fY)(P:Program)(w:World)(K:ak)(mg:Str->Option Value)(base:Heap)(N:List Str)(qual:Str)(scope:Scope)(f:Addr)(cd:Value)(A:Around)(outer:List Env)(s:Shared)(H:Hp)(E:XK):Cx where
 prog:=P
 w:=w
 K:=K
 mg:=mg
 base:=base
 A:=A.deeper (envOfC qual scope s.heap.objs.size f cd)
 N:=N
 s₀:=s
 H₀:=H
 env:=envOfC qual scope s.heap.objs.size f cd
 outer:=outer
 stack:=envOfC qual scope s.heap.objs.size f cd::outer
 ex:=[]
 calm:=true
 fn:=λ_=>true
 pn:=[]
 xe:=λe s'=>wpAny (model P w) (A.deeper (envOfC qual scope s.heap.objs.size f cd)) (leaving (envOfC qual scope s.heap.objs.size f cd) e) (λ_ s''=>CX outer H s E e s'') (λe' s''=>CX outer H s E e' s'') s'
theorem A_{sc:Scope}{n:Nat}{x:Str}(h:sc.names.lookup x=some .cell):∃c,(cellsFrom n sc.names []).lookup x=some c:=by
 have q:=uq sc.names n [] (.inl h);exact zr.mp q
theorem Md{CX:fY}{P:Program}{w:World}{K:ak}{mg:Str->Option Value}{base:Heap}{N ps:List Str}{qual:Str}{scope:Scope}{f:Addr}{cd:Value}{A:Around}{outer:List Env}{s s1:Shared}{H:Hp}{E:XK}{us:List Value}{vs:List V}
 (S:bc N ps scope) (hd:A.handled=none) (e0:rO P w K mg base A outer s H) (hl:vs.length=ps.length) (r:Vals vs us)
 (x:InCallC s s.heap.objs.size (bindL (envOfC qual scope s.heap.objs.size f cd).kindOf (ps.zip us) λ_=>none) (cellsFrom (s.heap.objs.size+1) scope.names []) (bindC (envOfC qual scope s.heap.objs.size f cd).kindOf (ps.zip us) λ_=>none) s1) :
 Inv (cP CX P w K mg base N qual scope f cd A outer s H E) [] (start N vs) H s1:=by
 have hpl:ps.length<=N.length:=by have:=congrArg mj S.pre;rw[dh]at this;lia
 obtain⟨h1,tk,rfl,hk⟩:=x.done;have o_:∀b:Addr,b∉(cP CX P w K mg base N qual scope f cd A outer s H E).ex:=λb z=>absurd (show b∈([]:List Addr) from z) (by simp);refine⟨⟨e0.mod,S.kind,rfl,rfl,aX _,λy z c h1 h2=>?_,λy hy=>?_,λy c _ h=>?_,λ_=>hd,Around.frames_deeper e0.frames,.inr ⟨rfl,rfl⟩,λb z=>absurd z (o_ b),e0.bs,e0.gC,λb _ _=>o_ b,λb z=>absurd z (o_ b),e0.eO,e0.iz⟩,
  rfl,e0.bare,Un.kept hk,⟨_,x.toInCall.ns,λi y v h1 h2 h3=>?_⟩,λy c h=>⟨_,x.cell y c h⟩,e0.hok.fresh (aX _),λy c h=>?_,λp hp=>absurd (show p∈([]:List (Addr×Obj)) from hp) (by simp),e0.hok.kept hk,?_⟩
 ·exact name_of_addr x.apart (ip h1) (ip h2)
 ·have hy:scope.names.lookup y=some .cell∨scope.names.lookup y=some .free:=hy;rcases hy with hy|hy
  ·exact A_ hy
  ·exact absurd rfl (S.Mc _ (ip hy))
 ·exact md (x.above y c (ip h))
 ·have hi:i<vs.length:=by
   unfold start at h2;by_cases hi:i<vs.length
   ·exact hi
   ·rw[qQ (by simpa using hi)]at h2;rw[IU]at h2
    split at h2<;>cases h2
  have ha:vs[i]?=some v:=by
   unfold start at h2;rw[kJ (by simpa using hi),aJ]at h2;cases e:vs[i]? with
   |none=>rw[e]at h2;cases h2
   |some a=>rw[e]at h2;cases h2;rfl
  obtain⟨u,hu,rv⟩:=r.get ha;have hp:ps[i]?=some y:=by
   rw[<-S.pre,ur (by lia)];exact h1
  have Ba:ps.Nodup:=by rw[<-S.pre];exact S.nd.sublist (zt _ _)
  refine⟨u,rv,?_⟩;rcases S.par y (cj hp) with k|k
  ·exact .inl ⟨k,A8 Ba hp hu k⟩
  ·obtain⟨c,e⟩:=A_ (n:=s.heap.objs.size+1) k;refine .inr ⟨.inl k,c,e,?_⟩;have q:=x.cell y c e;rw[A9 Ba hp hu (by show scope.names.lookup y≠_;rw[k];decide)]at q;exact q
 ·exact e0.hok.fresh (md (x.above y c (ip h)))
 ·unfold start;show _=N.length;rw[ba,aA,IV];lia
theorem vn{CX:fY}{P:Program}{w:World}{K:ak}{mg:Str->Option Value}{base:Heap}{k:Nat}{f:Addr}{name qual:Str}{params:Arguments}{body:List Stmt}{scope:Scope}{dV kV doc pm cdv ct oc:Value}{an od:Option Addr}
 {osl:Array (Option Value)} {N ps:List Str} {sp:Sp} (lk:K.lookup f=some ⟨oc,od,.func (br name qual params body scope dV kV doc pm an cdv ct),osl⟩) (hcd:bF K cdv qual=true) (S:bc N ps scope)
 (len:∀vs H Q E,sp vs H Q E->vs.length=ps.length)
 (hbody:∀(A:Around) (outer:List Env) (s:Shared) (H:Hp) (vs:List V) (Q:VK) (E:XK),cu k (A.deeper (envOfC qual scope s.heap.objs.size f cdv))->sp vs H Q E ->
  ∃t,dR (cP CX P w K mg base N qual scope f cdv A outer s H E) body t/\t {nx:=λ_ H'=>Q .non H',rt:=Q} (start N vs) H) :
 du P w K mg base CX (k+1) f (br name qual params body scope dV kV doc pm an cdv ct) ps sp:=by
 refine⟨len,λA outer s H args us vs Q E hr e0 hb r hsp=>?_⟩;have hl:=len _ _ _ _ hsp;have KX:K.In s.heap:=e0.mod.hJ.keeps λb o e=>(e0.bs b o e).1;have lim:s.heap.NoLimit:=e0.mod.nolimit.keeps λb o e=>(e0.bs b o e).1;have hkind:∀y∈ps.zip us,scope.names.lookup y.1=some .local∨(scope.names.lookup y.1=some .cell/\((cellsFrom (s.heap.objs.size+1) scope.names []).lookup y.1).isSome=true):=λz_13 hy=>by
  obtain⟨n,v⟩:=z_13;rcases S.par n (zq hy).1 with q|q
  ·exact .inl q
  ·exact .inr ⟨q,uq _ _ _ (.inl q)⟩
 refine codeAny_call_function hr.depth (KX _ _ lk) rfl S.co S.gen rfl (PySem.W.codeRec_of KX hcd) (hb _ _ _ _ ?_);refine wpAny_newFunctionEnv_cells S.kind hkind λenv he s1 x=>?_;subst he;refine⟨lim.keeps x.toInCall.keep,codeAny_func ?_⟩;obtain⟨t,ht,hq⟩:=hbody A outer s H vs Q E (hr.deeper _) hsp;have I:Inv (cP CX P w K mg base N qual scope f cdv A outer s H E) [] (start N vs) H s1:=Md S hr.hd e0 hl r x;refine eE (ht [] s1 (start N vs) H _ I hq) (λfl s' hs=>?_) λe s' hs=>hs;have fin:∀{σ':St} {H':Hp} {v:V} {u:Value},Inv (cP CX P w K mg base N qual scope f cdv A outer s H E) [] σ' H' s'->RelV v u->Q v H'->CE outer P w H s Q u s' :=
  λ{σ' H' v u} J rv q=>⟨v,H',J.os,J.bare,J.base,J.hok,rv,q⟩
 cases fl with
 |ret u =>
  obtain⟨v,σ',H',J,rv,q⟩:=hs;exact fin J rv q
 |next =>
  obtain⟨σ',H',J,q⟩:=hs;exact fin (v:=V.non) (u:=Value.none) J rfl q
 |brk =>
  obtain⟨_,_,_,q⟩:=hs;exact fS q
 |cont =>
  obtain⟨_,_,_,q⟩:=hs;exact fS q
section
variable{X:Cx}{x:Str}{p pos:Pos}{e:Expr}{es:List Expr}{t:TA}{id T:String}{r:List V->Hp->VK->Prop}
def vo(r:List V->Hp->VK->Prop)(t:TA):TE:=λσ H Q=>t σ H λvs H1=>r vs H1 Q
theorem Me(hc:fI X (.builtin id) r)(hg:Gl X x)(hm:X.mg x=none)(hv:bootBuiltins x=some (.builtin id))(ha:PA X (e::es) t)(hn:x≠"__name__":=by decide)(hdb:(x==("__debug__":Str))=false:=by decide)
 (he:starEach (e::es) X.env=(false,eval e X.env)::starEach es X.env:=by rfl) (hpl:(backTo pos (starEach es X.env)).any (·.1)=false:=by rfl):PE X (.Call (.Name x p) (e::es) [] pos) (vo r t):=by
 intro pins s σ H Q I h;refine zu (iA I hg hm hv ?_ hn hdb);exact PyProof.Rows.callWith_builtin1 (aE (ha pos pins s σ H _ I h) λus s1 z_14=>by obtain⟨vs,H1,I1,r1,q1⟩:=z_14;exact hc pins s1 σ H1 vs us Q I1 r1 q1) he hpl
theorem Mf(hc:fI X (.type T) r)(hg:Gl X x)(hm:X.mg x=none)(hv:bootBuiltins x=some (.type T))(ha:PA X (e::es) t)(hn:x≠"__name__":=by decide)(hdb:(x==("__debug__":Str))=false:=by decide)
 (he:starEach (e::es) X.env=(false,eval e X.env)::starEach es X.env:=by rfl) (hpl:(backTo pos (starEach es X.env)).any (·.1)=false:=by rfl):PE X (.Call (.Name x p) (e::es) [] pos) (vo r t):=by
 intro pins s σ H Q I h;refine zu (iA I hg hm hv ?_ hn hdb);exact kH (aE (ha pos pins s σ H _ I h) λus s1 z_15=>by obtain⟨vs,H1,I1,r1,q1⟩:=z_15;exact hc pins s1 σ H1 vs us Q I1 r1 q1) he hpl
end
end L2
namespace HT
open PySem PyProof.Rows
section
open PySem.SeqAt
open PySem.AutoSeq1 (wpAny_loadPart')
open PySem.MeetsSeq PySem.MeetsSeq2 PySem.MeetsSeq3
end
section
variable{prog:Program}{w:World}{A:Around}{E:Value->Shared->Prop}{s:Shared}
theorem Mg{t b:Addr}{vs ws:List Value}{Q:Value->Shared->Prop}(ht:IsTup s.heap t vs.toArray)(hb:IsTup s.heap b ws.toArray)(hv:vs≠[])
 (h1:ws=[]->Q (.ref t) s) (h2:ws≠[]->Q (.ref s.heap.objs.size) {s with heap:=s.heap.push {cls:=.type "tuple",data:=.seq (vs++ws).toArray}})
 (hsz:vs.length+ws.length<=sizeLine):wpAny (model prog w) A (binaryOp .Add (.ref t) (.ref b)) Q E s:=by
 obtain⟨⟨cls,dd,data,sl⟩,ho,hc,n,hd⟩:=id ht;obtain⟨⟨cls2,dd2,data2,sl2⟩,ho2,hc2,n2,hd2⟩:=id hb;simp only at hc hd hc2 hd2;subst hc hd hc2 hd2;have e:vs.toArray++ws.toArray=(vs++ws).toArray:=by simp
 by_cases hw:ws=[]
 ·exact zw ⟨_,ho,rfl⟩ ⟨_,ho2,rfl⟩ zy zA zB zC (zD _ _)
   (tuple_addW1 t b vs.toArray ws.toArray n n2 dd dd2 sl sl2 (by simpa using hv) (by simp[hw])) ⟨ho,ho2,h1 hw⟩
 ·refine zw ⟨_,ho,rfl⟩ ⟨_,ho2,rfl⟩ zy zA zB zC (zD _ _)
   (tuple_addW2 t b vs.toArray ws.toArray n n2 dd dd2 sl sl2 (by simpa using hv) (by simpa using hw) (by rw[b7,b7];exact hsz)) ⟨ho,ho2,?_⟩
  rw[e];exact h2 hw
def aI(n d:Nat):Option Int->Nat
 |none=>d
 |some v=>if v<0 then(v+(n:Int)).toNat else min v.toNat n
theorem rP(n d:Nat):aI n d none=d:=rfl
theorem rQ(n d k:Nat):aI n d (some (k:Int))=min k n:=by
 show(if(k:Int)<0 then((k:Int)+(n:Int)).toNat else min (k:Int).toNat n)=min k n;rw[if_neg (by lia),fT]
theorem vq(n d:Nat)(hd:d<=n)(o:Option Int):aI n d o<=n:=by
 cases o with
 |none=>exact hd
 |some v =>
  show(if v<0 then(v+(n:Int)).toNat else min v.toNat n)<=n;by_cases hv:v<0
  ·rw[if_pos hv];lia
  ·rw[if_neg hv];exact Nat.min_le_right _ _
theorem Bb(v:Int)(n d:Nat):(if v<0 then max (v+(n:Int)) 0 else min v (n:Int))=((aI n d (some v):Nat):Int):=by
 show(if v<0 then max (v+(n:Int)) 0 else min v (n:Int))=(((if v<0 then(v+(n:Int)).toNat else min v.toNat n):Nat):Int);by_cases hv:v<0
 ·simp only[if_pos hv];lia
 ·simp only[if_neg hv];lia
theorem Mh(lo hi:Option Int)(n:Nat):zE lo hi 1 (n:Int)=(((aI n 0 lo:Nat):Int),((aI n n hi:Nat):Int)):=by
 have h1:¬((1:Int)<0):=by lia
 unfold zE;simp only[h1,if_false];refine Prod.ext ?_ ?_
 ·cases lo with
  |none=>rfl
  |some v=>exact Bb v n 0
 ·cases hi with
  |none=>rfl
  |some v=>exact Bb v n n
theorem Mi(i j:Nat):uu (i:Int) (j:Int) 1=j-i:=by
 unfold uu;have h1:(1:Int)>0:=by lia
 simp only[h1,if_true,Int.ediv_one]
 split<;>lia
theorem Bc{v:Value}{o:Option Int}{Q:Option Int->Shared->Prop}(p:IsPart v o)(h:Q o s):wpAny (model prog w) A (abS v) Q E s:=by
 cases p with
 |none=>exact slicePart_none h
 |int i t=>exact slicePart_int h
theorem Be{sl:Addr}{vl vu:Value}{lo hi:Option Int}{n:Nat}{Q:Int×Int×Nat->Shared->Prop}(hs:s.heap.IsSliceOf sl vl vu .none)(pl:IsPart vl lo)(pu:IsPart vu hi)
 (h:Q (((aI n 0 lo:Nat):Int),1,aI n n hi-aI n 0 lo) s):wpAny (model prog w) A (IW (.ref sl) (pure (n:Int))) Q E s:=by
 obtain⟨os,hos,hcs,hds⟩:=id hs;unfold IW abT;refine aj (aj (di hos hds (x:=vl) rfl (aj (di hos hds (x:=vu) rfl (aj (di hos hds (x:=.none) rfl (aG ?_)))))));refine aj (slicePart_none ?_);show wpAny _ _ (if((1:Int)==0)=true then _ else _) _ _ s;rw[if_neg (by decide)];refine aj (Bc pl (aj (Bc pu (aj (aG ?_)))));show wpAny _ _ (match zE lo hi 1 (n:Int) with|(lo,hi)=>pure (lo,(1:Int),uu lo hi 1)) _ _ s;rw[Mh lo hi n];show wpAny _ _ (pure (((aI n 0 lo:Nat):Int),(1:Int),uu ((aI n 0 lo:Nat):Int) ((aI n n hi:Nat):Int) 1)) _ _ s;rw[Mi];exact aG h
theorem Mj(xs:Array Value)(i k:Nat):((aW k).filterMap λ(m:Nat)=>xs[((i:Int)+(m:Int)*1).toNat]?).toArray=((xs.toList.drop i).take k).toArray:=by
 have e:(λ(m:Nat)=>xs[((i:Int)+(m:Int)*1).toNat]?)=λm=>xs[i+m]?:=by
  funext m;have:((i:Int)+(m:Int)*1).toNat=i+m:=by lia
  rw[this]
 rw[e];have:=pick_run xs i k;rw[List.filterMap_map]at this;have e2:((λx=>xs[x]?) ∘ λx=>i+x)=λm=>xs[i+m]?:=rfl;rw[e2]at this;rw[this]
theorem Mk{t sl:Addr}{items:Array Value}{vl vu:Value}{lo hi:Option Int}{Q:Value->Shared->Prop}(ht:IsTup s.heap t items)(hs:s.heap.IsSliceOf sl vl vu .none)(pl:IsPart vl lo)(pu:IsPart vu hi)
 (hw:¬(aI items.size 0 lo=0/\aI items.size items.size hi=items.size))
 (h:Q (.ref s.heap.objs.size) {s with heap:=s.heap.push {cls:=.type "tuple",data:=.seq ((items.toList.drop (aI items.size 0 lo)).take (aI items.size items.size hi-aI items.size 0 lo)).toArray}})
 (hsz:items.size<=sizeLine):wpAny (model prog w) A (getItem (.ref t) (.ref sl)) Q E s:=by
 have rR:sizeOk (.seq ((items.toList.drop (aI items.size 0 lo)).take (aI items.size items.size hi-aI items.size 0 lo)).toArray):=by
  show((items.toList.drop (aI items.size 0 lo)).take (aI items.size items.size hi-aI items.size 0 lo)).toArray.size<=sizeLine;rw[b7,dh,fc,IH];lia
 have hj:aI items.size items.size hi<=items.size:=vq _ _ (aX _) hi;obtain⟨os,hos,hcs,hds⟩:=id hs;have hTs:s.TypeIs (.ref sl) "slice":=⟨os,hos,hcs⟩;unfold getItem
 try with_reducible refine mf ?_
 first|refine aj (aG ?_)|skip
 refine aj (IX ht.typeIs (by decide) ?_);refine aj (jQ (name:=iq "__getitem__") ht.typeIs mo
  (i9 mo ht.typeIs IY ?_ (IZ _ _)))
 show wpAny _ _ (zb (.ref t) >>= _) _ _ s;refine aj (tupleItemsOf_ ht ?_);refine aj (qR hTs ?_);rw[if_pos (by decide)];refine aj (Be hs pl pu ?_);have hno:¬((((aI items.size 0 lo:Nat):Int)==0&&(1:Int)==1&&(aI items.size items.size hi-aI items.size 0 lo)==items.size)=true):=by
  intro q;rw[fE,fE]at q;have q1:((aI items.size 0 lo:Nat):Int)=0:=eq_of_beq q.1.1;have q2:aI items.size items.size hi-aI items.size 0 lo=items.size:=eq_of_beq q.2;exact hw ⟨by lia,by lia⟩
 show wpAny _ _ (if(((aI items.size 0 lo:Nat):Int)==0&&(1:Int)==1&&(aI items.size items.size hi-aI items.size 0 lo)==items.size)=true then _ else _) _ _ s;rw[if_neg hno,Mj]
 first
  |exact aj (m:=uv _) (kK (aG ⟨_,rfl,aG h⟩) rR)
  |exact aj (m:=uv _) (kK (aj (aG (aG ⟨_,rfl,aG h⟩))) rR)
  |exact aj (aj (m:=uv _) (kK (aG (aG ⟨_,rfl,aG h⟩)) rR))
  |exact aj (aj (m:=uv _) (kK (aG ⟨_,rfl,aG h⟩) rR))
end
end HT
namespace L2
open PySem PySem.Spec PyProof.Rows
abbrev TO:=St->Hp->(Option Int->Hp->Prop)->Prop
def PO(X:Cx)(e:Option Expr)(t:TO):Prop :=
 ∀(pins:List (Addr×Obj)) (s:Shared) (σ:St) (H:Hp) (Q:Option Int->Hp->Prop),Inv X pins σ H s->t σ H Q ->
  wpAny (model X.prog X.w) X.A (evalPart e X.env) (λu s'=>∃o H',Inv X pins σ H' s'/\IsPart u o/\Q o H') X.xe s
def Ml:TO:=λ_ H Q=>Q none H
def Mm(t:TE):TO:=λσ H Q=>t σ H λx H1=>∃i,x=.int i/\Q (some i) H1
section
variable{X:Cx}{e:Expr}{te:TE}{lo hi:Option Expr}{tl th:TO}{pos p2:Pos}
theorem Mn:PO X none Ml:=by
 intro pins s σ H Q I h;rw[evalPart_none];exact aG ⟨none,H,I,.none,h⟩
theorem Mo(h:PE X e te):PO X (some e) (Mm te):=by
 intro pins s σ H Q I hw;rw[evalPart_some];refine aE (h pins s σ H _ I hw) λu s1 ⟨x,H1,I1,r1,q1⟩=>?_;obtain⟨i,rfl,q⟩:=q1;obtain⟨t,rfl⟩:=r1;exact⟨some i,H1,I1,.int i t,q⟩
def mz(X:Cx)(r:V->Option Int->Option Int->Hp->VK->Prop):Prop :=
 ∀(pins:List (Addr×Obj)) (s:Shared) (σ:St) (H:Hp) (x:V) (v vl vu:Value) (lo hi:Option Int) (sl:Addr) (Q:VK),Inv X pins σ H s->RelV x v->s.heap.IsSliceOf sl vl vu .none->IsPart vl lo->IsPart vu hi->r x lo hi H Q ->
  ∃T id,typeLookup (.type T) "__getitem__"=pure (some (.builtin id))/\s.TypeIs v T/\wpAny (model X.prog X.w) X.A (getItem v (.ref sl)) (EP X pins σ Q) X.xe s
def Mp(r:V->Option Int->Option Int->Hp->VK->Prop)(te:TE)(tl th:TO):TE:=λσ H Q=>te σ H λx H1=>tl σ H1 λl H2=>th σ H2 λu H3=>r x l u H3 Q
theorem Mq{r:V->Option Int->Option Int->Hp->VK->Prop}(hr:mz X r)(he:PE X e te)(hl:PO X lo tl)(hu:PO X hi th):PE X (.Subscript e (.Slice lo hi none p2) pos) (Mp r te tl th):=by
 intro pins s σ H Q I h;refine zF (aE (he pins s σ H _ I h) λv s1 ⟨x,H1,I1,r1,q1⟩=>?_);refine wpAny_Slice (aE (hl pins s1 σ H1 _ I1 q1) λvl s2 ⟨l,H2,I2,pl,q2⟩=>aE (hu pins s2 σ H2 _ I2 q2) λvu s3 ⟨u,H3,I3,pu,q3⟩=>?_);rw[evalPart_none];refine aG ?_;have I4:Inv X pins σ H3 {s3 with heap:=s3.heap.push {cls:=.type "slice",data:=.fields #[vl,vu,.none]}}:=I3.kept (t':=s3.toks) λb ob q=>bC _ q;obtain⟨T,id,hT,ht,hg⟩:=hr pins {s3 with heap:=s3.heap.push {cls:=.type "slice",data:=.fields #[vl,vu,.none]}} σ H3 x v vl vu l u s3.heap.objs.size Q I4 r1 (abU ..) pl pu q3;show wpAny (model X.prog X.w) X.A (subscriptTail e (.Slice lo hi none p2) v (.ref s3.heap.objs.size)) (EP X pins σ Q) X.xe {s3 with heap:=s3.heap.push {cls:=.type "slice",data:=.fields #[vl,vu,.none]}};exact tail_any (ops:=[.ref s3.heap.objs.size,v]) ht hT hg (by with_unfolding_all rfl)
def jm(xs:List V)(lo hi:Option Int):List V:=(xs.drop (HT.aI xs.length 0 lo)).take (HT.aI xs.length xs.length hi-HT.aI xs.length 0 lo)
theorem Bf(xs:List V)(lo hi:Option Int):(jm xs lo hi).length<=xs.length:=by
 unfold jm;rw[dh,fc];lia
def Mr(K:ak):V->Option Int->Option Int->Hp->VK->Prop:=λx lo hi H Q=>∃a xs,x=.ref a/\bq K H a xs /\
 ¬(HT.aI xs.length 0 lo=0/\HT.aI xs.length xs.length hi=xs.length)/\∀p,H p=none->Q (.ref p) (upd H p (.tup (jm xs lo hi)))
theorem Ms:mz X (Mr X.K):=by
 intro pins s σ H x v vl vu lo hi sl Q I rx hs pl pu h;obtain⟨a,xs,rfl,hx,hw,q⟩:=h;cases rx;obtain⟨its,r,ht,hz⟩:=I.tuple hx;have hlen:its.toArray.size=xs.length:=by rw[b7];exact r.length.symm
 refine⟨"tuple",_,mo.lookup,ht.typeIs,?_⟩;refine HT.Mk ht hs pl pu (by rw[hlen];exact hw) ?_ (by rw[hlen];exact hz);rw[hlen];refine⟨.ref s.heap.objs.size,_,I.laid (t':=s.toks) (o:=.tup (jm xs lo hi)) (λb ob q=>bC _ q) (aX _) ?_,rfl,q _ (I.hok.fresh (aX _))⟩;exact⟨bX (Bf xs lo hi) hz,_,(r.drop (HT.aI xs.length 0 lo)).take (HT.aI xs.length xs.length hi-HT.aI xs.length 0 lo),zG _ _,λo q=>by rw[dn _ rfl]at q;cases q;rfl⟩
def Bg(K:ak):R2:=λx y H Q=>∃a b xs ys,x=.ref a/\y=.ref b/\bq K H a xs/\bq K H b ys/\xs≠[]/\xs.length+ys.length<=sizeLine /\
 (ys=[]->Q (.ref a) H)/\(ys≠[]->∀p,H p=none->Q (.ref p) (upd H p (.tup (xs++ys))))
theorem Vals.rS{xs:List V}{us:List Value}(r:Vals xs us):us=[]↔xs=[]:=by
 cases r with
 |nil=>simp
 |cons _ _=>simp
theorem vv:bT X (binaryOp .Add) (Bg X.K):=by
 intro pins s σ H x y v u Q I rx ry h;obtain⟨a,b,xs,ys,rfl,rfl,ha,hb,hx,hz,q1,q2⟩:=h;cases rx;cases ry;obtain⟨its,r1,p1,_⟩:=I.tuple ha;obtain⟨its2,r2,p2,_⟩:=I.tuple hb;refine HT.Mg p1 p2 (λz=>hx (r1.rS.mp z)) (λz=>⟨.ref a,H,I,rfl,q1 (r2.rS.mp z)⟩) (λz=>?_) (by rw[<-r1.length,<-r2.length];exact hz);refine⟨.ref s.heap.objs.size,_,I.laid (t':=s.toks) (o:=.tup (xs++ys)) (λb ob q=>bC _ q) (aX _) ?_,rfl,q2 (λw=>z (r2.rS.mpr w)) _ (I.hok.fresh (aX _))⟩;exact⟨by rw[ba];exact hz,_,r1.append r2,zG _ _,λo q=>by rw[dn _ rfl]at q;cases q;rfl⟩
end
def eR(n:Nat)(i:Int):Option Nat:=if 0<=i then(if i<n then some i.toNat else none) else if -(n:Int)<=i then some (i+n).toNat else none
def b5{α:Type}(xs:List α)(i:Int):Option α:=(eR xs.length i).bind λj=>xs[j]?
theorem Bh{n:Nat}{i:Int}{j:Nat}(h:eR n i=some j):seqIndex? i n=some j/\j<n/\-(n:Int)<=i/\i<n:=by
 unfold eR at h;by_cases h0:0<=i
 ·rw[if_pos h0]at h;by_cases h1:i<n
  ·rw[if_pos h1]at h;have e:i.toNat=j:=cS h;exact⟨by rw[zI h0 h1,e],by lia,by lia,h1⟩
  ·rw[if_neg h1]at h;cases h
 ·rw[if_neg h0]at h;by_cases h1:-(n:Int)<=i
  ·rw[if_pos h1]at h;have e:(i+n).toNat=j:=cS h;exact⟨by rw[zJ (by lia) h1,e],by lia,h1,by lia⟩
  ·rw[if_neg h1]at h;cases h
theorem vw{α:Type}{xs:List α}{i:Int}{v:α}(h:b5 xs i=some v):∃j,seqIndex? i xs.length=some j/\xs[j]?=some v/\j<xs.length/\-(xs.length:Int)<=i/\i<xs.length:=by
 unfold b5 at h;cases e:eR xs.length i with
 |none=>rw[e]at h;cases h
 |some j =>
  rw[e]at h;obtain⟨h1,h2,h3,h4⟩:=Bh e;exact⟨j,h1,h,h2,h3,h4⟩
theorem iF{α:Type}{xs:List α}{j:Nat}{v:α}(h:xs[j]?=some v):b5 xs (j:Int)=some v:=by
 have hj:j<xs.length:=(bH.mp h).1;have e:eR xs.length (j:Int)=some j:=by
  unfold eR;rw[if_pos (by lia),if_pos (by lia)];simp
 unfold b5;rw[e];exact h
theorem Mu{α:Type}(xs:List α)(v:α):b5 (xs++[v]) (-1)=some v:=by
 have hl:(xs++[v]).length=xs.length+1:=by simp
 have e:eR (xs++[v]).length (-1)=some xs.length:=by
  unfold eR;rw[hl,if_neg (by decide),if_pos (by lia)];congr 1;lia
 unfold b5;rw[e];show(xs++[v])[xs.length]?=some v;simp
def Bi(b:Expr):Prop:=∀o i,subscripted b false o i=operate [o,i] (getItem o i)
def pb(X:Cx)(r:R2):Prop :=
 ∀(value slice:Expr) (pins:List (Addr×Obj)) (s:Shared) (σ:St) (H:Hp) (x y:V) (v u:Value) (Q:VK),Inv X pins σ H s->RelV x v->RelV y u->r x y H Q ->
  subscripted slice false v u=operate [v,u] (getItem v u)->wpAny (model X.prog X.w) X.A (subscriptTail value slice v u) (EP X pins σ Q) X.xe s
def rT(X:Cx)(id:String)(r:V->List V->Hp->VK->Prop):Prop :=
 ∀(pins:List (Addr×Obj)) (s:Shared) (σ:St) (H:Hp) (x:V) (xs:List V) (v:Value) (us:List Value) (Q:VK),Inv X pins σ H s->RelV x v->Vals xs us->r x xs H Q ->
  wpAny (model X.prog X.w) X.A (call (.builtin id) (v::us)) (EP X pins σ Q) X.xe s
section
variable{X:Cx}{a b:Expr}{ta tb:TE}{pos:Pos}
theorem Mv{r:R2}(hr:pb X r)(ha:PE X a ta)(hb:PE X b tb)(hs:Bi b):PE X (.Subscript a b pos) (oZ r ta tb):=by
 intro pins s σ H Q I h;exact zF (vc ha hb I h λv u s2 x y H2 I2 rx ry q=>hr a b pins s2 σ H2 x y v u Q I2 rx ry q (hs _ _))
def Bj(K:ak):R2:=λx y H Q=>∃p xs i v,x=.ref p/\y=.int i/\a6 K H p xs/\b5 xs i=some v/\Q v H
def Bk(K:ak):R2:=λx y H Q=>∃p xs i v,x=.ref p/\y=.int i/\bq K H p xs/\b5 xs i=some v/\Q v H
def Bl:R2:=λx y H Q=>∃z i c,x=.str z/\y=.int i/\z.length<=sizeLine/\b5 z.cps.toList i=some c/\Q (.str ⟨#[c]⟩) H
theorem fg:pb X (Bj X.K):=by
 intro value slice pins s σ H x y v u Q I rx ry h hs;obtain⟨p,xs,i,z,rfl,rfl,hq,he,q⟩:=h;cases rx;obtain⟨t,rfl⟩:=ry;obtain⟨its,r,pl,hz⟩:=I.list hq;obtain⟨j,h1,h2,h3,h4,h5⟩:=vw he;obtain⟨w,ew,fJ⟩:=r.get h2;have hl:=r.length;have hn:=kU;have fin:EP X pins σ Q w s:=⟨z,H,I,fJ,q⟩;by_cases h0:0<=i
 ·have hj:i.toNat=j:=by
   rw[zI h0 h5]at h1;exact cS h1
  exact item_listR pl.isList h0 (by lia) (by rw[hj];simpa using ew) fin hs
 ·have hj:(i+(its.toArray.size:Int)).toNat=j:=by
   rw[zJ (by lia) h4]at h1;rw[b7,<-hl];exact cS h1
  exact I0 (x:=w) pl.isList.typeIs I_.lookup
   (wpAny_getItem_list_neg (Q:=λr s'=>r=w/\EP X pins σ Q r s') pl.isList (by lia) (by rw[b7]<;>lia) (by lia) (by rw[hj];simpa using ew) ⟨rfl,fin⟩) hs
theorem aC:pb X (Bk X.K):=by
 intro value slice pins s σ H x y v u Q I rx ry h hs;obtain⟨p,xs,i,z,rfl,rfl,hq,he,q⟩:=h;cases rx;obtain⟨t,rfl⟩:=ry;obtain⟨its,r,pl,hz⟩:=I.tuple hq;obtain⟨j,h1,h2,h3,h4,h5⟩:=vw he;obtain⟨w,ew,fJ⟩:=r.get h2;have hl:=r.length;have hn:=kU;have fin:EP X pins σ Q w s:=⟨z,H,I,fJ,q⟩;exact I0 (x:=w) pl.typeIs mo.lookup
  (getItem_tuple (j:=j) (Q:=λr s'=>r=w/\EP X pins σ Q r s') pl (by lia) (by lia) (by rw[b7,<-hl];exact h1) (by simpa using ew) ⟨rfl,fin⟩) hs
theorem Bm:pb X Bl:=by
 intro value slice pins s σ H x y v u Q I rx ry h hs;obtain⟨z,i,c,rfl,rfl,hz,he,q⟩:=h;obtain⟨t,rfl⟩:=rx;obtain⟨t',rfl⟩:=ry;obtain⟨j,h1,h2,h3,h4,h5⟩:=vw he;have hl:z.cps.toList.length=z.length:=by simp[uw]
 rw[hl]at h1 h4 h5;have hn:=kU;exact tail_any (zK s z t) slot_str_getitem.lookup (getItem_str (c:=c) (by
  have e1:decide (i < -(2^63:Int))=false:=decide_eq_false (by lia);have e2:decide (i>=2^63)=false:=decide_eq_false (by lia);rw[e1,e2,Ja]) (by rw[h1];simpa using h2) ⟨.str ⟨#[c]⟩,H,I.tok _,⟨_,rfl⟩,q⟩) hs
theorem Mw(its:List Value)(n j:Nat)(u:Value):eI (·.setIfInBounds j u) {cls:=.type "list",data:=.seq its.toArray n}={cls:=.type "list",data:=.seq (its.set j u).toArray n}:=by
 simp[eI]
theorem Inv.lst{pins:List (Addr×Obj)}{σ:St}{H:Hp}{s:Shared}{p:Addr}{xs:List V}(I:Inv X pins σ H s)(h:H p=some (.lst xs)) :
 ∃(its:List Value) (n:Nat),Vals xs its/\s.heap.get? p=some {cls:=.type "list",data:=.seq its.toArray n}/\xs.length<=sizeLine:=by
 obtain⟨z,its,n,r,e⟩:=I.hok p _ h;exact⟨its,n,r,e,z⟩
theorem Inv.Mx{pins:List (Addr×Obj)}{σ:St}{H:Hp}{s:Shared}{p:Addr}{xs ys:List V}{its its':List Value}{n n':Nat}{f:Obj->Obj}(I:Inv X pins σ H s)(h:H p=some (.lst xs))
 (ho:s.heap.get? p=some {cls:=.type "list",data:=.seq its.toArray n}) (hf:f {cls:=.type "list",data:=.seq its.toArray n}={cls:=.type "list",data:=.seq its'.toArray n'}) (r:Vals ys its') (hz:ys.length<=sizeLine) (t:Nat) :
 Inv X pins σ (upd H p (.lst ys)) {s with heap:=s.heap.update p f,toks:=t}:=by
 have e:(s.heap.update p f).get? p=some {cls:=.type "list",data:=.seq its'.toArray n'}:=by
  rw[qS f ho (by rw[hf]<;>rfl),hf]
 refine I.write (x:=p) (e:=p) (by rw[h];trivial) (.inl rfl) (λb u hb q=>(oA _ _ (cG hb)).trans q) ⟨_,e⟩ ?_;exact⟨hz,its',n',r,e⟩
def My:V->V->V->Hp->(Hp->Prop)->Prop:=λo i v H Q=>∃p xs k j,o=.ref p/\i=.int k/\H p=some (.lst xs)/\eR xs.length k=some j/\Q (upd H p (.lst (xs.set j v)))
theorem set_list:AM X My:=by
 intro pins s σ H o i v ov iv u Q I ro ri rv h;obtain⟨p,xs,k,j,rfl,rfl,hp,hj,q⟩:=h;cases ro;obtain⟨t,rfl⟩:=ri;obtain⟨its,n,r,ho,hz⟩:=I.lst hp;obtain⟨h1,h2,h3,h4⟩:=Bh hj;have hl:=r.length;have hn:=kU;have I':Inv X pins σ (upd H p (.lst (xs.set j v))) {s with heap:=s.heap.update p (eI (·.setIfInBounds j u))} :=
  I.Mx hp ho (Mw its n j u) (r.set rv j) (by rw[List.length_set];exact hz) s.toks
 by_cases h0:0<=k
 ·have hk:k.toNat=j:=by
   rw[zI h0 h4]at h1;exact cS h1
  exact PySem.W.ki_setAt ho h0 (by lia) (by rw[b7,<-hl];exact h4) (by rw[hk];exact⟨_,I',q⟩)
 ·have hk:(k+(its.toArray.size:Int)).toNat=j:=by
   rw[zJ (by lia) h3]at h1;rw[b7,<-hl];exact cS h1
  exact PySem.W.ki_setBack ho (by lia) (by rw[b7,<-hl];exact h3) (by lia) (by rw[hk];exact⟨_,I',q⟩)
theorem Mz(lo hi:Option Int)(n:Nat):(sliceBounds lo hi none n).1=((HT.aI n 0 lo:Nat):Int)/\(sliceBounds lo hi none n).2.1=((HT.aI n n hi:Nat):Int)/\(sliceBounds lo hi none n).2.2=1:=by
 refine⟨?_,?_,rfl⟩
 ·cases lo with
  |none=>simp[sliceBounds,HT.aI]
  |some i =>
   simp only[sliceBounds,HT.aI,Jb,show(1:Int)>0 by decide,if_true];by_cases h:i<0
   ·simp only[h,if_true]<;>lia
   ·simp only[h,if_false]<;>lia
 ·cases hi with
  |none=>simp[sliceBounds,HT.aI]
  |some i =>
   simp only[sliceBounds,HT.aI,Jb,show(1:Int)>0 by decide,if_true];by_cases h:i<0
   ·simp only[h,if_true]<;>lia
   ·simp only[h,if_false]<;>lia
theorem MA(its:List Value)(lo hi:Option Int):slicePick its.toArray lo hi none=((its.drop (HT.aI its.length 0 lo)).take (HT.aI its.length its.length hi-HT.aI its.length 0 lo)).toArray:=by
 obtain⟨h1,h2,h3⟩:=Mz lo hi its.toArray.size;unfold slicePick;rw[h1,h2,h3];simp only[sliceRange_one,pick_run,b7]<;>rfl
def Bn(K:ak):V->Option Int->Option Int->Hp->VK->Prop:=λx lo hi H Q=>∃a xs,x=.ref a/\a6 K H a xs/\∀p,H p=none->Q (.ref p) (upd H p (.lst (jm xs lo hi)))
theorem mB:mz X (Bn X.K):=by
 intro pins s σ H x v vl vu lo hi sl Q I rx hs pl pu h;obtain⟨a,xs,rfl,hx,q⟩:=h;cases rx;obtain⟨its,r,ht,hz⟩:=I.list hx;have hlen:=r.length;refine⟨"list",_,I_.lookup,ht.isList.typeIs,?_⟩;refine wpAny_getItem_list_slice ht.isList hs pl pu .none (by simp) ?_ (by rw[b7]<;>lia);rw[MA,<-hlen];refine⟨.ref s.heap.objs.size,_,I.laid (t':=s.toks) (o:=.lst (jm xs lo hi)) (λb ob q=>bC _ q) (aX _) ?_,rfl,q _ (I.hok.fresh (aX _))⟩;exact⟨bX (Bf xs lo hi) hz,_,0,(r.drop (HT.aI xs.length 0 lo)).take (HT.aI xs.length xs.length hi-HT.aI xs.length 0 lo),dn _ rfl⟩
def iG:V->Bool
 | .non=>true
 | .bl _=>true
 | .int _=>true
 | .str _=>true
 |_=>false
def hW:V->V->Bool
 | .non,.non=>true
 | .bl a,.bl b=>a==b
 | .bl a,.int b=>(if a then 1 else 0)==b
 | .int a,.bl b=>a==(if b then 1 else 0)
 | .int a,.int b=>a==b
 | .str a,.str b=>a==b
 |_,_=>false
theorem MB{A:Around}{s:Shared}{y x:V}{u v:Value}(ry:RelV y u)(rx:RelV x v)(fy:iG y=true)(fx:iG x=true):ux A s u v (hW y x):=by
 cases y with
 |non =>
  cases ry;cases x with
  |non=>cases rx;exact SeqAt.EqAt.same _
  |bl b=>cases rx;exact SeqAt.EqAt.none_bool b
  |int b=>obtain⟨t,rfl⟩:=rx;exact SeqAt.EqAt.none_int b t
  |str b=>obtain⟨t,rfl⟩:=rx;exact SeqAt.EqAt.none_str b t
  |_=>exact absurd (show false=true from fx) cF
 |bl a =>
  cases ry;cases x with
  |non=>cases rx;exact SeqAt.EqAt.bool_none a
  |bl b=>cases rx;exact SeqAt.EqAt.bool_bool a b
  |int b=>obtain⟨t,rfl⟩:=rx;exact SeqAt.EqAt.bool_int a b t
  |str b=>obtain⟨t,rfl⟩:=rx;exact SeqAt.EqAt.bool_str a b t
  |_=>exact absurd (show false=true from fx) cF
 |int a =>
  obtain⟨t',rfl⟩:=ry;cases x with
  |non=>cases rx;exact SeqAt.EqAt.int_none a t'
  |bl b=>cases rx;exact SeqAt.EqAt.int_bool a t' b
  |int b=>obtain⟨t,rfl⟩:=rx;exact SeqAt.EqAt.int_int a t' b t
  |str b=>obtain⟨t,rfl⟩:=rx;exact Ip a t' b t
  |_=>exact absurd (show false=true from fx) cF
 |str a =>
  obtain⟨t',rfl⟩:=ry;cases x with
  |non=>cases rx;exact SeqAt.EqAt.str_none a t'
  |bl b=>cases rx;exact SeqAt.EqAt.str_bool a t' b
  |int b=>obtain⟨t,rfl⟩:=rx;exact Iq a t' b t
  |str b=>obtain⟨t,rfl⟩:=rx;exact SeqAt.EqAt.str_str a t' b t
  |_=>exact absurd (show false=true from fx) cF
 |_=>exact absurd (show false=true from fy) cF
def fh(x:V)(u:Value):Bool:=match u with
 | .none=>hW .non x
 | .bool b=>hW (.bl b) x
 | .int i _=>hW (.int i) x
 | .str z _=>hW (.str z) x
 |_=>false
theorem Bo{x y:V}{u:Value}(r:RelV y u)(f:iG y=true):fh x u=hW y x:=by
 cases y with
 |non=>cases r;rfl
 |bl b=>cases r;rfl
 |int i=>obtain⟨t,rfl⟩:=r;rfl
 |str z=>obtain⟨t,rfl⟩:=r;rfl
 |_=>exact absurd (show false=true from f) cF
theorem ph{x:V}:∀{xs:List V} {us:List Value},Vals xs us->xs.all iG=true->us.any (fh x)=xs.any λy=>hW y x
 |_,_,.nil,_=>rfl
 |y::xs,u::us,.cons r t,f=>by
  rw[ma,fE]at f;rw[kL,kL,Bo r f.1,ph t f.2]
theorem pj{A:Around}{s:Shared}{x:V}{v:Value}(rx:RelV x v)(fx:iG x=true):∀{xs:List V} {us:List Value},Vals xs us->xs.all iG=true->∀u∈us,ux A s u v (fh x u)
 |_,_,.nil,_=>λu hu=>by cases hu
 |y::xs,u::us,.cons r t,f=>λu' hu=>by
  rw[ma,fE]at f;rcases a9.mp hu with rfl|hu
  ·rw[Bo r f.1];exact MB r rx f.1 fx
  ·exact pj rx fx t f.2 u' hu
def inV(x:V)(xs:List V):Bool:=xs.any λy=>hW y x
def vx(K:ak)(neg:Bool):R2:=λx y H Q=>∃p xs,y=.ref p/\(a6 K H p xs∨bq K H p xs)/\iG x=true/\xs.all iG=true/\Q (.bl (if neg then !inV x xs else inV x xs)) H
theorem pq:bT X (compareOp .In) (vx X.K false):=by
 intro pins s σ H x y v u Q I rx ry h;obtain⟨p,xs,rfl,hq,fx,fs,q⟩:=h;cases ry;rcases hq with hq|hq
 ·obtain⟨its,r,pl,hz⟩:=I.list hq;refine Jc (fh x) pl.isList (λw hw=>pj rx fx r fs w (by simpa using hw)) ⟨.bl _,H,I,rfl,?_⟩;rw[show its.toArray.any (fh x)=its.any (fh x) by simp,ph r fs];exact q
 ·obtain⟨its,r,pl,hz⟩:=I.tuple hq;refine SeqAt.in_tupleAt (fh x) pl (λw hw=>pj rx fx r fs w (by simpa using hw)) ⟨.bl _,H,I,rfl,?_⟩;rw[show its.toArray.any (fh x)=its.any (fh x) by simp,ph r fs];exact q
theorem MC:bT X (compareOp .NotIn) (vx X.K true):=by
 intro pins s σ H x y v u Q I rx ry h;obtain⟨p,xs,rfl,hq,fx,fs,q⟩:=h;cases ry;rcases hq with hq|hq
 ·obtain⟨its,r,pl,hz⟩:=I.list hq;refine SeqAt.notIn_listAt (fh x) pl.isList (λw hw=>pj rx fx r fs w (by simpa using hw)) ⟨.bl _,H,I,rfl,?_⟩;rw[show its.toArray.any (fh x)=its.any (fh x) by simp,ph r fs];exact q
 ·obtain⟨its,r,pl,hz⟩:=I.tuple hq;refine SeqAt.notIn_tupleAt (fh x) pl (λw hw=>pj rx fx r fs w (by simpa using hw)) ⟨.bl _,H,I,rfl,?_⟩;rw[show its.toArray.any (fh x)=its.any (fh x) by simp,ph r fs];exact q
theorem d8:fI X (.builtin "len") (λxs H Q=>∃p ys,xs=[.ref p]/\(a6 X.K H p ys∨bq X.K H p ys)/\Q (.int ys.length) H):=by
 intro pins s σ H xs us Q I r h;obtain⟨p,ys,rfl,hq,q⟩:=h;obtain⟨u,rfl,rx⟩:=vals1 r;cases rx;have hn:=kU;rcases hq with hq|hq
 ·obtain⟨its,r',pl,hz⟩:=I.list hq;have hlen:=r'.length;exact Calls.call_len_list pl.isList (by simp only[b7]<;>lia) ⟨.int ys.length,H,I.tok _,⟨s.toks+1,by rw[b7,hlen]⟩,q⟩
 ·obtain⟨its,r',pl,hz⟩:=I.tuple hq;have hlen:=r'.length;exact len_tuple pl (by simp only[b7]<;>lia) ⟨.int ys.length,H,I.tok _,⟨s.toks+1,by rw[b7,hlen]⟩,q⟩
theorem MD:fI X (.builtin "len") (λxs H Q=>∃z,xs=[.str z]/\z.length<=sizeLine/\Q (.int z.length) H):=by
 intro pins s σ H xs us Q I r h;obtain⟨z,rfl,hz,q⟩:=h;obtain⟨u,rfl,t,rfl⟩:=vals1 r;have hn:=kU;exact len_str (by lia) ⟨.int z.length,H,I.tok _,⟨_,rfl⟩,q⟩
theorem iH:fI X (.type "tuple") (λxs H Q=>∃p ys,xs=[.ref p]/\((a6 X.K H p ys/\∀l,H l=none->Q (.ref l) (upd H l (.tup ys)))∨(bq X.K H p ys/\Q (.ref p) H))):=by
 intro pins s σ H xs us Q I r h;obtain⟨p,ys,rfl,h⟩:=h;obtain⟨u,rfl,rx⟩:=vals1 r;cases rx;rcases h with⟨hq,q⟩|⟨hq,q⟩
 ·obtain⟨its,r',pl,hz⟩:=I.list hq;have hlen:=r'.length;refine call_tuple_list pl.isList (λh' kp=>?_) (by simp only[b7]<;>lia);have I1:Inv X pins σ H {s with heap:=h'}:=I.kept (t':=s.toks) kp;have I2:Inv X pins σ (upd H h'.objs.size (.tup ys)) {s with heap:=h'.push {cls:=.type "tuple",data:=.seq its.toArray}} :=
   I1.laid (t':=s.toks) (λb o e=>bC _ e) (aX _) (show cB X.prog X.w _ _ _ (.tup ys) from⟨hz,its,r',zG _ _,λo q=>by rw[dn _ rfl]at q;cases q;rfl⟩)
  exact⟨.ref h'.objs.size,_,I2,rfl,q _ (I1.hok.fresh (aX _))⟩
 ·obtain⟨its,r',pl,hz⟩:=I.tuple hq;exact call_tuple_same pl ⟨.ref p,H,I,rfl,q⟩
def rV(K:ak)(T:String)(x:V)(H:Hp):Prop:=match x with
 | .str _=>T="str"
 | .int _=>T="int"
 | .ref p=>(T="list"/\∃xs,a6 K H p xs)∨(T="tuple"/\∃o,K.lookup p=some o/\o.cls=.type "tuple"/\o.dict=none) ∨
  (T="dict"/\((∃kvs,H p=some (.dK kvs))∨∃kvs,H p=some (.dT kvs)))∨(T="set"/\∃S n,H p=some (.set S n))
 |_=>False
theorem Bp{pins:List (Addr×Obj)}{σ:St}{H:Hp}{s:Shared}{T:String}{x:V}{v:Value}(I:Inv X pins σ H s)(r:RelV x v)(ty:rV X.K T x H) :
 s.TypeIs v T/\∀a,v=.ref a->∃ob,s.heap.get? a=some ob/\ob.dict=none:=by
 cases x with
 |str z =>
  obtain⟨t,rfl⟩:=r;cases (show T="str" from ty);exact⟨zK s z t,λ_ e=>nomatch e⟩
 |int i =>
  obtain⟨t,rfl⟩:=r;cases (show T="int" from ty);exact⟨typeIs_int s i t,λ_ e=>nomatch e⟩
 |ref p =>
  cases r;rcases ty with⟨rfl,xs,hq⟩|⟨rfl,o,hk,hc,hd⟩|⟨rfl,hk⟩|⟨rfl,S,n,hk⟩
  ·obtain⟨its,_,pl,_⟩:=I.list hq;refine⟨pl.isList.typeIs,λa e=>?_⟩;cases e;obtain⟨o,n,e,c,hd,_⟩:=pl;exact⟨o,e,hd⟩
  ·refine⟨⟨o,I.dI p o hk,hc⟩,λa e=>?_⟩;cases e;exact⟨o,I.dI _ o hk,hd⟩
  ·have z:∃o,s.heap.get? p=some o/\o.ExactDict:=by
    rcases hk with⟨kvs,hk⟩|⟨kvs,hk⟩
    ·obtain⟨_,_,_,_,o,_,_,e,ex,_⟩:=I.hok p _ hk;exact⟨o,e,ex⟩
    ·obtain⟨_,_,_,_,o,_,_,e,ex,_⟩:=I.hok p _ hk;exact⟨o,e,ex⟩
   obtain⟨o,e,ex⟩:=z;refine⟨⟨o,e,ex.1⟩,λa e2=>?_⟩;cases e2;exact⟨o,e,ex.2.1⟩
  ·obtain⟨o,_,_,_,e,ex,_⟩:=I.hok p _ hk;refine⟨⟨o,e,ex.1⟩,λa e2=>?_⟩;cases e2;exact⟨o,e,ex.2.1⟩
 |_=>exact fS ty
def ME(K:ak)(T:String)(r:V->List V->Hp->VK->Prop)(to:TE):TE:=λσ H Q=>to σ H λx H1=>rV K T x H1/\r x [] H1 Q
def MF(K:ak)(T:String)(r:V->List V->Hp->VK->Prop)(to:TE)(t:TA):TE:=λσ H Q=>to σ H λx H1=>rV K T x H1/\t σ H1 λxs H2=>r x xs H2 Q
variable{o e:Expr}{es:List Expr}{to:TE}{t:TA}{name:Str}{apos cpos:Pos}{T id:String}{r:V->List V->Hp->VK->Prop}
theorem MG(pa:PlainAttrs T)(slot:Slot T name id)(hty:typeOf (.builtin id)=pure (.type "method_descriptor"))(hm:rT X id r)(ho:PE X o to)
 (hbase:attributeBase o name X.env (eval o X.env)=eval o X.env:=by rfl) (hline:(apos.endLine==cpos.line)=true:=by rfl):PE X (.Call (.Attribute o name apos) [] [] cpos) (ME X.K T r to):=by
 intro pins s σ H Q I h;refine wpAny_Call_method0_late hbase hline (aE (ho pins s σ H _ I h) λv s1 ⟨x,H1,I1,r1,ty,q1⟩=>?_);obtain⟨h1,h2⟩:=Bp I1 r1 ty;exact⟨T,id,pa,slot,hty,h1,h2,zL rfl (PySem.evalArgs_none (hm pins s1 σ H1 x [] v [] Q I1 r1 .nil q1))⟩
theorem MH(pa:PlainAttrs T)(slot:Slot T name id)(hty:typeOf (.builtin id)=pure (.type "method_descriptor"))(hm:rT X id r)(ho:PE X o to)(ha:PA X (e::es) t)
 (hbase:attributeBase o name X.env (eval o X.env)=eval o X.env:=by rfl)
 (hfew:((backTo cpos (starEach (e::es) X.env)).all (λx=>!x.1)&&(backToKw cpos (keywordEach [] X.env)).all (λx=>x.1.isSome)
  && decide ((e::es).length+([]:List Keyword).length+(if([]:List Keyword).isEmpty then 0 else 1)<30))=true:=by rfl)
 (hline:(apos.endLine==cpos.line)=true:=by rfl) (hs:starEach (e::es) X.env=(false,eval e X.env)::starEach es X.env:=by rfl) (hplain:(backTo cpos (starEach es X.env)).any (·.1)=false:=by rfl) :
 PE X (.Call (.Attribute o name apos) (e::es) [] cpos) (MF X.K T r to t):=by
 intro pins s σ H Q I h;refine wpAny_Call_method_late hbase hfew hline rfl (aE (ho pins s σ H _ I h) λv s1 ⟨x,H1,I1,r1,ty,q1⟩=>?_);obtain⟨h1,h2⟩:=Bp I1 r1 ty;refine⟨T,id,pa,slot,hty,h1,h2,?_⟩;have hA:=ha cpos pins s1 σ H1 _ I1 q1;rw[hs]at hA ⊢;refine zL (by show(false||(backTo cpos (starEach es X.env)).any (·.1))=false;rw[hplain]<;>rfl) (zM ?_);exact aE hA λus s2 z_16=>by obtain⟨vs,H2,I2,r2,q2⟩:=z_16;exact hm pins s2 σ H2 x vs v us Q I2 r1 r2 q2
end
def rW(X:Cx)(id:String)(r:V->List V->Hp->VK->Prop):Prop :=
 ∀(pins:List (Addr×Obj)) (s:Shared) (σ:St) (H:Hp) (x:V) (xs:List V) (v:Value) (us:List Value) (Q:VK),Inv X pins σ H s->RelV x v->Vals xs us->r x xs H Q ->
  wpAny (model X.prog X.w) X.A (call (.builtin id) (v::us)) (EP X pins σ Q) X.xe s
theorem Vals.one:∀{x:V} {us:List Value},Vals [x] us->∃u,us=[u]/\RelV x u
 |_,_,.cons r .nil=>⟨_,rfl,r⟩
theorem Vals.zero:∀{us:List Value},Vals [] us->us=[]
 |_,.nil=>rfl
theorem Vals.dropLast{xs:List V}{us:List Value}(h:Vals xs us):Vals xs.dropLast us.dropLast:=by
 induction h with
 |nil=>exact .nil
 |cons r t ih =>
  cases t with
  |nil=>exact .nil
  |cons q t'=>exact .cons r ih
theorem MI{α:Type}(l:List α):l.eraseIdx (l.length-1)=l.dropLast:=by
 induction l with
 |nil=>rfl
 |cons a r ih =>
  cases r with
  |nil=>rfl
  |cons b r =>
   have e:(a::b::r).length-1=((b::r).length-1)+1:=by
    have h1:(a::b::r).length=r.length+2:=rfl;have h2:(b::r).length=r.length+1:=rfl;lia
   rw[e,List.eraseIdx_cons_succ,ih]
   all_goals rfl
section
variable{X:Cx}{pins:List (Addr×Obj)}{σ:St}{H:Hp}{s:Shared}{l b:Addr}{xs ys zs:List V}
theorem Inv.rX{its its':List Value}{n:Nat}{f:Array Value->Array Value}{t':Nat}(I:Inv X pins σ H s)(hH:H l=some (.lst xs))
 (e:s.heap.get? l=some {cls:=.type "list",data:=.seq its.toArray n}) (hf:f its.toArray=its'.toArray) (hv:Vals ys its') (hz:ys.length<=sizeLine) :
 Inv X pins σ (upd H l (.lst ys)) {s with heap:=s.heap.update l (eI f),toks:=t'}:=by
 have q:=PySem.IsL.update e f;rw[hf]at q;refine I.write (x:=l) (e:=l) (by rw[hH];exact trivial) (.inl rfl) (λb' u hb hu=>(oA s.heap (eI f) (cG hb)).trans hu) ⟨_,q⟩ ?_;exact⟨hz,its',_,hv,q⟩
theorem Inv.rY{its:List Value}{t':Nat}(I:Inv X pins σ H s)(hv:Vals ys its)(hz:ys.length<=sizeLine) :
 Inv X pins σ (upd H s.heap.objs.size (.lst ys)) {s with heap:=s.heap.push {cls:=.type "list",data:=.seq its.toArray},toks:=t'} :=
 I.laid (λ_ _ q=>bC _ q) (aX _) ⟨hz,its,0,hv,dn _ rfl⟩
theorem Inv.fresh(I:Inv X pins σ H s):H s.heap.objs.size=none:=I.hok.fresh (aX _)
theorem Inv.kX(I:Inv X pins σ H s)(hH:H l=some (.lst xs)):xs.length<=sizeLine/\∃(its:List Value) (n:Nat),Vals xs its/\xs.length=its.length/\s.heap.get? l=some {cls:=.type "list",data:=.seq its.toArray n}:=by
 obtain⟨z,its,n,r,e⟩:=I.hok l _ hH;exact⟨z,its,n,r,r.length,e⟩
theorem MJ{n:Nat}(h:n<=sizeLine):zN n=false:=by
 unfold zN;exact decide_eq_false (by lia)
end
section
variable{X:Cx}
def Bq:V->List V->Hp->VK->Prop:=λx vs H Q=>∃l xs y,x=.ref l/\vs=[y]/\H l=some (.lst xs)/\xs.length<sizeLine/\Q .non (upd H l (.lst (xs++[y])))
theorem f6:rW X "list.append" Bq:=by
 intro pins s σ H x vs v us Q I rx rv h;obtain⟨l,xs,y,rfl,rfl,hH,hz,q⟩:=h;cases rx;obtain⟨u,rfl,ru⟩:=rv.one;obtain⟨z,its,n,r,hl,e⟩:=I.kX hH;refine zO gu ⟨_,e,rfl⟩ F.entry_list_append (F.args_list_append_2 _ _) (PySem.list_append l its.toArray n u (by rw[b7];lia)) ⟨e,?_⟩;refine⟨.non,_,I.rX (its':=its++[u]) hH e (by simp) (r.append (.cons ru .nil)) ?_,rfl,q⟩;rw[ba,jd];lia
def Br:V->List V->Hp->VK->Prop:=λx vs H Q=>∃l b xs zs,x=.ref l/\vs=[.ref b]/\H l=some (.lst xs)/\H b=some (.lst zs)/\xs.length+zs.length<=sizeLine/\Q .non (upd H l (.lst (xs++zs)))
theorem vy:rW X "list.extend" Br:=by
 intro pins s σ H x vs v us Q I rx rv h;obtain⟨l,b,xs,zs,rfl,rfl,hH,hB,hz,q⟩:=h;cases rx;obtain⟨u,rfl,ru⟩:=rv.one;cases ru;obtain⟨z,its,n,r,hl,e⟩:=I.kX hH;obtain⟨z2,its2,n2,r2,hl2,e2⟩:=I.kX hB;have hsz:its.toArray.size+its2.toArray.size<=sizeLine:=by rw[b7,b7];lia
 have MK:¬(!its.toArray.isEmpty&&zN (its.toArray.size+its2.toArray.size))=true:=by
  rw[MJ hsz,Jd];exact cF
 refine zO uy ⟨_,e,rfl⟩ F.entry_list_extend (F.args_list_extend_2 _ _)
  (AutoSeq1.list_extend_list_list_0 l its.toArray n b its2.toArray n2 MK (by rw[b7];lia) (by lia)) ⟨e,e2,?_⟩
 refine⟨.non,_,I.rX (its':=its++its2) hH e (by simp) (r.append r2) ?_,rfl,q⟩;rw[ba];lia
def ML:V->List V->Hp->VK->Prop:=λx vs H Q=>∃l xs y,x=.ref l/\vs=[]/\H l=some (.lst xs)/\xs[xs.length-1]?=some y/\Q y (upd H l (.lst xs.dropLast))
theorem MM:rW X "list.pop" ML:=by
 intro pins s σ H x vs v us Q I rx rv h;obtain⟨l,xs,y,rfl,rfl,hH,hy,q⟩:=h;cases rx;have hus:=rv.zero;subst hus;obtain⟨z,its,n,r,hl,e⟩:=I.kX hH;obtain⟨u,hu,ru⟩:=r.get hy;have hy':its.toArray[its.toArray.size-1]?=some u:=by
  show its.toArray[its.length-1]?=some u;rw[<-Array.getElem?_toList,<-hl];exact hu
 refine zO zP ⟨_,e,rfl⟩ F.entry_list_pop (F.args_list_pop_1 _) (MeetsSeq.list_pop_last l its.toArray n u hy' (by rw[b7];lia)) ⟨e,?_⟩;refine⟨y,_,I.rX (its':=its.dropLast) hH e ?_ r.dropLast ?_,ru,q⟩
 ·show its.toArray.eraseIdxIfInBounds (its.toArray.size-1)=its.dropLast.toArray;rw[b7,List.eraseIdxIfInBounds_toArray,MI]
 ·rw[Je];lia
def Bs:R2:=λx y H Q=>∃l b xs zs,x=.ref l/\y=.ref b/\H l=some (.lst xs)/\H b=some (.lst zs)/\xs.length+zs.length<=sizeLine/\∀p,H p=none->Q (.ref p) (upd H p (.lst (xs++zs)))
theorem vz:bT X (binaryOp .Add) Bs:=by
 intro pins s σ H x y v u Q I rx ry h;obtain⟨l,b,xs,zs,rfl,rfl,hH,hB,hz,q⟩:=h;cases rx;cases ry;obtain⟨z,its,n,r,hl,e⟩:=I.kX hH;obtain⟨z2,its2,n2,r2,hl2,e2⟩:=I.kX hB;refine PySem.P.add_list e e2 ?_ (by rw[b7,b7];lia);have ea:its.toArray++its2.toArray=(its++its2).toArray:=by simp
 rw[ea];exact⟨.ref _,_,I.rY (t':=s.toks) (r.append r2) (by rw[ba];lia),rfl,q _ I.fresh⟩
end
end L2
namespace Bt
open PySem PySem.W PySem.Calls PyProof.Rows
theorem MN{P:Params}{h:Heap}:∀(ns:List Int) (vs:List Value),WellAll P h vs (ns.map WData.int)->IntsAre vs ns:=by
 intro ns
 induction ns with
 |nil =>
  intro vs w;rw[fU]at w;cases w;exact .nil
 |cons n ns ih =>
  intro vs w;rw[bo]at w;cases w with
  |cons a b =>
   cases a;exact .cons _ _ (ih _ b)
theorem MO{l:OpenLaw}{n:Nat}(hn:l.most=some n){P:Params}{h:Heap}{args:List WData}{vals:List Value}
 (hpre:l.row.toRowW.claim.pre args=true) (hwl:WellAll P h vals args) :
 ∃a vs ns,vals=[Value.ref a]/\args=[WData.list (ns.map WData.int)]/\h.get? a=some {cls:=.type "list",data:=.seq vs.toArray}/\IntsAre vs ns/\ns.length<=n:=by
 have hsh:WShape.hasAll [] args [.list .int]=true:=(pre_splitW hpre).1;have hc:l.pre.holds [] {args:=args}=true:=(pre_splitW hpre).2;obtain⟨d,r,rfl,h1,h2⟩:=hasAllW_cons hsh;obtain rfl:=hasAllW_nil h2;obtain⟨xs,rfl,h3⟩:=hasW_list h1;obtain⟨ns,rfl⟩:=items_int h3;have hlen:ns.length<=n:=by
  unfold OpenLaw.pre at hc;have h4:(WTm.not (.lt (.lit (.int (n:Int))) (.len (.arg 0)))).holds [] {args:=[.list (ns.map .int)]}=true:=by
   have h4:=(holds_andW hc).1;rw[hn]at h4;exact h4
  have h5:=condW_of h4 (w_not (w_lt w_lit (w_len_list (w_arg rfl))));rw[aA]at h5;refine Jf λq=>?_;have q':(n:Int)<((ns.length:Nat):Int):=by lia
  first
   |(rw[decide_eq_true q']at h5;exact absurd h5 (by decide))
   |(simp at h5;lia)
 cases hwl with
 |cons w1 w2 =>
  cases w2;cases w1 with
  |list ho hall=>exact⟨_,_,ns,rfl,rfl,ho,MN ns _ hall,hlen⟩
theorem MP(l:OpenLaw)(args:List WData):l.row.toRowW.claim.post args (.bool true) args=true :=
 postW_of (r:=l.row.toRowW) (X:=(true==true))
  (show WShape.has [] (.bool true) .bool=true by first|rfl|decide|simp[WShape.has,WShape.arms,WShape.armsAll])
  (show(WTm.eq .res (.lit (.bool true))).value [] {args:=args,res:=some (.bool true),after:=args}=some (.bool (true==true)) from w_eq_bool (w_res rfl) w_lit) rfl
theorem MQ{l:OpenLaw}{n:Nat}{q:Program}{loose:List Str}{XP:(Str->Option Value)->Heap->Prop}{YP:World->Heap->Prop}{d:DefRec}
 (hn:l.most=some n) (hdf:d.params.defaults=[])
 (call:∀(w:World) (s₀ s₁:Shared) (mg mb:Str->Option Value) (fa:Addr) (o:Obj) (pm cd doc:Value) (a:Addr) (vs:List Value) (ns:List Int),
  Ground q loose [] XP w s₀ mg mb s₁.heap->YP w s₁.heap ->
  s₁.heap.get? fa=some o->o.data=.func (docDef d.name d.params d.body d.scope pm cd doc)->s₁.heap.CodeRec cd d.name->mg d.name=some (.ref fa) ->
  s₁.heap.get? a=some {cls:=.type "list",data:=.seq vs.toArray}->IntsAre vs ns->ns.length<=n->s₁.gens=#[] ->
  codeAny (model l.prog w) callerA (.call (.ref fa) ⟨[.ref a],[]⟩) (λr s'=>r=.ok (.ret (.bool true))/\OldK s₁.heap s'.heap/\s'.os=s₁.os/\AllBare s'.gens) s₁) :
 WalkO q loose XP YP l.row.toRowW d [] (λf vs=>zQ f vs):=by
 intro w s₀ s₁ mg mb G Y fa o pm cd doc dV kV ho hd hcd hD hmg hg args vals as hpre hlay hrd hwl hlo;obtain rfl:dV=.none:=Dflts.none hD hdf;obtain rfl:kV=.none:=Dflts.noKw hD;obtain⟨a,vs,ns,rfl,rfl,hobj,hints,hlen⟩:=MO hn hpre hwl;refine enter_call (zR (call w s₀ s₁ mg mb fa o pm cd doc a vs ns G Y ho (fd_plain hd) hcd hmg hobj hints hlen hg) λr s' hq=>?_);obtain⟨rfl,h2,h3,h4⟩:=hq;exact⟨.inl ⟨.bool true,.bool true,[],rfl,λ_=>rfl,.bool true,MP l _,λ_=>⟨List.Pairwise.nil,λ_ hm=>(nomatch hm)⟩⟩,h2,h3,h4⟩
end Bt
namespace L2
open PySem PySem.Spec PyProof.Rows
theorem pv:∀{vs:List Value} {ns:List Int},IntsAre vs ns->Vals (ns.map V.int) vs
 |_,_,.nil=>.nil
 |_,_,.cons n t h=>.cons ⟨t,rfl⟩ (pv h)
def pz(H:Hp):Prop:=∀b,H b=none∨∃o xs,H b=some (.c6 o (.lst xs))
theorem MR{P:Program}{w:World}{K:ak}{mg mb:Str->Option Value}{CX:fY}{k:Nat}{fa a:Addr}{fd:FuncData}{x:Str}{sp:Sp}{s₁:Shared}{vs:List Value}{ns:List Int}
 (KX:K.In s₁.heap) (hns:s₁.heap.Ns mainGlobals mg) (hb:s₁.heap.Ns builtinsNs mb) (hbb:∀x:Str,x≠"__name__"->mb x=bootBuiltins x) (hlim:s₁.heap.NoLimit) (hg:s₁.gens=#[])
 (ha:s₁.heap.get? a=some {cls:=.type "list",data:=.seq vs.toArray}) (hi:IntsAre vs ns) (hl:ns.length<=sizeLine) (hr:cu k callerA)
 (F:∀base:Heap,K.In base->base.Ns mainGlobals mg->du P w K mg base CX k fa fd [x] sp) (hbind:∀(s:Shared) (u:Value),BindsTo s fd ⟨[u],[]⟩ [(x,u)])
 (hsp:∀H:Hp,pz H->a6 K H a (ns.map V.int)->sp [.ref a] H (λv _=>v=.bl true) λ_ _ _=>False)
 (vA:∀H e s',CX [] H s₁ (λ_ _ _=>False) e s'->False) :
 codeAny (model P w) callerA (.call (.ref fa) ⟨[.ref a],[]⟩) (λr s'=>r=.ok (.ret (.bool true))/\OldK s₁.heap s'.heap/\s'.os=s₁.os/\AllBare s'.gens) s₁:=by
 have rv:=pv hi;have lenV:=hi.length;have core:∀H:Hp,pz H->a6 K H a (ns.map V.int)->bS P w H s₁.heap->(∀b,H b≠none->b=a)->(H a≠none->K.lookup a=none) ->
  codeAny (model P w) callerA (.call (.ref fa) ⟨[.ref a],[]⟩) (λr s'=>r=.ok (.ret (.bool true))/\OldK s₁.heap s'.heap/\s'.os=s₁.os/\AllBare s'.gens) s₁:=by
  intro H hO hS hok hA hK;have Bu:∀{b:Addr} {o:Obj},s₁.heap.get? b=some o->H b=none->(jj s₁.heap H).get? b=some o:=λe n=>Kn e n;have o_:∀{b:Addr} {o:Obj} {es:Array DictEntry} {ep:Nat},s₁.heap.get? b=some o->o.data=.dict es ep->H b=none:=λ{b o es ep} e d=>by
   cases q:H b with
   |none=>rfl
   |some u =>
    have e':b=a:=hA b (by rw[q];simp);subst e';rw[ha]at e;cases e;have d':Data.seq vs.toArray _=Data.dict es ep:=d;cases d'
  have rZ:∀{b:Addr} {m:Str->Option Value},s₁.heap.Ns b m->(jj s₁.heap H).Ns b m:=λ{b m} z_19=>by obtain⟨o,es,ep,e,d,r⟩:=z_19;exact⟨o,es,ep,Bu e (o_ e d),d,r⟩
  have Bv:K.In (jj s₁.heap H):=λb o e=>Bu (KX b o e) (by
   cases q:H b with
   |none=>rfl
   |some u =>
    have e':b=a:=hA b (by rw[q];simp);subst e';rw[hK (by rw[q];simp)]at e;cases e)
  have hM:Mod K mg (jj s₁.heap H):=⟨Bv,rZ hns,⟨mb,rZ hb,hbb⟩,let⟨mc,h1,h2⟩:=hlim;⟨mc,rZ h1,h2⟩⟩;have e0:rO P w K mg (jj s₁.heap H) callerA [] s₁ H:=⟨rfl,hM,λb o e=>Ko e,Nat.le_of_eq (Km _ _),trivial,λb hb=>absurd (show b∈([]:List Addr) from hb) (by simp),hok,.of_eq hg⟩;refine zR ((F _ Bv (rZ hns)).run callerA [] s₁ H ⟨[.ref a],[]⟩ [.ref a] [.ref a] _ _ hr e0 (hbind s₁ (.ref a)) (.cons rfl .nil) (hsp H hO hS)) λr s' h=>?_;cases r with
  |error e=>exact(vA H e s' h).elim
  |ok fl =>
   cases fl with
   |next=>exact fS h
   |brk=>exact fS h
   |cont=>exact fS h
   |ret u =>
    obtain⟨v,H',os,bare,un,hok',r',q⟩:=h;have q':v=.bl true:=q;subst q';obtain rfl:u=Value.bool true:=r';refine⟨rfl,OldK.of_keep λb o e=>?_,os,bare⟩;cases q:H b with
    |none=>exact un.keep b o e q (by intro z;exact absurd (show b∈([]:List Addr) from z) (by simp)) (by simp)
    |some u =>
     rcases hO b with z|⟨ob,xs,z⟩
     ·rw[q]at z;cases z
     ·have z2:=un.fH b ob _ z;obtain⟨e1,_⟩:=hok b _ z;obtain⟨e2,_⟩:=hok' b _ z2;rw[e]at e1;cases e1;exact e2
 cases hk:K.lookup a with
 |some o =>
  have e:=KX a o hk;rw[ha]at e;cases e;refine core (λ_=>none) (λ_=>.inl rfl) (.inr ⟨_,vs.toArray,_,hk,rfl,rfl,rfl,by rw[b7,lenV];exact hl,by simpa using rv⟩) (λb u z=>by have z':(none:Option HO)=some u:=z;cases z') (λb z=>absurd rfl z) λz=>absurd rfl z
 |none =>
  refine core (λb=>if b=a then some (.c6 {cls:=.type "list",data:=.seq vs.toArray} (.lst (ns.map V.int))) else none) (λb=>?_) (.inl (.inr ⟨{cls:=.type "list",data:=.seq vs.toArray},if_pos rfl⟩)) (λb u z=>?_) (λb z=>?_) λ_=>hk
  ·by_cases hb:b=a
   ·exact .inr ⟨_,_,if_pos hb⟩
   ·exact .inl (if_neg hb)
  ·by_cases hb:b=a
   ·have z':=(if_pos hb).symm.trans z;cases z';subst hb;exact⟨ha,by rw[aA];exact hl,vs,_,rv,ha⟩
   ·have z':=(if_neg hb).symm.trans z;cases z'
  ·by_cases hb:b=a
   ·exact hb
   ·exact absurd (if_neg hb) z
theorem MS{l:zS}{n k:Nat}{q:Program}{loose:List Str}{XP:(Str->Option Value)->Heap->Prop}{YP:World->Heap->Prop}{d:DefRec}{K:Params->ak}{CX:World->fY}{sp:World->Sp}{x:Str}
 (hn:l.most=some n) (hn2:n<=sizeLine) (hdf:d.params.defaults=[]) (hr:cu k callerA)
 (hY:∀(w:World) (h:Heap),YP w h->(K w.params).In h)
 (F:∀(w:World) (mg:Str->Option Value) (fa:Addr) (h:Heap),(K w.params).In h->h.Ns mainGlobals mg->mg d.name=some (.ref fa) ->
  ∃fd:FuncData,(∀(s:Shared) (u:Value),BindsTo s fd ⟨[u],[]⟩ [(x,u)]) /\
   ∀base:Heap,(K w.params).In base->base.Ns mainGlobals mg->du l.prog w (K w.params) mg base (CX w) k fa fd [x] (sp w))
 (hsp:∀(w:World) (H:Hp) (a:Addr) (ns:List Int),ns.length<=n->pz H->a6 (K w.params) H a (ns.map V.int)->sp w [.ref a] H (λv _=>v=.bl true) λ_ _ _=>False)
 (vA:∀(w:World) (H:Hp) (s:Shared) (e:Value) (s':Shared),CX w [] H s (λ_ _ _=>False) e s'->False) :
 Jg q loose XP YP l.row.toRowW d [] (λf vs=>zQ f vs):=by
 refine Bt.MQ hn hdf λw s₀ s₁ mg mb fa o pm cd doc a vs ns G Y ho hd hcd hmg hobj hints hlen hg=>?_;have KX:=hY w _ Y;obtain⟨fd,hb,hF⟩:=F w mg fa _ KX G.T.g hmg;exact MR KX G.T.g G.T.b G.T.builtins G.T.nolimit hg hobj hints (bX hlen hn2) hr hF hb (λH hO hS=>hsp w H a ns hlen hO hS) λH e s'=>vA w H s₁ e s'
def bw(s:Stmt):Arguments:=match s with
 | .FunctionDef _ a _ _ _ _ _ _ _ _=>a
 |_=>{posonlyargs:=[],args:=[],vararg:=none,kwonlyargs:=[],kw_defaults:=[],kwarg:=none,defaults:=[]}
def a7(s:Stmt):List Stmt:=match s with
 | .FunctionDef _ _ b _ _ _ _ _ _ _=>b
 |_=>[]
def ao(s:Stmt):Scope:=match s with
 | .FunctionDef _ _ _ _ _ _ sc _ _ _=>sc
 |_=>{kind:=.function,names:=[],isGenerator:=false,isCoroutine:=false}
abbrev E0:XK:=λ_ _ _=>False
structure mC(K:ak)(x qual:Str)(st:Stmt)(f:Addr)(fd:FuncData):Prop where
 ex:∃(oc:Value) (od:Option Addr) (kV doc pm:Value) (an:Option Addr) (cdv ct:Value) (osl:Array (Option Value)),
  fd=br x qual (bw st) (a7 st) (ao st) .none kV doc pm an cdv ct/\K.lookup f=some ⟨oc,od,.func fd,osl⟩/\bF K cdv qual=true
 kp:bD K (.ref f)=true
section
variable{P:Program}{w:World}{K:PySem.W.Frag}{mg:Str->Option Value}{base:Heap}
theorem mC.binds{x qual:Str}{st:Stmt}{f:Addr}{fd:FuncData}{ps:List Str}(F:mC K x qual st f fd)
 (h:∀(kV doc pm:Value) (an:Option Addr) (cdv ct:Value) (us:List Value),us.length=ps.length->bindArgs (br x qual (bw st) (a7 st) (ao st) .none kV doc pm an cdv ct) ⟨us,[]⟩=pure (ps.zip us)):Binds K fd ps []:=by
 obtain⟨oc,od,kV,doc,pm,an,cdv,ct,osl,rfl,lk,hcd⟩:=F.ex;exact .all (h kV doc pm an cdv ct)
theorem Bw{x qual:Str}{st:Stmt}{f:Addr}{oc:Value}{od an:Option Addr}{osl:Array (Option Value)}{kV doc pm cdv ct:Value}(l:K.lookup f=some ⟨oc,od,.func (br x qual (bw st) (a7 st) (ao st) .none kV doc pm an cdv ct),osl⟩)
 (c:bF K cdv qual=true) (k:bD K (.ref f)=true):mC K x qual st f (br x qual (bw st) (a7 st) (ao st) .none kV doc pm an cdv ct):=⟨⟨oc,od,kV,doc,pm,an,cdv,ct,osl,rfl,l,c⟩,k⟩
end
theorem pA{A:Around}{k:Nat}(hr:cu k A):A.units+5<cLine:=zT (Nat.add_le_add_left (by decide:5<=64) _) hr.units
theorem r0{A B:Prop}(h:B):if false=true then A else B:=by
 rw[if_neg cF];exact h
theorem r8{A B:Prop}(h:A):if true=true then A else B:=by
 rw[if_pos rfl];exact h
theorem vB{c A B:Prop}[Decidable c](hc:c)(h:B):if(!decide c)=true then A else B:=by
 rw[decide_eq_true hc];exact r0 h
section
variable{κ:Type}[DecidableEq κ]
def fi(kvs:List (κ×V))(k:κ):Option V:=(kvs.find? λkv=>decide (kv.1=k)).map (·.2)
def putK(kvs:List (κ×V))(k:κ)(v:V):List (κ×V) :=
 if(kvs.any λkv=>decide (kv.1=k))=true then kvs.map (λkv=>if kv.1=k then(kv.1,v) else kv) else kvs++[(k,v)]
theorem r9{p:κ×V}{r:List (κ×V)}{k:κ}(e:p.1=k):fi (p::r) k=some p.2:=by simp[fi,je,e]
theorem r_{p:κ×V}{r:List (κ×V)}{k:κ}(e:¬p.1=k):fi (p::r) k=fi r k:=by simp[fi,je,e]
theorem Bx(k:κ):∀kvs:List (κ×V),(kvs.any λkv=>decide (kv.1=k))=(fi kvs k).isSome
 |[]=>rfl
 |p::r=>by
  rw[kL];by_cases e:p.1=k
  ·simp only[r9 e,decide_eq_true e,Bool.true_or,zU]
  ·rw[r_ e,decide_eq_false e,Bool.false_or];exact Bx k r
theorem By(kvs:List (κ×V))(k:κ)(v:V):(putK kvs k v).length<=kvs.length+1:=by
 unfold putK
 split
 ·rw[aA];lia
 ·rw[ba,cf,eJ];lia
theorem fW.pB{o:Option V}{u:Option Value}(r:fW o u):o.isSome=u.isSome:=by
 cases o with
 |none=>cases u with
  |none=>rfl
  |some _=>exact(show False from r).elim
 |some _=>cases u with
  |none=>exact(show False from r).elim
  |some _=>rfl
theorem fW.getD{o:Option V}{u:Option Value}{d:V}{d':Value}(r:fW o u)(rd:RelV d d'):RelV (o.getD d) (u.getD d'):=by
 cases o with
 |none=>cases u with
  |none=>exact rd
  |some _=>exact(show False from r).elim
 |some _=>cases u with
  |none=>exact(show False from r).elim
  |some _=>exact r
theorem KV.val{kvs:List (κ×V)}{vs:List (κ×Value)}(r:KV kvs vs)(k:κ):fW (fi kvs k) (valueAt vs k):=by
 unfold KV at r
 induction r with
 |nil=>exact True.intro
 |@cons p q ps qs h t ih =>
  obtain⟨h1,h2⟩:=h;by_cases e:p.1=k
  ·have e':q.1=k:=h1.symm.trans e;have b:valueAt (q::qs) k=some q.2:=by simp[valueAt,je,e']
   rw[r9 e,b];exact h2
  ·have e':¬q.1=k:=λz=>e (h1.trans z);have b:valueAt (q::qs) k=valueAt qs k:=by simp[valueAt,je,e']
   rw[r_ e,b];exact ih
theorem KV.any{kvs:List (κ×V)}{vs:List (κ×Value)}(r:KV kvs vs)(k:κ):(kvs.any λkv=>decide (kv.1=k))=vs.any λkv=>decide (kv.1=k):=by
 unfold KV at r
 induction r with
 |nil=>rfl
 |cons h t ih=>rw[kL,kL,ih,h.1]
theorem KV.repl{kvs:List (κ×V)}{vs:List (κ×Value)}(r:KV kvs vs)(k:κ){y:V}{u:Value}(ry:RelV y u) :
 KV (kvs.map λkv=>if kv.1=k then(kv.1,y) else kv) (vs.map λkv=>if kv.1=k then(kv.1,u) else kv):=by
 unfold KV at r ⊢
 induction r with
 |nil=>exact .nil
 |@cons p q ps qs h t ih =>
  rw[bo,bo];refine .cons ?_ ih;obtain⟨h1,h2⟩:=h;by_cases e:p.1=k
  ·rw[if_pos e,if_pos (h1.symm.trans e)];exact⟨h1,ry⟩
  ·rw[if_neg e,if_neg (λz=>e (h1.trans z))];exact⟨h1,h2⟩
theorem KV.put{kvs:List (κ×V)}{vs:List (κ×Value)}(r:KV kvs vs)(k:κ){y:V}{u:Value}(ry:RelV y u):KV (putK kvs k y) (stored vs k u):=by
 unfold putK stored;rw[r.any k];by_cases e:(vs.any λkv=>decide (kv.1=k))=true
 ·rw[if_pos e,if_pos e];exact r.repl k ry
 ·rw[if_neg e,if_neg e];exact Paired.snoc r ⟨rfl,ry⟩
theorem KV.length{kvs:List (κ×V)}{vs:List (κ×Value)}(r:KV kvs vs):kvs.length=vs.length:=Paired.length r
end
theorem pC{P:Program}{w:World}{k:Key}{u:Value}(r:RelV (kV k) u):(fe P w).is k u=true:=by
 cases k with
 |inl i=>obtain⟨t,e⟩:=(show ∃t,u=Value.int i t from r);subst e;exact uZ P w i t
 |inr x=>obtain⟨t,e⟩:=(show ∃t,u=Value.str x t from r);subst e;exact u4 P w x t
abbrev KT(H:Hp):List (DK×V)->List (DK×Addr×Value)->Prop:=Paired λp q=>p.1=q.1/\gA H p.1 q.2.1/\RelV p.2 q.2.2
theorem KT.val{H:Hp}{kvs:List (DK×V)}{xs:List (DK×Addr×Value)}(r:KT H kvs xs)(k:DK):fW (fi kvs k) ((atKey xs k).map (·.2)):=by
 induction r with
 |nil=>exact True.intro
 |@cons p q ps qs h t ih =>
  obtain⟨h1,_,h2⟩:=h;by_cases e:p.1=k
  ·have e':q.1=k:=h1.symm.trans e;have b:atKey (q::qs) k=some q.2:=by simp[atKey,je,e']
   rw[r9 e,b];exact h2
  ·have e':¬q.1=k:=λz=>e (h1.trans z);have b:atKey (q::qs) k=atKey qs k:=by simp[atKey,je,e']
   rw[r_ e,b];exact ih
theorem KT.repl{H:Hp}{kvs:List (DK×V)}{xs:List (DK×Addr×Value)}(r:KT H kvs xs)(k:DK){y:V}{u:Value}(ry:RelV y u) :
 KT H (kvs.map λkv=>if kv.1=k then(kv.1,y) else kv) (xs.map (putAt k u)):=by
 induction r with
 |nil=>exact .nil
 |@cons p q ps qs h t ih =>
  rw[bo,bo];refine .cons ?_ ih;obtain⟨h1,h2,h3⟩:=h;unfold putAt;by_cases e:p.1=k
  ·rw[if_pos e,if_pos (h1.symm.trans e)];exact⟨h1,h2,ry⟩
  ·rw[if_neg e,if_neg (λz=>e (h1.trans z))];exact⟨h1,h2,h3⟩
theorem KT.put{H:Hp}{kvs:List (DK×V)}{xs:List (DK×Addr×Value)}(r:KT H kvs xs)(k:DK){b:Addr}{y:V}{u:Value}(hb:gA H k b)(ry:RelV y u) :
 KT H (putK kvs k y) (storedH xs k b u):=by
 have e:(kvs.any λkv=>decide (kv.1=k))=(atKey xs k).isSome:=by
  rw[Bx,(r.val k).pB,uz]
 unfold putK storedH;rw[e];by_cases q:(atKey xs k).isSome=true
 ·rw[if_pos q,if_pos q];exact r.repl k ry
 ·rw[if_neg q,if_neg q];exact Paired.snoc r ⟨rfl,hb,ry⟩
theorem KT.keeps{H H':Hp}{kvs:List (DK×V)}{xs:List (DK×Addr×Value)}(r:KT H kvs xs)(ht:∀b ys,H b=some (.tup ys)->H' b=some (.tup ys)):KT H' kvs xs :=
 Paired.jX r λ_ _ z=>⟨z.1,z.2.1.mono ht,z.2.2⟩
section
variable{P:Program}{w:World}{H:Hp}{h:Heap}{a:Addr}
theorem Bz{u:HO}(ok:bS P w H h)(e:Rd H a u):cB P w H h a u:=e.ok ok
theorem kY{kvs:List (Key×V)}(ok:bS P w H h)(e:Rd H a (.dK kvs)):kvs.length<=sizeLine/\(a==sysModules)=false/\∃vs,KV kvs vs/\h.DictOf (fe P w) a vs :=
 show cB P w H h a (.dK kvs) from Bz ok e
theorem MT{kvs:List (Key×V)}(ok:bS P w H h)(e:H a=some (.dK kvs)):kvs.length<=sizeLine/\(a==sysModules)=false/\∃vs,KV kvs vs/\h.DictOf (fe P w) a vs:=kY ok (.inl e)
mutual
theorem key_is{H:Hp}{h:Heap}(ok:bS P w H h):∀{k:DK} {v:V} {u:Value},g9 H k v->RelV v u->dj h k u
 |_,_,_,.int i,r=>by obtain⟨t,e⟩:=r;subst e;exact .int i t
 |_,_,_,.str x,r=>by obtain⟨t,e⟩:=r;subst e;exact .str x t
 |_,_,_,.tup (a:=a) (vs:=vs) h1 h2,r=>by
  obtain⟨_,its,rv,⟨o,g1,g2,n,g3⟩,_⟩:=(show cB P w H h a (.tup vs) from ok a _ h1);cases (show _=Value.ref a from r);exact .tup g1 g2 g3 (by simpa using BA ok h2 rv)
theorem BA{H:Hp}{h:Heap}(ok:bS P w H h):∀{ks:List DK} {vs:List V} {us:List Value},g_ H ks vs->Vals vs us->dc h ks us
 |_,_,_,.nil,r=>by cases r;exact .nil
 |_,_,_,.cons h1 h2,r=>by
  cases r with
  |cons r1 r2=>exact .cons (key_is ok h1 r1) (BA ok h2 r2)
end
theorem mD{k:DK}(ok:bS P w H h)(e:gA H k a):(kO P w).is h k a:=⟨key_is ok e.at_ rfl,e.deep⟩
theorem pD{A:Around}(hu:A.units+5<cLine):(kO P w).room A.in1:=by
 show A.units+1+4<cLine;lia
theorem kZ{kvs:List (DK×V)}(ok:bS P w H h)(e:Rd H a (.dT kvs)):kvs.length<=sizeLine/\(a==sysModules)=false /\
 ∃xs,KT H kvs xs/\h.DictOfH (kO P w) a xs:=by
 obtain⟨z,y,xs,r,o,es,ep,h1,h2,h3,h4,h5⟩:=(show cB P w H h a (.dT kvs) from Bz ok e);refine⟨z,y,xs,r,o,es,ep,h1,h2,h3,h4,λx hx=>?_,h5⟩;have all:∀{l:List (DK×V)} {m:List (DK×Addr×Value)},KT H l m->∀x∈m,(kO P w).is h x.1 x.2.1:=by
  intro l m q
  induction q with
  |nil=>intro x hx;exact nomatch hx
  |@cons p q ps qs hq t ih =>
   intro x hx;rcases a9.mp hx with e|hx
   ·subst e;exact mD ok (by rw[<-hq.1];exact hq.2.1)
   ·exact ih x hx
 exact all r x hx
theorem BB{kvs:List (DK×V)}(ok:bS P w H h)(e:H a=some (.dT kvs)):kvs.length<=sizeLine/\(a==sysModules)=false /\
 ∃xs,KT H kvs xs/\h.DictOfH (kO P w) a xs:=kZ ok (.inl e)
end
def fj(H:Hp)(a:Addr)(y:V)(r:Option V):Prop :=
 (∃kvs k,Rd H a (.dK kvs)/\y=kV k/\r=fi kvs k)∨∃kvs k b,Rd H a (.dT kvs)/\y=.ref b/\gA H k b/\r=fi kvs k
def pE(H:Hp)(a:Addr)(y v:V)(H':Hp):Prop :=
 (∃kvs k,H a=some (.dK kvs)/\y=kV k/\kvs.length<sizeLine/\H'=upd H a (.dK (putK kvs k v))) ∨
 ∃kvs k b,H a=some (.dT kvs)/\y=.ref b/\gA H k b/\kvs.length<sizeLine/\H'=upd H a (.dT (putK kvs k v))
theorem fj.t{H:Hp}{a b:Addr}{kvs:List (DK×V)}{k:DK}(e:H a=some (.dT kvs))(eb:gA H k b):fj H a (.ref b) (fi kvs k):=.inr ⟨kvs,k,b,.inl e,rfl,eb,rfl⟩
theorem pE.t{H:Hp}{a b:Addr}{kvs:List (DK×V)}{k:DK}{v:V}(e:H a=some (.dT kvs))(eb:gA H k b)(hl:kvs.length<sizeLine) :
 pE H a (.ref b) v (upd H a (.dT (putK kvs k v))):=.inr ⟨kvs,k,b,e,rfl,eb,hl,rfl⟩
section
variable{X:Cx}{pins:List (Addr×Obj)}{σ:St}{H:Hp}{s:Shared}{a:Addr}{y v:V}{u r:Value}{o:Option V}{A:Around}{E:Value->Shared->Prop}
theorem Inv.big(I:Inv X pins σ H s):sysModules<s.heap.objs.size:=by
 have h:mainGlobals<s.heap.objs.size:=(I.mod.glob.keeps I.bk).lt;exact Nat.lt_trans (by decide) h
theorem MU{Q:Value->Shared->Prop}(hu:A.units+5<cLine)(I:Inv X pins σ H s)(g:fj H a y (some v))(ry:RelV y u)(h:∀w' s',Inv X pins σ H s'->RelV v w'->Q w' s') :
 wpAny (model X.prog X.w) A (getItem (.ref a) u) Q E s:=by
 rcases g with⟨kvs,k,e,ey,l⟩|⟨kvs,k,b,e,ey,eb,l⟩
 ·subst ey;obtain⟨z,hd,vs,rel,dd⟩:=kY I.hok e;obtain⟨w',hw,fJ⟩:=fW.some_of (v:=v) (o:=valueAt vs k) (by rw[l];exact rel.val k);exact wpAny_getItem_of (pC ry) dd.mapOf hw (h w' _ (I.tok _) fJ)
 ·subst ey;cases (show u=Value.ref b from ry);obtain⟨z,hd,xs,rel,dd⟩:=kZ I.hok e;obtain⟨w',hw,fJ⟩:=fW.some_of (v:=v) (o:=(atKey xs k).map (·.2)) (by rw[l];exact rel.val k);obtain⟨p,hp,hp2⟩:=bU.mp hw;refine wpAny_getItem_heap (pD hu) (mD I.hok eb) dd hp ?_;rw[hp2];exact h w' _ (I.tok _) fJ
theorem MV{Q:Value->Shared->Prop}(hu:A.units+5<cLine)(I:Inv X pins σ H s)(g:fj H a y o)(ry:RelV y u)(h:∀s',Inv X pins σ H s'->Q (.bool o.isSome) s') :
 wpAny (model X.prog X.w) A (compareOp .In u (.ref a)) Q E s:=by
 rcases g with⟨kvs,k,e,ey,l⟩|⟨kvs,k,b,e,ey,eb,l⟩
 ·subst ey;obtain⟨z,hd,vs,rel,dd⟩:=kY I.hok e;refine wpAny_in_of (pC ry) hd dd.mapOf ?_;rw[<-(rel.val k).pB,<-l];exact h _ (I.tok _)
 ·subst ey;cases (show u=Value.ref b from ry);obtain⟨z,hd,xs,rel,dd⟩:=kZ I.hok e;refine wpAny_in_heap (pD hu) (mD I.hok eb) hd dd ?_;have q:=(rel.val k).pB;rw[uz]at q;rw[<-q,<-l];exact h _ (I.tok _)
theorem MW{Q:Value->Shared->Prop}(hu:A.units+5<cLine)(I:Inv X pins σ H s)(g:fj H a y o)(ry:RelV y u)(h:∀s',Inv X pins σ H s'->Q (.bool (!o.isSome)) s') :
 wpAny (model X.prog X.w) A (compareOp .NotIn u (.ref a)) Q E s:=by
 rcases g with⟨kvs,k,e,ey,l⟩|⟨kvs,k,b,e,ey,eb,l⟩
 ·subst ey;obtain⟨z,hd,vs,rel,dd⟩:=kY I.hok e;refine wpAny_notIn_of (pC ry) hd dd.mapOf ?_;rw[<-(rel.val k).pB,<-l];exact h _ (I.tok _)
 ·subst ey;cases (show u=Value.ref b from ry);obtain⟨z,hd,xs,rel,dd⟩:=kZ I.hok e;refine wpAny_notIn_heap (pD hu) (mD I.hok eb) hd dd ?_;have q:=(rel.val k).pB;rw[uz]at q;rw[<-q,<-l];exact h _ (I.tok _)
theorem BC{h':Heap}{t':Nat}{ob:HO}(I:Inv X pins σ H s)(mu:oQ (H a))(hs:fF a s.heap h')(he:∃q,h'.get? a=some q)(new:cB X.prog X.w (upd H a ob) h' a ob) :
 Inv X pins σ (upd H a ob) {s with heap:=h',toks:=t'} :=
 I.write (x:=a) (e:=a) mu (.inl rfl) (λb q hb z=>(hs.2 b hb).trans z) he new
theorem MX{P:Program}{w:World}{H':Hp}{h':Heap}{kvs:List (Key×V)}{vs:List (Key×Value)}(z:kvs.length<=sizeLine)(hd:(a==sysModules)=false)(rel:KV kvs vs)(dd:h'.DictOf (fe P w) a vs) :
 cB P w H' h' a (.dK kvs):=⟨z,hd,vs,rel,dd⟩
theorem MY{H':Hp}{Q:Unit->Shared->Prop}(hu:A.units+5<cLine)(I:Inv X pins σ H s)(g:pE H a y v H')(ry:RelV y u)(rv:RelV v r)(h:∀s',Inv X pins σ H' s'->Q () s') :
 wpAny (model X.prog X.w) A (setItem (.ref a) u r) Q E s:=by
 rcases g with⟨kvs,k,e,ey,l,eH⟩|⟨kvs,k,b,e,ey,eb,l,eH⟩
 ·subst ey eH;obtain⟨z,hd,vs,rel,dd⟩:=MT I.hok e;have hz:vs.length<=sizeLine:=by rw[<-rel.length];exact z
  have hl:(putK kvs k v).length<=sizeLine:=by have:=By kvs k v;lia
  refine wpAny_setItem_pairs (hsz:=hz) (pC ry) dd λh' sd hs=>h _ ?_;have he:∃q,h'.get? a=some q:=let⟨q,_,_,hq,_⟩:=sd;⟨q,hq⟩
  exact BC I (by rw[e];exact True.intro) hs he (MX hl hd (rel.put k rv) sd)
 ·subst ey eH;cases (show u=Value.ref b from ry);obtain⟨z,hd,xs,rel,dd⟩:=BB I.hok e;have hz:xs.length<=sizeLine:=by rw[<-Paired.length rel];exact z
  have hl:(putK kvs k v).length<=sizeLine:=by have:=By kvs k v;lia
  refine wpAny_setItem_heap (hsz:=hz) (pD hu) (mD I.hok eb) dd λh' sd hs=>h _ ?_;obtain⟨q,es,ep,hq,h2,h3,h4,_,h5⟩:=sd;refine BC I (by rw[e];exact True.intro) hs ⟨q,hq⟩ ⟨hl,hd,_,(rel.put k eb rv).keeps λc ys ec=>?_,q,es,ep,hq,h2,h3,h4,h5⟩;rw[a_ (Kk ec e (λz=>nomatch z))];exact ec
end
def vC(i:Expr):Prop:=∀ov iv,subscripted i false ov iv=operate [ov,iv] (getItem ov iv)
theorem MZ{prog:Program}{w:World}{A:Around}{E:Value->Shared->Prop}{s:Shared}{env:Env}{value slice:Expr}{pos:Pos}{T id:String}{Q:Value->Shared->Prop}
 (hl:typeLookup (.type T) "__getitem__"=pure (some (.builtin id))) (hs:vC slice)
 (h:wpAny (model prog w) A (eval value env) (λo s₁=>wpAny (model prog w) A (eval slice env) (λi s₂=>s₂.TypeIs o T/\wpAny (model prog w) A (getItem o i) Q E s₂) E s₁) E s) :
 wpAny (model prog w) A (eval (.Subscript value slice pos) env) Q E s:=by
 refine zF (eE h (λo s₁ h₁=>eE h₁ (λi s₂ h₂=>?_) λ_ _ x=>x) λ_ _ x=>x);obtain⟨hT,h₂⟩:=h₂;unfold subscriptTail;refine aj ?_;rw[getitemInPython_of_ne hT.not_modules];refine aj (oq hT hl ?_);have fin:wpAny (model prog w) A (subscripted slice false o i) (λr s₃=>wpAny (model prog w) A (letTemporaryGo value o r >>= λ_=>pure r) Q E s₃) E s₂:=by
  rw[hs o i];exact wpAny_operating (eE h₂ (λr s₃ h₃=>aj (wpAny_letTemporaryGo (aG h₃))) λ_ _ x=>x)
 first
  |exact aG (aj fin)
  |exact aj (aG (aj fin))
  |exact aj fin
theorem M0{X:Cx}{pins:List (Addr×Obj)}{σ:St}{H:Hp}{s:Shared}{a:Addr}{y:V}{o:Option V}(I:Inv X pins σ H s)(g:fj H a y o):s.TypeIs (.ref a) "dict":=by
 rcases g with⟨kvs,k,e,_,_⟩|⟨kvs,k,b,e,_,_,_⟩
 ·obtain⟨_,_,vs,_,dd⟩:=kY I.hok e;exact dd.typeIs
 ·obtain⟨_,_,xs,_,dd⟩:=kZ I.hok e;exact dd.typeIs
def M1(td ty:TE):TE:=λσ H Q=>td σ H λx H1=>ty σ H1 λy H2=>∃a v,x=.ref a/\fj H2 a y (some v)/\Q v H2
def BD(ty td:TE):TE:=λσ H Q=>ty σ H λy H1=>td σ H1 λx H2=>∃a o,x=.ref a/\fj H2 a y o/\Q (.bl o.isSome) H2
def BE(ty td:TE):TE:=λσ H Q=>ty σ H λy H1=>td σ H1 λx H2=>∃a o,x=.ref a/\fj H2 a y o/\Q (.bl (!o.isSome)) H2
def M3(td ty tv:TE):TS:=λD σ H=>tv σ H λv H1=>td σ H1 λx H2=>ty σ H2 λy H3=>∃a H4,x=.ref a/\pE H3 a y v H4/\D.nx σ H4
section
variable{X:Cx}{o i e value:Expr}{pos pos' tpos:Pos}{td ty tv:TE}
theorem M4(hu:X.A.units+5<cLine)(ho:PE X o td)(hi:PE X i ty)(hs:vC i):PE X (.Subscript o i pos) (M1 td ty):=by
 intro pins s σ H Q I h;refine MZ PySem.F.slot_dict_getitem.lookup hs (aE (ho pins s σ H _ I h) λu s1 ⟨x,H1,I1,rx,q1⟩=>aE (hi pins s1 σ H1 _ I1 q1) λiv s2 ⟨y,H2,I2,ry,a,v,ex,g,q2⟩=>?_);subst ex;obtain rfl:u=Value.ref a:=rx;exact⟨M0 I2 g,MU hu I2 g ry λw' s3 I3 fJ=>⟨v,H2,I3,fJ,q2⟩⟩
theorem M5(hu:X.A.units+5<cLine)(hi:PE X i ty)(ho:PE X o td):PC X .In i o (BD ty td):=by
 intro pins s σ H Q I h;refine aE (hi pins s σ H _ I h) λiv s1 ⟨y,H1,I1,ry,q1⟩=>aE (ho pins s1 σ H1 _ I1 q1) λu s2 ⟨x,H2,I2,rx,a,ov,ex,g,q2⟩=>?_;subst ex;obtain rfl:u=Value.ref a:=rx;exact MV hu I2 g ry λs3 I3=>⟨.bl ov.isSome,H2,I3,rfl,q2⟩
theorem M6(hu:X.A.units+5<cLine)(hi:PE X i ty)(ho:PE X o td):PC X .NotIn i o (BE ty td):=by
 intro pins s σ H Q I h;refine aE (hi pins s σ H _ I h) λiv s1 ⟨y,H1,I1,ry,q1⟩=>aE (ho pins s1 σ H1 _ I1 q1) λu s2 ⟨x,H2,I2,rx,a,ov,ex,g,q2⟩=>?_;subst ex;obtain rfl:u=Value.ref a:=rx;exact MW hu I2 g ry λs3 I3=>⟨.bl (!ov.isSome),H2,I3,rfl,q2⟩
theorem M7(hu:X.A.units+5<cLine)(ho:PE X o td)(hi:PE X i ty)(hv:PE X value tv)(hs:swapsWith value (some (.Subscript o i pos')) pos.line X.env=pure false) :
 PS X (.Assign [.Subscript o i pos'] value pos) (M3 td ty tv):=by
 intro pins s σ H D I h;refine wpAny_Assign_Subscript (aE (hv pins s σ H _ I h) λr s1 ⟨v,H1,I1,rv,q1⟩=>aE (ho pins s1 σ H1 _ I1 q1) λu s2 ⟨x,H2,I2,rx,q2⟩=>aE (hi pins s2 σ H2 _ I2 q2) λiv s3 ⟨y,H3,I3,ry,a,H4,ex,g,q3⟩=>?_) hs;subst ex;obtain rfl:u=Value.ref a:=rx;exact MY hu I3 g ry rv λs4 I4=>⟨σ,H4,I4,q3⟩
end
theorem M8{P:Program}{w:World}{H:Hp}(h:Heap)(hb:sysModules<h.objs.size):cB P w H (h.push {cls:=.type "dict",data:=.dict #[]}) h.objs.size (.dT []) :=
 ⟨dQ _,beq_eq_false_iff_ne.mpr (cG (c_ hb)),[],.nil,_,#[],0,dn _ rfl,⟨rfl,rfl,rfl⟩,rfl,rfl,List.nodup_nil⟩
def M9:TE:=λ_ H Q=>∀p,H p=none->Q (.ref p) (upd H p (.dT []))
section
variable{X:Cx}{pos:Pos}
theorem M_:PE X (.Dict [] [] pos) M9:=λpins s σ H Q I h =>
 wpAny_Dict_empty ⟨.ref s.heap.objs.size,_,I.laid (a:=s.heap.objs.size) (o:=.dT []) (t':=s.toks) (λ_ _ q=>bC _ q) (aX _) (M8 s.heap I.big),rfl,h _ (I.hok.fresh (aX _))⟩
end
structure M2(X:Cx)(o:Expr)(m:Str)(apos:Pos)(e f:Expr)(cpos:Pos):Prop where
 base:attributeBase o m X.env (eval o X.env)=eval o X.env
 few:((backTo cpos (starEach [e,f] X.env)).all (λx=>!x.1)&&(backToKw cpos (keywordEach [] X.env)).all (λx=>x.1.isSome)
  && decide (([e,f]:List Expr).length+([]:List Keyword).length+(if([]:List Keyword).isEmpty then 0 else 1)<30))=true
 line:(apos.endLine==cpos.line)=true
 trees:backTo cpos (starEach [e,f] X.env)=[(false,eval e X.env),(false,eval f X.env)]
def BF(H:Hp)(a:Addr):Prop:=(∃kvs,Rd H a (.dK kvs))∨∃kvs,Rd H a (.dT kvs)
theorem M'{X:Cx}{pins:List (Addr×Obj)}{σ:St}{H:Hp}{s:Shared}{a:Addr}(I:Inv X pins σ H s)(d:BF H a) :
 s.TypeIs (.ref a) "dict"/\(∀b,Value.ref a=.ref b->∃ob,s.heap.get? b=some ob/\ob.dict=none)/\(a==sysModules)=false:=by
 rcases d with⟨kvs,e⟩|⟨kvs,e⟩
 ·obtain⟨_,hd,vs,_,dd⟩:=kY I.hok e;refine⟨dd.typeIs,λb q=>?_,hd⟩;cases q;obtain⟨ob,_,_,h1,h2,_⟩:=dd;exact⟨ob,h1,h2.2.1⟩
 ·obtain⟨_,hd,xs,_,dd⟩:=kZ I.hok e;refine⟨dd.typeIs,λb q=>?_,hd⟩;cases q;obtain⟨ob,_,_,h1,h2,_⟩:=dd;exact⟨ob,h1,h2.2.1⟩
section
variable{X:Cx}{pins:List (Addr×Obj)}{σ:St}{H:Hp}{s:Shared}{a:Addr}{y d:V}{u r:Value}{o:Option V}{A:Around}{E:Value->Shared->Prop}
theorem Nc{Q:Value->Shared->Prop}(hu:A.units+5<cLine)(I:Inv X pins σ H s)(g:fj H a y o)(ry:RelV y u)(rd:RelV d r)(h:∀w' s',Inv X pins σ H s'->RelV (o.getD d) w'->Q w' s') :
 wpAny (model X.prog X.w) A (call (.builtin "dict.get") [.ref a,u,r]) Q E s:=by
 rcases g with⟨kvs,k,e,ey,l⟩|⟨kvs,k,b,e,ey,eb,l⟩
 ·subst ey;obtain⟨z,hd,vs,rel,dd⟩:=kY I.hok e;refine zV zW dd.typeIs Jh (Ji _ _ _) (meets_dict_get_default (fe X.prog X.w) a (pC ry) hd r) ⟨_,dd.mapOf,h _ _ (I.tok _) ?_⟩;rw[l];exact(rel.val k).getD rd
 ·subst ey;cases (show u=Value.ref b from ry);obtain⟨z,hd,xs,rel,dd⟩:=kZ I.hok e;refine zV zW dd.typeIs Jh (Ji _ _ _) (meetsH_dict_get_default (kO X.prog X.w) a b hd r) ⟨pD hu,k,xs,mD I.hok eb,dd,h _ _ (I.tok _) ?_⟩;rw[l];exact(rel.val k).getD rd
end
def Nd(td ty tx:TE):TE:=λσ H Q=>td σ H λx H1=>∃a,x=.ref a/\BF H1 a/\ty σ H1 λy H2=>tx σ H2 λz H3=>∃o,fj H3 a y o/\Q (o.getD z) H3
section
variable{X:Cx}{o e f:Expr}{apos cpos:Pos}{td ty tx:TE}
theorem Nf(hu:X.A.units+5<cLine)(ho:PE X o td)(he:PE X e ty)(hf:PE X f tx)(m:M2 X o "get" apos e f cpos):PE X (.Call (.Attribute o "get" apos) [e,f] [] cpos) (Nd td ty tx):=by
 intro pins s σ H Q I h;refine wpAny_Call_method m.base m.few m.line PySem.F.plainAttrs_dict zW PySem.F.type_dict_get (aE (ho pins s σ H _ I h) λu s1 ⟨x,H1,I1,rx,a,ex,d,q1⟩=>?_);subst ex;obtain rfl:u=Value.ref a:=rx;obtain⟨t1,t2,_⟩:=M' I1 d;refine⟨t1,t2,?_⟩;rw[m.trees];refine zL rfl (zM (uo (aE (he pins s1 σ H1 _ I1 q1) λiv s2 ⟨y,H2,I2,ry,q2⟩ =>
  uo (aE (hf pins s2 σ H2 _ I2 q2) λfv s3 ⟨z,H3,I3,rz,ov,g,q3⟩=>zp ?_))))
 exact Nc hu I3 g ry rz λw' s4 I4 fJ=>⟨_,H3,I4,fJ,q3⟩
end
end L2
namespace L2
open PySem PySem.Spec PyProof.Rows
end L2
namespace EE
open PySem PySem.Spec PyProof.Rows L2
structure aB(K:ak)(mg:Str->Option Value)(x:Str)(st:Stmt)(ps:List Str):Prop where
 ex:∃f fd,mC K x x st f fd/\Binds K fd ps []/\mg x=some (.ref f)
section
variable{P:Program}{w:World}{K:PySem.W.Frag}{mg:Str->Option Value}{base:Heap}
theorem bQ{h:Heap}{x:Str}{st:Stmt}{ps:List Str}{f:Addr}{oc:Value}{od an:Option Addr}{osl:Array (Option Value)}{kV doc pm cdv ct:Value}(X:K.In h)(G:h.Ns mainGlobals mg)
 (a:bb K mainGlobals x=some (some (.ref f))) (l:K.lookup f=some ⟨oc,od,.func (br x x (bw st) (a7 st) (ao st) .none kV doc pm an cdv ct),osl⟩)
 (c:bF K cdv x=true) (k:bD K (.ref f)=true)
 (hb:∀(kV doc pm:Value) (an:Option Addr) (cdv ct:Value) (us:List Value),us.length=ps.length->bindArgs (br x x (bw st) (a7 st) (ao st) .none kV doc pm an cdv ct) ⟨us,[]⟩=pure (ps.zip us)):aB K mg x st ps:=by
 have F:=Bw (st:=st) l c k;exact⟨f,_,F,F.binds hb,oB X G a⟩
end
section
variable{X:Cx}{k:Nat}{ps:List Str}{sp:Sp}{x:Str}{p pos:Pos}{e:Expr}{es:List Expr}{t:TA}
theorem Ng{i:Int}(h:∃t,X.mg x=some (.int i t))(hg:Gl X x)(hd:(x==("__debug__":Str))=false:=by decide):PE X (.Name x pos) (tC (.int i)):=by
 obtain⟨t,e⟩:=h;exact KA (v:=.int i) hg e ⟨t,rfl⟩ hd
theorem Nh(K:ak)(n:String):kI K (.type n) (.type n)=some true:=by
 unfold kI;rw[if_pos (by simp)]
def BG:V->List V->Hp->VK->Prop:=λx vs H Q=>∃l ys y,x=.ref l/\vs=[]/\H l=some (.lst (ys++[y]))/\Q y (upd H l (.lst ys))
theorem BH:rW X "list.pop" BG:=by
 intro pins s σ H x vs v us Q I rx rv h;obtain⟨l,ys,y,rfl,rfl,hH,q⟩:=h;refine MM pins s σ H _ _ v us Q I rx rv ⟨l,ys++[y],y,rfl,rfl,hH,by simp,?_⟩;rw[Jj];exact q
end
theorem BI{c A B:Prop}[Decidable c](hc:¬c)(h:A):if(!decide c)=true then A else B:=by
 rw[decide_eq_false hc];exact r8 h
theorem pF{c A B:Prop}[Decidable c](hc:c)(h:A):if decide c=true then A else B:=by
 rw[decide_eq_true hc];exact r8 h
theorem se{c A B:Prop}[Decidable c](hc:¬c)(h:B):if decide c=true then A else B:=by
 rw[decide_eq_false hc];exact r0 h
theorem Ni{c A B:Prop}[Decidable c](h1:c->A)(h2:¬c->B):if decide c=true then A else B:=by
 by_cases h:c
 ·exact pF h (h1 h)
 ·exact se h (h2 h)
theorem snoc_cases{α:Type}(xs:List α):xs=[]∨∃ys y,xs=ys++[y]:=by
 cases xs with
 |nil=>exact .inl rfl
 |cons a r=>exact .inr ⟨(a::r).dropLast,(a::r).getLast (by simp),(List.dropLast_concat_getLast (by simp)).symm⟩
inductive sf where
 |bI
 |pair (l r:sf)
def sf.size:sf->Nat
 | .bI=>0
 | .pair l r=>l.size+r.size+1
def TR(H:Hp):sf->V->Prop
 | .bI,v=>v=.non
 | .pair l r,v=>∃a x y,v=.ref a/\H a=some (.tup [x,y])/\TR H l x/\TR H r y
end EE
namespace EE
open PySem PySem.Spec PyProof.Rows L2 SeqAt
inductive Dt where
 |non|bl (b:Bool)|int (i:Int)|str (x:Str)|tup (xs:List Dt)|lst (xs:List Dt)
mutual
def aR:Dt->Dt->Bool
 | .non,.non=>true
 | .bl a,.bl b=>a==b
 | .bl a,.int b=>(if a then 1 else 0)==b
 | .int a,.bl b=>a==(if b then 1 else 0)
 | .int a,.int b=>a==b
 | .str a,.str b=>a==b
 | .tup xs,.tup ys=>fK xs ys
 | .lst xs,.lst ys=>fK xs ys
 |_,_=>false
def fK:List Dt->List Dt->Bool
 |[],[]=>true
 |x::xs,y::ys=>aR x y&&fK xs ys
 |_,_=>false
end
mutual
def cK:Dt->Nat
 | .tup xs=>dv xs+1
 | .lst xs=>dv xs+1
 |_=>0
def dv:List Dt->Nat
 |[]=>0
 |x::xs=>max (cK x) (dv xs)
end
mutual
theorem j8:∀d:Dt,aR d d=true
 | .non=>rfl
 | .bl b=>by simp[aR]
 | .int i=>by simp[aR]
 | .str x=>by simp[aR]
 | .tup xs=>by simp only[aR];exact vE xs
 | .lst xs=>by simp only[aR];exact vE xs
theorem vE:∀ds:List Dt,fK ds ds=true
 |[]=>rfl
 |d::ds=>by simp only[fK,j8 d,vE ds,l9]
end
mutual
def hX:Dt->Bool
 | .bl _=>false
 | .tup xs=>hZ xs
 | .lst xs=>hZ xs
 |_=>true
def hZ:List Dt->Bool
 |[]=>true
 |x::xs=>hX x&&hZ xs
end
mutual
theorem BJ:∀{d e:Dt},hX d=true->hX e=true->aR d e=true->d=e
 | .non,.non,_,_,_=>rfl
 | .int a,.int b,_,_,h=>by simp only[aR,beq_iff_eq]at h;rw[h]
 | .str a,.str b,_,_,h=>by simp only[aR,beq_iff_eq]at h;rw[h]
 | .tup xs,.tup ys,p,q,h=>by
  simp only[aR]at h;simp only[hX]at p q;rw[vF p q h]
 | .lst xs,.lst ys,p,q,h=>by
  simp only[aR]at h;simp only[hX]at p q;rw[vF p q h]
 | .bl _,_,p,_,_=>by simp[hX]at p
 |_,.bl _,_,q,_=>by simp[hX]at q
 | .non,.int _,_,_,h=>by simp[aR]at h
 | .non,.str _,_,_,h=>by simp[aR]at h
 | .non,.tup _,_,_,h=>by simp[aR]at h
 | .non,.lst _,_,_,h=>by simp[aR]at h
 | .int _,.non,_,_,h=>by simp[aR]at h
 | .int _,.str _,_,_,h=>by simp[aR]at h
 | .int _,.tup _,_,_,h=>by simp[aR]at h
 | .int _,.lst _,_,_,h=>by simp[aR]at h
 | .str _,.non,_,_,h=>by simp[aR]at h
 | .str _,.int _,_,_,h=>by simp[aR]at h
 | .str _,.tup _,_,_,h=>by simp[aR]at h
 | .str _,.lst _,_,_,h=>by simp[aR]at h
 | .tup _,.non,_,_,h=>by simp[aR]at h
 | .tup _,.int _,_,_,h=>by simp[aR]at h
 | .tup _,.str _,_,_,h=>by simp[aR]at h
 | .tup _,.lst _,_,_,h=>by simp[aR]at h
 | .lst _,.non,_,_,h=>by simp[aR]at h
 | .lst _,.int _,_,_,h=>by simp[aR]at h
 | .lst _,.str _,_,_,h=>by simp[aR]at h
 | .lst _,.tup _,_,_,h=>by simp[aR]at h
theorem vF:∀{ds es:List Dt},hZ ds=true->hZ es=true->fK ds es=true->ds=es
 |[],[],_,_,_=>rfl
 |d::ds,e::es,p,q,h=>by
  simp only[hZ,fE]at p q;simp only[fK,fE]at h;rw[BJ p.1 q.1 h.1,vF p.2 q.2 h.2]
 |[],_::_,_,_,h=>by simp[fK]at h
 |_::_,[],_,_,h=>by simp[fK]at h
end
mutual
inductive DR(K:ak)(H:Hp):Dt->V->Prop where
 |non:DR K H .non .non
 |bl (b:Bool):DR K H (.bl b) (.bl b)
 |int (i:Int):DR K H (.int i) (.int i)
 |str (x:Str):DR K H (.str x) (.str x)
 |tup {a:Addr} {xs:List V} {ds:List Dt}:bq K H a xs->dk K H ds xs->DR K H (.tup ds) (.ref a)
 |lst {a:Addr} {xs:List V} {ds:List Dt}:a6 K H a xs->dk K H ds xs->DR K H (.lst ds) (.ref a)
inductive dk(K:ak)(H:Hp):List Dt->List V->Prop where
 |nil:dk K H [] []
 |cons {d:Dt} {v:V} {ds:List Dt} {vs:List V}:DR K H d v->dk K H ds vs->dk K H (d::ds) (v::vs)
end
section
variable{X:Cx}{pins:List (Addr×Obj)}{σ:L2.St}{H:Hp}{s:Shared}
theorem BK{a:Addr}{xs ys:List V}(I:Inv X pins σ H s)(h:a6 X.K H a xs)(h':bq X.K H a ys):False:=by
 obtain⟨its,_,p,_⟩:=I.list h;obtain⟨its',_,q,_⟩:=I.tuple h';exact ne_of_list_tuple p.isList (show s.heap.IsTuple a its'.toArray from q) rfl
mutual
theorem DR.inj(I:Inv X pins σ H s):∀{d e:Dt} {v:V},DR X.K H d v->DR X.K H e v->d=e
 |_,_,_,.non,h=>by cases h;rfl
 |_,_,_,.bl _,h=>by cases h;rfl
 |_,_,_,.int _,h=>by cases h;rfl
 |_,_,_,.str _,h=>by cases h;rfl
 |_,_,_,.tup p q,h=>by
  cases h with
  |tup p' q' =>
   have e:=I.oV p p';subst e;rw[dk.inj I q q']
  |lst p' q'=>exact(BK I p' p).elim
 |_,_,_,.lst p q,h=>by
  cases h with
  |lst p' q' =>
   have e:=I.rB p p';subst e;rw[dk.inj I q q']
  |tup p' q'=>exact(BK I p p').elim
theorem dk.inj(I:Inv X pins σ H s):∀{ds es:List Dt} {vs:List V},dk X.K H ds vs->dk X.K H es vs->ds=es
 |_,_,_,.nil,h=>by cases h;rfl
 |_,_,_,.cons p q,h=>by
  cases h with
  |cons p' q'=>rw[DR.inj I p p',dk.inj I q q']
end
theorem dk.len:∀{ds:List Dt} {vs:List V},dk X.K H ds vs->ds.length=vs.length
 |_,_,.nil=>rfl
 |_,_,.cons _ q=>by simp[dk.len q]
theorem dk.at:∀{ds:List Dt} {vs:List V} {i:Nat} {v:V},dk X.K H ds vs->vs[i]?=some v->∃d,ds[i]?=some d/\DR X.K H d v
 |_,_,_,_,.nil,e=>by simp at e
 |_,_,0,_,.cons r _,e=>by simp at e;subst e;exact⟨_,rfl,r⟩
 |_,_,i+1,v,.cons _ q,e=>by
  obtain⟨d,h1,h2⟩:=dk.at (i:=i) (v:=v) q (by simpa using e);exact⟨d,by simpa using h1,h2⟩
def gF(ds es:List Dt)(i:Nat):Bool:=match ds[i]?,es[i]? with
 |some d,some e=>aR d e
 |_,_=>true
theorem Nj(ds es:List Dt)(d e:Dt)(n:Nat):(aW (n+1)).all (gF (d::ds) (e::es))=(aR d e&&(aW n).all (gF ds es)):=by
 rw[Iu,ma,Iv];rfl
theorem sg:∀ds es:List Dt,fK ds es=((aW (min ds.length es.length)).all (gF ds es)&&ds.length==es.length)
 |[],[]=>rfl
 |[],_::_=>by simp[fK]
 |_::_,[]=>by simp[fK]
 |d::ds,e::es=>by
  have ih:=sg ds es;simp only[fK,cf];rw[Iw,Nj,ih,Iy];congr 2;rw[e_];simp
theorem vG:∀{ds:List Dt} {i:Nat} {d:Dt},ds[i]?=some d->cK d<=dv ds
 |[],_,_,e=>by simp at e
 |x::xs,0,_,e=>by simp at e;subst e;simp only[dv];lia
 |x::xs,i+1,d,e=>by
  have:=vG (ds:=xs) (i:=i) (d:=d) (by simpa using e);simp only[dv];lia
theorem sh{xs:List V}{us:List Value}{j:Nat}(r:Vals xs us)(h:j<us.toArray.size):∃x,xs[j]?=some x/\RelV x us.toArray[j]:=by
 have hl:=r.length;have hj:j<xs.length:=by simpa[hl]using h
 have e:xs[j]?=some xs[j]:=aV hj;obtain⟨u,hu,ru⟩:=r.get e;refine⟨_,e,?_⟩;have:us.toArray[j]=u:=by
  have z:us[j]?=some us[j]:=aV (by simpa using h);rw[z]at hu;simpa using cS hu
 rw[this];exact ru
theorem units_in1{A:Around}:A.in1.units=A.units+1:=rfl
theorem vH(I:Inv X pins σ H s):∀(n:Nat) (A:Around) (d e:Dt) (v v':V) (u u':Value),cK d<=n->A.units+n<cLine->DR X.K H d v->DR X.K H e v'->RelV v u->RelV v' u' ->
 RcAt A s u u' (aR d e)/\EqAt A s u u' (aR d e):=by
 intro n
 induction n with
 |zero =>
  intro A d e v v' u u' hn hu hd he r r';have hu':A.units<cLine:=by lia
  cases hd with
  |non =>
   cases r;cases he with
   |non=>cases r';exact⟨RcAt.none_none,EqAt.same _⟩
   |bl b=>cases r';exact⟨RcAt.none_bool b,EqAt.none_bool b⟩
   |int b=>obtain⟨t,rfl⟩:=r';exact⟨RcAt.none_int b t,EqAt.none_int b t⟩
   |str b=>obtain⟨t,rfl⟩:=r';exact⟨RcAt.none_str b t,EqAt.none_str b t⟩
   |tup p q =>
    cases r';obtain⟨its,_,ht,_⟩:=I.tuple p;exact⟨RcAt.none_tuple ht hu',EqAt.none_tuple ht hu'⟩
   |lst p q =>
    cases r';obtain⟨its,_,ht,_⟩:=I.list p;exact⟨RcAt.none_list ht.isList hu',EqAt.none_list ht.isList hu'⟩
  |bl a =>
   cases r;cases he with
   |non=>cases r';exact⟨RcAt.bool_none a,EqAt.bool_none a⟩
   |bl b=>cases r';exact⟨RcAt.bool_bool a b,EqAt.bool_bool a b⟩
   |int b=>obtain⟨t,rfl⟩:=r';exact⟨RcAt.bool_int a b t,EqAt.bool_int a b t⟩
   |str b=>obtain⟨t,rfl⟩:=r';exact⟨RcAt.bool_str a b t,EqAt.bool_str a b t⟩
   |tup p q =>
    cases r';obtain⟨its,_,ht,_⟩:=I.tuple p;exact⟨RcAt.bool_tuple a ht hu',EqAt.bool_tuple a ht hu'⟩
   |lst p q =>
    cases r';obtain⟨its,_,ht,_⟩:=I.list p;exact⟨RcAt.bool_list a ht.isList hu',EqAt.bool_list a ht.isList hu'⟩
  |int a =>
   obtain⟨t0,rfl⟩:=r;cases he with
   |non=>cases r';exact⟨RcAt.int_none a t0,EqAt.int_none a t0⟩
   |bl b=>cases r';exact⟨RcAt.int_bool a t0 b,EqAt.int_bool a t0 b⟩
   |int b=>obtain⟨t,rfl⟩:=r';exact⟨RcAt.int_int a t0 b t,EqAt.int_int a t0 b t⟩
   |str b=>obtain⟨t,rfl⟩:=r';exact⟨RcAt.int_str a t0 b t,EqAt.int_str a t0 b t⟩
   |tup p q =>
    cases r';obtain⟨its,_,ht,_⟩:=I.tuple p;exact⟨RcAt.int_tuple a t0 ht hu',EqAt.int_tuple a t0 ht hu'⟩
   |lst p q =>
    cases r';obtain⟨its,_,ht,_⟩:=I.list p;exact⟨RcAt.int_list a t0 ht.isList hu',EqAt.int_list a t0 ht.isList hu'⟩
  |str a =>
   obtain⟨t0,rfl⟩:=r;cases he with
   |non=>cases r';exact⟨RcAt.str_none a t0,EqAt.str_none a t0⟩
   |bl b=>cases r';exact⟨RcAt.str_bool a t0 b,EqAt.str_bool a t0 b⟩
   |int b=>obtain⟨t,rfl⟩:=r';exact⟨RcAt.str_int a t0 b t,EqAt.str_int a t0 b t⟩
   |str b=>obtain⟨t,rfl⟩:=r';exact⟨RcAt.str_str a t0 b t,EqAt.str_str a t0 b t⟩
   |tup p q =>
    cases r';obtain⟨its,_,ht,_⟩:=I.tuple p;exact⟨RcAt.str_tuple a t0 ht hu',EqAt.str_tuple a t0 ht hu'⟩
   |lst p q =>
    cases r';obtain⟨its,_,ht,_⟩:=I.list p;exact⟨RcAt.str_list a t0 ht.isList hu',EqAt.str_list a t0 ht.isList hu'⟩
  |tup p q=>simp[cK]at hn
  |lst p q=>simp[cK]at hn
 |succ n ih =>
  intro A d e v v' u u' hn hu hd he r r';by_cases h0:cK d<=n
  ·exact ih A d e v v' u u' h0 (by lia) hd he r r'
  have hu':A.units<cLine:=by lia
  have items:∀{xs ys:List V} {ds es:List Dt} {its its2:List Value},dv ds<=n->dk X.K H ds xs->dk X.K H es ys->Vals xs its->Vals ys its2 ->
   ∀j (h1:j<its.toArray.size) (h2:j<its2.toArray.size),EqAt A.in1 s its.toArray[j] its2.toArray[j] (gF ds es j):=λ{xs ys ds es its its2} hdd q q' rv rv' j h1 h2=>by
   obtain⟨x,hx,rx⟩:=sh rv h1;obtain⟨y,hy,ry⟩:=sh rv' h2;obtain⟨dx,jV,oN⟩:=q.at hx;obtain⟨dy,oO,oP⟩:=q'.at hy;have AD:=vG jV;have:=(ih A.in1 dx dy x y _ _ (by lia) (by rw[units_in1];lia) oN oP rx ry).2;unfold gF;rw[jV,oO];exact this
  cases hd with
  |non=>exact absurd (dQ _) h0
  |bl _=>exact absurd (dQ _) h0
  |int _=>exact absurd (dQ _) h0
  |str _=>exact absurd (dQ _) h0
  |@tup a xs ds p q =>
   cases r;obtain⟨its,rv,ht,_⟩:=I.tuple p;cases he with
   |non=>cases r';exact⟨RcAt.tuple_none ht hu',EqAt.tuple_none ht hu'⟩
   |bl b=>cases r';exact⟨RcAt.tuple_bool b ht hu',EqAt.tuple_bool b ht hu'⟩
   |int b=>obtain⟨t,rfl⟩:=r';exact⟨RcAt.tuple_int b t ht hu',EqAt.tuple_int b t ht hu'⟩
   |str b=>obtain⟨t,rfl⟩:=r';exact⟨RcAt.tuple_str b t ht hu',EqAt.tuple_str b t ht hu'⟩
   |@tup b ys es p' q' =>
    cases r';obtain⟨its2,gG,dD,_⟩:=I.tuple p';have hdd:dv ds<=n:=by simp only[cK]at hn;lia
    have e:((aW (min its.toArray.size its2.toArray.size)).all (gF ds es)&&its.toArray.size==its2.toArray.size)=aR (.tup ds) (.tup es):=by
     simp only[aR];rw[sg,q.len,q'.len,rv.length,gG.length];simp
    have rc:RcAt A s (.ref a) (.ref b) (aR (.tup ds) (.tup es)):=by
     rw[<-e];exact RcAt.tuples ht dD hu' (items hdd q q' rv gG)
    refine⟨rc,?_⟩;by_cases hab:a=b
    ·subst hab;have ed:Dt.tup ds=Dt.tup es:=DR.inj I (.tup p q) (.tup p' q');rw[<-ed,j8];exact EqAt.same _
    ·exact EqAt.of_refs hab rc
   |@lst b ys es p' q' =>
    cases r';obtain⟨its2,_,dD,_⟩:=I.list p';exact⟨RcAt.tuple_list ht dD.isList hu',EqAt.tuple_list ht dD.isList hu'⟩
  |@lst a xs ds p q =>
   cases r;obtain⟨its,rv,ht,_⟩:=I.list p;cases he with
   |non=>cases r';exact⟨RcAt.list_none ht.isList hu',EqAt.list_none ht.isList hu'⟩
   |bl b=>cases r';exact⟨RcAt.list_bool b ht.isList hu',EqAt.list_bool b ht.isList hu'⟩
   |int b=>obtain⟨t,rfl⟩:=r';exact⟨RcAt.list_int b t ht.isList hu',EqAt.list_int b t ht.isList hu'⟩
   |str b=>obtain⟨t,rfl⟩:=r';exact⟨RcAt.list_str b t ht.isList hu',EqAt.list_str b t ht.isList hu'⟩
   |@tup b ys es p' q' =>
    cases r';obtain⟨its2,_,dD,_⟩:=I.tuple p';exact⟨RcAt.list_tuple ht.isList dD hu',EqAt.list_tuple ht.isList dD hu'⟩
   |@lst b ys es p' q' =>
    cases r';obtain⟨its2,gG,dD,_⟩:=I.list p';have hdd:dv ds<=n:=by simp only[cK]at hn;lia
    have rc:RcAt A s (.ref a) (.ref b) (aR (.lst ds) (.lst es)):=by
     simp only[aR];rw[sg,q.len,q'.len,rv.length,gG.length];by_cases hsz:its.length=its2.length
     ·have e:((aW (min its.length its2.length)).all (gF ds es)&&its.length==its2.length)=(aW its.toArray.size).all (gF ds es):=by
       simp[hsz]
      rw[e];exact RcAt.lists ht.isList dD.isList (by simpa using hsz) hu' (items hdd q q' rv gG)
     ·have e:((aW (min its.length its2.length)).all (gF ds es)&&its.length==its2.length)=false:=by
       rw[beq_eq_false_iff_ne.mpr hsz,Jd]
      rw[e];exact RcAt.lists_lengths ht.isList dD.isList (by simpa using hsz) hu'
    refine⟨rc,?_⟩;by_cases hab:a=b
    ·subst hab;have ed:Dt.lst ds=Dt.lst es:=DR.inj I (.lst p q) (.lst p' q');rw[<-ed,j8];exact EqAt.same _
    ·exact EqAt.of_refs hab rc
theorem vI{n:Nat}(hu:X.A.units+n<cLine):bT X (compareOp .Eq) (λx y H Q=>∃d e,DR X.K H d x/\DR X.K H e y/\cK d<=n/\Q (.bl (aR d e)) H):=by
 intro pins s σ H x y v u Q I rx ry h;obtain⟨d,e,hd,he,hn,q⟩:=h;exact(vH I n X.A d e x y v u hn hu hd he rx ry).1 X.prog X.w X.xe _ ⟨.bl (aR d e),H,I,rfl,q⟩
end
end EE
namespace EE
open PySem PySem.Spec PyProof.Rows L2
def textOf(cs:List Nat):Str:=⟨cs.toArray⟩
theorem fL(cs:List Nat):(textOf cs).length=cs.length:=by simp[textOf,uw]
theorem pG(a b:List Nat):textOf a++textOf b=textOf (a++b):=by
 show uA (textOf a) (textOf b)=textOf (a++b);simp[textOf,uA]
def jo(cs:List Nat)(lo hi:Option Int):List Nat:=(cs.drop (HT.aI cs.length 0 lo)).take (HT.aI cs.length cs.length hi-HT.aI cs.length 0 lo)
theorem Nk(lo hi:Option Int)(n:Nat):Jk lo hi 1 n=sliceRange ((HT.aI n 0 lo:Nat):Int) ((HT.aI n n hi:Nat):Int) 1:=by
 have a:∀(i:Int) (d:Nat),max 0 (min (if i<0 then i+(n:Int) else i) (n:Int))=((HT.aI n d (some i):Nat):Int):=by
  intro i d;simp only[HT.aI];by_cases h:i<0
  ·simp only[h,if_true];lia
  ·simp only[h,if_false];lia
 unfold Jk;cases lo with
 |none =>
  cases hi with
  |none=>rfl
  |some j =>
   show sliceRange (0:Int) (max 0 (min (if j<0 then j+(n:Int) else j) (n:Int))) 1=_;rw[a j n];rfl
 |some i =>
  cases hi with
  |none =>
   show sliceRange (max 0 (min (if i<0 then i+(n:Int) else i) (n:Int))) (n:Int) 1=_;rw[a i 0];rfl
  |some j =>
   show sliceRange (max 0 (min (if i<0 then i+(n:Int) else i) (n:Int))) (max 0 (min (if j<0 then j+(n:Int) else j) (n:Int))) 1=_;rw[a i 0,a j n]
theorem Nl(x:Str)(lo hi:Option Int):uB x lo hi=textOf (jo x.cps.toList lo hi):=by
 have hl:x.cps.toList.length=x.length:=by simp[uw]
 have l1:HT.aI x.length 0 lo<=x.length:=HT.vq _ _ (dQ _) lo;have l2:HT.aI x.length x.length hi<=x.length:=HT.vq _ _ (aX _) hi;unfold uB jo;rw[Nk,sliceRange_one,hl,pick_run];by_cases h:((1:Int)==1&&((aW (HT.aI x.length x.length hi-HT.aI x.length 0 lo)).map (HT.aI x.length 0 lo+·)).length==x.length)=true
 ·rw[if_pos h];simp only[aA,qT,fE,beq_iff_eq]at h;have h2:=h.2;have e1:HT.aI x.length 0 lo=0:=by lia
  have e2:HT.aI x.length x.length hi=x.length:=by lia
  rw[e1,e2,oC,oD,<-hl,ir];simp[textOf]
 ·rw[if_neg h];rfl
def BL:V->Option Int->Option Int->Hp->VK->Prop:=λx lo hi H Q=>∃z,x=.str z/\z.length<=sizeLine/\Q (.str (textOf (jo z.cps.toList lo hi))) H
theorem mE{X:Cx}:mz X BL:=by
 intro pins s σ H x v vl vu lo hi sl Q I rx hs pl pu h;obtain⟨z,rfl,hz,q⟩:=h;obtain⟨t,rfl⟩:=rx;refine⟨"str",_,slot_str_getitem.lookup,zK s z t,?_⟩;have fin:∀t' k,EP X pins σ Q (.str (uB z lo hi) t') {s with toks:=k}:=λt' k=>⟨.str _,H,I.tok _,⟨_,rfl⟩,by rw[Nl];exact q⟩;have len:(uB z lo hi).length<=sizeLine:=bX (Txt.slice_le z lo hi) hz;obtain⟨o,ho,hc,hd⟩:=hs;cases pl with
 |none =>
  cases pu with
  |none=>exact uC (l:=none) (u:=none) (st:=none) ⟨o,ho,hc,hd⟩ rfl (uD ⟨len,fin⟩)
  |int j tj=>exact uC (l:=none) (u:=some (j,tj)) (st:=none) ⟨o,ho,hc,hd⟩ rfl (uD ⟨len,fin⟩)
 |int i ti =>
  cases pu with
  |none=>exact uC (l:=some (i,ti)) (u:=none) (st:=none) ⟨o,ho,hc,hd⟩ rfl (uD ⟨len,fin⟩)
  |int j tj=>exact uC (l:=some (i,ti)) (u:=some (j,tj)) (st:=none) ⟨o,ho,hc,hd⟩ rfl (uD ⟨len,fin⟩)
theorem BM{α β:Type}(f:α->β->Sem (ForInStep β))(g:β->α->β):∀(l:List α) (b:β),(∀x∈l,∀b,f x b=pure (.yield (g b x)))->forIn l b f=pure (l.foldl g b)
 |[],b,_=>rfl
 |x::l,b,h=>by
  rw[qU,h x bY b];exact BM f g l (g b x) λy hy=>h y (cg _ hy)
def jq(env:Env)(acc:List (Str×Addr))(y:Str×NameKind):List (Str×Addr):=if y.2 == .free then(y.1,(env.cells.lookup y.1).getD 0)::acc else acc
def gH(scope:Scope)(env:Env):List (Str×Addr):=scope.names.foldl (jq env) []
theorem BN{scope:Scope}{env:Env}(h:∀y∈scope.names,y.2=.free->∃c,env.cells.lookup y.1=some c):closureFor scope env=pure (gH scope env):=by
 simp only[closureFor];rw[BM _ (jq env) scope.names [] (λy hy b=>?_)]
 ·rfl
 ·obtain⟨n,k⟩:=y;by_cases hk:k=.free
  ·subst hk;obtain⟨c,e⟩:=h _ hy rfl;have e':env.cells.lookup n=some c:=e;simp only[jq,beq_self_eq_true,if_true,cellOf,e',Jl];rfl
  ·have:(k==NameKind.free)=false:=by simpa using hk
   simp only[jq,this,i_,if_false]
theorem BO{env:Env}:∀(names:List (Str×NameKind)) (acc:List (Str×Addr)),(∀y∈names,y.2=.free->∃c,env.cells.lookup y.1=some c)->(∀y c,acc.lookup y=some c->env.cells.lookup y=some c) ->
 ∀y c,(names.foldl (jq env) acc).lookup y=some c->env.cells.lookup y=some c
 |[],acc,_,h,y,c,e=>h y c e
 |(n,k)::r,acc,hf,h,y,c,e=>by
  rw[zX]at e;refine BO r _ (λz hz=>hf z (cg _ hz)) (λy c e=>?_) y c e;unfold jq at e;by_cases hk:k=.free
  ·subst hk;obtain⟨c0,e0⟩:=hf _ bY rfl;have e0':env.cells.lookup n=some c0:=e0;simp only[beq_self_eq_true,if_true,e0',Jl,gW]at e;by_cases hy:y=n
   ·subst hy;simp at e;rw[<-e];exact e0'
   ·have hb:(y==n)=false:=by simpa using hy
    simp only[hb]at e;exact h y c e
  ·have hb:(k==NameKind.free)=false:=by simpa using hk
   simp only[hb,i_,if_false]at e;exact h y c e
theorem vJ{env:Env}:∀(names:List (Str×NameKind)) (acc:List (Str×Addr)) (y:Str),(y,NameKind.free)∈names∨(∃c,acc.lookup y=some c)->∃c,(names.foldl (jq env) acc).lookup y=some c
 |[],acc,y,h=>by
  rcases h with h|h
  ·simp at h
  ·exact h
 |(n,k)::r,acc,y,h=>by
  rw[zX];refine vJ r _ y ?_;rcases h with h|⟨c,h⟩
  ·rcases a9.mp h with h|h
   ·cases h;exact .inr ⟨(env.cells.lookup n).getD 0,by simp[jq]⟩
   ·exact .inl h
  ·refine .inr ?_;unfold jq;by_cases hk:k=.free
   ·subst hk;simp only[beq_self_eq_true,if_true,gW];by_cases hy:y=n
    ·subst hy;simp
    ·have hb:(y==n)=false:=by simpa using hy
     simp only[hb];exact⟨c,h⟩
   ·have hb:(k==NameKind.free)=false:=by simpa using hk
    simp only[hb,i_,if_false];exact⟨c,h⟩
theorem BP{scope:Scope}{env:Env}{y:Str}{k:NameKind}(h:(relabel scope env).names.lookup y=some k):∃k',(y,k')∈scope.names/\(k=k'∨(k'=.free/\k=.cell)):=by
 have go:∀(l:List (Str×NameKind)),(l.map λ(n,k)=>if(k == .free&&env.scope.kind == .function&&env.kindOf n==some .cell) then(n,NameKind.cell) else(n,k)).lookup y=some k->∃k',(y,k')∈l/\(k=k'∨(k'=.free/\k=.cell)):=by
  intro l
  induction l with
  |nil=>intro h;simp at h
  |cons a r ih =>
   obtain⟨n,k0⟩:=a;intro h;rw[bo]at h;by_cases hc:(k0==NameKind.free&&env.scope.kind == .function&&env.kindOf n==some .cell)=true
   ·simp only[hc,if_true,gW]at h;by_cases hy:y=n
    ·subst hy;simp only[beq_self_eq_true]at h;refine⟨k0,bY,.inr ⟨?_,by simpa using h.symm⟩⟩;simp only[fE]at hc;simpa using hc.1.1
    ·have hb:(y==n)=false:=by simpa using hy
     simp only[hb]at h;obtain⟨k',m,q⟩:=ih h;exact⟨k',cg _ m,q⟩
   ·dsimp only at h;rw[if_neg hc]at h;by_cases hy:y=n
    ·subst hy;simp at h;exact⟨k0,bY,.inl h.symm⟩
    ·have hb:(y==n)=false:=by simpa using hy
     simp only[gW,hb]at h;obtain⟨k',m,q⟩:=ih h;exact⟨k',cg _ m,q⟩
 exact go scope.names h
theorem Nn{scope:Scope}{env:Env}{y:Str}(hk:env.scope.kind=.function)(hc:env.kindOf y=some .cell)(h:scope.names.lookup y=some .free):(relabel scope env).names.lookup y=some .cell:=by
 have go:∀(l:List (Str×NameKind)),l.lookup y=some .free->(l.map λ(n,k)=>if(k == .free&&env.scope.kind == .function&&env.kindOf n==some .cell) then(n,NameKind.cell) else(n,k)).lookup y=some .cell:=by
  intro l
  induction l with
  |nil=>intro h;simp at h
  |cons a r ih =>
   obtain⟨n,k0⟩:=a;intro h;rw[bo];by_cases hy:y=n
   ·subst hy;simp only[gW,beq_self_eq_true,jR]at h;subst h;simp[hk,hc]
   ·have hb:(y==n)=false:=by simpa using hy
    simp only[gW,hb]at h;by_cases hcc:(k0==NameKind.free&&env.scope.kind == .function&&env.kindOf n==some .cell)=true
    ·simp only[hcc,if_true,gW,hb];exact ih h
    ·dsimp only;rw[if_neg hcc];simp only[gW,hb];exact ih h
 exact go scope.names h
def vK(X:Cx)(scope:Scope)(C:Addr)(N:List Str)(fp:List Addr)(pins:List (Addr×Obj))(s:Shared)(H:Hp):Cx where
 prog:=X.prog
 w:=X.w
 K:=X.K
 mg:=X.mg
 base:=X.base
 A:=X.A
 N:=N
 s₀:=s
 H₀:=H
 env:=compEnvC scope (gH scope X.env) C X.env
 outer:=X.stack
 stack:=X.stack
 ex:=fp
 fn:=λ_=>false
 calm:=true
 pn:=X.pn++pins
 xe:=λ_ _=>False
def pick(σ:L2.St)(js:List Nat):L2.St:=js.map λj=>(σ[j]?).getD none
section
variable{X:Cx}{elt iter:Expr}{x:Str}{px pos:Pos}{scope bK:Scope}{M N:List Str}{js:List Nat}{wi:TI}{te:TE}
theorem mF(hjs:M.map some=js.map λj=>N[j]?):(∀(k:Nat) (y:Str),M[k]?=some y->∃j:Nat,js[k]?=some j/\N[j]?=some y)/\js.length=M.length:=by
 constructor
 ·intro k y h;have e:(M.map some)[k]?=some (some y):=by rw[aJ,h];rfl
  rw[hjs,aJ]at e;cases q:js[k]? with
  |none=>rw[q]at e;cases e
  |some j =>
   rw[q]at e;exact⟨j,rfl,by simpa using e⟩
 ·have:=congrArg mj hjs;simpa using this.symm
end
def j9(K:ak)(H:Hp)(a:Addr)(xs:List V):Prop:=(∃o,H a=some (.c6 o (.lst xs))) ∨
 ∃(o:Obj) (its:Array Value) (n:Nat),K.lookup a=some o/\o.cls=.type "list"/\o.dict=none/\o.data=.seq its n/\its.size<=sizeLine/\Vals xs its.toList
theorem j9.sq{K:ak}{H:Hp}{a:Addr}{xs:List V}(h:j9 K H a xs):a6 K H a xs:=by
 rcases h with⟨o,h⟩|h
 ·exact .inl (.inr ⟨o,h⟩)
 ·exact .inr h
theorem j9.of{K:ak}{H:Hp}{a:Addr}{xs:List V}(h:a6 K H a xs)(o:pz H):j9 K H a xs:=by
 rcases h with(h|h)|h
 ·rcases o a with e|⟨ob,ys,e⟩
  ·rw[e]at h;cases h
  ·rw[e]at h;cases h
 ·exact .inl h
 ·exact .inr h
theorem Np:bootBuiltins "reversed"=some (.type "reversed"):=by cbv
end EE
namespace E3
open PySem PySem.Spec PyProof.Rows L2 EE
inductive D where
 |non|bl (b:Bool)|int (i:Int)|str (x:Str)|tup (xs:List D)|bA (xs:List D)|ref (a:Addr)|ty (n:String)
inductive O where
 |lst (xs:List D)|j_ (kvs:List (Key×D))|exc (C:Addr)|ins (C:Addr) (fs:List (Str×D))|tab (kvs:List (DK×D))
abbrev af:=Addr->Option O
abbrev aF:=List (Option D)
abbrev K3:=D->af->Prop
abbrev X3:=Addr->Addr->af->Prop
abbrev bE:=aF->X3
def up(S:af)(a:Addr)(o:O):af:=λb=>if b=a then some o else S b
def emp:af:=λ_=>none
theorem az{S:af}{a:Addr}{o:O}:up S a o a=some o:=if_pos rfl
theorem bj{S:af}{a b:Addr}{o:O}(h:b≠a):up S a o b=S b:=if_neg h
theorem vL{S:af}{a:Addr}{o u:O}:up (up S a o) a u=up S a u:=by
 funext b;unfold up;split<;>rfl
theorem ne3{S:af}{a b:Addr}{o:O}(h:S a=some o)(h':S b=none):a≠b:=by
 intro e;subst e;rw[h]at h';cases h'
theorem aM{S:af}{a b:Addr}{o u:O}(h:S b=some u)(h':S a=none):up S a o b=some u:=by rw[bj (ne3 h h')];exact h
structure Zt where
 p:Addr->Prop
 base:Hp
instance:CoeFun Zt (λ_=>Addr->Prop):=⟨Zt.p⟩
def Nq(a C:Addr):Heap->Prop:=λh=>∃o,h.get? a=some o/\o.cls=.ref C/\∃xs n,o.data=.fields xs/\n=xs.size
mutual
inductive Rp(K:ak)(H:Hp):D->V->Prop where
 |non:Rp K H .non .non
 |bl (b:Bool):Rp K H (.bl b) (.bl b)
 |int (i:Int):Rp K H (.int i) (.int i)
 |str (x:Str):Rp K H (.str x) (.str x)
 |ref (a:Addr):Rp K H (.ref a) (.ref a)
 |ty (n:String):Rp K H (.ty n) (.ty n)
 |tup {a:Addr} {xs:List V} {ds:List D}:bq K H a xs->aN K H ds xs->Rp K H (.tup ds) (.ref a)
 |bA {a:Addr} {xs:List V} {ds:List D}:j9 K H a xs->aN K H ds xs->Rp K H (.bA ds) (.ref a)
inductive aN(K:ak)(H:Hp):List D->List V->Prop where
 |nil:aN K H [] []
 |cons {d:D} {v:V} {ds:List D} {vs:List V}:Rp K H d v->aN K H ds vs->aN K H (d::ds) (v::vs)
end
structure Kp(Z:Zt)(H H':Hp):Prop where
 tup:∀b xs,H b=some (.tup xs)->H' b=some (.tup xs)
 c6:∀b o u,H b=some (.c6 o u)->H' b=some (.c6 o u)
 hid:∀b,Z b->H' b=H b
theorem Kp.refl(Z:Zt)(H:Hp):Kp Z H H:=⟨λ_ _ h=>h,λ_ _ _ h=>h,λ_ _=>rfl⟩
theorem Kp.trans{Z:Zt}{H H1 H2:Hp}(a:Kp Z H H1)(b:Kp Z H1 H2):Kp Z H H2 :=
 ⟨λc xs h=>b.tup _ _ (a.tup _ _ h),λc o u h=>b.c6 _ _ _ (a.c6 _ _ _ h),λc z=>(b.hid c z).trans (a.hid c z)⟩
theorem Kp.h_{K:ak}{Z:Zt}{H H':Hp}{a:Addr}{xs:List V}(k:Kp Z H H')(h:bq K H a xs):bq K H' a xs:=by
 exact k.tup _ _ h
theorem Kp.vM{K:ak}{Z:Zt}{H H':Hp}{a:Addr}{xs:List V}(k:Kp Z H H')(h:j9 K H a xs):j9 K H' a xs:=by
 rcases h with⟨o,h⟩|h
 ·exact .inl ⟨o,k.c6 _ _ _ h⟩
 ·exact .inr h
mutual
theorem Rp.mono{K:ak}{Z:Zt}{H H':Hp}(k:Kp Z H H'):∀{d:D} {v:V},Rp K H d v->Rp K H' d v
 |_,_,.non=>.non
 |_,_,.bl b=>.bl b
 |_,_,.int i=>.int i
 |_,_,.str x=>.str x
 |_,_,.ref a=>.ref a
 |_,_,.ty n=>.ty n
 |_,_,.tup h r=>.tup (k.h_ h) (aN.mono k r)
 |_,_,.bA h r=>.bA (k.vM h) (aN.mono k r)
theorem aN.mono{K:ak}{Z:Zt}{H H':Hp}(k:Kp Z H H'):∀{ds:List D} {vs:List V},aN K H ds vs->aN K H' ds vs
 |_,_,.nil=>.nil
 |_,_,.cons h r=>.cons (Rp.mono k h) (aN.mono k r)
end
section
variable{K:PySem.W.Frag}{H:Hp}
theorem aN.len:∀{ds:List D} {vs:List V},aN K H ds vs->ds.length=vs.length
 |_,_,.nil=>rfl
 |_,_,.cons _ r=>by simp[aN.len r]
theorem aN.at:∀{ds:List D} {vs:List V} {i:Nat} {d:D},aN K H ds vs->ds[i]?=some d->∃v,vs[i]?=some v/\Rp K H d v
 |_,_,_,_,.nil,e=>by simp at e
 |_,_,0,_,.cons r _,e=>by simp at e;subst e;exact⟨_,rfl,r⟩
 |_,_,i+1,d,.cons _ q,e=>by
  obtain⟨v,h1,h2⟩:=aN.at (i:=i) (d:=d) q (by simpa using e);exact⟨v,by simpa using h1,h2⟩
theorem aN.append:∀{ds es:List D} {vs ws:List V},aN K H ds vs->aN K H es ws->aN K H (ds++es) (vs++ws)
 |_,_,_,_,.nil,s=>s
 |_,_,_,_,.cons r t,s=>.cons r (aN.append t s)
theorem aN.take:∀{ds:List D} {vs:List V} (n:Nat),aN K H ds vs->aN K H (ds.take n) (vs.take n)
 |_,_,0,_=>.nil
 |_,_,_+1,.nil=>.nil
 |_,_,n+1,.cons r t=>.cons r (aN.take n t)
theorem aN.drop:∀{ds:List D} {vs:List V} (n:Nat),aN K H ds vs->aN K H (ds.drop n) (vs.drop n)
 |_,_,0,r=>r
 |_,_,_+1,.nil=>.nil
 |_,_,n+1,.cons _ t=>aN.drop n t
theorem aN.set{d:D}{v:V}(r:Rp K H d v):∀{ds:List D} {vs:List V} (i:Nat),aN K H ds vs->aN K H (ds.set i d) (vs.set i v)
 |_,_,_,.nil=>.nil
 |_,_,0,.cons _ t=>.cons r t
 |_,_,i+1,.cons q t=>.cons q (aN.set r i t)
theorem aN.snoc_inv:∀{ds:List D} {d:D} {vs:List V},aN K H (ds++[d]) vs->∃ws w,vs=ws++[w]/\aN K H ds ws/\Rp K H d w
 |[],d,_,.cons r .nil=>⟨[],_,rfl,.nil,r⟩
 |_::ds,d,_,.cons r q=>by
  obtain⟨ws,w,rfl,a,b⟩:=aN.snoc_inv (ds:=ds) q;exact⟨_::ws,w,rfl,.cons r a,b⟩
theorem aN.ints:∀(ns:List Int),aN K H (ns.map D.int) (ns.map V.int)
 |[]=>.nil
 |n::ns=>.cons (.int n) (aN.ints ns)
end
def OR(K:ak)(H:Hp)(a:Addr):O->Prop
 | .lst ds=>∃vs,H a=some (.lst vs)/\aN K H ds vs
 | .j_ kvs=>∃ws,H a=some (.dK ws)/\Paired (λ(p:Key×D) (q:Key×V)=>p.1=q.1/\Rp K H p.2 q.2) kvs ws
 | .exc C=>H a=some (.ext (Nq a C))
 | .ins C fs=>∃dx ws,H a=some (.ins C dx ws)/\Paired (λ(p:Str×D) (q:Str×V)=>p.1=q.1/\Rp K H p.2 q.2) fs ws
 | .tab kvs=>∃ws,H a=some (.dT ws)/\Paired (λ(p:DK×D) (q:DK×V)=>p.1=q.1/\Rp K H p.2 q.2) kvs ws
structure Rl(K:ak)(Z:Zt)(S:af)(H:Hp):Prop where
 obj:∀a o,S a=some o->OR K H a o
 hid:∀a,Z a->S a=none/\H a≠none
 old:Kp Z Z.base H
theorem OR.there{K:ak}{H:Hp}{a:Addr}{o:O}(h:OR K H a o):H a≠none:=by
 cases o with
 |lst ds=>obtain⟨vs,e,_⟩:=h;rw[e];simp
 |j_ ds=>obtain⟨vs,e,_⟩:=h;rw[e];simp
 |tab ds=>obtain⟨vs,e,_⟩:=h;rw[e];simp
 |exc C=>have e:H a=_:=h;rw[e];simp
 |ins C fs=>obtain⟨dx,vs,e,_⟩:=h;rw[e];simp
theorem OR.Nr{K:ak}{H:Hp}{a:Addr}{o:O}(h:OR K H a o):(∀xs,H a≠some (.tup xs))/\∀q u,H a≠some (.c6 q u):=by
 cases o with
 |lst ds=>obtain⟨vs,e,_⟩:=h;rw[e];exact⟨λ_ z=>(nomatch z),λ_ _ z=>(nomatch z)⟩
 |j_ ds=>obtain⟨vs,e,_⟩:=h;rw[e];exact⟨λ_ z=>(nomatch z),λ_ _ z=>(nomatch z)⟩
 |tab ds=>obtain⟨vs,e,_⟩:=h;rw[e];exact⟨λ_ z=>(nomatch z),λ_ _ z=>(nomatch z)⟩
 |exc C=>have e:H a=_:=h;rw[e];exact⟨λ_ z=>(nomatch z),λ_ _ z=>(nomatch z)⟩
 |ins C fs=>obtain⟨dx,vs,e,_⟩:=h;rw[e];exact⟨λ_ z=>(nomatch z),λ_ _ z=>(nomatch z)⟩
theorem Rl.fresh{K:ak}{Z:Zt}{S:af}{H:Hp}{p:Addr}(r:Rl K Z S H)(h:H p=none):S p=none/\¬Z p:=by
 constructor
 ·cases e:S p with
  |none=>rfl
  |some o=>exact absurd h (r.obj p o e).there
 ·exact λz=>(r.hid p z).2 h
theorem Kp.new{Z:Zt}{H:Hp}{p:Addr}{o:HO}(h:H p=none)(hz:¬Z p):Kp Z H (upd H p o) :=
 ⟨λb xs e=>by rw[a_ (gz e h)];exact e,λb q u e=>by rw[a_ (gz e h)];exact e,λb z=>a_ λe=>hz (e▸z)⟩
theorem Kp.at{K:ak}{Z:Zt}{S:af}{H:Hp}{p:Addr}{o:O}{q:HO}(r:Rl K Z S H)(h:S p=some o):Kp Z H (upd H p q):=by
 have n:=(r.obj p o h).Nr;refine⟨λb xs e=>?_,λb q u e=>?_,λb z=>?_⟩
 ·rw[a_];exact e;rintro rfl;exact n.1 _ e
 ·rw[a_];exact e;rintro rfl;exact n.2 _ _ e
 ·rw[a_];rintro rfl;rw[(r.hid _ z).1]at h;cases h
theorem OR.keep{K:ak}{Z:Zt}{H H':Hp}{a:Addr}{o:O}(h:OR K H a o)(k:Kp Z H H')(e:H' a=H a):OR K H' a o:=by
 cases o with
 |lst ds=>obtain⟨vs,h1,h2⟩:=h;exact⟨vs,e.trans h1,h2.mono k⟩
 |j_ ds=>obtain⟨vs,h1,h2⟩:=h;exact⟨vs,e.trans h1,Paired.jX h2 λp q z=>⟨z.1,z.2.mono k⟩⟩
 |tab ds=>obtain⟨vs,h1,h2⟩:=h;exact⟨vs,e.trans h1,Paired.jX h2 λp q z=>⟨z.1,z.2.mono k⟩⟩
 |exc C=>exact e.trans h
 |ins C fs=>obtain⟨dx,vs,h1,h2⟩:=h;exact⟨dx,vs,e.trans h1,Paired.jX h2 λp q z=>⟨z.1,z.2.mono k⟩⟩
theorem Rl.put{K:ak}{Z:Zt}{S:af}{H:Hp}{p:Addr}{o:O}{q:HO}(r:Rl K Z S H)(k:Kp Z H (upd H p q))(hz:¬Z p)(h:OR K (upd H p q) p o):Rl K Z (up S p o) (upd H p q):=by
 refine⟨λb u e=>?_,λb z=>?_,r.old.trans k⟩
 ·by_cases hb:b=p
  ·subst hb;rw[az]at e;cases e;exact h
  ·rw[bj hb]at e;exact(r.obj b u e).keep k (a_ hb)
 ·have hb:b≠p:=λe=>hz (e▸z);rw[bj hb,a_ hb];exact r.hid b z
theorem Rl.pH{K:ak}{Z:Zt}{S:af}{H:Hp}{p:Addr}{o:O}(r:Rl K Z S H)(h:S p=some o):¬Z p:=λz=>by
 rw[(r.hid _ z).1]at h;cases h
theorem Rl.lay{K:ak}{Z:Zt}{S:af}{H:Hp}{p:Addr}{q:HO}(r:Rl K Z S H)(h:H p=none):Rl K Z S (upd H p q):=by
 obtain⟨hs,hz⟩:=r.fresh h;refine⟨λb u e=>(r.obj b u e).keep (Kp.new h hz) (a_ (ne3 e hs)),λb z=>?_,r.old.trans (Kp.new h hz)⟩;have hb:b≠p:=λe=>hz (e▸z);rw[a_ hb];exact r.hid b z
def RO(K:ak)(H:Hp)(o:Option D)(p:Option V):Prop:=∀d,o=some d->∃v,p=some v/\Rp K H d v
abbrev SR(K:ak)(H:Hp):aF->L2.St->Prop:=Paired (RO K H)
theorem RO.mono{K:ak}{Z:Zt}{H H':Hp}(k:Kp Z H H'){o:Option D}{p:Option V}(h:RO K H o p):RO K H' o p:=λd e=>by
 obtain⟨v,h1,h2⟩:=h d e;exact⟨v,h1,h2.mono k⟩
theorem SR.mono{K:ak}{Z:Zt}{H H':Hp}(k:Kp Z H H'){σ:aF}{τ:L2.St}(h:SR K H σ τ):SR K H' σ τ:=Paired.jX h λ_ _ q=>q.mono k
theorem SR.at{K:ak}{H:Hp}:∀{σ:aF} {τ:L2.St} {i:Nat} {d:D},SR K H σ τ->σ[i]?=some (some d)->∃v,τ[i]?=some (some v)/\Rp K H d v
 |_,_,_,_,.nil,e=>by simp at e
 |_,_,0,_,.cons r _,e=>by
  simp at e;obtain⟨v,h1,h2⟩:=r _ e;exact⟨v,by simp[h1],h2⟩
 |_,_,i+1,d,.cons _ q,e=>by
  obtain⟨v,h1,h2⟩:=SR.at (i:=i) (d:=d) q (by simpa using e);exact⟨v,by simpa using h1,h2⟩
theorem SR.set{K:ak}{H:Hp}{d:D}{v:V}(r:Rp K H d v):∀{σ:aF} {τ:L2.St} (i:Nat),SR K H σ τ->SR K H (σ.set i (some d)) (τ.set i (some v))
 |_,_,_,.nil=>.nil
 |_,_,0,.cons _ t=>.cons (λe he=>by cases he;exact⟨v,rfl,r⟩) t
 |_,_,i+1,.cons q t=>.cons q (SR.set r i t)
theorem SR.si{K:ak}{H:Hp}:∀{ds:List D} {vs:List V},aN K H ds vs->SR K H (ds.map some) (vs.map some)
 |_,_,.nil=>.nil
 |_,_,.cons r t=>.cons (λe he=>by cases he;exact⟨_,rfl,r⟩) (SR.si t)
theorem SR.nones{K:ak}{H:Hp}:∀n:Nat,SR K H (eG n none) (eG n none)
 |0=>.nil
 |n+1=>.cons (λd e=>by cases e) (SR.nones n)
theorem iI{α β:Type}{F:α->β->Prop}:∀{a b:List α} {c d:List β},Paired F a c->Paired F b d->Paired F (a++b) (c++d)
 |_,_,_,_,.nil,s=>s
 |_,_,_,_,.cons r t,s=>.cons r (iI t s)
abbrev aK:=aF->af->K3->Prop
abbrev cw:=aF->af->(Bool->af->Prop)->Prop
abbrev cy:=aF->af->(List D->af->Prop)->Prop
structure f7 where
 nx:aF->af->Prop
 rt:K3
 bk:aF->af->Prop:=λ_ _=>False
 ct:aF->af->Prop:=λ_ _=>False
abbrev bV:=f7->aF->af->Prop
section
variable(K:PySem.W.Frag)(Z:Zt)
def CK(H:Hp)(Q3:K3)(Q:VK):Prop:=∀d S v H',Kp Z H H'->Rp K H' d v->Rl K Z S H'->Q3 d S->Q v H'
def CT(H:Hp)(Q3:Bool->af->Prop)(Q:Bool->Hp->Prop):Prop:=∀b S H',Kp Z H H'->Rl K Z S H'->Q3 b S->Q b H'
def CA(H:Hp)(Q3:List D->af->Prop)(Q:List V->Hp->Prop):Prop:=∀ds S vs H',Kp Z H H'->aN K H' ds vs->Rl K Z S H'->Q3 ds S->Q vs H'
def CS(H:Hp)(Q3:aF->af->Prop)(Q:L2.St->Hp->Prop):Prop:=∀σ S τ H',Kp Z H H'->SR K H' σ τ->Rl K Z S H'->Q3 σ S->Q τ H'
structure CD(H:Hp)(D3:f7)(D:Ends):Prop where
 nx:CS K Z H D3.nx D.nx
 bk:CS K Z H D3.bk D.bk
 ct:CS K Z H D3.ct D.ct
 rt:CK K Z H D3.rt D.rt
inductive lE(t:aK)(τ:L2.St)(H:Hp)(Q:VK):Prop where
 |mk (σ:aF) (S:af) (Q3:K3) (hs:SR K H σ τ) (hr:Rl K Z S H) (ht:t σ S Q3) (hc:CK K Z H Q3 Q)
inductive lT(t:cw)(τ:L2.St)(H:Hp)(Q:Bool->Hp->Prop):Prop where
 |mk (σ:aF) (S:af) (Q3:Bool->af->Prop) (hs:SR K H σ τ) (hr:Rl K Z S H) (ht:t σ S Q3) (hc:CT K Z H Q3 Q)
inductive lA(t:cy)(τ:L2.St)(H:Hp)(Q:List V->Hp->Prop):Prop where
 |mk (σ:aF) (S:af) (Q3:List D->af->Prop) (hs:SR K H σ τ) (hr:Rl K Z S H) (ht:t σ S Q3) (hc:CA K Z H Q3 Q)
inductive lS(t:bV)(D:Ends)(τ:L2.St)(H:Hp):Prop where
 |mk (D3:f7) (σ:aF) (S:af) (hs:SR K H σ τ) (hr:Rl K Z S H) (ht:t D3 σ S) (hc:CD K Z H D3 D)
end
variable{K:PySem.W.Frag}{Z:Zt}
theorem CK.mono{H H':Hp}{Q3:K3}{Q:VK}(k:Kp Z H H')(h:CK K Z H Q3 Q):CK K Z H' Q3 Q:=λd S v H2 k2=>h d S v H2 (k.trans k2)
theorem CT.mono{H H':Hp}{Q3:Bool->af->Prop}{Q:Bool->Hp->Prop}(k:Kp Z H H')(h:CT K Z H Q3 Q):CT K Z H' Q3 Q:=λd S H2 k2=>h d S H2 (k.trans k2)
theorem CS.mono{H H':Hp}{Q3:aF->af->Prop}{Q:L2.St->Hp->Prop}(k:Kp Z H H')(h:CS K Z H Q3 Q):CS K Z H' Q3 Q:=λd S v H2 k2=>h d S v H2 (k.trans k2)
theorem CD.mono{H H':Hp}{D3:f7}{D:Ends}(k:Kp Z H H')(h:CD K Z H D3 D):CD K Z H' D3 D:=⟨h.nx.mono k,h.bk.mono k,h.ct.mono k,h.rt.mono k⟩
structure Nt(h:Heap)(a C T:Addr):Prop where
 ne:T≠a
 exc:∃oe vs a0,h.get? a=some oe/\oe.cls=.ref C/\oe.data=.fields vs/\vs[0]?=some a0/\vs[1]?=some (.ref T)
 tb:∃oT ts,h.get? T=some oT/\oT.data=.fields ts/\ts[3]?=some .none
def bW(P:Program)(w:World):fY:=λouter H s E e s'=>∃(a C T:Addr) (H':Hp),e=.ref a/\s'.os=s.os/\AllBare s'.gens/\Un (frs outer) [] H H' s.heap s'.heap/\bS P w H' s'.heap /\
 Nt s'.heap a C T/\H' a=none/\H' T=none/\s.heap.get? a=none/\s.heap.get? T=none/\E (.ref C) (some a) H'
def vN(CX:fY)(X:Cx)(E:XK)(τ:L2.St):Prop:=∀(pins:List (Addr×Obj)) (H:Hp) (s:Shared) (e:Value) (s':Shared),Inv X pins τ H s->CX X.stack H s E e s'->X.xe e s'
def BQ(X:Cx)(E:XK)(τ:L2.St):Prop:=∀(pins:List (Addr×Obj)) (H:Hp) (s s3:Shared) (e C:Addr) (args:List Value),Inv X pins τ H s->zY s.heap s3.heap e (.ref C) args->s3.os=s.os->s3.gens=s.gens->E (.ref C) (some e) H->X.xe (.ref e) s3
theorem Nu{P:Program}{w:World}{X:Cx}{τ:L2.St}:vN (bW P w) X E0 τ:=λ_ _ _ _ _ _ h=>by
 obtain⟨a,C,T,H',_,_,_,_,_,_,_,_,_,_,z⟩:=h;exact z.elim
abbrev cU:bE:=λ_ _ _ _=>False
def BR(K:ak)(Z:Zt)(H:Hp)(W3:X3)(E:XK):Prop:=∀C a S H',Kp Z H H'->Rl K Z S H'->H' a=none->W3 C a S->E (.ref C) (some a) H'
structure ZX(X:Cx)(W3:bE) where
 z:Zt
 E:L2.St->XK
 pass:∀τ,vN (bW X.prog X.w) X (E τ) τ
 rz:∀τ,BQ X (E τ) τ
 ce:∀σ τ C a S H,SR X.K H σ τ->Rl X.K z S H->H a=none->W3 σ C a S->E τ (.ref C) (some a) H
def ZX.no(X:Cx)(z:Zt):ZX X cU:=⟨z,λ_=>E0,λ_=>Nu,λ_ _ _ _ _ _ _ _ _ _ _ _ z=>z.elim,λ_ _ _ _ _ _ _ _ _ z=>z.elim⟩
def aH(X:Cx)(W3:bE)(e:Expr)(t:aK):Prop:=∀Z:ZX X W3,PE X e (lE X.K Z.z t)
def dU(X:Cx)(W3:bE)(e:Expr)(t:cw):Prop:=∀Z:ZX X W3,PT X e (lT X.K Z.z t)
def cL(X:Cx)(W3:bE)(e:Expr)(t:cw):Prop:=∀Z:ZX X W3,PW X e (lT X.K Z.z t)
def d9(X:Cx)(W3:bE)(es:List Expr)(t:cy):Prop:=∀Z:ZX X W3,PA X es (lA X.K Z.z t)
def dW(X:Cx)(W3:bE)(st:Stmt)(t:bV):Prop:=∀Z:ZX X W3,PS X st (lS X.K Z.z t)
def cQ(X:Cx)(W3:bE)(st:List Stmt)(t:bV):Prop:=∀Z:ZX X W3,dR X st (lS X.K Z.z t)
theorem PE.imp{X:Cx}{e:Expr}{t u:TE}(h:PE X e t)(f:∀σ H Q,u σ H Q->t σ H Q):PE X e u:=λpins s σ H Q I q=>h pins s σ H Q I (f _ _ _ q)
theorem PT.imp{X:Cx}{e:Expr}{t u:TT}(h:PT X e t)(f:∀σ H Q,u σ H Q->t σ H Q):PT X e u:=λpins s σ H Q I q=>h pins s σ H Q I (f _ _ _ q)
theorem PW.imp{X:Cx}{e:Expr}{t u:TT}(h:PW X e t)(f:∀σ H Q,u σ H Q->t σ H Q):PW X e u:=λw pins s σ H Q I q=>h w pins s σ H Q I (f _ _ _ q)
theorem PA.imp{X:Cx}{e:List Expr}{t u:TA}(h:PA X e t)(f:∀σ H Q,u σ H Q->t σ H Q):PA X e u:=λp pins s σ H Q I q=>h p pins s σ H Q I (f _ _ _ q)
theorem PS.imp{X:Cx}{st:Stmt}{t u:TS}(h:PS X st t)(f:∀D σ H,u D σ H->t D σ H):PS X st u:=λpins s σ H D I q=>h pins s σ H D I (f _ _ _ q)
theorem dR.imp{X:Cx}{st:List Stmt}{t u:TS}(h:dR X st t)(f:∀D σ H,u D σ H->t D σ H):dR X st u:=λpins s σ H D I q=>h pins s σ H D I (f _ _ _ q)
end E3
namespace E3
open PySem PySem.Spec PyProof.Rows L2 EE
section
variable{X:Cx}{W3:bE}{a b c e:Expr}{es:List Expr}{pos:Pos}
def v3(i:Nat):aK:=λσ S Q=>∃d,σ[i]?=some (some d)/\Q d S
def c3(d:D):aK:=λ_ S Q=>Q d S
theorem Nv{i:Nat}(h:PE X e (AK i)):aH X W3 e (v3 i):=λZ=>PE.imp h λτ H Q ck=>by
 obtain⟨σ,S,Q3,hs,hr,⟨d,e,q⟩,c⟩:=ck;obtain⟨v,h1,h2⟩:=hs.at e;exact⟨v,h1,c d S v H (Kp.refl _ _) h2 hr q⟩
theorem aa(i:Nat){x:Str}{pos:Pos}(hN:X.N[i]?=some x:=by rfl)(hv:rj X.env.scope x:=by first|exact Or.inl rfl|exact Or.inr (Or.inl rfl)|exact Or.inr (Or.inr rfl))(hd:(x==("__debug__":Str))=false:=by decide)
 (hcd:(x==("__classdict__":Str))=false:=by decide):aH X W3 (.Name x pos) (v3 i):=Nv (Kv hN hv hd hcd)
theorem mG{v:V}{d:D}(h:PE X e (tC v))(r:∀H,Rp X.K H d v):aH X W3 e (c3 d):=λZ=>PE.imp h λτ H Q d_=>by obtain⟨σ,S,Q3,hs,hr,q,c⟩:=d_;exact c d S v H (Kp.refl _ _) (r H) hr q
theorem ai{i j}:aH X W3 (.Constant (.int i) j pos) (c3 (.int i)):=mG Kw λ_=>.int _
theorem iJ{b j}:aH X W3 (.Constant (.bool b) j pos) (c3 (.bl b)):=mG Kx λ_=>.bl _
theorem fk{j}:aH X W3 (.Constant .none j pos) (c3 .non):=mG Ky λ_=>.non
theorem bL{x j}:aH X W3 (.Constant (.str x) j pos) (c3 (.str x)):=mG Kz λ_=>.str _
theorem pI{x:Str}{n:String}(hg:Gl X x)(hm:X.mg x=none)(hv:bootBuiltins x=some (.type n))(hn:x≠"__name__":=by decide)(hd:(x==("__debug__":Str))=false:=by decide):aH X W3 (.Name x pos) (c3 (.ty n)) :=
 mG (KC (v:=.ty n) hg hm hv rfl hn hd) λ_=>.ty _
theorem Nw{x:Str}{i:Int}(h:∃t,X.mg x=some (.int i t))(hg:Gl X x)(hd:(x==("__debug__":Str))=false:=by decide):aH X W3 (.Name x pos) (c3 (.int i)) :=
 mG (Ng h hg hd) λ_=>.int _
abbrev R3:=D->D->af->K3->Prop
def cC(K:ak)(r3:R3)(r:R2):Prop:=∀(Z:Zt) x y S Q3 v w H Q,Rp K H x v->Rp K H y w->Rl K Z S H->r3 x y S Q3->CK K Z H Q3 Q->r v w H Q
def o3(r:R3)(ta tb:aK):aK:=λσ S Q=>ta σ S λx S1=>tb σ S1 λy S2=>r x y S2 Q
def gI(t:aK):cw:=λσ S Q=>t σ S λx S'=>∃k,x=.bl k/\Q k S'
variable{ta tb tc:aK}{tA tB:cw}{t:cy}
theorem sj{K:ak}{Z:Zt}{r3:R3}{r:R2}(hd:cC K r3 r){τ:L2.St}{H:Hp}{Q:VK}(h:lE K Z (o3 r3 ta tb) τ H Q):oZ r (lE K Z ta) (lE K Z tb) τ H Q:=by
 obtain⟨σ,S,Q3,hs,hr,ht,hc⟩:=h;refine⟨σ,S,_,hs,hr,ht,λx S1 v H1 k1 r1 l1 q1=>?_⟩;refine⟨σ,S1,_,hs.mono k1,l1,q1,λy S2 w H2 k2 r2 l2 q2=>?_⟩;exact hd Z x y S2 Q3 v w H2 Q (r1.mono k2) r2 l2 q2 (hc.mono (k1.trans k2))
theorem aO{op:Operator}{r3:R3}{r:R2}(ho:bT X (binaryOp op) r)(hd:cC X.K r3 r)(ha:aH X W3 a ta)(hb:aH X W3 b tb):aH X W3 (.BinOp a op b pos) (o3 r3 ta tb) :=
 λZ=>PE.imp (LP ho (ha Z) (hb Z)) λ_ _ _ h=>sj hd h
theorem k7{op:CmpOp}{r3:R3}{r:R2}(ho:bT X (compareOp op) r)(hd:cC X.K r3 r)(ha:aH X W3 a ta)(hb:aH X W3 b tb)(hm:behindInMarks op b=false):aH X W3 (.Compare a [op] [b] pos) (o3 r3 ta tb) :=
 λZ=>PE.imp (LU ho (ha Z) (hb Z) hm) λ_ _ _ h=>sj hd h
theorem pJ{K:ak}{Z:Zt}{t3:aK}{t2:TE}(hd:∀τ H Q,lE K Z t3 τ H Q->t2 τ H Q){τ:L2.St}{H:Hp}{Q:Bool->Hp->Prop}(h:lT K Z (gI t3) τ H Q):vh t2 τ H Q:=by
 obtain⟨σ,S,Q3,hs,hr,ht,hc⟩:=h;refine hd τ H _ ⟨σ,S,_,hs,hr,ht,λx S1 v H1 k1 r1 l1 q1=>?_⟩;obtain⟨k,rfl,q⟩:=q1;cases r1;exact⟨k,rfl,hc k S1 H1 k1 l1 q⟩
theorem a5{op:CmpOp}{r3:R3}{r:R2}(ho:bT X (compareOp op) r)(hd:cC X.K r3 r)(ha:aH X W3 a ta)(hb:aH X W3 b tb)(hm:behindInMarks op b=false):dU X W3 (.Compare a [op] [b] pos) (gI (o3 r3 ta tb)) :=
 λZ=>PT.imp (LV ho (ha Z) (hb Z) hm) λ_ _ _ h=>pJ (λ_ _ _ h=>sj hd h) h
theorem ay{r3:R3}{r:R2}(ho:pb X r)(hd:cC X.K r3 r)(ha:aH X W3 a ta)(hb:aH X W3 b tb)(hs:Bi b):aH X W3 (.Subscript a b pos) (o3 r3 ta tb) :=
 λZ=>PE.imp (Mv ho (ha Z) (hb Z) hs) λ_ _ _ h=>sj hd h
theorem iK(h:aH X W3 e ta)(he:∀whole,isTrue e X.env whole=(do let v <-whole;standAt e.pos;holding [v] (truthy v)):=by intro _;rfl):dU X W3 e (gI ta) :=
 λZ=>PT.imp (KE (h Z) he) λ_ _ _ q=>pJ (t2:=lE X.K Z.z ta) (λ_ _ _ z=>z) q
def u3(r:D->af->K3->Prop)(ta:aK):aK:=λσ S Q=>ta σ S λx S1=>r x S1 Q
theorem mH(ha:aH X W3 a ta):aH X W3 (.UnaryOp .USub a pos) (u3 (λx S Q=>∃i,x=.int i/\Q (.int (-i)) S) ta):=λZ=>PE.imp (LQ LS (ha Z)) λτ H Q jr=>by
 obtain⟨σ,S,Q3,hs,hr,ht,hc⟩:=jr;refine⟨σ,S,_,hs,hr,ht,λx S1 v H1 k1 r1 l1 q1=>?_⟩;obtain⟨i,rfl,q⟩:=q1;cases r1;exact⟨i,rfl,hc _ S1 _ H1 k1 (.int _) l1 q⟩
def BS(t u:cw):cw:=λσ S Q=>t σ S λc S1=>if c=true then u σ S1 Q else Q false S1
def or3(t u:cw):cw:=λσ S Q=>t σ S λc S1=>if c=true then Q true S1 else u σ S1 Q
def BU(t:cw):cw:=λσ S Q=>t σ S λc S1=>Q (!c) S1
def BV(ta tb:aK):aK:=λσ S Q=>ta σ S λx S1=>∃c,x=.bl c/\if c=true then tb σ S1 Q else Q (.bl false) S1
def BW(ta:aK):aK:=λσ S Q=>ta σ S λx S1=>∃c,x=.bl c/\Q (.bl (!c)) S1
def BX(t:cw)(ta tb:aK):aK:=λσ S Q=>t σ S λc S1=>if c=true then ta σ S1 Q else tb σ S1 Q
variable{rest:List Expr}
theorem mI(ha:dU X W3 a tA):cL X W3 (.BoolOp .And [a] pos) tA:=λZ=>KJ (ha Z)
theorem fM(ha:dU X W3 a tA):cL X W3 (.BoolOp .Or [a] pos) tA:=λZ=>KL (ha Z)
theorem w_and(ha:dU X W3 a tA)(hb:cL X W3 (.BoolOp .And (b::rest) pos) tB):cL X W3 (.BoolOp .And (a::b::rest) pos) (BS tA tB):=λZ=>PW.imp (KN (ha Z) (hb Z)) λτ H Q jk=>by
 obtain⟨σ,S,Q3,hs,hr,ht,hc⟩:=jk;refine⟨σ,S,_,hs,hr,ht,λc S1 H1 k1 l1 q1=>?_⟩;cases c with
 |true=>exact⟨σ,S1,Q3,hs.mono k1,l1,q1,hc.mono k1⟩
 |false=>exact hc false S1 H1 k1 l1 q1
theorem w_or(ha:dU X W3 a tA)(hb:cL X W3 (.BoolOp .Or (b::rest) pos) tB):cL X W3 (.BoolOp .Or (a::b::rest) pos) (or3 tA tB):=λZ=>PW.imp (KO (ha Z) (hb Z)) λτ H Q oW=>by
 obtain⟨σ,S,Q3,hs,hr,ht,hc⟩:=oW;refine⟨σ,S,_,hs,hr,ht,λc S1 H1 k1 l1 q1=>?_⟩;cases c with
 |true=>exact hc true S1 H1 k1 l1 q1
 |false=>exact⟨σ,S1,Q3,hs.mono k1,l1,q1,hc.mono k1⟩
theorem cL.pt(h:cL X W3 e tA):dU X W3 e tA:=λZ=>(h Z).pt
theorem k8(ha:dU X W3 a tA):dU X W3 (.UnaryOp .Not a pos) (BU tA):=λZ=>PT.imp (KP (ha Z)) λτ H Q pK=>by obtain⟨σ,S,Q3,hs,hr,ht,hc⟩:=pK;exact⟨σ,S,_,hs,hr,ht,λc S1 H1 k1 l1 q1=>hc (!c) S1 H1 k1 l1 q1⟩
theorem Nx{op}(h:aH X W3 a ta):aH X W3 (.BoolOp op [a] pos) ta:=λZ=>KS (h Z)
theorem BY(ha:aH X W3 a ta)(hb:aH X W3 (.BoolOp .And (b::rest) pos) tb):aH X W3 (.BoolOp .And (a::b::rest) pos) (BV ta tb):=λZ=>PE.imp (KU (ha Z) (hb Z)) λτ H Q vO=>by
 obtain⟨σ,S,Q3,hs,hr,ht,hc⟩:=vO;refine⟨σ,S,_,hs,hr,ht,λx S1 v H1 k1 r1 l1 q1=>?_⟩;obtain⟨c,rfl,q1⟩:=q1;cases r1;refine⟨c,rfl,?_⟩;cases c with
 |true=>exact⟨σ,S1,Q3,hs.mono k1,l1,q1,hc.mono k1⟩
 |false=>exact hc _ S1 _ H1 k1 (.bl _) l1 q1
theorem Ny(ha:aH X W3 a ta):aH X W3 (.UnaryOp .Not a pos) (BW ta):=λZ=>PE.imp (KW (ha Z)) λτ H Q Nz=>by
 obtain⟨σ,S,Q3,hs,hr,ht,hc⟩:=Nz;refine⟨σ,S,_,hs,hr,ht,λx S1 v H1 k1 r1 l1 q1=>?_⟩;obtain⟨c,rfl,q1⟩:=q1;cases r1;exact⟨c,rfl,hc _ S1 _ H1 k1 (.bl _) l1 q1⟩
theorem vP(hc:dU X W3 c tA)(ha:aH X W3 a ta)(hb:aH X W3 b tb):aH X W3 (.IfExp c a b pos) (BX tA ta tb):=λZ=>PE.imp (KZ (hc Z) (ha Z) (hb Z)) λτ H Q vj=>by
 obtain⟨σ,S,Q3,hs,hr,ht,hc⟩:=vj;refine⟨σ,S,_,hs,hr,ht,λc S1 H1 k1 l1 q1=>?_⟩;cases c with
 |true=>exact⟨σ,S1,Q3,hs.mono k1,l1,q1,hc.mono k1⟩
 |false=>exact⟨σ,S1,Q3,hs.mono k1,l1,q1,hc.mono k1⟩
def IsL(S:af)(x:D)(ds:List D):Prop:=(∃a,x=.ref a/\S a=some (.lst ds))∨x=.bA ds
theorem IsL.down{K:ak}{Z:Zt}{S:af}{H:Hp}{x:D}{ds:List D}{v:V}(h:IsL S x ds)(r:Rp K H x v)(l:Rl K Z S H):∃a vs,v=.ref a/\a6 K H a vs/\aN K H ds vs:=by
 rcases h with⟨a,rfl,e⟩|rfl
 ·cases r;obtain⟨vs,h1,h2⟩:=l.obj a _ e;exact⟨a,vs,rfl,a6.of h1,h2⟩
 ·cases r with
  |bA h1 h2=>exact⟨_,_,rfl,h1.sq,h2⟩
def pL(S:af):D->Bool->Prop
 | .non,k=>k=false
 | .bl b,k=>k=b
 | .int i,k=>k=(i != 0)
 | .str y,k=>y.length<=sizeLine/\k=((y.length:Int) != 0)
 | .tup ds,k=>k=!ds.isEmpty
 | .bA ds,k=>k=!ds.isEmpty
 | .ref a,k=>(∃ds,S a=some (.lst ds)/\k=!ds.isEmpty)∨∃kvs,S a=some (.j_ kvs)/\k=!kvs.isEmpty
 | .ty _,_=>False
theorem aN.empty{K:ak}{H:Hp}{ds:List D}{vs:List V}(r:aN K H ds vs):ds.isEmpty=vs.isEmpty:=by cases r<;>rfl
theorem pL.down{K:ak}{Z:Zt}{S:af}{H:Hp}{x:D}{v:V}{k:Bool}(h:pL S x k)(r:Rp K H x v)(l:Rl K Z S H):vi K v H k:=by
 cases r with
 |non=>exact h
 |bl b=>exact h
 |int i=>exact h
 |str x=>exact h
 |ty n=>exact h
 |tup h1 h2=>exact .inr (.inl ⟨_,h1,by rw[<-h2.empty];exact h⟩)
 |bA h1 h2=>exact .inl ⟨_,h1.sq,by rw[<-h2.empty];exact h⟩
 |ref a =>
  rcases h with⟨ds,e,q⟩|⟨kvs,e,q⟩
  ·obtain⟨vs,h1,h2⟩:=l.obj a _ e;exact .inl ⟨vs,a6.of h1,by rw[<-h2.empty];exact q⟩
  ·obtain⟨ws,h1,h2⟩:=l.obj a _ e;refine .inr (.inr ⟨ws,h1,?_⟩);cases h2<;>exact q
def BZ(ta:aK):cw:=λσ S Q=>ta σ S λx S1=>∃k,pL S1 x k/\Q k S1
theorem B0(ha:aH X W3 a ta)(he:∀whole,isTrue a X.env whole=(do let v <-whole;standAt a.pos;holding [v] (truthy v))):dU X W3 a (BZ ta):=λZ=>PT.imp (L0 (ha Z) he) λτ H Q o9=>by
 obtain⟨σ,S,Q3,hs,hr,ht,hc⟩:=o9;refine⟨σ,S,_,hs,hr,ht,λx S1 v H1 k1 r1 l1 q1=>?_⟩;obtain⟨k,h,q⟩:=q1;exact⟨k,h.down r1 l1,hc k S1 H1 k1 l1 q⟩
def gJ:cy:=λ_ S Q=>Q [] S
def eh(ta:aK)(tr:cy):cy:=λσ S Q=>ta σ S λx S1=>tr σ S1 λxs S2=>Q (x::xs) S2
theorem ah:d9 X W3 [] gJ:=λZ=>PA.imp L8 λτ H Q vQ=>by obtain⟨σ,S,Q3,hs,hr,ht,hc⟩:=vQ;exact hc [] S [] H (Kp.refl _ _) .nil hr ht
theorem ae(ha:aH X W3 e ta)(hr:d9 X W3 es t)(hs:starEach (e::es) X.env=(false,eval e X.env)::starEach es X.env:=by rfl):d9 X W3 (e::es) (eh ta t):=λZ=>PA.imp (L9 (ha Z) (hr Z) hs) λτ H Q z_13=>by
 obtain⟨σ,S,Q3,hs,hr,ht,hc⟩:=z_13;refine⟨σ,S,_,hs,hr,ht,λx S1 v H1 k1 r1 l1 q1=>?_⟩;exact⟨σ,S1,_,hs.mono k1,l1,q1,λxs S2 vs H2 k2 r2 l2 q2=>hc (x::xs) S2 (v::vs) H2 (k1.trans k2) (.cons (r1.mono k2) r2) l2 q2⟩
def c8(S:af)(ds:List D)(Q:K3):Prop:=∀p,S p=none->Q (.ref p) (up S p (.lst ds))
theorem c8.down{K:ak}{Z:Zt}{S:af}{H:Hp}{ds:List D}{vs:List V}{Q3:K3}{Q:VK}(h:c8 S ds Q3)(r:aN K H ds vs)(l:Rl K Z S H)(c:CK K Z H Q3 Q):∀p,H p=none->Q (.ref p) (upd H p (.lst vs)):=λp hp=>by
 obtain⟨hs,hz⟩:=l.fresh hp;have k:=Kp.new (o:=HO.lst vs) hp hz;exact c _ _ _ _ k (.ref p) (l.put (o:=.lst ds) k hz ⟨vs,d7,r.mono k⟩) (h p hs)
theorem tup.down{K:ak}{Z:Zt}{S:af}{H:Hp}{ds:List D}{vs:List V}{Q3:K3}{Q:VK}(h:Q3 (.tup ds) S)(r:aN K H ds vs)(l:Rl K Z S H)(c:CK K Z H Q3 Q):∀p,H p=none->Q (.ref p) (upd H p (.tup vs)):=λp hp=>by
 obtain⟨hs,hz⟩:=l.fresh hp;have k:=Kp.new (o:=HO.tup vs) hp hz;exact c _ _ _ _ k (.tup (bq.of d7) (r.mono k)) (l.lay hp) h
def B1(t:cy):aK:=λσ S Q=>t σ S λxs S1=>xs.length<=sizeLine/\Q (.tup xs) S1
def B2(t:cy):aK:=λσ S Q=>t σ S λxs S1=>xs.length<=sizeLine/\c8 S1 xs Q
theorem bP{x1}(h:d9 X W3 es t):aH X W3 (.Tuple es x1 pos) (B1 t):=λZ=>PE.imp (Ma (h Z)) λτ H Q ⟨σ,S,Q3,hs,hr,ht,hc⟩ =>
 ⟨σ,S,_,hs,hr,ht,λxs S1 vs H1 k1 r1 l1 z_14=>by obtain⟨z,q⟩:=z_14;exact⟨by rw[<-r1.len];exact z,tup.down q r1 l1 (hc.mono k1)⟩⟩
theorem dE(h:d9 X W3 es t):aH X W3 (.List es pos) (B2 t):=λZ=>PE.imp (Mb (h Z)) λτ H Q ⟨σ,S,Q3,hs,hr,ht,hc⟩ =>
 ⟨σ,S,_,hs,hr,ht,λxs S1 vs H1 k1 r1 l1 z_15=>by obtain⟨z,q⟩:=z_15;exact⟨by rw[<-r1.len];exact z,c8.down q r1 l1 (hc.mono k1)⟩⟩
def f9(K:ak)(r3:List D->af->K3->Prop)(r:List V->Hp->VK->Prop):Prop:=∀(Z:Zt) ds S Q3 vs H Q,aN K H ds vs->Rl K Z S H->r3 ds S Q3->CK K Z H Q3 Q->r vs H Q
def mJ(r:List D->af->K3->Prop)(t:cy):aK:=λσ S Q=>t σ S λvs S1=>r vs S1 Q
variable{x:Str}{p:Pos}{id T:String}{r3:List D->af->K3->Prop}{r:List V->Hp->VK->Prop}
theorem B3{K:ak}{Z:Zt}(hd:f9 K r3 r){τ:L2.St}{H:Hp}{Q:VK}(h:lE K Z (mJ r3 t) τ H Q):vo r (lA K Z t) τ H Q:=by
 obtain⟨σ,S,Q3,hs,hr,ht,hc⟩:=h;exact⟨σ,S,_,hs,hr,ht,λds S1 vs H1 k1 r1 l1 q1=>hd Z ds S1 Q3 vs H1 Q r1 l1 q1 (hc.mono k1)⟩
theorem cE(hc:fI X (.builtin id) r)(hd:f9 X.K r3 r)(hg:Gl X x)(hm:X.mg x=none)(hv:bootBuiltins x=some (.builtin id))(ha:d9 X W3 (e::es) t)(hn:x≠"__name__":=by decide)(hdb:(x==("__debug__":Str))=false:=by decide)
 (he:starEach (e::es) X.env=(false,eval e X.env)::starEach es X.env:=by rfl) (hpl:(backTo pos (starEach es X.env)).any (·.1)=false:=by rfl):aH X W3 (.Call (.Name x p) (e::es) [] pos) (mJ r3 t) :=
 λZ=>PE.imp (Me hc hg hm hv (ha Z) hn hdb he hpl) λ_ _ _ h=>B3 hd h
theorem gK(hc:fI X (.type T) r)(hd:f9 X.K r3 r)(hg:Gl X x)(hm:X.mg x=none)(hv:bootBuiltins x=some (.type T))(ha:d9 X W3 (e::es) t)(hn:x≠"__name__":=by decide)(hdb:(x==("__debug__":Str))=false:=by decide)
 (he:starEach (e::es) X.env=(false,eval e X.env)::starEach es X.env:=by rfl) (hpl:(backTo pos (starEach es X.env)).any (·.1)=false:=by rfl):aH X W3 (.Call (.Name x p) (e::es) [] pos) (mJ r3 t) :=
 λZ=>PE.imp (Mf hc hg hm hv (ha Z) hn hdb he hpl) λ_ _ _ h=>B3 hd h
def pM(K:ak)(r3:D->List D->af->K3->Prop)(r:V->List V->Hp->VK->Prop):Prop:=∀(Z:Zt) x ds S Q3 v vs H Q,Rp K H x v->aN K H ds vs->Rl K Z S H->r3 x ds S Q3->CK K Z H Q3 Q->r v vs H Q
def k9(T:String)(x:D)(S:af):Prop:=(T="str"/\∃z,x=.str z)∨(T="list"/\∃ds,IsL S x ds)∨(T="dict"/\∃a kvs,x=.ref a/\S a=some (.j_ kvs))
theorem k9.down{K:ak}{Z:Zt}{S:af}{H:Hp}{T:String}{x:D}{v:V}(h:k9 T x S)(r:Rp K H x v)(l:Rl K Z S H):rV K T v H:=by
 rcases h with⟨rfl,z,rfl⟩|⟨rfl,ds,h⟩|⟨rfl,a,kvs,rfl,e⟩
 ·cases r;rfl
 ·obtain⟨a,vs,rfl,h1,_⟩:=h.down r l;exact .inl ⟨rfl,vs,h1⟩
 ·cases r;obtain⟨ws,h1,_⟩:=l.obj a _ e;exact .inr (.inr (.inl ⟨rfl,.inl ⟨ws,h1⟩⟩))
def B4(T:String)(r:D->List D->af->K3->Prop)(to:aK):aK:=λσ S Q=>to σ S λx S1=>k9 T x S1/\r x [] S1 Q
def vR(T:String)(r:D->List D->af->K3->Prop)(to:aK)(t:cy):aK:=λσ S Q=>to σ S λx S1=>k9 T x S1/\t σ S1 λxs S2=>r x xs S2 Q
variable{o:Expr}{to:aK}{name:Str}{apos cpos:Pos}{m3:D->List D->af->K3->Prop}{m:V->List V->Hp->VK->Prop}
theorem B5(pa:PlainAttrs T)(slot:Slot T name id)(hty:typeOf (.builtin id)=pure (.type "method_descriptor"))(hm:rT X id m)(hd:pM X.K m3 m)(ho:aH X W3 o to)
 (hbase:attributeBase o name X.env (eval o X.env)=eval o X.env:=by rfl) (hline:(apos.endLine==cpos.line)=true:=by rfl):aH X W3 (.Call (.Attribute o name apos) [] [] cpos) (B4 T m3 to) :=
 λZ=>PE.imp (MG pa slot hty hm (ho Z) hbase hline) λτ H Q ⟨σ,S,Q3,hs,hr,ht,hc⟩ =>
  ⟨σ,S,_,hs,hr,ht,λx S1 v H1 k1 r1 l1 z_16=>by obtain⟨ty,q⟩:=z_16;exact⟨ty.down r1 l1,hd Z.z x [] S1 Q3 v [] H1 Q r1 .nil l1 q (hc.mono k1)⟩⟩
theorem fm(pa:PlainAttrs T)(slot:Slot T name id)(hty:typeOf (.builtin id)=pure (.type "method_descriptor"))(hm:rT X id m)(hd:pM X.K m3 m)(ho:aH X W3 o to)(ha:d9 X W3 (e::es) t)
 (hbase:attributeBase o name X.env (eval o X.env)=eval o X.env:=by rfl)
 (hfew:((backTo cpos (starEach (e::es) X.env)).all (λx=>!x.1)&&(backToKw cpos (keywordEach [] X.env)).all (λx=>x.1.isSome)
  && decide ((e::es).length+([]:List Keyword).length+(if([]:List Keyword).isEmpty then 0 else 1)<30))=true:=by rfl)
 (hline:(apos.endLine==cpos.line)=true:=by rfl) (hs:starEach (e::es) X.env=(false,eval e X.env)::starEach es X.env:=by rfl) (hplain:(backTo cpos (starEach es X.env)).any (·.1)=false:=by rfl) :
 aH X W3 (.Call (.Attribute o name apos) (e::es) [] cpos) (vR T m3 to t) :=
 λZ=>PE.imp (MH pa slot hty hm (ho Z) (ha Z) hbase hfew hline hs hplain) λτ H Q ⟨σ,S,Q3,hs,hr,ht,hc⟩ =>
  ⟨σ,S,_,hs,hr,ht,λx S1 v H1 k1 r1 l1 z_17=>by obtain⟨ty,q⟩:=z_17;exact⟨ty.down r1 l1,σ,S1,_,hs.mono k1,l1,q,λds S2 vs H2 k2 r2 l2 q2=>hd Z.z x ds S2 Q3 v vs H2 Q (r1.mono k2) r2 l2 q2 (hc.mono (k1.trans k2))⟩⟩
abbrev k_:=aF->af->(Option Int->af->Prop)->Prop
def CO(K:ak)(Z:Zt)(H:Hp)(Q3:Option Int->af->Prop)(Q:Option Int->Hp->Prop):Prop:=∀d S H',Kp Z H H'->Rl K Z S H'->Q3 d S->Q d H'
def lO(K:ak)(Z:Zt)(t:k_):TO:=λτ H Q=>∃σ S Q3,SR K H σ τ/\Rl K Z S H/\t σ S Q3/\CO K Z H Q3 Q
def pN(X:Cx)(W3:bE)(e:Option Expr)(t:k_):Prop:=∀Z:ZX X W3,PO X e (lO X.K Z.z t)
def B6:k_:=λ_ S Q=>Q none S
def part3(t:aK):k_:=λσ S Q=>t σ S λx S1=>∃i,x=.int i/\Q (some i) S1
theorem PO.imp{X:Cx}{e:Option Expr}{t u:TO}(h:PO X e t)(f:∀σ H Q,u σ H Q->t σ H Q):PO X e u:=λpins s σ H Q I q=>h pins s σ H Q I (f _ _ _ q)
theorem eS:pN X W3 none B6:=λZ=>PO.imp Mn λτ H Q z_18=>by obtain⟨σ,S,Q3,hs,hr,ht,hc⟩:=z_18;exact hc none S H (Kp.refl _ _) hr ht
theorem eT(h:aH X W3 e ta):pN X W3 (some e) (part3 ta):=λZ=>PO.imp (Mo (h Z)) λτ H Q z_19=>by
 obtain⟨σ,S,Q3,hs,hr,ht,hc⟩:=z_19;refine⟨σ,S,_,hs,hr,ht,λx S1 v H1 k1 r1 l1 q1=>?_⟩;obtain⟨i,rfl,q⟩:=q1;cases r1;exact⟨i,rfl,hc _ S1 H1 k1 l1 q⟩
def sk(K:ak)(r3:D->Option Int->Option Int->af->K3->Prop)(r:V->Option Int->Option Int->Hp->VK->Prop):Prop:=∀(Z:Zt) x lo hi S Q3 v H Q,Rp K H x v->Rl K Z S H->r3 x lo hi S Q3->CK K Z H Q3 Q->r v lo hi H Q
def B7(r:D->Option Int->Option Int->af->K3->Prop)(te:aK)(tl th:k_):aK:=λσ S Q=>te σ S λx S1=>tl σ S1 λl S2=>th σ S2 λu S3=>r x l u S3 Q
theorem eU{lo hi:Option Expr}{tl th:k_}{p2:Pos}{s3:D->Option Int->Option Int->af->K3->Prop}{s2:V->Option Int->Option Int->Hp->VK->Prop}(hr:mz X s2)(hd:sk X.K s3 s2)(he:aH X W3 e ta)(hl:pN X W3 lo tl)(hu:pN X W3 hi th) :
 aH X W3 (.Subscript e (.Slice lo hi none p2) pos) (B7 s3 ta tl th):=λZ=>PE.imp (Mq hr (he Z) (hl Z) (hu Z)) λτ H Q vT=>by obtain⟨σ,S,Q3,hs,hr,ht,hc⟩:=vT;exact 
 ⟨σ,S,_,hs,hr,ht,λx S1 v H1 k1 r1 l1 q1=>⟨σ,S1,_,hs.mono k1,l1,q1,λl S2 H2 k2 l2 q2=>⟨σ,S2,_,hs.mono (k1.trans k2),l2,q2,λu S3 H3 k3 l3 q3 =>
  hd Z.z x l u S3 Q3 v H3 Q (r1.mono (k2.trans k3)) l3 q3 (hc.mono (k1.trans (k2.trans k3)))⟩⟩⟩
def kD:Key->D
 | .inl i=>.int i
 | .inr x=>.str x
def NA(kvs:List (Key×D))(k:Key):Option D:=(kvs.find? λkv=>decide (kv.1=k)).map (·.2)
end
section
variable{X:Cx}{W3:bE}{st:Stmt}{rest:List Stmt}{t u:bV}{e:Expr}{te:aK}{pos:Pos}
def B8:bV:=λD σ S=>D.nx σ S
def pO(t u:bV):bV:=λD σ S=>t {D with nx:=u D} σ S
theorem bt:cQ X W3 [] B8:=λZ=>dR.imp K4 λD τ H ck=>by obtain⟨D3,σ,S,hs,hr,ht,hc⟩:=ck;exact hc.nx σ S τ H (Kp.refl _ _) hs hr ht
theorem au(h1:dW X W3 st t)(h2:cQ X W3 rest u):cQ X W3 (st::rest) (pO t u):=λZ=>dR.imp (K5 (h1 Z) (h2 Z)) λD τ H ⟨D3,σ,S,hs,hr,ht,hc⟩ =>
 ⟨_,σ,S,hs,hr,ht,⟨λσ' S' a8 H' k r l q=>⟨D3,σ',S',r,l,q,hc.mono k⟩,hc.bk,hc.ct,hc.rt⟩⟩
theorem ax(h1:dW X W3 st t):cQ X W3 [st] t:=λZ=>K6 (h1 Z)
def vU(te:aK):bV:=λD σ S=>te σ S λ_ S1=>D.nx σ S1
theorem eo(he:aH X W3 e te)(hs:swapsWith e none pos.line X.env=pure false:=by rfl):dW X W3 (.Expr e pos) (vU te):=λZ=>PS.imp (K8 (he Z) hs) λD τ H ⟨D3,σ,S,hs,hr,ht,hc⟩ =>
 ⟨σ,S,_,hs,hr,ht,λd S' v H' k r l q=>hc.nx σ S' τ H' k (hs.mono k) l q⟩
def B9(te:aK):bV:=λD σ S=>te σ S D.rt
theorem aQ(he:aH X W3 e te):dW X W3 (.Return (some e) pos) (B9 te):=λZ=>PS.imp (K_ (he Z)) λD τ H pK=>by obtain⟨D3,σ,S,hs,hr,ht,hc⟩:=pK;exact⟨σ,S,_,hs,hr,ht,hc.rt⟩
def B_:bV:=λD _ S=>D.rt .non S
theorem NB:dW X W3 (.Return none pos) B_:=λZ=>PS.imp La λD τ H vO=>by obtain⟨D3,σ,S,hs,hr,ht,hc⟩:=vO;exact hc.rt .non S .non H (Kp.refl _ _) .non hr ht
def pP(c:cw)(t u:bV):bV:=λD σ S=>c σ S λb S1=>if b=true then t D σ S1 else u D σ S1
theorem bG{c:Expr}{a b:List Stmt}{tc:cw}(hc:dU X W3 c tc)(ha:cQ X W3 a t)(hb:cQ X W3 b u):dW X W3 (.If c a b pos) (pP tc t u):=λZ=>PS.imp (Lc (hc Z) (ha Z) (hb Z)) λD τ H vd=>by
 obtain⟨D3,σ,S,hs,hr,ht,hc⟩:=vd;refine⟨σ,S,_,hs,hr,ht,λb S' H' k l q=>?_⟩;cases b with
 |true=>exact⟨D3,σ,S',hs.mono k,l,q,hc.mono k⟩
 |false=>exact⟨D3,σ,S',hs.mono k,l,q,hc.mono k⟩
abbrev dw:=D->aF->af->(aF->af->Prop)->Prop
def lG(K:ak)(Z:Zt)(t:dw):TG:=λv τ H Q=>∃d σ S Q3,Rp K H d v/\SR K H σ τ/\Rl K Z S H/\t d σ S Q3/\CS K Z H Q3 Q
def fN(X:Cx)(W3:bE)(tg:Expr)(t:dw):Prop:=∀Z:ZX X W3,PG X tg (lG X.K Z.z t)
theorem PG.imp{X:Cx}{e:Expr}{t u:TG}(h:PG X e t)(f:∀v σ H Q,u v σ H Q->t v σ H Q):PG X e u:=λpins s σ H v w Q I r q=>h pins s σ H v w Q I r (f _ _ _ _ q)
def iL(i:Nat):dw:=λv σ S Q=>Q (σ.set i (some v)) S
theorem b6{i:Nat}{x:Str}(hN:X.N.Nodup)(hi:X.N[i]?=some x)(hx:Loc X.env.scope x)(hf:X.fn x=true∨X.env.scope.names.lookup x=some .local:=by first|exact .inl rfl|exact .inr rfl|assumption):fN X W3 (.Name x pos) (iL i) :=
 λZ=>PG.imp (Ld hN hi hx hf) λv τ H Q o9=>by obtain⟨d,σ,S,Q3,r,hs,hr,ht,hc⟩:=o9;exact hc _ S _ H (Kp.refl _ _) (hs.set r i) hr ht
abbrev iM:=List D->aF->af->(aF->af->Prop)->Prop
def NC(K:ak)(Z:Zt)(t:iM):jl:=λv τ H Q=>∃d σ S Q3,aN K H d v/\SR K H σ τ/\Rl K Z S H/\t d σ S Q3/\CS K Z H Q3 Q
def pQ(X:Cx)(W3:bE)(tg:List Expr)(t:iM):Prop:=∀Z:ZX X W3,iC X tg (NC X.K Z.z t)
theorem iC.imp{X:Cx}{e:List Expr}{t u:jl}(h:iC X e t)(f:∀v σ H Q,u v σ H Q->t v σ H Q):iC X e u:=λpins s σ H v w Q I r q=>h pins s σ H v w Q I r (f _ _ _ _ q)
def sm:iM:=λvs σ S Q=>vs=[]/\Q σ S
def mK(t:dw)(u:iM):iM:=λvs σ S Q=>∃v r,vs=v::r/\t v σ S λσ' S'=>u r σ' S' Q
theorem la:pQ X W3 [] sm:=λZ=>iC.imp Lg λv τ H Q vQ=>by
 obtain⟨d,σ,S,Q3,r,hs,hr,⟨e,q⟩,hc⟩:=vQ;subst e;cases r;exact⟨rfl,hc σ S τ H (Kp.refl _ _) hs hr q⟩
theorem fO{es:List Expr}{t:dw}{u:iM}(h1:fN X W3 e t)(h2:pQ X W3 es u)
 (hs:(assignEach (e::es) X.env).map (·.2)=assign e X.env::(assignEach es X.env).map (·.2):=by rfl):pQ X W3 (e::es) (mK t u):=λZ=>iC.imp (Lh (h1 Z) (h2 Z) hs) λv τ H Q z_13=>by
 obtain⟨d,σ,S,Q3,r,hs,hr,⟨d1,dr,e,q⟩,hc⟩:=z_13;subst e;cases r with
 |cons r rr=>exact⟨_,_,rfl,d1,σ,S,_,r,hs,hr,q,λσ' S' a8 H' k r' l q'=>⟨dr,σ',S',Q3,rr.mono k,r',l,q',hc.mono k⟩⟩
def so(n:Nat)(t:iM):dw:=λv σ S Q=>∃xs,v=.tup xs/\xs.length=n/\t xs σ S Q
theorem lb{es:List Expr}{k:Nat}{t:iM}{n:Nat}(hc:X.calm=true)(h:pQ X W3 es t)
 (hn:(assignEach es X.env).length=n:=by rfl) (hst:(assignEach es X.env).findIdx? (·.1)=none:=by rfl):fN X W3 (.Tuple es k pos) (so n t):=λZ=>PG.imp (Lj hc (h Z) hn hst) λv τ H Q z_14=>by
 obtain⟨d,σ,S,Q3,r,hs,hr,⟨xs,e,hl,q⟩,hc⟩:=z_14;subst e;cases r with
 |tup h1 h2=>exact⟨_,_,rfl,h1,by rw[<-h2.len];exact hl,xs,σ,S,Q3,h2,hs,hr,q,hc⟩
def vV(te:aK)(g:dw):bV:=λD σ S=>te σ S λx S1=>g x σ S1 D.nx
theorem ND{K:ak}{Z:Zt}{g:dw}{D:Ends}{τ:L2.St}{H:Hp}(h:lS K Z (vV te g) D τ H):rE (lE K Z te) (lG K Z g) D τ H:=by
 obtain⟨D3,σ,S,hs,hr,ht,hc⟩:=h;exact⟨σ,S,_,hs,hr,ht,λd S' v H' k r l q=>⟨d,σ,S',_,r,hs.mono k,l,q,hc.nx.mono k⟩⟩
theorem NF{tg:Expr}{g:dw}(he:aH X W3 e te)(hg:fN X W3 tg g)(hs:swapsWithSole [tg] e pos.line X.env=pure false:=by rfl)(hw:swappedStores [tg] e X.env=pure none:=by rfl)
 (h1:(assignEach [tg] X.env).map (·.2)=[assign tg X.env]:=by rfl):dW X W3 (.Assign [tg] e pos) (vV te g):=λZ=>PS.imp (Lm (he Z) (hg Z) hs hw h1) λD τ H h=>ND h
def pR(i:Nat)(te:aK):bV:=λD σ S=>te σ S λx S1=>D.nx (σ.set i (some x)) S1
theorem aL{i:Nat}{x:Str}{pos':Pos}(hN:X.N.Nodup)(hi:X.N[i]?=some x)(hx:Loc X.env.scope x)(he:aH X W3 e te)(hs:swapsWith e (some (.Name x pos')) pos.line X.env=pure false:=by rfl)(hf:X.fn x=true∨X.env.scope.names.lookup x=some .local:=by first|exact .inl rfl|exact .inr rfl|assumption) :
 dW X W3 (.Assign [.Name x pos'] e pos) (pR i te):=λZ=>PS.imp (Ln hN hi hx (he Z) hs hf) λD τ H z_15=>by obtain⟨D3,σ,S,hs,hr,ht,hc⟩:=z_15;exact 
 ⟨σ,S,_,hs,hr,ht,λd S' v H' k r l q=>hc.nx _ S' _ H' k ((hs.mono k).set r i) l q⟩
def B'(to ti:aK):dw:=λv σ S Q=>to σ S λo S1=>ti σ S1 λi S2=>∃p xs k j,o=.ref p/\i=.int k/\S2 p=some (.lst xs)/\eR xs.length k=some j/\Q σ (up S2 p (.lst (xs.set j v)))
theorem NG{o i:Expr}{to ti:aK}(ho:aH X W3 o to)(hi:aH X W3 i ti)
 (ha:∀v,assign (.Subscript o i pos) X.env v=(do
  let ov <-holding [v] (eval o X.env)
  let iv <-holding [v,ov] (eval i X.env)
  standAt pos
  holding [v,ov,iv] (setItem ov iv v)
  release [v,ov,iv] []):=by intro _;rfl):fN X W3 (.Subscript o i pos) (B' to ti):=λZ=>PG.imp (Ll (ho Z) (hi Z) set_list ha) λv τ H Q z_16=>by
 obtain⟨d,σ,S,Q3,r,hs,hr,ht,hc⟩:=z_16;refine⟨σ,S,_,hs,hr,ht,λx1 S1 v1 H1 k1 r1 l1 q1=>⟨σ,S1,_,hs.mono k1,l1,q1,λx2 S2 v2 H2 k2 r2 l2 q2=>?_⟩⟩;obtain⟨p,xs,k,j,rfl,rfl,e,hj,q⟩:=q2;cases r1;cases r2;obtain⟨vs,h1,h2⟩:=l2.obj p _ e;have kk:Kp Z.z H2 (upd H2 p (.lst (vs.set j v))):=Kp.at l2 e;refine⟨p,vs,k,j,rfl,rfl,h1,by rw[<-h2.len];exact hj,?_⟩;have k12:=k1.trans (k2.trans kk);exact hc σ _ τ _ k12 (hs.mono k12) (l2.put (o:=.lst (xs.set j d)) kk (l2.pH e) ⟨_,d7,(h2.mono kk).set (r.mono k12) j⟩) q
def Cb(i:Nat)(te:aK)(f:Int->Int->Int):bV:=λD σ S=>∃a,σ[i]?=some (some (.int a))/\te σ S λy S1=>∃b,y=.int b/\D.nx (σ.set i (some (.int (f a b)))) S1
theorem NH{i:Nat}{x:Str}{op:Operator}{f:Int->Int->Int}{pos':Pos}(hN:X.N.Nodup)(hi:X.N[i]?=some x)(hx:Loc X.env.scope x)(he:aH X W3 e te)(ho:u_ X op (AN f))(hf:X.fn x=true∨X.env.scope.names.lookup x=some .local:=by first|exact .inl rfl|exact .inr rfl|assumption) :
 dW X W3 (.AugAssign (.Name x pos') op e pos) (Cb i te f):=λZ=>PS.imp (Lp hN hi hx (he Z) ho hf) λD τ H z_18=>by
 obtain⟨D3,σ,S,hs,hr,⟨a,ea,ht⟩,hc⟩:=z_18;obtain⟨v,h1,h2⟩:=hs.at ea;cases h2;refine⟨_,h1,σ,S,_,hs,hr,ht,λy S' v H' k r l q=>?_⟩;obtain⟨b,rfl,q⟩:=q;cases r;exact⟨a,b,rfl,rfl,hc.nx _ S' _ H' k ((hs.mono k).set (.int _) i) l q⟩
def Cc(c:cw)(tb:bV):bV:=λD σ S=>∃W:Nat->aF->af->Prop,(∃m,W m σ S)/\∀m σ S,W m σ S ->
 c σ S λb S1=>if b=true then tb {D with nx:=λσ' S'=>∃m',m'<m/\W m' σ' S',ct:=λσ' S'=>∃m',m'<m/\W m' σ' S',bk:=D.nx} σ S1 else D.nx σ S1
theorem pS{c:Expr}{body:List Stmt}{tc:cw}{tb:bV}(hp:PassesOwn (model X.prog X.w) X.A X.env X.xe)(hc:dU X W3 c tc)(hb:cQ X W3 body tb):dW X W3 (.While c body [] pos) (Cc tc tb):=λZ=>PS.imp (Lu hp (hc Z) (hb Z)) λD τ H z_19=>by
 obtain⟨D3,σ,S,hs,hr,⟨W,⟨m0,w0⟩,turn⟩,hc⟩:=z_19;refine⟨λm a8 H'=>∃σ' S',Kp Z.z H H'/\SR X.K H' σ' a8/\Rl X.K Z.z S' H'/\W m σ' S',⟨m0,σ,S,Kp.refl _ _,hs,hr,w0⟩,?_⟩;rintro m NI H1 ⟨eQ,S1,k1,s1,l1,w1⟩;refine⟨eQ,S1,_,s1,l1,turn m eQ S1 w1,λb S2 H2 k2 l2 q2=>?_⟩;cases b with
 |true =>
  rw[if_pos rfl]at q2 ⊢;refine⟨λa8 H'=>∃m',m'<m/\∃σ' S',Kp Z.z H H'/\SR X.K H' σ' a8/\Rl X.K Z.z S' H'/\W m' σ' S',λa8 H' z=>z,_,eQ,S2,s1.mono k2,l2,q2,⟨?_,?_,?_,?_⟩⟩
  ·exact λσ' S' a8 H' k r l vT=>by obtain⟨m',hm,w⟩:=vT;exact⟨m',hm,σ',S',k1.trans (k2.trans k),r,l,w⟩
  ·exact hc.nx.mono (k1.trans k2)
  ·exact λσ' S' a8 H' k r l NJ=>by obtain⟨m',hm,w⟩:=NJ;exact⟨m',hm,σ',S',k1.trans (k2.trans k),r,l,w⟩
  ·exact hc.rt.mono (k1.trans k2)
 |false =>
  rw[if_neg cF]at q2 ⊢;exact hc.nx eQ S2 NI H2 (k1.trans k2) (s1.mono k2) l2 q2
end
abbrev dX:=aF->af->(List D->(af->Prop)->af->Prop)->Prop
structure Wk(K:ak)(Z:Zt)(J:It)(ds:List D)(Al:af->Prop)(H0:Hp):Prop where
 go:∀i d S H,Kp Z H0 H->Rl K Z S H->Al S->ds[i]?=some d->J.go i H/\∀v H',J.j5 i H v H'->Kp Z H H'/\Rp K H' d v/\(∀S',Rl K Z S' H->Rl K Z S' H')/\∀b,H b≠none->H' b=H b
 stop:∀S H,Kp Z H0 H->Rl K Z S H->Al S->J.stop ds.length H
def lI(K:ak)(Z:Zt)(t:dX):TI:=λτ H R=>∃σ S R3,SR K H σ τ/\Rl K Z S H/\t σ S R3/\∀ds Al S' J H',Kp Z H H'->Rl K Z S' H'->R3 ds Al S'->Wk K Z J ds Al H'->R J H'
def eV(X:Cx)(W3:bE)(tg iter:Expr)(t:dX):Prop:=∀Z:ZX X W3,PI X tg iter (lI X.K Z.z t)
theorem PI.imp{X:Cx}{tg e:Expr}{t u:TI}(h:PI X tg e t)(f:∀σ H R,u σ H R->t σ H R):PI X tg e u:=λpins s σ H Q I q=>h pins s σ H Q I (f _ _ _ q)
section
variable{X:Cx}{W3:bE}{tg l:Expr}{tl:aK}{pos:Pos}
def Cd(tl:aK):dX:=λσ S R=>tl σ S λx S1=>(∃a ds,x=.ref a/\S1 a=some (.lst ds)/\R ds (λS=>S a=some (.lst ds)) S1)∨∃ds,x=.bA ds/\R ds (λ_=>True) S1
theorem gL(hl:aH X W3 l tl):eV X W3 tg l (Cd tl):=λZ=>PI.imp (LA (hl Z)) λτ H R NK=>by
 obtain⟨σ,S,R3,hs,hr,ht,hc⟩:=NK;refine⟨σ,S,_,hs,hr,ht,λx S1 v H1 k1 r1 l1 q1=>?_⟩;rcases q1 with⟨a,ds,rfl,e,q⟩|⟨ds,rfl,q⟩
 ·cases r1;obtain⟨vs,h1,h2⟩:=l1.obj a _ e;refine⟨a,rfl,⟨vs,a6.of h1⟩,hc ds _ S1 _ H1 k1 l1 q ⟨λi d S2 H2 k2 l2 al hd=>?_,λS2 H2 k2 l2 al=>?_⟩⟩
  ·obtain⟨ws,h3,h4⟩:=l2.obj a _ al;obtain⟨v,hv,rv⟩:=h4.at hd;refine⟨⟨ws,v,a6.of h3,hv⟩,λv' H' y=>?_⟩;obtain⟨rfl,y⟩:=y;have:=y ws (a6.of h3);rw[hv]at this;cases this;exact⟨Kp.refl _ _,rv,λ_ z=>z,λ_ _=>rfl⟩
  ·obtain⟨ws,h3,h4⟩:=l2.obj a _ al;exact⟨ws,a6.of h3,by rw[h4.len];exact aX _⟩
 ·cases r1 with
  |@bA a vs _ h1 h2 =>
   refine⟨a,rfl,⟨vs,h1.sq⟩,hc ds _ S1 _ H1 k1 l1 q ⟨λi d S2 H2 k2 l2 al hd=>?_,λS2 H2 k2 l2 al=>?_⟩⟩
   ·obtain⟨v,hv,rv⟩:=h2.at hd;have h3:=(k2.vM h1).sq;refine⟨⟨vs,v,h3,hv⟩,λv' H' y=>?_⟩;obtain⟨rfl,y⟩:=y;have:=y vs h3;rw[hv]at this;cases this;exact⟨Kp.refl _ _,rv.mono k2,λ_ z=>z,λ_ _=>rfl⟩
   ·exact⟨vs,(k2.vM h1).sq,by rw[h2.len];exact aX _⟩
def Ce(tl:aK):dX:=λσ S R=>tl σ S λx S1=>∃ds,x=.tup ds/\R ds (λ_=>True) S1
theorem ju(hl:aH X W3 l tl):eV X W3 tg l (Ce tl):=λZ=>PI.imp (LB (hl Z)) λτ H R NL=>by
 obtain⟨σ,S,R3,hs,hr,ht,hc⟩:=NL;refine⟨σ,S,_,hs,hr,ht,λx S1 v H1 k1 r1 l1 q1=>?_⟩;obtain⟨ds,rfl,q⟩:=q1;cases r1 with
 |@tup a vs _ h1 h2 =>
  refine⟨a,rfl,⟨vs,h1⟩,hc ds _ S1 _ H1 k1 l1 q ⟨λi d S2 H2 k2 l2 al hd=>?_,λS2 H2 k2 l2 al=>?_⟩⟩
  ·obtain⟨v,hv,rv⟩:=h2.at hd;have h3:=k2.h_ h1;refine⟨⟨vs,v,h3,hv⟩,λv' H' y=>?_⟩;obtain⟨rfl,y⟩:=y;have:=y vs h3;rw[hv]at this;cases this;exact⟨Kp.refl _ _,rv.mono k2,λ_ z=>z,λ_ _=>rfl⟩
  ·exact⟨vs,k2.h_ h1,by rw[h2.len];exact aX _⟩
def nums(lo:Int)(n:Nat):List D:=(aW n).map λi:Nat=>.int (lo+(i:Int))
theorem fo{lo:Int}{n i:Nat}{d:D}(h:(nums lo n)[i]?=some d):i<n/\d=.int (lo+(i:Int)):=by
 unfold nums at h;rw[aJ]at h;cases e:(aW n)[i]? with
 |none=>rw[e]at h;cases h
 |some c =>
  rw[e]at h;cases h;obtain⟨h1,h2⟩:=bH.mp e;rw[List.getElem_range]at h2;subst h2;exact⟨by simpa using h1,rfl⟩
theorem dF{lo:Int}{n:Nat}:(nums lo n).length=n:=by simp[nums]
def Cf(ta:cy):dX:=λσ S R=>ta σ S λvs S1=>∃j:Int,vs=[.int j]/\-(2^62)<=j/\j<2^62/\R (nums 0 j.toNat) (λ_=>True) S1
def Cg(ta:cy):dX:=λσ S R=>ta σ S λvs S1=>∃i j:Int,vs=[.int i,.int j]/\(-(2^62)<=i/\i<2^62/\-(2^62)<=j/\j<2^62)/\R (nums i (j-i).toNat) (λ_=>True) S1
theorem Ci{K:ak}{Z:Zt}{lo:Int}{n:Nat}{H:Hp}:Wk K Z (oX lo n) (nums lo n) (λ_=>True) H:=by
 refine⟨λi d S2 H2 k2 l2 al hd=>?_,λS2 H2 k2 l2 al=>?_⟩
 ·obtain⟨hi,rfl⟩:=fo hd;refine⟨hi,λv' H' y=>?_⟩;obtain⟨rfl,rfl⟩:=y;exact⟨Kp.refl _ _,.int _,λ_ z=>z,λ_ _=>rfl⟩
 ·show n<=(nums lo n).length;rw[dF];exact aX _
theorem gM{a:Expr}{ta:cy}{p:Pos}(hg:Gl X "range")(hm:X.mg "range"=none)(ha:d9 X W3 [a] ta)(hs:starEach [a] X.env=[(false,eval a X.env)]:=by rfl):eV X W3 tg (.Call (.Name "range" p) [a] [] pos) (Cf ta) :=
 λZ=>PI.imp (LF hg hm (ha Z) hs) λτ H R NM=>by
 obtain⟨σ,S,R3,hs,hr,ht,hc⟩:=NM;refine⟨σ,S,_,hs,hr,ht,λxs S1 vW H1 k1 r1 l1 q1=>?_⟩;obtain⟨j,rfl,h1,h2,q⟩:=q1;cases r1 with
 |cons r1 rr =>
  cases rr;cases r1;exact⟨j,rfl,h1,h2,hc _ _ S1 _ H1 k1 l1 q Ci⟩
theorem NN{a b:Expr}{ta:cy}{p:Pos}(hg:Gl X "range")(hm:X.mg "range"=none)(ha:d9 X W3 [a,b] ta)(hs:starEach [a,b] X.env=[(false,eval a X.env),(false,eval b X.env)]:=by rfl)(hs2:starEach [b] X.env=[(false,eval b X.env)]:=by rfl) :
 eV X W3 tg (.Call (.Name "range" p) [a,b] [] pos) (Cg ta):=λZ=>PI.imp (LG hg hm (ha Z) hs hs2) λτ H R NO=>by
 obtain⟨σ,S,R3,hs,hr,ht,hc⟩:=NO;refine⟨σ,S,_,hs,hr,ht,λxs S1 vW H1 k1 r1 l1 q1=>?_⟩;obtain⟨i,j,rfl,h1,q⟩:=q1;cases r1 with
 |cons r1 rr =>
  cases rr with
  |cons r2 rr =>
   cases rr;cases r1;cases r2;exact⟨i,j,rfl,h1,hc _ _ S1 _ H1 k1 l1 q Ci⟩
def Cj(wi:dX)(g:dw)(tb:bV):bV:=λD σ S=>wi σ S λds Al S1=>∃W:Nat->aF->af->Prop,W 0 σ S1/\(∀i σ S,W i σ S->Al S) /\
 (∀i d σ S,ds[i]?=some d->W i σ S->g d σ S λiD S2=>tb {D with nx:=W (i+1),ct:=W (i+1),bk:=D.nx} iD S2)/\∀σ S,W ds.length σ S->D.nx σ S
theorem c9{iter:Expr}{body:List Stmt}{wi:dX}{g:dw}{tb:bV}(hp:PassesOwn (model X.prog X.w) X.A X.env X.xe)(hc:X.calm=true)(hi:eV X W3 tg iter wi)(hg:fN X W3 tg g)(hb:cQ X W3 body tb)
 (hs:∀x,foldedSetIterable iter X.env x=pure x:=by intro _;rfl):dW X W3 (.For tg iter body [] pos) (Cj wi g tb):=λZ=>PS.imp (LK hp hc (hi Z) (hg Z) (hb Z) hs) λD τ H NP=>by
 obtain⟨D3,σ,S,hs,hr,ht,hc⟩:=NP;refine⟨σ,S,_,hs,hr,ht,λds Al S1 J H1 k1 l1 q1 wk=>?_⟩;obtain⟨W,w0,al,turn,done⟩:=q1;refine⟨λi m a8 H'=>m=ds.length-i/\i<=ds.length/\∃σ' S',Kp Z.z H1 H'/\SR X.K H' σ' a8/\Rl X.K Z.z S' H'/\W i σ' S',⟨ds.length,by simp,dQ _,σ,S1,Kp.refl _ _,hs.mono k1,l1,w0⟩,?_⟩;rintro i m NQ H2 ⟨rfl,hi,iD,S2,k2,s2,l2,w2⟩;by_cases hlt:i<ds.length
 ·have hd:ds[i]?=some ds[i]:=aV hlt;obtain⟨go,yl⟩:=wk.go i _ S2 H2 k2 l2 (al _ _ _ w2) hd;refine .inr ⟨go,λa8 H'=>i<ds.length/\∃σ' S',Kp Z.z H1 H'/\SR X.K H' σ' a8/\Rl X.K Z.z S' H'/\W (i+1) σ' S',λa8 H' z=>⟨ds.length-(i+1),by lia,rfl,z.1,z.2⟩,λv H3 y=>?_⟩;obtain⟨k3,rv,l3,_⟩:=yl v H3 y;refine⟨_,iD,S2,_,rv,s2.mono k3,l3 _ l2,turn i _ iD S2 hd w2,λCk S4 vY H4 k4 s4 l4 q4=>?_⟩;have k14:=k2.trans (k3.trans k4);refine⟨_,Ck,S4,s4,l4,q4,⟨?_,?_,?_,?_⟩⟩
  ·exact λσ' S' a8 H' k r l w=>⟨hlt,σ',S',k14.trans k,r,l,w⟩
  ·exact hc.nx.mono (k1.trans k14)
  ·exact λσ' S' a8 H' k r l w=>⟨hlt,σ',S',k14.trans k,r,l,w⟩
  ·exact hc.rt.mono (k1.trans k14)
 ·have e:i=ds.length:=by lia
  subst e;exact .inl ⟨wk.stop S2 H2 k2 l2 (al _ _ _ w2),hc.nx iD S2 NQ H2 (k1.trans k2) s2 l2 (done iD S2 w2)⟩
def cV(σ:aF)(js:List Nat):aF:=js.map λj=>(σ[j]?).getD none
theorem SR.picks{K:ak}{H:Hp}{σ:aF}{τ:L2.St}(h:SR K H σ τ)(js:List Nat):SR K H (cV σ js) (pick τ js):=by
 unfold cV pick
 induction js with
 |nil=>exact .nil
 |cons j js ih =>
  refine .cons (λd e=>?_) ih;dsimp only at e ⊢;cases q:σ[j]? with
  |none=>rw[q]at e;cases e
  |some o =>
   rw[q]at e;have e:o=some d:=e;subst e;obtain⟨v,h1,h2⟩:=h.at q;exact⟨v,by rw[h1];rfl,h2⟩
def vZ(K:ak)(te:aK):TE:=λτ H Q=>∃Z:Zt,lE K Z te τ H Q
theorem aH.ex{X:Cx}{e:Expr}{te:aK}(h:aH X cU e te):PE X e (vZ X.K te):=λpins s σ H Q I NR=>by obtain⟨Z,q⟩:=NR;exact h (ZX.no X Z) pins s σ H Q I q
abbrev Zt.hide(Z:Zt)(H:Hp)(p:Addr):Zt:=⟨λa=>Z a∨a=p,H⟩
theorem Rl.hide{K:ak}{Z:Zt}{S:af}{H:Hp}{p:Addr}(l:Rl K Z S H)(hs:S p=none)(hh:H p≠none):Rl K (Z.hide H p) S H :=
 ⟨l.obj,λa z=>z.elim (l.hid a) λe=>e▸⟨hs,hh⟩,Kp.refl _ _⟩
theorem Rl.dY{K:ak}{Z Z':Zt}{S:af}{H:Hp}(l:Rl K Z' S H)(h:∀a,Z a->Z' a)(o:Kp Z Z.base H):Rl K Z S H:=⟨l.obj,λa z=>l.hid a (h a z),o⟩
theorem Kp.dY{Z Z':Zt}{H H':Hp}(k:Kp Z' H H')(h:∀a,Z a->Z' a):Kp Z H H':=⟨k.tup,k.c6,λa z=>k.hid a (h a z)⟩
variable{elt iter:Expr}{x:Str}{px:Pos}{scope bK:Scope}{M N:List Str}{js:List Nat}{wi:dX}{te:aK}
end
section
variable{K:PySem.W.Frag}
def i3(g:Int->Int->D):R3:=λx y S Q=>∃i j,x=.int i/\y=.int j/\Q (g i j) S
def pT(C:Int->Int->Prop)(g:Int->Int->D):R3:=λx y S Q=>∃i j,x=.int i/\y=.int j/\C i j/\Q (g i j) S
theorem jv{g:Int->Int->Int}:cC K (i3 λi j=>.int (g i j)) (iE λi j=>.int (g i j)):=by
 intro Z x y S Q3 v w H Q rx ry l h c;obtain⟨i,j,rfl,rfl,q⟩:=h;cases rx;cases ry;exact⟨i,j,rfl,rfl,c _ S _ H (Kp.refl _ _) (.int _) l q⟩
theorem f_{g:Int->Int->Bool}:cC K (i3 λi j=>.bl (g i j)) (iE λi j=>.bl (g i j)):=by
 intro Z x y S Q3 v w H Q rx ry l h c;obtain⟨i,j,rfl,rfl,q⟩:=h;cases rx;cases ry;exact⟨i,j,rfl,rfl,c _ S _ H (Kp.refl _ _) (.bl _) l q⟩
theorem bx{C:Int->Int->Prop}{g:Int->Int->Int}:cC K (pT C λi j=>.int (g i j)) (rI C λi j=>.int (g i j)):=by
 intro Z x y S Q3 v w H Q rx ry l h c;obtain⟨i,j,rfl,rfl,h,q⟩:=h;cases rx;cases ry;exact⟨i,j,rfl,rfl,h,c _ S _ H (Kp.refl _ _) (.int _) l q⟩
def Cm:R3:=λx y S Q=>∃i j,x=.str i/\y=.str j/\i.length+j.length<=sizeLine/\Q (.str (i++j)) S
theorem lg:cC K Cm (λx y H Q=>∃i j,x=.str i/\y=.str j/\i.length+j.length<=sizeLine/\Q (.str (i++j)) H):=by
 intro Z x y S Q3 v w H Q rx ry l h c;obtain⟨i,j,rfl,rfl,h,q⟩:=h;cases rx;cases ry;exact⟨i,j,rfl,rfl,h,c _ S _ H (Kp.refl _ _) (.str _) l q⟩
def v5:D->Bool
 | .non=>true
 |_=>false
theorem NS{H:Hp}{x:D}{v:V}(r:Rp K H x v):v5 x=decide (v=.non):=by
 cases r<;>rfl
def Cn:R3:=λx y S Q=>y=.non/\Q (.bl (v5 x)) S
theorem pU:cC K Cn (λx y H Q=>y=.non/\Q (.bl (decide (x=.non))) H):=by
 intro Z x y S Q3 v w H Q rx ry l h c;obtain⟨rfl,q⟩:=h;cases ry;rw[<-NS rx];exact⟨rfl,c _ S _ H (Kp.refl _ _) (.bl _) l q⟩
def Co:R3:=i3 λi j=>.bl (decide (i=j))
def Cp:R3:=i3 λi j=>.bl (!decide (i=j))
def v7:R3:=λx y S Q=>∃i j,x=.str i/\y=.str j/\Q (.bl (decide (i=j))) S
def Cq:R3:=λx y S Q=>∃i j,x=.str i/\y=.str j/\Q (.bl (!decide (i=j))) S
theorem Cr{i j:Int}:decide (V.int i=V.int j)=decide (i=j):=by rw[vg];rfl
theorem Cs{i j:Str}:decide (V.str i=V.str j)=decide (i=j):=by
 by_cases h:i=j
 ·subst h;simp
 ·have:V.str i≠V.str j:=λe=>h (V.str.inj e);simp[h]
theorem fq:cC K Co vf:=by
 intro Z x y S Q3 v w H Q rx ry l h c;obtain⟨i,j,rfl,rfl,q⟩:=h;cases rx;cases ry;refine⟨rfl,?_⟩;rw[Cr];exact c _ S _ H (Kp.refl _ _) (.bl _) l q
theorem NT:cC K Cp rM:=by
 intro Z x y S Q3 v w H Q rx ry l h c;obtain⟨i,j,rfl,rfl,q⟩:=h;cases rx;cases ry;refine⟨rfl,?_⟩;rw[Cr];exact c _ S _ H (Kp.refl _ _) (.bl _) l q
theorem fP:cC K v7 vf:=by
 intro Z x y S Q3 v w H Q rx ry l h c;obtain⟨i,j,rfl,rfl,q⟩:=h;cases rx;cases ry;refine⟨rfl,?_⟩;rw[Cs];exact c _ S _ H (Kp.refl _ _) (.bl _) l q
theorem mL:cC K Cq rM:=by
 intro Z x y S Q3 v w H Q rx ry l h c;obtain⟨i,j,rfl,rfl,q⟩:=h;cases rx;cases ry;refine⟨rfl,?_⟩;rw[Cs];exact c _ S _ H (Kp.refl _ _) (.bl _) l q
mutual
inductive Dn(S:af):D->Dt->Prop where
 |non:Dn S .non .non
 |bl (b:Bool):Dn S (.bl b) (.bl b)
 |int (i:Int):Dn S (.int i) (.int i)
 |str (x:Str):Dn S (.str x) (.str x)
 |tup {ds:List D} {es:List Dt}:dm S ds es->Dn S (.tup ds) (.tup es)
 |bA {ds:List D} {es:List Dt}:dm S ds es->Dn S (.bA ds) (.lst es)
 |ref {a:Addr} {ds:List D} {es:List Dt}:S a=some (.lst ds)->dm S ds es->Dn S (.ref a) (.lst es)
inductive dm(S:af):List D->List Dt->Prop where
 |nil:dm S [] []
 |cons {d:D} {e:Dt} {ds:List D} {es:List Dt}:Dn S d e->dm S ds es->dm S (d::ds) (e::es)
end
mutual
theorem Dn.down{Z:Zt}{S:af}{H:Hp}(l:Rl K Z S H):∀{d:D} {e:Dt} {v:V},Dn S d e->Rp K H d v->DR K H e v
 |_,_,_,.non,r=>by cases r;exact .non
 |_,_,_,.bl _,r=>by cases r;exact .bl _
 |_,_,_,.int _,r=>by cases r;exact .int _
 |_,_,_,.str _,r=>by cases r;exact .str _
 |_,_,_,.tup h,r=>by cases r with|tup p q=>exact .tup p (dm.down l h q)
 |_,_,_,.bA h,r=>by cases r with|bA p q=>exact .lst p.sq (dm.down l h q)
 |_,_,_,.ref e h,r=>by
  cases r;obtain⟨vs,h1,h2⟩:=l.obj _ _ e;exact .lst (a6.of h1) (dm.down l h h2)
theorem dm.down{Z:Zt}{S:af}{H:Hp}(l:Rl K Z S H):∀{ds:List D} {es:List Dt} {vs:List V},dm S ds es->aN K H ds vs->dk K H es vs
 |_,_,_,.nil,r=>by cases r;exact .nil
 |_,_,_,.cons h t,r=>by cases r with|cons p q=>exact .cons (Dn.down l h p) (dm.down l t q)
end
mutual
def D.dt:D->Dt
 | .non=>.non
 | .bl b=>.bl b
 | .int i=>.int i
 | .str x=>.str x
 | .tup ds=>.tup (D.b8 ds)
 | .bA ds=>.lst (D.b8 ds)
 | .ref _=>.non
 | .ty _=>.non
def D.b8:List D->List Dt
 |[]=>[]
 |d::ds=>d.dt::D.b8 ds
end
mutual
def D.pure:D->Bool
 | .tup ds=>D.gb ds
 | .bA ds=>D.gb ds
 | .ref _=>false
 | .ty _=>false
 |_=>true
def D.gb:List D->Bool
 |[]=>true
 |d::ds=>d.pure&&D.gb ds
end
mutual
theorem Dn.of{S:af}:∀{d:D},d.pure=true->Dn S d d.dt
 | .non,_=>.non
 | .bl _,_=>.bl _
 | .int _,_=>.int _
 | .str _,_=>.str _
 | .tup ds,h=>by simp only[D.pure]at h;simp only[D.dt];exact .tup (dm.of h)
 | .bA ds,h=>by simp only[D.pure]at h;simp only[D.dt];exact .bA (dm.of h)
 | .ref _,h=>by simp[D.pure]at h
 | .ty _,h=>by simp[D.pure]at h
theorem dm.of{S:af}:∀{ds:List D},D.gb ds=true->dm S ds (D.b8 ds)
 |[],_=>.nil
 |d::ds,h=>by
  simp only[D.gb,fE]at h;simp only[D.b8];exact .cons (Dn.of h.1) (dm.of h.2)
end
theorem D.lh:∀{ds:List D},D.gb ds=true↔∀d∈ds,d.pure=true
 |[]=>by simp[D.gb]
 |d::ds=>by simp[D.gb,D.lh (ds:=ds)]
theorem D.j':∀ds:List D,D.b8 ds=ds.map D.dt
 |[]=>rfl
 |d::ds=>by simp only[D.b8,bo,D.j' ds]
def su(n:Nat):R3:=λx y S Q=>∃d e,Dn S x d/\Dn S y e/\cK d<=n/\Q (.bl (aR d e)) S
theorem v8{n:Nat}:cC K (su n) (λx y H Q=>∃d e,DR K H d x/\DR K H e y/\cK d<=n/\Q (.bl (aR d e)) H):=by
 intro Z x y S Q3 v w H Q rx ry l h c;obtain⟨d,e,h1,h2,hn,q⟩:=h;exact⟨d,e,h1.down l rx,h2.down l ry,hn,c _ S _ H (Kp.refl _ _) (.bl _) l q⟩
def iN:D->Bool
 | .non=>true
 | .bl _=>true
 | .int _=>true
 | .str _=>true
 |_=>false
def vD:D->V
 | .non=>.non
 | .bl b=>.bl b
 | .int i=>.int i
 | .str x=>.str x
 |_=>.non
theorem Ct{H:Hp}{x:D}{v:V}(r:Rp K H x v)(h:iN x=true):v=vD x/\iG v=true:=by
 cases r<;>first|exact⟨rfl,rfl⟩|(simp[iN]at h)
theorem v9{H:Hp}:∀{ds:List D} {vs:List V},aN K H ds vs->ds.all iN=true->vs=ds.map vD/\vs.all iG=true
 |_,_,.nil,_=>⟨rfl,rfl⟩
 |_,_,.cons r t,h=>by
  simp only[ma,fE]at h;obtain⟨e1,f1⟩:=Ct r h.1;obtain⟨e2,f2⟩:=v9 t h.2;subst e1;subst e2;exact⟨rfl,by simp only[ma,f1,f2,l9]⟩
def memD(x:D)(ds:List D):Bool:=inV (vD x) (ds.map vD)
def sv(neg:Bool):R3:=λx y S Q=>∃ds,(IsL S y ds∨y=.tup ds)/\iN x=true/\ds.all iN=true/\Q (.bl (if neg then !memD x ds else memD x ds)) S
theorem mM{neg:Bool}:cC K (sv neg) (vx K neg):=by
 intro Z x y S Q3 v w H Q rx ry l h c;obtain⟨ds,hy,fx,fd,q⟩:=h;obtain⟨e1,f1⟩:=Ct rx fx;subst e1;rcases hy with hy|rfl
 ·obtain⟨a,vs,rfl,h1,h2⟩:=hy.down ry l;obtain⟨e2,f2⟩:=v9 h2 fd;subst e2;exact⟨a,_,rfl,.inl h1,f1,f2,c _ S _ H (Kp.refl _ _) (.bl _) l q⟩
 ·cases ry with
  |tup h1 h2 =>
   obtain⟨e2,f2⟩:=v9 h2 fd;subst e2;exact⟨_,_,rfl,.inr h1,f1,f2,c _ S _ H (Kp.refl _ _) (.bl _) l q⟩
theorem Cu(x:Str)(xs:List Str):memD (.str x) (xs.map D.str)=decide (x∈xs):=by
 unfold memD inV
 induction xs with
 |nil=>rfl
 |cons y ys ih =>
  simp only[bo,kL,a9];rw[ih];by_cases h:y=x
  ·subst h;simp[hW,vD]
  ·have h':¬x=y:=λz=>h z.symm;simp[hW,vD,h,h']
theorem Cv(xs:List Str):(xs.map D.str).all iN=true:=by
 induction xs with
 |nil=>rfl
 |cons y ys ih=>simp only[bo,ma,ih];rfl
def sy:R3:=λx y S Q=>∃ds i d,IsL S x ds/\y=.int i/\b5 ds i=some d/\Q d S
def jw:R3:=λx y S Q=>∃ds i d,x=.tup ds/\y=.int i/\b5 ds i=some d/\Q d S
def Cw:R3:=λx y S Q=>∃z i c,x=.str z/\y=.int i/\z.length<=sizeLine/\b5 z.cps.toList i=some c/\Q (.str ⟨#[c]⟩) S
theorem aN.b5{H:Hp}{ds:List D}{vs:List V}{i:Int}{d:D}(r:aN K H ds vs)(h:L2.b5 ds i=some d):∃v,L2.b5 vs i=some v/\Rp K H d v:=by
 unfold L2.b5 at h ⊢;rw[r.len]at h;cases e:eR vs.length i with
 |none=>rw[e]at h;cases h
 |some j =>
  rw[e]at h;exact r.at h
theorem ft:cC K sy (Bj K):=by
 intro Z x y S Q3 v w H Q rx ry l h c;obtain⟨ds,i,d,h1,rfl,h2,q⟩:=h;cases ry;obtain⟨a,vs,rfl,h3,h4⟩:=h1.down rx l;obtain⟨u,h5,h6⟩:=h4.b5 h2;exact⟨a,vs,i,u,rfl,rfl,h3,h5,c d S u H (Kp.refl _ _) h6 l q⟩
theorem aD:cC K jw (Bk K):=by
 intro Z x y S Q3 v w H Q rx ry l h c;obtain⟨ds,i,d,rfl,rfl,h2,q⟩:=h;cases ry;cases rx with
 |tup h3 h4 =>
  obtain⟨u,h5,h6⟩:=h4.b5 h2;exact⟨_,_,i,u,rfl,rfl,h3,h5,c d S u H (Kp.refl _ _) h6 l q⟩
theorem Cy:cC K Cw Bl:=by
 intro Z x y S Q3 v w H Q rx ry l h c;obtain⟨z,i,k,rfl,rfl,hz,h2,q⟩:=h;cases ry;cases rx;exact⟨z,i,k,rfl,rfl,hz,h2,c _ S _ H (Kp.refl _ _) (.str _) l q⟩
def cutD(xs:List D)(lo hi:Option Int):List D:=(xs.drop (HT.aI xs.length 0 lo)).take (HT.aI xs.length xs.length hi-HT.aI xs.length 0 lo)
theorem aN.cut{H:Hp}{ds:List D}{vs:List V}(r:aN K H ds vs)(lo hi:Option Int):aN K H (cutD ds lo hi) (jm vs lo hi):=by
 unfold cutD jm;rw[r.len];exact(r.drop _).take _
def Cz:D->Option Int->Option Int->af->K3->Prop:=λx lo hi S Q=>∃ds,IsL S x ds/\c8 S (cutD ds lo hi) Q
def CB:D->Option Int->Option Int->af->K3->Prop:=λx lo hi S Q=>∃ds,x=.tup ds/\Q (.tup (cutD ds lo hi)) S
def CC:D->Option Int->Option Int->af->K3->Prop:=λx lo hi S Q=>∃z,x=.str z/\z.length<=sizeLine/\Q (.str (textOf (jo z.cps.toList lo hi))) S
theorem mO:sk K Cz (Bn K):=by
 intro Z x lo hi S Q3 v H Q rx l h c;obtain⟨ds,h1,q⟩:=h;obtain⟨a,vs,rfl,h3,h4⟩:=h1.down rx l;exact⟨a,vs,rfl,h3,c8.down q (h4.cut lo hi) l c⟩
theorem mP:sk K CC BL:=by
 intro Z x lo hi S Q3 v H Q rx l h c;obtain⟨z,rfl,hz,q⟩:=h;cases rx;exact⟨z,rfl,hz,c _ S _ H (Kp.refl _ _) (.str _) l q⟩
def CF:R3:=λx y S Q=>∃a b ds es,x=.ref a/\y=.ref b/\S a=some (.lst ds)/\S b=some (.lst es)/\ds.length+es.length<=sizeLine/\c8 S (ds++es) Q
theorem v_:cC K CF Bs:=by
 intro Z x y S Q3 v w H Q rx ry l h c;obtain⟨a,b,ds,es,rfl,rfl,h1,h2,hz,q⟩:=h;cases rx;cases ry;obtain⟨vs,h3,h4⟩:=l.obj a _ h1;obtain⟨ws,h5,h6⟩:=l.obj b _ h2;exact⟨a,b,vs,ws,rfl,rfl,h3,h5,by rw[<-h4.len,<-h6.len];exact hz,c8.down q (h4.append h6) l c⟩
def CG:R3:=λx y S Q=>∃ds es,x=.tup ds/\y=.tup es/\ds≠[]/\ds.length+es.length<=sizeLine/\Q (.tup (ds++es)) S
def mQ:List D->af->K3->Prop:=λxs S Q=>∃x ds,xs=[x]/\(IsL S x ds∨x=.tup ds)/\Q (.int ds.length) S
theorem eA:f9 K mQ (λxs H Q=>∃p ys,xs=[.ref p]/\(a6 K H p ys∨bq K H p ys)/\Q (.int ys.length) H):=by
 intro Z ds S Q3 vs H Q r l h c;obtain⟨x,es,rfl,hx,q⟩:=h;cases r with
 |cons r rr =>
  cases rr;rcases hx with hx|rfl
  ·obtain⟨a,ws,rfl,h3,h4⟩:=hx.down r l;refine⟨a,ws,rfl,.inl h3,?_⟩;rw[<-h4.len];exact c _ S _ H (Kp.refl _ _) (.int _) l q
  ·cases r with
   |tup h3 h4 =>
    refine⟨_,_,rfl,.inr h3,?_⟩;rw[<-h4.len];exact c _ S _ H (Kp.refl _ _) (.int _) l q
def CH:List D->af->K3->Prop:=λxs S Q=>∃z,xs=[.str z]/\z.length<=sizeLine/\Q (.int z.length) S
theorem NU:f9 K CH (λxs H Q=>∃z,xs=[.str z]/\z.length<=sizeLine/\Q (.int z.length) H):=by
 intro Z ds S Q3 vs H Q r l h c;obtain⟨z,rfl,hz,q⟩:=h;cases r with
 |cons r rr =>
  cases rr;cases r;exact⟨z,rfl,hz,c _ S _ H (Kp.refl _ _) (.int _) l q⟩
def CI:List D->af->K3->Prop:=λxs S Q=>∃x ds,xs=[x]/\(IsL S x ds∨x=.tup ds)/\Q (.tup ds) S
theorem iO:f9 K CI (λxs H Q=>∃p ys,xs=[.ref p]/\((a6 K H p ys/\∀l,H l=none->Q (.ref l) (upd H l (.tup ys)))∨(bq K H p ys/\Q (.ref p) H))):=by
 intro Z ds S Q3 vs H Q r l h c;obtain⟨x,es,rfl,hx,q⟩:=h;cases r with
 |cons r rr =>
  cases rr;rcases hx with hx|rfl
  ·obtain⟨a,ws,rfl,h3,h4⟩:=hx.down r l;exact⟨a,ws,rfl,.inl ⟨h3,tup.down q h4 l c⟩⟩
  ·cases r with
   |tup h3 h4=>exact⟨_,_,rfl,.inr ⟨h3,c _ S _ H (Kp.refl _ _) (.tup h3 h4) l q⟩⟩
def sA:D->List D->af->K3->Prop:=λx ys S Q=>∃a ds y,x=.ref a/\ys=[y]/\S a=some (.lst ds)/\ds.length<sizeLine/\Q .non (up S a (.lst (ds++[y])))
theorem gN:pM K sA Bq:=by
 intro Z x ds S Q3 v vs H Q rx r l h c;obtain⟨a,es,y,rfl,rfl,e,hz,q⟩:=h;cases rx;cases r with
 |@cons _ w _ _ r rr =>
  cases rr;obtain⟨ws,h1,h2⟩:=l.obj a _ e;have kk:Kp Z H (upd H a (.lst (ws++[w]))):=Kp.at l e;exact⟨a,ws,w,rfl,rfl,h1,by rw[<-h2.len];exact hz,c _ _ _ _ kk .non (l.put (o:=.lst (es++[y])) kk (l.pH e) ⟨_,d7,(h2.mono kk).append (.cons (r.mono kk) .nil)⟩) q⟩
def CJ:D->List D->af->K3->Prop:=λx ys S Q=>∃a ds y,x=.ref a/\ys=[]/\S a=some (.lst (ds++[y]))/\Q y (up S a (.lst ds))
theorem CM:pM K CJ BG:=by
 intro Z x ds S Q3 v vs H Q rx r l h c;obtain⟨a,es,y,rfl,rfl,e,q⟩:=h;cases rx;cases r;obtain⟨ws,h1,h2⟩:=l.obj a _ e;obtain⟨us,u,rfl,h3,h4⟩:=h2.snoc_inv;have kk:Kp Z H (upd H a (.lst us)):=Kp.at l e;exact⟨a,us,u,rfl,rfl,h1,c _ _ _ _ kk (h4.mono kk) (l.put (o:=.lst es) kk (l.pH e) ⟨_,d7,h3.mono kk⟩) q⟩
def CN:D->List D->af->K3->Prop:=λx ys S Q=>∃a b ds es,x=.ref a/\ys=[.ref b]/\S a=some (.lst ds)/\S b=some (.lst es)/\ds.length+es.length<=sizeLine/\Q .non (up S a (.lst (ds++es)))
theorem wa:pM K CN Br:=by
 intro Z x ds S Q3 v vs H Q rx r l h c;obtain⟨a,b,es,fs,rfl,rfl,e,e2,hz,q⟩:=h;cases rx;cases r with
 |cons r rr =>
  cases rr;cases r;obtain⟨ws,h1,h2⟩:=l.obj a _ e;obtain⟨us,h3,h4⟩:=l.obj b _ e2;have kk:Kp Z H (upd H a (.lst (ws++us))):=Kp.at l e;exact⟨a,b,ws,us,rfl,rfl,h1,h3,by rw[<-h2.len,<-h4.len];exact hz,c _ _ _ _ kk .non (l.put (o:=.lst (es++fs)) kk (l.pH e) ⟨_,d7,(h2.mono kk).append (h4.mono kk)⟩) q⟩
end
end E3
namespace E3
open PySem PySem.Spec PyProof.Rows L2 EE
section
variable{prog:Program}{w:World}{A:Around}{E:Value->Shared->Prop}{s:Shared}
theorem NV{t sl:Addr}{items:Array Value}{vl vu:Value}{lo hi:Option Int}{Q:Value->Shared->Prop}(ht:IsTup s.heap t items)(hs:s.heap.IsSliceOf sl vl vu .none)(pl:IsPart vl lo)(pu:IsPart vu hi)
 (hw:HT.aI items.size 0 lo=0/\HT.aI items.size items.size hi=items.size) (h:Q (.ref t) s):wpAny (model prog w) A (getItem (.ref t) (.ref sl)) Q E s:=by
 obtain⟨os,hos,hcs,hds⟩:=id hs;have hTs:s.TypeIs (.ref sl) "slice":=⟨os,hos,hcs⟩;obtain⟨o,ho,hc,hd⟩:=id ht;unfold getItem
 try with_reducible refine mf ?_
 first|refine aj (aG ?_)|skip
 refine aj (IX ht.typeIs (by decide) ?_);refine aj (jQ (name:=iq "__getitem__") ht.typeIs mo
  (i9 mo ht.typeIs IY ?_ (IZ _ _)))
 show wpAny _ _ (zb (.ref t) >>= _) _ _ s;refine aj (tupleItemsOf_ ht ?_);refine aj (qR hTs ?_);rw[if_pos (by decide)];refine aj (HT.Be hs pl pu ?_);have NW:(((HT.aI items.size 0 lo:Nat):Int)==0&&(1:Int)==1&&(HT.aI items.size items.size hi-HT.aI items.size 0 lo)==items.size)=true:=by
  rw[hw.1,hw.2];simp
 show wpAny _ _ (if(((HT.aI items.size 0 lo:Nat):Int)==0&&(1:Int)==1&&(HT.aI items.size items.size hi-HT.aI items.size 0 lo)==items.size)=true then _ else _) _ _ s;rw[if_pos NW];refine aj (m:=Jm (Value.ref t)) ?_;unfold Jm
 first
  |refine aj (qR ht.typeIs (aG ?_))
  |exact aj (qR ht.typeIs (aG ?_))
 rw[if_pos (by decide)];exact aj (kG (aG ⟨_,rfl,aG h⟩))
end
section
variable{X:Cx}
def CP(K:ak):V->Option Int->Option Int->Hp->VK->Prop:=λx lo hi H Q=>∃a xs,x=.ref a/\bq K H a xs /\
 ((HT.aI xs.length 0 lo=0/\HT.aI xs.length xs.length hi=xs.length)->Q (.ref a) H)/\(¬(HT.aI xs.length 0 lo=0/\HT.aI xs.length xs.length hi=xs.length)->∀p,H p=none->Q (.ref p) (upd H p (.tup (jm xs lo hi))))
theorem sC:mz X (CP X.K):=by
 intro pins s σ H x v vl vu lo hi sl Q I rx hs pl pu h;obtain⟨a,xs,rfl,hx,h1,h2⟩:=h;by_cases hw:HT.aI xs.length 0 lo=0/\HT.aI xs.length xs.length hi=xs.length
 ·cases rx;obtain⟨its,r,ht,hz⟩:=I.tuple hx;have hlen:its.toArray.size=xs.length:=by rw[b7];exact r.length.symm
  refine⟨"tuple",_,mo.lookup,ht.typeIs,?_⟩;refine NV ht hs pl pu (by rw[hlen];exact hw) ?_;exact⟨.ref a,H,I,rfl,h1 hw⟩
 ·exact Ms pins s σ H _ v vl vu lo hi sl Q I rx hs pl pu ⟨a,xs,rfl,hx,hw,h2 hw⟩
theorem NX{xs:List D}{lo hi:Option Int}(h:HT.aI xs.length 0 lo=0/\HT.aI xs.length xs.length hi=xs.length):cutD xs lo hi=xs:=by
 unfold cutD;rw[h.1,h.2,oC,oD,ir]
theorem sD{K:ak}:sk K CB (CP K):=by
 intro Z x lo hi S Q3 v H Q rx l h c;obtain⟨ds,rfl,q⟩:=h;cases rx with
 |@tup a vs _ h3 h4 =>
  refine⟨a,vs,rfl,h3,λe=>?_,λ_=>tup.down q (h4.cut lo hi) l c⟩;rw[<-h4.len]at e;rw[NX e]at q;exact c _ S _ H (Kp.refl _ _) (.tup h3 h4) l q
theorem CQ{K:ak}:cC K CG (Bg K):=by
 intro Z x y S Q3 v w H Q rx ry l h c;obtain⟨ds,es,rfl,rfl,hn,hz,q⟩:=h;cases rx with
 |@tup a vs _ h1 h2 =>
  cases ry with
  |@tup b ws _ h3 h4 =>
   refine⟨a,b,vs,ws,rfl,rfl,h1,h3,?_,by rw[<-h2.len,<-h4.len];exact hz,λe=>?_,λ_=>tup.down q (h2.append h4) l c⟩
   ·rintro rfl;cases h2;exact hn rfl
   ·subst e;cases h4;rw[l_]at q;exact c _ S _ H (Kp.refl _ _) (.tup h1 h2) l q
def sE(S:af):D->String->Prop
 | .non,n=>n="NoneType"
 | .bl _,n=>n="bool"
 | .int _,n=>n="int"
 | .str _,n=>n="str"
 | .tup _,n=>n="tuple"
 | .bA _,n=>n="list"
 | .ref a,n=>(n="list"/\∃ds,S a=some (.lst ds))∨(n="dict"/\∃kvs,S a=some (.j_ kvs))
 | .ty _,_=>False
inductive mR(K:ak)(H:Hp):V->String->Prop where
 |of {x:V} {n:String}:fX K H x (.type n)->mR K H x n
 |tup {a:Addr} {xs:List V}:bq K H a xs->mR K H (.ref a) "tuple"
 |lst {a:Addr} {xs:List V}:a6 K H a xs->mR K H (.ref a) "list"
theorem pV:fI X (.builtin "isinstance") (λxs H Q=>∃x n m b,xs=[x,.ty n]/\mR X.K H x m/\kI X.K (.type m) (.type n)=some b/\Q (.bl b) H):=by
 intro pins s σ H xs us Q I r h;obtain⟨x,n,m,b,rfl,ty,e,q⟩:=h;obtain⟨u,c,rfl,rx,rc⟩:=vals2 r;obtain rfl:c=Value.type n:=rc;cases ty with
 |of t=>exact L5 I rx t e λtk=>⟨.bl b,H,I.tok _,rfl,q⟩
 |@tup a xs ht =>
  cases (show u=Value.ref a from rx);obtain⟨_,_,⟨o,h1,h2,_⟩,_⟩:=I.tuple ht;exact gq IS I.dI ⟨o,h1,h2⟩ e (λz=>nomatch z) λtk=>⟨.bl b,H,I.tok _,rfl,q⟩
 |@lst a xs ht =>
  cases (show u=Value.ref a from rx);obtain⟨_,_,⟨o,n,h1,h2,_⟩,_⟩:=I.list ht;exact gq zo I.dI ⟨o,h1,h2⟩ e (λz=>nomatch z) λtk=>⟨.bl b,H,I.tok _,rfl,q⟩
theorem sE.down{K:ak}{Z:Zt}{S:af}{H:Hp}{x:D}{v:V}{n:String}(h:sE S x n)(r:Rp K H x v)(l:Rl K Z S H):mR K H v n:=by
 cases r with
 |non=>cases h;exact .of .non
 |bl b=>cases h;exact .of (.bl b)
 |int i=>cases h;exact .of (.int i)
 |str x=>cases h;exact .of (.str x)
 |tup h1 h2=>cases h;exact .tup h1
 |bA h1 h2=>cases h;exact .lst h1.sq
 |ty n=>exact h.elim
 |ref a =>
  rcases h with⟨rfl,ds,e⟩|⟨rfl,kvs,e⟩
  ·obtain⟨vs,h1,_⟩:=l.obj a _ e;exact .lst (a6.of h1)
  ·obtain⟨vs,h1,_⟩:=l.obj a _ e;exact .of (.dK h1)
def hJ(m n:String):Option Bool:=if m=n then some true else if m="bool"/\n="int" then some true else
 if m∈["NoneType","bool","int","str","tuple","list","dict"]/\n∈["bool","int","str","tuple","list","dict"] then some false else none
theorem NY{K:ak}{m n:String}{b:Bool}(h:hJ m n=some b):kI K (.type m) (.type n)=some b:=by
 by_cases e:m=n
 ·subst e;rw[hJ,if_pos rfl]at h;cases h;exact Nh K m
 rw[hJ,if_neg e]at h;by_cases e2:m="bool"/\n="int"
 ·rw[if_pos e2]at h;cases h;obtain⟨rfl,rfl⟩:=e2;unfold kI gX Jn;dsimp only;cbv
 rw[if_neg e2]at h;by_cases e3:m∈["NoneType","bool","int","str","tuple","list","dict"]/\n∈["bool","int","str","tuple","list","dict"]
 ·rw[if_pos e3]at h;cases h;obtain⟨h1,h2⟩:=e3;simp only[a9,bZ,or_false]at h1 h2;unfold kI gX Jn;dsimp only;rcases h1 with rfl|rfl|rfl|rfl|rfl|rfl|rfl<;>rcases h2 with rfl|rfl|rfl|rfl|rfl|rfl<;>first|exact absurd rfl e|exact absurd ⟨rfl,rfl⟩ e2|cbv
 ·rw[if_neg e3]at h;cases h
def wb:List D->af->K3->Prop:=λxs S Q=>∃x n m b,xs=[x,.ty n]/\sE S x m/\hJ m n=some b/\Q (.bl b) S
theorem pW{K:ak}:f9 K wb (λxs H Q=>∃x n m b,xs=[x,.ty n]/\mR K H x m/\kI K (.type m) (.type n)=some b/\Q (.bl b) H):=by
 intro Z ds S Q3 vs H Q r l h c;obtain⟨x,n,m,b,rfl,ty,e,q⟩:=h;cases r with
 |cons r rr =>
  cases rr with
  |cons r2 rr =>
   cases rr;cases r2;exact⟨_,n,m,b,rfl,ty.down r l,NY e,c _ S _ H (Kp.refl _ _) (.bl _) l q⟩
end
abbrev aS:=List D->af->K3->X3->Prop
inductive ia(K:ak)(sp:aS)(vs:List V)(H:Hp)(Q:VK)(E:XK):Prop where
 |mk (Z:Zt) (ds:List D) (S:af) (Q3:K3) (E3:X3) (h1:aN K H ds vs) (h2:Rl K Z S H) (h3:sp ds S Q3 E3) (h4:CK K Z H Q3 Q) (h5:BR K Z H E3 E)
structure av(P:Program)(w:World)(K:ak)(mg:Str->Option Value)(base:Heap)(k:Nat)(x:Str)(ps:List Str)(sp:aS):Prop where
 ex:∃f fd,du P w K mg base (bW P w) k f fd ps (ia K sp)/\Binds K fd ps []/\bD K (.ref f)=true/\mg x=some (.ref f)
def dJ(N:List Str)(ds:List D):aF:=ds.map some++eG (N.length-ds.length) none
section
variable{P:Program}{w:World}{K:PySem.W.Frag}{mg:Str->Option Value}{base:Heap}
theorem av.mono{j k:Nat}{x:Str}{ps:List Str}{sp:aS}(C:av P w K mg base j x ps sp)(h:j<=k):av P w K mg base k x ps sp:=by
 obtain⟨f,fd,F,r⟩:=C.ex;exact⟨f,fd,F.mono h,r⟩
theorem av.imp{k:Nat}{x:Str}{ps:List Str}{sp fZ:aS}(C:av P w K mg base k x ps sp)(h:∀ds S Q E,fZ ds S Q E->sp ds S Q E):av P w K mg base k x ps fZ:=by
 obtain⟨f,fd,F,r⟩:=C.ex;refine⟨f,fd,F.imp λvs H Q E ck=>by obtain⟨Z,ds,S,Q3,E3,h1,h2,h3,h4,h5⟩:=ck;exact⟨Z,ds,S,Q3,E3,h1,h2,h _ _ _ _ h3,h4,h5⟩,r⟩
def kb(S A B:af):Prop:=∀a,(S a=A a/\B a=none)∨(A a=none/\S a=B a)
def Sub(A B:af):Prop:=∀a o,A a=some o->B a=some o
def fr(sp:aS):aS:=λds S Q E=>∃S0 F,kb S S0 F/\sp ds S0 (λd S1=>∃S2,Sub S2 S1/\∀S',kb S' S2 F->Q d S') (λC a S1=>∃S2,Sub S2 S1/\∀S',kb S' S2 F->E C a S')
theorem Rl.sub{Z:Zt}{S S':af}{H:Hp}(l:Rl K Z S H)(h:Sub S' S):Rl K Z S' H:=by
 refine⟨λa o e=>l.obj a o (h a o e),λa z=>⟨?_,(l.hid a z).2⟩,l.old⟩;cases e:S' a with
 |none=>rfl
 |some o =>
  have:=h a o e;rw[(l.hid a z).1]at this;cases this
def join(A B:af):af:=λa=>match A a with
 |some o=>some o
 |none=>B a
abbrev Zt.with(Z:Zt)(H:Hp)(F:af):Zt:=⟨λa=>Z a∨F a≠none,H⟩
theorem Rl.frame{Z:Zt}{S S0 F S1 S2:af}{H H':Hp}(l:Rl K Z S H)(hs:kb S S0 F)(k:Kp (Z.with H F) H H')(l1:Rl K (Z.with H F) S1 H')(h2:Sub S2 S1) :
 kb (join S2 F) S2 F/\Rl K Z (join S2 F) H':=by
 have l2:=l1.sub h2;have NZ:∀a,F a≠none->S2 a=none:=λa z=>(l2.hid a (.inr z)).1;refine⟨λa=>?_,λa o e=>?_,λa z=>?_,l.old.trans (k.dY λa z=>.inl z)⟩
 ·cases e:F a with
  |none =>
   refine .inl ⟨?_,rfl⟩;unfold join;cases e2:S2 a with
   |none=>exact e
   |some o=>rfl
  |some o =>
   have:=NZ a (by rw[e];simp);refine .inr ⟨this,?_⟩;unfold join;rw[this];exact e
 ·unfold join at e;cases e2:S2 a with
  |some q =>
   rw[e2]at e;cases e;exact l2.obj a _ e2
  |none =>
   rw[e2]at e;have e:F a=some o:=e;have hne:F a≠none:=by rw[e];simp
   have hS:S a=some o:=by
    rcases hs a with⟨_,z⟩|⟨_,z⟩
    ·exact absurd z hne
    ·rw[z];exact e
   exact(l.obj a o hS).keep k (k.hid a (.inr hne))
 ·have z1:=l2.hid a (.inl z);have z2:=(l.hid a z).1;refine⟨?_,z1.2⟩;unfold join;rw[z1.1];show F a=none;rcases hs a with⟨_,q⟩|⟨_,q⟩
  ·exact q
  ·rw[<-q];exact z2
theorem av.frame{k:Nat}{x:Str}{ps:List Str}{sp:aS}(C:av P w K mg base k x ps sp):av P w K mg base k x ps (fr sp):=by
 obtain⟨f,fd,F0,r⟩:=C.ex;refine⟨f,fd,F0.imp λvs H Q E ⟨Z,ds,S,Q3,E3,h1,l,⟨S0,F,hs,h3⟩,cq,ce⟩=>?_,r⟩;refine⟨Z.with H F,ds,S0,_,_,h1,⟨λa o e=>?_,λa z=>?_,Kp.refl _ _⟩,h3,?_,?_⟩
 ·refine l.obj a o ?_;rcases hs a with⟨q,_⟩|⟨q,_⟩
  ·rw[q];exact e
  ·rw[q]at e;cases e
 ·rcases z with z|z
  ·have z2:=l.hid a z;refine⟨?_,z2.2⟩;rcases hs a with⟨q,_⟩|⟨q,_⟩
   ·rw[<-q];exact z2.1
   ·exact q
  ·rcases hs a with⟨_,q⟩|⟨q,q2⟩
   ·exact absurd q z
   ·refine⟨q,?_⟩;cases e:F a with
    |none=>exact absurd e z
    |some o=>exact(l.obj a o (q2.trans e)).there
 ·rintro d S1 v H' k1 r1 l1 ⟨S2,hsub,q⟩;obtain⟨fZ,l'⟩:=l.frame hs k1 l1 hsub;exact cq d _ v H' (k1.dY λa z=>.inl z) r1 l' (q _ fZ)
 ·rintro C a S1 H' k1 l1 ha ⟨S2,hsub,q⟩;obtain⟨fZ,l'⟩:=l.frame hs k1 l1 hsub;exact ce C a _ H' (k1.dY λa z=>.inl z) l' ha (q _ fZ)
theorem sF(S:af):kb S emp S:=λ_=>.inr ⟨rfl,rfl⟩
theorem sG{S F:af}(h:kb S emp F):S=F:=by
 funext a;rcases h a with⟨q,z⟩|⟨_,q⟩
 ·rw[q,z];rfl
 ·exact q
theorem sH(S:af):Sub emp S:=λa o e=>(nomatch e)
def one(p:Addr)(o:O):af:=λa=>if a=p then some o else none
theorem N1{S F:af}{p:Addr}{o:O}(h:kb S (one p o) F):F p=none/\S=up F p o:=by
 have hp:F p=none:=by
  rcases h p with⟨_,z⟩|⟨q,_⟩
  ·exact z
  ·simp[one]at q
 refine⟨hp,funext λa=>?_⟩;by_cases e:a=p
 ·subst e;rw[az];rcases h a with⟨q,_⟩|⟨q,_⟩
  ·rw[q];simp[one]
  ·simp[one]at q
 ·rw[bj e];rcases h a with⟨q,z⟩|⟨_,q⟩
  ·rw[q,z];simp[one,e]
  ·exact q
theorem sub_one{S:af}{p:Addr}{o:O}(h:S p=some o):Sub (one p o) S:=λa u e=>by
 unfold one at e
 split at e
 ·subst a;cases e;exact h
 ·cases e
def vS(A:List D->(D->Prop)->Prop):aS:=λds S Q _=>A ds λd=>Q d S
def pX(A:List D->(List D->Prop)->Prop):aS:=λds S Q _=>A ds λys=>c8 S ys Q
variable{x:Str}{st:Stmt}{N ps:List Str}{k:Nat}
abbrev Zt.at(Z:Zt)(H:Hp):Zt:=⟨Z.p,H⟩
theorem Rl.into{Z:Zt}{S:af}{H:Hp}(l:Rl K Z S H):Rl K (Z.at H) S H:=⟨l.obj,l.hid,Kp.refl _ _⟩
theorem Rl.out{Z:Zt}{S S':af}{H H':Hp}(l':Rl K (Z.at H) S' H')(l:Rl K Z S H)(k:Kp (Z.at H) H H'):Rl K Z S' H':=⟨l'.obj,l'.hid,l.old.trans (k.dY λ_ z=>z)⟩
def CU{X:Cx}(Z:Zt)(H:Hp):ZX X cU:=ZX.no X (Z.at H)
theorem _root_.EE.aB.mS{sp:aS}(h:aB K mg x st ps)(S:bc N ps (ao st))(len:∀vs H Q E,sp vs H Q E->vs.length=ps.length)
 (hbody:∀(f:Addr) (cdv:Value) (A:Around) (outer:List Env) (s:Shared) (H:Hp) (E:XK) (ds:List D) (S:af) (Q:K3) (E3:X3),cu k (A.deeper (envOfC x (ao st) s.heap.objs.size f cdv))->sp ds S Q E3 ->
  ∃t Q',cQ (cP (bW P w) P w K mg base N x (ao st) f cdv A outer s H E).gE cU (a7 st) t/\t {nx:=λ_ S'=>Q' .non S',rt:=Q'} (dJ N ds) S/\∀d S',Q' d S'->Q d S'):av P w K mg base (k+1) x ps sp:=by
 obtain⟨f,fd,F,b,m⟩:=h.ex;obtain⟨oc,od,kV,doc,pm,an,cdv,ct,osl,rfl,lk,hcd⟩:=F.ex;refine⟨f,_,vn lk hcd S (λvs H Q E d_=>by obtain⟨Z,ds,S,Q3,E3,h1,_,h3,_,_⟩:=d_;rw[<-h1.len];exact len _ _ _ _ h3) λA outer s H vs Q E hr ⟨Z,ds,S3,Q3,E3,h1,h2,h3,h4,_⟩=>?_,b,F.kp,m⟩;obtain⟨t,Q',ht,q,hw⟩:=hbody f cdv A outer s H E ds S3 Q3 E3 hr h3;refine⟨_,(ht (CU Z H)).gE,_,dJ N ds,S3,?_,h2.into,q,⟨?_,?_,?_,?_⟩⟩
 ·unfold dJ L2.start;rw[h1.len];exact iI (SR.si h1) (SR.nones _)
 ·intro σ S' τ H' kk _ l q';exact h4 .non S' .non H' (kk.dY λ_ z=>z) .non (l.out h2 kk) (hw _ _ q')
 ·exact λ_ _ _ _ _ _ _ z=>z
 ·exact λ_ _ _ _ _ _ _ z=>z
 ·exact λd S' v H' kk r l q'=>h4 d S' v H' (kk.dY λ_ z=>z) r (l.out h2 kk) (hw _ _ q')
theorem _root_.EE.aB.val{A:List D->(D->Prop)->Prop}(h:aB K mg x st ps)(S:bc N ps (ao st))(len:∀ds q,A ds q->ds.length=ps.length)
 (hbody:∀(f:Addr) (cdv:Value) (Ar:Around) (outer:List Env) (s:Shared) (H:Hp) (E:XK) (ds:List D) (q:D->Prop),cu k (Ar.deeper (envOfC x (ao st) s.heap.objs.size f cdv))->A ds q ->
  ∃t,cQ (cP (bW P w) P w K mg base N x (ao st) f cdv Ar outer s H E).gE cU (a7 st) t/\t {nx:=λ_ _=>q .non,rt:=λd _=>q d} (dJ N ds) emp):av P w K mg base (k+1) x ps (vS A):=by
 have C:av P w K mg base (k+1) x ps (λds S Q E=>S=emp/\∃q,A ds q/\∀d S',q d->Q d S'):=by
  refine h.mS S (λvs H Q E jr=>by obtain⟨_,q,z,_⟩:=jr;exact len _ _ z) λf cdv Ar outer s H E ds S3 Q E3 hr z=>?_;obtain⟨rfl,q,z,hq⟩:=z;obtain⟨t,h1,h2⟩:=hbody f cdv Ar outer s H E ds _ hr z;exact⟨t,λd _=>q d,h1,h2,hq⟩
 exact C.frame.imp λds S Q E z=>⟨emp,S,sF S,rfl,_,z,λd S1 hq=>⟨emp,sH _,λS' h=>sG h▸hq⟩⟩
theorem _root_.EE.aB.lst{A:List D->(List D->Prop)->Prop}(h:aB K mg x st ps)(S:bc N ps (ao st))(len:∀ds q,A ds q->ds.length=ps.length)
 (hbody:∀(f:Addr) (cdv:Value) (Ar:Around) (outer:List Env) (s:Shared) (H:Hp) (E:XK) (ds:List D) (q:List D->Prop),cu k (Ar.deeper (envOfC x (ao st) s.heap.objs.size f cdv))->A ds q ->
  ∃t,cQ (cP (bW P w) P w K mg base N x (ao st) f cdv Ar outer s H E).gE cU (a7 st) t/\t {nx:=λ_ _=>False,rt:=λd S'=>∃p ys,d=.ref p/\S' p=some (.lst ys)/\q ys} (dJ N ds) emp):av P w K mg base (k+1) x ps (pX A):=by
 have C:av P w K mg base (k+1) x ps (λds S Q E=>S=emp/\∃q,A ds q/\∀d S',(∃p ys,d=.ref p/\S' p=some (.lst ys)/\q ys)->Q d S'):=by
  refine h.mS S (λvs H Q E jk=>by obtain⟨_,q,z,_⟩:=jk;exact len _ _ z) λf cdv Ar outer s H E ds S3 Q E3 hr z=>?_;obtain⟨rfl,q,z,hq⟩:=z;obtain⟨t,h1,h2⟩:=hbody f cdv Ar outer s H E ds _ hr z;refine⟨t,λd S'=>∃p ys,d=.ref p/\S' p=some (.lst ys)/\q ys,h1,?_,hq⟩;have e:(λ(_:aF) (_:af)=>False)=λ(_:aF) (S':af)=>∃p ys,D.non=.ref p/\S' p=some (.lst ys)/\q ys:=by
   funext _ S';refine propext ⟨fS,λz=>?_⟩;obtain⟨p,ys,z,_⟩:=z;cases z
  rw[<-e];exact h2
 refine C.frame.imp λds S Q E z=>⟨emp,S,sF S,rfl,_,z,λd S1 ⟨p,ys,e,hp,hq⟩=>⟨one p (.lst ys),sub_one hp,λS' h=>?_⟩⟩;obtain⟨h1,rfl⟩:=N1 h;subst e;exact hq p h1
section
variable{X:Cx}{CX:fY}{k:Nat}{f C:Addr}{fd:FuncData}{ps:List Str}{sp:Sp}{sI:List V}{ds:List Value}{E:L2.St->XK}{x:Str}{p pos:Pos}{e:Expr}{es:List Expr}{t:TA}
theorem N2(F:du X.prog X.w X.K X.mg X.base CX k f fd ps sp)(hr:cu k X.A)(hg:Gl X x)(hm:X.mg x=some (.ref f))(hk:bD X.K (.ref f)=true)(hb:Binds X.K fd ps ds)(hd:Vals sI ds)(hx:∀τ,vN CX X (E τ) τ)
 (ha:PA X (e::es) t) (hdb:(x==("__debug__":Str))=false:=by decide) (he:starEach (e::es) X.env=(false,eval e X.env)::starEach es X.env:=by rfl) (hpl:(backTo pos (starEach es X.env)).any (·.1)=false:=by rfl) :
 PE X (.Call (.Name x p) (e::es) [] pos) (λτ H Q=>t τ H λvs H1=>sp (vs++sI) H1 Q (E τ)):=by
 intro pins s σ H Q I h;refine zu (rq I hg hm ?_ hdb);refine PySem.W.callWith_K (h₀:=X.base) I.ok.mod.hJ hk (aE (ha pos pins s σ H _ I h) λus s1 ⟨vs,H1,I1,r,q⟩=>⟨I1.dI,?_⟩) he hpl;have r2:Vals (vs++sI) (us++ds):=r.append hd;have hl:(us++ds).length=ps.length:=by rw[<-r2.length];exact F.len _ _ _ _ q
 refine wpAny_call (zR (F.run X.A X.stack s1 H1 ⟨us,[]⟩ (us++ds) (vs++sI) Q (E σ) hr I1.env0 (hb s1 us I1.dI hl) r2 q) λr s' hq=>?_);cases r with
 |error e=>exact hx σ pins H1 s1 e s' I1 hq
 |ok fl =>
  cases fl with
  |ret u=>exact I1.after hq
  |next=>exact fS hq
  |brk=>exact fS hq
  |cont=>exact fS hq
end
def mT(sp:aS)(W3:bE)(t:cy):aK:=λσ S Q=>t σ S λds S1=>sp ds S1 Q (W3 σ)
variable{X:Cx}{W3:bE}{y:Str}{pos p:Pos}{e:Expr}{es:List Expr}{t:cy}{sp:aS}
theorem aU(C:av X.prog X.w X.K X.mg X.base k y ps sp)(hr:cu k X.A)(hg:Gl X y)(ha:d9 X W3 (e::es) t)
 (hdb:(y==("__debug__":Str))=false:=by decide) (he:starEach (e::es) X.env=(false,eval e X.env)::starEach es X.env:=by rfl) (hpl:(backTo pos (starEach es X.env)).any (·.1)=false:=by rfl) :
 aH X W3 (.Call (.Name y p) (e::es) [] pos) (mT sp W3 t):=by
 obtain⟨f,fd,F,b,kp,m⟩:=C.ex;refine λZ=>PE.imp (N2 F hr hg m kp b .nil Z.pass (ha Z) hdb he hpl) λτ H Q ⟨σ,S,Q3,hs,hr,ht,hc⟩=>?_;refine⟨σ,S,_,hs,hr,ht,λds S1 vs H1 k1 r1 l1 q1=>?_⟩;exact⟨Z.z,ds,S1,Q3,W3 σ,by rw[l_];exact r1,l1,q1,hc.mono k1,λC a S2 H2 k2 l2 ha z=>Z.ce σ τ C a S2 H2 (hs.mono (k1.trans k2)) l2 ha z⟩
end
section
variable{σ:aF}{S:af}{Q:K3}{QT:Bool->af->Prop}{QA:List D->af->Prop}{QO:Option Int->af->Prop}{ta tb te:aK}{tA tB:cw}{t u:bV}{al:cy}{r:R3}{n b c:aF->af->Prop}{rt:K3}{i:Nat}
theorem N3(h:t ⟨u ⟨n,rt,b,c⟩,rt,b,c⟩ σ S):pO t u ⟨n,rt,b,c⟩ σ S:=h
theorem N4(h:n σ S):B8 ⟨n,rt,b,c⟩ σ S:=h
theorem N5(h:te σ S λ_ S1=>n σ S1):vU te ⟨n,rt,b,c⟩ σ S:=h
theorem N6(h:te σ S rt):B9 te ⟨n,rt,b,c⟩ σ S:=h
theorem N7(h:rt .non S):B_ ⟨n,rt,b,c⟩ σ S:=h
theorem N8(h:te σ S λx S1=>n (σ.set i (some x)) S1):pR i te ⟨n,rt,b,c⟩ σ S:=h
theorem N9{g:dw}(h:te σ S λx S1=>g x σ S1 n):vV te g ⟨n,rt,b,c⟩ σ S:=h
theorem N_{f:Int->Int->Int}{a:Int}(ha:σ[i]?=some (some (.int a)))(h:te σ S λy S1=>∃b,y=.int b/\n (σ.set i (some (.int (f a b)))) S1):Cb i te f ⟨n,rt,b,c⟩ σ S:=⟨a,ha,h⟩
theorem N'{k:Int}{P:Int->Prop}(h:P k):∃b,D.int k=.int b/\P b:=⟨k,rfl,h⟩
theorem Oa(h:tA σ S λb' S1=>if b'=true then t ⟨n,rt,b,c⟩ σ S1 else u ⟨n,rt,b,c⟩ σ S1):pP tA t u ⟨n,rt,b,c⟩ σ S:=h
theorem Ob{v:D}{Qs:aF->af->Prop}(h:Qs (σ.set i (some v)) S):iL i v σ S Qs:=h
theorem Oc{d:D}(h:σ[i]?=some (some d))(q:Q d S):v3 i σ S Q:=⟨d,h,q⟩
theorem Od{d:D}(q:Q d S):c3 d σ S Q:=q
theorem Oe(h:ta σ S λx S1=>tb σ S1 λy S2=>r x y S2 Q):o3 r ta tb σ S Q:=h
theorem Of{g:Int->Int->D}{k j:Int}(q:Q (g k j) S):i3 g (.int k) (.int j) S Q:=⟨k,j,rfl,rfl,q⟩
theorem Og{g:Int->Int->D}{k j:Int}(h:0<j)(q:Q (g k j) S):pT (λ_ j=>0<j) g (.int k) (.int j) S Q:=⟨k,j,rfl,rfl,h,q⟩
theorem Oh{g:Int->Int->D}{k j:Int}(h:0<j/\j<1073741824)(q:Q (g k j) S):pT AU g (.int k) (.int j) S Q:=⟨k,j,rfl,rfl,h,q⟩
theorem lj{x y:Str}(h:x.length+y.length<=sizeLine)(q:Q (.str (x++y)) S):Cm (.str x) (.str y) S Q:=⟨x,y,rfl,rfl,h,q⟩
theorem Oi{x:D}(q:Q (.bl (v5 x)) S):Cn x .non S Q:=⟨rfl,q⟩
theorem Oj{k j:Int}(q:Q (.bl (decide (k=j))) S):Co (.int k) (.int j) S Q:=⟨k,j,rfl,rfl,q⟩
theorem Ol{k j:Int}(q:Q (.bl (!decide (k=j))) S):Cp (.int k) (.int j) S Q:=⟨k,j,rfl,rfl,q⟩
theorem Om{k j:Str}(q:Q (.bl (decide (k=j))) S):v7 (.str k) (.str j) S Q:=⟨k,j,rfl,rfl,q⟩
theorem Oo{k j:Str}(q:Q (.bl (!decide (k=j))) S):Cq (.str k) (.str j) S Q:=⟨k,j,rfl,rfl,q⟩
theorem Oq(h:te σ S λx S'=>∃k,x=.bl k/\QT k S'):gI te σ S QT:=h
theorem Ot{k:Bool}{P:Bool->Prop}(h:P k):∃b,D.bl k=.bl b/\P b:=⟨k,rfl,h⟩
theorem Ou(h:te σ S λx S1=>∃k,pL S1 x k/\QT k S1):BZ te σ S QT:=h
theorem CV{a:Addr}{ds:List D}{P:Bool->Prop}(hS:S a=some (.lst ds))(h:P (!ds.isEmpty)):∃k,pL S (.ref a) k/\P k:=⟨_,.inl ⟨ds,hS,rfl⟩,h⟩
theorem Ov(h:tA σ S λc' S1=>if c'=true then tB σ S1 QT else QT false S1):BS tA tB σ S QT:=h
theorem Ow(h:tA σ S λc' S1=>if c'=true then QT true S1 else tB σ S1 QT):or3 tA tB σ S QT:=h
theorem Ox(h:tA σ S λc' S1=>QT (!c') S1):BU tA σ S QT:=h
theorem Oy(h:ta σ S λx S1=>∃c',x=.bl c'/\if c'=true then tb σ S1 Q else Q (.bl false) S1):BV ta tb σ S Q:=h
theorem Oz(h:ta σ S λx S1=>∃c',x=.bl c'/\Q (.bl (!c')) S1):BW ta σ S Q:=h
theorem OA(h:tA σ S λc' S1=>if c'=true then ta σ S1 Q else tb σ S1 Q):BX tA ta tb σ S Q:=h
theorem OB(h:QA [] S):gJ σ S QA:=h
theorem OC(h:te σ S λx S1=>al σ S1 λxs S2=>QA (x::xs) S2):eh te al σ S QA:=h
theorem OD(h:al σ S λxs S1=>xs.length<=sizeLine/\Q (.tup xs) S1):B1 al σ S Q:=h
theorem OE(h:al σ S λxs S1=>xs.length<=sizeLine/\c8 S1 xs Q):B2 al σ S Q:=h
theorem OF{α:Type}{xs:List α}{P:Prop}(h:xs.length<=sizeLine)(q:P):xs.length<=sizeLine/\P:=⟨h,q⟩
theorem OG{f:List D->af->K3->Prop}(h:al σ S λvs S1=>f vs S1 Q):mJ f al σ S Q:=h
theorem OH{sp:aS}{W3:bE}(h:al σ S λds S1=>sp ds S1 Q (W3 σ)):mT sp W3 al σ S Q:=h
theorem OI{T:String}{m:D->List D->af->K3->Prop}(h:te σ S λx S1=>k9 T x S1/\al σ S1 λxs S2=>m x xs S2 Q):vR T m te al σ S Q:=h
theorem OJ{T:String}{m:D->List D->af->K3->Prop}(h:te σ S λx S1=>k9 T x S1/\m x [] S1 Q):B4 T m te σ S Q:=h
theorem CW{a:Addr}{ds:List D}{P:Prop}(h:S a=some (.lst ds))(q:P):k9 "list" (.ref a) S/\P:=⟨.inr (.inl ⟨rfl,ds,.inl ⟨a,rfl,h⟩⟩),q⟩
theorem gc{a:Addr}{ds:List D}{y:D}(h:S a=some (.lst ds))(hz:ds.length<sizeLine)(q:Q .non (up S a (.lst (ds++[y])))):sA (.ref a) [y] S Q:=⟨a,ds,y,rfl,rfl,h,hz,q⟩
theorem CY{a:Addr}{ds:List D}{y:D}(h:S a=some (.lst (ds++[y])))(q:Q y (up S a (.lst ds))):CJ (.ref a) [] S Q:=⟨a,ds,y,rfl,rfl,h,q⟩
theorem mU{a a':Addr}{ds es:List D}(h:S a=some (.lst ds))(h':S a'=some (.lst es))(hz:ds.length+es.length<=sizeLine)(q:Q .non (up S a (.lst (ds++es)))):CN (.ref a) [.ref a'] S Q:=⟨a,a',ds,es,rfl,rfl,h,h',hz,q⟩
theorem mV{ds:List D}{k:Int}{d:D}(h:b5 ds k=some d)(q:Q d S):jw (.tup ds) (.int k) S Q:=⟨ds,k,d,rfl,rfl,h,q⟩
theorem gf{a:Addr}{ds:List D}{k:Int}{d:D}(hS:S a=some (.lst ds))(h:b5 ds k=some d)(q:Q d S):sy (.ref a) (.int k) S Q:=⟨ds,k,d,.inl ⟨a,rfl,hS⟩,rfl,h,q⟩
theorem CZ{ds:List D}{k:Int}{d:D}(h:b5 ds k=some d)(q:Q d S):sy (.bA ds) (.int k) S Q:=⟨ds,k,d,.inr rfl,rfl,h,q⟩
theorem C2{z:Str}{k:Int}{cp:Nat}(hz:z.length<=sizeLine)(h:b5 z.cps.toList k=some cp)(q:Q (.str ⟨#[cp]⟩) S):Cw (.str z) (.int k) S Q:=⟨z,k,cp,rfl,rfl,hz,h,q⟩
theorem C3{a:Addr}{ds:List D}(hS:S a=some (.lst ds))(q:Q (.int ds.length) S):mQ [.ref a] S Q:=⟨_,ds,rfl,.inl (.inl ⟨a,rfl,hS⟩),q⟩
theorem OK{ds:List D}(q:Q (.int ds.length) S):mQ [.bA ds] S Q:=⟨_,ds,rfl,.inl (.inr rfl),q⟩
theorem OL{ds:List D}(q:Q (.int ds.length) S):mQ [.tup ds] S Q:=⟨_,ds,rfl,.inr rfl,q⟩
theorem OM{z:Str}(hz:z.length<=sizeLine)(q:Q (.int z.length) S):CH [.str z] S Q:=⟨z,rfl,hz,q⟩
theorem C4{a:Addr}{ds:List D}(hS:S a=some (.lst ds))(q:Q (.tup ds) S):CI [.ref a] S Q:=⟨_,ds,rfl,.inl (.inl ⟨a,rfl,hS⟩),q⟩
theorem ON{x:D}{m k:String}{b':Bool}(h:sE S x m)(hk:hJ m k=some b')(q:Q (.bl b') S):wb [x,.ty k] S Q:=⟨x,k,m,b',rfl,h,hk,q⟩
theorem C5{a:Addr}{ds:List D}{k:String}{b':Bool}(hS:S a=some (.lst ds))(hk:hJ "list" k=some b')(q:Q (.bl b') S):wb [.ref a,.ty k] S Q:=⟨_,k,"list",b',rfl,.inl ⟨rfl,ds,hS⟩,hk,q⟩
theorem OO{f:D->Option Int->Option Int->af->K3->Prop}{tl th:k_}(h:te σ S λx S1=>tl σ S1 λl S2=>th σ S2 λu' S3=>f x l u' S3 Q):B7 f te tl th σ S Q:=h
theorem OP(h:QO none S):B6 σ S QO:=h
theorem OQ(h:te σ S λx S1=>∃k,x=.int k/\QO (some k) S1):part3 te σ S QO:=h
theorem C6{a:Addr}{ds:List D}{lo hi:Option Int}(hS:S a=some (.lst ds))(q:c8 S (cutD ds lo hi) Q):Cz (.ref a) lo hi S Q:=⟨ds,.inl ⟨a,rfl,hS⟩,q⟩
theorem OS{ds:List D}{lo hi:Option Int}(q:Q (.tup (cutD ds lo hi)) S):CB (.tup ds) lo hi S Q:=⟨ds,rfl,q⟩
theorem mW{z:Str}{lo hi:Option Int}(hz:z.length<=sizeLine)(q:Q (.str (textOf (jo z.cps.toList lo hi))) S):CC (.str z) lo hi S Q:=⟨z,rfl,hz,q⟩
theorem wc{a a':Addr}{ds es:List D}(h:S a=some (.lst ds))(h':S a'=some (.lst es))(hz:ds.length+es.length<=sizeLine)(q:c8 S (ds++es) Q):CF (.ref a) (.ref a') S Q:=⟨a,a',ds,es,rfl,rfl,h,h',hz,q⟩
theorem C7{ds es:List D}(hn:ds≠[])(hz:ds.length+es.length<=sizeLine)(q:Q (.tup (ds++es)) S):CG (.tup ds) (.tup es) S Q:=⟨ds,es,rfl,rfl,hn,hz,q⟩
theorem OT{wi:dX}{g:dw}(h:wi σ S λds Al S1=>∃W:Nat->aF->af->Prop,W 0 σ S1/\(∀i σ S,W i σ S->Al S) /\
 (∀i d σ S,ds[i]?=some d->W i σ S->g d σ S λiD S2=>t ⟨W (i+1),rt,n,W (i+1)⟩ iD S2)/\∀σ S,W ds.length σ S->n σ S):Cj wi g t ⟨n,rt,b,c⟩ σ S:=h
theorem pY(W:Nat->aF->af->Prop)(m:Nat)(h0:W m σ S)(h:∀m σ S,W m σ S->tA σ S λb S1=>if b=true then t ⟨λσ' S'=>∃m',m'<m/\W m' σ' S',rt,n,λσ' S'=>∃m',m'<m/\W m' σ' S'⟩ σ S1 else n σ S1) :
 Cc tA t ⟨n,rt,b,c⟩ σ S:=⟨W,⟨m,h0⟩,h⟩
abbrev RI:=List D->(af->Prop)->af->Prop
variable{R:RI}
def C8(R:RI)(x:D)(S:af):Prop:=(∃a ds,x=.ref a/\S a=some (.lst ds)/\R ds (λS=>S a=some (.lst ds)) S)∨∃ds,x=.bA ds/\R ds (λ_=>True) S
theorem OU(h:te σ S λx S1=>C8 R x S1):Cd te σ S R:=h
theorem C9{a:Addr}{ds:List D}(hS:S a=some (.lst ds))(q:R ds (λS=>S a=some (.lst ds)) S):C8 R (.ref a) S:=.inl ⟨a,ds,rfl,hS,q⟩
def wd(R:RI)(x:D)(S:af):Prop:=∃ds,x=.tup ds/\R ds (λ_=>True) S
theorem OV(h:te σ S λx S1=>wd R x S1):Ce te σ S R:=h
theorem OW{ds:List D}(q:R ds (λ_=>True) S):wd R (.tup ds) S:=⟨ds,rfl,q⟩
def C_(R:RI)(vs:List D)(S:af):Prop:=∃j:Int,vs=[.int j]/\-(2^62)<=j/\j<2^62/\R (nums 0 j.toNat) (λ_=>True) S
theorem OX(h:al σ S λvs S1=>C_ R vs S1):Cf al σ S R:=h
theorem OY{j:Int}(h1:-(2^62)<=j/\j<2^62)(q:R (nums 0 j.toNat) (λ_=>True) S):C_ R [.int j] S:=⟨j,rfl,h1.1,h1.2,q⟩
def Dd(R:RI)(vs:List D)(S:af):Prop:=∃i j:Int,vs=[.int i,.int j]/\(-(2^62)<=i/\i<2^62/\-(2^62)<=j/\j<2^62)/\R (nums i (j-i).toNat) (λ_=>True) S
theorem OZ(h:al σ S λvs S1=>Dd R vs S1):Cg al σ S R:=h
theorem O0{i j:Int}(h1:-(2^62)<=i/\i<2^62/\-(2^62)<=j/\j<2^62)(q:R (nums i (j-i).toNat) (λ_=>True) S):Dd R [.int i,.int j] S:=⟨i,j,rfl,h1,q⟩
def De(v:D)(Qs:aF->af->Prop)(σ:aF)(o i:D)(S:af):Prop:=∃p xs k j,o=.ref p/\i=.int k/\S p=some (.lst xs)/\eR xs.length k=some j/\Qs σ (up S p (.lst (xs.set j v)))
theorem O1{v:D}{Qs:aF->af->Prop}(h:te σ S λo S1=>ta σ S1 λi S2=>De v Qs σ o i S2):B' te ta v σ S Qs:=h
theorem Df{a:Addr}{xs:List D}{k:Int}{j:Nat}{v:D}{Qs:aF->af->Prop}(hS:S a=some (.lst xs))(hj:eR xs.length k=some j)(q:Qs σ (up S a (.lst (xs.set j v)))):De v Qs σ (.ref a) (.int k) S:=⟨a,xs,k,j,rfl,rfl,hS,hj,q⟩
end
theorem du.frame{P:Program}{w:World}{K:ak}{mg:Str->Option Value}{base:Heap}{k:Nat}{f:Addr}{fd:FuncData}{ps:List Str}{sp:aS}(F:du P w K mg base (bW P w) k f fd ps (ia K sp)):du P w K mg base (bW P w) k f fd ps (ia K (fr sp)):=by
 refine L2.du.imp F λvs H Q E ⟨Z,ds,S,Q3,E3,h1,l,⟨S0,F,hs,h3⟩,cq,ce⟩=>?_;refine⟨Z.with H F,ds,S0,_,_,h1,⟨λa o e=>?_,λa z=>?_,Kp.refl _ _⟩,h3,?_,?_⟩
 ·refine l.obj a o ?_;rcases hs a with⟨q,_⟩|⟨q,_⟩
  ·rw[q];exact e
  ·rw[q]at e;cases e
 ·rcases z with z|z
  ·have z2:=l.hid a z;refine⟨?_,z2.2⟩;rcases hs a with⟨q,_⟩|⟨q,_⟩
   ·rw[<-q];exact z2.1
   ·exact q
  ·rcases hs a with⟨_,q⟩|⟨q,q2⟩
   ·exact absurd q z
   ·refine⟨q,?_⟩;cases e:F a with
    |none=>exact absurd e z
    |some o=>exact(l.obj a o (q2.trans e)).there
 ·rintro d S1 v H' k1 r1 l1 ⟨S2,hsub,q⟩;obtain⟨fZ,l'⟩:=l.frame hs k1 l1 hsub;exact cq d _ v H' (k1.dY λa z=>.inl z) r1 l' (q _ fZ)
 ·rintro C a S1 H' k1 l1 ha ⟨S2,hsub,q⟩;obtain⟨fZ,l'⟩:=l.frame hs k1 l1 hsub;exact ce C a _ H' (k1.dY λa z=>.inl z) l' ha (q _ fZ)
def mX:aS:=vS λds q=>∃ns:List Int,ds=[.bA (ns.map D.int)]/\ns.length<=63/\q (.bl true)
theorem O2{P:Program}{w:World}{K:ak}{mg:Str->Option Value}{base:Heap}{k:Nat}{st:Stmt}{f:Addr}{fd:FuncData}{N:List Str}(F:mC K "law" "law" st f fd)(S:bc N ["script"] (ao st))
 (hbody:∀(cdv:Value) (A:Around) (outer:List Env) (s:Shared) (H:Hp) (E:XK) (ns:List Int),cu k (A.deeper (envOfC "law" (ao st) s.heap.objs.size f cdv))->ns.length<=63 ->
  ∃t,cQ (cP (bW P w) P w K mg base N "law" (ao st) f cdv A outer s H E).gE cU (a7 st) t/\t {nx:=λ_ _=>False,rt:=λd _=>d=.bl true} (dJ N [.bA (ns.map D.int)]) emp) :
 du P w K mg base (bW P w) (k+1) f fd ["script"] (ia K mX):=by
 obtain⟨oc,od,kV,doc,pm,an,cdv,ct,osl,rfl,lk,hcd⟩:=F.ex;refine L2.du.imp (sp:=ia K (fr λds S Q E=>S=emp/\∃ns:List Int,ds=[.bA (ns.map D.int)]/\ns.length<=63/\∀S',Q (.bl true) S')) (du.frame ?_) λvs H Q E ck=>by obtain⟨Z,ds,S,Q3,E3,h1,l,⟨ns,e,h63,q⟩,h,h'⟩:=ck;exact⟨Z,ds,S,Q3,E3,h1,l,⟨emp,S,sF S,rfl,ns,e,h63,λS1=>⟨emp,sH _,λS' hS=>sG hS▸q⟩⟩,h,h'⟩
 refine vn lk hcd S (λvs H Q E d_=>by obtain⟨Z,ds,S,Q3,E3,h1,_,⟨_,ns,z,_⟩,_,_⟩:=d_;rw[<-h1.len,z];rfl) λA outer s H vs Q E hr ⟨Z,ds,S3,Q3,E3,h1,h2,⟨e1,ns,e2,h63,hq⟩,h4,_⟩=>?_;subst e1 e2;obtain⟨t,ht,q⟩:=hbody cdv A outer s H E ns hr h63;refine⟨_,(ht (CU Z H)).gE,_,dJ N [.bA (ns.map D.int)],emp,?_,h2.into,q,⟨?_,?_,?_,?_⟩⟩
 ·unfold dJ L2.start;rw[h1.len];exact iI (SR.si h1) (SR.nones _)
 ·exact λ_ _ _ _ _ _ _ z=>z.elim
 ·exact λ_ _ _ _ _ _ _ z=>z
 ·exact λ_ _ _ _ _ _ _ z=>z
 ·intro d S' v H' kk r l e;have e:d=.bl true:=e;subst e;exact h4 _ S' v H' (kk.dY λ_ z=>z) r (l.out h2 kk) (hq S')
theorem O3{K:ak}{H:Hp}{a:Addr}{ns:List Int}(hl:ns.length<=63)(hO:pz H)(h:a6 K H a (ns.map V.int)):ia K mX [.ref a] H (λv _=>v=.bl true) λ_ _ _=>False:=by
 refine⟨⟨λ_=>False,H⟩,[.bA (ns.map D.int)],emp,λd _=>d=.bl true,λ_ _ _=>False,.cons (.bA (j9.of h hO) (aN.ints ns)) .nil,⟨λa o e=>(nomatch e),λa z=>z.elim,Kp.refl _ _⟩,⟨ns,rfl,hl,rfl⟩,?_,λ_ _ _ _ _ _ _ z=>z⟩;intro d S v H' _ r _ e;have e:d=.bl true:=e;subst e;cases r;rfl
theorem mY{A:Around}{k:Nat}(hr:cu k A):A.units+200<cLine:=by have:=hr.un;lia
theorem Sub.refl(S:af):Sub S S:=λ_ _ h=>h
theorem Sub.trans{A B C:af}(h:Sub A B)(h':Sub B C):Sub A C:=λa o e=>h' a o (h a o e)
theorem Sub.up{A B:af}{p:Addr}{o:O}(h:Sub A B)(hp:B p=none):Sub A (up B p o):=λa u e=>aM (h a u e) hp
theorem Sub.free{A B:af}{p:Addr}(h:Sub A B)(hp:B p=none):A p=none:=by
 cases e:A p with
 |none=>rfl
 |some o=>rw[h p o e]at hp;cases hp
theorem Sub.upd{A B:af}{p:Addr}{o:O}(h:Sub A B):Sub (E3.up A p o) (E3.up B p o):=λa u e=>by
 by_cases c:a=p
 ·subst c;rw[az]at e ⊢;exact e
 ·rw[bj c]at e ⊢;exact h a u e
theorem Sub.at{A B:af}{p:Addr}{o:O}(h:Sub A B)(hp:A p=none):Sub A (E3.up B p o):=λa u e=>by
 rw[bj (ne3 e hp)];exact h a u e
section
variable{P:Program}{w:World}{K:PySem.W.Frag}{mg:Str->Option Value}{base:Heap}{x:Str}{st:Stmt}{N ps:List Str}{k:Nat}
theorem av.drop{sp:aS}(C:av P w K mg base k x ps sp):av P w K mg base k x ps (λds S Q E=>sp ds S (λd S1=>∃S2,Sub S2 S1/\Q d S2) E):=by
 obtain⟨f,fd,F0,r⟩:=C.ex;refine⟨f,fd,F0.imp λvs H Q E ⟨Z,ds,S,Q3,E3,h1,l,h3,cq,ce⟩=>⟨Z,ds,S,_,E3,h1,l,h3,?_,ce⟩,r⟩;rintro d S1 v H' k1 r1 l1 ⟨S2,hsub,q⟩;exact cq d S2 v H' k1 r1 (l1.sub hsub) q
def gO(A:List D->af->(D->Prop)->Prop):aS:=λds S Q _=>A ds S λd=>Q d S
def kc(A:List D->af->(List D->Prop)->Prop):aS:=λds S Q _=>A ds S λys=>c8 S ys Q
def kd(A:List D->af->(D->Addr->O->Prop)->Prop):aS:=λds S Q _=>A ds S λd a o=>Q d (up S a o)
theorem _root_.EE.aB.gO{A:List D->af->(D->Prop)->Prop}(h:aB K mg x st ps)(S:bc N ps (ao st))(len:∀ds S q,A ds S q->ds.length=ps.length)
 (hbody:∀(f:Addr) (cdv:Value) (Ar:Around) (outer:List Env) (s:Shared) (H:Hp) (E:XK) (ds:List D) (S:af) (q:D->Prop),cu k (Ar.deeper (envOfC x (ao st) s.heap.objs.size f cdv))->A ds S q ->
  ∃t,cQ (cP (bW P w) P w K mg base N x (ao st) f cdv Ar outer s H E).gE cU (a7 st) t/\t {nx:=λ_ S'=>Sub S S'/\q .non,rt:=λd S'=>Sub S S'/\q d} (dJ N ds) S):av P w K mg base (k+1) x ps (gO A):=by
 have C:av P w K mg base (k+1) x ps (λds S Q E=>∃q,A ds S q/\∀d S',Sub S S'/\q d->Q d S'):=by
  refine h.mS S (λvs H Q E ck=>by obtain⟨q,z,_⟩:=ck;exact len _ _ _ z) λf cdv Ar outer s H E ds S3 Q E3 hr ⟨q,z,hq⟩=>?_;obtain⟨t,h1,h2⟩:=hbody f cdv Ar outer s H E ds S3 _ hr z;exact⟨t,λd S'=>Sub S3 S'/\q d,h1,h2,hq⟩
 exact C.drop.imp λds S Q E z=>⟨_,z,λd S1 hq=>⟨S,hq.1,hq.2⟩⟩
theorem _root_.EE.aB.kc{A:List D->af->(List D->Prop)->Prop}(h:aB K mg x st ps)(S:bc N ps (ao st))(len:∀ds S q,A ds S q->ds.length=ps.length)
 (hbody:∀(f:Addr) (cdv:Value) (Ar:Around) (outer:List Env) (s:Shared) (H:Hp) (E:XK) (ds:List D) (S:af) (q:List D->Prop),cu k (Ar.deeper (envOfC x (ao st) s.heap.objs.size f cdv))->A ds S q ->
  ∃t,cQ (cP (bW P w) P w K mg base N x (ao st) f cdv Ar outer s H E).gE cU (a7 st) t /\
   t {nx:=λ_ _=>False,rt:=λd S'=>∃p ys,d=.ref p/\S p=none/\Sub S S'/\S' p=some (.lst ys)/\q ys} (dJ N ds) S):av P w K mg base (k+1) x ps (kc A):=by
 have C:av P w K mg base (k+1) x ps (λds S Q E=>∃q,A ds S q/\∀d S',(∃p ys,d=.ref p/\S p=none/\Sub S S'/\S' p=some (.lst ys)/\q ys)->Q d S'):=by
  refine h.mS S (λvs H Q E d_=>by obtain⟨q,z,_⟩:=d_;exact len _ _ _ z) λf cdv Ar outer s H E ds S3 Q E3 hr ⟨q,z,hq⟩=>?_;obtain⟨t,h1,h2⟩:=hbody f cdv Ar outer s H E ds S3 _ hr z;refine⟨t,λd S'=>∃p ys,d=.ref p/\S3 p=none/\Sub S3 S'/\S' p=some (.lst ys)/\q ys,h1,?_,hq⟩;have e:(λ(_:aF) (_:af)=>False)=λ(_:aF) (S':af)=>∃p ys,D.non=.ref p/\S3 p=none/\Sub S3 S'/\S' p=some (.lst ys)/\q ys:=by
   funext _ S';refine propext ⟨fS,λz=>?_⟩;obtain⟨p,ys,z,_⟩:=z;cases z
  rw[<-e];exact h2
 refine C.drop.imp λds S Q E z=>⟨_,z,λd S1 ⟨p,ys,e,hp,hs,hp1,hq⟩=>⟨up S p (.lst ys),?_,?_⟩⟩
 ·intro a o ha;by_cases c:a=p
  ·subst c;rw[az]at ha;cases ha;exact hp1
  ·rw[bj c]at ha;exact hs a o ha
 ·subst e;exact hq p hp
theorem _root_.EE.aB.kd{A:List D->af->(D->Addr->O->Prop)->Prop}(h:aB K mg x st ps)(S:bc N ps (ao st))(len:∀ds S q,A ds S q->ds.length=ps.length)
 (hbody:∀(f:Addr) (cdv:Value) (Ar:Around) (outer:List Env) (s:Shared) (H:Hp) (E:XK) (ds:List D) (S:af) (q:D->Addr->O->Prop),cu k (Ar.deeper (envOfC x (ao st) s.heap.objs.size f cdv))->A ds S q ->
  ∃t,cQ (cP (bW P w) P w K mg base N x (ao st) f cdv Ar outer s H E).gE cU (a7 st) t/\t {nx:=λ_ S'=>∃a o,Sub (up S a o) S'/\q .non a o,rt:=λd S'=>∃a o,Sub (up S a o) S'/\q d a o} (dJ N ds) S):av P w K mg base (k+1) x ps (kd A):=by
 have C:av P w K mg base (k+1) x ps (λds S Q E=>∃q,A ds S q/\∀d S',(∃a o,Sub (up S a o) S'/\q d a o)->Q d S'):=by
  refine h.mS S (λvs H Q E jr=>by obtain⟨q,z,_⟩:=jr;exact len _ _ _ z) λf cdv Ar outer s H E ds S3 Q E3 hr ⟨q,z,hq⟩=>?_;obtain⟨t,h1,h2⟩:=hbody f cdv Ar outer s H E ds S3 _ hr z;exact⟨t,λd S'=>∃a o,Sub (up S3 a o) S'/\q d a o,h1,h2,hq⟩
 exact C.drop.imp λds S Q E z=>⟨_,z,λd S1 jk=>by obtain⟨a,o,hs,hq⟩:=jk;exact⟨_,hs,hq⟩⟩
theorem _root_.EE.aB.O4{sp:aS}(h:aB K mg x st ps)(no:∀ds S Q E,¬sp ds S Q E)(j:Nat):av P w K mg base j x ps sp:=by
 obtain⟨f,fd,F,b,m⟩:=h.ex;have Dg:∀vs H Q E,¬ia K sp vs H Q E:=λvs H Q E oW=>by obtain⟨Z,ds,S,Q3,E3,_,_,z,_,_⟩:=oW;exact no _ _ _ _ z
 exact⟨f,fd,⟨λvs H Q E h=>absurd h (Dg vs H Q E),λA outer s H args us vs Q E _ _ _ _ h=>absurd h (Dg vs H Q E)⟩,b,F.kp,m⟩
end
section
variable{P:Program}{w:World}{K:PySem.W.Frag}{mg:Str->Option Value}{base:Heap}{x:Str}{st:Stmt}{N ps:List Str}{k:Nat}
def sJ(A:List D->af->(List D->Addr->O->Prop)->Prop):aS:=λds S Q _=>A ds S λys a o=>∀p,S p=none->Q (.ref p) (up (up S a o) p (.lst ys))
theorem _root_.EE.aB.sJ{A:List D->af->(List D->Addr->O->Prop)->Prop}(h:aB K mg x st ps)(S:bc N ps (ao st))(len:∀ds S q,A ds S q->ds.length=ps.length)
 (hbody:∀(f:Addr) (cdv:Value) (Ar:Around) (outer:List Env) (s:Shared) (H:Hp) (E:XK) (ds:List D) (S:af) (q:List D->Addr->O->Prop),cu k (Ar.deeper (envOfC x (ao st) s.heap.objs.size f cdv))->A ds S q ->
  ∃t,cQ (cP (bW P w) P w K mg base N x (ao st) f cdv Ar outer s H E).gE cU (a7 st) t /\
   t {nx:=λ_ _=>False,rt:=λd S'=>∃p ys a o,d=.ref p/\S p=none/\S a≠none/\Sub (up S a o) S'/\S' p=some (.lst ys)/\q ys a o} (dJ N ds) S):av P w K mg base (k+1) x ps (sJ A):=by
 have C:av P w K mg base (k+1) x ps (λds S Q E=>∃q,A ds S q/\∀d S',(∃p ys a o,d=.ref p/\S p=none/\S a≠none/\Sub (up S a o) S'/\S' p=some (.lst ys)/\q ys a o)->Q d S'):=by
  refine h.mS S (λvs H Q E pK=>by obtain⟨q,z,_⟩:=pK;exact len _ _ _ z) λf cdv Ar outer s H E ds S3 Q E3 hr ⟨q,z,hq⟩=>?_;obtain⟨t,h1,h2⟩:=hbody f cdv Ar outer s H E ds S3 _ hr z;refine⟨t,λd S'=>∃p ys a o,d=.ref p/\S3 p=none/\S3 a≠none/\Sub (up S3 a o) S'/\S' p=some (.lst ys)/\q ys a o,h1,?_,hq⟩;have e:(λ(_:aF) (_:af)=>False)=λ(_:aF) (S':af)=>∃p ys a o,D.non=.ref p/\S3 p=none/\S3 a≠none/\Sub (up S3 a o) S'/\S' p=some (.lst ys)/\q ys a o:=by
   funext _ S';refine propext ⟨fS,λz=>?_⟩;obtain⟨p,ys,_,_,z,_⟩:=z;cases z
  rw[<-e];exact h2
 refine C.drop.imp λds S Q E z=>⟨_,z,λd S1 ⟨p,ys,a,o,e,hp,ha,hs,hp1,hq⟩=>⟨up (up S a o) p (.lst ys),?_,?_⟩⟩
 ·intro b u hb;by_cases c:b=p
  ·subst c;rw[az]at hb;cases hb;exact hp1
  ·rw[bj c]at hb;exact hs b u hb
 ·subst e;exact hq p hp
end
section
variable{σ:aF}{S:af}{Q:K3}
theorem O5{g:Int->Int->D}{k j:Int}(h:ve k j)(q:Q (g k j) S):pT ve g (.int k) (.int j) S Q:=⟨k,j,rfl,rfl,h,q⟩
theorem Dh{g:Int->Int->D}{k j:Int}(h:o6 k j)(q:Q (g k j) S):pT o6 g (.int k) (.int j) S Q:=⟨k,j,rfl,rfl,h,q⟩
theorem O6{σ:aF}{te:aK}(h:te σ S λx S1=>∃i,x=.int i/\Q (.int (-i)) S1):u3 (λx S Q=>∃i,x=.int i/\Q (.int (-i)) S) te σ S Q:=h
end
end E3
namespace E3
def Px(sp:kM)(S X:af):Prop:=∀a u,a≠sp->S a=some u->X a=some u
theorem Px.refl(sp:kM)(S:af):Px sp S S:=λ_ _ _ h=>h
theorem Px.at{sp:kM}{S X:af}{o:O}(h:Px sp S X):Px sp S (up X sp o):=λa u n e=>by rw[bj n];exact h a u n e
theorem Px.new{sp p:kM}{S X:af}{o:O}(h:Px sp S X)(hp:X p=none):Px sp S (up X p o):=λa u n e=>aM (h a u n e) hp
theorem Px.sub{sp:kM}{S X:af}{o:O}(h:Px sp S X)(hx:X sp=some o):Sub (up S sp o) X:=λa u e=>by
 by_cases c:a=sp
 ·subst c;rw[az]at e;rw[hx];exact e
 ·rw[bj c]at e;exact h a u c e
end E3
namespace E3
theorem Px.fresh{sp p:kM}{S X:af}{o:O}(h:Px sp S X)(hp:S p=none):Px sp S (up X p o):=λa u n e=>by rw[bj (ne3 e hp)];exact h a u n e
theorem Px.free{sp p:kM}{S X:af}(h:Px sp S X)(hp:X p=none)(n:p≠sp):S p=none:=by
 cases e:S p with
 |none=>rfl
 |some o=>rw[h p o n e]at hp;cases hp
end E3
namespace E3
theorem Px.ext{sp:kM}{S X Y:af}(h:Px sp S X)(h':Sub X Y):Px sp S Y:=λa u n e=>h' a u (h a u n e)
end E3
namespace E3
open PySem PySem.Spec PyProof.Rows L2 EE
theorem O7{P:Program}{w:World}{H:Hp}{h:Heap}{a:Addr}{o:HO}(x:cB P w H h a o):∃u,h.get? a=some u:=by
 cases o with
 |lst xs=>obtain⟨_,_,_,_,e⟩:=x;exact⟨_,e⟩
 |tup xs=>obtain⟨_,_,_,⟨o,e,_⟩,_⟩:=x;exact⟨_,e⟩
 |dK kvs=>obtain⟨_,_,_,_,o,_,_,e,_⟩:=x;exact⟨_,e⟩
 |dT kvs=>obtain⟨_,_,_,_,o,_,_,e,_⟩:=x;exact⟨_,e⟩
 |set S n=>obtain⟨o,_,_,_,e,_⟩:=x;exact⟨_,e⟩
 |ins C dx fs=>obtain⟨_,_,_,e,_⟩:=x;exact⟨_,e⟩
 |own y=>exact x
 |xd fs=>obtain⟨_,⟨_,_,_,e,_⟩,_⟩:=x;exact⟨_,e⟩
 |rg lo hi=>obtain⟨_,_,_,e⟩:=x;exact⟨_,e⟩
 |c6 ob u=>obtain⟨e,_⟩:=x;exact⟨_,e⟩
 |jW ps=>exact⟨_,show h.get? a=some _ from x⟩
 |met f y=>exact⟨_,show h.get? a=some _ from x⟩
 |ext φ=>exact x.2.1
theorem sL{P:Program}{w:World}{H:Hp}{h:Heap}{a:Addr}(x:bS P w H h)(e:h.get? a=none):H a=none:=by
 cases q:H a with
 |none=>rfl
 |some o=>obtain⟨u,z⟩:=O7 (x a o q);rw[e]at z;cases z
section
variable{P:Program}{w:World}{K:PySem.W.Frag}{mg:Str->Option Value}{base:Heap}{N:List Str}{qual:Str}{scope:Scope}{f:Addr}{cd:Value}{A:Around}{outer:List Env}{s s2:Shared}{H H1:Hp}{E:XK}
 {pins:List (Addr×Obj)} {σ:L2.St} {a C:Addr}
theorem we(I:Inv (cP (bW P w) P w K mg base N qual scope f cd A outer s H E) pins σ H1 s2):s2.heap.FunFrames base (envOfC qual scope s.heap.objs.size f cd::outer):=by
 obtain⟨m,⟨o,es,ep,ho,hd,_⟩,_⟩:=I.loc;have hk:scope.kind=.function:=I.ok.kind;refine⟨?_,⟨s.heap.objs.size,o,rfl,?_,ho,λvs z=>?_⟩,I.eO⟩
 ·show scope.kind≠.module;rw[hk];intro z;cases z
 ·cases q:base.get? s.heap.objs.size with
  |none=>rfl
  |some u=>exact absurd (cZ (bh q) I.ok.gC) (jb _)
 ·rw[hd]at z;cases z
theorem Di{a0:Value}{h':Heap}(hold:List Addr)(I:Inv (cP (bW P w) P w K mg base N qual scope f cd A outer s H E) pins σ H1 s2)(hh:∀b∈hold,H1 b=none/\s.heap.get? b=none)(na:H1 a=none/\s.heap.get? a=none)
 (fl:zZ (jc s2.heap (hold++frs (envOfC qual scope s.heap.objs.size f cd::outer))) outer a (.ref C) a0 h') (us:s2.heap.UpToSlots h') (q:E (.ref C) (some a) H1) {s3:Shared} (h3:s3.heap=h') (ho:s3.os=s2.os) (hg:s3.gens=s2.gens) :
 bW P w outer H s E (.ref a) s3:=by
 have all:=we I;have wg:frs (envOfC qual scope s.heap.objs.size f cd::outer)=s.heap.objs.size::frs outer:=rfl;have hL:s.heap.get? s.heap.objs.size=none:=by
  cases q:s.heap.get? s.heap.objs.size with
  |none=>rfl
  |some u=>exact absurd (bh q) (jb _)
 have frame:∀b,b∈frs (envOfC qual scope s.heap.objs.size f cd::outer)->H1 b=none/\∃o,s2.heap.get? b=some o/\∀vs,o.data≠.fields vs:=by
  intro b hb;refine⟨?_,(all.mem hb).2⟩;rw[wg]at hb;rcases a9.mp hb with rfl|hb
  ·exact I.free
  ·obtain⟨_,o,e,_⟩:=I.ok.eO.mem hb;exact I.base.free b o e (I.ok.iz b hb) (by exact bZ)
 have keep:∀b o,s2.heap.get? b=some o->b∉hold->b∉frs (envOfC qual scope s.heap.objs.size f cd::outer)->h'.get? b=some o:=λb o e n1 n2 =>
  fl.1 b o (um _ e λz=>(bR.mp z).elim n1 n2)
 have slot:∀b o,s2.heap.get? b=some o->b∈frs (envOfC qual scope s.heap.objs.size f cd::outer)->∃sl,h'.get? b=some {o with slots:=sl}:=λb o e hb=>by
  obtain⟨_,o',e',hn⟩:=frame b hb;rw[e]at e';cases e';exact us b o e hn
 have pZ:∀b o,s.heap.get? b=some o->b∉hold:=λb o e z=>by rw[(hh b z).2]at e;cases e
 have nL:∀b o,s.heap.get? b=some o->b∉frs outer->b∉frs (envOfC qual scope s.heap.objs.size f cd::outer):=λb o e n z=>by
  rw[wg]at z;rcases a9.mp z with rfl|z
  ·rw[hL]at e;cases e
  ·exact n z
 obtain⟨f1,f2,f3,oe,vs,T,oT,ts,he,⟨hc,h0⟩,hd,h1,hnT,hTe,hT,hdT,O8⟩:=fl;have O9:T∉frs (envOfC qual scope s.heap.objs.size f cd::outer):=λz=>by
  obtain⟨_,o',e',hn⟩:=frame T z;obtain⟨sl,e2⟩:=us T o' e' hn;rw[hT]at e2;cases e2;exact hn _ hdT
 have tT:H1 T=none/\s.heap.get? T=none:=by
  by_cases hz:T∈hold
  ·exact hh T hz
  ·have n2:s2.heap.get? T=none:=by
    cases q:s2.heap.get? T with
    |none=>rfl
    |some o =>
     rw[um _ q λz=>(bR.mp z).elim hz O9]at hnT;cases hnT
   refine⟨sL I.hok n2,?_⟩;cases q:s.heap.get? T with
   |none=>rfl
   |some o =>
    obtain⟨o',e'⟩:=I.base.there T o q (by exact bZ);rw[n2]at e';cases e'
 refine⟨a,C,T,H1,rfl,ho.trans I.os,?_,?_,?_,?_,na.1,tT.1,na.2,tT.2,q⟩
 ·rw[hg];exact I.bare
 ·rw[h3];refine⟨λb o e n hf hx=>?_,λb o e n hf hx=>?_,λb o e n hx=>I.base.free b o e n (by exact bZ),λb o e hx=>?_,I.base.tups,I.base.fH,I.base.gB⟩
  ·exact keep b o (I.base.keep b o e n hf (by exact bZ)) (pZ b o e) (nL b o e hf)
  ·obtain⟨sl,e1⟩:=I.base.slot b o e n hf (by exact bZ);obtain⟨sl',e2⟩:=slot b _ e1 (by rw[wg];exact .tail _ hf);exact⟨sl',e2⟩
  ·obtain⟨o',e1⟩:=I.base.there b o e (by exact bZ);by_cases hb:b∈frs (envOfC qual scope s.heap.objs.size f cd::outer)
   ·obtain⟨sl,e2⟩:=slot b _ e1 hb;exact⟨_,e2⟩
   ·exact⟨_,keep b _ e1 (pZ b o e) hb⟩
 ·rw[h3];intro b o e;refine(I.hok b o e).stay (λc u hc q=>?_) (λ_ q=>q) λ_ _ q=>q;have p6:H1 c≠none:=by
   rcases hc with rfl|z
   ·rw[e];simp
   ·rw[z];simp
  exact keep c u q (λz=>p6 (hh c z).1) λz=>p6 (frame c z).1
 ·rw[h3];exact⟨hTe,⟨oe,vs,a0,he,hc,hd,h0,h1⟩,⟨oT,ts,hT,hdT,O8⟩⟩
theorem O_:Passes (bW P w) (cP (bW P w) P w K mg base N qual scope f cd A outer s H E) E:=by
 rintro pins σ H1 s1 e s' I ⟨a,C,T,H',he,hos,hb,u,hok,ll,ha,hT,na,nT,z⟩;subst he;have I':=I.oU hos u hok hb λ_ z=>nomatch z;have all:=we I';have old:∀b,s1.heap.get? b=none->s.heap.get? b=none:=λb e=>by
  cases q:s.heap.get? b with
  |none=>rfl
  |some o =>
   obtain⟨o',e'⟩:=I.base.there b o q (by exact bZ);rw[e]at e';cases e'
 obtain⟨oe,vs,a0,e1,e2,e3,e4,e5⟩:=ll.exc;obtain⟨oT,ts,t1,t2,t3⟩:=ll.tb;have hl:∀env∈(envOfC qual scope s.heap.objs.size f cd::outer),∀b,env.frame=some b->b∈[a,T]++frs (envOfC qual scope s.heap.objs.size f cd::outer):=λenv he b hb=>dG _ (oy.mpr ⟨env,he,hb⟩);show wpAny _ _ (leaving (envOfC qual scope s.heap.objs.size f cd) (.ref a)) _ _ s';refine wpAny_leaves_onW (base:=jc s'.heap ([a,T]++frs (envOfC qual scope s.heap.objs.size f cd::outer))) I'.ok.frames rfl ⟨λb o q=>ow _ q,qN _ (by simp),uE all hl,
  oe,vs,T,oT,ts,e1,⟨e2,e4⟩,e3,e5,qN _ (by simp),ll.ne,t1,t2,t3⟩ λh' x1 x2=>?_
 refine Di [a,T] I' (λb hb=>?_) ⟨ha,old a na⟩ x1 x2 z rfl rfl rfl;rcases a9.mp hb with rfl|hb
 ·exact⟨ha,old b na⟩
 ·rcases a9.mp hb with rfl|hb
  ·exact⟨hT,old b nT⟩
  ·cases hb
theorem leave_new{args:List Value}{s3:Shared}{e:Addr}(I:Inv (cP (bW P w) P w K mg base N qual scope f cd A outer s H E) pins σ H1 s2)(hx:zY s2.heap s3.heap e (.ref C) args)(ho:s3.os=s2.os)(hg:s3.gens=s2.gens)(q:E (.ref C) (some e) H1) :
 (cP (bW P w) P w K mg base N qual scope f cd A outer s H E).xe (.ref e) s3:=by
 have all:=we I;have hl:∀env∈(envOfC qual scope s.heap.objs.size f cd::outer),∀b,env.frame=some b->b∈[]++frs (envOfC qual scope s.heap.objs.size f cd::outer):=λenv he b hb=>dG _ (oy.mpr ⟨env,he,hb⟩);show wpAny _ _ (leaving (envOfC qual scope s.heap.objs.size f cd) (.ref e)) _ _ s3;refine wpAny_leaves_madeW (base:=jc s2.heap ([]++frs (envOfC qual scope s.heap.objs.size f cd::outer))) (h:=s2.heap) I.ok.frames rfl (λb o q=>ow _ q) (uE all hl) hx λh' t x1 _ _ x4=>?_;refine Di [] I (λb hb=>nomatch hb) ⟨sL I.hok hx.new,?_⟩ x1 ((Jo hx.keeps).trans x4) q rfl ho hg;cases q:s.heap.get? e with
 |none=>rfl
 |some o =>
  obtain⟨o',e'⟩:=I.base.there e o q (by exact bZ);rw[hx.new]at e';cases e'
end
section
variable{P:Program}{w:World}{K:PySem.W.Frag}{mg:Str->Option Value}{base:Heap}{x:Str}{st:Stmt}{N ps:List Str}{k:Nat}
def O'{f:Addr}{cdv:Value}{A:Around}{outer:List Env}{s:Shared}{H:Hp}{E:XK}{scope:Scope}(Z:Zt)(W:X3)(o:Kp Z Z.base H)(ce:BR K Z H W E):ZX (cP (bW P w) P w K mg base N x scope f cdv A outer s H E) (λ_=>W) where
 z:=Z.at H
 E:=λ_=>E
 pass:=λτ pins H s e s' I q=>O_ pins τ H s e s' I q
 rz:=λ_ _ _ _ _ _ _ _ I hx ho hg q=>leave_new I hx ho hg q
 ce:=λ_ _ C a S H' _ l ha q=>ce C a S H' (l.old.dY λ_ z=>z) ⟨l.obj,l.hid,o.trans (l.old.dY λ_ z=>z)⟩ ha q
theorem _root_.EE.aB.sM{sp:aS}(h:aB K mg x st ps)(S:bc N ps (ao st))(len:∀vs H Q E,sp vs H Q E->vs.length=ps.length)
 (hbody:∀(f:Addr) (cdv:Value) (A:Around) (outer:List Env) (s:Shared) (H:Hp) (E:XK) (ds:List D) (S:af) (Q:K3) (W:X3),cu k (A.deeper (envOfC x (ao st) s.heap.objs.size f cdv))->sp ds S Q W ->
  ∃t Q' W',cQ (cP (bW P w) P w K mg base N x (ao st) f cdv A outer s H E) (λ_=>W') (a7 st) t/\t {nx:=λ_ S'=>Q' .non S',rt:=Q'} (dJ N ds) S/\(∀d S',Q' d S'->Q d S')/\∀C a S',W' C a S'->W C a S'):av P w K mg base (k+1) x ps sp:=by
 obtain⟨f,fd,F,b,m⟩:=h.ex;obtain⟨oc,od,kV,doc,pm,an,cdv,ct,osl,rfl,lk,hcd⟩:=F.ex;refine⟨f,_,vn lk hcd S (λvs H Q E ck=>by obtain⟨Z,ds,S,Q3,E3,h1,_,h3,_,_⟩:=ck;rw[<-h1.len];exact len _ _ _ _ h3) λA outer s H vs Q E hr ⟨Z,ds,S3,Q3,E3,h1,h2,h3,h4,h5⟩=>?_,b,F.kp,m⟩;obtain⟨t,Q',W',ht,q,hw,hx⟩:=hbody f cdv A outer s H E ds S3 Q3 E3 hr h3;refine⟨_,ht (O' Z W' h2.old λC a S' H' kk l ha z=>h5 C a S' H' kk l ha (hx _ _ _ z)),_,dJ N ds,S3,?_,h2.into,q,⟨?_,?_,?_,?_⟩⟩
 ·unfold dJ L2.start;rw[h1.len];exact iI (SR.si h1) (SR.nones _)
 ·intro σ S' τ H' kk _ l q';exact h4 .non S' .non H' (kk.dY λ_ z=>z) .non (l.out h2 kk) (hw _ _ q')
 ·exact λ_ _ _ _ _ _ _ z=>z
 ·exact λ_ _ _ _ _ _ _ z=>z
 ·exact λd S' v H' kk r l q'=>h4 d S' v H' (kk.dY λ_ z=>z) r (l.out h2 kk) (hw _ _ q')
def vX(A:List D->(D->Prop)->(Addr->Prop)->Prop):aS:=λds S Q W=>A ds (λd=>Q d S) λC=>∀a,W C a S
theorem _root_.EE.aB.Pa{A:List D->(D->Prop)->(Addr->Prop)->Prop}(h:aB K mg x st ps)(S:bc N ps (ao st))(len:∀ds q qx,A ds q qx->ds.length=ps.length)
 (hbody:∀(f:Addr) (cdv:Value) (Ar:Around) (outer:List Env) (s:Shared) (H:Hp) (E:XK) (ds:List D) (q:D->Prop) (qx:Addr->Prop),cu k (Ar.deeper (envOfC x (ao st) s.heap.objs.size f cdv))->A ds q qx ->
  ∃t,cQ (cP (bW P w) P w K mg base N x (ao st) f cdv Ar outer s H E) (λ_ C _ _=>qx C) (a7 st) t/\t {nx:=λ_ _=>q .non,rt:=λd _=>q d} (dJ N ds) emp):av P w K mg base (k+1) x ps (vX A):=by
 have C:av P w K mg base (k+1) x ps (λds S Q E=>S=emp/\∃q qx,A ds q qx/\(∀d S',q d->Q d S')/\∀C a S',qx C->E C a S'):=by
  refine h.sM S (λvs H Q E d_=>by obtain⟨_,q,qx,z,_⟩:=d_;exact len _ _ _ z) λf cdv Ar outer s H E ds S3 Q E3 hr z=>?_;obtain⟨rfl,q,qx,z,hq,hx⟩:=z;obtain⟨t,h1,h2⟩:=hbody f cdv Ar outer s H E ds _ _ hr z;exact⟨t,λd _=>q d,λC _ _=>qx C,h1,h2,hq,hx⟩
 exact C.frame.imp λds S Q E z=>⟨emp,S,sF S,rfl,_,_,z,λd S1 hq=>⟨emp,sH _,λS' h=>sG h▸hq⟩,λC a S1 hx=>⟨emp,sH _,λS' h=>sG h▸hx a⟩⟩
theorem p7{qual:Str}{scope:Scope}{f:Addr}{cd:Value}{A:Around}{outer:List Env}{s:Shared}{H:Hp}{E:XK} :
 PassesOwn (model P w) (cP (bW P w) P w K mg base N qual scope f cd A outer s H E).A (cP (bW P w) P w K mg base N qual scope f cd A outer s H E).env (cP (bW P w) P w K mg base N qual scope f cd A outer s H E).xe:=PassesOwn.leaving
end
abbrev sN:List Value:=[.type "ValueError",.type "Exception",.type "BaseException",.type "object"]
theorem Pb{K:ak}{h:Heap}{C:Addr}{bmB:List Value}{newId:String}(X:K.In h)(q:oE K C bmB newId=true) :
 ∃bm N nm qn bs hdct sn sub ab col dd q0 q1 q2 q3 q5 mN,h.get? C=some (excClassObj nm qn C N bs bm hdct sn sub ab col dd q0 q1 q2 q3 q5 newId)/\h.Ns N mN/\mN "__init__"=none/\OwnTail h bmB bm:=by
 unfold oE at q
 split at q
 ·rename_i dd cd sl ho
  split at q
  ·rename_i Ca bm q0 q1 q2 q3 n q5 hmr hsz
   simp only[fE,beq_iff_eq,Bool.not_eq_true']at q;obtain⟨⟨⟨⟨⟨rfl,rfl⟩,hde⟩,ht⟩,hns⟩,hin⟩:=q;obtain⟨nm,bs,mro,ns,qn,hd,sn,sub,ab,col,del⟩:=cd;dsimp only at hmr hde hns hin;subst hmr hde;have Pc:sl=#[q0,q1,q2,q3,some (.builtin n),q5]:=by
    obtain⟨l⟩:=sl;simp only at hsz;rw[hsz]
   subst Pc;exact⟨bm,ns,nm,qn,bs,hd,sn,sub,ab,col,dd,q0,q1,q2,q3,q5,_,X _ _ ho,.of_isNs (PySem.W.isNs_of_in X hns),PySem.W.nsMap_none_of_in X hns hin,PySem.W.tail_of_in X ht⟩
  ·cases q
 ·cases q
section
variable{X:Cx}{x:Str}{C:Addr}{np cpos pos:Pos}{e:Expr}{es:List Expr}
theorem Pd{ta:TA}{E:L2.St->XK}(hm:X.mg x=some (.ref C))(q:oE X.K C sN "ValueError.__new__"=true)(hc:X.calm=true)(hg:Gl X x)(rz:∀τ,BQ X (E τ) τ)(ha:PA X (e::es) ta)
 (hd:(x==("__debug__":Str))=false:=by decide) (he:starEach (e::es) X.env=(false,eval e X.env)::starEach es X.env:=by rfl) (hpl:(backTo cpos (starEach es X.env)).any (·.1)=false:=by rfl) :
 PS X (.Raise (some (.Call (.Name x np) (e::es) [] cpos)) none pos) (λ_ τ H=>ta τ H λvs H1=>vs.length<=sizeLine/\∀a,H1 a=none->E τ (.ref C) (some a) H1):=by
 intro pins s σ H D I h;obtain⟨bm,N,nm,qn,bs,hdct,sn,sub,ab,col,dd,k0,k1,k2,k3,k5,mN,hC,hN,hni,T⟩:=Pb I.mod.hJ q;refine wpAny_Raise_call_subT (C:=C) (nm:=nm) (q:=qn) (N:=N) (bs:=bs) (bm:=bm) (hdct:=hdct) (sn:=sn) (sub:=sub) (ab:=ab) (col:=col) (dd:=dd) (k0:=k0) (k1:=k1) (k2:=k2) (k3:=k3) (k5:=k5)
  Jp (mN:=mN) (T.hasType Jp.hasBase) (I.ok.hd hc) (by rw[he];show(false||(backTo cpos (starEach es X.env)).any (·.1))=false;rw[hpl];rfl) hni (rq I hg hm ⟨rfl,?_⟩ hd)
 have h1:=ha cpos pins s σ H _ I h;rw[he]at h1 ⊢;refine zM (eE h1 (λus s1 ⟨vs,H1,I1,r,hl,z⟩=>?_) λ_ _ y=>y);have keep:∀b o,X.base.get? b=some o->s1.heap.get? b=some o:=I1.bk;refine⟨rfl,by show us.length<=sizeLine;rw[<-r.length];exact hl,keep _ _ hC,hN.keeps keep,T.keeps keep,λh' a hx=>?_⟩;exact rz σ pins H1 s1 _ a C us I1 hx rfl rfl (z a (sL I1.hok hx.new))
def Dj(W3:bE)(C:Addr)(ta:cy):bV:=λ_ σ S=>ta σ S λds S1=>ds.length<=sizeLine/\∀a,W3 σ C a S1
variable{W3:bE}
theorem Dk{ta:cy}(hm:X.mg x=some (.ref C))(q:oE X.K C sN "ValueError.__new__"=true)(hc:X.calm=true)(hg:Gl X x)(ha:d9 X W3 (e::es) ta)
 (hd:(x==("__debug__":Str))=false:=by decide) (he:starEach (e::es) X.env=(false,eval e X.env)::starEach es X.env:=by rfl) (hpl:(backTo cpos (starEach es X.env)).any (·.1)=false:=by rfl) :
 dW X W3 (.Raise (some (.Call (.Name x np) (e::es) [] cpos)) none pos) (Dj W3 C ta):=λZ=>PS.imp (Pd hm q hc hg Z.rz (ha Z) hd he hpl) λD τ H ck=>by obtain⟨D3,σ,S,hs,hr,ht,hcd⟩:=ck;exact 
 ⟨σ,S,_,hs,hr,ht,λds S1 vs H1 k1 r1 l1 q1=>⟨by rw[<-r1.len];exact q1.1,λa ha=>Z.ce σ τ C a S1 H1 (hs.mono k1) l1 ha (q1.2 a)⟩⟩
end
section
variable{σ:aF}{S:af}{Q:K3}{te:aK}{al:cy}{n b c:aF->af->Prop}{rt:K3}{W3:bE}{C:Addr}
theorem Pe(h:al σ S λds S1=>ds.length<=sizeLine/\∀a,W3 σ C a S1):Dj W3 C al ⟨n,rt,b,c⟩ σ S:=h
end
abbrev _root_.L2.Cx.caught(X:Cx)(v:Value):Cx:={X with A:=X.A.mark (some v),calm:=false,xe:=λ_ _=>False}
abbrev _root_.L2.Cx.tried(X:Cx)(xe:Value->Shared->Prop)(pn:List (Addr×Obj)):Cx:={X with xe:=xe,pn:=pn}
section
variable{X:Cx}{pins pn:List (Addr×Obj)}{τ:L2.St}{H H1:Hp}{s s1:Shared}{a C:Addr}{v:Value}{xe:Value->Shared->Prop}
theorem Pf(ok:X.Ok):(X.caught v).Ok:=⟨ok.mod,ok.kind,ok.glob,ok.blt,ok.above,ok.inj,ok.has,ok.cab,(λz=>nomatch z),ok.frames,ok.kP,ok.oR,ok.bs,ok.gC,ok.jY,ok.jZ,ok.eO,ok.iz⟩
theorem Ph(ok:X.Ok):(X.tried xe pn).Ok:=⟨ok.mod,ok.kind,ok.glob,ok.blt,ok.above,ok.inj,ok.has,ok.cab,ok.hd,ok.frames,ok.kP,ok.oR,ok.bs,ok.gC,ok.jY,ok.jZ,ok.eO,ok.iz⟩
theorem Dl(I:Inv X pins τ H s):Inv (X.caught v) pins τ H s:=⟨Pf I.ok,I.os,I.bare,I.base,I.loc,I.cell,I.free,I.eP,I.pin,I.hok,I.len⟩
theorem sO(ok:X.Ok)(I:Inv (X.caught v) pins τ H s):Inv X pins τ H s:=⟨ok,I.os,I.bare,I.base,I.loc,I.cell,I.free,I.eP,I.pin,I.hok,I.len⟩
theorem Pj(I:Inv X pins τ H s):Inv (X.tried xe (X.pn++pins)) [] τ H s:=⟨Ph I.ok,I.os,I.bare,I.base,I.loc,I.cell,I.free,I.eP,λp hp=>I.pin p (by simpa using hp),I.hok,I.len⟩
theorem mZ{gD:List (Addr×Obj)}(ok:X.Ok)(I:Inv (X.tried xe (X.pn++pins)) gD τ H s):Inv X pins τ H s:=⟨ok,I.os,I.bare,I.base,I.loc,I.cell,I.free,I.eP,λp hp=>I.pin p (fb _ hp),I.hok,I.len⟩
theorem Pk{D:Ends}{f:Flow}(ok:X.Ok)(h:SP (X.caught v) pins D f s):SP X pins D f s:=by
 cases f with
 |next=>obtain⟨σ',H',I,q⟩:=h;exact⟨σ',H',sO ok I,q⟩
 |brk=>obtain⟨σ',H',I,q⟩:=h;exact⟨σ',H',sO ok I,q⟩
 |cont=>obtain⟨σ',H',I,q⟩:=h;exact⟨σ',H',sO ok I,q⟩
 |ret u=>obtain⟨v,σ',H',I,r,q⟩:=h;exact⟨v,σ',H',sO ok I,r,q⟩
theorem Pl{D:Ends}{f:Flow}(ok:X.Ok)(h:SP (X.tried xe (X.pn++pins)) [] D f s):SP X pins D f s:=by
 cases f with
 |next=>obtain⟨σ',H',I,q⟩:=h;exact⟨σ',H',mZ ok I,q⟩
 |brk=>obtain⟨σ',H',I,q⟩:=h;exact⟨σ',H',mZ ok I,q⟩
 |cont=>obtain⟨σ',H',I,q⟩:=h;exact⟨σ',H',mZ ok I,q⟩
 |ret u=>obtain⟨v,σ',H',I,r,q⟩:=h;exact⟨v,σ',H',mZ ok I,r,q⟩
structure gg(X:Cx)(pins:List (Addr×Obj))(τ:L2.St)(H:Hp)(a C:Addr)(s:Shared):Prop where
 ex:∃(s1:Shared) (H1:Hp) (g:Heap) (hold:List Addr) (a0:Value),Inv X pins τ H1 s1/\Un (frs X.stack) [] H1 H s1.heap g/\bS X.prog X.w H g/\(∀b∈hold,H b=none/\s1.heap.get? b=none)/\(H a=none/\s1.heap.get? a=none) /\
  zZ (jc g (hold++frs X.stack)) X.stack a (.ref C) a0 s.heap/\g.UpToSlots s.heap/\s.os=s1.os/\AllBare s.gens
theorem gg.exc(h:gg X pins τ H a C s):∃o vs,s.heap.get? a=some o/\o.cls=.ref C/\o.data=.fields vs:=by
 obtain⟨s1,H1,g,hold,a0,I,u,ok,hh,na,fl,us,ho,hb⟩:=h.ex;obtain⟨oe,vs,h1,h2,h3,h4⟩:=fl.first;exact⟨oe,vs,h1,h2,h3⟩
theorem gg.un(h:gg X pins τ H a C s)(o:Option HO)(hO:∀q,o=some q->cB X.prog X.w (upd H a q) s.heap a q):Inv X pins τ (match o with|some q=>upd H a q|none=>H) s:=by
 obtain⟨s1,H1,g,hold,a0,I,u,ok,hh,na,fl,us,ho,hb⟩:=h.ex;have I':s.heap=s.heap:=rfl;have fr:∀b∈frs X.stack,H b=none/\∃o,g.get? b=some o/\∀vs,o.data≠.fields vs:=by
  intro b hb;obtain⟨o,e,hn⟩:=(I.stack.mem hb).2;obtain⟨sl,e'⟩:=u.slot b o e (I.rm b hb) hb (by exact bZ);exact⟨u.free b o e (I.rm b hb) (by exact bZ),_,e',hn⟩
 have keep:∀b o,g.get? b=some o->b∉hold->b∉frs X.stack->s.heap.get? b=some o:=λb o e n1 n2=>fl.1 b o (um _ e λz=>(bR.mp z).elim n1 n2);have slot:∀b o,g.get? b=some o->b∈frs X.stack->∃sl,s.heap.get? b=some {o with slots:=sl}:=λb o e hb=>by
  obtain⟨_,o',e',hn⟩:=fr b hb;rw[e]at e';cases e';exact us b o e hn
 have pZ:∀b o,s1.heap.get? b=some o->b∉hold:=λb o e z=>by rw[(hh b z).2]at e;cases e
 have Pm:∀b o,s1.heap.get? b=some o->b≠a:=λb o e z=>by rw[z,na.2]at e;cases e
 have un:Un (frs X.stack) [] H1 H s1.heap s.heap:=by
  refine⟨λb o e n hf hx=>?_,λb o e n hf hx=>?_,u.free,λb o e hx=>?_,u.tups,u.fH,u.gB⟩
  ·exact keep b o (u.keep b o e n hf hx) (pZ b o e) hf
  ·obtain⟨sl,e1⟩:=u.slot b o e n hf hx;obtain⟨sl',e2⟩:=slot b _ e1 hf;exact⟨sl',e2⟩
  ·obtain⟨o',e1⟩:=u.there b o e hx;by_cases hb:b∈frs X.stack
   ·obtain⟨sl,e2⟩:=slot b _ e1 hb;exact⟨_,e2⟩
   ·exact⟨_,keep b _ e1 (pZ b o e) hb⟩
 have hok:bS X.prog X.w H s.heap:=by
  intro b o e;refine(ok b o e).stay (λc u hc q=>?_) (λ_ q=>q) λ_ _ q=>q;have p6:H c≠Option.none:=by
   rcases hc with rfl|z
   ·rw[e];simp
   ·rw[z];simp
  exact keep c u q (λz=>p6 (hh c z).1) λz=>p6 (fr c z).1
 cases o with
 |none=>exact I.oU ho un hok hb λ_ z=>nomatch z
 |some q =>
  have n1:∀b o,H b=some o->b≠a:=λb o e z=>by rw[z,na.1]at e;cases e
  refine I.oU ho ⟨un.keep,un.slot,λb o e n hx=>?_,un.there,λb xs e=>?_,λb o u e=>?_,λb ps e=>?_⟩ (λb o e=>?_) hb λ_ z=>nomatch z
  ·show upd H a q b=Option.none;rw[a_ (Pm b o e)];exact un.free b o e n hx
  ·show upd H a q b=_;rw[a_ (n1 b _ (un.tups b xs e))];exact un.tups b xs e
  ·show upd H a q b=_;rw[a_ (n1 b _ (un.fH b o u e))];exact un.fH b o u e
  ·obtain⟨more,e1⟩:=un.gB b ps e;refine⟨more,?_⟩;show upd H a q b=_;rw[a_ (n1 b _ e1)];exact e1
  ·have e:upd H a q b=some o:=e;by_cases hb:b=a
   ·subst hb;rw[d7]at e;cases e;exact hO _ rfl
   ·rw[a_ hb]at e;refine(hok b o e).stay (λc u hc q=>q) (λc z=>?_) λc xs z=>?_
    ·show upd H a q c=_;rw[a_ (n1 c _ z)];exact z
    ·show upd H a q c=_;rw[a_ (n1 c _ z)];exact z
theorem gg.inv(h:gg X pins τ H a C s):Inv X pins τ H s:=h.un none λ_ z=>nomatch z
theorem gg.lands{M:Model}{A:Around}{E:Value->Shared->Prop}{Q:Unit->Shared->Prop}(h:gg X pins τ H a C s)(k:∀s',gg X pins τ H a C s'->Q () s'):wpAny M A (setFlight (.ref a) none) Q E s:=by
 obtain⟨s1,H1,g,hold,a0,I,u,ok,hh,na,fl,us,ho,hb⟩:=h.ex;exact lands_againW fl λh' sP us'=>k _ ⟨s1,H1,g,hold,a0,I,u,ok,hh,na,sP,us.trans us',ho,hb⟩
theorem Pn{E:XK}{e:Value}{s':Shared}{M:Model}{Ex:Value->Shared->Prop}{Q:Unit->Shared->Prop}(hst:X.stack=X.env::X.outer)(hf:X.env.frame=some X.env.locals)(I:Inv X pins τ H1 s1)(cx:bW X.prog X.w X.stack H1 s1 E e s')
 (k:∀a C H s5,e=.ref a->E (.ref C) (some a) H->gg X pins τ H a C s5->Q () s5) :
 wpAny M X.A (noteFrame e X.env) (λ_ s2=>wpAny M X.A (setFlight e none) Q Ex s2) Ex s':=by
 obtain⟨a,C,T,H',he,hos,hb,u,hok,ll,ha,hT,na,nT,z⟩:=cx;subst he;have I':=I.oU hos u hok hb λ_ z=>nomatch z;have all:=I'.stack;obtain⟨oe,vs,a0,e1,e2,e3,e4,e5⟩:=ll.exc;obtain⟨oT,ts,t1,t2,t3⟩:=ll.tb;have hl:∀env∈X.stack,∀b,env.frame=some b->b∈[a,T]++frs X.stack:=λenv he b hb=>dG _ (oy.mpr ⟨env,he,hb⟩);have fl:zZ (jc s'.heap ([a,T]++frs X.stack)) X.stack a (.ref C) a0 s'.heap:=⟨λb o q=>ow _ q,qN _ (by simp),uE all hl,
  oe,vs,T,oT,ts,e1,⟨e2,e4⟩,e3,e5,qN _ (by simp),ll.ne,t1,t2,t3⟩
 have sP:=fl;rw[hst]at sP;refine wpAny_looks_onW (by rw[I.ok.frames,hst]) hf sP λh4 held Po=>?_;refine wpAny_landsW held λh5 p8 wj=>?_;rw[<-hst]at p8;refine k a C H' _ rfl z ⟨s1,H1,s'.heap,[a,T],a0,I,u,hok,λb hb=>?_,⟨ha,na⟩,p8,Po.trans wj,hos,hb⟩;rcases a9.mp hb with rfl|hb
 ·exact⟨ha,na⟩
 ·rcases a9.mp hb with rfl|hb
  ·exact⟨hT,nT⟩
  ·cases hb
theorem Pp{args:List Value}{s3:Shared}{M:Model}{Ex:Value->Shared->Prop}{Q:Unit->Shared->Prop}(hst:X.stack=X.env::X.outer)(hf:X.env.frame=some X.env.locals)(I:Inv X pins τ H1 s1)(hx:zY s1.heap s3.heap a (.ref C) args)
 (ho:s3.os=s1.os) (hg:s3.gens=s1.gens) (k:∀s5,gg X pins τ H1 a C s5->Q () s5) :
 wpAny M X.A (noteFrame (.ref a) X.env) (λ_ s2=>wpAny M X.A (setFlight (.ref a) none) Q Ex s2) Ex s3:=by
 obtain⟨t,he,htn,ht⟩:=hx.there;have all:=I.stack;have hl:∀env∈X.stack,∀b,env.frame=some b->b∈[]++frs X.stack:=λenv he b hb=>dG _ (oy.mpr ⟨env,he,hb⟩);have ff:=uE (as:=[]++frs X.stack) all hl;have fresh:∀b,s1.heap.get? b=none->(jc s1.heap ([]++frs X.stack)).get? b=none:=λb hb=>by
  cases q:(jc s1.heap ([]++frs X.stack)).get? b with
  |none=>rfl
  |some o=>have:=ow _ q;rw[hb]at this;cases this
 have Pq:=ff;rw[hst]at Pq;unfold noteFrame;simp only[hf];refine aj (di he rfl (x:=.none) rfl ?_);rw[if_neg (by decide)];refine wpAny_entryW (base:=jc s1.heap ([]++frs (X.env::X.outer))) (outer:=X.outer) (by rw[I.ok.frames,hst]) ?_ hf he (λb o hb=>?_) ?_ rfl (by simp) (a0:=.ref t) rfl λh4 ⟨n1,n2,n3,n4⟩=>?_
 ·rw[<-hst];exact ff.of_keeps λb o hb _=>⟨o,hx.keeps b o hb,rfl⟩
 ·rw[<-hst]at hb;exact hx.keeps b o (ow _ hb)
 ·rw[<-hst];exact fresh a hx.new
 ·refine wpAny_landsW (base:=jc s1.heap ([]++frs (X.env::X.outer))) (l:=X.env::X.outer) (L:=X.env.locals) (cls:=.ref C) (a0:=.ref t) ⟨n1,by rw[<-hst];exact fresh a hx.new,n2,n3⟩ λh5 p8 wj=>?_;rw[<-hst]at p8;have hbare:AllBare s3.gens:=by rw[hg];exact I.bare
  have hno:∀b∈([]:List Addr),H1 b=Option.none/\s1.heap.get? b=Option.none:=λb hb=>absurd hb bZ;exact k _ ⟨s1,H1,s1.heap,[],.ref t,I,Un.refl,I.hok,hno,⟨sL I.hok hx.new,hx.new⟩,p8,((Jo hx.keeps).trans n4).trans wj,ho,hbare⟩
end
theorem Pt{K:ak}{M:Model}{A:Around}{E:Value->Shared->Prop}{s:Shared}{a C Dc:Addr}{o:Obj}{b:Bool}{Q:Bool->Shared->Prop}(X:K.In s.heap)(h1:s.heap.get? a=some o)(h2:o.cls=.ref C)(hk:gX K (.ref C) (.ref Dc)=some b)
 (hb:gX K (.ref Dc) (.type "BaseException")=some true) (q:Q b s):wpAny M A (excMatches (.ref a) (.ref Dc)) Q E s:=by
 obtain⟨t1,t2,t3⟩:=Jq (M:=M) X hk;obtain⟨_,_,t4⟩:=Jq (M:=M) X hb;have LI:z0 M s.heap (isInstance (.ref Dc) (.type "tuple")) false:=t1.andThen (abV tc_notTuple);have LE:z0 M s.heap (isExcClass (.ref Dc)) true:=t2.andThen (by simpa using t4);have LT:z0 M s.heap (typeOf (.ref a)) (.ref C):=h2▸(abW h1).andThen .now;unfold excMatches;refine aj (LI.here ?_);rw[if_neg (by decide)];refine aj (aG ?_);dsimp only;rw[qU];refine aj (aj (aj (LE.here ?_)));rw[if_neg (by decide)];refine aG ?_;dsimp only;rw[uF];refine aG (aj (LT.here ?_));rw[qU];refine aj (aj (aj (t3.here ?_)));cases b
 ·rw[if_neg (by decide)];refine aG ?_;dsimp only;rw[uF];exact aG (aG q)
 ·rw[if_pos rfl];exact aG (aG (aG q))
section
variable{X:Cx}{W3:bE}{pins:List (Addr×Obj)}{τ:L2.St}{H:Hp}{s:Shared}
def sQ(X:Cx)(hs:List ExceptHandler)(r:f7->bE):Prop:=∀(z:Zt) (pins:List (Addr×Obj)) (s:Shared) (τ:L2.St) (σ:aF) (H:Hp) (S:af) (D:Ends) (D3:f7) (a C:Addr),gg X pins τ H a C s->SR X.K H σ τ->Rl X.K z S H->CD X.K z H D3 D->r D3 σ C a S ->
 wpAny (model X.prog X.w) X.A (handleBy (.ref a) X.env hs) (SP X pins D) X.xe s
theorem Pu:sQ X [] (λ_ _ _ _ _=>False):=λ_ _ _ _ _ _ _ _ _ _ _ _ _ _ _ h=>h.elim
def Dm(K:ak)(Dc:Addr)(t:bV)(r:f7->bE):f7->bE:=λD3 σ C a S=>∃b,gX K (.ref C) (.ref Dc)=some b/\if b=true then t D3 σ S else r D3 σ C a S
variable{x n:Str}{Dc:Addr}{i:Nat}{np pos:Pos}{b0:Stmt}{suite:List Stmt}{rest:List ExceptHandler}{t:bV}{r:f7->bE}
theorem Pw(hm:X.mg x=some (.ref Dc))(hb:gX X.K (.ref Dc) (.type "BaseException")=some true)(hg:Gl X x)
 (ht:∀v,cQ (X.caught v) cU (b0::suite) t) (hr:sQ X rest r) (hd:(x==("__debug__":Str))=false:=by decide):sQ X (.ExceptHandler (some (.Name x np)) none (b0::suite) pos::rest) (Dm X.K Dc t r):=by
 intro z pins s τ σ H S D D3 a C iP hs l cd h;obtain⟨b,hk,h⟩:=h;have I:=iP.inv;obtain⟨o,vs,h1,h2,h3⟩:=iP.exc;refine wpAny_handleBy_cons (codeAny_handlers_test (rq (X:=X.caught (.ref a)) (Dl I) hg hm (Pt I.dI h1 h2 hk hb ?_) hd)) (by intro q;cases q);cases b with
 |false=>exact hr z pins s τ σ H S D D3 a C iP hs l cd h
 |true =>
  refine codeAny_handlers_suite (iP.lands λs6 h6=>?_);refine eE (ht (.ref a) (ZX.no _ z) pins s6 _ _ D (Dl h6.inv) ⟨_,_,_,hs,l,h,cd⟩) (λf s8 q=>?_) λ_ _ z=>z.elim;exact Pk I.ok q
def Dp(tb:bE->bV)(r:f7->bE):bV:=λD3 σ S=>tb (r D3) D3 σ S
theorem Dq{K:ak}{Z:Zt}{S S':af}{H H':Hp}{D3:f7}{D:Ends}(l:Rl K Z S H)(hc:CD K Z H D3 D)(l':Rl K (Z.at H) S' H'):CD K (Z.at H) H' D3 D:=by
 have k0:Kp Z H H':=l'.old.dY λ_ z=>z;have out:∀{S2:af} {H2:Hp},Kp (Z.at H) H' H2->Rl K (Z.at H) S2 H2->Kp Z H H2/\Rl K Z S2 H2:=λk l2=>⟨k0.trans (k.dY λ_ z=>z),l2.out l (l'.old.trans k)⟩;exact⟨λσ' S2 a8 H2 k s2 l2 q=>hc.nx _ _ _ _ (out k l2).1 s2 (out k l2).2 q,λσ' S2 a8 H2 k s2 l2 q=>hc.bk _ _ _ _ (out k l2).1 s2 (out k l2).2 q,λσ' S2 a8 H2 k s2 l2 q=>hc.ct _ _ _ _ (out k l2).1 s2 (out k l2).2 q,
  λd S2 v H2 k r l2 q=>hc.rt _ _ _ _ (out k l2).1 r (out k l2).2 q⟩
theorem Py{body:List Stmt}{h0:ExceptHandler}{hs:List ExceptHandler}{tb:bE->bV}(hst:X.stack=X.env::X.outer)(hf:X.env.frame=some X.env.locals)
 (hb:∀xe pn (W:bE),cQ (X.tried xe pn) W body (tb W)) (hh:sQ X (h0::hs) r):dW X W3 (.Try body (h0::hs) [] [] pos) (Dp tb r):=by
 rintro Z pins s τ H D I ⟨D3,σ,S,Pz,l,ht,hc⟩;refine wpAny_Try_except ?_;have main:∀a8 a C H' s5 σ' S',gg X pins a8 H' a C s5->SR X.K H' σ' a8->Rl X.K (Z.z.at H) S' H'->r D3 σ' C a S'->wpAny (model X.prog X.w) X.A (handleBy (.ref a) X.env (h0::hs)) (SP X pins D) X.xe s5 :=
  λa8 a C H' s5 σ' S' iP sr l' w=>hh (Z.z.at H) pins s5 a8 σ' H' S' D D3 a C iP sr l' (Dq l hc l') w
 let Dr:Value->Shared->Prop:=λe s1=>wpAny (model X.prog X.w) X.A (noteFrame e X.env) (λ_ s2=>wpAny (model X.prog X.w) X.A (setFlight e none) (λ_ s3=>wpAny (model X.prog X.w) X.A (handleBy e X.env (h0::hs)) (SP X pins D) X.xe s3) X.xe s2) X.xe s1
 let zx:ZX (X.tried Dr (X.pn++pins)) (r D3):={
  z:=Z.z.at H
  E:=λτ cv oa H'=>∃C a σ S,cv=.ref C/\oa=some a/\SR X.K H' σ τ/\Rl X.K (Z.z.at H) S H'/\r D3 σ C a S
  pass:=λa8 gD H1 s1 e s' I1 cx=>Pn hst hf (mZ I.ok I1) cx λa C H' s5 he hE iP=>by
   subst he;obtain⟨C',a',σ',S',e1,e2,sr,l',w⟩:=hE;cases e1;cases e2;exact main a8 a C H' s5 σ' S' iP sr l' w
  rz:=λa8 gD H1 s1 s3 a C args I1 hx ho hg hE=>Pp hst hf (mZ I.ok I1) hx ho hg λs5 iP=>by
   obtain⟨C',a',σ',S',e1,e2,sr,l',w⟩:=hE;cases e1;cases e2;exact main a8 a C H1 s5 σ' S' iP sr l' w
  ce:=λσ τ C a S H' sr l' _ w=>⟨C,a,σ,S,rfl,rfl,sr,l',w⟩}
 refine eE (hb Dr (X.pn++pins) (r D3) zx [] s τ H D (Pj I) ⟨D3,σ,S,Pz,l.into,ht,Dq l hc l.into⟩) (λf s1 q=>?_) λ_ _ z=>z;have q:=Pl I.ok q;cases f with
 |next=>exact qO q
 |brk=>exact q
 |cont=>exact q
 |ret u=>exact q
end
section
variable{σ:aF}{S:af}{n b c:aF->af->Prop}{rt:K3}{K:PySem.W.Frag}{C Dc a:Addr}{i:Nat}{t:bV}{r:f7->bE}
theorem PB{tb:bE->bV}(h:tb (r ⟨n,rt,b,c⟩) ⟨n,rt,b,c⟩ σ S):Dp tb r ⟨n,rt,b,c⟩ σ S:=h
theorem PD(hk:gX K (.ref C) (.ref Dc)=some true)(h:t ⟨n,rt,b,c⟩ σ S):Dm K Dc t r ⟨n,rt,b,c⟩ σ C a S:=⟨true,hk,by rw[if_pos rfl];exact h⟩
end
end E3
namespace E3
section
open PySem PySem.Spec PyProof.Rows L2 EE PySem.W Builtin Builtin.ObjectAttr Builtin.Getset_descriptor
end
open PySem PySem.Spec PyProof.Rows L2 EE
def sR(K:ak)(C:Addr):Bool:=oE K C sN "ValueError.__new__"&&qP K (.ref C) "__getattribute__"==some (some (.builtin "BaseException.__getattribute__"))&&qP K (.ref C) "__getattr__"==some none &&
 qP K (.ref C) "__class__"==some (some (.builtin "object.__class__"))&&IP K (.builtin "object.__class__") "__get__"==some (some (.builtin "getset_descriptor.__get__"))&&IQ K (.builtin "object.__class__")==some true &&
 zm K C (.type "object")==some true&&zm K C (.type "BaseException")==some true&&gX K (.ref C) (.type "BaseException")==some true&&gX K (.ref C) (.type "ValueError")==some true&&(PySem.W.clsIn K C).isSome
inductive Rf where
 |err|text|twice|such|count|apart|many|way
 deriving DecidableEq
def Rf.nm:Rf->Str
 | .err=>"ErrandError" | .text=>"BadText" | .twice=>"Twice" | .such=>"NoSuch" | .count=>"WrongCount" | .apart=>"Apart" | .many=>"TooMany" | .way=>"NoWay"
def Rf.sub(i j:Rf):Bool:=decide (i=j)||decide (j=.err)
structure jx(K:ak)(mg:Str->Option Value)(es:List Rf)(adr:Rf->Addr):Prop where
 bound:∀i∈es,mg i.nm=some (.ref (adr i))
 one:∀i∈es,sR K (adr i)=true
 two:∀i∈es,∀j∈es,gX K (.ref (adr i)) (.ref (adr j))=some (i.sub j)
section
variable{K:PySem.W.Frag}{mg:Str->Option Value}{es:List Rf}{adr:Rf->Addr}(R:jx K mg es adr){i j:Rf}
include R
theorem jx.exc(hi:i∈es):oE K (adr i) sN "ValueError.__new__"=true:=by
 have e:=R.one i hi;unfold sR at e;simp only[fE]at e;exact e.1.1.1.1.1.1.1.1.1.1
theorem jx.base(hi:i∈es):gX K (.ref (adr i)) (.type "BaseException")=some true:=by
 have e:=R.one i hi;unfold sR at e;simp only[fE,beq_iff_eq]at e;exact e.1.1.2
end
def wm(K:ak)(l:List (Rf×Addr)):Bool:=l.all λp=>sR K p.2&&l.all λq=>gX K (.ref p.2) (.ref q.2)==some (p.1.sub q.1)
def p9(l:List (Rf×Addr))(i:Rf):Addr:=(l.lookup i).getD 0
theorem lookup_mem{i:Rf}:∀{l:List (Rf×Addr)},i∈l.map (·.1)->(i,p9 l i)∈l
 |(j,b)::l,h=>by
  unfold p9;by_cases e:i=j
  ·subst e;simp[List.lookup]
  ·have:(i==j)=false:=by simpa using e
   rw[List.lookup,this];rcases a9.mp h with z|z
   ·exact absurd z e
   ·exact .tail _ (lookup_mem (l:=l) z)
theorem PF{K:ak}{mg:Str->Option Value}{l:List (Rf×Addr)}(h:wm K l=true)(hm:∀i∈l.map (·.1),mg i.nm=some (.ref (p9 l i))):jx K mg (l.map (·.1)) (p9 l):=by
 unfold wm at h;simp only[List.all_eq_true,fE,beq_iff_eq]at h;exact⟨hm,λi hi=>(h _ (lookup_mem hi)).1,λi hi j hj=>(h _ (lookup_mem hi)).2 _ (lookup_mem hj)⟩
section
variable{P:Program}{w:World}{K:PySem.W.Frag}{mg:Str->Option Value}{base:Heap}{x:Str}{st:Stmt}{N ps:List Str}{k:Nat}
theorem av.wo{sp:aS}(C:av P w K mg base k x ps sp):av P w K mg base k x ps (λds S Q E=>sp ds S (λd S1=>∃S2,Sub S2 S1/\Q d S2) λC a S1=>∃S2,Sub S2 S1/\E C a S2):=by
 obtain⟨f,fd,F0,r⟩:=C.ex;refine⟨f,fd,F0.imp λvs H Q E ⟨Z,ds,S,Q3,E3,h1,l,h3,cq,ce⟩=>⟨Z,ds,S,_,_,h1,l,h3,?_,?_⟩,r⟩
 ·rintro d S1 v H' k1 r1 l1 ⟨S2,hsub,q⟩;exact cq d S2 v H' k1 r1 (l1.sub hsub) q
 ·rintro C a S1 H' k1 l1 ha ⟨S2,hsub,q⟩;exact ce C a S2 H' k1 (l1.sub hsub) ha q
def sS(A:List D->af->(D->Addr->O->Prop)->(Addr->Prop)->Prop):aS:=λds S Q W=>A ds S (λd a o=>Q d (up S a o)) λC=>∀a,W C a S
theorem _root_.EE.aB.sS{A:List D->af->(D->Addr->O->Prop)->(Addr->Prop)->Prop}(h:aB K mg x st ps)(S:bc N ps (ao st))(len:∀ds S q qx,A ds S q qx->ds.length=ps.length)
 (hbody:∀(f:Addr) (cdv:Value) (Ar:Around) (outer:List Env) (s:Shared) (H:Hp) (E:XK) (ds:List D) (S:af) (q:D->Addr->O->Prop) (qx:Addr->Prop),cu k (Ar.deeper (envOfC x (ao st) s.heap.objs.size f cdv))->A ds S q qx ->
  ∃t,cQ (cP (bW P w) P w K mg base N x (ao st) f cdv Ar outer s H E) (λ_ C _ S'=>Sub S S'/\qx C) (a7 st) t /\
   t {nx:=λ_ S'=>∃a o,Sub (up S a o) S'/\q .non a o,rt:=λd S'=>∃a o,Sub (up S a o) S'/\q d a o} (dJ N ds) S):av P w K mg base (k+1) x ps (sS A):=by
 have C:av P w K mg base (k+1) x ps (λds S Q E=>∃q qx,A ds S q qx/\(∀d S',(∃a o,Sub (up S a o) S'/\q d a o)->Q d S')/\∀C a S',Sub S S'/\qx C->E C a S'):=by
  refine h.sM S (λvs H Q E d_=>by obtain⟨q,qx,z,_⟩:=d_;exact len _ _ _ _ z) λf cdv Ar outer s H E ds S3 Q E3 hr ⟨q,qx,z,hq,hx⟩=>?_;obtain⟨t,h1,h2⟩:=hbody f cdv Ar outer s H E ds S3 _ _ hr z;exact⟨t,λd S'=>∃a o,Sub (up S3 a o) S'/\q d a o,λC _ S'=>Sub S3 S'/\qx C,h1,h2,hq,hx⟩
 exact C.wo.imp λds S Q E z=>⟨_,_,z,λd S1 jr=>by obtain⟨a,o,hs,hq⟩:=jr;exact⟨_,hs,hq⟩,λC a S1 hx=>⟨S,hx.1,hx.2 a⟩⟩
end
section
variable{X:Cx}{W3:bE}
def PH(Q:K3)(x y:D)(S:af):Prop:=(∃a kvs k,x=.ref a/\S a=some (.j_ kvs)/\y=kD k/\Q (.bl (!(NA kvs k).isSome)) S)∨∃ds,x=.tup ds/\iN y=true/\ds.all iN=true/\Q (.bl (!memD y ds)) S
def abX(ty td:aK):aK:=λσ S Q=>ty σ S λy S1=>td σ S1 λx S2=>PH Q x y S2
section
variable{σ:aF}{S:af}{Q:K3}{te ta:aK}
theorem PJ{x:D}{ds:List D}(hx:iN x=true)(hd:ds.all iN=true)(q:Q (.bl (memD x ds)) S):sv false x (.tup ds) S Q:=⟨ds,.inr rfl,hx,hd,q⟩
end
theorem Ds{b:Bool}{A B:Prop}(h:b=true)(q:A):if b=true then A else B:=by rw[if_pos h];exact q
theorem Du{b:Bool}{A B:Prop}(h:b=false)(q:B):if b=true then A else B:=by rw[if_neg (by rw[h];exact cF)];exact q
end
theorem de{n:Nat}(h:n<=1000000):n<=sizeLine:=bX h (by decide)
theorem fu{n:Nat}(h:n<=1000000):n<sizeLine:=zT h (by decide)
theorem m5{α:Type}{xs:List α}{i:Int}{v:α}(h0:0<=i)(h:xs[i.toNat]?=some v):b5 xs i=some v:=by
 have e:i=((i.toNat:Nat):Int):=by lia
 rw[e];exact iF h
theorem PK{α:Type}{x:α}{xs:List α}:b5 (x::xs) 0=some x:=iF (j:=0) rfl
theorem PL{n:Nat}{i:Int}{j:Nat}(h:i=(j:Int))(hj:j<n):eR n i=some j:=by
 subst h;unfold eR;rw[if_pos (by lia),if_pos (by lia)];simp
theorem Dv{α:Type}{x:α}{xs:List α}:eR (x::xs).length 0=some 0:=PL rfl (by simp)
theorem wq{xs:List D}{p:Int}(h0:0<=p):cutD xs none (some p)=xs.take p.toNat:=by
 unfold cutD;have e:p=((p.toNat:Nat):Int):=by lia
 rw[e,HT.rP,HT.rQ,oC,oD,<-e];by_cases h:p.toNat<=xs.length
 ·rw[uG h]
 ·rw[uH (by lia),jS (by lia),jS (by lia)]
theorem sT{xs:List D}{p:Int}(h0:0<=p):cutD xs (some p) none=xs.drop p.toNat:=by
 unfold cutD;have e:p=((p.toNat:Nat):Int):=by lia
 rw[e,HT.rP,HT.rQ,<-e];by_cases h:p.toNat<=xs.length
 ·rw[uG h,jS (by rw[fc];lia)]
 ·rw[uH (by lia),uI (aX _),uI (by lia)];simp
theorem sU{cs:List Nat}{p:Int}(h0:0<=p):jo cs none (some p)=cs.take p.toNat:=by
 unfold jo;have e:p=((p.toNat:Nat):Int):=by lia
 rw[e,HT.rP,HT.rQ,oC,oD,<-e];by_cases h:p.toNat<=cs.length
 ·rw[uG h]
 ·rw[uH (by lia),jS (by lia),jS (by lia)]
theorem Dw{cs:List Nat}{p:Int}(h0:0<=p):jo cs (some p) none=cs.drop p.toNat:=by
 unfold jo;have e:p=((p.toNat:Nat):Int):=by lia
 rw[e,HT.rP,HT.rQ,<-e];by_cases h:p.toNat<=cs.length
 ·rw[uG h,jS (by rw[fc];lia)]
 ·rw[uH (by lia),uI (aX _),uI (by lia)];simp
def dZ(x:Str):Prop:=∃cs:List Nat,x=textOf cs/\1<=cs.length/\cs.length<=8/\∀c∈cs,97<=c/\c<=122
theorem PM{a b:List Nat}(h:textOf a=textOf b):a=b:=by
 have:=congrArg (λx:Str=>x.cps.toList) h;simpa[textOf]using this
theorem iQ(cs:List Nat):(textOf cs).cps.toList=cs:=by simp[textOf]
theorem Dx:("abcdefghijklmnopqrstuvwxyz":Str)=textOf (z_ 97 26):=by cbv
theorem Dy:("abcdefghijkl":Str)=textOf (z_ 97 12):=by cbv
theorem sV:("abcd":Str)=textOf [97,98,99,100]:=by cbv
theorem Dz{n:Nat}{i:Int}(h0:0<=i)(h1:i<n):b5 (z_ 97 n) i=some (97+i.toNat):=by
 refine m5 h0 ?_;rw[List.getElem?_range' (by lia)];simp
def ib(cs:List Nat)(p k:Nat):List Nat:=(cs.take p++[97+k])++cs.drop p
def ke(cs:List Nat)(k:Nat):List Nat:=cs.take 4++[97,98,99,100].take (k+1)
def m6(cs:List Nat)(k:Nat):List Nat:=[97,98,99,100].drop (3-k)++cs.take 4
def sW(cs:List Nat):Prop:=∀c∈cs,97<=c/\c<=122
structure Row(n:Nat)(xs:List Str):Prop where
 len:xs.length=n
 nd:xs.Nodup
 ok:∀x∈xs,dZ x
theorem wt{n:Nat}{f:Nat->List Nat}(inj:∀i j,i<n->j<n->f i=f j->i=j)(ok:∀i,i<n->dZ (textOf (f i))):Row n ((aW n).map λk=>textOf (f k)):=by
 refine⟨by simp,?_,λx hx=>?_⟩
 ·rw[oF,qV];have:=List.nodup_range (n:=n);rw[oF]at this;refine Jr (λ{a b} ha hb hab e=>hab ?_) this;exact inj a b (gV.mp ha) (gV.mp hb) (PM e)
 ·obtain⟨k,hk,rfl⟩:=bp.mp hx;exact ok k (gV.mp hk)
theorem PN{n p:Nat}{cs:List Nat}(hl:sW cs)(h7:cs.length<=7)(hn:n<=12):Row n ((aW n).map λk=>textOf (ib cs p k)):=by
 refine wt (λi j hi hj e=>?_) λi hi=>⟨_,rfl,?_,?_,?_⟩
 ·unfold ib at e;have e2:=List.append_inj_left' e rfl;have e3:=List.append_inj_right e2 rfl;simp at e3;exact e3
 ·simp[ib];lia
 ·simp only[ib,ba,dh,cf,eJ,fc];lia
 ·intro c hc;simp only[ib,bR,cH]at hc;rcases hc with(hc|rfl)|hc
  ·exact hl c (qW hc)
  ·lia
  ·exact hl c (Aa hc)
theorem row2{n:Nat}{cs:List Nat}(hl:sW cs)(hn:n<=4):Row n ((aW n).map λk=>textOf (ke cs k)):=by
 refine wt (λi j hi hj e=>?_) λi hi=>⟨_,rfl,?_,?_,?_⟩
 ·have:=congrArg mj e;simp only[ke,ba,dh,cf,eJ]at this;lia
 ·simp only[ke,ba,dh,cf,eJ];lia
 ·simp only[ke,ba,dh,cf,eJ];lia
 ·intro c hc;simp only[ke,bR]at hc;rcases hc with hc|hc
  ·exact hl c (qW hc)
  ·have:=qW hc;simp only[a9,bZ,or_false]at this;lia
theorem PQ{n:Nat}{cs:List Nat}(hl:sW cs)(hn:n<=4):Row n ((aW n).map λk=>textOf (m6 cs k)):=by
 refine wt (λi j hi hj e=>?_) λi hi=>⟨_,rfl,?_,?_,?_⟩
 ·have:=congrArg mj e;simp only[m6,ba,dh,fc,cf,eJ]at this;lia
 ·simp only[m6,ba,dh,fc,cf,eJ];lia
 ·simp only[m6,ba,dh,fc,cf,eJ];lia
 ·intro c hc;simp only[m6,bR]at hc;rcases hc with hc|hc
  ·have:=Aa hc;simp only[a9,bZ,or_false]at this;lia
  ·exact hl c (qW hc)
theorem Row.turn{n t:Nat}{xs:List Str}(r:Row n xs):Row n (xs.drop t++xs.take t):=by
 have e:=uJ t xs;have pm:(xs.drop t++xs.take t).Perm xs:=by
  have:=List.perm_append_comm (l₁:=xs.drop t) (l₂:=xs.take t);rw[e]at this;exact this
 exact⟨pm.length_eq.trans r.len,pm.nodup_iff.mpr r.nd,λx hx=>r.ok x (pm.mem_iff.mp hx)⟩
inductive Sy where
 |name (x:Str)|bI|pair (a b:Sy)|left (a:Sy)|right (a:Sy)|fork (a b c:Sy)|send (x:Str) (as:List Sy)
mutual
def Sy.d:Sy->D
 | .name x=>.tup [.str "name",.str x]
 | .bI=>.tup [.str "bud"]
 | .pair a b=>.tup [.str "pair",a.d,b.d]
 | .left a=>.tup [.str "left",a.d]
 | .right a=>.tup [.str "right",a.d]
 | .fork a b c=>.tup [.str "fork",a.d,b.d,c.d]
 | .send x as=>.tup [.str "send",.str x,.tup (Sy.ds as)]
def Sy.ds:List Sy->List D
 |[]=>[]
 |a::as=>a.d::Sy.ds as
end
mutual
def Sy.deep:Sy->Nat
 | .name _=>1
 | .bI=>1
 | .pair a b=>max a.deep b.deep+1
 | .left a=>a.deep+1
 | .right a=>a.deep+1
 | .fork a b c=>max a.deep (max b.deep c.deep)+1
 | .send _ as=>Sy.cN as+1
def Sy.cN:List Sy->Nat
 |[]=>0
 |a::as=>max a.deep (Sy.cN as)
end
def Sy.parts:Sy->List Sy
 | .name _=>[]
 | .bI=>[]
 | .pair a b=>[a,b]
 | .left a=>[a]
 | .right a=>[a]
 | .fork a b c=>[a,b,c]
 | .send _ as=>as
mutual
def Sy.pre:Sy->List Sy
 | .name x=>[.name x]
 | .bI=>[.bI]
 | .pair a b=>.pair a b::(a.pre++b.pre)
 | .left a=>.left a::a.pre
 | .right a=>.right a::a.pre
 | .fork a b c=>.fork a b c::(a.pre++(b.pre++c.pre))
 | .send x as=>.send x as::Sy.bz as
def Sy.bz:List Sy->List Sy
 |[]=>[]
 |a::as=>a.pre++Sy.bz as
end
theorem Sy.lp(s:Sy):s.pre=s::Sy.bz s.parts:=by
 cases s<;>simp[Sy.pre,Sy.parts,Sy.bz]
theorem Sy.kf:∀as:List Sy,Sy.ds as=as.map Sy.d
 |[]=>rfl
 |a::as=>by simp only[Sy.ds,bo,Sy.kf as]
theorem Sy.wu:∀as bs:List Sy,Sy.bz (as++bs)=Sy.bz as++Sy.bz bs
 |[],bs=>by simp[Sy.bz]
 |a::as,bs=>by simp[Sy.bz,Sy.wu as bs]
mutual
def Sy.wf(ar:Str->Option Nat)(ps:List Str):Sy->Prop
 | .name x=>x∈ps
 | .bI=>True
 | .pair a b=>a.wf ar ps/\b.wf ar ps
 | .left a=>a.wf ar ps
 | .right a=>a.wf ar ps
 | .fork a b c=>a.wf ar ps/\b.wf ar ps/\c.wf ar ps
 | .send x as=>ar x=some as.length/\1<=as.length/\as.length<=4/\Sy.lq ar ps as
def Sy.lq(ar:Str->Option Nat)(ps:List Str):List Sy->Prop
 |[]=>True
 |a::as=>a.wf ar ps/\Sy.lq ar ps as
end
theorem Sy.wx{ar:Str->Option Nat}{ps:List Str}:∀{as:List Sy},Sy.lq ar ps as↔∀a∈as,a.wf ar ps
 |[]=>by simp[Sy.lq]
 |a::as=>by simp[Sy.lq,Sy.wx (as:=as)]
theorem Sy.kg:∀{as:List Sy} {n:Nat},(∀a∈as,a.deep<=n)->Sy.cN as<=n
 |[],_,_=>dQ _
 |a::as,n,h=>by
  simp only[Sy.cN];have h1:=h a bY;have h2:=Sy.kg (as:=as) (n:=n) λb hb=>h b (cg _ hb);lia
theorem Sy.sX:∀{as:List Sy} {a:Sy},a∈as->a.deep<=Sy.cN as
 |b::as,a,h=>by
  simp only[Sy.cN];rcases a9.mp h with rfl|h
  ·lia
  ·have:=Sy.sX h;lia
def Sy.sends(s:Sy):Nat:=(s.pre.filter λa=>match a with | .send _ _=>true|_=>false).length
def Sy.dz(as:List Sy):Nat:=((Sy.bz as).filter λa=>match a with | .send _ _=>true|_=>false).length
theorem Sy.jy(a:Sy)(as:List Sy):Sy.dz (a::as)=a.sends+Sy.dz as:=by simp[Sy.dz,Sy.sends,Sy.bz]
theorem Sy.PR(as bs:List Sy):Sy.dz (as++bs)=Sy.dz as+Sy.dz bs:=by simp[Sy.dz,Sy.wu]
def dA:List Str->List Nat->Str->Option Nat
 |x::xs,n::ns,y=>if y=x then some n else dA xs ns y
 |_,_,_=>none
theorem wz:∀{xs:List Str} {ns:List Nat} {i:Nat} {x:Str} {n:Nat},xs.Nodup->xs[i]?=some x->ns[i]?=some n->dA xs ns x=some n
 |[],_,_,_,_,_,h,_=>by simp at h
 |_::_,[],_,_,_,_,_,h=>by simp at h
 |y::xs,m::ns,0,x,n,_,h1,h2=>by
  simp at h1 h2;subst h1 h2;simp[dA]
 |y::xs,m::ns,i+1,x,n,nd,h1,h2=>by
  have hx:x∈xs:=cj (by simpa using h1);have hne:x≠y:=λz=>(ik.mp nd).1 (z▸hx);rw[dA,if_neg hne];exact wz (ik.mp nd).2 (by simpa using h1) (by simpa using h2)
structure Er where
 name:Str
 ps:List Str
 body:Sy
def Er.d(e:Er):D:=.tup [.str e.name,.tup (e.ps.map D.str),e.body.d]
end E3
namespace E3
open PySem PySem.Spec PyProof.Rows L2 EE
theorem PU{α:Type}{xs:List α}(c:Int)(h:0<xs.length):∃(j:Nat) (v:α),c%(xs.length:Int)=(j:Int)/\j<xs.length/\xs[j]?=some v:=by
 have h0:=kN c (show(xs.length:Int)≠0 by lia);have h1:=Ab c (show(0:Int)<xs.length by lia);have hj:(c%(xs.length:Int)).toNat<xs.length:=by lia
 exact⟨(c%(xs.length:Int)).toNat,xs[(c%(xs.length:Int)).toNat],by lia,hj,aV hj⟩
theorem DA{α:Type}{f:α->D}{xs:List α}(c:Int)(h:0<xs.length):∃(j:Nat) (v:α),c%((xs.map f).length:Int)=(j:Int)/\xs[j]?=some v/\b5 (xs.map f) (c%((xs.map f).length:Int))=some (f v):=by
 obtain⟨j,v,e,hj,hv⟩:=PU (xs:=xs) c h;have e':c%((xs.map f).length:Int)=(j:Int):=by rw[aA];exact e
 refine⟨j,v,e',hv,?_⟩;rw[e'];refine iF ?_;rw[aJ,hv];rfl
theorem Sy.lr(s:Sy):s.sends=(match s with | .send _ _=>1|_=>0)+Sy.dz s.parts:=by
 cases s<;>simp[Sy.sends,Sy.dz,Sy.pre,Sy.parts,Sy.bz]<;>lia
def gh(prog:List Er):Str->Option Nat:=dA (prog.map Er.name) (prog.map λe=>e.ps.length)
theorem PV{eW:List Er}{names:List Str}{counts:List Nat}(h1:eW.map Er.name=names)(h2:(eW.map λe=>e.ps.length)=counts):gh eW=dA names counts:=by
 unfold gh;rw[h1,h2]
theorem PX{n c:Nat}{xs:List Str}(r:Row n xs)(hc:c<=n):(xs.take c).length=c/\(xs.take c).Nodup/\∀x∈xs.take c,dZ x:=by
 refine⟨by rw[dh,r.len];lia,r.nd.sublist (zt _ _),λx hx=>r.ok x (qW hx)⟩
def Sy.nm:Sy->Option Str
 | .send x _=>some x
 |_=>none
def Sy.PY(s:Sy):List Str:=s.pre.filterMap Sy.nm
def abY(prog:List Er):List (Str×Str):=(prog.map λe=>e.body.PY.map λto=>(e.name,to)).flatten
theorem p_{ds:List Dt}{n:Nat}(h:∀d∈ds,cK d<=n):dv ds<=n:=by
 induction ds with
 |nil=>simp[dv]
 |cons d r ih =>
  simp only[dv];have h1:=h d bY;have h2:=ih λe he=>h e (cg _ he);lia
end E3
namespace EE
open PySem PySem.Spec PyProof.Rows L2
def m7(X:Cx)(ifs:List Expr)(t:TT):Prop :=
 ∀(pins:List (Addr×Obj)) (s:Shared) (σ:L2.St) (H:Hp) (Q:Bool->Hp->Prop),Inv X pins σ H s->t σ H Q ->
  wpAny (model X.prog X.w) X.A (forIn ifs true λc r=>if r=true then do let ok <-isTrue c X.env (eval c X.env);pure (ForInStep.yield ok) else pure (ForInStep.yield r)) (TP X pins σ Q) X.xe s
def PZ:TT:=λ_ H Q=>Q true H
theorem P0{X:Cx}:m7 X [] PZ:=λ_ _ _ _ _ I h=>wpAny_tests_nil ⟨_,I,h⟩
def sY(wi:TI)(g:TG)(tt:TT)(te:TE)(n:Nat)(js:List Nat):TE:=λσ H Q=>wi σ H λJ H1=>∀D,H1 D=none->∃W:Nat->Nat->L2.St->Hp->Prop,(∃m,W 0 m (eG n none++pick σ js) (upd H1 D (.lst []))) /\
 ∀i m τ H2,W i m τ H2->(J.stop i H2/\Q (.ref D) H2)∨(J.go i H2/\∃N:L2.St->Hp->Prop,(∀a8 H',N a8 H'->∃m',m'<m/\W (i+1) m' a8 H')/\∀v H',J.j5 i H2 v H' ->
  g v τ H' λa8 H3=>tt a8 H3 λb H4=>if b=true then te a8 H4 λy H5=>∃ys,H5 D=some (.lst ys)/\ys.length<sizeLine/\N a8 (upd H5 D (.lst (ys++[y]))) else N a8 H4)
section
variable{X:Cx}{elt iter tg:Expr}{ifs:List Expr}{pos:Pos}{scope:Scope}{O M:List Str}{js:List Nat}{wi:TI}{g:TG}{tt:TT}{te:TE}
theorem P1{prog:Program}{w:World}{A:Around}{R:Result->Shared->Prop}{s:Shared}{it acc:Value}{env:Env}(I:Nat->Shared->Prop)
 (turn:∀n s,I n s->wpAny (model prog w) A (pyNext it) (λr s₁=>match r with
  |none=>R (.ok .next) s₁
  |some v=>wpAny (model prog w) A (letOwnedTupleGo tg it v) (λ_ s₂=>wpAny (model prog w) A (assign tg env v) (λ_ s₃ =>
   wpAny (model prog w) A (forIn ifs true λc r=>if r=true then do let ok <-isTrue c env (eval c env);pure (ForInStep.yield ok) else pure (ForInStep.yield r)) (λok s₄ =>
    if ok=true then wpAny (model prog w) A (eval elt env) (λy s₅=>wpAny (model prog w) A (call (.builtin "list.append") [acc,y]) (λ_ s₆=>∃m,m<n/\I m s₆) (λ_ _=>False) s₅) (λ_ _=>False) s₄
    else ∃m,m<n/\I m s₄) (λ_ _=>False) s₃) (λ_ _=>False) s₂) (λ_ _=>False) s₁) (λ_ _=>False) s)
 (n:Nat) (h:I n s):codeAny (model prog w) A (.compLoop (.ListComp elt [⟨tg,iter,ifs,0⟩] scope pos) 0 it acc env) R s:=by
 refine codeAny_loop rfl I (λn s hI=>?_) n h;show wpAny _ _ ((compTurn (.ListComp elt [⟨tg,iter,ifs,0⟩] scope pos) 0 it acc env).onRaise (λx=>do noteFrame x env;theTreesLotGoes x)) _ _ s;refine wpAny_noted ?_;rw[compTurn_list];refine aj (zi (aj (eE (turn n s hI) (λr s₁ h₁=>?_) λ_ _ z=>z.elim)));cases r with
 |none=>exact aG h₁
 |some v =>
  refine aj (eE h₁ (λ_ s₂ h₂=>aj (eE h₂ (λ_ s₃ h₃=>aj (eE h₃ (λok s₄ h₄=>?_) λ_ _ z=>z.elim)) λ_ _ z=>z.elim)) λ_ _ z=>z.elim);cases ok with
  |false=>exact aG ⟨rfl,h₄⟩
  |true=>exact aj (aj (eE h₄ (λy s₅ h₅=>aj (eE h₅ (λ_ s₆ h₆=>aG (aG ⟨rfl,h₆⟩)) λ_ _ z=>z.elim)) λ_ _ z=>z.elim))
end
theorem sZ{X:Cx}{pins:List (Addr×Obj)}{σ:L2.St}{H:Hp}{s:Shared}{h':Heap}{t':Nat}{fp:List Addr}(I:Inv X pins σ H s)(k:∀b o,b∉fp->s.heap.get? b=some o->h'.get? b=some o)(hf:∀b∈fp,dq X pins H b):Inv X pins σ H {s with heap:=h',toks:=t'}:=by
 have j0:∀b u,H b=some u->b∉fp:=λb u e z=>by
  rw[(hf b z).1]at e;cases e
 refine I.step (g':=s.gens) (d':=s.drawn) (ch:=fp) (λb hb=>?_) (λb o _ _ hc e _=>k b o hc e) (λb o _ _ hc e _=>⟨o.slots,k b o hc e⟩) (λ_ _ _ _ n=>n) (λb o hc e=>⟨o,k b o hc e⟩) (λ_ _ e=>e) (λ_ _ _ e=>e)
  (λb ps e=>⟨#[],by rw[e];simp⟩) (λm hm=>?_) (λb u e=>?_) I.bare
 ·obtain⟨f0,f1,f2,f3,f4,f5⟩:=hf b hb;exact⟨f3,f1,f4,f5⟩
 ·obtain⟨o,es,ep,ho,r⟩:=hm;exact⟨o,es,ep,k _ o (λz=>(hf _ z).2.1 rfl) ho,r⟩
 ·refine(I.hok b u e).stay (λc v hc q=>k c v ?_ q) (λ_ q=>q) λ_ _ q=>q;rcases hc with z|z
  ·rw[z];exact j0 b u e
  ·exact j0 c _ z
section
variable{prog:Program}{w:World}{A:Around}{E:Value->Shared->Prop}{s:Shared}
theorem s_{j t:Addr}{k:Nat}{its:Array Value}{x:Value}{Q:Value->Shared->Prop}(hj:s.heap.IsTupleIter j t k)(ht:s.heap.IsTuple t its)(hx:its[k]?=some x)
 (hQ:∀h',h'.IsTupleIter j t (k+1)->fF j s.heap h'->Q x {s with heap:=h'}):wpAny (model prog w) A (jT (.ref j)) Q E s:=by
 obtain⟨ob,hob,hcl,hda⟩:=id hj;obtain⟨ot,hot,_,nt,hdt⟩:=ht;unfold jT;refine aj (jQ (name:=iq "__next__") hj.typeIs uK (i9 uK hj.typeIs Js ?_ (Jt _)));show wpAny _ _ (field (.ref j) 0 >>= _) _ _ s;refine aj (di hob hda (x:=.ref t) rfl ?_);show wpAny _ _ (if(Value.ref t==Value.none)=true then _ else _) _ _ _;rw[if_neg (λz:(Value.ref t==Value.none)=true=>cF z)];show wpAny _ _ (field (.ref j) 1 >>= _) _ _ s;refine aj (di hob hda (x:=.int k 0) rfl ?_);show wpAny _ _ (seqItems? (.ref t) >>= _) _ _ _;refine aj (ja hot hdt ?_);simp only[fT,hx];refine aj (wpAny_setField hob hda (by simp) (aG ⟨x,rfl,aG (hQ _ ⟨_,qS _ hob (Obj.isFreed_of_fields (Ju hda _)),(Obj.cls_mapFields ..).trans hcl,?_⟩ (Jw ..))⟩));rw[Ju hda];simp[rawInt]
theorem tf{j t:Addr}{k:Nat}{its:Array Value}{Q:Value->Shared->Prop}(hh:A.handled=none)(hj:s.heap.IsTupleIter j t k)(ht:s.heap.IsTuple t its)(hx:its[k]?=none)
 (hE:∀h' e,uL j s.heap h'->(∃o,h'.get? e=some o/\o.cls=.type "StopIteration")->E (.ref e) {s with heap:=h'}):wpAny (model prog w) A (jT (.ref j)) Q E s:=by
 obtain⟨ob,hob,hcl,hda⟩:=id hj;obtain⟨ot,hot,_,nt,hdt⟩:=ht;unfold jT;refine aj (jQ (name:=iq "__next__") hj.typeIs uK (i9 uK hj.typeIs Js ?_ (Jt _)));show wpAny _ _ (field (.ref j) 0 >>= _) _ _ s;refine aj (di hob hda (x:=.ref t) rfl ?_);show wpAny _ _ (if(Value.ref t==Value.none)=true then _ else _) _ _ _;rw[if_neg (λz:(Value.ref t==Value.none)=true=>cF z)];show wpAny _ _ (field (.ref j) 1 >>= _) _ _ s;refine aj (di hob hda (x:=.int k 0) rfl ?_);show wpAny _ _ (seqItems? (.ref t) >>= _) _ _ _;refine aj (ja hot hdt ?_);simp only[fT,hx];refine aj (kG (aj (wpAny_setField hob hda (by simp) ?_)));show wpAny _ _ (newExc (.type "StopIteration") [] >>= _) _ _ _;refine aj ?_;simp only[newExc,newTuple];refine aj (kK ?_ (by size_fits));refine aj (m:=firstArgMember _ _) (wpAny_of_eq (a:=Value.none) (by first|rfl|(simp only[firstArgMember];rfl)) (kK ?_ (by size_fits)));simp only[raiseNew];refine aj (wpAny_handled ?_)
 first
  |rw[show A.in1.handled=none from hh]
  |rw[hh]
 exact aj (aG (wpAny_throw (hE _ _ (((Jw ..).extBut.push _).push _) ⟨_,dn _ rfl,rfl⟩)))
end
section
variable{prog:Program}{w:World}{A:Around}{E:Value->Shared->Prop}{s:Shared}{z TI TO i1 i2 a b:Addr}{k:Nat}{xs ys:Array Value}{x y p q:Value}
structure ZN(z TI TO i1 i2:Addr):Prop where
 a:TI≠z
 b:TO≠z
 c:i1≠z
 d:i2≠z
 e:TI≠TO
 f:TI≠i1
 g:TI≠i2
 h:TO≠i1
 i:TO≠i2
 j:i1≠i2
structure ZA(z TO i1 i2 a:Addr):Prop where
 z:a≠z
 o:a≠TO
 i:a≠i1
 j:a≠i2
theorem iR{h h':Heap}{a c:Addr}{xs:Array Value}(x:h.IsTuple a xs)(e:uL c h h')(n:a≠c):h'.IsTuple a xs:=by
 obtain⟨o,ho,r⟩:=x;exact⟨o,e _ _ n ho,r⟩
theorem P2{Q:Value->Shared->Prop}(N:ZN z TI TO i1 i2)(Na:ZA z TO i1 i2 a)(Nb:ZA z TO i1 i2 b)
 (hz:IsZip s.heap z TI TO .none) (hI:IsPair s.heap TI (.ref i1) (.ref i2)) (hO:IsPair s.heap TO p q) (h1:s.heap.IsTupleIter i1 a k) (h2:s.heap.IsTupleIter i2 b k) (ha:s.heap.IsTuple a xs) (hb:s.heap.IsTuple b ys) (hx:xs[k]?=some x) (hy:ys[k]?=some y)
 (hQ:∀h5 h8,h5.objs.size=s.heap.objs.size->(∀c o,c≠z->c≠TO->c≠i1->c≠i2->s.heap.get? c=some o->h5.get? c=some o)->IsPair h5 TO x y->h5.IsTupleIter i1 a (k+1)->h5.IsTupleIter i2 b (k+1) ->
  (∃o,h5.get? z=some o)->fF z (h5.push {cls:=.type "tuple",data:=.seq #[x,y]}) h8->IsZip h8 z TI TO (rawInt h5.objs.size)->Q (.ref h5.objs.size) {s with heap:=h8}) :
 wpAny (model prog w) A (Builtin.«zip.__next__» ⟨[.ref z],[]⟩) (λfin s'=>∃v,fin=.done (.ret v)/\Q v s') E s:=by
 show wpAny _ _ (field (.ref z) 2 >>= _) _ _ s;refine aj (di hz rfl (x:=.bool false) rfl ?_);show wpAny _ _ (field (.ref z) 3 >>= _) _ _ s;refine aj (di hz rfl (x:=.ref TI) rfl (aj (ja hI rfl ?_)));show wpAny _ _ (oG (.ref z) >>= _) _ _ s;refine aj ?_;unfold oG;refine aj (di hz rfl (x:=.none) rfl (aG ?_));simp only[if_true];refine aj (kG (aj (di hz rfl (x:=.ref TO) rfl (aj (gv hz (by simp) λg1 hz1 e1=>?_)))));replace hz1:IsZip g1 z TI TO .ellipsis:=hz1;refine aj ?_;simp only[Jx,Jy,qU,uF];refine aj (aj (uM ?_));show wpAny _ _ (jT (.ref i1) >>= _) _ _ _;refine aj (s_ (h1.extBut e1.extBut N.c) (iR ha e1.extBut Na.z) hx λg2 DB e2=>aG ?_);have o2:IsPair g2 TO p q:=e2.extBut _ _ N.h (e1.extBut _ _ N.b hO);refine aj (ja o2 rfl (aj (Ac o2 λg3 o3 e3=>?_)));replace o3:IsPair g3 TO x q:=o3;refine aj (oH (aG (aj (aj (uM ?_)))));show wpAny _ _ (jT (.ref i2) >>= _) _ _ _;refine aj (s_ (((h2.extBut e1.extBut N.d).extBut e2.extBut N.j.symm).extBut e3.extBut N.i.symm) (iR (iR (iR hb e1.extBut Nb.z) e2.extBut Nb.i) e3.extBut Nb.o) hy λg4 j4 e4=>aG ?_);have o4:IsPair g4 TO x q:=e4.extBut _ _ N.i o3;refine aj (ja o4 rfl (aj (Ac o4 λg5 o5 e5=>?_)));replace o5:IsPair g5 TO x y:=o5;refine aj (oH (aG (aG (aj (ja o5 rfl (aj (wpAny_newTuple ?_)))))));have hsz:g5.objs.size=s.heap.objs.size:=by rw[e5.1,e4.1,e3.1,e2.1,e1.1]
 have z5:IsZip g5 z TI TO .ellipsis:=e5.extBut _ _ N.b.symm (e4.extBut _ _ N.d.symm (e3.extBut _ _ N.b.symm (e2.extBut _ _ N.c.symm hz1)));show wpAny _ _ (qX (.ref z) (.ref g5.objs.size) >>= _) _ _ _;refine aj ?_;unfold qX;have z6:IsZip (g5.push {cls:=.type "tuple",data:=.seq #[x,y]}) z TI TO .ellipsis:=bC _ z5;refine aj (gv z6 (by simp) λg7 z7 e7=>?_);replace z7:IsZip g7 z TI TO (rawInt g5.objs.size):=z7;refine gv z7 (by simp) λg8 z8 e8=>aG ⟨_,rfl,?_⟩;replace z8:IsZip g8 z TI TO (rawInt g5.objs.size):=z8;exact hQ g5 g8 hsz (λc o c1 c2 c3 c4 e=>e5.extBut _ _ c2 (e4.extBut _ _ c4 (e3.extBut _ _ c2 (e2.extBut _ _ c3 (e1.extBut _ _ c1 e))))) o5
  (((DB.extBut e3.extBut N.h.symm).extBut e4.extBut N.j).extBut e5.extBut N.h.symm) (j4.extBut e5.extBut N.i.symm) ⟨_,z5⟩ ⟨e8.1.trans e7.1,λc n=>(e8.2 c n).trans (e7.2 c n)⟩ z8
theorem P4{Q:Fin->Shared->Prop}(hh:A.handled=none)(N:ZN z TI TO i1 i2)(Na:ZA z TO i1 i2 a)(Nb:ZA z TO i1 i2 b)
 (hz:IsZip s.heap z TI TO .none) (hI:IsPair s.heap TI (.ref i1) (.ref i2)) (hO:IsPair s.heap TO p q) (h1:s.heap.IsTupleIter i1 a k) (h2:s.heap.IsTupleIter i2 b k) (ha:s.heap.IsTuple a xs) (hb:s.heap.IsTuple b ys) (hend:xs[k]?=none∨ys[k]?=none)
 (hE:∀h' e,(∀c o,c≠z->c≠TO->c≠i1->c≠i2->s.heap.get? c=some o->h'.get? c=some o)->(∃o,h'.get? e=some o/\o.cls=.type "StopIteration")->E (.ref e) {s with heap:=h'}) :
 wpAny (model prog w) A (Builtin.«zip.__next__» ⟨[.ref z],[]⟩) Q E s:=by
 show wpAny _ _ (field (.ref z) 2 >>= _) _ _ s;refine aj (di hz rfl (x:=.bool false) rfl ?_);show wpAny _ _ (field (.ref z) 3 >>= _) _ _ s;refine aj (di hz rfl (x:=.ref TI) rfl (aj (ja hI rfl ?_)));show wpAny _ _ (oG (.ref z) >>= _) _ _ s;refine aj ?_;unfold oG;refine aj (di hz rfl (x:=.none) rfl (aG ?_));simp only[if_true];refine aj (kG (aj (di hz rfl (x:=.ref TO) rfl (aj (gv hz (by simp) λg1 hz1 e1=>?_)))));replace hz1:IsZip g1 z TI TO .ellipsis:=hz1;refine aj ?_;simp only[Jx,Jy,qU,uF];refine aj (aj (uM ?_));show wpAny _ _ (jT (.ref i1) >>= _) _ _ _;cases hx:xs[k]? with
 |none =>
  refine aj (tf hh (h1.extBut e1.extBut N.c) (iR ha e1.extBut Na.z) hx λg2 e e2 ⟨oe,hoe,hce⟩=>?_);have z2:IsZip g2 z TI TO .ellipsis:=e2 _ _ N.c.symm hz1;have ez:e≠z:=λx=>by
   subst x;rw[z2]at hoe;cases hoe;simp at hce
  exact gv z2 (by simp) λg3 _ e3=>hE g3 e (λc o c1 _ c3 _ x=>e3.extBut _ _ c1 (e2 _ _ c3 (e1.extBut _ _ c1 x))) ⟨oe,e3.extBut _ _ ez hoe,hce⟩
 |some x =>
  have hy:ys[k]?=none:=by
   rcases hend with h|h
   ·rw[hx]at h;cases h
   ·exact h
  refine aj (s_ (h1.extBut e1.extBut N.c) (iR ha e1.extBut Na.z) hx λg2 DB e2=>aG ?_);have o2:IsPair g2 TO p q:=e2.extBut _ _ N.h (e1.extBut _ _ N.b hO);refine aj (ja o2 rfl (aj (Ac o2 λg3 o3 e3=>?_)));refine aj (oH (aG (aj (aj (uM ?_)))));show wpAny _ _ (jT (.ref i2) >>= _) _ _ _;refine aj (tf hh (((h2.extBut e1.extBut N.d).extBut e2.extBut N.j.symm).extBut e3.extBut N.i.symm) (iR (iR (iR hb e1.extBut Nb.z) e2.extBut Nb.i) e3.extBut Nb.o) hy λg4 e e4 ⟨oe,hoe,hce⟩=>?_);have z4:IsZip g4 z TI TO .ellipsis:=e4 _ _ N.d.symm (e3.extBut _ _ N.b.symm (e2.extBut _ _ N.c.symm hz1));have ez:e≠z:=λx=>by
   subst x;rw[z4]at hoe;cases hoe;simp at hce
  exact gv z4 (by simp) λg5 _ e5=>hE g5 e (λc o c1 c2 c3 c4 x=>e5.extBut _ _ c1 (e4 _ _ c4 (e3.extBut _ _ c2 (e2.extBut _ _ c3 (e1.extBut _ _ c1 x))))) ⟨oe,e5.extBut _ _ ez hoe,hce⟩
end
def wA (K:ak) (a b:Addr):It :=
  ⟨λi H=>∃xs ys x y,bq K H a xs∧bq K H b ys∧xs[i]?=some x∧ys[i]?=some y,
   λi H v H'=>∃T x y,v=.ref T∧H T=none∧H'=upd H T (.tup [x,y])∧(∀xs,bq K H a xs→xs[i]?=some x)∧∀ys,bq K H b ys→ys[i]?=some y,
   λi H=>∃xs ys,bq K H a xs∧bq K H b ys∧(xs.length≤i∨ys.length≤i)⟩
def ZT(z TI TO i1 i2 a b:Addr)(i:Nat)(h:Heap):Prop:=IsZip h z TI TO .none/\IsPair h TI (.ref i1) (.ref i2)/\(∃x y,IsPair h TO x y)/\h.IsTupleIter i1 a i/\h.IsTupleIter i2 b i
theorem P5{P:Program}{w:World}{K:ak}{es:List Expr}{kt:Nat}{tp:Pos}(z TI TO i1 i2 a b:Addr)(N:ZN z TI TO i1 i2)(Na:ZA z TO i1 i2 a)(Nb:ZA z TO i1 i2 b) :
 Turn P w K (.Tuple es kt tp) (wA K a b) [z,TI,TO,i1,i2] z (ZT z TI TO i1 i2 a b) where
 mem:=bY
 obj:=λi h st c hc=>by
  obtain⟨s1,s2,⟨x,y,s3⟩,⟨o4,s4,_,d4⟩,⟨o5,s5,_,d5⟩⟩:=st;simp only[a9,bZ,or_false]at hc;rcases hc with rfl|rfl|rfl|rfl|rfl
  ·exact⟨_,s1,λv e=>nomatch e⟩
  ·exact⟨_,s2,λv e=>nomatch e⟩
  ·exact⟨_,s3,λv e=>nomatch e⟩
  ·exact⟨_,s4,λv e=>by rw[d4]at e;cases e⟩
  ·exact⟨_,s5,λv e=>by rw[d5]at e;cases e⟩
 keep:=λi h h' st kk=>by
  obtain⟨s1,s2,⟨x,y,s3⟩,s4,s5⟩:=st;exact⟨kk z (by simp) _ s1,kk TI (by simp) _ s2,⟨x,y,kk TO (by simp) _ s3⟩,s4.at λo e=>kk i1 (by simp) o e,s5.at λo e=>kk i2 (by simp) o e⟩
 item:=by
  intro X hP hw hK hc i pins s σ H E I hf st hg;subst hP hw hK;obtain⟨xs,ys,x,y,hq,hq',hx,hy⟩:=hg;obtain⟨its,rv,pt,hz⟩:=I.tuple hq;obtain⟨jts,rv',m8,hz'⟩:=I.tuple hq';obtain⟨u,hu,ru⟩:=rv.get hx;obtain⟨u',hu',P6⟩:=rv'.get hy;obtain⟨s1,s2,⟨p,q,s3⟩,s4,s5⟩:=st;have hT:s.TypeIs (.ref z) "zip":=⟨_,s1,rfl⟩;unfold pyNext;refine aj (uN (jQ (name:=iq "__next__") hT uO (i9 uO hT Jz
   (P2 N Na Nb s1 s2 s3 s4 s5 (show s.heap.IsTuple a its.toArray from pt) (show s.heap.IsTuple b jts.toArray from m8) (x:=u) (y:=u') (by simpa using hu) (by simpa using hu') λh5 h8 sz k5 o5 t1 t2 zz e8 z8=>aG ?_) (JA _))))
  refine⟨_,rfl,wpAny_letOwnedTupleGo_zip z8 λh9 z9 e9=>?_⟩;have fz:∀c o,s.heap.get? c=some o->c∉[z,TI,TO,i1,i2]->h5.get? c=some o:=λc o e n=>by
   simp only[a9,bZ,or_false,not_or]at n;exact k5 c o n.1 n.2.2.1 n.2.2.2.1 n.2.2.2.2 e
  have I5:Inv X pins σ H {s with heap:=h5}:=sZ (t':=s.toks) I (λc o n e=>fz c o e n) hf;have hfr:H h5.objs.size=none:=I5.hok.fresh (aX _);have I6:Inv X pins σ (upd H h5.objs.size (.tup [x,y])) {s with heap:=h5.push {cls:=.type "tuple",data:=.seq #[u,u']}} :=
   I5.laid (t':=s.toks) (λb u e=>bC _ e) (aX _) ⟨(by decide:2<=sizeLine),[u,u'],.cons ru (.cons P6 .nil),⟨_,dn _ rfl,rfl,_,rfl⟩,λo q=>by rw[dn _ rfl]at q;cases q;rfl⟩
  obtain⟨oz,P7⟩:=zz;have P8:z<h5.objs.size:=bh P7;obtain⟨f0,f1,f2,f3,f4,f5⟩:=hf z bY;have f0':upd H h5.objs.size (.tup [x,y]) z=none:=by rw[a_ (c_ P8)];exact f0
  have I8:Inv X pins σ (upd H h5.objs.size (.tup [x,y])) {s with heap:=h8}:=I6.turned (t':=s.toks) (λc o n e=>(e8.2 c n).trans e) f0' f1 f3 f4 f5;have I9:Inv X pins σ (upd H h5.objs.size (.tup [x,y])) {s with heap:=h9}:=I8.turned (t':=s.toks) (λc o n e=>(e9.2 c n).trans e) f0' f1 f3 f4 f5;have tm:∀c o,c≠z->h5.get? c=some o->h9.get? c=some o:=λc o n e=>(e9.2 c n).trans ((e8.2 c n).trans (bC _ e));refine⟨.ref h5.objs.size,_,I9,rfl,⟨_,x,y,rfl,hfr,rfl,λzs hy=>by rw[I.oV hy hq];exact hx,λzs hy'=>by rw[I.oV hy' hq'];exact hy⟩,
   ⟨z9,tm _ _ N.a (k5 _ _ N.a N.e N.f N.g s2),⟨_,_,tm _ _ N.b o5⟩,t1.at λo e=>tm _ o N.c e,t2.at λo e=>tm _ o N.d e⟩,λc hc=>?_⟩
  have cl:c<h5.objs.size:=by
   rw[sz];simp only[a9,bZ,or_false]at hc;obtain⟨o4,s4,_⟩:=s4;obtain⟨o5,s5,_⟩:=s5;rcases hc with rfl|rfl|rfl|rfl|rfl
   ·exact bh s1
   ·exact bh s2
   ·exact bh s3
   ·exact bh s4
   ·exact bh s5
  rw[a_ (c_ cl)];exact(hf c hc).1
 done:=by
  intro X hP hw hK hc i pins s σ H E I hf st hg;subst hP hw hK;obtain⟨xs,ys,hq,hq',hend⟩:=hg;obtain⟨its,rv,pt,hz⟩:=I.tuple hq;obtain⟨jts,rv',m8,hz'⟩:=I.tuple hq';have hl:=rv.length;have hl':=rv'.length;obtain⟨s1,s2,⟨p,q,s3⟩,s4,s5⟩:=st;have hT:s.TypeIs (.ref z) "zip":=⟨_,s1,rfl⟩;unfold pyNext;refine aj (uN (jQ (name:=iq "__next__") hT uO (i9 uO hT Jz
   (P4 (I.ok.hd hc) N Na Nb s1 s2 s3 s4 s5 (show s.heap.IsTuple a its.toArray from pt) (show s.heap.IsTuple b jts.toArray from m8) ?_ λh' e kk ⟨oe,hoe,hce⟩=>?_) (JA _))))
  ·rcases hend with h|h
   ·exact .inl (by simp;lia)
   ·exact .inr (by simp;lia)
  ·refine aj (zc (T:="StopIteration") (b:=true) ⟨oe,hoe,hce⟩ isSubtype_stop (aG ⟨rfl,sZ (t':=s.toks) I (λc o n e=>?_) hf⟩));simp only[a9,bZ,or_false,not_or]at n;exact kk c o n.1 n.2.2.1 n.2.2.2.1 n.2.2.2.2 e
 self:=λ_ _ _ _ _ st h=>wpAny_pyIter_zip st.1 h
def zH(h:Heap)(a b:Addr):Heap:=((((h.push {cls:=.type "tuple_iterator",data:=.fields #[.ref a,.int 0 0]}).push {cls:=.type "tuple_iterator",data:=.fields #[.ref b,.int 0 0]}).push
 {cls:=.type "tuple",data:=.seq #[.ref h.objs.size,.ref (h.objs.size+1)]}).push {cls:=.type "tuple",data:=.seq #[.none,.none]}).push
 {cls:=.type "zip",data:=.fields #[.none,.bool false,.bool false,.ref (h.objs.size+2),.ref (h.objs.size+3)]}
theorem qa{h:Heap}{o:Obj}{n:Nat}(e:h.objs.size=n)(hf:o.isFreed=false:=by rfl):(h.push o).get? n=some o:=by
 rw[<-e];exact dn _ hf
theorem wB(h:Heap)(a b:Addr):IsZip (zH h a b) (h.objs.size+4) (h.objs.size+2) (h.objs.size+3) .none:=qa (by simp[iu])
theorem P9(h:Heap)(a b:Addr):IsPair (zH h a b) (h.objs.size+2) (.ref h.objs.size) (.ref (h.objs.size+1)):=bC _ (bC _ (qa (by simp[iu])))
theorem P_(h:Heap)(a b:Addr):IsPair (zH h a b) (h.objs.size+3) .none .none:=bC _ (qa (by simp[iu]))
theorem P'(h:Heap)(a b:Addr):(zH h a b).IsTupleIter h.objs.size a 0:=⟨_,bC _ (bC _ (bC _ (bC _ (qa rfl)))),rfl,rfl⟩
theorem Qa(h:Heap)(a b:Addr):(zH h a b).IsTupleIter (h.objs.size+1) b 0:=⟨_,bC _ (bC _ (bC _ (qa (by simp[iu])))),rfl,rfl⟩
theorem Qb{h:Heap}{a b c:Addr}{o:Obj}(e:h.get? c=some o):(zH h a b).get? c=some o :=
 bC _ (bC _ (bC _ (bC _ (bC _ e))))
theorem Qc(a b:Addr)(xs ys:Array Value):Meets (Builtin.«zip.__new__» ⟨[.type "zip",.ref a,.ref b],[]⟩) (λ_ R s=>s.heap.IsTuple a xs/\s.heap.IsTuple b ys/\R (.ok (.ret (.ref (s.heap.objs.size+4)))) {s with heap:=zH s.heap a b}) :=
 .of_wp λprog w A R s h=>by
  obtain⟨hp,g,d,tk,os⟩:=s;obtain⟨ha,hb,h⟩:=h;have hsub:=sub_zip;have ha':Ad (Ae ⟨hp,g,d,tk,os⟩) a xs:=ha;have hb':Ad (Ae ⟨hp.push {cls:=.type "tuple_iterator",data:=.fields #[.ref a,.int 0 0]},g,d,tk,os⟩) b ys:=by
   obtain⟨o,e,r⟩:=hb;exact⟨o,bC _ e,r⟩
  wp_walk using ox ha',ox hb'
  refine⟨_,rfl,?_⟩;simp only[iu];exact h
section
variable{X:Cx}{es:List Expr}{kt:Nat}{tp:Pos}
theorem Qd{prog:Program}{w:World}{A:Around}{E:Value->Shared->Prop}{s:Shared}{a b:Addr}{xs ys:Array Value}{Q:Value->Shared->Prop}(ha:s.heap.IsTuple a xs)(hb:s.heap.IsTuple b ys)(h:Q (.ref (s.heap.objs.size+4)) {s with heap:=zH s.heap a b}) :
 wpAny (model prog w) A (call (.type "zip") [.ref a,.ref b]) Q E s:=by
 refine callType_new PySem.F.called_zip (by decide) (PySem.F.typeCall_zip_2 _ _) (PySem.F.newCall_zip_2 _ _) (λobj=>PySem.F.args_object_init_3 obj _ _) PySem.F.entry_zip_new (Qc a b xs ys) ⟨ha,hb,?_⟩;show _/\_;exact⟨⟨_,wB s.heap a b,rfl⟩,h⟩
def Qf(K:ak)(ta:TA):TI:=λσ H R=>ta σ H λvs H1=>∃a b,vs=[.ref a,.ref b]/\(∃xs,bq K H1 a xs)/\(∃ys,bq K H1 b ys)/\R (wA K a b) H1
theorem Qg{a b:Expr}{ta:TA}{p pos:Pos}(hg:Gl X "zip")(hm:X.mg "zip"=none)(ha:PA X [a,b] ta)(hs:starEach [a,b] X.env=[(false,eval a X.env),(false,eval b X.env)])(hs2:starEach [b] X.env=[(false,eval b X.env)]) :
 PI X (.Tuple es kt tp) (.Call (.Name "zip" p) [a,b] [] pos) (Qf X.K ta):=by
 intro pins s σ H R I h;refine Call_ (iA I hg hm boot_zip (kH (aE (ha pos pins s σ H _ I h) λus s1 ⟨vs,H1,I1,r1,q1⟩=>?_) (by rw[hs,hs2]) (by rw[hs2];rfl)));obtain⟨x,y,e,⟨xs,hx⟩,⟨ys,hy⟩,q⟩:=q1;subst e;obtain⟨u,u',rfl,r,r'⟩:=vals2 r1;cases r;cases r';obtain⟨its,rv,pt,_⟩:=I1.tuple hx;obtain⟨jts,rv',m8,_⟩:=I1.tuple hy;refine Qd (show s1.heap.IsTuple x its.toArray from pt) (show s1.heap.IsTuple y jts.toArray from m8) (wpAny_pyIter_zip (wB s1.heap x y) ?_);have lx:x<s1.heap.objs.size:=by
  obtain⟨o,e,_⟩:=pt;exact bh e
 have ly:y<s1.heap.objs.size:=by
  obtain⟨o,e,_⟩:=m8;exact bh e
 have I2:Inv X pins σ H1 {s1 with heap:=zH s1.heap x y}:=I1.kept (t':=s1.toks) λ_ _ e=>Qb e;have nd:∀(i j:Nat),i≠j->s1.heap.objs.size+i≠s1.heap.objs.size+j:=λi j h e=>h (Nat.add_left_cancel e);have nx:∀{c:Addr} (i:Nat),c<s1.heap.objs.size->c≠s1.heap.objs.size+i:=λi h=>c_ (cZ h (qY _ _));refine⟨s1.heap.objs.size+4,[s1.heap.objs.size+4,s1.heap.objs.size+2,s1.heap.objs.size+3,s1.heap.objs.size,s1.heap.objs.size+1],_,_,H1,rfl,I2,
  P5 _ _ _ _ _ x y ⟨nd 2 4 (by decide),nd 3 4 (by decide),nd 0 4 (by decide),nd 1 4 (by decide),nd 2 3 (by decide),nd 2 0 (by decide),nd 2 1 (by decide),nd 3 0 (by decide),nd 3 1 (by decide),nd 0 1 (by decide)⟩ ⟨nx 4 lx,nx 3 lx,nx 0 lx,nx 1 lx⟩ ⟨nx 4 ly,nx 3 ly,nx 0 ly,nx 1 ly⟩,
  ⟨wB ..,P9 ..,⟨_,_,P_ ..⟩,P' ..,Qa ..⟩,λc hc=>?_,q⟩
 have cl:s1.heap.objs.size<=c:=by
  simp only[a9,bZ,or_false]at hc;rcases hc with rfl|rfl|rfl|rfl|rfl
  ·exact qY _ _
  ·exact qY _ _
  ·exact qY _ _
  ·exact aX _
  ·exact qY _ _
 exact I1.j6 cl (I1.hok.fresh cl)
end
end EE
namespace E3
open PySem PySem.Spec PyProof.Rows L2 EE
def wC(K:ak)(g:dw):TG:=λv τ H Q=>∃Z:Zt,lG K Z g v τ H Q
def tq(K:ak)(t:cw):TT:=λτ H Q=>∃Z:Zt,lT K Z t τ H Q
theorem fN.ex{X:Cx}{e:Expr}{g:dw}(h:fN X cU e g):PG X e (wC X.K g):=λpins s σ H v u Q I r ck=>by obtain⟨Z,q⟩:=ck;exact h (ZX.no X Z) pins s σ H v u Q I r q
def iS(X:Cx)(ifs:List Expr)(t:cw):Prop:=m7 X ifs (tq X.K t)
theorem iS.ex{X:Cx}{ifs:List Expr}{t:cw}(h:iS X ifs t):m7 X ifs (tq X.K t):=h
def kh:cw:=λ_ S Q=>Q true S
theorem d0{X:Cx}:iS X [] kh:=λpins s σ H Q I jr=>by obtain⟨Z,_,S,_,_,hr,ht,hc⟩:=jr;exact P0 pins s σ H Q I (hc true S H (Kp.refl _ _) hr ht)
def qb(n:Nat)(g:dw)(Sh:D->aF->Prop):Prop:=∀d ρ,Sh d ρ->ρ.length=n/\∀eQ S Q,Q (ρ++eQ) S->g d (eG n none++eQ) S Q
def iT:D->aF->Prop:=λd ρ=>ρ=[some d]
def wD:D->aF->Prop:=λd ρ=>∃a b,d=.tup [a,b]/\ρ=[some a,some b]
theorem tu:qb 1 (iL 0) iT:=λd ρ h=>by
 cases h;exact⟨rfl,λeQ S Q q=>q⟩
theorem Qh:qb 2 (so 2 (mK (iL 0) (mK (iL 1) sm))) wD:=λd ρ h=>by
 obtain⟨a,b,rfl,rfl⟩:=h;exact⟨rfl,λeQ S Q q=>⟨_,rfl,rfl,a,_,rfl,b,_,rfl,rfl,q⟩⟩
def iU(wi:dX)(Sh:D->aF->Prop)(tt:cw)(te:aK)(js:List Nat):aK:=λσ S Q=>wi σ S λds Al S1=>∃W:Nat->List D->af->Prop,W 0 [] S1/\(∀i ys S,W i ys S->Al S/\ys.length<sizeLine) /\
 (∀i d ys S,ds[i]?=some d->W i ys S->∃ρ,Sh d ρ/\tt (ρ++cV σ js) S λb S2=>if b=true then te (ρ++cV σ js) S2 λy S3=>W (i+1) (ys++[y]) S3 else W (i+1) ys S2)/\∀ys S,W ds.length ys S->c8 S ys Q
theorem SR.blank{K:ak}{H:Hp}{r:aF}:∀{ρ:aF} {τ:L2.St},SR K H (ρ++r) τ->SR K H (eG ρ.length none++r) τ
 |[],_,h=>h
 |_::ρ,_,.cons _ t=>.cons (λd e=>by cases e) (SR.blank (ρ:=ρ) t)
theorem tw{K:ak}{Z:Zt}{wi:dX}{Sh:D->aF->Prop}{g:dw}{tt:cw}{te:aK}{n:Nat}{js:List Nat}{τ:L2.St}{H:Hp}{Q:VK}(hsh:qb n g Sh)(h:lE K Z (iU wi Sh tt te js) τ H Q) :
 sY (lI K Z wi) (wC K g) (tq K tt) (vZ K te) n js τ H Q:=by
 obtain⟨σ,S,Q3,hs,hr,ht,hc⟩:=h;refine⟨σ,S,_,hs,hr,ht,λds Al S1 J H1 k1 l1 q1 wk=>?_⟩;intro p hp;obtain⟨W,w0,al,turn,done⟩:=q1;obtain⟨hsp,m9⟩:=l1.fresh hp;have kp:Kp Z H1 (upd H1 p (.lst [])):=Kp.new hp m9;have Qi:SR K (upd H1 p (.lst [])) (eG n none++cV σ js) (eG n none++pick τ js):=iI (SR.nones n) ((hs.mono (k1.trans kp)).picks js);refine⟨λi m a8 H'=>m=ds.length-i/\i<=ds.length/\SR K H' (eG n none++cV σ js) a8/\∃ys vs S',Kp Z H1 H'/\H' p=some (.lst vs)/\aN K H' ys vs/\S' p=none/\Rl K Z S' H'/\W i ys S',
  ⟨ds.length,by simp,dQ _,Qi,[],[],S1,kp,d7,.nil,hsp,l1.lay hp,w0⟩,?_⟩
 rintro i m a8 H2 ⟨rfl,hi,Qj,ys,vs,S2,k2,hp2,ry,hs2,l2,w2⟩;obtain⟨DC,hz⟩:=al _ _ _ w2;by_cases hlt:i<ds.length
 ·have hd:ds[i]?=some ds[i]:=aV hlt;obtain⟨go,yl⟩:=wk.go i _ S2 H2 k2 l2 DC hd;refine .inr ⟨go,λa8 H'=>i<ds.length/\SR K H' (eG n none++cV σ js) a8/\∃ys vs S',Kp Z H1 H'/\H' p=some (.lst vs)/\aN K H' ys vs/\S' p=none/\Rl K Z S' H'/\W (i+1) ys S',
   λa8 H' z=>⟨ds.length-(i+1),by lia,rfl,z.1,z.2⟩,λv H3 y=>?_⟩
  obtain⟨k3,rv,l3,o3⟩:=yl v H3 y;have hp3:H3 p=some (.lst vs):=(o3 p (by rw[hp2];simp)).trans hp2;obtain⟨ρ,qc,step⟩:=turn i _ ys S2 hd w2;obtain⟨hn,hg⟩:=hsh _ ρ qc;refine⟨Z.hide H3 p,ds[i],_,S2,λσ' S'=>σ'=ρ++cV σ js/\S'=S2,rv,Qj.mono k3,(l3 _ l2).hide hs2 (by rw[hp3];simp),hg _ _ _ ⟨rfl,rfl⟩,?_⟩;rintro Ck S4 vY H4 k4 tz l4 ⟨rfl,rfl⟩;refine⟨Z.hide H3 p,_,_,_,tz,l4,step,?_⟩;intro b S5 H5 k5 l5 q5;have DD:∀{S6:af} {H6:Hp},Kp (Z.hide H3 p) H4 H6->Rl K (Z.hide H3 p) S6 H6->H6 p=some (.lst vs)/\Kp Z H3 H6/\Rl K Z S6 H6/\S6 p=none:=λ{S6 H6} k6 l6=>by
   have kk:=(k4.trans k6).dY (Z:=Z) λa z=>.inl z;exact⟨((k4.trans k6).hid p (.inr rfl)).trans hp3,kk,l6.dY (Z:=Z) (λa z=>.inl z) ((l3 _ l2).old.trans kk),(l6.hid p (.inr rfl)).1⟩
  have bl:∀{H6:Hp},SR K H6 (ρ++cV σ js) vY->SR K H6 (eG n none++cV σ js) vY:=λ{H6} z=>by
   have:=SR.blank z;rw[hn]at this;exact this
  cases b with
  |false =>
   rw[if_neg cF];obtain⟨qd,kk,Qk,Ql⟩:=DD k5 l5;exact⟨hlt,bl (tz.mono k5),ys,vs,S5,k2.trans (k3.trans kk),qd,ry.mono (k3.trans kk),Ql,Qk,q5⟩
  |true =>
   rw[if_pos rfl];refine⟨Z.hide H3 p,_,S5,_,tz.mono k5,l5,q5,?_⟩;intro d S6 w H6 k6 r6 l6 q6;obtain⟨wF,DE,wG,DF⟩:=DD (k5.trans k6) l6;have kk:Kp Z H6 (upd H6 p (.lst (vs++[w]))):=by
    refine⟨λb xs e=>?_,λb q u e=>?_,λb z=>?_⟩
    ·rw[a_];exact e;rintro rfl;rw[wF]at e;cases e
    ·rw[a_];exact e;rintro rfl;rw[wF]at e;cases e
    ·rw[a_];rintro rfl;exact m9 z
   have hlen:ys.length=vs.length:=ry.len;refine⟨vs,wF,by lia,hlt,bl ((tz.mono (k5.trans k6)).mono kk),ys++[d],vs++[w],S6,k2.trans (k3.trans (DE.trans kk)),d7,(ry.mono (k3.trans (DE.trans kk))).append (.cons (r6.mono kk) .nil),DF,
    ⟨λb u e=>(wG.obj b u e).keep kk (a_ (ne3 e DF)),λb z=>?_,wG.old.trans kk⟩,q6⟩
   have hb:b≠p:=λe=>m9 (e▸z);rw[a_ hb];exact wG.hid b z
 ·have e:i=ds.length:=by lia
  subst e;refine .inl ⟨wk.stop S2 H2 k2 l2 DC,?_⟩;refine hc (.ref p) (up S2 p (.lst ys)) (.ref p) H2 (k1.trans k2) (.ref p) ⟨λb u e=>?_,λb z=>?_,l2.old⟩ (done ys S2 w2 p hs2)
  ·by_cases hb:b=p
   ·subst hb;rw[az]at e;cases e;exact⟨vs,hp2,ry⟩
   ·rw[bj hb]at e;exact l2.obj b u e
  ·have hb:b≠p:=λe=>m9 (e▸z);rw[bj hb];exact l2.hid b z
section
variable{σ:aF}{S:af}{Q:K3}{wi:dX}{js:List Nat}{tt:cw}{te:aK}{Sh:D->aF->Prop}
theorem Qm(h:wi σ S λds Al S1=>∃W:Nat->List D->af->Prop,W 0 [] S1/\(∀i ys S,W i ys S->Al S/\ys.length<sizeLine) /\
 (∀i d ys S,ds[i]?=some d->W i ys S->∃ρ,Sh d ρ/\tt (ρ++cV σ js) S λb S2=>if b=true then te (ρ++cV σ js) S2 λy S3=>W (i+1) (ys++[y]) S3 else W (i+1) ys S2)/\∀ys S,W ds.length ys S->c8 S ys Q):iU wi Sh tt te js σ S Q:=h
theorem DG{ds:List D}{Al:af->Prop}{S1:af}(p:Nat->Bool)(f:Nat->D)(hz:ds.length<=100000)(hA:Al S1)
 (h:∀i d,ds[i]?=some d->∃ρ,Sh d ρ/\(∀P:Bool->af->Prop,P (p i) S1->tt (ρ++cV σ js) S1 P)/\(p i=true->∀P:K3,P (f i) S1->te (ρ++cV σ js) S1 P)) (q:c8 S1 (((aW ds.length).filter p).map f) Q) :
 ∃W:Nat->List D->af->Prop,W 0 [] S1/\(∀i ys S,W i ys S->Al S/\ys.length<sizeLine) /\
 (∀i d ys S,ds[i]?=some d->W i ys S->∃ρ,Sh d ρ/\tt (ρ++cV σ js) S λb S2=>if b=true then te (ρ++cV σ js) S2 λy S3=>W (i+1) (ys++[y]) S3 else W (i+1) ys S2)/\∀ys S,W ds.length ys S->c8 S ys Q:=by
 refine⟨λi ys S=>i<=ds.length/\ys=((aW i).filter p).map f/\S=S1,⟨dQ _,rfl,rfl⟩,?_,?_,?_⟩
 ·rintro i ys S ⟨hi,rfl,rfl⟩;refine⟨hA,?_⟩;rw[aA];have:=JB p (aW i);rw[qT]at this;exact fu (bX this (bX hi (bX hz (by decide))))
 ·rintro i d ys S hd ⟨hi,rfl,rfl⟩;obtain⟨ρ,qc,h1,h2⟩:=h i d hd;have hi':=(bH.mp hd).1;refine⟨ρ,qc,h1 _ ?_⟩;cases c:p i with
  |true =>
   rw[if_pos rfl];refine h2 c _ ⟨hi',?_,rfl⟩;rw[qZ,uP,cI];simp[c]
  |false =>
   rw[if_neg (by decide)];refine⟨hi',?_,rfl⟩;rw[qZ,uP,cI];simp[c]
 ·rintro ys S ⟨_,rfl,rfl⟩;exact q
theorem DH{n:Nat}{f:Nat->D}:((aW n).filter λ_=>true).map f=(aW n).map f:=by rw[List.filter_eq_self.mpr λ_ _=>rfl]
theorem DI{d:D}{P:aF->Prop}(h:P [some d]):∃ρ,iT d ρ/\P ρ:=⟨_,rfl,h⟩
theorem DJ{a b:D}{P:aF->Prop}(h:P [some a,some b]):∃ρ,wD (.tup [a,b]) ρ/\P ρ:=⟨_,⟨a,b,rfl,rfl⟩,h⟩
theorem wH{P:Bool->af->Prop}(h:P true S):kh σ S P:=h
end
def iV(as bs:List D):List D:=(as.zip bs).map λp=>.tup [p.1,p.2]
def DL(ta:cy):dX:=λσ S R=>ta σ S λxs S1=>∃as bs,xs=[.tup as,.tup bs]/\R (iV as bs) (λ_=>True) S1
theorem Qn{K:ak}{Z:Zt}{a b:Addr}{xs ys:List V}{as bs:List D}{H1:Hp}(h1:bq K H1 a xs)(r1:aN K H1 as xs)(h2:bq K H1 b ys)(r2:aN K H1 bs ys):Wk K Z (wA K a b) (iV as bs) (λ_=>True) H1:=by
 constructor
 ·intro i d S H k l _ hd;unfold iV at hd;rw[aJ]at hd;obtain⟨p,hp,rfl⟩:=bU.mp hd;obtain⟨ha,hb⟩:=Af.mp hp;obtain⟨x,hx,rx⟩:=r1.at ha;obtain⟨y,hy,ry⟩:=r2.at hb;refine⟨⟨xs,ys,x,y,k.h_ h1,k.h_ h2,hx,hy⟩,?_⟩;rintro v H' ⟨T,x',y',rfl,hT,rfl,fx,fy⟩;have ex:x'=x:=by
   have:=fx _ (k.h_ h1);rw[hx]at this;exact(cS this).symm
  have ey:y'=y:=by
   have:=fy _ (k.h_ h2);rw[hy]at this;exact(cS this).symm
  subst ex ey;obtain⟨_,hz⟩:=l.fresh hT;have kn:Kp Z H (upd H T (.tup [x',y'])):=Kp.new hT hz;exact⟨kn,.tup d7 (.cons (rx.mono (k.trans kn)) (.cons (ry.mono (k.trans kn)) .nil)),λS' l'=>l'.lay hT,λb hb=>a_ λe=>hb (e▸hT)⟩
 ·intro S H k l _;refine⟨xs,ys,k.h_ h1,k.h_ h2,?_⟩;have e1:=r1.len;have e2:=r2.len;simp only[iV,aA,List.length_zip];lia
section
variable{X:Cx}{W3:bE}{es:List Expr}{kt:Nat}{tp pos p:Pos}{a b:Expr}{ta:cy}{σ:aF}{S:af}{R:RI}{al:cy}
theorem Qo(hg:Gl X "zip")(hm:X.mg "zip"=none)(ha:d9 X W3 [a,b] ta)(hs:starEach [a,b] X.env=[(false,eval a X.env),(false,eval b X.env)]:=by rfl)(hs2:starEach [b] X.env=[(false,eval b X.env)]:=by rfl) :
 eV X W3 (.Tuple es kt tp) (.Call (.Name "zip" p) [a,b] [] pos) (DL ta):=λZ=>PI.imp (Qg hg hm (ha Z) hs hs2) λτ H R jk=>by
 obtain⟨σ,S,R3,hs,hr,ht,hc⟩:=jk;refine⟨σ,S,_,hs,hr,ht,λds S1 vs H1 k1 r1 l1 q1=>?_⟩;obtain⟨as,bs,rfl,q⟩:=q1;cases r1 with
 |cons ra rr =>
  cases rr with
  |cons rb rn =>
   cases rn;cases ra with
   |tup h1 h2 =>
    cases rb with
    |tup h3 h4=>exact⟨_,_,rfl,⟨_,h1⟩,⟨_,h3⟩,hc (iV as bs) _ S1 _ H1 k1 l1 q (Qn h1 h2 h3 h4)⟩
def DM(R:RI)(xs:List D)(S:af):Prop:=∃as bs,xs=[.tup as,.tup bs]/\R (iV as bs) (λ_=>True) S
theorem Qp(h:al σ S λxs S1=>DM R xs S1):DL al σ S R:=h
theorem Qq{as bs:List D}(q:R (iV as bs) (λ_=>True) S):DM R [.tup as,.tup bs] S:=⟨as,bs,rfl,q⟩
end
end E3
namespace EE
open PySem PySem.Spec PyProof.Rows L2
theorem pv:∀{ns:List Int} {us:List Value},Vals (ns.map V.int) us->∃ps:List (Int×Tok),us=ps.map (λp=>.int p.1 p.2)/\ps.map (·.1)=ns
 |[],_,.nil=>⟨[],rfl,rfl⟩
 |n::ns,_,.cons r t=>by
  obtain⟨tk,rfl⟩:=r;obtain⟨ps,rfl,e⟩:=pv t;exact⟨(n,tk)::ps,rfl,by rw[bo,e]⟩
theorem DN:∀{bs:List Bool} {us:List Value},Vals (bs.map V.bl) us->us=bs.map Value.bool
 |[],_,.nil=>rfl
 |b::bs,_,.cons r t=>by
  cases r;rw[DN t];rfl
section
variable{X:Cx}
theorem Qr(hc:X.calm=true):fI X (.builtin "max") (λxs H Q=>∃(a:Addr) (ns:List Int),xs=[.ref a]/\a6 X.K H a (ns.map V.int)/\ns≠[]/\∀M,M∈ns->(∀b∈ns,b<=M)->Q (.int M) H):=by
 intro pins s σ H xs us Q I r h;obtain⟨a,ns,rfl,hq,hne,q⟩:=h;obtain⟨u,rfl,r1⟩:=vals1 r;cases r1;obtain⟨its,rv,p,hz⟩:=I.list hq;obtain⟨ps,rfl,rfl⟩:=pv rv;have hl:0<ps.length:=by
  cases ps with
  |nil=>exact absurd rfl hne
  |cons _ _=>simp
 have num:∀(j:Nat) (hj:j<ps.length),numAt ps.toArray j=(ps[j]).1:=λj hj=>by simp[numAt,hj]
 refine max_intList (xs:=ps.toArray) (I.ok.hd hc) (by have:=p.isList;simpa[intItems]using this) (by simpa using hl) λv h' tk hv k=>?_;obtain⟨t,rfl⟩:=intItems_at hv;have best:=argBest_gt (numAt ps.toArray) (ps.toArray.size-1);have hsz:ps.toArray.size=ps.length:=by simp
 have hlt:argBest (λi j=>decide (numAt ps.toArray i>numAt ps.toArray j)) (ps.toArray.size-1)<ps.length:=by lia
 refine⟨.int (numAt ps.toArray (argBest (λi j=>decide (numAt ps.toArray i>numAt ps.toArray j)) (ps.toArray.size-1))),H,I.kept k,⟨t,rfl⟩,q _ ?_ λb hb=>?_⟩
 ·rw[num _ hlt];exact bp.mpr ⟨_,mq hlt,rfl⟩
 ·obtain⟨p,hp,rfl⟩:=bp.mp hb;obtain⟨j,hj,rfl⟩:=iw hp;have:=best.2 j (by lia);rw[num j hj]at this;exact this
theorem Qt(hc:X.calm=true):fI X (.builtin "max") (λxs H Q=>∃i j k,xs=[.int i,.int j,.int k]/\Q (.int (max (max i j) k)) H):=by
 intro pins s σ H xs us Q I r h;obtain⟨i,j,k,rfl,q⟩:=h;cases r with
 |cons r1 rr =>
  obtain⟨u,w',rfl,⟨t',rfl⟩,⟨t'',rfl⟩⟩:=vals2 rr;obtain⟨t,rfl⟩:=r1;refine max_three_ints (I.ok.hd hc) λh' tk kk=>⟨_,H,I.kept kk,?_,q⟩;by_cases h1:j>i
  ·rw[if_pos h1];by_cases h2:k>j
   ·rw[if_pos h2,show max (max i j) k=k by lia];exact⟨_,rfl⟩
   ·rw[if_neg h2,show max (max i j) k=j by lia];exact⟨_,rfl⟩
  ·rw[if_neg h1];by_cases h2:k>i
   ·rw[if_pos h2,show max (max i j) k=k by lia];exact⟨_,rfl⟩
   ·rw[if_neg h2,show max (max i j) k=i by lia];exact⟨_,rfl⟩
theorem range_any(bs:List Bool):((aW bs.length).any λi=>bs.getD i true)=bs.any id:=by
 rw[e_,mr,mr];constructor
 ·rintro⟨j,hj,h⟩;have hj':=gV.mp hj;rw[bJ,aV hj']at h;exact⟨_,mq hj',h⟩
 ·rintro⟨b,hb,h⟩;obtain⟨j,hj,rfl⟩:=iw hb;refine⟨j,gV.mpr hj,?_⟩;rw[bJ,aV hj];exact h
theorem Qu{prog:Program}{w:World}{A:Around}{bs:List Bool}:TruthOf prog w A (λi v=>(bs.map Value.bool).toArray[i]?=some v) (λi=>bs.getD i true):=by
 intro i v s Q E hP hQ;rw[List.getElem?_toArray,aJ]at hP;obtain⟨b,hb,rfl⟩:=bU.mp hP;dsimp only at hQ;rw[bJ,hb]at hQ;exact jP hQ
theorem DO(hc:X.calm=true):fI X (.builtin "any") (λxs H Q=>∃(a:Addr) (bs:List Bool),xs=[.ref a]/\a6 X.K H a (bs.map V.bl)/\Q (.bl (bs.any id)) H):=by
 intro pins s σ H xs us Q I r h;obtain⟨a,bs,rfl,hq,q⟩:=h;obtain⟨u,rfl,r1⟩:=vals1 r;cases r1;obtain⟨its,rv,p,hz⟩:=I.list hq;obtain rfl:=DN rv;have pl:=p.isList;have hlt:a<s.heap.objs.size:=by
  obtain⟨_,e,_⟩:=pl;exact bh e
 refine call_any_walk (IK pl ⟨_,_,_,_,_,_,_,rfl,Walks.list (A:=X.A.in1) (I.ok.hd hc) s.heap.objs.size a (c_ hlt) (bs.map Value.bool).toArray,⟨⟨_,dn _ rfl,rfl,rfl⟩,pl.push _⟩,Qu,λh' tk hk=>?_⟩);have hz:(bs.map Value.bool).toArray.size=bs.length:=by simp
 rw[hz,range_any];refine⟨.bl _,H,I.kept λb o e=>hk b o (λhm=>?_) (bC _ e),rfl,q⟩;have e1:b=s.heap.objs.size:=by simpa using hm
 exact absurd (bh e) (by rw[e1];exact jb _)
end
end EE
namespace E3
open PySem PySem.Spec PyProof.Rows L2 EE
section
variable{K:PySem.W.Frag}
theorem Qv{H:Hp}{ns:List Int}{vs:List V}(h:aN K H (ns.map D.int) vs):vs=ns.map V.int:=by
 induction ns generalizing vs with
 |nil=>cases h;rfl
 |cons n ns ih =>
  rw[bo]at h;cases h with
  |cons h t=>cases h;rw[ih t];rfl
theorem Qw{H:Hp}{bs:List Bool}{vs:List V}(h:aN K H (bs.map D.bl) vs):vs=bs.map V.bl:=by
 induction bs generalizing vs with
 |nil=>cases h;rfl
 |cons n ns ih =>
  rw[bo]at h;cases h with
  |cons h t=>cases h;rw[ih t];rfl
def DP:List D->af->K3->Prop:=λxs S Q=>∃(x:D) (ns:List Int),xs=[x]/\IsL S x (ns.map D.int)/\ns≠[]/\∀M,M∈ns->(∀b∈ns,b<=M)->Q (.int M) S
theorem Qx:f9 K DP (λxs H Q=>∃(a:Addr) (ns:List Int),xs=[.ref a]/\a6 K H a (ns.map V.int)/\ns≠[]/\∀M,M∈ns->(∀b∈ns,b<=M)->Q (.int M) H):=by
 intro Z ds S Q3 vs H Q r l h c;obtain⟨x,ns,rfl,hx,hne,q⟩:=h;cases r with
 |cons r rr =>
  cases rr;obtain⟨a,ws,rfl,h1,h2⟩:=hx.down r l;rw[Qv h2]at h1;exact⟨a,ns,rfl,h1,hne,λM h3 h4=>c _ S _ H (Kp.refl _ _) (.int _) l (q M h3 h4)⟩
def DQ:List D->af->K3->Prop:=λxs S Q=>∃i j,xs=[.int i,.int j]/\Q (.int (if j>i then j else i)) S
theorem Qy:f9 K DQ (λxs H Q=>∃i j,xs=[.int i,.int j]/\Q (.int (if j>i then j else i)) H):=by
 intro Z ds S Q3 vs H Q r l h c;obtain⟨i,j,rfl,q⟩:=h;cases r with
 |cons r rr =>
  cases rr with
  |cons r' rr =>
   cases rr;cases r;cases r';exact⟨i,j,rfl,c _ S _ H (Kp.refl _ _) (.int _) l q⟩
def DS:List D->af->K3->Prop:=λxs S Q=>∃i j k,xs=[.int i,.int j,.int k]/\Q (.int (max (max i j) k)) S
theorem Qz:f9 K DS (λxs H Q=>∃i j k,xs=[.int i,.int j,.int k]/\Q (.int (max (max i j) k)) H):=by
 intro Z ds S Q3 vs H Q r l h c;obtain⟨i,j,k,rfl,q⟩:=h;cases r with
 |cons r rr =>
  cases rr with
  |cons r' rr =>
   cases rr with
   |cons r'' rr =>
    cases rr;cases r;cases r';cases r'';exact⟨i,j,k,rfl,c _ S _ H (Kp.refl _ _) (.int _) l q⟩
def DT(f:List Bool->Bool):List D->af->K3->Prop:=λxs S Q=>∃(x:D) (bs:List Bool),xs=[x]/\IsL S x (bs.map D.bl)/\Q (.bl (f bs)) S
theorem DU{f:List Bool->Bool}:f9 K (DT f) (λxs H Q=>∃(a:Addr) (bs:List Bool),xs=[.ref a]/\a6 K H a (bs.map V.bl)/\Q (.bl (f bs)) H):=by
 intro Z ds S Q3 vs H Q r l h c;obtain⟨x,bs,rfl,hx,q⟩:=h;cases r with
 |cons r rr =>
  cases rr;obtain⟨a,ws,rfl,h1,h2⟩:=hx.down r l;rw[Qw h2]at h1;exact⟨a,bs,rfl,h1,c _ S _ H (Kp.refl _ _) (.bl _) l q⟩
def wI(r r':R3)(ta tb tc:aK):aK:=λσ S Q=>ta σ S λx S1=>tb σ S1 λy S2=>r x y S2 λz S3=>∃k,z=.bl k/\(if k=true then tc σ S3 λu S4=>r' y u S4 Q else Q (.bl false) S3)
theorem QB{Z:Zt}{r r':R2}{r3 r3':R3}{ta tb tc:aK}{τ:L2.St}{H:Hp}{Q:VK}(hd:cC K r3 r)(hd':cC K r3' r')(h:lE K Z (wI r3 r3' ta tb tc) τ H Q):A4 r r' (lE K Z ta) (lE K Z tb) (lE K Z tc) τ H Q:=by
 obtain⟨σ,S,Q3,hs,hr,ht,hc⟩:=h;refine⟨σ,S,_,hs,hr,ht,λx S1 v H1 k1 r1 l1 q1=>⟨σ,S1,_,hs.mono k1,l1,q1,λy S2 w H2 k2 r2 l2 q2=>?_⟩⟩;refine hd Z x y S2 _ v w H2 _ (r1.mono k2) r2 l2 q2 λz S3 u H3 k3 r3 l3 q3=>?_;obtain⟨k,rfl,q3⟩:=q3;cases r3;refine⟨k,rfl,?_⟩;cases k with
 |false =>
  rw[if_neg cF]at q3 ⊢;exact hc (.bl false) S3 _ H3 (k1.trans (k2.trans k3)) (.bl false) l3 q3
 |true =>
  rw[if_pos rfl]at q3 ⊢;exact⟨σ,S3,_,hs.mono (k1.trans (k2.trans k3)),l3,q3,λu S4 u' H4 k4 r4 l4 q4=>hd' Z y u S4 _ w u' H4 _ (r2.mono (k3.trans k4)) r4 l4 q4 (hc.mono (k1.trans (k2.trans (k3.trans k4))))⟩
end
section
variable{X:Cx}{W3:bE}{a b c:Expr}{ta tb tc:aK}{pos:Pos}{op op':CmpOp}{r r':R2}{r3 r3':R3}
theorem QC(ho:bT X (compareOp op) r)(hd:cC X.K r3 r)(ho':bT X (compareOp op') r')(hd':cC X.K r3' r')(ha:aH X W3 a ta)(hb:aH X W3 b tb)(hc:aH X W3 c tc)(hm:lastMarks [op,op'] [b,c]=false:=by with_unfolding_all rfl) :
 dU X W3 (.Compare a [op,op'] [b,c] pos) (gI (wI r3 r3' ta tb tc)):=λZ=>PT.imp (LX ho ho' (ha Z) (hb Z) (hc Z) hm) λ_ _ _ h=>pJ (λ_ _ _ h=>QB hd hd' h) h
end
section
variable{σ:aF}{S:af}{Q:K3}{ta tb tc:aK}{r r':R3}
theorem QD(h:ta σ S λx S1=>tb σ S1 λy S2=>r x y S2 λz S3=>∃k,z=.bl k/\(if k=true then tc σ S3 λu S4=>r' y u S4 Q else Q (.bl false) S3)):wI r r' ta tb tc σ S Q:=h
theorem QE{a:Addr}{ns:List Int}(hS:S a=some (.lst (ns.map D.int)))(hn:ns≠[])(q:∀M,M∈ns->(∀b∈ns,b<=M)->Q (.int M) S):DP [.ref a] S Q:=⟨_,ns,rfl,.inl ⟨a,rfl,hS⟩,hn,q⟩
theorem QF{i j:Int}(q:Q (.int (if j>i then j else i)) S):DQ [.int i,.int j] S Q:=⟨i,j,rfl,q⟩
theorem QG{i j k:Int}(q:Q (.int (max (max i j) k)) S):DS [.int i,.int j,.int k] S Q:=⟨i,j,k,rfl,q⟩
theorem DV{f:List Bool->Bool}{a:Addr}{bs:List Bool}(hS:S a=some (.lst (bs.map D.bl)))(q:Q (.bl (f bs)) S):DT f [.ref a] S Q:=⟨_,bs,rfl,.inl ⟨a,rfl,hS⟩,q⟩
end
def DW(c:cw)(t u:bV):bV:=pP c t u
theorem ki{X:Cx}{W3:bE}{c:Expr}{a b:List Stmt}{tc:cw}{t u:bV}{pos:Pos}(hc:dU X W3 c tc)(ha:cQ X W3 a t)(hb:cQ X W3 b u):dW X W3 (.If c a b pos) (DW tc t u):=bG hc ha hb
theorem kj{tc:cw}{t u:bV}{n:aF->af->Prop}{rt:K3}{bk ct:aF->af->Prop}{σ:aF}{S:af}(Mid:aF->af->Prop)(h1:∀n':aF->af->Prop,(∀σ S,Mid σ S->n' σ S)->pP tc t u ⟨n',rt,bk,ct⟩ σ S)
 (h2:∀σ S,Mid σ S->n σ S):DW tc t u ⟨n,rt,bk,ct⟩ σ S:=h1 n h2
def jn(a b:Int):Int:=if a=0∨b=0 then 0 else if b>a then b else a
abbrev b9:=List (List Int)
def at2(B:b9)(j k:Nat):Int:=(B.getD j []).getD k 0
def dM(f:Nat->Int)(n:Nat):Int:=(aW n).foldl (λacc j=>max acc (f j)) 0
def dot(row:List Int)(B:b9)(k:Nat):Int:=dM (λj=>jn (row.getD j 0) (at2 B j k)) row.length
def gP(A B:b9):b9:=A.map λrow=>(aW (B.headD []).length).map λk=>dot row B k
structure Mt(m n:Nat)(A:b9):Prop where
 len:A.length=m
 row:∀r∈A,r.length=n
 num:∀r∈A,∀x∈r,0<=x/\x<=2
theorem wJ{f:Nat->Int}{t:Int}:∀(l:List Nat) (z:Int),t<=l.foldl (λacc j=>max acc (f j)) z↔t<=z∨∃j∈l,t<=f j
 |[],z=>by simp
 |j::l,z=>by
  rw[zX,wJ l];constructor
  ·rintro(h|⟨i,hi,h⟩)
   ·rcases Int.le_total z (f j) with c|c
    ·rw[Int.max_eq_right c]at h;exact .inr ⟨j,bY,h⟩
    ·rw[Int.max_eq_left c]at h;exact .inl h
   ·exact .inr ⟨i,cg _ hi,h⟩
  ·rintro(h|⟨i,hi,h⟩)
   ·exact .inl (by lia)
   ·rcases a9.mp hi with rfl|hi
    ·exact .inl (by lia)
    ·exact .inr ⟨i,hi,h⟩
theorem DX{f:Nat->Int}{n:Nat}{t:Int}(ht:1<=t):t<=dM f n↔∃j,j<n/\t<=f j:=by
 unfold dM;rw[wJ];constructor
 ·rintro(h|⟨j,hj,h⟩)
  ·lia
  ·exact⟨j,gV.mp hj,h⟩
 ·rintro⟨j,hj,h⟩;exact .inr ⟨j,gV.mpr hj,h⟩
theorem wK{f:Nat->Int}{n:Nat}:0<=dM f n:=by
 unfold dM;rw[wJ];exact .inl (uQ _)
theorem DY{f:Nat->Int}{n:Nat}{t:Int}(h0:0<=t)(h:∀j,j<n->f j<=t):dM f n<=t:=by
 rcases Int.lt_or_le t (dM f n) with c|c
 ·obtain⟨j,hj,q⟩:=(DX (show 1<=t+1 by lia)).mp (show t+1<=dM f n by lia);have:=h j hj;lia
 ·exact c
theorem QH{f:Nat->Int}{n:Nat}{M:Int}(h0:∀j,j<n->0<=f j)(hm:M∈(aW n).map f)(hb:∀b∈(aW n).map f,b<=M):M=dM f n:=by
 obtain⟨j,hj,rfl⟩:=bp.mp hm;have hj:=gV.mp hj;have a:dM f n<=f j:=DY (h0 j hj) λi hi=>hb _ (bp.mpr ⟨i,gV.mpr hi,rfl⟩);have b:f j<=dM f n:=by
  rcases Int.lt_or_le (f j) 1 with c|c
  ·exact Int.le_trans (show f j<=0 by lia) wK
  ·exact(DX c).mpr ⟨j,hj,uQ _⟩
 lia
theorem QI{f:Nat->Int}{n:Nat}:dM f (n+1)=max (dM f n) (f n):=by
 unfold dM;rw[qZ,List.foldl_append];rfl
theorem QJ{a b:Int}(ha:0<=a)(hb:0<=b):0<=jn a b:=by
 unfold jn
 split
 ·exact uQ _
 ·split<;>lia
theorem QK{a b:Int}(ha:a<=2)(hb:b<=2):jn a b<=2:=by
 unfold jn
 split
 ·decide
 ·split<;>lia
theorem getD_mem{l:List Int}{j:Nat}(h:j<l.length):l.getD j 0∈l:=by
 rw[bJ,aV h];exact mq h
theorem m_{l:b9}{j:Nat}(h:j<l.length):l.getD j []∈l:=by
 rw[bJ,aV h];exact mq h
theorem tD{row:List Int}(h:∀x∈row,0<=x/\x<=2)(j:Nat):0<=row.getD j 0/\row.getD j 0<=2:=by
 by_cases hj:j<row.length
 ·exact h _ (getD_mem hj)
 ·rw[bJ,cT (by lia)];exact⟨by decide,by decide⟩
theorem Mt.at{m n:Nat}{B:b9}(h:Mt m n B)(j k:Nat):0<=at2 B j k/\at2 B j k<=2:=by
 unfold at2;by_cases hj:j<B.length
 ·exact tD (h.num _ (m_ hj)) k
 ·rw[bJ (l:=B),cT (by lia)];simp
theorem QL{m n:Nat}{B:b9}{row:List Int}(h:Mt m n B)(hr:∀x∈row,0<=x/\x<=2)(k:Nat):0<=dot row B k/\dot row B k<=2 :=
 ⟨wK,DY (by decide) λj _=>QK (tD hr j).2 (h.at j k).2⟩
theorem Mt.head{m n:Nat}{B:b9}(h:Mt m n B)(hm:0<m):(B.headD []).length=n:=by
 cases B with
 |nil =>
  have:=h.len;simp at this;lia
 |cons r _=>exact h.row r bY
theorem Mt.cmp{m n p:Nat}{A B:b9}(hA:Mt m n A)(hB:Mt n p B)(hn:0<n):Mt m p (gP A B):=by
 refine⟨by rw[gP,aA];exact hA.len,λr hr=>?_,λr hr x hx=>?_⟩
 ·obtain⟨row,_,rfl⟩:=bp.mp hr;rw[aA,qT,hB.head hn]
 ·obtain⟨row,hrow,rfl⟩:=bp.mp hr;obtain⟨k,_,rfl⟩:=bp.mp hx;exact QL hB (hA.num row hrow) k
def bg(r:List Int):D:=.tup (r.map D.int)
def dN(A:b9):D:=.tup (A.map bg)
def cz(f t:Str)(A:b9):D:=.tup [.str f,.str t,dN A]
theorem QM{x a b:Int}:memD (.int x) [.int a,.int b]=decide (a=x∨b=x):=by
 rw[e_];simp[memD,inV,vD,hW]
theorem QN(r:List Int):D.gb (r.map D.int)=true:=D.lh.mpr λd hd=>by
 obtain⟨x,_,rfl⟩:=bp.mp hd;rfl
theorem QP(r:List Int):dv (D.b8 (r.map D.int))<=1:=by
 rw[D.j'];refine p_ λd hd=>?_;obtain⟨e,he,rfl⟩:=bp.mp hd;obtain⟨x,_,rfl⟩:=bp.mp he;simp[D.dt,cK]
theorem QQ(f t:Str)(A:b9):(cz f t A).pure=true:=by
 have h:D.gb (A.map bg)=true:=D.lh.mpr λd hd=>by
  obtain⟨r,_,rfl⟩:=bp.mp hd;simp only[bg,D.pure];exact QN r
 simp only[cz,dN,D.pure,D.gb,h,l9]
theorem QR(f t:Str)(A:b9):cK (cz f t A).dt<=10:=by
 have h:dv (D.b8 (A.map bg))<=3:=by
  rw[D.j'];refine p_ λd hd=>?_;obtain⟨e,he,rfl⟩:=bp.mp hd;obtain⟨r,_,rfl⟩:=bp.mp he;have:=QP r;simp only[bg,D.dt,cK];lia
 simp only[cz,dN,D.dt,D.b8,cK,dv];lia
section
variable{S:af}{Q:K3}{f t:Str}{A:b9}{r:List Int}{R:RI}
theorem QS(q:Q (.str f) S):jw (cz f t A) (.int 0) S Q:=⟨_,0,_,rfl,rfl,rfl,q⟩
theorem QU(q:Q (.int (A.length:Int)) S):mQ [dN A] S Q:=⟨_,A.map bg,rfl,.inr rfl,by rw[aA];exact q⟩
theorem QV(q:Q (.int (r.length:Int)) S):mQ [bg r] S Q:=⟨_,r.map D.int,rfl,.inr rfl,by rw[aA];exact q⟩
theorem QW(q:R (A.map bg) (λ_=>True) S):wd R (dN A) S:=⟨_,rfl,q⟩
theorem qf{k:Nat}{i:Int}(e:i=(k:Int))(hk:k<A.length)(q:Q (bg (A.getD k [])) S):jw (dN A) (.int i) S Q:=by
 subst e;refine⟨A.map bg,_,_,rfl,rfl,iF ?_,q⟩;rw[aJ,bJ,aV hk];rfl
theorem qg{k:Nat}{i:Int}(e:i=(k:Int))(hk:k<r.length)(q:Q (.int (r.getD k 0)) S):jw (bg r) (.int i) S Q:=by
 subst e;refine⟨r.map D.int,_,_,rfl,rfl,iF ?_,q⟩;rw[aJ,bJ,aV hk];rfl
end
section
variable{P:Program}{w:World}{K:PySem.W.Frag}{mg:Str->Option Value}{base:Heap}{x:Str}{st:Stmt}{N ps:List Str}{k:Nat}
def nc(A:List D->af->(List D->Prop)->(Addr->Prop)->Prop):aS:=λds S Q W=>A ds S (λys=>c8 S ys Q) λC=>∀a,W C a S
theorem _root_.EE.aB.nc{A:List D->af->(List D->Prop)->(Addr->Prop)->Prop}(h:aB K mg x st ps)(S:bc N ps (ao st))(len:∀ds S q qx,A ds S q qx->ds.length=ps.length)
 (hbody:∀(f:Addr) (cdv:Value) (Ar:Around) (outer:List Env) (s:Shared) (H:Hp) (E:XK) (ds:List D) (S:af) (q:List D->Prop) (qx:Addr->Prop),cu k (Ar.deeper (envOfC x (ao st) s.heap.objs.size f cdv))->A ds S q qx ->
  ∃t,cQ (cP (bW P w) P w K mg base N x (ao st) f cdv Ar outer s H E) (λ_ C _ S'=>Sub S S'/\qx C) (a7 st) t /\
   t {nx:=λ_ _=>False,rt:=λd S'=>∃p ys,d=.ref p/\S p=none/\Sub S S'/\S' p=some (.lst ys)/\q ys} (dJ N ds) S):av P w K mg base (k+1) x ps (nc A):=by
 have C:av P w K mg base (k+1) x ps (λds S Q E=>∃q qx,A ds S q qx/\(∀d S',(∃p ys,d=.ref p/\S p=none/\Sub S S'/\S' p=some (.lst ys)/\q ys)->Q d S')/\∀C a S',Sub S S'/\qx C->E C a S'):=by
  refine h.sM S (λvs H Q E ck=>by obtain⟨q,qx,z,_⟩:=ck;exact len _ _ _ _ z) λf cdv Ar outer s H E ds S3 Q E3 hr ⟨q,qx,z,hq,hx⟩=>?_;obtain⟨t,h1,h2⟩:=hbody f cdv Ar outer s H E ds S3 _ _ hr z;refine⟨t,λd S'=>∃p ys,d=.ref p/\S3 p=none/\Sub S3 S'/\S' p=some (.lst ys)/\q ys,λC _ S'=>Sub S3 S'/\qx C,h1,?_,hq,hx⟩;have e:(λ(_:aF) (_:af)=>False)=λ(_:aF) (S':af)=>∃p ys,D.non=.ref p/\S3 p=none/\Sub S3 S'/\S' p=some (.lst ys)/\q ys:=by
   funext _ S';refine propext ⟨fS,λz=>?_⟩;obtain⟨p,ys,z,_⟩:=z;cases z
  rw[<-e];exact h2
 refine C.wo.imp λds S Q E z=>⟨_,_,z,λd S1 ⟨p,ys,e,hp,hs,hp1,hq⟩=>⟨up S p (.lst ys),?_,?_⟩,λC a S1 hx=>⟨S,hx.1,hx.2 a⟩⟩
 ·intro a o ha;by_cases c:a=p
  ·subst c;rw[az]at ha;cases ha;exact hp1
  ·rw[bj c]at ha;exact hs a o ha
 ·subst e;exact hq p hp
end
open Classical in
theorem tE{α:Type}[DecidableEq α]:∀{ks ns:List α},ks.Nodup->(∀x∈ks,x∈ns)->ks.length<=ns.length
 |[],_,_,_=>dQ _
 |k::ks,ns,h,hs=>by
  have hk:=hs k bY;have h1:=JC hk;have h2:0<ns.length:=JD hk;have h3:=tE (ks:=ks) (ns:=ns.erase k) (ik.mp h).2 λx hx=>by
   have hne:x≠k:=λe=>(ik.mp h).1 (e▸hx);exact(JE hne).mpr (hs x (cg _ hx))
  simp only[cf];lia
end E3
namespace EE
open PySem PySem.Spec PyProof.Rows L2
section
variable{X:Cx}
def DZ(K:ak)(n:Nat):R2:=λx y H Q=>∃ds es,DR K H (.tup ds) x/\DR K H (.tup es) y/\cK (.tup ds)<=n/\Q (.bl (!aR (.tup ds) (.tup es))) H
theorem D4{n:Nat}(hu:X.A.units+n<cLine):bT X (compareOp .NotEq) (DZ X.K n):=by
 intro pins s σ H x y v u Q I rx ry h;obtain⟨ds,es,hd,he,hn,q⟩:=h;have hu':X.A.units<cLine:=by lia
 cases hd with
 |@tup a xs _ p q1 =>
  cases rx;obtain⟨its,rv,ht,_⟩:=I.tuple p;cases he with
  |@tup b ys _ p' q2 =>
   cases ry;obtain⟨its2,gG,dD,_⟩:=I.tuple p';have hdd:dv ds<=n-1/\1<=n:=by
    simp only[cK]at hn;lia
   have each:∀j (h1:j<its.toArray.size) (h2:j<its2.toArray.size),ux X.A.in1 s its.toArray[j] its2.toArray[j] (gF ds es j):=λj h1 h2=>by
    obtain⟨x,hx,rx⟩:=sh rv h1;obtain⟨y,hy,ry⟩:=sh gG h2;obtain⟨dx,jV,oN⟩:=q1.at hx;obtain⟨dy,oO,oP⟩:=q2.at hy;have AD:=vG jV;have:=(vH I (n-1) X.A.in1 dx dy x y _ _ (by lia) (by rw[units_in1];lia) oN oP rx ry).2;unfold gF;rw[jV,oO];exact this
   have e:((aW (min its.toArray.size its2.toArray.size)).all (gF ds es)&&its.toArray.size==its2.toArray.size)=aR (.tup ds) (.tup es):=by
    simp only[aR];rw[sg,q1.len,q2.len,rv.length,gG.length];simp
   have rc:=SeqAt.RcNeAt.tuples ht dD hu' each;rw[e]at rc;exact rc X.prog X.w X.xe _ ⟨.bl _,H,I,rfl,q⟩
end
end EE
namespace E3
open PySem PySem.Spec PyProof.Rows L2 EE
def tF(n:Nat):R3:=λx y S Q=>∃ds es,Dn S x (.tup ds)/\Dn S y (.tup es)/\cK (.tup ds)<=n/\Q (.bl (!aR (.tup ds) (.tup es))) S
theorem D5{K:ak}{n:Nat}:cC K (tF n) (DZ K n):=by
 intro Z x y S Q3 v w H Q rx ry l h c;obtain⟨d,e,h1,h2,hn,q⟩:=h;exact⟨d,e,h1.down l rx,h2.down l ry,hn,c _ S _ H (Kp.refl _ _) (.bl _) l q⟩
theorem QX{S:af}{xs:List D}{n:Nat}{Q:K3}(hp:(D.tup xs).pure=true)(hd:cK (D.tup xs).dt<=n)(q:Q (.bl false) S):tF n (.tup xs) (.tup xs) S Q :=
 ⟨D.b8 xs,D.b8 xs,Dn.of hp,Dn.of hp,hd,by rw[j8];exact q⟩
end E3
namespace EE
open PySem PySem.Spec PyProof.Rows L2
def QY(σ:List Str)(v:Str):List Str:=if v∈σ then σ else σ++[v]
def met(vs:List Str):List Str:=vs.foldl QY []
end EE
namespace E3
open PySem PySem.Spec PyProof.Rows L2 EE
end E3
namespace EE
open PySem PySem.Spec PyProof.Rows L2
def D6(K:ak)(a:Addr)(n:Nat):It :=
 ⟨λi H=>i<n/\∃xs,a6 K H a xs/\xs.length=n,λi H x H'=>H'=H/\∀xs,a6 K H a xs->xs[n-1-i]?=some x,λi _=>n<=i⟩
theorem QZ{P:Program}{w:World}{K:ak}{tg:Expr}(a it:Addr)(n:Nat):Turn P w K tg (D6 K a n) [it] it (λi h=>i<=n/\h.IsRevIter it a ((n:Int)-1-(i:Int))) where
 mem:=by simp
 obj:=λi h st b hb=>by
  have e:b=it:=by simpa using hb
  subst e;obtain⟨_,o,e,c,d⟩:=st;exact⟨o,e,λv z=>by rw[d]at z;cases z⟩
 keep:=λi h h' st k=>let⟨hi,o,ho,r⟩:=st;⟨hi,o,k it (by simp) o ho,r⟩
 item:=by
  intro X hP hw hK hc i pins s σ H E I hf st hg;subst hP hw hK;obtain⟨hi,xs,hq,hn⟩:=hg;obtain⟨its,rv,p,hz⟩:=I.list hq;have hl:=rv.length;have hx:xs[n-1-i]?=some xs[n-1-i]:=aV (by lia);obtain⟨u,hu,ru⟩:=rv.get hx;obtain⟨f0,f1,f2,f3,f4,f5⟩:=hf it (by simp);have e1:(n:Int)-1-(i:Int)=((n-1-i:Nat):Int):=by lia
  have st2:=st.2;rw[e1]at st2;refine wpAny_pyNext_rev_item st2 p.isList (x:=u) (by simpa using hu) λh' st' sb=>?_;have I1:Inv X pins σ H {s with heap:=h'}:=I.turned (t':=s.toks) (λb o hb e=>(sb.2 b hb).trans e) f0 f1 f3 f4 f5;obtain⟨o,e,c,d⟩:=id st';have e2:((n-1-i:Nat):Int)-1=(n:Int)-1-((i+1:Nat):Int):=by lia
  refine⟨u,rfl,rF (s:={s with heap:=h'}) e c d (by decide) ⟨xs[n-1-i],H,I1,ru,⟨rfl,λys hy=>by rw[I.rB hy hq];exact hx⟩,⟨hi,?_⟩,λb hb=>(hf b hb).1⟩⟩;rw[<-e2];exact st'
 done:=by
  intro X hP hw hK hc i pins s σ H E I hf st hg;subst hP hw hK;obtain⟨f0,f1,f2,f3,f4,f5⟩:=hf it (by simp);have hg':n<=i:=hg;have e1:(n:Int)-1-(i:Int)=-1:=by have:=st.1;lia
  have st2:=st.2;rw[e1]at st2;exact wpAny_pyNext_rev_end (I.ok.hd hc) st2 λh' eb=>⟨rfl,I.turned (t':=s.toks) (λb o hb e=>eb b o hb e) f0 f1 f3 f4 f5⟩
 self:=λ_ _ _ _ _ st h=>JF st.2 h
def Q0(K:ak)(te:TA):TI:=λσ H R=>te σ H λvs H1=>∃a xs,vs=[.ref a]/\a6 K H1 a xs/\R (D6 K a xs.length) H1
theorem Q1{X:Cx}{tg a:Expr}{ta:TA}{p pos:Pos}(hg:Gl X "reversed")(hm:X.mg "reversed"=none)(ha:PA X [a] ta)(hs:starEach [a] X.env=[(false,eval a X.env)]:=by rfl):PI X tg (.Call (.Name "reversed" p) [a] [] pos) (Q0 X.K ta):=by
 intro pins s σ H R I h;refine Call_ (iA I hg hm Np (kH (aE (ha pos pins s σ H _ I h) λus s1 ⟨vs,H1,I1,r1,q1⟩=>?_) hs rfl));obtain⟨b,xs,e,hq,q⟩:=q1;subst e;cases r1 with
 |cons r rr =>
  cases rr;cases r;obtain⟨its,rv,pt,hz⟩:=I1.list hq;have hl:=rv.length;refine call_reversed_list pt.isList ?_;have I2:Inv X pins σ H1 {s1 with heap:=s1.heap.push (revObj b ((its.toArray.size:Int)-1))}:=I1.kept (t':=s1.toks) λc o e=>bC _ e;have st:(s1.heap.push (revObj b ((its.toArray.size:Int)-1))).IsRevIter s1.heap.objs.size b ((its.toArray.size:Int)-1):=⟨_,dn _ rfl,rfl,rfl⟩;refine JF st ?_;have e1:(its.toArray.size:Int)-1=(xs.length:Int)-1-((0:Nat):Int):=by simp only[b7];lia
  refine⟨s1.heap.objs.size,[s1.heap.objs.size],_,_,H1,rfl,I2,QZ b _ xs.length,⟨dQ _,by rw[<-e1];exact st⟩,λc hc=>?_,q⟩;have e:c=s1.heap.objs.size:=by simpa using hc
  subst e;exact I1.j6 (aX _) (I1.hok.fresh (aX _))
end EE
namespace E3
open PySem PySem.Spec PyProof.Rows L2 EE
section
variable{X:Cx}{W3:bE}{tg:Expr}{pos:Pos}
def D7(ta:cy):dX:=λσ S R=>ta σ S λxs S1=>∃a ds,xs=[.ref a]/\S1 a=some (.lst ds)/\R ds.reverse (λS=>S a=some (.lst ds)) S1
theorem wL{a:Expr}{ta:cy}{p:Pos}(hg:Gl X "reversed")(hm:X.mg "reversed"=none)(ha:d9 X W3 [a] ta)(hs:starEach [a] X.env=[(false,eval a X.env)]:=by rfl):eV X W3 tg (.Call (.Name "reversed" p) [a] [] pos) (D7 ta) :=
 λZ=>PI.imp (Q1 hg hm (ha Z) hs) λτ H R ck=>by
 obtain⟨σ,S,R3,hs,hr,ht,hc⟩:=ck;refine⟨σ,S,_,hs,hr,ht,λxs S1 vW H1 k1 r1 l1 q1=>?_⟩;obtain⟨b,ds,rfl,e,q⟩:=q1;cases r1 with
 |cons r1 rr =>
  cases rr;cases r1;obtain⟨vs,h1,h2⟩:=l1.obj b _ e;have hl:=h2.len;refine⟨b,vs,rfl,a6.of h1,hc _ _ S1 _ H1 k1 l1 q ⟨λi d S2 H2 k2 l2 al hd=>?_,λS2 H2 k2 l2 al=>?_⟩⟩
  ·have hi:i<ds.length:=by
    have:=(bH.mp hd).1;simpa using this
   rw[Ag hi]at hd;obtain⟨ws,h3,h4⟩:=l2.obj b _ al;have Q2:=h4.len;obtain⟨v,hv,rv⟩:=h4.at hd;rw[hl]at hv;refine⟨⟨by lia,ws,a6.of h3,by lia⟩,λv' H' y=>?_⟩;obtain⟨rfl,y⟩:=y;have:=y ws (a6.of h3);rw[hv]at this;cases this;exact⟨Kp.refl _ _,rv,λ_ z=>z,λ_ _=>rfl⟩
  ·show vs.length<=ds.reverse.length;rw[uR,hl];exact aX _
end
end E3
namespace EE
open PySem PySem.Spec PyProof.Rows L2
theorem km:∀(names:List (Str×NameKind)) (n:Nat) (acc:List (Str×Addr)),cellsFrom n names acc=cellsFrom n names []++acc
 |[],_,_=>rfl
 |(y,k)::r,n,acc=>by
  unfold cellsFrom
  split
  ·rw[km r (n+1) ((y,n)::acc),km r (n+1) [(y,n)],Ah];rfl
  ·exact km r n acc
theorem wM:∀(names:List (Str×NameKind)) (n:Nat) (y:Str) (c:Addr),(y,c)∈cellsFrom n names []->(y,NameKind.cell)∈names
 |[],_,_,_,h=>by cases h
 |(x,k)::r,n,y,c,h=>by
  unfold cellsFrom at h
  split at h
  ·rename_i hk
   rw[km,bR]at h;rcases h with h|h
   ·exact cg _ (wM r _ y c h)
   ·have e:(y,c)=(x,n):=by simpa using h
    cases e;rw[show k=NameKind.cell by simpa using hk];exact bY
  ·exact cg _ (wM r n y c h)
theorem Q4{M:Model}{A:Around}{E:Value->Shared->Prop}{s:Shared}{scope:Scope}{globals:Addr}{cl:List (Str×Addr)}{qual:Str}{func:Option Addr}{code:Value}{env:Env}{Q:Env->Shared->Prop}(_hk:scope.kind=.function)
 (hQ:∀h',h'.Ns s.heap.objs.size (λ_=>none)->(∀b o,s.heap.get? b=some o->h'.get? b=some o)->CellsOk h' (s.heap.objs.size+1) (cellsFrom (s.heap.objs.size+1) scope.names []) ->
  Q {scope:=scope,locals:=s.heap.objs.size,globals:=globals,cells:=cellsFrom (s.heap.objs.size+1) scope.names cl,qual:=qual,func:=func,code:=env.code,frame:=env.frame,builtins:=env.builtins} {s with heap:=h'}) :
 wpAny M A (newFunctionEnv scope globals cl [] qual func code (some env)) Q E s:=by
 simp only[newFunctionEnv,zU,if_true];refine aj (wpAny_alloc ?_);refine aj (wpAny_layCells _ (λname kind cells=>by cases hkc:kind==NameKind.cell<;>simp[hkc]) _ _ _ _ ?_);have ok:=cellsFrom_ok scope.names (s.heap.push {cls:=.type "dict",data:=.dict #[]}) (s.heap.objs.size+1) [] ⟨λ_ _ hm=>(nomatch hm),List.Pairwise.nil⟩ (by rw[iu];exact aX _);rw[iu]at ok;rw[show({s with heap:=s.heap.push {cls:=.type "dict",data:=.dict #[]}}:Shared).heap.objs.size=s.heap.objs.size+1 from iu ..];refine aj (aG (aG ?_));exact hQ _ ((Heap.Ns.new s.heap (.type "dict")).keeps (pushCells_keeps _ _)) (λb o e=>pushCells_keeps _ _ b o (bC _ e)) ok
structure dO(bK:Scope)(O M:List Str)(scope:Scope):Prop where
 kind:scope.kind=.function
 cell:∀y∈scope.names,y.2=.cell->scope.names.lookup y.1=some .cell
 names:∀y∈scope.names,y.2=.local->scope.names.lookup y.1=some .local
 free:∀y∈scope.names,y.2=.free->bK.names.lookup y.1=some .cell
 nd:(O++M).Nodup
 mine:∀y∈M,scope.names.lookup y=some .free
def bu(X:Cx)(scope:Scope)(C:Addr)(N:List Str)(fp:List Addr)(pins:List (Addr×Obj))(s:Shared)(H:Hp):Cx :=
 {vK X scope C N fp pins s H with env:=compEnvC scope (cellsFrom (C+1) scope.names (gH scope X.env)) C X.env,fn:=λy=>scope.names.lookup y==some .cell}
section
variable{X:Cx}{pins:List (Addr×Obj)}{σ:L2.St}{H:Hp}{s:Shared}{scope:Scope}{O M:List Str}{js:List Nat}{C:Addr}{fp:List Addr}
theorem dO.cells(S:dO X.env.scope O M scope)(I:Inv X pins σ H s):∀y∈scope.names,y.2=.free->∃c,X.env.cells.lookup y.1=some c:=λy hy hk=>I.ok.has y.1 (.inl (S.free y hy hk))
theorem dO.sub(S:dO X.env.scope O M scope)(I:Inv X pins σ H s){y:Str}{c:Addr}(e:(gH scope X.env).lookup y=some c):X.env.cells.lookup y=some c :=
 BO scope.names [] (S.cells I) (λ_ _ h=>by simp at h) y c e
theorem dO.get(S:dO X.env.scope O M scope)(I:Inv X pins σ H s){s1:Shared}(ok:CellsOk s1.heap (C+1) (cellsFrom (C+1) scope.names [])){y:Str}{c:Addr}(e:(cellsFrom (C+1) scope.names (gH scope X.env)).lookup y=some c) :
 ((y,c)∈cellsFrom (C+1) scope.names []/\(s1.heap.IsCell c none/\C+1<=c))∨X.env.cells.lookup y=some c:=by
 rw[km,uS]at e;cases q:(cellsFrom (C+1) scope.names []).lookup y with
 |none=>rw[q]at e;exact .inr (S.sub I (by simpa using e))
 |some c' =>
  rw[q]at e;have e':c'=c:=by simpa using e
  subst e';exact .inl ⟨ip q,ok.empty y c' (ip q)⟩
theorem Q5{s1:Shared}{m:Str->Option Value}(S:dO X.env.scope O M scope)(hc:X.calm=true)(I:Inv X pins σ H s)(hjs:∀(k:Nat) (y:Str),M[k]?=some y->∃j:Nat,js[k]?=some j/\X.N[j]?=some y)(hlen:js.length=M.length)
 (hf:∀b∈fp,dq X pins H b) (hfl:∀b∈fp,b<s.heap.objs.size) (hC:s.heap.objs.size<=C) (hn:s1.heap.Ns C m) (hk:∀b o,s.heap.get? b=some o->s1.heap.get? b=some o)
 (ok:CellsOk s1.heap (C+1) (cellsFrom (C+1) scope.names [])) (hos:s1.os=s.os) (hg:AllBare s1.gens) :
 Inv (bu X scope C (O++M) fp pins s H) [] (eG O.length none++pick σ js) H s1:=by
 have Q6:∀b∈fp,b∉frs X.stack:=λb hb z=>by
  obtain⟨f0,f1,f2,_⟩:=hf b hb;rcases a9.mp (I.rk b z) with e|e
  ·exact f1 e
  ·exact f2 e
 have cellK:∀(c:Addr) (v:Option Value),s.heap.IsCell c v->s1.heap.IsCell c v:=λc v ck=>by obtain⟨o,e,d⟩:=ck;exact⟨o,hk c o e,d⟩
 have old:∀{y:Str} {c:Addr},X.env.cells.lookup y=some c->c<C+1:=λ{y c} e=>by
  obtain⟨v,o,q,_⟩:=I.cell y c e;exact Nat.lt_succ_of_lt (cZ (bh q) hC)
 have some_of:∀{y:Str},((∃c,(cellsFrom (C+1) scope.names []).lookup y=some c)∨∃c,(gH scope X.env).lookup y=some c)->∃c,(cellsFrom (C+1) scope.names (gH scope X.env)).lookup y=some c:=λ{y} h=>by
  rw[km,uS];cases q:(cellsFrom (C+1) scope.names []).lookup y with
  |some c=>exact⟨c,by simp⟩
  |none =>
   rcases h with⟨c,h⟩|⟨c,h⟩
   ·rw[q]at h;cases h
   ·exact⟨c,by simpa using h⟩
 refine⟨⟨I.ok.mod,S.kind,I.ok.glob,I.ok.blt,hC,λy z c h1 h2=>?_,λy hy=>?_,λy c h e=>?_,λ_=>I.ok.hd hc,I.ok.frames,.inl rfl,λb hb=>?_,I.bs,
  bX I.ok.gC I.sz,λb o e hb=>?_,Q6,I.stack,I.rm⟩,hos,hg,Un.kept hk,⟨m,hn,λi y v h1 h2 h3=>?_⟩,λy c e=>?_,I.hok.fresh hC,λy c e=>?_,λp hp=>?_,I.hok.kept hk,?_⟩
 ·rcases S.get I ok h1 with⟨m1,g1⟩|o1<;>rcases S.get I ok h2 with⟨m2,g2⟩|o2
  ·exact name_of_addr ok.apart m1 m2
  ·exact absurd g1.2 (Nat.not_le.mpr (old o2))
  ·exact absurd g2.2 (Nat.not_le.mpr (old o1))
  ·exact I.ok.inj y z c o1 o2
 ·have hy':(relabel scope X.env).names.lookup y=some .cell∨(relabel scope X.env).names.lookup y=some .free:=hy;have cl:(y,NameKind.cell)∈scope.names->∃c,(cellsFrom (C+1) scope.names []).lookup y=some c:=λmm =>
   zr.mp (uq _ _ _ (.inl (S.cell _ mm rfl)))
  have fr:(y,NameKind.cell)∈scope.names∨(y,NameKind.free)∈scope.names:=by
   rcases hy' with h|h
   ·obtain⟨k',mm,e|e⟩:=BP h
    ·rw[<-e]at mm;exact .inl mm
    ·rw[e.1]at mm;exact .inr mm
   ·obtain⟨k',mm,e|e⟩:=BP h
    ·rw[<-e]at mm;exact .inr mm
    ·exact absurd e.2 (by intro z;cases z)
  rcases fr with fr|fr
  ·exact some_of (.inl (cl fr))
  ·exact some_of (.inr (vJ scope.names [] y (.inl fr)))
 ·have h':scope.names.lookup y=some .cell:=by simpa[bu]using h
  obtain⟨c',q⟩:=zr.mp (uq scope.names (C+1) [] (.inl h'));have e':(cellsFrom (C+1) scope.names (gH scope X.env)).lookup y=some c:=e;rw[km,uS,q]at e';have e2:c'=c:=by simpa using e'
  subst e2;exact bX hC (md (ok.empty y c' (ip q)).2)
 ·obtain⟨f0,f1,f2,f3,f4,f5⟩:=hf b hb;refine⟨c_ (cZ (hfl b hb) hC),λy c e=>?_⟩;rcases S.get I ok e with⟨_,h⟩|h
  ·exact λz=>jb _ (cZ (cZ (hfl b hb) hC) (z▸md h.2))
  ·exact f4 y c h
 ·obtain⟨f0,f1,f2,f3,f4,f5⟩:=hf b hb;rcases f3 with f3|f3
  ·exact I.ok.jY b o e f3
  ·exact absurd (bh e) (Nat.not_lt.mpr (bX I.ok.gC f3))
 ·have wN:(O++M)[i]?=some y:=h1;by_cases hi:i<O.length
  ·rw[kJ (by simpa using hi),IU,if_pos hi]at h2;have h2':(none:Option V)=some v:=cS h2;cases h2'
  ·have hge:O.length<=i:=Jf hi;rw[qQ hge]at wN;rw[qQ (by simpa using hge),IV]at h2;obtain⟨j,ej,eN⟩:=hjs _ y wN;have Q7:σ[j]?=some (some v):=by
    unfold pick at h2;rw[aJ,ej]at h2;have z:(σ[j]?).getD none=some v:=by simpa using h2
    cases q:σ[j]? with
    |none=>rw[q]at z;cases z
    |some o=>rw[q]at z;rw[show o=some v from z]
   have hfree:=S.mine y (cj wN);have hcell:X.env.kindOf y=some .cell:=S.free (y,.free) (ip hfree) rfl;obtain⟨m0,_,hl0⟩:=I.loc;obtain⟨u,r,l⟩:=hl0 j y v eN Q7 (.inr (.inl hcell));refine⟨u,r,.inr ⟨.inl (Nn I.ok.kind hcell hfree),?_⟩⟩;obtain⟨c',e'⟩:=vJ (env:=X.env) scope.names [] y (.inl (ip hfree));have e2:=S.sub I (show(gH scope X.env).lookup y=some c' from e');have e3:(cellsFrom (C+1) scope.names (gH scope X.env)).lookup y=some c':=by
    rw[km,uS];cases q:(cellsFrom (C+1) scope.names []).lookup y with
    |none=>exact e'
    |some c2 =>
     have:=S.cell _ (wM _ _ _ _ (ip q)) rfl;rw[hfree]at this;cases this
   rcases l with⟨z,_⟩|⟨_,c,hcc,hic⟩
   ·rw[hcell]at z;cases z
   ·rw[hcc]at e2;have:c=c':=cS e2;subst this;exact⟨c,e3,cellK c _ hic⟩
 ·rcases S.get I ok e with⟨_,h⟩|h
  ·exact⟨none,h.1⟩
  ·obtain⟨v,h⟩:=I.cell y c h;exact⟨v,cellK c v h⟩
 ·rcases S.get I ok e with⟨_,h⟩|h
  ·exact I.hok.fresh (bX hC (md h.2))
  ·exact I.eP y c h
 ·have hp':p∈X.pn++pins:=by simpa[bu,vK]using hp
  obtain⟨e,n,ne,nf,d⟩:=I.pin p hp';refine⟨hk _ _ e,n,c_ (cZ (bh e) hC),λz=>?_,d⟩;rcases a9.mp (I.rk p.1 z) with q|q
  ·exact ne q
  ·exact nf q
 ·show(eG O.length none++pick σ js).length=(O++M).length;simp[pick,hlen]
theorem D8{N:List Str}{gD:List (Addr×Obj)}{σ':L2.St}{H':Hp}{s':Shared}{h':Heap}(I:Inv X pins σ H s)(hf:∀b∈fp,dq X pins H b)(J:Inv (bu X scope C N fp pins s H) gD σ' H' s')
 (hC:s.heap.objs.size<=C) (hs:fF C s'.heap h'):Inv X pins σ H' {s' with heap:=h'}:=by
 have u0:Un (frs X.stack) fp H H' s.heap s'.heap:=J.base;have nC:∀b o,s.heap.get? b=some o->b≠C:=λb o e z=>absurd (bh e) (by rw[z];exact Nat.not_lt.mpr hC);have u:Un (frs X.stack) fp H H' s.heap h':=⟨λb o e n hb hx=>(hs.2 b (nC b o e)).trans (u0.keep b o e n hb hx),λb o e n hb hx=>let⟨sl,q⟩:=u0.slot b o e n hb hx;⟨sl,(hs.2 b (nC b o e)).trans q⟩,u0.free,
  λb o e hx=>let⟨o',q⟩:=u0.there b o e hx;⟨o',(hs.2 b (nC b o e)).trans q⟩,u0.tups,u0.fH,u0.gB⟩
 have fC:H' C=none:=J.free;have hok:bS X.prog X.w H' h':=λb ob e=>(J.hok b ob e).stay (λc w hc q=>(hs.2 c (λz=>by
  subst z;rcases hc with z|z
  ·rw[<-z,fC]at e;cases e
  ·rw[fC]at z;cases z)).trans q) (λ_ q=>q) λ_ _ q=>q
 exact I.oU (s':={s' with heap:=h'}) (ch:=fp) J.os u hok J.bare λb hb=>by
  obtain⟨f0,f1,f2,f3,f4,f5⟩:=hf b hb;exact⟨f3,f1,f4,f5⟩
end
section
variable{X:Cx}{elt iter tg:Expr}{ifs:List Expr}{pos:Pos}{scope:Scope}{O M:List Str}{js:List Nat}{wi:TI}{g:TG}{tt:TT}{te:TE}
theorem D9{pins:List (Addr×Obj)}{σ:L2.St}{H2:Hp}{s2:Shared}{it D:Addr}{fp:List Addr}{tn:Nat->Heap->Prop}{J:It}{W:Nat->Nat->L2.St->Hp->Prop}{Qe:Hp->Prop}{R:Addr->Result->Shared->Prop}{E:Value->Shared->Prop}{m0:Nat}
 (S:dO X.env.scope O M scope) (hc:X.calm=true) (hjs:∀(k:Nat) (y:Str),M[k]?=some y->∃j:Nat,js[k]?=some j/\X.N[j]?=some y) (hlen:js.length=M.length)
 (hg:∀(C:Addr) (fp:List Addr) (pins:List (Addr×Obj)) (s:Shared) (H:Hp),PG (bu X scope C (O++M) fp pins s H) tg g)
 (ht:∀(C:Addr) (fp:List Addr) (pins:List (Addr×Obj)) (s:Shared) (H:Hp),m7 (bu X scope C (O++M) fp pins s H) ifs tt)
 (he:∀(C:Addr) (fp:List Addr) (pins:List (Addr×Obj)) (s:Shared) (H:Hp),PE (bu X scope C (O++M) fp pins s H) elt te)
 (I:Inv X pins σ H2 s2) (T:Turn X.prog X.w X.K tg J fp it tn) (st:tn 0 s2.heap) (hf:∀b∈fp,dq X pins H2 b) (w0:W 0 m0 (eG O.length none++pick σ js) H2)
 (turn:∀i m τ H3,W i m τ H3->(J.stop i H3/\Qe H3)∨(J.go i H3/\∃N:L2.St->Hp->Prop,(∀a8 H',N a8 H'->∃m',m'<m/\W (i+1) m' a8 H')/\∀v H',J.j5 i H3 v H' ->
  g v τ H' λa8 H4=>tt a8 H4 λb H5=>if b=true then te a8 H5 λy H6=>∃ys,H6 D=some (.lst ys)/\ys.length<sizeLine/\N a8 (upd H6 D (.lst (ys++[y]))) else N a8 H5))
 (fin:∀(C:Addr) (s':Shared) (H':Hp) (gD:List (Addr×Obj)) (σ':L2.St),s2.heap.objs.size<=C->Inv (bu X scope C (O++M) fp pins s2 H2) gD σ' H' s'->Qe H'->R C (.ok .next) s') :
 wpAny (model X.prog X.w) X.A (newFunctionEnv scope X.env.globals (gH scope X.env) [] X.env.qual none .none (some X.env)) (λcenv s4 =>
  codeAny (model X.prog X.w) X.A (.compStart (.ListComp elt [⟨tg,iter,ifs,0⟩] scope pos) 0 (.ref it) (.ref D) {cenv with scope:=relabel scope X.env}) (R cenv.locals) s4) E s2:=by
 refine Q4 S.kind λh1 hns old ok=>?_;have hfl:∀b∈fp,b<s2.heap.objs.size:=λb hb=>by
  obtain⟨o,e,_⟩:=T.obj 0 _ st b hb;exact bh e
 have I4:Inv (bu X scope s2.heap.objs.size (O++M) fp pins s2 H2) [] (eG O.length none++pick σ js) H2 {s2 with heap:=h1} :=
  Q5 S hc I hjs hlen hf hfl (aX _) hns old ok rfl I.bare
 have lu:tn 0 h1:=T.keep _ _ _ st λb hb o e=>old b o e;have kR:∀{H':Hp},(∀b∈fp,H' b=none)->∀b∈fp,dq (bu X scope s2.heap.objs.size (O++M) fp pins s2 H2) [] H' b:=λ{H'} hn b hb=>by
  obtain⟨f0,f1,f2,f3,f4,f5⟩:=hf b hb;refine⟨hn b hb,c_ (hfl b hb),I4.ok.jZ b hb,.inl hb,λy c e=>?_,λp hp=>f5 p ?_⟩
  ·rcases S.get (s1:={s2 with heap:=h1}) I ok e with⟨_,h⟩|h
   ·exact λz=>jb _ (cZ (hfl b hb) (z▸md h.2))
   ·exact f4 y c h
  ·simpa[bu,vK]using hp
 have loop:∀s3:Shared,s3={s2 with heap:=h1} ->
  codeAny (model X.prog X.w) X.A (.compLoop (.ListComp elt [⟨tg,iter,ifs,0⟩] scope pos) 0 (.ref it) (.ref D) (compEnvC scope (cellsFrom (s2.heap.objs.size+1) scope.names (gH scope X.env)) s2.heap.objs.size X.env)) (R s2.heap.objs.size) s3:=by
  rintro s3 rfl;refine P1 (λn s'=>∃(i:Nat) (τ:L2.St) (H':Hp),Inv (bu X scope s2.heap.objs.size (O++M) fp pins s2 H2) [] τ H' s'/\tn i s'.heap/\(∀b∈fp,H' b=none)/\W i n τ H') ?_ m0
   ⟨0,_,H2,I4,lu,λb hb=>(hf b hb).1,w0⟩
  rintro n s5 ⟨i,τ,H5,I5,my,rJ,w5⟩;rcases turn i n τ H5 w5 with⟨stop,qe⟩|⟨go,N,hN,step⟩
  ·refine aE (T.done (bu X scope s2.heap.objs.size (O++M) fp pins s2 H2) rfl rfl rfl rfl i [] s5 _ H5 (λ_ _=>False) I5 (kR rJ) my stop) λr s6 ⟨hr,I6⟩=>?_;subst hr;exact fin _ s6 H5 [] _ (aX _) I6 qe
  ·refine aE (T.item (bu X scope s2.heap.objs.size (O++M) fp pins s2 H2) rfl rfl rfl rfl i [] s5 _ H5 (λ_ _=>False) I5 (kR rJ) my go) λr s6 ⟨u,hr,h6⟩=>?_;subst hr;refine aE h6 λ_ s7 ⟨v,H7,I7,r7,y7,wO,Q8⟩=>?_;have Q9:=I7.pinned (kR Q8) (T.obj _ _ wO);have back:∀{σ9:L2.St} {H9:Hp} {s9:Shared},Inv (bu X scope s2.heap.objs.size (O++M) fp pins s2 H2) ([]++oY fp s7.heap) σ9 H9 s9->N σ9 H9 ->
    ∃m,m<n/\∃(i:Nat) (τ:L2.St) (H':Hp),Inv (bu X scope s2.heap.objs.size (O++M) fp pins s2 H2) [] τ H' s9/\tn i s9.heap/\(∀b∈fp,H' b=none)/\W i m τ H':=by
    intro σ9 H9 s9 I9 n9;obtain⟨m',hm,Q_⟩:=hN σ9 H9 n9;refine⟨m',hm,i+1,σ9,H9,I9.rH,T.keep _ _ _ wO λb hb o e=>(I9.pin (b,o) (dG _ (dG _ (rG hb e)))).1,λb hb=>?_,Q_⟩;obtain⟨o,e,d⟩:=T.obj _ _ wO b hb;exact(I9.pin (b,o) (dG _ (dG _ (rG hb e)))).2.1
   refine aE (hg s2.heap.objs.size fp pins s2 H2 _ s7 _ H7 v u _ Q9 r7 (step v H7 y7)) λ_ s8 ⟨Ra,H8,I8,q8⟩=>?_;refine aE (ht s2.heap.objs.size fp pins s2 H2 _ s8 _ H8 _ I8 q8) λok s9 ⟨H9,I9,q9⟩=>?_;cases ok with
   |false=>exact back I9 q9
   |true =>
    refine aE (he s2.heap.objs.size fp pins s2 H2 _ s9 _ H9 _ I9 q9) λyv Rb ⟨y,Rc,Rg,r10,ys,hD,hz,Rh⟩=>?_;refine aE (f6 (X:=bu X scope s2.heap.objs.size (O++M) fp pins s2 H2) _ Rb _ Rc (.ref D) [y] (.ref D) [yv] (λ_ H'=>N Ra H') Rg rfl (.cons r10 .nil) ⟨D,ys,y,rfl,rfl,hD,hz,Rh⟩) λ_ s11 ⟨_,H11,Ri,_,Rj⟩=>?_;exact back Ri Rj
 exact codeAny_compStart_list (loop _ rfl) (eE (T.self X.A 0 _ _ _ lu (loop _ rfl)) (λ_ _ z=>z) λ_ _ z=>z)
theorem D_(S:dO X.env.scope O M scope)(hc:X.calm=true)(hjs:∀(k:Nat) (y:Str),M[k]?=some y->∃j:Nat,js[k]?=some j/\X.N[j]?=some y)(hlen:js.length=M.length)(hi:PI X tg iter wi)
 (hg:∀(C:Addr) (fp:List Addr) (pins:List (Addr×Obj)) (s:Shared) (H:Hp),PG (bu X scope C (O++M) fp pins s H) tg g)
 (ht:∀(C:Addr) (fp:List Addr) (pins:List (Addr×Obj)) (s:Shared) (H:Hp),m7 (bu X scope C (O++M) fp pins s H) ifs tt)
 (he:∀(C:Addr) (fp:List Addr) (pins:List (Addr×Obj)) (s:Shared) (H:Hp),PE (bu X scope C (O++M) fp pins s H) elt te) (hs:∀v,foldedSetIterable iter X.env v=pure v:=by intro _;rfl) :
 PE X (.ListComp elt [⟨tg,iter,ifs,0⟩] scope pos) (sY wi g tt te O.length js):=by
 intro pins s σ H Q I h;rw[eval_ListComp];refine JG (use:=none) rfl hs (BN (S.cells I)) S.kind S.names (aE (hi pins s σ H _ I h) λxv s1 h1=>aE h1 λitv s2 h2=>?_);obtain⟨it,fp,tn,J,H1,rfl,I2,T,st2,f2,q⟩:=h2;refine kK ?_ (by show 0<=sizeLine;decide);have hD:H1 s2.heap.objs.size=none:=I2.hok.fresh (aX _);obtain⟨W,⟨m0,w0⟩,turn⟩:=q _ hD;have I3:Inv X pins σ (upd H1 s2.heap.objs.size (.lst [])) {s2 with heap:=s2.heap.push {cls:=.type "list",data:=.seq ([]:List Value).toArray}}:=I2.rY (t':=s2.toks) .nil (dQ _);have hU:∀b∈fp,dq X pins (upd H1 s2.heap.objs.size (.lst [])) b:=λb hb=>by
  obtain⟨f0,f⟩:=f2 b hb;obtain⟨o,e,_⟩:=T.obj 0 _ st2 b hb;exact⟨by rw[a_ (c_ (bh e))];exact f0,f⟩
 refine D9 (Qe:=λH'=>Q (.ref s2.heap.objs.size) H') (R:=λC=>compPost (model X.prog X.w) X.A X.xe none (EP X pins σ Q) (.ref s2.heap.objs.size) C) S hc hjs hlen hg ht he I3 T (T.keep _ _ _ st2 λb hb o e=>bC _ e) hU w0 turn ?_;intro C s' H' gD σ' hC Jv qe;obtain⟨m,hn,_⟩:=Jv.loc;exact⟨m,hn,λh' hs'=>⟨.ref _,H',D8 I3 hU Jv hC hs',rfl,qe⟩⟩
end
end EE
namespace E3
open PySem PySem.Spec PyProof.Rows L2 EE
section
variable{X:Cx}{W3:bE}{elt iter tg:Expr}{ifs:List Expr}{x x':Str}{px tG pos tp:Pos}{kt:Nat}{scope bK:Scope}{O M N:List Str}{js:List Nat}{wi:dX}{g:dw}{Sh:D->aF->Prop}{tt:cw}{te:aK}
theorem Rk{scope:Scope}{env:Env}{y:Str}(h:scope.names.lookup y=some .cell):(relabel scope env).names.lookup y=some .cell:=by
 have go:∀(l:List (Str×NameKind)),l.lookup y=some .cell->(l.map λ(n,k)=>if(k == .free&&env.scope.kind == .function&&env.kindOf n==some .cell) then(n,NameKind.cell) else(n,k)).lookup y=some .cell:=by
  intro l
  induction l with
  |nil=>intro h;simp at h
  |cons a r ih =>
   obtain⟨n,k0⟩:=a;intro h;rw[bo];by_cases hy:y=n
   ·subst hy;simp only[gW,beq_self_eq_true,jR]at h;subst h;simp
   ·have hb:(y==n)=false:=by simpa using hy
    simp only[gW,hb]at h;by_cases hcc:(k0==NameKind.free&&env.scope.kind == .function&&env.kindOf n==some .cell)=true
    ·simp only[hcc,if_true,gW,hb];exact ih h
    ·dsimp only;rw[if_neg hcc];simp only[gW,hb];exact ih h
 exact go scope.names h
theorem Rm(S:dO bK [x] M scope)(hx:scope.names.lookup x=some .cell)(hjs:M.map some=js.map λj=>N[j]?)(hc:X.calm=true)(hi:eV X W3 (.Name x px) iter wi)
 (ht:∀(C:Addr) (fp:List Addr) (pins:List (Addr×Obj)) (s:Shared) (H:Hp),iS (bu X scope C ([x]++M) fp pins s H) ifs tt)
 (he:∀(C:Addr) (fp:List Addr) (pins:List (Addr×Obj)) (s:Shared) (H:Hp),aH (bu X scope C ([x]++M) fp pins s H) cU elt te)
 (gj:X.env.scope=bK:=by rfl) (hN:X.N=N:=by rfl) (hs:∀v,foldedSetIterable iter X.env v=pure v:=by intro _;rfl) :
 aH X W3 (.ListComp elt [⟨.Name x px,iter,ifs,0⟩] scope pos) (iU wi iT tt te js):=λZ=>by
 subst gj hN;have hg:∀(C:Addr) (fp:List Addr) (pins:List (Addr×Obj)) (s:Shared) (H:Hp),fN (bu X scope C ([x]++M) fp pins s H) cU (.Name x px) (iL 0):=λC fp pins s H =>
  b6 (i:=0) S.nd rfl (.inr (Rk hx)) (.inl (by show(scope.names.lookup x==some .cell)=true;rw[hx];rfl))
 exact PE.imp (D_ S hc (mF hjs).1 (mF hjs).2 (hi Z) (λC fp pins s H=>(hg C fp pins s H).ex) (λC fp pins s H=>(ht C fp pins s H).ex) (λC fp pins s H=>(he C fp pins s H).ex) hs) λ_ _ _ h=>tw tu h
def D'(scope bK:Scope):Scope:={scope with names:=scope.names.map λ(n,k)=>if(k == .free&&bK.kind == .function&&bK.names.lookup n==some .cell) then(n,.cell) else(n,k)}
end
section
variable{σ:aF}{Q:K3}{js:List Nat}{te:aK}{Sh:D->aF->Prop}
theorem qh{ds:List D}{Al:af->Prop}{S1:af}(f:Nat->D)(hz:ds.length<=10000)(hA:∀S,Sub S1 S->Al S)
 (h:∀i d S,ds[i]?=some d->Sub S1 S->∃ρ,Sh d ρ/\∀P:K3,(∀S',Sub S S'->P (f i) S')->te (ρ++cV σ js) S P) (q:∀S,Sub S1 S->c8 S ((aW ds.length).map f) Q) :
 ∃W:Nat->List D->af->Prop,W 0 [] S1/\(∀i ys S,W i ys S->Al S/\ys.length<sizeLine) /\
 (∀i d ys S,ds[i]?=some d->W i ys S->∃ρ,Sh d ρ/\kh (ρ++cV σ js) S λb S2=>if b=true then te (ρ++cV σ js) S2 λy S3=>W (i+1) (ys++[y]) S3 else W (i+1) ys S2)/\∀ys S,W ds.length ys S->c8 S ys Q:=by
 refine⟨λi ys S=>i<=ds.length/\ys=(aW i).map f/\Sub S1 S,⟨dQ _,rfl,Sub.refl _⟩,?_,?_,?_⟩
 ·rintro i ys S ⟨hi,rfl,hs⟩;refine⟨hA S hs,?_⟩;rw[aA,qT];exact zT (bX hi hz) (by decide)
 ·rintro i d ys S hd ⟨hi,rfl,hs⟩;obtain⟨ρ,qc,h⟩:=h i d S hd hs;refine⟨ρ,qc,wH ?_⟩;rw[if_pos rfl];refine h _ λS' hs'=>⟨(bH.mp hd).1,?_,hs.trans hs'⟩;rw[qZ,cI];rfl
 ·rintro ys S ⟨_,rfl,hs⟩;exact q S hs
end
end E3
namespace EE
open PySem PySem.Spec PyProof.Rows L2
section
variable{X:Cx}
def Ea(K:ak):R2:=λx y H Q=>∃a b xs ys,x=.ref a/\y=.ref b/\bq K H a xs/\bq K H b ys/\xs.length+ys.length<=sizeLine /\
 (xs=[]->Q (.ref b) H)/\(xs≠[]->(ys=[]->Q (.ref a) H)/\(ys≠[]->∀p,H p=none->Q (.ref p) (upd H p (.tup (xs++ys)))))
theorem Eb:bT X (binaryOp .Add) (Ea X.K):=by
 intro pins s σ H x y v u Q I rx ry h;obtain⟨a,b,xs,ys,rfl,rfl,ha,hb,hz,q0,q1⟩:=h;by_cases hx:xs=[]
 ·cases rx;cases ry;obtain⟨its,r1,p1,_⟩:=I.tuple ha;obtain⟨its2,r2,p2,_⟩:=I.tuple hb;have hi:its=[]:=r1.rS.mpr hx;obtain⟨⟨cls,dd,data,sl⟩,ho,hc,n,hd⟩:=id p1;obtain⟨⟨cls2,dd2,data2,sl2⟩,ho2,hc2,n2,hd2⟩:=id p2;simp only at hc hd hc2 hd2;subst hc hd hc2 hd2;exact zw ⟨_,ho,rfl⟩ ⟨_,ho2,rfl⟩ zy zA zB zC (zD _ _)
   (tuple_addW0 a b its.toArray its2.toArray n n2 dd dd2 sl sl2 (by simp[hi])) ⟨ho,ho2,⟨.ref b,H,I,rfl,q0 hx⟩⟩
 ·exact vv pins s σ H (.ref a) (.ref b) v u Q I rx ry ⟨a,b,xs,ys,rfl,rfl,ha,hb,hx,hz,(q1 hx).1,(q1 hx).2⟩
theorem Ec:fI X (.type "int") (λxs H Q=>∃b:Bool,xs=[.bl b]/\Q (.int (if b then 1 else 0)) H):=by
 intro pins s σ H xs us Q I r h;obtain⟨b,rfl,q⟩:=h;obtain⟨u,rfl,r1⟩:=vals1 r;obtain rfl:u=Value.bool b:=r1;exact call_int_bool ⟨.int (if b then 1 else 0),H,I.tok _,⟨_,rfl⟩,q⟩
end
end EE
namespace E3
open PySem PySem.Spec PyProof.Rows L2 EE
section
variable{K:PySem.W.Frag}{S:af}{Q:K3}
def Ed:R3:=λx y S Q=>∃ds es,x=.tup ds/\y=.tup es/\ds.length+es.length<=sizeLine/\Q (.tup (ds++es)) S
theorem Ee:cC K Ed (Ea K):=by
 intro Z x y S Q3 v w H Q rx ry l h c;obtain⟨ds,es,rfl,rfl,hz,q⟩:=h;cases rx with
 |@tup a vs _ h1 h2 =>
  cases ry with
  |@tup b ws _ h3 h4 =>
   refine⟨a,b,vs,ws,rfl,rfl,h1,h3,by rw[<-h2.len,<-h4.len];exact hz,λe=>?_,λ_=>⟨λe=>?_,λ_=>tup.down q (h2.append h4) l c⟩⟩
   ·subst e;cases h2;rw[JH]at q;exact c _ S _ H (Kp.refl _ _) (.tup h3 h4) l q
   ·subst e;cases h4;rw[l_]at q;exact c _ S _ H (Kp.refl _ _) (.tup h1 h2) l q
theorem wQ{ds es:List D}(hz:ds.length+es.length<=sizeLine)(q:Q (.tup (ds++es)) S):Ed (.tup ds) (.tup es) S Q:=⟨ds,es,rfl,rfl,hz,q⟩
def Ef:List D->af->K3->Prop:=λxs S Q=>∃b:Bool,xs=[.bl b]/\Q (.int (if b then 1 else 0)) S
theorem Eg:f9 K Ef (λxs H Q=>∃b:Bool,xs=[.bl b]/\Q (.int (if b then 1 else 0)) H):=by
 intro Z ds S Q3 vs H Q r l h c;obtain⟨b,rfl,q⟩:=h;cases r with
 |cons r rr =>
  cases rr;cases r;exact⟨b,rfl,c _ S _ H (Kp.refl _ _) (.int _) l q⟩
theorem Ro{b:Bool}(q:Q (.int (if b then 1 else 0)) S):Ef [.bl b] S Q:=⟨b,rfl,q⟩
theorem Rq{a:Addr}{xs:List Str}{z:Str}(hS:S a=some (.lst (xs.map D.str)))(q:Q (.bl (decide (z∈xs))) S):sv false (.str z) (.ref a) S Q :=
 ⟨_,.inl (.inl ⟨a,rfl,hS⟩),rfl,Cv xs,by rw[Cu,if_neg cF];exact q⟩
theorem Rr{xs:List Str}{z:Str}(q:Q (.bl (!decide (z∈xs))) S):sv true (.str z) (.tup (xs.map D.str)) S Q :=
 ⟨_,.inr rfl,rfl,Cv xs,by rw[Cu,if_pos rfl];exact q⟩
theorem Eh{xs:List D}:cutD xs none (some (-1))=xs.dropLast:=by
 unfold cutD HT.aI;simp only[oC,oD];rw[if_pos (by decide),List.dropLast_eq_take];congr 1;lia
end
section
variable{σ:aF}{S:af}{R:RI}{al:cy}
def Ei(R:RI)(xs:List D)(S:af):Prop:=∃a ds,xs=[.ref a]/\S a=some (.lst ds)/\R ds.reverse (λS=>S a=some (.lst ds)) S
theorem Rt(h:al σ S λxs S1=>Ei R xs S1):D7 al σ S R:=h
theorem Ej{a:Addr}{ds:List D}(hS:S a=some (.lst ds))(q:R ds.reverse (λS=>S a=some (.lst ds)) S):Ei R [.ref a] S:=⟨a,ds,rfl,hS,q⟩
end
def Sy.base:Sy->Option Str
 | .name x=>some x
 | .left a=>a.base
 | .right a=>a.base
 |_=>none
def qi:Option Str->D
 |some x=>.str x
 |none=>.non
def Sy.bases(a:Sy):List Str:=a.base.toList
def Sy.pp(ext:Sy->List Str):Sy->List Str->List (Sy×List Str)
 | .fork a b c,k=>[(a,k),(b,k++ext a),(c,k)]
 |s,k=>s.parts.map λa=>(a,k)
mutual
def Sy.bB(ext:Sy->List Str):Sy->List Str->List (Sy×List Str)
 | .name x,k=>[(.name x,k)]
 | .bI,k=>[(.bI,k)]
 | .pair a b,k=>(.pair a b,k)::(a.bB ext k++b.bB ext k)
 | .left a,k=>(.left a,k)::a.bB ext k
 | .right a,k=>(.right a,k)::a.bB ext k
 | .fork a b c,k=>(.fork a b c,k)::(a.bB ext k++(b.bB ext (k++ext a)++c.bB ext k))
 | .send x as,k=>(.send x as,k)::Sy.ko ext as k
def Sy.ko(ext:Sy->List Str):List Sy->List Str->List (Sy×List Str)
 |[],_=>[]
 |a::as,k=>a.bB ext k++Sy.ko ext as k
end
def cW(ext:Sy->List Str)(ps:List (Sy×List Str)):List (Sy×List Str):=(ps.map λp=>p.1.bB ext p.2).flatten
theorem Ek(ext:Sy->List Str)(k:List Str):∀as:List Sy,Sy.ko ext as k=cW ext (as.map λa=>(a,k))
 |[]=>rfl
 |a::as=>by rw[Sy.ko,Ek ext k as];rfl
theorem ng(ext:Sy->List Str)(s:Sy)(k:List Str):s.bB ext k=(s,k)::cW ext (s.pp ext k):=by
 cases s<;>simp[Sy.bB,Sy.pp,Sy.parts,cW]
 rw[Ek];simp[cW,JI]
theorem tH(ext:Sy->List Str)(as bs:List (Sy×List Str)):cW ext (as++bs)=cW ext as++cW ext bs:=by simp[cW]
theorem wR(ext:Sy->List Str)(a:Sy×List Str)(bs:List (Sy×List Str)):cW ext (a::bs)=a.1.bB ext a.2++cW ext bs:=by simp[cW]
theorem wU(ext:Sy->List Str):∀as:List (Sy×List Str),as.length<=(cW ext as).length
 |[]=>by simp
 |a::as=>by
  have:=wU ext as;rw[wR,ng];simp;lia
theorem El(ext:Sy->List Str)(s:Sy)(k:List Str):(s.pp ext k).map (·.1)=s.parts:=by cases s<;>simp[Sy.pp,Sy.parts,JI]
mutual
theorem Sy.gk(ext:Sy->List Str):∀(s:Sy) (k:List Str),(s.bB ext k).map (·.1)=s.pre
 | .name _,_=>rfl
 | .bI,_=>rfl
 | .pair a b,k=>by simp[Sy.bB,Sy.pre,Sy.gk ext a,Sy.gk ext b]
 | .left a,k=>by simp[Sy.bB,Sy.pre,Sy.gk ext a]
 | .right a,k=>by simp[Sy.bB,Sy.pre,Sy.gk ext a]
 | .fork a b c,k=>by simp[Sy.bB,Sy.pre,Sy.gk ext a,Sy.gk ext b,Sy.gk ext c]
 | .send x as,k=>by simp[Sy.bB,Sy.pre,Sy.Em ext as]
theorem Sy.Em(ext:Sy->List Str):∀(as:List Sy) (k:List Str),(Sy.ko ext as k).map (·.1)=Sy.bz as
 |[],_=>rfl
 |a::as,k=>by simp[Sy.ko,Sy.bz,Sy.gk ext a,Sy.Em ext as]
end
mutual
theorem Sy.jz{e1 e2:Sy->List Str}{R:List Str->List Str->Prop}{A:Sy->Prop}(hA:∀a b c,A (.fork a b c)->A a)(step:∀a k1 k2,A a->R k1 k2->R (k1++e1 a) (k2++e2 a)) :
 ∀(s:Sy) (k1 k2:List Str),(∀a∈s.pre,A a)->R k1 k2->Paired (λp q=>p.1=q.1/\R p.2 q.2) (s.bB e1 k1) (s.bB e2 k2)
 | .name _,k1,k2,_,r=>.cons ⟨rfl,r⟩ .nil
 | .bI,k1,k2,_,r=>.cons ⟨rfl,r⟩ .nil
 | .pair a b,k1,k2,h,r=>.cons ⟨rfl,r⟩ (iI (Sy.jz hA step a k1 k2 (λx hx=>h x (by simp[Sy.pre,hx])) r) (Sy.jz hA step b k1 k2 (λx hx=>h x (by simp[Sy.pre,hx])) r))
 | .left a,k1,k2,h,r=>.cons ⟨rfl,r⟩ (Sy.jz hA step a k1 k2 (λx hx=>h x (by simp[Sy.pre,hx])) r)
 | .right a,k1,k2,h,r=>.cons ⟨rfl,r⟩ (Sy.jz hA step a k1 k2 (λx hx=>h x (by simp[Sy.pre,hx])) r)
 | .fork a b c,k1,k2,h,r=>.cons ⟨rfl,r⟩ (iI (Sy.jz hA step a k1 k2 (λx hx=>h x (by simp[Sy.pre,hx])) r)
  (iI (Sy.jz hA step b _ _ (λx hx=>h x (by simp[Sy.pre,hx])) (step a k1 k2 (hA a b c (h _ (by simp[Sy.pre]))) r)) (Sy.jz hA step c k1 k2 (λx hx=>h x (by simp[Sy.pre,hx])) r)))
 | .send x as,k1,k2,h,r=>.cons ⟨rfl,r⟩ (Sy.En hA step as k1 k2 (λx hx=>h x (by simp[Sy.pre,hx])) r)
theorem Sy.En{e1 e2:Sy->List Str}{R:List Str->List Str->Prop}{A:Sy->Prop}(hA:∀a b c,A (.fork a b c)->A a)(step:∀a k1 k2,A a->R k1 k2->R (k1++e1 a) (k2++e2 a)) :
 ∀(as:List Sy) (k1 k2:List Str),(∀a∈Sy.bz as,A a)->R k1 k2->Paired (λp q=>p.1=q.1/\R p.2 q.2) (Sy.ko e1 as k1) (Sy.ko e2 as k2)
 |[],_,_,_,_=>.nil
 |a::as,k1,k2,h,r=>iI (Sy.jz hA step a k1 k2 (λx hx=>h x (by simp[Sy.bz,hx])) r) (Sy.En hA step as k1 k2 (λx hx=>h x (by simp[Sy.bz,hx])) r)
end
def bM(p:Sy×List Str):D:=.tup [p.1.d,.tup (p.2.map D.str)]
def aY(p:Str)(a:Sy)(k:List Str):Int :=
 match a with
 | .bI=>if p∈k then 2 else 1
 | .name x=>if x=p then 1 else 0
 |a=>if a.base=some p then(if p∈k then 2 else 1) else 0
def b_(told:Str->Sy->List Str->Int)(e:Er)(q:Sy×List Str):List (Str×Str×b9) :=
 match q.1 with
 | .send x as=>[(e.name,x,e.ps.map λp=>as.map λa=>told p a q.2)]
 |_=>[]
def aq(g:Str×Str×b9):D:=cz g.1 g.2.1 g.2.2
def cX(told:Str->Sy->List Str->Int)(ext:Sy->List Str)(prog:List Er):List (Str×Str×b9):=(prog.map λe=>((e.body.bB ext []).map (b_ told e)).flatten).flatten
section
variable{K:PySem.W.Frag}{S:af}{Q:K3}
def Eo:R3:=λx y S Q=>∃(o:Option Str) (p:Str),x=qi o/\y=.str p/\Q (.bl (!decide (o=some p))) S
theorem Ru:cC K Eo rM:=by
 intro Z x y S Q3 v w H Q rx ry l h c;obtain⟨o,p,rfl,rfl,q⟩:=h;cases ry;cases o with
 |none =>
  cases rx;refine⟨rfl,?_⟩;have e:decide (V.non=V.str p)=decide ((none:Option Str)=some p):=by simp
  rw[e];exact c _ S _ H (Kp.refl _ _) (.bl _) l q
 |some x =>
  cases rx;refine⟨rfl,?_⟩;have e:decide (V.str x=V.str p)=decide (some x=some p):=by rw[e_];simp
  rw[e];exact c _ S _ H (Kp.refl _ _) (.bl _) l q
theorem Rv{o:Option Str}{p:Str}(q:Q (.bl (!decide (o=some p))) S):Eo (qi o) (.str p) S Q:=⟨o,p,rfl,rfl,q⟩
end
end E3
namespace E3
open PySem PySem.Spec PyProof.Rows L2 EE
def Sy.txt:Sy->Str
 | .name x=>x
 | .left a=>(a.txt++" ")++"left"
 | .right a=>(a.txt++" ")++"right"
 |_=>""
def Sy.cA:Sy->List Str
 | .name x=>[x]
 | .left a=>a.cA++[(a.txt++" ")++"left"]
 | .right a=>a.cA++[(a.txt++" ")++"right"]
 |_=>[]
def Sy.pfx(s:Sy):List Str:=if s.base.isSome then s.cA else[]
def wrap:List Bool->Sy->Sy
 |[],r=>r
 |true::l,r=>.left (wrap l r)
 |false::l,r=>.right (wrap l r)
def kq(b:Bool):Str:=if b then "left" else "right"
theorem wV:∀(bs:List Bool) (r:Sy),(wrap bs r).base=r.base
 |[],_=>rfl
 |true::l,r=>wV l r
 |false::l,r=>wV l r
theorem tI:∀(bs:List Bool) (b:Bool) (r:Sy),wrap (bs++[b]) r=wrap bs (wrap [b] r)
 |[],_,_=>rfl
 |true::l,b,r=>by simp only[jO,wrap,tI l b r]
 |false::l,b,r=>by simp only[jO,wrap,tI l b r]
theorem Ep(b:Bool)(l:List Bool)(r:Sy):(wrap (b::l) r).txt=((wrap l r).txt++" ")++kq b:=by cases b<;>rfl
theorem Es(b:Bool)(l:List Bool)(r:Sy):(wrap (b::l) r).cA=(wrap l r).cA++[((wrap l r).txt++" ")++kq b]:=by cases b<;>rfl
theorem wW:∀(bs:List Bool) (r:Sy),(wrap bs r).deep=bs.length+r.deep
 |[],_=>by simp[wrap]
 |true::l,r=>by simp only[wrap,Sy.deep,wW l r,cf];lia
 |false::l,r=>by simp only[wrap,Sy.deep,wW l r,cf];lia
theorem nh:∀{s:Sy} {x:Str},s.base=some x->∃l,s.cA=x::l
 | .name y,x,h=>by cases h;exact⟨[],rfl⟩
 | .left a,x,h=>let⟨l,e⟩:=nh (s:=a) h;⟨l++[(a.txt++" ")++"left"],by simp[Sy.cA,e]⟩
 | .right a,x,h=>let⟨l,e⟩:=nh (s:=a) h;⟨l++[(a.txt++" ")++"right"],by simp[Sy.cA,e]⟩
 | .bI,_,h=>by cases h
 | .pair _ _,_,h=>by cases h
 | .fork _ _ _,_,h=>by cases h
 | .send _ _,_,h=>by cases h
def bN(p:Str)(a:Sy)(k:List Str):Int :=
 match a with
 | .bI=>1+(if p∈k then 1 else 0)
 |a=>if a.base=some p then 1+(if ∃t∈a.pfx.dropLast,t∈k then 1 else 0) else 0
theorem eq_nil{S:af}{a b:Addr}{ds:List D}{n:Nat}{Q:K3}(ha:S a=some (.lst ds))(hb:S b=some (.lst []))(hp:∀d∈ds,d.pure=true)(hd:∀d∈ds,cK d.dt+1<=n)(h1:1<=n)(q:Q (.bl ds.isEmpty) S):su n (.ref a) (.ref b) S Q:=by
 refine⟨.lst (D.b8 ds),.lst [],.ref ha (dm.of (D.lh.mpr hp)),.ref hb .nil,?_,?_⟩
 ·simp only[cK];have:dv (D.b8 ds)<=n-1:=by
   rw[D.j'];refine p_ λd hd'=>?_;obtain⟨x,hx,rfl⟩:=bp.mp hd';have:=hd x hx;lia
  lia
 ·have e:aR (.lst (D.b8 ds)) (.lst [])=ds.isEmpty:=by cases ds<;>simp[aR,fK,D.b8]
  rw[e];exact q
theorem Et(a b:Str):(a++b).cps.toList=a.cps.toList++b.cps.toList:=by
 show(uA a b).cps.toList=_;simp[uA]
theorem Eu{a b:Str}(h:a.cps.toList=b.cps.toList):a=b:=by
 cases a;cases b;congr 1;exact Array.toList_inj.mp h
def stem(t:Str):List Nat:=t.cps.toList.takeWhile (λc=>c != 32)
theorem wX{p:Nat->Bool}:∀(a b:List Nat),(∀c∈a,p c=true)->(a++b).takeWhile p=a++b.takeWhile p
 |[],_,_=>rfl
 |c::a,b,h=>by
  rw[jO,Ai,if_pos (h c bY),wX a b λd hd=>h d (cg _ hd)];rfl
theorem dZ.stem{x:Str}(h:dZ x):stem x=x.cps.toList:=by
 obtain⟨cs,rfl,_,_,h⟩:=h;unfold E3.stem;rw[iQ];have:=wX cs [] (p:=λc=>c != 32) λc hc=>by
  have:=h c hc;simp;lia
 simpa using this
theorem Ew:∀(a b:List Nat),(∃c∈a,c=32)->(a++b).takeWhile (λc=>c != 32)=a.takeWhile (λc=>c != 32)
 |[],_,⟨c,h,_⟩=>by simp at h
 |d::a,b,⟨c,h,e⟩=>by
  rw[jO,Ai,Ai];by_cases hd:d=32
  ·subst hd;rfl
  ·have hb:(d != 32)=true:=by simpa using hd
   rw[if_pos hb,if_pos hb];rcases a9.mp h with z|z
   ·exact absurd (z▸e) hd
   ·rw[Ew a b ⟨c,z,e⟩]
theorem tJ{t u:Str}{x:Str}(hx:dZ x)(h:stem t=x.cps.toList)(h2:t=x∨∃c∈t.cps.toList,c=32):stem ((t++" ")++u)=x.cps.toList/\∃c∈((t++" ")++u).cps.toList,c=32:=by
 have eb:(" ":Str).cps.toList=[32]:=by cbv
 have e:((t++" ")++u).cps.toList=t.cps.toList++(32::u.cps.toList):=by
  rw[Et,Et,eb];simp
 refine⟨?_,32,by rw[e];simp,rfl⟩;unfold stem;rw[e];rcases h2 with rfl|h2
 ·obtain⟨cs,rfl,_,_,hc⟩:=hx;rw[iQ,wX _ _ λc hh=>by have:=hc c hh;simp;lia];simp
 ·rw[Ew _ _ h2];exact h
theorem tK{x:Str}(hx:dZ x):∀{s:Sy},s.base=some x->stem s.txt=x.cps.toList/\(s.txt=x∨∃c∈s.txt.cps.toList,c=32)
 | .name y,h=>by cases h;exact⟨hx.stem,.inl rfl⟩
 | .left a,h=>let⟨h1,h2⟩:=tK hx (s:=a) h;let⟨h3,h4⟩:=tJ (u:="left") hx h1 h2;⟨h3,.inr h4⟩
 | .right a,h=>let⟨h1,h2⟩:=tK hx (s:=a) h;let⟨h3,h4⟩:=tJ (u:="right") hx h1 h2;⟨h3,.inr h4⟩
 | .bI,h=>by cases h
 | .pair _ _,h=>by cases h
 | .fork _ _ _,h=>by cases h
 | .send _ _,h=>by cases h
theorem qj{x:Str}(hx:dZ x):∀{s:Sy},s.base=some x->∀t∈s.cA,stem t=x.cps.toList
 | .name y,h,t,ht=>by cases h;rw[cH.mp ht];exact hx.stem
 | .left a,h,t,ht=>by
  rcases bR.mp ht with ht|ht
  ·exact qj hx (s:=a) h t ht
  ·rw[cH.mp ht];have:=tK hx (s:=a) h;exact(tJ hx this.1 this.2).1
 | .right a,h,t,ht=>by
  rcases bR.mp ht with ht|ht
  ·exact qj hx (s:=a) h t ht
  ·rw[cH.mp ht];have:=tK hx (s:=a) h;exact(tJ hx this.1 this.2).1
 | .bI,h,_,_=>by cases h
 | .pair _ _,h,_,_=>by cases h
 | .fork _ _ _,h,_,_=>by cases h
 | .send _ _,h,_,_=>by cases h
def jA(k1 k2:List Str):Prop:=∀p,dZ p->(p∈k1↔p∈k2)/\∀t∈k2,stem t=p.cps.toList->p∈k2
theorem jA.nil:jA [] []:=λp _=>⟨Iff.rfl,λt ht=>by simp at ht⟩
theorem jA.step{a:Sy}{k1 k2:List Str}(ha:∀x,a.base=some x->dZ x)(r:jA k1 k2):jA (k1++a.bases) (k2++a.pfx):=by
 cases hb:a.base with
 |none =>
  have e1:a.bases=[]:=by unfold Sy.bases;rw[hb];rfl
  have e2:a.pfx=[]:=by unfold Sy.pfx;rw[hb];rfl
  rw[e1,e2,l_,l_];exact r
 |some x =>
  have hx:=ha x hb;have e1:a.bases=[x]:=by unfold Sy.bases;rw[hb];rfl
  have e2:a.pfx=a.cA:=by unfold Sy.pfx;rw[hb];rfl
  obtain⟨l,el⟩:=nh hb;have hmem:x∈a.cA:=by rw[el];exact bY
  intro p hp;obtain⟨r1,r2⟩:=r p hp;rw[e1,e2];refine⟨⟨λh=>?_,λh=>?_⟩,λt ht es=>?_⟩
  ·rcases bR.mp h with h|h
   ·exact fb _ (r1.mp h)
   ·rw[cH.mp h];exact dG _ hmem
  ·rcases bR.mp h with h|h
   ·exact fb _ (r1.mpr h)
   ·have h1:=qj hx hb p h;rw[hp.stem]at h1;rw[Eu h1];simp
  ·rcases bR.mp ht with ht|ht
   ·exact fb _ (r2 t ht es)
   ·have h1:=qj hx hb t ht;rw[es]at h1;rw[Eu h1];exact dG _ hmem
theorem Rw{p:Str}{a:Sy}{k1 k2:List Str}(hp:dZ p)(r:jA k1 k2):aY p a k1=bN p a k2:=by
 obtain⟨r1,r2⟩:=r p hp;have long:a.base=some p->2<=a.pfx.length->((∃t∈a.pfx.dropLast,t∈k2)↔p∈k1):=λhb hl=>by
  have e2:a.pfx=a.cA:=by unfold Sy.pfx;rw[hb];rfl
  obtain⟨l,el⟩:=nh hb;rw[e2]at hl ⊢;refine⟨λck=>by obtain⟨t,ht,hk⟩:=ck;exact r1.mpr (r2 t hk (qj hp hb t (List.dropLast_subset _ ht))),λh=>⟨p,?_,r1.mp h⟩⟩;rw[el]at hl ⊢;cases l with
  |nil=>simp at hl
  |cons y l=>simp
 have Ey:∀b:Sy,b.base=some p->1<=b.cA.length:=λb hb=>by
  obtain⟨l,el⟩:=nh hb;rw[el];simp
 cases a with
 |bI =>
  simp only[aY,bN];by_cases h:p∈k1
  ·rw[if_pos h,if_pos (r1.mp h)];rfl
  ·rw[if_neg h,if_neg (λz=>h (r1.mpr z))];rfl
 |name x =>
  simp only[aY,bN,Sy.base,Sy.pfx,Sy.cA,zU,if_true,List.dropLast_singleton];by_cases h:x=p
  ·rw[if_pos h,if_pos (by rw[h]),if_neg (by simp)];rfl
  ·rw[if_neg h,if_neg (by simpa using h)]
 |left b =>
  simp only[aY,bN];by_cases h:(Sy.left b).base=some p
  ·have:=long h (by
    have e2:(Sy.left b).pfx=(Sy.left b).cA:=by unfold Sy.pfx;rw[h];rfl
    have:=Ey b h;rw[e2];simp only[Sy.cA,ba,cf,eJ];lia)
   rw[if_pos h,if_pos h];by_cases h1:p∈k1
   ·rw[if_pos h1,if_pos (this.mpr h1)];rfl
   ·rw[if_neg h1,if_neg (λz=>h1 (this.mp z))];rfl
  ·rw[if_neg h,if_neg h]
 |right b =>
  simp only[aY,bN];by_cases h:(Sy.right b).base=some p
  ·have:=long h (by
    have e2:(Sy.right b).pfx=(Sy.right b).cA:=by unfold Sy.pfx;rw[h];rfl
    have:=Ey b h;rw[e2];simp only[Sy.cA,ba,cf,eJ];lia)
   rw[if_pos h,if_pos h];by_cases h1:p∈k1
   ·rw[if_pos h1,if_pos (this.mpr h1)];rfl
   ·rw[if_neg h1,if_neg (λz=>h1 (this.mp z))];rfl
  ·rw[if_neg h,if_neg h]
 |pair _ _=>simp[aY,bN,Sy.base]
 |fork _ _ _=>simp[aY,bN,Sy.base]
 |send _ _=>simp[aY,bN,Sy.base]
mutual
theorem Sy.gm{ar:Str->Option Nat}{ps:List Str}:∀{s:Sy},s.wf ar ps->∀a∈s.pre,a.wf ar ps
 | .name x,h,a,ha=>by simp only[Sy.pre,cH]at ha;subst ha;exact h
 | .bI,h,a,ha=>by simp only[Sy.pre,cH]at ha;subst ha;exact h
 | .pair x y,h,a,ha=>by
  simp only[Sy.pre,a9,bR]at ha;rcases ha with rfl|ha|ha
  ·exact h
  ·simp only[Sy.wf]at h;exact Sy.gm h.1 a ha
  ·simp only[Sy.wf]at h;exact Sy.gm h.2 a ha
 | .left x,h,a,ha=>by
  simp only[Sy.pre,a9]at ha;rcases ha with rfl|ha
  ·exact h
  ·simp only[Sy.wf]at h;exact Sy.gm h a ha
 | .right x,h,a,ha=>by
  simp only[Sy.pre,a9]at ha;rcases ha with rfl|ha
  ·exact h
  ·simp only[Sy.wf]at h;exact Sy.gm h a ha
 | .fork x y z,h,a,ha=>by
  simp only[Sy.pre,a9,bR]at ha;rcases ha with rfl|ha|ha|ha
  ·exact h
  ·simp only[Sy.wf]at h;exact Sy.gm h.1 a ha
  ·simp only[Sy.wf]at h;exact Sy.gm h.2.1 a ha
  ·simp only[Sy.wf]at h;exact Sy.gm h.2.2 a ha
 | .send x as,h,a,ha=>by
  simp only[Sy.pre,a9]at ha;rcases ha with rfl|ha
  ·exact h
  ·simp only[Sy.wf]at h;exact Sy.Ez h.2.2.2 a ha
theorem Sy.Ez{ar:Str->Option Nat}{ps:List Str}:∀{as:List Sy},Sy.lq ar ps as->∀a∈Sy.bz as,a.wf ar ps
 |[],_,a,ha=>by simp[Sy.bz]at ha
 |x::xs,h,a,ha=>by
  simp only[Sy.bz,bR]at ha;simp only[Sy.lq]at h;rcases ha with ha|ha
  ·exact Sy.gm h.1 a ha
  ·exact Sy.Ez h.2 a ha
end
theorem tL{ar:Str->Option Nat}{ps:List Str}:∀{s:Sy} {x:Str},s.wf ar ps->s.base=some x->x∈ps
 | .name y,x,h,hb=>by cases hb;exact h
 | .left a,x,h,hb=>tL (s:=a) (by simpa only[Sy.wf]using h) hb
 | .right a,x,h,hb=>tL (s:=a) (by simpa only[Sy.wf]using h) hb
 | .bI,_,_,hb=>by cases hb
 | .pair _ _,_,_,hb=>by cases hb
 | .fork _ _ _,_,_,hb=>by cases hb
 | .send _ _,_,_,hb=>by cases hb
theorem EA{ar:Str->Option Nat}{ps:List Str}{s:Sy}(h:s.wf ar ps):s.parts.length<=4:=by
 cases s<;>simp[Sy.parts]
 simp only[Sy.wf]at h;exact h.2.2.1
theorem Ry{e:Er}{s:Sy}{k1 k2:List Str}(hps:∀x∈e.ps,dZ x)(r:jA k1 k2):b_ aY e (s,k1)=b_ bN e (s,k2):=by
 cases s with
 |send x as =>
  simp only[b_];congr 3;refine Aj λp hp=>?_;exact Aj λa _=>Rw (hps p hp) r
 |_=>rfl
theorem EB{α β:Type}{F:α->α->Prop}{f g:α->List β}:∀{xs ys:List α},Paired F xs ys->(∀x y,F x y->f x=g y)->(xs.map f).flatten=(ys.map g).flatten
 |_,_,.nil,_=>rfl
 |_,_,.cons h r,hf=>by rw[bo,bo,mv,mv,hf _ _ h,EB r hf]
theorem Rz{ar:Str->Option Nat}:∀{prog:List Er},(∀e∈prog,(∀x∈e.ps,dZ x)/\e.body.wf ar e.ps)->cX aY Sy.bases prog=cX bN Sy.pfx prog:=by
 intro prog h;unfold cX;congr 1;refine Aj λe he=>?_;obtain⟨hps,hw⟩:=h e he;refine EB (Sy.jz (R:=jA) (A:=λa=>a.wf ar e.ps) (λa b c z=>by simp only[Sy.wf]at z;exact z.1) (λa k1 k2 ha r=>r.step λx hx=>hps x (tL ha hx)) e.body [] [] (λa ha=>Sy.gm hw a ha) jA.nil) ?_;rintro⟨s1,k1⟩ ⟨s2,k2⟩ ⟨e1,r⟩;dsimp only at e1 r;subst e1;exact Ry hps r
theorem RA{told:Str->Sy->List Str->Int}{e:Er}{q:Sy×List Str}:(b_ told e q).length<=1:=by
 obtain⟨s,k⟩:=q;cases s<;>simp[b_]
theorem EC{told:Str->Sy->List Str->Int}{e:Er}:∀l:List (Sy×List Str),((l.map (b_ told e)).flatten).length<=l.length
 |[]=>by simp
 |q::l=>by
  have h1:=RA (told:=told) (e:=e) (q:=q);have h2:=EC (told:=told) (e:=e) l;rw[bo,mv,ba,cf];lia
theorem RB(ext:Sy->List Str)(s:Sy)(k:List Str):(s.bB ext k).length=s.pre.length:=by
 rw[<-Sy.gk ext s k,aA]
theorem ED{told:Str->Sy->List Str->Int}{e:Er}:∀l:List (Sy×List Str),((l.map (b_ told e)).flatten).length=((l.map aP).filter λa=>match a with | .send _ _=>true|_=>false).length
 |[]=>rfl
 |(s,k)::l=>by
  have ih:=ED (told:=told) (e:=e) l;rw[bo,mv,ba,bo,ih];cases s<;>simp[b_,List.filter_cons]
  lia
theorem RC{told:Str->Sy->List Str->Int}{ext:Sy->List Str}{e:Er}:(((e.body.bB ext []).map (b_ told e)).flatten).length=e.body.sends:=by
 rw[ED,Sy.gk];rfl
theorem EF{told:Str->Sy->List Str->Int}{ext:Sy->List Str}{z:Nat}:∀{prog:List Er},(∀e∈prog,e.body.sends<=z)->(cX told ext prog).length<=prog.length*z
 |[],_=>by simp[cX]
 |e::prog,h=>by
  have h1:=RC (told:=told) (ext:=ext) (e:=e);have h0:=h e bY;have h2:=EF (told:=told) (ext:=ext) (prog:=prog) λb hb=>h b (cg _ hb);have e1:cX told ext (e::prog)=((e.body.bB ext []).map (b_ told e)).flatten++cX told ext prog:=by simp[cX]
  rw[e1,ba,cf,Nat.succ_mul];lia
theorem EG{ext:Sy->List Str}{m:Nat}(he:∀a,(ext a).length<=m):∀(n:Nat) (s:Sy) (k:List Str),s.deep<=n->∀p∈s.bB ext k,p.2.length<=k.length+n*m
 |0,s,k,h,p,hp=>by cases s<;>simp[Sy.deep]at h
 |n+1,s,k,h,p,hp=>by
  rw[ng]at hp;rcases a9.mp hp with rfl|hp
  ·dsimp only;lia
  ·unfold cW at hp;obtain⟨l,hl,hp⟩:=Ak.mp hp;obtain⟨⟨a,k'⟩,ha,rfl⟩:=bp.mp hl;have hk:k'.length<=k.length+m/\a.deep<=n:=by
    cases s with
    |fork x y z =>
     simp only[Sy.pp,a9,bZ,or_false,jf]at ha;simp only[Sy.deep]at h;have:=he x;rcases ha with⟨rfl,rfl⟩|⟨rfl,rfl⟩|⟨rfl,rfl⟩
     ·exact⟨by lia,by lia⟩
     ·exact⟨by rw[ba];lia,by lia⟩
     ·exact⟨by lia,by lia⟩
    |name x=>simp[Sy.pp,Sy.parts]at ha
    |bI=>simp[Sy.pp,Sy.parts]at ha
    |pair x y =>
     simp only[Sy.pp,Sy.parts,bo,fU,a9,bZ,or_false,jf]at ha;simp only[Sy.deep]at h;rcases ha with⟨rfl,rfl⟩|⟨rfl,rfl⟩<;>exact⟨by lia,by lia⟩
    |left x =>
     simp only[Sy.pp,Sy.parts,bo,fU,a9,bZ,or_false,jf]at ha;simp only[Sy.deep]at h;obtain⟨rfl,rfl⟩:=ha;exact⟨by lia,by lia⟩
    |right x =>
     simp only[Sy.pp,Sy.parts,bo,fU,a9,bZ,or_false,jf]at ha;simp only[Sy.deep]at h;obtain⟨rfl,rfl⟩:=ha;exact⟨by lia,by lia⟩
    |send x as =>
     simp only[Sy.pp,Sy.parts,bp,jf]at ha;obtain⟨b,hb,rfl,rfl⟩:=ha;have:=Sy.sX hb;simp only[Sy.deep]at h;exact⟨by lia,by lia⟩
   have:=EG he n a k' hk.2 p hp;have e:(n+1)*m=n*m+m:=Nat.succ_mul n m;lia
theorem RD(a:Sy):a.bases.length<=1:=by
 unfold Sy.bases;cases a.base<;>simp
theorem wY:∀s:Sy,s.cA.length<=s.deep
 | .name _=>by simp[Sy.cA,Sy.deep]
 | .left a=>by have:=wY a;simp only[Sy.cA,Sy.deep,ba,cf,eJ];lia
 | .right a=>by have:=wY a;simp only[Sy.cA,Sy.deep,ba,cf,eJ];lia
 | .bI=>by simp[Sy.cA]
 | .pair _ _=>by simp[Sy.cA]
 | .fork _ _ _=>by simp[Sy.cA]
 | .send _ _=>by simp[Sy.cA]
theorem wZ(s:Sy):s.pfx.length<=s.deep:=by
 unfold Sy.pfx
 split
 ·exact wY s
 ·simp
theorem w4{a b:Sy}:∀{as:List Sy},a∈as->b∈a.pre->b∈Sy.bz as
 |c::as,h,hb=>by
  rw[Sy.bz,bR];rcases a9.mp h with rfl|h
  ·exact .inl hb
  ·exact .inr (w4 h hb)
theorem EH{a:Sy}:∀{as:List Sy},a∈as->a.pre.length<=(Sy.bz as).length
 |c::as,h=>by
  rw[Sy.bz,ba];rcases a9.mp h with rfl|h
  ·lia
  ·have:=EH h;lia
structure ni(n:Nat)(e:Er)(s:Sy)(k:List Str):Prop where
 deep:s.deep<=n
 EI:n<=50
 kl:k.length+n*100<=10000
 ps:e.ps.length<=1000
 size:s.pre.length<=100000
 all:∀a∈s.pre,a.parts.length<=1000/\∀x,a.base=some x->x.length<=1000
theorem ni.part{n:Nat}{e:Er}{s:Sy}{k:List Str}(h:ni (n+1) e s k){a:Sy}{k':List Str}(ha:(a,k')∈s.pp Sy.pfx k):ni n e a k':=by
 have hmem:a∈s.parts:=by rw[<-El Sy.pfx s k];exact ix (f:=aP) ha
 have hpre:∀b∈a.pre,b∈s.pre:=λb hb=>by rw[Sy.lp];exact cg _ (w4 hmem hb)
 have hsz:a.pre.length<=s.pre.length:=by
  have:=EH hmem;rw[Sy.lp s,cf];lia
 have h1:=h.deep;have h2:=h.EI;have h3:=h.kl;have hd:a.deep<=n/\k'.length<=k.length+100:=by
  cases s with
  |fork x y z =>
   simp only[Sy.pp,a9,bZ,or_false,jf]at ha;simp only[Sy.deep]at h1;have:=wZ x;rcases ha with⟨rfl,rfl⟩|⟨rfl,rfl⟩|⟨rfl,rfl⟩
   ·exact⟨by lia,by lia⟩
   ·exact⟨by lia,by rw[ba];lia⟩
   ·exact⟨by lia,by lia⟩
  |name x=>simp[Sy.pp,Sy.parts]at ha
  |bI=>simp[Sy.pp,Sy.parts]at ha
  |pair x y =>
   simp only[Sy.pp,Sy.parts,bo,fU,a9,bZ,or_false,jf]at ha;simp only[Sy.deep]at h1;rcases ha with⟨rfl,rfl⟩|⟨rfl,rfl⟩<;>exact⟨by lia,by lia⟩
  |left x =>
   simp only[Sy.pp,Sy.parts,bo,fU,a9,bZ,or_false,jf]at ha;simp only[Sy.deep]at h1;obtain⟨rfl,rfl⟩:=ha;exact⟨by lia,by lia⟩
  |right x =>
   simp only[Sy.pp,Sy.parts,bo,fU,a9,bZ,or_false,jf]at ha;simp only[Sy.deep]at h1;obtain⟨rfl,rfl⟩:=ha;exact⟨by lia,by lia⟩
  |send x as =>
   simp only[Sy.pp,Sy.parts,bp,jf]at ha;obtain⟨b,hb,rfl,rfl⟩:=ha;have:=Sy.sX hb;simp only[Sy.deep]at h1;exact⟨by lia,by lia⟩
 exact⟨hd.1,by lia,by have:=hd.2;lia,h.ps,by have:=h.size;lia,λb hb=>h.all b (hpre b hb)⟩
def dB(e:Er)(s:Sy)(k:List Str)(j:Nat):List (Str×Str×b9):=b_ bN e (s,k)++((cW Sy.pfx ((s.pp Sy.pfx k).take j)).map (b_ bN e)).flatten
theorem w6{e:Er}{s:Sy}{k:List Str}:dB e s k 0=b_ bN e (s,k):=by simp[dB,cW]
theorem RE{e:Er}{s:Sy}{k:List Str}{j:Nat}(h:s.parts.length<=j):dB e s k j=((s.bB Sy.pfx k).map (b_ bN e)).flatten:=by
 have hl:(s.pp Sy.pfx k).length=s.parts.length:=by rw[<-El Sy.pfx s k,aA]
 unfold dB;rw[jS (by lia),ng];simp
theorem EJ{e:Er}{s:Sy}{k:List Str}{j:Nat}{a:Sy}{k':List Str}(h:(s.pp Sy.pfx k)[j]?=some (a,k')):dB e s k (j+1)=dB e s k j++((a.bB Sy.pfx k').map (b_ bN e)).flatten:=by
 unfold dB;have ht:(s.pp Sy.pfx k).take (j+1)=(s.pp Sy.pfx k).take j++[(a,k')]:=by rw[gw,h];rfl
 rw[ht,tH];simp[cW]
theorem RF{e:Er}{s:Sy}{k:List Str}{j:Nat}:(dB e s k j).length<=s.pre.length:=by
 have h1:=EC (told:=bN) (e:=e) (s.bB Sy.pfx k);rw[RB]at h1;refine bX ?_ h1;rw[ng]
 conv=>rhs;rw[<-uJ j (s.pp Sy.pfx k)]
 unfold dB;rw[tH];simp only[bo,mv,cI,Am,ba];lia
theorem EK{s:Sy}{k:List Str}{j:Nat}{a:Sy}(h:s.parts[j]?=some a)(hf:∀x y z,s=.fork x y z->j≠1):(s.pp Sy.pfx k)[j]?=some (a,k):=by
 cases s with
 |fork x y z =>
  have hj:=hf x y z rfl
  match j,h,hj with
  |0,h,_=>cases h;rfl
  |1,_,hj=>exact absurd rfl hj
  |2,h,_=>cases h;rfl
  |j+3,h,_=>simp[Sy.parts]at h
 |name x=>simp[Sy.parts]at h
 |bI=>simp[Sy.parts]at h
 |pair x y=>simp only[Sy.pp,aJ,h,uT]
 |left x=>simp only[Sy.pp,aJ,h,uT]
 |right x=>simp only[Sy.pp,aJ,h,uT]
 |send x as=>simp only[Sy.pp,aJ,h,uT]
end E3
namespace CL
section
variable{α:Type}[DecidableEq α]
abbrev Fd(α:Type):=List (α×List Int)
def putN(f:Fd α)(g:α)(w:List Int):Option (Fd α):=if g∈f.map aP then some f else if 40<=f.length then none else some (f++[(g,w)])
def fw:List (Int×α)->Fd α->Option (Fd α)
 |[],f=>some f
 |(n,g)::nb,f=>(putN f g [n]).bind (fw nb)
def put2(fit:α->α->Bool)(cmp:α->α->α)(a:α×List Int):List (Int×α)->Fd α->Option (Fd α)
 |[],f=>some f
 |(n,g)::nb,f=>(if fit a.1 g then putN f (cmp a.1 g) (a.2++[n]) else some f).bind (put2 fit cmp a nb)
def d6(fit:α->α->Bool)(cmp:α->α->α)(nb:List (Int×α)):Nat->Nat->Fd α->Option (Fd α)
 |0,_,f=>some f
 |k+1,place,f=>match f[place]? with
  |none=>some f
  |some a=>(put2 fit cmp a nb f).bind (d6 fit cmp nb k (place+1))
def fQ(fit:α->α->Bool)(cmp:α->α->α)(nb:List (Int×α)):Option (Fd α):=(fw nb []).bind (d6 fit cmp nb 41 0)
structure Ok(f:Fd α):Prop where
 nd:(f.map aP).Nodup
 len:f.length<=40
theorem Ok.nil:Ok ([]:Fd α):=⟨by simp,by simp⟩
structure Step(f f':Fd α):Prop where
 ok:Ok f'
 pre:∃r,f'=f++r
theorem Step.trans{f g h:Fd α}(a:Step f g)(b:Step g h):Step f h:=by
 obtain⟨r,e⟩:=a.pre;obtain⟨r',e'⟩:=b.pre;exact⟨b.ok,r++r',by rw[e',e,Ah]⟩
theorem Step.mem{f g:Fd α}(a:Step f g){x:α}(h:x∈f.map aP):x∈g.map aP:=by
 obtain⟨r,e⟩:=a.pre;rw[e,cI];exact fb _ h
theorem Step.at{f g:Fd α}(a:Step f g){i:Nat}{x:α×List Int}(h:f[i]?=some x):g[i]?=some x:=by
 obtain⟨r,e⟩:=a.pre;rw[e,kJ (bH.mp h).1];exact h
theorem tM{f f':Fd α}{g:α}{w:List Int}(h:Ok f)(e:putN f g w=some f'):Step f f'/\g∈f'.map aP:=by
 unfold putN at e
 split at e
 ·rename_i hg
  cases e;exact⟨⟨h,[],by simp⟩,hg⟩
 ·rename_i hg
  split at e
  ·cases e
  ·rename_i hl
   cases e;refine⟨⟨⟨?_,?_⟩,_,rfl⟩,by simp⟩
   ·rw[cI,An];refine⟨h.nd,by simp,λa ha b hb=>?_⟩;simp only[bo,fU,cH]at hb;subst hb;rintro rfl;exact hg ha
   ·rw[ba,jd];lia
theorem w8:∀{nb:List (Int×α)} {f f':Fd α},Ok f->fw nb f=some f'->Step f f'/\∀p∈nb,p.2∈f'.map aP
 |[],f,f',h,e=>by cases e;exact⟨⟨h,[],by simp⟩,λp hp=>by cases hp⟩
 |(n,g)::nb,f,f',h,e=>by
  rw[fw,eK]at e;obtain⟨f1,e1,e2⟩:=e;obtain⟨s1,m1⟩:=tM h e1;obtain⟨s2,m2⟩:=w8 s1.ok e2;refine⟨s1.trans s2,λp hp=>?_⟩;rcases a9.mp hp with rfl|hp
  ·exact s2.mem m1
  ·exact m2 p hp
variable{fit:α->α->Bool}{cmp:α->α->α}
theorem w9{a:α×List Int}:∀{nb:List (Int×α)} {f f':Fd α},Ok f->put2 fit cmp a nb f=some f'->Step f f'/\∀p∈nb,fit a.1 p.2=true->cmp a.1 p.2∈f'.map aP
 |[],f,f',h,e=>by cases e;exact⟨⟨h,[],by simp⟩,λp hp=>by cases hp⟩
 |(n,g)::nb,f,f',h,e=>by
  rw[put2,eK]at e;obtain⟨f1,e1,e2⟩:=e;have s1:Step f f1/\(fit a.1 g=true->cmp a.1 g∈f1.map aP):=by
   split at e1
   ·obtain⟨s1,m1⟩:=tM h e1;exact⟨s1,λ_=>m1⟩
   ·rename_i hf
    cases e1;exact⟨⟨h,[],by simp⟩,λz=>absurd z hf⟩
  obtain⟨s2,m2⟩:=w9 s1.1.ok e2;refine⟨s1.1.trans s2,λp hp hf=>?_⟩;rcases a9.mp hp with rfl|hp
  ·exact s2.mem (s1.2 hf)
  ·exact m2 p hp hf
theorem EL{nb:List (Int×α)}:∀{k place:Nat} {f f':Fd α},Ok f->41<=place+k->d6 fit cmp nb k place f=some f' ->
 Step f f'/\∀i x,place<=i->f'[i]?=some x->∀p∈nb,fit x.1 p.2=true->cmp x.1 p.2∈f'.map aP
 |0,place,f,f',h,hk,e=>by
  cases e;refine⟨⟨h,[],by simp⟩,λi x hi hx=>?_⟩;have:=(bH.mp hx).1;have:=h.len;lia
 |k+1,place,f,f',h,hk,e=>by
  rw[d6]at e;cases ha:f[place]? with
  |none =>
   rw[ha]at e;cases e;refine⟨⟨h,[],by simp⟩,λi x hi hx=>?_⟩;have h1:=(bH.mp hx).1;have h2:=JJ.mp ha;lia
  |some a =>
   rw[ha]at e;dsimp only at e;rw[eK]at e;obtain⟨f1,e1,e2⟩:=e;obtain⟨s1,m1⟩:=w9 h e1;obtain⟨s2,m2⟩:=EL s1.ok (by lia) e2;refine⟨s1.trans s2,λi x hi hx p hp hf=>?_⟩;by_cases qk:i=place
   ·subst qk;have:=(s1.trans s2).at ha;rw[hx]at this;cases this;exact s2.mem (m1 p hp hf)
   ·exact m2 i x (by lia) hx p hp hf
structure RG(fit:α->α->Bool)(cmp:α->α->α)(nb:List (Int×α))(F:Fd α):Prop where
 ok:Ok F
 own:∀p∈nb,p.2∈F.map aP
 up:∀a∈F.map aP,∀p∈nb,fit a p.2=true->cmp a p.2∈F.map aP
theorem EM{nb:List (Int×α)}{F:Fd α}(e:fQ fit cmp nb=some F):RG fit cmp nb F:=by
 unfold fQ at e;rw[eK]at e;obtain⟨f1,e1,e2⟩:=e;obtain⟨s1,m1⟩:=w8 Ok.nil e1;obtain⟨s2,m2⟩:=EL s1.ok (by lia) e2;refine⟨s2.ok,λp hp=>s2.mem (m1 p hp),λa ha p hp hf=>?_⟩;obtain⟨x,hx,rfl⟩:=bp.mp ha;obtain⟨i,hi,rfl⟩:=iw hx;exact m2 i _ (by lia) (aV hi) p hp hf
theorem tE{β:Type}[DecidableEq β]:∀{l c:List β},l.Nodup->(∀x∈l,x∈c)->l.length<=c.length
 |[],_,_,_=>dQ _
 |x::l,c,h,hs=>by
  have hx:=hs x bY;have h1:=tE (l:=l) (c:=c.erase x) (ik.mp h).2 λy hy=>by
   refine(JE ?_).mpr (hs y (cg _ hy));rintro rfl;exact(ik.mp h).1 hy
  rw[JC hx]at h1;have:0<c.length:=JD hx;rw[cf];lia
section
variable{β:Type}[DecidableEq β]{φ:α->β}{Gd:α->Prop}{C:List β}(inj:∀a b,Gd a->Gd b->φ a=φ b->a=b)
def In(φ:α->β)(Gd:α->Prop)(C:List β)(f:Fd α):Prop:=∀a∈f.map aP,Gd a/\φ a∈C
include inj
theorem In.len{f:Fd α}(nd:(f.map aP).Nodup)(h:In φ Gd C f):f.length<=C.length:=by
 have h1:((f.map aP).map φ).Nodup:=by
  rw[oF,qV];rw[oF]at nd;exact Jr (λ{a b} ha hb hab e=>hab (inj a b (h a ha).1 (h b hb).1 e)) nd
 have h2:=tE (c:=C) h1 λx hx=>by
  obtain⟨a,ha,rfl⟩:=bp.mp hx;exact(h a ha).2
 simpa using h2
theorem EN{f:Fd α}{g:α}{w:List Int}(hC:C.length<=40)(h:Ok f)(hi:In φ Gd C f)(hg:Gd g/\φ g∈C):∃f',putN f g w=some f'/\Ok f'/\In φ Gd C f':=by
 unfold putN
 split
 ·exact⟨f,rfl,h,hi⟩
 ·rename_i hm
  have nd:((f++[(g,w)]).map aP).Nodup:=by
   rw[cI,An];refine⟨h.nd,by simp,λa ha b hb=>?_⟩;simp only[bo,fU,cH]at hb;subst hb;rintro rfl;exact hm ha
  have hin:In φ Gd C (f++[(g,w)]):=λa ha=>by
   rw[cI]at ha;rcases bR.mp ha with ha|ha
   ·exact hi a ha
   ·simp only[bo,fU,cH]at ha;subst ha;exact hg
  have hl:=In.len inj nd hin;rw[ba,jd]at hl;rw[if_neg (by lia)];exact⟨_,rfl,⟨nd,by rw[ba,jd];lia⟩,hin⟩
theorem EO(hC:C.length<=40):∀{nb:List (Int×α)} {f:Fd α},Ok f->In φ Gd C f->(∀p∈nb,Gd p.2/\φ p.2∈C)->∃f',fw nb f=some f'/\Ok f'/\In φ Gd C f'
 |[],f,h,hi,_=>⟨f,rfl,h,hi⟩
 |(n,g)::nb,f,h,hi,hn=>by
  obtain⟨f1,e1,h1,i1⟩:=EN (w:=[n]) inj hC h hi (hn (n,g) bY);obtain⟨f2,e2,h2,i2⟩:=EO hC (nb:=nb) h1 i1 λp hp=>hn p (cg _ hp);exact⟨f2,by rw[fw,e1];exact e2,h2,i2⟩
theorem ER(hC:C.length<=40){a:α×List Int}:∀{nb:List (Int×α)} {f:Fd α},Ok f->In φ Gd C f->(∀p∈nb,fit a.1 p.2=true->Gd (cmp a.1 p.2)/\φ (cmp a.1 p.2)∈C)->∃f',put2 fit cmp a nb f=some f'/\Ok f'/\In φ Gd C f'
 |[],f,h,hi,_=>⟨f,rfl,h,hi⟩
 |(n,g)::nb,f,h,hi,hn=>by
  have s1:∃f1,(if fit a.1 g then putN f (cmp a.1 g) (a.2++[n]) else some f)=some f1/\Ok f1/\In φ Gd C f1:=by
   by_cases hf:fit a.1 g=true
   ·rw[if_pos hf];exact EN inj hC h hi (hn (n,g) bY hf)
   ·rw[if_neg hf];exact⟨f,rfl,h,hi⟩
  obtain⟨f1,e1,h1,i1⟩:=s1;obtain⟨f2,e2,h2,i2⟩:=ER hC (nb:=nb) h1 i1 λp hp=>hn p (cg _ hp);exact⟨f2,by rw[put2,e1];exact e2,h2,i2⟩
theorem ET(hC:C.length<=40){nb:List (Int×α)}(hn:∀a,Gd a->φ a∈C->∀p∈nb,fit a p.2=true->Gd (cmp a p.2)/\φ (cmp a p.2)∈C):∀{k place:Nat} {f:Fd α},Ok f->In φ Gd C f->∃f',d6 fit cmp nb k place f=some f'/\Ok f'/\In φ Gd C f'
 |0,_,f,h,hi=>⟨f,rfl,h,hi⟩
 |k+1,place,f,h,hi=>by
  rw[d6];cases ha:f[place]? with
  |none=>exact⟨f,rfl,h,hi⟩
  |some a =>
   have hm:=hi a.1 (ix (f:=aP) (cj ha));obtain⟨f1,e1,h1,i1⟩:=ER (a:=a) inj hC (nb:=nb) h hi λp hp hf=>hn a.1 hm.1 hm.2 p hp hf;obtain⟨f2,e2,h2,i2⟩:=ET hC hn (k:=k) (place:=place+1) h1 i1;exact⟨f2,by dsimp only;rw[e1];exact e2,h2,i2⟩
theorem RH(hC:C.length<=40){nb:List (Int×α)}(h0:∀p∈nb,Gd p.2/\φ p.2∈C)(hn:∀a,Gd a->φ a∈C->∀p∈nb,fit a p.2=true->Gd (cmp a p.2)/\φ (cmp a p.2)∈C) :
 ∃F,fQ fit cmp nb=some F/\Ok F/\In φ Gd C F:=by
 obtain⟨f1,e1,h1,i1⟩:=EO inj hC (nb:=nb) (Ok.nil (α:=α)) (λa ha=>by simp at ha) h0;obtain⟨f2,e2,h2,i2⟩:=ET (fit:=fit) (cmp:=cmp) inj hC hn (k:=41) (place:=0) h1 i1;exact⟨f2,by unfold fQ;rw[e1];exact e2,h2,i2⟩
end
theorem RJ{nb:List (Int×α)}{k place:Nat}{f:Fd α}(h:f.length<=place):d6 fit cmp nb k place f=some f:=by
 cases k with
 |zero=>rfl
 |succ k=>rw[d6,cT h]
section
variable{Pr:α->Prop}
theorem EU{f f':Fd α}{g:α}{w:List Int}(h:∀a∈f.map aP,Pr a)(hg:Pr g)(e:putN f g w=some f'):∀a∈f'.map aP,Pr a:=by
 unfold putN at e
 split at e
 ·cases e;exact h
 ·split at e
  ·cases e
  ·cases e;intro a ha;rw[cI]at ha;rcases bR.mp ha with ha|ha
   ·exact h a ha
   ·simp only[bo,fU,cH]at ha;rw[ha];exact hg
theorem EV:∀{l:List (Int×α)} {f f':Fd α},(∀p∈l,Pr p.2)->(∀a∈f.map aP,Pr a)->fw l f=some f'->∀a∈f'.map aP,Pr a
 |[],f,f',_,h,e=>by cases e;exact h
 |(n,g)::l,f,f',hl,h,e=>by
  rw[fw,eK]at e;obtain⟨f1,e1,e2⟩:=e;exact EV (λp hp=>hl p (cg _ hp)) (EU h (hl (n,g) bY) e1) e2
theorem EW{a:α×List Int}:∀{l:List (Int×α)} {f f':Fd α},(∀p∈l,fit a.1 p.2=true->Pr (cmp a.1 p.2))->(∀a∈f.map aP,Pr a)->put2 fit cmp a l f=some f'->∀a∈f'.map aP,Pr a
 |[],f,f',_,h,e=>by cases e;exact h
 |(n,g)::l,f,f',hl,h,e=>by
  rw[put2,eK]at e;obtain⟨f1,e1,e2⟩:=e;refine EW (λp hp=>hl p (cg _ hp)) ?_ e2
  split at e1
  ·rename_i hf
   exact EU h (hl (n,g) bY hf) e1
  ·cases e1;exact h
theorem EX{nb:List (Int×α)}(hn:∀a,Pr a->∀p∈nb,fit a p.2=true->Pr (cmp a p.2)):∀{k place:Nat} {f f':Fd α},(∀a∈f.map aP,Pr a)->d6 fit cmp nb k place f=some f'->∀a∈f'.map aP,Pr a
 |0,_,f,f',h,e=>by cases e;exact h
 |k+1,place,f,f',h,e=>by
  rw[d6]at e;cases ha:f[place]? with
  |none=>rw[ha]at e;cases e;exact h
  |some a =>
   rw[ha]at e;dsimp only at e;rw[eK]at e;obtain⟨f1,e1,e2⟩:=e;exact EX hn (EW (hn a.1 (h a.1 (ix (f:=aP) (cj ha)))) h e1) e2
theorem RK{nb:List (Int×α)}{F:Fd α}(h0:∀p∈nb,Pr p.2)(hn:∀a,Pr a->∀p∈nb,fit a p.2=true->Pr (cmp a p.2))(e:fQ fit cmp nb=some F):∀a∈F.map aP,Pr a:=by
 unfold fQ at e;rw[eK]at e;obtain⟨f1,e1,e2⟩:=e;exact EX hn (EV h0 (λa ha=>by simp at ha) e1) e2
end
end
end CL
namespace EE
open PySem PySem.Spec PyProof.Rows L2
abbrev iW(h:Heap)(e it:Addr)(i:Int)(f0 f1 old:Value):Prop :=
 h.get? e=some {cls:=.type "enumerate",dict:=none,data:=.fields #[f0,f1,.ref it,rawInt i,.none,old],slots:=#[]}
def gn(h:Heap)(e it:Addr)(i:Int):Prop:=∃f0 b old,(f0=.none∨∃a:Nat,f0=rawInt a)/\iW h e it i f0 (.bool b) old
section
variable{prog:Program}{w:World}{A:Around}{E:Value->Shared->Prop}{s:Shared}
theorem RL{M:Model}{a:Addr}{Q:Option Obj->Shared->Prop}(h:Q (s.heap.get? a) s):wpAny M A (loadIfAlive a) Q E s:=λΓ p _=>by
 unfold loadIfAlive;rw[Sem.wp_loadIfAlive];exact h
theorem RM{e it:Addr}{fp:List Addr}{n i:Nat}{P:Nat->Value->Prop}{St:Nat->Heap->Prop}{Q:Value->Shared->Prop}
 (D:Draws prog w A it fp n P St) (he:gn s.heap e it i) (hst:St i s.heap) (hlt:i<n) (hne:e≠it) (hef:e∉fp)
 (hQ:∀x h' tk,P i x->gn h' e it ((i:Int)+1)->St (i+1) h' ->
  h'.get? s.heap.objs.size=some {cls:=.type "tuple",data:=.seq #[.int i tk,x]}->h'.objs.size=s.heap.objs.size+1 ->
  (∀b o,b≠e->b≠it->s.heap.get? b=some o->h'.get? b=some o)->Q (.ref s.heap.objs.size) {s with heap:=h',toks:=tk+1}) :
 wpAny (model prog w) A (Builtin.«enumerate.__next__» ⟨[.ref e],[]⟩) (λfin s'=>∃v,fin=.done (.ret v)/\Q v s') E s:=by
 obtain⟨f0,b,old,lB,he⟩:=he;obtain⟨hp,g,d,tk₀,os⟩:=s;show wpAny _ _ (field (.ref e) 2 >>= _) _ _ _;refine aj (di he rfl (x:=.ref it) rfl ?_);refine aj (D.item i _ _ _ hlt hst λx h₁ tk hPx hit₁ hs₁=>?_);replace hs₁:fF it hp h₁:=hs₁;have he₁:iW h₁ e it i f0 (.bool b) old:=(hs₁.2 e hne).trans he;show wpAny _ _ (field (.ref e) 3 >>= _) _ _ ⟨h₁,g,d,tk,os⟩;refine aj (di he₁ rfl (x:=rawInt i) rfl ?_);show wpAny _ _ (field (.ref e) 4 >>= _) _ _ ⟨h₁,g,d,tk,os⟩;refine aj (di he₁ rfl (x:=.none) rfl ?_);show wpAny _ _ (mkInt i >>= _) _ _ ⟨h₁,g,d,tk,os⟩;refine aj (wpAny_mkInt ?_);show wpAny _ _ (setField (.ref e) 3 (rawInt ((i:Int)+1)) >>= _) _ _ ⟨h₁,g,d,tk+1,os⟩;refine aj (gv he₁ (by simp) λh₂ he₂ hs₂=>?_);replace hs₂:fF e h₁ h₂:=hs₂;replace he₂:iW h₂ e it ((i:Int)+1) f0 (.bool b) old:=he₂;show wpAny _ _ (setField (.ref e) 4 .none >>= _) _ _ ⟨h₂,g,d,tk+1,os⟩;refine aj (gv he₂ (by simp) λh₃ he₃ hs₃=>?_);replace hs₃:fF e h₂ h₃:=hs₃;replace he₃:iW h₃ e it ((i:Int)+1) f0 (.bool b) old:=he₃;show wpAny _ _ (newTuple [.int i tk,x] >>= _) _ _ ⟨h₃,g,d,tk+1,os⟩;refine aj (wpAny_newTuple ?_);have he₄:iW (h₃.push {cls:=.type "tuple",data:=.seq #[.int i tk,x]}) e it ((i:Int)+1) f0 (.bool b) old:=bC _ he₃;generalize hh₄:h₃.push {cls:=.type "tuple",data:=.seq #[.int i tk,x]}=h₄ at he₄;have hsz:h₃.objs.size=hp.objs.size:=by rw[hs₃.1,hs₂.1,hs₁.1]
 have hel:e<hp.objs.size:=bh he;have ht₄:h₄.get? hp.objs.size=some {cls:=.type "tuple",data:=.seq #[.int i tk,x]}:=by rw[<-hh₄,<-hsz];exact dn _ rfl
 have hz₄:h₄.objs.size=hp.objs.size+1:=by rw[<-hh₄,iu,hsz]
 have hk₄:∀b o,b≠e->b≠it->hp.get? b=some o->h₄.get? b=some o:=λb o hbe hbi hb=>by
  rw[<-hh₄];exact bC _ (hs₃.extBut b o hbe (hs₂.extBut b o hbe (hs₁.extBut b o hbi hb)))
 have hit₄:St (i+1) h₄:=D.frame _ _ _ hit₁ λb hb o y=>by
  have hbe:b≠e:=λq=>hef (q▸hb);rw[<-hh₄];exact bC _ (hs₃.extBut b o hbe (hs₂.extBut b o hbe y))
 show wpAny _ _ (oG (.ref e) >>= _) _ _ ⟨h₄,g,d,tk+1,os⟩;rw[hsz];clear hh₄ he₃ hs₃ he₂ hs₂ he₁ hs₁ hit₁ hsz h₃ h₂ h₁;have free:wpAny (model prog w) A (do
  rule "enumerate.__next__.owned-tuple-again"
  let old <-field (.ref e) 5
  setField (.ref e) 5 x
  qX (.ref e) (.ref hp.objs.size)
  letGo [old] [.ref hp.objs.size]
  PySem.ret (.ref hp.objs.size)) (λfin s'=>∃v,fin=.done (.ret v)/\Q v s') E ⟨h₄,g,d,tk+1,os⟩:=by
  refine aj (kG ?_);refine aj (di he₄ rfl (x:=old) rfl ?_);refine aj (gv he₄ (by simp) λh₅ he₅ hs₅=>?_);replace hs₅:fF e h₄ h₅:=hs₅;replace he₅:iW h₅ e it ((i:Int)+1) f0 (.bool b) x:=he₅;show wpAny _ _ (qX (.ref e) (.ref hp.objs.size) >>= _) _ _ ⟨h₅,g,d,tk+1,os⟩;refine aj ?_;unfold qX;refine aj (gv he₅ (by simp) λh₆ he₆ hs₆=>?_);replace hs₆:fF e h₅ h₆:=hs₆;replace he₆:iW h₆ e it ((i:Int)+1) (rawInt hp.objs.size) (.bool b) x:=he₆;refine gv he₆ (by simp) λh₇ he₇ hs₇=>?_;replace hs₇:fF e h₆ h₇:=hs₇;replace he₇:iW h₇ e it ((i:Int)+1) (rawInt hp.objs.size) (.bool false) x:=he₇;refine aj (oH (aG ⟨_,rfl,hQ x h₇ tk hPx ⟨_,_,_,.inr ⟨_,rfl⟩,he₇⟩ ?_ ?_ ?_ ?_⟩))
  ·exact D.frame _ _ _ hit₄ λb hb o y=>by
    have hbe:b≠e:=λq=>hef (q▸hb);exact hs₇.extBut b o hbe (hs₆.extBut b o hbe (hs₅.extBut b o hbe y))
  ·exact hs₇.extBut _ _ (mi hel) (hs₆.extBut _ _ (mi hel) (hs₅.extBut _ _ (mi hel) ht₄))
  ·rw[hs₇.1,hs₆.1,hs₅.1,hz₄]
  ·exact λb o hbe hbi hb=>hs₇.extBut b o hbe (hs₆.extBut b o hbe (hs₅.extBut b o hbe (hk₄ b o hbe hbi hb)))
 have keep:∀h₅ b',iW h₅ e it ((i:Int)+1) f0 (.bool b') old->fF e h₄ h₅->wpAny (model prog w) A (PySem.ret (.ref hp.objs.size)) (λfin s'=>∃v,fin=.done (.ret v)/\Q v s') E ⟨h₅,g,d,tk+1,os⟩:=λh₅ b' he₅ hs₅=>by
  refine aG ⟨_,rfl,hQ x h₅ tk hPx ⟨_,_,_,lB,he₅⟩ ?_ ?_ ?_ ?_⟩
  ·exact D.frame _ _ _ hit₄ λb hb o y=>by
    have hbe:b≠e:=λq=>hef (q▸hb);exact hs₅.extBut b o hbe y
  ·exact hs₅.extBut _ _ (mi hel) ht₄
  ·rw[hs₅.1,hz₄]
  ·exact λb o hbe hbi hb=>hs₅.extBut b o hbe (hk₄ b o hbe hbi hb)
 refine aj ?_;unfold oG;refine aj (di he₄ rfl (x:=f0) rfl ?_);rcases lB with rfl|⟨a,rfl⟩
 ·refine aG ?_;simp only[if_true];exact free
 ·show wpAny _ _ (loadIfAlive (oI a) >>= _) _ _ _;refine aj (RL ?_);cases hal:h₄.get? (oI a) with
  |none =>
   simp only[hal,Option.isNone_none,if_true];refine aG ?_;simp only[if_true];exact free
  |some o =>
   simp only[hal,Option.isNone_some,i_,if_false];refine aj (di he₄ rfl (x:=.bool b) rfl ?_);cases b with
   |true =>
    simp only[bne_self_eq_false,i_,if_false];refine aG ?_;simp only[i_,if_false];exact keep h₄ true he₄ ⟨rfl,λ_ _=>rfl⟩
   |false =>
    rw[if_pos (by decide)];refine aj (gv he₄ (by simp) λh₅ he₅ hs₅=>?_);refine aG ?_;simp only[i_,if_false];exact keep h₅ true he₅ hs₅
theorem EY{e it:Addr}{fp:List Addr}{n i:Nat}{P:Nat->Value->Prop}{St:Nat->Heap->Prop}{Q:Option Value->Shared->Prop}
 (D:Draws prog w A.in1 it fp n P St) (he:gn s.heap e it i) (hst:St i s.heap) (hlt:i<n) (hne:e≠it) (hef:e∉fp)
 (hQ:∀x h' tk,P i x->gn h' e it ((i:Int)+1)->St (i+1) h' ->
  h'.get? s.heap.objs.size=some {cls:=.type "tuple",data:=.seq #[.int i tk,x]}->h'.objs.size=s.heap.objs.size+1 ->
  (∀b o,b≠e->b≠it->s.heap.get? b=some o->h'.get? b=some o)->Q (some (.ref s.heap.objs.size)) {s with heap:=h',toks:=tk+1}) :
 wpAny (model prog w) A (pyNext (.ref e)) Q E s:=by
 have hT:s.TypeIs (.ref e) "enumerate":=by obtain⟨_,_,_,_,he⟩:=he;exact⟨_,he,rfl⟩
 unfold pyNext;exact aj (uN (jQ (name:=iq "__next__") hT q_
  (i9 q_ hT JK
   (RM D he hst hlt hne hef λx h' tk a b c d k q=>aG (hQ x h' tk a b c d k q)) (JL _))))
theorem EZ{e it:Addr}{i:Int}{Q:Option Value->Shared->Prop}(he:gn s.heap e it i)
 (hd:∀(Q':Value->Shared->Prop) (E':Value->Shared->Prop),(∀h' x,uL it s.heap h'->(∃o,h'.get? x=some o/\o.cls=.type "StopIteration")->E' (.ref x) {s with heap:=h'})->wpAny (model prog w) A.in1 (jT (.ref it)) Q' E' s)
 (hQ:∀h',uL it s.heap h'->Q none {s with heap:=h'}):wpAny (model prog w) A (pyNext (.ref e)) Q E s:=by
 obtain⟨_,_,_,_,he⟩:=he;have hT:s.TypeIs (.ref e) "enumerate":=⟨_,he,rfl⟩;unfold pyNext;refine aj (uN (jQ (name:=iq "__next__") hT q_
  (i9 q_ hT JK ?_ (JL _))))
 show wpAny _ _ (field (.ref e) 2 >>= _) _ _ _;refine aj (di he rfl (x:=.ref it) rfl ?_);refine aj (hd _ _ λh' x he' hx'=>?_);obtain⟨o,ho,hc⟩:=hx';refine aj (zc (T:="StopIteration") (b:=true) ⟨o,ho,hc⟩ isSubtype_stop ?_);exact aG (hQ _ he')
theorem ql{e it:Addr}{i:Int}{Q:Value->Shared->Prop}(he:gn s.heap e it i)(h:Q (.ref e) s):wpAny (model prog w) A (pyIter (.ref e)) Q E s:=by
 obtain⟨_,_,_,_,he⟩:=he;have hT:s.TypeIs (.ref e) "enumerate":=⟨_,he,rfl⟩;refine wpAny_pyIter_slot hT JM (i9 JM hT PySem.F.entry_enumerate_iter ?_ (PySem.F.args_enumerate_iter_1 _));show wpAny _ _ (ret (.ref e)) _ _ s;exact aG ⟨_,rfl,"enumerate",_,hT,q_.lookup,h⟩
theorem E1{tg:Expr}{e it a:Addr}{i:Int}{Q:Unit->Shared->Prop}(he:gn s.heap e it i)(hQ:∀h',gn h' e it i->fF e s.heap h'->Q () {s with heap:=h'}) :
 wpAny (model prog w) A (letOwnedTupleGo tg (.ref e) (.ref a)) Q E s:=by
 have h0:=he;obtain⟨f0,b,old,lB,he⟩:=he;have same:Q () s:=hQ s.heap h0 ⟨rfl,λ_ _=>rfl⟩;have go:wpAny (model prog w) A (letOwnedTupleGo (.Tuple [] 0 default) (.ref e) (.ref a)) Q E s:=by
  unfold letOwnedTupleGo;refine aj (wpAny_load he ?_);dsimp only
  split
  ·refine aj (kG ?_);show wpAny _ A (setField (.ref e) 0 .none) Q E s;exact gv he (by simp) λh' he' hs'=>hQ h' ⟨_,_,_,.inl rfl,he'⟩ hs'
  ·exact aG same
 cases tg<;>first
  |exact aG same
  |exact go
end
theorem RN{prog:Program}{w:World}{A:Around}(hh:A.handled=none)(it l:Addr)(hne:l≠it)(items:Array Value) :
 Draws prog w A it [it,l] items.size (λi v=>items[i]?=some v) (λi h=>h.IsTupleIter it l i/\h.IsTuple l items) where
 live:=λ_ _ st=>let⟨o,ho,_⟩:=st.1;⟨o,ho⟩
 frame:=λ_ _ _ st hk=>⟨st.1.at λo e=>hk it (by simp) o e,let⟨o,ho,r⟩:=st.2;⟨o,hk l (by simp) o ho,r⟩⟩
 item:=λi s Q E hi st hQ=>by
  refine s_ st.1 st.2 (x:=items[i]) (by simp[hi]) λh' hit' hs'=>?_;exact hQ _ h' s.toks (by simp[hi]) ⟨hit',iR st.2 hs'.extBut hne⟩ hs'
 done:=λs Q E st hE=>tf hh st.1 st.2 (by simp) hE
theorem RP(l:Addr)(items:Array Value) :
 Meets (Builtin.«enumerate.__new__» ⟨[.type "enumerate",.ref l],[]⟩) (λ_ R s=>s.heap.IsTuple l items /\
  R (.ok (.ret (.ref (s.heap.push {cls:=.type "tuple_iterator",data:=.fields #[.ref l,.int 0 0]}).objs.size)))
   {s with heap:=(s.heap.push {cls:=.type "tuple_iterator",data:=.fields #[.ref l,.int 0 0]}).push {cls:=.type "enumerate",data:=.fields #[.none,.bool false,.ref s.heap.objs.size,rawInt 0,.none,.none]}}) :=
 .of_wp λprog w A R s h=>by
  obtain⟨hp,g,d,tk,os⟩:=s;obtain⟨hl,h⟩:=h;have hsub:=sub_enumerate;have hL:Ad (Ae ⟨hp,g,d,tk,os⟩) l items:=hl
  wp_walk
  refine wpAny_stack_any λst=>aG ?_
  split
  ·rename_i c _ _ _ _ _
   cases (c==Value.type "enumerate")
   ·wp_walk using ox hL
    exact⟨_,rfl,h⟩
   ·wp_walk using ox hL
    exact⟨_,rfl,h⟩
  ·wp_walk using ox hL
   exact⟨_,rfl,h⟩
section
variable{prog:Program}{w:World}{A:Around}{E:Value->Shared->Prop}{s:Shared}
theorem E2{l:Addr}{items:Array Value}{Q:Value->Shared->Prop}(hL:s.heap.IsTuple l items)
 (h:∀h',gn h' (s.heap.objs.size+1) s.heap.objs.size 0->h'.IsTupleIter s.heap.objs.size l 0->h'.objs.size=s.heap.objs.size+2 ->
  (∀b o,s.heap.get? b=some o->h'.get? b=some o)->Q (.ref (s.heap.objs.size+1)) {s with heap:=h'}) :
 wpAny (model prog w) A (call (.type "enumerate") [.ref l]) Q E s:=by
 refine callType_new PySem.F.called_enumerate (by decide) (PySem.F.typeCall_enumerate_1 _) (PySem.F.newCall_enumerate_1 _) (λobj=>PySem.F.args_object_init_2 obj _) PySem.F.entry_enumerate_new
  (RP l items) ⟨hL,?_⟩
 have hz:(s.heap.push {cls:=.type "tuple_iterator",data:=.fields #[.ref l,.int 0 0]}).objs.size=s.heap.objs.size+1:=iu ..;show _/\_;rw[hz];have he:iW ((s.heap.push {cls:=.type "tuple_iterator",data:=.fields #[.ref l,.int 0 0]}).push
  {cls:=.type "enumerate",data:=.fields #[.none,.bool false,.ref s.heap.objs.size,rawInt 0,.none,.none]}) (s.heap.objs.size+1) s.heap.objs.size 0 .none (.bool false) .none:=by
  have:=dn (s.heap.push {cls:=.type "tuple_iterator",data:=.fields #[.ref l,.int 0 0]})
   (o:={cls:=.type "enumerate",data:=.fields #[.none,.bool false,.ref s.heap.objs.size,rawInt 0,.none,.none]}) rfl
  rw[hz]at this;exact this
 refine⟨⟨_,he,rfl⟩,h _ ⟨_,_,_,.inl rfl,he⟩ ⟨_,bC _ (dn _ rfl),rfl,rfl⟩ (by rw[iu,hz]) λb o x=>bC _ (bC _ x)⟩
theorem E4{l:Addr}{items:Array Value}{Q:Value->Shared->Prop}(hL:s.heap.IsList l items)
 (h:∀h',gn h' (s.heap.objs.size+1) s.heap.objs.size 0->h'.IsListIter s.heap.objs.size l 0->h'.objs.size=s.heap.objs.size+2 ->
  (∀b o,s.heap.get? b=some o->h'.get? b=some o)->Q (.ref (s.heap.objs.size+1)) {s with heap:=h'}) :
 wpAny (model prog w) A (call (.type "enumerate") [.ref l]) Q E s :=
 call_enumerate_list hL λh' he hi hz hk=>h h' ⟨_,_,_,.inl rfl,he⟩ hi hz hk
end
theorem RQ{X:Cx}{pins:List (Addr×Obj)}{σ:L2.St}{H:Hp}{s:Shared}{h':Heap}{t':Nat}{fp:List Addr}{a:Addr}{o:HO}(I:Inv X pins σ H s)(k:∀b u,b∉fp->s.heap.get? b=some u->h'.get? b=some u)(hf:∀b∈fp,dq X pins H b)
 (hp:s.heap.objs.size<=a) (new:cB X.prog X.w (upd H a o) h' a o):Inv X pins σ (upd H a o) {s with heap:=h',toks:=t'}:=by
 have hn:H a=none:=I.hok.fresh hp;have j0:∀b u,H b=some u->b∉fp:=λb u e z=>by
  rw[(hf b z).1]at e;cases e
 refine I.step (g':=s.gens) (d':=s.drawn) (ch:=fp) (λb hb=>?_) (λb o _ _ hc e _=>k b o hc e) (λb o _ _ hc e _=>⟨o.slots,k b o hc e⟩) (λb u _ e n=>?_) (λb o hc e=>⟨o,k b o hc e⟩) (λb xs e=>?_) (λb u v e=>?_)
  (λb ps e=>⟨#[],by rw[a_ (gz e hn),e];simp⟩) (λm hm=>?_) (λb u e=>?_) I.bare
 ·obtain⟨f0,f1,f2,f3,f4,f5⟩:=hf b hb;exact⟨f3,f1,f4,f5⟩
 ·rw[a_ (c_ (cZ (bh e) hp))];exact n
 ·rw[a_ (gz e hn)];exact e
 ·rw[a_ (gz e hn)];exact e
 ·obtain⟨o,es,ep,ho,r⟩:=hm;exact⟨o,es,ep,k _ o (λz=>(hf _ z).2.1 rfl) ho,r⟩
 ·by_cases hb:b=a
  ·subst hb;rw[d7]at e;cases e;exact new
  ·rw[a_ hb]at e;refine(I.hok b u e).stay (λc v hc q=>k c v ?_ q) (λc q=>by rw[a_ (gz q hn)];exact q) λc xs q=>by rw[a_ (gz q hn)];exact q
   rcases hc with z|z
   ·rw[z];exact j0 b u e
   ·exact j0 c _ z
def iX(sq:Hp->List V->Prop):It :=
 ⟨λi H=>∃xs,sq H xs/\i<xs.length,λi H x H'=>∃p y,x=.ref p/\H p=none/\H'=upd H p (.tup [.int i,y])/\∀xs,sq H xs->xs[i]?=some y,λi H=>∃xs,sq H xs/\xs.length<=i⟩
theorem E5{X:Cx}{pins:List (Addr×Obj)}{σ:L2.St}{H:Hp}{s:Shared}{h':Heap}{e it:Addr}{i:Nat}{tk:Nat}{u:Value}{y:V}(I:Inv X pins σ H s)(hf:∀b∈[e,it],dq X pins H b)(ru:RelV y u)
 (hT:h'.get? s.heap.objs.size=some {cls:=.type "tuple",data:=.seq #[.int i tk,u]}) (k:∀b o,b≠e->b≠it->s.heap.get? b=some o->h'.get? b=some o) :
 Inv X pins σ (upd H s.heap.objs.size (.tup [.int i,y])) {s with heap:=h',toks:=tk+1} :=
 RQ (fp:=[e,it]) I (λb o n q=>k b o (λz=>n (by simp[z])) (λz=>n (by simp[z])) q) hf (aX _) ⟨(by decide:2<=sizeLine),[.int i tk,u],.cons ⟨tk,rfl⟩ (.cons ru .nil),⟨_,hT,rfl,_,rfl⟩,λo q=>by rw[hT]at q;cases q;rfl⟩
theorem E6{P:Program}{w:World}{K:ak}{tg:Expr}(l e it:Addr)(hne:e≠it):Turn P w K tg (iX λH xs=>a6 K H l xs) [e,it] e (λi h=>gn h e it i/\h.IsListIter it l i) where
 mem:=bY
 obj:=λi h st c hc=>by
  obtain⟨⟨f0,b,old,_,s1⟩,⟨o2,s2,_,d2⟩⟩:=st;simp only[a9,bZ,or_false]at hc;rcases hc with rfl|rfl
  ·exact⟨_,s1,λv z=>nomatch z⟩
  ·exact⟨_,s2,λv z=>by rw[d2]at z;cases z⟩
 keep:=λi h h' st kk=>by
  obtain⟨⟨f0,b,old,lB,s1⟩,s2⟩:=st;exact⟨⟨f0,b,old,lB,kk e (by simp) _ s1⟩,s2.at λo q=>kk it (by simp) o q⟩
 item:=by
  intro X hP hw hK hc i pins s σ H E I hf st hg;subst hP hw hK;obtain⟨xs,hq,hi⟩:=hg;obtain⟨its,rv,pt,hz⟩:=I.list hq;have hl:=rv.length;obtain⟨u,hu,ru⟩:=rv.get (aV hi);have ps:s.heap.IsList l its.toArray:=pt.isList;have hle:l≠e:=by
   rintro rfl;obtain⟨o,q,c,_⟩:=ps;obtain⟨_,_,_,_,q2⟩:=st.1;rw[q2]at q;cases q;exact absurd (uU c) (by decide)
  have hli:l≠it:=by
   rintro rfl;obtain⟨o,q,c,_⟩:=ps;obtain⟨o2,q2,c2,_⟩:=st.2;rw[q2]at q;cases q;rw[c2]at c;exact absurd (uU c) (by decide)
  refine EY (Draws.list (A:=X.A.in1) (show X.A.in1.handled=none from I.ok.hd hc) it l hli its.toArray) st.1 ⟨st.2,ps⟩ (by rw[b7];lia) hne (by simp[hne,cG hle]) λx h' tk hx he hst hT hsz k=>?_;have ex:u=x:=by
   have e1:its[i]?=some x:=by simpa using hx
   rw[hu]at e1;exact cS e1
  subst ex;refine⟨_,rfl,E1 (s:={s with heap:=h',toks:=tk+1}) he λh2 he2 sb=>?_⟩;have el:e<s.heap.objs.size:=by obtain⟨_,_,_,_,q⟩:=st.1;exact bh q
  have il:it<s.heap.objs.size:=by obtain⟨_,q,_⟩:=st.2;exact bh q
  have k2:∀b o,b≠e->b≠it->s.heap.get? b=some o->h2.get? b=some o:=λb o n1 n2 q=>(sb.2 b n1).trans (k b o n1 n2 q);have e1:((i:Int)+1)=((i+1:Nat):Int):=by lia
  rw[e1]at he2;have Im:=E5 (s:=s) (i:=i) (y:=xs[i]) (tk:=tk) I hf ru ((sb.2 _ (mi el)).trans hT) k2;refine⟨.ref s.heap.objs.size,_,Im,rfl,⟨_,xs[i],rfl,I.hok.fresh (aX _),rfl,λzs hy=>by rw[I.rB hy hq];exact aV hi⟩,
   ⟨he2,hst.1.at λo q=>(sb.2 it (cG hne)).trans q⟩,λc hc'=>?_⟩
  simp only[a9,bZ,or_false]at hc';rcases hc' with rfl|rfl
  ·rw[a_ (c_ el)];exact(hf _ (by simp)).1
  ·rw[a_ (c_ il)];exact(hf _ (by simp)).1
 done:=by
  intro X hP hw hK hc i pins s σ H E I hf st hg;subst hP hw hK;obtain⟨xs,hq,hi⟩:=hg;obtain⟨its,rv,pt,hz⟩:=I.list hq;have hl:=rv.length;have ps:s.heap.IsList l its.toArray:=pt.isList;refine EZ st.1 (λQ' E' hE=>wpAny_nextOf_list_end (I.ok.hd hc) st.2 ps (by simp;lia) hE) λh' eb=>⟨rfl,sZ (t':=s.toks) (fp:=[e,it]) I (λc o n q=>eb c o (λz=>n (by simp[z])) q) hf⟩
 self:=λ_ _ _ _ _ st h=>ql st.1 h
theorem E7{P:Program}{w:World}{K:ak}{tg:Expr}(l e it:Addr)(hne:e≠it):Turn P w K tg (iX λH xs=>bq K H l xs) [e,it] e (λi h=>gn h e it i/\h.IsTupleIter it l i) where
 mem:=bY
 obj:=λi h st c hc=>by
  obtain⟨⟨f0,b,old,_,s1⟩,⟨o2,s2,_,d2⟩⟩:=st;simp only[a9,bZ,or_false]at hc;rcases hc with rfl|rfl
  ·exact⟨_,s1,λv z=>nomatch z⟩
  ·exact⟨_,s2,λv z=>by rw[d2]at z;cases z⟩
 keep:=λi h h' st kk=>by
  obtain⟨⟨f0,b,old,lB,s1⟩,s2⟩:=st;exact⟨⟨f0,b,old,lB,kk e (by simp) _ s1⟩,s2.at λo q=>kk it (by simp) o q⟩
 item:=by
  intro X hP hw hK hc i pins s σ H E I hf st hg;subst hP hw hK;obtain⟨xs,hq,hi⟩:=hg;obtain⟨its,rv,pt,hz⟩:=I.tuple hq;have hl:=rv.length;obtain⟨u,hu,ru⟩:=rv.get (aV hi);have ps:s.heap.IsTuple l its.toArray:=pt;have hle:l≠e:=by
   rintro rfl;obtain⟨o,q,c,_⟩:=ps;obtain⟨_,_,_,_,q2⟩:=st.1;rw[q2]at q;cases q;exact absurd (uU c) (by decide)
  have hli:l≠it:=by
   rintro rfl;obtain⟨o,q,c,_⟩:=ps;obtain⟨o2,q2,c2,_⟩:=st.2;rw[q2]at q;cases q;rw[c2]at c;exact absurd (uU c) (by decide)
  refine EY (RN (A:=X.A.in1) (show X.A.in1.handled=none from I.ok.hd hc) it l hli its.toArray) st.1 ⟨st.2,ps⟩ (by rw[b7];lia) hne (by simp[hne,cG hle]) λx h' tk hx he hst hT hsz k=>?_;have ex:u=x:=by
   have e1:its[i]?=some x:=by simpa using hx
   rw[hu]at e1;exact cS e1
  subst ex;refine⟨_,rfl,E1 (s:={s with heap:=h',toks:=tk+1}) he λh2 he2 sb=>?_⟩;have el:e<s.heap.objs.size:=by obtain⟨_,_,_,_,q⟩:=st.1;exact bh q
  have il:it<s.heap.objs.size:=by obtain⟨_,q,_⟩:=st.2;exact bh q
  have k2:∀b o,b≠e->b≠it->s.heap.get? b=some o->h2.get? b=some o:=λb o n1 n2 q=>(sb.2 b n1).trans (k b o n1 n2 q);have e1:((i:Int)+1)=((i+1:Nat):Int):=by lia
  rw[e1]at he2;have Im:=E5 (s:=s) (i:=i) (y:=xs[i]) (tk:=tk) I hf ru ((sb.2 _ (mi el)).trans hT) k2;refine⟨.ref s.heap.objs.size,_,Im,rfl,⟨_,xs[i],rfl,I.hok.fresh (aX _),rfl,λzs hy=>by rw[I.oV hy hq];exact aV hi⟩,
   ⟨he2,hst.1.at λo q=>(sb.2 it (cG hne)).trans q⟩,λc hc'=>?_⟩
  simp only[a9,bZ,or_false]at hc';rcases hc' with rfl|rfl
  ·rw[a_ (c_ el)];exact(hf _ (by simp)).1
  ·rw[a_ (c_ il)];exact(hf _ (by simp)).1
 done:=by
  intro X hP hw hK hc i pins s σ H E I hf st hg;subst hP hw hK;obtain⟨xs,hq,hi⟩:=hg;obtain⟨its,rv,pt,hz⟩:=I.tuple hq;have hl:=rv.length;have ps:s.heap.IsTuple l its.toArray:=pt;refine EZ st.1 (λQ' E' hE=>tf (I.ok.hd hc) st.2 ps (by simp;lia) hE) λh' eb=>⟨rfl,sZ (t':=s.toks) (fp:=[e,it]) I (λc o n q=>eb c o (λz=>n (by simp[z])) q) hf⟩
 self:=λ_ _ _ _ _ st h=>ql st.1 h
section
variable{X:Cx}{tg a:Expr}{ta:TA}{p pos:Pos}
def w_(K:ak)(ta:TA):TI:=λσ H R=>ta σ H λvs H1=>∃l,vs=[.ref l]/\(((∃xs,a6 K H1 l xs)/\R (iX λH xs=>a6 K H l xs) H1)∨((∃xs,bq K H1 l xs)/\R (iX λH xs=>bq K H l xs) H1))
theorem RR{pins:List (Addr×Obj)}{σ:L2.St}{H1:Hp}{s1:Shared}{l:Addr}{R:It->Hp->Prop}(I1:Inv X pins σ H1 s1)(q:((∃xs,a6 X.K H1 l xs)/\R (iX λH xs=>a6 X.K H l xs) H1)∨((∃xs,bq X.K H1 l xs)/\R (iX λH xs=>bq X.K H l xs) H1)) :
 wpAny (model X.prog X.w) X.A (call (.type "enumerate") [.ref l]) (λv s2=>wpAny (model X.prog X.w) X.A (pyIter v) (va X pins σ tg R) X.xe s2) X.xe s1:=by
 have hne:s1.heap.objs.size+1≠s1.heap.objs.size:=by lia
 have fin:∀(h':Heap),(∀b o,s1.heap.get? b=some o->h'.get? b=some o)->Inv X pins σ H1 {s1 with heap:=h'}/\∀b∈[s1.heap.objs.size+1,s1.heap.objs.size],dq X pins H1 b:=λh' k=>⟨I1.kept (t':=s1.toks) k,λb hb=>by
  have cl:s1.heap.objs.size<=b:=by
   simp only[a9,bZ,or_false]at hb;lia
  exact I1.j6 cl (I1.hok.fresh cl)⟩
 rcases q with⟨⟨xs,hx⟩,q⟩|⟨⟨xs,hx⟩,q⟩
 ·obtain⟨its,rv,pt,_⟩:=I1.list hx;refine E4 pt.isList λh' he hi hz k=>ql he ?_;obtain⟨I2,f2⟩:=fin h' k;exact⟨_,_,_,_,H1,rfl,I2,E6 l _ _ hne,⟨he,hi⟩,f2,q⟩
 ·obtain⟨its,rv,pt,_⟩:=I1.tuple hx;refine E2 (show s1.heap.IsTuple l its.toArray from pt) λh' he hi hz k=>ql he ?_;obtain⟨I2,f2⟩:=fin h' k;exact⟨_,_,_,_,H1,rfl,I2,E7 l _ _ hne,⟨he,hi⟩,f2,q⟩
theorem RS(hg:Gl X "enumerate")(hm:X.mg "enumerate"=none)(ha:PA X [a] ta)(hs:starEach [a] X.env=[(false,eval a X.env)]:=by rfl):PI X tg (.Call (.Name "enumerate" p) [a] [] pos) (w_ X.K ta):=by
 intro pins s σ H R I h;refine Call_ (iA I hg hm boot_enumerate (kH (aE (ha pos pins s σ H _ I h) λus s1 ⟨vs,H1,I1,r1,q1⟩=>?_) hs rfl));obtain⟨l,rfl,q⟩:=q1;obtain⟨u,rfl,r⟩:=vals1 r1;cases r;exact RR I1 q
end
def qm(X:Cx):Cx:={X with A:=X.A.in1.in1}
theorem inv2{X:Cx}{pins:List (Addr×Obj)}{σ:L2.St}{H:Hp}{s:Shared}(I:Inv X pins σ H s):Inv (qm X) pins σ H s :=
 ⟨⟨I.ok.mod,I.ok.kind,I.ok.glob,I.ok.blt,I.ok.above,I.ok.inj,I.ok.has,I.ok.cab,I.ok.hd,I.ok.frames,I.ok.kP,I.ok.oR,I.ok.bs,I.ok.gC,I.ok.jY,I.ok.jZ,I.ok.eO,I.ok.iz⟩,I.os,I.bare,I.base,I.loc,I.cell,I.free,I.eP,I.pin,I.hok,I.len⟩
theorem E8{X:Cx}{pins:List (Addr×Obj)}{σ:L2.St}{H:Hp}{s:Shared}(I:Inv (qm X) pins σ H s)(ok:X.Ok):Inv X pins σ H s:=⟨ok,I.os,I.bare,I.base,I.loc,I.cell,I.free,I.eP,I.pin,I.hok,I.len⟩
theorem E9{X:Cx}{pins:List (Addr×Obj)}{H:Hp}{b:Addr}(h:dq X pins H b):dq (qm X) pins H b:=h
section
variable{X:Cx}{pins:List (Addr×Obj)}{σ:L2.St}{J:It}{fp:List Addr}{it D:Addr}{tn:Nat->Heap->Prop}{R:Result->Shared->Prop}
theorem RT(hc:X.calm=true)(ok:X.Ok){nx:Str}{px:Pos}(T:Turn X.prog X.w X.K (.Name nx px) J fp it tn)(W:Nat->Nat->Hp->Prop)
 (turn:∀i m H2,W i m H2->(J.stop i H2/\∀s',Inv X pins σ H2 s'->R (.ok (.ret .none)) s')∨(J.go i H2/\∀v H',J.j5 i H2 v H'->∃ys,H' D=some (.lst ys)/\ys.length<sizeLine/\∃m',m'<m/\W (i+1) m' (upd H' D (.lst (ys++[v]))))) :
 ∀(m i:Nat) (H2:Hp) (s:Shared),W i m H2->Inv X pins σ H2 s->(∀b∈fp,dq X pins H2 b)->tn i s.heap->codeAny (model X.prog X.w) X.A.in1 (.builtin "list.extend.loop" ⟨[.ref D,.ref it,.none],[]⟩) R s:=by
 intro m
 induction m using JN with
 |ind m ih =>
  intro i H2 s w I hf st;refine codeAny_builtin PySem.F.entry_extend_loop ?_;rw[Around.under_plainId Ao _];show wpAny _ X.A.in1.in1 (pyNext (.ref it) >>= _) _ _ s;rcases turn i m H2 w with⟨stop,fin⟩|⟨go,step⟩
  ·refine aj (aE (T.done (qm X) rfl rfl rfl hc i pins s σ H2 _ (inv2 I) (λb hb=>E9 (hf b hb)) st stop) λr s1 ⟨hr,I1⟩=>?_);subst hr;exact aG (fin s1 (E8 I1 ok))
  ·refine aj (aE (T.item (qm X) rfl rfl rfl hc i pins s σ H2 _ (inv2 I) (λb hb=>E9 (hf b hb)) st go) λr s1 ⟨u,hr,h1⟩=>?_);subst hr;show wpAny _ X.A.in1.in1 (letOwnedTupleGo (.Name nx px) (.ref it) u >>= λ_=>updateSeq D (·.push u) >>= λ_=>again (.builtin "list.extend.loop" ⟨[.ref D,.ref it,.none],[]⟩)) _ _ s1;refine aj (aE h1 λ_ s2 ⟨v,H3,I3,rv,hy,st3,hU⟩=>?_);obtain⟨ys,hD,hz,m',hm,w'⟩:=step v H3 hy;have E_:=E8 I3 ok;obtain⟨z,its,n,r,hl,e⟩:=E_.kX hD;have I4:=E_.rX (its':=its++[u]) (f:=(·.push u)) (t':=s2.toks) hD e (by simp) (r.append (.cons rv .nil)) (by rw[ba,jd];lia);have hDf:∀b∈fp,b≠D:=λb hb z=>by rw[z]at hb;rw[hU D hb]at hD;cases hD
   refine aj (uV e rfl (aG ⟨plainId_quiet Ao _,ih m' hm (i+1) _ _ w' I4 (λb hb=>?_) (T.keep _ _ _ st3 λb hb o q=>?_)⟩) ?_)
   ·obtain⟨f0,f⟩:=hf b hb;exact⟨by rw[a_ (hDf b hb)];exact hU b hb,f⟩
   ·exact(oA _ _ (cG (hDf b hb))).trans q
   ·simp only[b7,Array.size_push];have:=r.length;lia
end
namespace FE
theorem RU:typeLookup (.type "enumerate") "__len__"=pure none:=by rw[typeLookup_type,JO];kernel_rfl
theorem RV:typeLookup (.type "enumerate") "__length_hint__"=pure none:=by rw[typeLookup_type,JO];kernel_rfl
end FE
section
variable{X:Cx}{a:Expr}{ta:TA}{p p2 pos pos2:Pos}{g:TG}{tt:TT}{te:TE}
theorem RW(hc:X.calm=true)(gl:Gl X "list")(ml:X.mg "list"=none)(ge:Gl X "enumerate")(me:X.mg "enumerate"=none)(ha:PA X [a] ta)
 (hg:∀v o H Q,g v [o] H Q->Q [some v] H) (ht:∀τ H Q,tt τ H Q->Q true H) (he:∀v H Q,te [some v] H Q->Q v H)
 (hs:starEach [.Call (.Name "enumerate" p2) [a] [] pos2] X.env=[(false,eval (.Call (.Name "enumerate" p2) [a] [] pos2) X.env)]:=by rfl) (hs2:starEach [a] X.env=[(false,eval a X.env)]:=by rfl) :
 PE X (.Call (.Name "list" p) [.Call (.Name "enumerate" p2) [a] [] pos2] [] pos) (sY (w_ X.K ta) g tt te 1 []):=by
 intro pins s σ H Q I h;refine Call_ (iA I gl ml boot_list (kH ?_ hs rfl));rw[hs];show wpAny _ _ (spliced ((false,eval (.Call (.Name "enumerate" p2) [a] [] pos2) X.env)::backTo pos [])) _ _ s;refine uo (Call_ (iA I ge me boot_enumerate (kH (aE (ha pos2 pins s σ H _ I h) λus s1 ⟨vs,H1,I1,r1,q1⟩=>?_) hs2 rfl)));obtain⟨l,rfl,q⟩:=q1;obtain⟨u,rfl,r⟩:=vals1 r1;cases r;have main:∀(J:It) (tn:Nat->Heap->Prop) (h':Heap),Turn X.prog X.w X.K (.Name "x" p) J [s1.heap.objs.size+1,s1.heap.objs.size] (s1.heap.objs.size+1) tn->tn 0 h'->(∀i h,tn i h->gn h (s1.heap.objs.size+1) s1.heap.objs.size i)->h'.objs.size=s1.heap.objs.size+2 ->
  (∀b o,s1.heap.get? b=some o->h'.get? b=some o) ->
  (∀D,H1 D=none->∃W:Nat->Nat->L2.St->Hp->Prop,(∃m,W 0 m (eG 1 none++pick σ []) (upd H1 D (.lst []))) /\
   ∀i m τ H2,W i m τ H2->(J.stop i H2/\Q (.ref D) H2)∨(J.go i H2/\∃N:L2.St->Hp->Prop,(∀a8 H',N a8 H'->∃m',m'<m/\W (i+1) m' a8 H')/\∀v H',J.j5 i H2 v H' ->
    g v τ H' λa8 H3=>tt a8 H3 λb H4=>if b=true then te a8 H4 λy H5=>∃ys,H5 D=some (.lst ys)/\ys.length<sizeLine/\N a8 (upd H5 D (.lst (ys++[y]))) else N a8 H4)) ->
  wpAny (model X.prog X.w) X.A (spliced (backTo pos [])) (λvs s3=>wpAny (model X.prog X.w) X.A (call (.type "list") (.ref (s1.heap.objs.size+1)::vs)) (EP X pins σ Q) X.xe s3) X.xe {s1 with heap:=h'}:=λJ tn h' T st hE hz k q=>by
  refine zp ?_;have I2:Inv X pins σ H1 {s1 with heap:=h'}:=I1.kept (t':=s1.toks) k;have f2:∀b∈[s1.heap.objs.size+1,s1.heap.objs.size],dq X pins H1 b:=λb hb=>by
   have cl:s1.heap.objs.size<=b:=by
    simp only[a9,bZ,or_false]at hb;lia
   exact I1.j6 cl (I1.hok.fresh cl)
  have RX:H1 h'.objs.size=none:=I2.hok.fresh (aX _);obtain⟨W,⟨m0,w0⟩,turn⟩:=q h'.objs.size RX;have I3:Inv X pins σ (upd H1 h'.objs.size (.lst [])) {s1 with heap:=h'.push {cls:=.type "list",data:=.seq #[]}}:=I2.rY (its:=[]) (t':=s1.toks) .nil (dQ _);have st3:tn 0 (h'.push {cls:=.type "list",data:=.seq #[]}):=T.keep _ _ _ st λb hb o q=>bC _ q;have ne3:∀b∈[s1.heap.objs.size+1,s1.heap.objs.size],b≠h'.objs.size:=λb hb=>by
   simp only[a9,bZ,or_false]at hb;rw[hz];lia
  have f3:∀b∈[s1.heap.objs.size+1,s1.heap.objs.size],dq X pins (upd H1 h'.objs.size (.lst [])) b:=λb hb=>by
   obtain⟨f0,f⟩:=f2 b hb;exact⟨by rw[a_ (ne3 b hb)];exact f0,f⟩
  refine callType_codes (Q₁:=λobj s₁=>obj=.ref h'.objs.size/\s₁={s1 with heap:=h'.push {cls:=.type "list",data:=.seq #[]}}) PySem.F.called_list (PySem.F.typeCall_list_1 _) PySem.F.entry_list_init
   (code_list_new (s:={s1 with heap:=h'}) _ ⟨rfl,rfl⟩) λobj s₁ h₁=>?_
  obtain⟨rfl,rfl⟩:=h₁;have hS:(h'.push {cls:=.type "list",data:=.seq #[]}).get? h'.objs.size=some {cls:=.type "list",data:=.seq #[]}:=dn _ rfl;refine⟨⟨_,hS,rfl⟩,PySem.F.args_list_init_2 _ _,?_⟩;show wpAny _ X.A.in1.in1 (do let old <-JP (.ref h'.objs.size);Builtin.List.listUpdate (.ref h'.objs.size) (λ_=>#[]);letGo old.toList.reverse;Ap (.ref h'.objs.size) (.ref (s1.heap.objs.size+1)) .none) _ _ _;refine aj ?_;unfold JP;refine aj (ja hS rfl (aG ?_));show wpAny _ X.A.in1.in1 (updateSeq h'.objs.size (λ_=>#[]) >>= λ_=>letGo (#[]:Array Value).toList.reverse >>= λ_=>Ap (.ref h'.objs.size) (.ref (s1.heap.objs.size+1)) .none) _ _ _;have upI:∀{Hx:Hp} {sx:Shared} (f:Array Value->Array Value) (its its':List Value) (n:Nat),Inv X pins σ Hx sx->Hx h'.objs.size=some (.lst [])->sx.heap.get? h'.objs.size=some {cls:=.type "list",data:=.seq its.toArray n}->True:=λ_ _ _ _ _ _ _=>trivial;refine aj (uV hS rfl ?_);have e4:=qS (eI (λ_=>(#[]:Array Value))) hS rfl;have k4:∀b o,b≠h'.objs.size->(h'.push {cls:=.type "list",data:=.seq #[]}).get? b=some o->((h'.push {cls:=.type "list",data:=.seq #[]}).update h'.objs.size (eI (λ_=>(#[]:Array Value)))).get? b=some o:=λb o n q=>(oA _ _ (cG n)).trans q;refine aj (oH ?_);unfold Ap;have lu:tn 0 ((h'.push {cls:=.type "list",data:=.seq #[]}).update h'.objs.size (eI (λ_=>(#[]:Array Value)))):=T.keep _ _ _ st3 λb hb o q=>k4 b o (ne3 b hb) q;generalize hg4:(h'.push {cls:=.type "list",data:=.seq #[]}).update h'.objs.size (eI (λ_=>(#[]:Array Value)))=h4 at e4 k4 lu;have xa:({s1 with heap:=h4}:Shared).TypeIs (.ref (s1.heap.objs.size+1)) "enumerate":=by obtain⟨_,_,_,_,q⟩:=hE 0 _ lu;exact⟨_,q,rfl⟩
  refine aj (qR xa ?_);have h1:JQ (.ref h'.objs.size) (.ref (s1.heap.objs.size+1))=false:=by
   have:h'.objs.size≠s1.heap.objs.size+1:=by rw[hz];lia
   simp[JQ,this]
  have h2:(Value.type "enumerate"==Value.type "list")=false:=by decide
  have h3:(Value.type "enumerate"==Value.type "tuple")=false:=by decide
  simp only[h1,h2,h3,Ja,i_,if_false];refine aj (ql (s:={s1 with heap:=h4}) (hE 0 _ lu) ?_);refine aj (mf ?_);unfold Builtin.List.listLengthHint;refine aj (oq xa FE.RU ?_);show wpAny _ X.A.in1.in1 (specialOf (Value.ref (s1.heap.objs.size+1)) (iq "__length_hint__") >>= _) _ _ _;refine aj (oq xa FE.RV ?_);refine aG ?_;show wpAny _ X.A.in1.in1 (rule "list.extend.makes-room" >>= λ_=>Builtin.List.listTouch (.ref h'.objs.size) >>= λ_ =>
   again (.builtin "list.extend.loop" ⟨[.ref h'.objs.size,.ref (s1.heap.objs.size+1),.none],[]⟩)) _ _ _
  refine aj (kG ?_);refine aj ?_;show wpAny _ X.A.in1.in1 (updateSeq h'.objs.size (·.push .none) >>= λ_=>updateSeq h'.objs.size (·.pop)) _ _ _;refine aj (uV e4 rfl ?_);have e5:=qS (eI (·.push Value.none)) e4 rfl;refine uV (hz:=by seq_fits) e5 rfl ?_;have e6:=qS (eI (·.pop)) e5 rfl;have k6:∀b o,b≠h'.objs.size->h4.get? b=some o->((h4.update h'.objs.size (eI (·.push Value.none))).update h'.objs.size (eI (·.pop))).get? b=some o :=
   λb o n q=>(oA _ _ (cG n)).trans ((oA _ _ (cG n)).trans q)
  have I6:Inv X pins σ (upd H1 h'.objs.size (.lst [])) {s1 with heap:=(h4.update h'.objs.size (eI (·.push Value.none))).update h'.objs.size (eI (·.pop))}:=by
   have:=I3.write (x:=h'.objs.size) (e:=h'.objs.size) (o:=.lst []) (t':=s1.toks) (h':=(h4.update h'.objs.size (eI (·.push Value.none))).update h'.objs.size (eI (·.pop))) (by rw[d7];trivial) (.inl rfl) (λb u n q=>k6 b u n (k4 b u n q)) ⟨_,e6⟩ ⟨dQ _,[],_,.nil,e6⟩;rw[Kj]at this;exact this
  refine aG ⟨plainId_quiet Ao _,?_⟩;refine RT (X:=X) (pins:=pins) (σ:=σ) (D:=h'.objs.size) hc I.ok T (λi m Hx=>∃o,W i m [o] Hx) ?_ m0 0 _ _ ⟨none,w0⟩ I6 f3 (T.keep _ _ _ lu λb hb o q=>k6 b o (ne3 b hb) q);rintro i m H2 ⟨o,w⟩;rcases turn i m [o] H2 w with⟨stop,qe⟩|⟨go,N,hN,step⟩
  ·exact .inl ⟨stop,λs' I'=>⟨rfl,.ref _,H2,I',rfl,qe⟩⟩
  ·refine .inr ⟨go,λv Hy hy=>?_⟩;have:=ht _ _ _ (hg v o Hy _ (step v Hy hy));rw[if_pos rfl]at this;obtain⟨ys,h1,h2,h3⟩:=he v Hy _ this;obtain⟨m',hm,w'⟩:=hN _ _ h3;exact⟨ys,h1,h2,m',hm,_,w'⟩
 have Fb:s1.heap.objs.size+1≠s1.heap.objs.size:=by lia
 rcases q with⟨⟨xs,hx⟩,q⟩|⟨⟨xs,hx⟩,q⟩
 ·obtain⟨its,rv,pt,_⟩:=I1.list hx;exact E4 pt.isList λh' hen hi hz k=>main _ _ h' (E6 l _ _ Fb) ⟨hen,hi⟩ (λi h z=>z.1) hz k q
 ·obtain⟨its,rv,pt,_⟩:=I1.tuple hx;exact E2 (show s1.heap.IsTuple l its.toArray from pt) λh' hen hi hz k=>main _ _ h' (E7 l _ _ Fb) ⟨hen,hi⟩ (λi h z=>z.1) hz k q
end
end EE
namespace E3
open PySem PySem.Spec PyProof.Rows L2 EE
def eB(ds:List D):List D:=ds.zipIdx.map λp=>.tup [.int (p.2:Int),p.1]
theorem nk{ds:List D}{i:Nat}:(eB ds)[i]?=(ds[i]?).map λd=>D.tup [.int (i:Int),d]:=by
 unfold eB;rw[aJ,Aq];cases ds[i]?<;>simp
theorem nq{ds:List D}:(eB ds).length=ds.length:=by simp[eB]
def tN(R:RI)(xs:List D)(S:af):Prop:=∃x ds,xs=[x]/\((∃a,x=.ref a/\S a=some (.lst ds)/\R (eB ds) (λS=>S a=some (.lst ds)) S)∨(x=.tup ds/\R (eB ds) (λ_=>True) S))
def tO(ta:cy):dX:=λσ S R=>ta σ S λxs S1=>tN R xs S1
theorem Fc{K:ak}{Z:Zt}{sq:Hp->List V->Prop}{xs:List V}{d:D}{x:V}{i:Nat}{S:af}{H:Hp}(l:Rl K Z S H)(hs:sq H xs)(hx:xs[i]?=some x)(rx:Rp K H d x) :
 (iX sq).go i H/\∀v H',(iX sq).j5 i H v H'->Kp Z H H'/\Rp K H' (.tup [.int (i:Int),d]) v/\(∀S',Rl K Z S' H->Rl K Z S' H')/\∀b,H b≠none->H' b=H b:=by
 refine⟨⟨xs,hs,(bH.mp hx).1⟩,?_⟩;rintro v H' ⟨T,y,rfl,hT,rfl,fy⟩;have ey:y=x:=by
  have:=fy _ hs;rw[hx]at this;exact(cS this).symm
 subst ey;obtain⟨_,hz⟩:=l.fresh hT;have kn:Kp Z H (upd H T (.tup [.int i,y])):=Kp.new hT hz;exact⟨kn,.tup d7 (.cons (.int _) (.cons (rx.mono kn) .nil)),λS' l'=>l'.lay hT,λb hb=>a_ λe=>hb (e▸hT)⟩
theorem RY{K:ak}{Z:Zt}{a:Addr}{xs:List V}{ds:List D}{H1:Hp}(h1:bq K H1 a xs)(r1:aN K H1 ds xs):Wk K Z (iX λH xs=>bq K H a xs) (eB ds) (λ_=>True) H1:=by
 constructor
 ·intro i d S H k l _ hd;rw[nk]at hd;obtain⟨e,he,rfl⟩:=bU.mp hd;obtain⟨x,hx,rx⟩:=r1.at he;exact Fc l (k.h_ h1) hx (rx.mono k)
 ·intro S H k l _;refine⟨xs,k.h_ h1,?_⟩;rw[nq,r1.len];exact aX _
theorem RZ{K:ak}{Z:Zt}{a:Addr}{ds:List D}{H1:Hp}:Wk K Z (iX λH xs=>a6 K H a xs) (eB ds) (λS=>S a=some (.lst ds)) H1:=by
 constructor
 ·intro i d S H k l al hd;rw[nk]at hd;obtain⟨e,he,rfl⟩:=bU.mp hd;obtain⟨ws,h3,h4⟩:=l.obj a _ al;obtain⟨x,hx,rx⟩:=h4.at he;exact Fc l (a6.of h3) hx rx
 ·intro S H k l al;obtain⟨ws,h3,h4⟩:=l.obj a _ al;refine⟨ws,a6.of h3,?_⟩;rw[nq,h4.len];exact aX _
theorem Fe{K:ak}{Z:Zt}{ta:cy}{τ:L2.St}{H:Hp}{R:It->Hp->Prop}(h:lI K Z (tO ta) τ H R):w_ K (lA K Z ta) τ H R:=by
 obtain⟨σ,S,R3,hs,hr,ht,hc⟩:=h;refine⟨σ,S,_,hs,hr,ht,λxs S1 vW H1 k1 r1 l1 q1=>?_⟩;obtain⟨x,ds,rfl,q⟩:=q1;cases r1 with
 |cons r1 rr =>
  cases rr;rcases q with⟨a,rfl,hS,q⟩|⟨rfl,q⟩
  ·cases r1;obtain⟨vs,h1,h2⟩:=l1.obj a _ hS;exact⟨a,rfl,.inl ⟨⟨vs,a6.of h1⟩,hc _ _ S1 _ H1 k1 l1 q RZ⟩⟩
  ·cases r1 with
   |tup h1 h2=>exact⟨_,rfl,.inr ⟨⟨_,h1⟩,hc _ _ S1 _ H1 k1 l1 q (RY h1 h2)⟩⟩
section
variable{X:Cx}{W3:bE}{tg:Expr}{pos pos2 p p2:Pos}{a:Expr}{ta:cy}{σ:aF}{S:af}{R:RI}{al:cy}
theorem tP(hg:Gl X "enumerate")(hm:X.mg "enumerate"=none)(ha:d9 X W3 [a] ta)(hs:starEach [a] X.env=[(false,eval a X.env)]:=by rfl):eV X W3 tg (.Call (.Name "enumerate" p) [a] [] pos) (tO ta) :=
 λZ=>PI.imp (RS hg hm (ha Z) hs) λ_ _ _ h=>Fe h
theorem R0(h:al σ S λxs S1=>tN R xs S1):tO al σ S R:=h
theorem Ff{b:Addr}{ds:List D}(hS:S b=some (.lst ds))(q:R (eB ds) (λS=>S b=some (.lst ds)) S):tN R [.ref b] S:=⟨_,ds,rfl,.inl ⟨b,rfl,hS,q⟩⟩
theorem R4{ds:List D}(q:R (eB ds) (λ_=>True) S):tN R [.tup ds] S:=⟨_,ds,rfl,.inr ⟨rfl,q⟩⟩
theorem R5(gl:Gl X "list")(ml:X.mg "list"=none)(ge:Gl X "enumerate")(me:X.mg "enumerate"=none)(hc:X.calm=true)(ha:d9 X W3 [a] ta)
 (hs:starEach [.Call (.Name "enumerate" p2) [a] [] pos2] X.env=[(false,eval (.Call (.Name "enumerate" p2) [a] [] pos2) X.env)]:=by rfl) (hs2:starEach [a] X.env=[(false,eval a X.env)]:=by rfl) :
 aH X W3 (.Call (.Name "list" p) [.Call (.Name "enumerate" p2) [a] [] pos2] [] pos) (iU (tO ta) iT kh (v3 0) []):=λZ=>by
 refine PE.imp (RW (g:=wC X.K (iL 0)) (tt:=tq X.K kh) (te:=vZ X.K (v3 0)) hc gl ml ge me (ha Z) ?_ ?_ ?_ hs hs2) λτ H Q h=>?_
 ·rintro v o H Q ⟨Z',d,σ,S,Q3,rd,rs,rl,t,c⟩;cases rs with
  |cons r1 r2 =>
   cases r2;exact c _ S [some v] H (Kp.refl _ _) (.cons (λd' e=>by cases e;exact⟨v,rfl,rd⟩) .nil) rl t
 ·rintro τ H Q ⟨Z',σ,S,Q3,rs,rl,t,c⟩;exact c true S H (Kp.refl _ _) rl t
 ·rintro v H Q ⟨Z',σ,S,Q3,rs,rl,⟨d,hd,q⟩,c⟩;obtain⟨v',h1,h2⟩:=rs.at hd;have e:v'=v:=by simpa using h1.symm
  subst e;exact c d S v' H (Kp.refl _ _) h2 rl q
 ·exact Fe (tw tu h)
theorem R6{n:Nat}{xs:List D}{t:iM}{Q:aF->af->Prop}(hn:xs.length=n)(h:t xs σ S Q):so n t (.tup xs) σ S Q:=⟨xs,rfl,hn,h⟩
theorem R7{v:D}{r:List D}{t:dw}{u:iM}{Q:aF->af->Prop}(h:t v σ S λσ' S'=>u r σ' S' Q):mK t u (v::r) σ S Q:=⟨v,r,rfl,h⟩
theorem R8{Q:aF->af->Prop}(h:Q σ S):sm [] σ S Q:=⟨rfl,h⟩
end
end E3
namespace EE
open PySem PySem.Spec PyProof.Rows L2
section
variable{X:Cx}
theorem R9{n:Nat}(hu:X.A.units+(n+1)<cLine):bT X (compareOp .In) (λx y H Q=>∃d p xs ds,DR X.K H d x/\y=.ref p/\a6 X.K H p xs/\dk X.K H ds xs/\(∀e∈ds,cK e<=n)/\Q (.bl (ds.any λe=>aR e d)) H):=by
 intro pins s σ H x y v u Q I rx ry h;obtain⟨d,p,xs,ds,hd,rfl,hq,hds,hn,q⟩:=h;cases ry;obtain⟨its,r,pl,hz⟩:=I.list hq;have hl1:=r.length;have hl2:=hds.len;have hl3:ds.length=its.length:=by lia
 have each:∀(i:Nat) (w:Value),its[i]?=some w->∃e z,ds[i]?=some e/\DR X.K H e z/\RelV z w/\ux X.A.in1 s w v (aR e d):=λi w hw=>by
  have hi:i<xs.length:=by have:=(bH.mp hw).1;lia
  obtain⟨w',hw',fJ⟩:=r.get (aV hi);rw[hw]at hw';cases hw';obtain⟨e,he,hde⟩:=hds.at (aV hi);exact⟨e,xs[i],he,hde,fJ,(vH I n X.A.in1 e d xs[i] x w v (hn e (cj he)) (by show X.A.units+1+n<cLine;lia) hde hd fJ rx).2⟩
 classical
 refine Jc (λw=>decide (∃(i:Nat) (e:Dt),its[i]?=some w/\ds[i]?=some e/\aR e d=true)) pl.isList (λw hw=>?_) ⟨.bl _,H,I,rfl,?_⟩
 ·obtain⟨i,hi,ew⟩:=iw (show w∈its by simpa using hw);have Fg:its[i]?=some w:=by rw[aV hi,ew]
  obtain⟨e,z,he,hde,rz,R_⟩:=each i w Fg;have ef:decide (∃(i:Nat) (e:Dt),its[i]?=some w/\ds[i]?=some e/\aR e d=true)=aR e d:=by
   rw[e_,decide_eq_true_iff];refine⟨λ⟨j,e',h1,h2,h3⟩=>?_,λh3=>⟨i,e,Fg,he,h3⟩⟩;obtain⟨e2,z2,he2,R',Sa,_⟩:=each j w h1;rw[h2]at he2;cases he2;have ez:z2=z:=Sa.inj rz;subst ez;rw[DR.inj I hde R'];exact h3
  rw[ef];exact R_
 ·have eb:(its.toArray.any λw=>decide (∃(i:Nat) (e:Dt),its[i]?=some w/\ds[i]?=some e/\aR e d=true))=ds.any λe=>aR e d:=by
   rw[e_];simp only[List.any_toArray,mr,decide_eq_true_iff];constructor
   ·rintro⟨w,_,i,e,_,h2,h3⟩;exact⟨e,cj h2,h3⟩
   ·rintro⟨e,he,h3⟩;obtain⟨i,hi,rfl⟩:=iw he;exact⟨its[i],mq _,i,_,aV (by lia),aV hi,h3⟩
  rw[eb];exact q
end
end EE
namespace E3
open PySem PySem.Spec PyProof.Rows L2 EE
section
variable{P:Program}{w:World}{K:PySem.W.Frag}{mg:Str->Option Value}{base:Heap}{x:Str}{st:Stmt}{N ps:List Str}{k:Nat}
def ku(A:List D->af->(D->af->Prop)->(Addr->Prop)->Prop):aS:=λds S Q W=>A ds S Q λC=>∀a,W C a S
theorem _root_.EE.aB.ku{A:List D->af->(D->af->Prop)->(Addr->Prop)->Prop}(h:aB K mg x st ps)(S:bc N ps (ao st))(len:∀ds S q qx,A ds S q qx->ds.length=ps.length)
 (hbody:∀(f:Addr) (cdv:Value) (Ar:Around) (outer:List Env) (s:Shared) (H:Hp) (E:XK) (ds:List D) (S:af) (q:D->af->Prop) (qx:Addr->Prop),cu k (Ar.deeper (envOfC x (ao st) s.heap.objs.size f cdv))->A ds S q qx ->
  ∃t,cQ (cP (bW P w) P w K mg base N x (ao st) f cdv Ar outer s H E) (λ_ C _ S'=>Sub S S'/\qx C) (a7 st) t /\
   t {nx:=λ_ S'=>∃T,Sub T S'/\q .non T,rt:=λd S'=>∃T,Sub T S'/\q d T} (dJ N ds) S):av P w K mg base (k+1) x ps (ku A):=by
 have C:av P w K mg base (k+1) x ps (λds S Q E=>∃q qx,A ds S q qx/\(∀d S',(∃T,Sub T S'/\q d T)->Q d S')/\∀C a S',Sub S S'/\qx C->E C a S'):=by
  refine h.sM S (λvs H Q E ck=>by obtain⟨q,qx,z,_⟩:=ck;exact len _ _ _ _ z) λf cdv Ar outer s H E ds S3 Q E3 hr ⟨q,qx,z,hq,hx⟩=>?_;obtain⟨t,h1,h2⟩:=hbody f cdv Ar outer s H E ds S3 _ _ hr z;exact⟨t,λd S'=>∃T,Sub T S'/\q d T,λC _ S'=>Sub S3 S'/\qx C,h1,h2,hq,hx⟩
 exact C.wo.imp λds S Q E z=>⟨_,_,z,λd S1 d_=>by obtain⟨T,hs,hq⟩:=d_;exact⟨T,hs,hq⟩,λC a S1 hx=>⟨S,hx.1,hx.2 a⟩⟩
end
section
variable{K:PySem.W.Frag}{S:af}{Q:K3}
def Fh(n:Nat):R3:=λx y S Q=>∃d a xs ds,Dn S x d/\y=.ref a/\S a=some (.lst xs)/\dm S xs ds/\(∀e∈ds,cK e<=n)/\Q (.bl (ds.any λe=>aR e d)) S
theorem Sb{n:Nat}:cC K (Fh n) (λx y H Q=>∃d p xs ds,DR K H d x/\y=.ref p/\a6 K H p xs/\dk K H ds xs/\(∀e∈ds,cK e<=n)/\Q (.bl (ds.any λe=>aR e d)) H):=by
 intro Z x y S Q3 v w H Q rx ry l h c;obtain⟨d,a,xs,ds,h1,rfl,h2,h3,hn,q⟩:=h;cases ry;obtain⟨vs,h4,h5⟩:=l.obj a _ h2;exact⟨d,a,vs,ds,h1.down l rx,rfl,a6.of h4,h3.down l h5,hn,c _ S _ H (Kp.refl _ _) (.bl _) l q⟩
end
abbrev Gr:=Str×Str×b9
abbrev cb(g h:Gr):Bool:=decide (g.2.1=h.1)
def bf(g h:Gr):Gr:=(g.1,h.2.1,gP g.2.2 h.2.2)
def dP(w:List Int):D:=.tup (w.map D.int)
def bO(p:Gr×List Int):D:=.tup [aq p.1,dP p.2]
def jB(p:Int×Gr):D:=.tup [.int p.1,aq p.2]
theorem kx(g:Gr):(aq g).pure=true:=QQ ..
theorem qo(g:Gr):cK (aq g).dt<=10:=QR ..
theorem Fi:∀r:List Int,D.b8 (r.map D.int)=r.map Dt.int
 |[]=>rfl
 |x::r=>by rw[bo,bo,D.b8,Fi r];rfl
theorem Fj:∀A:b9,D.b8 (A.map bg)=A.map λr=>Dt.tup (r.map Dt.int)
 |[]=>rfl
 |r::A=>by rw[bo,bo,D.b8,Fj A];simp only[bg,D.dt,Fi]
theorem xb(g:Gr):(aq g).dt=.tup [.str g.1,.str g.2.1,.tup (g.2.2.map λr=>Dt.tup (r.map Dt.int))]:=by
 simp only[aq,cz,dN,D.dt,D.b8,Fj]
theorem Fk:∀r:List Int,hZ (r.map Dt.int)=true
 |[]=>rfl
 |x::r=>by simp only[bo,hZ,hX,Fk r,l9]
theorem Fl:∀A:b9,hZ (A.map λr=>Dt.tup (r.map Dt.int))=true
 |[]=>rfl
 |r::A=>by simp only[bo,hZ,hX,Fk r,Fl A,l9]
theorem Fm(g:Gr):hX (aq g).dt=true:=by
 rw[xb];simp only[hX,hZ,Fl,l9]
theorem Fn:∀{r r':List Int},r.map Dt.int=r'.map Dt.int->r=r'
 |[],[],_=>rfl
 |[],_::_,h=>by cases h
 |_::_,[],h=>by cases h
 |x::r,y::r',h=>by
  simp only[bo,oJ,Dt.int.injEq]at h;rw[h.1,Fn h.2]
theorem Fo:∀{A B:b9},(A.map λr=>Dt.tup (r.map Dt.int))=(B.map λr=>Dt.tup (r.map Dt.int))->A=B
 |[],[],_=>rfl
 |[],_::_,h=>by cases h
 |_::_,[],h=>by cases h
 |r::A,r'::B,h=>by
  simp only[bo,oJ,Dt.tup.injEq]at h;rw[Fn h.1,Fo h.2]
theorem Sd{g h:Gr}(e:(aq g).dt=(aq h).dt):g=h:=by
 rw[xb,xb]at e;simp only[Dt.tup.injEq,oJ,Dt.str.injEq,and_true]at e;obtain⟨g1,g2,g3⟩:=g;obtain⟨h1,h2,h3⟩:=h;obtain⟨e1,e2,e3⟩:=e;dsimp only at e1 e2 e3;rw[e1,e2,Fo e3]
theorem xc(g h:Gr):aR (aq g).dt (aq h).dt=decide (g=h):=by
 by_cases e:g=h
 ·rw[e,j8];simp
 ·rw[decide_eq_false e];cases c:aR (aq g).dt (aq h).dt with
  |false=>rfl
  |true=>exact absurd (Sd (BJ (Fm g) (Fm h) c)) e
section
variable{S:af}{Q:K3}
theorem Se{a:Addr}{gs:List Gr}{g:Gr}{n:Nat}(hn:10<=n)(hS:S a=some (.lst (gs.map aq)))(q:Q (.bl (decide (g∈gs))) S):Fh n (aq g) (.ref a) S Q:=by
 refine⟨(aq g).dt,a,gs.map aq,D.b8 (gs.map aq),Dn.of (kx g),rfl,hS,dm.of (D.lh.mpr λd hd=>?_),λe he=>?_,?_⟩
 ·obtain⟨h,_,rfl⟩:=bp.mp hd;exact kx h
 ·rw[D.j']at he;obtain⟨d,hd,rfl⟩:=bp.mp he;obtain⟨h,_,rfl⟩:=bp.mp hd;exact bX (qo h) hn
 ·have e:((D.b8 (gs.map aq)).any λe=>aR e (aq g).dt)=decide (g∈gs):=by
   rw[D.j',eL,JR,e_,mr,decide_eq_true_iff];constructor
   ·rintro⟨h,hh,e⟩;have e2:aR (aq h).dt (aq g).dt=true:=e;rw[xc,decide_eq_true_iff]at e2;rw[<-e2];exact hh
   ·intro h;exact⟨g,h,by show aR (aq g).dt (aq g).dt=true;exact j8 _⟩
  rw[e];exact q
theorem Sf{g h:Gr}{n:Nat}(hn:10<=n)(q:Q (.bl (decide (g=h))) S):su n (aq g) (aq h) S Q :=
 ⟨_,_,Dn.of (kx g),Dn.of (kx h),bX (qo g) hn,by rw[xc];exact q⟩
end
structure Gd(ar:Str->Option Nat)(g:Gr):Prop where
 ex:∃m n,ar g.1=some m/\ar g.2.1=some n/\1<=m/\1<=n/\m<=4/\n<=4/\Mt m n g.2.2
theorem Gd.cmp{ar:Str->Option Nat}{g h:Gr}(hg:Gd ar g)(hh:Gd ar h)(hf:g.2.1=h.1):Gd ar (bf g h):=by
 obtain⟨m,n,e1,e2,m1,n1,m4,n4,hM⟩:=hg.ex;obtain⟨m',n',e1',e2',m1',Sg,m4',Si,hM'⟩:=hh.ex;rw[hf,e1']at e2;cases e2;exact⟨m,n',e1,e2',m1,Sg,m4,Si,hM.cmp hM' (by lia)⟩
def jC(A:b9):Bool:=(aW A.length).any λi=>decide ((A.getD i []).getD i 0=2)
def df(g:Gr):Bool:=cb g g&&(decide (bf g g=g)&&!jC g.2.2)
abbrev eX(nb:List (Int×Gr)):Option (CL.Fd Gr):=CL.fQ cb bf nb
def jD(F:CL.Fd Gr):Option (List Int):=(F.find? λp=>df p.1).map (·.2)
def cO(gs:List Gr):List (Int×Gr):=gs.zipIdx.map λp=>((p.2:Int),p.1)
theorem Sj(gs:List Gr):eB (gs.map aq)=(cO gs).map jB:=by
 unfold eB cO;apply gx;intro i;simp only[aJ,Aq];cases gs[i]?<;>simp[jB]
theorem qp{gs:List Gr}{p:Int×Gr}(h:p∈cO gs):p.2∈gs:=by
 unfold cO at h;obtain⟨q,hq,rfl⟩:=bp.mp h;exact List.fst_mem_of_mem_zipIdx hq
theorem Sk(gs:List Gr):(cO gs).length=gs.length:=by simp[cO]
end E3
namespace E3
abbrev cD(counts:List Nat):List D:=counts.map λc:Nat=>D.int (c:Int)
end E3
namespace E3
open PySem PySem.Spec PyProof.Rows L2 EE
def Sl(Nm:List Str)(g:Gr):Prop:=g.1∈Nm/\g.2.1∈Nm
def tb(xs ys:List Str)(x:Str):Str:=ys.getD (xs.idxOf x) ""
theorem Fp:∀{xs:List Str} {ns:List Nat} {y:Str} {n:Nat},dA xs ns y=some n->y∈xs
 |[],_,_,_,h=>by simp[dA]at h
 |_::_,[],_,_,h=>by simp[dA]at h
 |x::xs,m::ns,y,n,h=>by
  rw[dA]at h
  split at h
  ·rename_i e;rw[e];exact bY
  ·exact cg _ (Fp h)
end E3
namespace CL
end CL
namespace E3
open PySem PySem.Spec PyProof.Rows L2 EE
end E3
namespace EE
open PySem PySem.Spec PyProof.Rows L2
end EE
namespace E3
open PySem PySem.Spec PyProof.Rows L2 EE
section
variable{σ:aF}{S:af}{Q:K3}{QT:Bool->af->Prop}{QA:List D->af->Prop}{ta tb te:aK}{tA:cw}{t u u':bV}{al:cy}{r:R3}{n b c:aF->af->Prop}{rt:K3}{i i' Fq:Nat}{d e d2 d3:D}{D3:f7}{sp:aS}{W3:bE}{f:List D->af->K3->Prop}{ds:List D}{k:Int}{a:Addr}
theorem Sm(h:te σ S λx S1=>u D3 (σ.set i (some x)) S1):pO (pR i te) u D3 σ S:=h
theorem Sn(h:tA σ S λb' S1=>if b'=true then t ⟨u' ⟨n,rt,b,c⟩,rt,b,c⟩ σ S1 else u ⟨u' ⟨n,rt,b,c⟩,rt,b,c⟩ σ S1):pO (pP tA t u) u' ⟨n,rt,b,c⟩ σ S:=h
theorem So(h:σ[i]?=some (some (.ref a)))(hS:S a=some (.lst ds))(q:te σ S λy S1=>sA (.ref a) [y] S1 λ_ S2=>u D3 σ S2):pO (vU (vR "list" sA (v3 i) (eh te gJ))) u D3 σ S :=
 ⟨_,h,.inr (.inl ⟨rfl,ds,.inl ⟨a,rfl,hS⟩⟩),q⟩
theorem Sq(h:σ[i]?=some (some (.tup ds)))(hd:b5 ds k=some d)(q:Q d S):o3 jw (v3 i) (c3 (.int k)) σ S Q:=⟨_,h,ds,k,d,rfl,rfl,hd,q⟩
theorem Sr{es:List D}{j:Int}(h:σ[i]?=some (some (.tup ds)))(hd:b5 ds k=some (.tup es))(he:b5 es j=some d)(q:Q d S):o3 jw (o3 jw (v3 i) (c3 (.int k))) (c3 (.int j)) σ S Q:=⟨_,h,ds,k,_,rfl,rfl,hd,es,j,d,rfl,rfl,he,q⟩
theorem Ss{x z:Str}(h:σ[i]?=some (some (.tup ds)))(hx:b5 ds k=some (.str x))(q:QT (decide (x=z)) S):gI (o3 v7 (o3 jw (v3 i) (c3 (.int k))) (c3 (.str z))) σ S QT:=⟨_,h,ds,k,_,rfl,rfl,hx,x,z,rfl,rfl,_,rfl,q⟩
theorem Su(h:σ[i]?=some (some d))(q:r d e S λz S'=>∃k,z=.bl k/\QT k S'):gI (o3 r (v3 i) (c3 e)) σ S QT:=⟨d,h,q⟩
theorem Sv(h:σ[i]?=some (some d))(h':σ[i']?=some (some e))(q:r d e S λz S'=>∃k,z=.bl k/\QT k S'):gI (o3 r (v3 i) (v3 i')) σ S QT:=⟨d,h,e,h',q⟩
theorem Sw(q:ta σ S λx S1=>r x e S1 λz S'=>∃k,z=.bl k/\QT k S'):gI (o3 r ta (c3 e)) σ S QT:=q
theorem Sx(q:ta σ S λx S1=>tb σ S1 λy S2=>r x y S2 λz S'=>∃k,z=.bl k/\QT k S'):gI (o3 r ta tb) σ S QT:=q
theorem Sz(h:σ[i]?=some (some d))(q:r d e S Q):o3 r (v3 i) (c3 e) σ S Q:=⟨d,h,q⟩
theorem SA(h:σ[i]?=some (some d))(h':σ[i']?=some (some e))(q:r d e S Q):o3 r (v3 i) (v3 i') σ S Q:=⟨d,h,e,h',q⟩
theorem SD(h:σ[i]?=some (some d))(q:tb σ S λy S2=>r d y S2 Q):o3 r (v3 i) tb σ S Q:=⟨d,h,q⟩
theorem SE(q:tb σ S λy S2=>r d y S2 Q):o3 r (c3 d) tb σ S Q:=q
theorem SF(q:ta σ S λx S1=>r x e S1 Q):o3 r ta (c3 e) σ S Q:=q
theorem SG(h:σ[i]?=some (some d))(q:f [d] S Q):mJ f (eh (v3 i) gJ) σ S Q:=⟨d,h,q⟩
theorem SH(q:te σ S λx S1=>f [x] S1 Q):mJ f (eh te gJ) σ S Q:=q
theorem SI(h:σ[i]?=some (some d))(q:sp [d] S Q (W3 σ)):mT sp W3 (eh (v3 i) gJ) σ S Q:=⟨d,h,q⟩
theorem SJ(q:te σ S λx S1=>sp [x] S1 Q (W3 σ)):mT sp W3 (eh te gJ) σ S Q:=q
theorem SK(h:σ[i]?=some (some d))(h2:σ[i']?=some (some d2))(q:sp [d,d2] S Q (W3 σ)):mT sp W3 (eh (v3 i) (eh (v3 i') gJ)) σ S Q:=⟨d,h,d2,h2,q⟩
theorem SM(h:σ[i]?=some (some d))(h2:σ[i']?=some (some d2))(h3:σ[Fq]?=some (some d3))(q:sp [d,d2,d3] S Q (W3 σ)):mT sp W3 (eh (v3 i) (eh (v3 i') (eh (v3 Fq) gJ))) σ S Q:=⟨d,h,d2,h2,d3,h3,q⟩
theorem SN(h:σ[i]?=some (some d))(q:QA [d] S):eh (v3 i) gJ σ S QA:=⟨d,h,q⟩
theorem SO(h:σ[i]?=some (some d))(q:al σ S λxs S2=>QA (d::xs) S2):eh (v3 i) al σ S QA:=⟨d,h,q⟩
theorem SQ(q:QA [d] S):eh (c3 d) gJ σ S QA:=q
theorem SS(q:al σ S λxs S2=>QA (d::xs) S2):eh (c3 d) al σ S QA:=q
theorem SU(q:te σ S λx S1=>QA [x] S1):eh te gJ σ S QA:=q
end
end E3
namespace EE
open PySem PySem.Spec PyProof.Rows L2
end EE
namespace E3
open PySem PySem.Spec PyProof.Rows L2 EE
end E3
namespace EE
open PySem PySem.Spec PyProof.Rows L2
end EE
namespace E3
open PySem PySem.Spec PyProof.Rows L2 EE
end E3
namespace EE
open PySem PySem.Spec PyProof.Rows L2 Builtin Builtin.Str
end EE
namespace E3
open PySem PySem.Spec PyProof.Rows L2 EE
end E3
namespace EE
open PySem PySem.Spec PyProof.Rows L2
end EE
namespace E3
open PySem PySem.Spec PyProof.Rows L2 EE
end E3
namespace EE
open PySem PySem.Spec PyProof.Rows L2
theorem SV{prog:Program}{w:World}{K:Type}[DecidableEq K](knd:HeapKind prog w K)(d:Addr)(hd:(d==sysModules)=false) :
 MeetsIn prog w (Builtin.«dict.__len__» ⟨[.ref d],[]⟩) (λ_ R s=>∃kvs,s.heap.DictOfH knd d kvs/\R (.ok (.ret (.int kvs.length s.toks))) {s with toks:=s.toks+1}) :=
 .of_wp λA R s ck=>by
  obtain⟨kvs,hm,h⟩:=ck;obtain⟨o,es,ep,ho,hc,hdat,hk,hp,hn⟩:=hm;show wpAny _ _ (dictSize d >>= _) _ _ s;unfold dictSize;refine aj (aj (wpAny_dictEntries ho hdat (aG ?_)));show wpAny _ _ (Builtin.Dict.pendingCount d >>= _) _ _ s;refine aj (wpAny_pendingCount_other hd ?_);refine wpAny_ret_mkInt ?_;have:es.size=kvs.length:=size_of_entries hk;rw[Nat.add_zero,this];exact h
theorem SW{prog:Program}{w:World}{K:Type}[DecidableEq K]{knd:HeapKind prog w K}{A:Around}{E:Value->Shared->Prop}{s:Shared}{d:Addr}{kvs:List (K×Addr×Value)}{Q:Value->Shared->Prop}(hd:(d==sysModules)=false)(hm:s.heap.DictOfH knd d kvs)(hfit:(kvs.length:Int)<2^63)
 (h:Q (.int kvs.length (s.toks+1)) {s with toks:=s.toks+1+1}):wpAny (model prog w) A (Builtin.«len» ⟨[.ref d],[]⟩) (λfin s'=>∃r,fin=.done (.ret r)/\Q r s') E s:=by
 unfold Builtin.«len»;refine aj (m:=oneArg "len" _) (aG ?_);refine aj (m:=callSpecial? (.ref d) (iq "__len__")) (jQ (name:=iq "__len__") hm.typeIs JS
  (zV JS hm.typeIs F.entry_dict_len (F.args_dict_len_1 _) (SV knd d hd) ⟨kvs,hm,?_⟩))
 show wpAny _ _ _ _ _ {s with toks:=s.toks+1};refine aj (mf (aG ?_));refine aj (oH ?_);show wpAny _ _ (if((kvs.length:Nat):Int)<0 then _ else _) _ _ _;rw[if_neg (by lia)];show wpAny _ _ (if((kvs.length:Nat):Int)>=2^63 then _ else _) _ _ _;rw[if_neg (by lia)];exact aj (wpAny_mkInt (aG ⟨_,rfl,h⟩))
theorem Fs{X:Cx}:fI X (.builtin "len") (λxs H Q=>∃a kvs,xs=[V.ref a]/\H a=some (.dT kvs)/\Q (.int kvs.length) H):=by
 intro pins s σ H xs us Q I r h;obtain⟨a,kvs,rfl,e,q⟩:=h;obtain⟨u,rfl,ru⟩:=r.one;cases ru;obtain⟨z,hd,xs,rel,dd⟩:=BB I.hok e;have hl:kvs.length=xs.length:=Paired.length rel;refine Calls.call_function_entry kind_len plain_len entry_len (args_len1 _) (SW hd dd (by rw[<-hl];rw[zj]at z;lia) ⟨.int kvs.length,H,I.tok _,⟨_,by rw[hl]⟩,q⟩)
end EE
namespace E3
open PySem PySem.Spec PyProof.Rows L2 EE
mutual
def cY:D->Option DK
 | .int i=>some (.int i)
 | .str x=>some (.str x)
 | .tup ds=>(iY ds).map .tup
 |_=>none
def iY:List D->Option (List DK)
 |[]=>some []
 |d::ds=>(cY d).bind λk=>(iY ds).map (k::·)
end
mutual
theorem Ft{K:ak}{H:Hp}:∀{d:D} {v:V} {k:DK},Rp K H d v->cY d=some k->g9 H k v
 |_,_,_,.int i,e=>by simp only[cY,jR]at e;subst e;exact .int i
 |_,_,_,.str x,e=>by simp only[cY,jR]at e;subst e;exact .str x
 |_,_,_,.tup h1 h2,e=>by
  rw[cY]at e;obtain⟨ks,e1,e2⟩:=bU.mp e;subst e2;exact .tup h1 (Fu h2 e1)
 |_,_,_,.non,e=>by simp[cY]at e
 |_,_,_,.bl _,e=>by simp[cY]at e
 |_,_,_,.ref _,e=>by simp[cY]at e
 |_,_,_,.ty _,e=>by simp[cY]at e
 |_,_,_,.bA _ _,e=>by simp[cY]at e
theorem Fu{K:ak}{H:Hp}:∀{ds:List D} {vs:List V} {ks:List DK},aN K H ds vs->iY ds=some ks->g_ H ks vs
 |_,_,_,.nil,e=>by simp only[iY,jR]at e;subst e;exact .nil
 |_,_,_,.cons h1 h2,e=>by
  rw[iY]at e;obtain⟨k,e1,e2⟩:=eK.mp e;obtain⟨ks,e3,e4⟩:=bU.mp e2;subst e4;exact .cons (Ft h1 e1) (Fu h2 e3)
end
theorem qq{K:ak}{H:Hp}{ds:List D}{v:V}{k:DK}(r:Rp K H (.tup ds) v)(e:cY (.tup ds)=some k)(hd:k.deep<=4):∃b,v=.ref b/\gA H k b:=by
 have h:=Ft r e;cases r with
 |tup h1 h2=>exact⟨_,rfl,h,hd⟩
def cR(kvs:List (DK×D))(k:DK):Option D:=(kvs.find? λkv=>decide (kv.1=k)).map (·.2)
def jE(kvs:List (DK×D))(k:DK)(v:D):List (DK×D):=if(kvs.any λkv=>decide (kv.1=k))=true then kvs.map λkv=>if kv.1=k then(kv.1,v) else kv else kvs++[(k,v)]
abbrev TR(K:ak)(H:Hp):=Paired (λ(p:DK×D) (q:DK×V)=>p.1=q.1/\Rp K H p.2 q.2)
theorem TR.val{K:ak}{H:Hp}{kvs:List (DK×D)}{ws:List (DK×V)}(r:TR K H kvs ws)(k:DK):RO K H (cR kvs k) (fi ws k)/\(cR kvs k).isSome=(fi ws k).isSome:=by
 induction r with
 |nil=>exact⟨λd e=>(nomatch e),rfl⟩
 |@cons p q ps qs h t ih =>
  obtain⟨h1,h2⟩:=h;by_cases e:p.1=k
  ·have e2:q.1=k:=h1▸e;have a:cR (p::ps) k=some p.2:=by simp[cR,je,e]
   rw[a,r9 e2];exact⟨λd z=>by cases z;exact⟨_,rfl,h2⟩,rfl⟩
  ·have e2:¬q.1=k:=h1▸e;have a:cR (p::ps) k=cR ps k:=by simp[cR,je,e]
   rw[a,r_ e2];exact ih
theorem TR.any{K:ak}{H:Hp}{kvs:List (DK×D)}{ws:List (DK×V)}(r:TR K H kvs ws)(k:DK):(kvs.any λkv=>decide (kv.1=k))=ws.any λkv=>decide (kv.1=k):=by
 induction r with
 |nil=>rfl
 |@cons p q ps qs h t ih=>rw[kL,kL,ih,h.1]
theorem TR.repl{K:ak}{H:Hp}(k:DK){d:D}{v:V}(h:Rp K H d v):∀{kvs:List (DK×D)} {ws:List (DK×V)},TR K H kvs ws->TR K H (kvs.map λkv=>if kv.1=k then(kv.1,d) else kv) (ws.map λkv=>if kv.1=k then(kv.1,v) else kv)
 |_,_,.nil=>.nil
 |_,_,.cons (a:=p) (b:=q) ⟨e,r⟩ t=>by
  refine .cons ?_ (TR.repl k h t);dsimp only;by_cases c:q.1=k
  ·rw[if_pos c,if_pos (e▸c)];exact⟨e,h⟩
  ·rw[if_neg c,if_neg (e▸c)];exact⟨e,r⟩
theorem TR.put{K:ak}{H:Hp}{kvs:List (DK×D)}{ws:List (DK×V)}(r:TR K H kvs ws)(k:DK){d:D}{v:V}(h:Rp K H d v):TR K H (jE kvs k d) (putK ws k v):=by
 unfold jE putK;rw[r.any k]
 split
 ·exact TR.repl k h r
 ·exact iI r (.cons ⟨rfl,h⟩ .nil)
def Fv:aK:=λ_ S Q=>∀p,S p=none->Q (.ref p) (up S p (.tab []))
def lC(neg:Bool)(Q:K3)(x y:D)(S:af):Prop:=∃a kvs ds k,x=.ref a/\S a=some (.tab kvs)/\y=.tup ds/\cY (.tup ds)=some k/\k.deep<=4/\Q (.bl (if neg then !(cR kvs k).isSome else(cR kvs k).isSome)) S
def qr(neg:Bool)(ty td:aK):aK:=λσ S Q=>ty σ S λy S1=>td σ S1 λx S2=>lC neg Q x y S2
def qt(n:aF->af->Prop)(σ:aF)(v x y:D)(S:af):Prop:=∃a kvs ds k,x=.ref a/\S a=some (.tab kvs)/\y=.tup ds/\cY (.tup ds)=some k/\k.deep<=4/\kvs.length<sizeLine/\n σ (up S a (.tab (jE kvs k v)))
def Fw(td ty tv:aK):bV:=λD σ S=>tv σ S λv S1=>td σ S1 λx S2=>ty σ S2 λy S3=>qt D.nx σ v x y S3
section
variable{X:Cx}{W3:bE}{o i value:Expr}{pos pos':Pos}{td ty tv:aK}
theorem xf:aH X W3 (.Dict [] [] pos) Fv:=λZ=>PE.imp M_ λτ H Q ⟨σ,S,Q3,hs,hr,ht,hc⟩=>λp hp=>by
 obtain⟨h1,hz⟩:=hr.fresh hp;have k:=Kp.new (o:=HO.dT []) hp hz;exact hc _ _ _ _ k (.ref p) (hr.put (o:=.tab []) k hz ⟨[],d7,.nil⟩) (ht p h1)
theorem SX{K:ak}{Z:Zt}{τ:L2.St}{H:Hp}{Q:VK}(h:lE K Z (qr false ty td) τ H Q):BD (lE K Z ty) (lE K Z td) τ H Q:=by
 obtain⟨σ,S,Q3,hs,hr,ht,hc⟩:=h;refine⟨σ,S,_,hs,hr,ht,λy S1 w H1 k1 r1 l1 q1=>⟨σ,S1,_,hs.mono k1,l1,q1,λx S2 v H2 k2 r2 l2 q2=>?_⟩⟩;obtain⟨a,kvs,ds,k,rfl,e,rfl,ek,hd,q⟩:=q2;cases r2;obtain⟨ws,h1,h2⟩:=l2.obj a _ e;obtain⟨b,rfl,kr⟩:=qq (r1.mono k2) ek hd;refine⟨a,_,rfl,fj.t h1 kr,?_⟩;rw[<-(TR.val h2 k).2];exact hc _ S2 _ H2 (k1.trans k2) (.bl _) l2 q
theorem SY{K:ak}{Z:Zt}{τ:L2.St}{H:Hp}{Q:VK}(h:lE K Z (qr true ty td) τ H Q):BE (lE K Z ty) (lE K Z td) τ H Q:=by
 obtain⟨σ,S,Q3,hs,hr,ht,hc⟩:=h;refine⟨σ,S,_,hs,hr,ht,λy S1 w H1 k1 r1 l1 q1=>⟨σ,S1,_,hs.mono k1,l1,q1,λx S2 v H2 k2 r2 l2 q2=>?_⟩⟩;obtain⟨a,kvs,ds,k,rfl,e,rfl,ek,hd,q⟩:=q2;cases r2;obtain⟨ws,h1,h2⟩:=l2.obj a _ e;obtain⟨b,rfl,kr⟩:=qq (r1.mono k2) ek hd;refine⟨a,_,rfl,fj.t h1 kr,?_⟩;rw[<-(TR.val h2 k).2];exact hc _ S2 _ H2 (k1.trans k2) (.bl _) l2 q
theorem S7(hu:X.A.units+5<cLine)(hi:aH X W3 i ty)(ho:aH X W3 o td)(h1:behindInMarks .In o=false:=by with_unfolding_all rfl):dU X W3 (.Compare i [.In] [o] pos) (gI (qr false ty td)) :=
 λZ=>PT.imp (AL (M5 hu (hi Z) (ho Z)) h1) λ_ _ _ h=>pJ (λ_ _ _ h=>SX h) h
theorem tQ(hu:X.A.units+5<cLine)(hi:aH X W3 i ty)(ho:aH X W3 o td)(h1:behindInMarks .NotIn o=false:=by with_unfolding_all rfl):dU X W3 (.Compare i [.NotIn] [o] pos) (gI (qr true ty td)) :=
 λZ=>PT.imp (AL (M6 hu (hi Z) (ho Z)) h1) λ_ _ _ h=>pJ (λ_ _ _ h=>SY h) h
theorem tR(hu:X.A.units+5<cLine)(ho:aH X W3 o td)(hi:aH X W3 i ty)(hv:aH X W3 value tv)(hs:swapsWith value (some (.Subscript o i pos')) pos.line X.env=pure false) :
 dW X W3 (.Assign [.Subscript o i pos'] value pos) (Fw td ty tv):=λZ=>PS.imp (M7 hu (ho Z) (hi Z) (hv Z) hs) λD τ H d_=>by
 obtain⟨D3,σ,S,hs,hr,ht,hc⟩:=d_;refine⟨σ,S,_,hs,hr,ht,λd S1 v H1 k1 r1 l1 q1=>⟨σ,S1,_,hs.mono k1,l1,q1,λx S2 w H2 k2 r2 l2 q2=>⟨σ,S2,_,hs.mono (k1.trans k2),l2,q2,λy S3 z H3 k3 r3 l3 q3=>?_⟩⟩⟩;obtain⟨a,kvs,ds,k,rfl,e,rfl,ek,hd,hz,q⟩:=q3;cases r2;obtain⟨ws,h1,h2⟩:=l3.obj a _ e;obtain⟨b,rfl,kr⟩:=qq r3 ek hd;have kk:Kp Z.z H3 (upd H3 a (.dT (putK ws k v))):=Kp.at l3 e;have h2':TR X.K H3 kvs ws:=h2;refine⟨a,_,rfl,pE.t h1 kr (by rw[<-Paired.length h2'];exact hz),?_⟩;have k12:=k1.trans (k2.trans (k3.trans kk));refine hc.nx σ _ τ _ k12 (hs.mono k12) (l3.put (o:=.tab (jE kvs k d)) kk (l3.pH e) ⟨_,d7,?_⟩) q;have h3:TR X.K (upd H3 a (.dT (putK ws k v))) kvs ws:=Paired.jX h2' λp q z=>⟨z.1,z.2.mono kk⟩;exact h3.put k ((r1.mono (k2.trans k3)).mono kk)
end
def Fx:List D->af->K3->Prop:=λxs S Q=>∃a kvs,xs=[.ref a]/\S a=some (.tab kvs)/\Q (.int kvs.length) S
theorem Fy{K:ak}:f9 K Fx (λxs H Q=>∃a kvs,xs=[V.ref a]/\H a=some (.dT kvs)/\Q (.int kvs.length) H):=by
 intro Z ds S Q3 vs H Q r l h c;obtain⟨a,kvs,rfl,e,q⟩:=h;cases r with
 |cons r rr =>
  cases rr;cases r;obtain⟨ws,h1,h2⟩:=l.obj a _ e;refine⟨a,ws,rfl,h1,?_⟩;rw[<-Paired.length h2];exact c _ S _ H (Kp.refl _ _) (.int _) l q
theorem xg{S:af}{Q:K3}{a:Addr}{kvs:List (DK×D)}(hS:S a=some (.tab kvs))(q:Q (.int kvs.length) S):Fx [.ref a] S Q:=⟨a,kvs,rfl,hS,q⟩
section
variable{σ:aF}{S:af}{Q:K3}{td ty tv:aK}{n b c:aF->af->Prop}{rt:K3}
theorem S8(h:∀p,S p=none->Q (.ref p) (up S p (.tab []))):Fv σ S Q:=h
theorem S9{neg:Bool}(h:ty σ S λy S1=>td σ S1 λx S2=>lC neg Q x y S2):qr neg ty td σ S Q:=h
theorem S_(h:tv σ S λv S1=>td σ S1 λx S2=>ty σ S2 λy S3=>qt n σ v x y S3):Fw td ty tv ⟨n,rt,b,c⟩ σ S:=h
theorem xh{neg:Bool}{a:Addr}{kvs:List (DK×D)}{ds:List D}{k:DK}(hS:S a=some (.tab kvs))(ek:cY (.tup ds)=some k)(hd:k.deep<=4)(q:Q (.bl (if neg then !(cR kvs k).isSome else(cR kvs k).isSome)) S):lC neg Q (.ref a) (.tup ds) S:=⟨a,kvs,ds,k,rfl,hS,rfl,ek,hd,q⟩
theorem xi{v:D}{a:Addr}{kvs:List (DK×D)}{ds:List D}{k:DK}(hS:S a=some (.tab kvs))(ek:cY (.tup ds)=some k)(hd:k.deep<=4)(hz:kvs.length<sizeLine)(q:n σ (up S a (.tab (jE kvs k v)))):qt n σ v (.ref a) (.tup ds) S:=⟨a,kvs,ds,k,rfl,hS,rfl,ek,hd,hz,q⟩
end
end E3
namespace EE
open PySem PySem.Spec PyProof.Rows L2
end EE
namespace E3
open PySem PySem.Spec PyProof.Rows L2 EE
end E3
namespace EE
open PySem PySem.Spec PyProof.Rows L2
section
variable{X:Cx}{elt iter tg:Expr}{ifs:List Expr}{pos:Pos}{scope:Scope}{O M:List Str}{js:List Nat}{wi:TI}{g:TG}{tt:TT}{te:TE}
theorem Ta{i:Nat}{y:Str}{py spos:Pos}(S:dO X.env.scope O M scope)(hc:X.calm=true)(hjs:∀(k:Nat) (y:Str),M[k]?=some y->∃j:Nat,js[k]?=some j/\X.N[j]?=some y)(hlen:js.length=M.length)(hi:PI X tg iter wi)
 (hg:∀(C:Addr) (fp:List Addr) (pins:List (Addr×Obj)) (s:Shared) (H:Hp),PG (bu X scope C (O++M) fp pins s H) tg g)
 (ht:∀(C:Addr) (fp:List Addr) (pins:List (Addr×Obj)) (s:Shared) (H:Hp),m7 (bu X scope C (O++M) fp pins s H) ifs tt)
 (he:∀(C:Addr) (fp:List Addr) (pins:List (Addr×Obj)) (s:Shared) (H:Hp),PE (bu X scope C (O++M) fp pins s H) elt te)
 (hN:X.N.Nodup) (hy:X.N[i]?=some y) (hl:X.env.scope.names.lookup y=some .local)
 (hsw:swapsWith (.ListComp elt [⟨tg,iter,ifs,0⟩] scope pos) (some (.Name y py)) spos.line X.env=pure true:=by rfl) (hs:∀v,foldedSetIterable iter X.env v=pure v:=by intro _;rfl) :
 PS X (.Assign [.Name y py] (.ListComp elt [⟨tg,iter,ifs,0⟩] scope pos) spos) (rE (sY wi g tt te O.length js) (rD i)):=by
 intro pins s σ H D0 I h;rw[exec_Assign_Name_used _ _ _ _ hsw];refine aj (zi (aj ?_));show wpAny _ X.A (do let _ <-comprehension (.ListComp elt [⟨tg,iter,ifs,0⟩] scope pos) scope X.env _ (newList []) false (eval iter X.env) (some (assign (.Name y py) X.env))) _ _ s;refine aj (eE (JG (use:=some (assign (.Name y py) X.env)) (Q:=λ_ s'=>SP X pins D0 .next s') rfl hs (BN (S.cells I)) S.kind S.names
  (aE (hi pins s σ H _ I h) λxv s1 h1=>aE h1 λitv s2 h2=>?_)) (λ_ s' hq=>aG (aG hq)) λ_ _ e=>e)
 obtain⟨it,fp,tn,J,H1,rfl,I2,T,st2,f2,q⟩:=h2;refine kK ?_ (by show 0<=sizeLine;decide);have hD:H1 s2.heap.objs.size=none:=I2.hok.fresh (aX _);obtain⟨W,⟨m0,w0⟩,turn⟩:=q _ hD;have I3:Inv X pins σ (upd H1 s2.heap.objs.size (.lst [])) {s2 with heap:=s2.heap.push {cls:=.type "list",data:=.seq ([]:List Value).toArray}}:=I2.rY (t':=s2.toks) .nil (dQ _);have hU:∀b∈fp,dq X pins (upd H1 s2.heap.objs.size (.lst [])) b:=λb hb=>by
  obtain⟨f0,f⟩:=f2 b hb;obtain⟨o,e,_⟩:=T.obj 0 _ st2 b hb;exact⟨by rw[a_ (c_ (bh e))];exact f0,f⟩
 refine D9 (Qe:=λH'=>rD i (.ref s2.heap.objs.size) σ H' D0.nx) (R:=λC=>compPost (model X.prog X.w) X.A X.xe (some (assign (.Name y py) X.env)) (λ_ s'=>SP X pins D0 .next s') (.ref s2.heap.objs.size) C) S hc hjs hlen hg ht he I3 T
  (T.keep _ _ _ st2 λb hb o e=>bC _ e) hU w0 turn ?_
 intro C s' H' gD σ' hC Jv qe;have Ie:Inv X pins σ H' s':=D8 I3 hU Jv hC (Heap.SameBut.refl ..);obtain⟨m,hn,_⟩:=Jv.loc;have fC:=I3.j6 (H':=H') hC Jv.free;obtain⟨c0,c1,c2,c3,c4,c5⟩:=fC;show wpAny _ X.A (assign (.Name y py) X.env (.ref s2.heap.objs.size)) (λ_ s''=>∃m,s''.heap.Ns C m/\∀h',fF C s''.heap h'->SP X pins D0 .next {s'' with heap:=h'}) X.xe s';refine IJ (AI Ie hN hy (.inl hl) (show RelV (.ref s2.heap.objs.size) (.ref s2.heap.objs.size) from rfl) (λs'' Tb ⟨a,hsb,ha⟩=>?_) (.inr hl));have Tc:C≠a:=by
  rcases ha with rfl|ha
  ·exact c1
  ·exact cG (c4 _ _ ha)
 exact⟨m,hn.sameBut hsb Tc,λh' hs'=>⟨_,H',Tb.turned (t':=s''.toks) (λb o hb e=>(hs'.2 b hb).trans e) c0 c1 c3 c4 c5,qe⟩⟩
end
end EE
namespace E3
open PySem PySem.Spec PyProof.Rows L2 EE
section
variable{X:Cx}{W3:bE}{elt iter tg:Expr}{ifs:List Expr}{x x':Str}{px tG pos tp:Pos}{kt:Nat}{scope bK:Scope}{O M N:List Str}{js:List Nat}{wi:dX}{g:dw}{Sh:D->aF->Prop}{tt:cw}{te:aK}
theorem lo1(S:dO bK [x] M scope)(hx:scope.names.lookup x=some .local)(C:Addr)(fp:List Addr)(pins:List (Addr×Obj))(s:Shared)(H:Hp):fN (bu X scope C ([x]++M) fp pins s H) cU (.Name x px) (iL 0) :=
 b6 (i:=0) S.nd rfl (.inl (oK hx)) (.inr (oK hx))
theorem lo2(S:dO bK [x,x'] M scope)(hx:scope.names.lookup x=some .local/\scope.names.lookup x'=some .local)(C:Addr)(fp:List Addr)(pins:List (Addr×Obj))(s:Shared)(H:Hp) :
 fN (bu X scope C ([x,x']++M) fp pins s H) cU (.Tuple [.Name x px,.Name x' tG] kt tp) (so 2 (mK (iL 0) (mK (iL 1) sm))) :=
 lb rfl (fO (b6 (i:=0) S.nd rfl (.inl (oK hx.1)) (.inr (oK hx.1))) (fO (b6 (i:=1) S.nd rfl (.inl (oK hx.2)) (.inr (oK hx.2))) la))
theorem Fz(S:dO bK O M scope)(hjs:M.map some=js.map λj=>N[j]?)(hc:X.calm=true)(hsh:qb O.length g Sh)(hi:eV X W3 tg iter wi)
 (hg:∀(C:Addr) (fp:List Addr) (pins:List (Addr×Obj)) (s:Shared) (H:Hp),fN (bu X scope C (O++M) fp pins s H) cU tg g)
 (ht:∀(C:Addr) (fp:List Addr) (pins:List (Addr×Obj)) (s:Shared) (H:Hp),iS (bu X scope C (O++M) fp pins s H) ifs tt)
 (he:∀(C:Addr) (fp:List Addr) (pins:List (Addr×Obj)) (s:Shared) (H:Hp),aH (bu X scope C (O++M) fp pins s H) cU elt te)
 (gj:X.env.scope=bK) (hN:X.N=N) (hs:∀v,foldedSetIterable iter X.env v=pure v) :
 aH X W3 (.ListComp elt [⟨tg,iter,ifs,0⟩] scope pos) (iU wi Sh tt te js):=λZ=>by
 subst gj hN;exact PE.imp (D_ S hc (mF hjs).1 (mF hjs).2 (hi Z) (λC fp pins s H=>(hg C fp pins s H).ex) (λC fp pins s H=>(ht C fp pins s H).ex) (λC fp pins s H=>(he C fp pins s H).ex) hs) λ_ _ _ h=>tw hsh h
theorem Td{i:Nat}{y:Str}{py spos:Pos}(S:dO bK O M scope)(hjs:M.map some=js.map λj=>N[j]?)(hc:X.calm=true)(hsh:qb O.length g Sh)(hi:eV X W3 tg iter wi)
 (hg:∀(C:Addr) (fp:List Addr) (pins:List (Addr×Obj)) (s:Shared) (H:Hp),fN (bu X scope C (O++M) fp pins s H) cU tg g)
 (ht:∀(C:Addr) (fp:List Addr) (pins:List (Addr×Obj)) (s:Shared) (H:Hp),iS (bu X scope C (O++M) fp pins s H) ifs tt)
 (he:∀(C:Addr) (fp:List Addr) (pins:List (Addr×Obj)) (s:Shared) (H:Hp),aH (bu X scope C (O++M) fp pins s H) cU elt te)
 (xj:X.N.Nodup) (hy:X.N[i]?=some y) (hl:X.env.scope.names.lookup y=some .local) (gj:X.env.scope=bK) (hN:X.N=N)
 (hsw:swapsWith (.ListComp elt [⟨tg,iter,ifs,0⟩] scope pos) (some (.Name y py)) spos.line X.env=pure true) (hs:∀v,foldedSetIterable iter X.env v=pure v) :
 dW X W3 (.Assign [.Name y py] (.ListComp elt [⟨tg,iter,ifs,0⟩] scope pos) spos) (pR i (iU wi Sh tt te js)):=λZ=>by
 subst gj hN;exact PS.imp (Ta S hc (mF hjs).1 (mF hjs).2 (hi Z) (λC fp pins s H=>(hg C fp pins s H).ex) (λC fp pins s H=>(ht C fp pins s H).ex) (λC fp pins s H=>(he C fp pins s H).ex) xj hy hl hsw hs) λD τ H ⟨D3,σ,S,hs,hr,ht,hc⟩ =>
  tw hsh ⟨σ,S,_,hs,hr,ht,λd S' v H' k r l q=>hc.nx _ S' _ H' k ((hs.mono k).set r i) l q⟩
theorem jF(S:dO bK [x] M scope)(hx:scope.names.lookup x=some .local)(hjs:M.map some=js.map λj=>N[j]?)(hc:X.calm=true)(hi:eV X W3 (.Name x px) iter wi)
 (ht:∀(C:Addr) (fp:List Addr) (pins:List (Addr×Obj)) (s:Shared) (H:Hp),iS (bu X scope C ([x]++M) fp pins s H) ifs tt)
 (he:∀(C:Addr) (fp:List Addr) (pins:List (Addr×Obj)) (s:Shared) (H:Hp),aH (bu X scope C ([x]++M) fp pins s H) cU elt te)
 (gj:X.env.scope=bK:=by rfl) (hN:X.N=N:=by rfl) (hs:∀v,foldedSetIterable iter X.env v=pure v:=by intro _;rfl) :
 aH X W3 (.ListComp elt [⟨.Name x px,iter,ifs,0⟩] scope pos) (iU wi iT tt te js):=Fz S hjs hc tu hi (lo1 S hx) ht he gj hN hs
theorem nr{i:Nat}{y:Str}{py spos:Pos}(S:dO bK [x] M scope)(hx:scope.names.lookup x=some .local)(hjs:M.map some=js.map λj=>N[j]?)(hc:X.calm=true)(hi:eV X W3 (.Name x px) iter wi)
 (ht:∀(C:Addr) (fp:List Addr) (pins:List (Addr×Obj)) (s:Shared) (H:Hp),iS (bu X scope C ([x]++M) fp pins s H) ifs tt)
 (he:∀(C:Addr) (fp:List Addr) (pins:List (Addr×Obj)) (s:Shared) (H:Hp),aH (bu X scope C ([x]++M) fp pins s H) cU elt te)
 (xj:X.N.Nodup) (hy:X.N[i]?=some y) (hl:X.env.scope.names.lookup y=some .local) (gj:X.env.scope=bK:=by rfl) (hN:X.N=N:=by rfl)
 (hsw:swapsWith (.ListComp elt [⟨.Name x px,iter,ifs,0⟩] scope pos) (some (.Name y py)) spos.line X.env=pure true:=by rfl) (hs:∀v,foldedSetIterable iter X.env v=pure v:=by intro _;rfl) :
 dW X W3 (.Assign [.Name y py] (.ListComp elt [⟨.Name x px,iter,ifs,0⟩] scope pos) spos) (pR i (iU wi iT tt te js)):=Td S hjs hc tu hi (lo1 S hx) ht he xj hy hl gj hN hsw hs
theorem FA(S:dO bK [x,x'] M scope)(hx:scope.names.lookup x=some .local/\scope.names.lookup x'=some .local)(hjs:M.map some=js.map λj=>N[j]?)(hc:X.calm=true)(hi:eV X W3 (.Tuple [.Name x px,.Name x' tG] kt tp) iter wi)
 (ht:∀(C:Addr) (fp:List Addr) (pins:List (Addr×Obj)) (s:Shared) (H:Hp),iS (bu X scope C ([x,x']++M) fp pins s H) ifs tt)
 (he:∀(C:Addr) (fp:List Addr) (pins:List (Addr×Obj)) (s:Shared) (H:Hp),aH (bu X scope C ([x,x']++M) fp pins s H) cU elt te)
 (gj:X.env.scope=bK:=by rfl) (hN:X.N=N:=by rfl) (hs:∀v,foldedSetIterable iter X.env v=pure v:=by intro _;rfl) :
 aH X W3 (.ListComp elt [⟨.Tuple [.Name x px,.Name x' tG] kt tp,iter,ifs,0⟩] scope pos) (iU wi wD tt te js):=Fz S hjs hc Qh hi (lo2 S hx) ht he gj hN hs
theorem Te{X:Cx}{sc0 xk:Scope}{C0:Addr}{N0:List Str}{qu:List Addr}{qv:List (Addr×Obj)}{s0:Shared}{H0:Hp}(S:dO (D' sc0 xk) [x] M scope)(hx:scope.names.lookup x=some .local)(hjs:M.map some=js.map λj=>N0[j]?)(hi:eV (bu X sc0 C0 N0 qu qv s0 H0) W3 (.Name x px) iter wi)
 (ht:∀(C:Addr) (fp:List Addr) (pins:List (Addr×Obj)) (s:Shared) (H:Hp),iS (bu (bu X sc0 C0 N0 qu qv s0 H0) scope C ([x]++M) fp pins s H) ifs tt)
 (he:∀(C:Addr) (fp:List Addr) (pins:List (Addr×Obj)) (s:Shared) (H:Hp),aH (bu (bu X sc0 C0 N0 qu qv s0 H0) scope C ([x]++M) fp pins s H) cU elt te)
 (gj:X.env.scope=xk:=by rfl) (hs:∀v,foldedSetIterable iter (bu X sc0 C0 N0 qu qv s0 H0).env v=pure v:=by intro _;rfl) :
 aH (bu X sc0 C0 N0 qu qv s0 H0) W3 (.ListComp elt [⟨.Name x px,iter,ifs,0⟩] scope pos) (iU wi iT tt te js):=by
 subst gj;exact jF (bK:=D' sc0 X.env.scope) (N:=N0) S hx hjs rfl hi ht he rfl rfl hs
end
section
variable{σ:aF}{Q:K3}{js:List Nat}{te:aK}
theorem gQ{ds:List D}{Al:af->Prop}{S1:af}(f:Nat->D)(hz:ds.length<=10000)(hA:Al S1)
 (h:∀i d,ds[i]?=some d->∀P:K3,P (f i) S1->te (some d::cV σ js) S1 P) (q:c8 S1 ((aW ds.length).map f) Q) :
 ∃W:Nat->List D->af->Prop,W 0 [] S1/\(∀i ys S,W i ys S->Al S/\ys.length<sizeLine) /\
 (∀i d ys S,ds[i]?=some d->W i ys S->∃ρ,iT d ρ/\kh (ρ++cV σ js) S λb S2=>if b=true then te (ρ++cV σ js) S2 λy S3=>W (i+1) (ys++[y]) S3 else W (i+1) ys S2)/\∀ys S,W ds.length ys S->c8 S ys Q:=by
 refine DG (tt:=kh) (λ_=>true) f (bX hz (by decide)) hA (λi d hd=>⟨[some d],rfl,λP hP=>hP,λ_ P hP=>h i d hd P hP⟩) ?_;rw[DH];exact q
theorem Tf{ds:List D}{Al:af->Prop}{S1:af}(f:Nat->D)(hz:ds.length<=10000)(hA:∀S,Sub S1 S->Al S)
 (h:∀i d S,ds[i]?=some d->Sub S1 S->∀P:K3,(∀S',Sub S S'->P (f i) S')->te (some d::cV σ js) S P) (q:∀S,Sub S1 S->c8 S ((aW ds.length).map f) Q) :
 ∃W:Nat->List D->af->Prop,W 0 [] S1/\(∀i ys S,W i ys S->Al S/\ys.length<sizeLine) /\
 (∀i d ys S,ds[i]?=some d->W i ys S->∃ρ,iT d ρ/\kh (ρ++cV σ js) S λb S2=>if b=true then te (ρ++cV σ js) S2 λy S3=>W (i+1) (ys++[y]) S3 else W (i+1) ys S2)/\∀ys S,W ds.length ys S->c8 S ys Q :=
 qh (Sh:=iT) f hz hA (λi d S hd hs=>⟨[some d],rfl,h i d S hd hs⟩) q
end
end E3
namespace PySem.SeqAt
open AutoSeq1 (wpAny_loadPart')
open MeetsSeq MeetsSeq2 MeetsSeq3
section
variable{prog:Program}{w:World}{A:Around}{i j:Int}{t u:Tok}{Q E:Value->Shared->Prop}{s:Shared}
open PySem.Spec PyProof.Rows in
theorem FC(h:Q (.bool (decide (i<=j))) s):wpAny (model prog w) A (richCompare .LtE (.int i t) (.int j u)) Q E s:=le_int h
open PySem.Spec PyProof.Rows in
theorem FD(h:Q (.bool (decide (j<i))) s):wpAny (model prog w) A (richCompare .Gt (.int i t) (.int j u)) Q E s:=gt_int h
end
section
variable(l b:Addr)(a c a' c':Int)(t u t' u':Tok)(n n2:Nat)(dd dd2:Option Addr)(sl sl2:Array (Option Value))
theorem Tg:Meets (Builtin.«tuple.__le__» ⟨[.ref l,.ref b],[]⟩)
 (λ_ R s=>s.heap.get? l=some {cls:=.type "tuple",dict:=dd,data:=.seq #[.int a t,.int c u] n,slots:=sl}/\s.heap.get? b=some {cls:=.type "tuple",dict:=dd2,data:=.seq #[.int a' t',.int c' u'] n2,slots:=sl2} /\
  R (.ok (.ret (.bool (decide (a<a'∨a=a'/\c<=c'))))) s) :=
 .of_wp λprog w A R s h=>by
  obtain⟨hp,g,d,tk,os⟩:=s;obtain⟨hl,hb,h⟩:=h;have f2:=JT
  wp_walk using uW hl,uW hb
  refine(EqAt.int_int a t a' t' (A:=A.in1) (s:=⟨hp,g,d,tk,os⟩)) prog w _ _ ?_;by_cases e1:a=a'
  ·subst e1;rw[beq_self_eq_true]
   wp_walk
   refine(EqAt.int_int c u c' u' (A:=A.in1) (s:=⟨hp,g,d,tk,os⟩)) prog w _ _ ?_;by_cases e2:c=c'
   ·subst e2;rw[beq_self_eq_true]
    wp_walk
    exact⟨_,rfl,by simpa[JU]using h⟩
   ·rw[beq_eq_false_iff_ne.mpr e2]
    wp_walk using FC
    exact⟨_,rfl,by simpa using h⟩
  ·rw[beq_eq_false_iff_ne.mpr e1]
   wp_walk using FC
   exact⟨_,rfl,by
    have e:decide (a<=a')=decide (a<a'∨a=a'/\c<=c'):=by rw[e_,decide_eq_true_iff,decide_eq_true_iff];lia
    rw[e];exact h⟩
theorem Th:Meets (Builtin.«tuple.__gt__» ⟨[.ref l,.ref b],[]⟩)
 (λ_ R s=>s.heap.get? l=some {cls:=.type "tuple",dict:=dd,data:=.seq #[.int a t,.int c u] n,slots:=sl}/\s.heap.get? b=some {cls:=.type "tuple",dict:=dd2,data:=.seq #[.int a' t',.int c' u'] n2,slots:=sl2} /\
  R (.ok (.ret (.bool (decide (a'<a∨a=a'/\c'<c))))) s) :=
 .of_wp λprog w A R s h=>by
  obtain⟨hp,g,d,tk,os⟩:=s;obtain⟨hl,hb,h⟩:=h;have f2:=JT
  wp_walk using uW hl,uW hb
  refine(EqAt.int_int a t a' t' (A:=A.in1) (s:=⟨hp,g,d,tk,os⟩)) prog w _ _ ?_;by_cases e1:a=a'
  ·subst e1;rw[beq_self_eq_true]
   wp_walk
   refine(EqAt.int_int c u c' u' (A:=A.in1) (s:=⟨hp,g,d,tk,os⟩)) prog w _ _ ?_;by_cases e2:c=c'
   ·subst e2;rw[beq_self_eq_true]
    wp_walk
    exact⟨_,rfl,by simpa[JU]using h⟩
   ·rw[beq_eq_false_iff_ne.mpr e2]
    wp_walk using FD
    exact⟨_,rfl,by simpa using h⟩
  ·rw[beq_eq_false_iff_ne.mpr e1]
   wp_walk using FD
   exact⟨_,rfl,by
    have e:decide (a'<a)=decide (a'<a∨a=a'/\c'<c):=by rw[e_,decide_eq_true_iff,decide_eq_true_iff];lia
    rw[e];exact h⟩
end
section
variable{prog:Program}{w:World}{A:Around}{s:Shared}{l b:Addr}{a c a' c':Int}{t u t' u':Tok}{Q E:Value->Shared->Prop}
theorem Ti(hl:s.heap.IsTuple l #[.int a t,.int c u])(hb:s.heap.IsTuple b #[.int a' t',.int c' u'])(hu:A.units<cLine)(h:Q (.bool (decide (a<a'∨a=a'/\c<=c'))) s):wpAny (model prog w) A (richCompare .LtE (.ref l) (.ref b)) Q E s:=by
 obtain⟨⟨cls,dd,data,sl⟩,ho,hc,n,hd⟩:=id hl;obtain⟨⟨cls2,dd2,data2,sl2⟩,ho2,hc2,n2,hd2⟩:=id hb;simp only at hc hd hc2 hd2;subst hc hd hc2 hd2;exact JV (op:=.LtE) ⟨_,ho,rfl⟩ ⟨_,ho2,rfl⟩ F.slot_tuple_le F.entry_tuple_le (F.args_tuple_le_2 _ _) (Tg l b a c a' c' t u t' u' n n2 dd dd2 sl sl2)
  ⟨ho,ho2,show Value.bool (decide (a<a'∨a=a'/\c<=c'))≠Value.notImplemented/\Q (.bool (decide (a<a'∨a=a'/\c<=c'))) s from⟨(λx=>nomatch x),h⟩⟩ hu
theorem Tj(hl:s.heap.IsTuple l #[.int a t,.int c u])(hb:s.heap.IsTuple b #[.int a' t',.int c' u'])(hu:A.units<cLine)(h:Q (.bool (decide (a'<a∨a=a'/\c'<c))) s):wpAny (model prog w) A (richCompare .Gt (.ref l) (.ref b)) Q E s:=by
 obtain⟨⟨cls,dd,data,sl⟩,ho,hc,n,hd⟩:=id hl;obtain⟨⟨cls2,dd2,data2,sl2⟩,ho2,hc2,n2,hd2⟩:=id hb;simp only at hc hd hc2 hd2;subst hc hd hc2 hd2;exact JV (op:=.Gt) ⟨_,ho,rfl⟩ ⟨_,ho2,rfl⟩ F.slot_tuple_gt F.entry_tuple_gt (F.args_tuple_gt_2 _ _) (Th l b a c a' c' t u t' u' n n2 dd dd2 sl sl2)
  ⟨ho,ho2,show Value.bool (decide (a'<a∨a=a'/\c'<c))≠Value.notImplemented/\Q (.bool (decide (a'<a∨a=a'/\c'<c))) s from⟨(λx=>nomatch x),h⟩⟩ hu
end
end PySem.SeqAt
namespace EE
open PySem PySem.Spec PyProof.Rows L2
section
variable{X:Cx}
def xl(K:ak)(f:Int->Int->Int->Int->Bool):R2:=λx y H Q=>∃a b c d,DR K H (.tup [.int a,.int b]) x/\DR K H (.tup [.int c,.int d]) y/\Q (.bl (f a b c d)) H
theorem tS{a b:Int}{its:List Value}(h:Vals [.int a,.int b] its):∃t u,its=[.int a t,.int b u]:=by
 cases h with
 |cons r1 h=>cases h with
  |cons r2 h =>
   cases h;obtain⟨t,rfl⟩:=r1;obtain⟨u,rfl⟩:=r2;exact⟨t,u,rfl⟩
theorem Tn(hu:X.A.units+5<cLine):bT X (compareOp .LtE) (xl X.K λa b c d=>decide (a<c∨a=c/\b<=d)):=by
 intro pins s σ H x y v u Q I rx ry h;obtain⟨a,b,c,d,hd,he,q⟩:=h;cases hd with
 |@tup p xs _ h1 q1 =>
  cases rx;obtain⟨its,rv,ht,_⟩:=I.tuple h1;cases he with
  |@tup p' ys _ h2 q2 =>
   cases ry;obtain⟨its2,gG,dD,_⟩:=I.tuple h2;cases q1 with
   |cons z1 q1=>cases z1;cases q1 with
    |cons z1 q1=>cases z1;cases q1;cases q2 with
     |cons z2 q2=>cases z2;cases q2 with
      |cons z2 q2 =>
       cases z2;cases q2;obtain⟨t1,u1,rfl⟩:=tS rv;obtain⟨t2,u2,rfl⟩:=tS gG;exact SeqAt.Ti ht dD (by lia) ⟨.bl _,H,I,rfl,q⟩
theorem FF(hu:X.A.units+5<cLine):bT X (compareOp .Gt) (xl X.K λa b c d=>decide (c<a∨a=c/\d<b)):=by
 intro pins s σ H x y v u Q I rx ry h;obtain⟨a,b,c,d,hd,he,q⟩:=h;cases hd with
 |@tup p xs _ h1 q1 =>
  cases rx;obtain⟨its,rv,ht,_⟩:=I.tuple h1;cases he with
  |@tup p' ys _ h2 q2 =>
   cases ry;obtain⟨its2,gG,dD,_⟩:=I.tuple h2;cases q1 with
   |cons z1 q1=>cases z1;cases q1 with
    |cons z1 q1=>cases z1;cases q1;cases q2 with
     |cons z2 q2=>cases z2;cases q2 with
      |cons z2 q2 =>
       cases z2;cases q2;obtain⟨t1,u1,rfl⟩:=tS rv;obtain⟨t2,u2,rfl⟩:=tS gG;exact SeqAt.Tj ht dD (by lia) ⟨.bl _,H,I,rfl,q⟩
end
end EE
namespace E3
open PySem PySem.Spec PyProof.Rows L2 EE
def FH(f:Int->Int->Int->Int->Bool):R3:=λx y S Q=>∃a b c d,x=.tup [.int a,.int b]/\y=.tup [.int c,.int d]/\Q (.bl (f a b c d)) S
theorem xm{K:ak}{f:Int->Int->Int->Int->Bool}:cC K (FH f) (xl K f):=by
 intro Z x y S Q3 v w H Q rx ry l h c;obtain⟨a,b,a',b',rfl,rfl,q⟩:=h;exact⟨a,b,a',b',Dn.down l (.tup (.cons (.int a) (.cons (.int b) .nil))) rx,Dn.down l (.tup (.cons (.int a') (.cons (.int b') .nil))) ry,c _ S _ H (Kp.refl _ _) (.bl _) l q⟩
section
variable{S:af}{Q:K3}{a b c d:Int}
theorem xn{f:Int->Int->Int->Int->Bool}(q:Q (.bl (f a b c d)) S):FH f (.tup [.int a,.int b]) (.tup [.int c,.int d]) S Q:=⟨a,b,c,d,rfl,rfl,q⟩
end
def qw(Q:K3)(x y:D)(S:af):Prop:=∃a kvs ds k d,x=.ref a/\S a=some (.tab kvs)/\y=.tup ds/\cY (.tup ds)=some k/\k.deep<=4/\cR kvs k=some d/\Q d S
def FI(td ty:aK):aK:=λσ S Q=>td σ S λx S1=>ty σ S1 λy S2=>qw Q x y S2
def xo(Q:K3)(a:Addr)(y z:D)(S:af):Prop:=∃kvs ds k,S a=some (.tab kvs)/\y=.tup ds/\cY (.tup ds)=some k/\k.deep<=4/\Q ((cR kvs k).getD z) S
def FJ(td ty tx:aK):aK:=λσ S Q=>td σ S λx S1=>∃a kvs,x=.ref a/\S1 a=some (.tab kvs)/\ty σ S1 λy S2=>tx σ S2 λz S3=>xo Q a y z S3
section
variable{X:Cx}{W3:bE}{o i f:Expr}{td ty tx:aK}{pos apos cpos:Pos}
theorem FK(hu:X.A.units+5<cLine)(ho:aH X W3 o td)(hi:aH X W3 i ty)(hs:vC i):aH X W3 (.Subscript o i pos) (FI td ty):=λZ=>PE.imp (M4 hu (ho Z) (hi Z) hs) λτ H Q ck=>by
 obtain⟨σ,S,Q3,hs,hr,ht,hc⟩:=ck;refine⟨σ,S,_,hs,hr,ht,λx S1 v H1 k1 r1 l1 q1=>⟨σ,S1,_,hs.mono k1,l1,q1,λy S2 w H2 k2 r2 l2 q2=>?_⟩⟩;obtain⟨a,kvs,ds,k,d,rfl,e,rfl,ek,hd,ev,q⟩:=q2;cases r1;obtain⟨ws,h1,h2⟩:=l2.obj a _ e;obtain⟨b,rfl,kr⟩:=qq r2 ek hd;obtain⟨u,eu,ru⟩:=(TR.val h2 k).1 d ev;have g:=fj.t h1 kr;rw[eu]at g;exact⟨a,u,rfl,g,hc d S2 u H2 (k1.trans k2) ru l2 q⟩
theorem To(hu:X.A.units+5<cLine)(ho:aH X W3 o td)(hi:aH X W3 i ty)(hf:aH X W3 f tx)
 (hbase:attributeBase o "get" X.env (eval o X.env)=eval o X.env:=by rfl)
 (hfew:((backTo cpos (starEach [i,f] X.env)).all (λx=>!x.1)&&(backToKw cpos (keywordEach [] X.env)).all (λx=>x.1.isSome)
  && decide (([i,f]:List Expr).length+([]:List Keyword).length+(if([]:List Keyword).isEmpty then 0 else 1)<30))=true:=by rfl)
 (hline:(apos.endLine==cpos.line)=true:=by rfl) (htr:backTo cpos (starEach [i,f] X.env)=[(false,eval i X.env),(false,eval f X.env)]:=by rfl) :
 aH X W3 (.Call (.Attribute o "get" apos) [i,f] [] cpos) (FJ td ty tx):=λZ=>PE.imp (Nf hu (ho Z) (hi Z) (hf Z) ⟨hbase,hfew,hline,htr⟩) λτ H Q d_=>by
 obtain⟨σ,S,Q3,hs,hr,ht,hc⟩:=d_;refine⟨σ,S,_,hs,hr,ht,λx S1 v H1 k1 r1 l1 q1=>?_⟩;obtain⟨a,kvs,rfl,e,q1⟩:=q1;cases r1;obtain⟨ws,h1,h2⟩:=l1.obj a _ e;refine⟨a,rfl,.inr ⟨_,.inl h1⟩,σ,S1,_,hs.mono k1,l1,q1,λy S2 w H2 k2 r2 l2 q2=>⟨σ,S2,_,(hs.mono k1).mono k2,l2,q2,λz S3 w3 H3 k3 r3 l3 q3=>?_⟩⟩;obtain⟨kvs',ds,k,e',rfl,ek,hd,q⟩:=q3;obtain⟨ws',g1,g2⟩:=l3.obj a _ e';obtain⟨b,rfl,kr⟩:=qq (r2.mono k3) ek hd;have t:=TR.val g2 k;refine⟨_,fj.t g1 kr,?_⟩;cases ev:cR kvs' k with
 |none =>
  rw[ev]at t q;have:fi ws' k=none:=by
   cases z:fi ws' k with
   |none=>rfl
   |some _=>rw[z]at t;cases t.2
  rw[this];exact hc z S3 w3 H3 ((k1.trans k2).trans k3) r3 l3 q
 |some d =>
  rw[ev]at q;obtain⟨u,eu,ru⟩:=t.1 d ev;rw[eu];exact hc d S3 u H3 ((k1.trans k2).trans k3) ru l3 q
end
section
variable{S:af}{Q:K3}{σ:aF}{td ty tx:aK}
theorem Tp(h:td σ S λx S1=>ty σ S1 λy S2=>qw Q x y S2):FI td ty σ S Q:=h
theorem Tq{a:Addr}{kvs:List (DK×D)}{ds:List D}{k:DK}{d:D}(hS:S a=some (.tab kvs))(ek:cY (.tup ds)=some k)(hd:k.deep<=4)(ev:cR kvs k=some d)(q:Q d S):qw Q (.ref a) (.tup ds) S:=⟨a,kvs,ds,k,d,rfl,hS,rfl,ek,hd,ev,q⟩
theorem Tr(h:td σ S λx S1=>∃a kvs,x=.ref a/\S1 a=some (.tab kvs)/\ty σ S1 λy S2=>tx σ S2 λz S3=>xo Q a y z S3):FJ td ty tx σ S Q:=h
theorem Ts{a:Addr}{kvs:List (DK×D)}{ds:List D}{k:DK}{z:D}(hS:S a=some (.tab kvs))(ek:cY (.tup ds)=some k)(hd:k.deep<=4)(q:Q ((cR kvs k).getD z) S):xo Q a (.tup ds) z S:=⟨kvs,ds,k,hS,rfl,ek,hd,q⟩
end
end E3
namespace EE
open PySem PySem.Spec PyProof.Rows L2
end EE
namespace E3
open PySem PySem.Spec PyProof.Rows L2 EE
end E3
set_option maxHeartbeats 4000000
namespace LW
open PySem PySem.Spec PyProof.Rows L2 EE E3
seal aH dU cL d9 dW cQ pN fN pQ eV
local macro_rules|`(tactic|nofun)=>do let w:=λ(s:String)=>(s.splitOn " ").toArray.map λx=>Lean.mkIdent (.mkStr (.mkSimple "E3") x);let at_ <-`(tactic|(first|exact rfl|exact PK|exact abZ|exact ab0|exact ab1));let v0 <-(w "Su Sz SG SI SN").mapM λn=>`(Lean.Parser.Tactic.tacticSeq|apply $n);let v1 <-(w "Sv SA SK").mapM λn=>`(Lean.Parser.Tactic.tacticSeq|apply $n);let v3 <-(w "SD SO Oc").mapM λn=>`(Lean.Parser.Tactic.tacticSeq|apply $n);let a1 <-(w "Sm Sn Sw Sx SE SF SH SJ SQ SS SU N3 N8 Od Oe Of OC OB Oa Oq Ot N' N6 N5 N4 N7 N9 Ob Oj Ol Om Oo Oi O6 Ov Ow Ox Oy Oz OA Ou OD OE OG OH OI OJ OL OK OO OP OQ OS Qm wH Qp Rt R0 R4 R7 R8 Ro Rr Rv Qq QD QF QG OT OU OV OX OZ OW Pe PB S8 S9 S_ Tp Tr O1 QS QU QV QW").mapM λn=>`(Lean.Parser.Tactic.tacticSeq|apply $n);let a2 <-(w "CV CW C3 C4 C6 Ff Ej Rq C9").mapM λn=>`(Lean.Parser.Tactic.tacticSeq|refine $n (by assumption) ?_);let a3 <-(w "CV CW C3 C4 C6 Ff Ej C9").mapM λn=>`(Lean.Parser.Tactic.tacticSeq|refine $n az ?_);let al:=a1++a2++a3;`(tactic|repeat (first|((with_reducible apply So);(exact rfl);(first|assumption|exact az))|((with_reducible apply Ss);(exact rfl);$at_)|((with_reducible apply Sq);(exact rfl);$at_)|((with_reducible apply Sr);(exact rfl);$at_;$at_)|((with_reducible first $[| $v0]*);(exact rfl))|((with_reducible first $[| $v1]*);(exact rfl);(exact rfl))|((with_reducible apply SM);(exact rfl);(exact rfl);(exact rfl))|((with_reducible first $[| $v3]*);(exact rfl))|(with_reducible first $[| $al]*)|(with_reducible first|refine pF rfl ?_|refine vB rfl ?_|refine r8 ?_|refine r0 ?_|refine pF (by assumption) ?_|refine se (by assumption) ?_|refine BI (by assumption) ?_|refine vB (by assumption) ?_)|((with_reducible refine Og ?_ ?_);(first|decide|omega))|((with_reducible refine Oh ?_ ?_);(first|exact⟨by decide,by decide⟩|omega))|((with_reducible refine O5 ?_ ?_);exact⟨by decide,by decide,by decide⟩)|((with_reducible refine Dh ?_ ?_);(first|exact .inl ⟨by decide,by decide⟩|exact .inr ⟨by decide,by decide⟩))|((with_reducible refine OF ?_ ?_);exact de (Nat.le_of_ble_eq_true rfl))|((with_reducible apply mV);$at_)|((with_reducible apply gf (by assumption));$at_)|((with_reducible apply gf az);$at_)|((with_reducible apply CZ);exact rfl)|((with_reducible apply N_);exact rfl)|((with_reducible apply C5 (by assumption));exact rfl)|((with_reducible apply C5 az);exact rfl)|((with_reducible apply ON);(exact rfl);(exact rfl))|((with_reducible refine R6 ?_ ?_);exact rfl)|((with_reducible refine wQ ?_ ?_);exact de (Nat.le_of_ble_eq_true rfl))|((with_reducible refine PJ ?_ ?_ ?_);(exact rfl);(exact rfl))|((with_reducible apply Df (by assumption));(first|exact rfl|exact Dv|exact Tt))|((with_reducible apply Df az);(first|exact rfl|exact Dv|exact Tt))|((with_reducible refine Ds ?_ ?_);exact rfl)|((with_reducible refine Du ?_ ?_);exact rfl)|((with_reducible refine O0 ?_ ?_);(first|exact⟨by decide,by decide,by decide,by decide⟩|exact⟨by omega,by omega,by omega,by omega⟩))|((with_reducible refine OY ?_ ?_);(first|exact⟨by decide,by decide⟩|exact⟨by omega,by omega⟩))|((with_reducible refine OM ?_ ?_);assumption)|(with_reducible first|refine Ds (by decide +kernel) ?_|refine Du (by decide +kernel) ?_|refine pF (by omega) ?_|refine se (by omega) ?_|refine BI (by omega) ?_|refine vB (by omega) ?_)))
def top(i:Nat):Stmt:=PySem.Challenge.pw_errandend_k16_closure.main.body.getD i (.Pass ⟨0,0,0,0⟩)
abbrev nu:Stmt:=top 5
theorem Tu:bc ["saying"] ["saying"] (ao nu):=⟨rfl,rfl,rfl,by cbv,rfl,by cbv,by cbv⟩
abbrev lD:Stmt:=top 7
theorem nv:bc ["program","found","errand","placed","send","rows"] ["program"] (ao lD):=⟨rfl,rfl,rfl,by cbv,rfl,by cbv,by cbv⟩
abbrev ny:Stmt:=top 8
theorem qy:bc ["body","found","pending","placed","inner"] ["body"] (ao ny):=⟨rfl,rfl,rfl,by cbv,rfl,by cbv,by cbv⟩
abbrev lF:Stmt:=top 9
theorem xp:bc ["saying","known","param","inner"] ["saying","known"] (ao lF):=⟨rfl,rfl,rfl,by cbv,rfl,by cbv,by cbv⟩
abbrev nz:Stmt:=top 10
theorem xq:bc ["saying","rest"] ["saying"] (ao nz):=⟨rfl,rfl,rfl,by cbv,rfl,by cbv,by cbv⟩
abbrev lH:Stmt:=top 11
theorem Tv:bc ["param","sayings","known"] ["param","sayings","known"] (ao lH):=⟨rfl,rfl,rfl,by cbv,rfl,by cbv,by cbv⟩
abbrev nA:Stmt:=top 12
theorem Tw:bc ["param","saying","known"] ["param","saying","known"] (ao nA):=⟨rfl,rfl,rfl,by cbv,rfl,by cbv,by cbv⟩
abbrev lJ:Stmt:=top 13
theorem FL:bc ["one","other","rows"] ["one","other"] (ao lJ):=⟨rfl,rfl,rfl,by cbv,rfl,by cbv,by cbv⟩
abbrev nB:Stmt:=top 14
theorem Tx:bc ["one","other"] ["one","other"] (ao nB):=⟨rfl,rfl,rfl,by cbv,rfl,by cbv,by cbv⟩
abbrev lK:Stmt:=top 15
theorem Tz:bc ["row","rows"] ["row","rows"] (ao lK):=⟨rfl,rfl,rfl,by cbv,rfl,by cbv,by cbv⟩
abbrev lL:Stmt:=top 16
theorem TB:bc ["row","rows","column"] ["row","rows","column"] (ao lL):=⟨rfl,rfl,rfl,by cbv,rfl,by cbv,by cbv⟩
abbrev nD:Stmt:=top 17
theorem TC:bc ["one","other"] ["one","other"] (ao nD):=⟨rfl,rfl,rfl,by cbv,rfl,by cbv,by cbv⟩
abbrev nE:Stmt:=top 20
theorem TF:bc ["program"] ["program"] (ao nE):=⟨rfl,rfl,rfl,by cbv,rfl,by cbv,by cbv⟩
abbrev nF:Stmt:=top 21
theorem TH:bc ["program"] ["program"] (ao nF):=⟨rfl,rfl,rfl,by cbv,rfl,by cbv,by cbv⟩
abbrev nG:Stmt:=top 22
theorem jG:bc ["numbered","found","number","graph","place","ahead"] ["numbered"] (ao nG):=⟨rfl,rfl,rfl,by cbv,rfl,by cbv,by cbv⟩
abbrev lM:Stmt:=top 23
theorem TJ:bc ["found","graph","way"] ["found","graph","way"] (ao lM):=⟨rfl,rfl,rfl,by cbv,rfl,by cbv,by cbv⟩
abbrev lN:Stmt:=top 24
theorem xr:bc ["pairs","graph","way"] ["pairs"] (ao lN):=⟨rfl,rfl,rfl,by cbv,rfl,by cbv,by cbv⟩
abbrev nH:Stmt:=top 25
theorem TK:bc ["graph"] ["graph"] (ao nH):=⟨rfl,rfl,rfl,by cbv,rfl,by cbv,by cbv⟩
abbrev lP:Stmt:=top 26
theorem TL:bc ["graph"] ["graph"] (ao lP):=⟨rfl,rfl,rfl,by cbv,rfl,by cbv,by cbv⟩
abbrev nI:Stmt:=top 28
theorem TM:bc ["script","k"] ["script","k"] (ao nI):=⟨rfl,rfl,rfl,by cbv,rfl,by cbv,by cbv⟩
abbrev jH:Stmt:=top 29
theorem ic:bc ["cell","many","base","left","k","place","found","turn"] ["cell","many"] (ao jH):=⟨rfl,rfl,rfl,by cbv,rfl,by cbv,by cbv⟩
abbrev nJ:Stmt:=top 30
theorem TN:bc ["script","spot"] ["script","spot"] (ao nJ):=⟨rfl,rfl,rfl,by cbv,rfl,by cbv,by cbv⟩
abbrev nK:Stmt:=top 31
theorem tU:bc ["cell","params","saying","k"] ["cell","params"] (ao nK):=⟨rfl,rfl,rfl,by cbv,rfl,by cbv,by cbv⟩
abbrev nM:Stmt:=top 32
theorem TQ:bc ["cell","params"] ["cell","params"] (ao nM):=⟨rfl,rfl,rfl,by cbv,rfl,by cbv,by cbv⟩
abbrev lQ:Stmt:=top 33
theorem FN:bc ["script","spot","names","counts","params","to"] ["script","spot","names","counts","params"] (ao lQ):=⟨rfl,rfl,rfl,by cbv,rfl,by cbv,by cbv⟩
abbrev nN:Stmt:=top 34
theorem ie:bc ["script","spot","names","counts","params","shape","inner","other","row","last"] ["script","spot","names","counts","params"] (ao nN):=⟨rfl,rfl,rfl,by cbv,rfl,by cbv,by cbv⟩
abbrev lR:Stmt:=top 35
theorem jI:bc ["script","spot","most","head","many","names","params","counts","program","k","mine"] ["script","spot","most"] (ao lR):=⟨rfl,rfl,rfl,by cbv,rfl,by cbv,by cbv⟩
abbrev nO:Stmt:=top 36
theorem ky:bc ["one","other","rows","row","new","k","best","j"] ["one","other"] (ao nO):=⟨rfl,rfl,rfl,by cbv,rfl,by cbv,by cbv⟩
abbrev nP:Stmt:=top 37
theorem FO:bc ["graph","k"] ["graph"] (ao nP):=⟨rfl,rfl,rfl,by cbv,rfl,by cbv,by cbv⟩
abbrev nQ:Stmt:=top 38
theorem lU:bc ["saying","steps","path","found","step"] ["saying"] (ao nQ):=⟨rfl,rfl,rfl,by cbv,rfl,by cbv,by cbv⟩
abbrev lV:Stmt:=top 39
theorem FP:bc ["param","saying","known","found"] ["param","saying","known"] (ao lV):=⟨rfl,rfl,rfl,by cbv,rfl,by cbv,by cbv⟩
abbrev kz:Stmt:=top 40
theorem lW:bc ["errand","saying","known","found","rows","one","k","more"] ["errand","saying","known"] (ao kz):=⟨rfl,rfl,rfl,by cbv,rfl,by cbv,by cbv⟩
abbrev nR:Stmt:=top 41
theorem xt:bc ["program","found","errand"] ["program"] (ao nR):=⟨rfl,rfl,rfl,by cbv,rfl,by cbv,by cbv⟩
abbrev nS:Stmt:=top 42
theorem lX:bc ["own","most","seen","todo","graph","one","more"] ["own","most"] (ao nS):=⟨rfl,rfl,rfl,by cbv,rfl,by cbv,by cbv⟩
abbrev nU:Stmt:=top 43
theorem qz:bc ["own","way","graph","number"] ["own","way"] (ao nU):=⟨rfl,rfl,rfl,by cbv,rfl,by cbv,by cbv⟩
abbrev nV:Stmt:=top 44
theorem TU:bc ["found","ways","way"] ["found","ways","way"] (ao nV):=⟨rfl,rfl,rfl,by cbv,rfl,by cbv,by cbv⟩
abbrev nW:Stmt:=top 45
theorem kA:bc ["own","found","ways","keys","last","at","pair","key"] ["own","found"] (ao nW):=⟨rfl,rfl,rfl,by cbv,rfl,by cbv,by cbv⟩
abbrev nX:Stmt:=top 46
theorem nY:bc ["own","found","keys","number","graph","at","pair","more"] ["own","found","keys"] (ao nX):=⟨rfl,rfl,rfl,by cbv,rfl,by cbv,by cbv⟩
abbrev iZ:Stmt:=top 47
theorem i4:bc ["script","program","own","found","keys","due","pair"] ["script"] (ao iZ):=⟨rfl,rfl,rfl,by cbv,rfl,by cbv,by cbv⟩
inductive i5{ig α1:Type}(p:ig->α1->Prop):Prop where
 |mk (a0:ig) (a1:α1) (h:p a0 a1)
inductive nZ{ig α1 α2:Type}(p:ig->α1->α2->Prop):Prop where
 |mk (a0:ig) (a1:α1) (a2:α2) (h:p a0 a1 a2)
inductive jJ{ig α1 α2 α3:Type}(p:ig->α1->α2->α3->Prop):Prop where
 |mk (a0:ig) (a1:α1) (a2:α2) (a3:α3) (h:p a0 a1 a2 a3)
inductive qA{ig α1 α2 α3 FQ:Type}(p:ig->α1->α2->α3->FQ->Prop):Prop where
 |mk (a0:ig) (a1:α1) (a2:α2) (a3:α3) (a4:FQ) (h:p a0 a1 a2 a3 a4)
theorem qB{us:List Value}{n:Nat}(h:us.length=n+1):∃a t,us=a::t/\t.length=n:=by
 cases us with
 |nil=>cases h
 |cons a t=>exact⟨a,t,rfl,Nat.succ.inj h⟩
theorem TV{us:List Value}(h:us.length=0):us=[]:=List.eq_nil_of_length_eq_zero h
theorem fR{us:List Value}(h:us.length=1):∃a0,us=[a0]:=by
 obtain⟨a0,t,rfl,g⟩:=qB h;obtain rfl:=TV g;exact⟨a0,rfl⟩
theorem ln2{us:List Value}(h:us.length=2):∃a0 a1,us=[a0,a1]:=by
 obtain⟨a0,t,rfl,g⟩:=qB h;obtain⟨a1,rfl⟩:=fR g;exact⟨a0,a1,rfl⟩
theorem i6{us:List Value}(h:us.length=3):∃a0 a1 a2,us=[a0,a1,a2]:=by
 obtain⟨a0,t,rfl,g⟩:=qB h;obtain⟨a1,a2,rfl⟩:=ln2 g;exact⟨a0,a1,a2,rfl⟩
theorem TX{us:List Value}(h:us.length=4):∃a0 a1 a2 a3,us=[a0,a1,a2,a3]:=by
 obtain⟨a0,t,rfl,g⟩:=qB h;obtain⟨a1,a2,a3,rfl⟩:=i6 g;exact⟨a0,a1,a2,a3,rfl⟩
theorem FR{us:List Value}(h:us.length=5):∃a0 a1 a2 a3 a4,us=[a0,a1,a2,a3,a4]:=by
 obtain⟨a0,t,rfl,g⟩:=qB h;obtain⟨a1,a2,a3,a4,rfl⟩:=TX g;exact⟨a0,a1,a2,a3,a4,rfl⟩
structure Gs(K:ak)(mg:Str->Option Value):Prop where
 len:mg "len"=none
 range:mg "range"=none
 qC:mg "isinstance"=none
 tuple:mg "tuple"=none
 list:mg "list"=none
 int:mg "int"=none
 bool:mg "bool"=none
 xu:mg "reversed"=none
 any:mg "any"=none
 enumerate:mg "enumerate"=none
 max:mg "max"=none
 zip:mg "zip"=none
 TY:∃t,mg "MOST_IN_CLOSURE"=some (.int 40 t)
abbrev ES:List Rf:=[.err,.apart,.many]
section
variable{P:Program}{w:World}{K:PySem.W.Frag}{mg:Str->Option Value}{base:Heap}{adr:Rf->Addr}
def cellAt(ns:List Int)(k:Int):Int:=ns.getD k.toNat 0
inductive TZ (ds:List D)(q:D->Prop):Prop where
 |mk (ns:List Int) (k:Int) (_:ds=[.bA (ns.map D.int),.int k]) (_:0<=k) (_:q (.int (cellAt ns k)))
def FT :aS:=vS TZ
theorem T1{k:Nat}(h:aB K mg "_law_cell_at" nI ["script","k"])(G:Gs K mg):av P w K mg base (k+1) "_law_cell_at" ["script","k"] FT:=by
 refine h.val TM (by rintro ds q ⟨ns,k,e,_⟩;rw[e];rfl) λf cdv A outer s H E ds q hr ⟨ns,k,e,h0,hq⟩=>?_;subst e;refine⟨_,(au (bG (a5 o7 f_ (aa 1) (cE d8 eA rfl G.len dH (ae (aa 0) ah)) (aZ _)) (ax (aQ (ay fg ft (aa 0) (aa 1) (λ_ _=>rfl)))) bt)
 (ax (aQ ai))),?_⟩
 nofun;have hl:(ns.map D.int).length=ns.length:=aA _;refine Ni (λc=>?_) (λc=>?_)
 ·rw[hl]at c;have hk:k.toNat<ns.length:=by lia
  nofun;refine CZ (m5 h0 (v:=.int (cellAt ns k)) ?_) hq;rw[aJ,aV hk];simp[cellAt,bJ,aV hk]
 ·rw[hl]at c;have hk:ns.length<=k.toNat:=by lia
  nofun;have e:cellAt ns k=0:=by simp[cellAt,bJ,cT hk]
  rw[e]at hq;exact hq
inductive T3 (ds:List D)(S:af)(q:D->Addr->O->Prop):Prop where
 |mk (ns:List Int) (sp:Addr) (i:Int) (rs:List D) (_:ds=[.bA (ns.map D.int),.ref sp]) (_:S sp=some (.lst (.int i::rs))) (_:0<=i) (_:q (.int (cellAt ns i)) sp (.lst (.int (i+1)::rs)))
def tV :aS:=kd T3
theorem T4{k:Nat}(h:aB K mg "_law_next" nJ ["script","spot"])(xw:av P w K mg base k "_law_cell_at" ["script","k"] FT):av P w K mg base (k+1) "_law_next" ["script","spot"] tV:=by
 refine h.kd TN (by rintro ds S q ⟨ns,sp,i,rs,e,_⟩;rw[e];rfl) λf cdv A outer s H E ds S q hr ⟨ns,sp,i,rs,e,hS,hi,hq⟩=>?_;subst e;refine⟨_,(au (NF (aO kS jv (ay fg ft (aa 1) ai (λ_ _=>rfl)) ai) (NG (aa 1) ai))
 (ax (aQ (aU xw hr rfl (ae (aa 0) (ae (aO AV jv (ay fg ft (aa 1) ai (λ_ _=>rfl)) ai) ah)))))),?_⟩
 nofun;refine⟨ns,i+1-1,rfl,by lia,sp,_,Sub.refl _,?_⟩;have e:i+1-1=i:=by lia
 rw[e];exact hq
inductive T5 (ds:List D)(q:List D->Prop):Prop where
 |mk (c n:Int) (_:ds=[.int c,.int n]) (_:0<=c) (_:1<=n) (_:n<=12) (_:∀xs:List Str,Row n.toNat xs->q (xs.map D.str))
def FU :aS:=pX T5
theorem T6{k:Nat}(h:aB K mg "_law_names" jH ["cell","many"])(G:Gs K mg):av P w K mg base (k+1) "_law_names" ["cell","many"] FU:=by
 refine h.lst ic (by rintro ds q ⟨c,n,e,_⟩;rw[e];rfl) λf cdv A outer s H E ds q hr ⟨c,n,e,hc,hn1,hn2,hq⟩=>?_;subst e;refine⟨_,(au (aL (i:=2) ic.nd rfl (Or.inr rfl) bL)
 (au (aL (i:=3) ic.nd rfl (Or.inl rfl) (aO dS bx (aa 0) ai))
 (au (c9 da rfl (gM rfl G.range (ae (aO c7 bx (aa 0) ai) ah)) (b6 (i:=4) ic.nd rfl (Or.inl rfl)) (au (aL (i:=2) ic.nd rfl (Or.inr rfl) (aO kW lg (aa 2) (ay Bm Cy bL (aO c7 bx (aa 3) ai) (λ_ _=>rfl))))
 (ax (aL (i:=3) ic.nd rfl (Or.inl rfl) (aO dS bx (aa 3) ai)))))
 (au (aL (i:=5) ic.nd rfl (Or.inr rfl) (aO c7 bx (aO dS bx (aa 0) ai) (aO kS jv (cE MD NU rfl G.len dH (ae (aa 2) ah)) ai)))
 (au (nr (i:=6) (bK:=ao jH) (N:=["cell","many","base","left","k","place","found","turn"]) (M:=["base","place"]) (js:=[2,5]) ⟨rfl,by cbv,by cbv,by cbv,by cbv,by cbv⟩ (by cbv) (by cbv) rfl (gM rfl G.range (ae (aa 1) ah)) (λ_ _ _ _ _=>d0) (λ_ _ _ _ _=>(aO kW lg (aO kW lg (eU mE mP (aa 1) eS (eT (aa 2))) (ay Bm Cy bL (aa 0) (λ_ _=>rfl))) (eU mE mP (aa 1) (eT (aa 2)) eS))) ic.nd rfl rfl)
 (au (ki (cL.pt (w_and (a5 o7 f_ (aa 1) ai (aZ _)) (mI (a5 cJ fq (aO c7 bx (aO dS bx (aa 0) ai) ai) ai (aZ _))))) (ax (nr (i:=6) (bK:=ao jH) (N:=["cell","many","base","left","k","place","found","turn"]) (M:=["base"]) (js:=[2]) ⟨rfl,by cbv,by cbv,by cbv,by cbv,by cbv⟩ (by cbv) (by cbv) rfl (gM rfl G.range (ae (aa 1) ah)) (λ_ _ _ _ _=>d0) (λ_ _ _ _ _=>(aO kW lg (eU mE mP (aa 1) eS (eT ai)) (eU mE mP bL eS (eT (aO kS jv (aa 0) ai))))) ic.nd rfl rfl)) bt)
 (au (ki (cL.pt (w_and (a5 o7 f_ (aa 1) ai (aZ _)) (mI (a5 cJ fq (aO c7 bx (aO dS bx (aa 0) ai) ai) ai (aZ _))))) (ax (nr (i:=6) (bK:=ao jH) (N:=["cell","many","base","left","k","place","found","turn"]) (M:=["base"]) (js:=[2]) ⟨rfl,by cbv,by cbv,by cbv,by cbv,by cbv⟩ (by cbv) (by cbv) rfl (gM rfl G.range (ae (aa 1) ah)) (λ_ _ _ _ _=>d0) (λ_ _ _ _ _=>(aO kW lg (eU mE mP bL (eT (aO AV jv ai (aa 0))) eS) (eU mE mP (aa 1) eS (eT ai)))) ic.nd rfl rfl)) bt)
 (au (aL (i:=7) ic.nd rfl (Or.inl rfl) (aO c7 bx (aO dS bx (aa 0) ai) (aa 1)))
 (ax (aQ (aO vz v_ (eU mB mO (aa 6) (eT (aa 7)) eS) (eU mB mO (aa 6) eS (eT (aa 7)))))))))))))),?_⟩
 nofun;refine⟨λi σ S=>nZ λ(lf:Int) (cs:List Nat) (x4:Option D)=>σ=[some (.int c),some (.int n),some (.str (textOf cs)),some (.int lf),x4,none,none,none]/\cs.length=i/\sW cs/\S=emp,
  ⟨_,[],none,rfl,rfl,λc hc=>by simp at hc,rfl⟩,λ_ _ _ _=>trivial,?turn,?done⟩
 case turn =>
  rintro i d σ S hd ⟨lf,cs,x4,rfl,hl,hL,rfl⟩;obtain⟨hi,rfl⟩:=fo hd;have T7:=Ab lf (show(0:Int)<26 by decide);have T8:=kN lf (show(26:Int)≠0 by decide);nofun;refine C2 (cp:=97+(lf%26).toNat) ?_ ?_ ?_
  ·rw[Dx,fL];decide
  ·rw[Dx,iQ];exact Dz T8 T7
  refine lj (y:=textOf [97+(lf%26).toNat]) ?_ ?_
  ·rw[fL,fL];refine de ?_;simp only[cf,eJ];lia
  rw[pG];nofun;refine⟨_,cs++[97+(lf%26).toNat],_,rfl,by simp[hl],λd hd=>?_,rfl⟩;rcases bR.mp hd with hd|hd
  ·exact hL d hd
  ·simp at hd;lia
 rintro σ S ⟨lf,cs,x4,rfl,hl,hL,rfl⟩;rw[dF]at hl;have T9:cs.length<=7:=by lia
 have lz:∀ds:List Nat,ds.length<=100->(textOf ds).length<=sizeLine:=λds h=>by rw[fL];exact de (by lia)
 have hz:=lz cs (by lia);nofun;rw[fL];have p0:=kN (c/11) (show((cs.length:Int)+1)≠0 by lia);obtain⟨pl,T_⟩:∃pl,(c/11)%((cs.length:Int)+1)=pl:=⟨_,rfl⟩;rw[T_]at p0 ⊢;refine gQ (λk=>.str (textOf (ib cs pl.toNat k))) (by rw[dF];exact bX (show n.toNat<=12 by lia) (by decide)) trivial ?e1 ?_
 case e1 =>
  intro i d hd P hP;obtain⟨hi,rfl⟩:=fo hd;nofun;refine mW hz ?_;rw[iQ,sU p0];nofun;refine C2 (cp:=97+i) ?_ ?_ ?_
  ·rw[Dy,fL];decide
  ·rw[Dy,iQ,Dz (by lia) (by lia)];simp
  refine lj (y:=textOf [97+i]) ?_ ?_
  ·rw[fL,fL,dh];exact de (by simp only[cf,eJ];lia)
  rw[pG];nofun;refine mW hz ?_;rw[iQ,Dw p0];refine lj ?_ ?_
  ·rw[fL,fL,ba,dh,fc];exact de (by simp only[cf,eJ];lia)
  rw[pG];exact hP
 rw[dF];intro D1 hD1;have FV:n.toNat<=12:=by lia
 have m1:∀f:Nat->List Nat,((aW n.toNat).map λk=>D.str (textOf (f k)))=((aW n.toNat).map λk=>textOf (f k)).map D.str:=λf=>by rw[eL];rfl
 rw[m1];have R1:Row n.toNat ((aW n.toNat).map λk=>textOf (ib cs pl.toNat k)):=PN hL T9 (by lia);nofun;refine kj (λσ T=>i5 λ(r:Addr) (xs:List Str)=>σ=[some (.int c),some (.int n),some (.str (textOf cs)),some (.int lf),x4,some (.int pl),some (.ref r),none]/\T r=some (.lst (xs.map D.str))/\Row n.toNat xs) ?_ ?_
 ·intro n' hn';by_cases h5:n<5
  case neg =>
   nofun;exact hn' _ _ ⟨D1,_,rfl,az,R1⟩
  by_cases e1:c/17%3=1
  case neg =>
   nofun;exact hn' _ _ ⟨D1,_,rfl,az,R1⟩
  nofun;refine gQ (λk=>.str (textOf (ke cs k))) (by rw[dF];exact bX FV (by decide)) trivial ?e2 ?_
  case e2 =>
   intro i d hd P hP;obtain⟨hi,rfl⟩:=fo hd;nofun;refine mW hz ?_;rw[iQ,sU (by decide)];nofun;refine mW (by rw[sV];exact lz _ (by decide)) ?_;rw[sV,iQ,sU (by lia)];have ei:((0:Int)+(i:Int)+1).toNat=i+1:=by lia
   rw[ei];refine lj ?_ ?_
   ·rw[fL,fL,dh,dh];exact de (by lia)
   rw[pG];exact hP
  rw[dF];intro D2 hD2;rw[m1];nofun;exact hn' _ _ ⟨D2,_,rfl,az,row2 hL (by lia)⟩
 clear R1;rintro σ T ⟨r,xs,rfl,hr1,R⟩;nofun;refine kj (λσ T=>i5 λ(r:Addr) (xs:List Str)=>σ=[some (.int c),some (.int n),some (.str (textOf cs)),some (.int lf),x4,some (.int pl),some (.ref r),none]/\T r=some (.lst (xs.map D.str))/\Row n.toNat xs) ?_ ?_
 ·intro n' hn';by_cases h5:n<5
  case neg =>
   nofun;exact hn' _ _ ⟨r,xs,rfl,hr1,R⟩
  by_cases e2:c/17%3=2
  case neg =>
   nofun;exact hn' _ _ ⟨r,xs,rfl,hr1,R⟩
  nofun;refine gQ (λk=>.str (textOf (m6 cs k))) (by rw[dF];exact bX FV (by decide)) trivial ?e3 ?_
  case e3 =>
   intro i d hd P hP;obtain⟨hi,rfl⟩:=fo hd;nofun;refine mW (by rw[sV];exact lz _ (by decide)) ?_;rw[sV,iQ,Dw (by lia)];have ei:((3:Int)-(0+(i:Int))).toNat=3-i:=by lia
   rw[ei];nofun;refine mW hz ?_;rw[iQ,sU (by decide)];refine lj ?_ ?_
   ·rw[fL,fL,dh,fc];exact de (by simp only[cf,eJ];lia)
   rw[pG];exact hP
  rw[dF];intro D2 hD2;rw[m1];nofun;exact hn' _ _ ⟨D2,_,rfl,az,PQ hL (by lia)⟩
 rintro σ T' ⟨r,xs,rfl,hr1,R⟩;have t0:=kN (c/13) (show n≠0 by lia);nofun;rw[sT t0];intro p1 hp1;have hD4:=aM (o:=.lst ((xs.map D.str).drop (c/13%n).toNat)) hr1 hp1;nofun;rw[wq t0];intro p2 hp2;have Ua:=R.len;refine wc (aM az hp2) az ?_ ?_
 ·rw[fc,dh,aA];exact de (by lia)
 intro r hr';refine⟨r,_,rfl,az,?_⟩;have:=hq _ (R.turn (t:=(c/13%n).toNat));rw[cI,JW,As]at this;exact this
inductive Ub (ds:List D)(q:D->Prop):Prop where
 |mk (s:Sy) (_:ds=[s.d]) (_:q (.tup (s.parts.map Sy.d)))
def FW :aS:=vS Ub
theorem Uc{k:Nat}(h:aB K mg "parts" nu ["saying"])(G:Gs K mg):av P w K mg base (k+1) "parts" ["saying"] FW:=by
 refine h.val Tu (by rintro ds q ⟨s,e,_⟩;rw[e];rfl) λf cdv A outer s0 H E ds q hr hA=>?_;obtain⟨s,rfl,hq⟩:=hA;refine⟨_,(au (bG (a5 pq mM (ay aC aD (aa 0) ai (λ_ _=>rfl)) (bP (ae bL (ae bL ah))) (by with_unfolding_all rfl)) (ax (aQ (bP ah))) bt)
 (au (bG (a5 cJ fP (ay aC aD (aa 0) ai (λ_ _=>rfl)) bL (aZ _)) (ax (aQ (ay aC aD (aa 0) ai (λ_ _=>rfl)))) bt)
 (ax (aQ (eU sC sD (aa 0) (eT ai) eS))))),?_⟩
 cases s with
 |name x =>
  simp only[Sy.d];nofun;exact hq
 |bI =>
  simp only[Sy.d];nofun;exact hq
 |pair a b =>
  simp only[Sy.d];nofun;exact hq
 |left a =>
  simp only[Sy.d];nofun;exact hq
 |right a =>
  simp only[Sy.d];nofun;exact hq
 |fork a b c =>
  simp only[Sy.d];nofun;exact hq
 |send x as =>
  simp only[Sy.d];nofun;rw[Sy.kf];exact hq
inductive Ud (ds:List D)(q:D->Prop):Prop where
 |mk (s:Sy) (_:ds=[s.d]) (_:q (qi s.base))
def xx :aS:=vS Ud
theorem Ue{k:Nat}(h:aB K mg "path_parameter" nz ["saying"])(G:Gs K mg):av P w K mg base (k+1) "path_parameter" ["saying"] xx:=by
 refine h.val xq (by rintro ds q ⟨s,e,_⟩;rw[e];rfl) λf cdv A outer s0 H E ds q hr hA=>?_;obtain⟨s,rfl,hq⟩:=hA;refine⟨_,(au (aL (i:=1) xq.nd rfl (Or.inl rfl) (aa 0))
 (au (pS da (a5 pq mM (ay aC aD (aa 1) ai (λ_ _=>rfl)) (bP (ae bL (ae bL ah))) (by with_unfolding_all rfl)) (ax (aL (i:=1) xq.nd rfl (Or.inl rfl) (ay aC aD (aa 1) ai (λ_ _=>rfl)))))
 (ax (aQ (vP (a5 cJ fP (ay aC aD (aa 1) ai (λ_ _=>rfl)) bL (aZ _)) (ay aC aD (aa 1) ai (λ_ _=>rfl)) fk))))),?_⟩
 nofun;refine pY (λm σ S=>∃r:Sy,σ=[some s.d,some r.d]/\r.base=s.base/\m=r.deep) _ ⟨s,rfl,rfl,rfl⟩ ?_;rintro m σ S ⟨r,rfl,hb,rfl⟩;rw[<-hb]at hq;cases r with
 |left a =>
  simp only[Sy.d];nofun;exact⟨a.deep,by simp only[Sy.deep];lia,a,rfl,hb,rfl⟩
 |right a =>
  simp only[Sy.d];nofun;exact⟨a.deep,by simp only[Sy.deep];lia,a,rfl,hb,rfl⟩
 |name x =>
  simp only[Sy.d];nofun;exact hq
 |bI =>
  simp only[Sy.d];nofun;exact hq
 |pair a b =>
  simp only[Sy.d];nofun;exact hq
 |fork a b c =>
  simp only[Sy.d];nofun;exact hq
 |send x as =>
  simp only[Sy.d];nofun;exact hq
inductive Ug (ds:List D)(q:D->Prop):Prop where
 |mk (p:Str) (s:Sy) (k:List Str) (_:ds=[.str p,s.d,.tup (k.map D.str)]) (_:q (.int (aY p s k)))
def FX :aS:=vS Ug
theorem Uh{k:Nat}(h:aB K mg "told_number" nA ["param","saying","known"])(G:Gs K mg)(xy:av P w K mg base k "path_parameter" ["saying"] xx) :
 av P w K mg base (k+1) "told_number" ["param","saying","known"] FX:=by
 refine h.val Tw (by rintro ds q ⟨_,_,_,e,_⟩;rw[e];rfl) λf cdv A outer s0 H E ds q hr hA=>?_;obtain⟨p,s,kn,rfl,hq⟩:=hA;refine⟨_,(au (bG (cL.pt (w_and (a5 j7 mL (ay aC aD (aa 1) ai (λ_ _=>rfl)) bL (aZ _)) (mI (a5 j7 Ru (aU xy hr rfl (ae (aa 1) ah)) (aa 0) (aZ _))))) (ax (aQ ai)) bt)
 (au (bG (cL.pt (w_or (a5 cJ fP (ay aC aD (aa 1) ai (λ_ _=>rfl)) bL (aZ _)) (fM (a5 MC mM (aa 0) (aa 2) (by with_unfolding_all rfl))))) (ax (aQ ai)) bt)
 (ax (aQ ai)))),?_⟩
 by_cases hk:p∈kn
 ·cases s with
  |bI =>
   simp only[Sy.d];nofun;simpa[aY,hk]using hq
  |name x =>
   by_cases hs:Sy.base (.name x)=some p
   ·simp only[Sy.d];nofun;refine⟨(.name x),rfl,?_⟩;nofun;have hs':=hs;simp only[Sy.base,jR]at hs';simpa[aY,hs']using hq
   ·simp only[Sy.d];nofun;refine⟨(.name x),rfl,?_⟩;nofun;have hs':=hs;simp only[Sy.base,jR]at hs';simpa[aY,hs']using hq
  |pair a b =>
   by_cases hs:Sy.base (.pair a b)=some p
   ·simp only[Sy.d];nofun;refine⟨(.pair a b),rfl,?_⟩;nofun;simpa[aY,hs,hk]using hq
   ·simp only[Sy.d];nofun;refine⟨(.pair a b),rfl,?_⟩;nofun;simpa[aY,hs,hk]using hq
  |left a =>
   by_cases hs:Sy.base (.left a)=some p
   ·simp only[Sy.d];nofun;refine⟨(.left a),rfl,?_⟩;nofun;simpa[aY,hs,hk]using hq
   ·simp only[Sy.d];nofun;refine⟨(.left a),rfl,?_⟩;nofun;simpa[aY,hs,hk]using hq
  |right a =>
   by_cases hs:Sy.base (.right a)=some p
   ·simp only[Sy.d];nofun;refine⟨(.right a),rfl,?_⟩;nofun;simpa[aY,hs,hk]using hq
   ·simp only[Sy.d];nofun;refine⟨(.right a),rfl,?_⟩;nofun;simpa[aY,hs,hk]using hq
  |fork a b c =>
   by_cases hs:Sy.base (.fork a b c)=some p
   ·simp only[Sy.d];nofun;refine⟨(.fork a b c),rfl,?_⟩;nofun;simpa[aY,hs,hk]using hq
   ·simp only[Sy.d];nofun;refine⟨(.fork a b c),rfl,?_⟩;nofun;simpa[aY,hs,hk]using hq
  |send x as =>
   by_cases hs:Sy.base (.send x as)=some p
   ·simp only[Sy.d];nofun;refine⟨(.send x as),rfl,?_⟩;nofun;simpa[aY,hs,hk]using hq
   ·simp only[Sy.d];nofun;refine⟨(.send x as),rfl,?_⟩;nofun;simpa[aY,hs,hk]using hq
 ·cases s with
  |bI =>
   simp only[Sy.d];nofun;simpa[aY,hk]using hq
  |name x =>
   by_cases hs:Sy.base (.name x)=some p
   ·simp only[Sy.d];nofun;refine⟨(.name x),rfl,?_⟩;nofun;have hs':=hs;simp only[Sy.base,jR]at hs';simpa[aY,hs']using hq
   ·simp only[Sy.d];nofun;refine⟨(.name x),rfl,?_⟩;nofun;have hs':=hs;simp only[Sy.base,jR]at hs';simpa[aY,hs']using hq
  |pair a b =>
   by_cases hs:Sy.base (.pair a b)=some p
   ·simp only[Sy.d];nofun;refine⟨(.pair a b),rfl,?_⟩;nofun;simpa[aY,hs,hk]using hq
   ·simp only[Sy.d];nofun;refine⟨(.pair a b),rfl,?_⟩;nofun;simpa[aY,hs,hk]using hq
  |left a =>
   by_cases hs:Sy.base (.left a)=some p
   ·simp only[Sy.d];nofun;refine⟨(.left a),rfl,?_⟩;nofun;simpa[aY,hs,hk]using hq
   ·simp only[Sy.d];nofun;refine⟨(.left a),rfl,?_⟩;nofun;simpa[aY,hs,hk]using hq
  |right a =>
   by_cases hs:Sy.base (.right a)=some p
   ·simp only[Sy.d];nofun;refine⟨(.right a),rfl,?_⟩;nofun;simpa[aY,hs,hk]using hq
   ·simp only[Sy.d];nofun;refine⟨(.right a),rfl,?_⟩;nofun;simpa[aY,hs,hk]using hq
  |fork a b c =>
   by_cases hs:Sy.base (.fork a b c)=some p
   ·simp only[Sy.d];nofun;refine⟨(.fork a b c),rfl,?_⟩;nofun;simpa[aY,hs,hk]using hq
   ·simp only[Sy.d];nofun;refine⟨(.fork a b c),rfl,?_⟩;nofun;simpa[aY,hs,hk]using hq
  |send x as =>
   by_cases hs:Sy.base (.send x as)=some p
   ·simp only[Sy.d];nofun;refine⟨(.send x as),rfl,?_⟩;nofun;simpa[aY,hs,hk]using hq
   ·simp only[Sy.d];nofun;refine⟨(.send x as),rfl,?_⟩;nofun;simpa[aY,hs,hk]using hq
inductive Ui (ds:List D)(q:D->Prop):Prop where
 |mk (p:Str) (as:List Sy) (k:List Str) (_:ds=[.str p,.tup (as.map Sy.d),.tup (k.map D.str)]) (_:as.length<=1000) (_:q (bg (as.map λa=>aY p a k)))
def FY :aS:=vS Ui
theorem Uj{k:Nat}(h:aB K mg "told_row" lH ["param","sayings","known"])(G:Gs K mg)(Uk:av P w K mg base k "told_number" ["param","saying","known"] FX) :
 av P w K mg base (k+1) "told_row" ["param","sayings","known"] FY:=by
 refine h.val Tv (by rintro ds q ⟨_,_,_,e,_⟩;rw[e];rfl) λf cdv A outer s0 H E ds q hr hA=>?_;obtain⟨p,as,kn,rfl,hl,hq⟩:=hA;refine⟨_,(ax (aQ (gK iH iO rfl G.tuple gY (ae (jF (bK:=ao lH) (N:=["param","sayings","known"]) (M:=["param","known"]) (js:=[0,2]) ⟨rfl,by cbv,by cbv,by cbv,by cbv,by cbv⟩ (by cbv) (by cbv) rfl (ju (aa 1)) (λ_ _ _ _ _=>d0) (λ_ _ _ _ _=>(aU Uk hr rfl (ae (aa 1) (ae (aa 0) (ae (aa 2) ah)))))) ah)))),?_⟩;nofun;refine gQ (λi=>.int (aY p (as.getD i .bI) kn)) (by rw[aA];lia) trivial ?_ ?_
 ·intro i d hd P hP;rw[aJ]at hd;obtain⟨a,ha,rfl⟩:=bU.mp hd;rw[bJ,ha]at hP;nofun;exact⟨p,a,kn,rfl,hP⟩
 have el:((aW (as.map Sy.d).length).map λi=>D.int (aY p (as.getD i .bI) kn))=(as.map λa=>aY p a kn).map D.int:=by
  rw[aA,eL];apply gx;intro i;rw[aJ,aJ];by_cases hi:i<as.length
  ·rw[iy hi,aV hi];simp[bJ,hi]
  ·rw[cT (by simpa using hi),cT (by lia)];rfl
 rw[el];intro p1 hp1;nofun;exact hq
inductive Ul (ds:List D)(q:List D->Prop):Prop where
 |mk (s:Sy) (k:List Str) (_:ds=[s.d,.tup (k.map D.str)]) (_:k.length<=1000) (_:s.parts.length<=1000) (_:q ((s.pp Sy.bases k).map bM))
def FZ :aS:=pX Ul
theorem Um{k:Nat}(h:aB K mg "placed_parts" lF ["saying","known"])(G:Gs K mg)(Uo:av P w K mg base k "parts" ["saying"] FW)(xy:av P w K mg base k "path_parameter" ["saying"] xx) :
 av P w K mg base (k+1) "placed_parts" ["saying","known"] FZ:=by
 refine h.lst xp (by rintro ds q ⟨_,_,e,_⟩;rw[e];rfl) λf cdv A outer s0 H E ds q hr hA=>?_;obtain⟨s,kn,rfl,hk,hp,hq⟩:=hA;refine⟨_,(au (bG (a5 j7 mL (ay aC aD (aa 0) ai (λ_ _=>rfl)) bL (aZ _)) (ax (aQ (jF (bK:=ao lF) (N:=["saying","known","param","inner"]) (M:=["known"]) (js:=[1]) ⟨rfl,by cbv,by cbv,by cbv,by cbv,by cbv⟩ (by cbv) (by cbv) rfl (ju (aU Uo hr rfl (ae (aa 0) ah))) (λ_ _ _ _ _=>d0) (λ_ _ _ _ _=>(bP (ae (aa 0) (ae (aa 1) ah))))))) bt)
 (au (aL (i:=2) xp.nd rfl (Or.inl rfl) (aU xy hr rfl (ae (ay aC aD (aa 0) ai (λ_ _=>rfl)) ah)))
 (au (aL (i:=3) xp.nd rfl (Or.inl rfl) (vP (a5 o8 pU (aa 2) fk (aZ _)) (aa 1) (aO Eb Ee (aa 1) (bP (ae (aa 2) ah)))))
 (ax (aQ (dE (ae (bP (ae (ay aC aD (aa 0) ai (λ_ _=>rfl)) (ae (aa 1) ah))) (ae (bP (ae (ay aC aD (aa 0) ai (λ_ _=>rfl)) (ae (aa 3) ah))) (ae (bP (ae (ay aC aD (aa 0) ai (λ_ _=>rfl)) (ae (aa 1) ah))) ah))))))))),?_⟩
 by_cases hf:∃a b c,s=.fork a b c
 ·obtain⟨a,b,c,rfl⟩:=hf;simp only[Sy.d];nofun;refine⟨a,rfl,?_⟩;cases hb:a.base with
  |none =>
   simp only[qi];nofun;intro p1 hp1;nofun;refine⟨p1,_,rfl,az,?_⟩;simpa[Sy.pp,bM,Sy.bases,hb]using hq
  |some x =>
   simp only[qi];nofun;refine wQ (by rw[aA];exact de (by simp;lia)) ?_;nofun;intro p1 hp1;nofun;refine⟨p1,_,rfl,az,?_⟩;simpa[Sy.pp,bM,Sy.bases,hb]using hq
 ·have et:∃t r,s.d=.tup (.str t::r)/\¬t="fork":=by
   cases s<;>first|exact⟨_,_,rfl,by decide⟩|exact(hf ⟨_,_,_,rfl⟩).elim
  obtain⟨t,r,ed,ht⟩:=et;have ep:s.pp Sy.bases kn=s.parts.map λa=>(a,kn):=by
   cases s<;>first|rfl|exact(hf ⟨_,_,_,rfl⟩).elim
  have es:D.tup (.str t::r)=s.d:=ed.symm;rw[ed];nofun;refine⟨s,by rw[ed],?_⟩;nofun;refine gQ (λi=>.tup [(s.parts.getD i .bI).d,.tup (kn.map D.str)]) (by rw[aA];lia) trivial ?_ ?_
  ·intro i d hd P hP;rw[aJ]at hd;obtain⟨a,ha,rfl⟩:=bU.mp hd;rw[bJ,ha]at hP;nofun;exact hP
  have el:((aW (s.parts.map Sy.d).length).map λi=>D.tup [(s.parts.getD i .bI).d,.tup (kn.map D.str)])=(s.pp Sy.bases kn).map bM:=by
   rw[aA,ep,eL];apply gx;intro i;rw[aJ,aJ];by_cases hi:i<s.parts.length
   ·rw[iy hi,aV hi];simp[bJ,hi,bM]
   ·rw[cT (by simpa using hi),cT (by lia)];rfl
  rw[el];intro p1 hp1;nofun;exact⟨p1,_,rfl,az,hq⟩
inductive Up (ds:List D)(q:List D->Prop):Prop where
 |mk (s:Sy) (_:ds=[s.d]) (_:s.pre.length<=100000) (_:(∀p∈s.bB Sy.bases [],p.2.length<=1000/\p.1.parts.length<=1000)) (_:q (((s.bB Sy.bases []).filter λp=>p.1.nm.isSome).map bM))
def F3 :aS:=pX Up
theorem Uq{k:Nat}(h:aB K mg "placed_sends" ny ["body"])(G:Gs K mg)(Ur:av P w K mg base k "placed_parts" ["saying","known"] FZ) :
 av P w K mg base (k+1) "placed_sends" ["body"] F3:=by
 refine h.lst qy (by rintro ds q ⟨s,e,_⟩;rw[e];rfl) λf cdv A outer s0 H E ds q hr hA=>?_;obtain⟨s,rfl,hz,hk,hq⟩:=hA;refine⟨_,(au (aL (i:=1) qy.nd rfl (Or.inl rfl) (dE ah))
 (au (aL (i:=2) qy.nd rfl (Or.inl rfl) (dE (ae (bP (ae (aa 0) (ae (bP ah) ah))) ah)))
 (au (pS da (B0 (aa 2) (λ_=>rfl)) (au (aL (i:=3) qy.nd rfl (Or.inl rfl) (B5 eM zP JX BH CM (aa 2)))
 (au (bG (a5 cJ fP (ay aC aD (ay aC aD (aa 3) ai (λ_ _=>rfl)) ai (λ_ _=>rfl)) bL (aZ _)) (ax (eo (fm eM gu gZ f6 gN (aa 1) (ae (aa 3) ah)))) bt)
 (ax (c9 da rfl (wL rfl G.xu (ae (aU Ur hr rfl (ae (ay aC aD (aa 3) ai (λ_ _=>rfl)) (ae (ay aC aD (aa 3) ai (λ_ _=>rfl)) ah))) ah)) (b6 (i:=4) qy.nd rfl (Or.inl rfl)) (ax (eo (fm eM gu gZ f6 gN (aa 2) (ae (aa 4) ah)))))))))
 (ax (aQ (aa 1)))))),?_⟩
 have hz':(s.bB Sy.bases []).length<=100000:=by
  have:=congrArg mj (Sy.gk Sy.bases s []);rw[aA]at this;lia
 nofun;intro pf hpf;nofun;intro pe hpe;have hne:pf≠pe:=ne3 az hpe;nofun;refine pY (λm σ S=>jJ λ(fs ps:List (Sy×List Str)) (x3 x4:Option D)=>σ=[some s.d,some (.ref pf),some (.ref pe),x3,x4]/\S pf=some (.lst ((fs.filter λp=>p.1.nm.isSome).map bM))/\S pe=some (.lst (ps.map bM))/\fs++cW Sy.bases ps.reverse=s.bB Sy.bases []/\m=(cW Sy.bases ps.reverse).length)
  _ ⟨[],[(s,[])],none,none,rfl,aM az hpe,az,by simp[cW],rfl⟩ ?_
 rintro m σ S ⟨fs,ps,x3,x4,rfl,hf,he,hfs,rfl⟩;nofun;rcases snoc_cases ps with rfl|⟨ps',s',rfl⟩
 ·refine r0 ?_;nofun;refine⟨pf,_,rfl,hf,?_⟩;have e:fs=s.bB Sy.bases []:=by simpa[cW]using hfs
  rw[e];exact hq
 ·have eb:(!((ps'++[s']).map bM).isEmpty)=true:=by simp
  rw[eb];refine r8 ?_;have hlen:=congrArg mj hfs;rw[ba]at hlen;have er:(ps'++[s']).reverse=s'::ps'.reverse:=by simp
  rw[er,wR,ng]at hfs hlen;simp only[ba,cf]at hlen;have hmem:s'∈s.bB Sy.bases []:=by
   rw[<-hfs];simp
  obtain⟨k1,k2⟩:=hk s' hmem;have hfl:(fs.filter λp=>p.1.nm.isSome).length<=fs.length:=JB _ _;have he':S pe=some (.lst (ps'.map bM++[bM s'])):=by rw[he];simp
  obtain⟨s1,kn⟩:=s';dsimp only at hlen hfs k1 k2;have et:∃t r,s1.d=.tup (.str t::r)/\(s1.nm.isSome=true->t="send")/\(s1.nm.isSome=false->¬t="send"):=by
   cases s1<;>exact⟨_,_,rfl,λz=>by first|rfl|(simp[Sy.nm]at z),λz=>by first|decide|(simp[Sy.nm]at z)⟩
  obtain⟨t,r,ed,ht1,dD⟩:=et;nofun;refine CY he' ?_;have ev:bM (s1,kn)=.tup [.tup (.str t::r),.tup (kn.map D.str)]:=by unfold bM;rw[ed]
  rw[ev];have hf1:up S pe (.lst (ps'.map bM)) pf=some (.lst ((fs.filter λp=>p.1.nm.isSome).map bM)):=by rw[bj hne];exact hf
  have F4:up S pe (.lst (ps'.map bM)) pe=some (.lst (ps'.map bM)):=az;have done:∀(S3:af) (x4:Option D),S3 pf=some (.lst (((fs++[(s1,kn)]).filter λp=>p.1.nm.isSome).map bM))->S3 pe=some (.lst ((ps'++(s1.pp Sy.bases kn).reverse).map bM)) ->
   ∃m',m'<(cW Sy.bases (ps'++[(s1,kn)]).reverse).length/\jJ λ(fs ps:List (Sy×List Str)) (x3 Us:Option D)=>[some s.d,some (.ref pf),some (.ref pe),some (.tup [.tup (.str t::r),.tup (kn.map D.str)]),x4]=[some s.d,some (D.ref pf),some (.ref pe),x3,Us] /\
    S3 pf=some (.lst ((fs.filter λp=>p.1.nm.isSome).map bM))/\S3 pe=some (.lst (ps.map bM))/\fs++cW Sy.bases ps.reverse=s.bB Sy.bases []/\m'=(cW Sy.bases ps.reverse).length:=λS3 x4 g1 g2=>by
   refine⟨_,?_,fs++[(s1,kn)],ps'++(s1.pp Sy.bases kn).reverse,_,_,rfl,g1,g2,?_,rfl⟩
   ·rw[er,wR,ng];simp only[List.reverse_append,List.reverse_reverse,tH,ba,cf];lia
   ·rw[<-hfs];simp[tH]
  have hpl:(s1.pp Sy.bases kn).length<=(cW Sy.bases (s1.pp Sy.bases kn)).length:=wU _ _;have hpl':ps'.length<=(cW Sy.bases ps'.reverse).length:=by
   have:=wU Sy.bases ps'.reverse;simpa using this
  have el:(((s1.pp Sy.bases kn).map bM).reverse).length=(s1.pp Sy.bases kn).length:=by simp
  cases hnm:s1.nm.isSome;have e1:=dD hnm;nofun;have g1:up S pe (.lst (ps'.map bM)) pf=some (.lst (((fs++[(s1,kn)]).filter λp=>p.1.nm.isSome).map bM)):=by
   rw[hf1];simp[uP,hnm]
  have g2:=F4;generalize up S pe (.lst (ps'.map bM))=S2 at g1 g2 ⊢
  rotate_left
  have e1:=ht1 hnm;subst e1;nofun;refine gc hf1 (by rw[aA];exact fu (by lia)) ?_;have g1:up (up S pe (.lst (ps'.map bM))) pf (.lst (((fs.filter λp=>p.1.nm.isSome).map bM)++[.tup [.tup (.str "send"::r),.tup (kn.map D.str)]])) pf=some (.lst (((fs++[(s1,kn)]).filter λp=>p.1.nm.isSome).map bM)):=by
   rw[az];simp[uP,hnm,bM,ed]
  have g2:up (up S pe (.lst (ps'.map bM))) pf (.lst (((fs.filter λp=>p.1.nm.isSome).map bM)++[.tup [.tup (.str "send"::r),.tup (kn.map D.str)]])) pe=some (.lst (ps'.map bM)):=by
   rw[bj (cG hne)];exact F4
  generalize up (up S pe (.lst (ps'.map bM))) pf (.lst (((fs.filter λp=>p.1.nm.isSome).map bM)++[.tup [.tup (.str "send"::r),.tup (kn.map D.str)]]))=S2 at g1 g2 ⊢;nofun
  all_goals
   refine⟨s1,kn,by rw[ed],k1,k2,?_⟩;intro pl tW;have n1:pf≠pl:=ne3 g1 tW;have n2:pe≠pl:=ne3 g2 tW;nofun;refine⟨λi σ S'=>∃x4,σ=[some s.d,some (.ref pf),some (.ref pe),_,x4]/\S' pl=some (.lst ((s1.pp Sy.bases kn).map bM))/\S' pf=some (.lst (((fs++[(s1,kn)]).filter λp=>p.1.nm.isSome).map bM)) /\
    S' pe=some (.lst (ps'.map bM++(((s1.pp Sy.bases kn).map bM).reverse).take i)),⟨_,rfl,az,aM g1 tW,by rw[aM g2 tW];simp⟩,λi σ S' ⟨_,_,g,_⟩=>g,?_,?_⟩
   ·rintro i d σ S' hd ⟨y4,rfl,h1,h2,h3⟩;have hi:=(bH.mp hd).1;rw[el]at hi;nofun;refine gc h3 ?_ ?_
    ·rw[ba,dh,aA,el];exact fu (by lia)
    refine⟨_,rfl,by rw[bj (cG n2)];exact h1,by rw[bj hne];exact h2,?_⟩;rw[az,gw,hd,Ah];rfl
   ·rintro σ S' ⟨y4,rfl,h1,h2,h3⟩;refine done S' _ h2 ?_;rw[h3,jS (aX _),cI,List.map_reverse]
def xA(e:Er):Prop:=e.body.pre.length<=100000/\(∀p∈e.body.bB Sy.bases [],p.2.length<=1000/\p.1.parts.length<=1000)/\e.ps.length<=1000
inductive Ut (ds:List D)(S:af)(q:List D->Prop):Prop where
 |mk (a:Addr) (prog:List Er) (_:ds=[.ref a]) (_:S a=some (.lst (prog.map Er.d))) (_:(∀e∈prog,xA e)) (_:(cX aY Sy.bases prog).length<=100000) (_:q ((cX aY Sy.bases prog).map aq))
def F5 :aS:=kc Ut
theorem F6{told:Str->Sy->List Str->Int}{ext:Sy->List Str}{prog:List Er}{i:Nat}{e:Er}(he:prog[i]?=some e):cX told ext (prog.take (i+1))=cX told ext (prog.take i)++((e.body.bB ext []).map (b_ told e)).flatten:=by
 have htk:prog.take (i+1)=prog.take i++[e]:=by rw[gw,he];rfl
 rw[htk];simp[cX]
theorem F7{told:Str->Sy->List Str->Int}{ext:Sy->List Str}{prog:List Er}(i:Nat):(cX told ext (prog.take i)).length<=(cX told ext prog).length:=by
 conv=>rhs;rw[<-uJ i prog]
 simp only[cX,cI,Am,ba];lia
theorem F8{told:Str->Sy->List Str->Int}{e:Er}:∀l:List (Sy×List Str),((l.filter λp=>p.1.nm.isSome).map (b_ told e)).flatten=(l.map (b_ told e)).flatten
 |[]=>rfl
 |(s,k)::l=>by
  have ih:=F8 (told:=told) (e:=e) l;cases s with
  |send x as =>
   have e1:(((Sy.send x as,k):Sy×List Str)::l).filter (λp=>p.1.nm.isSome)=(Sy.send x as,k)::l.filter λp=>p.1.nm.isSome:=rfl;rw[e1,bo,mv,bo,mv,ih]
  |name x=>exact ih
  |bI=>exact ih
  |pair _ _=>exact ih
  |left _=>exact ih
  |right _=>exact ih
  |fork _ _ _=>exact ih
theorem Uu{k:Nat}(h:aB K mg "graphs" lD ["program"])(G:Gs K mg)(Uv:av P w K mg base k "placed_sends" ["body"] F3)(C0:av P w K mg base k "told_row" ["param","sayings","known"] FY) :
 av P w K mg base (k+1) "graphs" ["program"] F5:=by
 have Uw:=C0;refine h.kc nv (by rintro ds S q ⟨_,_,e,_⟩;rw[e];rfl) λf cdv A outer s0 H E ds S q hr hA=>?_;obtain⟨pr,prog,rfl,hS,hok,hz,hq⟩:=hA;refine⟨_,(au (aL (i:=1) nv.nd rfl (Or.inl rfl) (dE ah))
 (au (c9 da rfl (gL (aa 0)) (b6 (i:=2) nv.nd rfl (Or.inl rfl)) (ax (c9 da rfl (gL (aU Uv hr rfl (ae (ay aC aD (aa 2) ai (λ_ _=>rfl)) ah))) (b6 (i:=3) nv.nd rfl (Or.inr rfl)) (au (aL (i:=4) nv.nd rfl (Or.inr rfl) (ay aC aD (aa 3) ai (λ_ _=>rfl)))
 (au (nr (i:=5) (bK:=ao lD) (N:=["program","found","errand","placed","send","rows"]) (M:=["send","placed"]) (js:=[4,3]) ⟨rfl,by cbv,by cbv,by cbv,by cbv,by cbv⟩ (by cbv) (by cbv) rfl (ju (ay aC aD (aa 2) ai (λ_ _=>rfl))) (λ_ _ _ _ _=>d0) (λ_ _ _ _ _=>(aU Uw hr rfl (ae (aa 0) (ae (ay aC aD (aa 1) ai (λ_ _=>rfl)) (ae (ay aC aD (aa 2) ai (λ_ _=>rfl)) ah))))) nv.nd rfl rfl)
 (ax (eo (fm eM gu gZ f6 gN (aa 1) (ae (bP (ae (ay aC aD (aa 2) ai (λ_ _=>rfl)) (ae (ay aC aD (aa 4) ai (λ_ _=>rfl)) (ae (gK iH iO rfl G.tuple gY (ae (aa 5) ah)) ah)))) ah)))))))))
 (ax (aQ (aa 1))))),?_⟩
 nofun;intro pf hpf;have hne:pr≠pf:=ne3 hS hpf;have hS1:=aM (o:=.lst []) hS hpf;nofun;refine⟨λi σ S'=>jJ λx2 x3 x4 x5=>σ=[some (.ref pr),some (.ref pf),x2,x3,x4,x5]/\Sub S S'/\S' pf=some (.lst ((cX aY Sy.bases (prog.take i)).map aq)),⟨none,none,none,none,rfl,(Sub.refl S).up hpf,by rw[az];rfl⟩,
  λi σ S' ⟨x2,x3,x4,x5,_,h1,_⟩=>h1 _ _ hS,?_,?_⟩
 ·rintro i d σ S' hd ⟨x2,x3,x4,x5,rfl,h1,h2⟩;rw[aJ]at hd;obtain⟨e,he,rfl⟩:=bU.mp hd;have xB:e∈prog:=cj he;obtain⟨o1,o2,o3⟩:=hok e xB;have hsn:=F6 (told:=aY) (ext:=Sy.bases) he;have hbd:=F7 (told:=aY) (ext:=Sy.bases) (prog:=prog) (i+1);rw[hsn,ba]at hbd;unfold Er.d;nofun;refine⟨e.body,rfl,o1,o2,?_⟩;intro pl hpl;have Ux:pf≠pl:=ne3 h2 hpl;obtain⟨L,hL⟩:∃L,L=(e.body.bB Sy.bases []).filter λp=>p.1.nm.isSome:=⟨_,rfl⟩;rw[<-hL];have hLf:(L.map (b_ aY e)).flatten=((e.body.bB Sy.bases []).map (b_ aY e)).flatten:=by rw[hL];exact F8 _
  nofun;refine⟨λj σ S2=>nZ λx3 x4 x5=>σ=[some (.ref pr),some (.ref pf),some e.d,x3,x4,x5]/\Sub S S2/\S2 pl=some (.lst (L.map bM))/\S2 pf=some (.lst ((cX aY Sy.bases (prog.take i)++((L.take j).map (b_ aY e)).flatten).map aq)),
   ⟨_,_,_,rfl,h1.up hpl,az,by rw[aM h2 hpl];simp⟩,λj σ S2 ⟨_,_,_,_,_,g,_⟩=>g,?_,?_⟩
  ·rintro j d σ S2 hd ⟨y3,y4,y5,rfl,g1,g2,g3⟩;rw[aJ]at hd;obtain⟨⟨a,kn⟩,ha,rfl⟩:=bU.mp hd;have haL:(a,kn)∈L:=cj ha;rw[hL,zf]at haL;obtain⟨p1,p2⟩:=o2 _ haL.1;have Uy:L.take (j+1)=L.take j++[(a,kn)]:=by rw[gw,ha];rfl
   have tX:((L.take j).map (b_ aY e)).flatten.length<=(((e.body.bB Sy.bases []).map (b_ aY e)).flatten).length:=by
    rw[<-hLf]
    conv=>rhs;rw[<-uJ j L]
    simp only[cI,Am,ba];lia
   cases a with
   |send x as =>
    have tY:as.length<=1000:=p2;unfold bM Er.d;simp only[Sy.d,Sy.kf];nofun;refine gQ (λi=>bg (as.map λa=>aY (e.ps.getD i "") a kn)) (by rw[aA];lia) trivial ?_ ?_
    ·intro i d hd P hP;rw[aJ]at hd;obtain⟨p,hp,rfl⟩:=bU.mp hd;rw[bJ,hp]at hP;nofun;exact⟨p,as,kn,rfl,tY,hP⟩
    have el:((aW (e.ps.map D.str).length).map λi=>bg (as.map λa=>aY (e.ps.getD i "") a kn))=(e.ps.map λp=>as.map λa=>aY p a kn).map bg:=by
     rw[aA,eL];apply gx;intro i;rw[aJ,aJ];by_cases hi:i<e.ps.length
     ·rw[iy hi,aV hi];simp[bJ,hi]
     ·rw[cT (by simpa using hi),cT (by lia)];rfl
    rw[el];intro p3 hp3;have g4:=aM (o:=.lst ((e.ps.map λp=>as.map λa=>aY p a kn).map bg)) g3 hp3;have n3:pf≠p3:=ne3 g3 hp3;nofun;refine gc g4 (by rw[aA,ba];exact fu (by lia)) ?_;refine⟨_,_,_,rfl,?_,?_,?_⟩
    ·intro b o hb;rw[bj]
     ·exact(g1.up hp3) b o hb
     ·rintro rfl;rw[hpf]at hb;cases hb
    ·rw[bj (cG Ux)];exact aM g2 hp3
    ·rw[az,Uy];simp[b_,aq,cz,dN]
   |name x=>simp[Sy.nm]at haL
   |bI=>simp[Sy.nm]at haL
   |pair _ _=>simp[Sy.nm]at haL
   |left _=>simp[Sy.nm]at haL
   |right _=>simp[Sy.nm]at haL
   |fork _ _ _=>simp[Sy.nm]at haL
  ·rintro σ S2 ⟨y3,y4,y5,rfl,g1,g2,g3⟩;refine⟨_,_,_,_,rfl,g1,?_⟩;rw[g3,aA,ir,hsn,hLf]
 ·rintro σ S' ⟨x2,x3,x4,x5,rfl,h1,h2⟩;rw[aA,ir]at h2;nofun;exact⟨pf,_,rfl,hpf,h1,h2,hq⟩
inductive Uz (ds:List D)(q:D->Prop):Prop where
 |mk (a b:Int) (_:ds=[.int a,.int b]) (_:q (.int (jn a b)))
def F9 :aS:=vS Uz
theorem UA{k:Nat}(h:aB K mg "joined_number" nD ["one","other"])(G:Gs K mg):av P w K mg base (k+1) "joined_number" ["one","other"] F9:=by
 refine h.val TC (by rintro ds q ⟨a,b,e,_⟩;rw[e];rfl) λf cdv A outer s0 H E ds q hr hA=>?_;obtain⟨a,b,rfl,hq⟩:=hA;unfold jn at hq;refine⟨_,(ax (aQ (vP (a5 pq mM ai (bP (ae (aa 0) (ae (aa 1) ah))) (by with_unfolding_all rfl)) ai (cE (L1 rfl) Qy rfl G.max boot_max (ae (aa 0) (ae (aa 1) ah)))))),?_⟩;nofun;rw[QM];by_cases hc:a=0∨b=0
 ·rw[if_pos hc]at hq;refine pF hc ?_;nofun;exact hq
 ·rw[if_neg hc]at hq;refine se hc ?_;nofun;exact hq
inductive UB (ds:List D)(q:D->Prop):Prop where
 |mk (row:List Int) (B:b9) (n p k:Nat) (_:ds=[bg row,dN B,.int k]) (_:Mt n p B) (_:row.length=n) (_:(∀x∈row,0<=x/\x<=2)) (_:0<n) (_:n<=1000) (_:k<p) (_:q (.int (dot row B k)))
def F_ :aS:=vS UB
theorem UC{k:Nat}(h:aB K mg "largest_between" lL ["row","rows","column"])(G:Gs K mg)(UD:av P w K mg base k "joined_number" ["one","other"] F9) :
 av P w K mg base (k+1) "largest_between" ["row","rows","column"] F_:=by
 refine h.val TB (by rintro ds q ⟨_,_,_,_,_,e,_⟩;rw[e];rfl) λf cdv A outer s0 H E ds q hr hA=>?_;obtain⟨row,B,n,p,c,rfl,hB,hl,hr',hn,hn',hc,hq⟩:=hA;refine⟨_,(ax (aQ (cE (Qr rfl) Qx rfl G.max boot_max (ae (FA (bK:=ao lL) (N:=["row","rows","column"]) (M:=["column"]) (js:=[2]) ⟨rfl,by cbv,by cbv,by cbv,by cbv,by cbv⟩ (by cbv) (by cbv) rfl (Qo rfl G.zip (ae (aa 0) (ae (aa 1) ah))) (λ_ _ _ _ _=>d0) (λ_ _ _ _ _=>(aU UD hr rfl (ae (aa 0) (ae (ay aC aD (aa 1) (aa 2) (λ_ _=>rfl)) ah))))) ah)))),?_⟩;unfold bg dN;nofun;have hz:(iV (row.map D.int) (B.map bg)).length=n:=by simp[iV,hl,hB.len]
 refine DG (λ_=>true) (λj=>.int (jn (row.getD j 0) (at2 B j c))) (by rw[hz];lia) trivial ?_ ?_
 ·intro j d hd;obtain⟨hj,_⟩:=bH.mp hd;rw[hz]at hj;have ed:d=.tup [.int (row.getD j 0),bg (B.getD j [])]:=by
   have h1:(row.map D.int)[j]?=some (.int (row.getD j 0)):=by rw[aJ,aV (by lia),bJ,aV (by lia)];rfl
   have hjB:j<B.length:=by rw[hB.len];exact hj
   have h2:(B.map bg)[j]?=some (bg (B.getD j [])):=by rw[aJ,aV hjB,bJ,aV hjB];rfl
   unfold iV at hd;have m9:((row.map D.int).zip (B.map bg))[j]?=some (D.int (row.getD j 0),bg (B.getD j [])):=Af.mpr ⟨h1,h2⟩;rw[aJ,m9]at hd;exact(cS hd).symm
  rw[ed];refine DJ ⟨λP hP=>?_,λ_ P hP=>?_⟩
  ·nofun;exact hP
  ·unfold bg;have lY:c<(B.getD j []).length:=by rw[hB.row _ (m_ (by rw[hB.len];exact hj))];exact hc
   nofun;refine mV (m5 (by lia) (v:=.int (at2 B j c)) ?_) ?_
   ·rw[aJ,fT,aV lY];unfold at2;rw[bJ (l:=B.getD j []),aV lY];rfl
   nofun;exact⟨_,_,rfl,hP⟩
 rw[DH,hz];intro p1 hp1;nofun;have el:((aW n).map λj=>D.int (jn (row.getD j 0) (at2 B j c)))=((aW n).map λj=>jn (row.getD j 0) (at2 B j c)).map D.int:=by rw[eL];rfl
 rw[el];refine QE az (λe=>?_) λM h1 h2=>?_
 ·have:=congrArg mj e;simp at this;lia
 have e:=QH (λj _=>QJ (tD hr' j).1 (hB.at j c).1) h1 h2;have e2:dot row B c=M:=by unfold dot;rw[hl];exact e.symm
 rw[e2]at hq;exact hq
inductive UE (ds:List D)(q:D->Prop):Prop where
 |mk (row:List Int) (B:b9) (n p:Nat) (_:ds=[bg row,dN B]) (_:Mt n p B) (_:row.length=n) (_:(∀x∈row,0<=x/\x<=2)) (_:0<n) (_:n<=1000) (_:p<=1000) (_:q (bg ((aW p).map λk=>dot row B k)))
def Ga :aS:=vS UE
theorem UG{k:Nat}(h:aB K mg "composed_row" lK ["row","rows"])(G:Gs K mg)(UH:av P w K mg base k "largest_between" ["row","rows","column"] F_) :
 av P w K mg base (k+1) "composed_row" ["row","rows"] Ga:=by
 refine h.val Tz (by rintro ds q ⟨_,_,_,_,e,_⟩;rw[e];rfl) λf cdv A outer s0 H E ds q hr hA=>?_;obtain⟨row,B,n,p,rfl,hB,hl,hr',hn,hn',hp,hq⟩:=hA;have h0:(B.getD 0 []).length=p:=hB.row _ (m_ (by rw[hB.len];exact hn));refine⟨_,(ax (aQ (gK iH iO rfl G.tuple gY (ae (jF (bK:=ao lK) (N:=["row","rows"]) (M:=["row","rows"]) (js:=[0,1]) ⟨rfl,by cbv,by cbv,by cbv,by cbv,by cbv⟩ (by cbv) (by cbv) rfl (gM rfl G.range (ae (cE d8 eA rfl G.len dH (ae (ay aC aD (aa 1) ai (λ_ _=>rfl)) ah)) ah)) (λ_ _ _ _ _=>d0) (λ_ _ _ _ _=>(aU UH hr rfl (ae (aa 1) (ae (aa 2) (ae (aa 0) ah)))))) ah)))),?_⟩;nofun;refine qf (k:=0) rfl (by rw[hB.len];exact hn) ?_;nofun;rw[h0];refine gQ (λk=>.int (dot row B k)) (by rw[dF];lia) trivial ?_ ?_
 ·intro i d hd P hP;obtain⟨hi,rfl⟩:=fo hd;nofun;refine⟨row,B,n,p,i,?_,hB,hl,hr',hn,hn',by lia,hP⟩;rw[Int.zero_add]
 rw[dF,fT];intro p1 hp1;nofun;have el:((aW p).map λk=>D.int (dot row B k))=((aW p).map λk=>dot row B k).map D.int:=by rw[eL];rfl
 rw[el];exact hq
inductive UI (ds:List D)(q:D->Prop):Prop where
 |mk (f t f' t':Str) (A B:b9) (_:ds=[cz f t A,cz f' t' B]) (_:q (.bl (decide (t=f'))))
def tZ :aS:=vS UI
theorem UJ{k:Nat}(h:aB K mg "fit" nB ["one","other"]):av P w K mg base (k+1) "fit" ["one","other"] tZ:=by
 refine h.val Tx (by rintro ds q ⟨_,_,_,_,_,_,e,_⟩;rw[e];rfl) λf cdv A outer s0 H E ds q hr hA=>?_;obtain⟨fr,t,f',t',A',B,rfl,hq⟩:=hA;refine⟨_,(ax (aQ (k7 cJ fP (ay aC aD (aa 0) ai (λ_ _=>rfl)) (ay aC aD (aa 1) ai (λ_ _=>rfl)) (aZ _)))),?_⟩;unfold cz;nofun;exact hq
inductive UK(adr:Rf->Addr)(ds:List D)(q:D->Prop)(qx:Addr->Prop):Prop where
 |mk (f t f' t':Str) (A B:b9) (m n p:Nat) (_:ds=[cz f t A,cz f' t' B]) (_:m<=1000) (_:n<=1000) (_:p<=1000) (_:0<n) (_:(t=f'->Mt m n A/\Mt n p B/\q (cz f t' (gP A B)))) (_:(t≠f'->qx (adr .apart)))
def xC(adr:Rf->Addr):aS:=vX (UK adr)
theorem UL{k:Nat}(h:aB K mg "composed" lJ ["one","other"])(G:Gs K mg)(R:jx K mg ES adr)(jK:av P w K mg base k "fit" ["one","other"] tZ)(UM:av P w K mg base k "composed_row" ["row","rows"] Ga) :
 av P w K mg base (k+1) "composed" ["one","other"] (xC adr):=by
 refine h.Pa FL (by rintro ds q qx ⟨_,_,_,_,_,_,_,_,_,e,_⟩;rw[e];rfl) λf cdv A outer s0 H E ds q qx hr hA=>?_;obtain⟨fr,t,f',t',A',B,m,n,p,rfl,hm,hn,hp,hn0,hy,hno⟩:=hA;refine⟨_,(au (bG (k8 (iK (aU jK hr rfl (ae (aa 0) (ae (aa 1) ah))))) (ax (Dk (C:=adr .apart) (R.bound .apart (by decide)) (R.exc (by decide)) rfl rfl (ae bL ah))) bt)
 (au (nr (i:=2) (bK:=ao lJ) (N:=["one","other","rows"]) (M:=["other"]) (js:=[1]) ⟨rfl,by cbv,by cbv,by cbv,by cbv,by cbv⟩ (by cbv) (by cbv) rfl (ju (ay aC aD (aa 0) ai (λ_ _=>rfl))) (λ_ _ _ _ _=>d0) (λ_ _ _ _ _=>(aU UM hr rfl (ae (aa 0) (ae (ay aC aD (aa 1) ai (λ_ _=>rfl)) ah)))) FL.nd rfl rfl)
 (ax (aQ (bP (ae (ay aC aD (aa 0) ai (λ_ _=>rfl)) (ae (ay aC aD (aa 1) ai (λ_ _=>rfl)) (ae (gK iH iO rfl G.tuple gY (ae (aa 2) ah)) ah)))))))),?_⟩
 by_cases hc:t=f'
 ·obtain⟨hA,hB,hq⟩:=hy hc;nofun;refine⟨fr,t,f',t',A',B,rfl,?_⟩;nofun;unfold cz;nofun;unfold dN;nofun;refine gQ (λi=>bg ((aW p).map λk=>dot (A'.getD i []) B k)) (by rw[aA,hA.len];lia) trivial ?_ ?_
  ·intro i d hd P hP;rw[aJ]at hd;obtain⟨row,hrow,rfl⟩:=bU.mp hd;have hmem:=cj hrow;have eg:A'.getD i []=row:=by rw[bJ,hrow];rfl
   rw[eg]at hP;nofun;exact⟨row,B,n,p,rfl,hB,hA.row row hmem,hA.num row hmem,hn0,hn,hp,hP⟩
  have el:((aW (A'.map bg).length).map λi=>bg ((aW p).map λk=>dot (A'.getD i []) B k))=(gP A' B).map bg:=by
   unfold gP;rw[aA,hB.head hn0,eL];apply gx;intro i;rw[aJ,aJ];by_cases hi:i<A'.length
   ·rw[iy hi,aV hi];simp[bJ,hi]
   ·rw[cT (by simpa using hi),cT (by lia)];rfl
  rw[el];intro p1 hp1;nofun;exact hq
 ·nofun;refine⟨fr,t,f',t',A',B,rfl,?_⟩;nofun;exact λa=>hno hc
inductive UN(adr:Rf->Addr)(ds:List D)(S:af)(q:D->Addr->O->Prop)(qx:Addr->Prop):Prop where
 |mk (pf:Addr) (F:CL.Fd Gr) (g:Gr) (way:List Int) (_:ds=[.ref pf,aq g,dP way]) (_:S pf=some (.lst (F.map bO))) (_:F.length<=40) (_:(∀F',CL.putN F g way=some F'->q .non pf (.lst (F'.map bO)))) (_:(CL.putN F g way=none->qx (adr .many)))
def Gb(adr:Rf->Addr):aS:=sS (UN adr)
theorem sub_self{S:af}{a:Addr}{o:O}(h:S a=some o){S':af}(hs:Sub S S'):Sub (up S a o) S':=λb u e=>by
 by_cases c:b=a
 ·subst c;rw[az]at e;cases e;exact hs _ _ h
 ·rw[bj c]at e;exact hs _ _ e
theorem UO{k:Nat}(h:aB K mg "put_new" lM ["found","graph","way"])(G:Gs K mg)(R:jx K mg ES adr):av P w K mg base (k+1) "put_new" ["found","graph","way"] (Gb adr):=by
 refine h.sS TJ (by rintro ds S q qx ⟨_,_,_,_,e,_⟩;rw[e];rfl) λf cdv A outer s0 H E ds S q qx hr hA=>?_;obtain⟨pf,F,g,way,rfl,hS,hl,hy,hn⟩:=hA;refine⟨_,(au (bG (a5 (R9 (mY hr)) Sb (aa 1) (jF (bK:=ao lM) (N:=["found","graph","way"]) (M:=[]) (js:=[]) ⟨rfl,by cbv,by cbv,by cbv,by cbv,by cbv⟩ (by cbv) (by cbv) rfl (gL (aa 0)) (λ_ _ _ _ _=>d0) (λ_ _ _ _ _=>(ay aC aD (aa 0) ai (λ_ _=>rfl)))) (by with_unfolding_all rfl)) (ax NB) bt)
 (au (bG (a5 A3 f_ (cE d8 eA rfl G.len dH (ae (aa 0) ah)) (Nw G.TY rfl) (aZ _)) (ax (Dk (C:=adr .many) (R.bound .many (by decide)) (R.exc (by decide)) rfl rfl (ae bL ah))) bt)
 (ax (eo (fm eM gu gZ f6 gN (aa 0) (ae (bP (ae (aa 1) (ae (aa 2) ah))) ah)))))),?_⟩
 nofun;refine gQ (λi=>aq ((F.getD i (g,[])).1)) (by rw[aA];lia) hS ?_ ?_
 ·intro i d hd P hP;rw[aJ]at hd;obtain⟨p,hp,rfl⟩:=bU.mp hd;rw[bJ,hp]at hP;unfold bO;nofun;exact hP
 have el:((aW (F.map bO).length).map λi=>aq ((F.getD i (g,[])).1))=(F.map aP).map aq:=by
  rw[aA,eL];apply gx;intro i;rw[aJ,aJ];by_cases hi:i<F.length
  ·rw[iy hi,aV hi];simp[bJ,hi]
  ·rw[cT (by simpa using hi),cT (by lia)];rfl
 rw[el];intro p1 hp1;have h1:=aM (o:=.lst ((F.map aP).map aq)) hS hp1;have s1:Sub S (up S p1 (.lst ((F.map aP).map aq))):=(Sub.refl S).up hp1;have h2:up S p1 (.lst ((F.map aP).map aq)) p1=_:=az;generalize up S p1 (.lst ((F.map aP).map aq))=S1 at h1 h2 s1 ⊢;refine Se (by decide) h2 ?_;by_cases hm:g∈F.map aP
 ·rw[decide_eq_true hm];nofun;exact⟨pf,_,sub_self hS s1,hy F (by unfold CL.putN;rw[if_pos hm])⟩
 rw[decide_eq_false hm];have hlen:((F.map bO).length:Int)=(F.length:Int):=by rw[aA]
 by_cases t5:40<=F.length
 ·have UP:((F.map bO).length:Int)>=40:=by lia
  nofun;intro a;exact⟨s1,hn (by unfold CL.putN;rw[if_neg hm,if_pos t5])⟩
 ·have UP:¬((F.map bO).length:Int)>=40:=by lia
  nofun;refine gc h1 (by rw[aA];exact fu (by lia)) ?_;have e:F.map bO++[D.tup [aq g,dP way]]=(F++[(g,way)]).map bO:=by simp[bO]
  rw[e];exact⟨pf,_,Sub.upd s1,hy (F++[(g,way)]) (by unfold CL.putN;rw[if_neg hm,if_neg t5])⟩
inductive UQ(adr:Rf->Addr)(ds:List D)(S:af)(q:List D->Prop)(qx:Addr->Prop):Prop where
 |mk (pn:Addr) (nb:List (Int×Gr)) (ar:Str->Option Nat) (_:ds=[.ref pn]) (_:S pn=some (.lst (nb.map jB))) (_:nb.length<=1000) (_:(∀p∈nb,Gd ar p.2)) (_:(∀F,eX nb=some F->q (F.map bO))) (_:(eX nb=none->qx (adr .many)))
def Gc(adr:Rf->Addr):aS:=nc (UQ adr)
structure FG(ar:Str->Option Nat)(F:CL.Fd Gr):Prop where
 gd:∀p∈F,Gd ar p.1
 wl:∀p∈F,p.2.length<=1000
theorem FG.put{ar:Str->Option Nat}{F F':CL.Fd Gr}{g:Gr}{w:List Int}(h:FG ar F)(hg:Gd ar g)(hw:w.length<=1000)(e:CL.putN F g w=some F'):FG ar F':=by
 unfold CL.putN at e
 split at e
 ·cases e;exact h
 ·split at e
  ·cases e
  ·cases e;refine⟨λp hp=>?_,λp hp=>?_⟩
   ·rcases bR.mp hp with hp|hp
    ·exact h.gd p hp
    ·rw[cH.mp hp];exact hg
   ·rcases bR.mp hp with hp|hp
    ·exact h.wl p hp
    ·rw[cH.mp hp];exact hw
theorem Ge{α:Type}{l:List α}{j:Nat}{x:α}(h:l[j]?=some x):l.drop j=x::l.drop (j+1):=by
 obtain⟨hj,rfl⟩:=bH.mp h;exact uX hj
theorem UR{k:Nat}(h:aB K mg "closure_of" nG ["numbered"])(G:Gs K mg)(R:jx K mg ES adr)(t6:av P w K mg base k "put_new" ["found","graph","way"] (Gb adr))(jK:av P w K mg base k "fit" ["one","other"] tZ)
 (n0:av P w K mg base k "composed" ["one","other"] (xC adr)):av P w K mg base (k+1) "closure_of" ["numbered"] (Gc adr):=by
 refine h.nc jG (by rintro ds S q qx ⟨_,_,_,e,_⟩;rw[e];rfl) λf cdv A outer s0 H E ds S q qx hr hA=>?_;obtain⟨pn,nb,ar,rfl,hS,hnl,hgd,hy,hno⟩:=hA;refine⟨_,(au (aL (i:=1) jG.nd rfl (Or.inl rfl) (dE ah))
 (au (c9 p7 rfl (gL (aa 0)) (lb rfl (fO (b6 (i:=2) jG.nd rfl (Or.inl rfl)) (fO (b6 (i:=3) jG.nd rfl (Or.inl rfl)) la))) (ax (eo (aU t6 hr rfl (ae (aa 1) (ae (aa 3) (ae (bP (ae (aa 2) ah)) ah)))))))
 (au (aL (i:=4) jG.nd rfl (Or.inl rfl) ai)
 (au (pS p7 (a5 o7 f_ (aa 4) (cE d8 eA rfl G.len dH (ae (aa 1) ah)) (aZ _)) (au (aL (i:=5) jG.nd rfl (Or.inl rfl) (ay fg ft (aa 1) (aa 4) (λ_ _=>rfl)))
 (au (c9 p7 rfl (gL (aa 0)) (lb rfl (fO (b6 (i:=2) jG.nd rfl (Or.inl rfl)) (fO (b6 (i:=3) jG.nd rfl (Or.inl rfl)) la))) (ax (bG (iK (aU jK hr rfl (ae (ay aC aD (aa 5) ai (λ_ _=>rfl)) (ae (aa 3) ah)))) (ax (eo (aU t6 hr rfl (ae (aa 1) (ae (aU n0 hr rfl (ae (ay aC aD (aa 5) ai (λ_ _=>rfl)) (ae (aa 3) ah))) (ae (aO Eb Ee (ay aC aD (aa 5) ai (λ_ _=>rfl)) (bP (ae (aa 2) ah))) ah)))))) bt)))
 (ax (NH (i:=4) jG.nd rfl (Or.inl rfl) ai Lr)))))
 (ax (aQ (aa 1))))))),?_⟩
 nofun;intro pf hpf;have hS1:=aM (o:=.lst []) hS hpf;have hne:pn≠pf:=ne3 hS hpf;nofun;refine⟨λj σ S'=>nZ λ(F:CL.Fd Gr) (x2 x3:Option D)=>σ=[some (.ref pn),some (.ref pf),x2,x3,none,none]/\Sub S S'/\S' pf=some (.lst (F.map bO))/\CL.Ok F/\FG ar F/\(∀p∈F,p.2.length<=1)/\CL.fw nb []=CL.fw (nb.drop j) F,
  ⟨[],_,_,rfl,(Sub.refl S).up hpf,az,CL.Ok.nil,⟨by simp,by simp⟩,by simp,by simp⟩,λj σ S' ⟨_,_,_,_,h1,_⟩=>h1 _ _ hS,?turn,?done⟩
 case turn =>
  rintro j d σ S' hd ⟨F,x2,x3,rfl,h1,h2,hok,hfg,hw1,e1⟩;rw[aJ]at hd;obtain⟨⟨n,g⟩,hp,rfl⟩:=bU.mp hd;have hpm:=cj hp;rw[Ge hp,CL.fw]at e1;unfold jB;nofun;refine⟨pf,F,g,[n],rfl,h2,hok.len,λF' eF=>?_,λeF=>?_⟩
  ·have hst:=CL.tM hok eF;refine⟨F',_,_,rfl,h1.at hpf,az,hst.1.ok,hfg.put (hgd _ hpm) (by simp) eF,λp hp'=>?_,by rw[e1,eF];rfl⟩;unfold CL.putN at eF
   split at eF
   ·cases eF;exact hw1 p hp'
   ·split at eF
    ·cases eF
    ·cases eF;rcases bR.mp hp' with z|z
     ·exact hw1 p z
     ·rw[cH.mp z];simp
  ·intro a;refine⟨h1,hno ?_⟩;show CL.fQ cb bf nb=none;unfold CL.fQ;rw[e1,eF];rfl
 rintro σ S' ⟨F,x2,x3,rfl,h1,h2,hok,hfg,hw1,e1⟩;rw[aA,uY]at e1;have e2:eX nb=CL.d6 cb bf nb 41 0 F:=by
  show CL.fQ cb bf nb=_;unfold CL.fQ;rw[e1];rfl
 clear e1;nofun;refine pY (λm σ T=>qA λ(F:CL.Fd Gr) (x2 x3 x5:Option D) (pl:Nat)=>σ=[some (.ref pn),some (.ref pf),x2,x3,some (.int (pl:Int)),x5]/\Sub S T/\T pf=some (.lst (F.map bO))/\CL.Ok F/\FG ar F/\(∀p∈F,p.2.length<=pl+1)/\pl+m=41/\eX nb=CL.d6 cb bf nb m pl F)
  41 ⟨F,x2,x3,none,0,rfl,h1,h2,hok,hfg,hw1,rfl,e2⟩ ?_
 clear h1 h2 hok hfg hw1 e2;rintro m σ T ⟨F,x2,x3,x5,pl,rfl,h1,h2,hok,hfg,hw1,hm,e1⟩;have tX:((F.map bO).length:Int)=(F.length:Int):=by rw[aA]
 have t5:=hok.len;by_cases hlt:pl<F.length
 rotate_left
 ·have hlt':¬((pl:Int)<((F.map bO).length:Int)):=by lia
  nofun;rw[CL.RJ (by lia)]at e1;exact⟨pf,_,rfl,hpf,h1,h2,hy F e1⟩
 have hlt':((pl:Int)<((F.map bO).length:Int)):=by lia
 obtain⟨m,rfl⟩:∃m',m=m'+1:=⟨m-1,by lia⟩;obtain⟨a,ha⟩:∃a,F[pl]?=some a:=⟨_,aV hlt⟩;have n5:=cj ha;rw[CL.d6,ha]at e1;dsimp only at e1;obtain⟨ag,aw⟩:=a;have hga:=hfg.gd _ n5;have US:=hw1 _ n5;dsimp only at hga US;have hTn:=h1 _ _ hS;nofun;refine gf h2 (d:=bO (ag,aw)) (iF (by rw[aJ,ha];rfl)) ?_;nofun;refine⟨λj σ T'=>nZ λ(F':CL.Fd Gr) (x2 x3:Option D)=>σ=[some (.ref pn),some (.ref pf),x2,x3,some (.int (pl:Int)),some (bO (ag,aw))]/\Sub S T'/\T' pf=some (.lst (F'.map bO))/\CL.Ok F'/\FG ar F'/\(∀p∈F',p.2.length<=pl+2)/\eX nb=(CL.put2 cb bf (ag,aw) (nb.drop j) F').bind (CL.d6 cb bf nb m (pl+1)),
  ⟨F,_,_,rfl,h1,h2,hok,hfg,λp hp=>by have:=hw1 p hp;lia,by rw[e1];rfl⟩,λj σ T' ⟨_,_,_,_,h1,_⟩=>h1 _ _ hS,?ab2,?UT⟩
 case UT =>
  rintro σ T' ⟨F',y2,y3,rfl,k1,k2,qD,t7,kw,e3⟩;rw[aA,uY]at e3;nofun;have ep:(pl:Int)+1=((pl+1:Nat):Int):=by lia
  rw[ep];exact⟨m,by lia,F',y2,y3,_,pl+1,rfl,k1,k2,qD,t7,kw,by lia,e3⟩
 clear h1 h2 hok hfg hw1 hlt hlt' tX t5 ha n5 e1;rintro j d σ T' hd ⟨F',y2,y3,rfl,k1,k2,qD,t7,kw,e3⟩;rw[aJ]at hd;obtain⟨⟨n,g⟩,hp,rfl⟩:=bU.mp hd;have hpm:=cj hp;have xD:=hgd _ hpm;dsimp only at xD;rw[Ge hp,CL.put2]at e3;dsimp only at e3;unfold jB bO;nofun;refine⟨ag.1,ag.2.1,g.1,g.2.1,ag.2.2,g.2.2,rfl,?_⟩;by_cases hf:ag.2.1=g.1
 rotate_left
 ·have hff:¬(cb ag g=true):=by simpa[cb]using hf
  rw[if_neg hff]at e3;nofun;exact⟨F',_,_,rfl,k1,k2,qD,t7,kw,e3⟩
 have hff:cb ag g=true:=by simpa[cb]using hf
 rw[if_pos hff]at e3;obtain⟨m1,n1,q1,q2,q3,q4,q5,q6,qE⟩:=hga.ex;obtain⟨m2,n2,r1,r2,r3,r4,r5,r6,UU⟩:=xD.ex;have qF:m2=n1:=by rw[hf,r1]at q2;exact cS q2
 subst qF;nofun;refine⟨ag.1,ag.2.1,g.1,g.2.1,ag.2.2,g.2.2,m1,m2,n2,rfl,by lia,by lia,by lia,by lia,λ_=>⟨qE,UU,?_⟩,λz=>absurd hf z⟩;unfold dP;nofun;refine wQ (by rw[aA];exact de (by simp;lia)) ?_;nofun;refine⟨pf,F',bf ag g,aw++[n],?_,k2,qD.len,λF2 eF=>?_,λeF=>?_⟩
 ·simp[dP,aq,bf]
 ·have hst:=CL.tM qD eF;refine⟨F2,_,_,rfl,k1.at hpf,az,hst.1.ok,t7.put (hga.cmp xD hf) (by rw[ba];simp;lia) eF,λp hp'=>?_,by rw[e3,eF];rfl⟩;unfold CL.putN at eF
  split at eF
  ·cases eF;exact kw p hp'
  ·split at eF
   ·cases eF
   ·cases eF;rcases bR.mp hp' with z|z
    ·exact kw p z
    ·rw[cH.mp z,ba];simp;lia
 ·intro a;refine⟨k1,hno ?_⟩;rw[e3,eF];rfl
inductive UW (ds:List D)(q:D->Prop):Prop where
 |mk (f t:Str) (A:b9) (n:Nat) (_:ds=[cz f t A]) (_:Mt n n A) (_:n<=1000) (_:q (.bl (jC A)))
def Gf :aS:=vS UW
theorem UX{k:Nat}(h:aB K mg "falls_here" lP ["graph"])(G:Gs K mg):av P w K mg base (k+1) "falls_here" ["graph"] Gf:=by
 refine h.val TL (by rintro ds q ⟨_,_,_,_,e,_⟩;rw[e];rfl) λf cdv A outer s0 H E ds q hr hA=>?_;obtain⟨fr,t,A',n,rfl,hM,hn,hq⟩:=hA;refine⟨_,(ax (aQ (cE (DO rfl) (DU (f:=λbs=>bs.any id)) rfl G.any boot_any (ae (FA (bK:=ao lP) (N:=["graph"]) (M:=[]) (js:=[]) ⟨rfl,by cbv,by cbv,by cbv,by cbv,by cbv⟩ (by cbv) (by cbv) rfl (tP rfl G.enumerate (ae (ay aC aD (aa 0) ai (λ_ _=>rfl)) ah)) (λ_ _ _ _ _=>d0) (λ_ _ _ _ _=>(k7 cJ fq (ay aC aD (aa 1) (aa 0) (λ_ _=>rfl)) ai (aZ _)))) ah)))),?_⟩;unfold cz dN;nofun;refine qh (λi=>.bl (decide ((A'.getD i []).getD i 0=2))) (by rw[nq,aA,hM.len];lia) (λ_ _=>trivial) ?_ ?_
 ·intro i d S hd hs;rw[nk]at hd;obtain⟨d2,hd2,rfl⟩:=bU.mp hd;rw[aJ]at hd2;obtain⟨row,hrow,rfl⟩:=bU.mp hd2;have hi:i<A'.length:=(bH.mp hrow).1;have hrl:=hM.row row (cj hrow);have hil:i<row.length:=by rw[hrl];have:=hM.len;lia
  refine DJ λP hP=>?_;rw[bJ (l:=A'),hrow]at hP;unfold bg;nofun;refine mV (d:=.int (row.getD i 0)) (iF (by rw[aJ,aV hil];simp[bJ,hil])) ?_;nofun;exact hP _ (Sub.refl _)
 intro S hs p1 hp1;nofun;have eb:((aW (eB (A'.map bg)).length).map λi=>D.bl (decide ((A'.getD i []).getD i 0=2)))=((aW A'.length).map λi=>decide ((A'.getD i []).getD i 0=2)).map D.bl:=by rw[nq,aA,eL];rfl
 rw[eb];refine DV az ?_;have ea:(((aW A'.length).map λi=>decide ((A'.getD i []).getD i 0=2)).any id)=jC A':=by
  unfold jC;rw[JR];rfl
 rw[ea];nofun;exact hq
inductive UY (ds:List D)(q:D->Prop):Prop where
 |mk (ar:Str->Option Nat) (g:Gr) (_:ds=[aq g]) (_:Gd ar g) (_:q (.bl (df g)))
def Gg :aS:=vS UY
theorem UZ{k:Nat}(h:aB K mg "is_idle_round" nH ["graph"])(G:Gs K mg)(jK:av P w K mg base k "fit" ["one","other"] tZ)(n0:av P w K mg base k "composed" ["one","other"] (xC adr))
 (xE:av P w K mg base k "falls_here" ["graph"] Gf):av P w K mg base (k+1) "is_idle_round" ["graph"] Gg:=by
 refine h.val TK (by rintro ds q ⟨_,_,e,_⟩;rw[e];rfl) λf cdv A outer s0 H E ds q hr hA=>?_;obtain⟨ar,g,rfl,hg,hq⟩:=hA;refine⟨_,(ax (aQ (BY (aU jK hr rfl (ae (aa 0) (ae (aa 0) ah))) (BY (k7 (vI (mY hr)) v8 (aU n0 hr rfl (ae (aa 0) (ae (aa 0) ah))) (aa 0) (aZ _)) (Nx (Ny (aU xE hr rfl (ae (aa 0) ah)))))))),?_⟩;obtain⟨m1,n1,q1,q2,q3,q4,q5,q6,qE⟩:=hg.ex;nofun;refine⟨g.1,g.2.1,g.1,g.2.1,g.2.2,g.2.2,rfl,?_⟩;by_cases hf:g.2.1=g.1
 rotate_left
 ·have hi:df g=false:=by simp[df,cb,hf]
  rw[hi]at hq;rw[decide_eq_false hf];nofun;exact hq
 have qF:n1=m1:=by rw[hf,q1]at q2;exact(cS q2).symm
 subst qF;rw[decide_eq_true hf];nofun;refine⟨g.1,g.2.1,g.1,g.2.1,g.2.2,g.2.2,n1,n1,n1,rfl,by lia,by lia,by lia,by lia,λ_=>⟨qE,qE,?_⟩,λz=>absurd hf z⟩;nofun;show su _ (aq (bf g g)) (aq g) _ _;refine Sf (by decide) ?_;by_cases hc:bf g g=g
 rotate_left
 ·have hi:df g=false:=by simp[df,cb,hf,hc]
  rw[hi]at hq;rw[decide_eq_false hc];nofun;exact hq
 rw[decide_eq_true hc];nofun;refine⟨g.1,g.2.1,g.2.2,n1,rfl,qE,by lia,?_⟩;nofun;have hi:df g=!jC g.2.2:=by simp[df,cb,hf,hc]
 rw[hi]at hq;exact hq
def jL(w:List Int):D:=.tup [.str "open",dP w]
def t8(F:CL.Fd Gr)(S:af)(q:D->af->Prop):Prop:=(∀w,jD F=some w->q (jL w) S)/\(jD F=none->∀p,S p=none->q (.tup [.str "ends",.ref p]) (up S p (.lst ((F.map aP).map aq))))
inductive U0 (ds:List D)(S:af)(q:D->af->Prop)(_:Addr->Prop):Prop where
 |mk (pp:Addr) (F:CL.Fd Gr) (ar:Str->Option Nat) (_:ds=[.ref pp]) (_:S pp=some (.lst (F.map bO))) (_:F.length<=40) (_:(∀p∈F,Gd ar p.1)) (_:t8 F S q)
def Gh :aS:=ku U0
theorem U1{k:Nat}(h:aB K mg "telling_of" lN ["pairs"])(G:Gs K mg)(U2:av P w K mg base k "is_idle_round" ["graph"] Gg):av P w K mg base (k+1) "telling_of" ["pairs"] Gh:=by
 refine h.ku xr (by rintro ds S q qx ⟨_,_,_,e,_⟩;rw[e];rfl) λf cdv A outer s0 H E ds S q qx hr hA=>?_;obtain⟨pp,F,ar,rfl,hS,hl,hgd,hy,hn⟩:=hA;refine⟨_,(au (c9 p7 rfl (gL (aa 0)) (lb rfl (fO (b6 (i:=1) xr.nd rfl (Or.inl rfl)) (fO (b6 (i:=2) xr.nd rfl (Or.inl rfl)) la))) (ax (bG (iK (aU U2 hr rfl (ae (aa 1) ah))) (ax (aQ (bP (ae bL (ae (aa 2) ah))))) bt)))
 (ax (aQ (bP (ae bL (ae (jF (bK:=ao lN) (N:=["pairs","graph","way"]) (M:=[]) (js:=[]) ⟨rfl,by cbv,by cbv,by cbv,by cbv,by cbv⟩ (by cbv) (by cbv) rfl (gL (aa 0)) (λ_ _ _ _ _=>d0) (λ_ _ _ _ _=>(ay aC aD (aa 0) ai (λ_ _=>rfl)))) ah)))))),?_⟩
 nofun;refine⟨λj σ S'=>i5 λ(x1 x2:Option D)=>σ=[some (.ref pp),x1,x2]/\S'=S/\∀i p,i<j->F[i]?=some p->df p.1=false,⟨_,_,rfl,rfl,λi p hi=>by lia⟩,λj σ S' ⟨_,_,_,e,_⟩=>by rw[e];exact hS,?_,?_⟩
 ·rintro j d σ S' hd ⟨x1,x2,rfl,rfl,hb⟩;rw[aJ]at hd;obtain⟨⟨g,wy⟩,hp,rfl⟩:=bU.mp hd;have hg:=hgd _ (cj hp);unfold bO;nofun;refine⟨ar,g,rfl,hg,?_⟩;cases hi:df g with
  |true =>
   nofun;refine⟨S',Sub.refl _,hy wy ?_⟩;unfold jD;have:F.find? (λp=>df p.1)=some (g,wy):=by
    rw[List.find?_eq_some_iff_getElem];obtain⟨hj,ej⟩:=bH.mp hp;refine⟨hi,j,hj,ej,λi hij=>?_⟩;have:=hb i F[i] hij (aV (by lia));simpa using this
   rw[this];rfl
  |false =>
   nofun;refine⟨_,_,rfl,rfl,λi p hij qk=>?_⟩;by_cases e:i=j
   ·subst e;rw[hp]at qk;cases qk;exact hi
   ·exact hb i p (by lia) qk
 rintro σ S' ⟨x1,x2,rfl,rfl,hb⟩;have htn:jD F=none:=by
  unfold jD;rw[JY.mpr λp hp=>?_]
  ·rfl
  ·obtain⟨i,hi,rfl⟩:=iw hp;rw[hb i F[i] (by rw[aA];exact hi) (aV hi)];decide
 nofun;refine gQ (λi=>aq ((F.getD i (("","",[]),[])).1)) (by rw[aA];lia) hS ?_ ?_
 ·intro i d hd P hP;rw[aJ]at hd;obtain⟨p,hp,rfl⟩:=bU.mp hd;rw[bJ,hp]at hP;unfold bO;nofun;exact hP
 have el:((aW (F.map bO).length).map λi=>aq ((F.getD i (("","",[]),[])).1))=(F.map aP).map aq:=by
  rw[aA,eL];apply gx;intro i;rw[aJ,aJ];by_cases hi:i<F.length
  ·rw[iy hi,aV hi];simp[bJ,hi]
  ·rw[cT (by simpa using hi),cT (by lia)];rfl
 rw[el];intro p1 hp1;nofun;exact⟨_,Sub.refl _,hn htn p1 hp1⟩
structure Plain(ps:List Str)(n:Nat)(s:Sy):Prop where
 wf:∀ar,s.wf ar ps
 deep:s.deep<=n
 sends:s.sends=0
 size:s.pre.length+1<=2^n
theorem kB(a:Sy)(as:List Sy):(Sy.bz (a::as)).length=a.pre.length+(Sy.bz as).length:=by simp[Sy.bz]
theorem lZ(s:Sy):s.pre.length=1+(Sy.bz s.parts).length:=by rw[Sy.lp];simp;lia
theorem U3{ps:List Str}{x:Str}(h:x∈ps):Plain ps 1 (.name x):=⟨λ_=>h,by simp[Sy.deep],by simp[Sy.sends,Sy.pre],by simp[Sy.pre]⟩
theorem Plain.one{ps:List Str}{n:Nat}{s:Sy}(h:Plain ps n s):(Sy.bz [s]).length+2<=2^(n+1):=by
 have:=h.size;rw[kB,Nat.pow_succ];simp[Sy.bz];lia
theorem Plain.left{ps:List Str}{n:Nat}{s:Sy}(h:Plain ps n s):Plain ps (n+1) (.left s):=⟨h.wf,by have:=h.deep;simp only[Sy.deep];lia,by rw[Sy.lr];simp only[Sy.parts,Sy.jy,h.sends];simp[Sy.dz,Sy.bz],
 by have:=h.one;rw[lZ];simp only[Sy.parts];lia⟩
theorem Plain.right{ps:List Str}{n:Nat}{s:Sy}(h:Plain ps n s):Plain ps (n+1) (.right s):=⟨h.wf,by have:=h.deep;simp only[Sy.deep];lia,by rw[Sy.lr];simp only[Sy.parts,Sy.jy,h.sends];simp[Sy.dz,Sy.bz],
 by have:=h.one;rw[lZ];simp only[Sy.parts];lia⟩
theorem Plain.pair{ps:List Str}{n:Nat}{s t:Sy}(h:Plain ps n s)(h':Plain ps n t):Plain ps (n+1) (.pair s t):=⟨λar=>⟨h.wf ar,h'.wf ar⟩,by have:=h.deep;have:=h'.deep;simp only[Sy.deep];lia,by rw[Sy.lr];simp only[Sy.parts,Sy.jy,h.sends,h'.sends];simp[Sy.dz,Sy.bz],
 by have:=h.size;have:=h'.size;rw[lZ,Nat.pow_succ];simp only[Sy.parts,kB];simp[Sy.bz];lia⟩
theorem Plain.mono{ps:List Str}{n m:Nat}{s:Sy}(h:Plain ps n s)(hm:n<=m):Plain ps m s:=⟨h.wf,bX h.deep hm,h.sends,bX h.size (Nat.pow_le_pow_right (by decide) hm)⟩
theorem U4{S:af}{Q:K3}{a:Addr}{x y:D}{c:Int}(hS:S a=some (.lst [x,y]))(q0:Q x S)(q1:Q y S):sy (.ref a) (.int (c%2)) S Q:=by
 have m2:c%2=0∨c%2=1:=by lia
 rcases m2 with m|m
 ·exact gf hS (by rw[m];rfl) q0
 ·exact gf hS (by rw[m];rfl) q1
inductive U5 (ds:List D)(q:D->Prop):Prop where
 |mk (cell:Int) (ps:List Str) (_:ds=[.int cell,.tup (ps.map D.str)]) (_:1<=ps.length) (_:ps.length<=4) (_:∀s:Sy,Plain ps 4 s->q s.d)
def xF :aS:=vS U5
theorem U6{k:Nat}(h:aB K mg "_law_path" nK ["cell","params"])(G:Gs K mg):av P w K mg base (k+1) "_law_path" ["cell","params"] xF:=by
 refine h.val tU (by rintro ds q ⟨_,_,e,_⟩;rw[e];rfl) λf cdv A outer s0 H E ds q hr hA=>?_;obtain⟨cell,ps,rfl,l1,l4,hq⟩:=hA;obtain⟨jp,vp,ejp,U7,hap⟩:=DA (f:=D.str) cell (show 0<ps.length by lia);have hpl:(0:Int)<((ps.map D.str).length:Int):=by rw[aA];lia
 have n4:0<=cell/4%4/\cell/4%4<4:=by lia
 refine⟨_,(au (aL (i:=2) tU.nd rfl (Or.inl rfl) (bP (ae bL (ae (ay aC aD (aa 1) (aO c7 bx (aa 0) (cE d8 eA rfl G.len dH (ae (aa 1) ah))) (λ_ _=>rfl)) ah))))
 (au (c9 da rfl (gM rfl G.range (ae (aO c7 bx (aO dS bx (aa 0) ai) ai) ah)) (b6 (i:=3) tU.nd rfl (Or.inl rfl)) (ax (aL (i:=2) tU.nd rfl (Or.inl rfl) (bP (ae (ay fg ft (dE (ae bL (ae bL ah))) (aO c7 bx (aO dS bx (aa 0) (ay fg ft (dE (ae ai (ae ai (ae ai ah)))) (aa 3) (λ_ _=>rfl))) ai) (λ_ _=>rfl)) (ae (aa 2) ah))))))
 (ax (aQ (aa 2))))),?_⟩
 nofun;refine mV hap ?_;nofun;refine⟨λi σ S=>i5 λ(s:Sy) (x3:Option D)=>σ=[some (.int cell),some (.tup (ps.map D.str)),some s.d,x3]/\Plain ps (1+i) s,⟨.name vp,none,rfl,U3 (cj U7)⟩,λ_ _ _ _=>trivial,?_,?_⟩
 ·rintro i d σ S hd ⟨s,x3,rfl,hs⟩;obtain⟨hi,rfl⟩:=fo hd;nofun;intro p1 hp1;nofun;intro p2 hp2;nofun;have h3:i=0∨i=1∨i=2:=by lia
  have hl:=aM (o:=.lst [.int 16,.int 32,.int 64]) (az (S:=S) (a:=p1) (o:=.lst [.str "left",.str "right"])) hp2;rcases h3 with rfl|rfl|rfl
  all_goals
   nofun;refine U4 hl ?_ ?_
   ·nofun;exact⟨.left s,_,rfl,by rw[<-ou];exact hs.left⟩
   ·nofun;exact⟨.right s,_,rfl,by rw[<-ou];exact hs.right⟩
 ·rintro σ S ⟨s,x3,rfl,hs⟩;rw[dF]at hs;nofun;exact hq s (hs.mono (by lia))
inductive U8 (ds:List D)(q:D->Prop):Prop where
 |mk (cell:Int) (ps:List Str) (_:ds=[.int cell,.tup (ps.map D.str)]) (_:1<=ps.length) (_:ps.length<=4) (_:∀s:Sy,Plain ps 5 s->q s.d)
def xG :aS:=vS U8
theorem U9{k:Nat}(h:aB K mg "_law_arg" nM ["cell","params"])(jM:av P w K mg base k "_law_path" ["cell","params"] xF):av P w K mg base (k+1) "_law_arg" ["cell","params"] xG:=by
 refine h.val TQ (by rintro ds q ⟨_,_,e,_⟩;rw[e];rfl) λf cdv A outer s0 H E ds q hr hA=>?_;obtain⟨cell,ps,rfl,l1,l4,hq⟩:=hA;refine⟨_,(au (bG (a5 cJ fq (aO c7 bx (aa 0) ai) ai (aZ _)) (ax (aQ (bP (ae bL ah)))) bt)
 (au (bG (a5 cJ fq (aO c7 bx (aa 0) ai) ai (aZ _)) (ax (aQ (bP (ae bL (ae (aU jM hr rfl (ae (aO dS bx (aa 0) ai) (ae (aa 1) ah))) (ae (aU jM hr rfl (ae (aO dS bx (aa 0) ai) (ae (aa 1) ah))) ah)))))) bt)
 (ax (aQ (aU jM hr rfl (ae (aO dS bx (aa 0) ai) (ae (aa 1) ah))))))),?_⟩
 by_cases h0:cell%9=0
 ·nofun;exact hq .bI ⟨λ_=>trivial,by simp[Sy.deep],by simp[Sy.sends,Sy.pre],by simp[Sy.pre]⟩
 by_cases h1:cell%9=1
 ·nofun;refine⟨_,ps,rfl,l1,l4,λa ha=>?_⟩;nofun;refine⟨_,ps,rfl,l1,l4,λb hb=>?_⟩;nofun;exact hq (.pair a b) (ha.pair hb)
 ·nofun;refine⟨_,ps,rfl,l1,l4,λa ha=>?_⟩;nofun;exact hq a (ha.mono (by decide))
structure n6(ar:Str->Option Nat)(ps:List Str)(x:Str)(as:List Sy):Prop where
 ar:ar x=some as.length
 l1:1<=as.length
 l4:as.length<=4
 plain:∀a∈as,Plain ps 5 a
inductive U_ (ds:List D)(S:af)(q:D->Addr->O->Prop):Prop where
 |mk (ns:List Int) (sp nm ct:Addr) (i:Int) (rest:List D) (names ps:List Str) (counts:List Nat) (_:ds=[.bA (ns.map D.int),.ref sp,.ref nm,.ref ct,.tup (ps.map D.str)]) (_:S sp=some (.lst (.int i::rest))) (_:S nm=some (.lst (names.map D.str))) (_:S ct=some (.lst (cD counts))) (_:sp≠nm) (_:sp≠ct) (_:0<=i) (_:1<=ps.length) (_:ps.length<=4) (_:1<=names.length) (_:names.Nodup) (_:names.length=counts.length) (_:(∀c∈counts,1<=c/\c<=4)) (_:∀(x:Str) (as:List Sy) (i2:Int),n6 (dA names counts) ps x as->0<=i2->q (Sy.send x as).d sp (.lst (.int i2::rest)))
def xH :aS:=kd U_
theorem U'{k:Nat}(h:aB K mg "_law_send" lQ ["script","spot","names","counts","params"])(G:Gs K mg)(gR:av P w K mg base k "_law_next" ["script","spot"] tV)(n8:av P w K mg base k "_law_arg" ["cell","params"] xG) :
 av P w K mg base (k+1) "_law_send" ["script","spot","names","counts","params"] xH:=by
 refine h.kd FN (by rintro ds S q ⟨_,_,_,_,_,_,_,_,_,e,_⟩;rw[e];rfl) λf cdv A outer s0 H E ds S q hr hA=>?_;obtain⟨ns,sp,nm,ct,i,rest,names,ps,counts,rfl,hsp,hnm,hct,n1,n2,hi,l1,l4,m1,nd,lY,hc4,hq⟩:=hA;refine⟨_,(au (aL (i:=5) FN.nd rfl (Or.inl rfl) (aO c7 bx (aU gR hr rfl (ae (aa 0) (ae (aa 1) ah))) (cE d8 eA rfl G.len dH (ae (aa 2) ah))))
 (ax (aQ (bP (ae bL (ae (ay fg ft (aa 2) (aa 5) (λ_ _=>rfl)) (ae (gK iH iO rfl G.tuple gY (ae (jF (bK:=ao lQ) (N:=["script","spot","names","counts","params","to"]) (M:=["script","spot","params"]) (js:=[0,1,4]) ⟨rfl,by cbv,by cbv,by cbv,by cbv,by cbv⟩ (by cbv) (by cbv) rfl (gM rfl G.range (ae (ay fg ft (aa 3) (aa 5) (λ_ _=>rfl)) ah)) (λ_ _ _ _ _=>d0) (λ_ _ _ _ _=>(aU n8 hr rfl (ae (aU gR hr rfl (ae (aa 1) (ae (aa 2) ah))) (ae (aa 3) ah))))) ah)) ah))))))),?_⟩
 have hnl:(0:Int)<((names.map D.str).length:Int):=by rw[aA];lia
 have ib:∀o,up S sp o nm=some (.lst (names.map D.str)):=λo=>by rw[bj (cG n1)];exact hnm
 have xI:∀o,up S sp o ct=some (.lst (cD counts)):=λo=>by rw[bj (cG n2)];exact hct
 nofun;refine⟨ns,sp,i,rest,rfl,hsp,hi,?_⟩;have ke:=ib (.lst (.int (i+1)::rest));have Va:=xI (.lst (.int (i+1)::rest));obtain⟨jt,vt,Vb,Gi,hat⟩:=DA (f:=D.str) (cellAt ns i) (show 0<names.length by lia);have Vc:jt<counts.length:=by rw[<-lY];exact(bH.mp Gi).1
 obtain⟨cn,hcn⟩:∃cn,counts[jt]?=some cn:=⟨_,aV Vc⟩;have Vd:=hc4 cn (cj hcn);have har:dA names counts vt=some cn:=wz nd Gi hcn;nofun;refine gf ke hat ?_;nofun;refine gf Va (d:=.int cn) (by rw[Vb];refine iF ?_;rw[aJ,hcn];rfl) ?_;nofun;refine⟨λj ys S'=>∃as:List Sy,ys=as.map Sy.d/\as.length=j/\j<=cn/\(∀a∈as,Plain ps 5 a)/\S'=up S sp (.lst (.int (i+1+j)::rest)),⟨[],rfl,rfl,dQ _,by simp,by simp⟩,?_,?_,?_⟩
 ·rintro j ys S' ⟨as,rfl,hl,hj,_,rfl⟩;exact⟨trivial,by rw[aA];exact fu (by lia)⟩
 ·rintro j d ys S' hd ⟨as,rfl,hl,hj,hpl,rfl⟩;obtain⟨hj',rfl⟩:=fo hd;refine DI (wH ?_);rw[if_pos rfl];nofun;refine⟨ns,sp,i+1+j,rest,rfl,az,by lia,?_⟩;nofun;refine⟨_,ps,rfl,l1,l4,λa ha=>?_⟩;refine⟨as++[a],by simp,by simp[hl],by lia,λb hb=>?_,?_⟩
  ·rcases bR.mp hb with hb|hb
   ·exact hpl b hb
   ·rw[cH.mp hb];exact ha
  ·rw[vL];have:i+1+(j:Int)+1=i+1+((j+1:Nat):Int):=by lia
   rw[this]
 rintro ys S' ⟨as,rfl,hl,hj,hpl,rfl⟩;rw[dF,fT]at hl;intro p1 hp1;nofun;have e:D.tup [.str "send",.str vt,.tup (as.map Sy.d)]=(Sy.send vt as).d:=by simp only[Sy.d,Sy.kf]
 rw[e];exact⟨sp,_,((Px.refl sp S).at.new hp1).sub (aM az hp1),hq vt as _ ⟨by rw[hl];exact har,by lia,by lia,hpl⟩ (by lia)⟩
structure Bd(ar:Str->Option Nat)(ps:List Str)(n m z:Nat)(s:Sy):Prop where
 wf:s.wf ar ps
 deep:s.deep<=n
 sends:s.sends<=m
 size:s.pre.length<=z
theorem Plain.bd{ar:Str->Option Nat}{ps:List Str}{n:Nat}{s:Sy}(h:Plain ps n s):Bd ar ps n 0 (2^n) s:=⟨h.wf ar,h.deep,by rw[h.sends];exact aX _,by have:=h.size;lia⟩
theorem Bd.mono{ar:Str->Option Nat}{ps:List Str}{n m z n' m' z':Nat}{s:Sy}(h:Bd ar ps n m z s)(h1:n<=n')(h2:m<=m')(h3:z<=z'):Bd ar ps n' m' z' s:=⟨h.wf,bX h.deep h1,bX h.sends h2,bX h.size h3⟩
theorem Bd.pair{ar:Str->Option Nat}{ps:List Str}{n m z m' z':Nat}{s t:Sy}(h:Bd ar ps n m z s)(h':Bd ar ps n m' z' t):Bd ar ps (n+1) (m+m') (1+z+z') (.pair s t) :=
 ⟨⟨h.wf,h'.wf⟩,by have:=h.deep;have:=h'.deep;simp only[Sy.deep];lia,by have:=h.sends;have:=h'.sends;rw[Sy.lr];simp only[Sy.parts,Sy.jy];simp[Sy.dz,Sy.bz];lia,
  by have:=h.size;have:=h'.size;rw[lZ];simp only[Sy.parts,kB];simp[Sy.bz];lia⟩
theorem Bd.fork{ar:Str->Option Nat}{ps:List Str}{n m z m' z' m2 z2:Nat}{s t u:Sy}(h:Bd ar ps n m z s)(h':Bd ar ps n m' z' t)(h2:Bd ar ps n m2 z2 u):Bd ar ps (n+1) (m+m'+m2) (1+z+z'+z2) (.fork s t u) :=
 ⟨⟨h.wf,h'.wf,h2.wf⟩,by have:=h.deep;have:=h'.deep;have:=h2.deep;simp only[Sy.deep];lia,by have:=h.sends;have:=h'.sends;have:=h2.sends;rw[Sy.lr];simp only[Sy.parts,Sy.jy];simp[Sy.dz,Sy.bz];lia,
  by have:=h.size;have:=h'.size;have:=h2.size;rw[lZ];simp only[Sy.parts,kB];simp[Sy.bz];lia⟩
theorem xJ{ps:List Str}:∀{as:List Sy},(∀a∈as,Plain ps 5 a)->Sy.dz as=0/\(Sy.bz as).length<=31*as.length
 |[],_=>by simp[Sy.dz,Sy.bz]
 |a::as,h=>by
  have h1:=h a bY;have h2:=xJ (as:=as) λb hb=>h b (cg _ hb);have:=h1.sends;have:=h1.size;rw[Sy.jy,kB,cf];lia
theorem n6.bd{ar:Str->Option Nat}{ps:List Str}{x:Str}{as:List Sy}(h:n6 ar ps x as):Bd ar ps 6 1 125 (.send x as):=by
 obtain⟨h1,h2⟩:=xJ h.plain;have:=h.l4;refine⟨⟨h.ar,h.l1,h.l4,Sy.wx.mpr λa ha=>(h.plain a ha).wf ar⟩,?_,?_,?_⟩
 ·have:=Sy.kg (as:=as) (n:=5) λa ha=>(h.plain a ha).deep;simp only[Sy.deep];lia
 ·rw[Sy.lr];simp only[Sy.parts];lia
 ·rw[lZ];simp only[Sy.parts];lia
theorem n6.put{ar:Str->Option Nat}{ps:List Str}{x:Str}{as:List Sy}{n m z:Nat}(h:n6 ar ps x as)(hn:5<=n)(bs:List Sy)(hb:∀b∈bs,b.wf ar ps/\b.deep<=n)(hs:Sy.dz bs<=m)(hz:(Sy.bz bs).length<=z)(hl:bs.length<=as.length)(h1:1<=bs.length) :
 Bd ar ps (n+1) (m+1) (1+z+124) (.send x (bs++as.drop bs.length)):=by
 have hp:∀a∈as.drop bs.length,Plain ps 5 a:=λa ha=>h.plain a (Aa ha);obtain⟨e1,e2⟩:=xJ hp;have:=h.l4;have hlen:(bs++as.drop bs.length).length=as.length:=by rw[ba,fc];lia
 have hall:∀a∈bs++as.drop bs.length,a.wf ar ps/\a.deep<=n:=λa ha=>by
  rcases bR.mp ha with ha|ha
  ·exact hb a ha
  ·exact⟨(hp a ha).wf ar,bX (hp a ha).deep hn⟩
 rw[fc]at e2;refine⟨⟨by rw[hlen];exact h.ar,by rw[hlen];exact h.l1,by rw[hlen];exact h.l4,Sy.wx.mpr λa ha=>(hall a ha).1⟩,?_,?_,?_⟩
 ·have:=Sy.kg (as:=bs++as.drop bs.length) (n:=n) λa ha=>(hall a ha).2;simp only[Sy.deep];lia
 ·rw[Sy.lr];simp only[Sy.parts,Sy.PR];lia
 ·rw[lZ];simp only[Sy.parts,Sy.wu,ba];lia
inductive Ve (ds:List D)(S:af)(q:D->Addr->O->Prop):Prop where
 |mk (ns:List Int) (sp nm ct:Addr) (i:Int) (rest:List D) (names ps:List Str) (counts:List Nat) (_:ds=[.bA (ns.map D.int),.ref sp,.ref nm,.ref ct,.tup (ps.map D.str)]) (_:S sp=some (.lst (.int i::rest))) (_:S nm=some (.lst (names.map D.str))) (_:S ct=some (.lst (cD counts))) (_:sp≠nm) (_:sp≠ct) (_:0<=i) (_:1<=ps.length) (_:ps.length<=4) (_:1<=names.length) (_:names.Nodup) (_:names.length=counts.length) (_:(∀c∈counts,1<=c/\c<=4)) (_:∀(s:Sy) (i2:Int),Bd (dA names counts) ps 12 6 1500 s->0<=i2->q s.d sp (.lst (.int i2::rest)))
def Gj :aS:=kd Ve
theorem Vf{k:Nat}(h:aB K mg "_law_body" nN ["script","spot","names","counts","params"])(G:Gs K mg)(gR:av P w K mg base k "_law_next" ["script","spot"] tV)(n8:av P w K mg base k "_law_arg" ["cell","params"] xG)
 (jM:av P w K mg base k "_law_path" ["cell","params"] xF) (l0:av P w K mg base k "_law_send" ["script","spot","names","counts","params"] xH) :
 av P w K mg base (k+1) "_law_body" ["script","spot","names","counts","params"] Gj:=by
 refine h.kd ie (by rintro ds S q ⟨_,_,_,_,_,_,_,_,_,e,_⟩;rw[e];rfl) λf cdv A outer s0 H E ds S q hr hA=>?_;obtain⟨ns,sp,nm,ct,i,rest,names,ps,counts,rfl,hsp,hnm,hct,n1,n2,hi,l1,l4,m1,nd,lY,hc4,hq⟩:=hA;refine⟨_,(au (aL (i:=5) ie.nd rfl (Or.inl rfl) (aU gR hr rfl (ae (aa 0) (ae (aa 1) ah))))
 (au (aL (i:=6) ie.nd rfl (Or.inl rfl) (aU l0 hr rfl (ae (aa 0) (ae (aa 1) (ae (aa 2) (ae (aa 3) (ae (aa 4) ah)))))))
 (au (ki (a5 cJ fq (aO c7 bx (aa 5) ai) ai (aZ _)) (ax (aL (i:=6) ie.nd rfl (Or.inl rfl) (bP (ae bL (ae (aa 6) (ae (aU jM hr rfl (ae (aO dS bx (aa 5) ai) (ae (aa 4) ah))) ah)))))) bt)
 (au (ki (a5 cJ fq (aO c7 bx (aa 5) ai) ai (aZ _)) (au (aL (i:=7) ie.nd rfl (Or.inl rfl) (aU l0 hr rfl (ae (aa 0) (ae (aa 1) (ae (aa 2) (ae (aa 3) (ae (aa 4) ah)))))))
 (au (aL (i:=8) ie.nd rfl (Or.inl rfl) (aO vv CQ (bP (ae (aa 6) ah)) (eU sC sD (ay aC aD (aa 7) ai (λ_ _=>rfl)) (eT ai) eS)))
 (au (ki (cL.pt (w_and (a5 cJ fq (aO c7 bx (aO dS bx (aa 5) ai) ai) ai (aZ _)) (mI (a5 rN f_ (cE d8 eA rfl G.len dH (ae (aa 8) ah)) ai (aZ _))))) (ax (aL (i:=8) ie.nd rfl (Or.inl rfl) (aO vv CQ (bP (ae (aa 6) (ae (aU l0 hr rfl (ae (aa 0) (ae (aa 1) (ae (aa 2) (ae (aa 3) (ae (aa 4) ah)))))) ah))) (eU sC sD (aa 8) (eT ai) eS)))) bt)
 (ax (aL (i:=6) ie.nd rfl (Or.inl rfl) (bP (ae bL (ae (ay aC aD (aa 7) ai (λ_ _=>rfl)) (ae (aa 8) ah))))))))) bt)
 (au (ki (a5 cJ fq (aO c7 bx (aa 5) ai) ai (aZ _)) (ax (aL (i:=6) ie.nd rfl (Or.inl rfl) (bP (ae bL (ae (aa 6) (ae (aU l0 hr rfl (ae (aa 0) (ae (aa 1) (ae (aa 2) (ae (aa 3) (ae (aa 4) ah)))))) ah)))))) bt)
 (au (aL (i:=9) ie.nd rfl (Or.inl rfl) (aU n8 hr rfl (ae (aO dS bx (aa 5) ai) (ae (aa 4) ah))))
 (au (ki (a5 cJ fq (aO c7 bx (aO dS bx (aa 5) ai) ai) ai (aZ _)) (ax (aL (i:=9) ie.nd rfl (Or.inl rfl) (aU l0 hr rfl (ae (aa 0) (ae (aa 1) (ae (aa 2) (ae (aa 3) (ae (aa 4) ah)))))))) bt)
 (au (ki (a5 cJ fq (aO c7 bx (aO dS bx (aa 5) ai) ai) ai (aZ _)) (ax (aQ (aa 6))) bt)
 (ax (aQ (bP (ae bL (ae (aU jM hr rfl (ae (aU gR hr rfl (ae (aa 0) (ae (aa 1) ah))) (ae (aa 4) ah))) (ae (aa 6) (ae (aa 9) ah))))))))))))))),?_⟩
 have ib:∀o,up S sp o nm=some (.lst (names.map D.str)):=λo=>by rw[bj (cG n1)];exact hnm
 have xI:∀o,up S sp o ct=some (.lst (cD counts)):=λo=>by rw[bj (cG n2)];exact hct
 have fin:∀(s:Sy) (i2:Int),Bd (dA names counts) ps 12 6 1500 s->0<=i2->∃a o,Sub (up S a o) (up S sp (.lst (.int i2::rest)))/\q s.d a o:=λs i2 h1 h2=>⟨sp,_,Sub.refl _,hq s i2 h1 h2⟩;have snd:∀(i1:Int) (Q:K3),0<=i1->(∀(x:Str) (as:List Sy) (i2:Int),n6 (dA names counts) ps x as->0<=i2->Q (Sy.send x as).d (up S sp (.lst (.int i2::rest)))) ->
  xH [.bA (ns.map D.int),.ref sp,.ref nm,.ref ct,.tup (ps.map D.str)] (up S sp (.lst (.int i1::rest))) Q (λ_ _ _=>False):=λi1 Q h1 h2 =>
  ⟨ns,sp,nm,ct,i1,rest,names,ps,counts,rfl,az,ib _,xI _,n1,n2,h1,l1,l4,m1,nd,lY,hc4,λx as i2 ho hi2=>by
   show Q _ (up (up S sp _) sp _);rw[vL];exact h2 x as i2 ho hi2⟩
 nofun;refine⟨ns,sp,i,rest,rfl,hsp,hi,?_⟩;generalize cellAt ns i=shape;nofun;refine snd _ _ (by lia) λx0 as0 i0 Gm hi0=>?_;nofun;refine kj (λσ T=>∃(s:Sy),σ=[some (.bA (ns.map D.int)),some (.ref sp),some (.ref nm),some (.ref ct),some (.tup (ps.map D.str)),some (.int shape),some s.d,none,none,none]/\T=up S sp (.lst (.int i0::rest))/\Bd (dA names counts) ps 7 1 200 s) ?_ ?_
 ·intro n' hn';by_cases c1:shape%4=1
  ·nofun;refine⟨_,ps,rfl,l1,l4,λp hp=>?_⟩;nofun;exact hn' _ _ ⟨.pair (.send x0 as0) p,rfl,rfl,(Gm.bd.pair (hp.bd.mono (n':=6) (by decide) (aX _) (aX _))).mono (by decide) (by decide) (by decide)⟩
  ·nofun;exact hn' _ _ ⟨.send x0 as0,rfl,rfl,Gm.bd.mono (by decide) (by decide) (by decide)⟩
 rintro σ T ⟨s,rfl,rfl,hs⟩;nofun;refine kj (λσ T=>jJ λ(s:Sy) (x7 x8:Option D) (i1:Int)=>σ=[some (.bA (ns.map D.int)),some (.ref sp),some (.ref nm),some (.ref ct),some (.tup (ps.map D.str)),some (.int shape),some s.d,x7,x8,none]/\0<=i1/\T=up S sp (.lst (.int i1::rest))/\Bd (dA names counts) ps 8 3 600 s) ?_ ?_
 ·intro n' hn';by_cases c1:shape%4=2
  ·nofun;refine snd _ _ (by lia) λx1 as1 i1 ho1 hi1=>?_;simp only[Sy.d,Sy.kf];have hl1:=ho1.l1;have Q2:=ho1.l4;nofun;rw[sT (by decide)];refine C7 (by simp) (de (by simp;lia)) ?_;nofun;have er:[s.d]++(as1.map Sy.d).drop (oI 1)=([s]++as1.drop [s].length).map Sy.d:=by simp
   rw[er];refine kj (λσ T=>i5 λ(bs:List Sy) (i2:Int)=>σ=[some (.bA (ns.map D.int)),some (.ref sp),some (.ref nm),some (.ref ct),some (.tup (ps.map D.str)),some (.int shape),some s.d,some (.tup [.str "send",.str x1,.tup (as1.map Sy.d)]),some (.tup ((bs++as1.drop bs.length).map Sy.d)),none] /\
    0<=i2/\T=up S sp (.lst (.int i2::rest))/\(∀b∈bs,b.wf (dA names counts) ps/\b.deep<=7)/\Sy.dz bs<=2/\(Sy.bz bs).length<=325/\bs.length<=as1.length/\1<=bs.length) ?_ ?_
   ·intro n2 hn2;have one:Sy.dz [s]<=1/\(Sy.bz [s]).length<=200:=by
     have:=hs.sends;have:=hs.size;rw[Sy.jy,kB];simp[Sy.dz,Sy.bz];lia
    have stay:n2 [some (.bA (ns.map D.int)),some (.ref sp),some (.ref nm),some (.ref ct),some (.tup (ps.map D.str)),some (.int shape),some s.d,some (.tup [.str "send",.str x1,.tup (as1.map Sy.d)]),some (.tup (([s]++as1.drop [s].length).map Sy.d)),none] (up S sp (.lst (.int i1::rest))) :=
     hn2 _ _ ⟨[s],i1,rfl,hi1,rfl,λb hb=>by rw[cH.mp hb];exact⟨hs.wf,hs.deep⟩,by lia,by lia,by simpa using hl1,by simp⟩
    have ab3:((([s]++as1.drop [s].length).map Sy.d).length:Int)=(as1.length:Int):=by
     rw[aA,ba,fc];simp;lia
    by_cases c2:shape/20%3=1
    ·by_cases c3:(1:Int)<(as1.length:Int)
     ·nofun;refine snd _ _ (by lia) λx2 as2 i2 ho2 hi2=>?_;nofun;rw[sT (by decide)];refine C7 (by simp) (de (by simp;lia)) ?_;have e2:[s.d,(Sy.send x2 as2).d]++(([s]++as1.drop [s].length).map Sy.d).drop (oI 2)=([s,.send x2 as2]++as1.drop [s,.send x2 as2].length).map Sy.d:=by simp
      rw[e2];have b2:=ho2.bd;refine hn2 _ _ ⟨[s,.send x2 as2],i2,rfl,hi2,rfl,λb hb=>?_,?_,?_,?_,by simp⟩
      ·simp only[a9,bZ,or_false]at hb;rcases hb with rfl|rfl
       ·exact⟨hs.wf,hs.deep⟩
       ·exact⟨b2.wf,bX b2.deep (by decide)⟩
      ·have:=hs.sends;have:=b2.sends;rw[Sy.jy,Sy.jy];simp[Sy.dz,Sy.bz];lia
      ·have:=hs.size;have:=b2.size;rw[kB,kB];simp[Sy.bz];lia
      ·simp;lia
     ·nofun;exact stay
    ·nofun;exact stay
   rintro σ T ⟨bs,i2,rfl,hi2,rfl,hb1,hb2,hb3,hb4,Vg⟩;nofun;refine hn' _ _ ⟨.send x1 (bs++as1.drop bs.length),_,_,i2,by simp only[Sy.d,Sy.kf];rfl,hi2,rfl,(ho1.put (by decide) bs hb1 hb2 hb3 hb4 Vg).mono (by decide) (by decide) (by decide)⟩
  ·nofun;exact hn' _ _ ⟨s,none,none,i0,rfl,hi0,rfl,hs.mono (by decide) (by decide) (by decide)⟩
 rintro σ T ⟨s,x7,x8,i1,rfl,hi1,rfl,hs⟩;nofun;refine kj (λσ T=>i5 λ(s:Sy) (i2:Int)=>σ=[some (.bA (ns.map D.int)),some (.ref sp),some (.ref nm),some (.ref ct),some (.tup (ps.map D.str)),some (.int shape),some s.d,x7,x8,none]/\0<=i2/\T=up S sp (.lst (.int i2::rest))/\Bd (dA names counts) ps 9 4 800 s) ?_ ?_
 ·intro n' hn';by_cases c1:shape%4=3
  ·nofun;refine snd _ _ (by lia) λx2 as2 i2 ho2 hi2=>?_;nofun;exact hn' _ _ ⟨.pair s (.send x2 as2),i2,rfl,hi2,rfl,(hs.pair (ho2.bd.mono (n':=8) (by decide) (aX _) (aX _))).mono (by decide) (by decide) (by decide)⟩
  ·nofun;exact hn' _ _ ⟨s,i1,rfl,hi1,rfl,hs.mono (by decide) (by decide) (by decide)⟩
 rintro σ T ⟨s,i2,rfl,hi2,rfl,hs⟩;nofun;refine⟨_,ps,rfl,l1,l4,λa ha=>?_⟩;nofun;refine kj (λσ T=>i5 λ(t:Sy) (i3:Int)=>σ=[some (.bA (ns.map D.int)),some (.ref sp),some (.ref nm),some (.ref ct),some (.tup (ps.map D.str)),some (.int shape),some s.d,x7,x8,some t.d]/\0<=i3/\T=up S sp (.lst (.int i3::rest))/\Bd (dA names counts) ps 9 1 125 t) ?_ ?_
 ·intro n' hn';by_cases c1:shape/4%5=1
  ·nofun;refine snd _ _ (by lia) λx2 as2 i3 ho2 t9=>?_;nofun;exact hn' _ _ ⟨.send x2 as2,i3,rfl,t9,rfl,ho2.bd.mono (by decide) (by decide) (by decide)⟩
  ·nofun;exact hn' _ _ ⟨a,i2,rfl,hi2,rfl,ha.bd.mono (by decide) (by decide) (by decide)⟩
 rintro σ T ⟨t,i3,rfl,t9,rfl,ht⟩;nofun;refine kj (λσ T=>σ=[some (.bA (ns.map D.int)),some (.ref sp),some (.ref nm),some (.ref ct),some (.tup (ps.map D.str)),some (.int shape),some s.d,x7,x8,some t.d]/\T=up S sp (.lst (.int i3::rest))) ?_ ?_
 ·intro n' hn';by_cases c1:shape/4%5=2
  ·nofun;exact fin s i3 (hs.mono (by decide) (by decide) (by decide)) t9
  ·nofun;exact hn' _ _ ⟨rfl,rfl⟩
 rintro σ T ⟨rfl,rfl⟩;nofun;refine⟨ns,sp,i3,rest,rfl,az,t9,?_⟩;nofun;refine⟨_,ps,rfl,l1,l4,λp hp=>?_⟩;nofun;rw[vL];exact fin (.fork p s t) _ (((hp.bd.mono (n':=9) (by decide) (aX _) (aX _)).fork hs ht).mono (by decide) (by decide) (by decide)) (by lia)
structure Pg(prog:List Er):Prop where
 ab4:1<=prog.length
 len:prog.length<=12
 nd:(prog.map Er.name).Nodup
 nm:∀e∈prog,dZ e.name
 ps:∀e∈prog,1<=e.ps.length/\e.ps.length<=4/\e.ps.Nodup/\∀x∈e.ps,dZ x
 body:∀e∈prog,Bd (gh prog) e.ps 12 12 5000 e.body
structure Vh(ar:Str->Option Nat)(e:Er):Prop where
 l1:1<=e.ps.length
 l4:e.ps.length<=4
 nd:e.ps.Nodup
 ok:∀x∈e.ps,dZ x
 bd:Bd ar e.ps 12 6 1500 e.body
inductive Vi (ds:List D)(S:af)(q:List D->Addr->O->Prop):Prop where
 |mk (ns:List Int) (sp:Addr) (i most:Int) (rest:List D) (_:ds=[.bA (ns.map D.int),.ref sp,.int most]) (_:S sp=some (.lst (.int i::rest))) (_:0<=i) (_:1<=most) (_:most<=12) (_:∀(prog:List Er) (i2:Int),Pg prog->prog.length<=most.toNat->0<=i2->q (prog.map Er.d) sp (.lst (.int i2::rest)))
def Gn :aS:=sJ Vi
theorem Vj{k:Nat}(h:aB K mg "_law_program" lR ["script","spot","most"])(G:Gs K mg)(gR:av P w K mg base k "_law_next" ["script","spot"] tV)(t_:av P w K mg base k "_law_names" ["cell","many"] FU)
 (xK:av P w K mg base k "_law_body" ["script","spot","names","counts","params"] Gj):av P w K mg base (k+1) "_law_program" ["script","spot","most"] Gn:=by
 refine h.sJ jI (by rintro ds S q ⟨_,_,_,_,_,e,_⟩;rw[e];rfl) λf cdv A outer s H E ds S q hr hA=>?_;obtain⟨ns,sp,i,most,rest,rfl,hsp,hi,m1,m12,hq⟩:=hA;refine⟨_,(au (aL (i:=3) jI.nd rfl (Or.inr rfl) (aU gR hr rfl (ae (aa 0) (ae (aa 1) ah))))
 (au (aL (i:=4) jI.nd rfl (Or.inl rfl) (aO kS jv ai (aO c7 bx (aa 3) (aa 2))))
 (au (aL (i:=5) jI.nd rfl (Or.inl rfl) (aU t_ hr rfl (ae (aO c7 bx (aO dS bx (aa 3) (aa 2)) (aO AX bx ai ai)) (ae (aa 4) ah))))
 (au (aL (i:=6) jI.nd rfl (Or.inl rfl) (aU t_ hr rfl (ae (aO c7 bx (aU gR hr rfl (ae (aa 0) (ae (aa 1) ah))) (aO AX bx ai ai)) (ae ai ah))))
 (au (nr (i:=7) (bK:=ao lR) (N:=["script","spot","most","head","many","names","params","counts","program","k","mine"]) (M:=["head"]) (js:=[3]) ⟨rfl,by cbv,by cbv,by cbv,by cbv,by cbv⟩ (by cbv) (by cbv) rfl (gM rfl G.range (ae (aa 4) ah)) (λ_ _ _ _ _=>d0) (λ_ _ _ _ _=>(ay fg ft (dE (ae ai (ae ai (ae ai (ae ai (ae ai ah)))))) (aO c7 bx (aO dS bx (aa 1) (aO AW bx ai (aO kS jv (aa 0) ai))) ai) (λ_ _=>rfl))) jI.nd rfl rfl)
 (au (aL (i:=8) jI.nd rfl (Or.inl rfl) (dE ah))
 (au (c9 da rfl (gM rfl G.range (ae (aa 4) ah)) (b6 (i:=9) jI.nd rfl (Or.inl rfl)) (au (aL (i:=10) jI.nd rfl (Or.inl rfl) (gK iH iO rfl G.tuple gY (ae (eU mB mO (aO vz v_ (eU mB mO (aa 6) (eT (aO c7 bx (aa 9) ai)) eS) (eU mB mO (aa 6) eS (eT (aO c7 bx (aa 9) ai)))) eS (eT (ay fg ft (aa 7) (aa 9) (λ_ _=>rfl)))) ah)))
 (ax (eo (fm eM gu gZ f6 gN (aa 8) (ae (bP (ae (ay fg ft (aa 5) (aa 9) (λ_ _=>rfl)) (ae (aa 10) (ae (aU xK hr rfl (ae (aa 0) (ae (aa 1) (ae (aa 5) (ae (aa 7) (ae (aa 10) ah)))))) ah)))) ah))))))
 (ax (aQ (aa 8)))))))))),?_⟩
 nofun;refine⟨ns,sp,i,rest,rfl,hsp,hi,?_⟩;generalize cellAt ns i=head;have hm0:=kN head (show most≠0 by lia);have hm1:=Ab head (show 0<most by lia);have t14:(0:Int)<10^(oI 14):=by decide
 nofun;refine⟨_,_,rfl,kN _ (by decide),by lia,by lia,λnames Rn=>?_⟩;intro nm hnm;have n1:sp≠nm:=ne3 az hnm;nofun;refine⟨ns,sp,i+1,rest,rfl,aM az hnm,by lia,?_⟩;generalize cellAt ns (i+1)=c2;nofun;refine⟨_,4,rfl,kN _ (by decide),by lia,by lia,λpp Rp=>?_⟩;intro pm hpm;nofun;generalize Gp:1+head%most=many;have h1m:1<=many:=by lia
 have h12:many<=most:=by lia
 obtain⟨cnt,Gq⟩:∃cnt:Nat->Nat,∀k:Nat,b5 [D.int 2,.int 1,.int 2,.int 2,.int 3] (head/(7*(0+(k:Int)+1))%5)=some (.int (cnt k:Int))/\1<=cnt k/\cnt k<=4:=by
  have:∀k:Nat,∃c:Nat,b5 [D.int 2,.int 1,.int 2,.int 2,.int 3] (head/(7*(0+(k:Int)+1))%5)=some (.int (c:Int))/\1<=c/\c<=4:=λk=>by
   generalize head/(7*(0+(k:Int)+1))=x;have h5:x%5=0∨x%5=1∨x%5=2∨x%5=3∨x%5=4:=by lia
   rcases h5 with e|e|e|e|e
   ·exact⟨2,by rw[e];rfl,by decide,by decide⟩
   ·exact⟨1,by rw[e];rfl,by decide,by decide⟩
   ·exact⟨2,by rw[e];rfl,by decide,by decide⟩
   ·exact⟨2,by rw[e];rfl,by decide,by decide⟩
   ·exact⟨3,by rw[e];rfl,by decide,by decide⟩
  exact⟨λk=>(this k).choose,λk=>(this k).choose_spec⟩
 have eY:=aM (o:=.lst (pp.map D.str)) (az (S:=up (up S sp (.lst (.int (i+1)::rest))) nm (.lst (names.map D.str))) (a:=sp) (o:=.lst (.int (i+1+1)::rest))) hpm;have eZ:up (up (up (up S sp (.lst (.int (i+1)::rest))) nm (.lst (names.map D.str))) sp (.lst (.int (i+1+1)::rest))) pm (.lst (pp.map D.str)) nm=some (.lst (names.map D.str)) :=
  aM (by rw[bj (cG n1)];exact az) hpm
 have fA:up (up (up (up S sp (.lst (.int (i+1)::rest))) nm (.lst (names.map D.str))) sp (.lst (.int (i+1+1)::rest))) pm (.lst (pp.map D.str)) pm=some (.lst (pp.map D.str)):=az;have fB:Px sp S (up (up (up (up S sp (.lst (.int (i+1)::rest))) nm (.lst (names.map D.str))) sp (.lst (.int (i+1+1)::rest))) pm (.lst (pp.map D.str))):=((Px.refl sp S).at.new hnm).at.new hpm;have Vk:sp≠pm:=ne3 az hpm;generalize up (up (up (up S sp (.lst (.int (i+1)::rest))) nm (.lst (names.map D.str))) sp (.lst (.int (i+1+1)::rest))) pm (.lst (pp.map D.str))=S4 at eY eZ fA fB ⊢;refine Tf (λk=>.int (cnt k)) (by rw[dF];lia) (λ_ _=>trivial) ?_ ?_
 ·intro j d S' hd hs' P hP;obtain⟨hj,rfl⟩:=fo hd;nofun;intro p1 hp1;nofun;refine gf az (Gq j).1 ?_;exact hP _ ((Sub.refl S').up hp1)
 intro S5 ua;replace eY:=ua _ _ eY;replace eZ:=ua _ _ eZ;replace fA:=ua _ _ fA;replace fB:=fB.ext ua;rw[dF];obtain⟨counts,xM⟩:∃counts,counts=(aW many.toNat).map cnt:=⟨_,rfl⟩;have Vl:((aW many.toNat).map λk=>D.int (cnt k:Int))=cD counts:=by rw[xM,cD,eL];rfl
 rw[Vl];have hc4:∀c∈counts,1<=c/\c<=4:=λc hc=>by
  rw[xM]at hc;obtain⟨k,_,rfl⟩:=bp.mp hc;exact(Gq k).2
 have lY:counts.length=many.toNat:=by rw[xM];simp
 intro ct hct;nofun;intro pr hpr;have hnl:=Rn.len;rw[Gp]at Rn hnl;have Gu:sp≠nm:=n1;have Gv:sp≠ct:=ne3 eY hct;have xN:sp≠pr:=ne3 (aM eY hct) hpr;have Vm:nm≠pr:=ne3 (aM eZ hct) hpr;have Vn:pm≠pr:=ne3 (aM fA hct) hpr;have Vo:ct≠pr:=ne3 az hpr;have Gw:S pr=none:=(fB.new hct).free hpr (cG xN);replace eY:=aM (o:=.lst []) (aM (o:=.lst (cD counts)) eY hct) hpr;replace eZ:=aM (o:=.lst []) (aM (o:=.lst (cD counts)) eZ hct) hpr;replace fA:=aM (o:=.lst []) (aM (o:=.lst (cD counts)) fA hct) hpr;replace fB:=(fB.new (o:=.lst (cD counts)) hct).new (o:=.lst []) hpr;have i7:up (up S5 ct (.lst (cD counts))) pr (.lst []) ct=some (.lst (cD counts)):=aM az hpr;have jN:up (up S5 ct (.lst (cD counts))) pr (.lst []) pr=some (.lst []):=az;generalize up (up S5 ct (.lst (cD counts))) pr (.lst [])=S6 at eY eZ fA fB i7 jN ⊢;nofun;refine⟨λj σ S'=>jJ λ(eW:List Er) (i1:Int) (x10 x11:Option D)=>σ=[some (.bA (ns.map D.int)),some (.ref sp),some (.int most),some (.int head),some (.int many),some (.ref nm),some (.ref pm),some (.ref ct),some (.ref pr),x10,x11] /\
  S' sp=some (.lst (.int i1::rest))/\S' nm=some (.lst (names.map D.str))/\S' pm=some (.lst (pp.map D.str))/\S' ct=some (.lst (cD counts))/\S' pr=some (.lst (eW.map Er.d))/\Px sp S S' /\
  eW.length=j/\0<=i1/\eW.map Er.name=names.take j/\(eW.map λe=>e.ps.length)=counts.take j/\(∀e∈eW,Vh (dA names counts) e),
  ⟨[],i+1+1,none,none,rfl,eY,eZ,fA,i7,jN,fB,rfl,by lia,rfl,rfl,by simp⟩,λ_ _ _ _=>trivial,?turn,?done⟩
 case turn =>
  clear eY eZ fA i7 jN fB;rintro j d σ S' hd ⟨eW,i1,x10,x11,rfl,eY,eZ,fA,i7,jN,fB,hl,hi1,en,ec,hk⟩;obtain⟨hj,rfl⟩:=fo hd;have c0:=kN (0+(j:Int)) (show(4:Int)≠0 by decide);have ap:∀{α:Type} {f:α->D} {xs:List α} {v:α},xs[j]?=some v->b5 (xs.map f) (0+(j:Int))=some (f v):=λ{α f xs v} hv=>by
   have e:(0:Int)+(j:Int)=((j:Nat):Int):=by lia
   rw[e];refine iF ?_;rw[aJ,hv];rfl
  obtain⟨cn,hcn⟩:∃cn,counts[j]?=some cn:=⟨_,aV (by lia)⟩;obtain⟨nj,Gy⟩:∃nj,names[j]?=some nj:=⟨_,aV (by lia)⟩;have Vd:=hc4 cn (cj hcn);nofun;rw[sT c0];intro p1 hp1;have g1:=aM (o:=.lst ((pp.map D.str).drop ((0+(j:Int))%4).toNat)) fA hp1;nofun;rw[wq c0];intro p2 hp2;have hpl:=Rp.len;refine wc (aM az hp2) az ?_ ?_
  ·rw[fc,dh,aA];exact de (by lia)
  intro p3 hp3;nofun;refine gf (aM (aM (aM i7 hp1) hp2) hp3) (ap hcn) ?_;nofun;rw[wq (by lia),fT];intro p4 n_;nofun;obtain⟨mine,Gz⟩:∃mine,mine=(pp.drop ((0+(j:Int))%4).toNat++pp.take ((0+(j:Int))%4).toNat).take cn:=⟨_,rfl⟩;have em:((pp.map D.str).drop ((0+(j:Int))%4).toNat++(pp.map D.str).take ((0+(j:Int))%4).toNat).take cn=mine.map D.str:=by
   rw[Gz,<-JW,<-As,<-cI,<-As]
  rw[em];have hmo:mine.length=cn/\mine.Nodup/\∀x∈mine,dZ x:=by
   rw[Gz];exact PX Rp.turn (by show cn<=4;lia)
  have hsub:=((((Sub.refl S').up (o:=.lst ((pp.map D.str).drop ((0+(j:Int))%4).toNat)) hp1).up (o:=.lst ((pp.map D.str).take ((0+(j:Int))%4).toNat)) hp2).up
   (o:=.lst ((pp.map D.str).drop ((0+(j:Int))%4).toNat++(pp.map D.str).take ((0+(j:Int))%4).toNat)) hp3).up (o:=.lst (mine.map D.str)) n_
  generalize up (up (up (up S' p1 _) p2 _) p3 _) p4 _=S5 at hsub ⊢;replace eY:=hsub _ _ eY;replace eZ:=hsub _ _ eZ;replace fA:=hsub _ _ fA;replace i7:=hsub _ _ i7;replace jN:=hsub _ _ jN;replace fB:=fB.ext hsub;nofun;refine gf eZ (ap Gy) ?_;nofun;refine⟨ns,sp,nm,ct,i1,rest,names,mine,counts,rfl,eY,eZ,i7,Gu,Gv,hi1,by lia,by lia,by lia,Rn.nd,by lia,hc4,λs i2 hbd hi2=>?_⟩;nofun;have Vp:up S5 sp (.lst (.int i2::rest)) pr=some (.lst (eW.map Er.d)):=by rw[bj (cG xN)];exact jN
  refine gc Vp (by rw[aA];exact fu (by lia)) ?_;have ee:eW.map Er.d++[D.tup [D.str nj,D.tup (mine.map D.str),s.d]]=(eW++[(⟨nj,mine,s⟩:Er)]).map Er.d:=by simp[Er.d]
  rw[ee];refine⟨eW++[(⟨nj,mine,s⟩:Er)],i2,_,_,rfl,?_,?_,?_,?_,az,(fB.at).fresh Gw,by simp[hl],hi2,?_,?_,?_⟩
  ·rw[bj xN];exact az
  ·rw[bj Vm,bj (cG Gu)];exact eZ
  ·rw[bj Vn,bj (cG Vk)];exact fA
  ·rw[bj Vo,bj (cG Gv)];exact i7
  ·rw[gw,Gy,cI,en];rfl
  ·rw[gw,hcn,cI,ec];show counts.take j++[mine.length]=_;rw[hmo.1];rfl
  ·intro e he;rcases bR.mp he with he|he
   ·exact hk e he
   ·rw[cH.mp he];exact⟨by show 1<=mine.length;lia,by show mine.length<=4;lia,hmo.2.1,hmo.2.2,hbd⟩
 rintro σ S' ⟨eW,i1,x10,x11,rfl,eY,eZ,fA,i7,jN,fB,hl,hi1,en,ec,hk⟩;rw[dF]at hl en ec;rw[jS (by lia)]at en ec;nofun;refine⟨pr,_,sp,_,rfl,Gw,by rw[hsp];simp,fB.sub eY,jN,hq eW i1 ⟨by lia,by lia,?_,λe he=>?_,λe he=>?_,λe he=>?_⟩ (by lia) hi1⟩
 ·rw[en];exact Rn.nd
 ·exact Rn.ok _ (by rw[<-en];exact ix he)
 ·exact⟨(hk e he).l1,(hk e he).l4,(hk e he).nd,(hk e he).ok⟩
 ·rw[PV en ec];exact(hk e he).bd.mono (by decide) (by decide) (by decide)
theorem xO(a b:Str):(a++b).length=a.length+b.length:=by
 show(a.cps++b.cps).size=_;simp[uw]
theorem GA:∀(bs:List Bool) (r:Sy),(wrap bs r).txt.length<=r.txt.length+6*bs.length
 |[],_=>by simp[wrap]
 |b::l,r=>by
  have:=GA l r;rw[Ep,xO,xO,cf];have e1:(" ":Str).length=1:=by cbv
  have e2:(kq b).length<=5:=by cases b<;>cbv
  lia
inductive Vq (ds:List D)(q:List D->Prop):Prop where
 |mk (s:Sy) (_:ds=[s.d]) (_:s.deep<=1000) (_:(∀x,s.base=some x->x.length<=1000)) (_:q (s.pfx.map D.str))
def xP :aS:=pX Vq
theorem Vr{k:Nat}(h:aB K mg "_law_prefixes" nQ ["saying"])(G:Gs K mg):av P w K mg base (k+1) "_law_prefixes" ["saying"] xP:=by
 refine h.lst lU (by rintro ds q ⟨s,e,_⟩;rw[e];rfl) λf cdv A outer s0 H E ds q hr hA=>?_;obtain⟨s,rfl,hd,hx,hq⟩:=hA;refine⟨_,(au (aL (i:=1) lU.nd rfl (Or.inl rfl) (dE ah))
 (au (pS da (cL.pt (w_or (a5 cJ fP (ay aC aD (aa 0) ai (λ_ _=>rfl)) bL (aZ _)) (fM (a5 cJ fP (ay aC aD (aa 0) ai (λ_ _=>rfl)) bL (aZ _))))) (au (eo (fm eM gu gZ f6 gN (aa 1) (ae (ay aC aD (aa 0) ai (λ_ _=>rfl)) ah)))
 (ax (aL (i:=0) lU.nd rfl (Or.inl rfl) (ay aC aD (aa 0) ai (λ_ _=>rfl))))))
 (au (bG (a5 j7 mL (ay aC aD (aa 0) ai (λ_ _=>rfl)) bL (aZ _)) (ax (aQ (dE ah))) bt)
 (au (aL (i:=2) lU.nd rfl (Or.inl rfl) (ay aC aD (aa 0) ai (λ_ _=>rfl)))
 (au (aL (i:=3) lU.nd rfl (Or.inl rfl) (dE (ae (aa 2) ah)))
 (au (c9 da rfl (wL rfl G.xu (ae (aa 1) ah)) (b6 (i:=4) lU.nd rfl (Or.inl rfl)) (au (aL (i:=2) lU.nd rfl (Or.inl rfl) (aO kW lg (aO kW lg (aa 2) bL) (aa 4)))
 (ax (eo (fm eM gu gZ f6 gN (aa 3) (ae (aa 2) ah))))))
 (ax (aQ (aa 3))))))))),?_⟩
 nofun;intro pt hpt;nofun;refine pY (λm σ S=>i5 λ(bs:List Bool) (r:Sy)=>σ=[some r.d,some (.ref pt),none,none,none]/\S pt=some (.lst (bs.map λb=>D.str (kq b)))/\wrap bs r=s/\m=r.deep) _ ⟨[],s,rfl,az,rfl,rfl⟩ ?_;rintro m σ S ⟨bs,r,rfl,hS,hw,rfl⟩;have hdp:=wW bs r;rw[hw]at hdp;have hb:=wV bs r;rw[hw]at hb;cases r with
 |left a =>
  simp only[Sy.d];nofun;refine gc hS (by rw[aA];exact fu (by lia)) ?_;nofun;exact⟨a.deep,by simp only[Sy.deep];lia,bs++[true],a,rfl,by rw[az];simp[kq],by rw[tI];exact hw,rfl⟩
 |right a =>
  simp only[Sy.d];nofun;refine gc hS (by rw[aA];exact fu (by lia)) ?_;nofun;exact⟨a.deep,by simp only[Sy.deep];lia,bs++[false],a,rfl,by rw[az];simp[kq],by rw[tI];exact hw,rfl⟩
 |name x =>
  simp only[Sy.d];nofun;intro pf hpf;have hne:pt≠pf:=ne3 hS hpf;have hS2:=aM (o:=.lst [.str x]) hS hpf;have hx':=hx x (by rw[hb];rfl);nofun;refine⟨λj σ S'=>∃x4,σ=[some (.tup [.str "name",.str x]),some (.ref pt),some (.str (wrap (bs.drop (bs.length-j)) (.name x)).txt),some (.ref pf),x4]/\S' pt=some (.lst (bs.map λb=>D.str (kq b)))/\S' pf=some (.lst ((wrap (bs.drop (bs.length-j)) (.name x)).cA.map D.str)) /\
   (wrap (bs.drop (bs.length-j)) (.name x)).cA.length=j+1,
   ⟨none,by simp[wrap,Sy.txt],hS2,by rw[az];simp[wrap,Sy.cA],by simp[wrap,Sy.cA]⟩,λj σ S' ⟨_,_,g,_⟩=>g,?_,?_⟩
  ·rintro j d σ S' hd ⟨x4,rfl,g1,g2,g3⟩;have hj:=(bH.mp hd).1;rw[uR,aA]at hj;rw[Ag (by rw[aA];exact hj),aA,aJ]at hd;obtain⟨b,GB,rfl⟩:=bU.mp hd;have xQ:bs.drop (bs.length-(j+1))=b::bs.drop (bs.length-j):=by
    have hlt:bs.length-1-j<bs.length:=by lia
    have e1:bs.length-(j+1)=bs.length-1-j:=by lia
    rw[e1,uX hlt];have e2:bs.length-1-j+1=bs.length-j:=by lia
    rw[e2];rw[aV hlt]at GB;rw[cS GB]
   have tX:=GA (bs.drop (bs.length-j)) (.name x);rw[fc]at tX;have Ua:(Sy.name x).txt.length<=1000:=hx';have e1:(" ":Str).length=1:=by cbv
   have e2:(kq b).length<=5:=by cases b<;>cbv
   nofun;refine lj (de (by lia)) ?_;nofun;refine lj (de (by rw[xO];lia)) ?_;nofun;refine gc g2 (by rw[aA];exact fu (by lia)) ?_;refine⟨_,by rw[xQ,Ep];rfl,by rw[bj hne];exact g1,?_,?_⟩
   ·rw[az,xQ,Es];simp
   ·rw[xQ,Es,ba,g3];rfl
  ·rintro σ S' ⟨x4,rfl,g1,g2,g3⟩;rw[uR,aA]at g2;have e0:bs.drop (bs.length-bs.length)=bs:=by simp
   rw[e0,hw]at g2;nofun;refine⟨pf,_,rfl,g2,?_⟩;have:s.pfx=s.cA:=by unfold Sy.pfx;rw[hb];rfl
   rw[<-this];exact hq
 |bI =>
  have e0:s.pfx=[]:=by unfold Sy.pfx;rw[hb];rfl
  rw[e0]at hq;simp only[Sy.d];nofun;intro p1 hp1;nofun;exact⟨p1,_,rfl,az,hq⟩
 |pair a b =>
  have e0:s.pfx=[]:=by unfold Sy.pfx;rw[hb];rfl
  rw[e0]at hq;simp only[Sy.d];nofun;intro p1 hp1;nofun;exact⟨p1,_,rfl,az,hq⟩
 |fork a b c =>
  have e0:s.pfx=[]:=by unfold Sy.pfx;rw[hb];rfl
  rw[e0]at hq;simp only[Sy.d];nofun;intro p1 hp1;nofun;exact⟨p1,_,rfl,az,hq⟩
 |send x as =>
  have e0:s.pfx=[]:=by unfold Sy.pfx;rw[hb];rfl
  rw[e0]at hq;simp only[Sy.d];nofun;intro p1 hp1;nofun;exact⟨p1,_,rfl,az,hq⟩
inductive Vs (ds:List D)(S:af)(q:D->Prop):Prop where
 |mk (p:Str) (s:Sy) (kn:Addr) (k:List Str) (_:ds=[.str p,s.d,.ref kn]) (_:S kn=some (.lst (k.map D.str))) (_:s.deep<=1000) (_:(∀x,s.base=some x->x.length<=1000)) (_:s.pfx.length<=1000) (_:q (.int (bN p s k)))
def GC :aS:=gO Vs
theorem Vt{k:Nat}(h:aB K mg "_law_told" lV ["param","saying","known"])(G:Gs K mg)(og:av P w K mg base k "_law_prefixes" ["saying"] xP):av P w K mg base (k+1) "_law_told" ["param","saying","known"] GC:=by
 refine h.gO FP (by rintro ds S q ⟨_,_,_,_,e,_⟩;rw[e];rfl) λf cdv A outer s0 H E ds S q hr hA=>?_;obtain⟨p,s,kn,kk,rfl,hk,hd,hx,hpl,hq⟩:=hA;refine⟨_,(au (bG (a5 cJ fP (ay aC aD (aa 1) ai (λ_ _=>rfl)) bL (aZ _)) (ax (aQ (aO kS jv ai (gK Ec Eg rfl G.int boot_int (ae (k7 pq mM (aa 0) (aa 2) (by with_unfolding_all rfl)) ah))))) bt)
 (au (aL (i:=3) FP.nd rfl (Or.inl rfl) (aU og hr rfl (ae (aa 1) ah)))
 (au (bG (cL.pt (w_or (a5 (vI (mY hr)) v8 (aa 3) (dE ah) (aZ _)) (fM (a5 j7 mL (ay fg ft (aa 3) ai (λ_ _=>rfl)) (aa 0) (aZ _))))) (ax (aQ ai)) bt)
 (ax (aQ (aO kS jv ai (gK Ec Eg rfl G.int boot_int (ae (cE (DO rfl) (DU (f:=λbs=>bs.any id)) rfl G.any boot_any (ae (jF (bK:=ao lV) (N:=["param","saying","known","found"]) (M:=["known"]) (js:=[2]) ⟨rfl,by cbv,by cbv,by cbv,by cbv,by cbv⟩ (by cbv) (by cbv) rfl (gL (eU mB mO (aa 3) eS (eT (mH ai)))) (λ_ _ _ _ _=>d0) (λ_ _ _ _ _=>(k7 pq mM (aa 0) (aa 1) (by with_unfolding_all rfl)))) ah)) ah)))))))),?_⟩
 by_cases hb:s=.bI
 ·subst hb;simp only[Sy.d];nofun;refine⟨Sub.refl _,?_⟩;simpa[bN]using hq
 have et:∃t r,s.d=.tup (.str t::r)/\¬t="bud":=by
  cases s<;>first|exact⟨_,_,rfl,by decide⟩|exact(hb rfl).elim
 obtain⟨t,r,ed,ht⟩:=et;have hq':q (.int (if s.base=some p then 1+(if ∃t∈s.pfx.dropLast,t∈kk then 1 else 0) else 0)):=by
  have e:bN p s kk=if s.base=some p then 1+(if ∃t∈s.pfx.dropLast,t∈kk then 1 else 0) else 0:=by cases s<;>first|rfl|exact(hb rfl).elim
  rw[<-e];exact hq
 rw[ed];nofun;refine⟨s,by rw[ed],hd,hx,?_⟩;intro pf hpf;have f1:=aM (o:=.lst (s.pfx.map D.str)) hk hpf;have s1:Sub S (up S pf (.lst (s.pfx.map D.str))):=(Sub.refl S).up hpf;have f2:up S pf (.lst (s.pfx.map D.str)) pf=some (.lst (s.pfx.map D.str)):=az;generalize up S pf (.lst (s.pfx.map D.str))=S1 at f1 f2 s1 ⊢;nofun;intro p0 hp0;have g1:=aM (o:=.lst []) f1 hp0;have g2:=aM (o:=.lst []) f2 hp0;have s2:Sub S (up S1 p0 (.lst [])):=s1.up hp0;refine eq_nil g2 az (λd hd=>?_) (λd hd=>?_) (by decide) ?_
 ·obtain⟨x,_,rfl⟩:=bp.mp hd;rfl
 ·obtain⟨x,_,rfl⟩:=bp.mp hd;simp[D.dt,cK]
 generalize up S1 p0 (.lst [])=S2 at g1 g2 s2 ⊢;cases hbs:s.base with
 |none =>
  have e0:s.pfx=[]:=by unfold Sy.pfx;rw[hbs];rfl
  rw[e0];rw[hbs]at hq';nofun;exact⟨s2,by simpa using hq'⟩
 |some x =>
  obtain⟨l,el⟩:=nh hbs;have e0:s.pfx=x::l:=by unfold Sy.pfx;rw[hbs];exact el
  have g3:S2 pf=some (.lst (.str x::l.map D.str)):=by rw[g2,e0];rfl
  rw[e0]at hpl;rw[hbs,e0]at hq';rw[e0];by_cases hxp:x=p
  ·nofun;rw[Eh];obtain⟨dl,hdl⟩:∃dl,dl=(x::l).dropLast:=⟨_,rfl⟩;have ec:(D.str x::l.map D.str).dropLast=dl.map D.str:=by rw[hdl,<-bo,List.map_dropLast]
   have ab5:dl.length<=1000:=by rw[hdl,Je];lia
   rw[ec];intro pc GD;have c1:=aM (o:=.lst (dl.map D.str)) g1 GD;have c2:up S2 pc (.lst (dl.map D.str)) pc=some (.lst (dl.map D.str)):=az;have s3:=s2.up (o:=.lst (dl.map D.str)) GD;generalize up S2 pc (.lst (dl.map D.str))=S3 at c1 c2 s3 ⊢;nofun;refine gQ (λi=>.bl (decide (dl.getD i ""∈kk))) (by rw[aA];lia) c2 ?_ ?_
   ·intro i d hd P hP;rw[aJ]at hd;obtain⟨a,ha,rfl⟩:=bU.mp hd;rw[bJ,ha]at hP;nofun;exact hP
   intro p4 n_;nofun;have eb:((aW (dl.map D.str).length).map λi=>D.bl (decide (dl.getD i ""∈kk)))=(dl.map λt=>decide (t∈kk)).map D.bl:=by
    rw[aA,eL];apply gx;intro i;rw[aJ,aJ];by_cases hi:i<dl.length
    ·rw[iy hi,aV hi];simp[bJ,hi]
    ·rw[cT (by simpa using hi),cT (by lia)];rfl
   rw[eb];refine DV az ?_;have ea:((dl.map λt=>decide (t∈kk)).any id)=decide (∃t∈dl,t∈kk):=by
    rw[e_];simp
   rw[ea];nofun;refine⟨s3.up n_,?_⟩;rw[if_pos (by rw[hxp]),<-hdl]at hq';by_cases hz:∃t∈dl,t∈kk
   ·rw[if_pos hz]at hq';rw[decide_eq_true hz];exact hq'
   ·rw[if_neg hz]at hq';rw[decide_eq_false hz];exact hq'
  ·nofun;exact⟨s2,by simpa[hxp]using hq'⟩
inductive Vu(n:Nat)(ds:List D)(S:af)(q:List D->Prop):Prop where
 |mk (e:Er) (s:Sy) (kn:Addr) (k:List Str) (_:ds=[e.d,s.d,.ref kn]) (_:S kn=some (.lst (k.map D.str))) (_:ni n e s k) (_:q ((((s.bB Sy.pfx k).map (b_ bN e)).flatten).map aq))
def xR(n:Nat):aS:=kc (Vu n)
theorem GF(h:aB K mg "_law_graphs_in" kz ["errand","saying","known"])(G:Gs K mg)(C0:av P w K mg base 1 "_law_prefixes" ["saying"] xP)(C1:av P w K mg base 2 "_law_told" ["param","saying","known"] GC) :
 ∀n:Nat,av P w K mg base (n+2) "_law_graphs_in" ["errand","saying","known"] (xR n)
 |0=>h.O4 (by rintro ds S Q E ⟨e,s,_,_,_,_,hk,_⟩;have:=hk.deep;cases s<;>simp[Sy.deep]at this) _
 |n+1=>by
  have ub:=GF h G C0 C1 n;have og:=C0.mono (show 1<=n+2 by lia);have xS:=C1.mono (show 2<=n+2 by lia);refine h.kc lW (by rintro ds S q ⟨_,_,_,_,e,_⟩;rw[e];rfl) λf cdv A outer s0 H E ds S q hr hA=>?_;obtain⟨e,s,kn,k,rfl,hS,hok,hq⟩:=hA;refine⟨_,(au (aL (i:=3) lW.nd rfl (Or.inl rfl) (dE ah))
 (au (bG (a5 cJ fP (ay aC aD (aa 1) ai (λ_ _=>rfl)) bL (aZ _)) (au (aL (i:=4) lW.nd rfl (Or.inl rfl) (gK iH iO rfl G.tuple gY (ae (Rm (bK:=ao kz) (N:=["errand","saying","known","found","rows","one","k","more"]) (M:=["saying","known"]) (js:=[1,2]) ⟨rfl,by cbv,by cbv,by cbv,by cbv,by cbv⟩ (by cbv) (by cbv) rfl (ju (ay aC aD (aa 0) ai (λ_ _=>rfl))) (λ_ _ _ _ _=>d0) (λ_ _ _ _ _=>(gK iH iO rfl G.tuple gY (ae (Te (xk:=ao kz) (M:=["x","known"]) (js:=[0,2]) ⟨rfl,by cbv,by cbv,by cbv,by cbv,by cbv⟩ (by cbv) (by cbv) (ju (ay aC aD (aa 1) ai (λ_ _=>rfl))) (λ_ _ _ _ _=>d0) (λ_ _ _ _ _=>(aU xS hr rfl (ae (aa 1) (ae (aa 0) (ae (aa 2) ah)))))) ah)))) ah)))
 (au (eo (fm eM gu gZ f6 gN (aa 3) (ae (bP (ae (ay aC aD (aa 0) ai (λ_ _=>rfl)) (ae (ay aC aD (aa 1) ai (λ_ _=>rfl)) (ae (aa 4) ah)))) ah)))
 (au (c9 da rfl (ju (ay aC aD (aa 1) ai (λ_ _=>rfl))) (b6 (i:=5) lW.nd rfl (Or.inl rfl)) (ax (eo (fm eM uy Au vy wa (aa 3) (ae (aU ub hr rfl (ae (aa 0) (ae (aa 5) (ae (aa 2) ah)))) ah)))))
 (ax (aQ (aa 3)))))) bt)
 (au (bG (cL.pt (w_or (a5 cJ fP (ay aC aD (aa 1) ai (λ_ _=>rfl)) bL (aZ _)) (fM (a5 cJ fP (ay aC aD (aa 1) ai (λ_ _=>rfl)) bL (aZ _))))) (ax (aQ (aa 3))) bt)
 (au (c9 da rfl (NN rfl G.range (ae ai (ae (cE d8 eA rfl G.len dH (ae (aa 1) ah)) ah))) (b6 (i:=6) lW.nd rfl (Or.inl rfl)) (au (aL (i:=7) lW.nd rfl (Or.inl rfl) (aa 2))
 (au (bG (cL.pt (w_and (a5 cJ fP (ay aC aD (aa 1) ai (λ_ _=>rfl)) bL (aZ _)) (mI (a5 cJ fq (aa 6) ai (aZ _))))) (ax (aL (i:=7) lW.nd rfl (Or.inl rfl) (aO vz v_ (aa 2) (aU og hr rfl (ae (ay aC aD (aa 1) ai (λ_ _=>rfl)) ah))))) bt)
 (ax (eo (fm eM uy Au vy wa (aa 3) (ae (aU ub hr rfl (ae (aa 0) (ae (ay aC aD (aa 1) (aa 6) (λ_ _=>rfl)) (ae (aa 7) ah)))) ah)))))))
 (ax (aQ (aa 3))))))),?_⟩
  have hall:=hok.all;have ab6:=hok.EI;have hkl:=hok.kl;have hdp:=hok.deep;have hsz:=hok.size;have hps:=hok.ps;have hfin:∀{S':af} {pf:Addr} {j:Nat},S pf=none->Sub S S'->S' pf=some (.lst ((dB e s k j).map aq))->s.parts.length<=j->∃p ys,D.ref pf=.ref p/\S p=none/\Sub S S'/\S' p=some (.lst ys)/\q ys:=λ{S' pf j} h1 h2 h3 h4=>by
   rw[RE h4]at h3;exact⟨pf,_,rfl,h1,h2,h3,hq⟩
  have hstep:∀{S':af} {pf:Addr} {j:Nat} {a:Sy} {k':List Str} {ka:Addr} {Q:K3},S pf=none->Sub S S'->S' pf=some (.lst ((dB e s k j).map aq))->(s.pp Sy.pfx k)[j]?=some (a,k')->S' ka=some (.lst (k'.map D.str)) ->
   (∀pl:Addr,S' pl=none->∀ys:List D,(((dB e s k j).map aq)++ys).length<=100000->ys=(((a.bB Sy.pfx k').map (b_ bN e)).flatten).map aq->Sub S (up (up S' pl (.lst ys)) pf (.lst (((dB e s k j).map aq)++ys))) ->
    up (up S' pl (.lst ys)) pf (.lst (((dB e s k j).map aq)++ys)) pf=some (.lst ((dB e s k (j+1)).map aq))->Q (.ref pl) (up S' pl (.lst ys)))->xR n [e.d,a.d,.ref ka] S' Q (λ_ _ _=>False):=λ{S' pf j a k' ka Q} h1 h2 h3 h4 h5 h6=>by
   refine⟨e,a,ka,k',rfl,h5,hok.part (cj h4),λpl hpl=>h6 pl hpl _ ?_ rfl ?_ ?_⟩
   ·have:=RF (e:=e) (s:=s) (k:=k) (j:=j+1);rw[EJ h4,ba]at this;rw[ba,aA,aA];lia
   ·exact(h2.up hpl).at h1
   ·rw[az,EJ h4,cI]
  by_cases hsend:∃x as,s=.send x as
  ·obtain⟨x,as,rfl⟩:=hsend;have has:as.length<=1000:=(hall (Sy.send x as) (by rw[Sy.lp];exact bY)).1;have hin:∀a∈as,∀b∈a.pre,b∈(Sy.send x as).pre:=λa ha b hb=>by rw[Sy.lp];exact cg _ (w4 ha hb)
   have Vv:∀a:Sy,a∈a.pre:=λa=>by rw[Sy.lp];exact bY
   simp only[Sy.d,Sy.kf];unfold Er.d;nofun;intro pf hpf;have hS1:=aM (o:=.lst []) hS hpf;nofun;refine qh (λi=>bg (as.map λa=>bN (e.ps.getD i "") a k)) (by rw[aA];lia) (λ_ _=>trivial) ?_ ?_
   ·intro i d S2 hd s2;rw[aJ]at hd;obtain⟨p,hp,rfl⟩:=bU.mp hd;refine⟨[some (.str p)],rfl,λP hP=>?_⟩;rw[bJ,hp]at hP;have k2:=s2 _ _ hS1;nofun;refine qh (λj=>.int (bN p (as.getD j .bI) k)) (by rw[aA];lia) (λ_ _=>trivial) ?_ ?_
    ·intro j d S3 hd s3;rw[aJ]at hd;obtain⟨a,ha,rfl⟩:=bU.mp hd;refine⟨[some a.d],rfl,λP hP=>?_⟩;rw[bJ,ha]at hP;have k3:=s3 _ _ k2;have n5:=cj ha;have had:=Sy.sX n5;simp only[Sy.deep]at hdp;have hpl:=wZ a;nofun;exact⟨p,a,kn,k,rfl,k3,by lia,(hall a (hin a n5 a (Vv a))).2,by lia,hP _ (Sub.refl _)⟩
    intro S3 s3;have el:((aW (as.map Sy.d).length).map λj=>D.int (bN p (as.getD j .bI) k))=(as.map λa=>bN p a k).map D.int:=by
     rw[aA,eL];apply gx;intro i;rw[aJ,aJ];by_cases hi:i<as.length
     ·rw[iy hi,aV hi];simp[bJ,hi]
     ·rw[cT (by simpa using hi),cT (by lia)];rfl
    rw[el];intro p4 n_;nofun;exact hP _ (s3.up n_)
   intro S4 s4;have el:((aW (e.ps.map D.str).length).map λi=>bg (as.map λa=>bN (e.ps.getD i "") a k))=(e.ps.map λp=>as.map λa=>bN p a k).map bg:=by
    rw[aA,eL];apply gx;intro i;rw[aJ,aJ];by_cases hi:i<e.ps.length
    ·rw[iy hi,aV hi];simp[bJ,hi]
    ·rw[cT (by simpa using hi),cT (by lia)];rfl
   rw[el];intro p5 qd;have g1:=aM (o:=.lst ((e.ps.map λp=>as.map λa=>bN p a k).map bg)) (s4 _ _ hS1) qd;have g2:=aM (o:=.lst ((e.ps.map λp=>as.map λa=>bN p a k).map bg)) (s4 _ _ (show up S pf (.lst []) pf=some (.lst []) from az)) qd;have g3:Sub S (up S4 p5 (.lst ((e.ps.map λp=>as.map λa=>bN p a k).map bg))):=(((Sub.refl S).up hpf).trans s4).up qd;have g0:up S4 p5 (.lst ((e.ps.map λp=>as.map λa=>bN p a k).map bg)) p5=_:=az;generalize up S4 p5 (.lst ((e.ps.map λp=>as.map λa=>bN p a k).map bg))=S5 at g0 g1 g2 g3 ⊢;nofun;refine gc g2 (by decide) ?_;nofun;have e0:([]:List D)++[D.tup [.str e.name,.str x,.tup ((e.ps.map λp=>as.map λa=>bN p a k).map bg)]]=(dB e (.send x as) k 0).map aq:=by
    rw[w6];simp[b_,aq,cz,dN]
   rw[e0];refine⟨λj σ S'=>jJ λx4 x5 x6 x7=>σ=[some e.d,some (Sy.send x as).d,some (.ref kn),some (.ref pf),x4,x5,x6,x7]/\Sub S S'/\S' pf=some (.lst ((dB e (.send x as) k j).map aq)),
    ⟨_,_,_,_,by simp only[Sy.d,Sy.kf,Er.d];rfl,g3.at hpf,az⟩,λ_ _ _ _=>trivial,?_,?_⟩
   ·rintro j d σ S' hd ⟨x4,x5,x6,x7,rfl,h1,h2⟩;rw[aJ]at hd;obtain⟨a,ha,rfl⟩:=bU.mp hd;have hpp:=EK (s:=.send x as) (k:=k) ha (λ_ _ _ z=>by cases z);nofun;refine hstep hpf h1 h2 hpp (h1 _ _ hS) λpl hpl ys hl hy q1 q2=>?_;nofun;refine mU (aM h2 hpl) az (by rw[<-ba];exact de (by lia)) ?_;exact⟨_,_,_,_,rfl,q1,q2⟩
   ·rintro σ S' ⟨x4,x5,x6,x7,rfl,h1,h2⟩;nofun;exact hfin hpf h1 h2 (by simp[Sy.parts])
  by_cases qG:(∃x,s=.name x)∨s=.bI
  ·have hp0:s.parts=[]:=by rcases qG with⟨x,rfl⟩|rfl<;>rfl
   have hg0:dB e s k 0=[]:=by rw[w6];rcases qG with⟨x,rfl⟩|rfl<;>rfl
   rcases qG with⟨x,rfl⟩|rfl
   all_goals
    simp only[Sy.d];nofun;intro pf hpf;nofun;exact hfin (j:=0) hpf ((Sub.refl S).up hpf) (by rw[az,hg0];rfl) (by rw[hp0];exact aX _)
  have hg0:dB e s k 0=[]:=by
   rw[w6];cases s<;>first|rfl|exact(hsend ⟨_,_,rfl⟩).elim
  have n_:s.parts.length<=3:=by
   cases s<;>first|exact(hsend ⟨_,_,rfl⟩).elim|exact aX _|simp[Sy.parts]
  by_cases xT:∃a b c,s=.fork a b c
  ·obtain⟨a,b,c,rfl⟩:=xT;have had:a.deep<=50:=by simp only[Sy.deep]at hdp;lia
   have hab:=(hall a (by simp only[Sy.pre];exact cg _ (fb _ (by rw[Sy.lp];exact bY)))).2;have hpa:=wZ a;have hl1:(([D.str "fork",a.d,b.d,c.d]:List D).length:Int)<=4:=by simp
   have hl0:(0:Int)<=(([D.str "fork",a.d,b.d,c.d]:List D).length:Int):=by simp
   simp only[Sy.d];nofun;intro pf hpf;have hS1:=aM (o:=.lst []) hS hpf;nofun;refine⟨λj σ S'=>jJ λx4 x5 x6 x7=>σ=[some e.d,some (Sy.fork a b c).d,some (.ref kn),some (.ref pf),x4,x5,x6,x7]/\Sub S S'/\S' pf=some (.lst ((dB e (.fork a b c) k j).map aq)),
    ⟨_,_,_,_,rfl,(Sub.refl S).up hpf,by rw[az,hg0];rfl⟩,λ_ _ _ _=>trivial,?_,?_⟩
   ·rintro j d σ S' hd ⟨x4,x5,x6,x7,rfl,h1,h2⟩;obtain⟨hj,rfl⟩:=fo hd;have GG:j<3:=hj;simp only[Sy.d];rcases(by lia:j=0∨j=1∨j=2) with rfl|rfl|rfl
    ·nofun;refine hstep (k':=k) hpf h1 h2 rfl (h1 _ _ hS) λpl hpl ys hl hy q1 q2=>?_;nofun;refine mU (aM h2 hpl) az (by rw[<-ba];exact de (by lia)) ?_;exact⟨_,_,_,_,rfl,q1,q2⟩
    ·nofun;refine⟨a,rfl,by lia,hab,?_⟩;intro pp hpp;have m1:=aM (o:=.lst (a.pfx.map D.str)) (h1 _ _ hS) hpp;refine wc m1 az (by rw[aA,aA];exact de (by lia)) ?_;intro pk fD;rw[<-cI];have m2:=aM (o:=.lst ((k++a.pfx).map D.str)) (aM (o:=.lst (a.pfx.map D.str)) h2 hpp) fD;have m3:=(h1.up (o:=.lst (a.pfx.map D.str)) hpp).up (o:=.lst ((k++a.pfx).map D.str)) fD;have m4:up (up S' pp (.lst (a.pfx.map D.str))) pk (.lst ((k++a.pfx).map D.str)) pk=_:=az;generalize up (up S' pp (.lst (a.pfx.map D.str))) pk (.lst ((k++a.pfx).map D.str))=S6 at m2 m3 m4 ⊢;nofun;refine hstep (k':=k++a.pfx) hpf m3 m2 rfl m4 λpl hpl ys hl hy q1 q2=>?_;nofun;refine mU (aM m2 hpl) az (by rw[<-ba];exact de (by lia)) ?_;exact⟨_,_,_,_,rfl,q1,q2⟩
    ·nofun;refine hstep (k':=k) hpf h1 h2 rfl (h1 _ _ hS) λpl hpl ys hl hy q1 q2=>?_;nofun;refine mU (aM h2 hpl) az (by rw[<-ba];exact de (by lia)) ?_;exact⟨_,_,_,_,rfl,q1,q2⟩
   ·rintro σ S' ⟨x4,x5,x6,x7,rfl,h1,h2⟩;nofun;exact hfin hpf h1 h2 (by simp[Sy.parts,dF])
  have et:∃t,s.d=.tup (.str t::s.parts.map Sy.d)/\¬t="send"/\¬t="name"/\¬t="bud"/\¬t="fork":=by
   cases s<;>first|exact⟨_,rfl,by decide,by decide,by decide,by decide⟩|exact(hsend ⟨_,_,rfl⟩).elim|exact(xT ⟨_,_,_,rfl⟩).elim|exact(qG (.inl ⟨_,rfl⟩)).elim|exact(qG (.inr rfl)).elim
  obtain⟨t,ed,t1,t2,t3,t4⟩:=et;have hl1:((D.str t::s.parts.map Sy.d).length:Int)<=4:=by simp only[cf,aA];lia
  have hl0:(0:Int)<=((D.str t::s.parts.map Sy.d).length:Int):=by lia
  rw[ed];nofun;intro pf hpf;have hS1:=aM (o:=.lst []) hS hpf;nofun;refine⟨λj σ S'=>jJ λx4 x5 x6 x7=>σ=[some e.d,some (.tup (.str t::s.parts.map Sy.d)),some (.ref kn),some (.ref pf),x4,x5,x6,x7]/\Sub S S'/\S' pf=some (.lst ((dB e s k j).map aq)),
   ⟨_,_,_,_,rfl,(Sub.refl S).up hpf,by rw[az,hg0];rfl⟩,λ_ _ _ _=>trivial,?_,?_⟩
  ·rintro j d σ S' hd ⟨x4,x5,x6,x7,rfl,h1,h2⟩;obtain⟨hj,rfl⟩:=fo hd;have GG:j<s.parts.length:=by
    simp only[cf,aA]at hj;lia
   obtain⟨a,ha⟩:∃a,s.parts[j]?=some a:=⟨_,aV GG⟩;have hpp:=EK (k:=k) ha (λx y z z'=>absurd ⟨x,y,z,z'⟩ xT);have hat:b5 (D.str t::s.parts.map Sy.d) (1+(j:Int))=some a.d:=by
    have e:(1:Int)+(j:Int)=((j+1:Nat):Int):=by lia
    rw[e];refine iF ?_;rw[List.getElem?_cons_succ,aJ,ha];rfl
   nofun;refine mV hat ?_;nofun;refine hstep hpf h1 h2 hpp (h1 _ _ hS) λpl hpl ys hl hy q1 q2=>?_;nofun;refine mU (aM h2 hpl) az (by rw[<-ba];exact de (by lia)) ?_;exact⟨_,_,_,_,rfl,q1,q2⟩
  ·rintro σ S' ⟨x4,x5,x6,x7,rfl,h1,h2⟩;nofun;refine hfin hpf h1 h2 ?_;rw[dF];simp only[cf,aA];lia
inductive Vw (ds:List D)(S:af)(q:List D->Prop):Prop where
 |mk (a:Addr) (prog:List Er) (_:ds=[.ref a]) (_:S a=some (.lst (prog.map Er.d))) (_:(∀e∈prog,ni 20 e e.body [])) (_:(cX bN Sy.pfx prog).length<=100000) (_:q ((cX bN Sy.pfx prog).map aq))
def GH :aS:=kc Vw
theorem Vx(h:aB K mg "_law_graphs" nR ["program"])(G:Gs K mg)(ub:av P w K mg base 22 "_law_graphs_in" ["errand","saying","known"] (xR 20)) :
 av P w K mg base 23 "_law_graphs" ["program"] GH:=by
 refine h.kc xt (by rintro ds S q ⟨_,_,e,_⟩;rw[e];rfl) λf cdv A outer s0 H E ds S q hr hA=>?_;obtain⟨pr,prog,rfl,hS,hok,hz,hq⟩:=hA;refine⟨_,(au (aL (i:=1) xt.nd rfl (Or.inl rfl) (dE ah))
 (au (c9 da rfl (gL (aa 0)) (b6 (i:=2) xt.nd rfl (Or.inl rfl)) (ax (eo (fm eM uy Au vy wa (aa 1) (ae (aU ub hr rfl (ae (aa 2) (ae (ay aC aD (aa 2) ai (λ_ _=>rfl)) (ae (dE ah) ah)))) ah)))))
 (ax (aQ (aa 1))))),?_⟩
 nofun;intro pf hpf;have hS1:=aM (o:=.lst []) hS hpf;nofun;refine⟨λi σ S'=>∃x2,σ=[some (.ref pr),some (.ref pf),x2]/\Sub S S'/\S' pf=some (.lst ((cX bN Sy.pfx (prog.take i)).map aq)),⟨none,rfl,(Sub.refl S).up hpf,by rw[az];rfl⟩,
  λi σ S' ⟨x2,_,h1,_⟩=>h1 _ _ hS,?_,?_⟩
 ·rintro i d σ S' hd ⟨x2,rfl,h1,h2⟩;rw[aJ]at hd;obtain⟨e,he,rfl⟩:=bU.mp hd;have xB:e∈prog:=cj he;have hsn:=F6 (told:=bN) (ext:=Sy.pfx) he;have hbd:=F7 (told:=bN) (ext:=Sy.pfx) (prog:=prog) (i+1);rw[hsn,ba]at hbd;have ed:e.d=.tup [.str e.name,.tup (e.ps.map D.str),e.body.d]:=rfl;rw[ed];nofun;intro p0 hp0;nofun;refine⟨e,e.body,p0,[],rfl,az,hok e xB,?_⟩;intro pl hpl;have m1:=aM (o:=.lst ((((e.body.bB Sy.pfx []).map (b_ bN e)).flatten).map aq)) (aM (o:=.lst []) h2 hp0) hpl;nofun;refine mU m1 az (by rw[aA,aA];exact de (by lia)) ?_;refine⟨_,rfl,((h1.up hp0).up hpl).at hpf,?_⟩;rw[az,hsn,cI]
 ·rintro σ S' ⟨x2,rfl,h1,h2⟩;rw[aA,ir]at h2;nofun;exact⟨pf,_,rfl,hpf,h1,h2,hq⟩
abbrev cc(prog:List Er):List Gr:=cX aY Sy.bases prog
structure xU(ar:Str->Option Nat)(prog:List Er):Prop where
 gr:∀e∈prog,xA e
 len:(cc prog).length<=1000
 gd:∀g∈cc prog,Gd ar g
theorem Vy{x:Str}(h:dZ x):x.length<=1000:=by
 obtain⟨cs,rfl,_,h8,_⟩:=h;show(textOf cs).cps.size<=1000;simp only[textOf,b7];lia
theorem Vz(p:Str)(a:Sy)(k:List Str):0<=aY p a k/\aY p a k<=2:=by
 cases a<;>simp only[aY]<;>(repeat split)<;>decide
theorem VA{prog:List Er}{g:Gr}:g∈cc prog↔∃e∈prog,g∈((e.body.bB Sy.bases []).map (b_ aY e)).flatten:=by
 unfold cc cX;rw[Ak];constructor
 ·rintro⟨l,hl,hg⟩;obtain⟨e,he,rfl⟩:=bp.mp hl;exact⟨e,he,hg⟩
 ·rintro⟨e,he,hg⟩;exact⟨_,ix he,hg⟩
theorem VB{prog:List Er}(nd:(prog.map Er.name).Nodup){e:Er}(he:e∈prog):gh prog e.name=some e.ps.length:=by
 obtain⟨i,hi,rfl⟩:=iw he;exact wz nd (i:=i) (by rw[aJ,aV hi];rfl) (by rw[aJ,aV hi];rfl)
theorem Pg.gd{prog:List Er}(h:Pg prog):∀g∈cc prog,Gd (gh prog) g/\Sl (prog.map Er.name) g:=by
 intro g hg;obtain⟨e,he,hg⟩:=VA.mp hg;obtain⟨l,hl,hg⟩:=Ak.mp hg;obtain⟨⟨s,k⟩,hs,rfl⟩:=bp.mp hl;have hm:s∈e.body.pre:=by rw[<-Sy.gk Sy.bases e.body []];exact ix (f:=aP) hs
 have hw:=(h.body e he).wf;have hws:=Sy.gm hw s hm;obtain⟨p1,p4,_,_⟩:=h.ps e he;cases s with
 |send x as =>
  simp only[b_,cH]at hg;subst hg;simp only[Sy.wf]at hws;refine⟨⟨e.ps.length,as.length,VB h.nd he,hws.1,p1,hws.2.1,p4,hws.2.2.1,by simp,λr hr=>?_,λr hr x hx=>?_⟩,ix he,Fp hws.1⟩
  ·obtain⟨p,_,rfl⟩:=bp.mp hr;simp
  ·obtain⟨p,_,rfl⟩:=bp.mp hr;obtain⟨a,_,rfl⟩:=bp.mp hx;exact Vz p a k
 |_=>simp[b_]at hg
theorem Pg.VC{prog:List Er}(h:Pg prog):∀e∈prog,xA e:=λe he=>by
 have hb:=h.body e he;refine⟨by have:=hb.size;lia,λp hp=>⟨?_,?_⟩,by have:=(h.ps e he).2.1;lia⟩
 ·have:=EG RD 12 e.body [] hb.deep p hp;simp only[eJ]at this;lia
 ·have hm:p.1∈e.body.pre:=by rw[<-Sy.gk Sy.bases e.body []];exact ix (f:=aP) hp
  have:=EA (Sy.gm hb.wf p.1 hm);lia
theorem Pg.ok{prog:List Er}(h:Pg prog):xU (gh prog) prog:=by
 refine⟨h.VC,?_,λg hg=>(h.gd g hg).1⟩;have h1:=EF (told:=aY) (ext:=Sy.bases) (λe he=>(h.body e he).sends);have h2:=h.len;have h3:prog.length*12<=12*12:=Nat.mul_le_mul_right _ h2;show(cX aY Sy.bases prog).length<=1000;lia
theorem Pg.gi{prog:List Er}(h:Pg prog):∀e∈prog,ni 20 e e.body []:=λe he=>by
 have hb:=h.body e he;refine⟨by have:=hb.deep;lia,by decide,by decide,by have:=(h.ps e he).2.1;lia,by have:=hb.size;lia,λa ha=>⟨?_,λx hx=>?_⟩⟩
 ·have:=EA (Sy.gm hb.wf a ha);lia
 ·exact Vy ((h.ps e he).2.2.2 x (tL (Sy.gm hb.wf a ha) hx))
theorem Pg.same{prog:List Er}(h:Pg prog):cX bN Sy.pfx prog=cc prog :=
 (Rz λe he=>⟨(h.ps e he).2.2.2,(h.body e he).wf⟩).symm
inductive VD(adr:Rf->Addr)(ds:List D)(S:af)(q:List D->Prop)(qx:Addr->Prop):Prop where
 |mk (pr:Addr) (prog:List Er) (ar:Str->Option Nat) (_:ds=[.ref pr]) (_:S pr=some (.lst (prog.map Er.d))) (_:xU ar prog) (_:(∀F,eX (cO (cc prog))=some F->q (F.map bO))) (_:(eX (cO (cc prog))=none->qx (adr .many)))
def xV(adr:Rf->Addr):aS:=nc (VD adr)
theorem VE{k:Nat}(h:aB K mg "closure" nE ["program"])(G:Gs K mg)(xW:av P w K mg base k "graphs" ["program"] F5)(xX:av P w K mg base k "closure_of" ["numbered"] (Gc adr)) :
 av P w K mg base (k+1) "closure" ["program"] (xV adr):=by
 refine h.nc TF (by rintro ds S q qx ⟨_,_,_,e,_⟩;rw[e];rfl) λf cdv A outer s0 H E ds S q qx hr hA=>?_;obtain⟨pr,prog,ar,rfl,hS,hok,hy,hn⟩:=hA;refine⟨_,(ax (aQ (aU xX hr rfl (ae (R5 rfl G.list rfl G.enumerate rfl (ae (aU xW hr rfl (ae (aa 0) ah)) ah)) ah)))),?_⟩;have hl:=hok.len;nofun;refine⟨pr,prog,rfl,hS,hok.gr,by show(cc prog).length<=100000;lia,?_⟩;intro pg VF;have g1:up S pg (.lst ((cc prog).map aq)) pg=some (.lst ((cc prog).map aq)):=az;have s1:Sub S (up S pg (.lst ((cc prog).map aq))):=(Sub.refl S).up VF;generalize up S pg (.lst ((cc prog).map aq))=S1 at g1 s1 ⊢;nofun;refine qh (λi=>(eB ((cc prog).map aq)).getD i .non) (by rw[nq,aA];lia) (λS hs=>hs _ _ g1) ?_ ?_
 ·intro i d S2 hd hs;refine DI λP hP=>?_;rw[bJ,hd]at hP;nofun;exact hP _ (Sub.refl _)
 intro S2 s2;have el:((aW (eB ((cc prog).map aq)).length).map λi=>(eB ((cc prog).map aq)).getD i .non)=(cO (cc prog)).map jB:=by
  rw[<-Sj];apply gx;intro i;rw[aJ];by_cases hi:i<(eB ((cc prog).map aq)).length
  ·rw[iy hi,aV hi];simp[bJ,hi]
  ·rw[cT (by simpa using hi),cT (by lia)];rfl
 rw[el];intro pn hpn;have s3:Sub S (up S2 pn (.lst ((cO (cc prog)).map jB))):=(s1.trans s2).up hpn;have g3:up S2 pn (.lst ((cO (cc prog)).map jB)) pn=_:=az;generalize up S2 pn (.lst ((cO (cc prog)).map jB))=S3 at s3 g3 ⊢;nofun;refine⟨pn,_,ar,rfl,g3,by rw[Sk];exact hl,λp hp=>hok.gd _ (qp hp),λF eF=>?_,λeF a=>⟨s3,hn eF⟩⟩;intro pf hpf;nofun;exact⟨pf,_,rfl,s3.free hpf,s3.up hpf,az,hy F eF⟩
theorem GI{ar:Str->Option Nat}{nb:List (Int×Gr)}{F:CL.Fd Gr}(h:∀p∈nb,Gd ar p.2)(e:eX nb=some F):∀p∈F,Gd ar p.1:=λp hp =>
 CL.RK (Pr:=Gd ar) h (λa ha p hp hf=>ha.cmp (h p hp) (by simpa[cb]using hf)) e p.1 (ix (f:=aP) hp)
theorem VG{F:CL.Fd Gr}{S S1:af}{q:D->af->Prop}(h:t8 F S q)(hs:Sub S S1):t8 F S1 λd T=>∃T',Sub T' T/\q d T' :=
 ⟨λw e=>⟨S,hs,h.1 w e⟩,λe p hp=>⟨_,hs.upd,h.2 e p (hs.free hp)⟩⟩
inductive VH(adr:Rf->Addr)(ds:List D)(S:af)(q:D->af->Prop)(qx:Addr->Prop):Prop where
 |mk (pr:Addr) (prog:List Er) (ar:Str->Option Nat) (_:ds=[.ref pr]) (_:S pr=some (.lst (prog.map Er.d))) (_:xU ar prog) (_:(∀F,eX (cO (cc prog))=some F->t8 F S q)) (_:(eX (cO (cc prog))=none->qx (adr .many)))
def GJ(adr:Rf->Addr):aS:=ku (VH adr)
theorem VI{k:Nat}(h:aB K mg "judged" nF ["program"])(G:Gs K mg)(oh:av P w K mg base k "closure" ["program"] (xV adr))(xY:av P w K mg base k "telling_of" ["pairs"] Gh) :
 av P w K mg base (k+1) "judged" ["program"] (GJ adr):=by
 refine h.ku TH (by rintro ds S q qx ⟨_,_,_,e,_⟩;rw[e];rfl) λf cdv A outer s0 H E ds S q qx hr hA=>?_;obtain⟨pr,prog,ar,rfl,hS,hok,hy,hn⟩:=hA;refine⟨_,(ax (aQ (aU xY hr rfl (ae (aU oh hr rfl (ae (aa 0) ah)) ah)))),?_⟩;nofun;refine⟨pr,prog,ar,rfl,hS,hok,λF eF=>?_,λeF a=>⟨Sub.refl _,hn eF⟩⟩;intro pf hpf;have hc:=CL.EM eF;nofun;exact⟨pf,F,ar,rfl,az,hc.ok.len,GI (λp hp=>hok.gd _ (qp hp)) eF,VG (hy F eF) ((Sub.refl S).up hpf)⟩
def dC(gs:List Gr)(n:Int):Gr:=gs.getD n.toNat ("","",[])
def ij(gs:List Gr):Gr->List Int->Option Gr
 |g,[]=>some g
 |g,n::l=>if g.2.1=(dC gs n).1 then ij gs (bf g (dC gs n)) l else none
abbrev uc(gs:List Gr)(way:List Int):Prop:=∀n∈way,0<=n/\n<(gs.length:Int)
def GK(gs:List Gr):List Int->Option Gr
 |[]=>none
 |n::l=>ij gs (dC gs n) l
def eC(gs:List Gr)(way:List Int):Option Gr:=if uc gs way then GK gs way else none
theorem VJ{gs:List Gr}{n:Int}(h0:0<=n)(h:n<(gs.length:Int)):dC gs n∈gs:=by
 unfold dC;rw[bJ,aV (by lia)];exact mq _
theorem GL{gs:List Gr}{n:Int}:∀{l:List Int} {g h:Gr},ij gs g l=some h->h.2.1=(dC gs n).1->ij gs g (l++[n])=some (bf h (dC gs n))
 |[],g,h,e,hf=>by
  cases e;rw[JH,ij,if_pos hf,ij]
 |m::l,g,h,e,hf=>by
  rw[ij]at e;rw[jO,ij]
  split at e
  ·rename_i c
   rw[if_pos c];exact GL e hf
  ·cases e
theorem VL{gs:List Gr}{n:Int}(h0:0<=n)(h:n<(gs.length:Int)):eC gs [n]=some (dC gs n):=by
 unfold eC;rw[if_pos λx hx=>by rw[cH.mp hx];exact⟨h0,h⟩];rfl
theorem VM{gs:List Gr}{w:List Int}{n:Int}{h:Gr}(e:eC gs w=some h)(h0:0<=n)(hl:n<(gs.length:Int))(hf:h.2.1=(dC gs n).1):eC gs (w++[n])=some (bf h (dC gs n)):=by
 unfold eC at e ⊢
 split at e
 ·rename_i hr
  rw[if_pos λx hx=>by
   rcases bR.mp hx with hx|hx
   ·exact hr x hx
   ·rw[cH.mp hx];exact⟨h0,hl⟩]
  cases w with
  |nil=>cases e
  |cons m l=>exact GL (l:=l) e hf
 ·cases e
section
variable{nb:List (Int×Gr)}{Pr:Gr×List Int->Prop}
theorem GN{f f':CL.Fd Gr}{g:Gr}{w:List Int}(h:∀p∈f,Pr p)(hg:Pr (g,w))(e:CL.putN f g w=some f'):∀p∈f',Pr p:=by
 unfold CL.putN at e
 split at e
 ·cases e;exact h
 ·split at e
  ·cases e
  ·cases e;intro p hp;rcases bR.mp hp with hp|hp
   ·exact h p hp
   ·rw[cH.mp hp];exact hg
theorem GO:∀{l:List (Int×Gr)} {f f':CL.Fd Gr},(∀p∈l,Pr (p.2,[p.1]))->(∀p∈f,Pr p)->CL.fw l f=some f'->∀p∈f',Pr p
 |[],f,f',_,h,e=>by cases e;exact h
 |(n,g)::l,f,f',hl,h,e=>by
  rw[CL.fw,eK]at e;obtain⟨f1,e1,e2⟩:=e;exact GO (λp hp=>hl p (cg _ hp)) (GN h (hl (n,g) bY) e1) e2
theorem GP{a:Gr×List Int}:∀{l:List (Int×Gr)} {f f':CL.Fd Gr},(∀p∈l,cb a.1 p.2=true->Pr (bf a.1 p.2,a.2++[p.1]))->(∀p∈f,Pr p)->CL.put2 cb bf a l f=some f'->∀p∈f',Pr p
 |[],f,f',_,h,e=>by cases e;exact h
 |(n,g)::l,f,f',hl,h,e=>by
  rw[CL.put2,eK]at e;obtain⟨f1,e1,e2⟩:=e;refine GP (λp hp=>hl p (cg _ hp)) ?_ e2
  split at e1
  ·rename_i hf
   exact GN h (hl (n,g) bY hf) e1
  ·cases e1;exact h
theorem GQ(hn:∀a,Pr a->∀p∈nb,cb a.1 p.2=true->Pr (bf a.1 p.2,a.2++[p.1])):∀{k place:Nat} {f f':CL.Fd Gr},(∀p∈f,Pr p)->CL.d6 cb bf nb k place f=some f'->∀p∈f',Pr p
 |0,_,f,f',h,e=>by cases e;exact h
 |k+1,place,f,f',h,e=>by
  rw[CL.d6]at e;cases ha:f[place]? with
  |none=>rw[ha]at e;cases e;exact h
  |some a =>
   rw[ha]at e;dsimp only at e;rw[eK]at e;obtain⟨f1,e1,e2⟩:=e;exact GQ hn (GP (hn a (h a (cj ha))) h e1) e2
end
theorem GR{gs:List Gr}{p:Int×Gr}(h:p∈cO gs):0<=p.1/\p.1<(gs.length:Int)/\dC gs p.1=p.2:=by
 unfold cO at h;obtain⟨⟨g,i⟩,hq,rfl⟩:=bp.mp h;have hi:=Av.mp hq;have hl:=(bH.mp hi).1;refine⟨by simp,by show(i:Int)<_;have:i<gs.length:=hl;lia,?_⟩;unfold dC;rw[bJ];show(gs[oI (i:Int)]?).getD _=g;rw[fT,hi];rfl
theorem VN{gs:List Gr}{F:CL.Fd Gr}(e:eX (cO gs)=some F):∀p∈F,eC gs p.2=some p.1:=by
 show ∀p∈F,eC gs p.2=some p.1;unfold eX CL.fQ at e;rw[eK]at e;obtain⟨f1,e1,e2⟩:=e;refine GQ (Pr:=λp=>eC gs p.2=some p.1) (λa ha p hp hf=>?_) (GO (λp hp=>?_) (λp hp=>by cases hp) e1) e2
 ·obtain⟨h0,hl,eg⟩:=GR hp;have hf':a.1.2.1=p.2.1:=of_decide_eq_true hf;have:=VM ha h0 hl (by rw[eg];exact hf');rw[eg]at this;exact this
 ·obtain⟨h0,hl,eg⟩:=GR hp;have:=VL h0 hl;rw[eg]at this;exact this
theorem VO{gs:List Gr}(e:eX (cO gs)=none){ks:List Gr}(h0:∀g∈gs,g∈ks)(hn:∀a∈ks,∀g∈gs,a.2.1=g.1->bf a g∈ks):40<ks.length:=by
 rcases Nat.lt_or_ge 40 ks.length with h|h
 ·exact h
 ·obtain⟨F,eF,_⟩:=CL.RH (fit:=cb) (cmp:=bf) (φ:=λg:Gr=>g) (Gd:=λ_=>True) (C:=ks) (λa b _ _ z=>z) h (nb:=cO gs) (λp hp=>⟨trivial,h0 _ (qp hp)⟩) (λa _ ha p hp hf=>⟨trivial,hn a ha _ (qp hp) (of_decide_eq_true hf)⟩);rw[show CL.fQ cb bf (cO gs)=none from e]at eF;cases eF
def cM(r:List Int):DK:=.tup (r.map DK.int)
def dg(g:Gr):DK:=.tup [.str g.1,.str g.2.1,.tup (g.2.2.map cM)]
theorem xZ:∀r:List Int,iY (r.map D.int)=some (r.map DK.int)
 |[]=>rfl
 |x::r=>by simp[iY,cY,xZ r]
theorem GS:∀A:b9,iY (A.map bg)=some (A.map cM)
 |[]=>rfl
 |r::A=>by simp[iY,cY,bg,cM,xZ r,GS A]
theorem qH(g:Gr):∃ds,aq g=.tup ds/\cY (.tup ds)=some (dg g):=by
 refine⟨_,rfl,?_⟩;simp[cY,iY,dN,dg,GS]
theorem x9:∀{r r':List Int},r.map DK.int=r'.map DK.int->r=r'
 |[],[],_=>rfl
 |[],_::_,h=>by cases h
 |_::_,[],h=>by cases h
 |x::r,y::r',h=>by
  simp only[bo,oJ,DK.int.injEq]at h;rw[h.1,x9 h.2]
theorem GU:∀{A B:b9},A.map cM=B.map cM->A=B
 |[],[],_=>rfl
 |[],_::_,h=>by cases h
 |_::_,[],h=>by cases h
 |r::A,r'::B,h=>by
  simp only[bo,oJ,cM,DK.tup.injEq]at h;rw[x9 h.1,GU (A:=A) (B:=B) h.2]
theorem qI{g h:Gr}(e:dg g=dg h):g=h:=by
 obtain⟨g1,g2,g3⟩:=g;obtain⟨h1,h2,h3⟩:=h;unfold dg at e;simp only[DK.tup.injEq,oJ,DK.str.injEq,and_true]at e;obtain⟨e1,e2,e3⟩:=e;rw[e1,e2,GU e3]
theorem kg{n:Nat}:∀{l:List DK},(∀x∈l,x.deep<=n)->DK.cN l<=n
 |[],_=>by simp[DK.cN]
 |x::l,h=>by
  have h1:=h x bY;have h2:=kg λy hy=>h y (cg _ hy);simp only[DK.cN];lia
theorem oi(g:Gr):(dg g).deep<=4:=by
 have h1:DK.cN (g.2.2.map cM)<=2:=kg λx hx=>by
  obtain⟨r,_,rfl⟩:=bp.mp hx;have h0:DK.cN (r.map DK.int)<=1:=kg λy hy=>by
   obtain⟨z,_,rfl⟩:=bp.mp hy;simp[DK.deep]
  simp only[cM,DK.deep];lia
 simp only[dg,DK.deep,DK.cN];lia
def gT(ks:List Gr):List (DK×D):=ks.map λg=>(dg g,.bl true)
theorem VP{ks:List Gr}{g:Gr}:(cR (gT ks) (dg g)).isSome=decide (g∈ks):=by
 rw[e_,decide_eq_true_iff];unfold cR;rw[uz,List.find?_isSome];constructor
 ·rintro⟨x,hx,e⟩;obtain⟨q,hq,rfl⟩:=bp.mp hx;rw[<-qI (of_decide_eq_true e)];exact hq
 ·intro h;exact⟨_,ix (f:=λg=>(dg g,D.bl true)) h,by simp⟩
theorem VQ{ks:List Gr}{g:Gr}(h:g∉ks):jE (gT ks) (dg g) (.bl true)=gT (ks++[g]):=by
 unfold jE;rw[if_neg,gT,gT,cI]
 ·rfl
 ·intro z;obtain⟨x,hx,e⟩:=mr.mp z;obtain⟨q,hq,rfl⟩:=bp.mp hx;rw[qI (of_decide_eq_true e)]at hq;exact h hq
section
variable{S:af}{Q:K3}{n:aF->af->Prop}{σ:aF}
theorem GV{neg:Bool}{a:Addr}{ks:List Gr}{g:Gr}(hS:S a=some (.tab (gT ks)))(q:Q (.bl (if neg then !decide (g∈ks) else decide (g∈ks))) S):lC neg Q (.ref a) (aq g) S:=by
 obtain⟨ds,e1,e2⟩:=qH g;rw[e1];exact xh hS e2 (oi g) (by rw[VP];exact q)
theorem GW{a:Addr}{ks:List Gr}{g:Gr}(hS:S a=some (.tab (gT ks)))(hz:ks.length<=10000)(hg:g∉ks)(q:n σ (up S a (.tab (gT (ks++[g]))))):qt n σ (.bl true) (.ref a) (aq g) S:=by
 obtain⟨ds,e1,e2⟩:=qH g;rw[e1];exact xi hS e2 (oi g) (by unfold gT;rw[aA];exact fu (by lia)) (by rw[VQ hg];exact q)
end
theorem VR{a b:Int}(ha:0<=a)(hb:0<=b):a*b>0↔¬(a=0∨b=0):=by
 constructor
 ·intro h z;rcases z with rfl|rfl<;>simp at h
 ·intro h;have h1:0<a:=by lia
  have h2:0<b:=by lia
  exact Int.mul_pos h1 h2
inductive VS (ds:List D)(q:D->Prop):Prop where
 |mk (f t f' t':Str) (A B:b9) (m n p:Nat) (_:ds=[cz f t A,cz f' t' B]) (_:Mt m n A) (_:Mt n p B) (_:0<n) (_:m<=1000) (_:n<=1000) (_:p<=1000) (_:q (cz f t' (gP A B)))
def qJ :aS:=vS VS
theorem VT{k:Nat}(h:aB K mg "_law_compose" nO ["one","other"])(G:Gs K mg):av P w K mg base (k+1) "_law_compose" ["one","other"] qJ:=by
 refine h.val ky (by rintro ds q ⟨_,_,_,_,_,_,_,_,_,e,_⟩;rw[e];rfl) λf cdv A outer s0 H E ds q hr hA=>?_;obtain⟨fr,t,f',t',A',B,m,n,p,rfl,hA,hB,hn,hm',hn',hp',hq⟩:=hA;have hAl:=hA.len;have hBl:=hB.len;refine⟨_,(au (aL (i:=2) ky.nd rfl (Or.inl rfl) (dE ah))
 (au (c9 da rfl (ju (ay aC aD (aa 0) ai (λ_ _=>rfl))) (b6 (i:=3) ky.nd rfl (Or.inl rfl)) (au (aL (i:=4) ky.nd rfl (Or.inl rfl) (dE ah))
 (au (c9 da rfl (gM rfl G.range (ae (cE d8 eA rfl G.len dH (ae (ay aC aD (ay aC aD (aa 1) ai (λ_ _=>rfl)) ai (λ_ _=>rfl)) ah)) ah)) (b6 (i:=5) ky.nd rfl (Or.inl rfl)) (au (aL (i:=6) ky.nd rfl (Or.inl rfl) ai)
 (au (c9 da rfl (gM rfl G.range (ae (cE d8 eA rfl G.len dH (ae (aa 3) ah)) ah)) (b6 (i:=7) ky.nd rfl (Or.inl rfl)) (ax (bG (a5 rN f_ (aO AW bx (ay aC aD (aa 3) (aa 7) (λ_ _=>rfl)) (ay aC aD (ay aC aD (ay aC aD (aa 1) ai (λ_ _=>rfl)) (aa 7) (λ_ _=>rfl)) (aa 5) (λ_ _=>rfl))) ai (aZ _)) (ax (aL (i:=6) ky.nd rfl (Or.inl rfl) (cE (Qt rfl) Qz rfl G.max boot_max (ae (aa 6) (ae (ay aC aD (aa 3) (aa 7) (λ_ _=>rfl)) (ae (ay aC aD (ay aC aD (ay aC aD (aa 1) ai (λ_ _=>rfl)) (aa 7) (λ_ _=>rfl)) (aa 5) (λ_ _=>rfl)) ah)))))) bt)))
 (ax (eo (fm eM gu gZ f6 gN (aa 4) (ae (aa 6) ah)))))))
 (ax (eo (fm eM gu gZ f6 gN (aa 2) (ae (gK iH iO rfl G.tuple gY (ae (aa 4) ah)) ah)))))))
 (ax (aQ (bP (ae (ay aC aD (aa 0) ai (λ_ _=>rfl)) (ae (ay aC aD (aa 1) ai (λ_ _=>rfl)) (ae (gK iH iO rfl G.tuple gY (ae (aa 2) ah)) ah)))))))),?_⟩
 nofun;intro p1 hp1;nofun;refine⟨λi σ S=>qA λx3 x4 x5 x6 x7=>σ=[some (cz fr t A'),some (cz f' t' B),some (.ref p1),x3,x4,x5,x6,x7]/\S p1=some (.lst ((gP (A'.take i) B).map bg)),⟨_,_,_,_,_,rfl,by simp[gP,az]⟩,λ_ _ _ _=>trivial,?turn,?done⟩
 case turn =>
  rintro i d σ S hd ⟨x3,x4,x5,x6,x7,rfl,k1⟩;rw[aJ]at hd;obtain⟨row,hrow,rfl⟩:=bU.mp hd;have hmem:=cj hrow;have hrl:=hA.row row hmem;have hrn:=hA.num row hmem;nofun;intro p2 hp2;have VU:p1≠p2:=ne3 k1 hp2;have k2:=aM (o:=.lst []) k1 hp2;have k3:up S p2 (.lst []) p2=some (.lst []):=az;nofun;generalize up S p2 (.lst [])=S1 at k2 k3 ⊢;have h0:(B.getD 0 []).length=p:=hB.row _ (m_ (by lia));refine qf (k:=0) rfl (by lia) ?_;nofun;rw[h0];refine⟨λk σ S=>nZ λx5 x6 x7=>σ=[some (cz fr t A'),some (cz f' t' B),some (.ref p1),some (bg row),some (.ref p2),x5,x6,x7]/\S p1=some (.lst ((gP (A'.take i) B).map bg))/\S p2=some (.lst (((aW k).map λk=>dot row B k).map D.int)),
   ⟨_,_,_,rfl,k2,k3⟩,λ_ _ _ _=>trivial,?_,?_⟩
  ·rintro k d σ S hd ⟨x5,x6,x7,rfl,m1,m2⟩;obtain⟨hk,rfl⟩:=fo hd;rw[fT]at hk;nofun;refine⟨λj σ S'=>∃x7,σ=[some (cz fr t A'),some (cz f' t' B),some (.ref p1),some (bg row),some (.ref p2),some (.int (0+(k:Int))),some (.int (dM (λj=>jn (row.getD j 0) (at2 B j k)) j)),x7]/\S'=S,⟨_,rfl,rfl⟩,λ_ _ _ _=>trivial,?_,?_⟩
   ·rintro j d σ S' hd ⟨x7,rfl,rfl⟩;obtain⟨hj,rfl⟩:=fo hd;rw[fT]at hj;have hjB:j<B.length:=by lia
    have a1:=tD hrn j;have a2:=hB.at j k;have hkl:k<(B.getD j []).length:=by rw[hB.row _ (m_ hjB)];exact hk
    have nn:0<=dM (λj=>jn (row.getD j 0) (at2 B j k)) j:=wK;have x_:dM (λj=>jn (row.getD j 0) (at2 B j k)) (j+1)=max (dM (λj=>jn (row.getD j 0) (at2 B j k)) j) (jn (row.getD j 0) (at2 B j k)):=QI;obtain⟨best,hbest⟩:∃best,dM (λj=>jn (row.getD j 0) (at2 B j k)) j=best:=⟨_,rfl⟩;rw[hbest]at nn x_ ⊢;have mg:=VR a1.1 a2.1;nofun;refine qg (k:=j) (by lia) hj ?_;nofun;refine qf (k:=j) (by lia) hjB ?_;nofun;refine qg (k:=k) (by lia) hkl ?_;refine Dh (.inl ⟨by lia,by lia⟩) ?_;have ea:(B.getD j []).getD k 0=at2 B j k:=rfl;rw[ea];by_cases hz:row.getD j 0=0∨at2 B j k=0
    ·have hz':¬row.getD j 0*at2 B j k>0:=λz=>mg.mp z hz;nofun;refine⟨some (.int (0+(j:Int))),?_,rfl⟩;have:max best (jn (row.getD j 0) (at2 B j k))=best:=by
      unfold jn;rw[if_pos hz];lia
     rw[x_,this];rfl
    ·have hz':row.getD j 0*at2 B j k>0:=mg.mpr hz;nofun;refine qg (k:=j) (by lia) hj ?_;nofun;refine qf (k:=j) (by lia) hjB ?_;nofun;refine qg (k:=k) (by lia) hkl ?_;nofun;refine⟨some (.int (0+(j:Int))),?_,rfl⟩;have:max (max best (row.getD j 0)) (at2 B j k)=max best (jn (row.getD j 0) (at2 B j k)):=by
      unfold jn;rw[if_neg hz]
      split<;>lia
     rw[x_,<-this];rfl
   ·rintro σ S' ⟨x7,rfl,rfl⟩;rw[dF,fT];nofun;refine gc m2 (by rw[aA,aA,qT];exact cZ (show k<1001 by lia) (by decide)) ?_;refine⟨_,_,_,rfl,?_,?_⟩
    ·rw[bj VU];exact m1
    ·rw[az,qZ,cI,cI];rfl
  ·rintro σ S ⟨x5,x6,x7,rfl,m1,m2⟩;rw[dF,fT]at m2;nofun;have hlt:i<A'.length:=(bH.mp hrow).1;refine gc m1 (by rw[aA,gP,aA,dh];exact cZ (show min i A'.length<1001 by lia) (by decide)) ?_;refine⟨_,_,_,_,_,rfl,?_⟩;rw[az,gw,hrow];simp only[gP,cI,Option.toList,bo,fU,hB.head hn,bg]
 rintro σ S ⟨x3,x4,x5,x6,x7,rfl,k1⟩;rw[aA,ir]at k1;nofun;exact hq
theorem VV{g h:Gr}{S:af}{Q:K3}(q:Q (.bl (!decide (g=h))) S):tF 200 (aq g) (aq h) S Q:=by
 have a1:=kx g;have a2:=kx h;have a3:=qo g;have a4:=xc g h;refine⟨D.b8 [.str g.1,.str g.2.1,dN g.2.2],D.b8 [.str h.1,.str h.2.1,dN h.2.2],Dn.of a1,Dn.of a2,bX a3 (by decide),?_⟩;have e:aR (.tup (D.b8 [.str g.1,.str g.2.1,dN g.2.2])) (.tup (D.b8 [.str h.1,.str h.2.1,dN h.2.2]))=decide (g=h):=a4;rw[e];exact q
inductive VW (ds:List D)(q:D->Prop):Prop where
 |mk (ar:Str->Option Nat) (g:Gr) (_:ds=[aq g]) (_:Gd ar g) (_:q (.bl (df g)))
def GX :aS:=vS VW
theorem VX{k:Nat}(h:aB K mg "_law_idle" nP ["graph"])(G:Gs K mg)(gS:av P w K mg base k "_law_compose" ["one","other"] qJ):av P w K mg base (k+1) "_law_idle" ["graph"] GX:=by
 refine h.val FO (by rintro ds q ⟨_,_,e,_⟩;rw[e];rfl) λf cdv A outer s0 H E ds q hr hA=>?_;obtain⟨ar,g,rfl,hg,hq⟩:=hA;refine⟨_,(au (bG (cL.pt (w_or (a5 j7 mL (ay aC aD (aa 0) ai (λ_ _=>rfl)) (ay aC aD (aa 0) ai (λ_ _=>rfl)) (aZ _)) (fM (a5 (D4 (mY hr)) D5 (aU gS hr rfl (ae (aa 0) (ae (aa 0) ah))) (aa 0) (aZ _))))) (ax (aQ iJ)) bt)
 (au (c9 da rfl (gM rfl G.range (ae (cE d8 eA rfl G.len dH (ae (ay aC aD (aa 0) ai (λ_ _=>rfl)) ah)) ah)) (b6 (i:=1) FO.nd rfl (Or.inl rfl)) (ax (bG (a5 cJ fq (ay aC aD (ay aC aD (ay aC aD (aa 0) ai (λ_ _=>rfl)) (aa 1) (λ_ _=>rfl)) (aa 1) (λ_ _=>rfl)) ai (aZ _)) (ax (aQ iJ)) bt)))
 (ax (aQ iJ)))),?_⟩
 obtain⟨m1,n1,q1,q2,q3,q4,q5,q6,hM⟩:=hg.ex;by_cases hf:g.1=g.2.1
 rotate_left
 ·have hi:df g=false:=by simp[df,cb,cG hf]
  rw[hi]at hq;unfold aq;nofun;exact hq
 have qF:n1=m1:=by rw[<-hf,q1]at q2;exact(cS q2).symm
 subst qF;unfold aq;nofun;refine⟨g.1,g.2.1,g.1,g.2.1,g.2.2,g.2.2,n1,n1,n1,rfl,hM,hM,by lia,by lia,by lia,by lia,?_⟩;nofun;show tF _ (aq (bf g g)) (aq g) _ _;refine VV ?_;by_cases hc:bf g g=g
 rotate_left
 ·have hi:df g=false:=by simp[df,cb,hc]
  rw[hi]at hq;rw[decide_eq_false hc];nofun;exact hq
 rw[decide_eq_true hc];have hi:df g=!jC g.2.2:=by simp[df,cb,hf.symm,hc]
 rw[hi]at hq;have VY:=hM.len;nofun;refine⟨λj σ S'=>∃x1,σ=[some (cz g.1 g.2.1 g.2.2),x1]/\∀i,i<j->¬(g.2.2.getD i []).getD i 0=2,⟨_,rfl,λi hi=>by lia⟩,λ_ _ _ _=>trivial,?_,?_⟩
 ·rintro j d σ S' hd ⟨x1,rfl,hno⟩;obtain⟨hj,rfl⟩:=fo hd;rw[fT]at hj;rw[Int.zero_add];have hrl:(g.2.2.getD j []).length=n1:=hM.row _ (m_ hj);nofun;refine qf (k:=j) rfl hj ?_;nofun;refine qg (k:=j) rfl (by lia) ?_;by_cases c:(g.2.2.getD j []).getD j 0=2
  ·nofun;have:jC g.2.2=true:=mr.mpr ⟨j,gV.mpr hj,decide_eq_true c⟩;rw[this]at hq;exact hq
  ·nofun;refine⟨_,rfl,λi hi=>?_⟩;by_cases e:i=j
   ·rw[e];exact c
   ·exact hno i (by lia)
 ·rintro σ S' ⟨x1,rfl,hno⟩;rw[dF,fT]at hno;nofun;have:jC g.2.2=false:=by
   unfold jC;rw[IL];intro i hi z;exact hno i (gV.mp hi) (of_decide_eq_true z)
  rw[this]at hq;exact hq
structure Gk(ar:Str->Option Nat)(gs ks ps:List Gr):Prop where
 nd:ks.Nodup
 gd:∀x∈ks,Gd ar x
 sub:∀x∈ps,x∈ks
 mn:∀C:List Gr,(∀g∈gs,g∈C)->(∀a∈C,∀g∈gs,a.2.1=g.1->bf a g∈C)->∀x∈ks,x∈C
theorem Gk.put{ar:Str->Option Nat}{gs ks ps:List Gr}{x:Gr}(h:Gk ar gs ks ps)(hx:x∉ks)(hg:Gd ar x)(hm:∀C:List Gr,(∀g∈gs,g∈C)->(∀a∈C,∀g∈gs,a.2.1=g.1->bf a g∈C)->x∈C):Gk ar gs (ks++[x]) (ps++[x]):=by
 have two:∀{l:List Gr} {y:Gr},y∈l++[x]->y∈l∨y=x:=λhy=>by
  rcases bR.mp hy with z|z
  ·exact .inl z
  ·exact .inr (cH.mp z)
 refine⟨?_,λy hy=>?_,λy hy=>?_,λC h1 h2 y hy=>?_⟩
 ·rw[An];refine⟨h.nd,by simp,λa ha b hb=>?_⟩;rw[cH.mp hb];rintro rfl;exact hx ha
 ·rcases two hy with z|z
  ·exact h.gd y z
  ·rw[z];exact hg
 ·rcases two hy with z|z
  ·exact fb _ (h.sub y z)
  ·rw[z];exact dG _ (by simp)
 ·rcases two hy with z|z
  ·exact h.mn C h1 h2 y z
  ·rw[z];exact hm C h1 h2
inductive VZ (ds:List D)(S:af)(q:D->Prop):Prop where
 |mk (po:Addr) (gs:List Gr) (ar:Str->Option Nat) (most:Nat) (_:ds=[.ref po,.int (most:Int)]) (_:S po=some (.lst (gs.map aq))) (_:(∀g∈gs,Gd ar g)) (_:gs.length<=1000) (_:most<=1000) (_:∀ks:List Gr,ks.Nodup->(∀g∈gs,g∈ks)->(∀C:List Gr,(∀g∈gs,g∈C)->(∀a∈C,∀g∈gs,a.2.1=g.1->bf a g∈C)->∀x∈ks,x∈C)->(ks.length<=most->∀a∈ks,∀g∈gs,a.2.1=g.1->bf a g∈ks)->q (.int (ks.length:Int)))
def GY :aS:=gO VZ
theorem V0{k:Nat}(h:aB K mg "_law_graph_count" nS ["own","most"])(G:Gs K mg)(gS:av P w K mg base k "_law_compose" ["one","other"] qJ):av P w K mg base (k+1) "_law_graph_count" ["own","most"] GY:=by
 refine h.gO lX (by rintro ds S q ⟨_,_,_,_,e,_⟩;rw[e];rfl) λf cdv A outer s0 H E ds S q hr hA=>?_;obtain⟨po,gs,ar,most,rfl,hS,hgd,qK,VY,hq⟩:=hA;have hu:=pA hr;refine⟨_,(au (aL (i:=2) lX.nd rfl (Or.inl rfl) xf)
 (au (aL (i:=3) lX.nd rfl (Or.inl rfl) (dE ah))
 (au (c9 da rfl (gL (aa 0)) (b6 (i:=4) lX.nd rfl (Or.inl rfl)) (ax (bG (tQ hu (aa 4) (aa 2)) (au (tR hu (aa 2) (aa 4) iJ rfl)
 (ax (eo (fm eM gu gZ f6 gN (aa 3) (ae (aa 4) ah))))) bt)))
 (au (pS da (cL.pt (w_and (B0 (aa 3) (λ_=>rfl)) (mI (a5 A2 f_ (cE Fs Fy rfl G.len dH (ae (aa 2) ah)) (aa 1) (aZ _))))) (au (aL (i:=4) lX.nd rfl (Or.inl rfl) (B5 eM zP JX BH CM (aa 3)))
 (ax (c9 da rfl (gL (aa 0)) (b6 (i:=5) lX.nd rfl (Or.inl rfl)) (ax (bG (a5 cJ fP (ay aC aD (aa 5) ai (λ_ _=>rfl)) (ay aC aD (aa 4) ai (λ_ _=>rfl)) (aZ _)) (au (aL (i:=6) lX.nd rfl (Or.inl rfl) (aU gS hr rfl (ae (aa 4) (ae (aa 5) ah))))
 (ax (bG (tQ hu (aa 6) (aa 2)) (au (tR hu (aa 2) (aa 6) iJ rfl)
 (ax (eo (fm eM gu gZ f6 gN (aa 3) (ae (aa 6) ah))))) bt))) bt))))))
 (ax (aQ (cE Fs Fy rfl G.len dH (ae (aa 2) ah)))))))),?_⟩
 nofun;intro sn hsn;have hS1:=aM (o:=.tab []) hS hsn;have h1:up S sn (.tab []) sn=some (.tab (gT [])):=az;have z1:po≠sn:=ne3 hS hsn;have s1:Sub S (up S sn (.tab [])):=(Sub.refl S).up hsn;generalize up S sn (.tab [])=S1 at h1 s1 hS1 ⊢;nofun;intro td htd;have z2:S td=none:=s1.free htd;have z3:sn≠td:=ne3 h1 htd;have z4:po≠td:=ne3 hS1 htd;have s2:=s1.up (o:=.lst []) htd;have h2:=aM (o:=.lst []) h1 htd;have h3:up S1 td (.lst []) td=some (.lst (([]:List Gr).map aq)):=az;generalize up S1 td (.lst [])=S2 at s2 h2 h3 ⊢;have hS2:=s2 _ _ hS;nofun;refine⟨λj σ S'=>i5 λ(ks:List Gr) (x4:Option D)=>σ=[some (.ref po),some (.int (most:Int)),some (.ref sn),some (.ref td),x4,none,none]/\Sub S S'/\S' sn=some (.tab (gT ks))/\S' td=some (.lst (ks.map aq))/\Gk ar gs ks ks/\(∀g∈gs.take j,g∈ks)/\ks.length<=j,
  ⟨[],none,rfl,s2,h2,h3,⟨by simp,by simp,by simp,by simp⟩,by simp,by simp⟩,λj σ S' ⟨_,_,_,h,_⟩=>h _ _ hS,?_,?_⟩
 ·rintro j d σ S' hd ⟨ks,x4,rfl,m1,m2,m3,hk,hin,hkl⟩;rw[aJ]at hd;obtain⟨g,hg,rfl⟩:=bU.mp hd;have kC:=cj hg;have hjl:=(bH.mp hg).1;have htk:gs.take (j+1)=gs.take j++[g]:=by rw[gw,hg];rfl
  nofun;refine GV m2 ?_;by_cases c:g∈ks
  ·rw[decide_eq_true c];nofun;refine⟨ks,_,rfl,m1,m2,m3,hk,λx hx=>?_,by lia⟩;rw[htk]at hx;rcases bR.mp hx with hx|hx
   ·exact hin x hx
   ·rw[cH.mp hx];exact c
  ·rw[decide_eq_false c];nofun;refine GW m2 (by lia) c ?_;have u1:Sub S (up S' sn (.tab (gT (ks++[g])))):=m1.at hsn;have u2:up S' sn (.tab (gT (ks++[g]))) sn=_:=az;have u3:up S' sn (.tab (gT (ks++[g]))) td=_:=(bj z3.symm).trans m3;generalize up S' sn (.tab (gT (ks++[g])))=T2 at u1 u2 u3 ⊢;nofun;refine gc u3 (by rw[aA];exact fu (by lia)) ?_;refine⟨ks++[g],_,rfl,u1.at z2,by rw[bj z3];exact u2,by rw[az,cI];rfl,hk.put c (hgd g kC) λC h1 _=>h1 g kC,λx hx=>?_,by rw[ba,jd];lia⟩;rw[htk]at hx;rcases bR.mp hx with hx|hx
   ·exact fb _ (hin x hx)
   ·exact dG _ hx
 rintro σ S3 ⟨ks,x4,rfl,m1,m2,m3,hk,hin,hkl⟩;rw[aA]at hin hkl;rw[ir]at hin;nofun;refine pY (λm σ S'=>qA λ(ks ps:List Gr) (x4 x5 x6:Option D)=>σ=[some (.ref po),some (.int (most:Int)),some (.ref sn),some (.ref td),x4,x5,x6]/\Sub S S'/\S' sn=some (.tab (gT ks))/\S' td=some (.lst (ps.map aq))/\Gk ar gs ks ps/\(∀g∈gs,g∈ks) /\
  (∀x∈ks,x∉ps->∀g∈gs,x.2.1=g.1->bf x g∈ks)/\ks.length<=most+gs.length/\ps.length<=ks.length/\m=2*(most+gs.length-ks.length)+ps.length) _
  ⟨ks,ks,_,_,_,rfl,m1,m2,m3,hk,hin,λx hx hn=>absurd hx hn,by lia,aX _,rfl⟩ ?_
 clear m1 m2 m3 hk hin hkl;rintro m σ S' ⟨ks,ps,x4,x5,x6,rfl,m1,m2,m3,hk,hin,hcl,hkb,fD,hm'⟩;have stop:(ks.length<=most->ps=[])->q (.int (ks.length:Int)):=λhz=>hq ks hk.nd hin hk.mn λz a ha g hg hf=>hcl a ha (by rw[hz z];simp) g hg hf;have hkl:(gT ks).length=ks.length:=by unfold gT;rw[aA]
 nofun;rcases snoc_cases ps with rfl|⟨ps,p,rfl⟩
 ·nofun;refine xg m2 ?_;nofun;rw[hkl];exact⟨m1,stop λ_=>rfl⟩
 have eb:(!((ps++[p]).map aq).isEmpty)=true:=by simp
 rw[eb];nofun;refine xg m2 ?_;rw[hkl];by_cases c0:(ks.length:Int)<=(most:Int)
 rotate_left
 ·nofun;refine xg m2 ?_;nofun;rw[hkl];exact⟨m1,stop λz=>absurd z (by lia)⟩
 nofun;rw[cI]at m3;have hpm:p∈ks:=hk.sub p (by simp);have ab7:ps.length+1<=ks.length:=by simpa using fD
 refine CY m3 ?_;have n1:Sub S (up S' td (.lst (ps.map aq))):=m1.at z2;have n2:up S' td (.lst (ps.map aq)) sn=_:=(bj z3).trans m2;have n3:up S' td (.lst (ps.map aq)) td=_:=az;generalize up S' td (.lst (ps.map aq))=S4 at n1 n2 n3 ⊢;have n4:=n1 _ _ hS;have GZ:=hk.gd p hpm;nofun;refine⟨λj σ T=>qA λ(ks' ps':List Gr) (c:Nat) (x5 x6:Option D)=>σ=[some (.ref po),some (.int (most:Int)),some (.ref sn),some (.ref td),some (aq p),x5,x6]/\Sub S T/\T sn=some (.tab (gT ks'))/\T td=some (.lst (ps'.map aq)) /\
  Gk ar gs ks' ps'/\(∀g∈gs,g∈ks')/\p∈ks'/\(∀x∈ks',x∉ps'->x≠p->∀g∈gs,x.2.1=g.1->bf x g∈ks')/\(∀g∈gs.take j,p.2.1=g.1->bf p g∈ks')/\ks'.length=ks.length+c/\ps'.length=ps.length+c/\c<=j,
  ⟨ks,ps,0,_,_,rfl,n1,n2,n3,⟨hk.nd,hk.gd,λx hx=>hk.sub x (fb _ hx),hk.mn⟩,hin,hpm,λx hx hn hne=>hcl x hx λz=>?_,by simp,rfl,rfl,aX _⟩,λj σ T ⟨_,_,_,_,_,_,h,_⟩=>h _ _ hS,?_,?_⟩
 ·rcases bR.mp z with z|z
  ·exact hn z
  ·exact hne (cH.mp z)
 ·rintro j d σ T hd ⟨ks',ps',c,x5,x6,rfl,o1,o2,o3,hk',kE,hp',hcl',hdn,e1,e2,hcj⟩;rw[aJ]at hd;obtain⟨g,hg,rfl⟩:=bU.mp hd;have kC:=cj hg;have hjl:=(bH.mp hg).1;have htk:gs.take (j+1)=gs.take j++[g]:=by rw[gw,hg];rfl
  have more:∀{l:List Gr},(∀x∈gs.take j,p.2.1=x.1->bf p x∈l)->(p.2.1=g.1->bf p g∈l)->∀x∈gs.take (j+1),p.2.1=x.1->bf p x∈l:=λ{l} a b x hx=>by
   rw[htk]at hx;rcases bR.mp hx with hx|hx
   ·exact a x hx
   ·rw[cH.mp hx];exact b
  unfold aq;by_cases hf:g.1=p.2.1
  rotate_left
  ·nofun;exact⟨ks',ps',c,_,_,rfl,o1,o2,o3,hk',kE,hp',hcl',more hdn λz=>absurd z.symm hf,e1,e2,by lia⟩
  have ud:=hgd g kC;obtain⟨m,c',q1,q2,p1,p2,p3,p4,hM⟩:=GZ.ex;obtain⟨m',c2,qL,G0,G1,tY,G2,G3,hM'⟩:=ud.ex;rw[<-hf,qL]at q2;cases q2;nofun;refine⟨p.1,p.2.1,g.1,g.2.1,p.2.2,g.2.2,m,c',c2,rfl,hM,hM',by lia,by lia,by lia,by lia,?_⟩;nofun;show lC true _ _ (aq (bf p g)) _;refine GV o2 ?_;by_cases c3:bf p g∈ks'
  ·rw[decide_eq_true c3];nofun;exact⟨ks',ps',c,_,_,rfl,o1,o2,o3,hk',kE,hp',hcl',more hdn λ_=>c3,e1,e2,by lia⟩
  ·rw[decide_eq_false c3];nofun;show qt _ _ _ _ (aq (bf p g)) _;refine GW o2 (by lia) c3 ?_;have u1:Sub S (up T sn (.tab (gT (ks'++[bf p g])))):=o1.at hsn;have u2:up T sn (.tab (gT (ks'++[bf p g]))) sn=_:=az;have u3:up T sn (.tab (gT (ks'++[bf p g]))) td=_:=(bj z3.symm).trans o3;generalize up T sn (.tab (gT (ks'++[bf p g])))=T2 at u1 u2 u3 ⊢;nofun;refine gc u3 (by rw[aA];exact fu (by lia)) ?_;refine⟨ks'++[bf p g],ps'++[bf p g],c+1,_,_,rfl,u1.at z2,by rw[bj z3];exact u2,by rw[az,cI];rfl,hk'.put c3 (GZ.cmp ud hf.symm) λC h1 h2=>h2 p (hk'.mn C h1 h2 p hp') g kC hf.symm,λx hx=>fb _ (kE x hx),fb _ hp',λx hx hn hne y hy V1=>?_,more (λx hx hfx=>fb _ (hdn x hx hfx)) λ_=>dG _ (by simp),by simp;lia,by simp;lia,by lia⟩;rcases bR.mp hx with hx|hx
   ·exact fb _ (hcl' x hx (λz=>hn (fb _ z)) hne y hy V1)
   ·exact absurd (dG _ hx) hn
 ·rintro σ T ⟨ks',ps',c,x5,x6,rfl,o1,o2,o3,hk',kE,hp',hcl',hdn,e1,e2,hcj⟩;rw[aA]at hcj hdn;rw[ir]at hdn;rw[ba,jd]at hm';refine⟨_,?_,ks',ps',_,_,_,rfl,o1,o2,o3,hk',kE,λx hx hn g hg hf=>?_,by lia,by lia,rfl⟩
  ·lia
  ·by_cases hxp:x=p
   ·subst hxp;exact hdn g hg hf
   ·exact hcl' x hx hn hxp g hg hf
def oj:Option Gr->D
 |none=>.non
 |some g=>aq g
inductive V2 (ds:List D)(S:af)(q:D->Prop):Prop where
 |mk (po:Addr) (gs:List Gr) (ar:Str->Option Nat) (way:List Int) (_:ds=[.ref po,dP way]) (_:S po=some (.lst (gs.map aq))) (_:(∀g∈gs,Gd ar g)) (_:gs.length<=1000) (_:q (oj (eC gs way)))
def G4 :aS:=gO V2
theorem V3{k:Nat}(h:aB K mg "_law_way_graph" nU ["own","way"])(G:Gs K mg)(gS:av P w K mg base k "_law_compose" ["one","other"] qJ):av P w K mg base (k+1) "_law_way_graph" ["own","way"] G4:=by
 refine h.gO qz (by rintro ds S q ⟨_,_,_,_,e,_⟩;rw[e];rfl) λf cdv A outer s0 H E ds S q hr hA=>?_;obtain⟨po,gs,ar,way,rfl,hS,hgd,qK,hq⟩:=hA;refine⟨_,(au (bG (cL.pt (w_or (k8 (iK (cE pV pW rfl G.qC rf (ae (aa 1) (ae (pI (n:="tuple") rfl G.tuple gY) ah))))) (fM (a5 cJ fq (cE d8 eA rfl G.len dH (ae (aa 1) ah)) ai (aZ _))))) (ax (aQ fk)) bt)
 (au (aL (i:=2) qz.nd rfl (Or.inl rfl) fk)
 (au (c9 da rfl (ju (aa 1)) (b6 (i:=3) qz.nd rfl (Or.inl rfl)) (au (bG (cL.pt (w_or (k8 (iK (cE pV pW rfl G.qC rf (ae (aa 3) (ae (pI (n:="int") rfl G.int boot_int) ah))))) (w_or (iK (cE pV pW rfl G.qC rf (ae (aa 3) (ae (pI (n:="bool") rfl G.bool boot_bool) ah)))) (fM (k8 (QC A2 f_ o7 f_ ai (aa 3) (cE d8 eA rfl G.len dH (ae (aa 0) ah)))))))) (ax (aQ fk)) bt)
 (ax (bG (a5 o8 pU (aa 2) fk (aZ _)) (ax (aL (i:=2) qz.nd rfl (Or.inl rfl) (ay fg ft (aa 0) (aa 3) (λ_ _=>rfl)))) (ax (bG (a5 j7 mL (ay aC aD (aa 2) ai (λ_ _=>rfl)) (ay aC aD (ay fg ft (aa 0) (aa 3) (λ_ _=>rfl)) ai (λ_ _=>rfl)) (aZ _)) (ax (aQ fk)) (ax (aL (i:=2) qz.nd rfl (Or.inl rfl) (aU gS hr rfl (ae (aa 2) (ae (ay fg ft (aa 0) (aa 3) (λ_ _=>rfl)) ah)))))))))))
 (ax (aQ (aa 2)))))),?_⟩
 unfold dP;by_cases c0:way=[]
 ·subst c0;nofun;exact⟨Sub.refl _,hq⟩
 have hm:0<way.length:=JZ.mpr c0;have c1:¬((way.map D.int).length:Int)=0:=by rw[aA];lia
 have hlg:((gs.map aq).length:Int)=(gs.length:Int):=by rw[aA]
 nofun;refine⟨λj σ S'=>i5 λ(o:Option Gr) (x3:Option D)=>σ=[some (.ref po),some (.tup (way.map D.int)),some (oj o),x3]/\S'=S/\uc gs (way.take j)/\(o=none->j=0)/\∀g,o=some g->Gd ar g/\GK gs way=ij gs g (way.drop j),
  ⟨none,_,rfl,rfl,by simp[uc],λ_=>rfl,λg z=>(nomatch z)⟩,λ_ _ _ _=>trivial,?_,?_⟩
 ·rintro j d σ S' hd ⟨o,x3,rfl,rfl,hin,h0,hsm⟩;rw[aJ]at hd;obtain⟨n,hn,rfl⟩:=bU.mp hd;have hmem:=cj hn;obtain⟨hj,ej⟩:=bH.mp hn;have htk:way.take (j+1)=way.take j++[n]:=by rw[gw,hn];rfl
  have out:(¬0<=n∨¬n<(gs.length:Int))->eC gs way=none:=λz=>by
   unfold eC;rw[if_neg λy=>by have:=y n hmem;lia]
  by_cases a1:0<=n
  rotate_left
  ·nofun;rw[out (.inl a1)]at hq;exact⟨Sub.refl _,hq⟩
  by_cases a2:n<((gs.map aq).length:Int)
  rotate_left
  ·nofun;rw[out (.inr (by lia))]at hq;exact⟨Sub.refl _,hq⟩
  have kE:uc gs (way.take (j+1)):=λx hx=>by
   rw[htk]at hx;rcases bR.mp hx with hx|hx
   ·exact hin x hx
   ·rw[cH.mp hx];lia
  have hl:n.toNat<gs.length:=by lia
  have hat:(gs.map aq)[n.toNat]?=some (aq (dC gs n)):=by
   unfold dC;rw[aJ,aV hl,bJ (l:=gs),aV hl];rfl
  have ya:Gd ar (dC gs n):=hgd _ (VJ a1 (by lia));cases o with
  |none =>
   have V4:=h0 rfl;subst V4;simp only[oj];nofun;refine gf hS (m5 a1 hat) ?_;refine⟨some (dC gs n),_,rfl,rfl,kE,λz=>(nomatch z),λg z=>?_⟩;cases z;refine⟨ya,?_⟩;cases way with
   |nil=>exact absurd rfl c0
   |cons y l=>rw[<-ej];rfl
  |some g =>
   obtain⟨hG,eg⟩:=hsm g rfl;rw[uX hj,ej,ij]at eg;simp only[oj];unfold aq;nofun;refine gf hS (m5 a1 hat) ?_;unfold aq;nofun;by_cases hf:g.2.1=(dC gs n).1
   ·rw[if_pos hf]at eg;obtain⟨m,c,q1,q2,p1,p2,p3,p4,hM⟩:=hG.ex;obtain⟨m',c',qL,G0,G1,tY,G2,G3,hM'⟩:=ya.ex;rw[hf,qL]at q2;cases q2;nofun;refine gf hS (m5 a1 hat) ?_;refine⟨g.1,g.2.1,(dC gs n).1,(dC gs n).2.1,g.2.2,(dC gs n).2.2,m,c,c',rfl,hM,hM',by lia,by lia,by lia,by lia,?_⟩;refine⟨some (bf g (dC gs n)),_,rfl,rfl,kE,λz=>(nomatch z),λg' z=>?_⟩;cases z;exact⟨hG.cmp ya hf,eg⟩
   ·rw[if_neg hf]at eg;nofun;have:eC gs way=none:=by
     unfold eC
     split
     ·exact eg
     ·rfl
    rw[this]at hq;exact⟨Sub.refl _,hq⟩
 ·rintro σ S' ⟨o,x3,rfl,rfl,hin,h0,hsm⟩;rw[aA,ir]at hin;cases o with
  |none=>have:=h0 rfl;rw[aA]at this;lia
  |some g =>
   obtain⟨hG,eg⟩:=hsm g rfl;rw[aA,uY,ij]at eg;have:eC gs way=some g:=by unfold eC;rw[if_pos hin];exact eg
   rw[this]at hq;nofun;exact⟨Sub.refl _,hq⟩
abbrev Kt:=Int×Int
def l7(a b:Kt):Prop:=a.1<b.1∨a.1=b.1/\a.2<b.2
def i8(a b:Kt):Prop:=a.1<b.1∨a.1=b.1/\a.2<=b.2
theorem l7.le{a b:Kt}(h:l7 a b):i8 a b:=by unfold l7 at h;unfold i8;lia
theorem i8.refl(a:Kt):i8 a a:=.inr ⟨rfl,uQ _⟩
def l8(F:CL.Fd Gr)(i:Nat)(w:List Int)(k:Kt):Prop:=(k.1=-1/\w=[k.2])∨∃(e:Nat) (a:Gr×List Int),k.1=(e:Int)/\e<i/\F[e]?=some a/\w=a.2++[k.2]
structure Kd(F:CL.Fd Gr)(ks:List Kt):Prop where
 len:ks.length=F.length
 way:∀(i:Nat) (p:Gr×List Int) (k:Kt),F[i]?=some p->ks[i]?=some k->l8 F i p.2 k
 yb:ks.Pairwise l7
structure eD(F:CL.Fd Gr)(ks:List Kt)(F':CL.Fd Gr)(ks':List Kt):Prop where
 f:∀(i:Nat) (p:Gr×List Int),F[i]?=some p->F'[i]?=some p
 k:∀(i:Nat) (p:Kt),ks[i]?=some p->ks'[i]?=some p
theorem eD.refl(F:CL.Fd Gr)(ks:List Kt):eD F ks F ks:=⟨λ_ _ h=>h,λ_ _ h=>h⟩
theorem eD.trans{F F' F2:CL.Fd Gr}{ks ks' gU:List Kt}(a:eD F ks F' ks')(b:eD F' ks' F2 gU):eD F ks F2 gU:=⟨λi p h=>b.f i p (a.f i p h),λi p h=>b.k i p (a.k i p h)⟩
def gp(F:CL.Fd Gr)(ks:List Kt)(g:Gr)(t:Kt):Prop:=∃(i:Nat) (p:Gr×List Int) (k:Kt),F[i]?=some p/\ks[i]?=some k/\p.1=g/\i8 k t
theorem gp.go{F F':CL.Fd Gr}{ks ks':List Kt}{g:Gr}{t:Kt}(h:gp F ks g t)(o:eD F ks F' ks'):gp F' ks' g t:=by
 obtain⟨i,p,k,h1,h2,h3,h4⟩:=h;exact⟨i,p,k,o.f i p h1,o.k i k h2,h3,h4⟩
theorem G5{F F':CL.Fd Gr}{ks:List Kt}{g:Gr}{w:List Int}{t:Kt}(h:Kd F ks)(hb:∀k∈ks,l7 k t)(hk:l8 F F.length w t)(e:CL.putN F g w=some F') :
 ∃ks',Kd F' ks'/\eD F ks F' ks'/\gp F' ks' g t/\∀k∈ks',k∈ks∨k=t:=by
 unfold CL.putN at e
 split at e
 ·rename_i hg
  cases e;refine⟨ks,h,eD.refl _ _,?_,λk hk=>.inl hk⟩;obtain⟨p,hp,rfl⟩:=bp.mp hg;obtain⟨i,hi,rfl⟩:=iw hp;have G6:i<ks.length:=by rw[h.len];exact hi
  exact⟨i,_,ks[i],aV hi,aV G6,rfl,(hb _ (mq G6)).le⟩
 ·split at e
  ·cases e
  ·cases e;have go:eD F ks (F++[(g,w)]) (ks++[t]):=⟨λi p hp=>by rw[kJ (bH.mp hp).1];exact hp,λi p hp=>by rw[kJ (bH.mp hp).1];exact hp⟩;have mono:∀{i w k},l8 F i w k->l8 (F++[(g,w)]) i w k:=λ{i w k} q=>by
    rcases q with q|⟨e,a,q1,q2,q3,q4⟩
    ·exact .inl q
    ·refine .inr ⟨e,a,q1,q2,?_,q4⟩;rw[kJ (bH.mp q3).1];exact q3
   have G7:∀{i w' k},l8 F i w' k->l8 (F++[(g,w)]) i w' k:=λ{i w' k} q=>by
    rcases q with q|⟨e,a,q1,q2,q3,q4⟩
    ·exact .inl q
    ·exact .inr ⟨e,a,q1,q2,go.f e a q3,q4⟩
   refine⟨ks++[t],⟨by simp[h.len],λi p k hp hk'=>?_,?_⟩,go,?_,λk hk'=>?_⟩
   ·by_cases hi:i<F.length
    ·rw[kJ hi]at hp;rw[kJ (by rw[h.len];exact hi)]at hk';exact G7 (h.way i p k hp hk')
    ·have hl:=(bH.mp hp).1;rw[ba,jd]at hl;obtain rfl:i=F.length:=by lia
     rw[qQ (aX _),Aw]at hp;rw[qQ (by rw[h.len];exact aX _),h.len,Aw]at hk';cases hp;cases hk';exact G7 hk
   ·rw[List.pairwise_append];refine⟨h.yb,List.pairwise_singleton _ _,λa ha b hb'=>?_⟩;rw[cH.mp hb'];exact hb a ha
   ·refine⟨F.length,(g,w),t,by simp,?_,rfl,i8.refl _⟩;rw[<-h.len];simp
   ·rcases bR.mp hk' with q|q
    ·exact .inl q
    ·exact .inr (cH.mp q)
theorem G8:∀{l:List (Int×Gr)} {F F':CL.Fd Gr} {ks:List Kt},Kd F ks->(∀k∈ks,k.1=-1/\∀p∈l,k.2<p.1)->l.Pairwise (λp q=>p.1<q.1)->CL.fw l F=some F' ->
 ∃ks',Kd F' ks'/\eD F ks F' ks'/\(∀k∈ks',k.1=-1)/\∀p∈l,gp F' ks' p.2 (-1,p.1)
 |[],F,F',ks,h,hb,_,e=>by
  cases e;exact⟨ks,h,eD.refl _ _,λk hk=>(hb k hk).1,λp hp=>by simp at hp⟩
 |(n,g)::l,F,F',ks,h,hb,hl,e=>by
  unfold CL.fw at e;obtain⟨F1,e1,e2⟩:=eK.mp e;obtain⟨yc,k1,o1,a1,m1⟩:=G5 (t:=(-1,n)) h (λk hk=>.inr ⟨(hb k hk).1,(hb k hk).2 _ bY⟩) (.inl ⟨rfl,rfl⟩) e1;have hl':=J0.mp hl;obtain⟨gU,k2,o2,b2,a2⟩:=G8 k1 (λk hk=>by
   rcases m1 k hk with q|rfl
   ·exact⟨(hb k q).1,λp hp=>(hb k q).2 p (cg _ hp)⟩
   ·exact⟨rfl,λp hp=>hl'.1 p hp⟩) hl'.2 e2
  refine⟨gU,k2,o1.trans o2,b2,λp hp=>?_⟩;rcases a9.mp hp with rfl|hp
  ·exact a1.go o2
  ·exact a2 p hp
theorem yd{a:Gr×List Int}{pl:Nat}:∀{l:List (Int×Gr)} {F F':CL.Fd Gr} {ks:List Kt},Kd F ks->F[pl]?=some a->(∀k∈ks,k.1<(pl:Int)∨k.1=(pl:Int)/\∀p∈l,k.2<p.1)->l.Pairwise (λp q=>p.1<q.1)->CL.put2 cb bf a l F=some F' ->
 ∃ks',Kd F' ks'/\eD F ks F' ks'/\(∀k∈ks',k.1<=(pl:Int))/\∀p∈l,cb a.1 p.2=true->gp F' ks' (bf a.1 p.2) ((pl:Int),p.1)
 |[],F,F',ks,h,_,hb,_,e=>by
  cases e;exact⟨ks,h,eD.refl _ _,λk hk=>by rcases hb k hk with q|q<;>lia,λp hp=>by simp at hp⟩
 |(n,g)::l,F,F',ks,h,ha,hb,hl,e=>by
  unfold CL.put2 at e;obtain⟨F1,e1,e2⟩:=eK.mp e;have hl':=J0.mp hl;by_cases hf:cb a.1 g=true
  ·rw[if_pos hf]at e1;have hpl:=(bH.mp ha).1;obtain⟨yc,k1,o1,a1,m1⟩:=G5 (t:=((pl:Int),n)) h (λk hk=>by
    rcases hb k hk with q|q
    ·exact .inl q
    ·exact .inr ⟨q.1,q.2 _ bY⟩) (.inr ⟨pl,a,rfl,hpl,ha,rfl⟩) e1
   obtain⟨gU,k2,o2,b2,a2⟩:=yd k1 (o1.f _ _ ha) (λk hk=>by
    rcases m1 k hk with q|rfl
    ·rcases hb k q with z|z
     ·exact .inl z
     ·exact .inr ⟨z.1,λp hp=>z.2 p (cg _ hp)⟩
    ·exact .inr ⟨rfl,λp hp=>hl'.1 p hp⟩) hl'.2 e2
   refine⟨gU,k2,o1.trans o2,b2,λp hp=>?_⟩;rcases a9.mp hp with rfl|hp
   ·exact λ_=>a1.go o2
   ·exact a2 p hp
  ·rw[if_neg hf]at e1;cases e1;obtain⟨gU,k2,o2,b2,a2⟩:=yd h ha (λk hk=>by
    rcases hb k hk with z|z
    ·exact .inl z
    ·exact .inr ⟨z.1,λp hp=>z.2 p (cg _ hp)⟩) hl'.2 e2
   refine⟨gU,k2,o2,b2,λp hp=>?_⟩;rcases a9.mp hp with rfl|hp
   ·exact λz=>absurd z hf
   ·exact a2 p hp
theorem G9{nb:List (Int×Gr)}(hn:nb.Pairwise (λp q=>p.1<q.1)):∀{n pl:Nat} {F F':CL.Fd Gr} {ks:List Kt},CL.Ok F->41<=pl+n->Kd F ks->(∀k∈ks,k.1<(pl:Int))->(∀(e:Nat) (a:Gr×List Int),e<pl->F[e]?=some a->∀p∈nb,cb a.1 p.2=true->gp F ks (bf a.1 p.2) ((e:Int),p.1))->CL.d6 cb bf nb n pl F=some F' ->
 ∃ks',Kd F' ks'/\eD F ks F' ks'/\∀(e:Nat) (a:Gr×List Int),F'[e]?=some a->∀p∈nb,cb a.1 p.2=true->gp F' ks' (bf a.1 p.2) ((e:Int),p.1)
 |0,pl,F,F',ks,ok,hl,h,hb,hd,e=>by
  cases e;refine⟨ks,h,eD.refl _ _,λe a ha=>hd e a ?_ ha⟩;have:=(bH.mp ha).1;have:=ok.len;lia
 |n+1,pl,F,F',ks,ok,hl,h,hb,hd,e=>by
  unfold CL.d6 at e;cases ha:F[pl]? with
  |none =>
   rw[ha]at e;cases e;refine⟨ks,h,eD.refl _ _,λe a ha'=>hd e a ?_ ha'⟩;have h1:=(bH.mp ha').1;have h2:=JJ.mp ha;lia
  |some a =>
   rw[ha]at e;obtain⟨F1,e1,e2⟩:=eK.mp e;obtain⟨yc,k1,o1,b1,a1⟩:=yd h ha (λk hk=>.inl (hb k hk)) hn e1;have ok1:=(CL.w9 ok e1).1.ok;obtain⟨gU,k2,o2,a2⟩:=G9 hn (n:=n) (pl:=pl+1) ok1 (by lia) k1 (λk hk=>by have:=b1 k hk;lia) (λe x he hx p hp hf=>by
    by_cases z:e=pl
    ·rw[z,o1.f pl a ha]at hx;cases hx;rw[z];exact a1 p hp hf
    ·have hlt:e<F.length:=by
      have:=(bH.mp ha).1;lia
     have hx':F[e]?=some x:=by
      have h0:=o1.f e _ (aV hlt);rw[h0]at hx;rw[aV hlt];exact hx
     exact(hd e x (by lia) hx' p hp hf).go o1) e2
   exact⟨gU,k2,o1.trans o2,a2⟩
structure Full(gs:List Gr)(F:CL.Fd Gr)(ks:List Kt):Prop extends Kd F ks where
 own:∀p∈cO gs,gp F ks p.2 (-1,p.1)
 all:∀(e:Nat) (a:Gr×List Int),F[e]?=some a->∀p∈cO gs,cb a.1 p.2=true->gp F ks (bf a.1 p.2) ((e:Int),p.1)
theorem G_(gs:List Gr):(cO gs).Pairwise λp q=>p.1<q.1:=by
 unfold cO;rw[qV,J1];intro i j hi hj hij;rw[J2,J2];simp only;lia
theorem V5{gs:List Gr}{F:CL.Fd Gr}(e:eX (cO gs)=some F):∃ks,Full gs F ks:=by
 unfold eX CL.fQ at e;obtain⟨F1,e1,e2⟩:=eK.mp e;obtain⟨yc,k1,o1,b1,a1⟩:=G8 (ks:=[]) (F:=[]) ⟨rfl,λi p k h=>(by simp at h),.nil⟩ (λk hk=>by simp at hk) (G_ gs) e1;obtain⟨gU,k2,o2,a2⟩:=G9 (G_ gs) (CL.w8 CL.Ok.nil e1).1.ok (by decide) k1 (λk hk=>by rw[b1 k hk];decide) (λe a he=>absurd he (Nat.not_lt_zero _)) e2;exact⟨gU,⟨k2,λp hp=>(a1 p hp).go o2,a2⟩⟩
section
variable{α:Type}[DecidableEq α]
def aT(f:α->DK)(l:List (α×D)):List (DK×D):=l.map λp=>(f p.1,p.2)
theorem G'{f:α->DK}(hf:∀x y,f x=f y->x=y){l:List (α×D)}{x:α}(h:x∉l.map aP):∀kv∈aT f l,kv.1≠f x:=λkv hk e=>by
 obtain⟨p,hp,rfl⟩:=bp.mp hk;exact h (bp.mpr ⟨p,hp,hf _ _ e⟩)
theorem V6{f:α->DK}(hf:∀x y,f x=f y->x=y){l:List (α×D)}{x:α}(h:x∉l.map aP):cR (aT f l) (f x)=none:=by
 unfold cR;rw[JY.mpr λkv hk=>by
  have:=G' hf h kv hk;simpa using this]
 rfl
theorem ye{f:α->DK}(hf:∀x y,f x=f y->x=y){x:α}{d:D}:∀{l:List (α×D)},(l.map aP).Nodup->(x,d)∈l->cR (aT f l) (f x)=some d
 |[],_,h=>by simp at h
 |(y,e)::l,nd,h=>by
  unfold cR aT;rw[bo,je];rw[bo,ik]at nd;by_cases z:y=x
  ·subst z;rcases a9.mp h with q|q
   ·cases q;simp
   ·exact absurd (ix (f:=aP) q) nd.1
  ·have z':¬f y=f x:=λq=>z (hf _ _ q);rw[decide_eq_false z'];rcases a9.mp h with q|q
   ·cases q;exact absurd rfl z
   ·exact ye hf nd.2 q
theorem Ha{f:α->DK}(hf:∀x y,f x=f y->x=y){l:List (α×D)}{x:α}{d:D}(h:x∉l.map aP):jE (aT f l) (f x) d=aT f (l++[(x,d)]):=by
 unfold jE;rw[if_neg,aT,aT,cI]
 ·rfl
 ·intro z;obtain⟨kv,hk,e⟩:=mr.mp z;exact G' hf h kv hk (of_decide_eq_true e)
end
theorem Hb(x y:List Int)(h:cM x=cM y):x=y:=by
 simp only[cM,DK.tup.injEq]at h;exact x9 h
theorem Hc(w:List Int):cY (dP w)=some (cM w):=by simp[dP,cM,cY,xZ]
theorem Hd(w:List Int):(cM w).deep<=4:=by
 have h0:DK.cN (w.map DK.int)<=1:=kg λy hy=>by
  obtain⟨z,_,rfl⟩:=bp.mp hy;simp[DK.deep]
 simp only[cM,DK.deep];lia
def om(k:Kt):D:=.tup [.int k.1,.int k.2]
inductive V7 (ds:List D)(S:af)(q:D->Prop):Prop where
 |mk (pf pw:Addr) (fs:List D) (tb:List (List Int×D)) (w:List Int) (_:ds=[.ref pf,.ref pw,dP w]) (_:S pf=some (.lst fs)) (_:S pw=some (.tab (aT cM tb))) (_:w.length<=1000) (_:fs.length<=1000) (_:∃kt:Kt,((kt.1=-1/\w=[kt.2])∨∃w0:List Int,w=w0++[kt.2]/\w0≠[]/\cR (aT cM tb) (cM w0)=some (.int kt.1))/\q (om kt))
def He :aS:=gO V7
theorem V8{k:Nat}(h:aB K mg "_law_key" nV ["found","ways","way"])(G:Gs K mg):av P w K mg base (k+1) "_law_key" ["found","ways","way"] He:=by
 refine h.gO TU (by rintro ds S q ⟨_,_,_,_,_,e,_⟩;rw[e];rfl) λf cdv A outer s0 H E ds S q hr hA=>?_;obtain⟨pf,pw,fs,tb,w,rfl,hf,hw,hwl,hfl,⟨e,n⟩,hk,hq⟩:=hA;simp only at hk;have hu:=pA hr;refine⟨_,(au (bG (a5 cJ fq (cE d8 eA rfl G.len dH (ae (aa 2) ah)) ai (aZ _)) (ax (aQ (bP (ae (mH ai) (ae (ay aC aD (aa 2) ai (λ_ _=>rfl)) ah))))) bt)
 (ax (aQ (bP (ae (To hu (aa 1) (eU sC sD (aa 2) eS (eT (mH ai))) (cE d8 eA rfl G.len dH (ae (aa 0) ah))) (ae (ay aC aD (aa 2) (mH ai) (λ_ _=>rfl)) ah)))))),?_⟩
 rcases hk with⟨rfl,rfl⟩|⟨w0,rfl,h0,hv⟩
 ·unfold dP;nofun;exact⟨Sub.refl _,hq⟩
 ·have h1:0<w0.length:=JZ.mpr h0;have hne:¬(((w0++[n]).map D.int).length:Int)=1:=by
   rw[aA,ba,jd];lia
  have em:(w0++[n]).map D.int=w0.map D.int++[.int n]:=by rw[cI];rfl
  unfold dP;nofun;refine⟨_,_,rfl,hw,?_⟩;nofun;rw[Eh,em,Jj];nofun;refine Ts hw (Hc w0) (Hd w0) ?_;rw[hv];nofun;refine mV (Mu _ _) ?_;nofun;exact⟨Sub.refl _,hq⟩
def kT(F:CL.Fd Gr)(ks:List Kt):List (Gr×D):=(F.map aP).zip (ks.map om)
def wT(F:CL.Fd Gr)(n:Nat):List (List Int×D):=((F.take n).map mw).zipIdx.map λp=>(p.1,.int (p.2:Int))
theorem V9{F:CL.Fd Gr}{n:Nat}{p:Gr×List Int}(h:F[n]?=some p):wT F (n+1)=wT F n++[(p.2,.int (n:Int))]:=by
 have hl:=(bH.mp h).1;unfold wT;rw[gw,h];simp only[J3,cI,bo,fU,List.zipIdx_append,aA,dh];rw[show min n F.length=n by lia];simp
theorem Hf(F:CL.Fd Gr)(n:Nat):(wT F n).map aP=(F.take n).map mw:=by
 unfold wT;rw[eL];apply gx;intro i;rw[aJ,Aq];cases ((F.take n).map mw)[i]?<;>rfl
theorem V_{F:CL.Fd Gr}{n e:Nat}{a:Gr×List Int}(h:F[e]?=some a)(he:e<n):(a.2,D.int (e:Int))∈wT F n:=by
 unfold wT;refine bp.mpr ⟨(a.2,e),?_,rfl⟩;rw[Av];rw[aJ,ur he,h];rfl
theorem V'{F:CL.Fd Gr}{j:Nat}{w:List Int}{k:Kt}{tb:List (List Int×D)}(hk:l8 F j w k)(hv:∀(e:Nat) (a:Gr×List Int),e<j->F[e]?=some a->a.2≠[]/\cR (aT cM tb) (cM a.2)=some (.int (e:Int))) :
 (k.1=-1/\w=[k.2])∨∃w0:List Int,w=w0++[k.2]/\w0≠[]/\cR (aT cM tb) (cM w0)=some (.int k.1):=by
 rcases hk with h|⟨e,a,h1,h2,h3,h4⟩
 ·exact .inl h
 ·exact .inr ⟨a.2,h4,(hv e a h2 h3).1,by rw[h1];exact(hv e a h2 h3).2⟩
theorem Hg{F:CL.Fd Gr}{ks:List Kt}(h:ks.length=F.length):(kT F ks).map aP=F.map aP:=by
 unfold kT;rw[List.map_fst_zip];simp[h]
theorem Wa{F:CL.Fd Gr}{ks:List Kt}{j:Nat}{p:Gr×List Int}{k:Kt}(hp:F[j]?=some p)(hk:ks[j]?=some k):kT (F.take (j+1)) (ks.take (j+1))=kT (F.take j) (ks.take j)++[(p.1,om k)]:=by
 have h1:=(bH.mp hp).1;have h2:=(bH.mp hk).1;unfold kT;rw[gw,gw,hp,hk];simp only[J3,cI,bo,fU];rw[List.zip_append (by simp;lia)];rfl
inductive Wb (ds:List D)(S:af)(q:D->af->Prop)(_:Addr->Prop):Prop where
 |mk (po pf:Addr) (gs:List Gr) (ar:Str->Option Nat) (F:CL.Fd Gr) (ks:List Kt) (_:ds=[.ref po,.ref pf]) (_:S po=some (.lst (gs.map aq))) (_:S pf=some (.lst (F.map bO))) (_:(∀g∈gs,Gd ar g)) (_:gs.length<=1000) (_:F.length<=40) (_:(F.map aP).Nodup) (_:(∀p∈F,eC gs p.2=some p.1/\p.2.length<=1000)) (_:Full gs F ks) (_:∀a,S a=none->q (.ref a) (up S a (.tab (aT dg (kT F ks)))))
def Hh :aS:=ku Wb
theorem Wc{k:Nat}(h:aB K mg "_law_in_order" nW ["own","found"])(G:Gs K mg)(ue:av P w K mg base k "_law_way_graph" ["own","way"] G4)(yf:av P w K mg base k "_law_key" ["found","ways","way"] He) :
 av P w K mg base (k+1) "_law_in_order" ["own","found"] Hh:=by
 refine h.ku kA (by rintro ds S q qx ⟨_,_,_,_,_,_,e,_⟩;rw[e];rfl) λf cdv A outer s0 H E ds S q qx hr hA=>?_;obtain⟨po,pf,gs,ar,F,ks,rfl,hS,hF,hgd,qK,uf,hnd,hw,hfu,hq⟩:=hA;have hu:=pA hr;refine⟨_,(au (aL (i:=2) kA.nd rfl (Or.inl rfl) xf)
 (au (aL (i:=3) kA.nd rfl (Or.inl rfl) xf)
 (au (aL (i:=4) kA.nd rfl (Or.inl rfl) (bP (ae (mH ai) (ae ai ah))))
 (au (c9 p7 rfl (tP rfl G.enumerate (ae (aa 1) ah)) (lb rfl (fO (b6 (i:=5) kA.nd rfl (Or.inl rfl)) (fO (b6 (i:=6) kA.nd rfl (Or.inl rfl)) la))) (au (bG (cL.pt (w_or (k8 (iK (cE pV pW rfl G.qC rf (ae (aa 6) (ae (pI (n:="tuple") rfl G.tuple gY) ah))))) (fM (a5 j7 NT (cE d8 eA rfl G.len dH (ae (aa 6) ah)) ai (aZ _))))) (ax (aQ fk)) bt)
 (au (bG (cL.pt (w_or (a5 o8 pU (aU ue hr rfl (ae (aa 0) (ae (ay aC aD (aa 6) ai (λ_ _=>rfl)) ah))) fk (aZ _)) (fM (a5 (D4 (mY hr)) D5 (aU ue hr rfl (ae (aa 0) (ae (ay aC aD (aa 6) ai (λ_ _=>rfl)) ah))) (ay aC aD (aa 6) ai (λ_ _=>rfl)) (aZ _))))) (ax (aQ fk)) bt)
 (au (aL (i:=7) kA.nd rfl (Or.inl rfl) (aU yf hr rfl (ae (aa 1) (ae (aa 2) (ae (ay aC aD (aa 6) ai (λ_ _=>rfl)) ah)))))
 (au (bG (cL.pt (w_or (S7 hu (ay aC aD (aa 6) ai (λ_ _=>rfl)) (aa 3)) (w_or (a5 (Tn hu) xm (aa 7) (aa 4) (aZ _)) (fM (a5 A3 f_ (ay aC aD (aa 7) ai (λ_ _=>rfl)) (aa 5) (aZ _)))))) (ax (aQ fk)) bt)
 (au (tR hu (aa 2) (ay aC aD (aa 6) ai (λ_ _=>rfl)) (aa 5) rfl)
 (au (tR hu (aa 3) (ay aC aD (aa 6) ai (λ_ _=>rfl)) (aa 7) rfl)
 (ax (aL (i:=4) kA.nd rfl (Or.inl rfl) (aa 7))))))))))
 (ax (aQ (aa 3))))))),?_⟩
 nofun;intro pw ug;have a1:=aM (o:=.tab []) hS ug;have a2:=aM (o:=.tab []) hF ug;have a3:up S pw (.tab []) pw=some (.tab []):=az;have s1:Sub S (up S pw (.tab [])):=(Sub.refl S).up ug;generalize up S pw (.tab [])=S1 at a1 a2 a3 s1 ⊢;nofun;intro pk fD;have b1:=aM (o:=.tab []) a1 fD;have b2:=aM (o:=.tab []) a2 fD;have b3:=aM (o:=.tab []) a3 fD;have b4:up S1 pk (.tab []) pk=some (.tab []):=az;have s2:=s1.up (o:=.tab []) fD;have nkw:pw≠pk:=ne3 a3 fD;have zk:S pk=none:=s1.free fD;generalize up S1 pk (.tab [])=S2 at b1 b2 b3 b4 s2 ⊢;nofun;have hkl:=hfu.len;have Hi:(F.map mw).Nodup:=by
  rw[oF,qV];have h0:=hnd;rw[oF,qV]at h0;refine h0.imp_of_mem λ{a b} ha hb hne e=>hne ?_;have h1:=(hw a ha).1;rw[e,(hw b hb).1]at h1;exact(cS h1).symm
 refine⟨λj σ S'=>jJ λ(last:Kt) (x5 x6 x7:Option D)=>σ=[some (.ref po),some (.ref pf),some (.ref pw),some (.ref pk),some (om last),x5,x6,x7]/\S' po=some (.lst (gs.map aq))/\S' pf=some (.lst (F.map bO))/\S' pw=some (.tab (aT cM (wT F j)))/\S' pk=some (.tab (aT dg (kT (F.take j) (ks.take j))))/\Sub S S'/\∀k,ks[j]?=some k->l7 last k,
  ⟨(-2,0),_,_,_,rfl,b1,b2,b3,b4,s2,λk hk=>?_⟩,λj σ S' ⟨_,_,_,_,_,_,z,_⟩=>z,?_,?_⟩
 ·have Wd:0<F.length:=by rw[<-hkl];exact(bH.mp hk).1
  have:=hfu.way 0 _ k (aV Wd) hk;rcases this with⟨h1,_⟩|⟨e,_,h1,_⟩
  ·exact .inl (by rw[h1];decide)
  ·exact .inl (by show(-2:Int)<k.1;lia)
 ·rintro j d σ S' hd ⟨last,x5,x6,x7,rfl,m1,m2,m3,m4,s3,hla⟩;rw[nk,aJ]at hd;obtain⟨d2,hd2,rfl⟩:=bU.mp hd;obtain⟨p,hp,rfl⟩:=bU.mp hd2;have hj:=(bH.mp hp).1;obtain⟨k,hk⟩:∃k,ks[j]?=some k:=⟨_,aV (by lia)⟩;have hpm:=cj hp;have hkey:=hfu.way j p k hp hk;have hlk:=hla k hk;have hkj:k.1<(j:Int):=by
   rcases hkey with⟨h1,_⟩|⟨e,_,h1,h2,_⟩<;>lia
  have hnn:¬aq p.1=D.non:=by simp[aq,cz]
  have hni:p.1∉(kT (F.take j) (ks.take j)).map aP:=by
   rw[Hg (by simp[hkl])];intro z;obtain⟨i,hi,e⟩:=iw z;rw[aA,dh]at hi;have h1:(F.map aP)[i]?=some p.1:=by
    have:=aV (l:=(F.take j).map aP) (i:=i) (by simpa using hi);rw[e,aJ,ur (by lia),<-aJ]at this;exact this
   have h2:(F.map aP)[j]?=some p.1:=by rw[aJ,hp];rfl
   have:=(J4 (by rw[aA];lia) hnd).mp (h1.trans h2.symm);lia
  have We:p.2∉(wT F j).map aP:=by
   rw[Hf];intro z;obtain⟨i,hi,e⟩:=iw z;rw[aA,dh]at hi;have h1:(F.map mw)[i]?=some p.2:=by
    have:=aV (l:=(F.take j).map mw) (i:=i) (by simpa using hi);rw[e,aJ,ur (by lia),<-aJ]at this;exact this
   have h2:(F.map mw)[j]?=some p.2:=by rw[aJ,hp];rfl
   have:=(J4 (by rw[aA];lia) Hi).mp (h1.trans h2.symm);lia
  have Wf:((wT F j).map aP).Nodup:=by rw[Hf];exact((zt _ _).map _).nodup Hi
  rw[show bO p=.tup [aq p.1,dP p.2] from rfl];nofun;refine⟨po,gs,ar,p.2,rfl,m1,hgd,qK,?_⟩;rw[(hw p hpm).1];simp only[oj];nofun;refine⟨po,gs,ar,p.2,rfl,m1,hgd,qK,?_⟩;rw[(hw p hpm).1];simp only[oj];nofun;refine QX (kx p.1) (bX (qo p.1) (by decide)) ?_;nofun;refine⟨pf,pw,_,wT F j,p.2,rfl,m2,m3,(hw p hpm).2,by rw[aA];lia,k,V' hkey (λe a he ha=>⟨λz=>?_,ye Hb Wf (V_ ha he)⟩),?_⟩
  ·have:=(hw a (cj ha)).1;rw[z]at this;cases this
  nofun;obtain⟨dsg,Wg,Hj⟩:=qH p.1;rw[Wg];refine xh m4 Hj (oi p.1) ?_;rw[V6 (λ_ _=>qI) hni];nofun;have ec:decide (k.1<last.1∨k.1=last.1/\k.2<=last.2)=false:=decide_eq_false (by unfold l7 at hlk;lia);refine xn (a:=k.1) (b:=k.2) (c:=last.1) (d:=last.2) ?_;rw[ec];nofun;refine xi (ds:=p.2.map D.int) m3 (Hc p.2) (Hd p.2) (fu (by unfold aT wT;simp;lia)) ?_;rw[Ha Hb We,<-V9 hp];have Wh:po≠pw:=by rintro rfl;rw[m1]at m3;cases m3
  have Wi:pf≠pw:=by rintro rfl;rw[m2]at m3;cases m3
  have Wj:po≠pk:=by rintro rfl;rw[m1]at m4;cases m4
  have Wl:pf≠pk:=by rintro rfl;rw[m2]at m4;cases m4
  have q1:=(bj (o:=.tab (aT cM (wT F (j+1)))) Wh).trans m1;have q2:=(bj (o:=.tab (aT cM (wT F (j+1)))) Wi).trans m2;have q3:up S' pw (.tab (aT cM (wT F (j+1)))) pw=_:=az;have q4:=(bj (o:=.tab (aT cM (wT F (j+1)))) nkw.symm).trans m4;have s4:Sub S (up S' pw (.tab (aT cM (wT F (j+1))))):=s3.at ug;generalize up S' pw (.tab (aT cM (wT F (j+1))))=S3 at q1 q2 q3 q4 s4 ⊢;nofun;refine xi q4 Hj (oi p.1) (fu (by unfold aT kT;simp;lia)) ?_;rw[Ha (λ_ _=>qI) hni,<-Wa hp hk];nofun;refine⟨k,_,_,_,rfl,(bj Wj).trans q1,(bj Wl).trans q2,(bj nkw).trans q3,az,s4.at zk,λk2 hk2=>?_⟩;have h1:=(bH.mp hk);have h2:=(bH.mp hk2);have:=(J1.mp hfu.yb) j (j+1) h1.1 h2.1 (by lia);rw[h1.2,h2.2]at this;exact this
 rintro σ S' ⟨last,x5,x6,x7,rfl,m1,m2,m3,m4,s3,_⟩;rw[nq,aA,ir,<-hkl,ir]at m4;nofun;refine⟨up S pk (.tab (aT dg (kT F ks))),λa o h=>?_,hq pk zk⟩;by_cases e:a=pk
 ·subst e;rw[az]at h;cases h;exact m4
 ·rw[bj e]at h;exact s3 _ _ h
inductive Wm (ds:List D)(S:af)(q:D->Prop):Prop where
 |mk (po pf pk:Addr) (gs:List Gr) (ar:Str->Option Nat) (F:CL.Fd Gr) (ks:List Kt) (_:ds=[.ref po,.ref pf,.ref pk]) (_:S po=some (.lst (gs.map aq))) (_:S pf=some (.lst (F.map bO))) (_:S pk=some (.tab (aT dg (kT F ks)))) (_:(∀g∈gs,Gd ar g)) (_:gs.length<=1000) (_:F.length<=40) (_:(F.map aP).Nodup) (_:(∀p∈F,Gd ar p.1)) (_:Full gs F ks) (_:q (.bl true))
def Hk :aS:=gO Wm
theorem Hl{F:CL.Fd Gr}{ks:List Kt}{g:Gr}{t:Kt}(hl:ks.length=F.length)(hnd:(F.map aP).Nodup)(h:gp F ks g t):∃k:Kt,cR (aT dg (kT F ks)) (dg g)=some (om k)/\i8 k t:=by
 obtain⟨i,p,k,h1,h2,rfl,h4⟩:=h;refine⟨k,ye (λ_ _=>qI) (by rw[Hg hl];exact hnd) ?_,h4⟩;unfold kT;refine cj (i:=i) ?_;rw[Af];exact⟨by rw[aJ,h1];rfl,by rw[aJ,h2];rfl⟩
theorem Wn{k:Nat}(h:aB K mg "_law_complete" nX ["own","found","keys"])(G:Gs K mg)(gS:av P w K mg base k "_law_compose" ["one","other"] qJ):av P w K mg base (k+1) "_law_complete" ["own","found","keys"] Hk:=by
 refine h.gO nY (by rintro ds S q ⟨_,_,_,_,_,_,_,e,_⟩;rw[e];rfl) λf cdv A outer s0 H E ds S q hr hA=>?_;obtain⟨po,pf,pk,gs,ar,F,ks,rfl,hS,hF,hK,hgd,qK,uf,hnd,uh,hfu,hq⟩:=hA;have hu:=pA hr;have hkl:=hfu.len;refine⟨_,(au (c9 da rfl (tP rfl G.enumerate (ae (aa 0) ah)) (lb rfl (fO (b6 (i:=3) nY.nd rfl (Or.inl rfl)) (fO (b6 (i:=4) nY.nd rfl (Or.inl rfl)) la))) (au (bG (cL.pt (w_or (tQ hu (aa 4) (aa 2)) (fM (a5 (FF hu) xm (FK hu (aa 2) (aa 4) (λ_ _=>rfl)) (bP (ae (mH ai) (ae (aa 3) ah))) (aZ _))))) (ax (aQ iJ)) bt)
 (ax (c9 da rfl (tP rfl G.enumerate (ae (aa 1) ah)) (lb rfl (fO (b6 (i:=5) nY.nd rfl (Or.inl rfl)) (fO (b6 (i:=6) nY.nd rfl (Or.inl rfl)) la))) (ax (bG (a5 cJ fP (ay aC aD (ay aC aD (aa 6) ai (λ_ _=>rfl)) ai (λ_ _=>rfl)) (ay aC aD (aa 4) ai (λ_ _=>rfl)) (aZ _)) (au (aL (i:=7) nY.nd rfl (Or.inl rfl) (aU gS hr rfl (ae (ay aC aD (aa 6) ai (λ_ _=>rfl)) (ae (aa 4) ah))))
 (ax (bG (cL.pt (w_or (tQ hu (aa 7) (aa 2)) (fM (a5 (FF hu) xm (FK hu (aa 2) (aa 7) (λ_ _=>rfl)) (bP (ae (aa 5) (ae (aa 3) ah))) (aZ _))))) (ax (aQ iJ)) bt))) bt))))))
 (ax (aQ iJ))),?_⟩
 have isin:∀{neg:Bool} {g:Gr} {t:Kt} {Q:K3},gp F ks g t->Q (.bl (!neg)) S->lC neg Q (.ref pk) (aq g) S:=λ{neg g t Q} ha hq=>by
  obtain⟨ds,e1,e2⟩:=qH g;obtain⟨k,hv,_⟩:=Hl hkl hnd ha;rw[e1];refine xh hK e2 (oi g) ?_;rw[hv];cases neg<;>exact hq
 have val:∀{g:Gr} {t:Kt} {Q:K3},gp F ks g t->(∀k,i8 k t->Q (om k) S)->qw Q (.ref pk) (aq g) S:=λ{g t Q} ha hq=>by
  obtain⟨ds,e1,e2⟩:=qH g;obtain⟨k,hv,hle⟩:=Hl hkl hnd ha;rw[e1];exact Tq hK e2 (oi g) hv (hq k hle)
 nofun;refine⟨λj σ S'=>qA λ(x3 x4 x5 x6 x7:Option D)=>σ=[some (.ref po),some (.ref pf),some (.ref pk),x3,x4,x5,x6,x7]/\S'=S,⟨_,_,_,_,_,rfl,rfl⟩,λj σ S' ⟨_,_,_,_,_,_,z⟩=>by rw[z];exact hS,?_,?_⟩
 ·rintro j d σ S' hd ⟨x3,x4,x5,x6,x7,rfl,rfl⟩;rw[nk,aJ]at hd;obtain⟨d2,hd2,rfl⟩:=bU.mp hd;obtain⟨g,hg,rfl⟩:=bU.mp hd2;have kC:((j:Int),g)∈cO gs:=by
   unfold cO;refine bp.mpr ⟨(g,j),?_,rfl⟩;rw[Av];exact hg
  have hown:=hfu.own _ kC;nofun;refine isin hown ?_;nofun;refine val hown λk hle=>?_;nofun;have ec:decide ((-1:Int)<k.1∨k.1=-1/\(j:Int)<k.2)=false:=decide_eq_false (by unfold i8 at hle;simp only at hle;lia);refine xn (a:=k.1) (b:=k.2) (c:=-1) (d:=(j:Int)) ?_;rw[ec];nofun;refine⟨λi σ S3=>nZ λ(x5 x6 x7:Option D)=>σ=[some (.ref po),some (.ref pf),some (.ref pk),some (.int (j:Int)),some (aq g),x5,x6,x7]/\S3=S',⟨_,_,_,rfl,rfl⟩,λi σ S3 ⟨_,_,_,_,z⟩=>by rw[z];exact hF,?_,?_⟩
  ·rintro i d σ S3 hd ⟨x5,x6,x7,rfl,rfl⟩;rw[nk,aJ]at hd;obtain⟨d2,hd2,rfl⟩:=bU.mp hd;obtain⟨p,hp,rfl⟩:=bU.mp hd2;have hpm:=cj hp;have Wo:=uh p hpm;have ud:=hgd g (cj hg);rw[show bO p=.tup [cz p.1.1 p.1.2.1 p.1.2.2,dP p.2] from rfl,show aq g=cz g.1 g.2.1 g.2.2 from rfl];by_cases hf:p.1.2.1=g.1
   rotate_left
   ·nofun;exact⟨_,_,_,rfl,rfl⟩
   obtain⟨m,c',q1,q2,p1,p2,p3,p4,hM⟩:=Wo.ex;obtain⟨m',c2,qL,G0,G1,tY,G2,G3,hM'⟩:=ud.ex;rw[hf,qL]at q2;cases q2;have hall:=hfu.all i p hp _ kC (decide_eq_true hf);nofun;refine⟨p.1.1,p.1.2.1,g.1,g.2.1,p.1.2.2,g.2.2,m,c',c2,rfl,hM,hM',by lia,by lia,by lia,by lia,?_⟩;nofun;show lC true _ _ (aq (bf p.1 g)) _;refine isin hall ?_;nofun;show qw _ _ (aq (bf p.1 g)) _;refine val hall λk hle=>?_;nofun;have ec:decide ((i:Int)<k.1∨k.1=(i:Int)/\(j:Int)<k.2)=false:=decide_eq_false (by unfold i8 at hle;simp only at hle;lia);refine xn (a:=k.1) (b:=k.2) (c:=(i:Int)) (d:=(j:Int)) ?_;rw[ec];nofun;exact⟨_,_,_,rfl,rfl⟩
  ·rintro σ S3 ⟨x5,x6,x7,rfl,rfl⟩;exact⟨_,_,_,_,_,rfl,rfl⟩
 rintro σ S' ⟨x3,x4,x5,x6,x7,rfl,rfl⟩;nofun;exact⟨Sub.refl _,hq⟩
theorem Kd.wl{F:CL.Fd Gr}{ks:List Kt}(h:Kd F ks):∀(i:Nat) (p:Gr×List Int),F[i]?=some p->p.2.length<=i+1:=by
 intro i
 induction i using JN with
 |ind i ih =>
  intro p hp;have hi:=(bH.mp hp).1;rcases h.way i p _ hp (aV (by rw[h.len];exact hi)) with⟨_,e⟩|⟨e,a,_,he,ha,ew⟩
  ·rw[e];simp
  ·rw[ew,ba,jd];have:=ih e he a ha;lia
theorem Wp(p:Gr×List Int)(r:CL.Fd Gr):jD (p::r)=if df p.1=true then some p.2 else jD r:=by
 unfold jD;rw[je];cases df p.1<;>rfl
def kF(pd:Addr)(r:CL.Fd Gr):D:=match jD r with
 |some w=>jL w
 |none=>.tup [.str "ends",.ref pd]
theorem Wq{f:Addr}{fd:FuncData}(F:mC K "law" "law" iZ f fd)(G:Gs K mg)(R:jx K mg ES adr)(yg:av P w K mg base 39 "_law_program" ["script","spot","most"] Gn)(yh:av P w K mg base 39 "_law_graphs" ["program"] GH)(oh:av P w K mg base 39 "closure" ["program"] (xV adr))
 (yi:av P w K mg base 39 "_law_graph_count" ["own","most"] GY) (yj:av P w K mg base 39 "_law_in_order" ["own","found"] Hh) (yk:av P w K mg base 39 "_law_complete" ["own","found","keys"] Hk) (ym:av P w K mg base 39 "_law_idle" ["graph"] GX) (yn:av P w K mg base 39 "judged" ["program"] (GJ adr)) :
 du P w K mg base (bW P w) 40 f fd ["script"] (ia K mX):=by
 refine O2 F i4 λcdv A outer s0 H E ns hr h63=>?_;have hu:=pA hr;refine⟨_,(au (aL (i:=1) i4.nd rfl (Or.inl rfl) (aU yg hr rfl (ae (aa 0) (ae (dE (ae ai ah)) (ae ai ah)))))
 (au (aL (i:=2) i4.nd rfl (Or.inl rfl) (aU yh hr rfl (ae (aa 1) ah)))
 (au (aL (i:=3) i4.nd rfl (Or.inl rfl) fk)
 (au (Py rfl rfl (λ_ _ _=>(ax (aL (i:=3) i4.nd rfl (Or.inl rfl) (aU oh hr rfl (ae (aa 1) ah))))) (Pw (R.bound .many (by decide)) (R.base (i:=.many) (by decide)) rfl (λ_=>(ax (aL (i:=3) i4.nd rfl (Or.inl rfl) fk))) Pu))
 (au (bG (a5 o8 pU (aa 3) fk (aZ _)) (ax (aQ (k7 rN f_ (aU yi hr rfl (ae (aa 2) (ae ai ah))) ai (aZ _)))) bt)
 (au (bG (cL.pt (w_or (k8 (iK (cE pV pW rfl G.qC rf (ae (aa 3) (ae (pI (n:="list") rfl G.list boot_list) ah))))) (fM (a5 rN f_ (cE d8 eA rfl G.len dH (ae (aa 3) ah)) ai (aZ _))))) (ax (aQ iJ)) bt)
 (au (aL (i:=4) i4.nd rfl (Or.inl rfl) (aU yj hr rfl (ae (aa 2) (ae (aa 3) ah))))
 (au (bG (cL.pt (w_or (a5 o8 pU (aa 4) fk (aZ _)) (fM (k8 (iK (aU yk hr rfl (ae (aa 2) (ae (aa 3) (ae (aa 4) ah))))))))) (ax (aQ iJ)) bt)
 (au (aL (i:=5) i4.nd rfl (Or.inl rfl) (bP (ae bL (ae (jF (bK:=ao iZ) (N:=["script","program","own","found","keys","due","pair"]) (M:=[]) (js:=[]) ⟨rfl,by cbv,by cbv,by cbv,by cbv,by cbv⟩ (by cbv) (by cbv) rfl (gL (aa 3)) (λ_ _ _ _ _=>d0) (λ_ _ _ _ _=>(ay aC aD (aa 0) ai (λ_ _=>rfl)))) ah))))
 (au (c9 da rfl (wL rfl G.xu (ae (aa 3) ah)) (b6 (i:=6) i4.nd rfl (Or.inl rfl)) (ax (bG (iK (aU ym hr rfl (ae (ay aC aD (aa 6) ai (λ_ _=>rfl)) ah))) (ax (aL (i:=5) i4.nd rfl (Or.inl rfl) (bP (ae bL (ae (ay aC aD (aa 6) ai (λ_ _=>rfl)) ah))))) bt)))
 (ax (aQ (k7 (vI (mY hr)) v8 (aU yn hr rfl (ae (aa 1) ah)) (aa 5) (aZ _)))))))))))))),?_⟩
 nofun;intro sp hsp;nofun;refine⟨ns,sp,0,2,[],rfl,az,by decide,by decide,by decide,λprog i2 hg _ hi=>?_⟩;intro pr hpr;have n1:sp≠pr:=ne3 az hpr;have ab8:up (up emp sp (.lst [.int 0])) sp (.lst [.int i2]) pr=none:=by rw[bj n1.symm];exact hpr
 have a2:up (up (up emp sp (.lst [.int 0])) sp (.lst [.int i2])) pr (.lst (prog.map Er.d)) pr=some (.lst (prog.map Er.d)):=az;generalize up (up (up emp sp (.lst [.int 0])) sp (.lst [.int i2])) pr (.lst (prog.map Er.d))=S1 at a2 ⊢;have hok:=hg.ok;nofun;refine⟨pr,prog,rfl,a2,hg.gi,by rw[hg.same];have:=hok.len;lia,?_⟩;rw[hg.same];intro po hpo;have b2:=aM (o:=.lst ((cc prog).map aq)) a2 hpo;have b3:up S1 po (.lst ((cc prog).map aq)) po=some (.lst ((cc prog).map aq)):=az;generalize up S1 po (.lst ((cc prog).map aq))=S2 at b2 b3 ⊢;nofun;cases eF:eX (cO (cc prog)) with
 |none =>
  refine⟨pr,prog,gh prog,rfl,b2,hok,λF z=>(by rw[eF]at z;cases z),λ_ x=>?_⟩;refine PD (R.two .many (by decide) .many (by decide)) ?_;nofun;refine⟨po,cc prog,gh prog,40,rfl,b3,hok.gd,hok.len,by decide,λks nd h0 mn hcl=>?_⟩;have Gp:40<ks.length:=by
   rcases Nat.lt_or_ge 40 ks.length with h|h
   ·exact h
   ·exact VO eF h0 (hcl h)
  have Wr:decide ((40:Int)<(ks.length:Int))=true:=decide_eq_true (by lia);nofun;rw[Wr]
 |some F =>
  refine⟨pr,prog,gh prog,rfl,b2,hok,λF' z=>?_,λz=>(by rw[eF]at z;cases z)⟩;rw[eF]at z;cases z;intro pf hpf;have c2:=aM (o:=.lst (F.map bO)) b2 hpf;have c3:=aM (o:=.lst (F.map bO)) b3 hpf;have c4:up S2 pf (.lst (F.map bO)) pf=some (.lst (F.map bO)):=az;generalize up S2 pf (.lst (F.map bO))=S3 at c2 c3 c4 ⊢;have hc:=CL.EM eF;have uf:F.length<=40:=hc.ok.len;have hnd:=hc.ok.nd;have uh:=GI (λp hp=>hok.gd _ (qp hp)) eF;obtain⟨ks,hfu⟩:=V5 eF;have Ws:∀p∈F,eC (cc prog) p.2=some p.1/\p.2.length<=1000:=λp hp=>by
   refine⟨VN eF p hp,?_⟩;obtain⟨i,hi,rfl⟩:=iw hp;have:=(Kd.mk hfu.len hfu.way hfu.yb).wl i _ (aV hi);lia
  have hlen:¬(40:Int)<((F.map bO).length:Int):=by rw[aA];lia
  nofun;refine⟨po,pf,cc prog,gh prog,F,ks,rfl,c3,c4,hok.gd,hok.len,uf,hnd,Ws,hfu,λpk fD=>?_⟩;have d2:=aM (o:=.tab (aT dg (kT F ks))) c2 fD;have d3:=aM (o:=.tab (aT dg (kT F ks))) c3 fD;have d4:=aM (o:=.tab (aT dg (kT F ks))) c4 fD;have d5:up S3 pk (.tab (aT dg (kT F ks))) pk=some (.tab (aT dg (kT F ks))):=az;generalize up S3 pk (.tab (aT dg (kT F ks)))=S4 at d2 d3 d4 d5 ⊢;nofun;refine⟨po,pf,pk,cc prog,gh prog,F,ks,rfl,d3,d4,d5,hok.gd,hok.len,uf,hnd,uh,hfu,?_⟩;nofun;refine gQ (λi=>aq (F.getD i (("","",[]),[])).1) (by rw[aA];lia) (by exact d4) ?_ ?_
  ·intro i d hd P hP;rw[aJ]at hd;obtain⟨p,hp,rfl⟩:=bU.mp hd;rw[bJ,hp]at hP;rw[show bO p=.tup [aq p.1,dP p.2] from rfl];nofun;exact hP
  have el:((aW (F.map bO).length).map λi=>aq (F.getD i (("","",[]),[])).1)=(F.map aP).map aq:=by
   rw[aA,eL];apply gx;intro i;rw[aJ,aJ];by_cases hi:i<F.length
   ·rw[iy hi,aV hi];simp[bJ,hi]
   ·rw[cT (by simpa using hi),cT (by lia)];rfl
  rw[el];intro pd hpd;have e2:=aM (o:=.lst ((F.map aP).map aq)) d2 hpd;have e4:=aM (o:=.lst ((F.map aP).map aq)) d4 hpd;have e5:up S4 pd (.lst ((F.map aP).map aq)) pd=some (.lst ((F.map aP).map aq)):=az;generalize up S4 pd (.lst ((F.map aP).map aq))=S5 at e2 e4 e5 ⊢;nofun;refine⟨λj σ S'=>∃(x6:Option D),σ=[some (.bA (ns.map D.int)),some (.ref pr),some (.ref po),some (.ref pf),some (.ref pk),some (kF pd (F.drop (F.length-j))),x6]/\S'=S5,⟨none,?_,rfl⟩,λj σ S' ⟨_,_,z⟩=>by rw[z];exact e4,?_,?_⟩
  ·rw[oD,uY];rfl
  ·rintro j d σ S' hd ⟨x6,rfl,rfl⟩;have hj:j<F.length:=by have:=(bH.mp hd).1;simpa using this
   obtain⟨p,hp,hdr⟩:∃p,F[F.length-1-j]?=some p/\F.drop (F.length-(j+1))=p::F.drop (F.length-j):=by
    refine⟨F[F.length-1-j]'(by lia),aV (by lia),?_⟩;have e1:F.length-(j+1)=F.length-1-j:=by lia
    have e2:F.length-j=F.length-1-j+1:=by lia
    rw[e1,e2,uX]
   have ed:d=bO p:=by
    rw[Ag (by simpa using hj),aA,aJ,hp]at hd;exact(cS hd).symm
   subst ed;have hpm:=cj hp;have ui:kF pd (F.drop (F.length-(j+1)))=if df p.1=true then jL p.2 else kF pd (F.drop (F.length-j)):=by
    unfold kF;rw[hdr,Wp];cases df p.1<;>rfl
   rw[show bO p=.tup [aq p.1,dP p.2] from rfl];nofun;refine⟨gh prog,p.1,rfl,uh p hpm,?_⟩;cases hI:df p.1 with
   |true =>
    rw[hI]at ui;nofun;exact⟨_,by rw[ui];rfl,rfl⟩
   |false =>
    rw[hI]at ui;nofun;exact⟨_,by rw[ui];rfl,rfl⟩
  rintro σ S' ⟨x6,rfl,rfl⟩;rw[uR,aA,Aw,oC];nofun;refine⟨pr,prog,gh prog,rfl,e2,hok,λF' z=>?_,λz=>(by rw[eF]at z;cases z)⟩;rw[eF]at z;cases z;refine⟨λw e=>?_,λe p hp=>?_⟩
  ·have e0:kF pd F=jL w:=by unfold kF;rw[e]
   rw[e0];nofun;have qM:(jL w).pure=true:=by
    simp only[jL,dP,D.pure,D.gb,Bool.and_true,Bool.true_and];refine D.lh.mpr λd hd=>?_;obtain⟨i,_,rfl⟩:=bp.mp hd;rfl
   refine⟨(jL w).dt,(jL w).dt,Dn.of qM,Dn.of qM,?_,?_⟩
   ·have h0:dv (D.b8 (w.map D.int))<=0:=by
     rw[D.j'];refine p_ λd hd=>?_;obtain⟨u,hu,rfl⟩:=bp.mp hd;obtain⟨i,_,rfl⟩:=bp.mp hu;exact aX _
    simp only[jL,dP,D.dt,D.b8,cK,dv];lia
   ·rw[j8]
  ·have e0:kF pd F=.tup [.str "ends",.ref pd]:=by unfold kF;rw[e]
   rw[e0];nofun;have qM:D.gb ((F.map aP).map aq)=true:=D.lh.mpr λd hd=>by
    obtain⟨g,_,rfl⟩:=bp.mp hd;exact kx g
   refine⟨.tup [.str "ends",.lst (D.b8 ((F.map aP).map aq))],.tup [.str "ends",.lst (D.b8 ((F.map aP).map aq))],.tup (.cons (.str _) (.cons (.ref az (dm.of qM)) .nil)),.tup (.cons (.str _) (.cons (.ref (aM e5 hp) (dm.of qM)) .nil)),?_,?_⟩
   ·have h0:dv (D.b8 ((F.map aP).map aq))<=10:=by
     rw[D.j'];refine p_ λd hd=>?_;obtain⟨u,hu,rfl⟩:=bp.mp hd;obtain⟨g,_,rfl⟩:=bp.mp hu;exact qo g
    simp only[cK,dv];lia
   ·rw[j8]
end
theorem all_mk{l:zS}{w:World}{K:ak}{h:Heap}{mg:Str->Option Value}{fa yo yp yq yr yt yu yw yx yy yz yA yB yC yD yE yF yG yH yI yJ yK yL yM yN yO yP yQ yR yS yT yU yV yW yX yY yZ y0 y1 y6:Addr}
 (X:K.In h) (G:h.Ns mainGlobals mg) (hfa:mg "law"=some (.ref fa))
 {Wt Wu Wv Ww Wx Wy Wz WA WB WC WD WE WG WH WI WJ WK WL WM WN WO WQ WR WS WT WU WV WW WX WY WZ W0 W1 W2 W4 W5 W6 W7 W8 W9 W_ Xa Xb Xc Xd Xe Xf Xg Xh Xi Xj Xk Xl Xm Xn Xo Xp Xq Xr Xs Xt Xu Xv Xw Xx Xy Xz XA XB XC XD XE XF XG XH XI XJ Hm:Option Addr}
 {XM XN XO XQ XR XS XT XU XW XX XY XZ X0 X1 X2 X4 X5 X6 X7 X8 X9 X_ X' Ya Yb Yc Yd Ye Yf Yg Yh Yi Yj Yk Yl Ym Yn Yo Yp:Array (Option Value)}
 {Yq Yr Ys Yt Hn Yu Yv Yw Yx Yy Ho Yz YA YB YC YD Hq YE YF YG YH YI Hr YJ YK YL YM YN Hs YO YQ YR YS YT Ht YU YV YW YX YY Hu YZ Y0 Y1 Y2 Y3 Hv Y4 Y5 Y6 Y7 Y8 Hw Y9 Y_ Y' Za Zb Hz Zc Zd Ze Zf Zg HA Zh Zi Zj Zk Zl HB Zm Zn Zo Zp Zq HC Zr Zs Zu Zv Zw HD Zx Zy Zz ZC ZD HE ZE ZF ZG ZH ZI HF ZJ ZK ZL ZM ZO HG ZP ZQ ZR ZS ZU HH ZV ZW ZY ZZ Z0 HI Z1 Z2 Z3 Z4 Z5 HJ Z6 Z7 Z8 Z9 Z_ HK aaa aab aac aad aae HL aaf aag aah aai aaj HM aak aal aam aan aao HN aap aaq aar aas aat HP aau aav aaw aax aay HQ aaz aaA aaB aaC aaD HR aaE aaF aaG aaH aaI HS aaJ aaK aaL aaM aaN HU aaO aaP aaQ aaR aaS HV aaT aaU aaV aaW aaX HW aaY aaZ aa0 aa1 aa2 HX aa3 aa4 aa5 aa6 aa7 HY aa8 aa9 aba abb abd HZ abe abf abg abh abi H_ abj abk abl abm abn Ia abo abp abq abr abt Ib abu abv abw abx aby Ic abz abA Ig Ih Ii y8 Ij:Value}
 {abB:Tok}
 (a_0:bb K mainGlobals "parts"=some (some (.ref yo)))
 (l_0:K.lookup yo=some ⟨Yq,Wt,.func (br "parts" "parts" (bw nu) (a7 nu) (ao nu) .none Yr Ys Yt Wu Hn Yu),XM⟩)
 (c_0:bF K Hn "parts"=true) (k_0:bD K (.ref yo)=true)
 (a_1:bb K mainGlobals "graphs"=some (some (.ref yp)))
 (l_1:K.lookup yp=some ⟨Yv,Wv,.func (br "graphs" "graphs" (bw lD) (a7 lD) (ao lD) .none Yw Yx Yy Ww Ho Yz),XN⟩)
 (c_1:bF K Ho "graphs"=true) (k_1:bD K (.ref yp)=true)
 (a_2:bb K mainGlobals "placed_sends"=some (some (.ref yq)))
 (l_2:K.lookup yq=some ⟨YA,Wx,.func (br "placed_sends" "placed_sends" (bw ny) (a7 ny) (ao ny) .none YB YC YD Wy Hq YE),XO⟩)
 (c_2:bF K Hq "placed_sends"=true) (k_2:bD K (.ref yq)=true)
 (a_3:bb K mainGlobals "placed_parts"=some (some (.ref yr)))
 (l_3:K.lookup yr=some ⟨YF,Wz,.func (br "placed_parts" "placed_parts" (bw lF) (a7 lF) (ao lF) .none YG YH YI WA Hr YJ),XQ⟩)
 (c_3:bF K Hr "placed_parts"=true) (k_3:bD K (.ref yr)=true)
 (a_4:bb K mainGlobals "path_parameter"=some (some (.ref yt)))
 (l_4:K.lookup yt=some ⟨YK,WB,.func (br "path_parameter" "path_parameter" (bw nz) (a7 nz) (ao nz) .none YL YM YN WC Hs YO),XR⟩)
 (c_4:bF K Hs "path_parameter"=true) (k_4:bD K (.ref yt)=true)
 (a_5:bb K mainGlobals "told_row"=some (some (.ref yu)))
 (l_5:K.lookup yu=some ⟨YQ,WD,.func (br "told_row" "told_row" (bw lH) (a7 lH) (ao lH) .none YR YS YT WE Ht YU),XS⟩)
 (c_5:bF K Ht "told_row"=true) (k_5:bD K (.ref yu)=true)
 (a_6:bb K mainGlobals "told_number"=some (some (.ref yw)))
 (l_6:K.lookup yw=some ⟨YV,WG,.func (br "told_number" "told_number" (bw nA) (a7 nA) (ao nA) .none YW YX YY WH Hu YZ),XT⟩)
 (c_6:bF K Hu "told_number"=true) (k_6:bD K (.ref yw)=true)
 (a_7:bb K mainGlobals "composed"=some (some (.ref yx)))
 (l_7:K.lookup yx=some ⟨Y0,WI,.func (br "composed" "composed" (bw lJ) (a7 lJ) (ao lJ) .none Y1 Y2 Y3 WJ Hv Y4),XU⟩)
 (c_7:bF K Hv "composed"=true) (k_7:bD K (.ref yx)=true)
 (a_8:bb K mainGlobals "fit"=some (some (.ref yy)))
 (l_8:K.lookup yy=some ⟨Y5,WK,.func (br "fit" "fit" (bw nB) (a7 nB) (ao nB) .none Y6 Y7 Y8 WL Hw Y9),XW⟩)
 (c_8:bF K Hw "fit"=true) (k_8:bD K (.ref yy)=true)
 (a_9:bb K mainGlobals "composed_row"=some (some (.ref yz)))
 (l_9:K.lookup yz=some ⟨Y_,WM,.func (br "composed_row" "composed_row" (bw lK) (a7 lK) (ao lK) .none Y' Za Zb WN Hz Zc),XX⟩)
 (c_9:bF K Hz "composed_row"=true) (k_9:bD K (.ref yz)=true)
 (a_a:bb K mainGlobals "largest_between"=some (some (.ref yA)))
 (l_a:K.lookup yA=some ⟨Zd,WO,.func (br "largest_between" "largest_between" (bw lL) (a7 lL) (ao lL) .none Ze Zf Zg WQ HA Zh),XY⟩)
 (c_a:bF K HA "largest_between"=true) (k_a:bD K (.ref yA)=true)
 (a_b:bb K mainGlobals "joined_number"=some (some (.ref yB)))
 (l_b:K.lookup yB=some ⟨Zi,WR,.func (br "joined_number" "joined_number" (bw nD) (a7 nD) (ao nD) .none Zj Zk Zl WS HB Zm),XZ⟩)
 (c_b:bF K HB "joined_number"=true) (k_b:bD K (.ref yB)=true)
 (a_c:bb K mainGlobals "closure"=some (some (.ref yC)))
 (l_c:K.lookup yC=some ⟨Zn,WT,.func (br "closure" "closure" (bw nE) (a7 nE) (ao nE) .none Zo Zp Zq WU HC Zr),X0⟩)
 (c_c:bF K HC "closure"=true) (k_c:bD K (.ref yC)=true)
 (a_d:bb K mainGlobals "judged"=some (some (.ref yD)))
 (l_d:K.lookup yD=some ⟨Zs,WV,.func (br "judged" "judged" (bw nF) (a7 nF) (ao nF) .none Zu Zv Zw WW HD Zx),X1⟩)
 (c_d:bF K HD "judged"=true) (k_d:bD K (.ref yD)=true)
 (a_e:bb K mainGlobals "closure_of"=some (some (.ref yE)))
 (l_e:K.lookup yE=some ⟨Zy,WX,.func (br "closure_of" "closure_of" (bw nG) (a7 nG) (ao nG) .none Zz ZC ZD WY HE ZE),X2⟩)
 (c_e:bF K HE "closure_of"=true) (k_e:bD K (.ref yE)=true)
 (a_f:bb K mainGlobals "put_new"=some (some (.ref yF)))
 (l_f:K.lookup yF=some ⟨ZF,WZ,.func (br "put_new" "put_new" (bw lM) (a7 lM) (ao lM) .none ZG ZH ZI W0 HF ZJ),X4⟩)
 (c_f:bF K HF "put_new"=true) (k_f:bD K (.ref yF)=true)
 (a_g:bb K mainGlobals "telling_of"=some (some (.ref yG)))
 (l_g:K.lookup yG=some ⟨ZK,W1,.func (br "telling_of" "telling_of" (bw lN) (a7 lN) (ao lN) .none ZL ZM ZO W2 HG ZP),X5⟩)
 (c_g:bF K HG "telling_of"=true) (k_g:bD K (.ref yG)=true)
 (a_h:bb K mainGlobals "is_idle_round"=some (some (.ref yH)))
 (l_h:K.lookup yH=some ⟨ZQ,W4,.func (br "is_idle_round" "is_idle_round" (bw nH) (a7 nH) (ao nH) .none ZR ZS ZU W5 HH ZV),X6⟩)
 (c_h:bF K HH "is_idle_round"=true) (k_h:bD K (.ref yH)=true)
 (a_i:bb K mainGlobals "falls_here"=some (some (.ref yI)))
 (l_i:K.lookup yI=some ⟨ZW,W6,.func (br "falls_here" "falls_here" (bw lP) (a7 lP) (ao lP) .none ZY ZZ Z0 W7 HI Z1),X7⟩)
 (c_i:bF K HI "falls_here"=true) (k_i:bD K (.ref yI)=true)
 (a_j:bb K mainGlobals "_law_cell_at"=some (some (.ref yJ)))
 (l_j:K.lookup yJ=some ⟨Z2,W8,.func (br "_law_cell_at" "_law_cell_at" (bw nI) (a7 nI) (ao nI) .none Z3 Z4 Z5 W9 HJ Z6),X8⟩)
 (c_j:bF K HJ "_law_cell_at"=true) (k_j:bD K (.ref yJ)=true)
 (a_k:bb K mainGlobals "_law_names"=some (some (.ref yK)))
 (l_k:K.lookup yK=some ⟨Z7,W_,.func (br "_law_names" "_law_names" (bw jH) (a7 jH) (ao jH) .none Z8 Z9 Z_ Xa HK aaa),X9⟩)
 (c_k:bF K HK "_law_names"=true) (k_k:bD K (.ref yK)=true)
 (a_l:bb K mainGlobals "_law_next"=some (some (.ref yL)))
 (l_l:K.lookup yL=some ⟨aab,Xb,.func (br "_law_next" "_law_next" (bw nJ) (a7 nJ) (ao nJ) .none aac aad aae Xc HL aaf),X_⟩)
 (c_l:bF K HL "_law_next"=true) (k_l:bD K (.ref yL)=true)
 (a_m:bb K mainGlobals "_law_path"=some (some (.ref yM)))
 (l_m:K.lookup yM=some ⟨aag,Xd,.func (br "_law_path" "_law_path" (bw nK) (a7 nK) (ao nK) .none aah aai aaj Xe HM aak),X'⟩)
 (c_m:bF K HM "_law_path"=true) (k_m:bD K (.ref yM)=true)
 (a_n:bb K mainGlobals "_law_arg"=some (some (.ref yN)))
 (l_n:K.lookup yN=some ⟨aal,Xf,.func (br "_law_arg" "_law_arg" (bw nM) (a7 nM) (ao nM) .none aam aan aao Xg HN aap),Ya⟩)
 (c_n:bF K HN "_law_arg"=true) (k_n:bD K (.ref yN)=true)
 (a_o:bb K mainGlobals "_law_send"=some (some (.ref yO)))
 (l_o:K.lookup yO=some ⟨aaq,Xh,.func (br "_law_send" "_law_send" (bw lQ) (a7 lQ) (ao lQ) .none aar aas aat Xi HP aau),Yb⟩)
 (c_o:bF K HP "_law_send"=true) (k_o:bD K (.ref yO)=true)
 (a_p:bb K mainGlobals "_law_body"=some (some (.ref yP)))
 (l_p:K.lookup yP=some ⟨aav,Xj,.func (br "_law_body" "_law_body" (bw nN) (a7 nN) (ao nN) .none aaw aax aay Xk HQ aaz),Yc⟩)
 (c_p:bF K HQ "_law_body"=true) (k_p:bD K (.ref yP)=true)
 (a_q:bb K mainGlobals "_law_program"=some (some (.ref yQ)))
 (l_q:K.lookup yQ=some ⟨aaA,Xl,.func (br "_law_program" "_law_program" (bw lR) (a7 lR) (ao lR) .none aaB aaC aaD Xm HR aaE),Yd⟩)
 (c_q:bF K HR "_law_program"=true) (k_q:bD K (.ref yQ)=true)
 (a_r:bb K mainGlobals "_law_compose"=some (some (.ref yR)))
 (l_r:K.lookup yR=some ⟨aaF,Xn,.func (br "_law_compose" "_law_compose" (bw nO) (a7 nO) (ao nO) .none aaG aaH aaI Xo HS aaJ),Ye⟩)
 (c_r:bF K HS "_law_compose"=true) (k_r:bD K (.ref yR)=true)
 (a_s:bb K mainGlobals "_law_idle"=some (some (.ref yS)))
 (l_s:K.lookup yS=some ⟨aaK,Xp,.func (br "_law_idle" "_law_idle" (bw nP) (a7 nP) (ao nP) .none aaL aaM aaN Xq HU aaO),Yf⟩)
 (c_s:bF K HU "_law_idle"=true) (k_s:bD K (.ref yS)=true)
 (a_t:bb K mainGlobals "_law_prefixes"=some (some (.ref yT)))
 (l_t:K.lookup yT=some ⟨aaP,Xr,.func (br "_law_prefixes" "_law_prefixes" (bw nQ) (a7 nQ) (ao nQ) .none aaQ aaR aaS Xs HV aaT),Yg⟩)
 (c_t:bF K HV "_law_prefixes"=true) (k_t:bD K (.ref yT)=true)
 (a_u:bb K mainGlobals "_law_told"=some (some (.ref yU)))
 (l_u:K.lookup yU=some ⟨aaU,Xt,.func (br "_law_told" "_law_told" (bw lV) (a7 lV) (ao lV) .none aaV aaW aaX Xu HW aaY),Yh⟩)
 (c_u:bF K HW "_law_told"=true) (k_u:bD K (.ref yU)=true)
 (a_v:bb K mainGlobals "_law_graphs_in"=some (some (.ref yV)))
 (l_v:K.lookup yV=some ⟨aaZ,Xv,.func (br "_law_graphs_in" "_law_graphs_in" (bw kz) (a7 kz) (ao kz) .none aa0 aa1 aa2 Xw HX aa3),Yi⟩)
 (c_v:bF K HX "_law_graphs_in"=true) (k_v:bD K (.ref yV)=true)
 (a_w:bb K mainGlobals "_law_graphs"=some (some (.ref yW)))
 (l_w:K.lookup yW=some ⟨aa4,Xx,.func (br "_law_graphs" "_law_graphs" (bw nR) (a7 nR) (ao nR) .none aa5 aa6 aa7 Xy HY aa8),Yj⟩)
 (c_w:bF K HY "_law_graphs"=true) (k_w:bD K (.ref yW)=true)
 (a_x:bb K mainGlobals "_law_graph_count"=some (some (.ref yX)))
 (l_x:K.lookup yX=some ⟨aa9,Xz,.func (br "_law_graph_count" "_law_graph_count" (bw nS) (a7 nS) (ao nS) .none aba abb abd XA HZ abe),Yk⟩)
 (c_x:bF K HZ "_law_graph_count"=true) (k_x:bD K (.ref yX)=true)
 (a_y:bb K mainGlobals "_law_way_graph"=some (some (.ref yY)))
 (l_y:K.lookup yY=some ⟨abf,XB,.func (br "_law_way_graph" "_law_way_graph" (bw nU) (a7 nU) (ao nU) .none abg abh abi XC H_ abj),Yl⟩)
 (c_y:bF K H_ "_law_way_graph"=true) (k_y:bD K (.ref yY)=true)
 (a_z:bb K mainGlobals "_law_key"=some (some (.ref yZ)))
 (l_z:K.lookup yZ=some ⟨abk,XD,.func (br "_law_key" "_law_key" (bw nV) (a7 nV) (ao nV) .none abl abm abn XE Ia abo),Ym⟩)
 (c_z:bF K Ia "_law_key"=true) (k_z:bD K (.ref yZ)=true)
 (a_10:bb K mainGlobals "_law_in_order"=some (some (.ref y0)))
 (l_10:K.lookup y0=some ⟨abp,XF,.func (br "_law_in_order" "_law_in_order" (bw nW) (a7 nW) (ao nW) .none abq abr abt XG Ib abu),Yn⟩)
 (c_10:bF K Ib "_law_in_order"=true) (k_10:bD K (.ref y0)=true)
 (a_11:bb K mainGlobals "_law_complete"=some (some (.ref y1)))
 (l_11:K.lookup y1=some ⟨abv,XH,.func (br "_law_complete" "_law_complete" (bw nX) (a7 nX) (ao nX) .none abw abx aby XI Ic abz),Yo⟩)
 (c_11:bF K Ic "_law_complete"=true) (k_11:bD K (.ref y1)=true)
 (a_12:bb K mainGlobals "law"=some (some (.ref y6)))
 (l_12:K.lookup y6=some ⟨abA,XJ,.func (br "law" "law" (bw iZ) (a7 iZ) (ao iZ) .none Ig Ih Ii Hm y8 Ij),Yp⟩)
 (c_12:bF K y8 "law"=true) (k_12:bD K (.ref y6)=true)
 (z_14:bb K mainGlobals "len"=some none)
 (z_15:bb K mainGlobals "range"=some none)
 (z_16:bb K mainGlobals "isinstance"=some none)
 (z_17:bb K mainGlobals "tuple"=some none)
 (z_18:bb K mainGlobals "list"=some none)
 (z_19:bb K mainGlobals "int"=some none)
 (z_1a:bb K mainGlobals "bool"=some none)
 (z_1b:bb K mainGlobals "reversed"=some none)
 (z_1c:bb K mainGlobals "any"=some none)
 (z_1d:bb K mainGlobals "enumerate"=some none)
 (z_1e:bb K mainGlobals "max"=some none)
 (z_1f:bb K mainGlobals "zip"=some none)
 (z_13:bb K mainGlobals "MOST_IN_CLOSURE"=some (some (.int 40 abB)))
 {y9 y_ za:Addr}
 (x_1g:bb K mainGlobals "ErrandError"=some (some (.ref y9)))
 (x_1h:bb K mainGlobals "Apart"=some (some (.ref y_)))
 (x_1i:bb K mainGlobals "TooMany"=some (some (.ref za)))
 (x_1j:wm K [(.err,y9),(.apart,y_),(.many,za)]=true) :
 ∃fd:FuncData,(∀(s:Shared) (v:Value),BindsTo s fd ⟨[v],[]⟩ [("script",v)])/\∀base:Heap,K.In base->base.Ns mainGlobals mg->du l.prog w K mg base (bW l.prog w) 40 fa fd ["script"] (ia K mX):=by
 have e:=hfa.symm.trans (oB X G a_12);cases e;have H_0:aB K mg "parts" nu ["saying"]:=bQ X G a_0 l_0 c_0 k_0 λ_ _ _ _ _ _ us hl=>by obtain⟨_,rfl⟩:=fR hl;rfl
 have H_1:aB K mg "graphs" lD ["program"]:=bQ X G a_1 l_1 c_1 k_1 λ_ _ _ _ _ _ us hl=>by obtain⟨_,rfl⟩:=fR hl;rfl
 have H_2:aB K mg "placed_sends" ny ["body"]:=bQ X G a_2 l_2 c_2 k_2 λ_ _ _ _ _ _ us hl=>by obtain⟨_,rfl⟩:=fR hl;rfl
 have H_3:aB K mg "placed_parts" lF ["saying","known"]:=bQ X G a_3 l_3 c_3 k_3 λ_ _ _ _ _ _ us hl=>by obtain⟨_,_,rfl⟩:=ln2 hl;rfl
 have H_4:aB K mg "path_parameter" nz ["saying"]:=bQ X G a_4 l_4 c_4 k_4 λ_ _ _ _ _ _ us hl=>by obtain⟨_,rfl⟩:=fR hl;rfl
 have H_5:aB K mg "told_row" lH ["param","sayings","known"]:=bQ X G a_5 l_5 c_5 k_5 λ_ _ _ _ _ _ us hl=>by obtain⟨_,_,_,rfl⟩:=i6 hl;rfl
 have H_6:aB K mg "told_number" nA ["param","saying","known"]:=bQ X G a_6 l_6 c_6 k_6 λ_ _ _ _ _ _ us hl=>by obtain⟨_,_,_,rfl⟩:=i6 hl;rfl
 have H_7:aB K mg "composed" lJ ["one","other"]:=bQ X G a_7 l_7 c_7 k_7 λ_ _ _ _ _ _ us hl=>by obtain⟨_,_,rfl⟩:=ln2 hl;rfl
 have H_8:aB K mg "fit" nB ["one","other"]:=bQ X G a_8 l_8 c_8 k_8 λ_ _ _ _ _ _ us hl=>by obtain⟨_,_,rfl⟩:=ln2 hl;rfl
 have H_9:aB K mg "composed_row" lK ["row","rows"]:=bQ X G a_9 l_9 c_9 k_9 λ_ _ _ _ _ _ us hl=>by obtain⟨_,_,rfl⟩:=ln2 hl;rfl
 have H_a:aB K mg "largest_between" lL ["row","rows","column"]:=bQ X G a_a l_a c_a k_a λ_ _ _ _ _ _ us hl=>by obtain⟨_,_,_,rfl⟩:=i6 hl;rfl
 have H_b:aB K mg "joined_number" nD ["one","other"]:=bQ X G a_b l_b c_b k_b λ_ _ _ _ _ _ us hl=>by obtain⟨_,_,rfl⟩:=ln2 hl;rfl
 have H_c:aB K mg "closure" nE ["program"]:=bQ X G a_c l_c c_c k_c λ_ _ _ _ _ _ us hl=>by obtain⟨_,rfl⟩:=fR hl;rfl
 have H_d:aB K mg "judged" nF ["program"]:=bQ X G a_d l_d c_d k_d λ_ _ _ _ _ _ us hl=>by obtain⟨_,rfl⟩:=fR hl;rfl
 have H_e:aB K mg "closure_of" nG ["numbered"]:=bQ X G a_e l_e c_e k_e λ_ _ _ _ _ _ us hl=>by obtain⟨_,rfl⟩:=fR hl;rfl
 have H_f:aB K mg "put_new" lM ["found","graph","way"]:=bQ X G a_f l_f c_f k_f λ_ _ _ _ _ _ us hl=>by obtain⟨_,_,_,rfl⟩:=i6 hl;rfl
 have H_g:aB K mg "telling_of" lN ["pairs"]:=bQ X G a_g l_g c_g k_g λ_ _ _ _ _ _ us hl=>by obtain⟨_,rfl⟩:=fR hl;rfl
 have H_h:aB K mg "is_idle_round" nH ["graph"]:=bQ X G a_h l_h c_h k_h λ_ _ _ _ _ _ us hl=>by obtain⟨_,rfl⟩:=fR hl;rfl
 have H_i:aB K mg "falls_here" lP ["graph"]:=bQ X G a_i l_i c_i k_i λ_ _ _ _ _ _ us hl=>by obtain⟨_,rfl⟩:=fR hl;rfl
 have H_j:aB K mg "_law_cell_at" nI ["script","k"]:=bQ X G a_j l_j c_j k_j λ_ _ _ _ _ _ us hl=>by obtain⟨_,_,rfl⟩:=ln2 hl;rfl
 have H_k:aB K mg "_law_names" jH ["cell","many"]:=bQ X G a_k l_k c_k k_k λ_ _ _ _ _ _ us hl=>by obtain⟨_,_,rfl⟩:=ln2 hl;rfl
 have H_l:aB K mg "_law_next" nJ ["script","spot"]:=bQ X G a_l l_l c_l k_l λ_ _ _ _ _ _ us hl=>by obtain⟨_,_,rfl⟩:=ln2 hl;rfl
 have H_m:aB K mg "_law_path" nK ["cell","params"]:=bQ X G a_m l_m c_m k_m λ_ _ _ _ _ _ us hl=>by obtain⟨_,_,rfl⟩:=ln2 hl;rfl
 have H_n:aB K mg "_law_arg" nM ["cell","params"]:=bQ X G a_n l_n c_n k_n λ_ _ _ _ _ _ us hl=>by obtain⟨_,_,rfl⟩:=ln2 hl;rfl
 have H_o:aB K mg "_law_send" lQ ["script","spot","names","counts","params"]:=bQ X G a_o l_o c_o k_o λ_ _ _ _ _ _ us hl=>by obtain⟨_,_,_,_,_,rfl⟩:=FR hl;rfl
 have H_p:aB K mg "_law_body" nN ["script","spot","names","counts","params"]:=bQ X G a_p l_p c_p k_p λ_ _ _ _ _ _ us hl=>by obtain⟨_,_,_,_,_,rfl⟩:=FR hl;rfl
 have H_q:aB K mg "_law_program" lR ["script","spot","most"]:=bQ X G a_q l_q c_q k_q λ_ _ _ _ _ _ us hl=>by obtain⟨_,_,_,rfl⟩:=i6 hl;rfl
 have H_r:aB K mg "_law_compose" nO ["one","other"]:=bQ X G a_r l_r c_r k_r λ_ _ _ _ _ _ us hl=>by obtain⟨_,_,rfl⟩:=ln2 hl;rfl
 have H_s:aB K mg "_law_idle" nP ["graph"]:=bQ X G a_s l_s c_s k_s λ_ _ _ _ _ _ us hl=>by obtain⟨_,rfl⟩:=fR hl;rfl
 have H_t:aB K mg "_law_prefixes" nQ ["saying"]:=bQ X G a_t l_t c_t k_t λ_ _ _ _ _ _ us hl=>by obtain⟨_,rfl⟩:=fR hl;rfl
 have H_u:aB K mg "_law_told" lV ["param","saying","known"]:=bQ X G a_u l_u c_u k_u λ_ _ _ _ _ _ us hl=>by obtain⟨_,_,_,rfl⟩:=i6 hl;rfl
 have H_v:aB K mg "_law_graphs_in" kz ["errand","saying","known"]:=bQ X G a_v l_v c_v k_v λ_ _ _ _ _ _ us hl=>by obtain⟨_,_,_,rfl⟩:=i6 hl;rfl
 have H_w:aB K mg "_law_graphs" nR ["program"]:=bQ X G a_w l_w c_w k_w λ_ _ _ _ _ _ us hl=>by obtain⟨_,rfl⟩:=fR hl;rfl
 have H_x:aB K mg "_law_graph_count" nS ["own","most"]:=bQ X G a_x l_x c_x k_x λ_ _ _ _ _ _ us hl=>by obtain⟨_,_,rfl⟩:=ln2 hl;rfl
 have H_y:aB K mg "_law_way_graph" nU ["own","way"]:=bQ X G a_y l_y c_y k_y λ_ _ _ _ _ _ us hl=>by obtain⟨_,_,rfl⟩:=ln2 hl;rfl
 have H_z:aB K mg "_law_key" nV ["found","ways","way"]:=bQ X G a_z l_z c_z k_z λ_ _ _ _ _ _ us hl=>by obtain⟨_,_,_,rfl⟩:=i6 hl;rfl
 have abC:aB K mg "_law_in_order" nW ["own","found"]:=bQ X G a_10 l_10 c_10 k_10 λ_ _ _ _ _ _ us hl=>by obtain⟨_,_,rfl⟩:=ln2 hl;rfl
 have abD:aB K mg "_law_complete" nX ["own","found","keys"]:=bQ X G a_11 l_11 c_11 k_11 λ_ _ _ _ _ _ us hl=>by obtain⟨_,_,_,rfl⟩:=i6 hl;rfl
 have Gx:Gs K mg:=⟨g6 X G z_14,g6 X G z_15,g6 X G z_16,g6 X G z_17,g6 X G z_18,g6 X G z_19,g6 X G z_1a,g6 X G z_1b,g6 X G z_1c,g6 X G z_1d,g6 X G z_1e,g6 X G z_1f,⟨_,oB X G z_13⟩⟩;have Rx:jx K mg ES (p9 [(Rf.err,y9),(Rf.apart,y_),(Rf.many,za)]):=PF x_1j λi hi=>by
  rcases(by simpa using hi:i=Rf.err∨i=Rf.apart∨i=Rf.many) with rfl|rfl|rfl
  ·exact oB X G x_1g
  ·exact oB X G x_1h
  ·exact oB X G x_1i
 have abE:=Bw (st:=iZ) l_12 c_12 k_12;refine⟨br "law" "law" (bw iZ) (a7 iZ) (ao iZ) .none Ig Ih Ii Hm y8 Ij,λs v=>.of_eq rfl,λbase _ _=>?_⟩;have xw:=T1 (P:=l.prog) (w:=w) (base:=base) (k:=0) H_j Gx;have gR:=T4 (P:=l.prog) (w:=w) (base:=base) (k:=1) H_l xw;have t_:=T6 (P:=l.prog) (w:=w) (base:=base) (k:=0) H_k Gx;have Ik:=Ue (P:=l.prog) (w:=w) (base:=base) (k:=0) H_4 Gx;have abF:=Uj (k:=2) H_5 Gx (Uh (k:=1) H_6 Gx Ik);have abG:=Uq (k:=2) H_2 Gx (Um (k:=1) H_3 Gx (Uc (k:=0) H_0 Gx) Ik);have xW:=Uu (k:=3) H_1 Gx abG abF;have jM:=U6 (P:=l.prog) (w:=w) (base:=base) (k:=0) H_m Gx;have n8:=U9 (k:=1) H_n jM;have l0:=U' (k:=2) H_o Gx gR n8;have xK:=Vf (k:=3) H_p Gx (gR.mono (by decide)) (n8.mono (by decide)) (jM.mono (by decide)) l0;have yg:=Vj (k:=4) H_q Gx (gR.mono (by decide)) (t_.mono (by decide)) xK;have abH:=UG (P:=l.prog) (w:=w) (base:=base) (k:=2) H_9 Gx (UC (k:=1) H_a Gx (UA (k:=0) H_b Gx));have jK:=UJ (P:=l.prog) (w:=w) (base:=base) (k:=0) H_8;have n0:=UL (k:=3) H_7 Gx Rx (jK.mono (by decide)) abH;have t6:=UO (P:=l.prog) (w:=w) (base:=base) (k:=0) H_f Gx Rx;have xX:=UR (k:=4) H_e Gx Rx (t6.mono (by decide)) (jK.mono (by decide)) n0;have xE:=UX (P:=l.prog) (w:=w) (base:=base) (k:=0) H_i Gx;have ym:=UZ (k:=4) H_h Gx (jK.mono (by decide)) n0 (xE.mono (by decide));have xY:=U1 (k:=5) H_g Gx ym;have oh:=VE (k:=5) H_c Gx (xW.mono (by decide)) xX;have yn:=VI (k:=6) H_d Gx oh (xY.mono (by decide));have og:=Vr (P:=l.prog) (w:=w) (base:=base) (k:=0) H_t Gx;have xS:=Vt (k:=1) H_u Gx og;have yh:=Vx H_w Gx (GF H_v Gx og xS 20);have gS:=VT (P:=l.prog) (w:=w) (base:=base) (k:=0) H_r Gx;have abI:=VX (k:=1) H_s Gx gS;have yi:=V0 (k:=1) H_x Gx gS;have ue:=V3 (k:=1) H_y Gx gS;have yf:=V8 (P:=l.prog) (w:=w) (base:=base) (k:=0) H_z Gx;have yj:=Wc (k:=2) abC Gx ue (yf.mono (by decide));have yk:=Wn (k:=1) abD Gx gS;exact Wq abE Gx Rx (yg.mono (by decide)) (yh.mono (by decide)) (oh.mono (by decide)) (yi.mono (by decide)) (yj.mono (by decide)) (yk.mono (by decide)) (abI.mono (by decide)) (yn.mono (by decide))
theorem walk{l:zS}{q:Program}{loose:List Str}{XP:(Str->Option Value)->Heap->Prop}{YP:World->Heap->Prop}{d:DefRec}{K:Params->ak}(hn:l.most=some 63)(hdf:d.params.defaults=[])
 (hY:∀(w:World) (h:Heap),YP w h->(K w.params).In h)
 (F:∀(w:World) (mg:Str->Option Value) (fa:Addr) (h:Heap),(K w.params).In h->h.Ns mainGlobals mg->mg d.name=some (.ref fa) ->
  ∃fd:FuncData,(∀(s:Shared) (u:Value),BindsTo s fd ⟨[u],[]⟩ [("script",u)])/\∀base:Heap,(K w.params).In base->base.Ns mainGlobals mg->du l.prog w (K w.params) mg base (bW l.prog w) 40 fa fd ["script"] (ia (K w.params) mX)) :
 Jg q loose XP YP l.row.toRowW d [] (λf vs=>zQ f vs) :=
 L2.MS (n:=63) (k:=40) (x:="script") (CX:=λw=>bW l.prog w) (sp:=λw=>ia (K w.params) mX) hn (by decide) hdf ⟨rfl,by decide,by decide⟩ hY F (λ_ _ a ns hl hO hS=>O3 hl hO hS) λ_ _ _ _ _ z=>by
  obtain⟨a,C,T,H',_,_,_,_,_,_,_,_,_,_,z⟩:=z;exact z
end LW
end
inductive PySem.W.Fast:Prop|tw14295744602047017063|tw14492871461196801307|tw1841685584504208391|tw10957929775695301454|tw6607817127756194232|tw12934653449822010050|tw3955036858038726496|tw16483551420049602998|tw266610425735745123|tw15503529268221537607|tw3738933439981775644|tw1266306497866292914|tw8448474303090059973|tw11695916454765007836|tw11122214040125979726|tw2766486044096168053|tw5301086869977059342|tw15744814684907547321|tw5603428757692748873|tw11127596304535714664|tw9276452491400946783|tw10250905084355959140|tw10360661343504676705|tw7241513854862486633|tw15958911858021081977|tw4798346870724326535|tw12738936339083945711|tw18127130797213693871|tw6970625531116617669|tw11809982786717129047|tw5227614194279232722|tw9277281679410713276|tw9556915644103130523|tw9096051009874591090|tw14620312601570804890|tw9077024218077065270|tw15933992641248451071|tw8155882449499188881|tw6476247107660126170|tw17371488020988485321|tw7091289684023060938|tw14178070697533982267|tw3570661199522147479|tw12952021574046917988|tw10290692181166962637|tw2110520086586489109|tw10307985072530281647|tw16720690662636415664|tw13454876222800852641|tw1107860011060418914|tw10629667202299571993|tw16262790389419999734|tw8605794946041901087|tw4586143799896209939|tw11794522629458700362|tw3029898531501616904|tw3609147485410314811|tw15106260937624655849|tw2087618624171845705|tw5934607629196372683|tw15583292385148958561|tw1898203709517105953|tw6222478958487373392|tw9710093519356159946|tw8732780024094485731|tw13914504290495432459|tw8527383998319800337|tw15014482655290470449|tw6069657451179007127|tw9298627353005599721|tw5679933608109411637|tw16928546192073852655|tw11685955634842734707|tw13464805769227233423|tw1268195848097516548|tw6996762601662684614|tw14690244645712660340|tw9833746554571482516|tw333396713283757481|tw15114293817819083403|tw10783383898815461365|tw101157897896718816|tw12751079877280195759|tw5055558751359809578|tw15973816280382978753|tw11236135243697817113|tw5727438575230771177|tw5079381100473499032|tw12557200387719710020|tw10305583271909353913|tw4083692615585385261|tw8162687206016235616|tw4143213182305743346|tw9120388831962535601|tw8577683696939046791|tw8887908946786903594|tw12026081644558990899|tw11823985210675069789|tw9525771964508030421|tw18352986271757687192|tw10624824546921732419|tw7151022414178762890|tw14253919802054387055|tw5978238810975920202|tw15608657142286898960|tw14111916170596996544|tw10223745947448934531|tw14490463895661461039|tw640223918978617483|tw14670261896574646958|tw6866530297717924913|tw4990148015584823413|tw8445133104369392692|tw2729155081819427003|tw6613684732638237144|tw10476080261403900269|tw7411932126712047178|tw13227219228874319394|tw13447786249752497260|tw14134872529230615465|tw2301198704454166830|tw9569894273907824152|tw10366678614902026964|tw733639554663138560|tw2532786910945694124|tw10504307379976176978|tw15077442367399798538|tw15255216511661364939|tw16227338648468780672|tw8444089868273905117|tw9138474257847164105|tw5177720547965402779|tw12757339537463920364|tw12314845355477286968|tw18395671310538303935|tw16821518980901914289|tw16851760213226971543|tw4090565558990638407|tw1964289776012291852|tw14962572666994430185|tw11126204685160900040|tw15781668270184598664|tw5695415241648950643|tw4047212972182011776|tw4603827376508762404|tw8817373979624783511|tw13432753912434492341|tw14099861690361809310|tw5593291072057783055|tw961159670997860149|tw12636330240425915445|tw11034803665625941973|tw3680288672785516841|tw10702082026431743239|tw14998864503692349162|tw14515748140188925130|tw16336483998092827112|tw16100519838621388475|tw10765154619230069741|tw13363710139726503920|tw17424911860555438660|tw12990791764084134699|tw4415796123815499394|tw17568998942423825060
open PySem PySem.W PyProof.Rows
set_option maxRecDepth 100000 in
set_option maxHeartbeats 0 in
theorem PySem.Challenge.cw_errandend_k16_closure_holds : PySem.Challenge.rw_errandend_k16_closure.Holds := by
 w_on; o_law; k_head; (case hw => w_witness2)
 k_fill
 refine LW.walk (l := PySem.Challenge.rw_errandend_k16_closure) rfl rfl (fun w h Y => PySem.W.kIn_of Y) ?F
 case F =>
  intro w mg fa h KX G hmg
  refine' LW.all_mk KX G hmg ?a_0 ?l_0 ?c_0 ?k_0 ?a_1 ?l_1 ?c_1 ?k_1 ?a_2 ?l_2 ?c_2 ?k_2 ?a_3 ?l_3 ?c_3 ?k_3 ?a_4 ?l_4 ?c_4 ?k_4 ?a_5 ?l_5 ?c_5 ?k_5 ?a_6 ?l_6 ?c_6 ?k_6 ?a_7 ?l_7 ?c_7 ?k_7 ?a_8 ?l_8 ?c_8 ?k_8 ?a_9 ?l_9 ?c_9 ?k_9 ?a_a ?l_a ?c_a ?k_a ?a_b ?l_b ?c_b ?k_b ?a_c ?l_c ?c_c ?k_c ?a_d ?l_d ?c_d ?k_d ?a_e ?l_e ?c_e ?k_e ?a_f ?l_f ?c_f ?k_f ?a_g ?l_g ?c_g ?k_g ?a_h ?l_h ?c_h ?k_h ?a_i ?l_i ?c_i ?k_i ?a_j ?l_j ?c_j ?k_j ?a_k ?l_k ?c_k ?k_k ?a_l ?l_l ?c_l ?k_l ?a_m ?l_m ?c_m ?k_m ?a_n ?l_n ?c_n ?k_n ?a_o ?l_o ?c_o ?k_o ?a_p ?l_p ?c_p ?k_p ?a_q ?l_q ?c_q ?k_q ?a_r ?l_r ?c_r ?k_r ?a_s ?l_s ?c_s ?k_s ?a_t ?l_t ?c_t ?k_t ?a_u ?l_u ?c_u ?k_u ?a_v ?l_v ?c_v ?k_v ?a_w ?l_w ?c_w ?k_w ?a_x ?l_x ?c_x ?k_x ?a_y ?l_y ?c_y ?k_y ?a_z ?l_z ?c_z ?k_z ?a_10 ?l_10 ?c_10 ?k_10 ?a_11 ?l_11 ?c_11 ?k_11 ?a_12 ?l_12 ?c_12 ?k_12 ?z_14 ?z_15 ?z_16 ?z_17 ?z_18 ?z_19 ?z_1a ?z_1b ?z_1c ?z_1d ?z_1e ?z_1f ?z_13 ?x_1g ?x_1h ?x_1i ?x_1j
  (case a_0=>k_is)
  (case l_0=>k_is)
  (case c_0=>k_is)
  (case k_0=>k_is)
  (case a_1=>k_is)
  (case l_1=>k_is)
  (case c_1=>k_is)
  (case k_1=>k_is)
  (case a_2=>k_is)
  (case l_2=>k_is)
  (case c_2=>k_is)
  (case k_2=>k_is)
  (case a_3=>k_is)
  (case l_3=>k_is)
  (case c_3=>k_is)
  (case k_3=>k_is)
  (case a_4=>k_is)
  (case l_4=>k_is)
  (case c_4=>k_is)
  (case k_4=>k_is)
  (case a_5=>k_is)
  (case l_5=>k_is)
  (case c_5=>k_is)
  (case k_5=>k_is)
  (case a_6=>k_is)
  (case l_6=>k_is)
  (case c_6=>k_is)
  (case k_6=>k_is)
  (case a_7=>k_is)
  (case l_7=>k_is)
  (case c_7=>k_is)
  (case k_7=>k_is)
  (case a_8=>k_is)
  (case l_8=>k_is)
  (case c_8=>k_is)
  (case k_8=>k_is)
  (case a_9=>k_is)
  (case l_9=>k_is)
  (case c_9=>k_is)
  (case k_9=>k_is)
  (case a_a=>k_is)
  (case l_a=>k_is)
  (case c_a=>k_is)
  (case k_a=>k_is)
  (case a_b=>k_is)
  (case l_b=>k_is)
  (case c_b=>k_is)
  (case k_b=>k_is)
  (case a_c=>k_is)
  (case l_c=>k_is)
  (case c_c=>k_is)
  (case k_c=>k_is)
  (case a_d=>k_is)
  (case l_d=>k_is)
  (case c_d=>k_is)
  (case k_d=>k_is)
  (case a_e=>k_is)
  (case l_e=>k_is)
  (case c_e=>k_is)
  (case k_e=>k_is)
  (case a_f=>k_is)
  (case l_f=>k_is)
  (case c_f=>k_is)
  (case k_f=>k_is)
  (case a_g=>k_is)
  (case l_g=>k_is)
  (case c_g=>k_is)
  (case k_g=>k_is)
  (case a_h=>k_is)
  (case l_h=>k_is)
  (case c_h=>k_is)
  (case k_h=>k_is)
  (case a_i=>k_is)
  (case l_i=>k_is)
  (case c_i=>k_is)
  (case k_i=>k_is)
  (case a_j=>k_is)
  (case l_j=>k_is)
  (case c_j=>k_is)
  (case k_j=>k_is)
  (case a_k=>k_is)
  (case l_k=>k_is)
  (case c_k=>k_is)
  (case k_k=>k_is)
  (case a_l=>k_is)
  (case l_l=>k_is)
  (case c_l=>k_is)
  (case k_l=>k_is)
  (case a_m=>k_is)
  (case l_m=>k_is)
  (case c_m=>k_is)
  (case k_m=>k_is)
  (case a_n=>k_is)
  (case l_n=>k_is)
  (case c_n=>k_is)
  (case k_n=>k_is)
  (case a_o=>k_is)
  (case l_o=>k_is)
  (case c_o=>k_is)
  (case k_o=>k_is)
  (case a_p=>k_is)
  (case l_p=>k_is)
  (case c_p=>k_is)
  (case k_p=>k_is)
  (case a_q=>k_is)
  (case l_q=>k_is)
  (case c_q=>k_is)
  (case k_q=>k_is)
  (case a_r=>k_is)
  (case l_r=>k_is)
  (case c_r=>k_is)
  (case k_r=>k_is)
  (case a_s=>k_is)
  (case l_s=>k_is)
  (case c_s=>k_is)
  (case k_s=>k_is)
  (case a_t=>k_is)
  (case l_t=>k_is)
  (case c_t=>k_is)
  (case k_t=>k_is)
  (case a_u=>k_is)
  (case l_u=>k_is)
  (case c_u=>k_is)
  (case k_u=>k_is)
  (case a_v=>k_is)
  (case l_v=>k_is)
  (case c_v=>k_is)
  (case k_v=>k_is)
  (case a_w=>k_is)
  (case l_w=>k_is)
  (case c_w=>k_is)
  (case k_w=>k_is)
  (case a_x=>k_is)
  (case l_x=>k_is)
  (case c_x=>k_is)
  (case k_x=>k_is)
  (case a_y=>k_is)
  (case l_y=>k_is)
  (case c_y=>k_is)
  (case k_y=>k_is)
  (case a_z=>k_is)
  (case l_z=>k_is)
  (case c_z=>k_is)
  (case k_z=>k_is)
  (case a_10=>k_is)
  (case l_10=>k_is)
  (case c_10=>k_is)
  (case k_10=>k_is)
  (case a_11=>k_is)
  (case l_11=>k_is)
  (case c_11=>k_is)
  (case k_11=>k_is)
  (case a_12=>k_is)
  (case l_12=>k_is)
  (case c_12=>k_is)
  (case k_12=>k_is)
  (case z_14=>k_is)
  (case z_15=>k_is)
  (case z_16=>k_is)
  (case z_17=>k_is)
  (case z_18=>k_is)
  (case z_19=>k_is)
  (case z_1a=>k_is)
  (case z_1b=>k_is)
  (case z_1c=>k_is)
  (case z_1d=>k_is)
  (case z_1e=>k_is)
  (case z_1f=>k_is)
  (case z_13=>k_is)
  (case x_1g=>k_is)
  (case x_1h=>k_is)
  (case x_1i=>k_is)
  (case x_1j=>kernel_rfl)
#print axioms PySem.Challenge.cw_errandend_k16_closure_holds
