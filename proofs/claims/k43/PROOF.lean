import PyProof.Rows.All
import PyProof.DictRoadsH
import Wide.All
import OpenK.AllK
import Wide.FinOn
import Lean
import PyProof.EqAt
import PyProof.EqKinds
import PyProof.TupleCall
import KE.KTryMore
import PyProof.StationsW
import PyProof.ExcBaseAll.ValueError
import PyProof.Rows.CatchOwn
import PyProof.ZipIter
import PyProof.ListNew
import PyProof.Rows.TupAdd
import PyProof.NeKinds
import KE.KUnpack
import KE.KRevSl
import PyProof.FitsBits
import PyProof.RulesAs
import PyProof.NsDelKeeps
import PyProof.ExcArgsOwn
import OpenK.KDescr
import KE.KIsNot
import PyProof.ExcAttrAll.ValueError
import PyProof.StrOps2
import PyProof.EnumFor
import PyProof.EnumMake
import PyProof.DictCompW
import PyProof.ListRange
import PyProof.DictIter
import KE.KSortKey
import PyProof.Rows.SortStr
import KE.KDictLaws
import KE.KIntText
import PyProof.Rows.StrNews
import KE.KSortTup
import KE.KDictList
import PyProof.Rows.TupTab
import PyProof.FactsAll.tuple_2
import PyProof.FactsAll.tuple_3
import PyProof.Draws
import PySem.Challenge.RW_slashwise_k43_forms_of_parts
open PySem.W (Frag)
open And renaming intro->Z1u
open Array renaming length_toList->Q1u,toList_append->Q2b,toList_push->Q3k,getElem?_eq_getElem->Q4d,toArray_toList->Q4e,forIn_toList->Q4m,getElem?_toList->Q4r,getElem?_eq_some_iff->Q4z,size_push->Q7q,toList_reverse->Q8a,mem_toList_iff->Q8b,toList_map->Q9h,getElem?_eq_none_iff->Q9t,toList_setIfInBounds->Q9u,size_map->Z0a,size_extract->Z2c,size_append->Z2o,size_zip->Z3z,toList->Z4n
open Array.Perm renaming refl->Z1p
open Bool renaming false_eq_true->Q1j,false_ne_true->Q2o,and_eq_true->Q3i,and_self->Q4c,eq_iff_iff->Q5o,not_true->Q5p,true_and->Z0w,and_true->Z1a,false_and->Z4e,and_false->Z4f,not_false->Z4i,or_false->Z4p
open Classical renaming propDecidable->Q6n,not_not->Q8k,byContradiction->Q9i
open False renaming elim->Q5v
open ForInStep renaming yield->Q3l
open Function renaming comp->Q6c
open Int renaming toNat_natCast->Q2i,emod_nonneg->Q3h,emod_lt_of_pos->Q3r,natCast_add->Z4l,ediv_one->Z5s
open LawfulBEq renaming eq_of_beq->Z5x
open Lean renaming mkIdent->Z1r
open List renaming getElem?_eq_getElem->Q0e,size_toArray->Q0g,prefix_refl->Q0h,mem_singleton->Q0i,mem_append->Q0n,getElem?_append_left->Q0o,mem_map->Q0p,length_map->Q0q,getElem?_eq_some_iff->Q0s,mem_append_right->Q0t,map_cons->Q0v,length_append->Q0x,mem_cons->Q1b,getElem?_set_ne->Q1c,length_cons->Q1k,append_assoc->Q1n,getElem?_set_self->Q1o,range->Q1q,nodup_cons->Q1r,replicate->Q1v,map_append->Q1w,getElem?_map->Q1z,mem_cons_of_mem->Q2d,drop_eq_getElem_cons->Q2g,length_take->Q2q,not_mem_nil->Q2r,lookup_cons->Q2s,nodup_append->Q2t,getElem?_append_right->Q2u,append_nil->Q2x,find?_cons->Q2y,getElem_mem->Q3a,length_singleton->Q3c,take_append_drop->Q3d,mem_of_getElem?->Q3g,length->Q3m,perm_append_comm->Q3o,length_eq_zero_iff->Q3t,map_map->Q3v,replicate_succ->Q3x,map_congr_left->Q3y,take_of_length_le->Q3z,all_eq_true->Q4b,mem_filter->Q4i,of_mem_zip->Q4j,drop_eq_nil_of_le->Q4n,mem_cons_self->Q4o,length_nil->Q4t,forIn_cons->Q4u,flatten_cons->Q4y,getD_eq_getElem?_getD->Q5a,mem_append_left->Q5c,mem_range->Q5e,length_drop->Q5j,getElem?_take_of_lt->Q5m,filter_append->Q5r,length_range->Q5w,pairwise_map->Q5x,map_nil->Q6b,any_eq_true->Q6d,mem_iff_getElem->Q6e,mem_of_mem_take->Q6f,any_cons->Q6g,filterMap_cons->Q6h,length_pos_iff->Q6i,map_eq_nil_iff->Q6j,prefix_append->Q6q,drop_zero->Q6v,reverse_cons->Q7b,zipIdx_cons->Q7j,drop_length->Q7l,mem_flatMap->Q7m,pairwise_append->Q8e,mem_of_mem_drop->Q8g,forIn_nil->Q8i,Pairwise->Q8s,take_add->Q8u,length_range'->Q8v,sum_cons->Q8w,eraseIdxIfInBounds_toArray->Q8z,reverse_perm->Q9b,cons_append->Q9j,take_length->Q9o,getElem?_zip_eq_some->Z0i,nodup_nil->Z0j,exists_mem_of_ne_nil->Z0l,getElem?_replicate->Z0s,eraseIdx_cons_succ->Z0u,mem_singleton_self->Z0x,all_cons->Z0y,getElem?_cons_succ->Z0z,range_succ_eq_map->Z1f,filter_eq_nil_iff->Z1l,mem_iff_getElem?->Z1m,getElem?_toArray->Z1n,dropLast_eq_take->Z1o,Perm->Z1q,any_map->Z1s,concat_eq_append->Z1t,getElem?_range->Z2e,mem_filterMap->Z2h,zip_cons_cons->Z2q,take_sublist->Z2u,foldl->Z2w,flatMap_cons->Z3d,getElem_inj->Z3e,map_snd_zip->Z3s,foldl_cons->Z3t,zipIdx_nil->Z3w,length_set->Z3x,head?_drop->Z4a,idxOf_cons->Z4b,filter_nil->Z4c,all_append->Z4d,take_one->Z4w,range'->Z5v
open List.cons renaming injEq->Q7f,inj->Z2g
open Nat renaming le_refl->Q0k,ne_of_lt->Q0y,lt_of_lt_of_le->Q1a,zero_le->Q1f,le_trans->Q1l,ne_of_gt->Q1s,lt_irrefl->Q3n,lt_trans->Q3w,zero_add->Q4x,le_add_right->Q5l,le_of_lt->Q6t,sub_zero->Q6u,lt_succ_of_lt->Q7e,add_assoc->Q7i,min_eq_left->Q8c,le_of_eq->Q9k,min_self->Q9m,lt_add_of_pos_right->Z1j,add_sub_cancel_left->Z1k,mul_le_mul_right->Z2f,sub_self->Z5p,add_zero->Z5t,add_mul->Z6b,one_mul->Z6c
open Ne renaming symm->Q4a
open Option renaming map_eq_some_iff->Q2h,some->Q2l,getD_none->Q7d,map_some->Q9l,isSome_iff_exists->Q9w,getD_some->Z2t
open Option.some renaming inj->Q2j
open Or renaming inr->Q7r,inl->Q9a
open PyProof.Rows renaming SortSt->Q1i,Keyed->Q2a,callWith_type1->Q3b,get?_update_seq->Q3s,listUpdate_at->Q4h,StrsAre->Q4l,slot_tuple_getitem->Q5k,tail_any->Q6w,IsTup->Q7n,seqEpoch_at->Q7x,SortKind->Q7y,AllBare->Q8m,listItems_at->Q8p,size_push'->Q8t,entry_list_sort->Z1i,slot_list_sort->Z1w,IntsAre->Z2l,subscriptTail_builtinR->Z2v,call_function_entry_kw->Z2z,plain_sorted->Z3q,entry_sorted->Z3r,kind_sorted->Z4j,wpAny_call_entry_kw->Z4k,ksk_tail->Z4u,ksk_rest->Z4v,Subscript_->Z5b,callWith_builtin1->Z5r,wpAny_notIn_heap->Z5u,SortedToK->Z6a
open PySem renaming wpAny_bind->Q0a,Value->Q0b,Shared->Q0d,wpAny_pure->Q0f,sizeLine->Q0l,Addr->Q0u,wpAny->Q1d,Program->Q1e,Builtin->Q1g,Heap->Q1h,starEach->Q1m,wpAny_mono->Q1p,Around->Q1t,World->Q1x,mainGlobals->Q1y,wpAny_holding->Q2e,wpAny_field->Q2f,wpAny_newObj_type->Q2k,wpAny_call_entry->Q2n,wpAny_callSpecial?_slot->Q2v,Paired->Q2w,FuncData->Q2z,wpAny_seqItems->Q3j,wpAny_rule->Q3p,wpAny_Call_Name_kw->Q4f,wpAny_setField_rec->Q4g,wpAny_standAt->Q4p,sizeLine_eq->Q4q,wpAny_typeNameOfWhole_keyiter->Q4s,Scope->Q5b,wpAny_passesOwn->Q5d,NameKind->Q5h,mem_of_lookup->Q5i,wpAny_setField->Q5n,Stmt->Q5q,IsPair->Q5t,wpAny_typeNameOf_keyiter->Q5u,wpAny_pyIter_tuple->Q5y,wpAny_attempt->Q5z,Fin->Q6a,wpAny_newList->Q6r,wpAny_specialOf->Q6x,wpAny_execs_nil->Q6y,wpAny_updateSeq->Q7a,wpAny_newTuple->Q7k,eqIsQuiet_byValue->Q7o,call_meets->Q7p,wpAny_letGo->Q7u,wpAny_isInstance->Q8d,codeAny_builtin->Q8o,wpAny_loadPart'->Q8r,wpAny_updateSeq_pair->Q8y,Keyword->Q9d,wpAny_onRaise->Q9p,ExceptHandler->Q9r,slot_list_getitem->Q9x,wpAny_dictEntries->Q9z,IsPart->Z0d,call_meetsIn->Z0f,wpAny_eqBool_int->Z0m,noFill_tuple_add->Z0n,Model->Z1b,DictEntry->Z1c,IsZip->Z1d,wpAny_dictEpoch->Z1h,isSubtype_stop->Z1v,wpAny_getItem_list_slice->Z1y,PlainAttrs->Z1z,wpAny_comprehension_free->Z2a,BindsTo->Z2i,seq_tuple_add->Z2j,evalPart_none->Z2k,call->Z2m,plainId_quiet->Z2n,codeAny_compStart_list->Z2y,PassesOwn->Z3f,codeAny_mono->Z3g,concat_meets->Z3h,codeAny_loop->Z3k,builtinLookup_eq_fast->Z3m,wpAny_notOrdered_dict->Z3o,wpAny_isOneOf_keyiter->Z3p,wpAny_newFunctionEnv->Z3v,wpAny_noted->Z4g,Result->Z4o,wpAny_getItem_heap->Z4r,tupleKind_room_in1->Z4s,wpAny_Name->Z4x,wpAny_assign_Name->Z4y,wpAny_truthy_bool->Z4z,wpAny_sequenceKey->Z5a,typeIs_str->Z5c,typeIs_int->Z5d,wpAny_pyIter_list->Z5h,slot_dict_setitem->Z5i,wpAny_pyIter_slot->Z5j,Draws->Z5l,wpAny_pyIter_enum->Z5m,wpAny_eqBool_str->Z5n,wpAny_forIn_list->Z5o,wpAny_execs_cons->Z5q,CmpOp->Z5w,typeLookup_type->Z5z
open PySem.AutoSeq1 renaming wpAny_loadPart'->Q9q
open PySem.Calls renaming spliced_cons->Q8n,spliced_nil->Q8x,Name_function_global->Q9s,callWith_builtin->Z0t,Constant_str->Z1x
open PySem.Challenge renaming pw_slashwise_k43_forms_of_parts->Z4m
open PySem.EntryCells renaming newEntry->Z0e
open PySem.F renaming slot_dict_keyiterator_next->Q2m,slot_tuple_iterator_next->Q5g,slot_dict_getitem->Q6m,args_tuple_add_2->Q6o,plain_extend_loop->Q6p,entry_tuple_add->Q6z,slot_tuple_add->Q7c,slot_tuple_hash->Q7h,args_dict_keyiterator_next_1->Q7t,entry_dict_keyiterator_next->Q7w,slot_dict_keyiterator_iter->Q8f,slot_zip_next->Q8j,slot_tuple_index->Q9v,args_dict_get_3->Q9y,plain_list_iadd->Z0b,entry_dict_get->Z0g,args_tuple_iterator_next_1->Z0h,slot_dict_iter->Z0k,slot_dict_get->Z0p,entry_tuple_iterator_next->Z0q,args_list_extend_2->Z2x,entry_list_extend->Z3i,entry_extend_loop->Z3l,slot_list_extend->Z3u,args_zip_next_1->Z4h,entry_list_pop->Z4q,entry_zip_next->Z4t,slot_list_pop->Z5e,slot_int_rmul->Z5f
open PySem.Heap renaming get?_push_of_some->Q0c,lt_size->Q0m,get?_push_size->Q0w
open PySem.Obj renaming mapSeq->Q2c,data_mapFields->Q3q,isFreed_of_fields->Q4w,mapFields->Q5s,cls_mapFields->Q9g,data_mapDictKeys->Z2b,isFreed_of_dict->Z2p,data_mapDict->Z3y
open PySem.ScopeKind renaming function->Z0v
open PySem.SeqAt renaming EqAt->Q4v,eq_list_lengthsAt->Z0r,RcNeAt->Z1g,eq_listAt->Z3n
open PySem.Str renaming ofString->Q0j,empty->Q6l,length->Q9e
open PySem.Txt renaming slice->Q7v,find->Z1e
open PySem.W renaming kasC_bind->Q0r,kasC_pure->Q0z,Frag->Q2p,mg_none_of->Q3e,nsIn->Q3f,kasC_range->Q3u,fnOf->Q5f,keepIn->Q6k,kasC_get->Q7g,codeIn->Q7s,kasC_modify->Q7z,mg_of->Q8h,methodObj->Q8l,kasC_lift->Q8q,OpenLaw->Q9f,cellsFrom_some->Z0c,kat_cons->Z2d,KatTups->Z2r,kat_yes->Z2s,kat_go->Z3a,kat_no->Z3b,KdlSrc->Z3c,WalkO->Z3j
open PySem.W.Looks renaming of_pure->Z5k
open PySem.W.WData renaming int->Z5y
open PySem.W.WShape renaming has->Z5g
open StateT renaming run_pure->Q9n
open Std.Legacy renaming Range->Q6s
open Sum renaming inr->Q4k,inl->Q9c
open True renaming intro->Z0o
set_option Elab.async false
set_option linter.all false
set_option maxRecDepth 100000
set_option maxHeartbeats 4000000
noncomputable section
namespace L2
open PySem PySem.Spec PyProof.Rows
abbrev Key:=Sum Int Str
def z0a:Key->Q0b->Bool
 |.inl k,v=>Q0b.isInt k v
 |.inr x,v=>Q0b.isStrOf x v
def keyH(w:Q1x):Key->Int
 |.inl k=>hashInt k
 |.inr x=>hashStr w x
theorem q0p:∀{k:Key}{v:Q0b},z0a k v=true->(∃i t,k=Q9c i/\v=Q0b.int i t)\/(∃x t,k=Q4k x/\v=Q0b.str x t)
 |.inl i,v,h=>by
  obtain⟨t,e⟩:=Q0b.isInt_shape (k:=i) (v:=v) h
  exact .inl ⟨i,t,rfl,e⟩
 |.inr x,v,h=>by
  obtain⟨t,e⟩:=Q0b.isStrOf_shape (x:=x) (v:=v) h
  exact .inr ⟨x,t,rfl,e⟩
theorem z9r(i:Int)(t:Tok):z0a (.inl i) (.int i t)=true:=by simp[z0a,Q0b.isInt]
theorem z9q(x:Str)(t:Tok):z0a (.inr x) (.str x t)=true:=by simp[z0a,Q0b.isStrOf]
theorem x3e(a b:Int):decide ((Q9c a:Key)=Q9c b)=(a==b):=by
 by_cases e:a=b
 ·subst e;simp
 ·have h:¬(Q9c a:Key)=Q9c b:=fun q=>e (Q9c.inj q)
  rw[decide_eq_false h]
  exact(beq_eq_false_iff_ne.mpr e).symm
theorem x3b(a b:Str):decide ((Q4k a:Key)=Q4k b)=decide (a=b):=by
 by_cases e:a=b
 ·subst e;simp
 ·have h:¬(Q4k a:Key)=Q4k b:=fun q=>e (Q4k.inj q)
  rw[decide_eq_false h,decide_eq_false e]
theorem x3d(a:Int)(b:Str):decide ((Q9c a:Key)=Q4k b)=false:=decide_eq_false (fun q=>nomatch q)
theorem x3c(a:Str)(b:Int):decide ((Q4k a:Key)=Q9c b)=false:=decide_eq_false (fun q=>nomatch q)
def q0s(prog:Q1e)(w:Q1x):PySem.KeyKind prog w Key where
 is:=z0a
 hash:=keyH w
 inj:=fun v a b ha hb=>by
  rcases q0p ha with⟨i,t,rfl,rfl⟩|⟨x,t,rfl,rfl⟩
  ·rcases q0p hb with⟨j,u,rfl,e⟩|⟨y,u,rfl,e⟩
   ·injection e with e1 _;rw[e1]
   ·exact nomatch e
  ·rcases q0p hb with⟨j,u,rfl,e⟩|⟨y,u,rfl,e⟩
   ·exact nomatch e
   ·injection e with e1 _;rw[e1]
 byValue:=fun k v h=>by
  rcases q0p h with⟨i,t,rfl,rfl⟩|⟨x,t,rfl,rfl⟩<;>rfl
 pyHash:=fun hv h=>by
  rcases q0p hv with⟨i,t,rfl,rfl⟩|⟨x,t,rfl,rfl⟩
  ·exact wpAny_pyHash_int h
  ·exact wpAny_pyHash_str h
 eqBool:=fun hu hv h=>by
  rcases q0p hu with⟨i,t,rfl,rfl⟩|⟨x,t,rfl,rfl⟩
  ·rcases q0p hv with⟨j,u,rfl,rfl⟩|⟨y,u,rfl,rfl⟩
   ·rw[x3e]at h;exact Z0m h
   ·rw[x3d]at h;exact Q4v.int_str i t y u _ _ _ _ h
  ·rcases q0p hv with⟨j,u,rfl,rfl⟩|⟨y,u,rfl,rfl⟩
   ·rw[x3c]at h;exact Q4v.str_int x t j u _ _ _ _ h
   ·rw[x3b]at h;exact Z5n h
 «strs»:=fun k x t v h=>by
  rcases q0p h with⟨i,u,rfl,e⟩|⟨y,u,rfl,e⟩
  ·exact nomatch e
  ·injection e with e1 _
   subst e1
   cases v<;>rfl
theorem q6f(prog:Q1e)(w:Q1x)(i:Int)(t:Tok):(q0s prog w).is (.inl i) (.int i t)=true:=z9r i t
theorem q6e(prog:Q1e)(w:Q1x)(x:Str)(t:Tok):(q0s prog w).is (.inr x) (.str x t)=true:=z9q x t
inductive V where
 |non|bl (b:Bool)|int (i:Int)|str (x:Str)|byt (b:Array UInt8)|flt (b:UInt64)|ref (a:Q0u)|ty (n:String)
 deriving DecidableEq
def RelV:V->Q0b->Prop
 |.non,u=>u=Q0b.none
 |.bl b,u=>u=Q0b.bool b
 |.int i,u=>∃t,u=Q0b.int i t
 |.str x,u=>∃t,u=Q0b.str x t
 |.byt b,u=>∃t,u=Q0b.bytes b t
 |.flt b,u=>∃t,u=Q0b.float b t
 |.ref a,u=>u=Q0b.ref a
 |.ty n,u=>u=Q0b.type n
abbrev Vals:List V->List Q0b->Prop:=Q2w RelV
theorem Vals.length{xs:List V}{us:List Q0b}(r:Vals xs us):xs.length=us.length:=Q2w.length r
theorem Vals.get:∀{xs:List V}{us:List Q0b}{i:Nat}{x:V},Vals xs us->xs[i]?=some x->∃u,us[i]?=some u/\RelV x u
 |_,_,_,_,.nil,e=>by simp at e
 |_,_,0,_,.cons r _,e=>by simp at e;subst e;exact⟨_,rfl,r⟩
 |_,_,i+1,x,.cons _ t,e=>by
  obtain⟨u,h1,h2⟩:=Vals.get (i:=i) (x:=x) t (by simpa using e)
  exact⟨u,by simpa using h1,h2⟩
theorem Vals.set{x:V}{u:Q0b}(r:RelV x u):∀{xs:List V}{us:List Q0b}(i:Nat),Vals xs us->Vals (xs.set i x) (us.set i u)
 |_,_,_,.nil=>.nil
 |_,_,0,.cons _ t=>.cons r t
 |_,_,i+1,.cons q t=>.cons q (Vals.set r i t)
theorem Vals.append:∀{xs ys:List V}{us ws:List Q0b},Vals xs us->Vals ys ws->Vals (xs++ys) (us++ws)
 |_,_,_,_,.nil,s=>s
 |_,_,_,_,.cons r t,s=>.cons r (Vals.append t s)
theorem Vals.take:∀{xs:List V}{us:List Q0b}(n:Nat),Vals xs us->Vals (xs.take n) (us.take n)
 |_,_,0,_=>.nil
 |_,_,_+1,.nil=>.nil
 |_,_,n+1,.cons r t=>.cons r (Vals.take n t)
theorem Vals.drop:∀{xs:List V}{us:List Q0b}(n:Nat),Vals xs us->Vals (xs.drop n) (us.drop n)
 |_,_,0,r=>r
 |_,_,_+1,.nil=>.nil
 |_,_,n+1,.cons _ t=>Vals.drop n t
def RelO:Option V->Option Q0b->Prop
 |some v,some u=>RelV v u
 |none,none=>True
 |_,_=>False
def KV{κ:Type}:List (κ×V)->List (κ×Q0b)->Prop:=Q2w fun(p:κ×V) (q:κ×Q0b)=>p.1=q.1/\RelV p.2 q.2
def kV:Key->V
 |.inl i=>.int i
 |.inr x=>.str x
inductive KTr where
 |int (i:Int)|str (x:Str)|tup (xs:List KTr)
instance x6v:DecidableEq KTr:=fun _ _=>Q6n _
mutual
def kdep:KTr->Nat
 |.tup xs=>1+z0b xs
 |_=>0
def z0b:List KTr->Nat
 |[]=>0
 |x::xs=>max (kdep x) (z0b xs)
end
theorem q4o:∀{xs:List KTr}{j:Nat}{x:KTr},xs[j]?=some x->kdep x<=z0b xs
 |[],_,_,e=>by simp at e
 |x::xs,0,y,e=>by simp at e;subst e;simp only[z0b];omega
 |x::xs,j+1,y,e=>by simp at e;have:=q4o e;simp only[z0b];omega
theorem q2z(A:Q1t):A.in1.units=A.units+1:=rfl
theorem q7i{xs:List KTr}{j:Nat}{x:KTr}(e:xs[j]?=some x):xs.getD j (.int 0)=x:=by rw[Q5a,e];rfl
mutual
def TrA(h:Q1h):KTr->Q0b->Prop
 |.int i,v=>∃t,v=.int i t
 |.str x,v=>∃t,v=.str x t
 |.tup xs,v=>∃(a:Q0u)(its:List Q0b),v=.ref a/\Q7n h a its.toArray/\TrAs h xs its
def TrAs(h:Q1h):List KTr->List Q0b->Prop
 |[],vs=>vs=[]
 |x::xs,vs=>∃y ys,vs=y::ys/\TrA h x y/\TrAs h xs ys
end
theorem Q7n.same{h:Q1h}{a:Q0u}{xs ys:List Q0b}(p:Q7n h a xs.toArray)(q:Q7n h a ys.toArray):xs=ys:=by
 obtain⟨o,e,_,n,d⟩:=p
 obtain⟨o',e',_,n',d'⟩:=q
 obtain rfl:o=o':=Q2j (e.symm.trans e')
 rw[d]at d'
 injection d' with h1 _
 simpa using h1
mutual
theorem TrA.inj{h:Q1h}:∀{x y:KTr}{v:Q0b},TrA h x v->TrA h y v->x=y
 |.int i,y,v,⟨t,e⟩,q=>by
  subst e
  cases y with
  |int j=>obtain⟨t',e⟩:=q;cases e;rfl
  |str z=>obtain⟨t',e⟩:=q;cases e
  |tup ys=>obtain⟨a,its,e,_⟩:=q;cases e
 |.str x,y,v,⟨t,e⟩,q=>by
  subst e
  cases y with
  |int j=>obtain⟨t',e⟩:=q;cases e
  |str z=>obtain⟨t',e⟩:=q;cases e;rfl
  |tup ys=>obtain⟨a,its,e,_⟩:=q;cases e
 |.tup xs,y,v,⟨a,its,e,p,r⟩,q=>by
  subst e
  cases y with
  |int j=>obtain⟨t',e⟩:=q;cases e
  |str z=>obtain⟨t',e⟩:=q;cases e
  |tup ys=>
   obtain⟨b,its2,e,p2,r2⟩:=q
   cases e
   have:=Q7n.same p p2
   subst this
   rw[TrAs.inj r r2]
theorem TrAs.inj{h:Q1h}:∀{xs ys:List KTr}{vs:List Q0b},TrAs h xs vs->TrAs h ys vs->xs=ys
 |[],[],_,_,_=>rfl
 |[],_::_,_,h,⟨_,_,e,_⟩=>by rw[show _=[]from h]at e;cases e
 |_::_,[],_,⟨_,_,e,_⟩,h=>by rw[show _=[]from h]at e;cases e
 |x::xs,y::ys,_,⟨a,b,e,r,t⟩,⟨a',b',e',r',t'⟩=>by
  subst e
  cases e'
  rw[TrA.inj r r',TrAs.inj t t']
end
mutual
theorem TrA.at{h h':Q1h}(k:∀a its,Q7n h a its->Q7n h' a its):∀{x:KTr}{v:Q0b},TrA h x v->TrA h' x v
 |.int i,_,h=>h
 |.str x,_,h=>h
 |.tup xs,_,⟨a,its,e,p,r⟩=>⟨a,its,e,k _ _ p,TrAs.at k r⟩
theorem TrAs.at{h h':Q1h}(k:∀a its,Q7n h a its->Q7n h' a its):∀{xs:List KTr}{vs:List Q0b},TrAs h xs vs->TrAs h' xs vs
 |[],_,h=>h
 |x::xs,_,⟨y,ys,e,r,t⟩=>⟨y,ys,e,TrA.at k r,TrAs.at k t⟩
end
theorem TrAs.length{h:Q1h}:∀{xs:List KTr}{vs:List Q0b},TrAs h xs vs->xs.length=vs.length
 |[],_,h=>by rw[show _=[]from h];rfl
 |_::xs,_,⟨y,ys,e,_,t⟩=>by rw[e,Q1k,Q1k,TrAs.length t]
theorem TrAs.get{h:Q1h}:∀{xs:List KTr}{vs:List Q0b}{i:Nat}{x:KTr},TrAs h xs vs->xs[i]?=some x->∃y,vs[i]?=some y/\TrA h x y
 |[],_,_,_,_,e=>by simp at e
 |x::xs,_,0,x',⟨y,ys,e,r,t⟩,q=>by
  simp at q;subst q;subst e
  exact⟨y,by simp,r⟩
 |x::xs,_,i+1,x',⟨y,ys,e,r,t⟩,q=>by
  subst e
  obtain⟨z,h1,h2⟩:=TrAs.get (i:=i) t (by simpa using q)
  exact⟨z,by simpa using h1,h2⟩
theorem y9p(xs ys:List KTr):((Q1q (min xs.length ys.length)).all (fun j=>decide (xs.getD j (.int 0)=ys.getD j (.int 0)))&&xs.length==ys.length)=decide (KTr.tup xs=KTr.tup ys):=by
 rw[Q5o]
 simp only[Q3i,Q4b,Q5e,decide_eq_true_eq,beq_iff_eq,KTr.tup.injEq]
 constructor
 ·rintro⟨h,hl⟩
  apply List.ext_getElem hl
  intro n h1 h2
  have:=h n (by omega)
  rw[Q5a,Q5a,Q0e h1,Q0e h2]at this
  exact this
 ·rintro rfl
  exact⟨fun _ _=>rfl,rfl⟩
theorem x4o{s:Q0d}:∀(d:Nat)(A:Q1t)(x y:KTr)(v u:Q0b),kdep x<=d->A.units+d<cLine->TrA s.heap x v->TrA s.heap y u->Q4v A s v u (decide (x=y)):=by
 intro d
 induction d with
 |zero=>
  intro A x y v u hd hu rx ry
  cases x with
  |tup xs=>simp[kdep]at hd
  |int a=>
   obtain⟨t,rfl⟩:=rx
   cases y with
   |int b=>obtain⟨t',rfl⟩:=ry;rw[show decide (KTr.int a=KTr.int b)=(a==b) by rw[Q5o];simp];exact .int_int a t b t'
   |str b=>obtain⟨t',rfl⟩:=ry;simpa using Q4v.int_str (A:=A) (s:=s) a t b t'
   |tup ys=>obtain⟨b,its,rfl,p,_⟩:=ry;simpa using Q4v.int_tuple (A:=A) (s:=s) a t p (by omega)
  |str a=>
   obtain⟨t,rfl⟩:=rx
   cases y with
   |int b=>obtain⟨t',rfl⟩:=ry;simpa using Q4v.str_int (A:=A) (s:=s) a t b t'
   |str b=>obtain⟨t',rfl⟩:=ry;rw[show decide (KTr.str a=KTr.str b)=(a==b) by rw[Q5o];simp];exact .str_str a t b t'
   |tup ys=>obtain⟨b,its,rfl,p,_⟩:=ry;simpa using Q4v.str_tuple (A:=A) (s:=s) a t p (by omega)
 |succ d ih=>
  intro A x y v u hd hu rx ry
  cases x with
  |tup xs=>
   obtain⟨a,its,rfl,p1,r1⟩:=id rx
   cases y with
   |int b=>obtain⟨t',rfl⟩:=ry;simpa using Q4v.tuple_int (A:=A) (s:=s) b t' p1 (by omega)
   |str b=>obtain⟨t',rfl⟩:=ry;simpa using Q4v.tuple_str (A:=A) (s:=s) b t' p1 (by omega)
   |tup ys=>
    obtain⟨b,its2,rfl,p2,r2⟩:=id ry
    by_cases hab:a=b
    ·subst hab
     rw[decide_eq_true (TrA.inj rx ry)]
     exact .same _
    ·refine .of_refs hab ?_
     have e:decide (KTr.tup xs=KTr.tup ys)=((Q1q (min its.toArray.size its2.toArray.size)).all (fun j=>decide (xs.getD j (.int 0)=ys.getD j (.int 0)))&&its.toArray.size==its2.toArray.size):=by
      rw[Q0g,Q0g,<-r1.length,<-r2.length,y9p]
     rw[e]
     refine .tuples p1 p2 (by omega) fun j h1 h2=>?_
     have hj1:j<xs.length:=by rw[r1.length];simpa using h1
     have hj2:j<ys.length:=by rw[r2.length];simpa using h2
     have e1:xs[j]?=some xs[j]:=Q0e hj1
     have e2:ys[j]?=some ys[j]:=Q0e hj2
     obtain⟨v1,g1,q1⟩:=r1.get e1
     obtain⟨v2,g2,q2⟩:=r2.get e2
     have l1:j<its.length:=by simpa using h1
     have l2:j<its2.length:=by simpa using h2
     rw[q7i e1,q7i e2]
     rw[Q0e l1]at g1
     rw[Q0e l2]at g2
     cases g1
     cases g2
     have hdd:=q4o e1
     simp only[kdep]at hd
     exact ih A.in1 _ _ _ _ (by omega) (by rw[q2z];omega) (by simpa using q1) (by simpa using q2)
  |int a=>exact ih A _ _ v u (Q1f _) (by omega) rx ry
  |str a=>exact ih A _ _ v u (Q1f _) (by omega) rx ry
mutual
def trH(P:Q1e)(w:Q1x):KTr->Int
 |.int i=>(q0s P w).hash (.inl i)
 |.str x=>(q0s P w).hash (.inr x)
 |.tup xs=>reduceHash (Q1g.Tuple.tupleHashOf (trHs P w xs))
def trHs(P:Q1e)(w:Q1x):List KTr->List Int
 |[]=>[]
 |x::xs=>trH P w x::trHs P w xs
end
mutual
def trD:KTr->Nat
 |.tup xs=>trDs xs+1
 |_=>1
def trDs:List KTr->Nat
 |[]=>0
 |x::xs=>trD x+trDs xs
end
def HsAt(P:Q1e)(w:Q1x)(A:Q1t)(h:Q1h)(v:Q0b)(x:Int)(d:Nat):Prop:=∀(E:Q0b->Q0d->Prop)(s:Q0d)(Q:Int->Q0d->Prop),s.heap=h->Q x {s with toks:=s.toks+d}->Q1d (model P w) A (pyHash v) Q E s
theorem x3k{P:Q1e}{w:Q1x}{A:Q1t}{h:Q1h}{a:Q0u}{its:List Q0b}{xs:List KTr}(hu:A.units<cLine)(p:Q7n h a its.toArray)(hl:xs.length=its.length)(hi:∀(j:Nat)(x:KTr)(v:Q0b),xs[j]?=some x->its[j]?=some v->HsAt P w A.in1 h v (trH P w x) (trD x)) :
  HsAt P w A h (.ref a) (trH P w (.tup xs)) (trD (.tup xs)):=by
 intro E s Q eh hQ
 subst eh
 obtain⟨o,ho,hc,n,hd⟩:=p
 have hT:s.TypeIs (.ref a) "tuple" :=⟨o,ho,hc⟩
 unfold pyHash
 first|unfold pyHashByItsType|skip
 first|refine Q0a (wpAny_cRoomFor_or (.inr hu) ?_)|skip
 refine Q0a (Q6x hT Q7h.lookup ?_)
 show Q1d _ _ (if(some (Q0b.builtin "tuple.__hash__")==some Q0b.none)=true then _ else _) Q E s
 rw[if_neg (by rw[beq_builtin_none];exact Q2o)]
 refine Q0a (Q6x hT Q7h.lookup ?_)
 show Q1d _ _ (callSpecialIfBoundUnlessNone? (.ref a) "__hash__" _ >>= _) Q E s
 refine Q0a (wpAny_callSpecialIfBoundUnlessNone?_slot hT Q7h (Q2n Q7h hT F.entry_tuple_hash ?_ (F.args_tuple_hash_1 _)))
 show Q1d _ _ (Q1g.Tuple.tupleItemsOf (.ref a) >>= _) _ _ s
 refine Q0a (wpAny_tupleItemsOf ho hd ?_)
 refine Q0a ?_
 rw[<-Q4m]
 refine Z5o _
  (fun rest (b:Array Int) s'=>∃(done left:List KTr),xs=done++left/\its.drop done.length=rest/\b.toList=trHs P w done/\s'={s with toks:=s.toks+trDs done})
  _ ?_ ?_ _ _ ⟨[],xs,rfl,rfl,rfl,rfl⟩
 ·rintro v rest b s' ⟨done,left,e1,e2,hb,rfl⟩
  have hlt:done.length<its.length:=by
   rcases Nat.lt_or_ge done.length its.length with z|z
   ·exact z
   ·rw[Q4n z]at e2;cases e2
  rw[Q2g hlt]at e2
  obtain⟨ev,er⟩:=Z2g e2
  obtain⟨x,left',rfl⟩:∃x l,left=x::l:=by
   cases left with
   |nil=>rw[Q2x]at e1;subst e1;omega
   |cons x l=>exact⟨x,l,rfl⟩
  have hx:xs[done.length]?=some x:=by rw[e1,Q2u (Q0k _),Z5p];rfl
  have hv:its[done.length]?=some v:=by rw[Q0e hlt,ev]
  have sn:∀(l:List KTr),trHs P w (l++[x])=trHs P w l++[trH P w x]:=fun l=>by
   induction l with
   |nil=>rfl
   |cons a r ih=>simp only[Q9j,trHs,ih]
  have sd:∀(l:List KTr),trDs (l++[x])=trDs l+trD x:=fun l=>by
   induction l with
   |nil=>simp[trDs]
   |cons a r ih=>simp only[Q9j,trDs,ih];omega
  refine Q0a (hi done.length x v hx hv _ _ _ rfl ?_)
  have fin:∃(done' left'':List KTr),xs=done'++left''/\its.drop done'.length=rest/\(b.push (trH P w x)).toList=trHs P w done'/\({s with toks:=s.toks+trDs done+trD x}:Q0d)={s with toks:=s.toks+trDs done' }:=
   ⟨done++[x],left',by rw[e1];simp,by rw[Q0x,Q3c];exact er,by rw[sn,Q3k,hb],by rw[sd,Q7i]⟩
  first
   |exact Q0f fin
   |exact Q0a (Q0f (Q0f fin))
 ·rintro b s' ⟨done,left,e1,e2,hb,rfl⟩
  have hz:left=[]:=by
   have h1:its.length<=done.length:=List.drop_eq_nil_iff.mp e2
   have h2:=congrArg Q3m e1
   rw[Q0x]at h2
   cases left with
   |nil=>rfl
   |cons _ _=>simp at h2;omega
  subst hz
  rw[Q2x]at e1
  subst e1
  show Q1d _ _ (retInt (Q1g.Tuple.tupleHashOf b.toList)) _ _ _
  rw[hb]
  refine wpAny_ret_mkInt ?_
  show Q1d _ _ (if(decide (-(2:Int) ^ 63<=Q1g.Tuple.tupleHashOf (trHs P w xs))&&decide (Q1g.Tuple.tupleHashOf (trHs P w xs)<2 ^ 63))=true then _ else _) Q E _
  simp only[trH,trD]at hQ
  unfold reduceHash at hQ
  by_cases hr:(decide (-(2:Int) ^ 63<=Q1g.Tuple.tupleHashOf (trHs P w xs))&&decide (Q1g.Tuple.tupleHashOf (trHs P w xs)<2 ^ 63))=true
  ·rw[if_pos hr]
   rw[if_pos hr]at hQ
   exact Q0f (by simpa[Q7i]using hQ)
  ·rw[if_neg hr]
   rw[if_neg hr]at hQ
   exact Q0a (Q3p (Q0f (by simpa[Q7i]using hQ)))
theorem y5t{P:Q1e}{w:Q1x}{h:Q1h}:∀(d:Nat)(A:Q1t)(x:KTr)(v:Q0b),kdep x<=d->A.units+d<cLine->TrA h x v->HsAt P w A h v (trH P w x) (trD x):=by
 intro d
 have atom:∀(A:Q1t)(k:Key)(v:Q0b),(q0s P w).is k v=true->HsAt P w A h v ((q0s P w).hash k) 1:=fun A k v hk E s Q eh hQ=>(q0s P w).pyHash hk hQ
 induction d with
 |zero=>
  intro A x v hd hu r
  cases x with
  |tup xs=>simp[kdep]at hd
  |int a=>obtain⟨t,rfl⟩:=r;exact atom A (.inl a) _ (q6f P w a t)
  |str a=>obtain⟨t,rfl⟩:=r;exact atom A (.inr a) _ (q6e P w a t)
 |succ d ih=>
  intro A x v hd hu r
  cases x with
  |tup xs=>
   obtain⟨a,its,rfl,p,q⟩:=r
   refine x3k (by omega) p q.length fun j x v e1 e2=>?_
   obtain⟨v',g,q'⟩:=q.get e1
   rw[e2]at g
   cases g
   have:=q4o e1
   simp only[kdep]at hd
   exact ih A.in1 x v (by omega) (by rw[q2z];omega) q'
  |int a=>exact ih A _ v (Q1f _) (by omega) r
  |str a=>exact ih A _ v (Q1f _) (by omega) r
theorem y1n{P:Q1e}{w:Q1x}{A:Q1t}{E:Q0b->Q0d->Prop}{s:Q0d}:∀(n:Nat)(x:KTr)(v:Q0b)(Q:Bool->Q0d->Prop),kdep x<=n->TrA s.heap x v->Q true s->Q1d (model P w) A (eqIsQuiet n v) Q E s:=by
 intro n
 induction n with
 |zero=>
  intro x v Q hd r hQ
  cases x with
  |tup xs=>simp[kdep]at hd
  |int a=>obtain⟨t,rfl⟩:=r;rw[Q7o 0 rfl];exact Q0f hQ
  |str a=>obtain⟨t,rfl⟩:=r;rw[Q7o 0 rfl];exact Q0f hQ
 |succ n ih=>
  intro x v Q hd r hQ
  cases x with
  |int a=>obtain⟨t,rfl⟩:=r;rw[Q7o _ rfl];exact Q0f hQ
  |str a=>obtain⟨t,rfl⟩:=r;rw[Q7o _ rfl];exact Q0f hQ
  |tup xs=>
   obtain⟨a,its,rfl,⟨o,ho,hc,n',hd'⟩,q⟩:=r
   have hT:s.TypeIs (.ref a) "tuple" :=⟨o,ho,hc⟩
   simp only[kdep]at hd
   unfold eqIsQuiet
   refine Q0a (Q6x hT F.slot_tuple_eq.lookup ?_)
   show Q1d _ _ (isInstance (.ref a) (.type "tuple") >>= _) _ _ s
   refine Q0a (Q8d hT isSubtype_tuple_tuple ?_)
   simp only[Q5p,Q1j,if_false]
   refine Q0a (Q3j ho hd' ?_)
   refine Q0a ?_
   show Q1d _ _ (forIn its.toArray _ _) _ _ s
   rw[<-Q4m]
   refine Z5o _ (fun rest r s'=>r.1=none/\s'=s/\∀v∈rest,∃y,kdep y<=n/\TrA s.heap y v) _ ?_ ?_ _ _ ⟨rfl,rfl,fun v hv=>?_⟩
   ·rintro v rest r s' ⟨hr,rfl,hall⟩
    obtain⟨y,h1,h2⟩:=hall v Q4o
    refine Q0a (ih y v _ h1 h2 ?_)
    simp only[Q5p,Q1j,if_false]
    exact Q0f ⟨rfl,rfl,fun u hu'=>hall u (Q2d _ hu')⟩
   ·rintro⟨r1,r2⟩ s' ⟨hr,rfl,_⟩
    simp only at hr
    subst hr
    exact Q0f hQ
   ·obtain⟨j,hj⟩:=Z1m.mp hv
    have hjl:j<its.length:=by
     have:=(Q0s.mp hj).1
     simpa using this
    have hjx:j<xs.length:=by rw[q.length];exact hjl
    obtain⟨v',g,q'⟩:=q.get (Q0e hjx)
    have:v'=v:=by
     have hj':its[j]?=some v:=by simpa using hj
     rw[hj']at g
     exact(Q2j g).symm
    subst this
    have:=q4o (Q0e hjx)
    exact⟨_,by omega,q'⟩
def q3t(P:Q1e)(w:Q1x):HeapKind P w KTr where
 is:=fun h x a=>(∃xs,x=.tup xs)/\kdep x<=8/\TrA h x (.ref a)
 hash:=trH P w
 draws:=trD
 room:=fun A=>A.units+8<cLine
 inj:=fun hx hy=>TrA.inj hx.2.2 hy.2.2
 keeps:=fun {h h' k a d o es ep} hk ho hd hs=>⟨hk.1,hk.2.1,TrA.at (fun b its ⟨o',e,c,n,q⟩=>⟨o',(hs.2 b (by
  rintro rfl
  obtain rfl:o'=o:=Q2j (e.symm.trans ho)
  rw [hd]at q;exact nomatch q)).trans e,c,n,q⟩) hk.2.2⟩
 pyHash:=fun hu hk h=>y5t 8 _ _ _ hk.2.1 hu hk.2.2 _ _ _ rfl h
 eqBool:=fun {A E s x y a b Q} hu hx hy h=>x4o 8 A x y _ _ hx.2.1 hu hx.2.2 hy.2.2 _ _ _ _ h
 quiet:=fun hk h=>y1n 8 _ _ _ hk.2.1 hk.2.2 h
inductive HO where
 |lst (xs:List V)
 |tup (xs:List V)
 |dK (kvs:List (Key×V))|dT (kvs:List (List Key×V))|dH (c:Nat) (kvs:List (KTr×Q0u×V))
 |set (S:Int->Bool) (n:Nat)
 |ins (C dx:Q0u) (fs:List (Str×V))
 |own (x:Q0u)
 |xd (fs:List (Str×V))
 |met (f x:Q0u)
 |rng (lo hi:Int)
 |frz (o:Obj) (u:HO)
 |tbl (ps:Array Q0b)
 |ext (φ:Q1h->Prop)
abbrev Hp:=Q0u->Option HO
def upd(H:Hp)(a:Q0u)(o:HO):Hp:=fun b=>if b=a then some o else H b
theorem q0u{H:Hp}{a:Q0u}{o:HO}:upd H a o a=some o:=by unfold upd;rw[if_pos rfl]
theorem q0g{H:Hp}{a b:Q0u}{o:HO}(h:b≠a):upd H a o b=H b:=by unfold upd;rw[if_neg h]
theorem q6d{H:Hp}{a b:Q0u}{o u:HO}(h:H a=some o)(h':H b=some u)(d:o≠u):a≠b:=by
 intro e;subst e;rw[h]at h';exact d (Q2j h')
theorem q0w{H:Hp}{a b:Q0u}{o:HO}(h:H a=some o)(h':H b=none):a≠b:=by
 intro e;subst e;rw[h]at h';cases h'
section
variable(P:Q1e)(w:Q1x)
def q1e(H:Hp)(h:Q1h)(a:Q0u):HO->Prop
 |.lst xs=>xs.length<=Q0l/\∃(its:List Q0b)(n:Nat),Vals xs its/\h.get? a=some {cls:=.type "list",data:=.seq its.toArray n}
 |.tup xs=>xs.length<=Q0l/\∃its:List Q0b,Vals xs its/\Q7n h a its.toArray
 |.dK kvs=>kvs.length<=Q0l/\(a==sysModules)=false/\∃vs,KV kvs vs/\h.DictOf (q0s P w) a vs
 |.dT kvs=>kvs.length<=Q0l/\(a==sysModules)=false/\∃xs:List (List Key×Q0u×Q0b),
   Q2w (fun(p:List Key×V) (q:List Key×Q0u×Q0b)=>p.1=q.1/\H q.2.1=some (.tup (p.1.map kV))/\RelV p.2 q.2.2) kvs xs/\
   ∃o es ep,h.get? a=some o/\o.ExactDict/\o.data=.dict es ep/\es.toList=xs.map (entryOfKey (tupleKind (q0s P w)))/\(xs.map (·.1)).Nodup
 |.dH c kvs=>kvs.length<=Q0l/\(a==sysModules)=false/\∃xs:List (KTr×Q0u×Q0b),
   Q2w (fun(p:KTr×Q0u×V) (q:KTr×Q0u×Q0b)=>p.1=q.1/\p.2.1=q.2.1/\RelV p.2.2 q.2.2) kvs xs/\
   ∃o es,h.get? a=some o/\o.ExactDict/\o.data=.dict es (c+kvs.length)/\es.toList=xs.map (entryOfKey (q3t P w))/\(xs.map (·.1)).Nodup
 |.set S n=>h.SetOf (intKind P w) a S n
 |.ins C dx fs=>H dx=some (.own a)/\fs.length<=1000/\dx≠a/\h.get? a=some (PySem.W.instObj C dx)/\
   ∃mA,h.Ns1 dx mA/\(∀f,RelO (fs.lookup f) (mA f))/\PySem.Within mA (fs.map (·.1))
 |.own _=>∃o,h.get? a=some o
 |.xd fs=>∃mA,h.Ns1 a mA/\∀f,RelO (fs.lookup f) (mA f)
 |.rng lo hi=>∃t u v,h.get? a=some {cls:=.type "range",data:=.fields #[.int lo t,.int hi u,.int 1 v]}
 |.frz o u=>h.get? a=some o/\q1e H h a u
 |.tbl ps=>h.get? a=some {cls:=.none,data:=.fields ps}
 |.met f x=>h.get? a=some (Q8l (.ref f) (.ref x))
 |.ext φ=>φ h/\(∃o,h.get? a=some o)/\∀h1 h2:Q1h,φ h1->(∀o,h1.get? a=some o->h2.get? a=some o)->φ h2
def HOk(H:Hp)(h:Q1h):Prop:=∀a o,H a=some o->q1e P w H h a o
end
section
variable{P:Q1e}{w:Q1x}{H H':Hp}{h h':Q1h}{a:Q0u}{o:HO}
theorem q1e.lt(x:q1e P w H h a o):a<h.objs.size:=by
 cases o with
 |lst xs=>obtain⟨_,_,_,_,e⟩:=x;exact Q0m e
 |tup xs=>obtain⟨_,_,_,p⟩:=x;exact p.lt
 |dK kvs=>obtain⟨_,_,_,_,o,_,_,e,_⟩:=x;exact Q0m e
 |dT kvs=>obtain⟨_,_,_,_,o,_,_,e,_⟩:=x;exact Q0m e
 |dH c kvs=>obtain⟨_,_,_,_,o,_,e,_⟩:=x;exact Q0m e
 |set S n=>obtain⟨o,_,_,_,e,_⟩:=x;exact Q0m e
 |ins C dx fs=>obtain⟨_,_,_,e,_⟩:=x;exact Q0m e
 |own y=>obtain⟨_,e⟩:=x;exact Q0m e
 |xd fs=>obtain⟨_,⟨_,_,_,e,_⟩,_⟩:=x;exact Q0m e
 |rng lo hi=>obtain⟨_,_,_,e⟩:=x;exact Q0m e
 |frz ob u=>obtain⟨e,_⟩:=x;exact Q0m e
 |tbl ps=>exact Q0m (show h.get? a=some _ from x)
 |met f y=>exact Q0m (show h.get? a=some _ from x)
 |ext φ=>obtain⟨_,⟨_,e⟩,_⟩:=x;exact Q0m e
theorem Q2w.mapP{α β:Type}{F G:α->β->Prop}:∀{l₁:List α}{l₂:List β},Q2w F l₁ l₂->(∀a b,F a b->G a b)->Q2w G l₁ l₂
 |_,_,.nil,_=>.nil
 |_,_,.cons r t,f=>.cons (f _ _ r) (Q2w.mapP t f)
theorem q1e.stay(x:q1e P w H h a o)(k:∀b u,(b=a\/H b=some (.own a))->h.get? b=some u->h'.get? b=some u)
  (ho:∀b,H b=some (.own a)->H' b=some (.own a)) (ht:∀b xs,H b=some (.tup xs)->H' b=some (.tup xs)):q1e P w H' h' a o:=by
 induction o with
 |lst xs=>obtain⟨z,its,n,r,e⟩:=x;exact⟨z,its,n,r,k _ _ (.inl rfl) e⟩
 |tup xs=>obtain⟨z,its,r,ob,e,c⟩:=x;exact⟨z,its,r,ob,k _ _ (.inl rfl) e,c⟩
 |dK kvs=>obtain⟨z,y,vs,r,ob,es,ep,e,c⟩:=x;exact⟨z,y,vs,r,ob,es,ep,k _ _ (.inl rfl) e,c⟩
 |dT kvs=>
  obtain⟨z,y,xs,r,ob,es,ep,e,c⟩:=x
  exact⟨z,y,xs,Q2w.mapP r fun p q z=>⟨z.1,ht _ _ z.2.1,z.2.2⟩,ob,es,ep,k _ _ (.inl rfl) e,c⟩
 |dH n kvs=>obtain⟨z,y,xs,r,ob,es,e,c⟩:=x;exact⟨z,y,xs,r,ob,es,k _ _ (.inl rfl) e,c⟩
 |set S n=>obtain⟨ob,es,ep,t,e,c⟩:=x;exact⟨ob,es,ep,t,k _ _ (.inl rfl) e,c⟩
 |ins C dx fs=>
  obtain⟨d,z,ne,e,mA,⟨od,es,ep,e2,c⟩,r⟩:=x
  exact⟨ho _ d,z,ne,k _ _ (.inl rfl) e,mA,⟨od,es,ep,k _ _ (.inr d) e2,c⟩,r⟩
 |own y=>obtain⟨ob,e⟩:=x;exact⟨ob,k _ _ (.inl rfl) e⟩
 |xd fs=>obtain⟨mA,⟨od,es,ep,e,c⟩,r⟩:=x;exact⟨mA,⟨od,es,ep,k _ _ (.inl rfl) e,c⟩,r⟩
 |rng lo hi=>obtain⟨t,u,v,e⟩:=x;exact⟨t,u,v,k _ _ (.inl rfl) e⟩
 |frz ob u ih=>obtain⟨e,q⟩:=x;exact⟨k _ _ (.inl rfl) e,ih q⟩
 |tbl ps=>
  have e:h.get? a=some {cls:=.none,data:=.fields ps}:=x
  show h'.get? a=some {cls:=.none,data:=.fields ps}
  exact k a _ (.inl rfl) e
 |met f y=>
  have e:h.get? a=some (Q8l (.ref f) (.ref y)):=x
  show h'.get? a=some (Q8l (.ref f) (.ref y))
  exact k a _ (.inl rfl) e
 |ext φ=>obtain⟨p,⟨o,e⟩,st⟩:=x;exact⟨st _ _ p fun o q=>k _ _ (.inl rfl) q,⟨o,k _ _ (.inl rfl) e⟩,st⟩
theorem HOk.lt(x:HOk P w H h)(e:H a=some o):a<h.objs.size:=(x a o e).lt
theorem HOk.fresh(x:HOk P w H h)(e:h.objs.size<=a):H a=none:=by
 cases q:H a with
 |none=>rfl
 |some u=>exact absurd (Q1a (x.lt q) e) (Q3n _)
theorem HOk.kept(x:HOk P w H h)(k:∀b u,h.get? b=some u->h'.get? b=some u):HOk P w H h':=fun a o e=>
 (x a o e).stay (fun b u _ q=>k b u q) (fun _ q=>q) fun _ _ q=>q
theorem HOk.laid(x:HOk P w H h)(k:∀b u,h.get? b=some u->h'.get? b=some u)(hp:h.objs.size<=a)(new:q1e P w (upd H a o) h' a o):HOk P w (upd H a o) h':=fun b u e=>by
 have hn:=x.fresh hp
 by_cases hb:b=a
 ·subst hb;rw[q0u]at e;cases e;exact new
 ·rw[q0g hb]at e
  exact(x b u e).stay (fun c v _ q=>k c v q) (fun c q=>by rw[q0g (q0w q hn)];exact q) fun c xs q=>by rw[q0g (q0w q hn)];exact q
end
def Rd(H:Hp)(a:Q0u)(u:HO):Prop:=H a=some u\/∃o,H a=some (.frz o u)
theorem Rd.ok{P:Q1e}{w:Q1x}{H:Hp}{h:Q1h}{a:Q0u}{u:HO}(r:Rd H a u)(x:HOk P w H h):q1e P w H h a u:=by
 rcases r with r|⟨o,r⟩
 ·exact x a u r
 ·obtain⟨_,q⟩:=x a _ r
  exact q
def Mut:Option HO->Prop
 |some (.lst _)=>True
 |some (.dK _)=>True
 |some (.dT _)=>True
 |some (.dH _ _)=>True
 |some (.set _ _)=>True
 |some (.ins _ _ _)=>True
 |some (.ext _)=>True
 |_=>False
section
variable{P:Q1e}{w:Q1x}{H:Hp}{h h':Q1h}{x e:Q0u}{o':HO}
theorem HOk.write(ok:HOk P w H h)(mu:Mut (H x))(he:e=x\/H e=some (.own x))(k:∀b u,b≠e->h.get? b=some u->h'.get? b=some u)(heo:∃u,h'.get? e=some u)
  (new:q1e P w (upd H x o') h' x o'):HOk P w (upd H x o') h':=fun b u q=>by
 have nown:∀c y,H c=some (.own y)->c≠x:=fun c y r z=>by subst z;rw[r]at mu;exact mu
 have ntup:∀c xs,H c=some (.tup xs)->c≠x:=fun c xs r z=>by subst z;rw[r]at mu;exact mu
 by_cases hb:b=x
 ·subst hb;rw[q0u]at q;cases q;exact new
 ·rw[q0g hb]at q
  by_cases hbe:b=e
  ·have q':H b=some (.own x):=by
    rcases he with z|z
    ·exact absurd (hbe.trans z) hb
    ·rw[hbe];exact z
   rw[q]at q';cases q'
   obtain⟨v,hv⟩:=heo
   exact⟨v,by rw[hbe];exact hv⟩
  ·refine(ok b u q).stay (fun c v hc r=>k c v ?_ r) (fun c r=>by rw[q0g (nown c b r)];exact r) fun c xs r=>by rw[q0g (ntup c xs r)];exact r
   rcases hc with rfl|hc
   ·exact hbe
   ·rintro rfl
    rcases he with z|z
    ·exact nown c b hc z
    ·rw[hc]at z;cases z;exact hb rfl
end
structure Un(fs ex:List Q0u)(H H':Hp)(h h':Q1h):Prop where
 keep:∀b o,h.get? b=some o->H b=none->b∉fs->b∉ex->h'.get? b=some o
 slot:∀b o,h.get? b=some o->H b=none->b∈fs->b∉ex->∃sl,h'.get? b=some {o with slots:=sl}
 free:∀b o,h.get? b=some o->H b=none->b∉ex->H' b=none
 there:∀b o,h.get? b=some o->b∉ex->∃o',h'.get? b=some o'
 tups:∀b xs,H b=some (.tup xs)->H' b=some (.tup xs)
 frzs:∀b o u,H b=some (.frz o u)->H' b=some (.frz o u)
 tbls:∀b ps,H b=some (.tbl ps)->∃more,H' b=some (.tbl (ps++more))
section
variable{fs fs' ex ex':List Q0u}{H H1 H2:Hp}{h h1 h2 h':Q1h}{a x e:Q0u}{o:HO}
theorem Un.any(u:Un fs ex H H1 h h1){b:Q0u}{ob:Obj}(q:h.get? b=some ob)(n:H b=none)(hx:b∉ex):∃sl,h1.get? b=some {ob with slots:=sl}:=by
 by_cases hb:b∈fs
 ·exact u.slot b ob q n hb hx
 ·exact⟨ob.slots,u.keep b ob q n hb hx⟩
theorem Un.kept(k:∀b u,h.get? b=some u->h'.get? b=some u):Un fs ex H H h h':=
 ⟨fun b ob q _ _ _=>k b ob q,fun b ob q _ _ _=>⟨ob.slots,k b ob q⟩,fun _ _ _ n _=>n,fun b ob q _=>⟨ob,k b ob q⟩,fun _ _ q=>q,fun _ _ _ q=>q,fun _ ps q=>⟨#[],by rw[q];simp⟩⟩
theorem Un.refl:Un fs ex H H h h:=Un.kept fun _ _ q=>q
theorem Un.laid(k:∀b u,h.get? b=some u->h'.get? b=some u)(hp:h.objs.size<=a)(hn:H a=none):Un fs ex H (upd H a o) h h' where
 keep:=fun b u q _ _ _=>k b u q
 slot:=fun b u q _ _ _=>⟨u.slots,k b u q⟩
 free:=fun b u q n _=>by rw[q0g (Q0y (Q1a (Q0m q) hp))];exact n
 there:=fun b u q _=>⟨u,k b u q⟩
 tups:=fun b xs q=>by rw[q0g (q0w q hn)];exact q
 frzs:=fun b u xs q=>by rw[q0g (q0w q hn)];exact q
 tbls:=fun b ps q=>⟨#[],by rw[q0g (q0w q hn),q];simp⟩
theorem Un.write(mu:Mut (H x))(he:e=x\/H e=some (.own x))(k:∀b u,b≠e->h.get? b=some u->h'.get? b=some u)(heo:∃u,h'.get? e=some u):Un fs ex H (upd H x o) h h':=by
 have hx:∀b,H b=none->b≠x:=fun b n z=>by subst z;rw[n]at mu;exact mu
 have hb:∀b,H b=none->b≠e:=fun b n z=>by
  subst z
  rcases he with r|r
  ·exact hx b n r
  ·rw[n]at r;cases r
 have hm:∀b u,H b=some u->¬Mut (some u)->b≠x:=fun b u q nm z=>by subst z;rw[q]at mu;exact nm mu
 refine⟨fun b u q n _ _=>k b u (hb b n) q,fun b u q n _ _=>⟨u.slots,k b u (hb b n) q⟩,fun b u q n _=>by rw[q0g (hx b n)];exact n,fun b u q _=>?_,
  fun b xs q=>by rw [q0g (hm b _ q fun z=>z)];exact q,fun b u xs q=>by rw [q0g (hm b _ q fun z=>z)];exact q,fun b ps q=>⟨#[],by rw [q0g (hm b _ q fun z=>z),q];simp⟩⟩
 by_cases hbe:b=e
 ·subst hbe;exact heo
 ·exact⟨u,k b u hbe q⟩
end
def trk(h:Q1h)(H:Hp):List Q0u:=(Q1q h.objs.size).filter fun a=>(H a).isSome
def hidT(h:Q1h)(H:Hp):Q1h:=PySem.W.hideAll h (trk h H)
theorem z9y(h:Q1h)(H:Hp):(hidT h H).objs.size=h.objs.size:=PySem.W.hideAll_size _ _
theorem y3q{h:Q1h}{H:Hp}{b:Q0u}{o:Obj}(e:h.get? b=some o)(n:H b=none):(hidT h H).get? b=some o:=
 PySem.W.hideAll_get _ e fun hm=>by
  have q:(H b).isSome=true:=(Q4i.mp hm).2
  rw[n]at q;simp at q
theorem y8f{h:Q1h}{H:Hp}{b:Q0u}{o:Obj}(e:(hidT h H).get? b=some o):h.get? b=some o/\H b=none:=by
 have e':h.get? b=some o:=PySem.W.of_hideAll (trk h H) e
 refine⟨e',?_⟩
 cases q:H b with
 |none=>rfl
 |some x=>
  have hm:b∈trk h H:=Q4i.mpr ⟨Q5e.mpr (Q0m e'),by simp[q]⟩
  have z:(hidT h H).get? b=none:=PySem.W.hideAll_none (trk h H) hm
  rw[z]at e;cases e
structure Mod(K:Q2p)(mg:Str->Option Q0b)(base:Q1h):Prop where
 kin:K.In base
 glob:base.Ns Q1y mg
 blt:∃mb,base.Ns builtinsNs mb/\∀x:Str,x≠ "__name__" ->mb x=bootBuiltins x
 nolimit:base.NoLimit
/-- the context: a def's body (or a comprehension's block) running. base: fixed through the whole law;s₀,H₀: the entry;outer: the frames whose slots others may change (a def's callers);stack: all frames that run;
   ex: iterators that were made ahead of the entry and are walked here (a comprehension's);fn: the names whose cells were made at the entry (a def: all;a comprehension's block: its own);calm: not within an except suite;pn: pins that every state bears;xe: what is wanted of an exception that leaves the code -/
structure Cx where
 prog:Q1e
 w:Q1x
 K:Q2p
 mg:Str->Option Q0b
 base:Q1h
 A:Q1t
 N:List Str
 s₀:Q0d
 H₀:Hp
 env:Env
 outer:List Env
 stack:List Env
 ex:List Q0u
 fn:Str->Bool
 calm:Bool
 pn:List (Q0u×Obj)
 xe:Q0b->Q0d->Prop
def frs(l:List Env):List Q0u:=l.filterMap (·.frame)
abbrev Cx.fs(X:Cx):List Q0u:=frs X.outer
def Vis(sc:Q5b)(x:Str):Prop:=sc.names.lookup x=some .local\/sc.names.lookup x=some .cell\/sc.names.lookup x=some .free
def Loc(sc:Q5b)(x:Str):Prop:=sc.names.lookup x=some .local\/sc.names.lookup x=some .cell
def Look(env:Env)(h:Q1h)(m:Str->Option Q0b)(x:Str)(u:Q0b):Prop:=
 (env.kindOf x=some .local/\m x=some u)\/((env.kindOf x=some .cell\/env.kindOf x=some .free)/\∃c,env.cells.lookup x=some c/\h.IsCell c (some u))
structure Cx.Ok(X:Cx):Prop where
 mod:Mod X.K X.mg X.base
 kind:X.env.scope.kind=.function
 glob:X.env.globals=Q1y
 blt:X.env.builtins=builtinsNs
 above:X.s₀.heap.objs.size<=X.env.locals
 inj:∀x y c,X.env.cells.lookup x=some c->X.env.cells.lookup y=some c->x=y
 has:∀x,(X.env.kindOf x=some .cell\/X.env.kindOf x=some .free)->∃c,X.env.cells.lookup x=some c
 cab:∀x c,X.fn x=true->X.env.cells.lookup x=some c->X.s₀.heap.objs.size<=c
 hd:X.calm=true->X.A.handled=none
 frames:X.A.frames=some X.stack
 stk:X.stack=X.outer\/(X.stack=X.env::X.outer/\X.env.frame=some X.env.locals)
 exf:∀b∈X.ex,b≠X.env.locals/\∀x c,X.env.cells.lookup x=some c->c≠b
 bs:∀b o,X.base.get? b=some o->X.s₀.heap.get? b=some o/\X.H₀ b=none
 bsz:X.base.objs.size<=X.s₀.heap.objs.size
 noex:∀b o,X.base.get? b=some o->b∉X.ex
 exfs:∀b∈X.ex,b∉X.fs
 funs:X.s₀.heap.FunFrames X.base X.outer
 frf:∀b∈X.fs,X.H₀ b=none
structure Inv(X:Cx)(pins:List (Q0u×Obj))(σ:List (Option V))(H:Hp)(s:Q0d):Prop where
 ok:X.Ok
 os:s.os=X.s₀.os
 bare:Q8m s.gens
 base:Un X.fs X.ex X.H₀ H X.s₀.heap s.heap
 loc:∃m,s.heap.Ns X.env.locals m/\∀(i:Nat)(x:Str)(v:V),X.N[i]?=some x->σ[i]?=some (some v)->Vis X.env.scope x->∃u,RelV v u/\Look X.env s.heap m x u
 cell:∀x c,X.env.cells.lookup x=some c->∃v,s.heap.IsCell c v
 free:H X.env.locals=none
 freeC:∀x c,X.env.cells.lookup x=some c->H c=none
 pin:∀p∈X.pn++pins,s.heap.get? p.1=some p.2/\H p.1=none/\p.1≠X.env.locals/\p.1∉X.fs/\∀v,p.2.data≠.cell v
 hok:HOk X.prog X.w H s.heap
 len:σ.length=X.N.length
section
variable{X:Cx}{pins:List (Q0u×Obj)}{σ:List (Option V)}{H H':Hp}{s:Q0d}{h':Q1h}
theorem Cx.Ok.nofr(ok:X.Ok){b:Q0u}{o:Obj}(e:X.base.get? b=some o):b∉X.fs:=fun hb=>by
 have:=(ok.funs.mem hb).1
 rw[e]at this;cases this
theorem Inv.bs(I:Inv X pins σ H s):∀b o,X.base.get? b=some o->s.heap.get? b=some o/\H b=none:=fun b o e=>
 ⟨I.base.keep b o (I.ok.bs b o e).1 (I.ok.bs b o e).2 (I.ok.nofr e) (I.ok.noex b o e),I.base.free b o (I.ok.bs b o e).1 (I.ok.bs b o e).2 (I.ok.noex b o e)⟩
theorem Inv.bk(I:Inv X pins σ H s):∀b o,X.base.get? b=some o->s.heap.get? b=some o:=fun b o e=>(I.bs b o e).1
theorem Inv.mod(I:Inv X pins σ H s):Mod X.K X.mg X.base:=I.ok.mod
theorem Inv.kIn(I:Inv X pins σ H s):X.K.In s.heap:=I.ok.mod.kin.keeps I.bk
theorem Inv.lt(I:Inv X pins σ H s):X.env.locals<s.heap.objs.size:=let ⟨_,hn,_⟩:=I.loc;hn.lt
theorem Inv.sz(I:Inv X pins σ H s):X.s₀.heap.objs.size<=s.heap.objs.size:=Q1l I.ok.above (Q6t I.lt)
theorem Inv.nofs(I:Inv X pins σ H s){a:Q0u}(h:s.heap.objs.size<=a):a∉X.fs:=fun hb=>by
 obtain⟨_,o,ho,_⟩:=I.ok.funs.mem hb
 exact absurd (Q1a (Q0m ho) (Q1l I.sz h)) (Q3n _)
theorem Inv.cne(I:Inv X pins σ H s):∀x c,X.env.cells.lookup x=some c->c≠X.env.locals:=fun x c e z=>by
 obtain⟨v,o,ho,hd⟩:=I.cell x c e
 obtain⟨m,⟨o',es,ep,ho',hd',_⟩,_⟩:=I.loc
 rw[z,ho']at ho;cases ho;rw[hd']at hd;cases hd
theorem Inv.funs(I:Inv X pins σ H s):s.heap.FunFrames X.base X.outer:=by
 have all:∀(l:List Env),(∀b∈frs l,b∈X.fs)->X.s₀.heap.FunFrames X.base l->s.heap.FunFrames X.base l:=by
  intro l
  induction l with
  |nil=>intro _ _;trivial
  |cons env r ih=>
   intro hs hl
   obtain⟨hk,⟨L,o,hf,hn,ho,hd⟩,hr⟩:=hl
   have hL:L∈X.fs:=hs L (by unfold frs;rw[Q6h,hf];exact Q4o)
   obtain⟨sl,e⟩:=I.base.slot L o ho (I.ok.frf L hL) hL fun z=>I.ok.exfs L z hL
   exact⟨hk,⟨L,_,hf,hn,e,hd⟩,ih (fun b hb=>hs b (by unfold frs;rw[Q6h,hf];exact Q2d _ hb)) hr⟩
 exact all X.outer (fun _ hb=>hb) I.ok.funs
theorem Inv.stack(I:Inv X pins σ H s):s.heap.FunFrames X.base X.stack:=by
 rcases I.ok.stk with e|⟨e,hf⟩
 ·rw[e];exact I.funs
 ·rw[e]
  obtain⟨m,hn,_⟩:=I.loc
  refine .cons (by rw[I.ok.kind];decide) hf hn ?_ I.funs
  exact Q1h.get?_none_of_le (Q1l I.ok.bsz I.ok.above)
theorem Inv.stkSub(I:Inv X pins σ H s):∀b∈frs X.stack,b∈X.env.locals::X.fs:=fun b hb=>by
 rcases I.ok.stk with e|⟨e,hf⟩
 ·rw[e]at hb;exact Q2d _ hb
 ·rw[e]at hb
  unfold frs at hb
  rw[Q6h,hf]at hb
  exact hb
theorem Inv.stkFree(I:Inv X pins σ H s):∀b∈frs X.stack,H b=none:=fun b hb=>by
 rcases Q1b.mp (I.stkSub b hb)with e|hb
 ·rw[e];exact I.free
 ·obtain⟨_,o,ho,_⟩:=I.ok.funs.mem hb
  exact I.base.free b o ho (I.ok.frf b hb) fun z=>I.ok.exfs b z hb
theorem Inv.step{g':Array GenState}{t':Nat}{d':Drawn}{ch:List Q0u}(I:Inv X pins σ H s)
  (hch:∀b∈ch,(b∈X.ex\/X.s₀.heap.objs.size<=b)/\b≠X.env.locals/\(∀x c,X.env.cells.lookup x=some c->c≠b)/\∀p∈X.pn++pins,p.1≠b)
  (keep:∀b o,b≠X.env.locals->b∉X.fs->b∉ch->s.heap.get? b=some o->H b=none->h'.get? b=some o)
  (slot:∀b o,b≠X.env.locals->b∈X.fs->b∉ch->s.heap.get? b=some o->H b=none->∃sl,h'.get? b=some {o with slots:=sl}) (free:∀b o,b∉ch->s.heap.get? b=some o->H b=none->H' b=none)
  (there:∀b o,b∉ch->s.heap.get? b=some o->∃o',h'.get? b=some o')
  (tups:∀b xs,H b=some (.tup xs)->H' b=some (.tup xs)) (frzs:∀b o u,H b=some (.frz o u)->H' b=some (.frz o u)) (tbls:∀b ps,H b=some (.tbl ps)->∃more,H' b=some (.tbl (ps++more)))
  (ns:∀m,s.heap.Ns X.env.locals m->h'.Ns X.env.locals m) (hok:HOk X.prog X.w H' h') (hg:Q8m g') :
  Inv X pins σ H' {s with heap:=h',gens:=g',drawn:=d',toks:=t' }:=by
 have neL:∀b o,X.s₀.heap.get? b=some o->b≠X.env.locals:=fun b o e=>Q0y (Q1a (Q0m e) I.ok.above)
 have neC:∀b o,X.s₀.heap.get? b=some o->b∉X.ex->b∉ch:=fun b o e hx hb=>by
  rcases(hch b hb).1 with z|z
  ·exact hx z
  ·exact absurd (Q1a (Q0m e) z) (Q3n _)
 have cellK:∀x c,X.env.cells.lookup x=some c->∀v,s.heap.IsCell c v->h'.IsCell c v:=fun x c e v hh1=>by
  obtain⟨o,ho,hd⟩:=hh1
  have nch:c∉ch:=fun z=>(hch c z).2.2.1 x c e rfl
  by_cases hc:c∈X.fs
  ·obtain⟨sl,q⟩:=slot c o (I.cne x c e) hc nch ho (I.freeC x c e)
   exact⟨_,q,hd⟩
  ·exact⟨o,keep c o (I.cne x c e) hc nch ho (I.freeC x c e),hd⟩
 refine⟨I.ok,I.os,hg,⟨fun b o e n hb hx=>?_,fun b o e n hb hx=>?_,fun b o e n hx=>?_,fun b o e hx=>?_,fun b xs e=>tups b xs (I.base.tups b xs e),fun b o xs e=>frzs b o xs (I.base.frzs b o xs e),fun b ps e=>?_⟩,?_,fun x c e=>?_,?_,fun x c e=>?_,fun p hp=>?_,hok,I.len⟩
 ·exact keep b o (neL b o e) hb (neC b o e hx) (I.base.keep b o e n hb hx) (I.base.free b o e n hx)
 ·obtain⟨sl,e1⟩:=I.base.slot b o e n hb hx
  obtain⟨sl',e2⟩:=slot b _ (neL b o e) hb (neC b o e hx) e1 (I.base.free b o e n hx)
  exact⟨sl',e2⟩
 ·obtain⟨o',e1⟩:=I.base.there b o e hx
  exact free b o' (neC b o e hx) e1 (I.base.free b o e n hx)
 ·obtain⟨o',e1⟩:=I.base.there b o e hx
  exact there b o' (neC b o e hx) e1
 ·obtain⟨m1,e1⟩:=I.base.tbls b ps e
  obtain⟨m2,e2⟩:=tbls b _ e1
  exact⟨m1++m2,by rw[e2,Array.append_assoc]⟩
 ·obtain⟨m,hn,hl⟩:=I.loc
  refine⟨m,ns m hn,fun i x v e1 e2 e3=>?_⟩
  obtain⟨u,r,l⟩:=hl i x v e1 e2 e3
  refine⟨u,r,?_⟩
  rcases l with l|⟨k,c,e,z⟩
  ·exact .inl l
  ·exact .inr ⟨k,c,e,cellK x c e _ z⟩
 ·obtain⟨v,z⟩:=I.cell x c e
  exact⟨v,cellK x c e v z⟩
 ·obtain⟨m,⟨o,_,_,ho,_⟩,_⟩:=I.loc
  exact free _ o (fun z=>(hch _ z).2.1 rfl) ho I.free
 ·obtain⟨v,o,ho,hd⟩:=I.cell x c e
  exact free c o (fun z=>(hch c z).2.2.1 x c e rfl) ho (I.freeC x c e)
 ·obtain⟨e,n,ne,nf,d⟩:=I.pin p hp
  have nch:p.1∉ch:=fun z=>(hch p.1 z).2.2.2 p hp rfl
  exact⟨keep p.1 p.2 ne nf nch e n,free p.1 p.2 nch e n,ne,nf,d⟩
theorem Inv.un{t':Nat}(I:Inv X pins σ H s)(u:Un X.fs [] H H' s.heap h')(hok:HOk X.prog X.w H' h'):Inv X pins σ H' {s with heap:=h',toks:=t' }:=by
 obtain⟨m,⟨o,es,ep,ho,r⟩,_⟩:=id I.loc
 obtain⟨sl,hL⟩:=u.any ho I.free (by simp)
 exact I.step (g':=s.gens) (d':=s.drawn) (ch:=[]) (fun _ z=>nomatch z) (fun b o _ hb _ e n=>u.keep b o e n hb (by simp)) (fun b o _ hb _ e n=>u.slot b o e n hb (by simp)) (fun b o _ e n=>u.free b o e n (by simp)) (fun b o _ e=>u.there b o e (by simp)) u.tups u.frzs u.tbls (fun m' hm=>by
  obtain ⟨o',es',ep',ho',r'⟩:=hm
  rw [ho]at ho';cases ho'
  exact ⟨_,es',ep',hL,r'⟩) hok I.bare
theorem Inv.call{g':Array GenState}{t':Nat}{d':Drawn}{ch:List Q0u}(I:Inv X pins σ H s)(u:Un (frs X.stack) ch H H' s.heap h')(hok:HOk X.prog X.w H' h')(hg:Q8m g')
  (hch:∀b∈ch,(b∈X.ex\/X.s₀.heap.objs.size<=b)/\b≠X.env.locals/\(∀x c,X.env.cells.lookup x=some c->c≠b)/\∀p∈X.pn++pins,p.1≠b) :
  Inv X pins σ H' {s with heap:=h',gens:=g',drawn:=d',toks:=t' }:=by
 obtain⟨m,⟨o,es,ep,ho,r⟩,_⟩:=id I.loc
 obtain⟨sl,hL⟩:=u.any ho I.free fun z=>(hch _ z).2.1 rfl
 exact I.step (ch:=ch) hch (fun b o hL hb hc e n=>u.keep b o e n (fun z=>(Q1b.mp (I.stkSub b z)).elim hL hb) hc) (fun b o _ _ hc e n=>u.any e n hc) (fun b o hc e n=>u.free b o e n hc) (fun b o hc e=>u.there b o e hc) u.tups u.frzs u.tbls (fun m' hm=>by
  obtain ⟨o',es',ep',ho',r'⟩:=hm
  rw [ho]at ho';cases ho'
  exact ⟨_,es',ep',hL,r'⟩) hok hg
theorem Inv.turned{t':Nat}{it:Q0u}(I:Inv X pins σ H s)(k:∀b o,b≠it->s.heap.get? b=some o->h'.get? b=some o)(hn:H it=none)(hL:it≠X.env.locals)
  (h1:it∈X.ex\/X.s₀.heap.objs.size<=it) (h2:∀x c,X.env.cells.lookup x=some c->c≠it) (h3:∀p∈X.pn++pins,p.1≠it):Inv X pins σ H {s with heap:=h',toks:=t' }:=by
 have nit:∀b u,H b=some u->b≠it:=fun b u e z=>by rw[z,hn]at e;cases e
 refine I.step (g':=s.gens) (d':=s.drawn) (ch:=[it]) (fun b hb=>?_) (fun b o _ _ hc e _=>k b o (fun z=>hc (by simp[z])) e) (fun b o _ _ hc e _=>⟨o.slots,k b o (fun z=>hc (by simp[z])) e⟩) (fun _ _ _ _ n=>n)
  (fun b o hc e=>⟨o,k b o (fun z=>hc (by simp[z])) e⟩) (fun _ _ e=>e) (fun _ _ _ e=>e) (fun b ps e=>⟨#[],by rw[e];simp⟩) (fun m hm=>?_) (fun b u e=>?_) I.bare
 ·have e:b=it:=by simpa using hb
  subst e
  exact⟨h1,hL,h2,h3⟩
 ·obtain⟨o,es,ep,ho,r⟩:=hm
  exact⟨o,es,ep,k _ o (Q4a hL) ho,r⟩
 ·refine(I.hok b u e).stay (fun c v hc q=>k c v ?_ q) (fun _ q=>q) fun _ _ q=>q
  rcases hc with z|z
  ·rw[z];exact nit b u e
  ·exact nit c _ z
theorem Inv.tok(I:Inv X pins σ H s)(t:Nat):Inv X pins σ H {s with toks:=t}:=I.un (h':=s.heap) (t':=t) Un.refl I.hok
theorem Inv.kept{t':Nat}(I:Inv X pins σ H s)(k:∀b u,s.heap.get? b=some u->h'.get? b=some u):Inv X pins σ H {s with heap:=h',toks:=t' }:=I.un (Un.kept k) (I.hok.kept k)
theorem Inv.laid{a:Q0u}{o:HO}{t':Nat}(I:Inv X pins σ H s)(k:∀b u,s.heap.get? b=some u->h'.get? b=some u)(hp:s.heap.objs.size<=a)(new:q1e X.prog X.w (upd H a o) h' a o) :
  Inv X pins σ (upd H a o) {s with heap:=h',toks:=t' }:=I.un (Un.laid k hp (I.hok.fresh hp)) (I.hok.laid k hp new)
theorem Inv.write{x e:Q0u}{o:HO}{t':Nat}(I:Inv X pins σ H s)(mu:Mut (H x))(he:e=x\/H e=some (.own x))(k:∀b u,b≠e->s.heap.get? b=some u->h'.get? b=some u)(heo:∃u,h'.get? e=some u)
  (new:q1e X.prog X.w (upd H x o) h' x o):Inv X pins σ (upd H x o) {s with heap:=h',toks:=t' }:=I.un (Un.write mu he k heo) (I.hok.write mu he k heo new)
theorem Inv.pins_of{pins':List (Q0u×Obj)}(I:Inv X pins σ H s)(h:∀p∈pins',s.heap.get? p.1=some p.2/\H p.1=none/\p.1≠X.env.locals/\p.1∉X.fs/\∀v,p.2.data≠.cell v):Inv X pins' σ H s:=
 ⟨I.ok,I.os,I.bare,I.base,I.loc,I.cell,I.free,I.freeC,fun p hp=>(Q0n.mp hp).elim (fun z=>I.pin p (Q5c _ z)) (h p),I.hok,I.len⟩
theorem z3l{N:List Str}(hN:N.Nodup){i j:Nat}{x:Str}(a:N[i]?=some x)(b:N[j]?=some x):i=j:=by
 obtain⟨h1,e1⟩:=Q0s.mp a
 obtain⟨h2,e2⟩:=Q0s.mp b
 exact(Z3e hN).mp (e1.trans e2.symm)
theorem q9i{M:Z1b}{A:Q1t}{E:Q0b->Q0d->Prop}{i:Nat}{x:Str}{v:V}{u:Q0b}{Q:Unit->Q0d->Prop}(I:Inv X pins σ H s)(hN:X.N.Nodup)(hi:X.N[i]?=some x)(hx:Loc X.env.scope x)(r:RelV v u)
  (h:∀s',Inv X pins (σ.set i (some v)) H s'->(∃a,Q1h.SameBut a s.heap s'.heap/\(a=X.env.locals\/X.env.cells.lookup x=some a))->Q () s') (hf:X.fn x=true\/X.env.scope.names.lookup x=some .local:=by first|exact .inl rfl|exact .inr rfl|assumption):Q1d M A (storeName X.env x u) Q E s:=by
 obtain⟨m,hn,hl⟩:=id I.loc
 have hcls:(X.env.scope.kind==.class||(X.env.scope.kind==.module&&X.env.locals != X.env.globals))=false:=by rw[I.ok.kind];rfl
 have hiσ:i<σ.length:=by rw[I.len];exact(Q0s.mp hi).1
 have cne:=I.cne
 have tracked:∀{a:Q0u}{h':Q1h},(∃o,s.heap.get? a=some o/\H a=none)->Q1h.SameBut a s.heap h'->HOk X.prog X.w H h':=fun {a h'} ha hs b ob e=>by
  obtain⟨_,_,hfree⟩:=ha
  refine(I.hok b ob e).stay (fun c w' hc q=>(hs.2 c ?_).trans q) (fun _ q=>q) fun _ _ q=>q
  rintro rfl
  rcases hc with rfl|hc
  ·rw[hfree]at e;cases e
  ·rw[hfree]at hc;cases hc
 rcases hx with hk|hk
 ·refine wpAny_storeName_local hk hn (fun h' hn' hs=>?_) hcls
  obtain⟨oL,_,_,hoL,_⟩:=id hn
  refine h _ ⟨I.ok,I.os,I.bare,⟨fun b o e n hb hx=>?_,fun b o e n hb hx=>?_,I.base.free,fun b o e hx=>?_,I.base.tups,I.base.frzs,I.base.tbls⟩,⟨_,hn',fun j y v' e1 e2 e3=>?_⟩,fun y c e=>?_,I.free,I.freeC,fun p hp=>?_,tracked ⟨oL,hoL,I.free⟩ hs,by simpa using I.len⟩ ⟨_,hs,.inl rfl⟩
  ·exact(hs.2 b (Q0y (Q1a (Q0m e) I.ok.above))).trans (I.base.keep b o e n hb hx)
  ·obtain⟨sl,e1⟩:=I.base.slot b o e n hb hx
   exact⟨sl,(hs.2 b (Q0y (Q1a (Q0m e) I.ok.above))).trans e1⟩
  ·obtain⟨o',e1⟩:=I.base.there b o e hx
   exact⟨o',(hs.2 b (Q0y (Q1a (Q0m e) I.ok.above))).trans e1⟩
  ·by_cases hj:j=i
   ·subst hj
    rw[hi]at e1;cases e1
    rw[Q1o hiσ]at e2
    cases e2
    exact⟨u,r,.inl ⟨hk,by simp⟩⟩
   ·rw[Q1c (Q4a hj)]at e2
    obtain⟨u',r',q⟩:=hl j y v' e1 e2 e3
    refine⟨u',r',?_⟩
    rcases q with⟨k,e⟩|⟨k,c,e,z⟩
    ·refine .inl ⟨k,?_⟩
     have:y≠x:=fun e=>hj (z3l hN e1 (e▸hi))
     simp[this,e]
    ·exact .inr ⟨k,c,e,z.sameBut hs (cne y c e)⟩
  ·obtain⟨w',z⟩:=I.cell y c e
   exact⟨w',z.sameBut hs (cne y c e)⟩
  ·obtain⟨e,n,ne,nf,d⟩:=I.pin p hp
   exact⟨(hs.2 p.1 ne).trans e,n,ne,nf,d⟩
 ·have hfn:X.fn x=true:=by
   rcases hf with z|z
   ·exact z
   ·rw[z]at hk;cases hk
  obtain⟨c,hc⟩:=I.ok.has x (.inl hk)
  obtain⟨w',z⟩:=I.cell x c hc
  refine wpAny_storeName_cell I.ok.kind hk hc z (fun h' hc' hs=>?_)
  obtain⟨oc,hoc,hocd⟩:=id z
  refine h {s with heap:=h' } ⟨I.ok,I.os,I.bare,⟨fun b o e n hb hx=>?_,fun b o e n hb hx=>?_,I.base.free,fun b o e hx=>?_,I.base.tups,I.base.frzs,I.base.tbls⟩,⟨m,hn.sameBut hs (Q4a (cne x c hc)),fun j y v' e1 e2 e3=>?_⟩,fun y c' e=>?_,I.free,I.freeC,fun p hp=>?_,tracked ⟨oc,hoc,I.freeC x c hc⟩ hs,by simpa using I.len⟩ ⟨c,hs,.inr hc⟩
  ·exact(hs.2 b (Q0y (Q1a (Q0m e) (I.ok.cab x c hfn hc)))).trans (I.base.keep b o e n hb hx)
  ·obtain⟨sl,e1⟩:=I.base.slot b o e n hb hx
   exact⟨sl,(hs.2 b (Q0y (Q1a (Q0m e) (I.ok.cab x c hfn hc)))).trans e1⟩
  ·obtain⟨o',e1⟩:=I.base.there b o e hx
   exact⟨o',(hs.2 b (Q0y (Q1a (Q0m e) (I.ok.cab x c hfn hc)))).trans e1⟩
  ·by_cases hj:j=i
   ·subst hj
    rw[hi]at e1;cases e1
    rw[Q1o hiσ]at e2
    cases e2
    exact⟨u,r,.inr ⟨.inl hk,c,hc,hc'⟩⟩
   ·rw[Q1c (Q4a hj)]at e2
    obtain⟨u',r',q⟩:=hl j y v' e1 e2 e3
    refine⟨u',r',?_⟩
    rcases q with q|⟨k,c',e,z'⟩
    ·exact .inl q
    ·refine .inr ⟨k,c',e,z'.sameBut hs ?_⟩
     rintro rfl
     exact hj (z3l hN e1 (I.ok.inj _ _ _ e hc▸hi))
  ·by_cases hcc:c'=c
   ·subst hcc;exact⟨_,hc'⟩
   ·obtain⟨w2,z2⟩:=I.cell y c' e
    exact⟨w2,z2.sameBut hs hcc⟩
  ·obtain⟨e,n,ne,nf,d⟩:=I.pin p hp
   refine⟨(hs.2 p.1 ?_).trans e,n,ne,nf,d⟩
   intro q
   rw[q,hoc]at e
   have q':oc=p.2:=Q2j e
   exact d w' (by rw[<-q'];exact hocd)
theorem z2x{M:Z1b}{A:Q1t}{E:Q0b->Q0d->Prop}{i:Nat}{x:Str}{v:V}{u:Q0b}{Q:Unit->Q0d->Prop}(I:Inv X pins σ H s)(hN:X.N.Nodup)(hi:X.N[i]?=some x)(hx:Loc X.env.scope x)(r:RelV v u)
  (h:∀s',Inv X pins (σ.set i (some v)) H s'->Q () s') (hf:X.fn x=true\/X.env.scope.names.lookup x=some .local:=by first|exact .inl rfl|exact .inr rfl|assumption):Q1d M A (storeName X.env x u) Q E s:=
 q9i I hN hi hx r (fun s' I' _=>h s' I') hf
theorem Inv.call'{s':Q0d}{ch:List Q0u}(I:Inv X pins σ H s)(ho:s'.os=s.os)(u:Un (frs X.stack) ch H H' s.heap s'.heap)(hok:HOk X.prog X.w H' s'.heap)(hg:Q8m s'.gens)
  (hch:∀b∈ch,(b∈X.ex\/X.s₀.heap.objs.size<=b)/\b≠X.env.locals/\(∀x c,X.env.cells.lookup x=some c->c≠b)/\∀p∈X.pn++pins,p.1≠b):Inv X pins σ H' s':=by
 obtain⟨h',g',d',t',o'⟩:=s'
 have e:o'=s.os:=ho
 subst e
 exact I.call (g':=g') (t':=t') (d':=d') u hok hg hch
end
abbrev XK:=Q0b->Option Q0u->Hp->Prop
abbrev St:=List (Option V)
abbrev VK:=V->Hp->Prop
abbrev TE:=St->Hp->VK->Prop
abbrev TT:=St->Hp->(Bool->Hp->Prop)->Prop
abbrev TA:=St->Hp->(List V->Hp->Prop)->Prop
structure Ends where
 nx:St->Hp->Prop
 rt:VK
 bk:St->Hp->Prop:=fun _ _=>False
 ct:St->Hp->Prop:=fun _ _=>False
abbrev TS:=Ends->St->Hp->Prop
def EP(X:Cx)(pins:List (Q0u×Obj))(σ:St)(Q:VK)(u:Q0b)(s':Q0d):Prop:=∃v H',Inv X pins σ H' s'/\RelV v u/\Q v H'
def TP(X:Cx)(pins:List (Q0u×Obj))(σ:St)(Q:Bool->Hp->Prop)(b:Bool)(s':Q0d):Prop:=∃H',Inv X pins σ H' s'/\Q b H'
def AP(X:Cx)(pins:List (Q0u×Obj))(σ:St)(Q:List V->Hp->Prop)(us:List Q0b)(s':Q0d):Prop:=∃vs H',Inv X pins σ H' s'/\Vals vs us/\Q vs H'
def SP(X:Cx)(pins:List (Q0u×Obj))(D:Ends)(f:Flow)(s':Q0d):Prop:=
 match f with
 |.next=>∃σ' H',Inv X pins σ' H' s'/\D.nx σ' H'
 |.brk=>∃σ' H',Inv X pins σ' H' s'/\D.bk σ' H'
 |.cont=>∃σ' H',Inv X pins σ' H' s'/\D.ct σ' H'
 |.ret u=>∃v σ' H',Inv X pins σ' H' s'/\RelV v u/\D.rt v H'
def PE(X:Cx)(e:Expr)(t:TE):Prop:=
 ∀(pins:List (Q0u×Obj))(s:Q0d)(σ:St)(H:Hp)(Q:VK),Inv X pins σ H s->t σ H Q->Q1d (model X.prog X.w) X.A (eval e X.env) (EP X pins σ Q) X.xe s
def PT(X:Cx)(e:Expr)(t:TT):Prop:=
 ∀(pins:List (Q0u×Obj))(s:Q0d)(σ:St)(H:Hp)(Q:Bool->Hp->Prop),Inv X pins σ H s->t σ H Q->Q1d (model X.prog X.w) X.A (isTrue e X.env (eval e X.env)) (TP X pins σ Q) X.xe s
def PW(X:Cx)(e:Expr)(t:TT):Prop:=
 ∀(whole:Sem Q0b)(pins:List (Q0u×Obj))(s:Q0d)(σ:St)(H:Hp)(Q:Bool->Hp->Prop),Inv X pins σ H s->t σ H Q->Q1d (model X.prog X.w) X.A (isTrue e X.env whole) (TP X pins σ Q) X.xe s
def PA(X:Cx)(es:List Expr)(t:TA):Prop:=
 ∀(pos:Pos)(pins:List (Q0u×Obj))(s:Q0d)(σ:St)(H:Hp)(Q:List V->Hp->Prop),Inv X pins σ H s->t σ H Q->Q1d (model X.prog X.w) X.A (spliced (backTo pos (Q1m es X.env))) (AP X pins σ Q) X.xe s
def PS(X:Cx)(st:Q5q)(t:TS):Prop:=
 ∀(pins:List (Q0u×Obj))(s:Q0d)(σ:St)(H:Hp)(D:Ends),Inv X pins σ H s->t D σ H->Q1d (model X.prog X.w) X.A (exec st X.env) (SP X pins D) X.xe s
def PSs(X:Cx)(st:List Q5q)(t:TS):Prop:=
 ∀(pins:List (Q0u×Obj))(s:Q0d)(σ:St)(H:Hp)(D:Ends),Inv X pins σ H s->t D σ H->Q1d (model X.prog X.w) X.A (execs st X.env) (SP X pins D) X.xe s
theorem thn{α:Type}{t:Sem α}{Q Q':α->Q0d->Prop}{M:Z1b}{A:Q1t}{E:Q0b->Q0d->Prop}{s:Q0d}(h:Q1d M A t Q E s)(hQ:∀a s,Q a s->Q' a s):Q1d M A t Q' E s:=Q1p h hQ fun _ _ x=>x
section
variable{X:Cx}
def tVar(i:Nat):TE:=fun σ H Q=>∃v,σ[i]?=some (some v)/\Q v H
def tC(v:V):TE:=fun _ H Q=>Q v H
theorem x1t{i:Nat}{x:Str}{pos:Pos}(hN:X.N[i]?=some x)(hv:Vis X.env.scope x)(hd:(x==("__debug__" : Str))=false:=by decide)(hcd:(x==("__classdict__" : Str))=false:=by decide):PE X (.Name x pos) (tVar i):=by
 intro pins s σ H Q I h
 obtain⟨v,e,h⟩:=h
 obtain⟨m,hn,hl⟩:=I.loc
 obtain⟨u,r,l⟩:=hl i x v hN e hv
 have fin:EP X pins σ Q u s:=⟨v,H,I,r,h⟩
 rcases l with⟨hk,hm⟩|⟨hk,c,hc,hcell⟩
 ·exact Z4x (wpAny_loadName_local I.ok.kind hk hn hm fin) hd
 ·rcases hk with hk|hk
  ·exact Z4x (wpAny_loadName_cell I.ok.kind hk hc hcell fin) hd
  ·exact Z4x (wpAny_loadName_free I.ok.kind hk hc hcell fin hcd) hd
theorem y4w {i j pos}:PE X (.Constant (.int i) j pos) (tC (.int i)):=fun _ _ _ H _ I h=>wpAny_Constant_int ⟨.int i,H,I.tok _,⟨_,rfl⟩,h⟩
theorem x5d {b j pos}:PE X (.Constant (.bool b) j pos) (tC (.bl b)):=fun _ _ _ H _ I h=>Constant_bool ⟨.bl b,H,I,rfl,h⟩
theorem x1w {j pos}:PE X (.Constant .none j pos) (tC .non):=fun _ _ _ H _ I h=>Constant_none ⟨.non,H,I,rfl,h⟩
theorem x1v {x j pos}:PE X (.Constant (.str x) j pos) (tC (.str x)):=fun _ _ _ H _ I h=>Z1x ⟨.str x,H,I.tok _,⟨_,rfl⟩,h⟩
def Gl(X:Cx)(x:Str):Prop:=X.env.kindOf x=some .globalImplicit
theorem z9n{E:Q0b->Q0d->Prop}{pins:List (Q0u×Obj)}{s:Q0d}{σ:St}{H:Hp}{x:Str}{u:Q0b}{pos:Pos}{Q:Q0b->Q0d->Prop}(I:Inv X pins σ H s)(hg:Gl X x)(hm:X.mg x=some u)(h:Q u s)
  (hd:(x==("__debug__" : Str))=false:=by decide):Q1d (model X.prog X.w) X.A (eval (.Name x pos) X.env) Q E s:=
 Q9s I.ok.kind hg (Calls.loadGlobal_global (by rw[I.ok.glob];exact I.mod.glob.keeps I.bk) hm h) hd
theorem q4n{E:Q0b->Q0d->Prop}{pins:List (Q0u×Obj)}{s:Q0d}{σ:St}{H:Hp}{x:Str}{u:Q0b}{pos:Pos}{Q:Q0b->Q0d->Prop}(I:Inv X pins σ H s)(hg:Gl X x)(hm:X.mg x=none)(hv:bootBuiltins x=some u)(h:Q u s)
  (hn:x≠ "__name__" :=by decide) (hd:(x==("__debug__" : Str))=false:=by decide):Q1d (model X.prog X.w) X.A (eval (.Name x pos) X.env) Q E s:=by
 obtain⟨mb,h1,h2⟩:=I.mod.blt
 exact Q9s I.ok.kind hg (Calls.loadGlobal_builtin (by rw[I.ok.glob];exact I.mod.glob.keeps I.bk) hm (by rw[I.ok.blt];exact h1.keeps I.bk) ((h2 x hn).trans hv) h) hd
theorem z1q{x:Str}{v:V}{u:Q0b}{pos:Pos}(hg:Gl X x)(hm:X.mg x=some u)(r:RelV v u)(hd:(x==("__debug__" : Str))=false:=by decide):PE X (.Name x pos) (tC v):=
 fun _ _ _ H _ I h=>z9n I hg hm ⟨v,H,I,r,h⟩ hd
variable{a b:Expr}{ta tb:TE}{pos:Pos}
variable{tA tB':TT}{rest:List Expr}
def tAnd(t u:TT):TT:=fun σ H Q=>t σ H fun c H1=>if c=true then u σ H1 Q else Q false H1
def tOr(t u:TT):TT:=fun σ H Q=>t σ H fun c H1=>if c=true then Q true H1 else u σ H1 Q
def tNot(t:TT):TT:=fun σ H Q=>t σ H fun c H1=>Q (!c) H1
theorem y7g(ha:PT X a tA):PW X (.BoolOp .And [a] pos) tA:=by
 intro wh pins s σ H Q I h
 refine isTrue_and (thn (ha pins s σ H Q I h) fun c s1 e=>?_)
 cases c with
 |true=>exact isTrue_and_nil e
 |false=>exact e
theorem x1e(ha:PT X a tA):PW X (.BoolOp .Or [a] pos) tA:=by
 intro wh pins s σ H Q I h
 refine isTrue_or (thn (ha pins s σ H Q I h) fun c s1 e=>?_)
 cases c with
 |false=>exact isTrue_or_nil e
 |true=>exact e
theorem x1f(ha:PT X a tA)(hb:PW X (.BoolOp .And (b::rest) pos) tB'):PW X (.BoolOp .And (a::b::rest) pos) (tAnd tA tB'):=by
 intro wh pins s σ H Q I h
 refine isTrue_and (thn (ha pins s σ H _ I h) fun c s1 hh1=>?_)
 obtain⟨H1,I1,q1⟩:=hh1
 cases c with
 |true=>exact hb wh pins s1 σ H1 Q I1 q1
 |false=>exact⟨H1,I1,q1⟩
theorem x4x(ha:PT X a tA)(hb:PW X (.BoolOp .Or (b::rest) pos) tB'):PW X (.BoolOp .Or (a::b::rest) pos) (tOr tA tB'):=by
 intro wh pins s σ H Q I h
 refine isTrue_or (thn (ha pins s σ H _ I h) fun c s1 hh1=>?_)
 obtain⟨H1,I1,q1⟩:=hh1
 cases c with
 |true=>exact⟨H1,I1,q1⟩
 |false=>exact hb wh pins s1 σ H1 Q I1 q1
theorem x1h(ha:PT X a tA):PT X (.UnaryOp .Not a pos) (tNot tA):=by
 intro pins s σ H Q I h
 exact isTrue_not (ha pins s σ H (fun c H1=>Q (!c) H1) I h)
end
def SqL(K:Q2p)(H:Hp)(a:Q0u)(xs:List V):Prop:=
 Rd H a (.lst xs)\/
  ∃(o:Obj)(its:Array Q0b)(n:Nat),K.lookup a=some o/\o.cls=.type "list" /\o.dict=none/\o.data=.seq its n/\its.size<=Q0l/\Vals xs its.toList
def SqT(K:Q2p)(H:Hp)(a:Q0u)(xs:List V):Prop:=
 Rd H a (.tup xs)\/
  ∃(o:Obj)(its:Array Q0b)(n:Nat),K.lookup a=some o/\o.cls=.type "tuple" /\o.data=.seq its n/\its.size<=Q0l/\Vals xs its.toList
def absV:Q0b->Option V
 |.none=>some .non
 |.bool b=>some (.bl b)
 |.int i _=>some (.int i)
 |.str x _=>some (.str x)
 |.bytes b _=>some (.byt b)
 |.float b _=>some (.flt b)
 |.ref a=>some (.ref a)
 |.type n=>some (.ty n)
 |_=>none
theorem RelV.abs{x:V}{u:Q0b}(r:RelV x u):absV u=some x:=by
 cases x with
 |non=>cases r;rfl
 |bl _=>cases r;rfl
 |int _=>obtain⟨t,rfl⟩:=r;rfl
 |str _=>obtain⟨t,rfl⟩:=r;rfl
 |byt _=>obtain⟨t,rfl⟩:=r;rfl
 |flt _=>obtain⟨t,rfl⟩:=r;rfl
 |ref _=>cases r;rfl
 |ty _=>cases r;rfl
theorem RelV.inj{x y:V}{u:Q0b}(r:RelV x u)(q:RelV y u):x=y:=Q2j (r.abs.symm.trans q.abs)
theorem Vals.inj:∀{xs ys:List V}{us:List Q0b},Vals xs us->Vals ys us->xs=ys
 |_,_,_,.nil,.nil=>rfl
 |_,_,_,.cons r t,.cons r' t'=>by rw[r.inj r',Vals.inj t t']
section
variable{X:Cx}{pins:List (Q0u×Obj)}{σ:St}{H:Hp}{s:Q0d}{a:Q0u}{xs ys:List V}
theorem SqL.of{K:Q2p}(h:H a=some (.lst xs)):SqL K H a xs:=.inl (.inl h)
theorem SqT.of{K:Q2p}(h:H a=some (.tup xs)):SqT K H a xs:=.inl (.inl h)
theorem Inv.list(I:Inv X pins σ H s)(h:SqL X.K H a xs):∃its:List Q0b,Vals xs its/\PlainL s.heap a its.toArray/\xs.length<=Q0l:=by
 rcases h with h|⟨o,its,n,hk,hc,hd,hs,hz,r⟩
 ·obtain⟨z,its,n,r,e⟩:=h.ok I.hok
  exact⟨its,r,⟨_,n,e,rfl,rfl,rfl⟩,z⟩
 ·refine⟨its.toList,r,⟨o,n,I.kIn a o hk,hc,hd,by simpa using hs⟩,?_⟩
  have e:=r.length
  simp only[Q1u]at e
  omega
theorem Inv.tuple(I:Inv X pins σ H s)(h:SqT X.K H a xs):∃its:List Q0b,Vals xs its/\Q7n s.heap a its.toArray/\xs.length<=Q0l:=by
 rcases h with h|⟨o,its,n,hk,hc,hs,hz,r⟩
 ·obtain⟨z,its,r,p⟩:=h.ok I.hok
  exact⟨its,r,p,z⟩
 ·refine⟨its.toList,r,⟨o,I.kIn a o hk,hc,n,by simpa using hs⟩,?_⟩
  have e:=r.length
  simp only[Q1u]at e
  omega
theorem Inv.list_inj(I:Inv X pins σ H s)(h:SqL X.K H a xs)(h':SqL X.K H a ys):xs=ys:=by
 obtain⟨its,r,⟨o,n,e,_,_,d⟩,_⟩:=I.list h
 obtain⟨its',r',⟨o',n',e',_,_,d'⟩,_⟩:=I.list h'
 rw[e]at e';cases e'
 rw[d]at d'
 injection d' with d1 _
 have:its=its':=by simpa using congrArg Z4n d1
 subst this
 exact r.inj r'
theorem Inv.tuple_inj(I:Inv X pins σ H s)(h:SqT X.K H a xs)(h':SqT X.K H a ys):xs=ys:=by
 obtain⟨its,r,⟨o,e,_,n,d⟩,_⟩:=I.tuple h
 obtain⟨its',r',⟨o',e',_,n',d'⟩,_⟩:=I.tuple h'
 rw[e]at e';cases e'
 rw[d]at d'
 injection d' with d1 _
 have:its=its':=by simpa using congrArg Z4n d1
 subst this
 exact r.inj r'
end
section
variable{X:Cx}{pins:List (Q0u×Obj)}{σ:St}{H:Hp}{s:Q0d}{E:Q0b->Q0d->Prop}
end
section
variable{X:Cx}{st:Q5q}{rest:List Q5q}{t u:TS}{e:Expr}{te:TE}{pos:Pos}
def x4r:TS:=fun D σ H=>D.nx σ H
def tSeq(t u:TS):TS:=fun D σ H=>t {D with nx:=u D} σ H
theorem y7j:PSs X [] x4r:=fun _ _ σ H _ I h=>Q6y ⟨σ,H,I,h⟩
theorem y2m(h1:PS X st t)(h2:PSs X rest u):PSs X (st::rest) (tSeq t u):=by
 intro pins s σ H D I h
 refine Z5q (thn (h1 pins s σ H {D with nx:=u D} I h) fun f s1 q=>?_)
 cases f with
 |next=>
  obtain⟨σ',H',I',q⟩:=q
  exact h2 pins s1 σ' H' D I' q
 |ret v=>exact q
 |brk=>exact q
 |cont=>exact q
theorem y7i(h1:PS X st t):PSs X [st] t:=by
 intro pins s σ H D I h
 refine Z5q (thn (h1 pins s σ H D I h) fun f s1 q=>?_)
 cases f with
 |next=>exact Q6y q
 |ret v=>exact q
 |brk=>exact q
 |cont=>exact q
theorem Inv.quiet{pins:List (Q0u×Obj)}{σ:St}{H:Hp}{s:Q0d}(I:Inv X pins σ H s):interactive X.env=false:=by simp[interactive,I.ok.kind]
def x4t(te:TE):TS:=fun D σ H=>te σ H fun _ H1=>D.nx σ H1
theorem y7l(he:PE X e te)(hs:swapsWith e none pos.line X.env=pure false:=by rfl):PS X (.Expr e pos) (x4t te):=by
 intro pins s σ H D I h
 exact wpAny_Expr_any (thn (he pins s σ H _ I h) fun v s1 hh1=>by obtain⟨x,H1,I1,r1,q1⟩:=hh1;exact(⟨σ,H1,I1,q1⟩)) I.quiet hs
def tRet(te:TE):TS:=fun D σ H=>te σ H D.rt
theorem x1j(he:PE X e te):PS X (.Return (some e) pos) (tRet te):=by
 intro pins s σ H D I h
 exact wpAny_Return_some (thn (he pins s σ H _ I h) fun v s1 hh1=>by obtain⟨x,H1,I1,r1,q1⟩:=hh1;exact(⟨x,σ,H1,I1,r1,q1⟩))
def tIfS(c:TT)(t u:TS):TS:=fun D σ H=>c σ H fun b H1=>if b=true then t D σ H1 else u D σ H1
theorem x4y{c:Expr}{a b:List Q5q}{tc:TT}(hc:PT X c tc)(ha:PSs X a t)(hb:PSs X b u):PS X (.If c a b pos) (tIfS tc t u):=by
 intro pins s σ H D I h
 refine wpAny_If (thn (hc pins s σ H _ I h) fun d s1 hh1=>?_)
 obtain⟨H1,I1,q1⟩:=hh1
 cases d with
 |true=>exact ha pins s1 σ H1 D I1 q1
 |false=>exact hb pins s1 σ H1 D I1 q1
def x0f:TS:=fun _ _ _=>False
theorem y2o:PS X st x0f:=fun _ _ _ _ _ _ h=>h.elim
end
abbrev TG:=V->St->Hp->(St->Hp->Prop)->Prop
abbrev TGs:=List V->St->Hp->(St->Hp->Prop)->Prop
def PG(X:Cx)(target:Expr)(t:TG):Prop:=
 ∀(pins:List (Q0u×Obj))(s:Q0d)(σ:St)(H:Hp)(v:V)(u:Q0b)(Q:St->Hp->Prop),Inv X pins σ H s->RelV v u->t v σ H Q->
  Q1d (model X.prog X.w) X.A (assign target X.env u) (fun _ s'=>∃σ' H',Inv X pins σ' H' s'/\Q σ' H') X.xe s
def PGs(X:Cx)(ts:List Expr)(t:TGs):Prop:=
 ∀(pins:List (Q0u×Obj))(s:Q0d)(σ:St)(H:Hp)(vs:List V)(us:List Q0b)(Q:St->Hp->Prop),Inv X pins σ H s->Vals vs us->t vs σ H Q->
  Q1d (model X.prog X.w) X.A (assignInOrder ((assignEach ts X.env).map (·.2)) us) (fun _ s'=>∃σ' H',Inv X pins σ' H' s'/\Q σ' H') X.xe s
abbrev TSet:=V->V->V->Hp->(Hp->Prop)->Prop
def PSet(X:Cx)(t:TSet):Prop:=
 ∀(pins:List (Q0u×Obj))(s:Q0d)(σ:St)(H:Hp)(o i v:V)(ov iv u:Q0b)(Q:Hp->Prop),Inv X pins σ H s->RelV o ov->RelV i iv->RelV v u->t o i v H Q->
  Q1d (model X.prog X.w) X.A (setItem ov iv u) (fun _ s'=>∃H',Inv X pins σ H' s'/\Q H') X.xe s
section
variable{X:Cx}{pos:Pos}
def x3n(i:Nat):TG:=fun v σ H Q=>Q (σ.set i (some v)) H
theorem y7q{i:Nat}{x:Str}(hN:X.N.Nodup)(hi:X.N[i]?=some x)(hx:Loc X.env.scope x)(hf:X.fn x=true\/X.env.scope.names.lookup x=some .local:=by first|exact .inl rfl|exact .inr rfl|assumption):PG X (.Name x pos) (x3n i):=by
 intro pins s σ H v u Q I r h
 exact Z4y (z2x I hN hi hx r (fun s' I'=>⟨_,H,I',h⟩) hf)
def gNil:TGs:=fun vs σ H Q=>vs=[]/\Q σ H
def x6m(t:TG)(u:TGs):TGs:=fun vs σ H Q=>∃v r,vs=v::r/\t v σ H fun σ' H'=>u r σ' H' Q
theorem y7p:PGs X [] gNil:=by
 intro pins s σ H vs us Q I r h
 obtain⟨e,h⟩:=h
 subst e
 cases r
 exact assignInOrder_nil ⟨σ,H,I,h⟩
theorem y2r{e:Expr}{es:List Expr}{t:TG}{u:TGs}(h1:PG X e t)(h2:PGs X es u)
  (hs:(assignEach (e::es) X.env).map (·.2)=assign e X.env::(assignEach es X.env).map (·.2):=by rfl):PGs X (e::es) (x6m t u):=by
 intro pins s σ H vs us Q I r h
 obtain⟨v,vr,e1,h⟩:=h
 subst e1
 cases r with
 |cons r rr=>
  rw[hs]
  refine assignInOrder_cons (thn (h1 pins s σ H _ _ _ I r h) fun _ s1 hh1=>?_)
  obtain⟨σ1,H1,I1,q1⟩:=hh1
  exact h2 pins s1 σ1 H1 _ _ Q I1 rr q1
def gTup(K:Q2p)(n:Nat)(t:TGs):TG:=fun v σ H Q=>∃a xs,v=.ref a/\SqT K H a xs/\xs.length=n/\t xs σ H Q
theorem x1r{es:List Expr}{k:Nat}{t:TGs}{n:Nat}(hc:X.calm=true)(h:PGs X es t)
  (hn:(assignEach es X.env).length=n:=by rfl) (hst:(assignEach es X.env).findIdx? (·.1)=none:=by rfl):PG X (.Tuple es k pos) (gTup X.K n t):=by
 intro pins s σ H v u Q I r hw
 obtain⟨a,xs,e1,hq,hl,hw⟩:=hw
 subst e1
 cases r
 obtain⟨its,rv,ht,hz⟩:=I.tuple hq
 refine assign_Tuple_tuple (I.ok.hd hc) ht (by simp[hn,<-hl,rv.length]) hst fun h' hx=>?_
 have I1:Inv X pins σ H {s with heap:=h' }:=I.kept (t':=s.toks) fun b o e=>hx b o (Q0y (Q0m e)) e
 exact h pins _ σ H xs _ Q I1 (by simpa using rv) hw
def gSub(to ti:TE)(t:TSet):TG:=fun v σ H Q=>to σ H fun o H1=>ti σ H1 fun i H2=>t o i v H2 fun H3=>Q σ H3
theorem x1s{o i:Expr}{to ti:TE}{t:TSet}(ho:PE X o to)(hi:PE X i ti)(hs:PSet X t)
  (ha:∀v,assign (.Subscript o i pos) X.env v=(do
   let ov <-holding [v] (eval o X.env)
   let iv <-holding [v,ov] (eval i X.env)
   standAt pos
   holding [v,ov,iv] (setItem ov iv v)
   release [v,ov,iv] []):=by intro _;rfl):PG X (.Subscript o i pos) (gSub to ti t):=by
 intro pins s σ H v u Q I r h
 rw[ha]
 refine Q0a (Q2e (thn (ho pins s σ H _ I h) fun ov s1 hh1=>?_))
 obtain⟨x,H1,I1,r1,q1⟩:=hh1
 refine Q0a (Q2e (thn (hi pins s1 σ H1 _ I1 q1) fun iv s2 hh2=>?_))
 obtain⟨y,H2,I2,r2,q2⟩:=hh2
 refine Q0a (Q4p (Q0a (Q2e (thn (hs pins s2 σ H2 x y v ov iv u _ I2 r1 r2 r q2) fun _ s3 hh3=>?_))))
 obtain⟨H3,I3,q3⟩:=hh3
 exact wpAny_release ⟨σ,H3,I3,q3⟩
def tAsg(te:TE)(g:TG):TS:=fun D σ H=>te σ H fun x H1=>g x σ H1 D.nx
theorem x1l{tg e:Expr}{te:TE}{g:TG}(he:PE X e te)(hg:PG X tg g)(hs:swapsWithSole [tg] e pos.line X.env=pure false:=by rfl)(hw:swappedStores [tg] e X.env=pure none:=by rfl)
  (h1:(assignEach [tg] X.env).map (·.2)=[assign tg X.env]:=by rfl):PS X (.Assign [tg] e pos) (tAsg te g):=by
 intro pins s σ H D I h
 refine wpAny_Assign_stores (thn (he pins s σ H _ I h) fun v s1 ⟨x,H1,I1,r1,q1⟩=>?_) hs hw
 rw[h1]
 exact thn (hg pins s1 σ H1 x v _ I1 r1 q1) fun _ s2 q=>q
theorem x1i{i:Nat}{x:Str}{e:Expr}{te:TE}{pos':Pos}(hN:X.N.Nodup)(hi:X.N[i]?=some x)(hx:Loc X.env.scope x)(he:PE X e te)(hs:swapsWith e (some (.Name x pos')) pos.line X.env=pure false:=by rfl)(hf:X.fn x=true\/X.env.scope.names.lookup x=some .local:=by first|exact .inl rfl|exact .inr rfl|assumption) :
  PS X (.Assign [.Name x pos'] e pos) (tAsg te (x3n i)):=by
 intro pins s σ H D I h
 refine wpAny_Assign_Name (thn (he pins s σ H _ I h) fun v s1 ⟨y,H1,I1,r1,q1⟩=>?_) hs
 exact z2x I1 hN hi hx r1 (fun s2 I2=>⟨_,H1,I2,q1⟩) hf
end
section
variable{X:Cx}{pos:Pos}
def x0d(c:TT)(tb:TS):TS:=fun D σ H=>∃W:Nat->St->Hp->Prop,(∃m,W m σ H)/\∀m σ H,W m σ H->
 c σ H fun b H1=>if b=true then ∃N:St->Hp->Prop,(∀σ' H',N σ' H'->∃m',m'<m/\W m' σ' H')/\tb {D with nx:=N,ct:=N,bk:=D.nx} σ H1 else D.nx σ H1
theorem y2n{c:Expr}{body:List Q5q}{tc:TT}{tb:TS}(hp:Z3f (model X.prog X.w) X.A X.env X.xe)(hc:PT X c tc)(hb:PSs X body tb):PS X (.While c body [] pos) (x0d tc tb):=by
 intro pins s σ H D I h
 obtain⟨W,⟨m0,w0⟩,turn⟩:=h
 refine wpAny_While (codeAny_whileLoop (fun n s'=>∃σ' H',Inv X pins σ' H' s'/\W n σ' H') ?_ m0 ⟨σ,H,I,w0⟩)
 rintro n s1 ⟨σ1,H1,I1,w1⟩
 refine Q5d hp (thn (hc pins s1 σ1 H1 _ I1 (turn n σ1 H1 w1)) fun b s2 hh1=>?_)
 obtain⟨H2,I2,q2⟩:=hh1
 cases b with
 |true=>
  obtain⟨N,hN,q2⟩:=q2
  rw[if_pos rfl]
  refine Q5d hp (thn (hb pins s2 σ1 H2 _ I2 q2) fun f s3 q3=>?_)
  cases f with
  |next=>
   obtain⟨σ3,H3,I3,n3⟩:=q3
   obtain⟨m',hm,w3⟩:=hN σ3 H3 n3
   exact⟨m',hm,σ3,H3,I3,w3⟩
  |cont=>
   obtain⟨σ3,H3,I3,n3⟩:=q3
   obtain⟨m',hm,w3⟩:=hN σ3 H3 n3
   exact⟨m',hm,σ3,H3,I3,w3⟩
  |brk=>exact q3
  |ret v=>exact q3
 |false=>
  rw[if_neg Q2o]
  exact Q6y ⟨σ1,H2,I2,q2⟩
end
structure It where
 go:Nat->Hp->Prop
 yld:Nat->Hp->V->Hp->Prop
 stop:Nat->Hp->Prop
def FpOk(X:Cx)(pins:List (Q0u×Obj))(H:Hp)(b:Q0u):Prop:=
 H b=none/\b≠X.env.locals/\b∉X.fs/\(b∈X.ex\/X.s₀.heap.objs.size<=b)/\(∀x c,X.env.cells.lookup x=some c->c≠b)/\∀p∈X.pn++pins,p.1≠b
theorem Inv.fpOk{X:Cx}{pins:List (Q0u×Obj)}{σ:St}{H H':Hp}{s:Q0d}{b:Q0u}(I:Inv X pins σ H s)(hb:s.heap.objs.size<=b)(hn:H' b=none):FpOk X pins H' b:=by
 refine⟨hn,Q1s (Q1a I.lt hb),I.nofs hb,.inr (Q1l I.sz hb),fun x c e z=>?_,fun p hp z=>?_⟩
 ·obtain⟨v,q⟩:=I.cell x c e
  exact absurd (Q1a q.lt (by rw[z];exact hb)) (Q3n _)
 ·exact absurd (Q1a (Q0m (I.pin p hp).1) (by rw[z];exact hb)) (Q3n _)
structure Turn(P:Q1e)(w:Q1x)(K:Q2p)(tg:Expr)(J:It)(fp:List Q0u)(it:Q0u)(tn:Nat->Q1h->Prop):Prop where
 mem:it∈fp
 obj:∀i h,tn i h->∀b∈fp,∃o,h.get? b=some o/\∀v,o.data≠.cell v
 keep:∀i h h',tn i h->(∀b∈fp,∀o,h.get? b=some o->h'.get? b=some o)->tn i h'
 item:∀(X:Cx),X.prog=P->X.w=w->X.K=K->X.calm=true->∀(i:Nat)(pins:List (Q0u×Obj))(s:Q0d)(σ:St)(H:Hp)(E:Q0b->Q0d->Prop),Inv X pins σ H s->(∀b∈fp,FpOk X pins H b)->tn i s.heap->J.go i H->
  Q1d (model P w) X.A (pyNext (.ref it)) (fun r s1=>∃u,r=some u/\
   Q1d (model P w) X.A (letOwnedTupleGo tg (.ref it) u) (fun _ s2=>∃x H',Inv X pins σ H' s2/\RelV x u/\J.yld i H x H'/\tn (i+1) s2.heap/\∀b∈fp,H' b=none) E s1) E s
 done:∀(X:Cx),X.prog=P->X.w=w->X.K=K->X.calm=true->∀(i:Nat)(pins:List (Q0u×Obj))(s:Q0d)(σ:St)(H:Hp)(E:Q0b->Q0d->Prop),Inv X pins σ H s->(∀b∈fp,FpOk X pins H b)->tn i s.heap->J.stop i H->
  Q1d (model P w) X.A (pyNext (.ref it)) (fun r s1=>r=none/\Inv X pins σ H s1) E s
 self:∀(A:Q1t)(i:Nat)(s:Q0d)(Q:Q0b->Q0d->Prop)(E:Q0b->Q0d->Prop),tn i s.heap->Q (.ref it) s->Q1d (model P w) A (pyIter (.ref it)) Q E s
abbrev TI:=St->Hp->(It->Hp->Prop)->Prop
def PIE(X:Cx)(pins:List (Q0u×Obj))(σ:St)(tg:Expr)(R:It->Hp->Prop)(itv:Q0b)(s2:Q0d):Prop:=
 ∃(it:Q0u)(fp:List Q0u)(tn:Nat->Q1h->Prop)(J:It)(H':Hp),itv=.ref it/\Inv X pins σ H' s2/\Turn X.prog X.w X.K tg J fp it tn/\tn 0 s2.heap/\(∀b∈fp,FpOk X pins H' b)/\R J H'
def PI(X:Cx)(tg iter:Expr)(wi:TI):Prop:=
 ∀(pins:List (Q0u×Obj))(s:Q0d)(σ:St)(H:Hp)(R:It->Hp->Prop),Inv X pins σ H s->wi σ H R->
  Q1d (model X.prog X.w) X.A (eval iter X.env) (fun v s1=>Q1d (model X.prog X.w) X.A (pyIter v) (PIE X pins σ tg R) X.xe s1) X.xe s
theorem y0b {M : Z1b} {A : Q1t} {E : Q0b -> Q0d -> Prop} {s : Q0d} {tg : Expr} {it : Q0u} {u : Q0b} {o : Obj} {n : String} {vs : Array Q0b} {Q : Unit -> Q0d -> Prop} (ho : s.heap.get? it = some o) (hc : o.cls = .type n) (hd : o.data = .fields vs)
    (hn : ["enumerate", "zip", "dict_itemiterator", "dict_reverseitemiterator", "odict_iterator", "itertools.zip_longest", "itertools.pairwise"].contains n = false) (hQ : Q () s) : Q1d M A (letOwnedTupleGo tg (.ref it) u) Q E s := by
  unfold letOwnedTupleGo
  cases tg <;> first
    | exact Q0f hQ
    | (cases u <;> first
        | exact Q0f hQ
        | (refine Q0a (wpAny_load ho ?_)
           rw [hc, hd]
           show Q1d M A (if (["enumerate", "zip", "dict_itemiterator", "dict_reverseitemiterator", "odict_iterator", "itertools.zip_longest", "itertools.pairwise"].contains n && vs[0]? == some (rawInt _)) = true then _ else _) Q E s
           rw [if_neg (by intro h; rw [hn, Z4e] at h; cases h)]
           exact Q0f hQ))
def Itl(K:Q2p)(a:Q0u):It:=
 ⟨fun i H=>∃xs x,SqL K H a xs/\xs[i]?=some x,fun i H x H'=>H'=H/\∀xs,SqL K H a xs->xs[i]?=some x,fun i H=>∃xs,SqL K H a xs/\xs.length<=i⟩
def Itt(K:Q2p)(a:Q0u):It:=
 ⟨fun i H=>∃xs x,SqT K H a xs/\xs[i]?=some x,fun i H x H'=>H'=H/\∀xs,SqT K H a xs->xs[i]?=some x,fun i H=>∃xs,SqT K H a xs/\xs.length<=i⟩
def Itr(lo:Int)(n:Nat):It:=⟨fun i _=>i<n,fun i H x H'=>H'=H/\x=.int (lo+i),fun i _=>n<=i⟩
theorem z6l{P:Q1e}{w:Q1x}{K:Q2p}{tg:Expr}(a it:Q0u):Turn P w K tg (Itl K a) [it] it (fun i h=>h.IsListIter it a i) where
 mem:=by simp
 obj:=fun i h st b hb=>by
  have e:b=it:=by simpa using hb
  subst e
  obtain⟨o,e,c,d⟩:=st
  exact⟨o,e,fun v z=>by rw[d]at z;cases z⟩
 keep:=fun i h h' st k=>st.at fun o e=>k it (by simp) o e
 item:=by
  intro X hP hw hK hc i pins s σ H E I hf st hg
  subst hP hw hK
  obtain⟨xs,x,hq,hx⟩:=hg
  obtain⟨its,rv,p,hz⟩:=I.list hq
  obtain⟨u,hu,ru⟩:=rv.get hx
  obtain⟨f0,f1,f2,f3,f4,f5⟩:=hf it (by simp)
  refine wpAny_pyNext_list_item st p.isList (x:=u) (by simpa using hu) fun h' st' sb=>?_
  have I1:Inv X pins σ H {s with heap:=h' }:=I.turned (t':=s.toks) (fun b o hb e=>(sb.2 b hb).trans e) f0 f1 f3 f4 f5
  obtain⟨o,e,c,d⟩:=id st'
  exact⟨u,rfl,y0b (s:={s with heap:=h' }) e c d (by decide) ⟨x,H,I1,ru,⟨rfl,fun ys hy=>by rw[I.list_inj hy hq];exact hx⟩,st',fun b hb=>(hf b hb).1⟩⟩
 done:=by
  intro X hP hw hK hc i pins s σ H E I hf st hg
  subst hP hw hK
  obtain⟨xs,hq,hx⟩:=hg
  obtain⟨its,rv,p,hz⟩:=I.list hq
  obtain⟨f0,f1,f2,f3,f4,f5⟩:=hf it (by simp)
  have hl:=rv.length
  exact wpAny_pyNext_list_end (I.ok.hd hc) st p.isList (by simp;omega) fun h' eb=>⟨rfl,I.turned (t':=s.toks) (fun b o hb e=>eb b o hb e) f0 f1 f3 f4 f5⟩
 self:=fun _ _ _ _ _ st h=>wpAny_pyIter_listiter st h
theorem z4l{P:Q1e}{w:Q1x}{K:Q2p}{tg:Expr}(a it:Q0u):Turn P w K tg (Itt K a) [it] it (fun i h=>h.IsTupleIter it a i) where
 mem:=by simp
 obj:=fun i h st b hb=>by
  have e:b=it:=by simpa using hb
  subst e
  obtain⟨o,e,c,d⟩:=st
  exact⟨o,e,fun v z=>by rw[d]at z;cases z⟩
 keep:=fun i h h' st k=>st.at fun o e=>k it (by simp) o e
 item:=by
  intro X hP hw hK hc i pins s σ H E I hf st hg
  subst hP hw hK
  obtain⟨xs,x,hq,hx⟩:=hg
  obtain⟨its,rv,p,hz⟩:=I.tuple hq
  obtain⟨u,hu,ru⟩:=rv.get hx
  obtain⟨f0,f1,f2,f3,f4,f5⟩:=hf it (by simp)
  refine wpAny_pyNext_tuple_item st (show s.heap.IsTuple a its.toArray from p) (x:=u) (by simpa using hu) fun h' st' sb=>?_
  have I1:Inv X pins σ H {s with heap:=h' }:=I.turned (t':=s.toks) (fun b o hb e=>(sb.2 b hb).trans e) f0 f1 f3 f4 f5
  obtain⟨o,e,c,d⟩:=id st'
  exact⟨u,rfl,y0b (s:={s with heap:=h' }) e c d (by decide) ⟨x,H,I1,ru,⟨rfl,fun ys hy=>by rw[I.tuple_inj hy hq];exact hx⟩,st',fun b hb=>(hf b hb).1⟩⟩
 done:=by
  intro X hP hw hK hc i pins s σ H E I hf st hg
  subst hP hw hK
  obtain⟨xs,hq,hx⟩:=hg
  obtain⟨its,rv,p,hz⟩:=I.tuple hq
  obtain⟨f0,f1,f2,f3,f4,f5⟩:=hf it (by simp)
  have hl:=rv.length
  exact wpAny_pyNext_tuple_end (I.ok.hd hc) st (show s.heap.IsTuple a its.toArray from p) (by simp;omega) fun h' eb=>⟨rfl,I.turned (t':=s.toks) (fun b o hb e=>eb b o hb e) f0 f1 f3 f4 f5⟩
 self:=fun _ _ _ _ _ st h=>wpAny_pyIter_tupleiter st h
theorem z4m{P:Q1e}{w:Q1x}{K:Q2p}{tg:Expr}(it:Q0u)(lo:Int)(n:Nat):Turn P w K tg (Itr lo n) [it] it (fun i h=>IsRangeIter h it (lo+(i:Nat)*1) ((n:Int)-(i:Nat)) 1) where
 mem:=by simp
 obj:=fun i h st b hb=>by
  have e:b=it:=by simpa using hb
  subst e
  exact⟨_,st,fun v z=>by
   have z':Data.fields _=Data.cell v:=z
   cases z'⟩
 keep:=fun i h h' st k=>k it (by simp) _ st
 item:=by
  intro X hP hw hK hc i pins s σ H E I hf st hg
  subst hP hw hK
  obtain⟨f0,f1,f2,f3,f4,f5⟩:=hf it (by simp)
  have W:=Walks.range (prog:=X.prog) (w:=X.w) (I.ok.hd hc) it lo 1 n
  refine W.item i s _ _ hg st fun v h' tk hv st' kk=>?_
  obtain⟨t,rfl⟩:=hv
  have I1:Inv X pins σ H {s with heap:=h',toks:=tk}:=I.turned (fun b o hb e=>kk b o (by simpa using hb) e) f0 f1 f3 f4 f5
  refine⟨_,rfl,y0b (s:={s with heap:=h',toks:=tk}) (n:= "range_iterator") st' rfl rfl (by decide) ⟨.int (lo+i),H,I1,⟨t,?_⟩,⟨rfl,rfl⟩,st',fun b hb=>(hf b hb).1⟩⟩
  rw[Int.mul_one]
 done:=by
  intro X hP hw hK hc i pins s σ H E I hf st hg
  subst hP hw hK
  obtain⟨f0,f1,f2,f3,f4,f5⟩:=hf it (by simp)
  exact wpAny_pyNext_range_end (I.ok.hd hc) st (by have:n<=i:=hg;omega) fun h' eb=>⟨rfl,I.turned (t':=s.toks) (fun b o hb e=>eb b o hb e) f0 f1 f3 f4 f5⟩
 self:=fun _ _ _ _ _ st h=>wpAny_pyIter_rangeiter st h
section
variable{X:Cx}{tg:Expr}
theorem z3g{pins:List (Q0u×Obj)}{σ:St}{H:Hp}{s:Q0d}{R:It->Hp->Prop}{E:Q0b->Q0d->Prop}{lo hi:Int}{t u v:Tok}{tk:Nat}(I:Inv X pins σ H s)(h1:-(2 ^ 62)<=lo)(h2:lo<2 ^ 62)(h3:-(2 ^ 62)<=hi)(h4:hi<2 ^ 62)
  (q:R (Itr lo (hi-lo).toNat) H):Q1d (model X.prog X.w) X.A (pyIter (.ref s.heap.objs.size)) (PIE X pins σ tg R) E {s with heap:=s.heap.push {cls:=.type "range",data:=.fields #[.int lo t,.int hi u,.int 1 v]},toks:=tk}:=by
 refine wpAny_pyIter_range (IsRange.new ..) (small_one h1 h2 h3 h4) ?_
 have I1:Inv X pins σ H {s with heap:=s.heap.push {cls:=.type "range",data:=.fields #[.int lo t,.int hi u,.int 1 v]},toks:=tk}:=I.kept fun b o e=>Q0c _ e
 refine⟨(s.heap.push {cls:=.type "range",data:=.fields #[.int lo t,.int hi u,.int 1 v]}).objs.size,[(s.heap.push {cls:=.type "range",data:=.fields #[.int lo t,.int hi u,.int 1 v]}).objs.size],_,_,H,rfl,
  I1.kept (t':=tk) fun b o e=>Q0c _ e,z4m _ lo (hi-lo).toNat,?_,fun b hb=>?_,q⟩
 ·have e1:lo+((0:Nat):Int)*1=lo:=by simp
  have e2:(((hi-lo).toNat:Nat):Int)-((0:Nat):Int)=Q1g.Range.rangeSize lo hi 1:=by rw[rangeSize_one];split<;>omega
  show IsRangeIter _ _ (lo+((0:Nat):Int)*1) ((((hi-lo).toNat:Nat):Int)-((0:Nat):Int)) 1
  rw[e1,e2]
  exact Q0w _ rfl
 ·have e:b=(s.heap.push {cls:=.type "range",data:=.fields #[.int lo t,.int hi u,.int 1 v]}).objs.size:=by simpa using hb
  subst e
  exact I1.fpOk (Q0k _) (I1.hok.fresh (Q0k _))
def x6k(ta:TA):TI:=fun σ H R=>ta σ H fun vs H1=>∃j:Int,vs=[.int j]/\-(2 ^ 62)<=j/\j<2 ^ 62/\R (Itr 0 j.toNat) H1
def x6j(ta:TA):TI:=fun σ H R=>ta σ H fun vs H1=>∃i j:Int,vs=[.int i,.int j]/\(-(2 ^ 62)<=i/\i<2 ^ 62/\-(2 ^ 62)<=j/\j<2 ^ 62)/\R (Itr i (j-i).toNat) H1
theorem z8h{a:Expr}{ta:TA}{p pos:Pos}(hg:Gl X "range")(hm:X.mg "range" = none)(ha:PA X [a] ta)(hs:Q1m [a] X.env=[(false,eval a X.env)]:=by rfl):PI X tg (.Call (.Name "range" p) [a] [] pos) (x6k ta):=by
 intro pins s σ H R I h
 refine Call_ (q4n I hg hm boot_range (Q3b (thn (ha pos pins s σ H _ I h) fun us s1 ⟨vs,H1,I1,r1,q1⟩=>?_) hs rfl))
 obtain⟨j,e,q1,q2,q⟩:=q1
 subst e
 cases r1 with
 |cons r rr=>
  cases rr
  obtain⟨t,rfl⟩:=r
  exact call_range_1 (z3g I1 (by omega) (by omega) q1 q2 (by simpa using q))
theorem z8g{a b:Expr}{ta:TA}{p pos:Pos}(hg:Gl X "range")(hm:X.mg "range" = none)(ha:PA X [a,b] ta)(hs:Q1m [a,b] X.env=[(false,eval a X.env),(false,eval b X.env)]:=by rfl)(hs2:Q1m [b] X.env=[(false,eval b X.env)]:=by rfl) :
  PI X tg (.Call (.Name "range" p) [a,b] [] pos) (x6j ta):=by
 intro pins s σ H R I h
 refine Call_ (q4n I hg hm boot_range (Q3b (thn (ha pos pins s σ H _ I h) fun us s1 ⟨vs,H1,I1,r1,q1⟩=>?_) (by rw[hs,hs2]) (by rw[hs2];rfl)))
 obtain⟨i,j,e,⟨q1,q2,q3,q4⟩,q⟩:=q1
 subst e
 cases r1 with
 |cons r rr=>
  cases rr with
  |cons r' rr=>
   cases rr
   obtain⟨t,rfl⟩:=r
   obtain⟨t',rfl⟩:=r'
   exact call_range_2 (z3g I1 q1 q2 q3 q4 q)
def tFor(wi:TI)(g:TG)(tb:TS):TS:=fun D σ H=>wi σ H fun J H1=>∃W:Nat->Nat->St->Hp->Prop,(∃m,W 0 m σ H1)/\∀i m σ H,W i m σ H->
 (J.stop i H/\D.nx σ H)\/(J.go i H/\∃N:St->Hp->Prop,(∀σ' H',N σ' H'->∃m',m'<m/\W (i+1) m' σ' H')/\∀x H',J.yld i H x H'->g x σ H' fun σ2 H2=>tb {D with nx:=N,ct:=N,bk:=D.nx} σ2 H2)
def q2y(fp:List Q0u)(h:Q1h):List (Q0u×Obj):=fp.filterMap fun b=>(h.get? b).map fun o=>(b,o)
theorem q1a{fp:List Q0u}{h:Q1h}{b:Q0u}{o:Obj}(hb:b∈fp)(e:h.get? b=some o):(b,o)∈q2y fp h:=Z2h.mpr ⟨b,hb,by rw[e];rfl⟩
theorem q4m{fp:List Q0u}{h:Q1h}{p:Q0u×Obj}(hp:p∈q2y fp h):p.1∈fp/\h.get? p.1=some p.2:=by
 obtain⟨b,hb,e⟩:=Z2h.mp hp
 cases q:h.get? b with
 |none=>rw[q]at e;cases e
 |some o=>
  rw[q]at e
  have e':(b,o)=p:=Q2j e
  subst e'
  exact⟨hb,q⟩
theorem Inv.pinned{pins:List (Q0u×Obj)}{σ:St}{H:Hp}{s:Q0d}{fp:List Q0u}(I:Inv X pins σ H s)(hf:∀b∈fp,FpOk X pins H b)(ho:∀b∈fp,∃o,s.heap.get? b=some o/\∀v,o.data≠.cell v):Inv X (pins++q2y fp s.heap) σ H s:=
 I.pins_of fun p hp=>(Q0n.mp hp).elim (fun z=>I.pin p (Q0t _ z)) fun z=>by
  obtain⟨hb,e⟩:=q4m z
  obtain⟨f0,f1,f2,_⟩:=hf p.1 hb
  obtain⟨o,e',d⟩:=ho p.1 hb
  rw[e]at e';cases e'
  exact⟨e,f0,f1,f2,d⟩
theorem Inv.unpinned{pins pl:List (Q0u×Obj)}{σ:St}{H:Hp}{s:Q0d}(I:Inv X (pins++pl) σ H s):Inv X pins σ H s:=I.pins_of fun p hp=>I.pin p (Q0t _ (Q5c _ hp))
theorem x1k{iter:Expr}{body:List Q5q}{wi:TI}{g:TG}{tb:TS}{pos:Pos}(hp:Z3f (model X.prog X.w) X.A X.env X.xe)(hc:X.calm=true)(hi:PI X tg iter wi)(hg:PG X tg g)(hb:PSs X body tb)
  (hs:∀x,foldedSetIterable iter X.env x=pure x:=by intro _;rfl):PS X (.For tg iter body [] pos) (tFor wi g tb):=by
 intro pins s σ H D I h
 refine wpAny_For (thn (hi pins s σ H _ I h) fun v s1 h1=>thn h1 fun itv s2 h2=>?_) hs
 obtain⟨it,fp,tn,J,H2,e,I2,T,st2,f2,W,⟨m0,w0⟩,turn⟩:=h2
 subst e
 have stat:∀{H':Hp},(∀b∈fp,H' b=none)->∀b∈fp,FpOk X pins H' b:=fun hn b hb=>⟨hn b hb,(f2 b hb).2⟩
 refine codeAny_forLoop_any (fun n s'=>∃i σ' H',Inv X pins σ' H' s'/\tn i s'.heap/\(∀b∈fp,H' b=none)/\W i n σ' H') ?_ m0 ⟨0,σ,H2,I2,st2,fun b hb=>(f2 b hb).1,w0⟩
 rintro n s3 ⟨i,σ3,H3,I3,st3,fr3,w3⟩
 rcases turn i n σ3 H3 w3 with⟨stop,qn⟩|⟨go,N,hN,step⟩
 ·refine Q5d hp (thn (T.done X rfl rfl rfl hc i pins s3 σ3 H3 X.xe I3 (stat fr3) st3 stop) fun r s4 hh1=>?_)
  obtain⟨hr,I4⟩:=hh1
  subst hr
  exact Q6y ⟨σ3,H3,I4,qn⟩
 ·refine Q5d hp (thn (T.item X rfl rfl rfl hc i pins s3 σ3 H3 X.xe I3 (stat fr3) st3 go) fun r s4 hh2=>?_)
  obtain⟨u,hr,h4⟩:=hh2
  subst hr
  refine Q5d hp (thn h4 fun _ s5 hh3=>?_)
  obtain⟨x,H5,I5,r5,y5,st5,fr5⟩:=hh3
  have I5':=I5.pinned (stat fr5) (T.obj _ _ st5)
  refine Q5d hp (thn (hg _ s5 σ3 H5 x u _ I5' r5 (step x H5 y5)) fun _ s6 hh4=>?_)
  obtain⟨σ6,H6,I6,q6⟩:=hh4
  refine Q5d hp (thn (hb _ s6 σ6 H6 _ I6 q6) fun f s7 q7=>?_)
  have again:∀{σ7:St}{H7:Hp},Inv X (pins++q2y fp s5.heap) σ7 H7 s7->N σ7 H7->∃m,m<n/\∃i σ' H',Inv X pins σ' H' s7/\tn i s7.heap/\(∀b∈fp,H' b=none)/\W i m σ' H':=fun {σ7 H7} I7 n7=>by
   obtain⟨m',hm,w7⟩:=hN σ7 H7 n7
   refine⟨m',hm,i+1,σ7,H7,I7.unpinned,T.keep _ _ _ st5 fun b hb o e=>(I7.pin (b,o) (Q0t _ (Q0t _ (q1a hb e)))).1,fun b hb=>?_,w7⟩
   obtain⟨o,e,d⟩:=T.obj _ _ st5 b hb
   exact(I7.pin (b,o) (Q0t _ (Q0t _ (q1a hb e)))).2.1
  cases f with
  |next=>obtain⟨σ7,H7,I7,n7⟩:=q7;exact again I7 n7
  |cont=>obtain⟨σ7,H7,I7,n7⟩:=q7;exact again I7 n7
  |brk=>obtain⟨σ7,H7,I7,q7⟩:=q7;exact⟨σ7,H7,I7.unpinned,q7⟩
  |ret v=>obtain⟨x7,σ7,H7,I7,r7,q7⟩:=q7;exact⟨x7,σ7,H7,I7.unpinned,r7,q7⟩
end
abbrev R2:=V->V->Hp->VK->Prop
def OpR(X:Cx)(f:Q0b->Q0b->Sem Q0b)(r:R2):Prop:=
 ∀(pins:List (Q0u×Obj))(s:Q0d)(σ:St)(H:Hp)(x y:V)(v u:Q0b)(Q:VK),Inv X pins σ H s->RelV x v->RelV y u->r x y H Q->
  Q1d (model X.prog X.w) X.A (f v u) (EP X pins σ Q) X.xe s
def UnR(X:Cx)(f:Q0b->Sem Q0b)(r:V->Hp->VK->Prop):Prop:=
 ∀(pins:List (Q0u×Obj))(s:Q0d)(σ:St)(H:Hp)(x:V)(v:Q0b)(Q:VK),Inv X pins σ H s->RelV x v->r x H Q->
  Q1d (model X.prog X.w) X.A (f v) (EP X pins σ Q) X.xe s
def q3r(X:Cx)(f:Q0b)(r:List V->Hp->VK->Prop):Prop:=
 ∀(pins:List (Q0u×Obj))(s:Q0d)(σ:St)(H:Hp)(xs:List V)(us:List Q0b)(Q:VK),Inv X pins σ H s->Vals xs us->r xs H Q->
  Q1d (model X.prog X.w) X.A (call f us) (EP X pins σ Q) X.xe s
def TruR(X:Cx)(r:V->Hp->(Bool->Hp->Prop)->Prop):Prop:=
 ∀(pins:List (Q0u×Obj))(s:Q0d)(σ:St)(H:Hp)(x:V)(v:Q0b)(Q:Bool->Hp->Prop),Inv X pins σ H s->RelV x v->r x H Q->
  Q1d (model X.prog X.w) X.A (truthy v) (TP X pins σ Q) X.xe s
def tOp(r:R2)(ta tb:TE):TE:=fun σ H Q=>ta σ H fun x H1=>tb σ H1 fun y H2=>r x y H2 Q
def tUn(r:V->Hp->VK->Prop)(ta:TE):TE:=fun σ H Q=>ta σ H fun x H1=>r x H1 Q
def rI(C:Int->Int->Prop)(g:Int->Int->V):R2:=fun x y H Q=>∃i j,x=.int i/\y=.int j/\C i j/\Q (g i j) H
def rI0(g:Int->Int->V):R2:=fun x y H Q=>∃i j,x=.int i/\y=.int j/\Q (g i j) H
def rU(g:Int->V):V->Hp->VK->Prop:=fun x H Q=>∃i,x=.int i/\Q (g i) H
section
variable{X:Cx}{a b c:Expr}{ta tb tc:TE}{pos:Pos}
theorem binT(ha:PE X a ta)(hb:PE X b tb){pins:List (Q0u×Obj)}{s:Q0d}{σ:St}{H:Hp}{R:V->V->Hp->Prop}(I:Inv X pins σ H s)
  (h:ta σ H fun x H1=>tb σ H1 fun y H2=>R x y H2) {Q:Q0b->Q0d->Prop} {f:Q0b->Q0b->Sem Q0b}
  (hf:∀v u s2 x y H2,Inv X pins σ H2 s2->RelV x v->RelV y u->R x y H2->Q1d (model X.prog X.w) X.A (f v u) Q X.xe s2) :
  Q1d (model X.prog X.w) X.A (eval a X.env) (fun v s₁=>Q1d (model X.prog X.w) X.A (eval b X.env) (fun u s₂=>Q1d (model X.prog X.w) X.A (f v u) Q X.xe s₂) X.xe s₁) X.xe s:=by
 refine thn (ha pins s σ H _ I h) fun v s1 hh1=>?_
 obtain⟨x,H1,I1,r1,q1⟩:=hh1
 refine thn (hb pins s1 σ H1 _ I1 q1) fun u s2 hh2=>?_
 obtain⟨y,H2,I2,r2,q2⟩:=hh2
 exact hf v u s2 x y H2 I2 r1 r2 q2
theorem x5c{op:Operator}{r:R2}(ho:OpR X (binaryOp op) r)(ha:PE X a ta)(hb:PE X b tb):PE X (.BinOp a op b pos) (tOp r ta tb):=by
 intro pins s σ H Q I h
 exact wpAny_BinOp (binT ha hb I h fun v u s2 x y H2 I2 rx ry q=>ho pins s2 σ H2 x y v u Q I2 rx ry q)
theorem x5b{op:UnaryOp}{r:V->Hp->VK->Prop}(ho:UnR X (unaryOp op) r)(ha:PE X a ta):PE X (.UnaryOp op a pos) (tUn r ta):=by
 intro pins s σ H Q I h
 exact UnaryOp_ (thn (ha pins s σ H _ I h) fun v s1 hh1=>by obtain⟨x,H1,I1,r1,q1⟩:=hh1;exact(ho pins s1 σ H1 x v Q I1 r1 q1))
theorem opI{f:Q0b->Q0b->Sem Q0b}{C:Int->Int->Prop}{g:Int->Int->Int}
  (rule:∀(i j:Int)(t u:Tok)(s:Q0d)(Q:Q0b->Q0d->Prop)(E:Q0b->Q0d->Prop),C i j->Q (.int (g i j) s.toks) {s with toks:=s.toks+1}->Q1d (model X.prog X.w) X.A (f (.int i t) (.int j u)) Q E s) :
  OpR X f (rI C fun i j=>.int (g i j)):=by
 intro pins s σ H x y v u Q I rx ry h
 obtain⟨i,j,rfl,rfl,hc,q⟩:=h
 obtain⟨t,rfl⟩:=rx
 obtain⟨t',rfl⟩:=ry
 exact rule i j t t' s _ _ hc ⟨.int (g i j),H,I.tok _,⟨_,rfl⟩,q⟩
theorem opI0{f:Q0b->Q0b->Sem Q0b}{g:Int->Int->Int}
  (rule:∀(i j:Int)(t u:Tok)(s:Q0d)(Q:Q0b->Q0d->Prop)(E:Q0b->Q0d->Prop),Q (.int (g i j) s.toks) {s with toks:=s.toks+1}->Q1d (model X.prog X.w) X.A (f (.int i t) (.int j u)) Q E s) :
  OpR X f (rI0 fun i j=>.int (g i j)):=by
 intro pins s σ H x y v u Q I rx ry h
 obtain⟨i,j,rfl,rfl,q⟩:=h
 obtain⟨t,rfl⟩:=rx
 obtain⟨t',rfl⟩:=ry
 exact rule i j t t' s _ _ ⟨.int (g i j),H,I.tok _,⟨_,rfl⟩,q⟩
theorem opB0{f:Q0b->Q0b->Sem Q0b}{g:Int->Int->Bool}
  (rule:∀(i j:Int)(t u:Tok)(s:Q0d)(Q:Q0b->Q0d->Prop)(E:Q0b->Q0d->Prop),Q (.bool (g i j)) s->Q1d (model X.prog X.w) X.A (f (.int i t) (.int j u)) Q E s) :
  OpR X f (rI0 fun i j=>.bl (g i j)):=by
 intro pins s σ H x y v u Q I rx ry h
 obtain⟨i,j,rfl,rfl,q⟩:=h
 obtain⟨t,rfl⟩:=rx
 obtain⟨t',rfl⟩:=ry
 exact rule i j t t' s _ _ ⟨.bl (g i j),H,I,rfl,q⟩
def CPow(i j:Int):Prop:=0<=j/\j<=1000000/\i.natAbs<2 ^ 64
def CMul(i j:Int):Prop:=(-(2 ^ 64)<i/\i<2 ^ 64)\/(-(2 ^ 64)<j/\j<2 ^ 64)
theorem CMul.ok{i j:Int}(h:CMul i j):IntMulOk i j:=by
 rcases h with⟨h1,h2⟩|⟨h1,h2⟩
 ·exact .of_left (intBits_le_64 h1 h2)
 ·exact .of_right (intBits_le_64 h1 h2)
theorem x2m:OpR X (binaryOp .Add) (rI0 fun i j=>.int (i+j)):=opI0 fun _ _ _ _ _ _ _ q=>add_int q
theorem x2g:OpR X (binaryOp .Sub) (rI0 fun i j=>.int (i-j)):=opI0 fun _ _ _ _ _ _ _ q=>sub_int q
theorem x2j:OpR X (binaryOp .Mult) (rI CMul fun i j=>.int (i*j)):=opI fun _ _ _ _ _ _ _ hc q=>mul_int q hc.ok
theorem x2k:OpR X (binaryOp .Mod) (rI (fun _ j=>0<j) fun i j=>.int (i % j)):=opI fun i j _ _ _ _ _ hc q=>by
 have h1:(0:Int)<j:=hc
 exact mod_int' (by omega) (by rw[Int.fmod_eq_emod_of_nonneg i (by omega)];exact q)
theorem x2i:OpR X (binaryOp .Pow) (rI CPow fun i j=>.int (i ^ j.toNat)):=opI fun _ _ _ _ _ _ _ hc q=>pow_int_small hc.1 hc.2.1 hc.2.2 q
theorem unI{f:Q0b->Sem Q0b}{g:Int->Int}
  (rule:∀(i:Int)(t:Tok)(s:Q0d)(Q:Q0b->Q0d->Prop)(E:Q0b->Q0d->Prop),Q (.int (g i) s.toks) {s with toks:=s.toks+1}->Q1d (model X.prog X.w) X.A (f (.int i t)) Q E s) :
  UnR X f (rU fun i=>.int (g i)):=by
 intro pins s σ H x v Q I rx h
 obtain⟨i,rfl,q⟩:=h
 obtain⟨t,rfl⟩:=rx
 exact rule i t s _ _ ⟨.int (g i),H,I.tok _,⟨_,rfl⟩,q⟩
theorem x0a:UnR X (unaryOp .USub) (rU fun i=>.int (-i)):=unI fun _ _ _ _ _ q=>neg_int q
end
section
variable{X:Cx}{a b c:Expr}{ta tb tc:TE}{pos:Pos}
theorem x3u{pins:List (Q0u×Obj)}{σ:St}{H:Hp}{s:Q0d}{Q:VK}{k k':Bool}(I:Inv X pins σ H s)(q:Q (.bl k) H)(e:k=k'):EP X pins σ Q (.bool k') s:=by
 subst e
 exact⟨.bl k,H,I,rfl,q⟩
theorem x5f:OpR X (compareOp .Lt) (rI0 fun i j=>.bl (decide (i<j))):=opB0 fun _ _ _ _ _ _ _ q=>lt_int q
theorem x5g:OpR X (compareOp .Gt) (rI0 fun i j=>.bl (decide (j<i))):=opB0 fun _ _ _ _ _ _ _ q=>gt_int q
theorem y8d : OpR X (compareOp .IsNot) (fun x y H Q => y = .non /\ Q (.bl (!decide (x = .non))) H) := by
 intro pins s σ H x y v u Q I rx ry h
 obtain ⟨rfl, q⟩ := h
 cases ry
 refine isnot_none_gen (x3u I q ?_)
 cases x <;> first
  | (cases rx; rfl)
  | (obtain ⟨t, rfl⟩ := rx; rfl)
theorem q7d(b:Expr){op:Z5w}(h:op≠.In:=by decide)(h2:op≠.NotIn:=by decide):behindInMarks op b=false:=by
 have e1:(op==Z5w.In)=false:=by cases op<;>first|rfl|exact absurd rfl h
 have e2:(op==Z5w.NotIn)=false:=by cases op<;>first|rfl|exact absurd rfl h2
 cases b<;>simp[behindInMarks,e1,e2]
theorem y7u{op:Z5w}{r:R2}(ho:OpR X (compareOp op) r)(ha:PE X a ta)(hb:PE X b tb)(hm:behindInMarks op b=false):PE X (.Compare a [op] [b] pos) (tOp r ta tb):=by
 intro pins s σ H Q I h
 exact wpAny_Compare1 (binT ha hb I h fun v u s2 x y H2 I2 rx ry q=>ho pins s2 σ H2 x y v u Q I2 rx ry q) hm
def x0e(t:TE):TT:=fun σ H Q=>t σ H fun x H'=>∃k,x=.bl k/\Q k H'
theorem y7h{op:Z5w}{r:R2}(ho:OpR X (compareOp op) r)(ha:PE X a ta)(hb:PE X b tb)(hm:behindInMarks op b=false):PT X (.Compare a [op] [b] pos) (x0e (tOp r ta tb)):=by
 intro pins s σ H Q I h
 refine wpAny_isTrue_Compare1 (thn (ha pins s σ H _ I h) fun v s1 ⟨x,H1,I1,r1,q1⟩=>thn (hb pins s1 σ H1 _ I1 q1) fun u s2 ⟨y,H2,I2,r2,q2⟩=>
  thn (ho pins s2 σ H2 x y v u _ I2 r1 r2 q2) fun c s3 ⟨z,H3,I3,r3,k,e,q3⟩=>?_) hm
 subst e
 cases r3
 exact Z4z ⟨H3,I3,q3⟩
def TruV(K:Q2p)(x:V)(H:Hp)(k:Bool):Prop:=
 match x with
 |.non=>k=false
 |.bl b=>k=b
 |.int i=>k=(i != 0)
 |.str y=>y.length<=Q0l/\k=((y.length:Int) != 0)
 |.byt y=>y.size<=Q0l/\k=((y.size:Int) != 0)
 |.ref p=>(∃xs,SqL K H p xs/\k=!xs.isEmpty)\/(∃xs,SqT K H p xs/\k=!xs.isEmpty)\/∃kvs,H p=some (.dK kvs)/\k=!kvs.isEmpty
 |_=>False
theorem z5p{κ:Type}{kvs:List (κ×V)}{vs:List (κ×Q0b)}(r:KV kvs vs):(!vs.isEmpty)=!kvs.isEmpty:=by
 cases r<;>rfl
theorem q7j{xs:List V}{its:List Q0b}(r:Vals xs its):(!its.toArray.isEmpty)=!xs.isEmpty:=by
 cases r<;>simp
theorem q7f:(Q0l:Nat)<2 ^ 63:=by rw[Q4q];decide
theorem x0b:TruR X (fun x H Q=>∃k,TruV X.K x H k/\Q k H):=by
 intro pins s σ H x v Q I rx h
 obtain⟨k,e,q⟩:=h
 have hl:=q7f
 have hs:Q0l=16777216:=Q4q
 cases x with
 |non=>
  cases rx
  have e':k=false:=e
  subst e'
  exact truthy_none ⟨H,I,q⟩
 |bl b=>
  cases rx
  have e':k=b:=e
  subst e'
  exact Z4z ⟨H,I,q⟩
 |int i=>
  obtain⟨t,rfl⟩:=rx
  have e':k=(i != 0):=e
  subst e'
  exact PySem.P.truthy_int ⟨H,I,q⟩
 |str y=>
  obtain⟨t,rfl⟩:=rx
  obtain⟨hy,e'⟩:y.length<=Q0l/\k=((y.length:Int) != 0):=e
  subst e'
  exact PySem.P.truthy_str (by omega) ⟨H,I.tok _,q⟩
 |byt y=>
  obtain⟨t,rfl⟩:=rx
  obtain⟨hy,e'⟩:y.size<=Q0l/\k=((y.size:Int) != 0):=e
  subst e'
  exact PySem.W.truthy_bytes (by omega) ⟨H,I.tok _,q⟩
 |ref p=>
  cases rx
  have e':(∃xs,SqL X.K H p xs/\k=!xs.isEmpty)\/(∃xs,SqT X.K H p xs/\k=!xs.isEmpty)\/∃kvs,H p=some (.dK kvs)/\k=!kvs.isEmpty:=e
  rcases e' with⟨xs,hx,e'⟩|⟨xs,hx,e'⟩|⟨kvs,hx,e'⟩
  ·subst e'
   obtain⟨its,r,pl,hz⟩:=I.list hx
   have hlen:=r.length
   exact wpAny_truthy_list pl.isList (by simp only[Q0g];omega) ⟨H,I.tok _,by rw[q7j r];exact q⟩
  ·subst e'
   obtain⟨its,r,pl,hz⟩:=I.tuple hx
   have hlen:=r.length
   exact truthy_tuple pl (by simp only[Q0g];omega) ⟨H,I.tok _,by rw[q7j r];exact q⟩
  ·subst e'
   obtain⟨hz,hS,vs,r,m⟩:kvs.length<=Q0l/\(p==sysModules)=false/\∃vs,KV kvs vs/\s.heap.DictOf (q0s X.prog X.w) p vs:=I.hok p _ hx
   have hlen:kvs.length=vs.length:=Q2w.length r
   exact wpAny_truthy_dict hS m (by omega) ⟨H,I.tok _,by rw[z5p r];exact q⟩
 |_=>exact(show False from e).elim
theorem y2l(ha:PE X a ta)(he:∀whole,isTrue a X.env whole=(do let v <-whole;standAt a.pos;holding [v] (truthy v))) :
  PT X a (fun σ H Q=>ta σ H fun x H'=>∃k,TruV X.K x H' k/\Q k H'):=by
 intro pins s σ H Q I h
 exact isTrue_plain (thn (ha pins s σ H _ I h) fun v s1 hh1=>by obtain⟨x,H1,I1,r1,q1⟩:=hh1;exact(x0b pins s1 σ H1 x v Q I1 r1 q1)) (he _)
theorem z5a:OpR X (binaryOp .Add) (fun x y H Q=>∃i j,x=.str i/\y=.str j/\i.length+j.length<=Q0l/\Q (.str (i++j)) H):=by
 intro pins s σ H x y v u Q I rx ry h
 obtain⟨i,j,rfl,rfl,hz,q⟩:=h
 obtain⟨t,rfl⟩:=rx
 obtain⟨t',rfl⟩:=ry
 exact add_str (fun t' tk=>⟨.str (i++j),H,I.tok _,⟨_,rfl⟩,q⟩) hz
theorem q7t{x:V}{us:List Q0b}(r:Vals [x] us):∃u,us=[u]/\RelV x u:=by
 cases r with
 |cons r1 r2=>cases r2;exact⟨_,rfl,r1⟩
theorem x4n{x y:V}{us:List Q0b}(r:Vals [x,y] us):∃u w',us=[u,w']/\RelV x u/\RelV y w':=by
 cases r with
 |cons r1 r2=>
  cases r2 with
  |cons r3 r4=>cases r4;exact⟨_,_,rfl,r1,r3⟩
theorem y0v(hc:X.calm=true):q3r X (.builtin "min") (fun xs H Q=>∃i j,xs=[.int i,.int j]/\Q (.int (if j<i then j else i)) H):=by
 intro pins s σ H xs us Q I r h
 obtain⟨i,j,rfl,q⟩:=h
 obtain⟨u,w',rfl,⟨t,rfl⟩,⟨t',rfl⟩⟩:=x4n r
 refine min_two_ints (I.ok.hd hc) fun h' tk k=>⟨_,H,I.kept k,?_,q⟩
 by_cases hj:j<i
 ·rw[if_pos hj,if_pos hj];exact⟨_,rfl⟩
 ·rw[if_neg hj,if_neg hj];exact⟨_,rfl⟩
theorem z1b:q3r X (.type "int") (fun xs H Q=>(∃i,xs=[.int i]/\Q (.int i) H)\/∃k,xs=[.bl k]/\Q (.int (if k then 1 else 0)) H):=by
 intro pins s σ H xs us Q I r h
 rcases h with⟨i,rfl,q⟩|⟨k,rfl,q⟩
 ·obtain⟨u,rfl,t,rfl⟩:=q7t r
  exact call_int_int ⟨.int i,H,I,⟨_,rfl⟩,q⟩
 ·obtain⟨u,rfl,r1⟩:=q7t r
  cases r1
  exact call_int_bool ⟨.int (if k then 1 else 0),H,I.tok _,⟨_,rfl⟩,q⟩
end
section
variable{prog:Q1e}{w:Q1x}{A:Q1t}{E:Q0b->Q0d->Prop}{s:Q0d}{K:Q2p}{x dx C f:Q0u}{mA:Str->Option Q0b}{name:Str}{v:Q0b}
end
theorem RelO.some_of{v:V}{o:Option Q0b}(r:RelO (some v) o):∃u,o=some u/\RelV v u:=by
 cases o with
 |none=>exact(show False from r).elim
 |some u=>exact⟨u,rfl,r⟩
section
variable{P:Q1e}{w:Q1x}{H H':Hp}{h h':Q1h}{a C dx:Q0u}{fs fs':List (Str×V)}
end
section
variable{X:Cx}{pins:List (Q0u×Obj)}{σ:St}{H:Hp}{s:Q0d}{a C dx:Q0u}{fs:List (Str×V)}{f:Str}{v:V}{A:Q1t}{E:Q0b->Q0d->Prop}
end
section
variable{X:Cx}{o e value:Expr}{f:Str}{pos pos' tpos:Pos}{ta tv:TE}
end
section
variable{X:Cx}{pins:List (Q0u×Obj)}{σ:St}{H:Hp}{s:Q0d}{A:Q1t}{E:Q0b->Q0d->Prop}{Q:Q0b->Q0d->Prop}{c:Q0b}{b:Bool}
end
structure Room(k:Nat)(A:Q1t):Prop where
 hd:A.handled=none
 dp:A.depth+3*k+5<recursionLimit
 un:A.units+16*k+200<cLine
theorem Room.deeper{k:Nat}{A:Q1t}(r:Room (k+1) A)(env:Env):Room k (A.deeper env):=
 ⟨r.hd,by have:=r.dp;show A.depth+1+3*k+5<_;omega,by have:=r.un;show A.units+3+16*k+200<_;omega⟩
structure RoomW(k:Nat)(A:Q1t):Prop extends Room k A where
 wd:A.units+16*k+210<cLine
theorem Room.deeperW{k:Nat}{A:Q1t}(r:Room (k+1) A)(env:Env):RoomW k (A.deeper env):=⟨r.deeper env,by have:=r.un;show A.units+3+16*k+210<_;omega⟩
theorem RoomW.in2{k:Nat}{A:Q1t}(r:RoomW k A):Room k A.in1.in1:=⟨r.hd,by have:=r.dp;show A.depth+3*k+5<_;omega,by have:=r.wd;show A.units+1+1+16*k+200<_;omega⟩
theorem Room.depth{k:Nat}{A:Q1t}(r:Room k A):A.depth<recursionLimit:=by have:=r.dp;omega
def tNil:TA:=fun _ H Q=>Q [] H
def x0h(ta:TE)(tr:TA):TA:=fun σ H Q=>ta σ H fun x H1=>tr σ H1 fun xs H2=>Q (x::xs) H2
section
variable{X:Cx}{e:Expr}{es:List Expr}{te:TE}{t:TA}{pos:Pos}
theorem z8m:PA X [] tNil:=fun _ _ _ _ H Q I h=>Q8x ⟨[],H,I,.nil,h⟩
theorem z1r(ha:PE X e te)(hr:PA X es t)(hs:Q1m (e::es) X.env=(false,eval e X.env)::Q1m es X.env:=by rfl):PA X (e::es) (x0h te t):=by
 intro pos pins s σ H Q I h
 rw[hs]
 show Q1d _ _ (spliced ((false,eval e X.env)::backTo pos (Q1m es X.env))) _ _ s
 refine Q8n (thn (ha pins s σ H _ I h) fun u s1 hh1=>?_)
 obtain⟨x,H1,I1,r1,q1⟩:=hh1
 exact thn (hr pos pins s1 σ H1 _ I1 q1) fun us s2 hh2=>by obtain⟨xs,H2,I2,r2,q2⟩:=hh2;exact(⟨x::xs,H2,I2,.cons r1 r2,q2⟩)
def tTup(t:TA):TE:=fun σ H Q=>t σ H fun xs H1=>xs.length<=Q0l/\∀p,H1 p=none->Q (.ref p) (upd H1 p (.tup xs))
def tLst(t:TA):TE:=fun σ H Q=>t σ H fun xs H1=>xs.length<=Q0l/\∀p,H1 p=none->Q (.ref p) (upd H1 p (.lst xs))
theorem x1u {x1} (h:PA X es t):PE X (.Tuple es x1 pos) (tTup t):=by
 intro pins s σ H Q I hq
 refine wpAny_Tuple_spliced (thn (h pos pins s σ H _ I hq) fun us s1 ⟨xs,H1,I1,r,z,q⟩=>⟨by rw[<-r.length];exact z,?_⟩)
 have hf:H1 s1.heap.objs.size=none:=I1.hok.fresh (Q0k _)
 refine⟨.ref s1.heap.objs.size,upd H1 s1.heap.objs.size (.tup xs),I1.laid (t':=s1.toks) (fun b u e=>Q0c _ e) (Q0k _) ?_,rfl,q _ hf⟩
 exact⟨z,us,r,⟨_,Q0w _ rfl,rfl,_,rfl⟩⟩
theorem x1x(h:PA X es t):PE X (.List es pos) (tLst t):=by
 intro pins s σ H Q I hq
 refine wpAny_List_spliced (thn (h pos pins s σ H _ I hq) fun us s1 ⟨xs,H1,I1,r,z,q⟩=>⟨by rw[<-r.length];exact z,?_⟩)
 have hf:H1 s1.heap.objs.size=none:=I1.hok.fresh (Q0k _)
 refine⟨.ref s1.heap.objs.size,upd H1 s1.heap.objs.size (.lst xs),I1.laid (t':=s1.toks) (fun b u e=>Q0c _ e) (Q0k _) ?_,rfl,q _ hf⟩
 exact⟨z,us,0,r,Q0w _ rfl⟩
end
abbrev Sp:=List V->Hp->VK->XK->Prop
abbrev CXT:=List Env->Hp->Q0d->XK->Q0b->Q0d->Prop
structure Env0(P:Q1e)(w:Q1x)(K:Q2p)(mg:Str->Option Q0b)(base:Q1h)(A:Q1t)(outer:List Env)(s:Q0d)(H:Hp):Prop where
 frames:A.frames=some outer
 mod:Mod K mg base
 bs:∀b o,base.get? b=some o->s.heap.get? b=some o/\H b=none
 bsz:base.objs.size<=s.heap.objs.size
 funs:s.heap.FunFrames base outer
 frf:∀b∈frs outer,H b=none
 hok:HOk P w H s.heap
 bare:Q8m s.gens
def CE(outer:List Env)(P:Q1e)(w:Q1x)(H:Hp)(s:Q0d)(Q:VK)(u:Q0b)(s':Q0d):Prop:=
 ∃v H',s'.os=s.os/\Q8m s'.gens/\Un (frs outer) [] H H' s.heap s'.heap/\HOk P w H' s'.heap/\RelV v u/\Q v H'
def CR(CX:CXT)(outer:List Env)(P:Q1e)(w:Q1x)(H:Hp)(s:Q0d)(Q:VK)(E:XK)(r:Z4o)(s':Q0d):Prop:=
 match r with
 |.ok (.ret u)=>CE outer P w H s Q u s'
 |.ok _=>False
 |.error e=>CX outer H s E e s'
structure FnOk(P:Q1e)(w:Q1x)(K:Q2p)(mg:Str->Option Q0b)(base:Q1h)(CX:CXT)(k:Nat)(f:Q0u)(fd:Q2z)(ps:List Str)(sp:Sp):Prop where
 len:∀vs H Q E,sp vs H Q E->vs.length=ps.length
 run:∀(A:Q1t)(outer:List Env)(s:Q0d)(H:Hp)(args:Args)(us:List Q0b)(vs:List V)(Q:VK)(E:XK),Room k A->Env0 P w K mg base A outer s H->Z2i s fd args (ps.zip us)->Vals vs us->sp vs H Q E->
  codeAny (model P w) A (.call (.ref f) args) (CR CX outer P w H s Q E) s
section
variable{X:Cx}{pins:List (Q0u×Obj)}{σ:St}{H:Hp}{s s':Q0d}
theorem Inv.env0(I:Inv X pins σ H s):Env0 X.prog X.w X.K X.mg X.base X.A X.stack s H:=
 ⟨I.ok.frames,I.ok.mod,I.bs,Q1l I.ok.bsz I.sz,I.stack,I.stkFree,I.hok,I.bare⟩
theorem Inv.after{Q:VK}{u:Q0b}(I:Inv X pins σ H s)(h:CE X.stack X.prog X.w H s Q u s'):EP X pins σ Q u s':=by
 obtain⟨v,H',os,bare,un,hok,r,q⟩:=h
 obtain⟨hh,g,d,t,os'⟩:=s'
 obtain rfl:os'=s.os:=os
 exact⟨v,H',I.call (h':=hh) (g':=g) (d':=d) (t':=t) (ch:=[]) un hok bare (fun b z=>absurd z (by simp)),r,q⟩
end
def x4u(sp:Sp)(dvs:List V)(E:XK)(t:TA):TE:=fun σ H Q=>t σ H fun vs H1=>sp (vs++dvs) H1 Q E
def z2t(K:Q2p)(fd:Q2z)(ps:List Str)(ds:List Q0b):Prop:=
 ∀(s:Q0d)(us:List Q0b),K.In s.heap->(us++ds).length=ps.length->Z2i s fd ⟨us,[]⟩ (ps.zip (us++ds))
theorem z2t.all{K:Q2p}{fd:Q2z}{ps:List Str}(h:∀us:List Q0b,us.length=ps.length->bindArgs fd ⟨us,[]⟩=pure (ps.zip us)):z2t K fd ps []:=fun s us _ hl=>by
 rw[Q2x]at hl ⊢
 exact .of_eq (h us hl)
def q3q(CX:CXT)(X:Cx)(E:XK):Prop:=∀(pins:List (Q0u×Obj))(σ:St)(H:Hp)(s:Q0d)(e:Q0b)(s':Q0d),Inv X pins σ H s->CX X.stack H s E e s'->X.xe e s'
section
variable{X:Cx}{CX:CXT}{k:Nat}{f C:Q0u}{fd:Q2z}{ps:List Str}{sp:Sp}{dvs:List V}{ds:List Q0b}{E:XK}{x m:Str}{p pos apos:Pos}{e o:Expr}{es:List Expr}{ta:TE}{t:TA}
theorem z7s{pins:List (Q0u×Obj)}{σ:St}{H:Hp}{s:Q0d}{Q:VK}{us:List Q0b}{vs:List V}(F:FnOk X.prog X.w X.K X.mg X.base CX k f fd ps sp)(hr:Room k X.A)(hb:z2t X.K fd ps ds)(hd:Vals dvs ds)(hx:q3q CX X E)
  (I:Inv X pins σ H s) (r:Vals vs us) (h:sp (vs++dvs) H Q E):Q1d (model X.prog X.w) X.A (call (.ref f) us) (EP X pins σ Q) X.xe s:=by
 have r2:Vals (vs++dvs) (us++ds):=r.append hd
 have hl:(us++ds).length=ps.length:=by rw[<-r2.length];exact F.len _ _ _ _ h
 refine wpAny_call (Z3g (F.run X.A X.stack s H ⟨us,[]⟩ (us++ds) (vs++dvs) Q E hr I.env0 (hb s us I.kIn hl) r2 h) fun r s' hq=>?_)
 cases r with
 |error e=>exact hx pins σ H s e s' I hq
 |ok fl=>
  cases fl with
  |ret u=>exact I.after hq
  |next=>exact Q5v hq
  |brk=>exact Q5v hq
  |cont=>exact Q5v hq
theorem y7v(F:FnOk X.prog X.w X.K X.mg X.base CX k f fd ps sp)(hr:Room k X.A)(hg:Gl X x)(hm:X.mg x=some (.ref f))(hk:Q6k X.K (.ref f)=true)(hb:z2t X.K fd ps ds)(hd:Vals dvs ds)(hx:q3q CX X E)
  (ha:PA X (e::es) t) (hdb:(x==("__debug__" : Str))=false:=by decide) (he:Q1m (e::es) X.env=(false,eval e X.env)::Q1m es X.env:=by rfl) (hpl:(backTo pos (Q1m es X.env)).any (·.1)=false:=by rfl) :
  PE X (.Call (.Name x p) (e::es) [] pos) (x4u sp dvs E t):=by
 intro pins s σ H Q I h
 refine Q4f (z9n I hg hm ?_ hdb)
 refine PySem.W.callWith_K (h₀:=X.base) I.ok.mod.kin hk (thn (ha pos pins s σ H _ I h) fun us s1 ⟨vs,H1,I1,r,q⟩=>⟨I1.kIn,?_⟩) he hpl
 exact z7s F hr hb hd hx I1 r q
end
def PK(X:Cx)(kws:List Q9d)(t:TA):Prop:=
 ∀(pos:Pos)(pins:List (Q0u×Obj))(s:Q0d)(σ:St)(H:Hp)(Q:List V->Hp->Prop),Inv X pins σ H s->t σ H Q->Q1d (model X.prog X.w) X.A (evalAll ((backToKw pos (keywordEach kws X.env)).map (·.2))) (AP X pins σ Q) X.xe s
section
variable{X:Cx}{CX:CXT}{k:Nat}{f C:Q0u}{fd:Q2z}{ps ks:List Str}{sp:Sp}{E:XK}{x m:Str}{p pos apos kpos:Pos}{e o:Expr}{es:List Expr}{kws:List Q9d}{te ta:TE}{t tk:TA}{nm:Option Str}
theorem y4v:PK X [] tNil:=fun _ _ _ _ H Q I h=>wpAny_evalAll_nil ⟨[],H,I,.nil,h⟩
theorem z8f(ha:PE X e te)(hr:PK X kws t):PK X (⟨nm,e,kpos⟩::kws) (x0h te t):=by
 intro pos pins s σ H Q I h
 show Q1d _ _ (evalAll ((do let v <-eval e X.env;standAt pos;pure v)::(backToKw pos (keywordEach kws X.env)).map (·.2))) _ _ s
 refine wpAny_evalAll_cons (Q0a (thn (ha pins s σ H _ I h) fun u s1 ⟨x,H1,I1,r1,q1⟩=>Q0a (Q4p (Q0f ?_))))
 exact thn (hr pos pins s1 σ H1 _ I1 q1) fun us s2 hh1=>by obtain⟨xs,H2,I2,r2,q2⟩:=hh1;exact(⟨x::xs,H2,I2,.cons r1 r2,q2⟩)
variable{g:List Q0b->List Q0b->List Q0b}{gV:List V->List V->List V}
end
structure FnScope(N P:List Str)(sc:Q5b):Prop where
 kind:sc.kind=.function
 co:sc.isCoroutine=false
 gen:sc.isGenerator=false
 nd:N.Nodup
 pre:N.take P.length=P
 par:∀x∈P,sc.names.lookup x=some .local\/sc.names.lookup x=some .cell
 nofree:∀y∈sc.names,y.2≠.free
theorem z1c {kindOf : Str -> Option Q5h} {x : Str} : ∀ {binds : List (Str × Q0b)} {m : Str -> Option Q0b}, (∀ v, (x, v) ∉ binds) -> bindL kindOf binds m x = m x
 | [], _, _ => rfl
 | (n, v) :: r, m, h => by
  unfold bindL
  rw [z1c fun w hw => h w (Q2d _ hw)]
  split
  ·have : x ≠ n := by rintro rfl; exact h v Q4o
   simp [this]
  ·rfl
theorem z1e {kindOf : Str -> Option Q5h} {x : Str} : ∀ {binds : List (Str × Q0b)} {m : Str -> Option Q0b}, (∀ v, (x, v) ∉ binds) -> bindC kindOf binds m x = m x
 | [], _, _ => rfl
 | (n, v) :: r, m, h => by
  unfold bindC
  rw [z1e fun w hw => h w (Q2d _ hw)]
  split
  ·rfl
  ·have : x ≠ n := by rintro rfl; exact h v Q4o
   simp [this]
theorem z1d{kindOf:Str->Option Q5h}{x:Str}{v:Q0b}:∀{P:List Str}{vs:List Q0b}{i:Nat}{m:Str->Option Q0b},P.Nodup->P[i]?=some x->vs[i]?=some v->kindOf x=some .local->
  bindL kindOf (P.zip vs) m x=some v
 |[],_,_,_,_,h,_,_=>by simp at h
 |_::_,[],_,_,_,_,h,_=>by simp at h
 |p::P,w::vs,0,m,nd,h1,h2,hk=>by
  simp at h1 h2;subst h1;subst h2
  show bindL kindOf ((p,w)::P.zip vs) m p=_
  unfold bindL
  rw[z1c fun v hv=>(Q1r.mp nd).1 (Q4j hv).1,if_pos hk]
  simp
 |p::P,w::vs,i+1,m,nd,h1,h2,hk=>by
  show bindL kindOf ((p,w)::P.zip vs) m x=_
  unfold bindL
  exact z1d (i:=i) (Q1r.mp nd).2 (by simpa using h1) (by simpa using h2) hk
theorem z1f{kindOf:Str->Option Q5h}{x:Str}{v:Q0b}:∀{P:List Str}{vs:List Q0b}{i:Nat}{m:Str->Option Q0b},P.Nodup->P[i]?=some x->vs[i]?=some v->kindOf x≠some .local->
  bindC kindOf (P.zip vs) m x=some v
 |[],_,_,_,_,h,_,_=>by simp at h
 |_::_,[],_,_,_,_,h,_=>by simp at h
 |p::P,w::vs,0,m,nd,h1,h2,hk=>by
  simp at h1 h2;subst h1;subst h2
  show bindC kindOf ((p,w)::P.zip vs) m p=_
  unfold bindC
  rw[z1e fun v hv=>(Q1r.mp nd).1 (Q4j hv).1,if_neg hk]
  simp
 |p::P,w::vs,i+1,m,nd,h1,h2,hk=>by
  show bindC kindOf ((p,w)::P.zip vs) m x=_
  unfold bindC
  exact z1f (i:=i) (Q1r.mp nd).2 (by simpa using h1) (by simpa using h2) hk
def q5w(N:List Str)(vs:List V):St:=vs.map some++Q1v (N.length-vs.length) none
def cxOf(CX:CXT)(P:Q1e)(w:Q1x)(K:Q2p)(mg:Str->Option Q0b)(base:Q1h)(N:List Str)(qual:Str)(scope:Q5b)(f:Q0u)(cd:Q0b)(A:Q1t)(outer:List Env)(s:Q0d)(H:Hp)(E:XK):Cx where
 prog:=P
 w:=w
 K:=K
 mg:=mg
 base:=base
 A:=A.deeper (envOfC qual scope s.heap.objs.size f cd)
 N:=N
 s₀:=s
 H₀:=H
 env:=envOfC qual scope s.heap.objs.size f cd
 outer:=outer
 stack:=envOfC qual scope s.heap.objs.size f cd::outer
 ex:=[]
 calm:=true
 fn:=fun _=>true
 pn:=[]
 xe:=fun e s'=>Q1d (model P w) (A.deeper (envOfC qual scope s.heap.objs.size f cd)) (leaving (envOfC qual scope s.heap.objs.size f cd) e) (fun _ s''=>CX outer H s E e s'') (fun e' s''=>CX outer H s E e' s'') s'
theorem z4c{sc:Q5b}{n:Nat}{x:Str}(h:sc.names.lookup x=some .cell):∃c,(cellsFrom n sc.names []).lookup x=some c:=by
 have q:=Z0c sc.names n [] (.inl h)
 exact Q9w.mp q
theorem z9x{CX:CXT}{P:Q1e}{w:Q1x}{K:Q2p}{mg:Str->Option Q0b}{base:Q1h}{N ps:List Str}{qual:Str}{scope:Q5b}{f:Q0u}{cd:Q0b}{A:Q1t}{outer:List Env}{s s1:Q0d}{H:Hp}{E:XK}{us:List Q0b}{vs:List V}
  (S:FnScope N ps scope) (hd:A.handled=none) (e0:Env0 P w K mg base A outer s H) (hl:vs.length=ps.length) (r:Vals vs us)
  (x:InCallC s s.heap.objs.size (bindL (envOfC qual scope s.heap.objs.size f cd).kindOf (ps.zip us) fun _=>none) (cellsFrom (s.heap.objs.size+1) scope.names []) (bindC (envOfC qual scope s.heap.objs.size f cd).kindOf (ps.zip us) fun _=>none) s1) :
  Inv (cxOf CX P w K mg base N qual scope f cd A outer s H E) [] (q5w N vs) H s1:=by
 have hpl:ps.length<=N.length:=by have:=congrArg Q3m S.pre;rw[Q2q]at this;omega
 obtain⟨h1,tk,rfl,hk⟩:=x.done
 have noA:∀b:Q0u,b∉(cxOf CX P w K mg base N qual scope f cd A outer s H E).ex:=fun b z=>absurd (show b∈([]:List Q0u)from z) (by simp)
 refine⟨⟨e0.mod,S.kind,rfl,rfl,Q0k _,fun y z c h1 h2=>?_,fun y hy=>?_,fun y c _ h=>?_,fun _=>hd,Q1t.frames_deeper e0.frames,.inr ⟨rfl,rfl⟩,fun b z=>absurd z (noA b),e0.bs,e0.bsz,fun b _ _=>noA b,fun b z=>absurd z (noA b),e0.funs,e0.frf⟩,
  rfl,e0.bare,Un.kept hk,⟨_,x.toInCall.ns,fun i y v h1 h2 h3=>?_⟩,fun y c h=>⟨_,x.cell y c h⟩,e0.hok.fresh (Q0k _),fun y c h=>?_,fun p hp=>absurd (show p∈([]:List (Q0u×Obj))from hp) (by simp),e0.hok.kept hk,?_⟩
 ·exact name_of_addr x.apart (Q5i h1) (Q5i h2)
 ·have hy:scope.names.lookup y=some .cell\/scope.names.lookup y=some .free:=hy
  rcases hy with hy|hy
  ·exact z4c hy
  ·exact absurd rfl (S.nofree _ (Q5i hy))
 ·exact Q6t (x.above y c (Q5i h))
 ·have hi:i<vs.length:=by
   unfold q5w at h2
   by_cases hi:i<vs.length
   ·exact hi
   ·rw[Q2u (by simpa using hi)]at h2
    rw[Z0s]at h2
    split at h2<;>cases h2
  have ha:vs[i]?=some v:=by
   unfold q5w at h2
   rw[Q0o (by simpa using hi),Q1z]at h2
   cases e:vs[i]? with
   |none=>rw[e]at h2;cases h2
   |some a=>rw[e]at h2;cases h2;rfl
  obtain⟨u,hu,rv⟩:=r.get ha
  have hp:ps[i]?=some y:=by
   rw[<-S.pre,Q5m (by omega)];exact h1
  have ndP:ps.Nodup:=by rw[<-S.pre];exact S.nd.sublist (Z2u _ _)
  refine⟨u,rv,?_⟩
  rcases S.par y (Q3g hp)with k|k
  ·exact .inl ⟨k,z1d ndP hp hu k⟩
  ·obtain⟨c,e⟩:=z4c (n:=s.heap.objs.size+1) k
   refine .inr ⟨.inl k,c,e,?_⟩
   have q:=x.cell y c e
   rw[z1f ndP hp hu (by show scope.names.lookup y≠_;rw[k];decide)]at q
   exact q
 ·exact e0.hok.fresh (Q6t (x.above y c (Q5i h)))
 ·unfold q5w
  show _=N.length
  rw[Q0x,Q0q,List.length_replicate]
  omega
theorem x6n{CX:CXT}{P:Q1e}{w:Q1x}{K:Q2p}{mg:Str->Option Q0b}{base:Q1h}{k:Nat}{f:Q0u}{name qual:Str}{params:Arguments}{body:List Q5q}{scope:Q5b}{dV kV doc pm cdv ct oc:Q0b}{an od:Option Q0u}
  {osl:Array (Option Q0b)} {N ps:List Str} {sp:Sp} (lk:K.lookup f=some ⟨oc,od,.func (Q5f name qual params body scope dV kV doc pm an cdv ct),osl⟩) (hcd:Q7s K cdv qual=true) (S:FnScope N ps scope)
  (len:∀vs H Q E,sp vs H Q E->vs.length=ps.length)
  (hbody:∀(A:Q1t)(outer:List Env)(s:Q0d)(H:Hp)(vs:List V)(Q:VK)(E:XK),RoomW k (A.deeper (envOfC qual scope s.heap.objs.size f cdv))->sp vs H Q E->
   ∃t,PSs (cxOf CX P w K mg base N qual scope f cdv A outer s H E) body t/\t {nx:=fun _ H'=>Q .non H',rt:=Q} (q5w N vs) H) :
  FnOk P w K mg base CX (k+1) f (Q5f name qual params body scope dV kV doc pm an cdv ct) ps sp:=by
 refine⟨len,fun A outer s H args us vs Q E hr e0 hb r hsp=>?_⟩
 have hl:=len _ _ _ _ hsp
 have KX:K.In s.heap:=e0.mod.kin.keeps fun b o e=>(e0.bs b o e).1
 have lim:s.heap.NoLimit:=e0.mod.nolimit.keeps fun b o e=>(e0.bs b o e).1
 have hkind:∀y∈ps.zip us,scope.names.lookup y.1=some .local\/(scope.names.lookup y.1=some .cell/\((cellsFrom (s.heap.objs.size+1) scope.names []).lookup y.1).isSome=true):=fun hh1 hy=>by
  obtain⟨n,v⟩:=hh1
  rcases S.par n (Q4j hy).1 with q|q
  ·exact .inl q
  ·exact .inr ⟨q,Z0c _ _ _ (.inl q)⟩
 refine codeAny_call_function hr.depth (KX _ _ lk) rfl S.co S.gen rfl (PySem.W.codeRec_of KX hcd) (hb _ _ _ _ ?_)
 refine wpAny_newFunctionEnv_cells S.kind hkind fun env he s1 x=>?_
 subst he
 refine⟨lim.keeps x.toInCall.keep,codeAny_func ?_⟩
 obtain⟨t,ht,hq⟩:=hbody A outer s H vs Q E (hr.deeperW _) hsp
 have I:Inv (cxOf CX P w K mg base N qual scope f cdv A outer s H E) [] (q5w N vs) H s1:=z9x S hr.hd e0 hl r x
 refine Q1p (ht [] s1 (q5w N vs) H _ I hq) (fun fl s' hs=>?_) fun e s' hs=>hs
 have fin:∀{σ':St}{H':Hp}{v:V}{u:Q0b},Inv (cxOf CX P w K mg base N qual scope f cdv A outer s H E) [] σ' H' s'->RelV v u->Q v H'->CE outer P w H s Q u s':=
  fun {σ' H' v u} J rv q=>⟨v,H',J.os,J.bare,J.base,J.hok,rv,q⟩
 cases fl with
 |ret u=>
  obtain⟨v,σ',H',J,rv,q⟩:=hs
  exact fin J rv q
 |next=>
  obtain⟨σ',H',J,q⟩:=hs
  exact fin (v:=V.non) (u:=Q0b.none) J rfl q
 |brk=>
  obtain⟨_,_,_,q⟩:=hs
  exact Q5v q
 |cont=>
  obtain⟨_,_,_,q⟩:=hs
  exact Q5v q
section
variable{X:Cx}{x:Str}{p pos:Pos}{e:Expr}{es:List Expr}{t:TA}{id T:String}{r:List V->Hp->VK->Prop}
def tCB(r:List V->Hp->VK->Prop)(t:TA):TE:=fun σ H Q=>t σ H fun vs H1=>r vs H1 Q
theorem y2v(hc:q3r X (.builtin id) r)(hg:Gl X x)(hm:X.mg x=none)(hv:bootBuiltins x=some (.builtin id))(ha:PA X (e::es) t)(hn:x≠ "__name__" :=by decide)(hdb:(x==("__debug__" : Str))=false:=by decide)
  (he:Q1m (e::es) X.env=(false,eval e X.env)::Q1m es X.env:=by rfl) (hpl:(backTo pos (Q1m es X.env)).any (·.1)=false:=by rfl):PE X (.Call (.Name x p) (e::es) [] pos) (tCB r t):=by
 intro pins s σ H Q I h
 refine Q4f (q4n I hg hm hv ?_ hn hdb)
 exact Z5r (thn (ha pos pins s σ H _ I h) fun us s1 hh1=>by obtain⟨vs,H1,I1,r1,q1⟩:=hh1;exact(hc pins s1 σ H1 vs us Q I1 r1 q1)) he hpl
theorem z8j(hc:q3r X (.type T) r)(hg:Gl X x)(hm:X.mg x=none)(hv:bootBuiltins x=some (.type T))(ha:PA X (e::es) t)(hn:x≠ "__name__" :=by decide)(hdb:(x==("__debug__" : Str))=false:=by decide)
  (he:Q1m (e::es) X.env=(false,eval e X.env)::Q1m es X.env:=by rfl) (hpl:(backTo pos (Q1m es X.env)).any (·.1)=false:=by rfl):PE X (.Call (.Name x p) (e::es) [] pos) (tCB r t):=by
 intro pins s σ H Q I h
 refine Q4f (q4n I hg hm hv ?_ hn hdb)
 exact Q3b (thn (ha pos pins s σ H _ I h) fun us s1 hh1=>by obtain⟨vs,H1,I1,r1,q1⟩:=hh1;exact(hc pins s1 σ H1 vs us Q I1 r1 q1)) he hpl
end
end L2
namespace HT
open PySem PyProof.Rows
section
open PySem.SeqAt
open PySem.AutoSeq1 (wpAny_loadPart')
open PySem.MeetsSeq PySem.MeetsSeq2 PySem.MeetsSeq3
end
section
variable{prog:Q1e}{w:Q1x}{A:Q1t}{E:Q0b->Q0d->Prop}{s:Q0d}
theorem cat_tup{t b:Q0u}{vs ws:List Q0b}{Q:Q0b->Q0d->Prop}(ht:Q7n s.heap t vs.toArray)(hb:Q7n s.heap b ws.toArray)(hv:vs≠[])
  (h1:ws=[]->Q (.ref t) s) (h2:ws≠[]->Q (.ref s.heap.objs.size) {s with heap:=s.heap.push {cls:=.type "tuple",data:=.seq (vs++ws).toArray}})
  (hsz:vs.length+ws.length<=Q0l):Q1d (model prog w) A (binaryOp .Add (.ref t) (.ref b)) Q E s:=by
 obtain⟨⟨cls,dd,data,sl⟩,ho,hc,n,hd⟩:=id ht
 obtain⟨⟨cls2,dd2,data2,sl2⟩,ho2,hc2,n2,hd2⟩:=id hb
 simp only at hc hd hc2 hd2
 subst hc hd hc2 hd2
 have e:vs.toArray++ws.toArray=(vs++ws).toArray:=by simp
 by_cases hw:ws=[]
 ·exact Z3h ⟨_,ho,rfl⟩ ⟨_,ho2,rfl⟩ Z0n Z2j Q7c Q6z (Q6o _ _)
   (tuple_addW1 t b vs.toArray ws.toArray n n2 dd dd2 sl sl2 (by simpa using hv) (by simp[hw])) ⟨ho,ho2,h1 hw⟩
 ·refine Z3h ⟨_,ho,rfl⟩ ⟨_,ho2,rfl⟩ Z0n Z2j Q7c Q6z (Q6o _ _)
   (tuple_addW2 t b vs.toArray ws.toArray n n2 dd dd2 sl sl2 (by simpa using hv) (by simpa using hw) (by rw[Q0g,Q0g];exact hsz)) ⟨ho,ho2,?_⟩
  rw[e]
  exact h2 hw
def sIx(n d:Nat):Option Int->Nat
 |none=>d
 |some v=>if v<0 then(v+(n:Int)).toNat else min v.toNat n
theorem sIx_none(n d:Nat):sIx n d none=d:=rfl
theorem sIx_nat(n d k:Nat):sIx n d (some (k:Int))=min k n:=by
 show(if(k:Int)<0 then((k:Int)+(n:Int)).toNat else min (k:Int).toNat n)=min k n
 rw[if_neg (by omega),Q2i]
theorem sIx_le(n d:Nat)(hd:d<=n)(o:Option Int):sIx n d o<=n:=by
 cases o with
 |none=>exact hd
 |some v=>
  show(if v<0 then(v+(n:Int)).toNat else min v.toNat n)<=n
  by_cases hv:v<0
  ·rw[if_pos hv];omega
  ·rw[if_neg hv];exact Nat.min_le_right _ _
theorem y0r(v:Int)(n d:Nat):(if v<0 then max (v+(n:Int)) 0 else min v (n:Int))=((sIx n d (some v):Nat):Int):=by
 show(if v<0 then max (v+(n:Int)) 0 else min v (n:Int))=(((if v<0 then(v+(n:Int)).toNat else min v.toNat n):Nat):Int)
 by_cases hv:v<0
 ·simp only[if_pos hv];omega
 ·simp only[if_neg hv];omega
theorem z5y(lo hi:Option Int)(n:Nat):Q1g.Slice.sliceAdjust lo hi 1 (n:Int)=(((sIx n 0 lo:Nat):Int),((sIx n n hi:Nat):Int)):=by
 have h1:¬((1:Int)<0):=by omega
 unfold Q1g.Slice.sliceAdjust
 simp only[h1,if_false]
 refine Prod.ext ?_ ?_
 ·cases lo with
  |none=>rfl
  |some v=>exact y0r v n 0
 ·cases hi with
  |none=>rfl
  |some v=>exact y0r v n n
theorem z4v(i j:Nat):Q1g.Slice.slicePlaces (i:Int) (j:Int) 1=j-i:=by
 unfold Q1g.Slice.slicePlaces
 have h1:(1:Int) > 0:=by omega
 simp only[h1,if_true,Z5s]
 split<;>omega
theorem q6z{v:Q0b}{o:Option Int}{Q:Option Int->Q0d->Prop}(p:Z0d v o)(h:Q o s):Q1d (model prog w) A (Q1g.Slice.slicePartIndex v) Q E s:=by
 cases p with
 |none=>exact slicePart_none h
 |int i t=>exact slicePart_int h
theorem q5h{sl:Q0u}{vl vu:Q0b}{lo hi:Option Int}{n:Nat}{Q:Int×Int×Nat->Q0d->Prop}(hs:s.heap.IsSliceOf sl vl vu .none)(pl:Z0d vl lo)(pu:Z0d vu hi)
  (h:Q (((sIx n 0 lo:Nat):Int),1,sIx n n hi-sIx n 0 lo) s):Q1d (model prog w) A (Q1g.Slice.sliceApplied (.ref sl) (pure (n:Int))) Q E s:=by
 obtain⟨os,hos,hcs,hds⟩:=id hs
 unfold Q1g.Slice.sliceApplied Q1g.Slice.sliceFields
 refine Q0a (Q0a (Q2f hos hds (x:=vl) rfl (Q0a (Q2f hos hds (x:=vu) rfl (Q0a (Q2f hos hds (x:=.none) rfl (Q0f ?_)))))))
 refine Q0a (slicePart_none ?_)
 show Q1d _ _ (if((1:Int)==0)=true then _ else _) _ _ s
 rw[if_neg (by decide)]
 refine Q0a (q6z pl (Q0a (q6z pu (Q0a (Q0f ?_)))))
 show Q1d _ _ (match Q1g.Slice.sliceAdjust lo hi 1 (n:Int)with|(lo,hi)=>pure (lo,(1:Int),Q1g.Slice.slicePlaces lo hi 1)) _ _ s
 rw[z5y lo hi n]
 show Q1d _ _ (pure (((sIx n 0 lo:Nat):Int),(1:Int),Q1g.Slice.slicePlaces ((sIx n 0 lo:Nat):Int) ((sIx n n hi:Nat):Int) 1)) _ _ s
 rw[z4v]
 exact Q0f h
theorem y2p(xs:Array Q0b)(i k:Nat):((Q1q k).filterMap fun(m:Nat)=>xs[((i:Int)+(m:Int)*1).toNat]?).toArray=((xs.toList.drop i).take k).toArray:=by
 have e:(fun(m:Nat)=>xs[((i:Int)+(m:Int)*1).toNat]?)=fun m=>xs[i+m]?:=by
  funext m
  have:((i:Int)+(m:Int)*1).toNat=i+m:=by omega
  rw[this]
 rw[e]
 have:=pick_run xs i k
 rw[List.filterMap_map]at this
 have e2:((fun x=>xs[x]?)∘fun x=>i+x)=fun m=>xs[i+m]?:=rfl
 rw[e2]at this
 rw[this]
theorem getItem_tuple_cut{t sl:Q0u}{items:Array Q0b}{vl vu:Q0b}{lo hi:Option Int}{Q:Q0b->Q0d->Prop}(ht:Q7n s.heap t items)(hs:s.heap.IsSliceOf sl vl vu .none)(pl:Z0d vl lo)(pu:Z0d vu hi)
  (hw:¬(sIx items.size 0 lo=0/\sIx items.size items.size hi=items.size))
  (h:Q (.ref s.heap.objs.size) {s with heap:=s.heap.push {cls:=.type "tuple",data:=.seq ((items.toList.drop (sIx items.size 0 lo)).take (sIx items.size items.size hi-sIx items.size 0 lo)).toArray}})
  (hsz:items.size<=Q0l):Q1d (model prog w) A (getItem (.ref t) (.ref sl)) Q E s:=by
 have htake:sizeOk (.seq ((items.toList.drop (sIx items.size 0 lo)).take (sIx items.size items.size hi-sIx items.size 0 lo)).toArray):=by
  show((items.toList.drop (sIx items.size 0 lo)).take (sIx items.size items.size hi-sIx items.size 0 lo)).toArray.size<=Q0l
  rw[Q0g,Q2q,Q5j,Q1u]
  omega
 have hj:sIx items.size items.size hi<=items.size:=sIx_le _ _ (Q0k _) hi
 obtain⟨os,hos,hcs,hds⟩:=id hs
 have hTs:s.TypeIs (.ref sl) "slice" :=⟨os,hos,hcs⟩
 unfold getItem
 try with_reducible refine Q2e ?_
 first|refine Q0a (Q0f ?_)|skip
 refine Q0a (Z5a ht.typeIs (by decide) ?_)
 refine Q0a (Q2v (name:=Q0j "__getitem__") ht.typeIs Q5k
  (Q2n Q5k ht.typeIs entry_tuple_getitem ?_ (args_tuple_getitem _ _)))
 show Q1d _ _ (Q1g.Tuple.tupleItemsOf (.ref t) >>= _) _ _ s
 refine Q0a (tupleItemsOf_ ht ?_)
 refine Q0a (wpAny_typeOf hTs ?_)
 rw[if_pos (by decide)]
 refine Q0a (q5h hs pl pu ?_)
 have hno:¬((((sIx items.size 0 lo:Nat):Int)==0&&(1:Int)==1&&(sIx items.size items.size hi-sIx items.size 0 lo)==items.size)=true):=by
  intro q
  rw[Q3i,Q3i]at q
  have q1:((sIx items.size 0 lo:Nat):Int)=0:=Z5x q.1.1
  have q2:sIx items.size items.size hi-sIx items.size 0 lo=items.size:=Z5x q.2
  exact hw ⟨by omega,by omega⟩
 show Q1d _ _ (if(((sIx items.size 0 lo:Nat):Int)==0&&(1:Int)==1&&(sIx items.size items.size hi-sIx items.size 0 lo)==items.size)=true then _ else _) _ _ s
 rw[if_neg hno,y2p]
 first
  |exact Q0a (m:=Q1g.Tuple.tupleExact _) (Q2k (Q0f ⟨_,rfl,Q0f h⟩) htake)
  |exact Q0a (m:=Q1g.Tuple.tupleExact _) (Q2k (Q0a (Q0f (Q0f ⟨_,rfl,Q0f h⟩))) htake)
  |exact Q0a (Q0a (m:=Q1g.Tuple.tupleExact _) (Q2k (Q0f (Q0f ⟨_,rfl,Q0f h⟩)) htake))
  |exact Q0a (Q0a (m:=Q1g.Tuple.tupleExact _) (Q2k (Q0f ⟨_,rfl,Q0f h⟩) htake))
end
end HT
namespace L2
open PySem PySem.Spec PyProof.Rows
abbrev TO:=St->Hp->(Option Int->Hp->Prop)->Prop
def PO(X:Cx)(e:Option Expr)(t:TO):Prop:=
 ∀(pins:List (Q0u×Obj))(s:Q0d)(σ:St)(H:Hp)(Q:Option Int->Hp->Prop),Inv X pins σ H s->t σ H Q->
  Q1d (model X.prog X.w) X.A (evalPart e X.env) (fun u s'=>∃o H',Inv X pins σ H' s'/\Z0d u o/\Q o H') X.xe s
def y5w:TO:=fun _ H Q=>Q none H
def x4q(t:TE):TO:=fun σ H Q=>t σ H fun x H1=>∃i,x=.int i/\Q (some i) H1
section
variable{X:Cx}{e:Expr}{te:TE}{lo hi:Option Expr}{tl th:TO}{pos p2:Pos}
theorem y7m:PO X none y5w:=by
 intro pins s σ H Q I h
 rw[Z2k]
 exact Q0f ⟨none,H,I,.none,h⟩
theorem z8a(h:PE X e te):PO X (some e) (x4q te):=by
 intro pins s σ H Q I hw
 rw[evalPart_some]
 refine thn (h pins s σ H _ I hw) fun u s1 hh1=>?_
 obtain⟨x,H1,I1,r1,q1⟩:=hh1
 obtain⟨i,rfl,q⟩:=q1
 obtain⟨t,rfl⟩:=r1
 exact⟨some i,H1,I1,.int i t,q⟩
def SlR(X:Cx)(r:V->Option Int->Option Int->Hp->VK->Prop):Prop:=
 ∀(pins:List (Q0u×Obj))(s:Q0d)(σ:St)(H:Hp)(x:V)(v vl vu:Q0b)(lo hi:Option Int)(sl:Q0u)(Q:VK),Inv X pins σ H s->RelV x v->s.heap.IsSliceOf sl vl vu .none->Z0d vl lo->Z0d vu hi->r x lo hi H Q->
  ∃T id,typeLookup (.type T) "__getitem__" = pure (some (.builtin id))/\s.TypeIs v T/\Q1d (model X.prog X.w) X.A (getItem v (.ref sl)) (EP X pins σ Q) X.xe s
def tSl(r:V->Option Int->Option Int->Hp->VK->Prop)(te:TE)(tl th:TO):TE:=fun σ H Q=>te σ H fun x H1=>tl σ H1 fun l H2=>th σ H2 fun u H3=>r x l u H3 Q
theorem y2s{r:V->Option Int->Option Int->Hp->VK->Prop}(hr:SlR X r)(he:PE X e te)(hl:PO X lo tl)(hu:PO X hi th):PE X (.Subscript e (.Slice lo hi none p2) pos) (tSl r te tl th):=by
 intro pins s σ H Q I h
 refine Z5b (thn (he pins s σ H _ I h) fun v s1 hh1=>?_)
 obtain⟨x,H1,I1,r1,q1⟩:=hh1
 refine wpAny_Slice (thn (hl pins s1 σ H1 _ I1 q1) fun vl s2 ⟨l,H2,I2,pl,q2⟩=>thn (hu pins s2 σ H2 _ I2 q2) fun vu s3 hh2=>?_)
 obtain⟨u,H3,I3,pu,q3⟩:=hh2
 rw[Z2k]
 refine Q0f ?_
 have I4:Inv X pins σ H3 {s3 with heap:=s3.heap.push {cls:=.type "slice",data:=.fields #[vl,vu,.none]}}:=I3.kept (t':=s3.toks) fun b ob q=>Q0c _ q
 obtain⟨T,id,hT,ht,hg⟩:=hr pins {s3 with heap:=s3.heap.push {cls:=.type "slice",data:=.fields #[vl,vu,.none]}} σ H3 x v vl vu l u s3.heap.objs.size Q I4 r1 (Q1h.IsSliceOf.new ..) pl pu q3
 show Q1d (model X.prog X.w) X.A (subscriptTail e (.Slice lo hi none p2) v (.ref s3.heap.objs.size)) (EP X pins σ Q) X.xe {s3 with heap:=s3.heap.push {cls:=.type "slice",data:=.fields #[vl,vu,.none]}}
 exact tail_any (ops:=[.ref s3.heap.objs.size,v]) ht hT hg (by with_unfolding_all rfl)
def cutV(xs:List V)(lo hi:Option Int):List V:=(xs.drop (HT.sIx xs.length 0 lo)).take (HT.sIx xs.length xs.length hi-HT.sIx xs.length 0 lo)
theorem q6p(xs:List V)(lo hi:Option Int):(cutV xs lo hi).length<=xs.length:=by
 unfold cutV
 rw[Q2q,Q5j]
 omega
def rSlT(K:Q2p):V->Option Int->Option Int->Hp->VK->Prop:=fun x lo hi H Q=>∃a xs,x=.ref a/\SqT K H a xs/\
 ¬(HT.sIx xs.length 0 lo=0/\HT.sIx xs.length xs.length hi=xs.length)/\∀p,H p=none->Q (.ref p) (upd H p (.tup (cutV xs lo hi)))
theorem x0p:SlR X (rSlT X.K):=by
 intro pins s σ H x v vl vu lo hi sl Q I rx hs pl pu h
 obtain⟨a,xs,rfl,hx,hw,q⟩:=h
 cases rx
 obtain⟨its,r,ht,hz⟩:=I.tuple hx
 have hlen:its.toArray.size=xs.length:=by rw[Q0g];exact r.length.symm
 refine⟨"tuple",_,Q5k.lookup,ht.typeIs,?_⟩
 refine HT.getItem_tuple_cut ht hs pl pu (by rw[hlen];exact hw) ?_ (by rw[hlen];exact hz)
 rw[hlen]
 refine⟨.ref s.heap.objs.size,_,I.laid (t':=s.toks) (o:=.tup (cutV xs lo hi)) (fun b ob q=>Q0c _ q) (Q0k _) ?_,rfl,q _ (I.hok.fresh (Q0k _))⟩
 exact⟨Q1l (q6p xs lo hi) hz,_,(r.drop (HT.sIx xs.length 0 lo)).take (HT.sIx xs.length xs.length hi-HT.sIx xs.length 0 lo),Q7n.new _ _⟩
def x1d(K:Q2p):R2:=fun x y H Q=>∃a b xs ys,x=.ref a/\y=.ref b/\SqT K H a xs/\SqT K H b ys/\xs≠[]/\xs.length+ys.length<=Q0l/\
 (ys=[]->Q (.ref a) H)/\(ys≠[]->∀p,H p=none->Q (.ref p) (upd H p (.tup (xs++ys))))
theorem Vals.nil_iff{xs:List V}{us:List Q0b}(r:Vals xs us):us=[]↔xs=[]:=by
 cases r with
 |nil=>simp
 |cons _ _=>simp
theorem y8e:OpR X (binaryOp .Add) (x1d X.K):=by
 intro pins s σ H x y v u Q I rx ry h
 obtain⟨a,b,xs,ys,rfl,rfl,ha,hb,hx,hz,q1,q2⟩:=h
 cases rx
 cases ry
 obtain⟨its,r1,p1,_⟩:=I.tuple ha
 obtain⟨its2,r2,p2,_⟩:=I.tuple hb
 refine HT.cat_tup p1 p2 (fun z=>hx (r1.nil_iff.mp z)) (fun z=>⟨.ref a,H,I,rfl,q1 (r2.nil_iff.mp z)⟩) (fun z=>?_) (by rw[<-r1.length,<-r2.length];exact hz)
 refine⟨.ref s.heap.objs.size,_,I.laid (t':=s.toks) (o:=.tup (xs++ys)) (fun b ob q=>Q0c _ q) (Q0k _) ?_,rfl,q2 (fun w=>z (r2.nil_iff.mpr w)) _ (I.hok.fresh (Q0k _))⟩
 exact⟨by rw[Q0x];exact hz,_,r1.append r2,Q7n.new _ _⟩
end
def ixN(n:Nat)(i:Int):Option Nat:=if 0<=i then(if i<n then some i.toNat else none)else if -(n:Int)<=i then some (i+n).toNat else none
def atI{α:Type}(xs:List α)(i:Int):Option α:=(ixN xs.length i).bind fun j=>xs[j]?
theorem z9t{n:Nat}{i:Int}{j:Nat}(h:ixN n i=some j):seqIndex? i n=some j/\j<n/\-(n:Int)<=i/\i<n:=by
 unfold ixN at h
 by_cases h0:0<=i
 ·rw[if_pos h0]at h
  by_cases h1:i<n
  ·rw[if_pos h1]at h
   have e:i.toNat=j:=Q2j h
   exact⟨by rw[seqIndex_of h0 h1,e],by omega,by omega,h1⟩
  ·rw[if_neg h1]at h;cases h
 ·rw[if_neg h0]at h
  by_cases h1:-(n:Int)<=i
  ·rw[if_pos h1]at h
   have e:(i+n).toNat=j:=Q2j h
   exact⟨by rw[seqIndex_neg (by omega) h1,e],by omega,h1,by omega⟩
  ·rw[if_neg h1]at h;cases h
theorem z2s{α:Type}{xs:List α}{i:Int}{v:α}(h:atI xs i=some v):∃j,seqIndex? i xs.length=some j/\xs[j]?=some v/\j<xs.length/\-(xs.length:Int)<=i/\i<xs.length:=by
 unfold atI at h
 cases e:ixN xs.length i with
 |none=>rw[e]at h;cases h
 |some j=>
  rw[e]at h
  obtain⟨h1,h2,h3,h4⟩:=z9t e
  exact⟨j,h1,h,h2,h3,h4⟩
theorem y0z{α:Type}{xs:List α}{j:Nat}{v:α}(h:xs[j]?=some v):atI xs (j:Int)=some v:=by
 have hj:j<xs.length:=(Q0s.mp h).1
 have e:ixN xs.length (j:Int)=some j:=by
  unfold ixN
  rw[if_pos (by omega),if_pos (by omega)];simp
 unfold atI;rw[e];exact h
def q8y(b:Expr):Prop:=∀o i,subscripted b false o i=operate [o,i] (getItem o i)
def IxR(X:Cx)(r:R2):Prop:=
 ∀(value slice:Expr)(pins:List (Q0u×Obj))(s:Q0d)(σ:St)(H:Hp)(x y:V)(v u:Q0b)(Q:VK),Inv X pins σ H s->RelV x v->RelV y u->r x y H Q->
  subscripted slice false v u=operate [v,u] (getItem v u)->Q1d (model X.prog X.w) X.A (subscriptTail value slice v u) (EP X pins σ Q) X.xe s
def MtR(X:Cx)(id:String)(r:V->List V->Hp->VK->Prop):Prop:=
 ∀(pins:List (Q0u×Obj))(s:Q0d)(σ:St)(H:Hp)(x:V)(xs:List V)(v:Q0b)(us:List Q0b)(Q:VK),Inv X pins σ H s->RelV x v->Vals xs us->r x xs H Q->
  Q1d (model X.prog X.w) X.A (call (.builtin id) (v::us)) (EP X pins σ Q) X.xe s
section
variable{X:Cx}{a b:Expr}{ta tb:TE}{pos:Pos}
theorem y7t{r:R2}(hr:IxR X r)(ha:PE X a ta)(hb:PE X b tb)(hs:q8y b):PE X (.Subscript a b pos) (tOp r ta tb):=by
 intro pins s σ H Q I h
 exact Z5b (binT ha hb I h fun v u s2 x y H2 I2 rx ry q=>hr a b pins s2 σ H2 x y v u Q I2 rx ry q (hs _ _))
def rIxL(K:Q2p):R2:=fun x y H Q=>∃p xs i v,x=.ref p/\y=.int i/\SqL K H p xs/\atI xs i=some v/\Q v H
def rIxT(K:Q2p):R2:=fun x y H Q=>∃p xs i v,x=.ref p/\y=.int i/\SqT K H p xs/\atI xs i=some v/\Q v H
def rIxS:R2:=fun x y H Q=>∃z i c,x=.str z/\y=.int i/\z.length<=Q0l/\atI z.cps.toList i=some c/\Q (.str ⟨#[c]⟩) H
theorem z9s:IxR X (rIxL X.K):=by
 intro value slice pins s σ H x y v u Q I rx ry h hs
 obtain⟨p,xs,i,z,rfl,rfl,hq,he,q⟩:=h
 cases rx
 obtain⟨t,rfl⟩:=ry
 obtain⟨its,r,pl,hz⟩:=I.list hq
 obtain⟨j,h1,h2,h3,h4,h5⟩:=z2s he
 obtain⟨w,ew,rw'⟩:=r.get h2
 have hl:=r.length
 have hn:=q7f
 have fin:EP X pins σ Q w s:=⟨z,H,I,rw',q⟩
 by_cases h0:0<=i
 ·have hj:i.toNat=j:=by
   rw[seqIndex_of h0 h5]at h1
   exact Q2j h1
  exact item_listR pl.isList h0 (by omega) (by rw[hj];simpa using ew) fin hs
 ·have hj:(i+(its.toArray.size:Int)).toNat=j:=by
   rw[seqIndex_neg (by omega) h4]at h1
   rw[Q0g,<-hl]
   exact Q2j h1
  exact Z2v (x:=w) pl.isList.typeIs Q9x.lookup
   (wpAny_getItem_list_neg (Q:=fun r s'=>r=w/\EP X pins σ Q r s') pl.isList (by omega) (by rw[Q0g]<;>omega) (by omega) (by rw[hj];simpa using ew) ⟨rfl,fin⟩) hs
theorem x3g:IxR X (rIxT X.K):=by
 intro value slice pins s σ H x y v u Q I rx ry h hs
 obtain⟨p,xs,i,z,rfl,rfl,hq,he,q⟩:=h
 cases rx
 obtain⟨t,rfl⟩:=ry
 obtain⟨its,r,pl,hz⟩:=I.tuple hq
 obtain⟨j,h1,h2,h3,h4,h5⟩:=z2s he
 obtain⟨w,ew,rw'⟩:=r.get h2
 have hl:=r.length
 have hn:=q7f
 have fin:EP X pins σ Q w s:=⟨z,H,I,rw',q⟩
 exact Z2v (x:=w) pl.typeIs slot_tuple_getitem.lookup
  (getItem_tuple (j:=j) (Q:=fun r s'=>r=w/\EP X pins σ Q r s') pl (by omega) (by omega) (by rw[Q0g,<-hl];exact h1) (by simpa using ew) ⟨rfl,fin⟩) hs
theorem x3h:IxR X rIxS:=by
 intro value slice pins s σ H x y v u Q I rx ry h hs
 obtain⟨z,i,c,rfl,rfl,hz,he,q⟩:=h
 obtain⟨t,rfl⟩:=rx
 obtain⟨t',rfl⟩:=ry
 obtain⟨j,h1,h2,h3,h4,h5⟩:=z2s he
 have hl:z.cps.toList.length=z.length:=by simp[Q9e]
 rw[hl]at h1 h4 h5
 have hn:=q7f
 exact tail_any (Z5c s z t) slot_str_getitem.lookup (getItem_str (c:=c) (by
  have e1:decide (i < -(2 ^ 63:Int))=false:=decide_eq_false (by omega)
  have e2:decide (i>=2 ^ 63)=false:=decide_eq_false (by omega)
  rw [e1,e2,Z4p]) (by rw [h1];simpa using h2) ⟨.str ⟨#[c]⟩,H,I.tok _,⟨_,rfl⟩,q⟩) hs
theorem q9l(lo hi:Option Int)(n:Nat):(sliceBounds lo hi none n).1=((HT.sIx n 0 lo:Nat):Int)/\(sliceBounds lo hi none n).2.1=((HT.sIx n n hi:Nat):Int)/\(sliceBounds lo hi none n).2.2=1:=by
 refine⟨?_,?_,rfl⟩
 ·cases lo with
  |none=>simp[sliceBounds,HT.sIx]
  |some i=>
   simp only[sliceBounds,HT.sIx,Q7d,show(1:Int) > 0 by decide,if_true]
   by_cases h:i<0
   ·simp only[h,if_true]<;>omega
   ·simp only[h,if_false]<;>omega
 ·cases hi with
  |none=>simp[sliceBounds,HT.sIx]
  |some i=>
   simp only[sliceBounds,HT.sIx,Q7d,show(1:Int) > 0 by decide,if_true]
   by_cases h:i<0
   ·simp only[h,if_true]<;>omega
   ·simp only[h,if_false]<;>omega
theorem q7z(its:List Q0b)(lo hi:Option Int):slicePick its.toArray lo hi none=((its.drop (HT.sIx its.length 0 lo)).take (HT.sIx its.length its.length hi-HT.sIx its.length 0 lo)).toArray:=by
 obtain⟨h1,h2,h3⟩:=q9l lo hi its.toArray.size
 unfold slicePick
 rw[h1,h2,h3]
 simp only[sliceRange_one,pick_run,Q0g]<;>rfl
def rSlL(K:Q2p):V->Option Int->Option Int->Hp->VK->Prop:=fun x lo hi H Q=>∃a xs,x=.ref a/\SqL K H a xs/\∀p,H p=none->Q (.ref p) (upd H p (.lst (cutV xs lo hi)))
theorem z6w:SlR X (rSlL X.K):=by
 intro pins s σ H x v vl vu lo hi sl Q I rx hs pl pu h
 obtain⟨a,xs,rfl,hx,q⟩:=h
 cases rx
 obtain⟨its,r,ht,hz⟩:=I.list hx
 have hlen:=r.length
 refine⟨"list",_,Q9x.lookup,ht.isList.typeIs,?_⟩
 refine Z1y ht.isList hs pl pu .none (by simp) ?_ (by rw[Q0g]<;>omega)
 rw[q7z,<-hlen]
 refine⟨.ref s.heap.objs.size,_,I.laid (t':=s.toks) (o:=.lst (cutV xs lo hi)) (fun b ob q=>Q0c _ q) (Q0k _) ?_,rfl,q _ (I.hok.fresh (Q0k _))⟩
 exact⟨Q1l (q6p xs lo hi) hz,_,0,(r.drop (HT.sIx xs.length 0 lo)).take (HT.sIx xs.length xs.length hi-HT.sIx xs.length 0 lo),Q0w _ rfl⟩
theorem q9q:OpR X (compareOp .NotIn) (fun x y H Q=>∃i j,x=.str i/\y=.str j/\Q (.bl (!(!(Q1g.Str.occurrences j i 0 j.length 1).isEmpty))) H):=by
 intro pins s σ H x y v u Q I rx ry h
 obtain⟨i,j,rfl,rfl,q⟩:=h
 obtain⟨t,rfl⟩:=rx
 obtain⟨t',rfl⟩:=ry
 exact notIn_str ⟨.bl _,H,I,rfl,q⟩
theorem q3p:q3r X (.builtin "len") (fun xs H Q=>∃p ys,xs=[.ref p]/\(SqL X.K H p ys\/SqT X.K H p ys)/\Q (.int ys.length) H):=by
 intro pins s σ H xs us Q I r h
 obtain⟨p,ys,rfl,hq,q⟩:=h
 obtain⟨u,rfl,rx⟩:=q7t r
 cases rx
 have hn:=q7f
 rcases hq with hq|hq
 ·obtain⟨its,r',pl,hz⟩:=I.list hq
  have hlen:=r'.length
  exact Calls.call_len_list pl.isList (by simp only[Q0g]<;>omega) ⟨.int ys.length,H,I.tok _,⟨s.toks+1,by rw[Q0g,hlen]⟩,q⟩
 ·obtain⟨its,r',pl,hz⟩:=I.tuple hq
  have hlen:=r'.length
  exact len_tuple pl (by simp only[Q0g]<;>omega) ⟨.int ys.length,H,I.tok _,⟨s.toks+1,by rw[Q0g,hlen]⟩,q⟩
theorem z1a:q3r X (.builtin "len") (fun xs H Q=>∃z,xs=[.str z]/\z.length<=Q0l/\Q (.int z.length) H):=by
 intro pins s σ H xs us Q I r h
 obtain⟨z,rfl,hz,q⟩:=h
 obtain⟨u,rfl,t,rfl⟩:=q7t r
 have hn:=q7f
 exact len_str (by omega) ⟨.int z.length,H,I.tok _,⟨_,rfl⟩,q⟩
theorem q3o:q3r X (.type "list") (fun xs H Q=>∃p ys,xs=[.ref p]/\(SqL X.K H p ys\/SqT X.K H p ys)/\∀l,H l=none->Q (.ref l) (upd H l (.lst ys))):=by
 intro pins s σ H xs us Q I r h
 obtain⟨p,ys,rfl,hq,q⟩:=h
 obtain⟨u,rfl,rx⟩:=q7t r
 cases rx
 have fin:∀(its:List Q0b),Vals ys its->ys.length<=Q0l->∀(h':Q1h)(c':Nat),(∀b o',s.heap.get? b=some o'->h'.get? b=some o')->
   h'.get? s.heap.objs.size=some {cls:=.type "list",dict:=none,data:=.seq its.toArray c',slots:=#[]}->EP X pins σ Q (.ref s.heap.objs.size) {s with heap:=h' }:=fun its r' hz h' c' kp e=>
  ⟨.ref s.heap.objs.size,_,I.laid (t':=s.toks) kp (Q0k _) (show q1e X.prog X.w _ h' _ (.lst ys)from⟨hz,its,c',r',e⟩),rfl,q _ (I.hok.fresh (Q0k _))⟩
 rcases hq with hq|hq
 ·obtain⟨its,r',pl,hz⟩:=I.list hq
  have hlen:=r'.length
  obtain⟨o,ho,hc,n,hd⟩:=pl.isList
  exact call_list_seq p (.inl rfl) ho hc hd (fun h' c' kp e=>fin its r' hz h' c' kp e) (by simp only[Q0g]<;>omega)
 ·obtain⟨its,r',pl,hz⟩:=I.tuple hq
  have hlen:=r'.length
  obtain⟨o,ho,hc,n,hd⟩:=pl
  exact call_list_seq p (.inr rfl) ho hc hd (fun h' c' kp e=>fin its r' hz h' c' kp e) (by simp only[Q0g]<;>omega)
theorem q4r:q3r X (.type "tuple") (fun xs H Q=>∃p ys,xs=[.ref p]/\((SqL X.K H p ys/\∀l,H l=none->Q (.ref l) (upd H l (.tup ys)))\/(SqT X.K H p ys/\Q (.ref p) H))):=by
 intro pins s σ H xs us Q I r h
 obtain⟨p,ys,rfl,h⟩:=h
 obtain⟨u,rfl,rx⟩:=q7t r
 cases rx
 rcases h with⟨hq,q⟩|⟨hq,q⟩
 ·obtain⟨its,r',pl,hz⟩:=I.list hq
  have hlen:=r'.length
  refine call_tuple_list pl.isList (fun h' kp=>?_) (by simp only[Q0g]<;>omega)
  have I1:Inv X pins σ H {s with heap:=h' }:=I.kept (t':=s.toks) kp
  have I2:Inv X pins σ (upd H h'.objs.size (.tup ys)) {s with heap:=h'.push {cls:=.type "tuple",data:=.seq its.toArray}}:=
   I1.laid (t':=s.toks) (fun b o e=>Q0c _ e) (Q0k _) (show q1e X.prog X.w _ _ _ (.tup ys)from⟨hz,its,r',Q7n.new _ _⟩)
  exact⟨.ref h'.objs.size,_,I2,rfl,q _ (I1.hok.fresh (Q0k _))⟩
 ·obtain⟨its,r',pl,hz⟩:=I.tuple hq
  exact call_tuple_same pl ⟨.ref p,H,I,rfl,q⟩
def tyV(K:Q2p)(T:String)(x:V)(H:Hp):Prop:=match x with
 |.str _=>T = "str"
 |.int _=>T = "int"
 |.ref p=>(T = "list" /\∃xs,SqL K H p xs)\/(T = "tuple" /\∃o,K.lookup p=some o/\o.cls=.type "tuple" /\o.dict=none)\/
   (T = "dict" /\((∃kvs,H p=some (.dK kvs))\/∃kvs,H p=some (.dT kvs)))\/(T = "set" /\∃S n,H p=some (.set S n))
 |_=>False
theorem y4i{pins:List (Q0u×Obj)}{σ:St}{H:Hp}{s:Q0d}{T:String}{x:V}{v:Q0b}(I:Inv X pins σ H s)(r:RelV x v)(ty:tyV X.K T x H) :
  s.TypeIs v T/\∀a,v=.ref a->∃ob,s.heap.get? a=some ob/\ob.dict=none:=by
 cases x with
 |str z=>
  obtain⟨t,rfl⟩:=r
  cases(show T = "str" from ty)
  exact⟨Z5c s z t,fun _ e=>nomatch e⟩
 |int i=>
  obtain⟨t,rfl⟩:=r
  cases(show T = "int" from ty)
  exact⟨Z5d s i t,fun _ e=>nomatch e⟩
 |ref p=>
  cases r
  rcases ty with⟨rfl,xs,hq⟩|⟨rfl,o,hk,hc,hd⟩|⟨rfl,hk⟩|⟨rfl,S,n,hk⟩
  ·obtain⟨its,_,pl,_⟩:=I.list hq
   refine⟨pl.isList.typeIs,fun a e=>?_⟩
   cases e
   obtain⟨o,n,e,c,hd,_⟩:=pl
   exact⟨o,e,hd⟩
  ·refine⟨⟨o,I.kIn p o hk,hc⟩,fun a e=>?_⟩
   cases e
   exact⟨o,I.kIn _ o hk,hd⟩
  ·have z:∃o,s.heap.get? p=some o/\o.ExactDict:=by
    rcases hk with⟨kvs,hk⟩|⟨kvs,hk⟩
    ·obtain⟨_,_,_,_,o,_,_,e,ex,_⟩:=I.hok p _ hk
     exact⟨o,e,ex⟩
    ·obtain⟨_,_,_,_,o,_,_,e,ex,_⟩:=I.hok p _ hk
     exact⟨o,e,ex⟩
   obtain⟨o,e,ex⟩:=z
   refine⟨⟨o,e,ex.1⟩,fun a e2=>?_⟩
   cases e2
   exact⟨o,e,ex.2.1⟩
  ·obtain⟨o,_,_,_,e,ex,_⟩:=I.hok p _ hk
   refine⟨⟨o,e,ex.1⟩,fun a e2=>?_⟩
   cases e2
   exact⟨o,e,ex.2.1⟩
 |_=>exact Q5v ty
def tBM0(K:Q2p)(T:String)(r:V->List V->Hp->VK->Prop)(to:TE):TE:=fun σ H Q=>to σ H fun x H1=>tyV K T x H1/\r x [] H1 Q
def tBM(K:Q2p)(T:String)(r:V->List V->Hp->VK->Prop)(to:TE)(t:TA):TE:=fun σ H Q=>to σ H fun x H1=>tyV K T x H1/\t σ H1 fun xs H2=>r x xs H2 Q
variable{o e:Expr}{es:List Expr}{to:TE}{t:TA}{name:Str}{apos cpos:Pos}{T id:String}{r:V->List V->Hp->VK->Prop}
theorem x1y(pa:Z1z T)(slot:Slot T name id)(hty:typeOf (.builtin id)=pure (.type "method_descriptor"))(hm:MtR X id r)(ho:PE X o to)
  (hbase:attributeBase o name X.env (eval o X.env)=eval o X.env:=by rfl) (hline:(apos.endLine==cpos.line)=true:=by rfl):PE X (.Call (.Attribute o name apos) [] [] cpos) (tBM0 X.K T r to):=by
 intro pins s σ H Q I h
 refine wpAny_Call_method0_late hbase hline (thn (ho pins s σ H _ I h) fun v s1 hh1=>?_)
 obtain⟨x,H1,I1,r1,ty,q1⟩:=hh1
 obtain⟨h1,h2⟩:=y4i I1 r1 ty
 exact⟨T,id,pa,slot,hty,h1,h2,Z0t rfl (PySem.evalArgs_none (hm pins s1 σ H1 x [] v [] Q I1 r1 .nil q1))⟩
theorem x1z(pa:Z1z T)(slot:Slot T name id)(hty:typeOf (.builtin id)=pure (.type "method_descriptor"))(hm:MtR X id r)(ho:PE X o to)(ha:PA X (e::es) t)
  (hbase:attributeBase o name X.env (eval o X.env)=eval o X.env:=by rfl)
  (hfew:((backTo cpos (Q1m (e::es) X.env)).all (fun x=>!x.1)&&(backToKw cpos (keywordEach [] X.env)).all (fun x=>x.1.isSome)
   && decide ((e::es).length+([]:List Q9d).length+(if ([]:List Q9d).isEmpty then 0 else 1)<30))=true:=by rfl)
  (hline:(apos.endLine==cpos.line)=true:=by rfl) (hs:Q1m (e::es) X.env=(false,eval e X.env)::Q1m es X.env:=by rfl) (hplain:(backTo cpos (Q1m es X.env)).any (·.1)=false:=by rfl) :
  PE X (.Call (.Attribute o name apos) (e::es) [] cpos) (tBM X.K T r to t):=by
 intro pins s σ H Q I h
 refine wpAny_Call_method_late hbase hfew hline rfl (thn (ho pins s σ H _ I h) fun v s1 hh1=>?_)
 obtain⟨x,H1,I1,r1,ty,q1⟩:=hh1
 obtain⟨h1,h2⟩:=y4i I1 r1 ty
 refine⟨T,id,pa,slot,hty,h1,h2,?_⟩
 have hA:=ha cpos pins s1 σ H1 _ I1 q1
 rw[hs]at hA ⊢
 refine Z0t (by show(false||(backTo cpos (Q1m es X.env)).any (·.1))=false;rw[hplain]<;>rfl) (Calls.evalArgs_plain ?_)
 exact thn hA fun us s2 hh2=>by obtain⟨vs,H2,I2,r2,q2⟩:=hh2;exact(hm pins s2 σ H2 x vs v us Q I2 r1 r2 q2)
/- xs.append(e),list.index on a module's tuple .. are MtR facts of 06m -/
end
def MtM(X:Cx)(id:String)(r:V->List V->Hp->VK->Prop):Prop:=
 ∀(pins:List (Q0u×Obj))(s:Q0d)(σ:St)(H:Hp)(x:V)(xs:List V)(v:Q0b)(us:List Q0b)(Q:VK),Inv X pins σ H s->RelV x v->Vals xs us->r x xs H Q->
  Q1d (model X.prog X.w) X.A (call (.builtin id) (v::us)) (EP X pins σ Q) X.xe s
theorem Vals.one:∀{x:V}{us:List Q0b},Vals [x] us->∃u,us=[u]/\RelV x u
 |_,_,.cons r .nil=>⟨_,rfl,r⟩
theorem Vals.zero:∀{us:List Q0b},Vals [] us->us=[]
 |_,.nil=>rfl
theorem Vals.dropLast{xs:List V}{us:List Q0b}(h:Vals xs us):Vals xs.dropLast us.dropLast:=by
 induction h with
 |nil=>exact .nil
 |cons r t ih=>
  cases t with
  |nil=>exact .nil
  |cons q t'=>exact .cons r ih
theorem Vals.eraseIdx:∀{xs:List V}{us:List Q0b}(i:Nat),Vals xs us->Vals (xs.eraseIdx i) (us.eraseIdx i)
 |_,_,_,.nil=>.nil
 |_,_,0,.cons _ t=>t
 |_,_,i+1,.cons r t=>.cons r (Vals.eraseIdx i t)
theorem Vals.reverse{xs:List V}{us:List Q0b}(h:Vals xs us):Vals xs.reverse us.reverse:=by
 induction h with
 |nil=>exact .nil
 |cons r t ih=>rw[Q7b,Q7b];exact Vals.append ih (.cons r .nil)
theorem Vals.rep{xs:List V}{us:List Q0b}(h:Vals xs us):∀k:Nat,Vals (Q1v k xs).flatten (Q1v k us).flatten
 |0=>.nil
 |k+1=>by
  rw[Q3x,Q3x,Q4y,Q4y]
  exact Vals.append h (Vals.rep h k)
theorem z5s{α:Type}(l:List α):l.eraseIdx (l.length-1)=l.dropLast:=by
 induction l with
 |nil=>rfl
 |cons a r ih=>
  cases r with
  |nil=>rfl
  |cons b r=>
   have e:(a::b::r).length-1=((b::r).length-1)+1:=by
    have h1:(a::b::r).length=r.length+2:=rfl
    have h2:(b::r).length=r.length+1:=rfl
    omega
   rw[e,Z0u,ih]
   all_goals rfl
theorem q9y{α:Type}:∀(l:List α)(i:Nat),(l.eraseIdx i).length<=l.length
 |[],_=>Q0k _
 |_::_,0=>Nat.le_succ _
 |_::r,i+1=>Nat.succ_le_succ (q9y r i)
theorem z0n(its:List Q0b):∀(k:Nat)(acc:List Q0b),
  Z2w (fun x1 x2=>x1++x2) acc.toArray (Q1v k its.toArray)=(acc++(Q1v k its).flatten).toArray
 |0,acc=>by simp
 |k+1,acc=>by
  have e:acc.toArray++its.toArray=(acc++its).toArray:=by simp
  have e2:(acc++its)++(Q1v k its).flatten=acc++(Q1v (k+1) its).flatten:=by
   rw[Q3x,Q4y,Q1n]
  rw[<-e2,<-z0n its k (acc++its),<-e,Q3x,Z3t]
section
variable{X:Cx}{pins:List (Q0u×Obj)}{σ:St}{H:Hp}{s:Q0d}{l b:Q0u}{xs ys zs:List V}
theorem Inv.lset{its its':List Q0b}{n:Nat}{f:Array Q0b->Array Q0b}{t':Nat}(I:Inv X pins σ H s)(hH:H l=some (.lst xs))
  (e:s.heap.get? l=some {cls:=.type "list",data:=.seq its.toArray n}) (hf:f its.toArray=its'.toArray) (hv:Vals ys its') (hz:ys.length<=Q0l) :
  Inv X pins σ (upd H l (.lst ys)) {s with heap:=s.heap.update l (Q2c f),toks:=t' }:=by
 have q:=PySem.IsL.update e f
 rw[hf]at q
 refine I.write (x:=l) (e:=l) (by rw[hH];exact trivial) (.inl rfl) (fun b' u hb hu=>(Q1h.get?_update_other s.heap (Q2c f) (Q4a hb)).trans hu) ⟨_,q⟩ ?_
 exact⟨hz,its',_,hv,q⟩
theorem Inv.lnew{its:List Q0b}{t':Nat}(I:Inv X pins σ H s)(hv:Vals ys its)(hz:ys.length<=Q0l) :
  Inv X pins σ (upd H s.heap.objs.size (.lst ys)) {s with heap:=s.heap.push {cls:=.type "list",data:=.seq its.toArray},toks:=t' }:=
 I.laid (fun _ _ q=>Q0c _ q) (Q0k _) ⟨hz,its,0,hv,Q0w _ rfl⟩
theorem Inv.fresh(I:Inv X pins σ H s):H s.heap.objs.size=none:=I.hok.fresh (Q0k _)
theorem Inv.lstM(I:Inv X pins σ H s)(hH:H l=some (.lst xs)):xs.length<=Q0l/\∃(its:List Q0b)(n:Nat),Vals xs its/\xs.length=its.length/\s.heap.get? l=some {cls:=.type "list",data:=.seq its.toArray n}:=by
 obtain⟨z,its,n,r,e⟩:=I.hok l _ hH
 exact⟨z,its,n,r,r.length,e⟩
theorem q8e{n:Nat}(h:n<=Q0l):Q1g.List.listTooLong n=false:=by
 unfold Q1g.List.listTooLong
 exact decide_eq_false (by omega)
end
section
variable{X:Cx}
def y7f:V->List V->Hp->VK->Prop:=fun x vs H Q=>∃l xs y,x=.ref l/\vs=[y]/\H l=some (.lst xs)/\xs.length<Q0l/\Q .non (upd H l (.lst (xs++[y])))
theorem z8w:MtM X "list.append" y7f:=by
 intro pins s σ H x vs v us Q I rx rv h
 obtain⟨l,xs,y,rfl,rfl,hH,hz,q⟩:=h
 cases rx
 obtain⟨u,rfl,ru⟩:=rv.one
 obtain⟨z,its,n,r,hl,e⟩:=I.lstM hH
 refine Q7p F.slot_list_append ⟨_,e,rfl⟩ F.entry_list_append (F.args_list_append_2 _ _) (PySem.list_append l its.toArray n u (by rw[Q0g];omega)) ⟨e,?_⟩
 refine⟨.non,_,I.lset (its':=its++[u]) hH e (by simp) (r.append (.cons ru .nil)) ?_,rfl,q⟩
 rw[Q0x,Q3c]
 omega
def y7e:V->List V->Hp->VK->Prop:=fun x vs H Q=>∃l b xs zs,x=.ref l/\vs=[.ref b]/\H l=some (.lst xs)/\H b=some (.lst zs)/\xs.length+zs.length<=Q0l/\Q .non (upd H l (.lst (xs++zs)))
theorem z8v:MtM X "list.extend" y7e:=by
 intro pins s σ H x vs v us Q I rx rv h
 obtain⟨l,b,xs,zs,rfl,rfl,hH,hB,hz,q⟩:=h
 cases rx
 obtain⟨u,rfl,ru⟩:=rv.one
 cases ru
 obtain⟨z,its,n,r,hl,e⟩:=I.lstM hH
 obtain⟨z2,its2,n2,r2,hl2,e2⟩:=I.lstM hB
 have hsz:its.toArray.size+its2.toArray.size<=Q0l:=by rw[Q0g,Q0g];omega
 have hlong:¬(!its.toArray.isEmpty&&Q1g.List.listTooLong (its.toArray.size+its2.toArray.size))=true:=by
  rw[q8e hsz,Z4f]
  exact Q2o
 refine Q7p Z3u ⟨_,e,rfl⟩ Z3i (Z2x _ _)
  (AutoSeq1.list_extend_list_list_0 l its.toArray n b its2.toArray n2 hlong (by rw[Q0g];omega) (by omega)) ⟨e,e2,?_⟩
 refine⟨.non,_,I.lset (its':=its++its2) hH e (by simp) (r.append r2) ?_,rfl,q⟩
 rw[Q0x]
 omega
def rPop:V->List V->Hp->VK->Prop:=fun x vs H Q=>∃l xs y,x=.ref l/\vs=[]/\H l=some (.lst xs)/\xs[xs.length-1]?=some y/\Q y (upd H l (.lst xs.dropLast))
theorem x2s:MtM X "list.pop" rPop:=by
 intro pins s σ H x vs v us Q I rx rv h
 obtain⟨l,xs,y,rfl,rfl,hH,hy,q⟩:=h
 cases rx
 have hus:=rv.zero
 subst hus
 obtain⟨z,its,n,r,hl,e⟩:=I.lstM hH
 obtain⟨u,hu,ru⟩:=r.get hy
 have hy':its.toArray[its.toArray.size-1]?=some u:=by
  show its.toArray[its.length-1]?=some u
  rw[<-Q4r,<-hl]
  exact hu
 refine Q7p Z5e ⟨_,e,rfl⟩ Z4q (F.args_list_pop_1 _) (MeetsSeq.list_pop_last l its.toArray n u hy' (by rw[Q0g];omega)) ⟨e,?_⟩
 refine⟨y,_,I.lset (its':=its.dropLast) hH e ?_ r.dropLast ?_,ru,q⟩
 ·show its.toArray.eraseIdxIfInBounds (its.toArray.size-1)=its.dropLast.toArray
  rw[Q0g,Q8z,z5s]
 ·rw[List.length_dropLast]
  omega
def x1c:V->List V->Hp->VK->Prop:=fun x vs H Q=>∃l xs i k y,x=.ref l/\vs=[.int i]/\H l=some (.lst xs)/\-(2 ^ 63)<=i/\i<2 ^ 63/\seqIndex? i xs.length=some k/\xs[k]?=some y/\Q y (upd H l (.lst (xs.eraseIdx k)))
theorem y3d:MtM X "list.pop" x1c:=by
 intro pins s σ H x vs v us Q I rx rv h
 obtain⟨l,xs,i,k,y,rfl,rfl,hH,h1,h2,hk,hy,q⟩:=h
 cases rx
 obtain⟨u,rfl,ru⟩:=rv.one
 obtain⟨t,rfl⟩:=ru
 obtain⟨z,its,n,r,hl,e⟩:=I.lstM hH
 obtain⟨w,hw,rw'⟩:=r.get hy
 refine Q7p Z5e ⟨_,e,rfl⟩ Z4q (F.args_list_pop_2 _ _)
  (MeetsSeq.list_pop_at l its.toArray n i t k w (fitsIndex_both h1 h2) (by rw[Q0g,<-hl];exact hk) (by rw[<-Q4r];exact hw) (by rw[Q0g];omega)) ⟨e,?_⟩
 refine⟨y,_,I.lset (its':=its.eraseIdx k) hH e ?_ (r.eraseIdx k) ?_,rw',q⟩
 ·show its.toArray.eraseIdxIfInBounds k=(its.eraseIdx k).toArray
  rw[Q8z]
 ·have:=q9y xs k
  omega
def rCat:R2:=fun x y H Q=>∃l b xs zs,x=.ref l/\y=.ref b/\H l=some (.lst xs)/\H b=some (.lst zs)/\xs.length+zs.length<=Q0l/\∀p,H p=none->Q (.ref p) (upd H p (.lst (xs++zs)))
theorem x2l:OpR X (binaryOp .Add) rCat:=by
 intro pins s σ H x y v u Q I rx ry h
 obtain⟨l,b,xs,zs,rfl,rfl,hH,hB,hz,q⟩:=h
 cases rx
 cases ry
 obtain⟨z,its,n,r,hl,e⟩:=I.lstM hH
 obtain⟨z2,its2,n2,r2,hl2,e2⟩:=I.lstM hB
 refine PySem.P.add_list e e2 ?_ (by rw[Q0g,Q0g];omega)
 have ea:its.toArray++its2.toArray=(its++its2).toArray:=by simp
 rw[ea]
 exact⟨.ref _,_,I.lnew (t':=s.toks) (r.append r2) (by rw[Q0x];omega),rfl,q _ I.fresh⟩
def rRep:R2:=fun x y H Q=>∃l k xs,x=.ref l/\y=.int k/\H l=some (.lst xs)/\-(2 ^ 63)<=k/\k<2 ^ 63/\xs.length*k.toNat<=Q0l/\
 ∀p,H p=none->Q (.ref p) (upd H p (.lst (Q1v k.toNat xs).flatten))
theorem y8u{α:Type}(xs:List α)(k:Nat):(Q1v k xs).flatten.length=k*xs.length:=by
 induction k with
 |zero=>simp
 |succ k ih=>rw[Q3x,Q4y,Q0x,ih,Nat.succ_mul,Nat.add_comm]
theorem x2h:OpR X (binaryOp .Mult) rRep:=by
 intro pins s σ H x y v u Q I rx ry h
 obtain⟨l,k,xs,rfl,rfl,hH,h1,h2,hz,q⟩:=h
 cases rx
 obtain⟨t,rfl⟩:=ry
 obtain⟨z,its,n,r,hl,e⟩:=I.lstM hH
 have hlen:its.toArray.size*k.toNat<=Q0l:=by rw[Q0g,<-hl];exact hz
 have hcap:¬its.toArray.size*k.toNat > (2 ^ 63-1) / 8:=by
  have:(Q0l:Nat)<=(2 ^ 63-1) / 8:=by decide
  omega
 have hfit:¬(!Q1g.List.listFitsIndex k)=true:=by
  rw[fitsIndex_both h1 h2]
  exact Q2o
 have hlong:¬Q1g.List.listTooLong (its.toArray.size*k.toNat)=true:=by
  rw[q8e hlen]
  exact Q2o
 have hnew:Z2w (fun x1 x2=>x1++x2) #[] (Q1v (if its.toArray.isEmpty=true then 0 else k.toNat) its.toArray)=(Q1v k.toNat its).flatten.toArray:=by
  have f0:∀m:Nat,Z2w (fun x1 x2=>x1++x2) #[] (Q1v m its.toArray)=(Q1v m its).flatten.toArray:=fun m=>by
   have:=z0n its m []
   rw[List.nil_append]at this
   exact this
  rw[f0]
  cases its with
  |nil=>simp
  |cons a r'=>rw[if_neg (by simp)]
 refine wpAny_binaryOp_repeat_ref (T:= "list") (U:= "int") (by decide) ⟨_,e,rfl⟩ (fun s'=>Z5d s' k t) noFill_list_mul F.fills_int_mul Z5f repeat_list F.slot_int_index.lookup
  (Q7p Z5f (Z5d s k t) F.entry_int_rmul (F.args_int_rmul_2 _ _) (int___rmul___int_list k t l its.toArray n)
   ⟨e,rfl,⟨_,e,rfl⟩,Q7p F.slot_list_mul ⟨_,e,rfl⟩ F.entry_list_mul (F.args_list_mul_2 _ _) (AutoListH.list___mul___list_int_3 l its.toArray n k t hfit hcap hlong) ⟨e,?_⟩⟩)
 rw[hnew]
 exact⟨.ref _,_,I.lnew (t':=s.toks) (r.rep k.toNat) (by rw[y8u,Nat.mul_comm];exact hz),rfl,q _ I.fresh⟩
end
section
variable{prog:Q1e}{w:Q1x}{A:Q1t}{E:Q0b->Q0d->Prop}{s:Q0d}
end
section
variable{X:Cx}
end
end L2
namespace Att
open PySem PySem.W PySem.Calls PyProof.Rows
theorem q6n{P:Params}{h:Q1h}:∀(ns:List Int)(vs:List Q0b),WellAll P h vs (ns.map Z5y)->Z2l vs ns:=by
 intro ns
 induction ns with
 |nil=>
  intro vs w
  rw[Q6b]at w
  cases w
  exact .nil
 |cons n ns ih=>
  intro vs w
  rw[Q0v]at w
  cases w with
  |cons a b=>
   cases a
   exact .cons _ _ (ih _ b)
theorem z7p {l : Q9f} {n : Nat} (hn : l.most = some n) {P : Params} {h : Q1h} {args : List WData} {vals : List Q0b}
  (hpre : l.row.toRowW.claim.pre args = true) (hwl : WellAll P h vals args) :
  ∃ a vs ns, vals = [Q0b.ref a] /\ args = [WData.list (ns.map Z5y)] /\ h.get? a = some { cls := .type "list", data := .seq vs.toArray } /\ Z2l vs ns /\ ns.length <= n := by
 have hsh : WShape.hasAll [] args [.list .int] = true := (pre_splitW hpre).1
 have hc : l.pre.holds [] { args := args } = true := (pre_splitW hpre).2
 obtain ⟨d, r, rfl, h1, h2⟩ := hasAllW_cons hsh
 obtain rfl := hasAllW_nil h2
 obtain ⟨xs, rfl, h3⟩ := hasW_list h1
 obtain ⟨ns, rfl⟩ := items_int h3
 have hlen : ns.length <= n := by
  unfold Q9f.pre at hc
  have h4 : (WTm.not (.lt (.lit (.int (n : Int))) (.len (.arg 0)))).holds [] { args := [.list (ns.map .int)] } = true := by
   have h4 := (holds_andW hc).1
   rw [hn] at h4
   exact h4
  have h5 := condW_of h4 (w_not (w_lt w_lit (w_len_list (w_arg rfl))))
  rw [Q0q] at h5
  refine Nat.le_of_not_lt fun q => ?_
  have q' : (n : Int) < ((ns.length : Nat) : Int) := by omega
  first
   | (rw [decide_eq_true q'] at h5; exact absurd h5 (by decide))
   | (simp at h5; omega)
 cases hwl with
 | cons w1 w2 =>
  cases w2
  cases w1 with
  | list ho hall => exact ⟨_, _, ns, rfl, rfl, ho, q6n ns _ hall, hlen⟩
theorem z7z(l:Q9f)(args:List WData):l.row.toRowW.claim.post args (.bool true) args=true:=
 postW_of (r:=l.row.toRowW) (X:=(true==true))
  (show Z5g [] (.bool true) .bool=true by first|rfl|decide|simp[Z5g,WShape.arms,WShape.armsAll])
  (show(WTm.eq .res (.lit (.bool true))).value [] {args:=args,res:=some (.bool true),after:=args}=some (.bool (true==true))from w_eq_bool (w_res rfl) w_lit) rfl
theorem attach_call{l:Q9f}{n:Nat}{q:Q1e}{loose:List Str}{XP:(Str->Option Q0b)->Q1h->Prop}{YP:Q1x->Q1h->Prop}{d:DefRec}
  (hn:l.most=some n) (hdf:d.params.defaults=[])
  (call:∀(w:Q1x)(s₀ s₁:Q0d)(mg mb:Str->Option Q0b)(fa:Q0u)(o:Obj)(pm cd doc:Q0b)(a:Q0u)(vs:List Q0b)(ns:List Int),
   Ground q loose [] XP w s₀ mg mb s₁.heap->YP w s₁.heap->
   s₁.heap.get? fa=some o->o.data=.func (docDef d.name d.params d.body d.scope pm cd doc)->s₁.heap.CodeRec cd d.name->mg d.name=some (.ref fa)->
   s₁.heap.get? a=some {cls:=.type "list",data:=.seq vs.toArray}->Z2l vs ns->ns.length<=n->s₁.gens=#[]->
   codeAny (model l.prog w) callerA (.call (.ref fa) ⟨[.ref a],[]⟩) (fun r s'=>r=.ok (.ret (.bool true))/\OldK s₁.heap s'.heap/\s'.os=s₁.os/\Q8m s'.gens) s₁) :
  WalkO q loose XP YP l.row.toRowW d [] (fun f vs=>Z2m f vs):=by
 intro w s₀ s₁ mg mb G Y fa o pm cd doc dV kV ho hd hcd hD hmg hg args vals as hpre hlay hrd hwl hlo
 obtain rfl:dV=.none:=Dflts.none hD hdf
 obtain rfl:kV=.none:=Dflts.noKw hD
 obtain⟨a,vs,ns,rfl,rfl,hobj,hints,hlen⟩:=z7p hn hpre hwl
 refine enter_call (Z3g (call w s₀ s₁ mg mb fa o pm cd doc a vs ns G Y ho (fd_plain hd) hcd hmg hobj hints hlen hg) fun r s' hq=>?_)
 obtain⟨rfl,h2,h3,h4⟩:=hq
 exact⟨.inl ⟨.bool true,.bool true,[],rfl,fun _=>rfl,.bool true,z7z l _,fun _=>⟨Q8s.nil,fun _ hm=>(nomatch hm)⟩⟩,h2,h3,h4⟩
section
variable{prog:Q1e}{w:Q1x}{A:Q1t}{E:Q0b->Q0d->Prop}{s:Q0d}{K:Q2p}
end
end Att
namespace L2
open PySem PySem.Spec PyProof.Rows
theorem q4h:∀{vs:List Q0b}{ns:List Int},Z2l vs ns->Vals (ns.map V.int) vs
 |_,_,.nil=>.nil
 |_,_,.cons n t h=>.cons ⟨t,rfl⟩ (q4h h)
def Only(H:Hp):Prop:=∀b,H b=none\/∃o xs,H b=some (.frz o (.lst xs))
theorem y3h{P:Q1e}{w:Q1x}{K:Q2p}{mg mb:Str->Option Q0b}{CX:CXT}{k:Nat}{fa a:Q0u}{fd:Q2z}{x:Str}{sp:Sp}{s₁:Q0d}{vs:List Q0b}{ns:List Int}
  (KX:K.In s₁.heap) (hns:s₁.heap.Ns Q1y mg) (hb:s₁.heap.Ns builtinsNs mb) (hbb:∀x:Str,x≠ "__name__" ->mb x=bootBuiltins x) (hlim:s₁.heap.NoLimit) (hg:s₁.gens=#[])
  (ha:s₁.heap.get? a=some {cls:=.type "list",data:=.seq vs.toArray}) (hi:Z2l vs ns) (hl:ns.length<=Q0l) (hr:Room k callerA)
  (F:∀base:Q1h,K.In base->base.Ns Q1y mg->FnOk P w K mg base CX k fa fd [x] sp) (hbind:∀(s:Q0d)(u:Q0b),Z2i s fd ⟨[u],[]⟩ [(x,u)])
  (hsp:∀H:Hp,Only H->SqL K H a (ns.map V.int)->sp [.ref a] H (fun v _=>v=.bl true) fun _ _ _=>False)
  (hCX:∀H e s',CX [] H s₁ (fun _ _ _=>False) e s'->False) :
  codeAny (model P w) callerA (.call (.ref fa) ⟨[.ref a],[]⟩) (fun r s'=>r=.ok (.ret (.bool true))/\OldK s₁.heap s'.heap/\s'.os=s₁.os/\Q8m s'.gens) s₁:=by
 have rv:=q4h hi
 have lenV:=hi.length
 have core:∀H:Hp,Only H->SqL K H a (ns.map V.int)->HOk P w H s₁.heap->(∀b,H b≠none->b=a)->(H a≠none->K.lookup a=none)->
   codeAny (model P w) callerA (.call (.ref fa) ⟨[.ref a],[]⟩) (fun r s'=>r=.ok (.ret (.bool true))/\OldK s₁.heap s'.heap/\s'.os=s₁.os/\Q8m s'.gens) s₁:=by
  intro H hO hS hok hA hK
  have base_of:∀{b:Q0u}{o:Obj},s₁.heap.get? b=some o->H b=none->(hidT s₁.heap H).get? b=some o:=fun e n=>y3q e n
  have noA:∀{b:Q0u}{o:Obj}{es:Array Z1c}{ep:Nat},s₁.heap.get? b=some o->o.data=.dict es ep->H b=none:=fun {b o es ep} e d=>by
   cases q:H b with
   |none=>rfl
   |some u=>
    have e':b=a:=hA b (by rw[q];simp)
    subst e'
    rw[ha]at e;cases e
    have d':Data.seq vs.toArray _=Data.dict es ep:=d
    cases d'
  have nsK:∀{b:Q0u}{m:Str->Option Q0b},s₁.heap.Ns b m->(hidT s₁.heap H).Ns b m:=fun {b m} ⟨o,es,ep,e,d,r⟩=>⟨o,es,ep,base_of e (noA e d),d,r⟩
  have hKb:K.In (hidT s₁.heap H):=fun b o e=>base_of (KX b o e) (by
   cases q:H b with
   |none=>rfl
   |some u=>
    have e':b=a:=hA b (by rw [q];simp)
    subst e'
    rw [hK (by rw [q];simp)]at e;cases e)
  have hM:Mod K mg (hidT s₁.heap H):=⟨hKb,nsK hns,⟨mb,nsK hb,hbb⟩,let ⟨mc,h1,h2⟩:=hlim;⟨mc,nsK h1,h2⟩⟩
  have e0:Env0 P w K mg (hidT s₁.heap H) callerA [] s₁ H:=⟨rfl,hM,fun b o e=>y8f e,Q9k (z9y _ _),trivial,fun b hb=>absurd (show b∈([]:List Q0u)from hb) (by simp),hok,.of_eq hg⟩
  refine Z3g ((F _ hKb (nsK hns)).run callerA [] s₁ H ⟨[.ref a],[]⟩ [.ref a] [.ref a] _ _ hr e0 (hbind s₁ (.ref a)) (.cons rfl .nil) (hsp H hO hS)) fun r s' h=>?_
  cases r with
  |error e=>exact(hCX H e s' h).elim
  |ok fl=>
   cases fl with
   |next=>exact Q5v h
   |brk=>exact Q5v h
   |cont=>exact Q5v h
   |ret u=>
    obtain⟨v,H',os,bare,un,hok',r',q⟩:=h
    have q':v=.bl true:=q
    subst q'
    obtain rfl:u=Q0b.bool true:=r'
    refine⟨rfl,OldK.of_keep fun b o e=>?_,os,bare⟩
    cases q:H b with
    |none=>exact un.keep b o e q (by intro z;exact absurd (show b∈([]:List Q0u)from z) (by simp)) (by simp)
    |some u=>
     rcases hO b with z|⟨ob,xs,z⟩
     ·rw[q]at z;cases z
     ·have z2:=un.frzs b ob _ z
      obtain⟨e1,_⟩:=hok b _ z
      obtain⟨e2,_⟩:=hok' b _ z2
      rw[e]at e1;cases e1
      exact e2
 cases hk:K.lookup a with
 |some o=>
  have e:=KX a o hk
  rw[ha]at e
  cases e
  refine core (fun _=>none) (fun _=>.inl rfl) (.inr ⟨_,vs.toArray,_,hk,rfl,rfl,rfl,by rw[Q0g,lenV];exact hl,by simpa using rv⟩) (fun b u z=>by have z':(none:Option HO)=some u:=z;cases z') (fun b z=>absurd rfl z) fun z=>absurd rfl z
 |none=>
  refine core (fun b=>if b=a then some (.frz {cls:=.type "list",data:=.seq vs.toArray} (.lst (ns.map V.int)))else none) (fun b=>?_) (.inl (.inr ⟨{cls:=.type "list",data:=.seq vs.toArray},if_pos rfl⟩)) (fun b u z=>?_) (fun b z=>?_) fun _=>hk
  ·by_cases hb:b=a
   ·exact .inr ⟨_,_,if_pos hb⟩
   ·exact .inl (if_neg hb)
  ·by_cases hb:b=a
   ·have z':=(if_pos hb).symm.trans z
    cases z'
    subst hb
    exact⟨ha,by rw[Q0q];exact hl,vs,_,rv,ha⟩
   ·have z':=(if_neg hb).symm.trans z
    cases z'
  ·by_cases hb:b=a
   ·exact hb
   ·exact absurd (if_neg hb) z
theorem z6f{l:Q9f}{n k:Nat}{q:Q1e}{loose:List Str}{XP:(Str->Option Q0b)->Q1h->Prop}{YP:Q1x->Q1h->Prop}{d:DefRec}{K:Params->Q2p}{CX:Q1x->CXT}{sp:Q1x->Sp}{x:Str}
  (hn:l.most=some n) (hn2:n<=Q0l) (hdf:d.params.defaults=[]) (hr:Room k callerA)
  (hY:∀(w:Q1x)(h:Q1h),YP w h->(K w.params).In h)
  (F:∀(w:Q1x)(mg:Str->Option Q0b)(fa:Q0u)(h:Q1h),(K w.params).In h->h.Ns Q1y mg->mg d.name=some (.ref fa)->
   ∃fd:Q2z,(∀(s:Q0d)(u:Q0b),Z2i s fd ⟨[u],[]⟩ [(x,u)])/\
    ∀base:Q1h,(K w.params).In base->base.Ns Q1y mg->FnOk l.prog w (K w.params) mg base (CX w) k fa fd [x] (sp w))
  (hsp:∀(w:Q1x)(H:Hp)(a:Q0u)(ns:List Int),ns.length<=n->Only H->SqL (K w.params) H a (ns.map V.int)->sp w [.ref a] H (fun v _=>v=.bl true) fun _ _ _=>False)
  (hCX:∀(w:Q1x)(H:Hp)(s:Q0d)(e:Q0b)(s':Q0d),CX w [] H s (fun _ _ _=>False) e s'->False) :
  Z3j q loose XP YP l.row.toRowW d [] (fun f vs=>Z2m f vs):=by
 refine Att.attach_call hn hdf fun w s₀ s₁ mg mb fa o pm cd doc a vs ns G Y ho hd hcd hmg hobj hints hlen hg=>?_
 have KX:=hY w _ Y
 obtain⟨fd,hb,hF⟩:=F w mg fa _ KX G.T.g hmg
 exact y3h KX G.T.g G.T.b G.T.builtins G.T.nolimit hg hobj hints (Q1l hlen hn2) hr hF hb (fun H hO hS=>hsp w H a ns hlen hO hS) fun H e s'=>hCX w H s₁ e s'
end L2
/- THE LAST THEOREM (shape;LID,My.* are yours):
   My.Adr: a structure of the addresses that your layer names (classes,functions);My.Txt K t: a structure (Prop) of the equations over K;
   My.txt_mk:{K} {implicit addresses ..} (e1:nsIn K Q1y "law" = some (some (.ref f))) (e2:K.lookup f=some ⟨oc,od,.func (fnOf "law" "law" params body scope dV kV doc pm an cdv ct),sl⟩) (e3:codeIn K cdv "law" = true) ..:∃t,My.Txt K t
set_option maxRecDepth 100000 in
set_option maxHeartbeats 0 in
theorem PySem.Challenge.cw_LID_holds : PySem.Challenge.rw_LID.Holds := by
 w_on;o_law;k_head;(case hw => w_witness2)
 k_fill
 refine L2.z6f (l := PySem.Challenge.rw_LID) (n := 63) (k := 40) (x := "script") (CX := fun w => ..) (sp := fun _ => My.sp_law) rfl (by decide) rfl ⟨rfl, by decide, by decide⟩ (fun w h Y => PySem.W.kIn_of Y) ?F ?S ?C
 case F =>
  intro w mg fa h KX G hmg
  have T : ∃ t, My.Txt (L2.KOf KX) t := by
   dsimp only[L2.KOf]                          -- K must stand as «<heap const> w.params» for k_is
   refine' My.txt_mk ?e1 ?e2 ?e3 ..
   (case e1 => PySem.W.k_is)                    -- in the order: a name -> its address -> its object -> its parts
   (case e2 => PySem.W.k_is)
   ..
  obtain⟨t, T⟩ := T
  have e0 := hmg.symm.trans (Q8h KX G T.law)
  cases e0                                       -- fa is the law's own address
  exact⟨_, fun s u => .of_eq rfl, fun base kb nb => My.law_fn T kb nb⟩     -- if «.of_eq rfl» comes too early: refine' ⟨_, ?b, fun base kb nb => My.law_fn T kb nb⟩;exact fun s u => .of_eq rfl
 case S => exact fun w H a ns hl hO hS => ..
 case C => exact ..
(the tactic k_is has no namespace: write k_is) -/
namespace L2
open PySem PySem.Spec PyProof.Rows
def q5c(s:Q5q):Arguments:=match s with
 |.FunctionDef _ a _ _ _ _ _ _ _ _=>a
 |_=>{posonlyargs:=[],args:=[],vararg:=none,kwonlyargs:=[],kw_defaults:=[],kwarg:=none,defaults:=[]}
def q3i(s:Q5q):List Q5q:=match s with
 |.FunctionDef _ _ b _ _ _ _ _ _ _=>b
 |_=>[]
def q0o(s:Q5q):Q5b:=match s with
 |.FunctionDef _ _ _ _ _ _ sc _ _ _=>sc
 |_=>{kind:=.function,names:=[],isGenerator:=false,isCoroutine:=false}
abbrev E0:XK:=fun _ _ _=>False
structure Fun(K:Q2p)(x qual:Str)(st:Q5q)(f:Q0u)(fd:Q2z):Prop where
 ex:∃(oc:Q0b)(od:Option Q0u)(kV doc pm:Q0b)(an:Option Q0u)(cdv ct:Q0b)(osl:Array (Option Q0b)),
  fd=Q5f x qual (q5c st) (q3i st) (q0o st) .none kV doc pm an cdv ct/\K.lookup f=some ⟨oc,od,.func fd,osl⟩/\Q7s K cdv qual=true
 kp:Q6k K (.ref f)=true
section
variable{P:Q1e}{w:Q1x}{K:Q2p}{mg:Str->Option Q0b}{base:Q1h}
theorem Fun.binds{x qual:Str}{st:Q5q}{f:Q0u}{fd:Q2z}{ps:List Str}(F:Fun K x qual st f fd)
  (h:∀(kV doc pm:Q0b)(an:Option Q0u)(cdv ct:Q0b)(us:List Q0b),us.length=ps.length->bindArgs (Q5f x qual (q5c st) (q3i st) (q0o st) .none kV doc pm an cdv ct) ⟨us,[]⟩=pure (ps.zip us)):z2t K fd ps []:=by
 obtain⟨oc,od,kV,doc,pm,an,cdv,ct,osl,rfl,lk,hcd⟩:=F.ex
 exact .all (h kV doc pm an cdv ct)
theorem x3q{x qual:Str}{st:Q5q}{f:Q0u}{oc:Q0b}{od an:Option Q0u}{osl:Array (Option Q0b)}{kV doc pm cdv ct:Q0b}(l:K.lookup f=some ⟨oc,od,.func (Q5f x qual (q5c st) (q3i st) (q0o st) .none kV doc pm an cdv ct),osl⟩)
  (c:Q7s K cdv qual=true) (k:Q6k K (.ref f)=true):Fun K x qual st f (Q5f x qual (q5c st) (q3i st) (q0o st) .none kV doc pm an cdv ct):=⟨⟨oc,od,kV,doc,pm,an,cdv,ct,osl,rfl,l,c⟩,k⟩
end
section
variable{X:Cx}
end
theorem ite2{c A B:Prop} [Decidable c] (h1:c->A) (h2:¬c->B):if c then A else B:=by
 by_cases h:c
 ·rw[if_pos h]
  exact h1 h
 ·rw[if_neg h]
  exact h2 h
structure Fly(e:Q0u)(cls:Q0b)(own:List Q0u)(h:Q1h):Prop where
 is:∃(oe:Obj)(vs:Array Q0b)(hd:Q0b),h.get? e=some oe/\oe.cls=cls/\oe.data=.fields vs/\vs[1]?=some hd/\
  (hd=.none\/∃(T:Q0u)(oT:Obj)(ts:Array Q0b),hd=.ref T/\T∈own/\T≠e/\h.get? T=some oT/\oT.data=.fields ts/\ts[3]?=some .none)
structure Past(fs own:List Q0u)(h h':Q1h):Prop where
 keep:∀b o,h.get? b=some o->b∉own->b∉fs->h'.get? b=some o
 slot:∀b o,h.get? b=some o->b∉own->b∈fs->∃sl,h'.get? b=some {o with slots:=sl}
 there:∀b o,h.get? b=some o->∃o',h'.get? b=some o'
theorem Past.trans{fs own:List Q0u}{h1 h2 h3:Q1h}(a:Past fs own h1 h2)(b:Past fs own h2 h3):Past fs own h1 h3 where
 keep:=fun c o q n m=>b.keep c o (a.keep c o q n m) n m
 slot:=fun c o q n m=>by
  obtain⟨sl,q1⟩:=a.slot c o q n m
  obtain⟨sl2,q2⟩:=b.slot c _ q1 n m
  exact⟨sl2,q2⟩
 there:=fun c o q=>by
  obtain⟨o1,q1⟩:=a.there c o q
  exact b.there c o1 q1
theorem z4w{fs own:List Q0u}{h h':Q1h}(x:Q1h.SlotsOnly fs h h'):Past fs own h h' where
 keep:=fun b o q _ m=>by rw[x.2.1 b m];exact q
 slot:=fun b o q _ _=>x.2.2 b o q
 there:=fun b o q=>let ⟨_,z⟩:=x.2.2 b o q;⟨_,z⟩
theorem z8k{fs own:List Q0u}(h:Q1h)(o:Obj):Past fs own h (h.push o) where
 keep:=fun b u q _ _=>Q0c o q
 slot:=fun b u q _ _=>⟨u.slots,Q0c o q⟩
 there:=fun b u q=>⟨u,Q0c o q⟩
theorem q7b{fs own:List Q0u}{h:Q1h}{a:Q0u}{oa:Obj}{vs:Array Q0b}(g:Array Q0b->Array Q0b)(ha:a∈own)(q:h.get? a=some oa)(hd:oa.data=.fields vs):Past fs own h (h.update a (Q5s g)) where
 keep:=fun b u z n _=>by rw[Q1h.get?_update_other _ _ (fun w=>n (by rw[<-w];exact ha))];exact z
 slot:=fun b u z n _=>⟨u.slots,by rw[Q1h.get?_update_other _ _ (fun w=>n (by rw[<-w];exact ha))];exact z⟩
 there:=fun b u z=>by
  by_cases w:a=b
  ·subst w
   exact⟨_,Q1h.get?_update_self _ q (Q4w (Q3q hd g))⟩
  ·exact⟨u,by rw[Q1h.get?_update_other _ _ w];exact z⟩
section
variable{M:Z1b}{A:Q1t}{E:Q0b->Q0d->Prop}{s:Q0d}
theorem z3k{base:Q1h}{env:Env}{outer:List Env}{L e:Q0u}{oe:Obj}{vs:Array Q0b}{head:Q0b}{hn:Bool}{own:List Q0u}{Q:Unit->Q0d->Prop}(hfr:A.frames=some (env::outer))(hl:s.heap.FunFrames base (env::outer))
  (hf:env.frame=some L) (he:s.heap.get? e=some oe) (hd:oe.data=.fields vs) (hsz:1<vs.size) (ho:e∈own)
  (h:∀h' T,s.heap.get? T=none->Past ((env::outer).filterMap (·.frame)) own s.heap h'->Fly e oe.cls [T] h'->Q () {s with heap:=h' }) :
  Q1d M A (do let a <-frameOf env;let pl <-entryPlaceOf L hn;let b <-Z0e head a .none (rawInt L) .none pl;setField (.ref e) 1 b) (fun _ s'=>Q1d M A (setFlight (.ref e) none) Q E s') E s:=by
 have nfr:e∉(env::outer).filterMap (·.frame):=fun z=>by
  obtain⟨-,o,q,nd⟩:=hl.mem z
  rw[he]at q;cases q
  exact nd vs hd
 refine Q0a (wpAny_frameOf_fun hfr hl hf fun g1 s1=>Q0a (wpAny_entryPlaceOf fun pl hpl=>?_))
 have P1:Past ((env::outer).filterMap (·.frame)) own s.heap g1:=z4w s1
 unfold Z0e newFields
 refine Q0a (Q2k ?_ (hpl.sizeOk5 _ _ _ _ _))
 have e1:g1.get? e=some oe:=by rw[s1.2.1 e nfr];exact he
 generalize hto:({cls:=.type "traceback",dict:=none,data:=.fields ([head,.ref L,.none,rawInt L,.none]++(if pl.isEmpty then Q1v 6 Q0b.none else pl)).toArray}:Obj)=to
 have P2:Past ((env::outer).filterMap (·.frame)) own g1 (g1.push to):=z8k g1 to
 have e2:=Q0c (h:=g1) to e1
 have Tnew:s.heap.get? g1.objs.size=none:=by
  cases q:s.heap.get? g1.objs.size with
  |none=>rfl
  |some o=>exact absurd (Q0m q) (by rw[s1.1];exact Q3n _)
 have T2:(g1.push to).get? g1.objs.size=some to:=Q0w g1 (by subst hto;rfl)
 refine Q5n e2 hd hsz ?_
 have Te:g1.objs.size≠e:=Q1s (Q0m e1)
 have P3:Past ((env::outer).filterMap (·.frame)) own (g1.push to) _:=q7b (·.setIfInBounds 1 (Q0b.ref g1.objs.size)) ho e2 hd
 have d3:=Q3q hd (·.setIfInBounds 1 (Q0b.ref g1.objs.size))
 have e3:=Q1h.get?_update_self (Q5s (·.setIfInBounds 1 (Q0b.ref g1.objs.size))) e2 (Q4w d3)
 have T3:=(Q1h.get?_update_other (g1.push to) (Q5s (·.setIfInBounds 1 (Q0b.ref g1.objs.size))) (Q4a Te)).trans T2
 have tod:to.data=.fields ([head,.ref L,.none,rawInt L,.none]++(if pl.isEmpty then Q1v 6 Q0b.none else pl)).toArray:=by subst hto;rfl
 unfold setFlight
 refine Q0a (Q2f e3 d3 (x:=.ref g1.objs.size) (by simp[hsz]) ?_)
 rw[if_pos (show(Q0b.ref g1.objs.size != Q0b.none)=true by simp)]
 have sz3:3<([head,.ref L,.none,rawInt L,.none]++(if pl.isEmpty then Q1v 6 Q0b.none else pl)).toArray.size:=by
  simp only[Q0g,Q0x,Q1k,Q4t];omega
 refine Q5n T3 tod sz3 (h _ g1.objs.size Tnew ?_ ?_)
 ·have P:=(P1.trans P2).trans P3
  have nT:∀b u,s.heap.get? b=some u->g1.objs.size≠b:=fun b u z w=>by rw[w,z]at Tnew;cases Tnew
  refine⟨fun b u z n m=>?_,fun b u z n m=>?_,fun b u z=>?_⟩
  ·rw[Q1h.get?_update_other _ _ (nT b u z)]
   exact P.keep b u z n m
  ·obtain⟨sl,q⟩:=P.slot b u z n m
   exact⟨sl,by rw[Q1h.get?_update_other _ _ (nT b u z)];exact q⟩
  ·obtain⟨o',q⟩:=P.there b u z
   exact⟨o',by rw[Q1h.get?_update_other _ _ (nT b u z)];exact q⟩
 ·have T4:=Q1h.get?_update_self (Q5s (·.setIfInBounds 3 ((none:Option Q0u).elim Q0b.none fun f=>rawInt f))) T3 (Q4w (Q3q tod _))
  refine⟨_,_,.ref g1.objs.size,?_,Q9g _ _,d3,by simp[hsz],.inr ⟨g1.objs.size,_,_,rfl,by simp,Te,T4,Q3q tod _,?_⟩⟩
  ·rw[Q1h.get?_update_other _ _ Te]
   exact e3
  ·rw[Array.getElem?_setIfInBounds_self_of_lt sz3]
   rfl
theorem y3a{base:Q1h}{env:Env}{outer:List Env}{L e:Q0u}{cls:Q0b}{own:List Q0u}{Q:Unit->Q0d->Prop}(hfr:A.frames=some (env::outer))(hl:s.heap.FunFrames base (env::outer))(hf:env.frame=some L)(F:Fly e cls own s.heap)
  (h:∀h' T,s.heap.get? T=none->Past ((env::outer).filterMap (·.frame)) (e::own) s.heap h'->Fly e cls [T] h'->Q () {s with heap:=h' }):Q1d M A (noteFrame (.ref e) env) (fun _ s2=>Q1d M A (setFlight (.ref e) none) Q E s2) E s:=by
 obtain⟨oe,vs,hd,he,hc,hdt,h1,hh⟩:=F.is
 subst hc
 have hsz:1<vs.size:=(Q4z.mp h1).1
 unfold noteFrame
 simp only[hf]
 refine Q0a (Q2f he hdt h1 ?_)
 rcases hh with rfl|⟨T,oT,ts,rfl,hT,Te,gT,dT,h3⟩
 ·rw[if_neg (by decide)]
  exact z3k hfr hl hf he hdt hsz (by simp) h
 ·rw[if_pos (show(Q0b.ref T != Q0b.none)=true by simp)]
  refine Q0a (Q2f gT dT h3 ?_)
  rw[if_neg (show ¬((Q0b.none==rawInt L)=true) by simp[rawInt])]
  refine Q0a (Q5n gT dT (Q4z.mp h3).1 ?_)
  have P:Past ((env::outer).filterMap (·.frame)) (e::own) s.heap _:=q7b (·.setIfInBounds 3 Q0b.none) (Q2d _ hT) gT dT
  have hl2:(s.heap.update T (Q5s (·.setIfInBounds 3 Q0b.none))).FunFrames base (env::outer):=hl.of_keeps fun b o q nd=>⟨o,by
   rw [Q1h.get?_update_other _ _ (fun w=>by subst w;rw [gT]at q;cases q;exact nd ts dT)];exact q,rfl⟩
  refine z3k (own:=e::own) hfr hl2 hf (oe:=oe) (by rw[Q1h.get?_update_other _ _ Te];exact he) hdt hsz (by simp) fun h' T' n' P' F'=>h h' T' ?_ (P.trans P') F'
  cases q:s.heap.get? T' with
  |none=>rfl
  |some o=>
   obtain⟨o',z⟩:=P.there T' o q
   rw[z]at n'
   cases n'
theorem z9m{base:Q1h}{env:Env}{outer:List Env}{L e:Q0u}{cls:Q0b}{own:List Q0u}{Q:Unit->Q0d->Prop}(hfr:A.frames=some (env::outer))(hl:s.heap.FunFrames base (env::outer))(hf:env.frame=some L)(F:Fly e cls own s.heap)
  (h:∀h' T,s.heap.get? T=none->Past ((env::outer).filterMap (·.frame)) (e::own) s.heap h'->Fly e cls [T] h'->Q () {s with heap:=h' }):Q1d M A (leaving env (.ref e)) Q E s:=by
 unfold leaving
 exact Q0a (y3a hfr hl hf F h)
end
def CXE(P:Q1e)(w:Q1x):CXT:=fun outer H s E e s'=>∃(a:Q0u)(cls:Q0b)(own:List Q0u)(H':Hp),e=.ref a/\s'.os=s.os/\Q8m s'.gens/\Un (frs outer) [] H H' s.heap s'.heap/\HOk P w H' s'.heap/\Fly a cls own s'.heap/\
 (∀b∈a::own,s.heap.get? b=none/\H' b=none)/\E cls none H'
theorem HOk.past{P:Q1e}{w:Q1x}{H:Hp}{h h':Q1h}{fs own:List Q0u}(ok:HOk P w H h)(p:Past fs own h h')(n1:∀b∈fs,H b=none)(n2:∀b∈own,H b=none):HOk P w H h':=fun a o q=>
 (ok a o q).stay (fun b u hb z=>p.keep b u z (fun m=>by
   rcases hb with rfl|hb
   ·rw [n2 _ m]at q;cases q
   ·rw [n2 _ m]at hb;cases hb) (fun m=>by
   rcases hb with rfl|hb
   ·rw [n1 _ m]at q;cases q
   ·rw [n1 _ m]at hb;cases hb)) (fun _ q=>q) fun _ _ q=>q
theorem q1e.ex{P:Q1e}{w:Q1x}{H:Hp}{h:Q1h}{a:Q0u}{o:HO}(x:q1e P w H h a o):∃u,h.get? a=some u:=by
 cases o with
 |lst xs=>obtain⟨_,_,_,_,e⟩:=x;exact⟨_,e⟩
 |tup xs=>obtain⟨_,_,_,_,e,_⟩:=x;exact⟨_,e⟩
 |dK kvs=>obtain⟨_,_,_,_,o,_,_,e,_⟩:=x;exact⟨_,e⟩
 |dT kvs=>obtain⟨_,_,_,_,o,_,_,e,_⟩:=x;exact⟨_,e⟩
 |dH c kvs=>obtain⟨_,_,_,_,o,_,e,_⟩:=x;exact⟨_,e⟩
 |set S n=>obtain⟨o,_,_,_,e,_⟩:=x;exact⟨_,e⟩
 |ins C dx fs=>obtain⟨_,_,_,e,_⟩:=x;exact⟨_,e⟩
 |own _=>exact x
 |xd fs=>obtain⟨_,⟨_,_,_,e,_⟩,_⟩:=x;exact⟨_,e⟩
 |rng lo hi=>obtain⟨_,_,_,e⟩:=x;exact⟨_,e⟩
 |frz o u=>exact⟨_,x.1⟩
 |tbl ps=>exact⟨_,x⟩
 |met f y=>exact⟨_,x⟩
 |ext φ=>exact x.2.1
theorem HOk.none_of{P:Q1e}{w:Q1x}{H:Hp}{h:Q1h}{b:Q0u}(ok:HOk P w H h)(n:h.get? b=none):H b=none:=by
 cases q:H b with
 |none=>rfl
 |some o=>
  obtain⟨u,z⟩:=q1e.ex (ok b o q)
  rw[n]at z;cases z
theorem x5e{P:Q1e}{w:Q1x}{K:Q2p}{mg:Str->Option Q0b}{base:Q1h}{N:List Str}{qual:Str}{scope:Q5b}{f:Q0u}{cd:Q0b}{A:Q1t}{outer:List Env}{s:Q0d}{H:Hp}{E:XK} :
  q3q (CXE P w) (cxOf (CXE P w) P w K mg base N qual scope f cd A outer s H E) E:=by
 intro pins σ H1 s1 e s2 I1 hx
 obtain⟨a,cls,own,H2,rfl,os,bare,un,hok,F,new,q⟩:=hx
 have I2:=I1.call' os un hok bare (fun b z=>absurd z (by simp))
 have n0:∀b,(∃o,s.heap.get? b=some o)->∃o,s1.heap.get? b=some o:=fun b ⟨o,z⟩=>I1.base.there b o z (by intro y;cases y)
 have old:∀b,(∃o,s.heap.get? b=some o)->b∉a::own:=fun b z m=>by
  obtain⟨o,y⟩:=n0 b z
  rw[(new b m).1]at y;cases y
 have n2:∀b,(∃o,s.heap.get? b=some o)->∃o,s2.heap.get? b=some o:=fun b ⟨o,z⟩=>I2.base.there b o z (by intro y;cases y)
 refine z9m (base:=base) I2.ok.frames I2.stack rfl F fun h' T nT P' F'=>?_
 have hfr:∀b,(∃o,s.heap.get? b=some o)->b∉frs outer->b∉frs (envOfC qual scope s.heap.objs.size f cd::outer):=fun b ⟨o,z⟩ m y=>by
  have lt:=Q0m z
  have y':b∈s.heap.objs.size::frs outer:=y
  rcases Q1b.mp y' with r|r
  ·rw[r]at lt;exact absurd lt (Q3n _)
  ·exact m r
 refine⟨a,cls,[T],H2,rfl,I2.os,I2.bare,⟨fun b o z n m _=>?_,fun b o z n m _=>?_,fun b o z n x=>I2.base.free b o z n x,fun b o z x=>?_,I2.base.tups,I2.base.frzs,I2.base.tbls⟩,?_,F',?_,q⟩
 ·exact P'.keep b o (I2.base.keep b o z n m (by intro y;cases y)) (old b ⟨o,z⟩) (hfr b ⟨o,z⟩ m)
 ·obtain⟨sl,y⟩:=I2.base.slot b o z n m (by intro y;cases y)
  obtain⟨sl2,y2⟩:=P'.slot b _ y (old b ⟨o,z⟩) (show b∈s.heap.objs.size::frs outer from Q2d _ m)
  exact⟨sl2,y2⟩
 ·obtain⟨o2,y⟩:=n2 b ⟨o,z⟩
  exact P'.there b o2 y
 ·exact HOk.past I2.hok P' I2.stkFree fun b m=>(new b m).2
 ·intro b m
  simp only[Q1b,Q2r,or_false]at m
  rcases m with rfl|rfl
  ·refine⟨?_,(new b (by simp)).2⟩
   cases z:s.heap.get? b with
   |none=>rfl
   |some o=>exact absurd (by simp) (old b ⟨o,z⟩)
  ·refine⟨?_,HOk.none_of I2.hok nT⟩
   cases z:s.heap.get? b with
   |none=>rfl
   |some o=>
    obtain⟨o',y⟩:=n2 b ⟨o,z⟩
    rw[nT]at y;cases y
section
variable{X:Cx}{E:XK}
end
theorem x2a{P:Q1e}{w:Q1x}{X:Cx}:q3q (CXE P w) X E0:=fun _ _ _ _ _ _ _ hh1=>by obtain⟨_,_,_,_,_,_,_,_,_,_,_,q⟩:=hh1;exact(q.elim)
theorem CXE.imp{P:Q1e}{w:Q1x}{outer:List Env}{H:Hp}{s s':Q0d}{E E':XK}{e:Q0b}(h:CXE P w outer H s E e s')(i:∀c d H',E c d H'->E' c d H'):CXE P w outer H s E' e s':=
 let ⟨a,cls,own,H',h1,h2,h3,h4,h5,h6,h7,q⟩:=h;⟨a,cls,own,H',h1,h2,h3,h4,h5,h6,h7,i _ _ _ q⟩
theorem q3q.imp{P:Q1e}{w:Q1x}{X:Cx}{E E':XK}(h:q3q (CXE P w) X E)(i:∀c d H',E' c d H'->E c d H'):q3q (CXE P w) X E':=fun pins σ H s e s' I q=>h pins σ H s e s' I (q.imp i)
theorem Fun.okX{P:Q1e}{w:Q1x}{K:Q2p}{mg:Str->Option Q0b}{base:Q1h}{x qual:Str}{st:Q5q}{f:Q0u}{fd:Q2z}{N ps:List Str}{k:Nat}{sp:Sp}(F:Fun K x qual st f fd)(S:FnScope N ps (q0o st))(len:∀vs H Q E,sp vs H Q E->vs.length=ps.length)
  (hbody:∀(cdv:Q0b)(A:Q1t)(outer:List Env)(s:Q0d)(H:Hp)(vs:List V)(Q:VK)(E:XK),RoomW k (A.deeper (envOfC qual (q0o st) s.heap.objs.size f cdv))->sp vs H Q E->
   ∃t,PSs (cxOf (CXE P w) P w K mg base N qual (q0o st) f cdv A outer s H E) (q3i st) t/\t {nx:=fun _ H'=>Q .non H',rt:=Q} (q5w N vs) H):FnOk P w K mg base (CXE P w) (k+1) f fd ps sp:=by
 obtain⟨oc,od,kV,doc,pm,an,cdv,ct,osl,rfl,lk,hcd⟩:=F.ex
 exact x6n lk hcd S len fun A outer s H vs Q E hr hsp=>hbody cdv A outer s H vs Q E hr hsp
section
variable(P:Q1e)(w:Q1x)
end
section
variable{P:Q1e}{w:Q1x}{H H':Hp}{h h':Q1h}{a:Q0u}{o:HO}
end
section
variable{P:Q1e}{w:Q1x}{H:Hp}{h h':Q1h}{x e:Q0u}{o':HO}
end
section
variable{fs fs' ex ex':List Q0u}{H H1 H2:Hp}{h h1 h2 h':Q1h}{a x e:Q0u}{o:HO}
end
section
variable{X:Cx}{pins:List (Q0u×Obj)}{σ:List (Option V)}{H H':Hp}{s:Q0d}{h':Q1h}
end
section
variable{X:Cx}
variable{a b:Expr}{ta tb:TE}{pos:Pos}
variable{tA tB':TT}{rest:List Expr}
end
section
variable{X:Cx}{pins:List (Q0u×Obj)}{σ:St}{H:Hp}{s:Q0d}{a:Q0u}{xs ys:List V}
end
section
variable{X:Cx}{pins:List (Q0u×Obj)}{σ:St}{H:Hp}{s:Q0d}{E:Q0b->Q0d->Prop}
end
section
variable{X:Cx}{st:Q5q}{rest:List Q5q}{t u:TS}{e:Expr}{te:TE}{pos:Pos}
end
section
variable{X:Cx}{pos:Pos}
end
section
variable{X:Cx}{pos:Pos}
end
section
variable{X:Cx}{tg:Expr}
end
section
variable{X:Cx}{a b c:Expr}{ta tb tc:TE}{pos:Pos}
end
section
variable{X:Cx}{a b c:Expr}{ta tb tc:TE}{pos:Pos}
end
section
variable{prog:Q1e}{w:Q1x}{A:Q1t}{E:Q0b->Q0d->Prop}{s:Q0d}{K:Q2p}{x dx C f:Q0u}{mA:Str->Option Q0b}{name:Str}{v:Q0b}
end
section
variable{P:Q1e}{w:Q1x}{H H':Hp}{h h':Q1h}{a C dx:Q0u}{fs fs':List (Str×V)}
end
section
variable{X:Cx}{pins:List (Q0u×Obj)}{σ:St}{H:Hp}{s:Q0d}{a C dx:Q0u}{fs:List (Str×V)}{f:Str}{v:V}{A:Q1t}{E:Q0b->Q0d->Prop}
end
section
variable{X:Cx}{o e value:Expr}{f:Str}{pos pos' tpos:Pos}{ta tv:TE}
end
section
variable{X:Cx}{pins:List (Q0u×Obj)}{σ:St}{H:Hp}{s:Q0d}{A:Q1t}{E:Q0b->Q0d->Prop}{Q:Q0b->Q0d->Prop}{c:Q0b}{b:Bool}
end
section
variable{X:Cx}{e:Expr}{es:List Expr}{te:TE}{t:TA}{pos:Pos}
end
section
variable{X:Cx}{pins:List (Q0u×Obj)}{σ:St}{H:Hp}{s s':Q0d}
end
section
variable{X:Cx}{CX:CXT}{k:Nat}{f C:Q0u}{fd:Q2z}{ps:List Str}{sp:Sp}{dvs:List V}{ds:List Q0b}{E:XK}{x m:Str}{p pos apos:Pos}{e o:Expr}{es:List Expr}{ta:TE}{t:TA}
end
section
variable{X:Cx}{CX:CXT}{k:Nat}{f C:Q0u}{fd:Q2z}{ps ks:List Str}{sp:Sp}{E:XK}{x m:Str}{p pos apos kpos:Pos}{e o:Expr}{es:List Expr}{kws:List Q9d}{te ta:TE}{t tk:TA}{nm:Option Str}
variable{g:List Q0b->List Q0b->List Q0b}{gV:List V->List V->List V}
end
section
variable{X:Cx}{x:Str}{p pos:Pos}{e:Expr}{es:List Expr}{t:TA}{id T:String}{r:List V->Hp->VK->Prop}
end
section
variable{κ:Type} [DecidableEq κ]
def valV(kvs:List (κ×V))(k:κ):Option V:=(kvs.find? fun kv=>decide (kv.1=k)).map (·.2)
def putK(kvs:List (κ×V))(k:κ)(v:V):List (κ×V):=
 if(kvs.any fun kv=>decide (kv.1=k))=true then kvs.map (fun kv=>if kv.1=k then(kv.1,v)else kv)else kvs++[(k,v)]
theorem q7u{p:κ×V}{r:List (κ×V)}{k:κ}(e:p.1=k):valV (p::r) k=some p.2:=by simp[valV,Q2y,e]
theorem q7v{p:κ×V}{r:List (κ×V)}{k:κ}(e:¬p.1=k):valV (p::r) k=valV r k:=by simp[valV,Q2y,e]
theorem z1x(kvs:List (κ×V))(k:κ)(v:V):(putK kvs k v).length<=kvs.length+1:=by
 unfold putK
 split
 ·rw[Q0q];omega
 ·rw[Q0x,Q1k,Q4t];omega
theorem RelO.getD{o:Option V}{u:Option Q0b}{d:V}{d':Q0b}(r:RelO o u)(rd:RelV d d'):RelV (o.getD d) (u.getD d'):=by
 cases o with
 |none=>cases u with
  |none=>exact rd
  |some _=>exact(show False from r).elim
 |some _=>cases u with
  |none=>exact(show False from r).elim
  |some _=>exact r
theorem KV.val{kvs:List (κ×V)}{vs:List (κ×Q0b)}(r:KV kvs vs)(k:κ):RelO (valV kvs k) (valueAt vs k):=by
 unfold KV at r
 induction r with
 |nil=>exact Z0o
 |@cons p q ps qs h t ih=>
  obtain⟨h1,h2⟩:=h
  by_cases e:p.1=k
  ·have e':q.1=k:=h1.symm.trans e
   have b:valueAt (q::qs) k=some q.2:=by simp[valueAt,Q2y,e']
   rw[q7u e,b];exact h2
  ·have e':¬q.1=k:=fun z=>e (h1.trans z)
   have b:valueAt (q::qs) k=valueAt qs k:=by simp[valueAt,Q2y,e']
   rw[q7v e,b];exact ih
theorem KV.any{kvs:List (κ×V)}{vs:List (κ×Q0b)}(r:KV kvs vs)(k:κ):(kvs.any fun kv=>decide (kv.1=k))=vs.any fun kv=>decide (kv.1=k):=by
 unfold KV at r
 induction r with
 |nil=>rfl
 |cons h t ih=>rw[Q6g,Q6g,ih,h.1]
theorem KV.repl{kvs:List (κ×V)}{vs:List (κ×Q0b)}(r:KV kvs vs)(k:κ){y:V}{u:Q0b}(ry:RelV y u) :
  KV (kvs.map fun kv=>if kv.1=k then(kv.1,y)else kv) (vs.map fun kv=>if kv.1=k then(kv.1,u)else kv):=by
 unfold KV at r ⊢
 induction r with
 |nil=>exact .nil
 |@cons p q ps qs h t ih=>
  rw[Q0v,Q0v]
  refine .cons ?_ ih
  obtain⟨h1,h2⟩:=h
  by_cases e:p.1=k
  ·rw[if_pos e,if_pos (h1.symm.trans e)];exact⟨h1,ry⟩
  ·rw[if_neg e,if_neg (fun z=>e (h1.trans z))];exact⟨h1,h2⟩
theorem KV.put{kvs:List (κ×V)}{vs:List (κ×Q0b)}(r:KV kvs vs)(k:κ){y:V}{u:Q0b}(ry:RelV y u):KV (putK kvs k y) (stored vs k u):=by
 unfold putK stored
 rw[r.any k]
 by_cases e:(vs.any fun kv=>decide (kv.1=k))=true
 ·rw[if_pos e,if_pos e];exact r.repl k ry
 ·rw[if_neg e,if_neg e];exact Q2w.snoc r ⟨rfl,ry⟩
theorem KV.length{kvs:List (κ×V)}{vs:List (κ×Q0b)}(r:KV kvs vs):kvs.length=vs.length:=Q2w.length r
end
theorem y3m{P:Q1e}{w:Q1x}{k:Key}{u:Q0b}(r:RelV (kV k) u):(q0s P w).is k u=true:=by
 cases k with
 |inl i=>obtain⟨t,e⟩:=(show ∃t,u=Q0b.int i t from r);subst e;exact q6f P w i t
 |inr x=>obtain⟨t,e⟩:=(show ∃t,u=Q0b.str x t from r);subst e;exact q6e P w x t
theorem z0d{P:Q1e}{w:Q1x}:∀{ks:List Key}{us:List Q0b},Vals (ks.map kV) us->ItemsAre (q0s P w) ks us
 |[],_,r=>by rw[Q6b]at r;cases r;exact .nil
 |k::ks,_,r=>by
  rw[Q0v]at r
  cases r with
  |cons h t=>exact .cons (y3m h) (z0d t)
abbrev KT(H:Hp):List (List Key×V)->List (List Key×Q0u×Q0b)->Prop:=Q2w fun p q=>p.1=q.1/\H q.2.1=some (.tup (p.1.map kV))/\RelV p.2 q.2.2
theorem KT.val{H:Hp}{kvs:List (List Key×V)}{xs:List (List Key×Q0u×Q0b)}(r:KT H kvs xs)(k:List Key):RelO (valV kvs k) ((atKey xs k).map (·.2)):=by
 induction r with
 |nil=>exact Z0o
 |@cons p q ps qs h t ih=>
  obtain⟨h1,_,h2⟩:=h
  by_cases e:p.1=k
  ·have e':q.1=k:=h1.symm.trans e
   have b:atKey (q::qs) k=some q.2:=by simp[atKey,Q2y,e']
   rw[q7u e,b];exact h2
  ·have e':¬q.1=k:=fun z=>e (h1.trans z)
   have b:atKey (q::qs) k=atKey qs k:=by simp[atKey,Q2y,e']
   rw[q7v e,b];exact ih
section
variable{P:Q1e}{w:Q1x}{H:Hp}{h:Q1h}{a:Q0u}
theorem x1b{u:HO}(ok:HOk P w H h)(e:Rd H a u):q1e P w H h a u:=e.ok ok
theorem y0m{kvs:List (Key×V)}(ok:HOk P w H h)(e:Rd H a (.dK kvs)):kvs.length<=Q0l/\(a==sysModules)=false/\∃vs,KV kvs vs/\h.DictOf (q0s P w) a vs:=
 show q1e P w H h a (.dK kvs)from x1b ok e
theorem x6o{kvs:List (Key×V)}(ok:HOk P w H h)(e:H a=some (.dK kvs)):kvs.length<=Q0l/\(a==sysModules)=false/\∃vs,KV kvs vs/\h.DictOf (q0s P w) a vs:=y0m ok (.inl e)
theorem z9p{ks:List Key}(ok:HOk P w H h)(e:H a=some (.tup (ks.map kV))):(tupleKind (q0s P w)).is h ks a:=by
 obtain⟨_,its,r,o,h1,h2,n,h3⟩:=(show q1e P w H h a (.tup (ks.map kV))from ok a _ e)
 exact⟨o,its.toArray,n,h1,h2,h3,by simpa using z0d r⟩
theorem y9i{kvs:List (List Key×V)}(ok:HOk P w H h)(e:Rd H a (.dT kvs)):kvs.length<=Q0l/\(a==sysModules)=false/\
  ∃xs,KT H kvs xs/\h.DictOfH (tupleKind (q0s P w)) a xs:=by
 obtain⟨z,y,xs,r,o,es,ep,h1,h2,h3,h4,h5⟩:=(show q1e P w H h a (.dT kvs)from x1b ok e)
 refine⟨z,y,xs,r,o,es,ep,h1,h2,h3,h4,fun x hx=>?_,h5⟩
 have all:∀{l:List (List Key×V)}{m:List (List Key×Q0u×Q0b)},KT H l m->∀x∈m,(tupleKind (q0s P w)).is h x.1 x.2.1:=by
  intro l m q
  induction q with
  |nil=>intro x hx;exact nomatch hx
  |@cons p q ps qs hq t ih=>
   intro x hx
   rcases Q1b.mp hx with e|hx
   ·subst e
    exact z9p ok (by rw[<-hq.1];exact hq.2.1)
   ·exact ih x hx
 exact all r x hx
end
def DGet(H:Hp)(a:Q0u)(y:V)(r:Option V):Prop:=
 (∃kvs k,Rd H a (.dK kvs)/\y=kV k/\r=valV kvs k)\/∃kvs k b,Rd H a (.dT kvs)/\y=.ref b/\H b=some (.tup (k.map kV))/\r=valV kvs k
theorem DGet.k{H:Hp}{a:Q0u}{kvs:List (Key×V)}{k:Key}(e:H a=some (.dK kvs)):DGet H a (kV k) (valV kvs k):=.inl ⟨kvs,k,.inl e,rfl,rfl⟩
section
variable{X:Cx}{pins:List (Q0u×Obj)}{σ:St}{H:Hp}{s:Q0d}{a:Q0u}{y v:V}{u r:Q0b}{o:Option V}{A:Q1t}{E:Q0b->Q0d->Prop}
theorem Inv.big(I:Inv X pins σ H s):sysModules<s.heap.objs.size:=by
 have h:Q1y<s.heap.objs.size:=(I.mod.glob.keeps I.bk).lt
 exact Q3w (by decide) h
theorem z0t{Q:Q0b->Q0d->Prop}(hu:A.units+1<cLine)(I:Inv X pins σ H s)(g:DGet H a y (some v))(ry:RelV y u)(h:∀w' s',Inv X pins σ H s'->RelV v w'->Q w' s') :
  Q1d (model X.prog X.w) A (getItem (.ref a) u) Q E s:=by
 rcases g with⟨kvs,k,e,ey,l⟩|⟨kvs,k,b,e,ey,eb,l⟩
 ·subst ey
  obtain⟨z,hd,vs,rel,dd⟩:=y0m I.hok e
  obtain⟨w',hw,rw'⟩:=RelO.some_of (v:=v) (o:=valueAt vs k) (by rw[l];exact rel.val k)
  exact wpAny_getItem_of (y3m ry) dd.mapOf hw (h w' _ (I.tok _) rw')
 ·subst ey
  cases(show u=Q0b.ref b from ry)
  obtain⟨z,hd,xs,rel,dd⟩:=y9i I.hok e
  obtain⟨w',hw,rw'⟩:=RelO.some_of (v:=v) (o:=(atKey xs k).map (·.2)) (by rw[l];exact rel.val k)
  obtain⟨p,hp,hp2⟩:=Q2h.mp hw
  refine Z4r (Z4s hu) (z9p I.hok eb) dd hp ?_
  rw[hp2]
  exact h w' _ (I.tok _) rw'
theorem y0p{h':Q1h}{t':Nat}{ob:HO}(I:Inv X pins σ H s)(mu:Mut (H a))(hs:Q1h.SameBut a s.heap h')(he:∃q,h'.get? a=some q)(new:q1e X.prog X.w (upd H a ob) h' a ob) :
  Inv X pins σ (upd H a ob) {s with heap:=h',toks:=t' }:=
 I.write (x:=a) (e:=a) mu (.inl rfl) (fun b q hb z=>(hs.2 b hb).trans z) he new
theorem x3v{P:Q1e}{w:Q1x}{H':Hp}{h':Q1h}{kvs:List (Key×V)}{vs:List (Key×Q0b)}(z:kvs.length<=Q0l)(hd:(a==sysModules)=false)(rel:KV kvs vs)(dd:h'.DictOf (q0s P w) a vs) :
  q1e P w H' h' a (.dK kvs):=⟨z,hd,vs,rel,dd⟩
end
section
variable{X:Cx}{pins:List (Q0u×Obj)}{σ:St}{H:Hp}{s:Q0d}{a:Q0u}{kvs:List (Key×V)}{k:Key}{u:Q0b}{A:Q1t}{E:Q0b->Q0d->Prop}
end
theorem z2j{X:Cx}{pins:List (Q0u×Obj)}{σ:St}{H:Hp}{s:Q0d}{a:Q0u}{y:V}{o:Option V}(I:Inv X pins σ H s)(g:DGet H a y o):s.TypeIs (.ref a) "dict" :=by
 rcases g with⟨kvs,k,e,_,_⟩|⟨kvs,k,b,e,_,_,_⟩
 ·obtain⟨_,_,vs,_,dd⟩:=y0m I.hok e
  exact dd.typeIs
 ·obtain⟨_,_,xs,_,dd⟩:=y9i I.hok e
  exact dd.typeIs
section
variable{X:Cx}{o i e value:Expr}{pos pos' tpos:Pos}{td ty tv:TE}
end
theorem y3v{P:Q1e}{w:Q1x}{H:Hp}(h:Q1h)(hb:sysModules<h.objs.size):q1e P w H (h.push {cls:=.type "dict",data:=.dict #[]}) h.objs.size (.dK []):=
 ⟨Q1f _,beq_eq_false_iff_ne.mpr (Q4a (Q0y hb)),[],.nil,Q1h.DictOf.new h⟩
def x0g:TE:=fun _ H Q=>∀p,H p=none->Q (.ref p) (upd H p (.dK []))
section
variable{X:Cx}{pos:Pos}
theorem y2t:PE X (.Dict [] [] pos) x0g:=fun pins s σ H Q I h=>
 wpAny_Dict_empty ⟨.ref s.heap.objs.size,_,I.laid (a:=s.heap.objs.size) (o:=.dK []) (t':=s.toks) (fun _ _ q=>Q0c _ q) (Q0k _) (y3v s.heap I.big),rfl,h _ (I.hok.fresh (Q0k _))⟩
end
section
variable{X:Cx}{pins:List (Q0u×Obj)}{σ:St}{H:Hp}{s:Q0d}{a:Q0u}{y d:V}{u r:Q0b}{o:Option V}{A:Q1t}{E:Q0b->Q0d->Prop}
theorem x3w{Q:Q0b->Q0d->Prop}(hu:A.units+1<cLine)(I:Inv X pins σ H s)(g:DGet H a y o)(ry:RelV y u)(rd:RelV d r)(h:∀w' s',Inv X pins σ H s'->RelV (o.getD d) w'->Q w' s') :
  Q1d (model X.prog X.w) A (call (.builtin "dict.get") [.ref a,u,r]) Q E s:=by
 rcases g with⟨kvs,k,e,ey,l⟩|⟨kvs,k,b,e,ey,eb,l⟩
 ·subst ey
  obtain⟨z,hd,vs,rel,dd⟩:=y0m I.hok e
  refine Z0f Z0p dd.typeIs Z0g (Q9y _ _ _) (meets_dict_get_default (q0s X.prog X.w) a (y3m ry) hd r) ⟨_,dd.mapOf,h _ _ (I.tok _) ?_⟩
  rw[l]
  exact(rel.val k).getD rd
 ·subst ey
  cases(show u=Q0b.ref b from ry)
  obtain⟨z,hd,xs,rel,dd⟩:=y9i I.hok e
  refine Z0f Z0p dd.typeIs Z0g (Q9y _ _ _) (meetsH_dict_get_default (tupleKind (q0s X.prog X.w)) a b hd r) ⟨Z4s hu,k,xs,z9p I.hok eb,dd,h _ _ (I.tok _) ?_⟩
  rw[l]
  exact(rel.val k).getD rd
end
section
variable{X:Cx}{o e f:Expr}{apos cpos:Pos}{td ty tx:TE}
end
section
variable{X:Cx}{pins:List (Q0u×Obj)}{σ:St}{H:Hp}{s:Q0d}{a:Q0u}{kvs:List (Key×V)}{A:Q1t}{E:Q0b->Q0d->Prop}
end
section
variable{X:Cx}{pins:List (Q0u×Obj)}{σ:St}{H:Hp}{s:Q0d}{a:Q0u}{y:V}{u:Q0b}{A:Q1t}{E:Q0b->Q0d->Prop}
end
end L2
namespace Att
open PySem PySem.W PySem.Calls PyProof.Rows
section
variable{prog:Q1e}{w:Q1x}{A:Q1t}{E:Q0b->Q0d->Prop}{s:Q0d}{K:Q2p}
end
end Att
namespace L2
open PySem PySem.Spec PyProof.Rows
section
variable{P:Q1e}{w:Q1x}{K:Q2p}{mg:Str->Option Q0b}{base:Q1h}
end
section
variable{X:Cx}
end
section
variable{κ:Type} [DecidableEq κ]
end
theorem z0z(env:Env):∀(names:List (Str×Q5h))(acc:List (Str×Q0u)),
  (∀p∈names,p.2=.free->∃c,env.cells.lookup p.1=some c)->
  (∀x c,acc.lookup x=some c->env.cells.lookup x=some c)->
  ∃cl,(forIn names acc (fun(x:Str×Q5h) cs=>
    (if (x.2==Q5h.free)=true then (do let a <-cellOf env x.1;pure (Q3l ((x.1,a)::cs)))else pure (Q3l cs))):Sem (List (Str×Q0u)))=pure cl/\
   (∀x c,cl.lookup x=some c->env.cells.lookup x=some c)/\
   (∀x,(names.lookup x=some .free\/(acc.lookup x).isSome=true)->∃c,cl.lookup x=some c):=by
 intro names
 induction names with
 |nil=>
  intro acc _ ha
  refine⟨acc,rfl,ha,fun x hx=>?_⟩
  rcases hx with hx|hx
  ·simp at hx
  ·exact Q9w.mp hx
 |cons p r ih=>
  intro acc hf ha
  obtain⟨n,k⟩:=p
  have hr:∀p∈r,p.2=.free->∃c,env.cells.lookup p.1=some c:=fun p hp=>hf p (Q2d _ hp)
  by_cases hk:k=.free
  ·subst hk
   obtain⟨c,hc⟩:=hf (n,.free) Q4o rfl
   obtain⟨cl,h1,h2,h3⟩:=ih ((n,c)::acc) hr (fun x c' e=>by
    rw [Q2s]at e
    cases hx:x==n with
    |true=>
     rw [hx]at e
     have:=Z5x hx
     subst this
     cases e
     exact hc
    |false=>rw [hx]at e;exact ha x c' e)
   refine⟨cl,?_,h2,fun x hx=>h3 x ?_⟩
   ·rw[Q4u]
    have:cellOf env n=pure c:=by unfold cellOf;rw[hc]
    simp only[beq_self_eq_true,if_true,this]
    exact h1
   ·rcases hx with hx|hx
    ·rw[Q2s]at hx
     cases hq:x==n with
     |true=>right;rw[Q2s,hq];rfl
     |false=>rw[hq]at hx;exact .inl hx
    ·right
     rw[Q2s]
     cases hq:x==n with
     |true=>rfl
     |false=>exact hx
  ·have hb:(k==Q5h.free)=false:=by simpa using hk
   obtain⟨cl,h1,h2,h3⟩:=ih acc hr ha
   refine⟨cl,?_,h2,fun x hx=>h3 x ?_⟩
   ·rw[Q4u]
    simp only[hb,Q1j,if_false]
    exact h1
   ·rcases hx with hx|hx
    ·rw[Q2s]at hx
     cases hq:x==n with
     |true=>rw[hq]at hx;cases hx;exact absurd rfl hk
     |false=>rw[hq]at hx;exact .inl hx
    ·exact .inr hx
theorem q5f{scope:Q5b}{env:Env}(hf:∀p∈scope.names,p.2=.free->∃c,env.cells.lookup p.1=some c) :
  ∃cl,closureFor scope env=pure cl/\(∀x c,cl.lookup x=some c->env.cells.lookup x=some c)/\(∀x,scope.names.lookup x=some .free->∃c,cl.lookup x=some c):=by
 obtain⟨cl,h1,h2,h3⟩:=z0z env scope.names [] hf (fun _ _ e=>by simp at e)
 refine⟨cl,?_,h2,fun x hx=>h3 x (.inl hx)⟩
 unfold closureFor
 simp only[]
 have:((forIn scope.names ([]:List (Str×Q0u)) (fun(x:Str×Q5h) cs=>
    (if (x.2==Q5h.free)=true then (do let a <-cellOf env x.1;pure (Q3l ((x.1,a)::cs)))else pure (Q3l cs))):Sem (List (Str×Q0u))) >>= fun r=>pure r)=pure cl:=by
  rw[h1];rfl
 exact this
def IxOk(N:List Str)(around:Q5b)(scope:Q5b):List Str->List (Option Nat)->Prop
 |[],[]=>True
 |y::r,some j::t=>(N[j]?=some y/\scope.names.lookup y=some .free/\(around.names.lookup y=some .cell\/around.names.lookup y=some .free))/\IxOk N around scope r t
 |_::r,none::t=>IxOk N around scope r t
 |_,_=>False
theorem IxOk.at{N:List Str}{around scope:Q5b}:∀{N':List Str}{ix:List (Option Nat)},IxOk N around scope N' ix->∀(i:Nat)(y:Str)(j:Nat),N'[i]?=some y->ix[i]?=some (some j)->
  N[j]?=some y/\scope.names.lookup y=some .free/\(around.names.lookup y=some .cell\/around.names.lookup y=some .free)
 |[],_,_,i,y,j,e,_=>by simp at e
 |_::_,[],h,_,_,_,_,_=>h.elim
 |y'::r,some j'::t,h,0,y,j,e,e'=>by
  simp at e e'
  subst e e'
  exact h.1
 |y'::r,some j'::t,h,i+1,y,j,e,e'=>IxOk.at (N':=r) (ix:=t) h.2 i y j (by simpa using e) (by simpa using e')
 |y'::r,none::t,h,0,y,j,e,e'=>by simp at e'
 |y'::r,none::t,h,i+1,y,j,e,e'=>IxOk.at (N':=r) (ix:=t) h i y j (by simpa using e) (by simpa using e')
theorem IxOk.len{N:List Str}{around scope:Q5b}:∀{N':List Str}{ix:List (Option Nat)},IxOk N around scope N' ix->ix.length=N'.length
 |[],[],_=>rfl
 |[],_::_,h=>h.elim
 |_::_,[],h=>h.elim
 |_::r,some _::t,h=>by simp[IxOk.len (N':=r) (ix:=t) h.2]
 |_::r,none::t,h=>by simp[IxOk.len (N':=r) (ix:=t) h]
def q1m(ix:List (Option Nat))(σ:St):St:=ix.map fun o=>match o with
 |none=>none
 |some j=>match σ[j]? with
  |some v=>v
  |none=>none
structure CompOk(X:Cx)(scope:Q5b)(N':List Str)(ix:List (Option Nat)):Prop where
 kind:scope.kind=.function
 cell:∀y∈scope.names,y.2≠.cell
 names:∀y∈scope.names,y.2=.local->scope.names.lookup y.1=some .local
 free:∀y∈scope.names,y.2=.free->X.env.scope.names.lookup y.1=some .cell\/X.env.scope.names.lookup y.1=some .free
 ixs:IxOk X.N X.env.scope scope N' ix
def Cx.comp(X:Cx)(scope:Q5b)(N':List Str)(cl:List (Str×Q0u))(C:Q0u)(s:Q0d)(H:Hp)(fp:List Q0u):Cx where
 prog:=X.prog
 w:=X.w
 K:=X.K
 mg:=X.mg
 base:=X.base
 A:=X.A
 N:=N'
 s₀:=s
 H₀:=H
 env:=compEnvC scope cl C X.env
 outer:=X.stack
 stack:=X.stack
 ex:=fp
 fn:=fun _=>false
 calm:=true
 pn:=[]
 xe:=fun _ _=>False
theorem q6s{env:Env}{scope:Q5b}{x:Str}{k:Q5h}:(relabel scope env).names.lookup x=some k->k=.cell\/k=.free->(∀y∈scope.names,y.2≠.cell)->scope.names.lookup x=some .free:=by
 unfold relabel
 dsimp only
 generalize scope.names=names
 intro h hk hc
 induction names with
 |nil=>simp at h
 |cons p r ih=>
  obtain⟨n,k'⟩:=p
  rw[Q0v,Q2s]at h
  rw[Q2s]
  by_cases hf:k'=.free
  ·subst hf
   cases hq:x==n with
   |true=>rfl
   |false=>
    refine ih ?_ fun y hy=>hc y (Q2d _ hy)
    split at h
    ·rename_i hh;simp only[hq]at hh;split at hh<;>exact absurd hh (by simp[hq])
    ·exact h
  ·have hb:(k' == Q5h.free)=false:=by simpa using hf
   simp only[hb,Z4e,Q1j,if_false]at h
   cases hq:x==n with
   |true=>
    rw[hq]at h
    simp only[Q2l.injEq]at h
    subst h
    rcases hk with hk|hk
    ·exact absurd hk (hc (n,k') Q4o)
    ·exact absurd hk hf
   |false=>
    rw[hq]at h
    exact ih h fun y hy=>hc y (Q2d _ hy)
theorem q9n{env:Env}{scope:Q5b}{x:Str}(h:scope.names.lookup x=some .free):(relabel scope env).names.lookup x=some .cell\/(relabel scope env).names.lookup x=some .free:=by
 unfold relabel
 dsimp only
 generalize scope.names=names at h
 induction names with
 |nil=>simp at h
 |cons p r ih=>
  obtain⟨n,k'⟩:=p
  rw[Q2s]at h
  rw[Q0v]
  cases hq:x==n with
  |true=>
   rw[hq]at h
   simp only[Q2l.injEq]at h
   subst h
   by_cases hc:(env.scope.kind==Z0v&&env.kindOf n==some Q5h.cell)=true
   ·left
    simp only[beq_self_eq_true,Z0w,hc,if_true,Q2s,hq]
   ·right
    simp only[beq_self_eq_true,Z0w,hc,Q1j,if_false,Q2s,hq]
  |false=>
   rw[hq]at h
   have:=ih h
   by_cases hc:(k' == Q5h.free&&env.scope.kind==Z0v&&env.kindOf n==some Q5h.cell)=true
   ·simp only[hc,if_true,Q2s,hq];exact this
   ·simp only[hc,Q1j,if_false,Q2s,hq];exact this
section
variable{X:Cx}{pins:List (Q0u×Obj)}{σ:St}{H:Hp}{s:Q0d}
theorem Inv.track{D:Q0u}{its:List Q0b}{n:Nat}{ys:List V}(I:Inv X pins σ H s)(hn:H D=none)(hL:D≠X.env.locals)(h1:X.s₀.heap.objs.size<=D)
  (h2:∀x c,X.env.cells.lookup x=some c->c≠D) (h3:∀p∈X.pn++pins,p.1≠D) (ho:s.heap.get? D=some {cls:=.type "list",data:=.seq its.toArray n}) (r:Vals ys its) (hz:ys.length<=Q0l) :
  Inv X pins σ (upd H D (.lst ys)) s:=by
 have ne:∀b u,H b=some u->b≠D:=fun b u e z=>by rw[z,hn]at e;cases e
 have ne0:∀b o,X.s₀.heap.get? b=some o->b≠D:=fun b o e=>Q0y (Q1a (Q0m e) h1)
 refine⟨I.ok,I.os,I.bare,⟨I.base.keep,I.base.slot,fun b o e n' hx=>?_,I.base.there,fun b xs e=>?_,fun b o u e=>?_,fun b ps e=>?_⟩,I.loc,I.cell,?_,fun x c e=>?_,fun p hp=>?_,fun b u e=>?_,I.len⟩
 ·rw[q0g (ne0 b o e)];exact I.base.free b o e n' hx
 ·have q:=I.base.tups b xs e
  rw[q0g (ne _ _ q)];exact q
 ·have q:=I.base.frzs b o u e
  rw[q0g (ne _ _ q)];exact q
 ·obtain⟨more,q⟩:=I.base.tbls b ps e
  exact⟨more,by rw[q0g (ne _ _ q)];exact q⟩
 ·rw[q0g (Q4a hL)];exact I.free
 ·rw[q0g (h2 x c e)];exact I.freeC x c e
 ·obtain⟨a1,a2,a3⟩:=I.pin p hp
  exact⟨a1,by rw[q0g (h3 p hp)];exact a2,a3⟩
 ·by_cases hb:b=D
  ·subst hb
   rw[q0u]at e
   cases e
   exact⟨hz,its,n,r,ho⟩
  ·rw[q0g hb]at e
   refine(I.hok b u e).stay (fun c v hc q=>q) (fun c q=>?_) fun c xs q=>?_
   ·rw[q0g (ne _ _ q)];exact q
   ·rw[q0g (ne _ _ q)];exact q
theorem Inv.comp{scope:Q5b}{N':List Str}{ix:List (Option Nat)}{cl:List (Str×Q0u)}{C:Q0u}{fp:List Q0u}{h':Q1h}{t':Nat}(I:Inv X pins σ H s)(co:CompOk X scope N' ix)
  (hcl1:∀x c,cl.lookup x=some c->X.env.cells.lookup x=some c) (hcl2:∀x,scope.names.lookup x=some .free->∃c,cl.lookup x=some c) (hc:X.calm=true)
  (hC:s.heap.objs.size<=C) (hns:h'.Ns C fun _=>none) (hk:∀b o,s.heap.get? b=some o->h'.get? b=some o) (hf:∀b∈fp,FpOk X pins H b) (hfz:∀b∈fp,b<s.heap.objs.size) :
  Inv (X.comp scope N' cl C s H fp) [] (q1m ix σ) H {s with heap:=h',toks:=t' }:=by
 have lookK:∀x k,(compEnvC scope cl C X.env).kindOf x=some k->k=.cell\/k=.free->scope.names.lookup x=some .free:=fun x k e hk'=>q6s (env:=X.env) e hk' co.cell
 have ok:(X.comp scope N' cl C s H fp).Ok:=by
  refine⟨I.ok.mod,co.kind,I.ok.glob,I.ok.blt,hC,fun x y c e1 e2=>I.ok.inj x y c (hcl1 x c e1) (hcl1 y c e2),fun x hx=>?_,fun x c e=>(by cases e),fun _=>I.ok.hd hc,I.ok.frames,.inl rfl,fun b hb=>⟨?_,fun x c e=>?_⟩,I.bs,?_,fun b o e hb=>?_,fun b hb z=>?_,I.stack,I.stkFree⟩
  ·refine hcl2 x ?_
   rcases hx with e|e
   ·exact lookK x _ e (.inl rfl)
   ·exact lookK x _ e (.inr rfl)
  ·exact Q0y (Q1a (hfz b hb) hC)
  ·exact(hf b hb).2.2.2.2.1 x c (hcl1 x c e)
  ·exact Q1l I.ok.bsz I.sz
  ·rcases(hf b hb).2.2.2.1 with z|z
   ·exact I.ok.noex b o e z
   ·exact absurd (Q1a (Q0m (I.ok.bs b o e).1) z) (Q3n _)
  ·rcases Q1b.mp (I.stkSub b z)with q|q
   ·exact(hf b hb).2.1 q
   ·exact(hf b hb).2.2.1 q
 refine⟨ok,rfl,I.bare,Un.kept hk,⟨_,hns,fun i y v e1 e2 e3=>?_⟩,fun x c e=>?_,?_,fun x c e=>I.freeC x c (hcl1 x c e),(fun p hp=>by cases hp),I.hok.kept hk,?_⟩
 ·-- a name of the frame around
  have e1':N'[i]?=some y:=e1
  have e2':(q1m ix σ)[i]?=some (some v):=e2
  unfold q1m at e2'
  rw[Q1z]at e2'
  cases hix:ix[i]? with
  |none=>rw[hix]at e2';cases e2'
  |some o=>
   rw[hix]at e2'
   cases o with
   |none=>cases e2'
   |some j=>
    have hj:σ[j]?=some (some v):=by
     cases hs:σ[j]? with
     |none=>simp only[Q9l,hs]at e2';cases e2'
     |some o=>
      simp only[Q9l,hs,Q2l.injEq]at e2'
      rw[e2']
    obtain⟨a1,a2,a3⟩:=co.ixs.at i y j e1' hix
    obtain⟨m,hm,hl⟩:=I.loc
    obtain⟨u,r,l⟩:=hl j y v a1 hj (by rcases a3 with z|z;exact .inr (.inl z);exact .inr (.inr z))
    refine⟨u,r,.inr ⟨q9n a2,?_⟩⟩
    obtain⟨c,hc'⟩:=hcl2 y a2
    refine⟨c,hc',?_⟩
    rcases l with⟨z,_⟩|⟨_,c',e',o,ho,hd⟩
    ·have z':X.env.scope.names.lookup y=some .local:=z
     rcases a3 with q|q<;>rw[z']at q<;>cases q
    ·have:c'=c:=Q2j (e'.symm.trans (hcl1 y c hc'))
     subst this
     exact⟨o,hk _ _ ho,hd⟩
 ·obtain⟨v,o,ho,hd⟩:=I.cell x c (hcl1 x c e)
  exact⟨v,o,hk _ _ ho,hd⟩
 ·exact I.hok.fresh hC
 ·show(q1m ix σ).length=N'.length
  unfold q1m
  rw[Q0q]
  exact co.ixs.len
end
def z4h(J:It)(g:TG)(tc:TT)(te:TE)(Q:VK)(σ₀:St)(H1:Hp):Prop:=∃(W:Nat->List V->St->Hp->Prop)(n:Nat),n<=Q0l/\W 0 [] σ₀ H1/\∀i ys σ H,i<=n->W i ys σ H->
 (J.stop i H/\∀p,H p=none->Q (.ref p) (upd H p (.lst ys)))\/(i<n/\J.go i H/\∀x H',J.yld i H x H'->g x σ H' fun σ2 H2=>tc σ2 H2 fun b H3=>if b=true then te σ2 H3 fun y H4=>W (i+1) (ys++[y]) σ2 H4 else W (i+1) ys σ2 H3)
def z1j(wi:TI)(ix:List (Option Nat))(g:TG)(tc:TT)(te:TE):TE:=fun σ H Q=>wi σ H fun J H1=>z4h J g tc te Q (q1m ix σ) H1
section
variable{X:Cx}{tg iter elt c:Expr}{scope:Q5b}{pos:Pos}{N':List Str}{ix:List (Option Nat)}{wi:TI}{g:TG}{te:TE}{tc:TT}
structure CompMid(X:Cx)(scope:Q5b)(N':List Str)(cl:List (Str×Q0u))(C D:Q0u)(s₂:Q0d)(H₂:Hp)(fp:List Q0u)(tn:Nat->Q1h->Prop)(W:Nat->List V->St->Hp->Prop)(i:Nat)(ys:List V)(σ':St)(H':Hp)(s':Q0d):Prop where
 inv:∃us:List Q0b,Vals ys us/\Inv (X.comp scope N' cl C s₂ H₂ fp) [(D,{cls:=.type "list",data:=.seq us.toArray us.length})] σ' H' s'
 tn:tn i s'.heap
 fpn:∀b∈fp,H' b=none
 len:ys.length<=i
 w:W i ys σ' H'
theorem z4a{pins:List (Q0u×Obj)}{σ:St}{H₂:Hp}{s₂:Q0d}{cl:List (Str×Q0u)}{C D:Q0u}{fp:List Q0u}{Q:VK}{ys:List V}{us:List Q0b}{σ':St}{H':Hp}{s':Q0d}
  (I₂:Inv X pins σ H₂ s₂) (f2:∀b∈fp,FpOk X pins H₂ b) (hD:s₂.heap.objs.size<=D) (hC:s₂.heap.objs.size<=C) (hDC:D≠C) (r:Vals ys us)
  (I':Inv (X.comp scope N' cl C s₂ H₂ fp) [(D,{cls:=.type "list",data:=.seq us.toArray us.length})] σ' H' s') (hz:ys.length<=Q0l) (q:∀p,H' p=none->Q (.ref p) (upd H' p (.lst ys))) :
  ∃m,s'.heap.Ns C m/\∀h',Q1h.SameBut C s'.heap h'->EP X pins σ Q (.ref D) {s' with heap:=h' }:=by
 obtain⟨m,hm,_⟩:=I'.loc
 refine⟨m,hm,fun h' sb=>?_⟩
 have new:∀a,s₂.heap.objs.size<=a->a≠X.env.locals/\X.s₀.heap.objs.size<=a/\(∀x c,X.env.cells.lookup x=some c->c≠a)/\∀p∈X.pn++pins,p.1≠a:=fun a ha=>by
  refine⟨Q1s (Q1a I₂.lt ha),Q1l I₂.sz ha,fun x c e=>?_,fun p hp=>?_⟩
  ·obtain⟨v,o,ho,_⟩:=I₂.cell x c e
   exact Q0y (Q1a (Q0m ho) ha)
  ·exact Q0y (Q1a (Q0m (I₂.pin p hp).1) ha)
 have I3:Inv X pins σ H' s':=I₂.call' I'.os I'.base I'.hok I'.bare fun b hb=>⟨(f2 b hb).2.2.2.1,(f2 b hb).2.1,(f2 b hb).2.2.2.2.1,(f2 b hb).2.2.2.2.2⟩
 obtain⟨eD,nD,_,_,_⟩:=I'.pin (D,{cls:=.type "list",data:=.seq us.toArray us.length}) (by simp)
 obtain⟨c1,c2,c3,c4⟩:=new C hC
 have I4:Inv X pins σ H' {s' with heap:=h' }:=I3.turned (t':=s'.toks) (it:=C) (fun b o hb e=>(sb.2 b hb).trans e) I'.free c1 (.inr c2) c3 c4
 obtain⟨d1,d2,d3,d4⟩:=new D hD
 have I5:=I4.track (D:=D) (ys:=ys) nD d1 d2 d3 d4 ((sb.2 D hDC).trans eD) r hz
 exact⟨.ref D,_,I5,rfl,q D nD⟩
theorem z4b{H₂:Hp}{s₂:Q0d}{cl:List (Str×Q0u)}{C D:Q0u}{fp:List Q0u}{ys:List V}{us:List Q0b}{σ':St}{H':Hp}{s':Q0d}{pl:List (Q0u×Obj)}{y:V}{u:Q0b}{Q:Q0b->Q0d->Prop}{E:Q0b->Q0d->Prop}
  (hD:s₂.heap.objs.size<=D) (hDC:D≠C) (hcl:∀x c,cl.lookup x=some c->c≠D) (r:Vals ys us) (ry:RelV y u) (hz:ys.length<Q0l)
  (I':Inv (X.comp scope N' cl C s₂ H₂ fp) ([(D,{cls:=.type "list",data:=.seq us.toArray us.length})]++pl) σ' H' s') (hp:∀p∈pl,p.1≠D)
  (h:∀s'',Inv (X.comp scope N' cl C s₂ H₂ fp) ([(D,{cls:=.type "list",data:=.seq (us++[u]).toArray (us++[u]).length})]++pl) σ' H' s''->Q .none s'') :
  Q1d (model X.prog X.w) X.A (call (.builtin "list.append") [.ref D,u]) Q E s':=by
 obtain⟨eD,nD,neD,nfD,ndD⟩:=I'.pin (D,{cls:=.type "list",data:=.seq us.toArray us.length}) (by simp)
 refine append_at eD (fun h₅ hs₅ hD₅=>h _ ?_) (by simp only[Q0g];rw[<-r.length];exact Q6t hz)
 have I1:Inv (X.comp scope N' cl C s₂ H₂ fp) pl σ' H' s':=I'.pins_of fun p hp'=>I'.pin p (Q0t _ (Q0t _ hp'))
 have I2:Inv (X.comp scope N' cl C s₂ H₂ fp) pl σ' H' {s' with heap:=h₅}:=I1.turned (t':=s'.toks) (it:=D) (fun b o hb e=>(hs₅.2 b hb).trans e) nD neD (.inr hD) hcl (fun p hp'=>hp p (by simpa[Cx.comp]using hp'))
 refine I2.pins_of fun p hp'=>?_
 rcases Q0n.mp hp' with z|z
 ·obtain rfl:=Q0i.mp z
  refine⟨?_,nD,neD,nfD,fun v z=>by cases z⟩
  rw[hD₅,Q0x,Q3c,List.push_toArray]
 ·exact I2.pin p (Q0t _ z)
end
section
variable{X:Cx}{tg iter elt c:Expr}{scope:Q5b}{pos:Pos}{N':List Str}{ix:List (Option Nat)}{wi:TI}{g:TG}{te:TE}{tc:TT}
theorem z0y{pins:List (Q0u×Obj)}{σ:St}{H₂:Hp}{s₂:Q0d}{cl:List (Str×Q0u)}{C D:Q0u}{fp:List Q0u}{ys:List V}{us:List Q0b}{σ':St}{H':Hp}{s':Q0d}{i:Nat}{x:Str}{py:Pos}{Q:Q0b->Q0d->Prop}
  (hN:X.N.Nodup) (hi:X.N[i]?=some x) (hx:Loc X.env.scope x) (hf:X.fn x=true\/X.env.scope.names.lookup x=some .local)
  (I₂:Inv X pins σ H₂ s₂) (f2:∀b∈fp,FpOk X pins H₂ b) (hD:s₂.heap.objs.size<=D) (hC:s₂.heap.objs.size<=C) (hDC:D≠C) (r:Vals ys us)
  (I':Inv (X.comp scope N' cl C s₂ H₂ fp) [(D,{cls:=.type "list",data:=.seq us.toArray us.length})] σ' H' s') (hz:ys.length<=Q0l)
  (q:∀s'',Inv X pins (σ.set i (some (.ref D))) (upd H' D (.lst ys)) s''->H' D=none->Q .none s'') :
  Q1d (model X.prog X.w) X.A (assign (.Name x py) X.env (.ref D)) (fun _ s''=>∃m,s''.heap.Ns C m/\∀h',Q1h.SameBut C s''.heap h'->Q .none {s'' with heap:=h' }) X.xe s':=by
 obtain⟨m,hm,_⟩:=I'.loc
 have new:∀a,s₂.heap.objs.size<=a->a≠X.env.locals/\X.s₀.heap.objs.size<=a/\(∀x c,X.env.cells.lookup x=some c->c≠a)/\∀p∈X.pn++pins,p.1≠a:=fun a ha=>by
  refine⟨Q1s (Q1a I₂.lt ha),Q1l I₂.sz ha,fun x c e=>?_,fun p hp=>?_⟩
  ·obtain⟨v,o,ho,_⟩:=I₂.cell x c e
   exact Q0y (Q1a (Q0m ho) ha)
  ·exact Q0y (Q1a (Q0m (I₂.pin p hp).1) ha)
 have I3:Inv X pins σ H' s':=I₂.call' I'.os I'.base I'.hok I'.bare fun b hb=>⟨(f2 b hb).2.2.2.1,(f2 b hb).2.1,(f2 b hb).2.2.2.2.1,(f2 b hb).2.2.2.2.2⟩
 obtain⟨eD,nD,_,_,_⟩:=I'.pin (D,{cls:=.type "list",data:=.seq us.toArray us.length}) (by simp)
 obtain⟨c1,c2,c3,c4⟩:=new C hC
 obtain⟨d1,d2,d3,d4⟩:=new D hD
 have I5:=I3.track (D:=D) (ys:=ys) nD d1 d2 d3 d4 eD r hz
 refine Z4y (q9i I5 hN hi hx (v:=.ref D) rfl (fun s'' I'' ⟨a,sb,ha⟩=>?_) hf)
 have haC:a≠C:=by
  rcases ha with rfl|ha
  ·exact c1.symm
  ·exact c3 _ _ ha
 refine⟨m,hm.sameBut sb haC.symm,fun h' sb'=>q _ ?_ nD⟩
 exact I''.turned (t':=s''.toks) (it:=C) (fun b o hb e=>(sb'.2 b hb).trans e) (by rw[q0g hDC.symm];exact I'.free) c1 (.inr c2) c3 c4
theorem y3k{prog:Q1e}{w:Q1x}{A:Q1t}{s:Q0d}{elt target iter:Expr}{ifs:List Expr}{scope:Q5b}{pos:Pos}{it acc:Q0b}{env:Env}{R:Z4o->Q0d->Prop}(I:Nat->Q0d->Prop)
  (turn:∀n s,I n s->Q1d (model prog w) A (pyNext it) (fun r s₁=>match r with
   |none=>R (.ok .next) s₁
   |some v=>Q1d (model prog w) A (letOwnedTupleGo target it v) (fun _ s₀=>Q1d (model prog w) A (assign target env v) (fun _ s₂=>
     Q1d (model prog w) A (forIn ifs true fun c r=>if r=true then do let ok <-isTrue c env (eval c env);pure (Q3l ok)else pure (Q3l r)) (fun ok s₃=>if ok=true then Q1d (model prog w) A (eval elt env) (fun x s₄=>
      Q1d (model prog w) A (call (.builtin "list.append") [acc,x]) (fun _ s₅=>∃m,m<n/\I m s₅) (notedBy (model prog w) A env fun e s'=>R (.error e) s') s₄) (notedBy (model prog w) A env fun e s'=>R (.error e) s') s₃
      else ∃m,m<n/\I m s₃) (notedBy (model prog w) A env fun e s'=>R (.error e) s') s₂)
     (notedBy (model prog w) A env fun e s'=>R (.error e) s') s₀) (notedBy (model prog w) A env fun e s'=>R (.error e) s') s₁) (notedBy (model prog w) A env fun e s'=>R (.error e) s') s)
  (n:Nat) (h:I n s):codeAny (model prog w) A (.compLoop (.ListComp elt [⟨target,iter,ifs,0⟩] scope pos) 0 it acc env) R s:=by
 refine Z3k rfl I (fun n s hI=>?_) n h
 show Q1d _ A ((compTurn (.ListComp elt [⟨target,iter,ifs,0⟩] scope pos) 0 it acc env).onRaise (fun x=>do noteFrame x env;theTreesLotGoes x)) _ _ s
 refine Z4g ?_
 rw[compTurn_list]
 refine Q0a (Q4p (Q0a (Q1p (turn n s hI) (fun r s₁ h₁=>?_) fun _ _ h'=>h')))
 cases r with
 |none=>exact Q0f h₁
 |some v=>
  refine Q0a (Q1p h₁ (fun _ s₀ h₀'=>?_) fun _ _ h'=>h')
  refine Q0a (Q1p h₀' (fun _ s₂ h₂=>?_) fun _ _ h'=>h')
  refine Q0a (Q1p h₂ (fun okb s₃ h₃=>?_) fun _ _ h'=>h')
  cases okb with
  |false=>exact Q0f ⟨rfl,h₃⟩
  |true=>exact Q0a (Q0a (Q1p h₃ (fun x s₄ h₄=>Q0a (Q1p h₄ (fun _ s₅ h₅=>Q0f (Q0f ⟨rfl,h₅⟩)) fun _ _ h'=>h')) fun _ _ h'=>h'))
def PTs(X:Cx)(ifs:List Expr)(t:TT):Prop:=
 ∀(pins:List (Q0u×Obj))(s:Q0d)(σ:St)(H:Hp)(Q:Bool->Hp->Prop),Inv X pins σ H s->t σ H Q->Q1d (model X.prog X.w) X.A (forIn ifs true fun c r=>if r=true then do let ok <-isTrue c X.env (eval c X.env);pure (Q3l ok)else pure (Q3l r)) (TP X pins σ Q) X.xe s
theorem z7u(h:PT X c tc):PTs X [c] tc:=fun pins s σ H Q I q=>wpAny_tests_one (h pins s σ H Q I q)
theorem z7v(h:∀σ H Q,tc σ H Q->Q true H):PTs X [] tc:=fun pins s σ H Q I q=>wpAny_tests_nil ⟨H,I,h σ H Q q⟩
theorem z0x{ifs:List Expr}{use:Option (Q0b->Sem Unit)}{Qf:Q0b->Q0d->Prop}{pins:List (Q0u×Obj)}{s:Q0d}{σ:St}{H:Hp}{ps:Pos}(hc:X.calm=true)(co:CompOk X scope N' ix)(hi:PI X tg iter wi)(hg:∀cl C s H fp,PG (X.comp scope N' cl C s H fp) tg g)(ht:∀cl C s H fp,PTs (X.comp scope N' cl C s H fp) ifs tc)(he:∀cl C s H fp,PE (X.comp scope N' cl C s H fp) elt te)
  (hs:∀x,foldedSetIterable iter X.env x=pure x:=by intro _;rfl)
  (I:Inv X pins σ H s) (h:wi σ H fun J H1=>∃Q:VK,z4h J g tc te Q (q1m ix σ) H1/\∀{H₂:Hp}{s₂:Q0d}{cl:List (Str×Q0u)}{C D:Q0u}{fp:List Q0u}{ys:List V}{us:List Q0b}{σ':St}{H':Hp}{s':Q0d},Inv X pins σ H₂ s₂->(∀b∈fp,FpOk X pins H₂ b)->s₂.heap.objs.size<=D->s₂.heap.objs.size<=C->D≠C->Vals ys us->
   Inv (X.comp scope N' cl C s₂ H₂ fp) [(D,{cls:=.type "list",data:=.seq us.toArray us.length})] σ' H' s'->ys.length<=Q0l->(∀p,H' p=none->Q (.ref p) (upd H' p (.lst ys)))->compPost (model X.prog X.w) X.A X.xe use Qf (.ref D) C (.ok .next) s') :
  Q1d (model X.prog X.w) X.A (comprehension (.ListComp elt [⟨tg,iter,ifs,0⟩] scope pos) scope X.env ps (newList []) false (eval iter X.env) use) Qf X.xe s:=by
 obtain⟨cl,hclos,hcl1,hcl2⟩:=q5f (scope:=scope) (env:=X.env) fun p hp e=>by
  rcases co.free p hp e with z|z
  ·exact I.ok.has p.1 (.inl z)
  ·exact I.ok.has p.1 (.inr z)
 refine Z2a (use:=use) rfl hs hclos co.kind co.names (thn (hi pins s σ H _ I h) fun v s1 h1=>thn h1 fun itv s₂ h2=>?_)
 obtain⟨it,fp,tn,J,H₂,rfl,I₂,T,st2,f2,Q,⟨W,n,hn,w0,turn⟩,fin⟩:=h2
 refine Q2k (Z3v co.cell (by intro y hy;simp at hy) (fun h₁ hns₁ hsb₁=>?_) co.kind)
 dsimp only at hns₁ hsb₁ ⊢
 generalize hH2:s₂.heap.push {cls:=.type "list",dict:=none,data:=.seq ([]:List Q0b).toArray}=H2 at hns₁ hsb₁ ⊢
 have hC:H2.objs.size=s₂.heap.objs.size+1:=by rw[<-hH2,Q1h.size_push]
 have hCle:s₂.heap.objs.size<=H2.objs.size:=by omega
 have hDC:s₂.heap.objs.size≠H2.objs.size:=by omega
 have old:∀b o,s₂.heap.get? b=some o->h₁.get? b=some o:=fun b o e=>hsb₁.extBut b o (Q0y (by rw[hC];exact Q7e (Q0m e))) (Q0c _ (hH2▸Q0c _ e))
 have hacc:h₁.get? s₂.heap.objs.size=some {cls:=.type "list",data:=.seq ([]:List Q0b).toArray}:=hsb₁.extBut _ _ hDC (Q0c _ (hH2▸Q0w _ rfl))
 have hfz:∀b∈fp,b<s₂.heap.objs.size:=fun b hb=>by
  obtain⟨o,e,_⟩:=T.obj _ _ st2 b hb
  exact Q0m e
 have hclD:∀x c,cl.lookup x=some c->c≠s₂.heap.objs.size:=fun x c e=>by
  obtain⟨v,o,ho,_⟩:=I₂.cell x c (hcl1 x c e)
  exact Q0y (Q0m ho)
 have st0:tn 0 h₁:=T.keep _ _ _ st2 fun b hb o e=>old b o e
 have loop:∀s₃:Q0d,s₃={s₂ with heap:=h₁,toks:=s₂.toks+([]:List (Str×Q0b)).length}->
   codeAny (model X.prog X.w) X.A (.compLoop (.ListComp elt [⟨tg,iter,ifs,0⟩] scope pos) 0 (.ref it) (.ref s₂.heap.objs.size) (compEnvC scope cl H2.objs.size X.env))
    (compPost (model X.prog X.w) X.A X.xe use Qf (.ref s₂.heap.objs.size) H2.objs.size) s₃:=by
  rintro s₃ rfl
  have I0:=I₂.comp (t':=s₂.toks+([]:List (Str×Q0b)).length) co hcl1 hcl2 hc hCle hns₁ old f2 hfz
  have nof:s₂.heap.objs.size∉(X.comp scope N' cl H2.objs.size s₂ H₂ fp).fs:=fun z=>by
   obtain⟨_,o,ho,_⟩:=I0.ok.funs.mem z
   exact absurd (Q0m ho) (Q3n _)
  have I0':Inv (X.comp scope N' cl H2.objs.size s₂ H₂ fp) [(s₂.heap.objs.size,{cls:=.type "list",data:=.seq ([]:List Q0b).toArray ([]:List Q0b).length})] (q1m ix σ) H₂ {s₂ with heap:=h₁,toks:=s₂.toks+([]:List (Str×Q0b)).length}:=I0.pins_of fun p hp=>by
   obtain rfl:=Q0i.mp hp
   exact⟨hacc,I₂.fresh,hDC,nof,fun v z=>by cases z⟩
  have hclC:∀x c,cl.lookup x=some c->c≠s₂.heap.objs.size:=hclD
  have fpok:∀{us:List Q0b}{H':Hp},(∀b∈fp,H' b=none)->∀b∈fp,FpOk (X.comp scope N' cl H2.objs.size s₂ H₂ fp) [(s₂.heap.objs.size,{cls:=.type "list",data:=.seq us.toArray us.length})] H' b:=fun hn' b hb=>
   ⟨hn' b hb,(I0.ok.exf b hb).1,I0.ok.exfs b hb,.inl hb,(I0.ok.exf b hb).2,fun p hp=>by
    have hp':p∈[(s₂.heap.objs.size,({cls:=.type "list",data:=.seq _ _}:Obj))]:=hp
    obtain rfl:=Q0i.mp hp'
    exact Q1s (hfz b hb)⟩
  refine y3k (fun k s'=>∃i ys σ' H',i<=n/\k=n-i/\CompMid X scope N' cl H2.objs.size s₂.heap.objs.size s₂ H₂ fp tn W i ys σ' H' s') ?_ n
   ⟨0,[],q1m ix σ,H₂,Q1f _,rfl,⟨[],.nil,I0'⟩,st0,fun b hb=>(f2 b hb).1,Q0k _,w0⟩
  rintro k s3 ⟨i,ys,σ3,H3,hi3,rfl,⟨us,r3,I3⟩,st3,fr3,hl3,w3⟩
  have weak:∀{e:Q0b}{s':Q0d},False->notedBy (model X.prog X.w) X.A (compEnvC scope cl H2.objs.size X.env) (fun e s'=>compPost (model X.prog X.w) X.A X.xe use Qf (.ref s₂.heap.objs.size) H2.objs.size (.error e) s') e s':=fun z=>z.elim
  rcases turn i ys σ3 H3 hi3 w3 with⟨stop,q⟩|⟨hlt,go,step⟩
  ·refine thn (T.done (X.comp scope N' cl H2.objs.size s₂ H₂ fp) rfl rfl rfl rfl i _ s3 σ3 H3 _ I3 (fpok fr3) st3 stop) fun r s4 hh1=>?_
   obtain⟨hr,I4⟩:=hh1
   subst hr
   exact fin I₂ f2 (Q0k _) hCle hDC r3 I4 (by omega) q
  ·refine thn (T.item (X.comp scope N' cl H2.objs.size s₂ H₂ fp) rfl rfl rfl rfl i _ s3 σ3 H3 _ I3 (fpok fr3) st3 go) fun r s4 hh2=>?_
   obtain⟨u,hr,h4⟩:=hh2
   subst hr
   refine thn h4 fun _ s5 hh3=>?_
   obtain⟨x,H5,I5,r5,y5,st5,fr5⟩:=hh3
   have I5':=I5.pinned (fpok fr5) (T.obj _ _ st5)
   refine Q1p (hg cl _ s₂ H₂ fp _ s5 σ3 H5 x u _ I5' r5 (step x H5 y5)) (fun _ s6 ⟨σ6,H6,I6,q6⟩=>?_) fun _ _ z=>weak z
   refine Q1p (ht cl _ s₂ H₂ fp _ s6 σ6 H6 _ I6 q6) (fun b6 s6' ⟨H6',I6',q6'⟩=>?_) fun _ _ z=>weak z
   have hpl:∀p∈q2y fp s5.heap,p.1≠s₂.heap.objs.size:=fun p hp=>Q0y (hfz p.1 (q4m hp).1)
   cases b6 with
   |false=>
    have q6'':W (i+1) ys σ6 H6':=by simpa using q6'
    have g6:¬(false=true):=by decide
    rw[if_neg g6]
    refine⟨n-(i+1),by omega,i+1,ys,σ6,H6',hlt,rfl,⟨us,r3,I6'.unpinned⟩,?_,fun b hb=>?_,by omega,q6''⟩
    ·exact T.keep _ _ _ st5 fun b hb o e=>(I6'.pin (b,o) (Q0t _ (Q0t _ (q1a hb e)))).1
    ·obtain⟨o,e,d⟩:=T.obj _ _ st5 b hb
     exact(I6'.pin (b,o) (Q0t _ (Q0t _ (q1a hb e)))).2.1
   |true=>
    have q6'':te σ6 H6' fun y H4=>W (i+1) (ys++[y]) σ6 H4:=by simpa using q6'
    have g6:true=true:=rfl
    rw[if_pos g6]
    refine Q1p (he cl _ s₂ H₂ fp _ s6' σ6 H6' _ I6' q6'') (fun u7 s7 ⟨y7,H7,I7,r7,q7⟩=>?_) fun _ _ z=>weak z
    refine z4b (pl:=q2y fp s5.heap) (Q0k _) hDC hclD r3 r7 (by omega) I7 hpl fun s8 I8=>?_
    refine⟨n-(i+1),by omega,i+1,ys++[y7],σ6,H7,hlt,rfl,⟨us++[u7],r3.append (.cons r7 .nil),I8.unpinned⟩,?_,fun b hb=>?_,by rw[Q0x,Q3c];omega,q7⟩
    ·exact T.keep _ _ _ st5 fun b hb o e=>(I8.pin (b,o) (Q0t _ (Q0t _ (q1a hb e)))).1
    ·obtain⟨o,e,d⟩:=T.obj _ _ st5 b hb
     exact(I8.pin (b,o) (Q0t _ (Q0t _ (q1a hb e)))).2.1
 exact Z2y (loop _ rfl) (T.self _ 0 _ _ _ st0 (loop _ rfl))
theorem z3j{ifs:List Expr}(hc:X.calm=true)(co:CompOk X scope N' ix)(hit:PI X tg iter wi)(hm:∀σ H R R',(∀J H1,R J H1->R' J H1)->wi σ H R->wi σ H R')(hg:∀cl C s H fp,PG (X.comp scope N' cl C s H fp) tg g)(ht:∀cl C s H fp,PTs (X.comp scope N' cl C s H fp) ifs tc)(he:∀cl C s H fp,PE (X.comp scope N' cl C s H fp) elt te)
  (hs:∀x,foldedSetIterable iter X.env x=pure x:=by intro _;rfl):PE X (.ListComp elt [⟨tg,iter,ifs,0⟩] scope pos) (z1j wi ix g tc te):=by
 intro pins s σ H Q I h
 rw[eval_ListComp]
 refine z0x (use:=none) (Qf:=EP X pins σ Q) hc co hit hg ht he hs I (hm σ H _ _ (fun J H1 q=>⟨_,q,?_⟩) h)
 intro H₂ s₂ cl C DD fp ys us σ' H' s' I₂ f2 hD hC hDC r I' hz q
 exact z4a I₂ f2 hD hC hDC r I' hz q
def z4o(wi:TI)(ix:List (Option Nat))(g:TG)(tc:TT)(te:TE)(i:Nat):TS:=fun D σ H=>z1j wi ix g tc te σ H fun v H1=>D.nx (σ.set i (some v)) H1
theorem q6a{ifs:List Expr}{i:Nat}{x:Str}{px sp:Pos}(hsw:swapsWith (.ListComp elt [⟨tg,iter,ifs,0⟩] scope pos) (some (.Name x px)) sp.line X.env=pure true)(hN:X.N.Nodup)(hi:X.N[i]?=some x)(hx:Loc X.env.scope x)
  (hc:X.calm=true) (co:CompOk X scope N' ix) (hit:PI X tg iter wi) (hm:∀σ H R R',(∀J H1,R J H1->R' J H1)->wi σ H R->wi σ H R') (hg:∀cl C s H fp,PG (X.comp scope N' cl C s H fp) tg g) (ht:∀cl C s H fp,PTs (X.comp scope N' cl C s H fp) ifs tc) (he:∀cl C s H fp,PE (X.comp scope N' cl C s H fp) elt te)
  (hs:∀x,foldedSetIterable iter X.env x=pure x:=by intro _;rfl) (hf:X.fn x=true\/X.env.scope.names.lookup x=some .local:=by first|exact .inl rfl|exact .inr rfl|assumption) :
  PS X (.Assign [.Name x px] (.ListComp elt [⟨tg,iter,ifs,0⟩] scope pos) sp) (z4o wi ix g tc te i):=by
 intro pins s σ H D I h
 rw[exec_Assign_Name_used _ _ _ _ hsw]
 refine Q0a (Q4p (Q0a ?_))
 show Q1d _ X.A (do let _ <-comprehension (.ListComp elt [⟨tg,iter,ifs,0⟩] scope pos) scope X.env _ (newList []) false (eval iter X.env) (some (assign (.Name x px) X.env))) _ _ s
 refine Q0a (Q1p (z0x (use:=some (assign (.Name x px) X.env)) (Qf:=fun _ s'=>SP X pins D .next s') hc co hit hg ht he hs I (hm σ H _ _ (fun J H1 q=>⟨_,q,?_⟩) h)) (fun _ s' hq=>Q0f (Q0f hq)) fun _ _ e=>e)
 intro H₂ s₂ cl C DD fp ys us σ' H' s' I₂ f2 hD hC hDC r I' hz q
 exact z0y (py:=px) (Q:=fun _ s'=>SP X pins D .next s') hN hi hx hf I₂ f2 hD hC hDC r I' hz fun s'' I'' nD=>⟨_,_,I'',q DD nD⟩
end
abbrev lc2(elt t1 i1 t2 i2:Expr)(scope:Q5b)(pos:Pos):Expr:=.ListComp elt [⟨t1,i1,[],0⟩,⟨t2,i2,[],0⟩] scope pos
section
variable{prog:Q1e}{w:Q1x}{A:Q1t}{s:Q0d}{elt t1 i1 t2 i2:Expr}{scope:Q5b}{pos:Pos}{it acc:Q0b}{env:Env}{R:Z4o->Q0d->Prop}
theorem y1m(it acc:Q0b)(env:Env):compTurn (lc2 elt t1 i1 t2 i2 scope pos) 0 it acc env=(standAt i1.pos >>= fun _=>pyNext it >>= fun r=>match r with
   |none=>pure (.done .next)
   |some v=>letOwnedTupleGo t1 it v >>= fun _=>assign t1 env v >>= fun _=>
    eval i2 env >>= fun x=>standAt i2.pos >>= fun _=>foldedSetIterable i2 env x >>= fun y=>holding [y] (pyIter y) >>= fun z=>runOwn (.compStart (lc2 elt t1 i1 t2 i2 scope pos) 1 z acc env) env >>= fun _=>
     again (.compLoop (lc2 elt t1 i1 t2 i2 scope pos) 0 it acc env)):=by rfl
theorem y5r(it acc:Q0b)(env:Env):compTurn (lc2 elt t1 i1 t2 i2 scope pos) 1 it acc env=(standAt i2.pos >>= fun _=>pyNext it >>= fun r=>match r with
   |none=>pure (.done .next)
   |some v=>letOwnedTupleGo t2 it v >>= fun _=>assign t2 env v >>= fun _=>
    (eval elt env >>= fun x=>call (.builtin "list.append") [acc,x] >>= fun _=>pure ()) >>= fun _=>
     again (.compLoop (lc2 elt t1 i1 t2 i2 scope pos) 1 it acc env)):=by rfl
theorem y3f(I:Nat->Q0d->Prop)
  (turn:∀n s,I n s->Q1d (model prog w) A (pyNext it) (fun r s₁=>match r with
   |none=>R (.ok .next) s₁
   |some v=>Q1d (model prog w) A (letOwnedTupleGo t1 it v) (fun _ s₀=>Q1d (model prog w) A (assign t1 env v) (fun _ s₂=>
     Q1d (model prog w) A (eval i2 env) (fun x s₃=>Q1d (model prog w) A (foldedSetIterable i2 env x >>= fun y=>pyIter y) (fun z s₄=>
      Q1d (model prog w) A (runOwn (.compStart (lc2 elt t1 i1 t2 i2 scope pos) 1 z acc env) env) (fun _ s₅=>∃m,m<n/\I m s₅) (notedBy (model prog w) A env fun e s'=>R (.error e) s') s₄) (notedBy (model prog w) A env fun e s'=>R (.error e) s') s₃) (notedBy (model prog w) A env fun e s'=>R (.error e) s') s₂)
     (notedBy (model prog w) A env fun e s'=>R (.error e) s') s₀) (notedBy (model prog w) A env fun e s'=>R (.error e) s') s₁) (notedBy (model prog w) A env fun e s'=>R (.error e) s') s)
  (hs:∀x,foldedSetIterable i2 env x=pure x) (n:Nat) (h:I n s):codeAny (model prog w) A (.compLoop (lc2 elt t1 i1 t2 i2 scope pos) 0 it acc env) R s:=by
 refine Z3k rfl I (fun n s hI=>?_) n h
 show Q1d _ A ((compTurn (lc2 elt t1 i1 t2 i2 scope pos) 0 it acc env).onRaise (fun x=>do noteFrame x env;theTreesLotGoes x)) _ _ s
 refine Z4g ?_
 rw[y1m]
 refine Q0a (Q4p (Q0a (Q1p (turn n s hI) (fun r s₁ h₁=>?_) fun _ _ h'=>h')))
 cases r with
 |none=>exact Q0f h₁
 |some v=>
  refine Q0a (Q1p h₁ (fun _ s₀ h₀'=>?_) fun _ _ h'=>h')
  refine Q0a (Q1p h₀' (fun _ s₂ h₂=>?_) fun _ _ h'=>h')
  refine Q0a (Q1p h₂ (fun x s₃ h₃=>?_) fun _ _ h'=>h')
  refine Q0a (Q4p ?_)
  rw[hs x]at h₃ ⊢
  refine Q0a (Q0f (Q0a (Q2e ?_)))
  have h3':Q1d (model prog w) A (pyIter x) _ _ s₃:=h₃
  refine Q1p h3' (fun z s₄ h₄=>?_) fun _ _ h'=>h'
  exact Q0a (Q1p h₄ (fun _ s₅ h₅=>Q0f ⟨rfl,h₅⟩) fun _ _ h'=>h')
theorem y8s(I:Nat->Q0d->Prop)
  (turn:∀n s,I n s->Q1d (model prog w) A (pyNext it) (fun r s₁=>match r with
   |none=>R (.ok .next) s₁
   |some v=>Q1d (model prog w) A (letOwnedTupleGo t2 it v) (fun _ s₀=>Q1d (model prog w) A (assign t2 env v) (fun _ s₂=>
     Q1d (model prog w) A (eval elt env) (fun x s₄=>
      Q1d (model prog w) A (call (.builtin "list.append") [acc,x]) (fun _ s₅=>∃m,m<n/\I m s₅) (notedBy (model prog w) A env fun e s'=>R (.error e) s') s₄) (notedBy (model prog w) A env fun e s'=>R (.error e) s') s₂)
     (notedBy (model prog w) A env fun e s'=>R (.error e) s') s₀) (notedBy (model prog w) A env fun e s'=>R (.error e) s') s₁) (notedBy (model prog w) A env fun e s'=>R (.error e) s') s)
  (n:Nat) (h:I n s):codeAny (model prog w) A (.compLoop (lc2 elt t1 i1 t2 i2 scope pos) 1 it acc env) R s:=by
 refine Z3k rfl I (fun n s hI=>?_) n h
 show Q1d _ A ((compTurn (lc2 elt t1 i1 t2 i2 scope pos) 1 it acc env).onRaise (fun x=>do noteFrame x env;theTreesLotGoes x)) _ _ s
 refine Z4g ?_
 rw[y5r]
 refine Q0a (Q4p (Q0a (Q1p (turn n s hI) (fun r s₁ h₁=>?_) fun _ _ h'=>h')))
 cases r with
 |none=>exact Q0f h₁
 |some v=>
  refine Q0a (Q1p h₁ (fun _ s₀ h₀'=>?_) fun _ _ h'=>h')
  refine Q0a (Q1p h₀' (fun _ s₂ h₂=>?_) fun _ _ h'=>h')
  exact Q0a (Q0a (Q1p h₂ (fun x s₄ h₄=>Q0a (Q1p h₄ (fun _ s₅ h₅=>Q0f (Q0f ⟨rfl,h₅⟩)) fun _ _ h'=>h')) fun _ _ h'=>h'))
theorem y1p (h0 : codeAny (model prog w) A (.compLoop (lc2 elt t1 i1 t2 i2 scope pos) 1 it acc env) R s)
  (h : Q1d (model prog w) A (pyIter it) (fun it' s' => codeAny (model prog w) A (.compLoop (lc2 elt t1 i1 t2 i2 scope pos) 1 it' acc env) R s') (notedBy (model prog w) A env fun x s' => R (.error x) s') s) :
  codeAny (model prog w) A (.compStart (lc2 elt t1 i1 t2 i2 scope pos) 1 it acc env) R s := by
 refine codeAny_of_tree ?_
 show Q1d _ _ ((compStart (lc2 elt t1 i1 t2 i2 scope pos) 1 it acc env).onRaise (fun x => do noteFrame x env; standAt theWindowsPlace)) _ _ s
 refine wpAny_notedAt ?_
 unfold compStart
 show Q1d _ _ (ask >>= _) _ _ s
 refine Q0a (wpAny_askSetting (wpAny_ite ?_))
 split
 ·first
   | exact Q0a (Q0f (Q0f (Z1u rfl h0)))
   | exact Q0f (Z1u rfl h0)
 ·first
   | exact Q0a (Q3p (Q0a (Q4p (Q0a (Q1p h (fun it' s' q => Q0f (Z1u rfl q)) fun _ _ x => x)))))
   | (refine Q0a (Q3p ?_); show Q1d _ _ (standAt i2.pos >>= _) _ _ s; exact Q0a (Q4p (Q0a (Q1p h (fun it' s' q => Q0f (Z1u rfl q)) fun _ _ x => x))))
end
def y1c(J2:It)(g2:TG)(te:TE)(ys:List V)(σ₀:St)(H₀:Hp)(Z:List V->St->Hp->Prop):Prop:=∃(V2:Nat->List V->St->Hp->Prop)(m:Nat),V2 0 ys σ₀ H₀/\∀j zs σ H,j<=m->V2 j zs σ H->
 (J2.stop j H/\Z zs σ H)\/(j<m/\zs.length<Q0l/\J2.go j H/\∀y H',J2.yld j H y H'->g2 y σ H' fun σ3 H4=>te σ3 H4 fun v H5=>V2 (j+1) (zs++[v]) σ3 H5)
def y9r(J:It)(g1:TG)(wi2:TI)(g2:TG)(te:TE)(Q:VK)(σ₀:St)(H1:Hp):Prop:=∃(W:Nat->List V->St->Hp->Prop)(n:Nat),W 0 [] σ₀ H1/\∀i ys σ H,i<=n->W i ys σ H->
 (J.stop i H/\ys.length<=Q0l/\∀p,H p=none->Q (.ref p) (upd H p (.lst ys)))\/(i<n/\J.go i H/\∀x H',J.yld i H x H'->g1 x σ H' fun σ2 H2=>wi2 σ2 H2 fun J2 H3=>y1c J2 g2 te ys σ2 H3 fun zs σ3 H4=>W (i+1) zs σ3 H4)
def y4j(wi:TI)(ix:List (Option Nat))(g1:TG)(wi2:TI)(g2:TG)(te:TE):TE:=fun σ H Q=>wi σ H fun J H1=>y9r J g1 wi2 g2 te Q (q1m ix σ) H1
section
variable{X:Cx}{elt t1 i1 t2 i2:Expr}{scope:Q5b}{pos:Pos}{N':List Str}{ix:List (Option Nat)}{wi wi2:TI}{g1 g2:TG}{te:TE}
theorem y2u(hc:X.calm=true)(co:CompOk X scope N' ix)(hi:PI X t1 i1 wi)(hg:∀cl C s H fp,PG (X.comp scope N' cl C s H fp) t1 g1)(hi2:∀cl C s H fp,PI (X.comp scope N' cl C s H fp) t2 i2 wi2)(hg2:∀cl C s H fp,PG (X.comp scope N' cl C s H fp) t2 g2)(he:∀cl C s H fp,PE (X.comp scope N' cl C s H fp) elt te)
  (hs:∀x,foldedSetIterable i1 X.env x=pure x:=by intro _;rfl) (hs2:∀env x,foldedSetIterable i2 env x=pure x:=by intro _ _;rfl):PE X (lc2 elt t1 i1 t2 i2 scope pos) (y4j wi ix g1 wi2 g2 te):=by
 intro pins s σ H Q I h
 rw[eval_ListComp]
 obtain⟨cl,hclos,hcl1,hcl2⟩:=q5f (scope:=scope) (env:=X.env) fun p hp e=>by
  rcases co.free p hp e with z|z
  ·exact I.ok.has p.1 (.inl z)
  ·exact I.ok.has p.1 (.inr z)
 refine Z2a (use:=none) rfl hs hclos co.kind co.names (thn (hi pins s σ H _ I h) fun v s1 h1=>thn h1 fun itv s₂ h2=>?_)
 obtain⟨it,fp,tn,J,H₂,rfl,I₂,T,st2,f2,W,n,w0,turn⟩:=h2
 refine Q2k (Z3v co.cell (by intro y hy;simp at hy) (fun h₁ hns₁ hsb₁=>?_) co.kind)
 dsimp only at hns₁ hsb₁ ⊢
 generalize hH2:s₂.heap.push {cls:=.type "list",dict:=none,data:=.seq ([]:List Q0b).toArray}=H2 at hns₁ hsb₁ ⊢
 have hC:H2.objs.size=s₂.heap.objs.size+1:=by rw[<-hH2,Q1h.size_push]
 have hCle:s₂.heap.objs.size<=H2.objs.size:=by omega
 have hDC:s₂.heap.objs.size≠H2.objs.size:=by omega
 have old:∀b o,s₂.heap.get? b=some o->h₁.get? b=some o:=fun b o e=>hsb₁.extBut b o (Q0y (by rw[hC];exact Q7e (Q0m e))) (Q0c _ (hH2▸Q0c _ e))
 have hacc:h₁.get? s₂.heap.objs.size=some {cls:=.type "list",data:=.seq ([]:List Q0b).toArray}:=hsb₁.extBut _ _ hDC (Q0c _ (hH2▸Q0w _ rfl))
 have hfz:∀b∈fp,b<s₂.heap.objs.size:=fun b hb=>by
  obtain⟨o,e,_⟩:=T.obj _ _ st2 b hb
  exact Q0m e
 have hclD:∀x c,cl.lookup x=some c->c≠s₂.heap.objs.size:=fun x c e=>by
  obtain⟨v,o,ho,_⟩:=I₂.cell x c (hcl1 x c e)
  exact Q0y (Q0m ho)
 have st0:tn 0 h₁:=T.keep _ _ _ st2 fun b hb o e=>old b o e
 have loop:∀s₃:Q0d,s₃={s₂ with heap:=h₁,toks:=s₂.toks+([]:List (Str×Q0b)).length}->
   codeAny (model X.prog X.w) X.A (.compLoop (lc2 elt t1 i1 t2 i2 scope pos) 0 (.ref it) (.ref s₂.heap.objs.size) (compEnvC scope cl H2.objs.size X.env))
    (compPost (model X.prog X.w) X.A X.xe none (EP X pins σ Q) (.ref s₂.heap.objs.size) H2.objs.size) s₃:=by
  rintro s₃ rfl
  have I0:=I₂.comp (t':=s₂.toks+([]:List (Str×Q0b)).length) co hcl1 hcl2 hc hCle hns₁ old f2 hfz
  have nof:s₂.heap.objs.size∉(X.comp scope N' cl H2.objs.size s₂ H₂ fp).fs:=fun z=>by
   obtain⟨_,o,ho,_⟩:=I0.ok.funs.mem z
   exact absurd (Q0m ho) (Q3n _)
  have I0':Inv (X.comp scope N' cl H2.objs.size s₂ H₂ fp) [(s₂.heap.objs.size,{cls:=.type "list",data:=.seq ([]:List Q0b).toArray ([]:List Q0b).length})] (q1m ix σ) H₂ {s₂ with heap:=h₁,toks:=s₂.toks+([]:List (Str×Q0b)).length}:=I0.pins_of fun p hp=>by
   obtain rfl:=Q0i.mp hp
   exact⟨hacc,I₂.fresh,hDC,nof,fun v z=>by cases z⟩
  have fpok:∀{us:List Q0b}{H':Hp},(∀b∈fp,H' b=none)->∀b∈fp,FpOk (X.comp scope N' cl H2.objs.size s₂ H₂ fp) [(s₂.heap.objs.size,{cls:=.type "list",data:=.seq us.toArray us.length})] H' b:=fun hn' b hb=>
   ⟨hn' b hb,(I0.ok.exf b hb).1,I0.ok.exfs b hb,.inl hb,(I0.ok.exf b hb).2,fun p hp=>by
    have hp':p∈[(s₂.heap.objs.size,({cls:=.type "list",data:=.seq _ _}:Obj))]:=hp
    obtain rfl:=Q0i.mp hp'
    exact Q1s (hfz b hb)⟩
  refine y3f (fun k s'=>∃i ys σ' H' us,i<=n/\k=n-i/\Vals ys us/\Inv (X.comp scope N' cl H2.objs.size s₂ H₂ fp) [(s₂.heap.objs.size,{cls:=.type "list",data:=.seq us.toArray us.length})] σ' H' s'/\tn i s'.heap/\(∀b∈fp,H' b=none)/\W i ys σ' H') ?_ (hs2 _) n
   ⟨0,[],q1m ix σ,H₂,[],Q1f _,rfl,.nil,I0',st0,fun b hb=>(f2 b hb).1,w0⟩
  rintro k s3 ⟨i,ys,σ3,H3,us,hi3,rfl,r3,I3,st3,fr3,w3⟩
  have weak:∀{e:Q0b}{s':Q0d},False->notedBy (model X.prog X.w) X.A (compEnvC scope cl H2.objs.size X.env) (fun e s'=>compPost (model X.prog X.w) X.A X.xe none (EP X pins σ Q) (.ref s₂.heap.objs.size) H2.objs.size (.error e) s') e s':=fun z=>z.elim
  rcases turn i ys σ3 H3 hi3 w3 with⟨stop,hz,q⟩|⟨hlt,go,step⟩
  ·refine thn (T.done (X.comp scope N' cl H2.objs.size s₂ H₂ fp) rfl rfl rfl rfl i _ s3 σ3 H3 _ I3 (fpok fr3) st3 stop) fun r s4 hh1=>?_
   obtain⟨hr,I4⟩:=hh1
   subst hr
   exact z4a I₂ f2 (Q0k _) hCle hDC r3 I4 hz q
  ·refine thn (T.item (X.comp scope N' cl H2.objs.size s₂ H₂ fp) rfl rfl rfl rfl i _ s3 σ3 H3 _ I3 (fpok fr3) st3 go) fun r s4 hh2=>?_
   obtain⟨u,hr,h4⟩:=hh2
   subst hr
   refine thn h4 fun _ s5 hh3=>?_
   obtain⟨x,H5,I5,r5,y5,st5,fr5⟩:=hh3
   have I5':=I5.pinned (fpok fr5) (T.obj _ _ st5)
   refine Q1p (hg cl _ s₂ H₂ fp _ s5 σ3 H5 x u _ I5' r5 (step x H5 y5)) (fun _ s6 ⟨σ6,H6,I6,q6⟩=>?_) fun _ _ z=>weak z
   have hpl:∀p∈q2y fp s5.heap,p.1≠s₂.heap.objs.size:=fun p hp=>Q0y (hfz p.1 (q4m hp).1)
   refine Q1p (hi2 cl _ s₂ H₂ fp _ s6 σ6 H6 _ I6 q6) (fun v7 s7 h7=>?_) fun _ _ z=>weak z
   rw[hs2]
   refine Q0a (Q0f (Q1p h7 (fun itv s8 h8=>?_) fun _ _ z=>weak z))
   obtain⟨it2,fp2,tn2,J2,H8,rfl,I8,T2,st8,f8,V2,m,v0,turn2⟩:=h8
   have inner:∀s9:Q0d,s9=s8->codeAny (model X.prog X.w) (X.A.mark none) (.compLoop (lc2 elt t1 i1 t2 i2 scope pos) 1 (.ref it2) (.ref s₂.heap.objs.size) (compEnvC scope cl H2.objs.size X.env)) (fun r s'=>match r with
     |.ok _=>∃m,m<n-i/\∃i ys σ' H' us,i<=n/\m=n-i/\Vals ys us/\Inv (X.comp scope N' cl H2.objs.size s₂ H₂ fp) [(s₂.heap.objs.size,{cls:=.type "list",data:=.seq us.toArray us.length})] σ' H' s'/\tn i s'.heap/\(∀b∈fp,H' b=none)/\W i ys σ' H'
     |.error e=>cameBackBy (model X.prog X.w) X.A (compEnvC scope cl H2.objs.size X.env) (notedBy (model X.prog X.w) X.A (compEnvC scope cl H2.objs.size X.env) fun e s'=>compPost (model X.prog X.w) X.A X.xe none (EP X pins σ Q) (.ref s₂.heap.objs.size) H2.objs.size (.error e) s') e s') s9:=by
    rintro s9 rfl
    have f8':∀{us':List Q0b}{H':Hp},(∀b∈fp2,H' b=none)->∀b∈fp2,FpOk (X.comp scope N' cl H2.objs.size s₂ H₂ fp) ([(s₂.heap.objs.size,{cls:=.type "list",data:=.seq us'.toArray us'.length})]++q2y fp s5.heap) H' b:=fun hn' b hb=>by
     obtain⟨_,a2,a3,a4,a5,a6⟩:=f8 b hb
     refine⟨hn' b hb,a2,a3,a4,a5,fun p hp=>?_⟩
     rcases Q0n.mp hp with z|z
     ·exact a6 p (Q5c _ z)
     ·rcases Q0n.mp z with z|z
      ·obtain rfl:=Q0i.mp z
       exact a6 (s₂.heap.objs.size,{cls:=.type "list",data:=.seq us.toArray us.length}) (Q0t _ (Q5c _ (Z0x _)))
      ·exact a6 p (Q0t _ (Q0t _ z))
    refine y8s (A:=X.A) (fun k s'=>∃j zs σ' H' us',j<=m/\k=m-j/\Vals zs us'/\Inv (X.comp scope N' cl H2.objs.size s₂ H₂ fp) ([(s₂.heap.objs.size,{cls:=.type "list",data:=.seq us'.toArray us'.length})]++q2y fp s5.heap) σ' H' s'/\tn2 j s'.heap/\(∀b∈fp2,H' b=none)/\V2 j zs σ' H') ?_ m
     ⟨0,ys,σ6,H8,us,Q1f _,rfl,r3,I8,st8,fun b hb=>(f8 b hb).1,v0⟩
    rintro k s10 ⟨j,zs,σ10,H10,us',hj,rfl,r10,I10,st10,fr10,v10⟩
    have weak2:∀{e:Q0b}{s':Q0d},False->notedBy (model X.prog X.w) X.A (compEnvC scope cl H2.objs.size X.env) (fun e s'=>cameBackBy (model X.prog X.w) X.A (compEnvC scope cl H2.objs.size X.env) (notedBy (model X.prog X.w) X.A (compEnvC scope cl H2.objs.size X.env) fun e s'=>compPost (model X.prog X.w) X.A X.xe none (EP X pins σ Q) (.ref s₂.heap.objs.size) H2.objs.size (.error e) s') e s') e s':=fun z=>z.elim
    rcases turn2 j zs σ10 H10 hj v10 with⟨stop,q⟩|⟨hlt2,hz2,go2,step2⟩
    ·refine thn (T2.done (X.comp scope N' cl H2.objs.size s₂ H₂ fp) rfl rfl rfl rfl j _ s10 σ10 H10 _ I10 (f8' fr10) st10 stop) fun r s4 hh4=>?_
     obtain⟨hr,I11⟩:=hh4
     subst hr
     refine⟨n-(i+1),by omega,i+1,zs,σ10,H10,us',hlt,rfl,r10,I11.unpinned,?_,fun b hb=>?_,q⟩
     ·exact T.keep _ _ _ st5 fun b hb o e=>(I11.pin (b,o) (Q0t _ (Q0t _ (q1a hb e)))).1
     ·obtain⟨o,e,d⟩:=T.obj _ _ st5 b hb
      exact(I11.pin (b,o) (Q0t _ (Q0t _ (q1a hb e)))).2.1
    ·refine thn (T2.item (X.comp scope N' cl H2.objs.size s₂ H₂ fp) rfl rfl rfl rfl j _ s10 σ10 H10 _ I10 (f8' fr10) st10 go2) fun r s11 hh5=>?_
     obtain⟨u,hr,h11⟩:=hh5
     subst hr
     refine thn h11 fun _ s12 hh6=>?_
     obtain⟨x,H12,I12,r12,y12,st12,fr12⟩:=hh6
     have I12':=I12.pinned (f8' fr12) (T2.obj _ _ st12)
     refine Q1p (hg2 cl _ s₂ H₂ fp _ s12 σ10 H12 x u _ I12' r12 (step2 x H12 y12)) (fun _ s13 ⟨σ13,H13,I13,q13⟩=>?_) fun _ _ z=>weak2 z
     refine Q1p (he cl _ s₂ H₂ fp _ s13 σ13 H13 _ I13 q13) (fun u14 s14 ⟨y14,H14,I14,r14,q14⟩=>?_) fun _ _ z=>weak2 z
     rw[Q1n]at I14
     have hpl2:∀p∈q2y fp s5.heap++q2y fp2 s12.heap,p.1≠s₂.heap.objs.size:=fun p hp=>by
      rcases Q0n.mp hp with z|z
      ·exact hpl p z
      ·exact fun e=>(f8 p.1 (q4m z).1).2.2.2.2.2 (s₂.heap.objs.size,_) (Q0t _ (Q5c _ (Z0x _))) e.symm
     refine z4b (pl:=q2y fp s5.heap++q2y fp2 s12.heap) (Q0k _) hDC hclD r10 r14 hz2 I14 hpl2 fun s15 I15=>?_
     rw[<-Q1n]at I15
     refine⟨m-(j+1),by omega,j+1,zs++[y14],σ13,H14,us'++[u14],hlt2,rfl,r10.append (.cons r14 .nil),I15.unpinned,?_,fun b hb=>?_,q14⟩
     ·exact T2.keep _ _ _ st12 fun b hb o e=>(I15.pin (b,o) (Q0t _ (Q0t _ (q1a hb e)))).1
     ·obtain⟨o,e,d⟩:=T2.obj _ _ st12 b hb
      exact(I15.pin (b,o) (Q0t _ (Q0t _ (q1a hb e)))).2.1
   exact wpAny_runOwn (y1p (inner _ rfl) (T2.self _ 0 _ _ _ st8 (inner _ rfl)))
 exact Z2y (loop _ rfl) (T.self _ 0 _ _ _ st0 (loop _ rfl))
end
section
variable{prog:Q1e}{w:Q1x}{A:Q1t}{E:Q0b->Q0d->Prop}{s:Q0d}
theorem q4e{j t:Q0u}{k:Nat}{xs:Array Q0b}{v:Q0b}{R:Q0b->Q0d->Prop}(g:s.heap.IsTupleIter j t k)(gt:s.heap.IsTuple t xs)(gv:xs[k]?=some v)
  (gR:∀h',h'.IsTupleIter j t (k+1)->Q1h.SameBut j s.heap h'->R v {s with heap:=h' }):Q1d (model prog w) A (Q1g.SmallTypes.nextOf (.ref j)) R E s:=by
 obtain⟨oj,gj,cj,dj⟩:=id g
 obtain⟨ot,got,_,nt,dt⟩:=gt
 unfold Q1g.SmallTypes.nextOf
 refine Q0a (Q2v (name:=Q0j "__next__") g.typeIs Q5g (Q2n Q5g g.typeIs Z0q ?_ (Z0h _)))
 show Q1d _ _ (field (.ref j) 0 >>= _) _ _ s
 refine Q0a (Q2f gj dj (x:=.ref t) rfl ?_)
 show Q1d _ _ (ite ((Q0b.ref t==Q0b.none)=true) _ _) _ _ s
 rw[if_neg (show(Q0b.ref t==Q0b.none)≠true from Q2o)]
 show Q1d _ _ (field (.ref j) 1 >>= _) _ _ s
 refine Q0a (Q2f gj dj (x:=.int k 0) rfl ?_)
 show Q1d _ _ (seqItems? (.ref t) >>= _) _ _ s
 refine Q0a (Q3j got dt ?_)
 simp only[Q2i,gv]
 refine Q0a (Q5n gj dj (by simp) (Q0f ⟨v,rfl,Q0f (gR _ ?_ (Q1h.SameBut.update ..))⟩))
 refine⟨_,Q1h.get?_update_self _ gj (Q4w (Q3q dj _)),(Q9g ..).trans cj,?_⟩
 rw[Q3q dj];simp[rawInt]
theorem q3e{j t:Q0u}{k:Nat}{xs:Array Q0b}{R:Q0b->Q0d->Prop}(gh:A.handled=none)(g:s.heap.IsTupleIter j t k)(gt:s.heap.IsTuple t xs)(gv:xs[k]?=none)
  (gE:∀h' e,Q1h.ExtBut j s.heap h'->(∃o,h'.get? e=some o/\o.cls=.type "StopIteration")->E (.ref e) {s with heap:=h' }):Q1d (model prog w) A (Q1g.SmallTypes.nextOf (.ref j)) R E s:=by
 obtain⟨oj,gj,cj,dj⟩:=id g
 obtain⟨ot,got,_,nt,dt⟩:=gt
 unfold Q1g.SmallTypes.nextOf
 refine Q0a (Q2v (name:=Q0j "__next__") g.typeIs Q5g (Q2n Q5g g.typeIs Z0q ?_ (Z0h _)))
 show Q1d _ _ (field (.ref j) 0 >>= _) _ _ s
 refine Q0a (Q2f gj dj (x:=.ref t) rfl ?_)
 show Q1d _ _ (ite ((Q0b.ref t==Q0b.none)=true) _ _) _ _ s
 rw[if_neg (show(Q0b.ref t==Q0b.none)≠true from Q2o)]
 show Q1d _ _ (field (.ref j) 1 >>= _) _ _ s
 refine Q0a (Q2f gj dj (x:=.int k 0) rfl ?_)
 show Q1d _ _ (seqItems? (.ref t) >>= _) _ _ s
 refine Q0a (Q3j got dt ?_)
 simp only[Q2i,gv]
 refine Q0a (Q3p (Q0a (Q5n gj dj (by simp) ?_)))
 show Q1d _ _ (newExc (.type "StopIteration") [] >>= _) _ _ _
 refine Q0a ?_
 simp only[newExc,newTuple]
 refine Q0a (Q2k ?_ (by size_fits))
 refine Q0a (m:=firstArgMember _ _) (wpAny_of_eq (a:=Q0b.none) (by simp only[firstArgMember];rfl) ?_)
 refine Q2k ?_ (by size_fits)
 simp only[raiseNew]
 refine Q0a (wpAny_handled ?_)
 rw[show A.in1.handled=none from gh]
 refine Q0a (Q0f (wpAny_throw ?_))
 exact gE _ _ (((Q1h.SameBut.update ..).extBut.push _).push _) ⟨_,Q0w _ rfl,rfl⟩
end
def ZIt(tp:Bool)(it l:Q0u)(i:Nat)(h:Q1h):Prop:=if tp=true then h.IsTupleIter it l i else h.IsListIter it l i
def ZSrc(tp:Bool)(l:Q0u)(xs:Array Q0b)(h:Q1h):Prop:=if tp=true then h.IsTuple l xs else h.IsList l xs
theorem ZIt.get{tp:Bool}{it l:Q0u}{i:Nat}{h:Q1h}(x:ZIt tp it l i h):∃o,h.get? it=some o/\∀v,o.data≠.cell v:=by
 unfold ZIt at x
 split at x
 ·obtain⟨o,e,c,d⟩:=x
  exact⟨o,e,fun v z=>by rw[d]at z;cases z⟩
 ·obtain⟨o,e,c,d⟩:=x
  exact⟨o,e,fun v z=>by rw[d]at z;cases z⟩
theorem ZIt.at{tp:Bool}{it l:Q0u}{i:Nat}{h h':Q1h}(x:ZIt tp it l i h)(k:∀o,h.get? it=some o->h'.get? it=some o):ZIt tp it l i h':=by
 unfold ZIt at x ⊢
 split at x
 ·rename_i c;rw[if_pos c];obtain⟨o,e,r⟩:=x;exact⟨o,k o e,r⟩
 ·rename_i c;rw[if_neg c];obtain⟨o,e,r⟩:=x;exact⟨o,k o e,r⟩
theorem ZSrc.at{tp:Bool}{l:Q0u}{xs:Array Q0b}{h h':Q1h}(x:ZSrc tp l xs h)(k:∀o,h.get? l=some o->h'.get? l=some o):ZSrc tp l xs h':=by
 unfold ZSrc at x ⊢
 split at x
 ·rename_i c;rw[if_pos c];obtain⟨o,e,r⟩:=x;exact⟨o,k o e,r⟩
 ·rename_i c;rw[if_neg c];obtain⟨o,e,r⟩:=x;exact⟨o,k o e,r⟩
section
variable{prog:Q1e}{w:Q1x}{A:Q1t}{E:Q0b->Q0d->Prop}{s:Q0d}
theorem q4u{tp:Bool}{j t:Q0u}{k:Nat}{xs:Array Q0b}{v:Q0b}{R:Q0b->Q0d->Prop}(g:ZIt tp j t k s.heap)(gt:ZSrc tp t xs s.heap)(gv:xs[k]?=some v)
  (gR:∀h',ZIt tp j t (k+1) h'->Q1h.SameBut j s.heap h'->R v {s with heap:=h' }):Q1d (model prog w) A (Q1g.SmallTypes.nextOf (.ref j)) R E s:=by
 cases tp with
 |true=>exact q4e g gt gv gR
 |false=>exact wpAny_nextOf_list_item g gt gv gR
theorem q7q{tp:Bool}{j t:Q0u}{k:Nat}{xs:Array Q0b}{R:Q0b->Q0d->Prop}(gh:A.handled=none)(g:ZIt tp j t k s.heap)(gt:ZSrc tp t xs s.heap)(gv:xs[k]?=none)
  (gE:∀h' e,Q1h.ExtBut j s.heap h'->(∃o,h'.get? e=some o/\o.cls=.type "StopIteration")->E (.ref e) {s with heap:=h' }):Q1d (model prog w) A (Q1g.SmallTypes.nextOf (.ref j)) R E s:=by
 cases tp with
 |true=>exact q3e gh g gt gv gE
 |false=>exact wpAny_nextOf_list_end gh g gt gv gE
structure ZAp(z ti to j1 j2 t1 t2:Q0u):Prop where
 a1:ti≠z
 a2:to≠z
 a3:j1≠z
 a4:j2≠z
 a5:ti≠to
 a6:ti≠j1
 a7:ti≠j2
 a8:to≠j1
 a9:to≠j2
 b1:j1≠j2
 b2:t1≠z
 b3:t1≠to
 b4:t1≠j1
 b5:t1≠j2
 b6:t2≠z
 b7:t2≠to
 b8:t2≠j1
 b9:t2≠j2
theorem y9s{tp tq:Bool}{z ti to j1 j2 t1 t2:Q0u}{k1 k2:Nat}{xs ys:Array Q0b}{x y p q:Q0b}{R:Q0b->Q0d->Prop}(D:ZAp z ti to j1 j2 t1 t2)
  (gz:Z1d s.heap z ti to .none) (gi:Q5t s.heap ti (.ref j1) (.ref j2)) (go:Q5t s.heap to p q)
  (g1:ZIt tp j1 t1 k1 s.heap) (g2:ZIt tq j2 t2 k2 s.heap) (l1:ZSrc tp t1 xs s.heap) (l2:ZSrc tq t2 ys s.heap) (ex:xs[k1]?=some x) (ey:ys[k2]?=some y)
  (gR:∀h',Z1d h' z ti to (rawInt s.heap.objs.size)->Q5t h' to x y->ZIt tp j1 t1 (k1+1) h'->ZIt tq j2 t2 (k2+1) h'->Q5t h' s.heap.objs.size x y->
   (∀c o,c≠z->c≠to->c≠j1->c≠j2->s.heap.get? c=some o->h'.get? c=some o)->R (.ref s.heap.objs.size) {s with heap:=h' }) :
  Q1d (model prog w) A (Q1g.«zip.__next__» ⟨[.ref z],[]⟩) (fun fin s'=>∃v,fin=.done (.ret v)/\R v s') E s:=by
 show Q1d _ _ (field (.ref z) 2 >>= _) _ _ _
 refine Q0a (Q2f gz rfl (x:=.bool false) rfl ?_)
 show Q1d _ _ (field (.ref z) 3 >>= _) _ _ _
 refine Q0a (Q2f gz rfl (x:=.ref ti) rfl ?_)
 refine Q0a (Q3j gi rfl ?_)
 show Q1d _ _ (Q1g.SmallTypes.ownedTupleIsFree (.ref z) >>= _) _ _ _
 refine Q0a ?_
 unfold Q1g.SmallTypes.ownedTupleIsFree
 refine Q0a (Q2f gz rfl (x:=.none) rfl (Q0f ?_))
 simp only[if_true]
 refine Q0a (Q3p ?_)
 refine Q0a (Q2f gz rfl (x:=.ref to) rfl ?_)
 refine Q0a (Q4g gz (by simp) fun H1 gz1 e1=>?_)
 replace gz1:Z1d H1 z ti to .ellipsis:=gz1
 refine Q0a ?_
 simp only[Q7j,Z3w,Q4u,Q8i]
 refine Q0a (Q0a (Q9p ?_))
 show Q1d _ _ (Q1g.SmallTypes.nextOf (.ref j1) >>= _) _ _ _
 refine Q0a (q4u (g1.at fun o e=>e1.extBut _ _ D.a3 e) (l1.at fun o e=>e1.extBut _ _ D.b2 e) ex fun H2 n1 e2=>Q0f ?_)
 have go2:Q5t H2 to p q:=e2.extBut _ _ D.a8 (e1.extBut _ _ D.a2 go)
 refine Q0a (Q3j go2 rfl ?_)
 refine Q0a (Q8y go2 fun H3 go3 e3=>?_)
 replace go3:Q5t H3 to x q:=go3
 refine Q0a (Q7u (Q0f ?_))
 refine Q0a (Q0a (Q9p ?_))
 show Q1d _ _ (Q1g.SmallTypes.nextOf (.ref j2) >>= _) _ _ _
 refine Q0a (q4u (g2.at fun o e=>e3.extBut _ _ D.a9.symm (e2.extBut _ _ D.b1.symm (e1.extBut _ _ D.a4 e))) (l2.at fun o e=>e3.extBut _ _ D.b7 (e2.extBut _ _ D.b8 (e1.extBut _ _ D.b6 e))) ey fun H4 n2 e4=>Q0f ?_)
 have go4:Q5t H4 to x q:=e4.extBut _ _ D.a9 go3
 refine Q0a (Q3j go4 rfl ?_)
 refine Q0a (Q8y go4 fun H5 go5 e5=>?_)
 replace go5:Q5t H5 to x y:=go5
 refine Q0a (Q7u (Q0f (Q0f ?_)))
 refine Q0a (Q3j go5 rfl ?_)
 refine Q0a (Q7k ?_)
 have sz5:H5.objs.size=s.heap.objs.size:=by rw[e5.1,e4.1,e3.1,e2.1,e1.1]
 have gz5:Z1d H5 z ti to .ellipsis:=e5.extBut _ _ D.a2.symm (e4.extBut _ _ D.a4.symm (e3.extBut _ _ D.a2.symm (e2.extBut _ _ D.a3.symm gz1)))
 have kk5:∀c o,c≠z->c≠to->c≠j1->c≠j2->s.heap.get? c=some o->H5.get? c=some o:=fun c o c1 c2 c3 c4 e=>
  e5.extBut _ _ c2 (e4.extBut _ _ c4 (e3.extBut _ _ c2 (e2.extBut _ _ c3 (e1.extBut _ _ c1 e))))
 have n15:ZIt tp j1 t1 (k1+1) H5:=n1.at fun o e=>e5.extBut _ _ D.a8.symm (e4.extBut _ _ D.b1 (e3.extBut _ _ D.a8.symm e))
 have n25:ZIt tq j2 t2 (k2+1) H5:=n2.at fun o e=>e5.extBut _ _ D.a9.symm e
 have lz:z<H5.objs.size:=Q0m gz5
 show Q1d _ _ (Q1g.SmallTypes.ownedTupleHandOut (.ref z) (.ref H5.objs.size) >>= _) _ _ _
 refine Q0a ?_
 unfold Q1g.SmallTypes.ownedTupleHandOut
 have gz6:Z1d (H5.push {cls:=.type "tuple",data:=.seq #[x,y]}) z ti to .ellipsis:=Q0c _ gz5
 refine Q0a (Q4g gz6 (by simp) fun H7 gz7 e7=>?_)
 replace gz7:Z1d H7 z ti to (rawInt H5.objs.size):=gz7
 refine Q4g gz7 (by simp) fun H8 gz8 e8=>?_
 replace gz8:Z1d H8 z ti to (rawInt H5.objs.size):=gz8
 have up:∀c o,c≠z->H5.get? c=some o->H8.get? c=some o:=fun c o c1 e=>e8.extBut _ _ c1 (e7.extBut _ _ c1 (Q0c _ e))
 have gT8:Q5t H8 H5.objs.size x y:=e8.extBut _ _ (Q1s lz) (e7.extBut _ _ (Q1s lz) (Q0w _ rfl))
 rw[sz5]at gz8 gT8
 refine Q0f ⟨_,rfl,?_⟩
 show R (.ref H5.objs.size) _
 rw[sz5]
 exact gR H8 gz8 (up _ _ D.a2 go5) (n15.at fun o e=>up _ o D.a3 e) (n25.at fun o e=>up _ o D.a4 e) gT8 fun c o c1 c2 c3 c4 e=>up c o c1 (kk5 c o c1 c2 c3 c4 e)
theorem y9t{tp tq:Bool}{z ti to j1 j2 t1 t2:Q0u}{k1 k2:Nat}{xs ys:Array Q0b}{p q:Q0b}{R:Fin->Q0d->Prop}(gh:A.handled=none)(D:ZAp z ti to j1 j2 t1 t2)
  (gz:Z1d s.heap z ti to .none) (gi:Q5t s.heap ti (.ref j1) (.ref j2)) (go:Q5t s.heap to p q)
  (g1:ZIt tp j1 t1 k1 s.heap) (g2:ZIt tq j2 t2 k2 s.heap) (l1:ZSrc tp t1 xs s.heap) (l2:ZSrc tq t2 ys s.heap) (hend:xs[k1]?=none\/ys[k2]?=none)
  (gE:∀h' e,(∀c o,c≠z->c≠to->c≠j1->c≠j2->s.heap.get? c=some o->h'.get? c=some o)->(∃o,h'.get? e=some o/\o.cls=.type "StopIteration")->E (.ref e) {s with heap:=h' }) :
  Q1d (model prog w) A (Q1g.«zip.__next__» ⟨[.ref z],[]⟩) R E s:=by
 show Q1d _ _ (field (.ref z) 2 >>= _) _ _ _
 refine Q0a (Q2f gz rfl (x:=.bool false) rfl ?_)
 show Q1d _ _ (field (.ref z) 3 >>= _) _ _ _
 refine Q0a (Q2f gz rfl (x:=.ref ti) rfl ?_)
 refine Q0a (Q3j gi rfl ?_)
 show Q1d _ _ (Q1g.SmallTypes.ownedTupleIsFree (.ref z) >>= _) _ _ _
 refine Q0a ?_
 unfold Q1g.SmallTypes.ownedTupleIsFree
 refine Q0a (Q2f gz rfl (x:=.none) rfl (Q0f ?_))
 simp only[if_true]
 refine Q0a (Q3p ?_)
 refine Q0a (Q2f gz rfl (x:=.ref to) rfl ?_)
 refine Q0a (Q4g gz (by simp) fun H1 gz1 e1=>?_)
 replace gz1:Z1d H1 z ti to .ellipsis:=gz1
 refine Q0a ?_
 simp only[Q7j,Z3w,Q4u,Q8i]
 refine Q0a (Q0a (Q9p ?_))
 show Q1d _ _ (Q1g.SmallTypes.nextOf (.ref j1) >>= _) _ _ _
 cases ex:xs[k1]? with
 |none=>
  refine Q0a (q7q gh (g1.at fun o e=>e1.extBut _ _ D.a3 e) (l1.at fun o e=>e1.extBut _ _ D.b2 e) ex fun H2 e e2 ge=>?_)
  obtain⟨oe,goe,gce⟩:=ge
  have gz2:Z1d H2 z ti to .ellipsis:=e2 _ _ D.a3.symm gz1
  have ne:e≠z:=fun x=>by subst x;rw[gz2]at goe;cases goe;simp at gce
  refine Q4g gz2 (by simp) fun H3 _ e3=>gE H3 e (fun c o c1 _ c3 _ x=>e3.extBut _ _ c1 (e2 _ _ c3 (e1.extBut _ _ c1 x))) ⟨oe,e3.extBut _ _ ne goe,gce⟩
 |some x=>
  have ey:ys[k2]?=none:=by
   rcases hend with h|h
   ·rw[ex]at h;cases h
   ·exact h
  refine Q0a (q4u (g1.at fun o e=>e1.extBut _ _ D.a3 e) (l1.at fun o e=>e1.extBut _ _ D.b2 e) ex fun H2 n1 e2=>Q0f ?_)
  have go2:Q5t H2 to p q:=e2.extBut _ _ D.a8 (e1.extBut _ _ D.a2 go)
  refine Q0a (Q3j go2 rfl ?_)
  refine Q0a (Q8y go2 fun H3 go3 e3=>?_)
  refine Q0a (Q7u (Q0f ?_))
  refine Q0a (Q0a (Q9p ?_))
  show Q1d _ _ (Q1g.SmallTypes.nextOf (.ref j2) >>= _) _ _ _
  refine Q0a (q7q gh (g2.at fun o e=>e3.extBut _ _ D.a9.symm (e2.extBut _ _ D.b1.symm (e1.extBut _ _ D.a4 e))) (l2.at fun o e=>e3.extBut _ _ D.b7 (e2.extBut _ _ D.b8 (e1.extBut _ _ D.b6 e))) ey fun H4 e e4 ge=>?_)
  obtain⟨oe,goe,gce⟩:=ge
  have gz4:Z1d H4 z ti to .ellipsis:=e4 _ _ D.a4.symm (e3.extBut _ _ D.a2.symm (e2.extBut _ _ D.a3.symm gz1))
  have ne:e≠z:=fun x=>by subst x;rw[gz4]at goe;cases goe;simp at gce
  refine Q4g gz4 (by simp) fun H5 _ e5=>gE H5 e (fun c o c1 c2 c3 c4 x=>e5.extBut _ _ c1 (e4 _ _ c4 (e3.extBut _ _ c2 (e2.extBut _ _ c3 (e1.extBut _ _ c1 x))))) ⟨oe,e5.extBut _ _ ne goe,gce⟩
end
section
variable{X:Cx}{pins:List (Q0u×Obj)}{σ:St}{H:Hp}{s:Q0d}{h':Q1h}
theorem Inv.turneds{t':Nat}{ch:List Q0u}(I:Inv X pins σ H s)(k:∀b o,b∉ch->s.heap.get? b=some o->h'.get? b=some o)(hf:∀b∈ch,FpOk X pins H b):Inv X pins σ H {s with heap:=h',toks:=t' }:=by
 have nit:∀b u,H b=some u->b∉ch:=fun b u e z=>by have q:=(hf b z).1;rw[q]at e;cases e
 refine I.step (g':=s.gens) (d':=s.drawn) (ch:=ch) (fun b hb=>?_) (fun b o _ _ hc e _=>k b o hc e) (fun b o _ _ hc e _=>⟨o.slots,k b o hc e⟩) (fun _ _ _ _ n=>n)
  (fun b o hc e=>⟨o,k b o hc e⟩) (fun _ _ e=>e) (fun _ _ _ e=>e) (fun b ps e=>⟨#[],by rw[e];simp⟩) (fun m hm=>?_) (fun b u e=>?_) I.bare
 ·exact⟨(hf b hb).2.2.2.1,(hf b hb).2.1,(hf b hb).2.2.2.2.1,(hf b hb).2.2.2.2.2⟩
 ·obtain⟨o,es,ep,ho,r⟩:=hm
  exact⟨o,es,ep,k _ o (fun z=>(hf _ z).2.1 rfl) ho,r⟩
 ·refine(I.hok b u e).stay (fun c v hc q=>k c v ?_ q) (fun _ q=>q) fun _ _ q=>q
  rcases hc with z|z
  ·rw[z];exact nit b u e
  ·exact nit c _ z
theorem Inv.trackO{D:Q0u}{ob:HO}(I:Inv X pins σ H s)(hf:FpOk X pins H D)(h1:X.s₀.heap.objs.size<=D)(new:q1e X.prog X.w (upd H D ob) s.heap D ob):Inv X pins σ (upd H D ob) s:=by
 obtain⟨hn,hL,_,_,h2,h3⟩:=hf
 have ne:∀b u,H b=some u->b≠D:=fun b u e z=>by rw[z,hn]at e;cases e
 have ne0:∀b o,X.s₀.heap.get? b=some o->b≠D:=fun b o e=>Q0y (Q1a (Q0m e) h1)
 refine⟨I.ok,I.os,I.bare,⟨I.base.keep,I.base.slot,fun b o e n' hx=>?_,I.base.there,fun b xs e=>?_,fun b o u e=>?_,fun b ps e=>?_⟩,I.loc,I.cell,?_,fun x c e=>?_,fun p hp=>?_,fun b u e=>?_,I.len⟩
 ·rw[q0g (ne0 b o e)];exact I.base.free b o e n' hx
 ·have q:=I.base.tups b xs e
  rw[q0g (ne _ _ q)];exact q
 ·have q:=I.base.frzs b o u e
  rw[q0g (ne _ _ q)];exact q
 ·obtain⟨more,q⟩:=I.base.tbls b ps e
  exact⟨more,by rw[q0g (ne _ _ q)];exact q⟩
 ·rw[q0g (Q4a hL)];exact I.free
 ·rw[q0g (h2 x c e)];exact I.freeC x c e
 ·obtain⟨a1,a2,a3⟩:=I.pin p hp
  exact⟨a1,by rw[q0g (h3 p hp)];exact a2,a3⟩
 ·by_cases hb:b=D
  ·subst hb
   rw[q0u]at e
   cases e
   exact new
  ·rw[q0g hb]at e
   refine(I.hok b u e).stay (fun c v hc q=>q) (fun c q=>?_) fun c xs q=>?_
   ·rw[q0g (ne _ _ q)];exact q
   ·rw[q0g (ne _ _ q)];exact q
end
def Sq(tp:Bool)(K:Q2p)(H:Hp)(a:Q0u)(xs:List V):Prop:=if tp=true then SqT K H a xs else SqL K H a xs
theorem Inv.sq{X:Cx}{pins:List (Q0u×Obj)}{σ:St}{H:Hp}{s:Q0d}{tp:Bool}{a:Q0u}{xs:List V}(I:Inv X pins σ H s)(h:Sq tp X.K H a xs):∃its:List Q0b,Vals xs its/\ZSrc tp a its.toArray s.heap/\xs.length<=Q0l:=by
 cases tp with
 |true=>
  obtain⟨its,r,t,z⟩:=I.tuple h
  exact⟨its,r,t,z⟩
 |false=>
  obtain⟨its,r,t,z⟩:=I.list h
  exact⟨its,r,t.isList,z⟩
theorem Inv.sq_fp{X:Cx}{pins:List (Q0u×Obj)}{σ:St}{H:Hp}{s:Q0d}{tp:Bool}{a b:Q0u}{xs:List V}(I:Inv X pins σ H s)(h:Sq tp X.K H a xs)(hf:FpOk X pins H b):a≠b:=by
 rintro rfl
 have look:∀o,X.K.lookup a=some o->False:=fun o e=>by
  have e':=I.ok.mod.kin a o e
  rcases hf.2.2.2.1 with z|z
  ·exact I.ok.noex a o e' z
  ·exact absurd (Q1a (Q0m (I.ok.bs a o e').1) z) (Q3n _)
 have rd:∀u,Rd H a u->False:=fun u e=>by
  rcases e with e|⟨o,e⟩<;>rw[hf.1]at e<;>cases e
 cases tp with
 |true=>
  rcases h with e|⟨o,its,n,e,_⟩
  ·exact rd _ e
  ·exact look o e
 |false=>
  rcases h with e|⟨o,its,n,e,_⟩
  ·exact rd _ e
  ·exact look o e
structure ZAt(tp tq:Bool)(z ti to j1 j2 a b:Q0u)(i:Nat)(h:Q1h):Prop where
 gz:Z1d h z ti to .none
 gi:Q5t h ti (.ref j1) (.ref j2)
 go:∃p q,Q5t h to p q
 g1:ZIt tp j1 a i h
 g2:ZIt tq j2 b i h
abbrev q9b(tp:Bool)(a:Q0u):Obj:={cls:=.type (if tp=true then "tuple_iterator" else "list_iterator"),data:=.fields #[.ref a,.int 0 0]}
theorem y4f{prog:Q1e}{w:Q1x}{A:Q1t}{E:Q0b->Q0d->Prop}{s:Q0d}{tp:Bool}{a:Q0u}{xs:Array Q0b}{R:Q0b->Q0d->Prop}(g:ZSrc tp a xs s.heap)
  (h:R (.ref s.heap.objs.size) {s with heap:=s.heap.push (q9b tp a)}):Q1d (model prog w) A (pyIter (.ref a)) R E s:=by
 cases tp with
 |true=>exact Q5y g h
 |false=>exact Z5h g h
theorem ZIt.new{tp:Bool}{a:Q0u}{h:Q1h}{it:Q0u}(g:h.get? it=some (q9b tp a)):ZIt tp it a 0 h:=by
 cases tp with
 |true=>exact⟨_,g,rfl,rfl⟩
 |false=>exact⟨_,g,rfl,rfl⟩
abbrev zz1(h:Q1h)(tp:Bool)(a:Q0u):Q1h:=h.push (q9b tp a)
abbrev zz2(h:Q1h)(tp tq:Bool)(a b:Q0u):Q1h:=(zz1 h tp a).push (q9b tq b)
abbrev zz3(h:Q1h)(tp tq:Bool)(a b:Q0u):Q1h:=(zz2 h tp tq a b).push {cls:=.type "tuple",data:=.seq #[.ref h.objs.size,.ref (zz1 h tp a).objs.size]}
abbrev zz4(h:Q1h)(tp tq:Bool)(a b:Q0u):Q1h:=(zz3 h tp tq a b).push {cls:=.type "tuple",data:=.seq #[.none,.none]}
abbrev zz5(h:Q1h)(tp tq:Bool)(a b:Q0u):Q1h:=(zz4 h tp tq a b).push {cls:=.type "zip",data:=.fields #[.none,.bool false,.bool false,.ref (zz2 h tp tq a b).objs.size,.ref (zz3 h tp tq a b).objs.size]}
theorem x4m(tp tq:Bool)(a b:Q0u)(xs ys:Array Q0b) :
  Meets (Q1g.«zip.__new__» ⟨[.type "zip",.ref a,.ref b],[]⟩) (fun _ R s=>ZSrc tp a xs s.heap/\ZSrc tq b ys s.heap/\R (.ok (.ret (.ref (zz4 s.heap tp tq a b).objs.size))) {s with heap:=zz5 s.heap tp tq a b}):=
 .of_wp fun prog w A R s h=>by
  obtain⟨hp,g,d,tk,os⟩:=s;obtain⟨s1,s2,h⟩:=h
  have hsub:=sub_zip
  have S1:ZSrc tp a xs (Q0d.heap ⟨hp,g,d,tk,os⟩):=s1
  have S2:ZSrc tq b ys (Q0d.heap ⟨hp.push (q9b tp a),g,d,tk,os⟩):=ZSrc.at s2 fun o e=>Q0c _ e
  wp_walk using y4f S1,y4f S2
  exact⟨_,rfl,h⟩
theorem y9m{prog:Q1e}{w:Q1x}{A:Q1t}{E:Q0b->Q0d->Prop}{s:Q0d}{tp tq:Bool}{a b:Q0u}{xs ys:Array Q0b}{Q:Q0b->Q0d->Prop}(s1:ZSrc tp a xs s.heap)(s2:ZSrc tq b ys s.heap)
  (h:∀h',ZAt tp tq (s.heap.objs.size+4) (s.heap.objs.size+2) (s.heap.objs.size+3) s.heap.objs.size (s.heap.objs.size+1) a b 0 h'->(∀c o,s.heap.get? c=some o->h'.get? c=some o)->Q (.ref (s.heap.objs.size+4)) {s with heap:=h' }) :
  Q1d (model prog w) A (call (.type "zip") [.ref a,.ref b]) Q E s:=by
 refine callType_new F.called_zip (by decide) (F.typeCall_zip_2 _ _) (F.newCall_zip_2 _ _) (fun obj=>F.args_object_init_3 obj _ _) F.entry_zip_new (x4m tp tq a b xs ys) ⟨s1,s2,?_⟩
 have z1:(zz1 s.heap tp a).objs.size=s.heap.objs.size+1:=Q1h.size_push ..
 have z2:(zz2 s.heap tp tq a b).objs.size=s.heap.objs.size+2:=by rw[Q1h.size_push,z1]
 have z3:(zz3 s.heap tp tq a b).objs.size=s.heap.objs.size+3:=by rw[Q1h.size_push,z2]
 have z4:(zz4 s.heap tp tq a b).objs.size=s.heap.objs.size+4:=by rw[Q1h.size_push,z3]
 have g5:(zz5 s.heap tp tq a b).get? (zz4 s.heap tp tq a b).objs.size=some _:=Q0w _ rfl
 have g4:(zz5 s.heap tp tq a b).get? (zz3 s.heap tp tq a b).objs.size=some _:=Q0c _ (Q0w _ rfl)
 have g3:(zz5 s.heap tp tq a b).get? (zz2 s.heap tp tq a b).objs.size=some _:=Q0c _ (Q0c _ (Q0w _ rfl))
 have g2:(zz5 s.heap tp tq a b).get? (zz1 s.heap tp a).objs.size=some _:=Q0c _ (Q0c _ (Q0c _ (Q0w _ rfl)))
 have g1:(zz5 s.heap tp tq a b).get? s.heap.objs.size=some _:=Q0c _ (Q0c _ (Q0c _ (Q0c _ (Q0w _ rfl))))
 show _/\_
 rw[z2,z3,z4]at g5
 rw[z1,z2]at g3
 rw[z3]at g4
 rw[z1]at g2
 rw[z4]
 exact⟨⟨_,g5,rfl⟩,h _ ⟨g5,g3,⟨_,_,g4⟩,ZIt.new g1,ZIt.new g2⟩ fun c o x=>Q0c _ (Q0c _ (Q0c _ (Q0c _ (Q0c _ x))))⟩
theorem y3y:bootBuiltins "zip" = some (.type "zip"):=by kernel_rfl
abbrev ZRec(h:Q1h)(z ti to:Q0u)(x:Q0b)(f:Bool):Prop:=h.get? z=some {cls:=.type "zip",dict:=none,data:=.fields #[x,.bool f,.bool false,.ref ti,.ref to],slots:=#[]}
section
variable{prog:Q1e}{w:Q1x}{A:Q1t}{E:Q0b->Q0d->Prop}{s:Q0d}
theorem y1d{d:Q0u}{od:Obj}{R:Option Obj->Q0d->Prop}(g:s.heap.get? d=some od)(h:R (some od) s):Q1d (model prog w) A (loadIfAlive d) R E s:=by
 have q:R (s.heap.get? d) s:=by rw[g];exact h
 exact fun _ _ _=>q
theorem z5z{z ti to d:Q0u}{f:Bool}{od:Obj}{R:Bool->Q0d->Prop}(gz:ZRec s.heap z ti to (rawInt d) f)(gd:s.heap.get? d=some od)
  (h:∀h',ZRec h' z ti to (rawInt d) true->Q1h.SameBut z s.heap h'->R false {s with heap:=h' }):Q1d (model prog w) A (Q1g.SmallTypes.ownedTupleIsFree (.ref z)) R E s:=by
 unfold Q1g.SmallTypes.ownedTupleIsFree
 refine Q0a (Q2f gz rfl (x:=rawInt d) rfl ?_)
 show Q1d _ _ (loadIfAlive ((d:Int).toNat) >>= _) _ _ _
 rw[Q2i]
 refine Q0a (y1d gd ?_)
 simp only[Option.isNone_some,Q1j,if_false]
 refine Q0a (Q2f gz rfl (x:=.bool f) rfl ?_)
 cases f with
 |true=>
  rw[if_neg (show ¬((Q0b.bool true != Q0b.bool true)=true)from Q2o)]
  exact Q0f (h _ gz (Q1h.SameBut.refl _ _))
 |false=>
  rw[if_pos (show(Q0b.bool false != Q0b.bool true)=true from rfl)]
  exact Q0a (Q4g gz (by simp) fun H1 g1 e1=>Q0f (h H1 g1 e1))
theorem y5j{tp tq:Bool}{z ti to j1 j2 t1 t2 d:Q0u}{f:Bool}{od:Obj}{k1 k2:Nat}{xs ys:Array Q0b}{x y:Q0b}{R:Q0b->Q0d->Prop}(D:ZAp z ti to j1 j2 t1 t2)
  (gz:ZRec s.heap z ti to (rawInt d) f) (gd:s.heap.get? d=some od) (gi:Q5t s.heap ti (.ref j1) (.ref j2))
  (g1:ZIt tp j1 t1 k1 s.heap) (g2:ZIt tq j2 t2 k2 s.heap) (l1:ZSrc tp t1 xs s.heap) (l2:ZSrc tq t2 ys s.heap) (ex:xs[k1]?=some x) (ey:ys[k2]?=some y)
  (gR:∀h',ZRec h' z ti to (rawInt d) true->ZIt tp j1 t1 (k1+1) h'->ZIt tq j2 t2 (k2+1) h'->Q5t h' s.heap.objs.size x y->
   (∀c o,c≠z->c≠j1->c≠j2->s.heap.get? c=some o->h'.get? c=some o)->R (.ref s.heap.objs.size) {s with heap:=h' }) :
  Q1d (model prog w) A (Q1g.«zip.__next__» ⟨[.ref z],[]⟩) (fun fin s'=>∃v,fin=.done (.ret v)/\R v s') E s:=by
 show Q1d _ _ (field (.ref z) 2 >>= _) _ _ _
 refine Q0a (Q2f gz rfl (x:=.bool false) rfl ?_)
 show Q1d _ _ (field (.ref z) 3 >>= _) _ _ _
 refine Q0a (Q2f gz rfl (x:=.ref ti) rfl ?_)
 refine Q0a (Q3j gi rfl ?_)
 show Q1d _ _ (Q1g.SmallTypes.ownedTupleIsFree (.ref z) >>= _) _ _ _
 refine Q0a (z5z gz gd fun H1 gz1 e1=>?_)
 simp only[Q1j,if_false]
 rw[<-Q4m]
 simp only[Q4u,Q8i]
 refine Q0a (Q0a (Q0a (Q2e ?_)))
 show Q1d _ _ (Q1g.SmallTypes.nextOf (.ref j1) >>= _) _ _ _
 refine Q0a (q4u (g1.at fun o e=>e1.extBut _ _ D.a3 e) (l1.at fun o e=>e1.extBut _ _ D.b2 e) ex fun H2 n1 e2=>Q0f ?_)
 refine Q0f (Q0a (Q0a (Q2e ?_)))
 show Q1d _ _ (Q1g.SmallTypes.nextOf (.ref j2) >>= _) _ _ _
 refine Q0a (q4u (g2.at fun o e=>e2.extBut _ _ D.b1.symm (e1.extBut _ _ D.a4 e)) (l2.at fun o e=>e2.extBut _ _ D.b8 (e1.extBut _ _ D.b6 e)) ey fun H3 n2 e3=>Q0f ?_)
 refine Q0f (Q0f ?_)
 refine Q0a (Q7k ?_ (by show 2<=Q0l;decide))
 have sz:H3.objs.size=s.heap.objs.size:=by rw[e3.1,e2.1,e1.1]
 refine Q0f ⟨_,rfl,?_⟩
 show R (.ref H3.objs.size) _
 rw[sz]
 have up:∀c o,H3.get? c=some o->(H3.push {cls:=.type "tuple",data:=.seq #[x,y]}).get? c=some o:=fun c o e=>Q0c _ e
 refine gR _ (up _ _ (e3.extBut _ _ D.a4.symm (e2.extBut _ _ D.a3.symm gz1))) (n1.at fun o e=>up _ _ (e3.extBut _ _ D.b1 e)) (n2.at fun o e=>up _ _ e) ?_ fun c o c1 c2 c3 e=>up c o (e3.extBut _ _ c3 (e2.extBut _ _ c2 (e1.extBut _ _ c1 e)))
 rw[<-sz]
 exact Q0w _ rfl
theorem y5l{tp tq:Bool}{z ti to j1 j2 t1 t2 d:Q0u}{f:Bool}{od:Obj}{k1 k2:Nat}{xs ys:Array Q0b}{R:Fin->Q0d->Prop}(gh:A.handled=none)(D:ZAp z ti to j1 j2 t1 t2)
  (gz:ZRec s.heap z ti to (rawInt d) f) (gd:s.heap.get? d=some od) (gi:Q5t s.heap ti (.ref j1) (.ref j2))
  (g1:ZIt tp j1 t1 k1 s.heap) (g2:ZIt tq j2 t2 k2 s.heap) (l1:ZSrc tp t1 xs s.heap) (l2:ZSrc tq t2 ys s.heap) (hend:xs[k1]?=none\/ys[k2]?=none)
  (gE:∀h' e,(∀c o,c≠z->c≠j1->c≠j2->s.heap.get? c=some o->h'.get? c=some o)->(∃o,h'.get? e=some o/\o.cls=.type "StopIteration")->E (.ref e) {s with heap:=h' }) :
  Q1d (model prog w) A (Q1g.«zip.__next__» ⟨[.ref z],[]⟩) R E s:=by
 show Q1d _ _ (field (.ref z) 2 >>= _) _ _ _
 refine Q0a (Q2f gz rfl (x:=.bool false) rfl ?_)
 show Q1d _ _ (field (.ref z) 3 >>= _) _ _ _
 refine Q0a (Q2f gz rfl (x:=.ref ti) rfl ?_)
 refine Q0a (Q3j gi rfl ?_)
 show Q1d _ _ (Q1g.SmallTypes.ownedTupleIsFree (.ref z) >>= _) _ _ _
 refine Q0a (z5z gz gd fun H1 gz1 e1=>?_)
 simp only[Q1j,if_false]
 rw[<-Q4m]
 simp only[Q4u,Q8i]
 refine Q0a (Q0a (Q0a (Q2e ?_)))
 show Q1d _ _ (Q1g.SmallTypes.nextOf (.ref j1) >>= _) _ _ _
 cases ex:xs[k1]? with
 |none=>exact Q0a (q7q gh (g1.at fun o e=>e1.extBut _ _ D.a3 e) (l1.at fun o e=>e1.extBut _ _ D.b2 e) ex fun H2 e e2 ge=>gE H2 e (fun c o c1 c3 _ x=>e2 _ _ c3 (e1.extBut _ _ c1 x)) ge)
 |some x=>
  have ey:ys[k2]?=none:=by
   rcases hend with h|h
   ·rw[ex]at h;cases h
   ·exact h
  refine Q0a (q4u (g1.at fun o e=>e1.extBut _ _ D.a3 e) (l1.at fun o e=>e1.extBut _ _ D.b2 e) ex fun H2 n1 e2=>Q0f ?_)
  refine Q0f (Q0a (Q0a (Q2e ?_)))
  show Q1d _ _ (Q1g.SmallTypes.nextOf (.ref j2) >>= _) _ _ _
  exact Q0a (q7q gh (g2.at fun o e=>e2.extBut _ _ D.b1.symm (e1.extBut _ _ D.a4 e)) (l2.at fun o e=>e2.extBut _ _ D.b8 (e1.extBut _ _ D.b6 e)) ey fun H4 e e4 ge=>gE H4 e (fun c o c1 c3 c4 x=>e4 _ _ c4 (e2.extBut _ _ c3 (e1.extBut _ _ c1 x))) ge)
end
structure ZL(tp tq:Bool)(z ti to j1 j2 a b S:Q0u)(i:Nat)(h:Q1h):Prop where
 gz:Z1d h z ti to .none\/∃(d:Q0u)(f:Bool)(od:Obj),ZRec h z ti to (rawInt d) f/\h.get? d=some od/\S<d
 gi:Q5t h ti (.ref j1) (.ref j2)
 go:∃p q,Q5t h to p q
 g1:ZIt tp j1 a i h
 g2:ZIt tq j2 b i h
theorem ZL.keep{tp tq:Bool}{z ti to j1 j2 a b S:Q0u}{i:Nat}{h h':Q1h}(x:ZL tp tq z ti to j1 j2 a b S i h)(k:∀c o,c≠S->h.get? c=some o->h'.get? c=some o)(l1:z<S)(l2:ti<S)(l3:to<S)(l4:j1<S)(l5:j2<S):ZL tp tq z ti to j1 j2 a b S i h':=by
 obtain⟨gz,gi,⟨p,q,go⟩,g1,g2⟩:=x
 refine⟨?_,k _ _ (Q0y l2) gi,⟨p,q,k _ _ (Q0y l3) go⟩,g1.at fun o e=>k _ _ (Q0y l4) e,g2.at fun o e=>k _ _ (Q0y l5) e⟩
 rcases gz with g|⟨d,f,od,g,gd,ld⟩
 ·exact .inl (k _ _ (Q0y l1) g)
 ·exact .inr ⟨d,f,od,k _ _ (Q0y l1) g,k _ _ (Q1s ld) gd,ld⟩
structure ZLo(tp tq:Bool)(z ti to j1 j2 a b S:Q0u):Prop where
 D:ZAp z ti to j1 j2 a b
 l1:z<S
 l2:ti<S
 l3:to<S
 l4:j1<S
 l5:j2<S
 l6:a<S
 l7:b<S
 m1:a≠ti
 m2:b≠ti
structure ZG(xs ys:Array Q0b)(S:Q0u)(h:Q1h)(as:List Q0u):Prop where
 rise:as.Pairwise (·<·)
 above:∀a∈as,S<a
 pairs:∀(j:Nat)(a:Q0u),as[j]?=some a->∃x y,xs[j]?=some x/\ys[j]?=some y/\Q5t h a x y
section
variable{prog:Q1e}{w:Q1x}{A:Q1t}{E:Q0b->Q0d->Prop}{s:Q0d}
theorem y5m{tp tq:Bool}{z ti to j1 j2 a b S:Q0u}{i:Nat}{xs ys:Array Q0b}{x y:Q0b}{R:Option Q0b->Q0d->Prop}(O:ZLo tp tq z ti to j1 j2 a b S)(st:ZL tp tq z ti to j1 j2 a b S i s.heap)(hS:S<s.heap.objs.size)
  (l1:ZSrc tp a xs s.heap) (l2:ZSrc tq b ys s.heap) (ex:xs[i]?=some x) (ey:ys[i]?=some y)
  (gR:∀h',ZL tp tq z ti to j1 j2 a b S (i+1) h'->Q5t h' s.heap.objs.size x y->(∀c o,c≠z->c≠to->c≠j1->c≠j2->s.heap.get? c=some o->h'.get? c=some o)->R (some (.ref s.heap.objs.size)) {s with heap:=h' }) :
  Q1d (model prog w) A (pyNext (.ref z)) R E s:=by
 obtain⟨gz,gi,⟨p,q,go⟩,g1,g2⟩:=st
 have D:=O.D
 have hT:s.TypeIs (.ref z) "zip" :=by
  rcases gz with g|⟨d,f,od,g,_⟩
  ·exact⟨_,g,rfl⟩
  ·exact⟨_,g,rfl⟩
 unfold pyNext
 refine Q0a (Q5z (Q2v (name:=Q0j "__next__") hT Q8j (Q2n Q8j hT Z4t ?_ (Z4h _))))
 rcases gz with g|⟨d,f,od,g,gd,ld⟩
 ·refine y9s D g gi go g1 g2 l1 l2 ex ey fun h1 b1 b2 b3 b4 b5 b6=>?_
  exact Q0f (gR h1 ⟨.inr ⟨_,false,_,b1,b5,hS⟩,b6 _ _ D.a1 D.a5 D.a6 D.a7 gi,⟨_,_,b2⟩,b3,b4⟩ b5 b6)
 ·refine y5j D g gd gi g1 g2 l1 l2 ex ey fun h1 b1 b3 b4 b5 b6=>?_
  exact Q0f (gR h1 ⟨.inr ⟨d,true,od,b1,b6 _ _ (Q1s (Q3w O.l1 ld)) (Q1s (Q3w O.l4 ld)) (Q1s (Q3w O.l5 ld)) gd,ld⟩,b6 _ _ D.a1 D.a6 D.a7 gi,⟨_,_,b6 _ _ D.a2 D.a8 D.a9 go⟩,b3,b4⟩ b5 fun c o c1 _ c3 c4 e=>b6 c o c1 c3 c4 e)
theorem y5o{tp tq:Bool}{z ti to j1 j2 a b S:Q0u}{i:Nat}{xs ys:Array Q0b}{R:Option Q0b->Q0d->Prop}(gh:A.handled=none)(O:ZLo tp tq z ti to j1 j2 a b S)(st:ZL tp tq z ti to j1 j2 a b S i s.heap)
  (l1:ZSrc tp a xs s.heap) (l2:ZSrc tq b ys s.heap) (he:xs[i]?=none\/ys[i]?=none)
  (gR:∀h',(∀c o,c≠z->c≠to->c≠j1->c≠j2->s.heap.get? c=some o->h'.get? c=some o)->R none {s with heap:=h' }) :
  Q1d (model prog w) A (pyNext (.ref z)) R E s:=by
 obtain⟨gz,gi,⟨p,q,go⟩,g1,g2⟩:=st
 have D:=O.D
 have hT:s.TypeIs (.ref z) "zip" :=by
  rcases gz with g|⟨d,f,od,g,_⟩
  ·exact⟨_,g,rfl⟩
  ·exact⟨_,g,rfl⟩
 unfold pyNext
 refine Q0a (Q5z (Q2v (name:=Q0j "__next__") hT Q8j (Q2n Q8j hT Z4t ?_ (Z4h _))))
 rcases gz with g|⟨d,f,od,g,gd,ld⟩
 ·refine y9t gh D g gi go g1 g2 l1 l2 he fun h1 e kk ge=>?_
  obtain⟨oe,goe,gce⟩:=ge
  exact Q0a (Q8d (T:= "StopIteration") (b:=true) ⟨oe,goe,gce⟩ Z1v (Q0f (gR h1 kk)))
 ·refine y5l gh D g gd gi g1 g2 l1 l2 he fun h1 e kk ge=>?_
  obtain⟨oe,goe,gce⟩:=ge
  exact Q0a (Q8d (T:= "StopIteration") (b:=true) ⟨oe,goe,gce⟩ Z1v (Q0f (gR h1 fun c o c1 _ c3 c4 x=>kk c o c1 c3 c4 x)))
end
section
variable{prog:Q1e}{w:Q1x}{A:Q1t}{s:Q0d}{R:Z4o->Q0d->Prop}
theorem y5k{tp tq:Bool}{z ti to j1 j2 a b S:Q0u}{xs ys:Array Q0b}{n:Nat}(gh:A.handled=none)(O:ZLo tp tq z ti to j1 j2 a b S)(hn:n=min xs.size ys.size)(hz:n<=Q0l)(res:Q0b){h₁:Q1h}
  (hR:∀h' tk acc c as,(∀x o,x≠S->x≠z->x≠to->x≠j1->x≠j2->h₁.get? x=some o->h'.get? x=some o)->h'.get? S=some {cls:=.type "list",dict:=none,data:=.seq acc c,slots:=#[]}->as.length=n->ZG xs ys S h' as->acc.toList=as.map Q0b.ref->R (.ok (.ret res)) {s with heap:=h',toks:=tk}) :
  ∀(k i:Nat)(h:Q1h)(tk c:Nat)(acc:Array Q0b)(as:List Q0u),n-i=k->i<=n->ZL tp tq z ti to j1 j2 a b S i h->ZSrc tp a xs h->ZSrc tq b ys h->(∀x o,x≠S->x≠z->x≠to->x≠j1->x≠j2->h₁.get? x=some o->h.get? x=some o)->
   h.get? S=some {cls:=.type "list",dict:=none,data:=.seq acc c,slots:=#[]}->acc.toList=as.map Q0b.ref->as.length=i->ZG xs ys S h as->
   codeAny (model prog w) A (.builtin "list.extend.loop" ⟨[.ref S,.ref z,res],[]⟩) R {s with heap:=h,toks:=tk}:=by
 have D:=O.D
 have nS:∀x,x<S->x≠S:=fun x q=>Q0y q
 intro k
 induction k with
 |zero=>
  intro i h tk c acc as hk hi st l1 l2 kp gS ha al G
  refine Q8o Z3l ?_
  rw[Q1t.under_plainId Q6p _]
  show Q1d _ A.in1 (pyNext (.ref z) >>= _) _ _ _
  refine Q0a (y5o (s:={s with heap:=h,toks:=tk}) (A:=A.in1) gh O st l1 l2 (by
   have e:i=n:=by omega
   rw [Q9t,Q9t];omega) fun h' up=>?_)
  refine Q0f (hR h' tk acc c as (fun x o q1 q2 q3 q4 q5 e=>up x o q2 q3 q4 q5 (kp x o q1 q2 q3 q4 q5 e)) (up S _ (nS _ O.l1).symm (nS _ O.l3).symm (nS _ O.l4).symm (nS _ O.l5).symm gS) (by omega) ⟨G.rise,G.above,fun j c' hj=>?_⟩ ha)
  obtain⟨x,y,e1,e2,e3⟩:=G.pairs j c' hj
  have lc:=G.above c' (Q3g hj)
  exact⟨x,y,e1,e2,up c' _ (Q1s (Q3w O.l1 lc)) (Q1s (Q3w O.l3 lc)) (Q1s (Q3w O.l4 lc)) (Q1s (Q3w O.l5 lc)) e3⟩
 |succ k ih=>
  intro i h tk c acc as hk hi st l1 l2 kp gS ha al G
  have lx:i<xs.size:=by omega
  have ly:i<ys.size:=by omega
  have sz:acc.size=i:=by rw[<-Q1u,ha,Q0q,al]
  have sl:S<h.objs.size:=Q0m gS
  refine Q8o Z3l ?_
  rw[Q1t.under_plainId Q6p _]
  show Q1d _ A.in1 (pyNext (.ref z) >>= _) _ _ _
  refine Q0a (y5m (s:={s with heap:=h,toks:=tk}) O st sl l1 l2 (Q4d lx) (Q4d ly) fun h' st' gp up=>?_)
  dsimp only at gp up ⊢
  have gS':=up S _ (nS _ O.l1).symm (nS _ O.l3).symm (nS _ O.l4).symm (nS _ O.l5).symm gS
  have ot:∀x o,x≠S->h'.get? x=some o->(h'.update S (Q2c (·.push (Q0b.ref h.objs.size)))).get? x=some o:=fun x o q e=>(Q1h.get?_update_other _ _ (Q4a q)).trans e
  show Q1d _ A.in1 (updateSeq S (·.push (Q0b.ref h.objs.size)) >>= _) _ _ _
  refine Q0a ?_
  refine Q7a gS' rfl (Q0f ⟨Z2n Q6p _,ih (i+1) _ tk _ (acc.push (Q0b.ref h.objs.size)) (as++[h.objs.size]) (by omega) (by omega) (st'.keep ot O.l1 O.l2 O.l3 O.l4 O.l5)
   (l1.at fun o e=>ot _ o (nS _ O.l6) (up _ o D.b2 D.b3 D.b4 D.b5 e)) (l2.at fun o e=>ot _ o (nS _ O.l7) (up _ o D.b6 D.b7 D.b8 D.b9 e))
   (fun x o q1 q2 q3 q4 q5 e=>ot x o q1 (up x o q2 q3 q4 q5 (kp x o q1 q2 q3 q4 q5 e))) (Q1h.get?_update_self _ gS' rfl) (by rw [Q3k,ha,Q1w];rfl) (by rw [Q0x,al];rfl) ⟨?_,?_,?_⟩⟩) (by rw [sz];omega) (by show (acc.push (Q0b.ref h.objs.size)).size<=Q0l+1;rw [Q7q,sz];omega)
  ·refine Q8e.mpr ⟨G.rise,List.pairwise_singleton _ _,fun c1 h1 c2 h2=>?_⟩
   rw[Q0i.mp h2]
   obtain⟨j,hj⟩:=Z1m.mp h1
   obtain⟨_,_,_,_,e⟩:=G.pairs j c1 hj
   exact Q0m e
  ·intro c1 h1
   rcases Q0n.mp h1 with h1|h1
   ·exact G.above c1 h1
   ·rw[Q0i.mp h1];exact sl
  ·intro j c1 hj
   rcases Nat.lt_trichotomy j as.length with q|q|q
   ·rw[Q0o q]at hj
    obtain⟨x,y,e1,e2,e3⟩:=G.pairs j c1 hj
    have lc:=G.above c1 (Q3g hj)
    exact⟨x,y,e1,e2,ot c1 _ (Q1s lc) (up c1 _ (Q1s (Q3w O.l1 lc)) (Q1s (Q3w O.l3 lc)) (Q1s (Q3w O.l4 lc)) (Q1s (Q3w O.l5 lc)) e3)⟩
   ·subst q
    have e:h.objs.size=c1:=by simpa using hj
    subst e
    rw[al]
    exact⟨_,_,Q4d lx,Q4d ly,ot _ _ (Q1s sl) gp⟩
   ·have e:(as++[h.objs.size])[j]?=none:=List.getElem?_eq_none (by rw[Q0x,Q3c];omega)
    rw[e]at hj;cases hj
end
theorem z6c:typeLookup (.type "zip") "__len__" = pure none:=by rw[Z5z,Z3m];kernel_rfl
theorem z4j:typeLookup (.type "zip") "__length_hint__" = pure none:=by rw[Z5z,Z3m];kernel_rfl
section
variable{prog:Q1e}{w:Q1x}{A:Q1t}{s:Q0d}{R:Z4o->Q0d->Prop}
theorem z6a{tp tq:Bool}{z ti to j1 j2 a b S:Q0u}{xs ys:Array Q0b}{n c₀:Nat}(gh:A.handled=none)(O:ZLo tp tq z ti to j1 j2 a b S)(hn:n=min xs.size ys.size)(hz:n<=Q0l)(res:Q0b)
  (st:ZAt tp tq z ti to j1 j2 a b 0 s.heap) (l1:ZSrc tp a xs s.heap) (l2:ZSrc tq b ys s.heap) (gS:s.heap.get? S=some {cls:=.type "list",data:=.seq #[] c₀})
  (hR:∀h' tk acc c as,(∀x o,x≠S->x≠z->x≠to->x≠j1->x≠j2->s.heap.get? x=some o->h'.get? x=some o)->h'.get? S=some {cls:=.type "list",dict:=none,data:=.seq acc c,slots:=#[]}->as.length=n->ZG xs ys S h' as->acc.toList=as.map Q0b.ref->R (.ok (.ret res)) {s with heap:=h',toks:=tk}) :
  Q1d (model prog w) A.in1 (Q1g.List.listExtendWith (.ref S) (.ref z) res)
   (fun fin s'=>match fin with|.done f=>R (.ok f) s'|.again c'=>c'.quiet=true/\codeAny (model prog w) A c' R s') (fun e s'=>R (.error e) s') s:=by
 have hT:s.TypeIs (.ref z) "zip" :=⟨_,st.gz,rfl⟩
 have Sz:S≠z:=Q1s O.l1
 unfold Q1g.List.listExtendWith
 refine Q0a (wpAny_typeOf hT ?_)
 have q1:Q1g.List.listSameRef (.ref S) (.ref z)=false:=by simp[Q1g.List.listSameRef,Sz]
 have q2:(Q0b.type "zip" == Q0b.type "list")=false:=by decide
 have q3:(Q0b.type "zip" == Q0b.type "tuple")=false:=by decide
 simp only[q1,q2,q3,Z4p,Q1j,if_false]
 refine Q0a (wpAny_pyIter_zip st.gz (Q0a (Q2e ?_)))
 unfold Q1g.List.listLengthHint
 refine Q0a (Q6x hT z6c ?_)
 show Q1d _ A.in1 (specialOf (Q0b.ref z) (Q0j "__length_hint__") >>= _) _ _ _
 refine Q0a (Q6x hT z4j (Q0f ?_))
 show Q1d _ A.in1 (rule "list.extend.makes-room" >>= fun _=>Q1g.List.listTouch (.ref S) >>= fun _=>again (.builtin "list.extend.loop" ⟨[.ref S,.ref z,res],[]⟩)) _ _ _
 refine Q0a (Q3p (Q0a ?_))
 show Q1d _ A.in1 (updateSeq S (·.push .none) >>= fun _=>updateSeq S (·.pop)) _ _ _
 refine Q0a (Q7a gS rfl ?_)
 have gS2:=Q1h.get?_update_self (Q2c (·.push Q0b.none)) gS rfl
 refine Q7a (hz:=by seq_fits) gS2 rfl ?_
 have gS3:=Q1h.get?_update_self (Q2c (·.pop)) gS2 rfl
 have ot:∀x o,x≠S->s.heap.get? x=some o->((s.heap.update S (Q2c (·.push Q0b.none))).update S (Q2c (·.pop))).get? x=some o:=fun x o q e=>(Q1h.get?_update_other _ _ (Q4a q)).trans ((Q1h.get?_update_other _ _ (Q4a q)).trans e)
 obtain⟨gz,gi,go,g1,g2⟩:=st
 have st':ZL tp tq z ti to j1 j2 a b S 0 _:=ZL.keep ⟨.inl gz,gi,go,g1,g2⟩ ot O.l1 O.l2 O.l3 O.l4 O.l5
 exact Q0f ⟨Z2n Q6p _,y5k (s:=s) (h₁:=s.heap) gh O hn hz res hR n 0 _ s.toks _ #[] [] (Q6u _) (Q1f _) st' (l1.at fun o e=>ot _ o (Q0y O.l6) e) (l2.at fun o e=>ot _ o (Q0y O.l7) e) (fun x o q _ _ _ _ e=>ot x o q e) gS3 rfl rfl ⟨Q8s.nil,fun _ m=>(by cases m),fun j c hj=>by simp at hj⟩⟩
theorem y5n{tp tq:Bool}{z ti to j1 j2 a b S:Q0u}{xs ys:Array Q0b}{n:Nat}(gh:A.handled=none)(O:ZLo tp tq z ti to j1 j2 a b S)(hn:n=min xs.size ys.size)(hz:n<=Q0l)
  (st:ZAt tp tq z ti to j1 j2 a b 0 s.heap) (l1:ZSrc tp a xs s.heap) (l2:ZSrc tq b ys s.heap) (gS:s.heap.get? S=some {cls:=.type "list",data:=.seq #[]})
  (hR:∀h' tk acc c as,(∀x o,x≠S->x≠z->x≠to->x≠j1->x≠j2->s.heap.get? x=some o->h'.get? x=some o)->h'.get? S=some {cls:=.type "list",dict:=none,data:=.seq acc c,slots:=#[]}->as.length=n->ZG xs ys S h' as->acc.toList=as.map Q0b.ref->R (.ok (.ret .none)) {s with heap:=h',toks:=tk}) :
  Q1d (model prog w) A.in1 (Q1g.«list.__init__» ⟨[.ref S,.ref z],[]⟩)
   (fun fin s'=>match fin with|.done f=>R (.ok f) s'|.again c'=>c'.quiet=true/\codeAny (model prog w) A c' R s') (fun e s'=>R (.error e) s') s:=by
 show Q1d _ A.in1 (do let was <-Q1g.List.listItems (.ref S);Q1g.List.listUpdate (.ref S) (fun _=>#[]);letGo was.toList.reverse;Q1g.List.listExtendWith (.ref S) (.ref z) .none) _ _ s
 refine Q0a ?_
 unfold Q1g.List.listItems
 refine Q0a (Q3j gS rfl (Q0f ?_))
 show Q1d _ A.in1 (updateSeq S (fun _=>#[]) >>= fun _=>letGo (#[]:Array Q0b).toList.reverse >>= fun _=>Q1g.List.listExtendWith (.ref S) (.ref z) .none) _ _ s
 refine Q0a (Q7a gS rfl ?_)
 have gS2:=Q1h.get?_update_self (Q2c (fun _=>(#[]:Array Q0b))) gS rfl
 have ot:∀x o,x≠S->s.heap.get? x=some o->(s.heap.update S (Q2c (fun _=>(#[]:Array Q0b)))).get? x=some o:=fun x o q e=>(Q1h.get?_update_other _ _ (Q4a q)).trans e
 refine Q0a (Q7u ?_)
 obtain⟨gz,gi,⟨p,q,go⟩,g1,g2⟩:=st
 refine z6a (s:={s with heap:=s.heap.update S (Q2c (fun _=>(#[]:Array Q0b)))}) gh O hn hz .none ⟨ot _ _ (Q0y O.l1) gz,ot _ _ (Q0y O.l2) gi,⟨p,q,ot _ _ (Q0y O.l3) go⟩,g1.at fun o e=>ot _ _ (Q0y O.l4) e,g2.at fun o e=>ot _ _ (Q0y O.l5) e⟩
  (l1.at fun o e=>ot _ o (Q0y O.l6) e) (l2.at fun o e=>ot _ o (Q0y O.l7) e) gS2 fun h' tk acc c as kp gS' hl G ha=>hR h' tk acc c as (fun x o r1 r2 r3 r4 r5 e=>kp x o r1 r2 r3 r4 r5 (ot x o r1 e)) gS' hl G ha
end
section
variable{prog:Q1e}{w:Q1x}{A:Q1t}{E:Q0b->Q0d->Prop}{s:Q0d}
theorem y0w{tp tq:Bool}{z ti to j1 j2 a b:Q0u}{xs ys:Array Q0b}{n:Nat}{Q:Q0b->Q0d->Prop}(gh:A.handled=none)(D:ZAp z ti to j1 j2 a b)(m1:a≠ti)(m2:b≠ti)(hn:n=min xs.size ys.size)(hz:n<=Q0l)
  (st:ZAt tp tq z ti to j1 j2 a b 0 s.heap) (l1:ZSrc tp a xs s.heap) (l2:ZSrc tq b ys s.heap)
  (hQ:∀h' tk acc c as,(∀x o,x≠z->x≠to->x≠j1->x≠j2->s.heap.get? x=some o->h'.get? x=some o)->h'.get? s.heap.objs.size=some {cls:=.type "list",dict:=none,data:=.seq acc c,slots:=#[]}->as.length=n->ZG xs ys s.heap.objs.size h' as->acc.toList=as.map Q0b.ref->Q (.ref s.heap.objs.size) {s with heap:=h',toks:=tk}) :
  Q1d (model prog w) A (call (.type "list") [.ref z]) Q E s:=by
 refine callType_codes (Q₁:=fun ob s1=>ob=.ref s.heap.objs.size/\s1={s with heap:=s.heap.push {cls:=.type "list",data:=.seq #[]}}) F.called_list (F.typeCall_list_1 _) F.entry_list_init (code_list_new _ ⟨rfl,rfl⟩) fun ob s1 h1=>?_
 obtain⟨rfl,rfl⟩:=h1
 have gS:(s.heap.push {cls:=.type "list",data:=.seq #[]}).get? s.heap.objs.size=some {cls:=.type "list",data:=.seq #[]}:=Q0w _ rfl
 have up:∀x o,s.heap.get? x=some o->(s.heap.push {cls:=.type "list",data:=.seq #[]}).get? x=some o:=fun x o e=>Q0c _ e
 obtain⟨gz,gi,⟨p,q,go⟩,g1,g2⟩:=st
 have la:a<s.heap.objs.size:=by
  unfold ZSrc at l1
  split at l1
  ·obtain⟨_,e,_⟩:=l1;exact Q0m e
  ·obtain⟨_,e,_⟩:=l1;exact Q0m e
 have lb:b<s.heap.objs.size:=by
  unfold ZSrc at l2
  split at l2
  ·obtain⟨_,e,_⟩:=l2;exact Q0m e
  ·obtain⟨_,e,_⟩:=l2;exact Q0m e
 have O:ZLo tp tq z ti to j1 j2 a b s.heap.objs.size:=⟨D,Q0m gz,Q0m gi,Q0m go,by obtain⟨_,e,_⟩:=g1.get;exact Q0m e,by obtain⟨_,e,_⟩:=g2.get;exact Q0m e,la,lb,m1,m2⟩
 refine⟨⟨_,gS,rfl⟩,F.args_list_init_2 _ _,y5n (s:={s with heap:=s.heap.push {cls:=.type "list",data:=.seq #[]}}) (A:=A.in1) gh O hn hz ⟨up _ _ gz,up _ _ gi,⟨p,q,up _ _ go⟩,g1.at fun o e=>up _ _ e,g2.at fun o e=>up _ _ e⟩ (l1.at fun o e=>up _ o e) (l2.at fun o e=>up _ o e) gS fun h' tk acc c as kp gS' hl G ha=>⟨rfl,hQ h' tk acc c as (fun x o r2 r3 r4 r5 e=>kp x o (Q0y (Q0m e)) r2 r3 r4 r5 (up x o e)) gS' hl G ha⟩⟩
end
theorem q9g{X:Cx}{pins:List (Q0u×Obj)}{σ:St}{s:Q0d}:∀(as:List Q0u)(vs:List (V×V))(H:Hp),Inv X pins σ H s->as.length=vs.length->as.Nodup->(∀a∈as,FpOk X pins H a/\X.s₀.heap.objs.size<=a)->
  (∀(j:Nat) a p,as[j]?=some a->vs[j]?=some p->∃u v,RelV p.1 u/\RelV p.2 v/\Q5t s.heap a u v)->∃H',Inv X pins σ H' s/\(∀c,c∉as->H' c=H c)/\∀(j:Nat) a p,as[j]?=some a->vs[j]?=some p->H' a=some (.tup [p.1,p.2])
 |[],_,H,I,_,_,_,_=>⟨H,I,fun _ _=>rfl,fun j a p h=>by simp at h⟩
 |a::as,[],H,I,hl,_,_,_=>by simp at hl
 |a::as,p::vs,H,I,hl,nd,hf,hp=>by
  obtain⟨n1,n2⟩:=Q1r.mp nd
  obtain⟨u,v,ru,rv,g⟩:=hp 0 a p rfl rfl
  obtain⟨f1,f2⟩:=hf a (by simp)
  have I1:=I.trackO (ob:=.tup [p.1,p.2]) f1 f2 ⟨by show 2<=Q0l;decide,[u,v],.cons ru (.cons rv .nil),⟨_,g,rfl,_,rfl⟩⟩
  obtain⟨H',I',k1,k2⟩:=q9g as vs _ I1 (by simpa using hl) n2 (fun c hc=>⟨⟨by rw[q0g (fun(e:c=a)=>n1 (by rw[<-e];exact hc))];exact(hf c (by simp[hc])).1.1,(hf c (by simp[hc])).1.2⟩,(hf c (by simp[hc])).2⟩) fun j c q h1 h2=>hp (j+1) c q (by simpa using h1) (by simpa using h2)
  refine⟨H',I',fun c hc=>?_,fun j c q h1 h2=>?_⟩
  ·simp only[Q1b,not_or]at hc
   rw[k1 c hc.2,q0g hc.1]
  ·cases j with
   |zero=>
    simp at h1 h2
    subst h1 h2
    rw[k1 a n1]
    exact q0u
   |succ j=>exact k2 j c q (by simpa using h1) (by simpa using h2)
def x4s(K:Q2p)(ta:TA):TE:=fun σ H Q=>ta σ H fun vs H1=>∃tp tq a b xs ys,vs=[.ref a,.ref b]/\Sq tp K H1 a xs/\Sq tq K H1 b ys/\
 ∀(as:List Q0u)(H2:Hp)(p:Q0u),as.length=min xs.length ys.length->(∀c o,H1 c=some o->H2 c=some o)->(∀(j:Nat) c x y,as[j]?=some c->xs[j]?=some x->ys[j]?=some y->H2 c=some (.tup [x,y]))->H2 p=none->Q (.ref p) (upd H2 p (.lst (as.map V.ref)))
theorem y7s{X:Cx}{a b:Expr}{ta:TA}{p p2 pos2 pos:Pos}(hc:X.calm=true)(ha:PA X [a,b] ta)(hm:X.mg "list" = none)(hm2:X.mg "zip" = none)(hg:Gl X "list" :=by rfl)(hg2:Gl X "zip" :=by rfl)
  (he:Q1m [.Call (.Name "zip" p2) [a,b] [] pos2] X.env=(false,eval (.Call (.Name "zip" p2) [a,b] [] pos2) X.env)::Q1m [] X.env:=by rfl) (hs:Q1m [a,b] X.env=[(false,eval a X.env),(false,eval b X.env)]:=by rfl) (hs2:Q1m [b] X.env=[(false,eval b X.env)]:=by rfl) :
  PE X (.Call (.Name "list" p) [.Call (.Name "zip" p2) [a,b] [] pos2] [] pos) (x4s X.K ta):=by
 intro pins s σ H Q I h
 refine Q4f (q4n I hg hm boot_list ?_)
 refine Q3b ?_ he rfl
 rw[he]
 show Q1d _ _ (spliced ((false,eval (.Call (.Name "zip" p2) [a,b] [] pos2) X.env)::backTo pos (Q1m [] X.env))) _ _ s
 refine Q8n (Call_ (q4n I hg2 hm2 y3y (Q3b (thn (ha pos2 pins s σ H _ I h) fun us s1 ⟨vs,H1,I1,r1,q1⟩=>?_) (by rw[hs,hs2]) (by rw[hs2];rfl))))
 obtain⟨tp,tq,a,b,xs,ys,e,sx,sy,q⟩:=q1
 subst e
 cases r1 with
 |cons r rr=>
  cases rr with
  |cons r' rr=>
   cases rr
   cases r
   cases r'
   obtain⟨is,rx,lx,zx⟩:=I1.sq sx
   obtain⟨js,ry,ly,zy⟩:=I1.sq sy
   have d:∀i j:Nat,i≠j->s1.heap.objs.size+i≠s1.heap.objs.size+j:=fun i j q z=>q (Nat.add_left_cancel z)
   have fr:∀c,s1.heap.objs.size<=c->FpOk X pins H1 c:=fun c hle=>I1.fpOk hle (I1.hok.fresh hle)
   have fk:∀k,FpOk X pins H1 (s1.heap.objs.size+k):=fun k=>fr _ (Q5l _ _)
   have D:ZAp (s1.heap.objs.size+4) (s1.heap.objs.size+2) (s1.heap.objs.size+3) s1.heap.objs.size (s1.heap.objs.size+1) a b:=⟨d 2 4 (by decide),d 3 4 (by decide),d 0 4 (by decide),d 1 4 (by decide),d 2 3 (by decide),d 2 0 (by decide),d 2 1 (by decide),d 3 0 (by decide),d 3 1 (by decide),d 0 1 (by decide),I1.sq_fp sx (fk 4),I1.sq_fp sx (fk 3),I1.sq_fp sx (fk 0),I1.sq_fp sx (fk 1),I1.sq_fp sy (fk 4),I1.sq_fp sy (fk 3),I1.sq_fp sy (fk 0),I1.sq_fp sy (fk 1)⟩
   have ex:=rx.length
   have ey:=ry.length
   refine y9m lx ly fun h' st kk=>Q8x ?_
   refine y0w (s:={s1 with heap:=h' }) (n:=min xs.length ys.length) (I1.ok.hd hc) D (I1.sq_fp sx (fk 2)) (I1.sq_fp sy (fk 2)) (by simp[ex,ey]) (by omega) st (lx.at fun o e=>kk _ o e) (ly.at fun o e=>kk _ o e) fun h2 tk acc c as kp gS hl G hacc=>?_
   dsimp only at kp gS G ⊢
   have big:∀c,s1.heap.objs.size+4<c->s1.heap.objs.size<=c:=fun c q=>by omega
   have hS:s1.heap.objs.size+4<h'.objs.size:=Q0m st.gz
   have I2:Inv X pins σ H1 {s1 with heap:=h2,toks:=tk}:=I1.kept (t':=tk) fun x o e=>by
    have lt:=Q0m e
    have ne:∀k,x≠s1.heap.objs.size+k:=fun k=>Q0y (Q1a lt (Q5l _ _))
    exact kp x o (ne 4) (ne 3) (ne 0) (ne 1) (kk x o e)
   have ab:∀c∈as,h'.objs.size<c:=G.above
   obtain⟨H2,I3,k1,k2⟩:=q9g as (xs.zip ys) H1 I2 (by rw[List.length_zip];exact hl) (G.rise.imp fun q=>Q0y q) (fun c m=>⟨fr c (by have:=ab c m;omega),Q1l I1.sz (by have:=ab c m;omega)⟩) fun j c pr h1 h3=>by
    obtain⟨u,v,e1,e2,e3⟩:=G.pairs j c h1
    obtain⟨z1,z2⟩:=Z0i.mp h3
    obtain⟨u',f1,f2⟩:=rx.get z1
    obtain⟨v',f3,f4⟩:=ry.get z2
    rw[Z1n]at e1 e2
    rw[f1]at e1;rw[f3]at e2
    cases e1;cases e2
    exact⟨u,v,f2,f4,e3⟩
   have nS:h'.objs.size∉as:=fun m=>Q3n _ (ab _ m)
   have H2S:H2 h'.objs.size=none:=by rw[k1 _ nS];exact I1.hok.fresh (by omega)
   have fS:FpOk X pins H2 h'.objs.size:=I1.fpOk (by omega) H2S
   have hv:Vals (as.map V.ref) acc.toList:=by
    rw[hacc]
    clear hacc hl G ab k1 k2 nS I3
    induction as with
    |nil=>exact .nil
    |cons c r ih=>exact .cons rfl ih
   have I4:=I3.trackO (D:=h'.objs.size) (ob:=.lst (as.map V.ref)) fS (Q1l I1.sz (by omega)) ⟨by rw[Q0q,hl];omega,acc.toList,c,hv,gS⟩
   refine⟨.ref h'.objs.size,_,I4,rfl,q as H2 h'.objs.size hl (fun x o e=>?_) (fun j x u v h1 h3 h4=>k2 j x (u,v) h1 (Z0i.mpr ⟨h3,h4⟩)) H2S⟩
   rw[k1 x fun m=>?_]
   ·exact e
   ·have:=I1.hok.fresh (show s1.heap.objs.size<=x by have:=ab x m;omega)
    rw[this]at e;cases e
section
variable{X:Cx}
theorem y2x:OpR X (binaryOp .FloorDiv) (rI (fun _ j=>0<j/\j<2 ^ 100) fun i j=>.int (i / j)):=opI fun i j _ _ s Q E hc q=>by
 refine floordiv_int (by omega) ?_ (.inl (PyProof.noPylong_of_log2 ?_))
 ·rw[Int.fdiv_eq_ediv_of_nonneg _ (by omega)];exact q
 ·have:j.natAbs<2 ^ 100:=by omega
  have h2:j.natAbs.log2<100:=(Nat.log2_lt (by omega)).mpr this
  omega
theorem z5o{h:Q1h}{sl:Q0u}{vl vu:Q0b}{lo hi:Option Int}(hs:h.IsSliceOf sl vl vu .none)(pl:Z0d vl lo)(pu:Z0d vu hi):∃l u:Option (Int×Tok),h.IsSlice sl l u none/\l.map (·.1)=lo/\u.map (·.1)=hi:=by
 cases pl with
 |none=>
  cases pu with
  |none=>exact⟨none,none,hs,rfl,rfl⟩
  |int i t=>exact⟨none,some (_,_),hs,rfl,rfl⟩
 |int i t=>
  cases pu with
  |none=>exact⟨some (_,_),none,hs,rfl,rfl⟩
  |int i t=>exact⟨some (_,_),some (_,_),hs,rfl,rfl⟩
theorem x0q:SlR X (fun x lo hi H Q=>∃z:Str,x=.str z/\z.length<=Q0l/\Q (.str (Q7v z lo hi)) H):=by
 intro pins s σ H x v vl vu lo hi sl Q I rx hs pl pu h
 obtain⟨z,rfl,hz,q⟩:=h
 obtain⟨t,rfl⟩:=rx
 obtain⟨l,u,hsl,rfl,rfl⟩:=z5o hs pl pu
 refine⟨"str",_,F.slot_str_getitem.lookup,Z5c _ _ _,wpAny_getItem_str_slice (l:=l) (u:=u) (st:=none) hsl rfl ?_⟩
 exact post_val_or_str ⟨Q1l (Txt.slice_le z _ _) hz,fun t' k=>⟨.str _,H,I.tok k,⟨t',rfl⟩,q⟩⟩
theorem y3e:X.calm=true->MtR X "str.index" (fun x xs H Q=>∃z y:Str,x=.str z/\xs=[.str y]/\0<=Z1e z y/\Q (.int (Z1e z y)) H):=by
 intro hc pins s σ H x xs v us Q I rx r h
 obtain⟨z,y,rfl,rfl,hf,q⟩:=h
 obtain⟨t,rfl⟩:=rx
 obtain⟨u,rfl,ru⟩:=q7t r
 obtain⟨t',rfl⟩:=ru
 exact index_or (I.ok.hd hc) (fun e=>by rw[e]at hf;exact absurd hf (by decide)) fun _ _=>⟨.int _,H,I.tok _,⟨_,rfl⟩,q⟩
end
section
variable{X:Cx}
end
theorem boot_list:bootBuiltins "list" = some (.type "list"):=by kernel_rfl
theorem z5x:bootBuiltins "tuple" = some (.type "tuple"):=by kernel_rfl
theorem y4a:bootBuiltins "int" = some (.type "int"):=by kernel_rfl
inductive Ty(H:Hp):V->String->Prop where
 |non:Ty H .non "NoneType"
 |bl (x:Bool):Ty H (.bl x) "bool"
 |int (i:Int):Ty H (.int i) "int"
 |str (x:Str):Ty H (.str x) "str"
 |lst {a:Q0u} {xs:List V} (e:H a=some (.lst xs)):Ty H (.ref a) "list"
 |tup {a:Q0u} {xs:List V} (e:H a=some (.tup xs)):Ty H (.ref a) "tuple"
section
variable{X:Cx}
end
structure Cal(P:Q1e)(w:Q1x)(K:Q2p)(mg:Str->Option Q0b)(base:Q1h)(k:Nat)(name:Str)(ps:List Str)(sp:Sp)(f:Q0u)(fd:Q2z):Prop where
 G:FnOk P w K mg base (CXE P w) k f fd ps sp
 m:mg name=some (.ref f)
 kp:Q6k K (.ref f)=true
 b:z2t K fd ps []
structure Loc2(K:Q2p)(mg:Str->Option Q0b)(name:Str)(st:Q5q)(ps:List Str)(f:Q0u)(fd:Q2z):Prop where
 F:Fun K name name st f fd
 m:mg name=some (.ref f)
 b:z2t K fd ps []
theorem Loc2.cal{P:Q1e}{w:Q1x}{K:Q2p}{mg:Str->Option Q0b}{base:Q1h}{k:Nat}{name:Str}{st:Q5q}{ps:List Str}{sp:Sp}{f:Q0u}{fd:Q2z}(l:Loc2 K mg name st ps f fd)(G:FnOk P w K mg base (CXE P w) k f fd ps sp):Cal P w K mg base k name ps sp f fd:=⟨G,l.m,l.F.kp,l.b⟩
end L2
namespace My
open PySem L2
def wd(ks:List Nat):Str:=⟨(ks.map (97+·)).toArray⟩
theorem z1k{x y:Str}(h:x.cps.toList=y.cps.toList):x=y:=by
 obtain⟨a⟩:=x
 obtain⟨b⟩:=y
 have:a=b:=by rw[<-Array.toList_inj];exact h
 rw[this]
theorem y5q(ks:List Nat):(wd ks).cps.toList=ks.map (97+·):=rfl
theorem y9w(ks:List Nat):(wd ks).length=ks.length:=by simp[wd,Q9e]
theorem y4b(x y:Str):(x++y).cps.toList=x.cps.toList++y.cps.toList:=by
 show(x.cps++y.cps).toList=_
 simp
theorem q7g:(Q0j "abcdefghijklmnopqrstuvwxyz")=wd (Q1q 26):=by decide +kernel
theorem q7h{i:Int}(h0:0<=i)(h1:i<26):atI (Q0j "abcdefghijklmnopqrstuvwxyz").cps.toList i=some (97+i.toNat):=by
 obtain⟨m,rfl⟩:∃m:Nat,i=(m:Int):=⟨i.toNat,by omega⟩
 have hm:m<26:=by omega
 rw[q7g]
 refine y0z ?_
 rw[y5q]
 simp[hm]
theorem q6j:(Q0j "abcdefghijklmnopqrstuvwxyz").length<=Q0l:=by rw[q7g,y9w];decide
theorem q9x:∀k:Nat,k<26->Z1e (Q0j "abcdefghijklmnopqrstuvwxyz") (wd [k])=(k:Int):=by decide +kernel
theorem x3i(lo hi:Option Int)(n:Nat):Q1g.Str.strSliceIndices lo hi 1 n=(Q1q (HT.sIx n n hi-HT.sIx n 0 lo)).map fun k=>HT.sIx n 0 lo+k:=by
 have clip:∀(v:Option Int)(d:Nat),(match v with|none=>((d:Nat):Int)|some i=>max 0 (min (if i<0 then i+(n:Int)else i) (n:Int)))=((HT.sIx n d v:Nat):Int):=by
  intro v d
  cases v with
  |none=>rfl
  |some i=>
   unfold HT.sIx
   dsimp only
   split
   ·omega
   ·omega
 unfold Q1g.Str.strSliceIndices
 simp only[show((1:Int) > 0) by decide,if_true]
 have e1:=clip lo 0
 have e2:=clip hi n
 simp only[Int.ofNat_zero]at e1
 have key:∀a b a' b':Int,a=a'->b=b'->sliceRange a b 1=sliceRange a' b' 1:=fun a b a' b' h1 h2=>by rw[h1,h2]
 refine(key _ _ _ _ e1 e2).trans ?_
 unfold sliceRange
 simp only[show((1:Int) > 0) by decide,if_true]
 have e3:(if((HT.sIx n 0 lo:Nat):Int)<((HT.sIx n n hi:Nat):Int)then(((HT.sIx n n hi:Nat):Int)-((HT.sIx n 0 lo:Nat):Int)+1-1) / 1 else 0).toNat=HT.sIx n n hi-HT.sIx n 0 lo:=by
  split
  ·rw[Z5s];omega
  ·omega
 rw[e3]
 apply Q3y
 intro k _
 omega
theorem y7n(xs:List Nat)(a c:Nat)(hc:a+c<=xs.length):((Q1q c).map fun k=>a+k).filterMap (fun i=>xs[i]?)=(xs.drop a).take c:=by
 induction c generalizing a with
 |zero=>simp
 |succ c ih=>
  have ha:a<xs.length:=by omega
  rw[Z1f,Q0v,Q3v,Q6h]
  have e0:xs[a+0]?=some xs[a]:=by simp[ha]
  rw[e0]
  dsimp only
  rw[Q2g ha,List.take_succ_cons]
  congr 1
  have:=ih (a+1) (by omega)
  rw[<-this]
  congr 1
  apply Q3y
  intro k _
  simp only[Q6c]
  omega
theorem q6y(x:Str)(lo hi:Option Int):(Q7v x lo hi).cps.toList=(x.cps.toList.drop (HT.sIx x.length 0 lo)).take (HT.sIx x.length x.length hi-HT.sIx x.length 0 lo):=by
 have hn:x.cps.toList.length=x.length:=by simp[Q9e]
 have hb:=HT.sIx_le x.length x.length (Q0k _) hi
 have ha:=HT.sIx_le x.length 0 (Q1f _) lo
 unfold Q7v
 rw[x3i,Q0q,Q5w]
 split
 ·rename_i h
  have h':HT.sIx x.length x.length hi-HT.sIx x.length 0 lo=x.length:=by simpa using h
  have h2:HT.sIx x.length 0 lo=0\/x.length=0:=by omega
  rw[h']
  rcases h2 with h2|h2
  ·rw[h2,Q6v,Q3z (by omega)]
  ·have:x.cps.toList=[]:=Q3t.mp (by omega)
   rw[this];simp
 ·show List.filterMap _ _=_
  have e:(fun(i:Nat)=>x.cps[i]?)=fun i=>x.cps.toList[i]?:=by funext i;simp
  rw[e]
  by_cases hle:HT.sIx x.length 0 lo<=HT.sIx x.length x.length hi
  ·exact y7n _ _ _ (by omega)
  ·have:HT.sIx x.length x.length hi-HT.sIx x.length 0 lo=0:=by omega
   rw[this];simp
end My
namespace L2
open PySem PySem.Spec PyProof.Rows
theorem x3x{X:Cx}{scope:Q5b}{N':List Str}{ix:List (Option Nat)}(kind:scope.kind=.function)(cell:∀y∈scope.names,y.2≠.cell)(names:∀y∈scope.names,y.2=.local->scope.names.lookup y.1=some .local)
  (free:(scope.names.all fun y=>!(y.2==.free)||X.env.scope.names.lookup y.1==some .cell||X.env.scope.names.lookup y.1==some .free)=true) (ixs:IxOk X.N X.env.scope scope N' ix):CompOk X scope N' ix:=
 ⟨kind,cell,names,fun y hy e=>by
  have h:=Q4b.mp free y hy
  simp only [e,beq_self_eq_true,Q5p,Bool.false_or,Bool.or_eq_true,beq_iff_eq]at h
  exact h,ixs⟩
section
variable{X:Cx}{K:Q2p}
end
end L2
namespace My
open PySem L2
end My
namespace L2
open PySem PySem.Spec PyProof.Rows
def Its(z:Str):It:=⟨fun i _=>i<z.length,fun i H v H'=>H'=H/\∃c,z.cps[i]?=some c/\v=.str ⟨#[c]⟩,fun i _=>z.length<=i⟩
theorem z6p{P:Q1e}{w:Q1x}{A:Q1t}(hh:A.handled=none)(it:Q0u)(x:Str)(t:Tok):Walks P w A it [it] [it] x.cps.size (SignAt x) fun i h=>h.IsStrIter it (strIterType x) x t i:=by
 unfold strIterType
 split
 ·exact Walks.strAscii hh it x t
 ·exact Walks.strWide hh it x t
theorem x3m{M:Z1b}{A:Q1t}{E:Q0b->Q0d->Prop}{s:Q0d}{tg:Expr}{it:Q0u}{u:Q0b}{x:Str}{t:Tok}{i:Nat}{Q:Unit->Q0d->Prop}(h:s.heap.IsStrIter it (strIterType x) x t i)(hQ:Q () s):Q1d M A (letOwnedTupleGo tg (.ref it) u) Q E s:=by
 obtain⟨o,e,c,d⟩:=h
 refine y0b e c d ?_ hQ
 unfold strIterType
 split<;>decide
theorem y1l{P:Q1e}{w:Q1x}{K:Q2p}{tg:Expr}(it:Q0u)(x:Str)(t:Tok):Turn P w K tg (Its x) [it] it (fun i h=>i<=x.length/\h.IsStrIter it (strIterType x) x t i) where
 mem:=by simp
 obj:=fun i h st b hb=>by
  obtain rfl:=Q0i.mp hb
  obtain⟨_,o,e,c,d⟩:=st
  exact⟨o,e,fun v z=>by rw[d]at z;cases z⟩
 keep:=fun i h h' st k=>by
  obtain⟨hi,o,e,r⟩:=st
  exact⟨hi,o,k it (by simp) o e,r⟩
 item:=by
  intro X hP hw hK hc i pins s σ H E I hf st hg
  subst hP hw hK
  obtain⟨f0,f1,f2,f3,f4,f5⟩:=hf it (by simp)
  have hg':i<x.length:=hg
  refine(z6p (P:=X.prog) (w:=X.w) (I.ok.hd hc) it x t).item i s _ _ hg' st.2 fun v h' tk hv st' kk=>?_
  have I1:Inv X pins σ H {s with heap:=h',toks:=tk}:=I.turned (fun b o hb e=>kk b o (by simpa using hb) e) f0 f1 f3 f4 f5
  obtain⟨c,u,hc',rfl⟩:=hv
  exact⟨_,rfl,x3m (s:={s with heap:=h',toks:=tk}) st' ⟨.str ⟨#[c]⟩,H,I1,⟨u,rfl⟩,⟨rfl,c,hc',rfl⟩,⟨hg',st'⟩,fun b hb=>(hf b hb).1⟩⟩
 done:=by
  intro X hP hw hK hc i pins s σ H E I hf st hg
  subst hP hw hK
  obtain⟨f0,f1,f2,f3,f4,f5⟩:=hf it (by simp)
  have hg':x.length<=i:=hg
  have e:i=x.cps.size:=Nat.le_antisymm st.1 hg'
  subst e
  exact(z6p (P:=X.prog) (w:=X.w) (I.ok.hd hc) it x t).done s _ _ st.2 fun h' tk kk=>⟨rfl,I.turned (fun b o hb e=>kk b o (by simpa using hb) e) f0 f1 f3 f4 f5⟩
 self:=fun A i s Q E st h=>by
  have st':=st.2
  unfold strIterType at st'
  split at st'
  ·exact wpAny_pyIter_striter_ascii st' h
  ·exact wpAny_pyIter_striter_wide st' h
section
variable{X:Cx}{tg:Expr}
end
abbrev TJ:=St->Hp->Str->(Str->Hp->Prop)->Prop
def PJ(X:Cx)(es:List Expr)(t:TJ):Prop:=∀(pins:List (Q0u×Obj))(s:Q0d)(σ:St)(H:Hp)(acc:Str)(Q:Str->Hp->Prop),Inv X pins σ H s->t σ H acc Q->
 Joins (model X.prog X.w) X.A X.xe (evalEach es X.env) acc (fun out s₁=>∃H',Inv X pins σ H' s₁/\Q out H') s
def jNil:TJ:=fun _ H acc Q=>Q acc H
def jStr(x:Str)(t:TJ):TJ:=fun σ H acc Q=>(acc++x).length<=Q0l/\t σ H (acc++x) Q
def jVal(te:TE)(t:TJ):TJ:=fun σ H acc Q=>te σ H fun v H1=>∃x:Str,v=.str x/\x.length<=Q0l/\(acc++x).length<=Q0l/\t σ H1 (acc++x) Q
section
variable{X:Cx}{e:Expr}{es:List Expr}{t:TJ}{te:TE}{pos p2:Pos}
theorem x1p:PJ X [] jNil:=fun _ _ _ H _ _ I h=>⟨H,I,h⟩
theorem x1o{x:Str} {j} (hr:PJ X es t) (he:evalEach (.Constant (.str x) j pos::es) X.env=eval (.Constant (.str x) j pos) X.env::evalEach es X.env:=by rfl):PJ X (.Constant (.str x) j pos::es) (jStr x t):=by
 intro pins s σ H acc Q I h
 rw[he]
 exact Z1x ⟨x,_,rfl,h.1,hr pins _ σ H _ Q (I.tok _) h.2⟩
theorem x1n(h1:PE X e te)(hr:PJ X es t)(he:evalEach (.FormattedValue e (-1) none pos::es) X.env=eval (.FormattedValue e (-1) none pos) X.env::evalEach es X.env:=by rfl):PJ X (.FormattedValue e (-1) none pos::es) (jVal te t):=by
 intro pins s σ H acc Q I h
 rw[he]
 refine FormattedValue_plain (thn (h1 pins s σ H _ I h) fun v s1 hh1=>?_)
 obtain⟨y,H1,I1,r1,x,hx,hz,hz2,q⟩:=hh1
 subst hx
 obtain⟨tk,rfl⟩:=r1
 exact formatField_str (fun t' tk=>⟨x,t',rfl,hz2,hr pins _ σ H1 _ Q (I1.tok tk) q⟩) hz
def y5x(t:TJ):TE:=fun σ H Q=>t σ H Q6l fun out H1=>out.length<=Q0l/\Q (.str out) H1
theorem z8i{v₁ v₂:Expr}(h:PJ X (v₁::v₂::es) t):PE X (.JoinedStr (v₁::v₂::es) pos) (y5x t):=by
 intro pins s σ H Q I hq
 refine wpAny_JoinedStr ?_
 have h1:=h pins s σ H Q6l _ I hq
 have mono:∀(l:List (Sem Q0b))(acc:Str)(s:Q0d){R R':Str->Q0d->Prop},(∀o s,R o s->R' o s)->Joins (model X.prog X.w) X.A X.xe l acc R s->Joins (model X.prog X.w) X.A X.xe l acc R' s:=by
  intro l
  induction l with
  |nil=>intro acc s R R' k h;exact k _ _ h
  |cons x r ih=>intro acc s R R' k h;exact thn h fun v s1 ⟨y,t,e,z,q⟩=>⟨y,t,e,z,ih _ _ k q⟩
 exact mono _ _ _ (fun o s1 ⟨H',I',hz,q⟩=>⟨hz,.str o,H',I'.tok _,⟨_,rfl⟩,q⟩) h1
theorem z8p:OpR X (compareOp .IsNot) (fun x y H Q=>∃a b,x=.bl a/\y=.bl b/\Q (.bl (!decide (a=b))) H):=by
 intro pins s σ H x y v u Q I rx ry h
 obtain⟨a,b,rfl,rfl,q⟩:=h
 cases(show v=Q0b.bool a from rx)
 cases(show u=Q0b.bool b from ry)
 refine wpAny_isNot_plain rfl ⟨.bl (!decide (a=b)),H,I,?_,q⟩
 show Q0b.bool _=Q0b.bool _
 cases a<;>cases b<;>rfl
end
section
variable{X:Cx}
theorem extT(lA:Q0u)(xsA:Array Q0b)(nA:Nat)(tB:Q0u)(ysB:Array Q0b)(nB:Nat)(ddB:Option Q0u)(slB:Array (Option Q0b))(h0:¬(!xsA.isEmpty&&Q1g.List.listTooLong (xsA.size+ysB.size))=true)(h1:xsA.size<=Q0l)(h2:xsA.size+ysB.size<=Q0l+1) :
  Meets (Q1g.«list.extend» ⟨[.ref lA,.ref tB],[]⟩) (fun _ R s=>s.heap.get? lA=some {cls:=.type "list",dict:=none,data:=.seq xsA nA,slots:=#[]}/\s.heap.get? tB=some {cls:=.type "tuple",dict:=ddB,data:=.seq ysB nB,slots:=slB}/\R (.ok (.ret Q0b.none)) {s with heap:=s.heap.update lA (Q2c fun u=>u++ysB),toks:=s.toks}):=
 .of_wp fun prog w A R s h=>by
  obtain⟨hp,g,d,tk,os⟩:=s
  obtain⟨hl,hb,h⟩:=h
  have f1:=AutoSeq1.idx_int
  have f2:=AutoSeq1.sub_tuple_tuple
  have f3:=AutoSeq1.sub_list_list
  have f4:=AutoSeq1.sub_tuple_list
  have f5:=AutoSeq1.sub_list_tuple
  have hz':(xsA++ysB).size<=Q0l+1:=by rw[Z2o];exact h2
  wp_walk using(Q7a hl rfl (hz:=h1) (_hz':=hz')),Q9q hl,Q9q hb
  exact⟨_,rfl,h⟩
theorem y2y:OpR X (binaryOp .Add) (fun x y H Q=>(∃a b ys,x=.ref a/\y=.ref b/\SqT X.K H a []/\SqT X.K H b ys/\Q (.ref b) H)\/x1d X.K x y H Q):=by
 intro pins s σ H x y v u Q I rx ry h
 rcases h with h|h
 ·obtain⟨a,b,ys,rfl,rfl,ha,hb,q⟩:=h
  cases rx
  cases ry
  obtain⟨its,r1,p1,_⟩:=I.tuple ha
  obtain⟨its2,r2,p2,hz⟩:=I.tuple hb
  cases r1
  obtain⟨⟨c1,e1,t1,l1⟩,ho,hc,n,hd⟩:=p1
  obtain⟨⟨c2,e2,t2,l2⟩,ho2,hc2,n2,hd2⟩:=p2
  simp only at hc hd hc2 hd2
  subst hc hd hc2 hd2
  refine Z3h ⟨_,ho,rfl⟩ ⟨_,ho2,rfl⟩ Z0n Z2j Q7c Q6z (Q6o _ _)
   (tuple_addW0 a b _ its2.toArray n n2 e1 e2 l1 l2 (by rfl)) ⟨ho,ho2,⟨.ref b,H,I,rfl,q⟩⟩
 ·exact y8e pins s σ H x y v u Q I rx ry h
end
end L2
namespace Ev
open PySem L2
inductive PV where
 |non|bl (b:Bool)|int (i:Int)|str (x:Str)|ty (n:String)
 |tup (xs:List PV)|frl (xs:List PV)|ref (n:Nat)|exc (c:String)
inductive SO where
 |lst (xs:List PV)|dK (kvs:List (Key×PV))|dN (kvs:List (KTr×PV))|dF (kvs:List (Key×PV))
abbrev q0b:=List SO
abbrev Loc:=List (Option PV)
def SqF(K:Q2p)(H:Hp)(a:Q0u)(xs:List V):Prop:=
 (∃o,H a=some (.frz o (.lst xs)))\/∃(o:Obj)(its:Array Q0b)(n:Nat),K.lookup a=some o/\o.cls=.type "list" /\o.dict=none/\o.data=.seq its n/\its.size<=Q0l/\Vals xs its.toList
theorem SqF.sq{K:Q2p}{H:Hp}{a:Q0u}{xs:List V}(h:SqF K H a xs):SqL K H a xs:=by
 rcases h with⟨o,h⟩|h
 ·exact .inl (.inr ⟨o,h⟩)
 ·exact .inr h
def x6t(K:Q2p)(H:Hp)(a:Q0u)(c:String):Prop:=∃(f:Q1h->Prop)(C:Q0u),H a=some (.ext f)/\Q3f K Q1y (Q0j c)=some (some (.ref C))/\∀h,f h->∃o,h.get? a=some o/\o.cls=.ref C
mutual
def RV(K:Q2p)(H:Hp)(φ:List Q0u):PV->V->Prop
 |.non,v=>v=.non
 |.bl b,v=>v=.bl b
 |.int i,v=>v=.int i
 |.str x,v=>v=.str x
 |.ty n,v=>v=.ty n
 |.tup xs,v=>∃a vs,v=.ref a/\SqT K H a vs/\RVs K H φ xs vs
 |.frl xs,v=>∃a vs,v=.ref a/\SqF K H a vs/\RVs K H φ xs vs
 |.ref n,v=>∃a,v=.ref a/\φ[n]?=some a
 |.exc c,v=>∃a,v=.ref a/\x6t K H a c
def RVs(K:Q2p)(H:Hp)(φ:List Q0u):List PV->List V->Prop
 |[],vs=>vs=[]
 |x::xs,vs=>∃y ys,vs=y::ys/\RV K H φ x y/\RVs K H φ xs ys
end
structure Mono(H H':Hp):Prop where
 tup:∀a xs,H a=some (.tup xs)->H' a=some (.tup xs)
 frz:∀a o u,H a=some (.frz o u)->H' a=some (.frz o u)
 ext:∀a f,H a=some (.ext f)->H' a=some (.ext f)
 dic:∀a c ws,H a=some (.dH c ws)->∃ws',H' a=some (.dH c ws')
theorem Mono.refl(H:Hp):Mono H H:=⟨fun _ _ h=>h,fun _ _ _ h=>h,fun _ _ h=>h,fun _ _ ws h=>⟨ws,h⟩⟩
theorem Mono.trans{H H1 H2:Hp}(a:Mono H H1)(b:Mono H1 H2):Mono H H2:=⟨fun c xs h=>b.tup c xs (a.tup c xs h),fun c o u h=>b.frz c o u (a.frz c o u h),fun c f h=>b.ext c f (a.ext c f h),fun c n ws h=>let ⟨ws',h'⟩:=a.dic c n ws h;b.dic c n ws' h'⟩
theorem Mono.new{H:Hp}{p:Q0u}(o:HO)(h:H p=none):Mono H (upd H p o):=⟨fun b u q=>by rw[q0g (q0w q h)];exact q,fun b u v q=>by rw[q0g (q0w q h)];exact q,fun b f q=>by rw[q0g (q0w q h)];exact q,fun b c ws q=>⟨ws,by rw[q0g (q0w q h)];exact q⟩⟩
theorem Mono.rd{H H':Hp}(m:Mono H H'){a:Q0u}{xs:List V}(h:Rd H a (.tup xs)):Rd H' a (.tup xs):=by
 rcases h with h|⟨o,h⟩
 ·exact .inl (m.tup _ _ h)
 ·exact .inr ⟨o,m.frz _ _ _ h⟩
theorem Mono.sqT{K:Q2p}{H H':Hp}(m:Mono H H'){a:Q0u}{xs:List V}(h:SqT K H a xs):SqT K H' a xs:=by
 rcases h with h|h
 ·exact .inl (m.rd h)
 ·exact .inr h
theorem Mono.sqF{K:Q2p}{H H':Hp}(m:Mono H H'){a:Q0u}{xs:List V}(h:SqF K H a xs):SqF K H' a xs:=by
 rcases h with⟨o,h⟩|h
 ·exact .inl ⟨o,m.frz _ _ _ h⟩
 ·exact .inr h
theorem z1p{φ φ':List Q0u}(h:φ <+: φ'){n:Nat}{a:Q0u}(e:φ[n]?=some a):φ'[n]?=some a:=by
 obtain⟨t,rfl⟩:=h
 rw[Q0o (by
  have:=Q0s.mp e
  exact this.1)]
 exact e
section
variable{K:Q2p}{H H':Hp}{φ φ':List Q0u}
mutual
theorem RV.mono(m:Mono H H')(p:φ <+: φ'):∀(v:PV)(x:V),RV K H φ v x->RV K H' φ' v x
 |.non,_,h=>h
 |.bl _,_,h=>h
 |.int _,_,h=>h
 |.str _,_,h=>h
 |.ty _,_,h=>h
 |.tup xs,_,⟨a,vs,e,s,r⟩=>⟨a,vs,e,m.sqT s,RVs.mono m p xs vs r⟩
 |.frl xs,_,⟨a,vs,e,s,r⟩=>⟨a,vs,e,m.sqF s,RVs.mono m p xs vs r⟩
 |.ref _,_,⟨a,e,q⟩=>⟨a,e,z1p p q⟩
 |.exc _,_,⟨a,e,f,C,h1,h2,h3⟩=>⟨a,e,f,C,m.ext _ _ h1,h2,h3⟩
theorem RVs.mono(m:Mono H H')(p:φ <+: φ'):∀(xs:List PV)(vs:List V),RVs K H φ xs vs->RVs K H' φ' xs vs
 |[],_,h=>h
 |x::xs,_,⟨y,ys,e,r,t⟩=>⟨y,ys,e,RV.mono m p x y r,RVs.mono m p xs ys t⟩
end
theorem RVs.length:∀{xs:List PV}{vs:List V},RVs K H φ xs vs->xs.length=vs.length
 |[],_,h=>by rw[show _=[]from h];rfl
 |_::xs,_,⟨y,ys,e,_,t⟩=>by rw[e,Q1k,Q1k,RVs.length t]
theorem RVs.get:∀{xs:List PV}{vs:List V}{i:Nat}{x:PV},RVs K H φ xs vs->xs[i]?=some x->∃y,vs[i]?=some y/\RV K H φ x y
 |[],_,_,_,_,e=>by simp at e
 |x::xs,_,0,x',⟨y,ys,e,r,t⟩,q=>by
  simp at q;subst q;subst e
  exact⟨y,by simp,r⟩
 |x::xs,_,i+1,x',⟨y,ys,e,r,t⟩,q=>by
  subst e
  obtain⟨z,h1,h2⟩:=RVs.get (i:=i) t (by simpa using q)
  exact⟨z,by simpa using h1,h2⟩
theorem RVs.getV:∀{xs:List PV}{vs:List V}{i:Nat}{y:V},RVs K H φ xs vs->vs[i]?=some y->∃x,xs[i]?=some x/\RV K H φ x y
 |[],_,_,_,h,e=>by rw[show _=[]from h]at e;simp at e
 |x::xs,_,0,y',⟨y,ys,e,r,t⟩,q=>by
  subst e;simp at q;subst q
  exact⟨x,by simp,r⟩
 |x::xs,_,i+1,y',⟨y,ys,e,r,t⟩,q=>by
  subst e
  obtain⟨z,h1,h2⟩:=RVs.getV (i:=i) t (by simpa using q)
  exact⟨z,by simpa using h1,h2⟩
theorem RVs.append:∀{xs ys:List PV}{vs ws:List V},RVs K H φ xs vs->RVs K H φ ys ws->RVs K H φ (xs++ys) (vs++ws)
 |[],_,_,_,h,s=>by rw[show _=[]from h];exact s
 |x::xs,_,_,_,⟨y,ys,e,r,t⟩,s=>by subst e;exact⟨y,_,rfl,r,RVs.append t s⟩
theorem RVs.one{x:PV}{y:V}(r:RV K H φ x y):RVs K H φ [x] [y]:=⟨y,[],rfl,r,rfl⟩
theorem RVs.cons{x:PV}{y:V}{xs:List PV}{ys:List V}(r:RV K H φ x y)(t:RVs K H φ xs ys):RVs K H φ (x::xs) (y::ys):=⟨y,ys,rfl,r,t⟩
theorem RVs.take:∀{xs:List PV}{vs:List V}(n:Nat),RVs K H φ xs vs->RVs K H φ (xs.take n) (vs.take n)
 |_,_,0,_=>by simp;exact rfl
 |[],_,_+1,h=>by rw[show _=[]from h];exact rfl
 |x::xs,_,n+1,⟨y,ys,e,r,t⟩=>by subst e;exact⟨y,_,rfl,r,RVs.take n t⟩
theorem RVs.drop:∀{xs:List PV}{vs:List V}(n:Nat),RVs K H φ xs vs->RVs K H φ (xs.drop n) (vs.drop n)
 |_,_,0,h=>h
 |[],_,_+1,h=>by rw[show _=[]from h];exact rfl
 |x::xs,_,n+1,⟨y,ys,e,r,t⟩=>by subst e;exact RVs.drop n t
theorem RVs.set{z:PV}{u:V}(q:RV K H φ z u):∀{xs:List PV}{vs:List V}(n:Nat),RVs K H φ xs vs->RVs K H φ (xs.set n z) (vs.set n u)
 |[],_,_,h=>by rw[show _=[]from h];exact rfl
 |x::xs,_,0,⟨y,ys,e,r,t⟩=>by subst e;exact⟨u,_,rfl,q,t⟩
 |x::xs,_,n+1,⟨y,ys,e,r,t⟩=>by subst e;exact⟨y,_,rfl,r,RVs.set q n t⟩
theorem RVs.eraseIdx:∀{xs:List PV}{vs:List V}(n:Nat),RVs K H φ xs vs->RVs K H φ (xs.eraseIdx n) (vs.eraseIdx n)
 |[],_,_,h=>by rw[show _=[]from h];exact rfl
 |x::xs,_,0,⟨y,ys,e,r,t⟩=>by subst e;exact t
 |x::xs,_,n+1,⟨y,ys,e,r,t⟩=>by subst e;exact⟨y,_,rfl,r,RVs.eraseIdx n t⟩
theorem RVs.dropLast{xs:List PV}{vs:List V}(h:RVs K H φ xs vs):RVs K H φ xs.dropLast vs.dropLast:=by
 rw[Z1o,Z1o,<-h.length]
 exact h.take _
theorem RVs.reverse:∀{xs:List PV}{vs:List V},RVs K H φ xs vs->RVs K H φ xs.reverse vs.reverse
 |[],_,h=>by rw[show _=[]from h];exact rfl
 |x::xs,_,⟨y,ys,e,r,t⟩=>by
  subst e
  rw[Q7b,Q7b]
  exact(RVs.reverse t).append (.one r)
theorem RVs.rep{xs:List PV}{vs:List V}(h:RVs K H φ xs vs):∀n,RVs K H φ (Q1v n xs).flatten (Q1v n vs).flatten
 |0=>rfl
 |n+1=>by
  rw[Q3x,Q3x,Q4y,Q4y]
  exact h.append (RVs.rep h n)
theorem RVs.of_ints:∀(ns:List Int),RVs K H φ (ns.map PV.int) (ns.map V.int)
 |[]=>rfl
 |_::ns=>⟨_,_,rfl,rfl,RVs.of_ints ns⟩
def RKs(K:Q2p)(H:Hp)(φ:List Q0u):List (Key×PV)->List (Key×V)->Prop:=Q2w fun p q=>p.1=q.1/\RV K H φ p.2 q.2
theorem RKs.mono(m:Mono H H')(p:φ <+: φ'){xs:List (Key×PV)}{ys:List (Key×V)}(h:RKs K H φ xs ys):RKs K H' φ' xs ys:=Q2w.mapP h fun _ _ hh1=>by obtain⟨a,b⟩:=hh1;exact(⟨a,RV.mono m p _ _ b⟩)
mutual
def ktP:KTr->PV
 |.int i=>.int i
 |.str x=>.str x
 |.tup xs=>.tup (ktPs xs)
def ktPs:List KTr->List PV
 |[]=>[]
 |x::xs=>ktP x::ktPs xs
end
def RNs(K:Q2p)(H:Hp)(φ:List Q0u):List (KTr×PV)->List (KTr×Q0u×V)->Prop:=Q2w fun p q=>p.1=q.1/\((∃ys,p.1=.tup ys)/\kdep p.1<=8)/\RV K H φ (ktP p.1) (.ref q.2.1)/\RV K H φ p.2 q.2.2
theorem RNs.mono(m:Mono H H')(p:φ <+: φ'){xs:List (KTr×PV)}{ys:List (KTr×Q0u×V)}(h:RNs K H φ xs ys):RNs K H' φ' xs ys:=Q2w.mapP h fun _ _ hh1=>by obtain⟨a,c,b,d⟩:=hh1;exact(⟨a,c,RV.mono m p _ _ b,RV.mono m p _ _ d⟩)
def ObjR(K:Q2p)(H:Hp)(φ:List Q0u):SO->Q0u->Prop
 |.lst xs,a=>∃vs,H a=some (.lst vs)/\RVs K H φ xs vs
 |.dK kvs,a=>∃ws,H a=some (.dK ws)/\RKs K H φ kvs ws
 |.dN kvs,a=>∃c ws,H a=some (.dH c ws)/\RNs K H φ kvs ws
 |.dF kvs,a=>∃o ws,H a=some (.frz o (.dK ws))/\RKs K H φ kvs ws
theorem ObjR.some{o:SO}{a:Q0u}(h:ObjR K H φ o a):∃u,H a=Q2l u:=by
 cases o with
 |lst xs=>obtain⟨vs,e,_⟩:=h;exact⟨_,e⟩
 |dK xs=>obtain⟨vs,e,_⟩:=h;exact⟨_,e⟩
 |dN xs=>obtain⟨_,vs,e,_⟩:=h;exact⟨_,e⟩
 |dF xs=>obtain⟨_,vs,e,_⟩:=h;exact⟨_,e⟩
theorem ObjR.mono(m:Mono H H')(p:φ <+: φ'){o:SO}{a:Q0u}(e:∀u,H a=Q2l u->H' a=Q2l u)(h:ObjR K H φ o a):ObjR K H' φ' o a:=by
 cases o with
 |lst xs=>obtain⟨vs,q,r⟩:=h;exact⟨vs,e _ q,RVs.mono m p _ _ r⟩
 |dK xs=>obtain⟨vs,q,r⟩:=h;exact⟨vs,e _ q,RKs.mono m p r⟩
 |dN xs=>obtain⟨c,vs,q,r⟩:=h;exact⟨c,vs,e _ q,RNs.mono m p r⟩
 |dF xs=>obtain⟨c,vs,q,r⟩:=h;exact⟨c,vs,e _ q,RKs.mono m p r⟩
structure Rel(K:Q2p)(φ:List Q0u)(S:q0b)(H:Hp):Prop where
 len:φ.length=S.length
 nd:φ.Nodup
 obj:∀(n:Nat)(a:Q0u)(o:SO),φ[n]?=some a->S[n]?=some o->ObjR K H φ o a
theorem Rel.at'{S:q0b}(h:Rel K φ S H){n:Nat}{a:Q0u}(e:φ[n]?=some a):∃o,S[n]?=some o/\ObjR K H φ o a:=by
 have hn:n<S.length:=by rw[<-h.len];exact(Q0s.mp e).1
 exact⟨S[n],Q0e hn,h.obj n a _ e (Q0e hn)⟩
theorem Rel.frame{S:q0b}(h:Rel K φ S H){p:Q0u}(o:HO)(hp:H p=none):Rel K φ S (upd H p o):=
 ⟨h.len,h.nd,fun n a o' e q=>(h.obj n a o' e q).mono (Mono.new o hp) (Q0h _) fun u z=>by rw[q0g (q0w z hp)];exact z⟩
theorem Rel.new{S:q0b}(h:Rel K φ S H){p:Q0u}{o:SO}{u:HO}(hp:H p=none)(ho:ObjR K (upd H p u) (φ++[p]) o p):Rel K (φ++[p]) (S++[o]) (upd H p u):=by
 refine⟨by simp[h.len],?_,fun n a o' e q=>?_⟩
 ·refine Q2t.mpr ⟨h.nd,by simp,fun a ha b hb=>?_⟩
  rw[Q0i]at hb
  subst hb
  intro z
  subst z
  obtain⟨n,hn,e⟩:=Q6e.mp ha
  obtain⟨o',_,r⟩:=h.at' (n:=n) (a:=a) (by rw[Q0e hn,e])
  obtain⟨u',z⟩:=r.some
  rw[hp]at z
  cases z
 ·by_cases hn:n<φ.length
  ·rw[Q0o hn]at e
   rw[Q0o (by rw[<-h.len];exact hn)]at q
   exact(h.obj n a o' e q).mono (Mono.new u hp) (Q6q _ _) fun u' z=>by rw[q0g (q0w z hp)];exact z
  ·have hn':n=φ.length:=by
    have:=(Q0s.mp e).1
    simp at this
    omega
   subst hn'
   rw[Q2u (Q0k _)]at e
   rw[h.len,Q2u (Q0k _)]at q
   simp at e q
   subst e q
   exact ho
theorem Rel.put{S:q0b}(h:Rel K φ S H){n:Nat}{a:Q0u}{o:SO}{u:HO}(e:φ[n]?=some a)(m:Mono H (upd H a u))(ho:ObjR K (upd H a u) φ o a):Rel K φ (S.set n o) (upd H a u):=by
 refine⟨by simp[h.len],h.nd,fun i b o' q r=>?_⟩
 by_cases hi:i=n
 ·subst hi
  rw[e]at q
  cases q
  have hl:i<S.length:=by rw[<-h.len];exact(Q0s.mp e).1
  rw[Q1o hl]at r
  cases r
  exact ho
 ·rw[Q1c (fun z=>hi z.symm)]at r
  have hb:b≠a:=fun z=>by
   subst z
   have h1:=Q0s.mp q
   have h2:=Q0s.mp e
   obtain⟨l1,e1⟩:=h1
   obtain⟨l2,e2⟩:=h2
   exact hi ((Z3e h.nd).mp (e1.trans e2.symm))
  exact(h.obj i b o' q r).mono m (Q0h _) fun u' z=>by rw[q0g hb];exact z
theorem Mono.lst{a:Q0u}{xs:List V}{u:HO}(e:H a=some (.lst xs)):Mono H (upd H a u):=
 ⟨fun b xs q=>by rw[q0g (q6d q e (by intro z;cases z))];exact q,fun b o w q=>by rw[q0g (q6d q e (by intro z;cases z))];exact q,fun b f q=>by rw[q0g (q6d q e (by intro z;cases z))];exact q,fun b c ws q=>⟨ws,by rw[q0g (q6d q e (by intro z;cases z))];exact q⟩⟩
theorem Mono.dicH{a:Q0u}{c:Nat}{xs ys:List (KTr×Q0u×V)}(e:H a=some (.dH c xs)):Mono H (upd H a (.dH c ys)):=
 ⟨fun b xs q=>by rw[q0g (q6d q e (by intro z;cases z))];exact q,fun b o w q=>by rw[q0g (q6d q e (by intro z;cases z))];exact q,fun b f q=>by rw[q0g (q6d q e (by intro z;cases z))];exact q,fun b c' ws q=>by
  by_cases hb:b=a
  ·subst hb;rw [e]at q;cases q;exact ⟨ys,q0u⟩
  ·exact ⟨ws,by rw [q0g hb];exact q⟩⟩
theorem Mono.dict{a:Q0u}{xs:List (Key×V)}{u:HO}(e:H a=some (.dK xs)):Mono H (upd H a u):=
 ⟨fun b xs q=>by rw[q0g (q6d q e (by intro z;cases z))];exact q,fun b o w q=>by rw[q0g (q6d q e (by intro z;cases z))];exact q,fun b f q=>by rw[q0g (q6d q e (by intro z;cases z))];exact q,fun b c ws q=>⟨ws,by rw[q0g (q6d q e (by intro z;cases z))];exact q⟩⟩
abbrev EK:=PV->q0b->Prop
structure GX where
 ek:EK
 xh:PV->Hp->Prop
structure LRel(K:Q2p)(G:GX)(H:Hp)(φ:List Q0u)(σ:Loc)(σV:St):Prop where
 len:σ.length=σV.length
 at':∀(i:Nat)(v:PV),σ[i]?=some (some v)->∃x,σV[i]?=some (some x)/\RV K H φ v x
 kx:∀v S' φ' H',G.ek v S'->φ <+: φ'->Mono H H'->Rel K φ' S' H'->G.xh v H'
theorem LRel.mono{G:GX}(m:Mono H H')(p:φ <+: φ'){σ:Loc}{σV:St}(h:LRel K G H φ σ σV):LRel K G H' φ' σ σV:=
 ⟨h.len,fun i v e=>let ⟨x,a,b⟩:=h.at' i v e;⟨x,a,RV.mono m p _ _ b⟩,fun v S1 φ1 H1 g p1 m1 r=>h.kx v S1 φ1 H1 g (p.trans p1) (m.trans m1) r⟩
theorem LRel.set{G:GX}{σ:Loc}{σV:St}(h:LRel K G H φ σ σV)(i:Nat){v:PV}{x:V}(r:RV K H φ v x):LRel K G H φ (σ.set i (some v)) (σV.set i (some x)):=by
 refine⟨by simp[h.len],fun j u e=>?_,h.kx⟩
 by_cases hj:j=i
 ·subst hj
  have hl:j<σ.length:=by
   have:=(Q0s.mp e).1
   simpa using this
  rw[Q1o hl]at e
  cases e
  exact⟨x,Q1o (by rw[<-h.len];exact hl),r⟩
 ·rw[Q1c (fun z=>hj z.symm)]at e
  rw[Q1c (fun z=>hj z.symm)]
  exact h.at' j u e
end
end Ev
namespace Ev
open PySem L2
abbrev VC:=PV->q0b->Prop
abbrev WE:=Loc->q0b->EK->VC->Prop
abbrev WT:=Loc->q0b->EK->(Bool->q0b->Prop)->Prop
abbrev WA:=Loc->q0b->EK->(List PV->q0b->Prop)->Prop
def KE(K:Q2p)(φ:List Q0u)(H:Hp)(Q0:VC)(Q:VK):Prop:=∀v S' φ' H' x,Q0 v S'->φ <+: φ'->Mono H H'->Rel K φ' S' H'->RV K H' φ' v x->Q x H'
def KB(K:Q2p)(φ:List Q0u)(H:Hp)(Q0:Bool->q0b->Prop)(Q:Bool->Hp->Prop):Prop:=∀v S' φ' H',Q0 v S'->φ <+: φ'->Mono H H'->Rel K φ' S' H'->Q v H'
def KL(K:Q2p)(φ:List Q0u)(H:Hp)(Q0:List PV->q0b->Prop)(Q:List V->Hp->Prop):Prop:=∀v S' φ' H' x,Q0 v S'->φ <+: φ'->Mono H H'->Rel K φ' S' H'->RVs K H' φ' v x->Q x H'
theorem KE.up{K:Q2p}{φ φ1:List Q0u}{H H1:Hp}{Q0:VC}{Q:VK}(k:KE K φ H Q0 Q)(p:φ <+: φ1)(m:Mono H H1):KE K φ1 H1 Q0 Q:=fun v S' φ' H' x q p' m'=>k v S' φ' H' x q (p.trans p') (m.trans m')
theorem KB.up{K:Q2p}{φ φ1:List Q0u}{H H1:Hp}{Q0:Bool->q0b->Prop}{Q:Bool->Hp->Prop}(k:KB K φ H Q0 Q)(p:φ <+: φ1)(m:Mono H H1):KB K φ1 H1 Q0 Q:=fun v S' φ' H' q p' m'=>k v S' φ' H' q (p.trans p') (m.trans m')
def q3k(K:Q2p)(G:GX)(w:WE):TE:=fun σV H Q=>∃φ σ S Q0,LRel K G H φ σ σV/\Rel K φ S H/\w σ S G.ek Q0/\KE K φ H Q0 Q
def q8i(K:Q2p)(G:GX)(w:WT):TT:=fun σV H Q=>∃φ σ S Q0,LRel K G H φ σ σV/\Rel K φ S H/\w σ S G.ek Q0/\KB K φ H Q0 Q
def x2x(K:Q2p)(G:GX)(w:WA):TA:=fun σV H Q=>∃φ σ S Q0,LRel K G H φ σ σV/\Rel K φ S H/\w σ S G.ek Q0/\KL K φ H Q0 Q
def SimE(X:Cx)(G:GX)(e:Expr)(w:WE):Prop:=PE X e (q3k X.K G w)
def SimT(X:Cx)(G:GX)(e:Expr)(w:WT):Prop:=PT X e (q8i X.K G w)
def SimW(X:Cx)(G:GX)(e:Expr)(w:WT):Prop:=PW X e (q8i X.K G w)
def SimA(X:Cx)(G:GX)(es:List Expr)(w:WA):Prop:=PA X es (x2x X.K G w)
theorem _root_.L2.PE.imp{X:Cx}{e:Expr}{t t':TE}(h:PE X e t)(i:∀σ H Q,t' σ H Q->t σ H Q):PE X e t':=fun pins s σ H Q I q=>h pins s σ H Q I (i σ H Q q)
theorem _root_.L2.PT.imp{X:Cx}{e:Expr}{t t':TT}(h:PT X e t)(i:∀σ H Q,t' σ H Q->t σ H Q):PT X e t':=fun pins s σ H Q I q=>h pins s σ H Q I (i σ H Q q)
theorem _root_.L2.PW.imp{X:Cx}{e:Expr}{t t':TT}(h:PW X e t)(i:∀σ H Q,t' σ H Q->t σ H Q):PW X e t':=fun wh pins s σ H Q I q=>h wh pins s σ H Q I (i σ H Q q)
theorem _root_.L2.PA.imp{X:Cx}{e:List Expr}{t t':TA}(h:PA X e t)(i:∀σ H Q,t' σ H Q->t σ H Q):PA X e t':=fun pos pins s σ H Q I q=>h pos pins s σ H Q I (i σ H Q q)
def wVar(i:Nat):WE:=fun σ S _ Q=>match σ[i]? with
 |some (some v)=>Q v S
 |_=>False
def wC(v:PV):WE:=fun _ S _ Q=>Q v S
section
variable{X:Cx}{G:GX}{pos:Pos}
theorem y6k(i:Nat){x:Str}(hN:X.N[i]?=some x:=by rfl)(hv:Vis X.env.scope x:=by first|exact Q9a rfl|exact Q7r (Q9a rfl)|exact Q7r (Q7r rfl))(hd:(x==("__debug__" : Str))=false:=by decide)(hcd:(x==("__classdict__" : Str))=false:=by decide) :
  SimE X G (.Name x pos) (wVar i):=by
 refine(x1t (i:=i) hN hv hd hcd).imp fun σV H Q hh1=>?_
 obtain⟨φ,σ,S,Q0,L,R,h,k⟩:=hh1
 unfold wVar at h
 split at h
 ·rename_i v e
  obtain⟨x,e',r⟩:=L.at' i v e
  exact⟨x,e',k v S φ H x h (Q0h _) (.refl _) R r⟩
 ·exact h.elim
theorem q8b{e:Expr}{v:V}(p:PV)(h:PE X e (tC v))(r:∀H φ,RV X.K H φ p v):SimE X G e (wC p):=
 h.imp fun σV H Q hh1=>by obtain⟨φ,σ,S,Q0,L,R,h,k⟩:=hh1;exact(k p S φ H v h (Q0h _) (.refl _) R (r H φ))
theorem q4b {i j}:SimE X G (.Constant (.int i) j pos) (wC (.int i)):=q8b _ y4w fun _ _=>rfl
theorem x0u {i j}:SimE X G (.Constant (.bool i) j pos) (wC (.bl i)):=q8b _ x5d fun _ _=>rfl
theorem y6n {i j}:SimE X G (.Constant (.str i) j pos) (wC (.str i)):=q8b _ x1v fun _ _=>rfl
theorem y6q {j}:SimE X G (.Constant .none j pos) (wC .non):=q8b _ x1w fun _ _=>rfl
end
abbrev F2:=PV->PV->q0b->VC->Prop
def wBin(f:F2)(wa wb:WE):WE:=fun σ S E Q=>wa σ S E fun x S1=>wb σ S1 E fun y S2=>f x y S2 Q
def q2n(K:Q2p)(f:F2):R2:=fun x' y' H Q=>∃φ S x y Q0,Rel K φ S H/\RV K H φ x x'/\RV K H φ y y'/\f x y S Q0/\KE K φ H Q0 Q
section
variable{X:Cx}{G:GX}{pos:Pos}{a b:Expr}{wa wb:WE}{f:F2}
theorem q3v{σV:St}{H:Hp}{Q:VK}(h:q3k X.K G (wBin f wa wb) σV H Q):tOp (q2n X.K f) (q3k X.K G wa) (q3k X.K G wb) σV H Q:=by
 obtain⟨φ,σ,S,Q0,L,R,h,k⟩:=h
 refine⟨φ,σ,S,_,L,R,h,fun v S1 φ1 H1 x q p1 m1 R1 r1=>?_⟩
 refine⟨φ1,σ,S1,_,L.mono m1 p1,R1,q,fun u S2 φ2 H2 y q2 p2 m2 R2 r2=>?_⟩
 exact⟨φ2,S2,v,u,Q0,R2,RV.mono m2 p2 _ _ r1,r2,q2,k.up (p1.trans p2) (m1.trans m2)⟩
theorem q4x{op:Operator}(ho:OpR X (binaryOp op) (q2n X.K f))(ha:SimE X G a wa)(hb:SimE X G b wb):SimE X G (.BinOp a op b pos) (wBin f wa wb):=(x5c ho ha hb).imp fun _ _ _ h=>q3v h
theorem y6u{op:Z5w}(ho:OpR X (compareOp op) (q2n X.K f))(ha:SimE X G a wa)(hb:SimE X G b wb)(hm:behindInMarks op b=false):SimE X G (.Compare a [op] [b] pos) (wBin f wa wb):=(y7u ho ha hb hm).imp fun _ _ _ h=>q3v h
def q0k(w:WE):WT:=fun σ S E Q=>w σ S E fun x S1=>match x with
 |.bl c=>Q c S1
 |_=>False
theorem z9i{w:WE}{t:TE}(i:∀σ H Q,q3k X.K G w σ H Q->t σ H Q){σV:St}{H:Hp}{Q:Bool->Hp->Prop}(h:q8i X.K G (q0k w) σV H Q):x0e t σV H Q:=by
 obtain⟨φ,σ,S,Q0,L,R,h,k⟩:=h
 refine i _ _ _ ⟨φ,σ,S,_,L,R,h,fun v S1 φ1 H1 x q p1 m1 R1 r1=>?_⟩
 cases v with
 |bl c=>exact⟨c,r1,k c S1 φ1 H1 q p1 m1 R1⟩
 |_=>exact q.elim
theorem q3h{op:Z5w}(ho:OpR X (compareOp op) (q2n X.K f))(ha:SimE X G a wa)(hb:SimE X G b wb)(hm:behindInMarks op b=false):SimT X G (.Compare a [op] [b] pos) (q0k (wBin f wa wb)):=
 (y7h ho ha hb hm).imp fun _ _ _ h=>z9i (fun _ _ _ h=>q3v h) h
end
def truK(x:PV)(S:q0b)(Q:Bool->q0b->Prop):Prop:=match x with
 |.non=>Q false S
 |.bl b=>Q b S
 |.int i=>Q (i != 0) S
 |.str y=>y.length<=Q0l/\Q (!decide (y.length=0)) S
 |.tup xs=>Q (!xs.isEmpty) S
 |.frl xs=>Q (!xs.isEmpty) S
 |.ref n=>match S[n]? with
  |some (.lst xs)=>Q (!xs.isEmpty) S
  |some (.dK xs)=>Q (!xs.isEmpty) S
  |_=>False
 |.ty _=>False
 |.exc _=>False
def wTru(w:WE):WT:=fun σ S E Q=>w σ S E fun x S1=>truK x S1 Q
theorem y0l{K:Q2p}{H:Hp}{φ:List Q0u}{xs:List PV}{vs:List V}(r:RVs K H φ xs vs):(!xs.isEmpty)=!vs.isEmpty:=by
 have:=r.length
 cases xs<;>cases vs<;>simp_all
theorem y5s{K:Q2p}{H:Hp}{φ:List Q0u}{S:q0b}{x:PV}{x':V}{Q0:Bool->q0b->Prop}{Q:Bool->Hp->Prop}(R:Rel K φ S H)(r:RV K H φ x x')(h:truK x S Q0)(k:∀b,Q0 b S->Q b H):∃b,TruV K x' H b/\Q b H:=by
 unfold truK at h
 cases x with
 |non=>cases r;exact⟨false,rfl,k _ h⟩
 |bl b=>cases r;exact⟨b,rfl,k _ h⟩
 |int i=>cases r;exact⟨_,rfl,k _ h⟩
 |str y=>
  cases r
  obtain⟨hz,h⟩:=h
  refine⟨!decide (y.length=0),⟨hz,?_⟩,k _ h⟩
  by_cases e:y.length=0
  ·rw[e];rfl
  ·rw[decide_eq_false e]
   symm
   simp only[bne_iff_ne,Z4i]
   intro z
   exact e (by exact_mod_cast z)
 |tup xs=>
  obtain⟨a,vs,rfl,s,rs⟩:=r
  exact⟨_,.inr (.inl ⟨vs,s,rfl⟩),k _ (by rw[<-y0l rs];exact h)⟩
 |frl xs=>
  obtain⟨a,vs,rfl,s,rs⟩:=r
  exact⟨_,.inl ⟨vs,s.sq,rfl⟩,k _ (by rw[<-y0l rs];exact h)⟩
 |ref n=>
  obtain⟨a,rfl,e⟩:=r
  dsimp only at h
  split at h
  ·rename_i xs es
   obtain⟨vs,e1,rs⟩:=R.obj n a _ e es
   exact⟨_,.inl ⟨vs,SqL.of e1,rfl⟩,k _ (by rw[<-y0l rs];exact h)⟩
  ·rename_i xs es
   obtain⟨vs,e1,rs⟩:=R.obj n a _ e es
   have:(!xs.isEmpty)=!vs.isEmpty:=by cases rs<;>rfl
   exact⟨_,.inr (.inr ⟨vs,e1,rfl⟩),k _ (by rw[<-this];exact h)⟩
  ·exact h.elim
 |ty n=>exact h.elim
 |exc c=>exact h.elim
section
variable{X:Cx}{G:GX}{pos:Pos}{a b c:Expr}{wa wb:WE}{ta tb:WT}{rest:List Expr}
theorem y2a(ha:SimE X G a wa)(he:∀whole,isTrue a X.env whole=(do let v <-whole;standAt a.pos;holding [v] (truthy v)):=by intro _;rfl):SimT X G a (wTru wa):=
 (y2l ha he).imp fun σV H Q hh1=>by obtain⟨φ,σ,S,Q0,L,R,h,k⟩:=hh1;exact(⟨φ,σ,S,_,L,R,h,fun v S1 φ1 H1 x q p1 m1 R1 r1=>y5s R1 r1 q fun b q=>k b S1 φ1 H1 q p1 m1 R1⟩)
def wAnd(ta tb:WT):WT:=fun σ S E Q=>ta σ S E fun c S1=>if c=true then tb σ S1 E Q else Q false S1
def wOr(ta tb:WT):WT:=fun σ S E Q=>ta σ S E fun c S1=>if c=true then Q true S1 else tb σ S1 E Q
def wNot(ta:WT):WT:=fun σ S E Q=>ta σ S E fun c S1=>Q (!c) S1
theorem SimW.t{e:Expr}{w:WT}(h:SimW X G e w):SimT X G e w:=h _
theorem z7g(ha:SimT X G a ta):SimW X G (.BoolOp .And [a] pos) ta:=y7g ha
theorem y1y(ha:SimT X G a ta):SimW X G (.BoolOp .Or [a] pos) ta:=x1e ha
theorem y1z(ha:SimT X G a ta)(hb:SimW X G (.BoolOp .And (b::rest) pos) tb):SimW X G (.BoolOp .And (a::b::rest) pos) (wAnd ta tb):=
 (x1f ha hb).imp fun σV H Q hh1=>by obtain⟨φ,σ,S,Q0,L,R,h,k⟩:=hh1;exact(⟨φ,σ,S,_,L,R,h,fun c S1 φ1 H1 q p1 m1 R1=>by
  cases c with
  |true=>exact ⟨φ1,σ,S1,_,L.mono m1 p1,R1,q,k.up p1 m1⟩
  |false=>exact k false S1 φ1 H1 q p1 m1 R1⟩)
theorem y6x(ha:SimT X G a ta)(hb:SimW X G (.BoolOp .Or (b::rest) pos) tb):SimW X G (.BoolOp .Or (a::b::rest) pos) (wOr ta tb):=
 (x4x ha hb).imp fun σV H Q hh1=>by obtain⟨φ,σ,S,Q0,L,R,h,k⟩:=hh1;exact(⟨φ,σ,S,_,L,R,h,fun c S1 φ1 H1 q p1 m1 R1=>by
  cases c with
  |false=>exact ⟨φ1,σ,S1,_,L.mono m1 p1,R1,q,k.up p1 m1⟩
  |true=>exact k true S1 φ1 H1 q p1 m1 R1⟩)
theorem y2b(ha:SimT X G a ta):SimT X G (.UnaryOp .Not a pos) (wNot ta):=
 (x1h ha).imp fun σV H Q hh1=>by obtain⟨φ,σ,S,Q0,L,R,h,k⟩:=hh1;exact(⟨φ,σ,S,_,L,R,h,fun c S1 φ1 H1 q p1 m1 R1=>k (!c) S1 φ1 H1 q p1 m1 R1⟩)
def wNeg(wa:WE):WE:=fun σ S E Q=>wa σ S E fun x S1=>match x with
 |.int i=>Q (.int (-i)) S1
 |_=>False
def wNil:WA:=fun _ S _ Q=>Q [] S
def q0a(wa:WE)(wr:WA):WA:=fun σ S E Q=>wa σ S E fun x S1=>wr σ S1 E fun xs S2=>Q (x::xs) S2
theorem z3c:SimA X G [] wNil:=z8m.imp fun σV H Q hh1=>by obtain⟨φ,σ,S,Q0,L,R,h,k⟩:=hh1;exact(k [] S φ H [] h (Q0h _) (.refl _) R rfl)
theorem q2g{e:Expr}{es:List Expr}{we:WE}{wr:WA}(ha:SimE X G e we)(hr:SimA X G es wr)(hs:Q1m (e::es) X.env=(false,eval e X.env)::Q1m es X.env:=by rfl):SimA X G (e::es) (q0a we wr):=
 (z1r ha hr hs).imp fun σV H Q hh1=>by obtain⟨φ,σ,S,Q0,L,R,h,k⟩:=hh1;exact(⟨φ,σ,S,_,L,R,h,fun v S1 φ1 H1 x q p1 m1 R1 r1=>
  ⟨φ1,σ,S1,_,L.mono m1 p1,R1,q,fun vs S2 φ2 H2 xs q2 p2 m2 R2 r2=>k (v::vs) S2 φ2 H2 (x::xs) q2 (p1.trans p2) (m1.trans m2) R2 (.cons (RV.mono m2 p2 _ _ r1) r2)⟩⟩)
def wTup(w:WA):WE:=fun σ S E Q=>w σ S E fun xs S1=>xs.length<=Q0l/\Q (.tup xs) S1
def wLst(w:WA):WE:=fun σ S E Q=>w σ S E fun xs S1=>xs.length<=Q0l/\Q (.ref S1.length) (S1++[.lst xs])
variable{es:List Expr}{w:WA}
theorem KE.tup{K:Q2p}{φ:List Q0u}{H:Hp}{Q0:VC}{Q:VK}{S:q0b}{xs:List PV}{vs:List V}(k:KE K φ H Q0 Q)(q:Q0 (.tup xs) S)(R:Rel K φ S H)(r:RVs K H φ xs vs):∀p,H p=none->Q (.ref p) (upd H p (.tup vs)):=fun p hp=>
 k _ S φ _ _ q (Q0h _) (.new _ hp) (R.frame _ hp) ⟨p,vs,rfl,SqT.of q0u,RVs.mono (.new _ hp) (Q0h _) _ _ r⟩
theorem KE.lst{K:Q2p}{φ:List Q0u}{H:Hp}{Q0:VC}{Q:VK}{S:q0b}{xs:List PV}{vs:List V}(k:KE K φ H Q0 Q)(q:Q0 (.ref S.length) (S++[.lst xs]))(R:Rel K φ S H)(r:RVs K H φ xs vs):∀p,H p=none->Q (.ref p) (upd H p (.lst vs)):=fun p hp=>
 k _ (S++[.lst xs]) (φ++[p]) _ _ q (Q6q _ _) (.new _ hp) (R.new (o:=.lst xs) hp ⟨vs,q0u,RVs.mono (.new _ hp) (Q6q _ _) _ _ r⟩) (show RV K _ _ (.ref S.length) _ from⟨p,rfl,by rw[<-R.len];simp⟩)
theorem y6l {x1} (h:SimA X G es w):SimE X G (.Tuple es x1 pos) (wTup w):=
 (x1u h).imp fun σV H Q hh1=>by obtain⟨φ,σ,S,Q0,L,R,h,k⟩:=hh1;exact(⟨φ,σ,S,_,L,R,h,fun vs S1 φ1 H1 xs hh2 p1 m1 R1 r1=>by obtain⟨hz,q⟩:=hh2;exact(⟨by rw[<-r1.length];exact hz,(k.up p1 m1).tup q R1 r1⟩)⟩)
theorem z7e(h:SimA X G es w):SimE X G (.List es pos) (wLst w):=
 (x1x h).imp fun σV H Q hh1=>by obtain⟨φ,σ,S,Q0,L,R,h,k⟩:=hh1;exact(⟨φ,σ,S,_,L,R,h,fun vs S1 φ1 H1 xs hh2 p1 m1 R1 r1=>by obtain⟨hz,q⟩:=hh2;exact(⟨by rw[<-r1.length];exact hz,(k.up p1 m1).lst q R1 r1⟩)⟩)
end
def q3x(S:q0b)(n:Nat):Option (List PV):=match S[n]? with
 |some (.lst xs)=>some xs
 |_=>none
def q1p(S:q0b)(n:Nat):Option (List PV):=match S[n]? with
 |some (.lst xs)=>some xs
 |_=>none
def z5t(S:q0b)(n:Nat):Option (List (Key×PV)):=match S[n]? with
 |some (.dK xs)=>some xs
 |_=>none
section
variable{K:Q2p}{H:Hp}{φ:List Q0u}{S:q0b}
theorem z9h{n:Nat}{xs:List PV}(e:q3x S n=some xs):S[n]?=some (.lst xs):=by
 unfold q3x at e
 split at e
 ·cases e;assumption
 ·cases e
theorem y0n{n:Nat}{xs:List (Key×PV)}(e:z5t S n=some xs):S[n]?=some (.dK xs):=by
 unfold z5t at e
 split at e
 ·cases e;assumption
 ·cases e
theorem Rel.lst(R:Rel K φ S H){n:Nat}{a:Q0u}{xs:List PV}(q:φ[n]?=some a)(e:q3x S n=some xs):∃vs,H a=some (.lst vs)/\RVs K H φ xs vs:=R.obj n a _ q (z9h e)
theorem Rel.dic(R:Rel K φ S H){n:Nat}{a:Q0u}{xs:List (Key×PV)}(q:φ[n]?=some a)(e:z5t S n=some xs):∃vs,H a=some (.dK vs)/\RKs K H φ xs vs:=R.obj n a _ q (y0n e)
theorem Rel.seq(R:Rel K φ S H){n:Nat}{a:Q0u}{xs:List PV}(q:φ[n]?=some a)(e:q1p S n=some xs):∃vs,SqL K H a vs/\RVs K H φ xs vs:=by
 unfold q1p at e
 split at e
 ·rename_i ys es
  cases e
  obtain⟨vs,e1,r⟩:=R.obj n a _ q es
  exact⟨vs,SqL.of e1,r⟩
 ·cases e
end
def bAdd:F2:=fun x y S Q=>match x,y with
 |.int i,.int j=>Q (.int (i+j)) S
 |.str a,.str b=>a.length+b.length<=Q0l/\Q (.str (a++b)) S
 |.tup xs,.tup ys=>xs.length+ys.length<=Q0l/\Q (.tup (xs++ys)) S
 |.ref m,.ref n=>match q3x S m,q3x S n with
  |some xs,some ys=>xs.length+ys.length<=Q0l/\Q (.ref S.length) (S++[.lst (xs++ys)])
  |_,_=>False
 |_,_=>False
def bI(C:Int->Int->Prop)(g:Int->Int->PV):F2:=fun x y S Q=>match x,y with
 |.int i,.int j=>C i j/\Q (g i j) S
 |_,_=>False
def bSub:F2:=bI (fun _ _=>True) fun i j=>.int (i-j)
def z1g:F2:=bI (fun _ j=>0<j/\j<2 ^ 100) fun i j=>.int (i / j)
def bMod:F2:=bI (fun _ j=>0<j) fun i j=>.int (i % j)
def bPow:F2:=bI CPow fun i j=>.int (i ^ j.toNat)
def cLt:F2:=bI (fun _ _=>True) fun i j=>.bl (decide (i<j))
def cGt:F2:=bI (fun _ _=>True) fun i j=>.bl (decide (j<i))
def bMul:F2:=fun x y S Q=>match x,y with
 |.int i,.int j=>CMul i j/\Q (.int (i*j)) S
 |.ref m,.int k=>match q3x S m with
  |some xs=>(-(2 ^ 63)<=k/\k<2 ^ 63/\xs.length*k.toNat<=Q0l)/\Q (.ref S.length) (S++[.lst (Q1v k.toNat xs).flatten])
  |none=>False
 |_,_=>False
section
variable{X:Cx}
theorem z4z{f:Q0b->Q0b->Sem Q0b}{C D:Int->Int->Prop}{g:Int->Int->PV}{gV:Int->Int->V}(ho:OpR X f (rI D gV))(hd:∀i j,C i j->D i j)(hg:∀i j H φ,RV X.K H φ (g i j) (gV i j)):OpR X f (q2n X.K (bI C g)):=by
 rintro pins s σ H x y v u Q I rx ry ⟨φ,S,px,py,Q0,R,hx,hy,h,k⟩
 unfold bI at h
 split at h
 ·rename_i i j
  exact ho pins s σ H x y v u Q I rx ry ⟨i,j,hx,hy,hd i j h.1,k _ S φ H _ h.2 (Q0h _) (.refl _) R (hg i j H φ)⟩
 ·exact h.elim
theorem OpR.of0{f:Q0b->Q0b->Sem Q0b}{gV:Int->Int->V}(ho:OpR X f (rI0 gV)):OpR X f (rI (fun _ _=>True) gV):=fun pins s σ H x y v u Q I rx ry hh1=>by obtain⟨i,j,a,b,_,q⟩:=hh1;exact(ho pins s σ H x y v u Q I rx ry ⟨i,j,a,b,q⟩)
theorem y7x:OpR X (binaryOp .Sub) (q2n X.K bSub):=z4z (OpR.of0 x2g) (fun _ _ h=>h) fun _ _ _ _=>rfl
theorem y2w:OpR X (binaryOp .FloorDiv) (q2n X.K z1g):=z4z y2x (fun _ _ h=>h) fun _ _ _ _=>rfl
theorem y8a:OpR X (binaryOp .Mod) (q2n X.K bMod):=z4z x2k (fun _ _ h=>h) fun _ _ _ _=>rfl
theorem y7y:OpR X (binaryOp .Pow) (q2n X.K bPow):=z4z x2i (fun _ _ h=>h) fun _ _ _ _=>rfl
theorem x2d:OpR X (compareOp .Lt) (q2n X.K cLt):=z4z (OpR.of0 x5f) (fun _ _ h=>h) fun _ _ _ _=>rfl
theorem x2e:OpR X (compareOp .Gt) (q2n X.K cGt):=z4z (OpR.of0 x5g) (fun _ _ h=>h) fun _ _ _ _=>rfl
theorem y7z:OpR X (binaryOp .Mult) (q2n X.K bMul):=by
 rintro pins s σ H x y v u Q I rx ry ⟨φ,S,px,py,Q0,R,hx,hy,h,k⟩
 unfold bMul at h
 split at h
 ·rename_i i j
  exact x2j pins s σ H x y v u Q I rx ry ⟨i,j,hx,hy,h.1,k _ S φ H _ h.2 (Q0h _) (.refl _) R rfl⟩
 ·rename_i m kk
  split at h
  ·rename_i xs e
   obtain⟨a,rfl,qa⟩:=hx
   cases hy
   obtain⟨vs,ea,r⟩:=R.lst qa e
   obtain⟨⟨h1,h2,h3⟩,h⟩:=h
   exact x2h pins s σ H _ _ v u Q I rx ry ⟨a,kk,vs,rfl,rfl,ea,h1,h2,by rw[<-r.length];exact h3,k.lst h R (r.rep _)⟩
  ·exact h.elim
 ·exact h.elim
theorem y8c:OpR X (binaryOp .Add) (q2n X.K bAdd):=by
 rintro pins s σ H x y v u Q I rx ry ⟨φ,S,px,py,Q0,R,hx,hy,h,k⟩
 unfold bAdd at h
 split at h
 ·rename_i i j
  exact x2m pins s σ H x y v u Q I rx ry ⟨i,j,hx,hy,k _ S φ H _ h (Q0h _) (.refl _) R rfl⟩
 ·rename_i a b
  exact z5a pins s σ H x y v u Q I rx ry ⟨a,b,hx,hy,h.1,k _ S φ H _ h.2 (Q0h _) (.refl _) R rfl⟩
 ·rename_i xs ys
  obtain⟨a,vs,rfl,sa,ra⟩:=hx
  obtain⟨b,ws,rfl,sb,rb⟩:=hy
  refine y2y pins s σ H _ _ v u Q I rx ry ?_
  by_cases hv:vs=[]
  ·subst hv
   have:xs=[]:=Q3t.mp (by rw[ra.length];rfl)
   subst this
   exact .inl ⟨a,b,ws,rfl,rfl,sa,sb,k _ S φ H _ h.2 (Q0h _) (.refl _) R ⟨b,ws,rfl,sb,rb⟩⟩
  ·refine .inr ⟨a,b,vs,ws,rfl,rfl,sa,sb,hv,by rw[<-ra.length,<-rb.length];exact h.1,fun hw=>?_,fun _=>k.tup h.2 R (ra.append rb)⟩
   subst hw
   have:ys=[]:=Q3t.mp (by rw[rb.length];rfl)
   subst this
   refine k _ S φ H _ h.2 (Q0h _) (.refl _) R ?_
   rw[Q2x]
   exact⟨a,vs,rfl,sa,ra⟩
 ·rename_i m n
  split at h
  ·rename_i xs ys e1 e2
   obtain⟨a,rfl,qa⟩:=hx
   obtain⟨b,rfl,qb⟩:=hy
   obtain⟨vs,ea,ra⟩:=R.lst qa e1
   obtain⟨ws,eb,rb⟩:=R.lst qb e2
   exact x2l pins s σ H _ _ v u Q I rx ry ⟨a,b,vs,ws,rfl,rfl,ea,eb,by rw[<-ra.length,<-rb.length];exact h.1,k.lst h.2 R (ra.append rb)⟩
  ·exact h.elim
 ·exact h.elim
def x4g:F2:=fun x y S Q=>match x,y with
 |.int i,.int j=>Q (.int (i+j)) S
 |.str a,.str b=>a.length+b.length<=Q0l/\Q (.str (a++b)) S
 |_,_=>False
end
mutual
def eqB:PV->PV->Bool
 |.non,y=>match y with
  |.non=>true
  |_=>false
 |.bl a,y=>match y with
  |.bl b=>a==b
  |.int b=>(if a then 1 else 0)==b
  |_=>false
 |.int a,y=>match y with
  |.bl b=>a==(if b then 1 else 0)
  |.int b=>a==b
  |_=>false
 |.str a,y=>match y with
  |.str b=>a==b
  |_=>false
 |.tup xs,y=>match y with
  |.tup ys=>eqBs xs ys
  |_=>false
 |.ty _,_=>false
 |.frl _,_=>false
 |.ref _,_=>false
 |.exc _,_=>false
def eqBs:List PV->List PV->Bool
 |[],ys=>ys.isEmpty
 |x::xs,ys=>match ys with
  |[]=>false
  |y::r=>eqB x y&&eqBs xs r
end
mutual
def nrf:PV->Bool
 |.ty _=>false
 |.frl _=>false
 |.ref _=>false
 |.exc _=>false
 |.tup xs=>nrfs xs
 |_=>true
def nrfs:List PV->Bool
 |[]=>true
 |x::xs=>nrf x&&nrfs xs
end
mutual
def dep:PV->Nat
 |.tup xs=>1+deps xs
 |_=>0
def deps:List PV->Nat
 |[]=>0
 |x::xs=>max (dep x) (deps xs)
end
theorem z3t:∀{xs ys:List PV},eqBs xs ys=true->xs.length=ys.length
 |[],ys,h=>by cases ys<;>simp_all [eqBs]
 |x::xs,ys,h=>by
  cases ys with
  |nil=>simp[eqBs]at h
  |cons y r=>
   simp only[eqBs,Q3i]at h
   simp[z3t h.2]
theorem q3c:∀(xs ys:List PV),eqBs xs ys=((Q1q (min xs.length ys.length)).all (fun j=>eqB (xs.getD j .non) (ys.getD j .non))&&xs.length==ys.length)
 |[],ys=>by cases ys<;>simp[eqBs]
 |x::xs,ys=>by
  cases ys with
  |nil=>simp[eqBs]
  |cons y r=>
   have e:min (x::xs).length (y::r).length=min xs.length r.length+1:=by simp only[Q1k];omega
   rw[e,Z1f,Z0y,List.all_map]
   simp only[eqBs,q3c xs r,Q1k,Q6c]
   rw[Bool.and_assoc]
   congr 2
   by_cases h:xs.length=r.length
   ·simp[h]
   ·simp[h]
mutual
theorem q5s:∀x:PV,nrf x=true->eqB x x=true
 |.non,_=>rfl
 |.bl b,_=>by simp[eqB]
 |.int i,_=>by simp[eqB]
 |.str x,_=>by simp[eqB]
 |.tup xs,h=>by simp only[eqB];exact q3m xs (by simpa[nrf]using h)
 |.ty _,h=>by simp[nrf]at h
 |.frl _,h=>by simp[nrf]at h
 |.ref _,h=>by simp[nrf]at h
 |.exc _,h=>by simp[nrf]at h
theorem q3m:∀xs:List PV,nrfs xs=true->eqBs xs xs=true
 |[],_=>rfl
 |x::xs,h=>by
  simp only[nrfs,Q3i]at h
  simp only[eqBs,q5s x h.1,q3m xs h.2,Q4c]
end
section
variable{X:Cx}{pins:List (Q0u×Obj)}{s:Q0d}{σ:St}{H:Hp}{φ:List Q0u}
mutual
theorem RV.inj(I:Inv X pins σ H s):∀(x y:PV)(v:V),nrf x=true->nrf y=true->RV X.K H φ x v->RV X.K H φ y v->x=y
 |.non,y,v,_,hy,r,q=>by cases y<;>simp_all [RV,nrf]
 |.bl b,y,v,_,hy,r,q=>by cases y<;>simp_all [RV,nrf]
 |.int b,y,v,_,hy,r,q=>by cases y<;>simp_all [RV,nrf]
 |.str b,y,v,_,hy,r,q=>by cases y<;>simp_all [RV,nrf]
 |.ty _,y,v,h,hy,r,q=>by simp[nrf]at h
 |.frl _,y,v,h,hy,r,q=>by simp[nrf]at h
 |.ref _,y,v,h,hy,r,q=>by simp[nrf]at h
 |.exc _,y,v,h,hy,r,q=>by simp[nrf]at h
 |.tup xs,y,v,h,hy,r,q=>by
  obtain⟨a,vs,rfl,sa,ra⟩:=r
  cases y with
  |tup ys=>
   obtain⟨b,ws,e,sb,rb⟩:=q
   cases e
   have:=I.tuple_inj sa sb
   subst this
   rw[RVs.inj I xs ys vs (by simpa[nrf]using h) (by simpa[nrf]using hy) ra rb]
  |non=>cases q
  |bl _=>cases q
  |int _=>cases q
  |str _=>cases q
  |ty _=>simp[nrf]at hy
  |frl _=>simp[nrf]at hy
  |ref _=>simp[nrf]at hy
  |exc _=>simp[nrf]at hy
theorem RVs.inj(I:Inv X pins σ H s):∀(xs ys:List PV)(vs:List V),nrfs xs=true->nrfs ys=true->RVs X.K H φ xs vs->RVs X.K H φ ys vs->xs=ys
 |[],ys,vs,_,_,r,q=>by
  rw[show vs=[]from r]at q
  exact(Q3t.mp (by rw[RVs.length q];rfl)).symm
 |x::xs,ys,vs,h,h',r,q=>by
  obtain⟨v,ws,rfl,r1,r2⟩:=r
  cases ys with
  |nil=>cases(show v::ws=[]from q)
  |cons y ys=>
   obtain⟨v',ws',e,q1,q2⟩:=q
   cases e
   simp only[nrfs,Q3i]at h h'
   rw[RV.inj I x y v h.1 h'.1 r1 q1,RVs.inj I xs ys ws h.2 h'.2 r2 q2]
end
theorem q2j(A:Q1t):A.in1.units=A.units+1:=rfl
theorem q2v{vs:List V}{its:List Q0b}(r:Vals vs its){j:Nat}(h:j<its.toArray.size){x:V}(e:vs[j]?=some x):RelV x its.toArray[j]:=by
 obtain⟨u,e1,r1⟩:=r.get e
 have:its.toArray[j]=u:=by
  have h':j<its.length:=by simpa using h
  rw[Q0e h']at e1
  simpa using e1
 rw[this]
 exact r1
theorem q0n:∀{xs:List PV}{j:Nat}{x:PV},nrfs xs=true->xs[j]?=some x->nrf x=true
 |[],_,_,_,e=>by simp at e
 |x::xs,0,y,h,e=>by simp[nrfs]at h e;subst e;exact h.1
 |x::xs,j+1,y,h,e=>by simp[nrfs]at h e;exact q0n h.2 e
theorem q2u:∀{xs:List PV}{j:Nat}{x:PV},xs[j]?=some x->dep x<=deps xs
 |[],_,_,e=>by simp at e
 |x::xs,0,y,e=>by simp at e;subst e;simp only[deps];omega
 |x::xs,j+1,y,e=>by simp at e;have:=q2u e;simp only[deps];omega
theorem getD_some{xs:List PV}{j:Nat}{x:PV}(e:xs[j]?=some x):xs.getD j .non=x:=by rw[Q5a,e];rfl
theorem q7m(I:Inv X pins σ H s):∀(d:Nat)(A:Q1t)(x y:PV)(x' y':V)(v u:Q0b),nrf x=true->nrf y=true->dep x<=d->A.units+d<cLine->RV X.K H φ x x'->RV X.K H φ y y'->RelV x' v->RelV y' u->Q4v A s v u (eqB x y):=by
 intro d
 induction d with
 |zero=>
  intro A x y x' y' v u hx hy hd hu rx ry qx qy
  cases x with
  |tup xs=>simp[dep]at hd
  |non=>
   cases rx;cases qx
   cases y with
   |non=>cases ry;cases qy;exact .same _
   |bl b=>cases ry;cases qy;exact .none_bool b
   |int b=>cases ry;obtain⟨t,rfl⟩:=qy;exact .none_int b t
   |str b=>cases ry;obtain⟨t,rfl⟩:=qy;exact .none_str b t
   |tup ys=>obtain⟨b,ws,rfl,sb,rb⟩:=ry;cases qy;obtain⟨_,_,p,_⟩:=I.tuple sb;exact .none_tuple p (by omega)
   |ty _=>simp[nrf]at hy
   |frl _=>simp[nrf]at hy
   |ref _=>simp[nrf]at hy
   |exc _=>simp[nrf]at hy
  |bl a=>
   cases rx;cases qx
   cases y with
   |non=>cases ry;cases qy;exact .bool_none a
   |bl b=>cases ry;cases qy;exact .bool_bool a b
   |int b=>cases ry;obtain⟨t,rfl⟩:=qy;exact .bool_int a b t
   |str b=>cases ry;obtain⟨t,rfl⟩:=qy;exact .bool_str a b t
   |tup ys=>obtain⟨b,ws,rfl,sb,rb⟩:=ry;cases qy;obtain⟨_,_,p,_⟩:=I.tuple sb;exact .bool_tuple a p (by omega)
   |ty _=>simp[nrf]at hy
   |frl _=>simp[nrf]at hy
   |ref _=>simp[nrf]at hy
   |exc _=>simp[nrf]at hy
  |int a=>
   cases rx;obtain⟨t,rfl⟩:=qx
   cases y with
   |non=>cases ry;cases qy;exact .int_none a t
   |bl b=>cases ry;cases qy;exact .int_bool a t b
   |int b=>cases ry;obtain⟨t',rfl⟩:=qy;exact .int_int a t b t'
   |str b=>cases ry;obtain⟨t',rfl⟩:=qy;exact .int_str a t b t'
   |tup ys=>obtain⟨b,ws,rfl,sb,rb⟩:=ry;cases qy;obtain⟨_,_,p,_⟩:=I.tuple sb;exact .int_tuple a t p (by omega)
   |ty _=>simp[nrf]at hy
   |frl _=>simp[nrf]at hy
   |ref _=>simp[nrf]at hy
   |exc _=>simp[nrf]at hy
  |str a=>
   cases rx;obtain⟨t,rfl⟩:=qx
   cases y with
   |non=>cases ry;cases qy;exact .str_none a t
   |bl b=>cases ry;cases qy;exact .str_bool a t b
   |int b=>cases ry;obtain⟨t',rfl⟩:=qy;exact .str_int a t b t'
   |str b=>cases ry;obtain⟨t',rfl⟩:=qy;exact .str_str a t b t'
   |tup ys=>obtain⟨b,ws,rfl,sb,rb⟩:=ry;cases qy;obtain⟨_,_,p,_⟩:=I.tuple sb;exact .str_tuple a t p (by omega)
   |ty _=>simp[nrf]at hy
   |frl _=>simp[nrf]at hy
   |ref _=>simp[nrf]at hy
   |exc _=>simp[nrf]at hy
  |ty _=>simp[nrf]at hx
  |frl _=>simp[nrf]at hx
  |ref _=>simp[nrf]at hx
  |exc _=>simp[nrf]at hx
 |succ d ih=>
  intro A x y x' y' v u hx hy hd hu rx ry qx qy
  cases x with
  |tup xs=>
   obtain⟨a,vs,rfl,sa,ra⟩:=id rx
   cases qx
   obtain⟨its,r1,p1,_⟩:=I.tuple sa
   cases y with
   |non=>cases ry;cases qy;exact .tuple_none p1 (by omega)
   |bl b=>cases ry;cases qy;exact .tuple_bool b p1 (by omega)
   |int b=>cases ry;obtain⟨t,rfl⟩:=qy;exact .tuple_int b t p1 (by omega)
   |str b=>cases ry;obtain⟨t,rfl⟩:=qy;exact .tuple_str b t p1 (by omega)
   |ty _=>simp[nrf]at hy
   |frl _=>simp[nrf]at hy
   |ref _=>simp[nrf]at hy
   |exc _=>simp[nrf]at hy
   |tup ys=>
    obtain⟨b,ws,rfl,sb,rb⟩:=id ry
    cases qy
    obtain⟨its2,r2,p2,_⟩:=I.tuple sb
    by_cases hab:a=b
    ·subst hab
     rw[RV.inj I _ _ _ hx hy rx ry,q5s _ hy]
     exact .same _
    ·refine .of_refs hab ?_
     have e:eqB (.tup xs) (.tup ys)=((Q1q (min its.toArray.size its2.toArray.size)).all (fun j=>eqB (xs.getD j .non) (ys.getD j .non))&&its.toArray.size==its2.toArray.size):=by
      simp only[eqB]
      rw[q3c,Q0g,Q0g,<-r1.length,<-r2.length,ra.length,rb.length]
     rw[e]
     refine .tuples p1 p2 (by omega) fun j h1 h2=>?_
     have hj1:j<xs.length:=by rw[ra.length,r1.length];simpa using h1
     have hj2:j<ys.length:=by rw[rb.length,r2.length];simpa using h2
     have e1:xs[j]?=some xs[j]:=Q0e hj1
     have e2:ys[j]?=some ys[j]:=Q0e hj2
     obtain⟨v1,g1,q1⟩:=ra.get e1
     obtain⟨v2,g2,q2⟩:=rb.get e2
     rw[getD_some e1,getD_some e2]
     have hdd:=q2u e1
     simp only[dep]at hd
     exact ih A.in1 _ _ v1 v2 _ _ (q0n (by simpa[nrf]using hx) e1) (q0n (by simpa[nrf]using hy) e2) (by omega) (by rw[q2j];omega) q1 q2 (q2v r1 h1 g1) (q2v r2 h2 g2)
  |non=>exact ih A _ _ x' y' v u hx hy (Q1f _) (by omega) rx ry qx qy
  |bl a=>exact ih A _ _ x' y' v u hx hy (Q1f _) (by omega) rx ry qx qy
  |int a=>exact ih A _ _ x' y' v u hx hy (Q1f _) (by omega) rx ry qx qy
  |str a=>exact ih A _ _ x' y' v u hx hy (Q1f _) (by omega) rx ry qx qy
  |ty _=>simp[nrf]at hx
  |frl _=>simp[nrf]at hx
  |ref _=>simp[nrf]at hx
  |exc _=>simp[nrf]at hx
end
section
variable{X:Cx}{pins:List (Q0u×Obj)}{s:Q0d}{σ:St}{H:Hp}{φ:List Q0u}
theorem y4u(I:Inv X pins σ H s)(d:Nat)(A:Q1t)(x y:PV)(x' y':V)(v u:Q0b)(hx:nrf x=true)(hy:nrf y=true)(hd:∀xs ys,x=.tup xs->y=.tup ys->dep x<=d)(hu:A.units+d<cLine)(rx:RV X.K H φ x x')(ry:RV X.K H φ y y')(qx:RelV x' v)(qy:RelV y' u):SeqAt.RcAt A s v u (eqB x y):=by
 cases x with
 |non=>
  cases rx
  cases qx
  cases y with
  |non=>cases ry;cases qy;exact .none_none
  |bl b=>cases ry;cases qy;exact .none_bool b
  |int b=>cases ry;obtain⟨t',rfl⟩:=qy;exact .none_int b t'
  |str b=>cases ry;obtain⟨t',rfl⟩:=qy;exact .none_str b t'
  |tup ys=>obtain⟨b,ws,rfl,sb,rb⟩:=ry;cases qy;obtain⟨_,_,p,_⟩:=I.tuple sb;exact .none_tuple  p (by omega)
  |ty _=>simp[nrf]at hy
  |frl _=>simp[nrf]at hy
  |ref _=>simp[nrf]at hy
  |exc _=>simp[nrf]at hy
 |bl a=>
  cases rx
  cases qx
  cases y with
  |non=>cases ry;cases qy;exact .bool_none a
  |bl b=>cases ry;cases qy;exact .bool_bool a b
  |int b=>cases ry;obtain⟨t',rfl⟩:=qy;exact .bool_int a b t'
  |str b=>cases ry;obtain⟨t',rfl⟩:=qy;exact .bool_str a b t'
  |tup ys=>obtain⟨b,ws,rfl,sb,rb⟩:=ry;cases qy;obtain⟨_,_,p,_⟩:=I.tuple sb;exact .bool_tuple a p (by omega)
  |ty _=>simp[nrf]at hy
  |frl _=>simp[nrf]at hy
  |ref _=>simp[nrf]at hy
  |exc _=>simp[nrf]at hy
 |int a=>
  cases rx
  obtain⟨t,rfl⟩:=qx
  cases y with
  |non=>cases ry;cases qy;exact .int_none a t
  |bl b=>cases ry;cases qy;exact .int_bool a t b
  |int b=>cases ry;obtain⟨t',rfl⟩:=qy;exact .int_int a t b t'
  |str b=>cases ry;obtain⟨t',rfl⟩:=qy;exact .int_str a t b t'
  |tup ys=>obtain⟨b,ws,rfl,sb,rb⟩:=ry;cases qy;obtain⟨_,_,p,_⟩:=I.tuple sb;exact .int_tuple a t p (by omega)
  |ty _=>simp[nrf]at hy
  |frl _=>simp[nrf]at hy
  |ref _=>simp[nrf]at hy
  |exc _=>simp[nrf]at hy
 |str a=>
  cases rx
  obtain⟨t,rfl⟩:=qx
  cases y with
  |non=>cases ry;cases qy;exact .str_none a t
  |bl b=>cases ry;cases qy;exact .str_bool a t b
  |int b=>cases ry;obtain⟨t',rfl⟩:=qy;exact .str_int a t b t'
  |str b=>cases ry;obtain⟨t',rfl⟩:=qy;exact .str_str a t b t'
  |tup ys=>obtain⟨b,ws,rfl,sb,rb⟩:=ry;cases qy;obtain⟨_,_,p,_⟩:=I.tuple sb;exact .str_tuple a t p (by omega)
  |ty _=>simp[nrf]at hy
  |frl _=>simp[nrf]at hy
  |ref _=>simp[nrf]at hy
  |exc _=>simp[nrf]at hy
 |ty _=>simp[nrf]at hx
 |frl _=>simp[nrf]at hx
 |ref _=>simp[nrf]at hx
 |exc _=>simp[nrf]at hx
 |tup xs=>
  obtain⟨a,vs,rfl,sa,ra⟩:=id rx
  cases qx
  obtain⟨its,r1,p1,_⟩:=I.tuple sa
  cases y with
  |non=>cases ry;cases qy;exact .tuple_none p1 (by omega)
  |bl b=>cases ry;cases qy;exact .tuple_bool b p1 (by omega)
  |int b=>cases ry;obtain⟨t,rfl⟩:=qy;exact .tuple_int b t p1 (by omega)
  |str b=>cases ry;obtain⟨t,rfl⟩:=qy;exact .tuple_str b t p1 (by omega)
  |ty _=>simp[nrf]at hy
  |frl _=>simp[nrf]at hy
  |ref _=>simp[nrf]at hy
  |exc _=>simp[nrf]at hy
  |tup ys=>
   obtain⟨b,ws,rfl,sb,rb⟩:=id ry
   cases qy
   obtain⟨its2,r2,p2,_⟩:=I.tuple sb
   have e:eqB (.tup xs) (.tup ys)=((Q1q (min its.toArray.size its2.toArray.size)).all (fun j=>eqB (xs.getD j .non) (ys.getD j .non))&&its.toArray.size==its2.toArray.size):=by
    simp only[eqB]
    rw[q3c,Q0g,Q0g,<-r1.length,<-r2.length,ra.length,rb.length]
   rw[e]
   have hd':=hd xs ys rfl rfl
   simp only[dep]at hd'
   refine .tuples p1 p2 (by omega) fun j h1 h2=>?_
   have hj1:j<xs.length:=by rw[ra.length,r1.length];simpa using h1
   have hj2:j<ys.length:=by rw[rb.length,r2.length];simpa using h2
   have e1:xs[j]?=some xs[j]:=Q0e hj1
   have e2:ys[j]?=some ys[j]:=Q0e hj2
   obtain⟨v1,g1,q1⟩:=ra.get e1
   obtain⟨v2,g2,q2⟩:=rb.get e2
   rw[getD_some e1,getD_some e2]
   have hdd:=q2u e1
   exact q7m I (d-1) A.in1 _ _ v1 v2 _ _ (q0n (by simpa[nrf]using hx) e1) (q0n (by simpa[nrf]using hy) e2) (by omega) (by rw[q2j];omega) q1 q2 (q2v r1 h1 g1) (q2v r2 h2 g2)
theorem z3f(I:Inv X pins σ H s)(d:Nat)(A:Q1t)(x y:PV)(x' y':V)(v u:Q0b)(hx:nrf x=true)(hy:nrf y=true)(hd:∀xs ys,x=.tup xs->y=.tup ys->dep x<=d)(hu:A.units+d<cLine)(rx:RV X.K H φ x x')(ry:RV X.K H φ y y')(qx:RelV x' v)(qy:RelV y' u):Z1g A s v u (!eqB x y):=by
 cases x with
 |non=>
  cases rx
  cases qx
  cases y with
  |non=>cases ry;cases qy;exact .none_none
  |bl b=>cases ry;cases qy;exact .none_bool b
  |int b=>cases ry;obtain⟨t',rfl⟩:=qy;exact .none_int b t'
  |str b=>cases ry;obtain⟨t',rfl⟩:=qy;exact .none_str b t'
  |tup ys=>obtain⟨b,ws,rfl,sb,rb⟩:=ry;cases qy;obtain⟨_,_,p,_⟩:=I.tuple sb;exact .none_tuple  p (by omega)
  |ty _=>simp[nrf]at hy
  |frl _=>simp[nrf]at hy
  |ref _=>simp[nrf]at hy
  |exc _=>simp[nrf]at hy
 |bl a=>
  cases rx
  cases qx
  cases y with
  |non=>cases ry;cases qy;exact .bool_none a
  |bl b=>cases ry;cases qy;exact .bool_bool a b
  |int b=>cases ry;obtain⟨t',rfl⟩:=qy;exact .bool_int a b t'
  |str b=>cases ry;obtain⟨t',rfl⟩:=qy;exact .bool_str a b t'
  |tup ys=>obtain⟨b,ws,rfl,sb,rb⟩:=ry;cases qy;obtain⟨_,_,p,_⟩:=I.tuple sb;exact .bool_tuple a p (by omega)
  |ty _=>simp[nrf]at hy
  |frl _=>simp[nrf]at hy
  |ref _=>simp[nrf]at hy
  |exc _=>simp[nrf]at hy
 |int a=>
  cases rx
  obtain⟨t,rfl⟩:=qx
  cases y with
  |non=>cases ry;cases qy;exact .int_none a t
  |bl b=>cases ry;cases qy;exact .int_bool a t b
  |int b=>cases ry;obtain⟨t',rfl⟩:=qy;exact .int_int a t b t'
  |str b=>cases ry;obtain⟨t',rfl⟩:=qy;exact .int_str a t b t'
  |tup ys=>obtain⟨b,ws,rfl,sb,rb⟩:=ry;cases qy;obtain⟨_,_,p,_⟩:=I.tuple sb;exact .int_tuple a t p (by omega)
  |ty _=>simp[nrf]at hy
  |frl _=>simp[nrf]at hy
  |ref _=>simp[nrf]at hy
  |exc _=>simp[nrf]at hy
 |str a=>
  cases rx
  obtain⟨t,rfl⟩:=qx
  cases y with
  |non=>cases ry;cases qy;exact .str_none a t
  |bl b=>cases ry;cases qy;exact .str_bool a t b
  |int b=>cases ry;obtain⟨t',rfl⟩:=qy;exact .str_int a t b t'
  |str b=>cases ry;obtain⟨t',rfl⟩:=qy;exact .str_str a t b t'
  |tup ys=>obtain⟨b,ws,rfl,sb,rb⟩:=ry;cases qy;obtain⟨_,_,p,_⟩:=I.tuple sb;exact .str_tuple a t p (by omega)
  |ty _=>simp[nrf]at hy
  |frl _=>simp[nrf]at hy
  |ref _=>simp[nrf]at hy
  |exc _=>simp[nrf]at hy
 |ty _=>simp[nrf]at hx
 |frl _=>simp[nrf]at hx
 |ref _=>simp[nrf]at hx
 |exc _=>simp[nrf]at hx
 |tup xs=>
  obtain⟨a,vs,rfl,sa,ra⟩:=id rx
  cases qx
  obtain⟨its,r1,p1,_⟩:=I.tuple sa
  cases y with
  |non=>cases ry;cases qy;exact .tuple_none p1 (by omega)
  |bl b=>cases ry;cases qy;exact .tuple_bool b p1 (by omega)
  |int b=>cases ry;obtain⟨t,rfl⟩:=qy;exact .tuple_int b t p1 (by omega)
  |str b=>cases ry;obtain⟨t,rfl⟩:=qy;exact .tuple_str b t p1 (by omega)
  |ty _=>simp[nrf]at hy
  |frl _=>simp[nrf]at hy
  |ref _=>simp[nrf]at hy
  |exc _=>simp[nrf]at hy
  |tup ys=>
   obtain⟨b,ws,rfl,sb,rb⟩:=id ry
   cases qy
   obtain⟨its2,r2,p2,_⟩:=I.tuple sb
   have e:eqB (.tup xs) (.tup ys)=((Q1q (min its.toArray.size its2.toArray.size)).all (fun j=>eqB (xs.getD j .non) (ys.getD j .non))&&its.toArray.size==its2.toArray.size):=by
    simp only[eqB]
    rw[q3c,Q0g,Q0g,<-r1.length,<-r2.length,ra.length,rb.length]
   rw[e]
   have hd':=hd xs ys rfl rfl
   simp only[dep]at hd'
   refine .tuples p1 p2 (by omega) fun j h1 h2=>?_
   have hj1:j<xs.length:=by rw[ra.length,r1.length];simpa using h1
   have hj2:j<ys.length:=by rw[rb.length,r2.length];simpa using h2
   have e1:xs[j]?=some xs[j]:=Q0e hj1
   have e2:ys[j]?=some ys[j]:=Q0e hj2
   obtain⟨v1,g1,q1⟩:=ra.get e1
   obtain⟨v2,g2,q2⟩:=rb.get e2
   rw[getD_some e1,getD_some e2]
   have hdd:=q2u e1
   exact q7m I (d-1) A.in1 _ _ v1 v2 _ _ (q0n (by simpa[nrf]using hx) e1) (q0n (by simpa[nrf]using hy) e2) (by omega) (by rw[q2j];omega) q1 q2 (q2v r1 h1 g1) (q2v r2 h2 g2)
theorem z4g{f:PV->Bool}{e:Q0b->Bool}:∀{its:List Q0b}{ys:List PV},its.length=ys.length->(∀(j:Nat) u y,its[j]?=some u->ys[j]?=some y->e u=f y)->its.any e=ys.any f
 |[],[],_,_=>rfl
 |u::its,y::ys,hl,he=>by
  rw[Q6g,Q6g,he 0 u y rfl rfl,z4g (by simpa using hl) fun j u y h1 h2=>he (j+1) u y (by simpa using h1) (by simpa using h2)]
 |[],_::_,hl,_=>by simp at hl
 |_::_,[],hl,_=>by simp at hl
end
def okEq(x:PV):Prop:=nrf x=true/\dep x<=190
def q2m(xs:List PV):Prop:=nrfs xs=true/\deps xs<=190
def cEqG(neg:Bool):F2:=fun x y S Q=>match x,y with
 |.tup xs,.tup ys=>(okEq (.tup xs)/\okEq (.tup ys))/\Q (.bl (neg ^^ eqBs xs ys)) S
 |.ref m,.ref n=>match q1p S m,q1p S n with
  |some xs,some ys=>(q2m xs/\q2m ys)/\Q (.bl (neg ^^ eqBs xs ys)) S
  |_,_=>False
 |.ref _,_=>False
 |_,.ref _=>False
 |x,y=>(nrf x=true/\nrf y=true)/\Q (.bl (neg ^^ eqB x y)) S
def cEq:F2:=cEqG false
def cNe:F2:=cEqG true
theorem y0i:∀{xs ys:List PV},xs.length≠ys.length->eqBs xs ys=false:=fun {xs ys} h=>by
 cases e:eqBs xs ys with
 |false=>rfl
 |true=>exact absurd (z3t e) h
theorem y0j{xs ys:List PV}(h:xs.length=ys.length):eqBs xs ys=(Q1q xs.length).all (fun j=>eqB (xs.getD j .non) (ys.getD j .non)):=by
 rw[q3c,<-h,Q9m];simp
section
variable{X:Cx}
theorem q5u(b:Bool):(false ^^ b)=b:=by cases b<;>rfl
theorem q4f(b:Bool):(true ^^ b)=!b:=by cases b<;>rfl
theorem q5l{pins:List (Q0u×Obj)}{s:Q0d}{σ:St}{H:Hp}{φ:List Q0u}{S:q0b}{Q0:VC}{Q:VK}{b b':Bool}(I:Inv X pins σ H s)(k:KE X.K φ H Q0 Q)(R:Rel X.K φ S H)(q:Q0 (.bl b) S)(e:b=b'):EP X pins σ Q (.bool b') s:=by
 subst e
 exact⟨.bl b,H,I,rfl,k _ S φ H _ q (Q0h _) (.refl _) R rfl⟩
theorem y0d{x y:PV}(h:∀xs ys,x=.tup xs->y=.tup ys->False)(d:Nat):∀xs ys,x=.tup xs->y=.tup ys->dep x<=d:=fun xs ys a b=>(h xs ys a b).elim
theorem x2f(hu:X.A.units+200<cLine):OpR X (compareOp .Eq) (q2n X.K cEq):=by
 rintro pins s σ H x y v u Q I rx ry ⟨φ,S,px,py,Q0,R,hx,hy,h,k⟩
 unfold cEq cEqG at h
 split at h
 ·rename_i xs ys
  obtain⟨⟨o1,o2⟩,h⟩:=h
  rw[q5u]at h
  exact y4u I 190 X.A _ _ x y v u o1.1 o2.1 (fun _ _ _ _=>o1.2) (by omega) hx hy rx ry X.prog X.w X.xe _ (q5l I k R h (by simp only[eqB]))
 ·rename_i m n
  split at h
  ·rename_i xs ys e1 e2
   obtain⟨⟨o1,o2⟩,h⟩:=h
   rw[q5u]at h
   obtain⟨a,rfl,qa⟩:=hx
   obtain⟨b,rfl,qb⟩:=hy
   obtain⟨vs,sa,ra⟩:=R.seq qa e1
   obtain⟨ws,sb,rb⟩:=R.seq qb e2
   cases rx
   cases ry
   obtain⟨its,r1,p1,_⟩:=I.list sa
   obtain⟨its2,r2,p2,_⟩:=I.list sb
   by_cases hl:xs.length=ys.length
   ·rw[y0j hl]at h
    have hz:its.toArray.size=its2.toArray.size:=by rw[Q0g,Q0g,<-r1.length,<-r2.length,<-ra.length,<-rb.length,hl]
    refine Z3n (e:=fun j=>eqB (xs.getD j .non) (ys.getD j .non)) p1.isList p2.isList hz (by omega) (fun j h1 h2=>?_) (q5l I k R h (by rw[Q0g,<-r1.length,<-ra.length]))
    have hj1:j<xs.length:=by rw[ra.length,r1.length];simpa using h1
    have hj2:j<ys.length:=by omega
    have e1:xs[j]?=some xs[j]:=Q0e hj1
    have e2:ys[j]?=some ys[j]:=Q0e hj2
    obtain⟨v1,g1,q1⟩:=ra.get e1
    obtain⟨v2,g2,q2⟩:=rb.get e2
    rw[getD_some e1,getD_some e2]
    have hdd:=q2u e1
    have:=o1.2
    exact q7m I 190 X.A.in1 _ _ v1 v2 _ _ (q0n o1.1 e1) (q0n o2.1 e2) (by omega) (by rw[q2j];omega) q1 q2 (q2v r1 h1 g1) (q2v r2 h2 g2)
   ·rw[y0i hl]at h
    have hz:(its.toArray.size != its2.toArray.size)=true:=by rw[Q0g,Q0g,<-r1.length,<-r2.length,<-ra.length,<-rb.length];simpa using hl
    exact Z0r p1.isList p2.isList hz (by omega) (q5l I k R h rfl)
  ·exact h.elim
 ·exact h.elim
 ·exact h.elim
 ·rename_i h1 h2 h3 h4
  obtain⟨⟨o1,o2⟩,h⟩:=h
  rw[q5u]at h
  exact y4u I 0 X.A _ _ x y v u o1 o2 (y0d (by assumption) _) (by omega) hx hy rx ry X.prog X.w X.xe _ (q5l I k R h rfl)
theorem x2c(hu:X.A.units+200<cLine):OpR X (compareOp .NotEq) (q2n X.K cNe):=by
 rintro pins s σ H x y v u Q I rx ry ⟨φ,S,px,py,Q0,R,hx,hy,h,k⟩
 unfold cNe cEqG at h
 split at h
 ·rename_i xs ys
  obtain⟨⟨o1,o2⟩,h⟩:=h
  rw[q4f]at h
  exact z3f I 190 X.A _ _ x y v u o1.1 o2.1 (fun _ _ _ _=>o1.2) (by omega) hx hy rx ry X.prog X.w X.xe _ (q5l I k R h (by simp only[eqB]))
 ·rename_i m n
  split at h
  ·rename_i xs ys e1 e2
   obtain⟨⟨o1,o2⟩,h⟩:=h
   rw[q4f]at h
   obtain⟨a,rfl,qa⟩:=hx
   obtain⟨b,rfl,qb⟩:=hy
   obtain⟨vs,sa,ra⟩:=R.seq qa e1
   obtain⟨ws,sb,rb⟩:=R.seq qb e2
   cases rx
   cases ry
   obtain⟨its,r1,p1,_⟩:=I.list sa
   obtain⟨its2,r2,p2,_⟩:=I.list sb
   by_cases hl:xs.length=ys.length
   ·rw[y0j hl]at h
    have hz:its.toArray.size=its2.toArray.size:=by rw[Q0g,Q0g,<-r1.length,<-r2.length,<-ra.length,<-rb.length,hl]
    refine Z1g.lists (e:=fun j=>eqB (xs.getD j .non) (ys.getD j .non)) p1.isList p2.isList hz (by omega) (fun j h1 h2=>?_) X.prog X.w X.xe _ (q5l I k R h (by rw[Q0g,<-r1.length,<-ra.length]))
    have hj1:j<xs.length:=by rw[ra.length,r1.length];simpa using h1
    have hj2:j<ys.length:=by omega
    have e1:xs[j]?=some xs[j]:=Q0e hj1
    have e2:ys[j]?=some ys[j]:=Q0e hj2
    obtain⟨v1,g1,q1⟩:=ra.get e1
    obtain⟨v2,g2,q2⟩:=rb.get e2
    rw[getD_some e1,getD_some e2]
    have hdd:=q2u e1
    have:=o1.2
    exact q7m I 190 X.A.in1 _ _ v1 v2 _ _ (q0n o1.1 e1) (q0n o2.1 e2) (by omega) (by rw[q2j];omega) q1 q2 (q2v r1 h1 g1) (q2v r2 h2 g2)
   ·rw[y0i hl]at h
    have hz:(its.toArray.size != its2.toArray.size)=true:=by rw[Q0g,Q0g,<-r1.length,<-r2.length,<-ra.length,<-rb.length];simpa using hl
    exact Z1g.lists_lengths p1.isList p2.isList hz (by omega) X.prog X.w X.xe _ (q5l I k R h rfl)
  ·exact h.elim
 ·exact h.elim
 ·exact h.elim
 ·rename_i h1 h2 h3 h4
  obtain⟨⟨o1,o2⟩,h⟩:=h
  rw[q4f]at h
  exact z3f I 0 X.A _ _ x y v u o1 o2 (y0d (by assumption) _) (by omega) hx hy rx ry X.prog X.w X.xe _ (q5l I k R h rfl)
def inS(i j:Str):Bool:=!(Q1g.Str.occurrences j i 0 j.length 1).isEmpty
def cInG(neg:Bool):F2:=fun x y S Q=>match x,y with
 |.str i,.str j=>Q (.bl (neg ^^ inS i j)) S
 |x,.tup ys=>(okEq x/\q2m ys)/\Q (.bl (neg ^^ ys.any fun y=>eqB y x)) S
 |x,.ref n=>match q1p S n with
  |some ys=>(okEq x/\q2m ys)/\Q (.bl (neg ^^ ys.any fun y=>eqB y x)) S
  |none=>False
 |_,_=>False
def q3d:F2:=cInG true
open Classical in
theorem z3r{pins:List (Q0u×Obj)}{s:Q0d}{σ:St}{H:Hp}{φ:List Q0u}(hu:X.A.units+200<cLine)(I:Inv X pins σ H s){x:PV}{x':V}{v:Q0b}{ys:List PV}{vs:List V}{its:List Q0b}(ox:okEq x)(oy:q2m ys)(rx:RV X.K H φ x x')(qx:RelV x' v)(ry:RVs X.K H φ ys vs)(r:Vals vs its) :
  ∃e:Q0b->Bool,(∀u,u∈its.toArray->Q4v X.A.in1 s u v (e u))/\its.toArray.any e=ys.any fun y=>eqB y x:=by
 have key:∀(j:Nat) u y,its[j]?=some u->ys[j]?=some y->∃y',RV X.K H φ y y'/\RelV y' u:=fun j u y h1 h2=>by
  obtain⟨y',g,q⟩:=ry.get h2
  obtain⟨u',g',q'⟩:=r.get g
  rw[h1]at g'
  cases g'
  exact⟨y',q,q'⟩
 refine⟨fun u=>decide (∃(j:Nat)(y:PV),its[j]?=some u/\ys[j]?=some y/\eqB y x=true),?_,?_⟩
 ·intro u hu'
  have hm:u∈its:=by simpa using hu'
  obtain⟨j,hj,e⟩:=Q6e.mp hm
  have hjy:j<ys.length:=by rw[ry.length,r.length];exact hj
  have e1:its[j]?=some u:=by rw[Q0e hj,e]
  have e2:ys[j]?=some ys[j]:=Q0e hjy
  obtain⟨y',q,q'⟩:=key j u _ e1 e2
  have hdd:=q2u e2
  have o2:=oy.2
  have base:=q7m I 190 X.A.in1 _ x y' x' u v (q0n oy.1 e2) ox.1 (by omega) (by rw[q2j];omega) q rx q' qx
  have:decide (∃(j:Nat)(y:PV),its[j]?=some u/\ys[j]?=some y/\eqB y x=true)=eqB ys[j] x:=by
   cases hb:eqB ys[j] x with
   |true=>exact decide_eq_true ⟨j,_,e1,e2,hb⟩
   |false=>
    refine decide_eq_false ?_
    rintro⟨i,y,h1,h2,h3⟩
    obtain⟨y2,g,g'⟩:=key i u y h1 h2
    have:=g'.inj q'
    subst this
    have:=RV.inj I _ _ _ (q0n oy.1 h2) (q0n oy.1 e2) g q
    rw[this,hb]at h3
    cases h3
  dsimp only
  rw[this]
  exact base
 ·rw[List.any_toArray]
  refine z4g (by rw[<-r.length,ry.length]) fun j u y h1 h2=>?_
  obtain⟨y',q,q'⟩:=key j u y h1 h2
  cases hb:eqB y x with
  |true=>exact decide_eq_true ⟨j,_,h1,h2,hb⟩
  |false=>
   refine decide_eq_false ?_
   rintro⟨i,z,g1,g2,g3⟩
   obtain⟨y2,g,g'⟩:=key i u z g1 g2
   have:=g'.inj q'
   subst this
   have:=RV.inj I _ _ _ (q0n oy.1 g2) (q0n oy.1 h2) g q
   rw[this,hb]at g3
   cases g3
theorem z8n(hu:X.A.units+200<cLine):OpR X (compareOp .NotIn) (q2n X.K q3d):=by
 rintro pins s σ H x y v u Q I rx ry ⟨φ,S,px,py,Q0,R,hx,hy,h,k⟩
 unfold q3d cInG at h
 split at h
 ·rename_i i j
  rw[q4f]at h
  exact q9q pins s σ H x y v u Q I rx ry ⟨i,j,hx,hy,k _ S φ H _ h (Q0h _) (.refl _) R rfl⟩
 ·rename_i ys _
  obtain⟨⟨o1,o2⟩,h⟩:=h
  rw[q4f]at h
  obtain⟨a,vs,rfl,sa,ra⟩:=hy
  cases ry
  obtain⟨its,r1,p1,_⟩:=I.tuple sa
  obtain⟨e,h1,h2⟩:=z3r hu I o1 o2 hx rx ra r1
  exact SeqAt.notIn_tupleAt e p1 h1 (q5l I k R h (by rw[h2]))
 ·rename_i n _
  split at h
  ·rename_i ys es
   obtain⟨⟨o1,o2⟩,h⟩:=h
   rw[q4f]at h
   obtain⟨a,rfl,qa⟩:=hy
   cases ry
   obtain⟨vs,sa,ra⟩:=R.seq qa es
   obtain⟨its,r1,p1,_⟩:=I.list sa
   obtain⟨e,h1,h2⟩:=z3r hu I o1 o2 hx rx ra r1
   exact SeqAt.notIn_listAt e p1.isList h1 (q5l I k R h (by rw[h2]))
  ·exact h.elim
 ·exact h.elim
def y9e:PV->Bool
 |.non=>true
 |_=>false
def q7p:F2:=fun x y S Q=>match x,y with
 |x,.non=>Q (.bl (!y9e x)) S
 |.bl a,.bl b=>Q (.bl (!decide (a=b))) S
 |_,_=>False
theorem z9v{K:Q2p}{H:Hp}{φ:List Q0u}{x:PV}{x':V}(r:RV K H φ x x'):decide (x'=.non)=y9e x:=by
 cases x with
 |non=>cases r;rfl
 |bl b=>cases r;exact decide_eq_false (fun z=>nomatch z)
 |int b=>cases r;exact decide_eq_false (fun z=>nomatch z)
 |str b=>cases r;exact decide_eq_false (fun z=>nomatch z)
 |ty b=>cases r;exact decide_eq_false (fun z=>nomatch z)
 |tup b=>obtain⟨a,vs,rfl,_⟩:=r;exact decide_eq_false (fun z=>nomatch z)
 |frl b=>obtain⟨a,vs,rfl,_⟩:=r;exact decide_eq_false (fun z=>nomatch z)
 |ref b=>obtain⟨a,rfl,_⟩:=r;exact decide_eq_false (fun z=>nomatch z)
 |exc b=>obtain⟨a,rfl,_⟩:=r;exact decide_eq_false (fun z=>nomatch z)
theorem z8o:OpR X (compareOp .IsNot) (q2n X.K q7p):=by
 rintro pins s σ H x y v u Q I rx ry ⟨φ,S,px,py,Q0,R,hx,hy,h,k⟩
 unfold q7p at h
 split at h
 ·exact y8d pins s σ H x y v u Q I rx ry ⟨hy,k _ S φ H _ h (Q0h _) (.refl _) R (by rw[z9v hx];rfl)⟩
 ·exact z8p pins s σ H x y v u Q I rx ry ⟨_,_,hx,hy,k _ S φ H _ h (Q0h _) (.refl _) R rfl⟩
 ·exact h.elim
end
theorem z2r{K:Q2p}{H:Hp}{φ:List Q0u}{xs:List PV}{vs:List V}{i:Int}{v:PV}(r:RVs K H φ xs vs)(e:atI xs i=some v):∃x,atI vs i=some x/\RV K H φ v x:=by
 unfold atI at e ⊢
 rw[<-r.length]
 cases h:ixN xs.length i with
 |none=>rw[h]at e;cases e
 |some j=>
  rw[h]at e
  obtain⟨x,h1,h2⟩:=r.get (i:=j) e
  exact⟨x,h1,h2⟩
def valP(kvs:List (Key×PV))(k:Key):Option PV:=(kvs.find? fun kv=>decide (kv.1=k)).map (·.2)
def putP(kvs:List (Key×PV))(k:Key)(v:PV):List (Key×PV):=
 if kvs.any (fun kv=>decide (kv.1=k))then kvs.map fun kv=>if kv.1=k then(kv.1,v)else kv else kvs++[(k,v)]
def q8m:PV->Option Key
 |.int i=>some (.inl i)
 |.str x=>some (.inr x)
 |_=>none
theorem q8l{K:Q2p}{H:Hp}{φ:List Q0u}{y:PV}{y':V}{k:Key}(r:RV K H φ y y')(e:q8m y=some k):y'=kV k:=by
 cases y with
 |int i=>cases e;exact r
 |str i=>cases e;exact r
 |_=>cases e
theorem RKs.val{K:Q2p}{H:Hp}{φ:List Q0u}{xs:List (Key×PV)}{ys:List (Key×V)}(h:RKs K H φ xs ys)(k:Key):(∀v,valP xs k=some v->∃x,valV ys k=some x/\RV K H φ v x)/\(valP xs k=none->valV ys k=none):=by
 unfold RKs at h
 induction h with
 |nil=>exact⟨fun v e=>by simp[valP]at e,fun _=>rfl⟩
 |@cons p q ps qs hd t ih=>
  by_cases e:p.1=k
  ·have e1:valP (p::ps) k=some p.2:=by simp[valP,Q2y,e]
   rw[e1,q7u (hd.1.symm.trans e)]
   exact⟨fun v z=>by cases z;exact⟨_,rfl,hd.2⟩,fun z=>by cases z⟩
  ·have e1:valP (p::ps) k=valP ps k:=by simp[valP,Q2y,e]
   rw[e1,q7v (fun z=>e (hd.1.trans z))]
   exact ih
theorem RKs.any{K:Q2p}{H:Hp}{φ:List Q0u}{xs:List (Key×PV)}{ys:List (Key×V)}(h:RKs K H φ xs ys)(k:Key):(xs.any fun kv=>decide (kv.1=k))=ys.any fun kv=>decide (kv.1=k):=by
 unfold RKs at h
 induction h with
 |nil=>rfl
 |@cons p q ps qs hd t ih=>rw[Q6g,Q6g,ih,hd.1]
theorem RKs.repl{K:Q2p}{H:Hp}{φ:List Q0u}{xs:List (Key×PV)}{ys:List (Key×V)}(h:RKs K H φ xs ys)(k:Key){v:PV}{x:V}(r:RV K H φ v x):RKs K H φ (xs.map fun kv=>if kv.1=k then(kv.1,v)else kv) (ys.map fun kv=>if kv.1=k then(kv.1,x)else kv):=by
 unfold RKs at h ⊢
 induction h with
 |nil=>exact .nil
 |@cons p q ps qs hd t ih=>
  rw[Q0v,Q0v]
  refine .cons ?_ ih
  by_cases e:p.1=k
  ·rw[if_pos e,if_pos (hd.1.symm.trans e)]
   exact⟨hd.1,r⟩
  ·rw[if_neg e,if_neg (fun z=>e (hd.1.trans z))]
   exact hd
theorem RKs.snoc{K:Q2p}{H:Hp}{φ:List Q0u}{xs:List (Key×PV)}{ys:List (Key×V)}(h:RKs K H φ xs ys)(k:Key){v:PV}{x:V}(r:RV K H φ v x):RKs K H φ (xs++[(k,v)]) (ys++[(k,x)]):=by
 unfold RKs at h ⊢
 induction h with
 |nil=>exact .cons ⟨rfl,r⟩ .nil
 |cons hd t ih=>exact .cons hd ih
theorem RKs.put{K:Q2p}{H:Hp}{φ:List Q0u}{xs:List (Key×PV)}{ys:List (Key×V)}(h:RKs K H φ xs ys)(k:Key){v:PV}{x:V}(r:RV K H φ v x):RKs K H φ (putP xs k v) (putK ys k x):=by
 unfold putP putK
 rw[h.any]
 split
 ·exact h.repl k r
 ·exact h.snoc k r
def bIx:F2:=fun x y S Q=>match x,y with
 |.tup xs,.int i=>match atI xs i with
  |some v=>Q v S
  |none=>False
 |.str z,.int i=>z.length<=Q0l/\match atI z.cps.toList i with
  |some c=>Q (.str ⟨#[c]⟩) S
  |none=>False
 |.frl xs,.int i=>match atI xs i with
  |some v=>Q v S
  |none=>False
 |.ref n,y=>match S[n]? with
  |some (.lst xs)=>match y with
   |.int i=>match atI xs i with
    |some v=>Q v S
    |none=>False
   |_=>False
  |some (.dK kvs)=>match q8m y with
   |some k=>match valP kvs k with
    |some v=>Q v S
    |none=>False
   |none=>False
  |_=>False
 |_,_=>False
theorem y8z{X:Cx}(hu:X.A.units+200<cLine):IxR X (fun x y H Q=>∃a v,x=.ref a/\DGet H a y (some v)/\Q v H):=by
 intro value slice pins s σ H x y v u Q I rx ry h hs
 obtain⟨a,w,rfl,g,q⟩:=h
 cases rx
 exact Q6w (z2j I g) Q6m.lookup (z0t (by omega) I g ry fun w' s3 I3 rw'=>⟨w,H,I3,rw',q⟩) hs
section
variable{X:Cx}{G:GX}{pos:Pos}
theorem y8y(hu:X.A.units+200<cLine):IxR X (q2n X.K bIx):=by
 rintro value slice pins s σ H x y v u Q I rx ry ⟨φ,S,px,py,Q0,R,hx,hy,h,k⟩ hs
 unfold bIx at h
 split at h
 ·rename_i xs i
  split at h
  ·rename_i w e
   obtain⟨a,vs,rfl,sa,ra⟩:=hx
   cases hy
   obtain⟨w',e',r'⟩:=z2r ra e
   exact x3g value slice pins s σ H _ _ v u Q I rx ry ⟨a,vs,i,w',rfl,rfl,sa,e',k _ S φ H _ h (Q0h _) (.refl _) R r'⟩ hs
  ·exact h.elim
 ·rename_i z i
  obtain⟨hz,h⟩:=h
  split at h
  ·rename_i c e
   cases hx
   cases hy
   exact x3h value slice pins s σ H _ _ v u Q I rx ry ⟨z,i,c,rfl,rfl,hz,e,k _ S φ H _ h (Q0h _) (.refl _) R rfl⟩ hs
  ·exact h.elim
 ·rename_i xs i
  split at h
  ·rename_i w e
   obtain⟨a,vs,rfl,sa,ra⟩:=hx
   cases hy
   obtain⟨w',e',r'⟩:=z2r ra e
   exact z9s value slice pins s σ H _ _ v u Q I rx ry ⟨a,vs,i,w',rfl,rfl,sa.sq,e',k _ S φ H _ h (Q0h _) (.refl _) R r'⟩ hs
  ·exact h.elim
 ·rename_i n
  obtain⟨a,rfl,qa⟩:=hx
  split at h
  ·rename_i xs es
   split at h
   ·rename_i i
    split at h
    ·rename_i w e
     cases hy
     obtain⟨vs,sa,ra⟩:=R.obj n a _ qa es
     obtain⟨w',e',r'⟩:=z2r ra e
     exact z9s value slice pins s σ H _ _ v u Q I rx ry ⟨a,vs,i,w',rfl,rfl,SqL.of sa,e',k _ S φ H _ h (Q0h _) (.refl _) R r'⟩ hs
    ·exact h.elim
   ·exact h.elim
  ·rename_i kvs es
   split at h
   ·rename_i kk ek
    split at h
    ·rename_i w e
     have hk:=q8l hy ek
     subst hk
     obtain⟨ws,sa,ra⟩:=R.obj n a _ qa es
     obtain⟨w',e',r'⟩:=(ra.val kk).1 w e
     refine y8z hu value slice pins s σ H _ _ v u Q I rx ry ⟨a,w',rfl,?_,k _ S φ H _ h (Q0h _) (.refl _) R r'⟩ hs
     rw[<-e']
     exact DGet.k sa
    ·exact h.elim
   ·exact h.elim
  ·exact h.elim
 ·exact h.elim
variable{a b:Expr}{wa wb:WE}
theorem x0s(hu:X.A.units+200<cLine)(ha:SimE X G a wa)(hb:SimE X G b wb)(hs:q8y b:=by exact fun _ _=>rfl):SimE X G (.Subscript a b pos) (wBin bIx wa wb):=(y7t (y8y hu) ha hb hs).imp fun _ _ _ h=>q3v h
def cutP{α:Type}(xs:List α)(lo hi:Option Int):List α:=(xs.drop (HT.sIx xs.length 0 lo)).take (HT.sIx xs.length xs.length hi-HT.sIx xs.length 0 lo)
theorem z2m{K:Q2p}{H:Hp}{φ:List Q0u}{xs:List PV}{vs:List V}(lo hi:Option Int)(r:RVs K H φ xs vs):RVs K H φ (cutP xs lo hi) (cutV vs lo hi):=by
 unfold cutP cutV
 rw[<-r.length]
 exact(r.drop _).take _
abbrev F3:=PV->Option Int->Option Int->q0b->VC->Prop
def bSl:F3:=fun x lo hi S Q=>match x with
 |.str z=>z.length<=Q0l/\Q (.str (Q7v z lo hi)) S
 |.tup xs=>¬(HT.sIx xs.length 0 lo=0/\HT.sIx xs.length xs.length hi=xs.length)/\Q (.tup (cutP xs lo hi)) S
 |.frl xs=>Q (.ref S.length) (S++[.lst (cutP xs lo hi)])
 |.ref n=>match q1p S n with
  |some xs=>Q (.ref S.length) (S++[.lst (cutP xs lo hi)])
  |none=>False
 |_=>False
def x2v(K:Q2p)(f:F3):V->Option Int->Option Int->Hp->VK->Prop:=fun x' lo hi H Q=>∃φ S x Q0,Rel K φ S H/\RV K H φ x x'/\f x lo hi S Q0/\KE K φ H Q0 Q
theorem sls:SlR X (x2v X.K bSl):=by
 rintro pins s σ H x v vl vu lo hi sl Q I rx hs pl pu ⟨φ,S,px,Q0,R,hx,h,k⟩
 unfold bSl at h
 split at h
 ·rename_i z
  cases hx
  exact x0q pins s σ H _ v vl vu lo hi sl Q I rx hs pl pu ⟨z,rfl,h.1,k _ S φ H _ h.2 (Q0h _) (.refl _) R rfl⟩
 ·rename_i xs
  obtain⟨a,vs,rfl,sa,ra⟩:=hx
  exact x0p pins s σ H _ v vl vu lo hi sl Q I rx hs pl pu ⟨a,vs,rfl,sa,by rw[<-ra.length];exact h.1,k.tup h.2 R (z2m lo hi ra)⟩
 ·rename_i xs
  obtain⟨a,vs,rfl,sa,ra⟩:=hx
  exact z6w pins s σ H _ v vl vu lo hi sl Q I rx hs pl pu ⟨a,vs,rfl,sa.sq,k.lst h R (z2m lo hi ra)⟩
 ·rename_i n
  split at h
  ·rename_i xs es
   obtain⟨a,rfl,qa⟩:=hx
   obtain⟨vs,sa,ra⟩:=R.seq qa es
   exact z6w pins s σ H _ v vl vu lo hi sl Q I rx hs pl pu ⟨a,vs,rfl,sa,k.lst h R (z2m lo hi ra)⟩
  ·exact h.elim
 ·exact h.elim
abbrev WO:=Loc->q0b->EK->(Option Int->q0b->Prop)->Prop
def KO(K:Q2p)(φ:List Q0u)(H:Hp)(Q0:Option Int->q0b->Prop)(Q:Option Int->Hp->Prop):Prop:=∀v S' φ' H',Q0 v S'->φ <+: φ'->Mono H H'->Rel K φ' S' H'->Q v H'
def x5m(K:Q2p)(G:GX)(w:WO):TO:=fun σV H Q=>∃φ σ S Q0,LRel K G H φ σ σV/\Rel K φ S H/\w σ S G.ek Q0/\KO K φ H Q0 Q
def SimO(X:Cx)(G:GX)(e:Option Expr)(w:WO):Prop:=PO X e (x5m X.K G w)
theorem PO.imp{e:Option Expr}{t t':TO}(h:PO X e t)(i:∀σ H Q,t' σ H Q->t σ H Q):PO X e t':=fun pins s σ H Q I q=>h pins s σ H Q I (i σ H Q q)
def q2a:WO:=fun _ S _ Q=>Q none S
def q5g(w:WE):WO:=fun σ S E Q=>w σ S E fun x S1=>match x with
 |.int i=>Q (some i) S1
 |_=>False
theorem z7i:SimO X G none q2a:=PO.imp y7m fun σV H Q hh1=>by obtain⟨φ,σ,S,Q0,L,R,h,k⟩:=hh1;exact(k none S φ H h (Q0h _) (.refl _) R)
theorem z7h{e:Expr}{w:WE}(h:SimE X G e w):SimO X G (some e) (q5g w):=
 PO.imp (z8a h) fun σV H Q hh1=>by obtain⟨φ,σ,S,Q0,L,R,h,k⟩:=hh1;exact(⟨φ,σ,S,_,L,R,h,fun v S1 φ1 H1 x q p1 m1 R1 r1=>by
  cases v with
  |int i=>exact ⟨i,r1,k _ S1 φ1 H1 q p1 m1 R1⟩
  |_=>exact q.elim⟩)
def wSl(w:WE)(wl wh:WO):WE:=fun σ S E Q=>w σ S E fun x S1=>wl σ S1 E fun lo S2=>wh σ S2 E fun hi S3=>bSl x lo hi S3 Q
theorem z7c{e:Expr}{w:WE}{lo hi:Option Expr}{wl wh:WO}{p2:Pos}(he:SimE X G e w)(hl:SimO X G lo wl)(hh:SimO X G hi wh):SimE X G (.Subscript e (.Slice lo hi none p2) pos) (wSl w wl wh):=
 (y2s sls he hl hh).imp fun σV H Q hh1=>by obtain⟨φ,σ,S,Q0,L,R,h,k⟩:=hh1;exact(⟨φ,σ,S,_,L,R,h,fun v S1 φ1 H1 x q p1 m1 R1 r1=>
  ⟨φ1,σ,S1,_,L.mono m1 p1,R1,q,fun l S2 φ2 H2 q2 p2 m2 R2=>
   ⟨φ2,σ,S2,_,(L.mono m1 p1).mono m2 p2,R2,q2,fun u S3 φ3 H3 q3 p3 m3 R3=>
    ⟨φ3,S3,v,Q0,R3,RV.mono m3 p3 _ _ (RV.mono m2 p2 _ _ r1),q3,k.up ((p1.trans p2).trans p3) ((m1.trans m2).trans m3)⟩⟩⟩⟩)
abbrev FL:=List PV->q0b->VC->Prop
def q8j(K:Q2p)(f:FL):List V->Hp->VK->Prop:=fun xs' H Q=>∃φ S xs Q0,Rel K φ S H/\RVs K H φ xs xs'/\f xs S Q0/\KE K φ H Q0 Q
def wCB(f:FL)(wa:WA):WE:=fun σ S E Q=>wa σ S E fun xs S1=>f xs S1 Q
theorem z9j{f:FL}{wa:WA}{σV:St}{H:Hp}{Q:VK}(h:q3k X.K G (wCB f wa) σV H Q):tCB (q8j X.K f) (x2x X.K G wa) σV H Q:=by
 obtain⟨φ,σ,S,Q0,L,R,h,k⟩:=h
 exact⟨φ,σ,S,_,L,R,h,fun v S1 φ1 H1 x q p1 m1 R1 r1=>⟨φ1,S1,v,Q0,R1,r1,q,k.up p1 m1⟩⟩
theorem q5x{f:FL}{x:Str}{id:String}{p:Pos}{e:Expr}{es:List Expr}{wa:WA}(hc:q3r X (.builtin id) (q8j X.K f))(hm:X.mg x=none)(hv:bootBuiltins x=some (.builtin id))(ha:SimA X G (e::es) wa)(hg:Gl X x:=by rfl)(hn:x≠ "__name__" :=by decide)(hdb:(x==("__debug__" : Str))=false:=by decide)
  (he:Q1m (e::es) X.env=(false,eval e X.env)::Q1m es X.env:=by rfl) (hpl:(backTo pos (Q1m es X.env)).any (·.1)=false:=by rfl):SimE X G (.Call (.Name x p) (e::es) [] pos) (wCB f wa):=
 (y2v hc hg hm hv ha hn hdb he hpl).imp fun _ _ _ h=>z9j h
theorem q4w{f:FL}{x:Str}{T:String}{p:Pos}{e:Expr}{es:List Expr}{wa:WA}(hc:q3r X (.type T) (q8j X.K f))(hm:X.mg x=none)(hv:bootBuiltins x=some (.type T))(ha:SimA X G (e::es) wa)(hg:Gl X x:=by rfl)(hn:x≠ "__name__" :=by decide)(hdb:(x==("__debug__" : Str))=false:=by decide)
  (he:Q1m (e::es) X.env=(false,eval e X.env)::Q1m es X.env:=by rfl) (hpl:(backTo pos (Q1m es X.env)).any (·.1)=false:=by rfl):SimE X G (.Call (.Name x p) (e::es) [] pos) (wCB f wa):=
 (z8j hc hg hm hv ha hn hdb he hpl).imp fun _ _ _ h=>z9j h
theorem q0v{K:Q2p}{H:Hp}{φ:List Q0u}{x:PV}{vs:List V}(r:RVs K H φ [x] vs):∃v,vs=[v]/\RV K H φ x v:=by
 obtain⟨y,ys,rfl,r1,r2⟩:=r
 rw[show ys=[]from r2]
 exact⟨y,rfl,r1⟩
theorem q5v{K:Q2p}{H:Hp}{φ:List Q0u}{x y:PV}{vs:List V}(r:RVs K H φ [x,y] vs):∃v w,vs=[v,w]/\RV K H φ x v/\RV K H φ y w:=by
 obtain⟨a,as,rfl,r1,r2⟩:=r
 obtain⟨b,rfl,r3⟩:=q0v r2
 exact⟨a,b,rfl,r1,r3⟩
def fLen:FL:=fun xs S Q=>match xs with
 |[.str z]=>z.length<=Q0l/\Q (.int z.length) S
 |[.tup xs]=>Q (.int xs.length) S
 |[.frl xs]=>Q (.int xs.length) S
 |[.ref n]=>match q1p S n with
  |some xs=>Q (.int xs.length) S
  |none=>False
 |_=>False
theorem y0t:q3r X (.builtin "len") (q8j X.K fLen):=by
 rintro pins s σ H xs us Q I r ⟨φ,S,pxs,Q0,R,hx,h,k⟩
 unfold fLen at h
 split at h
 ·rename_i z
  obtain⟨v,rfl,r1⟩:=q0v hx
  cases r1
  exact z1a pins s σ H _ us Q I r ⟨z,rfl,h.1,k _ S φ H _ h.2 (Q0h _) (.refl _) R rfl⟩
 ·rename_i ys
  obtain⟨v,rfl,a,vs,rfl,sa,ra⟩:=q0v hx
  exact q3p pins s σ H _ us Q I r ⟨a,vs,rfl,.inr sa,k _ S φ H _ h (Q0h _) (.refl _) R (by rw[<-ra.length];rfl)⟩
 ·rename_i ys
  obtain⟨v,rfl,a,vs,rfl,sa,ra⟩:=q0v hx
  exact q3p pins s σ H _ us Q I r ⟨a,vs,rfl,.inl sa.sq,k _ S φ H _ h (Q0h _) (.refl _) R (by rw[<-ra.length];rfl)⟩
 ·rename_i n
  split at h
  ·rename_i ys es
   obtain⟨v,rfl,a,rfl,qa⟩:=q0v hx
   obtain⟨vs,sa,ra⟩:=R.seq qa es
   exact q3p pins s σ H _ us Q I r ⟨a,vs,rfl,.inl sa,k _ S φ H _ h (Q0h _) (.refl _) R (by rw[<-ra.length];rfl)⟩
  ·exact h.elim
 ·exact h.elim
def tyP(x:PV)(S:q0b):Option String:=match x with
 |.non=>some "NoneType"
 |.bl _=>some "bool"
 |.int _=>some "int"
 |.str _=>some "str"
 |.tup _=>some "tuple"
 |.ref n=>match S[n]? with
  |some (.lst _)=>some "list"
  |some (.dK _)=>some "dict"
  |_=>none
 |.frl _=>some "list"
 |.ty _=>none
 |.exc _=>none
def isT(T C:String):Bool:=T==C||(T == "bool"&&C == "int")
end
section
variable{X:Cx}{G:GX}{pos:Pos}
def y4k:List PV->Option (List Str)
 |[]=>some []
 |.str i::r=>(y4k r).map (i::·)
 |_=>none
def x4f:List PV->Option (List Bool)
 |[]=>some []
 |.bl i::r=>(x4f r).map (i::·)
 |_=>none
def fAll:FL:=fun xs S Q=>match xs with
 |[.ref n]=>match (q1p S n).bind x4f with
  |some ns=>Q (.bl (ns.all id)) S
  |none=>False
 |_=>False
def y0h:FL:=fun xs S Q=>match xs with
 |[.frl ys]=>Q (.ref S.length) (S++[.lst ys])
 |[.tup ys]=>Q (.ref S.length) (S++[.lst ys])
 |[.ref n]=>match q1p S n with
  |some ys=>Q (.ref S.length) (S++[.lst ys])
  |none=>False
 |_=>False
def q5d:FL:=fun xs S Q=>match xs with
 |[.tup ys]=>Q (.tup ys) S
 |[.ref n]=>match q1p S n with
  |some ys=>Q (.tup ys) S
  |none=>False
 |_=>False
theorem z5v:q3r X (.type "list") (q8j X.K y0h):=by
 rintro pins s σ H xs us Q I r ⟨φ,S,pxs,Q0,R,hx,h,k⟩
 unfold y0h at h
 split at h
 ·obtain⟨v,rfl,a,vs,rfl,sa,ra⟩:=q0v hx
  exact q3o pins s σ H _ us Q I r ⟨a,vs,rfl,.inl sa.sq,k.lst h R ra⟩
 ·obtain⟨v,rfl,a,vs,rfl,sa,ra⟩:=q0v hx
  exact q3o pins s σ H _ us Q I r ⟨a,vs,rfl,.inr sa,k.lst h R ra⟩
 ·rename_i n
  split at h
  ·rename_i ys e
   obtain⟨v,rfl,a,rfl,qa⟩:=q0v hx
   obtain⟨vs,sa,ra⟩:=R.seq qa e
   exact q3o pins s σ H _ us Q I r ⟨a,vs,rfl,.inl sa,k.lst h R ra⟩
  ·exact h.elim
 ·exact h.elim
theorem z2p:q3r X (.type "tuple") (q8j X.K q5d):=by
 rintro pins s σ H xs us Q I r ⟨φ,S,pxs,Q0,R,hx,h,k⟩
 unfold q5d at h
 split at h
 ·obtain⟨v,rfl,a,vs,rfl,sa,ra⟩:=q0v hx
  exact q4r pins s σ H _ us Q I r ⟨a,vs,rfl,.inr ⟨sa,k _ S φ H _ h (Q0h _) (.refl _) R ⟨a,vs,rfl,sa,ra⟩⟩⟩
 ·rename_i n
  split at h
  ·rename_i ys e
   obtain⟨v,rfl,a,rfl,qa⟩:=q0v hx
   obtain⟨vs,sa,ra⟩:=R.seq qa e
   exact q4r pins s σ H _ us Q I r ⟨a,vs,rfl,.inl ⟨sa,k.tup h R ra⟩⟩
  ·exact h.elim
 ·exact h.elim
def fInt:FL:=fun xs S Q=>match xs with
 |[.int i]=>Q (.int i) S
 |[.bl b]=>Q (.int (if b then 1 else 0)) S
 |_=>False
theorem y0u:q3r X (.type "int") (q8j X.K fInt):=by
 rintro pins s σ H xs us Q I r ⟨φ,S,pxs,Q0,R,hx,h,k⟩
 unfold fInt at h
 split at h
 ·obtain⟨v,rfl,r1⟩:=q0v hx
  cases r1
  exact z1b pins s σ H _ us Q I r (.inl ⟨_,rfl,k _ S φ H _ h (Q0h _) (.refl _) R rfl⟩)
 ·obtain⟨v,rfl,r1⟩:=q0v hx
  cases r1
  exact z1b pins s σ H _ us Q I r (.inr ⟨_,rfl,k _ S φ H _ h (Q0h _) (.refl _) R rfl⟩)
 ·exact h.elim
def fStr:FL:=fun xs S Q=>match xs with
 |[.int i]=>i.natAbs.log2<1920/\Q (.str (toString i)) S
 |_=>False
def fMax:FL:=fun xs S Q=>match xs with
 |[.int i,.int j]=>Q (.int (if j > i then j else i)) S
 |_=>False
abbrev FM:=PV->List PV->q0b->VC->Prop
def liftM(K:Q2p)(f:FM):V->List V->Hp->VK->Prop:=fun x' xs' H Q=>∃φ S x xs Q0,Rel K φ S H/\RV K H φ x x'/\RVs K H φ xs xs'/\f x xs S Q0/\KE K φ H Q0 Q
def wBM(T:String)(f:FM)(wo:WE)(wa:WA):WE:=fun σ S E Q=>wo σ S E fun x S1=>tyP x S1=some T/\wa σ S1 E fun xs S2=>f x xs S2 Q
def wBM0(T:String)(f:FM)(wo:WE):WE:=fun σ S E Q=>wo σ S E fun x S1=>tyP x S1=some T/\f x [] S1 Q
theorem y4h{K:Q2p}{H:Hp}{φ:List Q0u}{S:q0b}{x:PV}{x':V}{T:String}(R:Rel K φ S H)(r:RV K H φ x x')(h:tyP x S=some T)(hT:T = "str" \/T = "list" \/T = "dict"):tyV K T x' H:=by
 unfold tyP at h
 split at h
 ·cases h;simp at hT
 ·cases h;simp at hT
 ·cases h;simp at hT
 ·cases h;cases r;rfl
 ·cases h;simp at hT
 ·rename_i n
  obtain⟨a,rfl,qa⟩:=r
  split at h
  ·rename_i xs es
   cases h
   obtain⟨vs,e1,_⟩:=R.obj n a _ qa es
   exact .inl ⟨rfl,vs,SqL.of e1⟩
  ·rename_i xs es
   cases h
   obtain⟨vs,e1,_⟩:=R.obj n a _ qa es
   exact .inr (.inr (.inl ⟨rfl,.inl ⟨vs,e1⟩⟩))
  ·cases h
 ·cases h
  obtain⟨a,vs,rfl,sa,ra⟩:=r
  exact .inl ⟨rfl,vs,sa.sq⟩
 ·cases h
 ·cases h
theorem q5y{f:FM}{T id:String}{name:Str}{o e:Expr}{es:List Expr}{apos cpos:Pos}{wo:WE}{wa:WA}(pa:Z1z T)(slot:Slot T name id)(hty:typeOf (.builtin id)=pure (.type "method_descriptor"))(hm:MtR X id (liftM X.K f))(ho:SimE X G o wo)(ha:SimA X G (e::es) wa)
  (hT:T = "str" \/T = "list" \/T = "dict" :=by first|exact Q9a rfl|exact Q7r (Q9a rfl)|exact Q7r (Q7r rfl))
  (hbase:attributeBase o name X.env (eval o X.env)=eval o X.env:=by rfl)
  (hfew:((backTo cpos (Q1m (e::es) X.env)).all (fun x=>!x.1)&&(backToKw cpos (keywordEach [] X.env)).all (fun x=>x.1.isSome)
   && decide ((e::es).length+([]:List Q9d).length+(if ([]:List Q9d).isEmpty then 0 else 1)<30))=true:=by rfl)
  (hline:(apos.endLine==cpos.line)=true:=by rfl) (hs:Q1m (e::es) X.env=(false,eval e X.env)::Q1m es X.env:=by rfl) (hplain:(backTo cpos (Q1m es X.env)).any (·.1)=false:=by rfl) :
  SimE X G (.Call (.Attribute o name apos) (e::es) [] cpos) (wBM T f wo wa):=
 (x1z pa slot hty hm ho ha hbase hfew hline hs hplain).imp fun σV H Q hh1=>by obtain⟨φ,σ,S,Q0,L,R,h,k⟩:=hh1;exact(⟨φ,σ,S,_,L,R,h,fun v S1 φ1 H1 x hh2 p1 m1 R1 r1=>by obtain⟨ht,q⟩:=hh2;exact(⟨y4h R1 r1 ht hT,
  ⟨φ1,σ,S1,_,L.mono m1 p1,R1,q,fun vs S2 φ2 H2 xs q2 p2 m2 R2 r2=>⟨φ2,S2,v,vs,Q0,R2,RV.mono m2 p2 _ _ r1,r2,q2,k.up (p1.trans p2) (m1.trans m2)⟩⟩⟩)⟩)
theorem y6v{f:FM}{T id:String}{name:Str}{o:Expr}{apos cpos:Pos}{wo:WE}(pa:Z1z T)(slot:Slot T name id)(hty:typeOf (.builtin id)=pure (.type "method_descriptor"))(hm:MtR X id (liftM X.K f))(ho:SimE X G o wo)
  (hT:T = "str" \/T = "list" \/T = "dict" :=by first|exact Q9a rfl|exact Q7r (Q9a rfl)|exact Q7r (Q7r rfl))
  (hbase:attributeBase o name X.env (eval o X.env)=eval o X.env:=by rfl) (hline:(apos.endLine==cpos.line)=true:=by rfl) :
  SimE X G (.Call (.Attribute o name apos) [] [] cpos) (wBM0 T f wo):=
 (x1y pa slot hty hm ho hbase hline).imp fun σV H Q hh1=>by obtain⟨φ,σ,S,Q0,L,R,h,k⟩:=hh1;exact(⟨φ,σ,S,_,L,R,h,fun v S1 φ1 H1 x hh2 p1 m1 R1 r1=>by obtain⟨ht,q⟩:=hh2;exact(⟨y4h R1 r1 ht hT,⟨φ1,S1,v,[],Q0,R1,r1,rfl,q,k.up p1 m1⟩⟩)⟩)
theorem KE.put{K:Q2p}{φ:List Q0u}{H:Hp}{Q0:VC}{Q:VK}{S:q0b}{n:Nat}{a:Q0u}{old:List V}{xs:List PV}{vs:List V}{y:PV}{y':V}(k:KE K φ H Q0 Q)(R:Rel K φ S H)(qa:φ[n]?=some a)(e:H a=some (.lst old))(r:RVs K H φ xs vs)(ry:RV K H φ y y')(q:Q0 y (S.set n (.lst xs))):Q y' (upd H a (.lst vs)):=
 k _ _ φ _ _ q (Q0h _) (.lst e) (R.put (o:=.lst xs) qa (.lst e) ⟨vs,q0u,RVs.mono (.lst e) (Q0h _) _ _ r⟩) (RV.mono (.lst e) (Q0h _) _ _ ry)
def q0x:FM:=fun x xs S Q=>match x,xs with
 |.ref n,[y]=>match q3x S n with
  |some ys=>ys.length<Q0l/\Q .non (S.set n (.lst (ys++[y])))
  |none=>False
 |_,_=>False
theorem z5f:MtR X "list.append" (liftM X.K q0x):=by
 rintro pins s σ H x xs v us Q I rx rs ⟨φ,S,px,pxs,Q0,R,hx,hxs,h,k⟩
 unfold q0x at h
 split at h
 ·rename_i n y
  split at h
  ·rename_i ys e
   obtain⟨a,rfl,qa⟩:=hx
   obtain⟨y',rfl,ry⟩:=q0v hxs
   obtain⟨vs,ea,ra⟩:=R.lst qa e
   exact z8w pins s σ H _ _ v us Q I rx rs ⟨a,vs,y',rfl,rfl,ea,by rw[<-ra.length];exact h.1,k.put R qa ea (ra.append (.one ry)) (show RV X.K H φ .non .non from rfl) h.2⟩
  ·exact h.elim
 ·exact h.elim
def mPop:FM:=fun x xs S Q=>match x,xs with
 |.ref n,[]=>match q3x S n with
  |some ys=>match ys.getLast? with
   |some y=>Q y (S.set n (.lst ys.dropLast))
   |none=>False
  |none=>False
 |_,_=>False
theorem y8k:MtR X "list.pop" (liftM X.K mPop):=by
 rintro pins s σ H x xs v us Q I rx rs ⟨φ,S,px,pxs,Q0,R,hx,hxs,h,k⟩
 unfold mPop at h
 split at h
 ·rename_i n
  split at h
  ·rename_i ys e
   split at h
   ·rename_i y ey
    obtain⟨a,rfl,qa⟩:=hx
    have hxs':xs=[]:=hxs
    subst hxs'
    obtain⟨vs,ea,ra⟩:=R.lst qa e
    rw[List.getLast?_eq_getElem?]at ey
    obtain⟨y',e',r'⟩:=ra.get ey
    rw[ra.length]at e'
    exact x2s pins s σ H _ _ v us Q I rx rs ⟨a,vs,y',rfl,rfl,ea,e',k.put R qa ea ra.dropLast r' h⟩
   ·exact h.elim
  ·exact h.elim
 ·exact h.elim
def q9u:FM:=fun x xs S Q=>match x,xs with
 |.ref n,[.int i]=>match q3x S n with
  |some ys=>match ixN ys.length i with
   |some j=>match ys[j]? with
    |some y=>(-(2 ^ 63)<=i/\i<2 ^ 63)/\Q y (S.set n (.lst (ys.eraseIdx j)))
    |none=>False
   |none=>False
  |none=>False
 |_,_=>False
def q5a:FM:=fun x xs S Q=>match x,xs with
 |.ref n,[.ref m]=>match q3x S n,q3x S m with
  |some ys,some zs=>ys.length+zs.length<=Q0l/\Q .non (S.set n (.lst (ys++zs)))
  |_,_=>False
 |.ref n,[.tup zs]=>match q3x S n with
  |some ys=>ys.length+zs.length<=Q0l/\Q .non (S.set n (.lst (ys++zs)))
  |none=>False
 |_,_=>False
theorem y9h:MtM X "list.extend" (fun x vs H Q=>∃l b xs zs,x=.ref l/\vs=[.ref b]/\H l=some (.lst xs)/\SqT X.K H b zs/\xs.length+zs.length<=Q0l/\Q .non (upd H l (.lst (xs++zs)))):=by
 intro pins s σ H x vs v us Q I rx rv h
 obtain⟨l,b,xs,zs,rfl,rfl,hH,hB,hz,q⟩:=h
 cases rx
 obtain⟨u,rfl,ru⟩:=rv.one
 cases ru
 obtain⟨z,its,n,r,hl,e⟩:=I.lstM hH
 obtain⟨its2,r2,⟨⟨cls,dd,dat,sl⟩,h1,h2,n2,h3⟩,z2⟩:=I.tuple hB
 simp only at h2 h3
 subst h2 h3
 have hl2:=r2.length
 have hss:its.toArray.size+its2.toArray.size<=Q0l:=by simp only[Q0g];omega
 have hlong:¬(!its.toArray.isEmpty&&Q1g.List.listTooLong (its.toArray.size+its2.toArray.size))=true:=by rw[q8e hss,Z4f];exact Q2o
 refine Q7p Z3u ⟨_,e,rfl⟩ Z3i (Z2x _ _) (extT l its.toArray n b its2.toArray n2 dd sl hlong (by rw[Q0g];omega) (by omega)) ⟨e,h1,?_⟩
 exact⟨.non,_,I.lset (its':=its++its2) hH e (by simp) (r.append r2) (by rw[Q0x];omega),rfl,q⟩
theorem z5e:MtR X "list.extend" (liftM X.K q5a):=by
 rintro pins s σ H x xs v us Q I rx rs ⟨φ,S,px,pxs,Q0,R,hx,hxs,h,k⟩
 unfold q5a at h
 split at h
 ·rename_i n m
  split at h
  ·rename_i ys zs e1 e2
   obtain⟨a,rfl,qa⟩:=hx
   obtain⟨y',rfl,b,rfl,qb⟩:=q0v hxs
   obtain⟨vs,ea,ra⟩:=R.lst qa e1
   obtain⟨ws,eb,rb⟩:=R.lst qb e2
   exact z8v pins s σ H _ _ v us Q I rx rs ⟨a,b,vs,ws,rfl,rfl,ea,eb,by rw[<-ra.length,<-rb.length];exact h.1,k.put (y:=.non) R qa ea (ra.append rb) rfl h.2⟩
  ·exact h.elim
 ·rename_i n zs
  split at h
  ·rename_i ys e1
   obtain⟨a,rfl,qa⟩:=hx
   obtain⟨y',rfl,b,ws,rfl,sb,rb⟩:=q0v hxs
   obtain⟨vs,ea,ra⟩:=R.lst qa e1
   exact y9h pins s σ H _ _ v us Q I rx rs ⟨a,b,vs,ws,rfl,rfl,ea,sb,by rw[<-ra.length,<-rb.length];exact h.1,k.put (y:=.non) R qa ea (ra.append rb) rfl h.2⟩
  ·exact h.elim
 ·exact h.elim
theorem z8t:MtR X "list.pop" (liftM X.K q9u):=by
 rintro pins s σ H x xs v us Q I rx rs ⟨φ,S,px,pxs,Q0,R,hx,hxs,h,k⟩
 unfold q9u at h
 split at h
 ·rename_i n i
  split at h
  ·rename_i ys e
   split at h
   ·rename_i j ej
    split at h
    ·rename_i y ey
     obtain⟨a,rfl,qa⟩:=hx
     obtain⟨y',rfl,ry⟩:=q0v hxs
     cases ry
     obtain⟨vs,ea,ra⟩:=R.lst qa e
     obtain⟨y',e',r'⟩:=ra.get ey
     rw[ra.length]at ej
     exact y3d pins s σ H _ _ v us Q I rx rs ⟨a,vs,i,j,y',rfl,rfl,ea,h.1.1,h.1.2,(z9t ej).1,e',k.put R qa ea (ra.eraseIdx _) r' h.2⟩
    ·exact h.elim
   ·exact h.elim
  ·exact h.elim
 ·exact h.elim
def x2u:FM:=fun x xs S Q=>match x,xs with
 |.str z,[.ref n]=>match (q1p S n).bind y4k with
  |some ys=>(ys.map (·.length)).sum+ys.length*z.length<=16777216/\Q (.str (Txt.join z ys)) S
  |none=>False
 |_,_=>False
def q9v:FM:=fun x xs S Q=>match x,xs with
 |.str z,[.str y]=>0<=Z1e z y/\Q (.int (Z1e z y)) S
 |_,_=>False
theorem z8u(hc:X.calm=true):MtR X "str.index" (liftM X.K q9v):=by
 rintro pins s σ H x xs v us Q I rx rs ⟨φ,S,px,pxs,Q0,R,hx,hxs,h,k⟩
 unfold q9v at h
 split at h
 ·rename_i z y
  cases hx
  obtain⟨y',rfl,ry⟩:=q0v hxs
  cases ry
  exact y3e hc pins s σ H _ _ v us Q I rx rs ⟨z,y,rfl,rfl,h.1,k _ S φ H _ h.2 (Q0h _) (.refl _) R rfl⟩
 ·exact h.elim
abbrev WJ:=Loc->q0b->EK->Str->(Str->q0b->Prop)->Prop
def KJ(K:Q2p)(φ:List Q0u)(H:Hp)(Q0:Str->q0b->Prop)(Q:Str->Hp->Prop):Prop:=∀v S' φ' H',Q0 v S'->φ <+: φ'->Mono H H'->Rel K φ' S' H'->Q v H'
def x5n(K:Q2p)(G:GX)(w:WJ):TJ:=fun σV H acc Q=>∃φ σ S Q0,LRel K G H φ σ σV/\Rel K φ S H/\w σ S G.ek acc Q0/\KJ K φ H Q0 Q
def SimJ(X:Cx)(G:GX)(es:List Expr)(w:WJ):Prop:=PJ X es (x5n X.K G w)
theorem PJ.imp{e:List Expr}{t t':TJ}(h:PJ X e t)(i:∀σ H a Q,t' σ H a Q->t σ H a Q):PJ X e t':=fun pins s σ H acc Q I q=>h pins s σ H acc Q I (i σ H acc Q q)
def y1g:WJ:=fun _ S _ acc Q=>Q acc S
def z6d(x:Str)(w:WJ):WJ:=fun σ S E acc Q=>(acc++x).length<=Q0l/\w σ S E (acc++x) Q
def y1f(we:WE)(w:WJ):WJ:=fun σ S E acc Q=>we σ S E fun v S1=>match v with
 |.str x=>(x.length<=Q0l/\(acc++x).length<=Q0l)/\w σ S1 E (acc++x) Q
 |_=>False
theorem y2e:SimJ X G [] y1g:=PJ.imp x1p fun σV H acc Q hh1=>by obtain⟨φ,σ,S,Q0,L,R,h,k⟩:=hh1;exact(k _ S φ H h (Q0h _) (.refl _) R)
theorem y2d{x:Str} {j} {es:List Expr} {w:WJ} (hr:SimJ X G es w) (he:evalEach (.Constant (.str x) j pos::es) X.env=eval (.Constant (.str x) j pos) X.env::evalEach es X.env:=by rfl):SimJ X G (.Constant (.str x) j pos::es) (z6d x w):=
 PJ.imp (x1o hr he) fun σV H acc Q hh1=>by obtain⟨φ,σ,S,Q0,L,R,h,k⟩:=hh1;exact(⟨h.1,φ,σ,S,Q0,L,R,h.2,k⟩)
theorem y2c{e:Expr}{es:List Expr}{we:WE}{w:WJ}(h1:SimE X G e we)(hr:SimJ X G es w)(he:evalEach (.FormattedValue e (-1) none pos::es) X.env=eval (.FormattedValue e (-1) none pos) X.env::evalEach es X.env:=by rfl):SimJ X G (.FormattedValue e (-1) none pos::es) (y1f we w):=
 PJ.imp (x1n h1 hr he) fun σV H acc Q hh1=>by obtain⟨φ,σ,S,Q0,L,R,h,k⟩:=hh1;exact(⟨φ,σ,S,_,L,R,h,fun v S1 φ1 H1 x q p1 m1 R1 r1=>by
  cases v with
  |str y=>exact ⟨y,r1,q.1.1,q.1.2,φ1,σ,S1,Q0,L.mono m1 p1,R1,q.2,fun o S2 φ2 H2 q2 p2 m2 R2=>k o S2 φ2 H2 q2 (p1.trans p2) (m1.trans m2) R2⟩
  |_=>exact q.elim⟩)
def q7s(w:WJ):WE:=fun σ S E Q=>w σ S E Q6l fun out S1=>out.length<=Q0l/\Q (.str out) S1
theorem z4r{v₁ v₂:Expr}{es:List Expr}{w:WJ}(h:SimJ X G (v₁::v₂::es) w):SimE X G (.JoinedStr (v₁::v₂::es) pos) (q7s w):=
 (z8i h).imp fun σV H Q hh1=>by obtain⟨φ,σ,S,Q0,L,R,h,k⟩:=hh1;exact(⟨φ,σ,S,_,L,R,h,fun o S1 φ1 H1 q p1 m1 R1=>⟨q.1,k _ S1 φ1 H1 _ q.2 p1 m1 R1 rfl⟩⟩)
end
structure PEnds where
 nx:Loc->q0b->Prop
 rt:VC
 bk:Loc->q0b->Prop:=fun _ _=>False
 ct:Loc->q0b->Prop:=fun _ _=>False
abbrev WS:=PEnds->EK->Loc->q0b->Prop
def KN(K:Q2p)(G:GX)(φ:List Q0u)(H:Hp)(Q0:Loc->q0b->Prop)(Q:St->Hp->Prop):Prop:=∀σ' S' φ' H' σV',Q0 σ' S'->φ <+: φ'->Mono H H'->Rel K φ' S' H'->LRel K G H' φ' σ' σV'->Q σV' H'
theorem KN.up{K:Q2p}{G:GX}{φ φ1:List Q0u}{H H1:Hp}{Q0:Loc->q0b->Prop}{Q:St->Hp->Prop}(k:KN K G φ H Q0 Q)(p:φ <+: φ1)(m:Mono H H1):KN K G φ1 H1 Q0 Q:=fun σ' S' φ' H' σV' q p' m'=>k σ' S' φ' H' σV' q (p.trans p') (m.trans m')
structure KS(K:Q2p)(G:GX)(φ:List Q0u)(H:Hp)(D0:PEnds)(D:Ends):Prop where
 nx:KN K G φ H D0.nx D.nx
 rt:KE K φ H D0.rt D.rt
 bk:KN K G φ H D0.bk D.bk
 ct:KN K G φ H D0.ct D.ct
theorem KS.up{K:Q2p}{G:GX}{φ φ1:List Q0u}{H H1:Hp}{D0:PEnds}{D:Ends}(k:KS K G φ H D0 D)(p:φ <+: φ1)(m:Mono H H1):KS K G φ1 H1 D0 D:=⟨k.nx.up p m,k.rt.up p m,k.bk.up p m,k.ct.up p m⟩
def y8t(K:Q2p)(G:GX)(w:WS):TS:=fun D σV H=>∃φ σ S D0,LRel K G H φ σ σV/\Rel K φ S H/\w D0 G.ek σ S/\KS K G φ H D0 D
def SimS(X:Cx)(G:GX)(st:Q5q)(w:WS):Prop:=PS X st (y8t X.K G w)
def q6r(X:Cx)(G:GX)(st:List Q5q)(w:WS):Prop:=PSs X st (y8t X.K G w)
theorem _root_.L2.PS.imp{X:Cx}{e:Q5q}{t t':TS}(h:PS X e t)(i:∀D σ H,t' D σ H->t D σ H):PS X e t':=fun pins s σ H D I q=>h pins s σ H D I (i D σ H q)
theorem _root_.L2.PSs.imp{X:Cx}{e:List Q5q}{t t':TS}(h:PSs X e t)(i:∀D σ H,t' D σ H->t D σ H):PSs X e t':=fun pins s σ H D I q=>h pins s σ H D I (i D σ H q)
section
variable{X:Cx}{G:GX}{pos:Pos}
def q0z:WS:=fun D _ σ S=>D.nx σ S
def wSeq(w1 w2:WS):WS:=fun D E σ S=>w1 {D with nx:=w2 D E} E σ S
theorem y1s:q6r X G [] q0z:=y7j.imp fun D σV H hh1=>by obtain⟨φ,σ,S,D0,L,R,h,k⟩:=hh1;exact(k.nx σ S φ H σV h (Q0h _) (.refl _) R L)
theorem y1r{st:Q5q}{w:WS}(h:SimS X G st w):q6r X G [st] w:=y7i h
theorem z6y{st:Q5q}{rest:List Q5q}{w1 w2:WS}(h1:SimS X G st w1)(h2:q6r X G rest w2):q6r X G (st::rest) (wSeq w1 w2):=
 (y2m h1 h2).imp fun D σV H hh1=>by obtain⟨φ,σ,S,D0,L,R,h,k⟩:=hh1;exact(⟨φ,σ,S,_,L,R,h,⟨fun σ' S' φ' H' σV' q p m R' L'=>⟨φ',σ',S',D0,L',R',q,k.up p m⟩,k.rt,k.bk,k.ct⟩⟩)
def z2v:WS:=fun _ _ _ _=>False
theorem z7d{st:Q5q}:SimS X G st z2v:=(y2o (X:=X)).imp fun D σV H hh1=>by obtain⟨φ,σ,S,D0,L,R,h,k⟩:=hh1;exact(h)
def q2f(w:WE):WS:=fun D E σ S=>w σ S E fun _ S1=>D.nx σ S1
theorem y1w{e:Expr}{w:WE}(he:SimE X G e w)(hs:swapsWith e none pos.line X.env=pure false:=by rfl):SimS X G (.Expr e pos) (q2f w):=
 (y7l he hs).imp fun D σV H hh1=>by obtain⟨φ,σ,S,D0,L,R,h,k⟩:=hh1;exact(⟨φ,σ,S,_,L,R,h,fun v S1 φ1 H1 x q p1 m1 R1 r1=>k.nx σ S1 φ1 H1 σV q p1 m1 R1 (L.mono m1 p1)⟩)
def wRet(w:WE):WS:=fun D E σ S=>w σ S E D.rt
theorem y6p{e:Expr}{w:WE}(he:SimE X G e w):SimS X G (.Return (some e) pos) (wRet w):=
 (x1j he).imp fun D σV H hh1=>by obtain⟨φ,σ,S,D0,L,R,h,k⟩:=hh1;exact(⟨φ,σ,S,_,L,R,h,k.rt⟩)
def wIfS(c:WT)(t u:WS):WS:=fun D E σ S=>c σ S E fun b S1=>if b=true then t D E σ S1 else u D E σ S1
theorem x0t{c:Expr}{a b:List Q5q}{wc:WT}{t u:WS}(hc:SimT X G c wc)(ha:q6r X G a t)(hb:q6r X G b u):SimS X G (.If c a b pos) (wIfS wc t u):=
 (x4y hc ha hb).imp fun D σV H hh1=>by obtain⟨φ,σ,S,D0,L,R,h,k⟩:=hh1;exact(⟨φ,σ,S,_,L,R,h,fun c S1 φ1 H1 q p1 m1 R1=>by
  cases c with
  |true=>exact ⟨φ1,σ,S1,D0,L.mono m1 p1,R1,q,k.up p1 m1⟩
  |false=>exact ⟨φ1,σ,S1,D0,L.mono m1 p1,R1,q,k.up p1 m1⟩⟩)
abbrev WG:=PV->Loc->q0b->EK->(Loc->q0b->Prop)->Prop
abbrev WGs:=List PV->Loc->q0b->EK->(Loc->q0b->Prop)->Prop
def q6i(K:Q2p)(G:GX)(w:WG):TG:=fun v' σV H Q=>∃φ v σ S Q0,LRel K G H φ σ σV/\Rel K φ S H/\RV K H φ v v'/\w v σ S G.ek Q0/\KN K G φ H Q0 Q
def x2w(K:Q2p)(G:GX)(w:WGs):TGs:=fun v' σV H Q=>∃φ v σ S Q0,LRel K G H φ σ σV/\Rel K φ S H/\RVs K H φ v v'/\w v σ S G.ek Q0/\KN K G φ H Q0 Q
def SimG(X:Cx)(G:GX)(tg:Expr)(w:WG):Prop:=PG X tg (q6i X.K G w)
def y4e(X:Cx)(G:GX)(tg:List Expr)(w:WGs):Prop:=PGs X tg (x2w X.K G w)
theorem PG.imp{e:Expr}{t t':TG}(h:PG X e t)(i:∀v σ H Q,t' v σ H Q->t v σ H Q):PG X e t':=fun pins s σ H v u Q I r q=>h pins s σ H v u Q I r (i v σ H Q q)
theorem PGs.imp{e:List Expr}{t t':TGs}(h:PGs X e t)(i:∀v σ H Q,t' v σ H Q->t v σ H Q):PGs X e t':=fun pins s σ H v u Q I r q=>h pins s σ H v u Q I r (i v σ H Q q)
def q0e(i:Nat):WG:=fun v σ S _ Q=>Q (σ.set i (some v)) S
theorem q9m{i:Nat}{x:Str}(hN:X.N.Nodup)(hi:X.N[i]?=some x:=by rfl)(hx:L2.Loc X.env.scope x:=by first|exact Q9a rfl|exact Q7r rfl)(hf:X.fn x=true\/X.env.scope.names.lookup x=some .local:=by first|exact .inl rfl|exact .inr rfl|assumption):SimG X G (.Name x pos) (q0e i):=
 PG.imp (y7q (i:=i) hN hi hx hf) fun v' σV H Q hh1=>by obtain⟨φ,v,σ,S,Q0,L,R,r,h,k⟩:=hh1;exact(k _ S φ H _ h (Q0h _) (.refl _) R (L.set i r))
def q2x:WGs:=fun vs σ S _ Q=>match vs with
 |[]=>Q σ S
 |_=>False
def q0j(w:WG)(ws:WGs):WGs:=fun vs σ S E Q=>match vs with
 |v::r=>w v σ S E fun σ' S'=>ws r σ' S' E Q
 |_=>False
theorem z7k:y4e X G [] q2x:=PGs.imp y7p fun v' σV H Q hh1=>by
 obtain⟨φ,v,σ,S,Q0,L,R,r,h,k⟩:=hh1
 cases v with
 |nil=>exact⟨r,k _ S φ H _ h (Q0h _) (.refl _) R L⟩
 |cons _ _=>exact h.elim
theorem z4u{e:Expr}{es:List Expr}{w:WG}{ws:WGs}(h1:SimG X G e w)(h2:y4e X G es ws)(hs:(assignEach (e::es) X.env).map (·.2)=assign e X.env::(assignEach es X.env).map (·.2):=by rfl):y4e X G (e::es) (q0j w ws):=
 PGs.imp (y2r h1 h2 hs) fun v' σV H Q hh1=>by
  obtain⟨φ,v,σ,S,Q0,L,R,r,h,k⟩:=hh1
  cases v with
  |nil=>exact h.elim
  |cons a b=>
   obtain⟨y,ys,rfl,r1,r2⟩:=r
   exact⟨y,ys,rfl,φ,a,σ,S,_,L,R,r1,h,fun σ' S' φ' H' σV' q p m R' L'=>⟨φ',b,σ',S',Q0,L',R',RVs.mono m p _ _ r2,q,k.up p m⟩⟩
def q2w(n:Nat)(ws:WGs):WG:=fun v σ S E Q=>match v with
 |.tup xs=>xs.length=n/\ws xs σ S E Q
 |_=>False
theorem y2g{es:List Expr}{kk:Nat}{ws:WGs}(n:Nat)(hc:X.calm=true)(h:y4e X G es ws)(hn:(assignEach es X.env).length=n:=by rfl)(hst:(assignEach es X.env).findIdx? (·.1)=none:=by rfl):SimG X G (.Tuple es kk pos) (q2w n ws):=
 PG.imp (x1r hc h hn hst) fun v' σV H Q hh1=>by
  obtain⟨φ,v,σ,S,Q0,L,R,r,h,k⟩:=hh1
  cases v with
  |tup xs=>
   obtain⟨a,vs,rfl,sa,ra⟩:=r
   exact⟨a,vs,rfl,sa,by rw[<-ra.length];exact h.1,φ,xs,σ,S,Q0,L,R,ra,h.2,k⟩
  |_=>exact h.elim
def wAsg(w:WE)(g:WG):WS:=fun D E σ S=>w σ S E fun v S1=>g v σ S1 E D.nx
theorem y6w{tg e:Expr}{w:WE}{g:WG}(he:SimE X G e w)(hg:SimG X G tg g)(hs:swapsWithSole [tg] e pos.line X.env=pure false:=by rfl)(hw:swappedStores [tg] e X.env=pure none:=by rfl)
  (h1:(assignEach [tg] X.env).map (·.2)=[assign tg X.env]:=by rfl):SimS X G (.Assign [tg] e pos) (wAsg w g):=
 (x1l he hg hs hw h1).imp fun D σV H hh1=>by obtain⟨φ,σ,S,D0,L,R,h,k⟩:=hh1;exact(⟨φ,σ,S,_,L,R,h,fun v S1 φ1 H1 x q p1 m1 R1 r1=>⟨φ1,v,σ,S1,D0.nx,L.mono m1 p1,R1,r1,q,k.nx.up p1 m1⟩⟩)
def wSet(i:Nat)(w:WE):WS:=fun D E σ S=>w σ S E fun v S1=>D.nx (σ.set i (some v)) S1
theorem y6o(i:Nat){x:Str}{e:Expr}{w:WE}{pos':Pos}(hN:X.N.Nodup)(he:SimE X G e w)(hi:X.N[i]?=some x:=by rfl)(hx:L2.Loc X.env.scope x:=by first|exact Q9a rfl|exact Q7r rfl)(hs:swapsWith e (some (.Name x pos')) pos.line X.env=pure false:=by rfl)(hf:X.fn x=true\/X.env.scope.names.lookup x=some .local:=by first|exact .inl rfl|exact .inr rfl|assumption) :
  SimS X G (.Assign [.Name x pos'] e pos) (wSet i w):=
 (x1i (i:=i) hN hi hx he hs hf).imp fun D σV H hh1=>by obtain⟨φ,σ,S,D0,L,R,h,k⟩:=hh1;exact(⟨φ,σ,S,_,L,R,h,fun v S1 φ1 H1 x q p1 m1 R1 r1=>k.nx _ S1 φ1 H1 _ q p1 m1 R1 ((L.mono m1 p1).set i r1)⟩)
abbrev FS:=PV->PV->PV->q0b->(q0b->Prop)->Prop
def z9k(K:Q2p)(f:FS):TSet:=fun o' i' v' H Q=>∃φ S o i v Q0,Rel K φ S H/\RV K H φ o o'/\RV K H φ i i'/\RV K H φ v v'/\f o i v S Q0/\∀S' H',Q0 S'->Mono H H'->Rel K φ S' H'->Q H'
def sSet:FS:=fun o i v S Q=>match o with
 |.ref n=>match S[n]? with
  |some (.lst xs)=>match i with
   |.int k=>match ixN xs.length k with
    |some j=>Q (S.set n (.lst (xs.set j v)))
    |none=>False
   |_=>False
  |some (.dK kvs)=>match q8m i with
   |some k=>kvs.length<Q0l/\Q (S.set n (.dK (putP kvs k v)))
   |none=>False
  |_=>False
 |_=>False
def z4k(wo wi:WE)(f:FS):WG:=fun v σ S E Q=>wo σ S E fun o S1=>wi σ S1 E fun i S2=>f o i v S2 fun S3=>Q σ S3
theorem y2h{o i:Expr}{wo wi:WE}{f:FS}(hf:PSet X (z9k X.K f))(ho:SimE X G o wo)(hi:SimE X G i wi)
  (ha:∀v,assign (.Subscript o i pos) X.env v=(do
   let ov <-holding [v] (eval o X.env)
   let iv <-holding [v,ov] (eval i X.env)
   standAt pos
   holding [v,ov,iv] (setItem ov iv v)
   release [v,ov,iv] []):=by intro _;rfl):SimG X G (.Subscript o i pos) (z4k wo wi f):=
 PG.imp (x1s ho hi hf ha) fun v' σV H Q hh1=>by obtain⟨φ,v,σ,S,Q0,L,R,r,h,k⟩:=hh1;exact(⟨φ,σ,S,_,L,R,h,fun ov S1 φ1 H1 x q p1 m1 R1 r1=>⟨φ1,σ,S1,_,L.mono m1 p1,R1,q,fun iv S2 φ2 H2 y q2 p2 m2 R2 r2=>
  ⟨φ2,S2,ov,iv,v,_,R2,RV.mono m2 p2 _ _ r1,r2,RV.mono m2 p2 _ _ (RV.mono m1 p1 _ _ r),q2,fun S3 H3 q3 m3 R3=>k σ S3 φ2 H3 σV q3 (p1.trans p2) ((m1.trans m2).trans m3) R3 (((L.mono m1 p1).mono m2 p2).mono m3 (Q0h _))⟩⟩⟩)
def z6g(c:WT)(b:WS):WS:=fun D E σ S=>∃W:Nat->Loc->q0b->Prop,(∃m,W m σ S)/\∀m σ S,W m σ S->
 c σ S E fun bo S1=>if bo=true then ∃N:Loc->q0b->Prop,(∀σ' S',N σ' S'->∃m',m'<m/\W m' σ' S')/\b {D with nx:=N,ct:=N,bk:=D.nx} E σ S1 else D.nx σ S1
theorem z6z{c:Expr}{body:List Q5q}{wc:WT}{wb:WS}(hp:Z3f (model X.prog X.w) X.A X.env X.xe)(hc:SimT X G c wc)(hb:q6r X G body wb):SimS X G (.While c body [] pos) (z6g wc wb):=
 (y2n hp hc hb).imp fun D σV H hh1=>by
  obtain⟨φ,σ,S,D0,L,R,h,k⟩:=hh1
  obtain⟨W,⟨m0,w0⟩,st⟩:=h
  refine⟨fun m σV' H'=>∃φ' σ' S',φ <+: φ'/\Mono H H'/\LRel X.K G H' φ' σ' σV'/\Rel X.K φ' S' H'/\W m σ' S',⟨m0,φ,σ,S,Q0h _,.refl _,L,R,w0⟩,?_⟩
  rintro m σV' H' ⟨φ',σ',S',p,mo,L',R',hw⟩
  refine⟨φ',σ',S',_,L',R',st m σ' S' hw,fun bo S1 φ1 H1 q p1 m1 R1=>?_⟩
  cases bo with
  |true=>
   obtain⟨N,hN,hb⟩:=q
   refine⟨fun σ2V H2=>∃φ2 σ2 S2,φ1 <+: φ2/\Mono H1 H2/\LRel X.K G H2 φ2 σ2 σ2V/\Rel X.K φ2 S2 H2/\N σ2 S2,?_,?_⟩
   ·rintro σ2V H2 ⟨φ2,σ2,S2,p2,m2,L2,R2,hn⟩
    obtain⟨m',hm,hw'⟩:=hN σ2 S2 hn
    exact⟨m',hm,φ2,σ2,S2,(p.trans p1).trans p2,(mo.trans m1).trans m2,L2,R2,hw'⟩
   ·exact⟨φ1,σ',S1,_,L'.mono m1 p1,R1,hb,⟨fun σ2 S2 φ2 H2 σ2V q p2 m2 R2 L2=>⟨φ2,σ2,S2,p2,m2,L2,R2,q⟩,k.rt.up (p.trans p1) (mo.trans m1),k.nx.up (p.trans p1) (mo.trans m1),fun σ2 S2 φ2 H2 σ2V q p2 m2 R2 L2=>⟨φ2,σ2,S2,p2,m2,L2,R2,q⟩⟩⟩
  |false=>exact k.nx σ' S1 φ1 H1 σV' q (p.trans p1) (mo.trans m1) R1 (L'.mono m1 p1)
structure PIt where
 xs:List PV
 chk:q0b->Prop
structure ItR(K:Q2p)(φ0:List Q0u)(H0:Hp)(J:It)(it:PIt):Prop where
 go:∀φ H S,φ0 <+: φ->Mono H0 H->Rel K φ S H->it.chk S->∀(i:Nat) x,it.xs[i]?=some x->J.go i H/\∀y H',J.yld i H y H'->∃φ',φ <+: φ'/\Mono H H'/\Rel K φ' S H'/\RV K H' φ' x y
 stop:∀φ H S,φ0 <+: φ->Mono H0 H->Rel K φ S H->it.chk S->∀i:Nat,it.xs.length<=i->J.stop i H
abbrev WI:=Loc->q0b->EK->(PIt->q0b->Prop)->Prop
def KI(K:Q2p)(φ:List Q0u)(H:Hp)(Q0:PIt->q0b->Prop)(R:It->Hp->Prop):Prop:=∀it S' φ' H' J,Q0 it S'->φ <+: φ'->Mono H H'->Rel K φ' S' H'->ItR K φ' H' J it->R J H'
def z1w(K:Q2p)(G:GX)(w:WI):TI:=fun σV H R=>∃φ σ S Q0,LRel K G H φ σ σV/\Rel K φ S H/\w σ S G.ek Q0/\KI K φ H Q0 R
def SimI(X:Cx)(G:GX)(tg iter:Expr)(w:WI):Prop:=PI X tg iter (z1w X.K G w)
theorem PI.imp{tg e:Expr}{t t':TI}(h:PI X tg e t)(i:∀σ H Q,t' σ H Q->t σ H Q):PI X tg e t':=fun pins s σ H R I q=>h pins s σ H R I (i σ H R q)
def iAny(K:Q2p)(tl:TE):TI:=fun σ H R=>tl σ H fun x H1=>(∃a,x=.ref a/\(∃xs,SqL K H1 a xs)/\R (Itl K a) H1)\/(∃a,x=.ref a/\(∃xs,SqT K H1 a xs)/\R (Itt K a) H1)\/∃z,x=.str z/\R (Its z) H1
theorem x1q{tg l:Expr}{tl:TE}(hl:PE X l tl):PI X tg l (iAny X.K tl):=by
 intro pins s σ H R I h
 refine thn (hl pins s σ H _ I h) fun v s1 hh1=>?_
 obtain⟨x,H1,I1,r1,q1⟩:=hh1
 rcases q1 with⟨a,e,⟨xs,hq⟩,q⟩|⟨a,e,⟨xs,hq⟩,q⟩|⟨z,rfl,q⟩
 ·subst e
  cases r1
  obtain⟨its,rv,p,hz⟩:=I1.list hq
  refine Z5h p.isList ?_
  refine⟨s1.heap.objs.size,[s1.heap.objs.size],_,_,H1,rfl,I1.kept (t':=s1.toks) fun b o e=>Q0c _ e,z6l a _,⟨_,Q0w _ rfl,rfl,rfl⟩,fun b hb=>?_,q⟩
  have e:b=s1.heap.objs.size:=by simpa using hb
  subst e
  exact I1.fpOk (Q0k _) (I1.hok.fresh (Q0k _))
 ·subst e
  cases r1
  obtain⟨its,rv,p,hz⟩:=I1.tuple hq
  refine Q5y (show s1.heap.IsTuple a its.toArray from p) ?_
  refine⟨s1.heap.objs.size,[s1.heap.objs.size],_,_,H1,rfl,I1.kept (t':=s1.toks) fun b o e=>Q0c _ e,z4l a _,⟨_,Q0w _ rfl,rfl,rfl⟩,fun b hb=>?_,q⟩
  have e:b=s1.heap.objs.size:=by simpa using hb
  subst e
  exact I1.fpOk (Q0k _) (I1.hok.fresh (Q0k _))
 ·obtain⟨t,rfl⟩:=r1
  refine wpAny_pyIter_strU ?_
  refine⟨s1.heap.objs.size,[s1.heap.objs.size],_,_,H1,rfl,I1.kept (t':=s1.toks) fun b o e=>Q0c _ e,y1l _ z t,⟨Q1f _,_,Q0w _ rfl,rfl,rfl⟩,fun b hb=>?_,q⟩
  obtain rfl:=Q0i.mp hb
  exact I1.fpOk (Q0k _) I1.fresh
def chr1(c:Nat):PV:=.str ⟨#[c]⟩
def q1v(w:WE):WI:=fun σ S E Q=>w σ S E fun x S1=>match x with
 |.ref n=>match q1p S1 n with
  |some xs=>Q ⟨xs,fun S=>q1p S n=some xs⟩ S1
  |none=>False
 |.tup xs=>Q ⟨xs,fun _=>True⟩ S1
 |.frl xs=>Q ⟨xs,fun _=>True⟩ S1
 |.str z=>Q ⟨z.cps.toList.map chr1,fun _=>True⟩ S1
 |_=>False
theorem y3n{K:Q2p}{φ:List Q0u}{H:Hp}{n:Nat}{a:Q0u}{xs:List PV}(qa:φ[n]?=some a):ItR K φ H (Itl K a) ⟨xs,fun S=>q1p S n=some xs⟩ where
 go:=fun φ1 H1 S1 p m R e i x hx=>by
  obtain⟨vs,sa,ra⟩:=R.seq (z1p p qa) e
  obtain⟨y,ey,ry⟩:=ra.get hx
  refine⟨⟨vs,y,sa,ey⟩,fun y' H' hh1=>?_⟩
  obtain⟨e1,e2⟩:=hh1
  subst e1
  have:=e2 vs sa
  rw[ey]at this
  cases this
  exact⟨φ1,Q0h _,.refl _,R,ry⟩
 stop:=fun φ1 H1 S1 p m R e i hi=>by
  obtain⟨vs,sa,ra⟩:=R.seq (z1p p qa) e
  exact⟨vs,sa,by rw[<-ra.length];exact hi⟩
theorem y9b{K:Q2p}{φ:List Q0u}{H:Hp}{a:Q0u}{xs:List PV}{vs:List V}(sa:SqT K H a vs)(ra:RVs K H φ xs vs):ItR K φ H (Itt K a) ⟨xs,fun _=>True⟩ where
 go:=fun φ1 H1 S1 p m R e i x hx=>by
  have sa1:=m.sqT sa
  obtain⟨y,ey,ry⟩:=(RVs.mono m p _ _ ra).get hx
  refine⟨⟨vs,y,sa1,ey⟩,fun y' H' hh1=>?_⟩
  obtain⟨e1,e2⟩:=hh1
  subst e1
  have:=e2 vs sa1
  rw[ey]at this
  cases this
  exact⟨φ1,Q0h _,.refl _,R,ry⟩
 stop:=fun φ1 H1 S1 p m R e i hi=>⟨vs,m.sqT sa,by rw[<-ra.length];exact hi⟩
theorem y9d{K:Q2p}{φ:List Q0u}{H:Hp}{a:Q0u}{xs:List PV}{vs:List V}(sa:SqF K H a vs)(ra:RVs K H φ xs vs):ItR K φ H (Itl K a) ⟨xs,fun _=>True⟩ where
 go:=fun φ1 H1 S1 p m R e i x hx=>by
  have sa1:=(m.sqF sa).sq
  obtain⟨y,ey,ry⟩:=(RVs.mono m p _ _ ra).get hx
  refine⟨⟨vs,y,sa1,ey⟩,fun y' H' hh1=>?_⟩
  obtain⟨e1,e2⟩:=hh1
  subst e1
  have:=e2 vs sa1
  rw[ey]at this
  cases this
  exact⟨φ1,Q0h _,.refl _,R,ry⟩
 stop:=fun φ1 H1 S1 p m R e i hi=>⟨vs,(m.sqF sa).sq,by rw[<-ra.length];exact hi⟩
theorem y9c{K:Q2p}{φ:List Q0u}{H:Hp}{z:Str}:ItR K φ H (Its z) ⟨z.cps.toList.map chr1,fun _=>True⟩ where
 go:=fun φ1 H1 S1 p m R e i x hx=>by
  have hx':(z.cps.toList.map chr1)[i]?=some x:=hx
  rw[Q1z]at hx'
  obtain⟨c,hc,rfl⟩:=Q2h.mp hx'
  have hc':z.cps[i]?=some c:=by simpa using hc
  refine⟨(Q4z.mp hc').1,fun y' H' ⟨e1,c',e2,e3⟩=>?_⟩
  subst e1
  rw[hc']at e2
  cases e2
  exact⟨φ1,Q0h _,.refl _,R,e3⟩
 stop:=fun φ1 H1 S1 p m R e i hi=>by
  have:(z.cps.toList.map chr1).length<=i:=hi
  show z.cps.size<=i
  simpa using this
theorem y2f{tg l:Expr}{w:WE}(hl:SimE X G l w):SimI X G tg l (q1v w):=
 PI.imp (x1q hl) fun σV H Q hh1=>by obtain⟨φ,σ,S,Q0,L,R,h,k⟩:=hh1;exact(⟨φ,σ,S,_,L,R,h,fun v S1 φ1 H1 x q p1 m1 R1 r1=>by
  split at q
  ·rename_i n
   split at q
   ·rename_i xs e
    obtain ⟨a,rfl,qa⟩:=r1
    obtain ⟨vs,sa,ra⟩:=R1.seq qa e
    exact .inl ⟨a,rfl,⟨vs,sa⟩,k _ S1 φ1 H1 _ q p1 m1 R1 (y3n qa)⟩
   ·exact q.elim
  ·rename_i xs
   obtain ⟨a,vs,rfl,sa,ra⟩:=r1
   exact .inr (.inl ⟨a,rfl,⟨vs,sa⟩,k _ S1 φ1 H1 _ q p1 m1 R1 (y9b sa ra)⟩)
  ·rename_i xs
   obtain ⟨a,vs,rfl,sa,ra⟩:=r1
   exact .inl ⟨a,rfl,⟨vs,sa.sq⟩,k _ S1 φ1 H1 _ q p1 m1 R1 (y9d sa ra)⟩
  ·rename_i z
   cases r1
   exact .inr (.inr ⟨z,rfl,k _ S1 φ1 H1 _ q p1 m1 R1 y9c⟩)
  ·exact q.elim⟩)
def rngP(lo:Int)(n:Nat):List PV:=(Q1q n).map fun i=>.int (lo+(i:Nat))
def q1d(wa:WA):WI:=fun σ S E Q=>wa σ S E fun xs S1=>match xs with
 |[.int j]=>(-(2 ^ 62)<=j/\j<2 ^ 62)/\Q ⟨rngP 0 j.toNat,fun _=>True⟩ S1
 |_=>False
def q4g(wa:WA):WI:=fun σ S E Q=>wa σ S E fun xs S1=>match xs with
 |[.int i,.int j]=>(-(2 ^ 62)<=i/\i<2 ^ 62/\-(2 ^ 62)<=j/\j<2 ^ 62)/\Q ⟨rngP i (j-i).toNat,fun _=>True⟩ S1
 |_=>False
theorem z0c{K:Q2p}{φ:List Q0u}{H:Hp}{lo:Int}{n:Nat}:ItR K φ H (Itr lo n) ⟨rngP lo n,fun _=>True⟩ where
 go:=fun φ1 H1 S1 p m R e i x hx=>by
  have hx':(rngP lo n)[i]?=some x:=hx
  unfold rngP at hx'
  rw[Q1z]at hx'
  obtain⟨c,hc,rfl⟩:=Q2h.mp hx'
  obtain⟨hl,rfl⟩:=Q0s.mp hc
  rw[List.getElem_range]
  refine⟨by show i<n;simpa using hl,fun y' H' hh1=>?_⟩
  obtain⟨e1,e2⟩:=hh1
  subst e1
  exact⟨φ1,Q0h _,.refl _,R,e2⟩
 stop:=fun φ1 H1 S1 p m R e i hi=>by
  have:(rngP lo n).length<=i:=hi
  unfold rngP at this
  show n<=i
  simpa using this
theorem z4s{tg a:Expr}{wa:WA}{p:Pos}(hm:X.mg "range" = none)(ha:SimA X G [a] wa)(hg:Gl X "range" :=by rfl)(hs:Q1m [a] X.env=[(false,eval a X.env)]:=by rfl):SimI X G tg (.Call (.Name "range" p) [a] [] pos) (q1d wa):=
 PI.imp (z8h hg hm ha hs) fun σV H Q hh1=>by obtain⟨φ,σ,S,Q0,L,R,h,k⟩:=hh1;exact(⟨φ,σ,S,_,L,R,h,fun v S1 φ1 H1 x q p1 m1 R1 r1=>by
  split at q
  ·rename_i j
   obtain ⟨y,rfl,r⟩:=q0v r1
   cases r
   exact ⟨j,rfl,q.1.1,q.1.2,k _ S1 φ1 H1 _ q.2 p1 m1 R1 z0c⟩
  ·exact q.elim⟩)
def z5r(chk:q0b->Prop)(g:WG)(wb:WS)(D:PEnds)(E:EK):List PV->Loc->q0b->Prop
 |[],σ,S=>chk S/\D.nx σ S
 |x::r,σ,S=>chk S/\∃N:Loc->q0b->Prop,(∀σ' S',N σ' S'->z5r chk g wb D E r σ' S')/\g x σ S E fun σ2 S2=>wb {nx:=N,rt:=D.rt,ct:=N,bk:=D.nx} E σ2 S2
def wFor(wi:WI)(g:WG)(wb:WS):WS:=fun D E σ S=>wi σ S E fun it S1=>z5r it.chk g wb D E it.xs σ S1
theorem y6t{tg iter:Expr}{body:List Q5q}{wi:WI}{g:WG}{wb:WS}(hp:Z3f (model X.prog X.w) X.A X.env X.xe)(hc:X.calm=true)(hi:SimI X G tg iter wi)(hg:SimG X G tg g)(hb:q6r X G body wb)(hs:∀x,foldedSetIterable iter X.env x=pure x:=by intro _;rfl):SimS X G (.For tg iter body [] pos) (wFor wi g wb):=
 (x1k hp hc hi hg hb hs).imp fun D σV H hh1=>by obtain⟨φ,σ,S,D0,L,R,h,k⟩:=hh1;exact(⟨φ,σ,S,_,L,R,h,fun it S1 φ1 H1 J q p1 m1 R1 hj=>by
  refine ⟨fun i m σV' H'=>m=it.xs.length-i/\i<=it.xs.length/\∃φ' σ' S',φ1 <+: φ'/\Mono H1 H'/\LRel X.K G H' φ' σ' σV'/\Rel X.K φ' S' H'/\z5r it.chk g wb D0 G.ek (it.xs.drop i) σ' S',⟨it.xs.length,by simp,Q1f _,φ1,σ,S1,Q0h _,.refl _,L.mono m1 p1,R1,by simpa using q⟩,?_⟩
  rintro i m σV' H' ⟨rfl,hi,φ',σ',S',p',m',L',R',hf⟩
  by_cases hlt:i<it.xs.length
  ·rw [Q2g hlt]at hf
   obtain ⟨hch,N,hN,hb⟩:=hf
   obtain ⟨jg,jy⟩:=hj.go φ' H' S' p' m' R' hch i _ (Q0e hlt)
   refine .inr ⟨jg,fun σ2V H2=>∃φ2 σ2 S2,φ' <+: φ2/\Mono H' H2/\LRel X.K G H2 φ2 σ2 σ2V/\Rel X.K φ2 S2 H2/\N σ2 S2,?_,?_⟩
   ·rintro σ2V H2 ⟨φ2,σ2,S2,p2,m2,L2,R2,hn⟩
    exact ⟨it.xs.length-(i+1),by omega,rfl,hlt,φ2,σ2,S2,p'.trans p2,m'.trans m2,L2,R2,hN σ2 S2 hn⟩
   ·intro y H2 hy
    obtain ⟨φ2,p2,m2,R2,r2⟩:=jy y H2 hy
    refine ⟨φ2,_,σ',S',_,L'.mono m2 p2,R2,r2,hb,fun σ3 S3 φ3 H3 σ3V q3 p3 m3 R3 L3=>?_⟩
    refine ⟨φ3,σ3,S3,_,L3,R3,q3,⟨?_,k.rt.up (((p1.trans p').trans p2).trans p3) (((m1.trans m').trans m2).trans m3),k.nx.up (((p1.trans p').trans p2).trans p3) (((m1.trans m').trans m2).trans m3),?_⟩⟩
    ·exact fun σ4 S4 φ4 H4 σ4V q4 p4 m4 R4 L4=>⟨φ4,σ4,S4,(p2.trans p3).trans p4,(m2.trans m3).trans m4,L4,R4,q4⟩
    ·exact fun σ4 S4 φ4 H4 σ4V q4 p4 m4 R4 L4=>⟨φ4,σ4,S4,(p2.trans p3).trans p4,(m2.trans m3).trans m4,L4,R4,q4⟩
  ·have e:i=it.xs.length:=by omega
   subst e
   rw [Q7l]at hf
   exact .inl ⟨hj.stop φ' H' S' p' m' R' hf.1 _ (Q0k _),k.nx σ' S' φ' H' σV' hf.2 (p1.trans p') (m1.trans m') R' L'⟩⟩)
def q6o(ix:List (Option Nat))(σ:Loc):Loc:=ix.map fun o=>match o with
 |none=>none
 |some j=>match σ[j]? with
  |some v=>v
  |none=>none
abbrev NoX:EK:=fun _ _=>False
abbrev NoG:GX:=⟨NoX,fun _ _=>False⟩
def q7o(chk:q0b->Prop)(g:WG)(wc:WT)(we:WE)(Q:VC):List PV->List PV->Loc->q0b->Prop
 |[],ys,_,S=>chk S/\Q (.ref S.length) (S++[.lst ys])
 |x::r,ys,σ,S=>chk S/\∃N:List PV->Loc->q0b->Prop,(∀ys' σ' S',N ys' σ' S'->q7o chk g wc we Q r ys' σ' S')/\g x σ S NoX fun σ2 S2=>wc σ2 S2 NoX fun b S3=>if b=true then we σ2 S3 NoX (fun y S4=>N (ys++[y]) σ2 S4)else N ys σ2 S3
def q1n:WT:=fun _ S _ Q=>Q true S
def q2l(wi:WI)(ix:List (Option Nat))(g:WG)(wc:WT)(we:WE):WE:=fun σ S E Q=>wi σ S E fun it S1=>it.xs.length<=Q0l/\q7o it.chk g wc we Q it.xs [] (q6o ix σ) S1
theorem z0m{K:Q2p}{H:Hp}{φ:List Q0u}{σ:Loc}{σV:St}(ix:List (Option Nat))(L:LRel K G H φ σ σV):LRel K NoG H φ (q6o ix σ) (q1m ix σV):=by
 refine⟨by simp[q6o,q1m],fun i v e=>?_,fun _ _ _ _ q=>q.elim⟩
 unfold q6o at e
 rw[Q1z]at e
 obtain⟨o,ho,e'⟩:=Q2h.mp e
 cases o with
 |none=>cases e'
 |some j=>
  dsimp only at e'
  cases hj:σ[j]? with
  |none=>rw[hj]at e';cases e'
  |some w=>
   rw[hj]at e'
   dsimp only at e'
   subst e'
   obtain⟨x,hx,r⟩:=L.at' j v hj
   refine⟨x,?_,r⟩
   unfold q1m
   rw[Q1z,ho]
   simp[hx]
end
end Ev
namespace Ev
open PySem L2 PySem.Spec PyProof.Rows
section
variable{X:Cx}{G:GX}{pos:Pos}
def zipP(xs ys:List PV):List PV:=(xs.zip ys).map fun p=>.tup [p.1,p.2]
end
abbrev Den:=List PV->q0b->EK->VC->Prop
def ClsP(K:Q2p)(v:PV)(cls:Q0b):Prop:=∃c C,v=.exc c/\cls=.ref C/\Q3f K Q1y (Q0j c)=some (some (.ref C))
def xkOf(K:Q2p)(f:PV->Hp->Prop):XK:=fun cls _ H'=>∃v,ClsP K v cls/\f v H'
def KX(K:Q2p)(φ:List Q0u)(H:Hp)(E0:EK)(f:PV->Hp->Prop):Prop:=∀v S' φ' H',E0 v S'->φ <+: φ'->Mono H H'->Rel K φ' S' H'->f v H'
theorem z8l{P:Q1e}{w:Q1x}{X:Cx}{K:Q2p}:q3q (CXE P w) X (xkOf K NoG.xh):=x2a.imp fun _ _ _ hh1=>by obtain⟨_,_,q⟩:=hh1;exact(q)
def q0l(K:Q2p)(sp:Den):Sp:=fun vs H Q E=>∃φ args S Q0 E0 f,RVs K H φ args vs/\Rel K φ S H/\sp args S E0 Q0/\KE K φ H Q0 Q/\KX K φ H E0 f/\∀cls d H',xkOf K f cls d H'->E cls d H'
def q0h(sp:Den)(wa:WA):WE:=fun σ S E Q=>wa σ S E fun xs S1=>sp xs S1 E Q
theorem z3b{X:Cx}{G:GX}{pos:Pos}{k:Nat}{f:Q0u}{fd:Q2z}{ps:List Str}{sp:Den}{x:Str}{p:Pos}{e:Expr}{es:List Expr}{wa:WA}(C:Cal X.prog X.w X.K X.mg X.base k x ps (q0l X.K sp) f fd)(hr:Room k X.A)(hx:q3q (CXE X.prog X.w) X (xkOf X.K G.xh))(ha:SimA X G (e::es) wa)(hg:Gl X x:=by rfl)
  (hdb:(x==("__debug__" : Str))=false:=by decide) (he:Q1m (e::es) X.env=(false,eval e X.env)::Q1m es X.env:=by rfl) (hpl:(backTo pos (Q1m es X.env)).any (·.1)=false:=by rfl) :
  SimE X G (.Call (.Name x p) (e::es) [] pos) (q0h sp wa):=
 (y7v C.G hr hg C.m C.kp C.b .nil hx ha hdb he hpl).imp fun σV H Q hh1=>by obtain⟨φ,σ,S,Q0,L,R,h,k⟩:=hh1;exact(⟨φ,σ,S,_,L,R,h,fun v S1 φ1 H1 x q p1 m1 R1 r1=>
  ⟨φ1,v,S1,Q0,G.ek,G.xh,by rw [Q2x];exact r1,R1,q,k.up p1 m1,(L.mono m1 p1).kx,fun _ _ _ z=>z⟩⟩)
def fnP(np nl:Nat)(w:WS):Den:=fun args S E Q=>args.length=np/\w {nx:=fun _ S'=>Q .non S',rt:=Q} E (args.map some++Q1v (nl-np) none) S
theorem z6r{K:Q2p}{G:GX}{H:Hp}{φ:List Q0u}{args:List PV}{vs:List V}(N:List Str)(r:RVs K H φ args vs)(kx:KX K φ H G.ek G.xh):LRel K G H φ (args.map some++Q1v (N.length-args.length) none) (L2.q5w N vs):=by
 refine⟨by unfold L2.q5w;simp[r.length],fun i v e=>?_,kx⟩
 by_cases hi:i<args.length
 ·rw[Q0o (by simpa using hi),Q1z]at e
  obtain⟨u,hu,e'⟩:=Q2h.mp e
  cases e'
  obtain⟨x,hx,rx⟩:=r.get hu
  refine⟨x,?_,rx⟩
  unfold L2.q5w
  rw[Q0o (by simpa[<-r.length]using hi),Q1z,hx]
  rfl
 ·rw[Q2u (by simpa using hi),Z0s]at e
  split at e<;>cases e
theorem x3t{P:Q1e}{w:Q1x}{K:Q2p}{mg:Str->Option Q0b}{base:Q1h}{x qual:Str}{st:Q5q}{f:Q0u}{fd:Q2z}{N ps:List Str}{k:Nat}{wb:WS}(F:Fun K x qual st f fd)(Sc:FnScope N ps (q0o st))
  (sim:∀(cdv:Q0b)(A:Q1t)(outer:List Env)(s:Q0d)(H:Hp)(E:XK)(G:GX),RoomW k (A.deeper (envOfC qual (q0o st) s.heap.objs.size f cdv))->q3q (CXE P w) (cxOf (CXE P w) P w K mg base N qual (q0o st) f cdv A outer s H E) (xkOf K G.xh)->
   q6r (cxOf (CXE P w) P w K mg base N qual (q0o st) f cdv A outer s H E) G (q3i st) wb) :
  FnOk P w K mg base (CXE P w) (k+1) f fd ps (q0l K (fnP ps.length N.length wb)):=by
 refine F.okX Sc (fun vs H Q E h=>?_) (fun cdv A outer s H vs Q E hr h=>?_)
 ·obtain⟨φ,args,S,Q0,E0,g,r,_,⟨h,_⟩,_⟩:=h
  rw[<-r.length,h]
 ·obtain⟨φ,args,S,Q0,E0,g,r,R,⟨hl,h⟩,kk,kx,hE⟩:=h
  refine⟨_,sim cdv A outer s H E ⟨E0,g⟩ hr (x5e.imp hE),φ,_,S,{nx:=fun _ S'=>Q0 .non S',rt:=Q0},?_,R,h,⟨fun σ' S' φ' H' σV' q p m R' L'=>kk _ S' φ' H' _ q p m R' rfl,kk,fun _ _ _ _ _ q=>q.elim,fun _ _ _ _ _ q=>q.elim⟩⟩
  have:=z6r (G:=⟨E0,g⟩) N r kx
  rw[hl]at this
  exact this
theorem q1z{P:Q1e}{w:Q1x}{K:Q2p}{mg:Str->Option Q0b}{base:Q1h}{k:Nat}{f:Q0u}{fd:Q2z}{ps:List Str}:FnOk P w K mg base (CXE P w) k f fd ps (q0l K fun _ _ _ _=>False):=
 ⟨fun vs H Q E hh1=>by obtain⟨_,_,_,_,_,_,_,_,h,_⟩:=hh1;exact(h.elim),fun A outer s H args us vs Q E _ _ _ _ hh2=>by obtain⟨_,_,_,_,_,_,_,_,h,_⟩:=hh2;exact(h.elim)⟩
def LawP(sp:Den):Prop:=∀ns:List Int,ns.length<=63->sp [.frl (ns.map .int)] [] NoX fun v _=>v=.bl true
theorem x2y{K:Q2p}{sp:Den}(h:LawP sp):∀(H:Hp)(a:Q0u)(ns:List Int),ns.length<=63->Only H->SqL K H a (ns.map V.int)->q0l K sp [.ref a] H (fun v _=>v=.bl true) fun _ _ _=>False:=by
 intro H a ns hl hO hS
 refine⟨[],[.frl (ns.map .int)],[],_,NoX,fun _ _=>False,⟨_,_,rfl,⟨a,_,rfl,?_,RVs.of_ints ns⟩,rfl⟩,⟨rfl,by simp,fun n a o e=>by simp at e⟩,h ns hl,fun v S' φ' H' x q p m R r=>?_,fun _ _ _ _ q=>q.elim,fun _ _ _ hh1=>by obtain⟨_,_,q⟩:=hh1;exact(q)⟩
 ·rcases hS with hS|hS
  ·rcases hS with z|⟨o,z⟩
   ·rcases hO a with w|⟨o,xs,w⟩
    ·rw[z]at w;cases w
    ·rw[z]at w;cases w
   ·exact .inl ⟨o,z⟩
  ·exact .inr hS
 ·subst q
  exact r
end Ev
namespace L2
open PySem PySem.Spec PyProof.Rows
section
variable{prog:Q1e}{w:Q1x}{A:Q1t}{E:Q0b->Q0d->Prop}{s:Q0d}
end
end L2
namespace Ev
open PySem L2
section
variable{X:Cx}{G:GX}{pos:Pos}
end
section
variable{X:Cx}{G:GX}{pos:Pos}
theorem q3w{K:Q2p}{w:WI}(σ:St)(H:Hp)(R R':It->Hp->Prop)(h:∀J H1,R J H1->R' J H1)(q:z1w K G w σ H R):z1w K G w σ H R':=by
 obtain⟨φ,σ,S,Q0,L,R,hw,k⟩:=q
 exact⟨φ,σ,S,Q0,L,R,hw,fun it S' φ' H' J q p m R hj=>h _ _ (k it S' φ' H' J q p m R hj)⟩
theorem q4q{tg iter elt c:Expr}{scope:Q5b}{wi:WI}{g:WG}{wc:WT}{we:WE}{ix:List (Option Nat)}{σV:St}{H:Hp}{Q:VK}(h:q3k X.K G (q2l wi ix g wc we) σV H Q):z1j (z1w X.K G wi) ix (q6i X.K NoG g) (q8i X.K NoG wc) (q3k X.K NoG we) σV H Q:=by
 obtain⟨φ,σ,S,Q0,L,R,h,k⟩:=h
 refine⟨φ,σ,S,_,L,R,h,fun it S1 φ1 H1 J hh1 p1 m1 R1 hj=>?_⟩
 obtain⟨hz,q⟩:=hh1
 refine⟨fun i ys σV' H'=>∃φ' σ' S' pys,φ1 <+: φ'/\Mono H1 H'/\LRel X.K NoG H' φ' σ' σV'/\Rel X.K φ' S' H'/\RVs X.K H' φ' pys ys/\q7o it.chk g wc we Q0 (it.xs.drop i) pys σ' S',it.xs.length,hz,⟨φ1,_,S1,[],Q0h _,.refl _,z0m ix (L.mono m1 p1),R1,rfl,by simpa using q⟩,?_⟩
 rintro i ys σV' H' hi ⟨φ',σ',S',pys,p',m',L',R',rys,hf⟩
 by_cases hlt:i<it.xs.length
 ·rw[Q2g hlt]at hf
  obtain⟨hch,N,hN,hb⟩:=hf
  obtain⟨jg,jy⟩:=hj.go φ' H' S' p' m' R' hch i _ (Q0e hlt)
  refine .inr ⟨hlt,jg,fun y H2 hy=>?_⟩
  obtain⟨φ2,p2,m2,R2,r2⟩:=jy y H2 hy
  refine⟨φ2,_,σ',S',_,L'.mono m2 p2,R2,r2,hb,fun σ3 S3 φ3 H3 σ3V q3 p3 m3 R3 L3=>?_⟩
  refine⟨φ3,σ3,S3,_,L3,R3,q3,fun b S4 φ4 H4 q4 p4 m4 R4=>?_⟩
  cases b with
  |true=>
   have hw:we σ3 S4 NoX (fun y S4=>N (pys++[y]) σ3 S4):=q4
   refine⟨φ4,σ3,S4,_,L3.mono m4 p4,R4,hw,fun z S5 φ5 H5 z' q5 p5 m5 R5 r5=>?_⟩
   exact⟨φ5,σ3,S5,pys++[z],(((p'.trans p2).trans p3).trans p4).trans p5,(((m'.trans m2).trans m3).trans m4).trans m5,(L3.mono m4 p4).mono m5 p5,R5,(RVs.mono (((m2.trans m3).trans m4).trans m5) (((p2.trans p3).trans p4).trans p5) _ _ rys).append (.one r5),hN _ _ _ q5⟩
  |false=>exact⟨φ4,σ3,S4,pys,((p'.trans p2).trans p3).trans p4,((m'.trans m2).trans m3).trans m4,L3.mono m4 p4,R4,RVs.mono ((m2.trans m3).trans m4) ((p2.trans p3).trans p4) _ _ rys,hN _ _ _ q4⟩
 ·have e:i=it.xs.length:=by omega
  subst e
  rw[Q7l]at hf
  exact .inl ⟨hj.stop φ' H' S' p' m' R' hf.1 _ (Q0k _),(k.up (p1.trans p') (m1.trans m')).lst hf.2 R' rys⟩
theorem z3d{D:Ends}{σV:St}{H:Hp}{i:Nat}{w:WE}(h:y8t X.K G (wSet i w) D σV H):q3k X.K G w σV H fun v H1=>D.nx (σV.set i (some v)) H1:=by
 obtain⟨φ,σ,S,D0,L,R,h,k⟩:=h
 exact⟨φ,σ,S,_,L,R,h,fun v S1 φ1 H1 x q p1 m1 R1 r1=>k.nx _ S1 φ1 H1 _ q p1 m1 R1 ((L.mono m1 p1).set i r1)⟩
theorem q9f{K:Q2p}(σ:St)(H:Hp)(Q:Bool->Hp->Prop)(h:q8i K NoG q1n σ H Q):Q true H:=by
 obtain⟨φ,σ,S,Q0,L,R,h,k⟩:=h
 exact k true S φ H h (Q0h _) (.refl _) R
theorem q3u{tg iter elt:Expr}{scope:Q5b}{wi:WI}{g:WG}{we:WE}(N':List Str)(ix:List (Option Nat))(hc:X.calm=true)(co:CompOk X scope N' ix)(hi:SimI X G tg iter wi)(hg:∀cl C s H fp,SimG (X.comp scope N' cl C s H fp) NoG tg g)(he:∀cl C s H fp,SimE (X.comp scope N' cl C s H fp) NoG elt we)
  (hs:∀x,foldedSetIterable iter X.env x=pure x:=by intro _;rfl):SimE X G (.ListComp elt [⟨tg,iter,[],0⟩] scope pos) (q2l wi ix g q1n we):=
 (z3j (g:=q6i X.K NoG g) (tc:=q8i X.K NoG q1n) (te:=q3k X.K NoG we) hc co hi q3w hg (fun _ _ _ _ _=>z7v q9f) he hs).imp fun σV H Q h=>q4q (tg:=tg) (iter:=iter) (elt:=elt) (c:=elt) (scope:=scope) h
theorem q7a{tg iter elt c:Expr}{scope:Q5b}{wi:WI}{g:WG}{wc:WT}{we:WE}(N':List Str)(ix:List (Option Nat))(hc:X.calm=true)(co:CompOk X scope N' ix)(hi:SimI X G tg iter wi)(hg:∀cl C s H fp,SimG (X.comp scope N' cl C s H fp) NoG tg g)(ht:∀cl C s H fp,SimT (X.comp scope N' cl C s H fp) NoG c wc)(he:∀cl C s H fp,SimE (X.comp scope N' cl C s H fp) NoG elt we)
  (hs:∀x,foldedSetIterable iter X.env x=pure x:=by intro _;rfl):SimE X G (.ListComp elt [⟨tg,iter,[c],0⟩] scope pos) (q2l wi ix g wc we):=
 (z3j (g:=q6i X.K NoG g) (tc:=q8i X.K NoG wc) (te:=q3k X.K NoG we) hc co hi q3w hg (fun cl C s H fp=>z7u (ht cl C s H fp)) he hs).imp fun σV H Q h=>q4q (tg:=tg) (iter:=iter) (elt:=elt) (c:=c) (scope:=scope) h
theorem q3g(i:Nat){x:Str}{px sp:Pos}{tg iter elt:Expr}{scope:Q5b}{wi:WI}{g:WG}{we:WE}(N':List Str)(ix:List (Option Nat))(hN:X.N.Nodup)(hc:X.calm=true)(co:CompOk X scope N' ix)(hi:SimI X G tg iter wi)(hg:∀cl C s H fp,SimG (X.comp scope N' cl C s H fp) NoG tg g)(he:∀cl C s H fp,SimE (X.comp scope N' cl C s H fp) NoG elt we)
  (hsw:swapsWith (.ListComp elt [⟨tg,iter,[],0⟩] scope pos) (some (.Name x px)) sp.line X.env=pure true:=by rfl) (hii:X.N[i]?=some x:=by rfl) (hx:L2.Loc X.env.scope x:=by first|exact Q9a rfl|exact Q7r rfl)
  (hs:∀x,foldedSetIterable iter X.env x=pure x:=by intro _;rfl) (hf:X.fn x=true\/X.env.scope.names.lookup x=some .local:=by first|exact .inl rfl|exact .inr rfl|assumption) :
  SimS X G (.Assign [.Name x px] (.ListComp elt [⟨tg,iter,[],0⟩] scope pos) sp) (wSet i (q2l wi ix g q1n we)):=
 (q6a (g:=q6i X.K NoG g) (tc:=q8i X.K NoG q1n) (te:=q3k X.K NoG we) hsw hN hii hx hc co hi q3w hg (fun _ _ _ _ _=>z7v q9f) he hs hf).imp fun D σV H h=>q4q (tg:=tg) (iter:=iter) (elt:=elt) (c:=elt) (scope:=scope) (z3d h)
theorem q8a(i:Nat){x:Str}{px sp:Pos}{tg iter elt c:Expr}{scope:Q5b}{wi:WI}{g:WG}{wc:WT}{we:WE}(N':List Str)(ix:List (Option Nat))(hN:X.N.Nodup)(hc:X.calm=true)(co:CompOk X scope N' ix)(hi:SimI X G tg iter wi)(hg:∀cl C s H fp,SimG (X.comp scope N' cl C s H fp) NoG tg g)(ht:∀cl C s H fp,SimT (X.comp scope N' cl C s H fp) NoG c wc)(he:∀cl C s H fp,SimE (X.comp scope N' cl C s H fp) NoG elt we)
  (hsw:swapsWith (.ListComp elt [⟨tg,iter,[c],0⟩] scope pos) (some (.Name x px)) sp.line X.env=pure true:=by rfl) (hii:X.N[i]?=some x:=by rfl) (hx:L2.Loc X.env.scope x:=by first|exact Q9a rfl|exact Q7r rfl)
  (hs:∀x,foldedSetIterable iter X.env x=pure x:=by intro _;rfl) (hf:X.fn x=true\/X.env.scope.names.lookup x=some .local:=by first|exact .inl rfl|exact .inr rfl|assumption) :
  SimS X G (.Assign [.Name x px] (.ListComp elt [⟨tg,iter,[c],0⟩] scope pos) sp) (wSet i (q2l wi ix g wc we)):=
 (q6a (g:=q6i X.K NoG g) (tc:=q8i X.K NoG wc) (te:=q3k X.K NoG we) hsw hN hii hx hc co hi q3w hg (fun cl C s H fp=>z7u (ht cl C s H fp)) he hs hf).imp fun D σV H h=>q4q (tg:=tg) (iter:=iter) (elt:=elt) (c:=c) (scope:=scope) (z3d h)
end
end Ev
namespace My
open PySem L2 Ev
def Ex(D:List Nat)(S S':q0b):Prop:=S.length<=S'.length/\∀i,i<S.length->i∉D->S'[i]?=S[i]?
theorem Ex.refl(D:List Nat)(S:q0b):Ex D S S:=⟨Q0k _,fun _ _ _=>rfl⟩
theorem Ex.trans{D:List Nat}{S S1 S2:q0b}(a:Ex D S S1)(b:Ex D S1 S2):Ex D S S2:=⟨Q1l a.1 b.1,fun i h n=>(b.2 i (Q1a h a.1) n).trans (a.2 i h n)⟩
theorem Ex.weak{D D':List Nat}{S S':q0b}(a:Ex D S S')(h:∀i∈D,i∈D'):Ex D' S S':=⟨a.1,fun i l n=>a.2 i l fun z=>n (h i z)⟩
theorem Ex.nil{D:List Nat}{S S':q0b}(a:Ex [] S S'):Ex D S S':=a.weak fun i h=>by cases h
theorem Ex.app{D:List Nat}{S S':q0b}(a:Ex D S S')(xs:List SO):Ex D S (S'++xs):=⟨by rw[Q0x];exact Q1l a.1 (Q5l _ _),fun i h n=>by rw[Q0o (Q1a h a.1)];exact a.2 i h n⟩
theorem Ex.set{D:List Nat}{S S':q0b}(a:Ex D S S'){i:Nat}{o:SO}(hi:i∈D\/S.length<=i):Ex D S (S'.set i o):=⟨by rw[Z3x];exact a.1,fun j h n=>by
 rw [Q1c]
 ·exact a.2 j h n
 ·rintro rfl
  rcases hi with z|z
  ·exact n z
  ·omega⟩
theorem Ex.get{D:List Nat}{S S':q0b}(a:Ex D S S'){i:Nat}{o:SO}(e:S[i]?=some o)(n:i∉D):S'[i]?=some o:=by
 rw[a.2 i (Q0s.mp e).1 n];exact e
theorem Ex.new(D:List Nat)(S:q0b)(xs:List SO):Ex D S (S++xs):=(Ex.refl D S).app xs
theorem q0f(S:q0b)(o:SO):(S++[o])[S.length]?=some o:=by simp
theorem q0i{S:q0b}{i:Nat}{o:SO}(e:S[i]?=some o)(xs:List SO):(S++xs)[i]?=some o:=by
 rw[Q0o (Q0s.mp e).1];exact e
theorem q2k{S:q0b}{i:Nat}{o:SO}(u:SO)(e:S[i]?=some o):(S.set i u)[i]?=some u:=Q1o (Q0s.mp e).1
theorem q1h{S:q0b}{i j:Nat}{o:SO}(u:SO)(e:S[i]?=some o)(h:j≠i):(S.set j u)[i]?=some o:=by rw[Q1c h];exact e
theorem q0d{S:q0b}{i:Nat}{o:SO}(e:S[i]?=some o):i<S.length:=(Q0s.mp e).1
theorem q0m{S:q0b}{n:Nat}{xs:List PV}(e:S[n]?=some (.lst xs)):q3x S n=some xs:=by unfold q3x;rw[e]
theorem q0c{S:q0b}{n:Nat}{xs:List PV}(e:S[n]?=some (.lst xs)):q1p S n=some xs:=by unfold q1p;rw[e]
theorem y6y(S:q0b)(xs:List PV):q1p (S++[.lst xs]) S.length=some xs:=q0c (q0f _ _)
theorem y8r(S:q0b)(xs:List PV):q3x (S++[.lst xs]) S.length=some xs:=q0m (q0f _ _)
theorem seqI{a b:WS}{D:PEnds}{E:EK}{σ:Ev.Loc}{S:q0b}(h:∀K:Ev.Loc->q0b->Prop,(∀σ S,b D E σ S->K σ S)->a {D with nx:=K} E σ S):wSeq a b D E σ S:=h _ fun _ _ z=>z
theorem forI{chk:q0b->Prop}{g:WG}{wb:WS}{D:PEnds}{E:EK}(P:List PV->Ev.Loc->q0b->Prop)(hn:∀σ S,P [] σ S->chk S/\D.nx σ S)
  (hc:∀x r σ S,P (x::r) σ S->∀N:Ev.Loc->q0b->Prop,(∀σ S,P r σ S->N σ S)->chk S/\g x σ S E fun σ2 S2=>wb {nx:=N,rt:=D.rt,ct:=N,bk:=D.nx} E σ2 S2):∀(xs:List PV)(σ:Ev.Loc)(S:q0b),P xs σ S->z5r chk g wb D E xs σ S
 |[],σ,S,h=>hn σ S h
 |x::r,σ,S,h=>⟨(hc x r σ S h (P r) fun _ _ z=>z).1,P r,fun σ' S' q=>forI P hn hc r σ' S' q,(hc x r σ S h (P r) fun _ _ z=>z).2⟩
theorem y9l{chk:q0b->Prop}{g:WG}{wc:WT}{we:WE}{Q:VC}(P:List PV->List PV->Ev.Loc->q0b->Prop)(hn:∀ys σ S,P [] ys σ S->chk S/\Q (.ref S.length) (S++[.lst ys]))
  (hc:∀x r ys σ S,P (x::r) ys σ S->∀N:List PV->Ev.Loc->q0b->Prop,(∀ys σ S,P r ys σ S->N ys σ S)->chk S/\g x σ S NoX fun σ2 S2=>wc σ2 S2 NoX fun b S3=>if b=true then we σ2 S3 NoX (fun y S4=>N (ys++[y]) σ2 S4)else N ys σ2 S3):∀(xs ys:List PV)(σ:Ev.Loc)(S:q0b),P xs ys σ S->q7o chk g wc we Q xs ys σ S
 |[],ys,σ,S,h=>hn ys σ S h
 |x::r,ys,σ,S,h=>⟨(hc x r ys σ S h (P r) fun _ _ _ z=>z).1,P r,fun ys' σ' S' q=>y9l P hn hc r ys' σ' S' q,(hc x r ys σ S h (P r) fun _ _ _ z=>z).2⟩
theorem y9v{c:WT}{b:WS}{D:PEnds}{E:EK}{σ:Ev.Loc}{S:q0b}(P:Nat->Ev.Loc->q0b->Prop)(m:Nat)(h0:P m σ S)
  (hs:∀m σ S,P m σ S->∀T F:Ev.Loc->q0b->Prop,(∀S1,(∀N:Ev.Loc->q0b->Prop,(∀m' σ' S',m'<m->P m' σ' S'->N σ' S')->b {D with nx:=N,ct:=N,bk:=D.nx} E σ S1)->T σ S1)->(∀S1,D.nx σ S1->F σ S1)->c σ S E fun bo S1=>if bo=true then T σ S1 else F σ S1):z6g c b D E σ S:=by
 refine⟨P,⟨m,h0⟩,fun m σ S p=>?_⟩
 exact hs m σ S p (fun σ S1=>∃N:Ev.Loc->q0b->Prop,(∀σ' S',N σ' S'->∃m',m'<m/\P m' σ' S')/\b {D with nx:=N,ct:=N,bk:=D.nx} E σ S1) D.nx (fun S1 h=>⟨fun σ' S'=>∃m',m'<m/\P m' σ' S',fun σ' S' n=>n,h _ fun m' σ' S' a b=>⟨m',a,b⟩⟩) fun S1 h=>h
theorem q5j:isT "NoneType" "list" = false:=rfl
theorem q5b:isT "NoneType" "tuple" = false:=rfl
theorem q6l:isT "NoneType" "str" = false:=rfl
theorem q6m:isT "NoneType" "int" = false:=rfl
theorem q5k:isT "NoneType" "bool" = false:=rfl
theorem z0k:isT "bool" "list" = false:=rfl
theorem q8r:isT "bool" "tuple" = false:=rfl
theorem z2g:isT "bool" "str" = false:=rfl
theorem z2h:isT "bool" "int" = true:=rfl
theorem z0l:isT "bool" "bool" = true:=rfl
theorem z2e:isT "int" "list" = false:=rfl
theorem z0j:isT "int" "tuple" = false:=rfl
theorem z5m:isT "int" "str" = false:=rfl
theorem z5n:isT "int" "int" = true:=rfl
theorem z2f:isT "int" "bool" = false:=rfl
theorem z2a:isT "str" "list" = false:=rfl
theorem z0g:isT "str" "tuple" = false:=rfl
theorem z5k:isT "str" "str" = true:=rfl
theorem z5l:isT "str" "int" = false:=rfl
theorem z2b:isT "str" "bool" = false:=rfl
theorem q8o:isT "tuple" "list" = false:=rfl
theorem q6t:isT "tuple" "tuple" = true:=rfl
theorem z0e:isT "tuple" "str" = false:=rfl
theorem z0f:isT "tuple" "int" = false:=rfl
theorem q8p:isT "tuple" "bool" = false:=rfl
theorem z0h:isT "list" "list" = true:=rfl
theorem q8q:isT "list" "tuple" = false:=rfl
theorem z2c:isT "list" "str" = false:=rfl
theorem z2d:isT "list" "int" = false:=rfl
theorem z0i:isT "list" "bool" = false:=rfl
theorem y8i:nrf .non=true:=rfl
theorem x2p(b:Bool):nrf (.bl b)=true:=rfl
theorem y8j(b:Int):nrf (.int b)=true:=rfl
theorem y8h(b:Str):nrf (.str b)=true:=rfl
theorem z8q(b:List PV):nrf (.tup b)=nrfs b:=by simp only[nrf]
theorem y5d(a b:Int):eqB (.int a) (.int b)=decide (a=b):=by simp only[eqB];exact Bool.beq_eq_decide_eq a b
theorem q3n(a b:Str):eqB (.str a) (.str b)=decide (a=b):=by
 simp only[eqB]
 by_cases h:a=b
 ·subst h;simp
 ·rw[decide_eq_false h];exact beq_eq_false_iff_ne.mpr h
theorem y5c(a:Str)(b:List PV):eqB (.str a) (.tup b)=false:=by simp only[eqB]
theorem y5b(a:List PV)(b:Str):eqB (.tup a) (.str b)=false:=by simp only[eqB]
theorem q5e(a b:List PV):eqB (.tup a) (.tup b)=eqBs a b:=by simp only[eqB]
theorem y2z(a:Str):okEq (.str a)=True:=by simp[okEq,nrf,dep]
theorem q4y(l:List Str):q2m (l.map PV.str):=by
 refine⟨?_,?_⟩
 ·induction l with
  |nil=>rfl
  |cons a r ih=>simp only[Q0v,nrfs,nrf,ih,Q4c]
 ·induction l with
  |nil=>simp[deps]
  |cons a r ih=>simp only[Q0v,deps,dep];omega
theorem q9s:q2m []=True:=by simp[q2m,nrfs,deps]
theorem x4d(a b:Int)(S:q0b)(Q:VC):cEq (.int a) (.int b) S Q=(Q (.bl (decide (a=b))) S):=by simp only[cEq,cEqG,nrf,y5d,q5u,q4f,true_and,and_self]
theorem x4b(a b:Str)(S:q0b)(Q:VC):cEq (.str a) (.str b) S Q=(Q (.bl (decide (a=b))) S):=by simp only[cEq,cEqG,nrf,q3n,q5u,q4f,true_and,and_self]
theorem y5h(a b:List PV)(S:q0b)(Q:VC):cEq (.tup a) (.tup b) S Q=((okEq (.tup a)/\okEq (.tup b))/\Q (.bl (eqBs a b)) S):=by simp only[cEq,cEqG,q5u,q4f]
theorem x4c(m n:Nat)(S:q0b)(Q:VC):cEq (.ref m) (.ref n) S Q=(match q1p S m,q1p S n with
  |some xs,some ys=>(q2m xs/\q2m ys)/\Q (.bl (eqBs xs ys)) S
  |_,_=>False):=by simp only [cEq,cEqG,q5u,q4f];try rfl
theorem x3z(a b:Str)(S:q0b)(Q:VC):cNe (.str a) (.str b) S Q=(Q (.bl (!decide (a=b))) S):=by simp only[cNe,cEqG,nrf,q3n,q5u,q4f,true_and,and_self]
theorem x4a(m n:Nat)(S:q0b)(Q:VC):cNe (.ref m) (.ref n) S Q=(match q1p S m,q1p S n with
  |some xs,some ys=>(q2m xs/\q2m ys)/\Q (.bl (!eqBs xs ys)) S
  |_,_=>False):=by simp only [cNe,cEqG,q5u,q4f];try rfl
theorem z4d(x:PV)(n:Nat)(S:q0b)(Q:VC):q3d x (.ref n) S Q=(match q1p S n with
  |some ys=>(okEq x/\q2m ys)/\Q (.bl (!ys.any fun y=>eqB y x)) S
  |none=>False):=by cases x<;>(simp only [q3d,cInG,q5u,q4f];try rfl)
theorem big{n:Nat}(h:n<=1000000):n<=Q0l:=Q1l h (by decide)
theorem bigl{n:Nat}(h:n<=1000000):n<Q0l:=Nat.lt_of_le_of_lt h (by decide)
end My
namespace Ev
open PySem PySem.Spec PyProof.Rows L2
section
variable{X:Cx}{G:GX}{pos:Pos}
end
section
variable{X:Cx}{G:GX}{pos:Pos}
end
section
variable{X:Cx}{G:GX}{pos:Pos}
def x4p(K:Q2p)(te:TE):TE:=fun σ H Q=>te σ H fun x H1=>∃a xs,x=.ref a/\SqL K H1 a xs/\∀p,H1 p=none->Q (.ref p) (upd H1 p (.lst xs.reverse))
theorem y7r{e:Expr}{te:TE}{k:Nat}{p2 p3 p4:Pos}(he:PE X e te):PE X (.Subscript e (.Slice none none (some (.UnaryOp .USub (.Constant (.int 1) k p3) p4)) p2) pos) (x4p X.K te):=by
 intro pins s σ H Q I h
 refine Z5b (thn (he pins s σ H _ I h) fun v s1 hh1=>?_)
 obtain⟨x,H1,I1,r1,q1⟩:=hh1
 refine wpAny_Slice ?_
 rw[Z2k]
 refine Q0f ?_
 refine Q0f ?_
 refine thn (z8a (x5b x0a y4w) pins s1 σ H1 (fun i H2=>i=some (-1)/\H2=H1) I1 ⟨1,rfl,-1,rfl,rfl,rfl⟩) fun vk s4 hh2=>?_
 obtain⟨i,H2,I2,pk,e1,e2⟩:=hh2
 subst e1 e2
 obtain⟨a,xs,rfl,hx,q⟩:=q1
 cases r1
 have I4:Inv X pins σ H2 {s4 with heap:=s4.heap.push {cls:=.type "slice",data:=.fields #[.none,.none,vk]}}:=I2.kept (t':=s4.toks) fun b ob q=>Q0c _ q
 obtain⟨its,r,ht,hz⟩:=I4.list hx
 have hlen:=r.length
 show Q1d (model X.prog X.w) X.A (subscriptTail e (.Slice none none _ p2) (.ref a) (.ref s4.heap.objs.size)) (EP X pins σ Q) X.xe {s4 with heap:=s4.heap.push {cls:=.type "slice",data:=.fields #[.none,.none,vk]}}
 refine tail_any (T:= "list") (ops:=[.ref a,.ref s4.heap.objs.size]) ht.isList.typeIs Q9x.lookup ?_ (by with_unfolding_all rfl)
 refine Z1y ht.isList (Q1h.IsSliceOf.new ..) .none .none pk (by simp) ?_ (by rw[Q0g]<;>omega)
 rw[PySem.W.krv_pick]
 refine⟨.ref _,_,I4.laid (t':=s4.toks) (o:=.lst xs.reverse) (fun b ob q=>Q0c _ q) (Q0k _) ?_,rfl,q _ (I4.hok.fresh (Q0k _))⟩
 exact⟨by rw[List.length_reverse];exact hz,_,0,r.reverse,Q0w _ rfl⟩
def q9c(w:WE):WE:=fun σ S E Q=>w σ S E fun x S1=>match x with
 |.ref n=>match q3x S1 n with
  |some xs=>Q (.ref S1.length) (S1++[.lst xs.reverse])
  |none=>False
 |_=>False
theorem y1u{e:Expr}{w:WE}{k:Nat}{p2 p3 p4:Pos}(he:SimE X G e w):SimE X G (.Subscript e (.Slice none none (some (.UnaryOp .USub (.Constant (.int 1) k p3) p4)) p2) pos) (q9c w):=
 (y7r he).imp fun σV H Q hh1=>by obtain⟨φ,σ,S,Q0,L,R,h,k⟩:=hh1;exact(⟨φ,σ,S,_,L,R,h,fun v S1 φ1 H1 x q p1 m1 R1 r1=>by
  split at q
  ·rename_i n
   split at q
   ·rename_i xs e1
    obtain ⟨a,rfl,qa⟩:=r1
    obtain ⟨vs,ea,r⟩:=R1.lst qa e1
    exact ⟨a,vs,rfl,SqL.of ea,(k.up p1 m1).lst q R1 r.reverse⟩
   ·exact q.elim
  ·exact q.elim⟩)
end
end Ev
namespace My
open PySem L2 Ev
theorem ix_t(xs:List PV)(i:Int)(S:q0b)(Q:VC):bIx (.tup xs) (.int i) S Q=match atI xs i with
  |some v=>Q v S
  |none=>False:=rfl
theorem ix_s(z:Str)(i:Int)(S:q0b)(Q:VC):bIx (.str z) (.int i) S Q=(z.length<=Q0l/\match atI z.cps.toList i with
  |some c=>Q (.str ⟨#[c]⟩) S
  |none=>False):=rfl
theorem ix_f(xs:List PV)(i:Int)(S:q0b)(Q:VC):bIx (.frl xs) (.int i) S Q=match atI xs i with
  |some v=>Q v S
  |none=>False:=rfl
theorem ix_r(n:Nat)(y:PV)(S:q0b)(Q:VC):bIx (.ref n) y S Q=match S[n]? with
  |some (.lst xs)=>match y with
   |.int i=>match atI xs i with
    |some v=>Q v S
    |none=>False
   |_=>False
  |some (.dK kvs)=>match q8m y with
   |some k=>match valP kvs k with
    |some v=>Q v S
    |none=>False
   |none=>False
  |_=>False:=rfl
end My
namespace L2
open PySem PySem.Spec PyProof.Rows
def Cx.nx(X:Cx):Cx:={X with xe:=fun _ _=>False}
def Cx.hd(X:Cx)(e:Q0u):Cx:={X with A:=X.A.mark (some (.ref e)),calm:=false,xe:=fun _ _=>False}
section
variable{X:Cx}{pins:List (Q0u×Obj)}{σ:St}{H H':Hp}{s:Q0d}
theorem Inv.nx(I:Inv X pins σ H s):Inv X.nx pins σ H s:=
 ⟨⟨I.ok.mod,I.ok.kind,I.ok.glob,I.ok.blt,I.ok.above,I.ok.inj,I.ok.has,I.ok.cab,I.ok.hd,I.ok.frames,I.ok.stk,I.ok.exf,I.ok.bs,I.ok.bsz,I.ok.noex,I.ok.exfs,I.ok.funs,I.ok.frf⟩,I.os,I.bare,I.base,I.loc,I.cell,I.free,I.freeC,I.pin,I.hok,I.len⟩
theorem Inv.ofnx(o:X.Ok)(I:Inv X.nx pins σ H s):Inv X pins σ H s:=⟨o,I.os,I.bare,I.base,I.loc,I.cell,I.free,I.freeC,I.pin,I.hok,I.len⟩
theorem SP.imp{Y:Cx}{D:Ends}{f:Flow}(i:∀σ H s,Inv Y pins σ H s->Inv X pins σ H s)(h:SP Y pins D f s):SP X pins D f s:=by
 unfold SP at *
 cases f with
 |next=>obtain⟨a,b,c,d⟩:=h;exact⟨a,b,i _ _ _ c,d⟩
 |brk=>obtain⟨a,b,c,d⟩:=h;exact⟨a,b,i _ _ _ c,d⟩
 |cont=>obtain⟨a,b,c,d⟩:=h;exact⟨a,b,i _ _ _ c,d⟩
 |ret u=>obtain⟨v,a,b,c,d⟩:=h;exact⟨v,a,b,i _ _ _ c,d⟩
end
abbrev TEX:=St->Hp->VK->XK->Prop
abbrev XC:=Q0b->St->Hp->Prop
abbrev TSX:=Ends->XC->St->Hp->Prop
section
variable{X:Cx}{k:Nat}{f:Q0u}{fd:Q2z}{ps:List Str}{sp:Sp}{dvs:List V}{ds:List Q0b}{x:Str}{p pos:Pos}{e:Expr}{es:List Expr}{t:TA}
end
section
variable{X:Cx}{e:Expr}{te:TEX}{pos:Pos}
end
section
variable{X:Cx}{pins:List (Q0u×Obj)}{σ:St}{H H':Hp}{s:Q0d}
end
section
variable{X:Cx}{i:Nat}{y n:Str}{yp hpos pos:Pos}{cv:Q0b}{body suite:List Q5q}{b₀:Q5q}{tb:TSX}{ts:TS}
end
end L2
namespace L2
open PySem PySem.Spec PySem.W PySem.Calls PyProof.Rows Builtin Builtin.ObjectAttr Builtin.Getset_descriptor
section
variable{K:Q2p}{D x:Q0u}{prog:Q1e}{w:Q1x}{A:Q1t}{E:Q0b->Q0d->Prop}{s:Q0d}
end
end L2
namespace Ev
open PySem L2 PySem.Spec PyProof.Rows
theorem LRel.nog{K:Q2p}{G:GX}{H:Hp}{φ:List Q0u}{σ:Loc}{σV:L2.St}(L:LRel K G H φ σ σV):LRel K NoG H φ σ σV:=⟨L.len,L.at',fun _ _ _ _ q=>q.elim⟩
section
variable{X:Cx}{G:GX}{pos:Pos}
end
section
variable{X:Cx}{G:GX}{pos:Pos}
end
section
variable{X:Cx}{G:GX}{pos:Pos}
end
section
variable{X:Cx}{G:GX}{pos:Pos}
def wIsX(w:WE)(tab:List (String×Bool)):WE:=fun σ S E Q=>w σ S E fun v S1=>match v with
 |.exc c=>(match tab.lookup c with
  |some b=>Q (.bl b) S1
  |none=>False)
 |_=>False
end
section
variable{X:Cx}{G:GX}{pos:Pos}
end
section
variable{X:Cx}{G:GX}{pos:Pos}
end
end Ev
namespace Ev
open PySem PySem.Spec PyProof.Rows L2
open PySem.AutoSeq1 (wpAny_loadPart')
section
variable{X:Cx}
end
section
variable{prog:Q1e}{w:Q1x}{A:Q1t}{E:Q0b->Q0d->Prop}{s:Q0d}{r:Q0u}{n:Int}{t u v:Tok}{Q:Q0b->Q0d->Prop}
end
section
variable{X:Cx}{G:GX}{pos:Pos}
end
section
variable{X:Cx}{G:GX}{pos:Pos}{a:Expr}{ta:TE}{wa:WE}
end
section
variable{X:Cx}
end
section
variable{X:Cx}
end
section
variable{X:Cx}{G:GX}{pos:Pos}
theorem y0y:bootBuiltins (Q0j "enumerate")=some (.type "enumerate"):=by with_unfolding_all rfl
def enmP(k:Int):List PV->List PV
 |[]=>[]
 |x::xs=>.tup [.int k,x]::enmP (k+1) xs
theorem z3v:∀{xs:List PV}{k:Int}{i:Nat}{z:PV},(enmP k xs)[i]?=some z->∃x,xs[i]?=some x/\z=.tup [.int (k+i),x]
 |[],_,_,_,h=>by simp[enmP]at h
 |x::xs,k,0,z,h=>by simp[enmP]at h;subst h;exact⟨x,by simp,by simp⟩
 |x::xs,k,i+1,z,h=>by
  simp only[enmP,Z0z]at h
  obtain⟨y,h1,h2⟩:=z3v h
  exact⟨y,by simpa using h1,by rw[h2,show k+1+(i:Int)=k+((i+1:Nat):Int) by omega]⟩
theorem z3u:∀(xs:List PV)(k:Int),(enmP k xs).length=xs.length
 |[],_=>rfl
 |x::xs,k=>by simp[enmP,z3u xs]
end
end Ev
namespace L2
open PySem PySem.Spec PyProof.Rows
section
variable{X:Cx}{tg iter kx vx:Expr}{scope:Q5b}{pos:Pos}{N':List Str}{ix:List (Option Nat)}{wi:TI}
end
end L2
namespace Ev
open PySem PySem.Spec PyProof.Rows L2
section
variable{X:Cx}{G:GX}{pos:Pos}
end
section
variable{X:Cx}
end
def valN{β:Type}(kvs:List (KTr×β))(k:KTr):Option β:=(kvs.find? fun p=>decide (p.1=k)).map (·.2)
def putN{β:Type}(kvs:List (KTr×β))(k:KTr)(v:β):List (KTr×β):=if(valN kvs k).isSome then kvs.map (fun p=>if p.1=k then(p.1,v)else p)else kvs++[(k,v)]
theorem q1y{β:Type}(p:KTr×β)(r:List (KTr×β))(k:KTr):valN (p::r) k=if p.1=k then some p.2 else valN r k:=by
 unfold valN
 rw[Q2y]
 by_cases h:p.1=k
 ·rw[if_pos h,decide_eq_true h];rfl
 ·rw[if_neg h,decide_eq_false h]
theorem y1j{β:Type}(kvs:List (KTr×β))(k k':KTr)(v:β):valN (kvs.map (fun p=>if p.1=k then(p.1,v)else p)) k'=if k'=k then(if(valN kvs k).isSome then some v else none)else valN kvs k':=by
 induction kvs with
 |nil=>simp[valN]
 |cons p r ih=>
  rw[Q0v,q1y,ih,q1y,q1y]
  by_cases h:p.1=k
  ·by_cases h':k'=k
   ·subst h';simp[h]
   ·have:¬k=k':=fun z=>h' z.symm
    simp[h,h',this]
  ·by_cases h':k'=k
   ·subst h';simp[h]
   ·by_cases h'':p.1=k'<;>simp[h,h',h'']
theorem y1k{β:Type}(kvs:List (KTr×β))(k k':KTr)(v:β)(h:valN kvs k=none):valN (kvs++[(k,v)]) k'=if k'=k then some v else valN kvs k':=by
 induction kvs with
 |nil=>
  by_cases h':k'=k
  ·subst h';simp[valN]
  ·have:¬k=k':=fun z=>h' z.symm
   simp[valN,h',this]
 |cons p r ih=>
  rw[q1y]at h
  by_cases hp:p.1=k
  ·rw[if_pos hp]at h;cases h
  ·rw[if_neg hp]at h
   rw[Q9j,q1y,ih h,q1y]
   by_cases h':k'=k
   ·subst h';simp[hp]
   ·simp[h']
theorem q7w{β:Type}(kvs:List (KTr×β))(k k':KTr)(v:β):valN (putN kvs k v) k'=if k'=k then some v else valN kvs k':=by
 unfold putN
 by_cases h:(valN kvs k).isSome
 ·rw[if_pos h,y1j,if_pos h]
 ·rw[if_neg h]
  exact y1k kvs k k' v (by simpa using h)
theorem z3h{β:Type}(kvs:List (KTr×β))(k:KTr)(v:β):(putN kvs k v).length<=kvs.length+1:=by
 unfold putN
 split<;>simp
section
variable{P:Q1e}{w:Q1x}{κ:Type} [DecidableEq κ] {knd:HeapKind P w κ} {A:Q1t} {E:Q0b->Q0d->Prop} {s:Q0d}
def _root_.PySem.Heap.DictEp(h:Q1h)(knd:HeapKind P w κ)(a:Q0u)(xs:List (κ×Q0u×Q0b))(ep:Nat):Prop:=
 ∃o es,h.get? a=some o/\o.ExactDict/\o.data=.dict es ep/\es.toList=xs.map (entryOfKey knd)/\(∀x∈xs,knd.is h x.1 x.2.1)/\(xs.map (·.1)).Nodup
theorem _root_.PySem.Heap.DictEp.dictOf{h:Q1h}{a:Q0u}{xs:List (κ×Q0u×Q0b)}{ep:Nat}(x:h.DictEp knd a xs ep):h.DictOfH knd a xs:=by
 obtain⟨o,es,r⟩:=x
 exact⟨o,es,ep,r⟩
theorem z1l(xs:List (κ×Q0u×Q0b))(k:κ)(a:Q0u)(v:Q0b):(storedH xs k a v).length=xs.length+if(atKey xs k).isSome then 0 else 1:=by
 unfold storedH
 by_cases h:(atKey xs k).isSome=true
 ·rw[if_pos h,if_pos h,Q0q];rfl
 ·rw[if_neg h,if_neg h,Q0x];rfl
theorem x0w{d a:Q0u}{xs:List (κ×Q0u×Q0b)}{ep:Nat}{k:κ}{v:Q0b}{Q:Unit->Q0d->Prop}(hu:knd.room A.in1)(hk:knd.is s.heap k a)(hm:s.heap.DictEp knd d xs ep)(hz:xs.length<=Q0l)
  (hQ:∀h' ep',ep'+xs.length=ep+(storedH xs k a v).length->h'.DictEp knd d (storedH xs k a v) ep'->Q1h.SameBut d s.heap h'->Q () {s with heap:=h',toks:=s.toks+knd.draws k}) :
  Q1d (model P w) A (setItem (.ref d) (.ref a) v) Q E s:=by
 have hT:=hm.dictOf.typeIs (s:=s)
 obtain⟨o,es,ho,hc,hd,he,his,hn⟩:=hm
 unfold setItem
 try with_reducible refine Q2e ?_
 refine Q0a (Z5a hT (by decide) (Q0a (Q2v (name:= "__setitem__") hT Z5i (Q2n Z5i hT entry_dict_setitem ?_ (args_dict_setitem _ _ _)))))
 show Q1d _ _ (Q1g.Dict.notOrdered "__setitem__" ⟨[.ref d,.ref a,v],[]⟩ >>= fun _=>dictSet d (.ref a) v >>= _) _ _ s
 refine Q0a (Z3o hT (Q0a ?_))
 unfold dictSet
 try with_reducible refine Q2e ?_
 refine Q0a (knd.pyHash hu hk ?_)
 unfold dictSetHashed
 try with_reducible refine Q2e ?_
 have fin:∀(h':Q1h)(o':Obj)(es':Array Z1c)(ep':Nat),Q1h.SameBut d s.heap h'->h'.get? d=some o'->o'.ExactDict->o'.data=.dict es' ep'->es'.toList=(storedH xs k a v).map (entryOfKey knd)->((storedH xs k a v).map (·.1)).Nodup->
   (∀x∈storedH xs k a v,knd.is s.heap x.1 x.2.1)->ep'+xs.length=ep+(storedH xs k a v).length->Q () {s with heap:=h',toks:=s.toks+knd.draws k}:=fun h' o' es' ep' sb g1 g2 g3 g4 g5 g6 g7=>
  hQ h' ep' g7 ⟨o',es',g1,g2,g3,g4,fun x hx=>knd.keeps (g6 x hx) ho hd sb,g5⟩ sb
 have ln:=z1l xs k a v
 refine Q0a (wpAny_dictFind_heap (s:={s with toks:=s.toks+knd.draws k}) hu hk ho hd he his hn ?_ ?_)
 ·intro no
  have e0:=atKey_none_of_get no
  have e1:=storedH_new (a:=a) (v:=v) e0
  rw[e0]at ln
  refine Q0a (Q3p (wpAny_updateDictKeys (s:={s with toks:=s.toks+knd.draws k}) ho hd ?_ (hz:=by rw[size_of_entries he];exact hz)))
  refine Q0f ⟨.none,rfl,Q0f (fin _ _ _ (ep+1) (Q1h.SameBut.update ..) (Q1h.get?_update_self _ ho (Z2p (Z2b hd _))) (hc.mapDictKeys _) (Z2b hd _) ?_ ?_ ?_ ?_)⟩
  ·rw[e1];simp[he,entryOfKey]
  ·rw[e1,Q1w,Q2t]
   refine⟨hn,by simp,fun x hx y hy z=>?_⟩
   rw[Q0v,Q6b,Q0i]at hy
   have hy':y=k:=hy
   subst hy' z
   exact not_mem_keys_of_get no hx
  ·rw[e1]
   intro x hx
   rcases Q0n.mp hx with hx|hx
   ·exact his x hx
   ·rw[Q0i.mp hx];exact hk
  ·rw[ln];simp;omega
 ·intro j p hj
  have e0:=atKey_of_get hn hj
  have e1:=storedH_old (a:=a) (v:=v) e0
  rw[e0]at ln
  refine Q0a (Q3p (Q0a (wpAny_updateDict (s:={s with toks:=s.toks+knd.draws k}) ho hd (wpAny_point ?_))))
  refine Q0f ⟨.none,rfl,Q0f (fin _ _ _ ep (Q1h.SameBut.update ..) (Q1h.get?_update_self _ ho (Z2p (Z3y hd _))) (hc.mapDict _) (Z3y hd _) ?_ ?_ ?_ ?_)⟩
  ·rw[e1]
   have e2:=modify_map_putAt (entryOfKey knd) (fun e:Z1c=>{e with val:=v}) k v (fun _ _=>rfl) hn hj
   rw[<-he]at e2
   cases es
   simpa using e2
  ·rw[e1,keys_map_putAt];exact hn
  ·rw[e1]
   intro x hx
   obtain⟨y,hy,rfl⟩:=Q0p.mp hx
   unfold putAt
   split<;>exact his y hy
  ·rw[ln];simp
end
section
variable{X:Cx}{G:GX}{pos:Pos}{pins:List (Q0u×Obj)}{σ:L2.St}{H:Hp}{s:Q0d}{φ:List Q0u}
mutual
theorem z7r(I:Inv X pins σ H s):∀(k:KTr)(x:V)(u:Q0b),RV X.K H φ (ktP k) x->RelV x u->TrA s.heap k u
 |.int i,x,u,r,q=>by cases(show x=.int i from r);exact q
 |.str z,x,u,r,q=>by cases(show x=.str z from r);exact q
 |.tup ks,x,u,r,q=>by
  obtain⟨a,vs,rfl,sa,ra⟩:=(show RV X.K H φ (.tup (ktPs ks)) x from r)
  cases(show u=Q0b.ref a from q)
  obtain⟨its,rv,p,_⟩:=I.tuple sa
  exact⟨a,its,rfl,p,y4s I ks vs its ra rv⟩
theorem y4s(I:Inv X pins σ H s):∀(ks:List KTr)(vs:List V)(us:List Q0b),RVs X.K H φ (ktPs ks) vs->Vals vs us->TrAs s.heap ks us
 |[],vs,us,r,q=>by
  rw[show vs=[]from r]at q
  cases q
  rfl
 |k::ks,vs,us,r,q=>by
  obtain⟨y,ys,rfl,r1,r2⟩:=(show ∃y ys,vs=y::ys/\RV X.K H φ (ktP k) y/\RVs X.K H φ (ktPs ks) ys from r)
  cases q with
  |cons q1 q2=>exact⟨_,_,rfl,z7r I k y _ r1 q1,y4s I ks ys _ r2 q2⟩
end
theorem z2k(I:Inv X pins σ H s){a:Q0u}{kvs:List (KTr×PV)}{c:Nat}{ws:List (KTr×Q0u×V)}(e:H a=some (.dH c ws))(r:RNs X.K H φ kvs ws) :
  ∃xs:List (KTr×Q0u×Q0b),(a==sysModules)=false/\Q2w (fun(p:KTr×Q0u×V) (q:KTr×Q0u×Q0b)=>p.1=q.1/\p.2.1=q.2.1/\RelV p.2.2 q.2.2) ws xs/\s.heap.DictEp (q3t X.prog X.w) a xs (c+ws.length):=by
 obtain⟨z,y,xs,rel,o,es,h1,h2,h3,h4,h5⟩:=(show q1e X.prog X.w H s.heap a (.dH c ws)from I.hok a _ e)
 refine⟨xs,y,rel,o,es,h1,h2,h3,h4,?_,h5⟩
 clear h3 h4 h5 z e
 induction rel generalizing kvs with
 |nil=>intro x hx;cases hx
 |@cons p q ps qs hpq t ih=>
  cases r with
  |@cons p' _ _ _ hr tr=>
   intro x hx
   rcases Q1b.mp hx with rfl|hx
   ·obtain⟨e1,e2,e3⟩:=hpq
    obtain⟨f1,⟨f2,f3⟩,f4,f5⟩:=hr
    rw[<-e1,<-f1,<-e2]
    exact⟨f2,f3,z7r I _ _ _ f4 rfl⟩
   ·exact ih tr x hx
theorem y9g{kvs:List (KTr×PV)}{ws:List (KTr×Q0u×V)}{xs:List (KTr×Q0u×Q0b)}(r:RNs X.K H φ kvs ws)(q:Q2w (fun(p:KTr×Q0u×V) (q:KTr×Q0u×Q0b)=>p.1=q.1/\p.2.1=q.2.1/\RelV p.2.2 q.2.2) ws xs){k:KTr}{v:PV}(h:valN kvs k=some v) :
  ∃p w,atKey xs k=some p/\RV X.K H φ v w/\RelV w p.2:=by
 induction r generalizing xs with
 |nil=>simp[valN]at h
 |@cons p q' ps qs hpq t ih=>
  cases q with
  |@cons _ q'' _ qs' hq tq=>
   obtain⟨e1,_,_,e4⟩:=hpq
   obtain⟨f1,f2,f3⟩:=hq
   rw[q1y]at h
   unfold atKey
   rw[Q2y]
   by_cases hk:p.1=k
   ·rw[if_pos hk]at h
    cases h
    rw[decide_eq_true (show q''.1=k by rw[<-f1,<-e1];exact hk)]
    exact⟨q''.2,q'.2.2,rfl,e4,f3⟩
   ·rw[if_neg hk]at h
    rw[decide_eq_false (show ¬q''.1=k by rw[<-f1,<-e1];exact hk)]
    exact ih tq h
def bIxN:F2:=fun x y S Q=>∃n kvs k v,x=.ref n/\S[n]?=some (.dN kvs)/\y=ktP k/\((∃ys,k=.tup ys)/\kdep k<=8)/\valN kvs k=some v/\Q v S
theorem x6h(hu:X.A.units+200<cLine):IxR X (q2n X.K bIxN):=by
 rintro value slice pins s σ H x y v u Q I rx ry ⟨φ,S,px,py,Q0,R,hx,hy,h,k⟩ hs
 obtain⟨n,kvs,kk,pv,rfl,e,rfl,⟨⟨ys,ek⟩,hd⟩,ev,q⟩:=h
 obtain⟨a,rfl,qa⟩:=hx
 cases rx
 obtain⟨c,ws,ea,ra⟩:=R.obj n a _ qa e
 obtain⟨xs,hsys,rel,dde⟩:=z2k I ea ra
 have dd:=dde.dictOf
 obtain⟨p,w,hp,rw1,rw2⟩:=y9g ra rel ev
 have ht:=z7r I kk _ _ hy ry
 obtain⟨b,rfl⟩:∃b,u=.ref b:=by subst ek;obtain⟨b,_,e,_⟩:=ht;exact⟨b,e⟩
 refine Q6w dd.typeIs Q6m.lookup (Z4r (knd:=q3t X.prog X.w) (show X.A.in1.units+8<cLine by rw[q2z];omega) ⟨⟨ys,ek⟩,hd,ht⟩ dd hp ?_) hs
 exact⟨w,H,I.tok _,rw2,k _ S φ H _ q (Q0h _) (.refl _) R rw1⟩
theorem y6r{a b:Expr}{wa wb:WE}(hu:X.A.units+200<cLine)(ha:SimE X G a wa)(hb:SimE X G b wb)(hs:q8y b:=by exact fun _ _=>rfl):SimE X G (.Subscript a b pos) (wBin bIxN wa wb):=(y7t (x6h hu) ha hb hs).imp fun _ _ _ h=>q3v h
theorem z9z{kvs:List (KTr×PV)}{ws:List (KTr×Q0u×V)}{xs:List (KTr×Q0u×Q0b)}(r:RNs X.K H φ kvs ws)(q:Q2w (fun(p:KTr×Q0u×V) (q:KTr×Q0u×Q0b)=>p.1=q.1/\p.2.1=q.2.1/\RelV p.2.2 q.2.2) ws xs)(k:KTr):(atKey xs k).isSome=(valN kvs k).isSome:=by
 induction r generalizing xs with
 |nil=>cases q;rfl
 |@cons p q' ps qs hpq t ih=>
  cases q with
  |@cons _ q'' _ qs' hq tq=>
   obtain⟨e1,_,_,e4⟩:=hpq
   obtain⟨f1,f2,f3⟩:=hq
   have:=ih tq
   rw[q1y]
   unfold atKey at this ⊢
   rw[Q2y]
   by_cases hk:p.1=k
   ·rw[if_pos hk,decide_eq_true (show q''.1=k by rw[<-f1,<-e1];exact hk)]
    rfl
   ·rw[if_neg hk,decide_eq_false (show ¬q''.1=k by rw[<-f1,<-e1];exact hk)]
    exact this
theorem Q2w.app{α β:Type}{F:α->β->Prop}{l:List α}{m:List β}{a:α}{b:β}(h:Q2w F l m)(r:F a b):Q2w F (l++[a]) (m++[b]):=by
 induction h with
 |nil=>exact .cons r .nil
 |cons r' _ ih=>exact .cons r' ih
theorem Q2w.maps{α β:Type}{F:α->β->Prop}{f:α->α}{g:β->β}{l:List α}{m:List β}(h:Q2w F l m)(r:∀a b,F a b->F (f a) (g b)):Q2w F (l.map f) (m.map g):=by
 induction h with
 |nil=>exact .nil
 |cons r' _ ih=>exact .cons (r _ _ r') ih
theorem z4p{kvs:List (KTr×PV)}{ws:List (KTr×Q0u×V)}{xs:List (KTr×Q0u×Q0b)}(r:RNs X.K H φ kvs ws)(q:Q2w (fun(p:KTr×Q0u×V) (q:KTr×Q0u×Q0b)=>p.1=q.1/\p.2.1=q.2.1/\RelV p.2.2 q.2.2) ws xs){k:KTr}{b:Q0u}{pv:PV}{v:V}{u:Q0b}
  (hk:(∃ys,k=.tup ys)/\kdep k<=8) (rk:RV X.K H φ (ktP k) (.ref b)) (rv:RV X.K H φ pv v) (ru:RelV v u) :
  ∃ws',Q2w (fun(p:KTr×Q0u×V) (q:KTr×Q0u×Q0b)=>p.1=q.1/\p.2.1=q.2.1/\RelV p.2.2 q.2.2) ws' (storedH xs k b u)/\RNs X.K H φ (putN kvs k pv) ws'/\ws'.length<=ws.length+1/\ws.length<=ws'.length:=by
 have hh:=z9z r q k
 unfold storedH putN
 by_cases h:(valN kvs k).isSome=true
 ·rw[if_pos h,if_pos (hh.trans h)]
  refine⟨ws.map (fun p=>if p.1=k then(p.1,p.2.1,v)else p),Q2w.maps q ?_,Q2w.maps r ?_,by simp,by simp⟩
  ·rintro a c ⟨e1,e2,e3⟩
   unfold putAt
   by_cases z:a.1=k
   ·rw[if_pos z,if_pos (e1▸z)];exact⟨e1,e2,ru⟩
   ·rw[if_neg z,if_neg (e1▸z)];exact⟨e1,e2,e3⟩
  ·rintro a c ⟨e1,e2,e3,e4⟩
   by_cases z:a.1=k
   ·rw[if_pos z,if_pos (e1▸z)];exact⟨e1,e2,e3,rv⟩
   ·rw[if_neg z,if_neg (e1▸z)];exact⟨e1,e2,e3,e4⟩
 ·rw[if_neg h,if_neg (hh▸h)]
  exact⟨ws++[(k,b,v)],Q2w.app q ⟨rfl,rfl,ru⟩,Q2w.app r ⟨rfl,hk,rk,rv⟩,by simp,by simp⟩
def z7q:FS:=fun o i v S Q=>∃n k kvs,o=.ref n/\i=ktP k/\((∃ys,k=.tup ys)/\kdep k<=8)/\(S[n]?=some (.dN kvs)\/(S[n]?=some (.dK [])/\kvs=[]))/\kvs.length<Q0l/\Q (S.set n (.dN (putN kvs k v)))
theorem x0v(hu:X.A.units+200<cLine):PSet X (z9k X.K z7q):=by
 rintro pins s σ H o i v ov iv u Q I ro ri rv ⟨φ,S,po,pi,pv,Q0,R,ho,hi,hv,h,k⟩
 obtain⟨n,kk,kvs,rfl,rfl,hk,hS,hz,q⟩:=h
 obtain⟨a,rfl,qa⟩:=ho
 cases ro
 have ht:=z7r I kk _ _ hi ri
 obtain⟨b,rfl⟩:∃b,iv=.ref b:=by obtain⟨⟨ys,ek⟩,_⟩:=hk;subst ek;obtain⟨b,_,e,_⟩:=ht;exact⟨b,e⟩
 have hib:i=.ref b:=by
  obtain⟨⟨ys,ek⟩,_⟩:=hk
  subst ek
  obtain⟨a',vs,rfl,_⟩:=(show RV X.K H φ (.tup (ktPs ys)) i from hi)
  cases(show Q0b.ref b=Q0b.ref a' from ri)
  rfl
 subst hib
 have hu':X.A.in1.units+8<cLine:=by rw[q2z];omega
 have main:∀(c:Nat)(ws:List (KTr×Q0u×V))(xs:List (KTr×Q0u×Q0b))(mo:∀ys,Mono H (upd H a (.dH c ys))),Mut (H a)->RNs X.K H φ kvs ws->(a==sysModules)=false->Q2w (fun(p:KTr×Q0u×V) (q:KTr×Q0u×Q0b)=>p.1=q.1/\p.2.1=q.2.1/\RelV p.2.2 q.2.2) ws xs->s.heap.DictEp (q3t X.prog X.w) a xs (c+ws.length)->
   Q1d (model X.prog X.w) X.A (setItem (.ref a) (.ref b) u) (fun _ s'=>∃H',Inv X pins σ H' s'/\Q H') X.xe s:=by
  intro c ws xs mo mu ra hsys rel dd
  have l1:kvs.length=ws.length:=Q2w.length ra
  have l2:ws.length=xs.length:=Q2w.length rel
  refine x0w (knd:=q3t X.prog X.w) hu' ⟨hk.1,hk.2,ht⟩ dd (by omega) fun h' ep' hep dd' hs=>?_
  obtain⟨ws',g1,g2,g3,g4⟩:=z4p ra rel hk hi hv rv
  obtain⟨o,es,hq,h2,h3,h4,_,h5⟩:=dd'
  have l3:=Q2w.length g1
  rw[show ep'=c+ws'.length by omega]at h3
  refine⟨upd H a (.dH c ws'),y0p I mu hs ⟨o,hq⟩ ⟨by omega,hsys,_,g1,o,es,hq,h2,h3,h4,h5⟩,k _ _ q (mo _) (R.put (o:=.dN (putN kvs kk pv)) qa (mo _) ⟨c,ws',q0u,RNs.mono (mo _) (Q0h _) g2⟩)⟩
 rcases hS with e|⟨e,rfl⟩
 ·obtain⟨c,ws,ea,ra⟩:=R.obj n a _ qa e
  obtain⟨xs,hsys,rel,dd⟩:=z2k I ea ra
  exact main c ws xs (fun _=>.dicH ea) (by rw[ea];trivial) ra hsys rel dd
 ·obtain⟨ws,ea,ra⟩:=R.obj n a _ qa e
  cases ra
  obtain⟨_,hsys,vs,rel,o,es,ep,h1,h2,h3,h4,h5⟩:=(show q1e X.prog X.w H s.heap a (.dK [])from I.hok a _ ea)
  cases rel
  have he:es.toList=[]:=by
   generalize es.toList=l at h5
   cases h5.1
   rfl
  exact main ep [] [] (fun _=>.dict ea) (by rw[ea];trivial) .nil hsys .nil ⟨o,es,h1,h2,h3,he,fun x hx=>(by cases hx),Z0j⟩
end
end Ev
namespace L2
open PySem PySem.Spec PyProof.Rows
section
variable{X:Cx}{tg iter kx vx:Expr}{scope:Q5b}{pos:Pos}{N':List Str}{ix:List (Option Nat)}{wi:TI}{g:TG}{tk tv:TE}
end
end L2
namespace Ev
open PySem PySem.Spec PyProof.Rows L2
section
variable{X:Cx}{G:GX}{pos:Pos}
end
section
variable{X:Cx}{G:GX}{pos:Pos}
def z1h:WE:=fun _ S _ Q=>Q (.ref S.length) (S++[.dK []])
theorem y1x:SimE X G (.Dict [] [] pos) z1h:=
 (y2t (X:=X) (pos:=pos)).imp fun σV H Q hh1=>by obtain⟨φ,σ,S,Q0,L,R,h,k⟩:=hh1;exact(fun p hp=>
  have R2:Rel X.K (φ++[p]) (S++[.dK []]) (upd H p (.dK [])):=R.new (o:=.dK []) hp ⟨[],q0u,.nil⟩
  k _ _ _ _ _ h (Q6q _ _) (.new _ hp) R2 ⟨p,rfl,by rw [<-R.len,Q2u (Q0k _)];simp⟩)
end
end Ev
namespace L2
open PySem PySem.Spec PyProof.Rows
section
variable{X:Cx}{tg iter kx vx:Expr}{scope:Q5b}{pos:Pos}{N':List Str}{ix:List (Option Nat)}{wi:TI}{g:TG}{tk tv:TE}
end
end L2
namespace Ev
open PySem PySem.Spec PyProof.Rows L2
section
variable{X:Cx}{G:GX}{pos:Pos}
end
section
variable{X:Cx}{G:GX}{pos:Pos}
end
section
variable{X:Cx}{G:GX}{pos:Pos}
theorem q4h:∀{its:List Q0b}{ns:List Int},Z2l its ns->Vals (ns.map V.int) its
 |_,_,.nil=>.nil
 |_,_,.cons n t h=>.cons ⟨t,rfl⟩ (q4h h)
theorem q4d:bootBuiltins "sorted" = some (.builtin "sorted"):=by kernel_rfl
end
section
variable{P:Q1e}{w:Q1x}{A:Q1t}{E:Q0b->Q0d->Prop}{s:Q0d}{it d:Q0u}{i ep:Nat}{od:Obj}{es:Array Z1c}
theorem y3o{Q:Q0b->Q0d->Prop}(hd:(d==sysModules)=false)(hT:s.TypeIs (.ref d) "dict")(ho:s.heap.get? d=some od)(hdd:od.data=.dict es ep)
  (hQ:Q (.ref s.heap.objs.size) {s with heap:=s.heap.push {cls:=.type "dict_keyiterator",data:=.fields #[.ref d,.int 0 0,.int es.size 0,.int ep 0]}}):Q1d (model P w) A (pyIter (.ref d)) Q E s:=by
 refine Z5j hT Z0k (Q2n Z0k hT PySem.F.entry_dict_iter ?_ (PySem.F.args_dict_iter_1 _))
 unfold Q1g.«dict.__iter__» Q1g.Dict.dictSlotNone
 refine Q0a (Q0a (Z3o hT ?_))
 show Q1d _ _ (pure (Q0b.ref d)) _ _ s
 apply Q0f
 show Q1d _ _ (Q1g.Dict.showsAll d >>= _) _ _ s
 rw[show Q1g.Dict.showsAll d=pure () by unfold Q1g.Dict.showsAll;rw[hd];rfl]
 refine Q0a (Q0f (Q0a (Q9z ho hdd (Q0a (Z1h ho hdd ?_)))))
 exact Q0a (Q2k (Q0f ⟨_,rfl, "dict_keyiterator",_,⟨_,Q0w _ rfl,rfl⟩,Q2m.lookup,hQ⟩))
theorem y3b{Q:Option Q0b->Q0d->Prop}(hit:s.heap.IsKeyIter it d i es.size ep)(hod:s.heap.get? d=some od)(hdd:od.data=.dict es ep)(hi:i<es.size)
  (hQ:∀h',h'.IsKeyIter it d (i+1) es.size ep->Q1h.SameBut it s.heap h'->Q (some es[i].key) {s with heap:=h' }):Q1d (model P w) A (pyNext (.ref it)) Q E s:=by
 have hT:=hit.typeIs
 obtain⟨o,ho,hc,hf⟩:=hit
 unfold pyNext
 refine Q0a (Q5z (Q2v (name:= "__next__") hT Q2m (Q2n Q2m hT Q7w ?_ (Q7t _))))
 refine Q0a (Q0f (Q0a (Q0a ?_)))
 first|refine Q0a (Q4s hT (Q0f ?_))|refine Q0a (Q5u hT (Q0f ?_))
 refine Q0a (wpAny_fieldsOf ho hf ?_)
 simp only[show Q1g.Dict_items.ownsTuple "dict_keyiterator" = false by decide,Q1j,if_false]
 show Q1d _ _ (if(Q0b.ref d==Q0b.none)=true then _ else _) _ _ s
 rw[if_neg (by exact Q2o)]
 refine Q0a (Q0f (Q0a (Q9z hod hdd ?_)))
 rw[if_neg (by simp)]
 refine Q0a (Q0f (Q0a (Z1h hod hdd ?_)))
 rw[if_neg (by simp)]
 apply Q0f
 simp only[show ¬((i:Int)<0) by omega,if_false,Q2i,Q4d hi]
 apply Q0a
 first|refine Q0a (Q4s hT (Q0f ?_))|refine Q0a (Q5u hT (Q0f ?_))
 refine Q0a (Z3p hT ?_)
 show Q1d _ _ (setField (.ref it) 1 (rawInt ((i:Int)+1)) >>= _) _ _ s
 refine Q0a (Q5n ho hf (by simp) ?_)
 have k:(s.heap.update it (Q5s (·.setIfInBounds 1 (rawInt ((i:Int)+1))))).IsKeyIter it d (i+1) es.size ep:=
  ⟨_,Q1h.get?_update_self _ ho (Q4w (Q3q hf _)),(Q9g ..).trans hc,by rw[Q3q hf];simp[rawInt]⟩
 refine Q0a (Q2e (Q0a (Z3p (s:={s with heap:=s.heap.update it (Q5s (·.setIfInBounds 1 (rawInt ((i:Int)+1))))}) k.typeIs ?_)))
 show Q1d _ _ (pure es[i].key) _ _ _
 exact Q0f (Q0f ⟨_,rfl,Q0f (hQ _ k (Q1h.SameBut.update ..))⟩)
theorem y1o{Q:Option Q0b->Q0d->Prop}(hh:A.handled=none)(hit:s.heap.IsKeyIter it d i es.size ep)(hod:s.heap.get? d=some od)(hdd:od.data=.dict es ep)(hi:es.size<=i)
  (hQ:∀h',Q1h.ExtBut it s.heap h'->Q none {s with heap:=h' }):Q1d (model P w) A (pyNext (.ref it)) Q E s:=by
 have hT:=hit.typeIs
 obtain⟨o,ho,hc,hf⟩:=hit
 unfold pyNext
 refine Q0a (Q5z (Q2v (name:= "__next__") hT Q2m (Q2n Q2m hT Q7w ?_ (Q7t _))))
 refine Q0a (Q0f (Q0a (Q0a ?_)))
 first|refine Q0a (Q4s hT (Q0f ?_))|refine Q0a (Q5u hT (Q0f ?_))
 refine Q0a (wpAny_fieldsOf ho hf ?_)
 simp only[show Q1g.Dict_items.ownsTuple "dict_keyiterator" = false by decide,Q1j,if_false]
 show Q1d _ _ (if(Q0b.ref d==Q0b.none)=true then _ else _) _ _ s
 rw[if_neg (by exact Q2o)]
 refine Q0a (Q0f (Q0a (Q9z hod hdd ?_)))
 rw[if_neg (by simp)]
 refine Q0a (Q0f (Q0a (Z1h hod hdd ?_)))
 rw[if_neg (by simp)]
 apply Q0f
 simp only[show ¬((i:Int)<0) by omega,if_false,Q2i,Array.getElem?_eq_none hi]
 apply Q0a
 first|refine Q0a (Q4s hT (Q0f ?_))|refine Q0a (Q5u hT (Q0f ?_))
 show Q1d _ _ (setField (.ref it) 0 .none >>= _) _ _ s
 refine Q0a (Q5n ho hf (by simp) ?_)
 show Q1d _ _ (newExc (.type "StopIteration") [] >>= _) _ _ _
 apply Q0a
 simp only[newExc,newTuple]
 refine Q0a (Q2k ?_ (by size_fits))
 refine Q0a (m:=firstArgMember _ _) (wpAny_of_eq (a:=Q0b.none) (by first|rfl|(simp only[firstArgMember];rfl)) (Q2k ?_ (by size_fits)))
 simp only[raiseNew]
 refine Q0a (wpAny_handled ?_)
 rw[show A.in1.handled=none from hh]
 refine Q0a (Q0f (wpAny_throw ?_))
 refine Q0a (Q8d (T:= "StopIteration") (b:=true) ⟨_,Q0w _ rfl,rfl⟩ Z1v ?_)
 exact Q0f (hQ _ (((Q1h.SameBut.update ..).extBut.push _).push _))
end
section
variable{X:Cx}{G:GX}{pos:Pos}
end
end Ev
namespace L2
open PySem PySem.Spec PyProof.Rows
def Cx.in2(X:Cx):Cx:={X with A:=X.A.in1.in1,xe:=fun _ _=>False}
theorem Cx.Ok.in2{X:Cx}(o:X.Ok):X.in2.Ok:=⟨o.mod,o.kind,o.glob,o.blt,o.above,o.inj,o.has,o.cab,o.hd,o.frames,o.stk,o.exf,o.bs,o.bsz,o.noex,o.exfs,o.funs,o.frf⟩
section
variable{X:Cx}{pins:List (Q0u×Obj)}{σ:St}{H:Hp}{s:Q0d}
theorem Inv.in2(I:Inv X pins σ H s):Inv X.in2 pins σ H s:=⟨I.ok.in2,I.os,I.bare,I.base,I.loc,I.cell,I.free,I.freeC,I.pin,I.hok,I.len⟩
theorem Inv.out2(o:X.Ok)(I:Inv X.in2 pins σ H s):Inv X pins σ H s:=⟨o,I.os,I.bare,I.base,I.loc,I.cell,I.free,I.freeC,I.pin,I.hok,I.len⟩
theorem Inv.adopt{h':Q1h}{t':Nat}{D kS:Q0u}{ys:List V}(I:Inv X pins σ H s)(fD:FpOk X pins H D)(fk:FpOk X pins H kS)(k:∀b o,b≠D->b≠kS->s.heap.get? b=some o->h'.get? b=some o)
  (hk:∃o,h'.get? kS=some o) (new:q1e X.prog X.w (upd H D (.lst ys)) h' D (.lst ys)):Inv X pins σ (upd H D (.lst ys)) {s with heap:=h',toks:=t' }:=by
 have nD:∀b u,H b=some u->b≠D:=fun b u e z=>by rw[z,fD.1]at e;cases e
 have nk:∀b u,H b=some u->b≠kS:=fun b u e z=>by rw[z,fk.1]at e;cases e
 have cs:∀b,b∉[D,kS]->b≠D/\b≠kS:=fun b hb=>⟨fun z=>hb (by simp[z]),fun z=>hb (by simp[z])⟩
 refine I.step (g':=s.gens) (d':=s.drawn) (ch:=[D,kS]) (fun b hb=>?_) (fun b o _ _ hc e _=>k b o (cs b hc).1 (cs b hc).2 e) (fun b o _ _ hc e _=>⟨o.slots,k b o (cs b hc).1 (cs b hc).2 e⟩) (fun b o hc _ n=>by rw[q0g (cs b hc).1];exact n)
  (fun b o hc e=>⟨o,k b o (cs b hc).1 (cs b hc).2 e⟩) (fun b xs e=>by rw[q0g (nD _ _ e)];exact e) (fun b o u e=>by rw[q0g (nD _ _ e)];exact e) (fun b ps e=>⟨#[],by rw[q0g (nD _ _ e),e];simp⟩) (fun m hm=>?_) (fun b u e=>?_) I.bare
 ·rcases Q1b.mp hb with e|hb
  ·subst e;exact⟨fD.2.2.2.1,fD.2.1,fD.2.2.2.2.1,fD.2.2.2.2.2⟩
  ·obtain rfl:=Q0i.mp hb;exact⟨fk.2.2.2.1,fk.2.1,fk.2.2.2.2.1,fk.2.2.2.2.2⟩
 ·obtain⟨o,es,ep,ho,r⟩:=hm
  exact⟨o,es,ep,k _ o (Q4a fD.2.1) (Q4a fk.2.1) ho,r⟩
 ·by_cases hb:b=D
  ·subst hb;rw[q0u]at e;cases e;exact new
  ·rw[q0g hb]at e
   refine(I.hok b u e).stay (fun c v hc q=>?_) (fun c q=>by rw[q0g (nD _ _ q)];exact q) fun c xs q=>by rw[q0g (nD _ _ q)];exact q
   rcases hc with z|z
   ·rw[z]at q ⊢;exact k b v hb (nk b u e) q
   ·exact k c v (nD c _ z) (nk c _ z) q
end
end L2
namespace Ev
open PySem PySem.Spec PyProof.Rows L2
def upS(ps:List (Str×V)):Prop:=ps.Pairwise fun p q=>¬q.1.cps.toList<p.1.cps.toList
theorem q9h{x:Str}{t:Tok}:∀{vs:List Q0b}{ns:List Str},Q4l vs ns->Q4l (vs++[.str x t]) (ns++[x])
 |_,_,.nil=>.cons x t .nil
 |_,_,.cons y u h=>.cons y u (q9h h)
theorem q5m:∀{vs:List Q0b}{ns:List Str},Q4l vs ns->vs.length=ns.length
 |_,_,.nil=>rfl
 |_,_,.cons y u h=>by rw[Q1k,Q1k,q5m h]
theorem y1e{keys:List Q0b}{ks:List Str}{us:List Q0b}{xs:List V}(hk:Q4l keys ks)(r:Vals xs us):∀p∈keys.zip us,∃(x:Str)(t:Tok)(v:V),p.1=.str x t/\RelV v p.2/\(x,v)∈ks.zip xs:=by
 induction hk generalizing us xs with
 |nil=>intro p hp;simp at hp
 |@cons y u vs ns h ih=>
  intro p hp
  cases r with
  |nil=>simp at hp
  |cons r1 r2=>
   rw[Z2q]at hp
   rcases Q1b.mp hp with rfl|hp
   ·exact⟨y,u,_,rfl,r1,by simp⟩
   ·obtain⟨x,t,v,a,b,c⟩:=ih r2 p hp
    exact⟨x,t,v,a,b,by rw[Z2q];exact Q2d _ c⟩
theorem q9p{α β:Type}{F:α->β->Prop}{as cs:List α}{bs:List β}(p:cs.Perm as)(r:Q2w F as bs):∃ds,ds.Perm bs/\Q2w F cs ds:=by
 induction p generalizing bs with
 |nil=>cases r;exact⟨[],.refl _,.nil⟩
 |cons x _ ih=>
  cases r with
  |cons r1 r2=>obtain⟨ds,p1,q1⟩:=ih r2;exact⟨_::ds,.cons _ p1,.cons r1 q1⟩
 |swap x y l=>
  cases r with
  |cons r1 r2=>cases r2 with
   |cons r2 r3=>exact⟨_::_::_,.swap _ _ _,.cons r2 (.cons r1 r3)⟩
 |trans _ _ ih1 ih2=>
  obtain⟨ds,p1,q1⟩:=ih2 r
  obtain⟨es,p2,q2⟩:=ih1 q1
  exact⟨es,p2.trans p1,q2⟩
abbrev KP:Q0b×Q0b->Str×V->Prop:=fun a b=>(∃t,a.1=.str b.1 t)/\RelV b.2 a.2
theorem z4i{keys:List Q0b}{ks:List Str}{us:List Q0b}{xs:List V}(hk:Q4l keys ks)(r:Vals xs us):Q2w KP (keys.zip us) (ks.zip xs):=by
 induction hk generalizing us xs with
 |nil=>simp;exact .nil
 |@cons y u vs ns h ih=>
  cases r with
  |nil=>simp;exact .nil
  |cons r1 r2=>exact .cons ⟨⟨u,rfl⟩,r1⟩ (ih r2)
theorem q7c{α β:Type}{F:α->β->Prop}{as:List α}{bs:List β}(r:Q2w F as bs){i:Nat}{b:β}(e:bs[i]?=some b):∃a,as[i]?=some a/\F a b:=by
 induction r generalizing i with
 |nil=>simp at e
 |cons h t ih=>cases i with
  |zero=>simp at e;subst e;exact⟨_,rfl,h⟩
  |succ j=>simp at e;simpa using ih e
theorem x2b{keys:Array Q0b}{ks:List Str}{us:List Q0b}{xs:List V}(hk:Q4l keys.toList ks)(r:Vals xs us){ar:Array Q2a}(hp:ar.Perm (keys.zip us.toArray))(hs:Z6a strKind ar ar.size) :
  ∃ps:List (Str×V),ps.Perm (ks.zip xs)/\upS ps/\Vals (ps.map (·.2)) (ar.map (·.2)).toList:=by
 have hl:ar.toList.Perm (keys.toList.zip us):=by rw[<-ksk_zip];exact Array.perm_iff_toList_perm.mp hp
 obtain⟨ps,p1,p2⟩:=q9p hl (z4i hk r)
 refine⟨ps,p1,?_,?_⟩
 ·unfold upS
  rw[List.pairwise_iff_getElem]
  intro i j hi hj hij
  have ln:ar.toList.length=ps.length:=Q2w.length p2
  have hi':i<ar.size:=by rw[Q1u]at ln;omega
  have hj':j<ar.size:=by rw[Q1u]at ln;omega
  have q:=hs i j (Q6t hij) hj'
  have e:∀(n:Nat)(hn:n<ps.length)(hn':n<ar.size),KK strKind ar n=ps[n].1.cps.toList:=fun n hn hn'=>by
   obtain⟨a,ea,⟨t,et⟩,_⟩:=q7c p2 (Q0e hn)
   have ha:ar[n]=a:=by
    have:ar.toList[n]?=some ar[n]:=by simp[hn']
    rw[this]at ea
    exact Q2j ea
   exact KK_str hn' (x:=ps[n].1) (t:=t) (q:=a.2) (by rw[ha];exact Prod.ext et rfl)
  rw[e i hi hi',e j hj hj']at q
  have q':decide (ps[j].1.cps.toList<ps[i].1.cps.toList)=false:=q
  exact of_decide_eq_false q'
 ·rw[Q9h]
  clear hs hp hl p1 hk r
  generalize ar.toList=l at p2
  induction p2 with
  |nil=>exact .nil
  |cons h t ih=>exact .cons h.2 ih
section
variable{X:Cx}{pins:List (Q0u×Obj)}{σ:L2.St}{H:Hp}{s:Q0d}
theorem z3m(c:String)(xs:Array Q0b)(n:Nat):∀v,(seqObj c xs n).data≠.cell v:=fun v z=>by cases(show Data.seq xs n=Data.cell v from z)
theorem x0r{Q:Q6a->Q0d->Prop}{D kS:Q0u}{keys:Array Q0b}{us:List Q0b}{xs:List V}{ks:List Str}{e e1:Nat}{E:Q0b->Q0d->Prop}(I:Inv X.in2 pins σ H s)(fD:FpOk X.in2 pins H D)(fk:FpOk X.in2 pins H kS)(hne:kS≠D)
  (nk:s.heap.get? kS=some (seqObj "list" keys e)) (na:s.heap.get? D=some (seqObj "list" #[] e1)) (hk:Q4l keys.toList ks) (hlen:ks.length=us.length) (r:Vals xs us) (h64:us.length<64)
  (h:∀(ps:List (Str×V))(s':Q0d),ps.Perm (ks.zip xs)->upS ps->Inv X.in2 pins σ (upd H D (.lst (ps.map (·.2)))) s'->Q (.done (.ret .none)) s'):Q1d (model X.prog X.w) X.in2.A (ksk_end D false us.toArray e1 (.ref kS) keys) Q E s:=by
 have hsz:keys.size=us.length:=by have:=q5m hk;rw[Q1u]at this;omega
 have hzs:(keys.zip us.toArray).size=us.length:=by rw[Z3z,hsz,Q0g,Q9m]
 have tail:∀st:Q1i,(arrOf st).Perm (keys.zip us.toArray)->failedOf st=none->Z6a strKind (arrOf st) (arrOf st).size->Q1d (model X.prog X.w) X.in2.A (Z4u D false e1 (.ref kS) st) Q E s:=by
  intro st hp hf hs
  obtain⟨ps,p1,p2,p3⟩:=x2b hk r hp hs
  have hl:(arrOf st).size=us.length:=by rw[hp.size_eq,hzs]
  have pl:ps.length=us.length:=by
   have e:=p3.length
   simp only[Q0q,Q1u,Z0a]at e
   omega
  unfold Z4u
  try dsimp only
  have s1:=Q1h.SameBut.update s.heap kS (Q2c fun _=>(#[]:Array Q0b))
  have na1:=(s1.2 D hne.symm).trans na
  have s2:=Q1h.SameBut.update (s.heap.update kS (Q2c fun _=>(#[]:Array Q0b))) D (Q2c fun _=>(arrOf st).map (·.2))
  refine Q0a (Q4h nk rfl ?_ (by rw[hsz,Q4q];omega) (Q1f _))
  refine Q0a (Q7u (Q0a (Q7x na1 rfl ?_)))
  simp only[Q1j,if_false]
  refine Q0a (Q4h na1 rfl ?_ (Q1f _) (by rw[Z0a,hl,Q4q];omega))
  rw[hf]
  simp only[bne_self_eq_false,Q1j,if_false]
  refine Q0f (h ps _ p1 p2 (I.adopt (t':=s.toks) (D:=D) (kS:=kS) fD fk (fun b o hb hb' q=>(s2.2 b hb).trans ((s1.2 b hb').trans q)) ⟨_,(s2.2 kS hne).trans (Q3s nk fun _=>#[])⟩ ?_))
  have e3:=Q3s na1 fun _=>(arrOf st).map (·.2)
  exact⟨by rw[Q0q,pl,Q4q];omega,((arrOf st).map (·.2)).toList,_,p3,by rw[Q4e];exact e3⟩
 unfold ksk_end
 try dsimp only
 simp only[Q1j,if_false]
 by_cases h2:us.toArray.size<2
 ·rw[if_pos h2,if_pos h2]
  refine Q0a (Q0f ?_)
  rw[Q9n]
  refine Q0a (Q0f ?_)
  try dsimp only
  refine tail (Q1i.mk' general' (keys.zip us.toArray) #[] 7 none) (Z1p _) rfl fun i j hij hj=>?_
  have hj2:j<(keys.zip us.toArray).size:=hj
  rw[hzs]at hj2
  rw[Q0g]at h2
  obtain rfl:i=j:=by omega
  exact KeyOrd.kle_refl _
 ·rw[if_neg h2,if_neg h2]
  rw[Q0g]at h2
  have hkk:keyKind' keys=pure oneType':=by
   obtain⟨v1,v2,rest,e⟩:∃v1 v2 rest,keys.toList=v1::v2::rest:=by
    have hl:2<=keys.toList.length:=by rw[Q1u,hsz];omega
    match q:keys.toList with
    |[]=>rw[q]at hl;simp at hl
    |[_]=>rw[q]at hl;simp at hl
    |a::b::c=>exact⟨a,b,c,rfl⟩
   rw[show keys=(v1::v2::rest).toArray by rw[<-e,Q4e]]
   rw[e]at hk
   exact keyKind_strs hk
  rw[hkk]
  refine Q0a (Q0f ?_)
  have hko:KeysOf strKind (keys.zip us.toArray):=by
   intro p hp
   rw[ksk_zip]at hp
   obtain⟨x,t,v,e,_⟩:=y1e hk r p hp
   exact⟨x.cps.toList,by rw[e]⟩
  refine Q0a (Q1p (wpS_sortRunsK (κ:=strKind) (a₀:=keys.zip us.toArray) (st:=Q1i.mk' oneType' (keys.zip us.toArray) #[] 7 none)
   (Q:=fun _ st'=>(arrOf st').Perm (keys.zip us.toArray)/\failedOf st'=none/\Z6a strKind (arrOf st') (keys.zip us.toArray).size)
   strKind_oneLt hko ⟨Z1p _,rfl,rfl,rfl⟩ (by rw [hzs];omega) (by rw [hzs];exact h64) fun st' a1 a2 a3=>⟨a1,a2,a3⟩) ?_ fun _ _ e=>e)
  rintro⟨⟨⟩,st'⟩ s' ⟨rfl,hp,hf,hs⟩
  try dsimp only
  exact tail st' hp hf (by rw[hp.size_eq];exact hs)
theorem y6i{Q:Q6a->Q0d->Prop}{D kS f:Q0u}{us:List Q0b}{xs:List V}{ks:List Str}{e1:Nat}{E:Q0b->Q0d->Prop}(R:Hp->Prop)(hR:R H)(I:Inv X.in2 pins σ H s)(fD:FpOk X.in2 pins H D)(fk:FpOk X.in2 pins H kS)(hne:kS≠D)
  (nk:s.heap.get? kS=some (seqObj "list" #[] 0)) (na:s.heap.get? D=some (seqObj "list" #[] e1)) (hlen:ks.length=us.length) (r:Vals xs us) (h64:us.length<64)
  (turn:∀(i:Nat)(x:V)(u:Q0b)(k:Str),xs[i]?=some x->RelV x u->ks[i]?=some k->∀(pins':List (Q0u×Obj))(s':Q0d)(H':Hp),Inv X.in2 pins' σ H' s'->R H'->
   Q1d (model X.prog X.w) X.in2.A (call (.ref f) [u]) (fun v s2=>(∃t,v=.str k t)/\∃H2,Inv X.in2 pins' σ H2 s2/\R H2) (fun _ _=>False) s')
  (h:∀(H':Hp)(ps:List (Str×V))(s':Q0d),R H'->H' D=none->ps.Perm (ks.zip xs)->upS ps->Inv X.in2 pins σ (upd H' D (.lst (ps.map (·.2)))) s'->Q (.done (.ret .none)) s'):Q1d (model X.prog X.w) X.in2.A (Z4v D (.ref f) false us.toArray e1 (.ref kS)) Q E s:=by
 unfold Z4v
 refine Q0a (Q3p ?_)
 rw[<-Q4m]
 have pk:∀{H':Hp}{s':Q0d}{kA:Array Q0b}{e:Nat},Inv X.in2 (pins++[(kS,seqObj "list" kA e),(D,seqObj "list" #[] e1)]) σ H' s'->s'.heap.get? kS=some (seqObj "list" kA e)/\s'.heap.get? D=some (seqObj "list" #[] e1)/\H' kS=none/\H' D=none:=fun {H' s' kA e} J=>by
  have h1:=J.pin (kS,seqObj "list" kA e) (by simp)
  have h2:=J.pin (D,seqObj "list" #[] e1) (by simp)
  exact⟨h1.1,h2.1,h1.2.1,h2.2.1⟩
 have rep:∀{H':Hp}{s':Q0d}{kA:Array Q0b}{e:Nat},Inv X.in2 pins σ H' s'->s'.heap.get? kS=some (seqObj "list" kA e)->s'.heap.get? D=some (seqObj "list" #[] e1)->H' kS=none->H' D=none->Inv X.in2 (pins++[(kS,seqObj "list" kA e),(D,seqObj "list" #[] e1)]) σ H' s':=fun J a b c d=>
  J.pins_of fun p hp=>by
   rcases Q0n.mp hp with hp|hp
   ·exact J.pin p (Q0t _ hp)
   ·rcases Q1b.mp hp with rfl|hp
    ·exact⟨a,c,fk.2.1,fk.2.2.1,z3m _ _ _⟩
    ·obtain rfl:=Q0i.mp hp
     exact⟨b,d,fD.2.1,fD.2.2.1,z3m _ _ _⟩
 refine Q0a (ksk_fold (fun i s'=>∃H' kA e,Inv X.in2 (pins++[(kS,seqObj "list" kA e),(D,seqObj "list" #[] e1)]) σ H' s'/\R H'/\Q4l kA.toList (ks.take i)) us 0 s
  ⟨H,#[],0,rep I nk na fk.1 fD.1,hR,by simpa using Q4l.nil⟩ ?step ?done)
 case step=>
  rintro j u s' hu ⟨H',kA,e,J,q,hk⟩
  rw[Q4x]at hk
  have hj:j<us.length:=(Q0s.mp hu).1
  have hkj:ks[j]?=some ks[j]:=Q0e (by omega)
  obtain⟨x,hx,rx⟩:∃x,xs[j]?=some x/\RelV x u:=by
   have hl:=r.length
   obtain⟨u',e1,e2⟩:=r.get (Q0e (show j<xs.length by omega))
   rw[hu]at e1
   cases e1
   exact⟨_,Q0e (show j<xs.length by omega),e2⟩
  have hz:kA.size<=us.length:=by
   have:=q5m hk
   rw[Q1u,Q2q]at this
   omega
  refine Q0a (Q5z (Q1p (turn j x u _ hx rx hkj _ _ _ J q) (fun v s2 z=>?_) fun _ _ z=>z.elim))
  obtain⟨⟨t,rfl⟩,H2,J2,q2⟩:=z
  obtain⟨a1,a2,a3,a4⟩:=pk J2
  try dsimp only
  have s1:=Q1h.SameBut.update s2.heap kS (Q2c (·.push (.str ks[j] t)))
  refine Q0a (Q4h a1 rfl ?_ (by rw[Q4q];omega) (Q1l (Q9k (Q7q ..)) (by rw[Q4q];omega)))
  have J3:Inv X.in2 pins σ H2 {s2 with heap:=s2.heap.update kS (Q2c (·.push (.str ks[j] t)))}:=J2.unpinned.turned (t':=s2.toks) (fun b o hb z=>(s1.2 b hb).trans z) a3 fk.2.1 fk.2.2.2.1 fk.2.2.2.2.1 fk.2.2.2.2.2
  have e3:=Q3s a1 (·.push (.str ks[j] t))
  refine Q0f ⟨rfl,H2,_,_,rep J3 e3 ((s1.2 D hne.symm).trans a2) a3 a4,q2,?_⟩
  rw[Q4x,List.take_add_one,hkj,Q3k]
  exact q9h hk
 case done=>
  rintro s' ⟨H',kA,e,J,q,hk⟩
  rw[Q3z (by omega)]at hk
  obtain⟨a1,a2,a3,a4⟩:=pk J
  refine Q0a (Q8p a1 rfl ?_)
  exact x0r J.unpinned ⟨a4,fD.2⟩ ⟨a3,fk.2⟩ hne a1 a2 hk hlen r h64 fun ps s2 p1 p2 J2=>h H' ps s2 q a4 p1 p2 J2
theorem z6x{Q:VK}{a f:Q0u}{xs:List V}{ks:List Str}(R:Hp->Prop)(hR:R H)(I:Inv X pins σ H s)(sa:SqL X.K H a xs)(hlen:ks.length=xs.length)(h64:xs.length<64)
  (turn:∀(i:Nat)(x:V)(u:Q0b)(k:Str),xs[i]?=some x->RelV x u->ks[i]?=some k->∀(pins':List (Q0u×Obj))(s':Q0d)(H':Hp),Inv X.in2 pins' σ H' s'->R H'->
   Q1d (model X.prog X.w) X.in2.A (call (.ref f) [u]) (fun v s2=>(∃t,v=.str k t)/\∃H2,Inv X.in2 pins' σ H2 s2/\R H2) (fun _ _=>False) s')
  (h:∀(H':Hp)(ps:List (Str×V))(D:Q0u),R H'->H' D=none->ps.Perm (ks.zip xs)->upS ps->Q (.ref D) (upd H' D (.lst (ps.map (·.2))))) :
  Q1d (model X.prog X.w) X.A (call (.builtin "sorted") [.ref a] [(Q0j "key",.ref f)]) (EP X pins σ Q) X.xe s:=by
 obtain⟨us,r,p,hz⟩:=I.list sa
 have hl:=r.length
 refine Z2z Z4j Z3q Z3r (ksk_s1 _ _) ?_
 unfold Q1g.«sorted»
 refine Q0a (m:=checkCount "sorted" 1 1 _) (Q0f (Q0a (collect_list p.isList ?_ (by rw[Q4q];omega))))
 refine Q0a (Q6r ?_ (by rw[Q4q];omega))
 generalize hh:(s.heap.push (seqObj "list" #[] 0)).update s.heap.objs.size (Q2c (·++us.toArray))=h1
 have z1:h1.objs.size=s.heap.objs.size+1:=by rw[<-hh,Q1h.size_update,Q8t]
 have k1:∀b o,s.heap.get? b=some o->h1.get? b=some o:=fun b o q=>by
  have hlt:b<s.heap.objs.size:=Q0m q
  rw[<-hh,Q1h.get?_update_ne _ _ _ _ (Q0y hlt),Q1h.get?_push_ne _ _ _ (Q0y hlt)]
  exact q
 have oL:(h1.push (seqObj "list" us.toArray 0)).get? h1.objs.size=some (seqObj "list" us.toArray 0):=Q0w _ rfl
 refine Q0a (Q2e (Z4k Z1w (T:= "list") (s:={s with heap:=h1.push (seqObj "list" us.toArray 0)}) ⟨_,oL,rfl⟩ Z1i ?_ (ksk_l1 _ _)))
 show Q1d (model X.prog X.w) X.in2.A (Q1g.«list.sort» ⟨[.ref h1.objs.size],[(Q0j "key",.ref f)]⟩) _ _ _
 rw[ksk_t1]
 unfold ksk_tree
 generalize hD:h1.objs.size=D at oL ⊢
 refine Q0a (Q8p (s:={s with heap:=h1.push (seqObj "list" us.toArray 0)}) oL rfl ?_)
 refine Q0a (Q4h (s:={s with heap:=h1.push (seqObj "list" us.toArray 0)}) oL rfl ?_ (by rw[Q0g,Q4q];omega) (Q1f _))
 have e1:=Q3s oL fun _=>#[]
 generalize hh2:(h1.push (seqObj "list" us.toArray 0)).update D (Q2c fun _=>(#[]:Array Q0b))=h2 at e1
 have z2:h2.objs.size=D+1:=by rw[<-hh2,Q1h.size_update,Q8t,hD]
 have k2:∀b o,s.heap.get? b=some o->h2.get? b=some o:=fun b o q=>by
  have hlt:b<s.heap.objs.size:=Q0m q
  have hb:b<D:=by rw[<-hD,z1];exact Q7e hlt
  rw[<-hh2,Q1h.get?_update_ne _ _ _ _ (Q0y hb),Q1h.get?_push_ne _ _ _ (by rw[hD];exact Q0y hb)]
  exact k1 b o q
 refine Q0a (Q7x (s:={s with heap:=h2}) e1 rfl ?_)
 refine Q0a (Q7k (s:={s with heap:=h2}) ?_ (by show us.length<=_;rw[Q4q];omega))
 refine Q0a (Q6r ?_ (Q1f _))
 refine Q2e ?_
 generalize hkS:(h2.push (seqObj "tuple" us.toArray 0)).objs.size=kS
 have z3:kS=D+2:=by rw[<-hkS,Q8t,z2]
 have oK:((h2.push (seqObj "tuple" us.toArray 0)).push (seqObj "list" #[] 0)).get? kS=some (seqObj "list" #[] 0):=by rw[<-hkS];exact Q0w _ rfl
 have I1:Inv X pins σ H {s with heap:=(h2.push (seqObj "tuple" us.toArray 0)).push (seqObj "list" #[] 0)}:=I.kept (t':=s.toks) fun b o q=>Q0c _ (Q0c _ (k2 b o q))
 have fD:FpOk X pins H D:=I.fpOk (by omega) (I.hok.fresh (by omega))
 have fk:FpOk X pins H kS:=I.fpOk (by omega) (I.hok.fresh (by omega))
 refine y6i R hR I1.in2 fD fk (by rw[z3];exact Q1s (Z1j (by decide))) oK (Q0c _ (Q0c _ e1)) (by omega) r (by omega) turn fun H' ps s' q n p1 p2 J=>?_
 exact⟨_,rfl,Q0f ⟨_,rfl,.ref D,_,J.out2 I.ok,rfl,h H' ps D q n p1 p2⟩⟩
end
def upP(ps:List (Str×PV)):Prop:=ps.Pairwise fun p q=>¬q.1.cps.toList<p.1.cps.toList
def z2u(sp:Den)(we:WE):WE:=fun σ S E Q=>we σ S E fun x S1=>∃(n:Nat)(xs:List PV)(ks:List Str),x=.ref n/\q1p S1 n=some xs/\xs.length<64/\ks.length=xs.length/\
 (∀(i:Nat)(v:PV)(k:Str),xs[i]?=some v->ks[i]?=some k->sp [v] S1 NoX fun u S2=>u=.str k/\S2=S1)/\∀ps:List (Str×PV),ps.Perm (ks.zip xs)->upP ps->Q (.ref S1.length) (S1++[.lst (ps.map (·.2))])
theorem z6b{K:Q2p}{H:Hp}{φ:List Q0u}:∀{ks:List Str}{xs:List PV}{vs:List V},RVs K H φ xs vs->Q2w (fun(a:Str×V) (b:Str×PV)=>a.1=b.1/\RV K H φ b.2 a.2) (ks.zip vs) (ks.zip xs)
 |[],_,_,_=>by simp;exact .nil
 |_::_,[],vs,h=>by rw[show vs=[]from h];simp;exact .nil
 |k::ks,x::xs,vs,h=>by
  obtain⟨y,ys,rfl,r,t⟩:=h
  exact .cons ⟨rfl,r⟩ (z6b t)
theorem z4x{K:Q2p}{H:Hp}{φ:List Q0u}{as:List (Str×V)}{bs:List (Str×PV)}(h:Q2w (fun(a:Str×V) (b:Str×PV)=>a.1=b.1/\RV K H φ b.2 a.2) as bs):RVs K H φ (bs.map (·.2)) (as.map (·.2))/\as.map (·.1)=bs.map (·.1):=by
 induction h with
 |nil=>exact⟨rfl,rfl⟩
 |cons h _ ih=>exact⟨⟨_,_,rfl,h.2,ih.1⟩,by rw[Q0v,Q0v,h.1,ih.2]⟩
section
variable{X:Cx}{G:GX}{pos:Pos}
theorem z7b {e : Expr} {we : WE} {p p' kpos : Pos} {x : Str} {k : Nat} {f : Q0u} {fd : Q2z} {ps : List Str} {sp : Den} (hm : X.mg "sorted" = none) (C : Cal X.prog X.w X.K X.mg X.base k x ps (q0l X.K sp) f fd) (hr : Room k X.A.in1.in1) (he : SimE X G e we)
    (hg : Gl X "sorted" := by rfl) (hgx : Gl X x := by rfl) (hdb : (x == ("__debug__" : Str)) = false := by decide) (hst : Q1m [e] X.env = (false, eval e X.env) :: Q1m [] X.env := by rfl) : SimE X G (.Call (.Name "sorted" p) [e] [⟨some "key", .Name x p', kpos⟩] pos) (z2u sp we) := by
  rintro pins s σV H Q I ⟨φ, σ, S, Q0, L, R, h, kk⟩
  refine Q4f (q4n I hg hm q4d ?_)
  have ha := z1r he z8m hst
  have hk := z8f (nm := some "key") (kpos := kpos) (z1q (pos := p') hgx C.m (show RelV (V.ref f) (Q0b.ref f) from rfl) hdb) y4v
  refine callWith_kw (thn (ha pos pins s σV H (fun vs H1 => ∃ (n : Nat) (xs : List PV) (ks : List Str) (φ1 : List Q0u) (S1 : q0b) (a : Q0u), vs = [.ref a] /\ φ1[n]? = some a /\ φ <+: φ1 /\ Mono H H1 /\ Rel X.K φ1 S1 H1 /\ q1p S1 n = some xs /\ xs.length < 64 /\ ks.length = xs.length /\
      (∀ (i : Nat) (v : PV) (k : Str), xs[i]? = some v -> ks[i]? = some k -> sp [v] S1 NoX fun u S2 => u = .str k /\ S2 = S1) /\ ∀ ps : List (Str × PV), ps.Perm (ks.zip xs) -> upP ps -> Q0 (.ref S1.length) (S1 ++ [.lst (ps.map (·.2))])) I
      ⟨φ, σ, S, _, L, R, h, fun v S1 φ1 H1 y q p1 m1 R1 r1 => ?_⟩) ?_) (by rw [hst]; rfl) (by rw [hst]; rfl)
  · obtain ⟨n, xs, ks, rfl, q⟩ := q
    obtain ⟨a, rfl, qa⟩ := r1
    exact ⟨n, xs, ks, φ1, S1, a, rfl, qa, p1, m1, R1, q⟩
  · rintro us s1 ⟨vs, H1, I1, r1, n, xs, ks, φ1, S1, a, rfl, qa, p1, m1, R1, e1, h64, hlen, ht, hq⟩
    refine thn (hk pos pins s1 σV H1 (fun zs H2 => zs = [.ref f] /\ H2 = H1) I1 ⟨rfl, rfl⟩) ?_
    rintro ws s2 ⟨zs, H2, I2, r2, rfl, rfl⟩
    cases r1 with
    | cons r1 r1' => cases r1'; cases r1; cases r2 with
      | cons r2 r2' => cases r2'; cases r2
                       obtain ⟨vs, sa, ra⟩ := R1.seq qa e1
                       have hl := ra.length
                       show Q1d (model X.prog X.w) X.A (call (.builtin "sorted") [.ref a] [(Q0j "key", .ref f)]) _ X.xe s2
                       refine z6x (ks := ks) (fun H' => ∃ φ', φ1 <+: φ' /\ Mono H2 H' /\ Rel X.K φ' S1 H') ⟨φ1, Q0h _, .refl _, R1⟩ I2 sa (by omega) (by omega) ?_ ?_
                       · rintro i y u kx hy ru hkx pins' s' H' I' ⟨φ', q1, q2, q3⟩
                         obtain ⟨pv, e2, rv⟩ := ra.getV hy
                         have rv' := RV.mono q2 q1 _ _ rv
                         refine Q1p (z7s (X := X.in2) (vs := [y]) (Q := fun v H2' => v = .str kx /\ ∃ φ', φ1 <+: φ' /\ Mono H2 H' /\ Rel X.K φ' S1 H2' /\ Mono H2 H2') C.G hr C.b .nil (z8l (K := X.K)) I' (.cons ru .nil) ?_) ?_ fun _ _ z => z
                         · refine ⟨φ', [pv], S1, _, NoX, NoG.xh, ⟨_, _, rfl, rv', rfl⟩, q3, ht i pv kx e2 hkx, ?_, fun _ _ _ _ z => z.elim, fun _ _ _ z => z⟩
                           rintro v S2 φ2 H3 w' ⟨rfl, rfl⟩ p3 m3 R3 rfl
                           exact ⟨rfl, φ2, q1.trans p3, q2, R3, q2.trans m3⟩
                         · rintro v s3 ⟨w', H3, I3, r3, rfl, φ2, z1, z2, z3, z4⟩
                           exact ⟨r3, H3, I3, φ2, z1, z4, z3⟩
                       · rintro H' ps' D ⟨φ', q1, q2, q3⟩ n' p' up'
                         obtain ⟨bs, b1, b2⟩ := q9p p' (z6b (RVs.mono q2 q1 _ _ ra))
                         obtain ⟨c1, c2⟩ := z4x b2
                         have up2 : upP bs := by
                           have h1 : (ps'.map (·.1)).Pairwise fun a b => ¬ b.cps.toList < a.cps.toList := Q5x.mpr up'
                           rw [c2] at h1
                           exact Q5x.mp h1
                         exact ((kk.up p1 m1).up q1 q2).lst (hq bs b1 up2) q3 c1 D n'
end
section
variable{X:Cx}{G:GX}{pos:Pos}
theorem y5e{K:Q2p}{H:Hp}{φ:List Q0u}{S:q0b}{n:Nat}{a:Q0u}{kvs:List (Key×PV)}(R:Rel K φ S H)(qa:φ[n]?=some a)(es:S[n]?=some (.dK kvs)\/S[n]?=some (.dF kvs)):∃ws,Rd H a (.dK ws)/\RKs K H φ kvs ws:=by
 rcases es with es|es
 ·obtain⟨ws,sa,ra⟩:=R.obj n a _ qa es;exact⟨ws,.inl sa,ra⟩
 ·obtain⟨o,ws,sa,ra⟩:=R.obj n a _ qa es;exact⟨ws,.inr ⟨o,sa⟩,ra⟩
def bIxD:F2:=fun x y S Q=>∃n kvs k v,x=.ref n/\(S[n]?=some (.dK kvs)\/S[n]?=some (.dF kvs))/\q8m y=some k/\valP kvs k=some v/\Q v S
theorem x6i(hu:X.A.units+200<cLine):IxR X (q2n X.K bIxD):=by
 rintro value slice pins s σ H x y v u Q I rx ry ⟨φ,S,px,py,Q0,R,hx,hy,h,k⟩ hs
 obtain⟨n,kvs,kk,pv,rfl,es,ek,ev,q⟩:=h
 obtain⟨a,rfl,qa⟩:=hx
 have hk:=q8l hy ek
 subst hk
 obtain⟨ws,sa,ra⟩:=y5e R qa es
 obtain⟨x',e',r'⟩:=(ra.val kk).1 pv ev
 cases rx
 obtain⟨z,hd,vs,rel,dd⟩:=y0m I.hok sa
 refine Q6w dd.typeIs Q6m.lookup (z0t (by omega) I (.inl ⟨ws,kk,sa,rfl,e'.symm⟩) ry fun w' s' I' rw'=>⟨x',H,I',rw',k _ S φ H _ q (Q0h _) (.refl _) R r'⟩) hs
theorem y6s{a b:Expr}{wa wb:WE}(hu:X.A.units+200<cLine)(ha:SimE X G a wa)(hb:SimE X G b wb)(hs:q8y b:=by exact fun _ _=>rfl):SimE X G (.Subscript a b pos) (wBin bIxD wa wb):=(y7t (x6i hu) ha hb hs).imp fun _ _ _ h=>q3v h
def z9f:FM:=fun x xs S Q=>∃n y d kvs k,x=.ref n/\xs=[y,d]/\(S[n]?=some (.dK kvs)\/S[n]?=some (.dF kvs))/\q8m y=some k/\Q ((valP kvs k).getD d) S
theorem y3c(hu:X.A.units+200<cLine):MtR X "dict.get" (liftM X.K z9f):=by
 rintro pins s σ H x xs v us Q I rx rs ⟨φ,S,px,pxs,Q0,R,hx,hxs,h,k⟩
 obtain⟨n,y,d,kvs,kk,rfl,rfl,es,ek,q⟩:=h
 obtain⟨a,rfl,qa⟩:=hx
 obtain⟨y',d',rfl,ry,rd⟩:=q5v hxs
 have hk:=q8l ry ek
 subst hk
 obtain⟨ws,sa,ra⟩:=y5e R qa es
 cases rx
 cases rs with
 |cons r1 r2=>cases r2 with
  |cons r2 r3=>
   cases r3
   refine x3w (by omega) I (.inl ⟨ws,kk,sa,rfl,rfl⟩) r1 r2 fun w' s' I' rw'=>⟨_,H,I',rw',k _ S φ H _ q (Q0h _) (.refl _) R ?_⟩
   cases e:valP kvs kk with
   |none=>rw[(ra.val kk).2 e];exact rd
   |some z=>obtain⟨w2,e',r'⟩:=(ra.val kk).1 z e;rw[e'];exact r'
def q4c:FM:=fun x xs S Q=>∃n y d kvs k,x=.ref n/\xs=[y,d]/\S[n]?=some (.dK kvs)/\q8m y=some k/\kvs.length<Q0l/\(∀v,valP kvs k=some v->Q v S)/\(valP kvs k=none->Q d (S.set n (.dK (putP kvs k d))))
theorem z5c(hu:X.A.units+200<cLine):MtR X "dict.setdefault" (liftM X.K q4c):=by
 rintro pins s σ H x xs v us Q I rx rs ⟨φ,S,px,pxs,Q0,R,hx,hxs,h,k⟩
 obtain⟨n,y,d,kvs,kk,rfl,rfl,es,ek,hz,q1,q2⟩:=h
 obtain⟨a,rfl,qa⟩:=hx
 obtain⟨y',d',rfl,ry,rd⟩:=q5v hxs
 have hk:=q8l ry ek
 subst hk
 obtain⟨ws,sa,ra⟩:=R.obj n a _ qa es
 have hl:kvs.length=ws.length:=Q2w.length ra
 cases rx
 cases rs with
 |cons r1 r2=>cases r2 with
  |cons r2 r3=>
   cases r3
   obtain⟨z,hd,vs,rel,dd⟩:=x6o I.hok sa
   have hz':vs.length<=Q0l:=by rw[<-rel.length];exact z
   refine Z0f PySem.F.slot_dict_setdefault dd.typeIs PySem.F.entry_dict_setdefault (PySem.F.args_dict_setdefault_3 _ _ _) (kt_meets_setdefault (q0s X.prog X.w) a (y3m r1) hd _) ⟨vs,dd,hz',fun w2 hw=>?_,fun hn h' dd' hs=>?_⟩
   ·have rv:=rel.val kk
    rw[hw]at rv
    cases ev:valV ws kk with
    |none=>rw[ev]at rv;exact rv.elim
    |some x=>
     rw[ev]at rv
     cases ep:valP kvs kk with
     |none=>rw[(ra.val kk).2 ep]at ev;cases ev
     |some v=>
      obtain⟨x',e',r'⟩:=(ra.val kk).1 v ep
      rw[ev]at e'
      cases e'
      exact⟨x,H,I.tok _,rv,k v S φ H x (q1 v ep) (Q0h _) (.refl _) R r'⟩
   ·have rv:=rel.val kk
    rw[hn]at rv
    have ep:valP kvs kk=none:=by
     cases ep:valP kvs kk with
     |none=>rfl
     |some v=>
      obtain⟨x',e',r'⟩:=(ra.val kk).1 v ep
      rw[e']at rv
      exact rv.elim
    have hl2:(putK ws kk d').length<=Q0l:=by have:=z1x ws kk d';omega
    have he:∃q,h'.get? a=some q:=by obtain⟨q,_,_,hq,_⟩:=dd';exact⟨q,hq⟩
    have mo:Mono H (upd H a (.dK (putK ws kk d'))):=.dict sa
    exact⟨d',_,y0p I (by rw[sa];exact Z0o) hs he (x3v hl2 hd (rel.put kk r2) dd'),r2,k d _ φ _ d' (q2 ep) (Q0h _) mo (R.put (o:=.dK (putP kvs kk d)) qa mo ⟨_,q0u,RKs.mono mo (Q0h _) (ra.put kk rd)⟩) (RV.mono mo (Q0h _) _ _ rd)⟩
def y0g:FL:=fun xs S Q=>∃i j,xs=[.int i,.int j]/\Q (.int (if j<i then j else i)) S
theorem z5u(hc:X.calm=true):q3r X (.builtin "min") (q8j X.K y0g):=by
 rintro pins s σ H xs us Q I r ⟨φ,S,pxs,Q0,R,hx,h,k⟩
 obtain⟨i,j,rfl,q⟩:=h
 obtain⟨v,w',rfl,r1,r2⟩:=q5v hx
 cases r1
 cases r2
 exact y0v hc pins s σ H _ us Q I r ⟨i,j,rfl,k _ S φ H _ q (Q0h _) (.refl _) R rfl⟩
theorem y3z:bootBuiltins "min" = some (.builtin "min"):=by kernel_rfl
end
def Itk(o:Obj)(ws:List (Key×V))(a:Q0u):It:=
 ⟨fun i H=>H a=some (.frz o (.dK ws))/\i<ws.length,fun i H x H'=>H'=H/\∃p,ws[i]?=some p/\x=kV p.1,fun i H=>H a=some (.frz o (.dK ws))/\ws.length<=i⟩
theorem x2z{k:Key}{v:Q0b}(h:z0a k v=true):RelV (kV k) v:=by
 rcases q0p h with⟨i,t,rfl,rfl⟩|⟨x,t,rfl,rfl⟩
 ·exact⟨t,rfl⟩
 ·exact⟨t,rfl⟩
theorem z3x{P:Q1e}{w:Q1x}{H:Hp}{h:Q1h}{a:Q0u}{ws:List (Key×V)}(x:q1e P w H h a (.dK ws)) :
  ∃o es ep,h.get? a=some o/\o.ExactDict/\o.data=.dict es ep/\es.size=ws.length/\(a==sysModules)=false/\∀(i:Nat)(hi:i<es.size),∃p,ws[i]?=some p/\RelV (kV p.1) es[i].key:=by
 obtain⟨z,hd,vs,rel,o,es,ep,h1,h2,h3,h4,h5,h6⟩:=x
 have l1:ws.length=vs.length:=Q2w.length rel
 have l2:es.size=vs.length:=by rw[<-h5.length];simp
 refine⟨o,es,ep,h1,h2,h3,by omega,hd,fun i hi=>?_⟩
 have hv:i<vs.length:=by omega
 obtain⟨p,hp,e1,_⟩:=q7c rel (Q0e hv)
 refine⟨p,hp,?_⟩
 rw[e1]
 exact x2z ((h5.get? (e:=es[i]) (by simp[hi]) (Q0e hv)).1)
theorem z6m{P:Q1e}{w:Q1x}{K:Q2p}{tg:Expr}{o:Obj}{es:Array Z1c}{ep:Nat}(hd:o.data=.dict es ep)(ws:List (Key×V))(a it:Q0u):Turn P w K tg (Itk o ws a) [it] it (fun i h=>h.IsKeyIter it a i es.size ep) where
 mem:=by simp
 obj:=fun i h st b hb=>by
  obtain rfl:b=it:=by simpa using hb
  obtain⟨o,e,c,d⟩:=st
  exact⟨o,e,fun v z=>by rw[d]at z;cases z⟩
 keep:=fun i h h' st k=>by
  obtain⟨o,e,r⟩:=st
  exact⟨o,k it (by simp) o e,r⟩
 item:=by
  intro X hP hw hK hc i pins s σ H E I hf st hg
  subst hP hw hK
  obtain⟨hH,hi⟩:=hg
  obtain⟨h0,hx⟩:=(show q1e X.prog X.w H s.heap a (.frz o (.dK ws))from I.hok a _ hH)
  obtain⟨o',es',ep',h1,h2,h3,h4,_,h5⟩:=z3x hx
  rw[h0]at h1
  cases h1
  rw[hd]at h3
  cases h3
  obtain⟨f0,f1,f2,f3,f4,f5⟩:=hf it (by simp)
  have hi':i<es.size:=by omega
  obtain⟨p,hp,hk⟩:=h5 i hi'
  refine y3b st h0 hd hi' fun h' st' sb=>?_
  have I1:Inv X pins σ H {s with heap:=h' }:=I.turned (t':=s.toks) (fun b o hb e=>(sb.2 b hb).trans e) f0 f1 f3 f4 f5
  obtain⟨o',e',c',d'⟩:=id st'
  exact⟨_,rfl,y0b (s:={s with heap:=h' }) e' c' d' (by decide) ⟨kV p.1,H,I1,hk,⟨rfl,p,hp,rfl⟩,st',fun b hb=>(hf b hb).1⟩⟩
 done:=by
  intro X hP hw hK hc i pins s σ H E I hf st hg
  subst hP hw hK
  obtain⟨hH,hi⟩:=hg
  obtain⟨h0,hx⟩:=(show q1e X.prog X.w H s.heap a (.frz o (.dK ws))from I.hok a _ hH)
  obtain⟨o',es',ep',h1,h2,h3,h4,_,h5⟩:=z3x hx
  rw[h0]at h1
  cases h1
  rw[hd]at h3
  cases h3
  obtain⟨f0,f1,f2,f3,f4,f5⟩:=hf it (by simp)
  exact y1o (I.ok.hd hc) st h0 hd (by omega) fun h' eb=>⟨rfl,I.turned (t':=s.toks) (fun b o hb e=>eb b o hb e) f0 f1 f3 f4 f5⟩
 self:=fun A i s Q E st h=>by
  have hT:=st.typeIs (s:=s)
  refine Z5j hT Q8f (Q2n Q8f hT PySem.F.entry_dict_keyiterator_iter ?_ (PySem.F.args_dict_keyiterator_iter_1 _))
  show Q1d _ _ (ret (.ref it)) _ _ s
  exact Q0f ⟨_,rfl, "dict_keyiterator",_,hT,Q2m.lookup,h⟩
section
variable{X:Cx}{G:GX}{pos:Pos}
def x6l(tl:TE):TI:=fun σ H R=>tl σ H fun x H1=>∃a ws,x=.ref a/\((∃o,H1 a=some (.frz o (.dK ws))/\R (Itk o ws a) H1)\/(H1 a=some (.dK ws)/\∀o,R (Itk o ws a) (upd H1 a (.frz o (.dK ws)))))
theorem y7o{tg l:Expr}{tl:TE}(hl:PE X l tl):PI X tg l (x6l tl):=by
 intro pins s σ H R I h
 refine thn (hl pins s σ H _ I h) ?_
 rintro v s1 ⟨x,H1,I1,r1,a,ws,rfl,hq⟩
 cases r1
 have main:∀(o:Obj)(H2:Hp),H2 a=some (.frz o (.dK ws))->Inv X pins σ H2 s1->R (Itk o ws a) H2->Q1d (model X.prog X.w) X.A (pyIter (.ref a)) (PIE X pins σ tg R) X.xe s1:=by
  intro o H2 e I2 q
  obtain⟨h0,hx⟩:=(show q1e X.prog X.w H2 s1.heap a (.frz o (.dK ws))from I2.hok a _ e)
  obtain⟨o',es,ep,h1,h2,h3,h4,hy,h5⟩:=z3x hx
  rw[h0]at h1
  cases h1
  refine y3o hy ⟨o,h0,h2.1⟩ h0 h3 ?_
  refine⟨s1.heap.objs.size,[s1.heap.objs.size],_,_,H2,rfl,I2.kept (t':=s1.toks) fun b o e=>Q0c _ e,z6m h3 ws a _,⟨_,Q0w _ rfl,rfl,rfl⟩,fun b hb=>?_,q⟩
  obtain rfl:=Q0i.mp hb
  exact I2.fpOk (Q0k _) (I2.hok.fresh (Q0k _))
 rcases hq with⟨o,e,q⟩|⟨e,q⟩
 ·exact main o H1 e I1 q
 ·have hx:=(show q1e X.prog X.w H1 s1.heap a (.dK ws)from I1.hok a _ e)
  obtain⟨o,es,ep,h1,_⟩:=z3x hx
  refine main o _ q0u ?_ (q o)
  obtain⟨z,hd,vs,rel,dd⟩:=hx
  exact I1.write (t':=s1.toks) (h':=s1.heap) (by rw[e];exact Z0o) (.inl rfl) (fun b u _ q=>q) ⟨o,h1⟩ ⟨h1,z,hd,vs,rel,dd⟩
def keyP:Key->PV
 |.inl i=>.int i
 |.inr x=>.str x
def q6v(w:WE):WI:=fun σ S E Q=>w σ S E fun x S1=>∃n kvs,x=.ref n/\(S1[n]?=some (.dK kvs)\/S1[n]?=some (.dF kvs))/\Q ⟨kvs.map fun p=>keyP p.1,fun S=>S[n]?=some (.dF kvs)⟩ (S1.set n (.dF kvs))
theorem y3j{K:Q2p}{H:Hp}{φ:List Q0u}(k:Key):RV K H φ (keyP k) (kV k):=by cases k<;>rfl
theorem y7c{K:Q2p}{H:Hp}{φ:List Q0u}{kvs:List (Key×PV)}{ws:List (Key×V)}{i:Nat}{p:Key×PV}(r:RKs K H φ kvs ws)(h:kvs[i]?=some p):∃q,ws[i]?=some q/\q.1=p.1:=by
 induction r generalizing i with
 |nil=>simp at h
 |cons g t ih=>
  cases i with
  |zero=>simp at h;subst h;exact⟨_,rfl,g.1.symm⟩
  |succ j=>simp at h;simpa using ih h
theorem z3q{K:Q2p}{φ:List Q0u}{H:Hp}{n:Nat}{a:Q0u}{o:Obj}{kvs:List (Key×PV)}{ws:List (Key×V)}(qa:φ[n]?=some a)(ea:H a=some (.frz o (.dK ws)))(ra:RKs K H φ kvs ws):ItR K φ H (Itk o ws a) ⟨kvs.map fun p=>keyP p.1,fun S=>S[n]?=some (.dF kvs)⟩ where
 go:=fun φ1 H1 S1 p m R e i x hx=>by
  have e1:=m.frz _ _ _ ea
  have hx':(kvs.map fun p=>keyP p.1)[i]?=some x:=hx
  rw[Q1z]at hx'
  obtain⟨q,hq,rfl⟩:=Q2h.mp hx'
  obtain⟨q',hq',eq'⟩:=y7c ra hq
  refine⟨⟨e1,(Q0s.mp hq').1⟩,fun y' H' ⟨f1,p2,g1,g2⟩=>?_⟩
  subst f1
  rw[hq']at g1
  cases g1
  subst g2
  exact⟨φ1,Q0h _,.refl _,R,by rw[eq'];exact y3j _⟩
 stop:=fun φ1 H1 S1 p m R e i hi=>by
  have e1:=m.frz _ _ _ ea
  have l1:kvs.length=ws.length:=Q2w.length ra
  have hi':(kvs.map fun p=>keyP p.1).length<=i:=hi
  rw[Q0q]at hi'
  exact⟨e1,by omega⟩
theorem z7j{tg l:Expr}{w:WE}(hl:SimE X G l w):SimI X G tg l (q6v w):=
 PI.imp (y7o hl) fun σV H Q hh1=>by obtain⟨φ,σ,S,Q0,L,R,h,k⟩:=hh1;exact(⟨φ,σ,S,_,L,R,h,fun v S1 φ1 H1 x q p1 m1 R1 r1=>by
  obtain ⟨n,kvs,rfl,e,q⟩:=q
  obtain ⟨a,rfl,qa⟩:=r1
  rcases e with e|e
  ·obtain ⟨ws,ea,ra⟩:=R1.obj n a _ qa e
   refine ⟨a,ws,rfl,.inr ⟨ea,fun o=>?_⟩⟩
   have mo:Mono H1 (upd H1 a (.frz o (.dK ws))):=.dict ea
   have ra':=RKs.mono mo (Q0h φ1) ra
   exact k _ _ φ1 _ _ q p1 (m1.trans mo) (R1.put (o:=.dF kvs) qa mo ⟨o,ws,q0u,ra'⟩) (z3q qa q0u ra')
  ·obtain ⟨o,ws,ea,ra⟩:=R1.obj n a _ qa e
   refine ⟨a,ws,rfl,.inl ⟨o,ea,?_⟩⟩
   have eS:S1.set n (.dF kvs)=S1:=by
    apply List.ext_getElem?
    intro i
    by_cases hi:n=i
    ·subst hi;rw [Q1o (Q0s.mp e).1,e]
    ·rw [Q1c hi]
   rw [eS]at q
   exact k _ _ φ1 H1 _ q p1 m1 R1 (z3q qa ea ra)⟩)
end
def y9y(wa:WA):WE:=fun σ S E Q=>wa σ S E fun zs S1=>∃m n xs ys,zs=[.ref m,.ref n]/\q1p S1 m=some xs/\q1p S1 n=some ys/\xs.length<=100000/\Q (.ref S1.length) (S1++[.lst (zipP xs ys)])
theorem Mono.grow{H H2:Hp}(g:∀c o,H c=some o->H2 c=some o):Mono H H2:=⟨fun _ _ h=>g _ _ h,fun _ _ _ h=>g _ _ h,fun _ _ h=>g _ _ h,fun _ _ ws h=>⟨ws,g _ _ h⟩⟩
theorem Rel.grow{K:Q2p}{φ:List Q0u}{S:q0b}{H H2:Hp}(R:Rel K φ S H)(g:∀c o,H c=some o->H2 c=some o):Rel K φ S H2:=
 ⟨R.len,R.nd,fun n a o e q=>(R.obj n a o e q).mono (.grow g) (Q0h _) fun u z=>g _ _ z⟩
theorem z3o{K:Q2p}{φ:List Q0u}{H:Hp}:∀{xs ys:List PV}{vs ws:List V}(as:List Q0u),RVs K H φ xs vs->RVs K H φ ys ws->as.length=min vs.length ws.length->(∀(j:Nat) c x y,as[j]?=some c->vs[j]?=some x->ws[j]?=some y->H c=some (.tup [x,y]))->RVs K H φ (zipP xs ys) (as.map V.ref)
 |[],ys,vs,ws,as,r1,r2,hl,h=>by
  obtain rfl:vs=[]:=r1
  obtain rfl:as=[]:=Q3t.mp (by simpa using hl)
  simp only[zipP,List.zip_nil_left,Q6b];exact rfl
 |x::xs,[],vs,ws,as,r1,r2,hl,h=>by
  obtain rfl:ws=[]:=r2
  obtain rfl:as=[]:=Q3t.mp (by simpa using hl)
  simp only[zipP,List.zip_nil_right,Q6b];exact rfl
 |x::xs,y::ys,_,_,as,⟨u,us,e1,ru,r1⟩,⟨v,vs,e2,rv,r2⟩,hl,h=>by
  subst e1 e2
  cases as with
  |nil=>simp at hl
  |cons c as=>
   refine⟨.ref c,as.map V.ref,rfl,⟨c,_,rfl,SqT.of (h 0 c u v rfl rfl rfl),.cons ru (.one rv)⟩,z3o as r1 r2 (by simp at hl ⊢;omega) fun j a b d h1 h2 h3=>h (j+1) a b d (by simpa using h1) (by simpa using h2) (by simpa using h3)⟩
theorem y1v{X:Cx}{G:GX}{pos:Pos}{a b:Expr}{wa:WA}{p p2 pos2:Pos}(hc:X.calm=true)(hm:X.mg "list" = none)(hm2:X.mg "zip" = none)(ha:SimA X G [a,b] wa)(hg:Gl X "list" :=by rfl)(hg2:Gl X "zip" :=by rfl)
  (he:Q1m [.Call (.Name "zip" p2) [a,b] [] pos2] X.env=(false,eval (.Call (.Name "zip" p2) [a,b] [] pos2) X.env)::Q1m [] X.env:=by rfl) (hs:Q1m [a,b] X.env=[(false,eval a X.env),(false,eval b X.env)]:=by rfl) (hs2:Q1m [b] X.env=[(false,eval b X.env)]:=by rfl) :
  SimE X G (.Call (.Name "list" p) [.Call (.Name "zip" p2) [a,b] [] pos2] [] pos) (y9y wa):=
 (y7s hc ha hm hm2 hg hg2 he hs hs2).imp fun σV H Q hh1=>by obtain⟨φ,σ,S,Q0,L,R,h,k⟩:=hh1;exact(⟨φ,σ,S,_,L,R,h,fun vs S1 φ1 H1 xs q p1 m1 R1 r1=>by
  obtain ⟨m,n,us,ws,rfl,e1,e2,_,q⟩:=q
  obtain ⟨y1,y2,rfl,g1,g2⟩:=q5v r1
  obtain ⟨c1,rfl,f1⟩:=g1
  obtain ⟨c2,rfl,f2⟩:=g2
  obtain ⟨us',ea,ra⟩:=R1.lst f1 e1
  obtain ⟨ws',eb,rb⟩:=R1.lst f2 e2
  refine ⟨false,false,c1,c2,us',ws',rfl,SqL.of ea,SqL.of eb,fun as H2 p0 hl gr hp fr=>?_⟩
  have mg:Mono H1 H2:=.grow gr
  exact ((k.up p1 m1).up (Q0h _) mg).lst q (R1.grow gr) (z3o as (RVs.mono mg (Q0h _) _ _ ra) (RVs.mono mg (Q0h _) _ _ rb) hl hp) p0 fr⟩)
section
variable{X:Cx}{G:GX}{pos:Pos}
def z9e:FM:=fun x xs S Q=>∃n y zs j,x=.ref n/\xs=[y]/\q1p S n=some zs/\(okEq y/\q2m zs)/\zs.length<=100000/\(∃z,zs[j]?=some z/\eqB z y=true)/\(∀i z,i<j->zs[i]?=some z->eqB z y=false)/\Q (.int (j:Nat)) S
open Classical in
theorem z5d(hu:X.A.units+200<cLine):MtR X "list.index" (liftM X.K z9e):=by
 rintro pins s σ H x xs v us Q I rx rs ⟨φ,S,px,pxs,Q0,R,hx,hxs,h,k⟩
 obtain⟨n,y,zs,j,rfl,rfl,es,⟨oy,oz⟩,hl,⟨z,hz,hzy⟩,hno,q⟩:=h
 obtain⟨a,rfl,qa⟩:=hx
 obtain⟨y',rfl,ry⟩:=q0v hxs
 obtain⟨vs,sa,ra⟩:=R.seq qa es
 cases rx
 obtain⟨its,r3,p3,_⟩:=I.list sa
 cases rs with
 |@cons _ u _ _ r1 r2=>
  cases r2
  have key:∀(i:Nat) w z,its[i]?=some w->zs[i]?=some z->∃z',RV X.K H φ z z'/\RelV z' w:=fun i w z h1 h2=>by
   obtain⟨z',g,q⟩:=ra.get h2
   obtain⟨w',g',q'⟩:=r3.get g
   rw[h1]at g'
   cases g'
   exact⟨z',q,q'⟩
  have ev:∀(i:Nat) w z,its[i]?=some w->zs[i]?=some z->decide (∃(i:Nat)(z:PV),its[i]?=some w/\zs[i]?=some z/\eqB z y=true)=eqB z y:=fun i w z e1 e2=>by
   obtain⟨z',q1,q2⟩:=key i w z e1 e2
   cases hb:eqB z y with
   |true=>exact decide_eq_true ⟨i,z,e1,e2,hb⟩
   |false=>
    refine decide_eq_false ?_
    rintro⟨i2,z2,h1,h2,h3⟩
    obtain⟨z2',g,g'⟩:=key i2 w z2 h1 h2
    have:=g'.inj q2
    subst this
    have:=RV.inj I _ _ _ (q0n oz.1 h2) (q0n oz.1 e2) g q1
    rw[this,hb]at h3
    cases h3
  have ll:zs.length=its.length:=by rw[ra.length,r3.length]
  have hj:j<its.length:=by rw[<-ll];exact(Q0s.mp hz).1
  obtain⟨o,n0,ho,hc,hdd,hdat⟩:=p3
  obtain⟨oc,od,odat,osl⟩:=o
  cases(show oc=.type "list" from hc)
  cases(show od=none from hdd)
  cases(show odat=.seq its.toArray n0 from hdat)
  have hT:s.TypeIs (.ref a) "list" :=⟨_,ho,rfl⟩
  refine Z0f PySem.F.slot_list_index hT PySem.F.entry_list_index (PySem.F.args_list_index_2 _ _) ((SeqAt.list_indexAt a its.toArray n0 none osl u (fun w=>decide (∃(i:Nat)(z:PV),its[i]?=some w/\zs[i]?=some z/\eqB z y=true)) j (by simpa using hj) (by omega) ?_ ?_).inModel _ _) ⟨ho,fun w hw=>?_,⟨.int j,H,I.tok _,⟨_,rfl⟩,k _ S φ H _ q (Q0h _) (.refl _) R rfl⟩⟩
  ·rw[ev j _ z (by simp[hj]) hz]
   exact hzy
  ·intro m hm hmj
   have hm':m<its.length:=by simpa using hm
   have hz':zs[m]?=some (zs[m]'(by omega)):=Q0e _
   rw[ev m _ _ (by simp[hm']) hz']
   exact hno m _ hmj hz'
  ·have hm:w∈its:=by simpa using hw
   obtain⟨i,hi,e⟩:=Q6e.mp hm
   have e1:its[i]?=some w:=by rw[Q0e hi,e]
   have e2:zs[i]?=some (zs[i]'(by omega)):=Q0e _
   obtain⟨z',q1,q2⟩:=key i w _ e1 e2
   have hdd:=q2u e2
   have o2:=oz.2
   rw[ev i w _ e1 e2]
   exact q7m I 190 X.A.in1 _ y z' y' w u (q0n oz.1 e2) oy.1 (by omega) (by rw[q2j];omega) q1 ry q2 r1
end
section
variable{X:Cx}{G:GX}{pos:Pos}
end
end Ev
namespace Ev
open PySem PySem.Spec PyProof.Rows L2 PySem.Builtin.Str
section
variable{X:Cx}{G:GX}{pos:Pos}
end
end Ev
namespace Ev
open PySem PySem.Spec PyProof.Rows L2
section
variable{X:Cx}
def cEqE:F2:=fun x y S Q=>∃xs m,x=.frl xs/\y=.ref m/\q1p S m=some []/\Q (.bl xs.isEmpty) S
theorem y8b(hu:X.A.units+200<cLine):OpR X (compareOp .Eq) (q2n X.K cEqE):=by
 rintro pins s σ H x y v u Q I rx ry ⟨φ,S,px,py,Q0,R,hx,hy,h,k⟩
 obtain⟨xs,m,rfl,rfl,e2,h⟩:=h
 obtain⟨a,vs,rfl,sa,ra⟩:=hx
 obtain⟨b,rfl,qb⟩:=hy
 obtain⟨ws,sb,rb⟩:=R.seq qb e2
 cases rx
 cases ry
 obtain⟨its,r1,p1,_⟩:=I.list sa.sq
 obtain⟨its2,r2,p2,_⟩:=I.list sb
 have l2:its2.length=0:=by rw[<-r2.length,<-rb.length];rfl
 have l1:its.length=xs.length:=by rw[<-r1.length,<-ra.length]
 cases xs with
 |nil=>
  have hz:its.toArray.size=its2.toArray.size:=by rw[Q0g,Q0g,l1,l2];rfl
  refine Z3n (e:=fun _=>true) p1.isList p2.isList hz (by omega) (fun j h1 h2=>?_) (q5l I k R h (by rw[Q0g,l1];rfl))
  rw[Q0g,l1]at h1
  exact absurd h1 (Nat.not_lt_zero _)
 |cons z zs=>
  have hz:(its.toArray.size != its2.toArray.size)=true:=by rw[Q0g,Q0g,l1,l2];simp
  exact Z0r p1.isList p2.isList hz (by omega) (q5l I k R h rfl)
end
end Ev
namespace Ev
open PySem L2
def c2In(chk:q0b->Prop)(g:WG)(we:WE)(Z:List PV->Loc->q0b->Prop):List PV->List PV->Loc->q0b->Prop
 |[],ys,σ,S=>chk S/\Z ys σ S
 |x::r,ys,σ,S=>chk S/\ys.length<Q0l/\∃N:List PV->Loc->q0b->Prop,(∀ys' σ' S',N ys' σ' S'->c2In chk g we Z r ys' σ' S')/\g x σ S NoX fun σ2 S2=>we σ2 S2 NoX fun y S4=>N (ys++[y]) σ2 S4
def c2Go(chk:q0b->Prop)(g1:WG)(wi2:WI)(g2:WG)(we:WE)(Q:VC):List PV->List PV->Loc->q0b->Prop
 |[],ys,_,S=>chk S/\ys.length<=Q0l/\Q (.ref S.length) (S++[.lst ys])
 |x::r,ys,σ,S=>chk S/\∃N:List PV->Loc->q0b->Prop,(∀ys' σ' S',N ys' σ' S'->c2Go chk g1 wi2 g2 we Q r ys' σ' S')/\g1 x σ S NoX fun σ2 S2=>wi2 σ2 S2 NoX fun it S3=>c2In it.chk g2 we N it.xs ys σ2 S3
def q9d(wi:WI)(ix:List (Option Nat))(g1:WG)(wi2:WI)(g2:WG)(we:WE):WE:=fun σ S E Q=>wi σ S E fun it S1=>c2Go it.chk g1 wi2 g2 we Q it.xs [] (q6o ix σ) S1
section
variable{X:Cx}{G:GX}{pos:Pos}
theorem x6q{g2:WG}{we:WE}{it:PIt}{J:It}{K:Q2p}{φ:List Q0u}{H:Hp}{σ:Loc}{σV:St}{S:q0b}{pys:List PV}{ys:List V}{N:List PV->Loc->q0b->Prop}{Z:List V->St->Hp->Prop}(L:LRel K NoG H φ σ σV)(R:Rel K φ S H)(r:RVs K H φ pys ys)(hj:ItR K φ H J it)(h:c2In it.chk g2 we N it.xs pys σ S)
  (hZ:∀φ' H' S' σ' σV' pys' ys',φ <+: φ'->Mono H H'->LRel K NoG H' φ' σ' σV'->Rel K φ' S' H'->RVs K H' φ' pys' ys'->N pys' σ' S'->Z ys' σV' H'):y1c J (q6i K NoG g2) (q3k K NoG we) ys σV H Z:=by
 refine⟨fun j zs σV' H'=>∃φ' σ' S' pzs,φ <+: φ'/\Mono H H'/\LRel K NoG H' φ' σ' σV'/\Rel K φ' S' H'/\RVs K H' φ' pzs zs/\c2In it.chk g2 we N (it.xs.drop j) pzs σ' S',it.xs.length,⟨φ,σ,S,pys,Q0h _,.refl _,L,R,r,by simpa using h⟩,?_⟩
 rintro j zs σV' H' hj' ⟨φ',σ',S',pzs,p',m',L',R',rz,hf⟩
 by_cases hlt:j<it.xs.length
 ·rw[Q2g hlt]at hf
  obtain⟨hch,hz,M,hM,hb⟩:=hf
  obtain⟨jg,jy⟩:=hj.go φ' H' S' p' m' R' hch j _ (Q0e hlt)
  refine .inr ⟨hlt,by rw[<-rz.length];exact hz,jg,fun y H2 hy=>?_⟩
  obtain⟨φ2,p2,m2,R2,r2⟩:=jy y H2 hy
  refine⟨φ2,_,σ',S',_,L'.mono m2 p2,R2,r2,hb,fun σ3 S3 φ3 H3 σ3V q3 p3 m3 R3 L3=>?_⟩
  refine⟨φ3,σ3,S3,_,L3,R3,q3,fun z S5 φ5 H5 z' q5 p5 m5 R5 r5=>?_⟩
  exact⟨φ5,σ3,S5,pzs++[z],((p'.trans p2).trans p3).trans p5,((m'.trans m2).trans m3).trans m5,L3.mono m5 p5,R5,(RVs.mono ((m2.trans m3).trans m5) ((p2.trans p3).trans p5) _ _ rz).append (.one r5),hM _ _ _ q5⟩
 ·have e:j=it.xs.length:=by omega
  subst e
  rw[Q7l]at hf
  exact .inl ⟨hj.stop φ' H' S' p' m' R' hf.1 _ (Q0k _),hZ φ' H' S' σ' σV' pzs zs p' m' L' R' rz hf.2⟩
theorem x6r{wi wi2:WI}{g1 g2:WG}{we:WE}{ix:List (Option Nat)}{σV:St}{H:Hp}{Q:VK}(h:q3k X.K G (q9d wi ix g1 wi2 g2 we) σV H Q):y4j (z1w X.K G wi) ix (q6i X.K NoG g1) (z1w X.K NoG wi2) (q6i X.K NoG g2) (q3k X.K NoG we) σV H Q:=by
 obtain⟨φ,σ,S,Q0,L,R,h,k⟩:=h
 refine⟨φ,σ,S,_,L,R,h,fun it S1 φ1 H1 J q p1 m1 R1 hj=>?_⟩
 refine⟨fun i ys σV' H'=>∃φ' σ' S' pys,φ1 <+: φ'/\Mono H1 H'/\LRel X.K NoG H' φ' σ' σV'/\Rel X.K φ' S' H'/\RVs X.K H' φ' pys ys/\c2Go it.chk g1 wi2 g2 we Q0 (it.xs.drop i) pys σ' S',it.xs.length,⟨φ1,_,S1,[],Q0h _,.refl _,z0m ix (L.mono m1 p1),R1,rfl,by simpa using q⟩,?_⟩
 rintro i ys σV' H' hi ⟨φ',σ',S',pys,p',m',L',R',rys,hf⟩
 by_cases hlt:i<it.xs.length
 ·rw[Q2g hlt]at hf
  obtain⟨hch,N,hN,hb⟩:=hf
  obtain⟨jg,jy⟩:=hj.go φ' H' S' p' m' R' hch i _ (Q0e hlt)
  refine .inr ⟨hlt,jg,fun y H2 hy=>?_⟩
  obtain⟨φ2,p2,m2,R2,r2⟩:=jy y H2 hy
  refine⟨φ2,_,σ',S',_,L'.mono m2 p2,R2,r2,hb,fun σ3 S3 φ3 H3 σ3V q3 p3 m3 R3 L3=>?_⟩
  refine⟨φ3,σ3,S3,_,L3,R3,q3,fun it2 S4 φ4 H4 J2 q4 p4 m4 R4 hj2=>?_⟩
  have pp:=((p'.trans p2).trans p3).trans p4
  have mm:=((m'.trans m2).trans m3).trans m4
  refine x6q (L3.mono m4 p4) R4 (RVs.mono ((m2.trans m3).trans m4) ((p2.trans p3).trans p4) _ _ rys) hj2 q4 fun φ5 H5 S5 σ5 σ5V pys5 ys5 p5 m5 L5 R5 r5 n5=>?_
  exact⟨φ5,σ5,S5,pys5,pp.trans p5,mm.trans m5,L5,R5,r5,hN _ _ _ n5⟩
 ·have e:i=it.xs.length:=by omega
  subst e
  rw[Q7l]at hf
  exact .inl ⟨hj.stop φ' H' S' p' m' R' hf.1 _ (Q0k _),by rw[<-rys.length];exact hf.2.1,(k.up (p1.trans p') (m1.trans m')).lst hf.2.2 R' rys⟩
theorem z7f{t1 i1 t2 i2 elt:Expr}{scope:Q5b}{wi wi2:WI}{g1 g2:WG}{we:WE}(N':List Str)(ix:List (Option Nat))(hc:X.calm=true)(co:CompOk X scope N' ix)(hi:SimI X G t1 i1 wi)(hg:∀cl C s H fp,SimG (X.comp scope N' cl C s H fp) NoG t1 g1)(hi2:∀cl C s H fp,SimI (X.comp scope N' cl C s H fp) NoG t2 i2 wi2)(hg2:∀cl C s H fp,SimG (X.comp scope N' cl C s H fp) NoG t2 g2)(he:∀cl C s H fp,SimE (X.comp scope N' cl C s H fp) NoG elt we)
  (hs:∀x,foldedSetIterable i1 X.env x=pure x:=by intro _;rfl) (hs2:∀env x,foldedSetIterable i2 env x=pure x:=by intro _ _;rfl):SimE X G (.ListComp elt [⟨t1,i1,[],0⟩,⟨t2,i2,[],0⟩] scope pos) (q9d wi ix g1 wi2 g2 we):=
 (y2u (g1:=q6i X.K NoG g1) (wi2:=z1w X.K NoG wi2) (g2:=q6i X.K NoG g2) (te:=q3k X.K NoG we) hc co hi hg hi2 hg2 he hs hs2).imp fun σV H Q h=>x6r h
theorem z1n{tg a b:Expr}{wa:WA}{p:Pos}(hm:X.mg "range" = none)(ha:SimA X G [a,b] wa)(hg:Gl X "range" :=by rfl)(hs:Q1m [a,b] X.env=[(false,eval a X.env),(false,eval b X.env)]:=by rfl)(hs2:Q1m [b] X.env=[(false,eval b X.env)]:=by rfl):SimI X G tg (.Call (.Name "range" p) [a,b] [] pos) (q4g wa):=
 PI.imp (z8g hg hm ha hs hs2) fun σV H Q hh1=>by obtain⟨φ,σ,S,Q0,L,R,h,k⟩:=hh1;exact(⟨φ,σ,S,_,L,R,h,fun v S1 φ1 H1 x q p1 m1 R1 r1=>by
  split at q
  ·rename_i i j
   obtain ⟨y,z,rfl,r,r'⟩:=q5v r1
   cases r
   cases r'
   exact ⟨i,j,rfl,q.1,k _ S1 φ1 H1 _ q.2 p1 m1 R1 z0c⟩
  ·exact q.elim⟩)
end
end Ev
namespace So
open PySem PySem.W PyProof.Rows
def q3l:Bool->Keyed->Array Keyed->Nat->Nat->Nat->StateT SortSt Sem (Option Nat):=sortPriv% PySem.Builtin.gallop
def q1g:Nat->StateT SortSt Sem Unit:=sortPriv% PySem.Builtin.setMinGallop
def q8f:Array Keyed->Array Keyed->StateT SortSt Sem (Array Keyed):=sortPriv% PySem.Builtin.mergeLo
def q8g:Array Keyed->Array Keyed->StateT SortSt Sem (Array Keyed):=sortPriv% PySem.Builtin.mergeHi
def bynd(left:Bool)(key:Q2a)(arr:Array Q2a)(base i:Nat):StateT Q1i Sem (Option Bool):=do
 let x <-elem' arr (base+i)
 if left then lt' x key else return (<-lt' key x).map (!·)
def gfin(left:Bool)(key:Q2a)(arr:Array Q2a)(base n lo0 hi0:Nat):StateT Q1i Sem (Option Nat):=do
 let mut lo:=lo0
 let mut hi:=hi0
 for _ in [0:n] do
  if lo>=hi then break
  let m:=lo+(hi-lo) / 2
  let some more <-bynd left key arr base m|return none
  if more then lo:=m+1 else hi:=m
 return some hi
theorem z5q(left:Bool)(key:Q2a)(arr:Array Q2a)(base n hint:Nat):q3l left key arr base n hint=(do
 let mut lastofs:=0
 let mut ofs:=1
 let some right <-bynd left key arr base hint|return none
 if right then
  for _ in [0:n] do
   if ofs>=n-hint then break
   let some more <-bynd left key arr base (hint+ofs)|return none
   if !more then break
   lastofs:=ofs
   ofs:=2*ofs+1
  gfin left key arr base n (hint+lastofs+1) (hint+min ofs (n-hint))
 else
  for _ in [0:n] do
   if ofs>=hint+1 then break
   let some found <-bynd left key arr base (hint-ofs)|return none
   if found then break
   lastofs:=ofs
   ofs:=2*ofs+1
  gfin left key arr base n (hint+1-min ofs (hint+1)) (hint-lastofs)):=rfl
section
variable{prog:Q1e}{w:Q1x}{A:Q1t}{E:Q0b->Q0d->Prop}{σ:Type}
def FS{β:Type}(Q:β->σ->Q0d->Prop)(I:β->σ->Q0d->Prop)(r:ForInStep β)(st':σ)(s':Q0d):Prop:=match r with|.done b'=>Q b' st' s'|.yield b'=>I b' st' s'
theorem q0y{M:Z1b}{β:Type}{l:List Nat}{b:β}{f:Nat->β->StateT σ Sem (ForInStep β)}{Q:β->σ->Q0d->Prop}{st:σ}{s:Q0d}(I:Nat->β->σ->Q0d->Prop)(h0:I l.length b st s)
  (step:∀x n b st s,I (n+1) b st s->kasC M A E (f x b) (FS Q (I n)) st s) (fin:∀b st s,I 0 b st s->Q b st s):kasC M A E (forIn l b f) Q st s:=by
 induction l generalizing b st s with
 |nil=>exact kasC_nil (fin _ _ _ h0)
 |cons x l ih=>
  refine kasC_cons (Q1p (step x l.length b st s h0) (fun r s' q=>?_) fun _ _ z=>z)
  obtain⟨r,st'⟩:=r
  cases r with
  |done b'=>exact q
  |yield b'=>exact ih q
theorem y3l{M:Z1b}{Q:PUnit->σ->Q0d->Prop}{st st':σ}{s:Q0d}(h:Q ⟨⟩ st' s):kasC M A E (set st':StateT σ Sem PUnit) Q st s:=by
 unfold kasC;rw[StateT.run_set];exact Q0f h
theorem q3a{M:Z1b}{α:Type}{m:StateT σ Sem α}{Q Q':α->σ->Q0d->Prop}{st:σ}{s:Q0d}(h:kasC M A E m Q st s)(i:∀a st' s',Q a st' s'->Q' a st' s'):kasC M A E m Q' st s:=Q1p h (fun r s' q=>i _ _ _ q) fun _ _ z=>z
def CmpJ(prog:Q1e)(w:Q1x)(A:Q1t)(κ:Q7y)(it:Q2a->Prop)(J:Q0d->Prop):Prop:=
 ∀x y s,it x->it y->J s->Q1d (model prog w) A (keyLt' κ x.1 y.1) (fun _ s'=>J s') (fun _ _=>False) s
variable{κ:Q7y}{it:Q2a->Prop}{J:Q0d->Prop}
theorem z9g(c:CmpJ prog w A κ it J){x y:Q2a}{Q:Option Bool->Q1i->Q0d->Prop}{st:Q1i}{s:Q0d}(hk:kindOf st=κ)(hx:it x)(hy:it y)(j:J s)(q:∀b s',J s'->Q (some b) st s'):kasC (model prog w) A E (lt' x y) Q st s:=by
 rw[lt'_eq]
 have h:=c x y s hx hy j
 rw[<-hk]at h
 refine Q0r (Q7g (Q0r (Q8q (Q5z (Q1p h (fun b s' jb=>?_) fun _ _ z=>z.elim)))))
 exact Q0z (q b s' jb)
theorem q0q{M:Z1b}{arr:Array Q2a}{i:Nat}{x:Q2a}{Q:Q2a->Q1i->Q0d->Prop}{st:Q1i}{s:Q0d}(e:arr[i]?=some x)(q:Q x st s):kasC M A E (elem' arr i) Q st s:=by
 rw[elem'_eq,e];exact Q0z q
theorem q3b(c:CmpJ prog w A κ it J){left:Bool}{key:Q2a}{arr:Array Q2a}{base n hint:Nat}{Q:Option Nat->Q1i->Q0d->Prop}{st:Q1i}{s:Q0d}(hk:kindOf st=κ)(hy:it key)(ha:∀i,i<n->∃x,arr[base+i]?=some x/\it x)
  (hh:hint<n) (j:J s) (q:∀k s',k<=n->J s'->Q (some k) st s'):kasC (model prog w) A E (q3l left key arr base n hint) Q st s:=by
 have bey:∀(i:Nat)(s:Q0d)(R:Option Bool->Q1i->Q0d->Prop),i<n->J s->(∀b s',J s'->R (some b) st s')->kasC (model prog w) A E (bynd left key arr base i) R st s:=fun i s R hi j r=>by
  obtain⟨x,e,hx⟩:=ha i hi
  unfold bynd
  refine Q0r (q0q e ?_)
  cases left with
  |true=>rw[if_pos rfl];exact z9g c hk hx hy j r
  |false=>rw[if_neg (by decide)];exact Q0r (z9g c hk hy hx j fun b s' j'=>Q0z (r (!b) s' j'))
 rw[z5q]
 refine Q0r (bey hint s _ hh j fun b s1 j1=>?_)
 have fin:∀(lo hi:Nat)(s:Q0d),hi<=n->J s->kasC (model prog w) A E (gfin left key arr base n lo hi) Q st s:=fun lo hi s hh j=>by
  unfold gfin
  refine Q0r (Q3u (q0y (fun _ b st' s'=>b.1=none/\b.2.2<=n/\st'=st/\J s') ⟨rfl,hh,rfl,j⟩ ?_ ?_))
  ·rintro x m ⟨r,l,h⟩ st' s' ⟨rfl,hn,rfl,j'⟩
   dsimp only at hn ⊢
   split
   ·exact Q0z (Q0z (q _ _ hn j'))
   ·refine Q0r (bey _ _ _ (by omega) j' fun b s2 j2=>?_)
    cases b<;>exact Q0z ⟨rfl,by dsimp only;omega,rfl,j2⟩
  ·rintro⟨r,l,h⟩ st' s' ⟨rfl,hn,rfl,j'⟩
   exact Q0z (q _ _ hn j')
 cases b with
 |true=>
  dsimp only
  rw[if_pos rfl]
  refine Q0r (Q3u (q0y (fun _ b st' s'=>b.1=none/\hint+b.2.1<n/\st'=st/\J s') ⟨rfl,by dsimp only;omega,rfl,j1⟩ ?_ ?_))
  ·rintro x m ⟨r,l,o⟩ st' s' ⟨rfl,hn,rfl,j'⟩
   dsimp only at hn ⊢
   split
   ·refine Q0z (?_:kasC _ _ _ _ _ _ _);refine fin _ _ _ ?_ j';omega
   ·refine Q0r (bey _ _ _ (by omega) j' fun b s2 j2=>?_)
    cases b
    ·refine Q0z (?_:kasC _ _ _ _ _ _ _);refine fin _ _ _ ?_ j2;omega
    ·exact Q0z ⟨rfl,by dsimp only;omega,rfl,j2⟩
  ·rintro⟨r,l,o⟩ st' s' ⟨rfl,hn,rfl,j'⟩
   refine fin _ _ _ ?_ j';dsimp only at *;omega
 |false=>
  dsimp only
  rw[if_neg (by decide)]
  refine Q0r (Q3u (q0y (fun _ b st' s'=>b.1=none/\st'=st/\J s') ⟨rfl,rfl,j1⟩ ?_ ?_))
  ·rintro x m ⟨r,l,o⟩ st' s' ⟨rfl,rfl,j'⟩
   dsimp only
   split
   ·refine Q0z (?_:kasC _ _ _ _ _ _ _);refine fin _ _ _ ?_ j';omega
   ·refine Q0r (bey _ _ _ (by omega) j' fun b s2 j2=>?_)
    cases b
    ·exact Q0z ⟨rfl,rfl,j2⟩
    ·refine Q0z (?_:kasC _ _ _ _ _ _ _);refine fin _ _ _ ?_ j2;omega
  ·rintro⟨r,l,o⟩ st' s' ⟨rfl,rfl,j'⟩
   refine fin _ _ _ ?_ j';dsimp only at *;omega
end
def q3y(a b out:Array Q2a)(ia ib:Nat):Array Q2a:=out++a.extract ia a.size++b.extract ib b.size
def q7e(a b out:Array Q2a)(ia ib:Nat):Array Q2a:=out++b.extract ib b.size++a.extract ia a.size
theorem q5i(g:Nat):q1g g=modify fun s=>Q1i.mk' (kindOf s) (arrOf s) (pendingOf s) g (failedOf s):=rfl
abbrev T1:=Option (Array Q2a)×Array Q2a×Nat×Nat×Nat×Nat
abbrev T2:=Option (Array Q2a)×Array Q2a×Nat×Nat×Nat×Nat×Nat
abbrev T0:=Option (Array Q2a)×Array Q2a×Nat×Nat×Nat
def mlB1(a b:Array Q2a)(mg:Nat)(s:T1):StateT Q1i Sem (ForInStep T1):=do
 let y <-elem' b s.2.2.2.1
 let x <-elem' a s.2.2.1
 let r <-lt' y x
 match r with
 |some bWins=>
  if bWins=true then do
   let v <-elem' b s.2.2.2.1
   if(s.2.2.2.1+1==b.size)=true then pure (.done (some (q3y a b (s.2.1.push v) s.2.2.1 (s.2.2.2.1+1)),s.2.1.push v,s.2.2.1,s.2.2.2.1+1,0,s.2.2.2.2.2+1))
   else if s.2.2.2.2.2+1>=mg then pure (.done (none,s.2.1.push v,s.2.2.1,s.2.2.2.1+1,0,s.2.2.2.2.2+1))else pure (.yield (none,s.2.1.push v,s.2.2.1,s.2.2.2.1+1,0,s.2.2.2.2.2+1))
  else do
   let v <-elem' a s.2.2.1
   if(s.2.2.1+1+1==a.size)=true then pure (.done (some (q7e a b (s.2.1.push v) (s.2.2.1+1) s.2.2.2.1),s.2.1.push v,s.2.2.1+1,s.2.2.2.1,s.2.2.2.2.1+1,0))
   else if s.2.2.2.2.1+1>=mg then pure (.done (none,s.2.1.push v,s.2.2.1+1,s.2.2.2.1,s.2.2.2.2.1+1,0))else pure (.yield (none,s.2.1.push v,s.2.2.1+1,s.2.2.2.1,s.2.2.2.2.1+1,0))
 |_=>pure (.done (some (q3y a b s.2.1 s.2.2.1 s.2.2.2.1),s.2.1,s.2.2.1,s.2.2.2.1,s.2.2.2.2.1,s.2.2.2.2.2))
def mlT2(a b:Array Q2a)(mg ac k:Nat)(out:Array Q2a)(ia ib:Nat):StateT Q1i Sem (ForInStep T2):=do
 let x <-elem' a ia
 if(ia+1+1==a.size)=true then pure (.done (some (q7e a b (out.push x) (ia+1) ib),out.push x,ia+1,ib,mg,ac,k))
 else if(decide (ac<7)&&decide (k<7))=true then pure (.done (none,out.push x,ia+1,ib,mg,ac,k))else pure (.yield (none,out.push x,ia+1,ib,mg,ac,k))
def mlT1(a b:Array Q2a)(mg ac bc:Nat)(out:Array Q2a)(ia ib:Nat):StateT Q1i Sem (ForInStep T2):=do
 let x <-elem' b ib
 if(ib+1==b.size)=true then pure (.done (some (q3y a b (out.push x) ia (ib+1)),out.push x,ia,ib+1,mg,ac,bc))
 else do
  let y <-elem' a ia
  let r <-q3l true y b (ib+1) (b.size-(ib+1)) 0
  match r with
  |some k=>if k > 0 then(if(ib+1+k==b.size)=true then pure (.done (some (q3y a b (out.push x++b.extract (ib+1) (ib+1+k)) ia (ib+1+k)),out.push x++b.extract (ib+1) (ib+1+k),ia,ib+1+k,mg,ac,k))
    else mlT2 a b mg ac k (out.push x++b.extract (ib+1) (ib+1+k)) ia (ib+1+k))else mlT2 a b mg ac k (out.push x) ia (ib+1)
  |_=>pure (.done (some (q3y a b (out.push x) ia (ib+1)),out.push x,ia,ib+1,mg,ac,bc))
def mlT0(a b:Array Q2a)(mg ac bc:Nat)(out:Array Q2a)(ia ib:Nat):StateT Q1i Sem (ForInStep T2):=do
 q1g mg
 let y <-elem' b ib
 let r <-q3l false y a ia (a.size-ia) 0
 match r with
 |some k=>if k > 0 then(if(ia+k+1==a.size)=true then pure (.done (some (q7e a b (out++a.extract ia (ia+k)) (ia+k) ib),out++a.extract ia (ia+k),ia+k,ib,mg,k,bc))
   else if (ia+k==a.size)=true then pure (.done (some (q3y a b (out++a.extract ia (ia+k)) (ia+k) ib),out++a.extract ia (ia+k),ia+k,ib,mg,k,bc))
   else mlT1 a b mg k bc (out++a.extract ia (ia+k)) (ia+k) ib)else mlT1 a b mg k bc out ia ib
 |_=>pure (.done (some (q3y a b out ia ib),out,ia,ib,mg,ac,bc))
def mlB2(a b:Array Q2a)(s:T2):StateT Q1i Sem (ForInStep T2):=
 if s.2.2.2.2.1 > 1 then mlT0 a b (s.2.2.2.2.1-1) s.2.2.2.2.2.1 s.2.2.2.2.2.2 s.2.1 s.2.2.1 s.2.2.2.1 else mlT0 a b s.2.2.2.2.1 s.2.2.2.2.2.1 s.2.2.2.2.2.2 s.2.1 s.2.2.1 s.2.2.2.1
def mlB0(a b:Array Q2a)(s:T0):StateT Q1i Sem (ForInStep T0):=do
 let r <-forIn [0:a.size+b.size] ((none,s.2.1,s.2.2.1,s.2.2.2.1,0,0):T1) fun _ r=>mlB1 a b s.2.2.2.2 r
 match r.1 with
 |some x=>pure (.done (some x,r.2.1,r.2.2.1,r.2.2.2.1,s.2.2.2.2))
 |none=>do
  liftM (rule "list.sort.gallop")
  let u <-forIn [0:a.size+b.size] ((none,r.2.1,r.2.2.1,r.2.2.2.1,s.2.2.2.2+1,r.2.2.2.2.1,r.2.2.2.2.2):T2) fun _ r=>mlB2 a b r
  match u.1 with
  |some x=>pure (.done (some x,u.2.1,u.2.2.1,u.2.2.2.1,u.2.2.2.2.1))
  |none=>do
   q1g (u.2.2.2.2.1+1)
   pure (.yield (none,u.2.1,u.2.2.1,u.2.2.2.1,u.2.2.2.2.1+1))
theorem z1t(a b:Array Q2a):q8f a b=(do
 rule "list.sort.merge-lo"
 let x <-elem' b 0
 if (1==b.size)=true then pure (q3y a b #[x] 0 1)
 else if (0+1==a.size)=true then pure (q7e a b #[x] 0 1)
 else do
  let st <-get
  let r <-forIn [0:a.size+b.size] ((none,#[x],0,1,gallopOf st):T0) fun _ r=>mlB0 a b r
  match r.1 with
  |some r=>pure r
  |none=>unsupported "internal:list.sort.merge-bound"):=by
 kernel_rfl
section
variable{prog:Q1e}{w:Q1x}{A:Q1t}{E:Q0b->Q0d->Prop}{κ:Q7y}{it:Q2a->Prop}{J:Q0d->Prop}
structure Sam(st st':Q1i):Prop where
 k:kindOf st'=kindOf st
 a:arrOf st'=arrOf st
 p:pendingOf st'=pendingOf st
 f:failedOf st'=failedOf st
theorem Sam.refl(st:Q1i):Sam st st:=⟨rfl,rfl,rfl,rfl⟩
theorem q4k{M:Z1b}{st st0:Q1i}{g:Nat}{s:Q0d}{Q:Unit->Q1i->Q0d->Prop}(h:Sam st0 st)(q:∀st',Sam st0 st'->Q () st' s):kasC M A E (q1g g) Q st s:=by
 rw[q5i]
 exact Q7z (q _ ⟨h.k,h.a,h.p,h.f⟩)
theorem q5p{α:Type}{o A B x:List α}(h:o.Perm (A++B)):(o++x).Perm ((A++x)++B):=
 (h.append_right x).trans (by rw[Q1n,Q1n];exact Q3o.append_left A)
theorem q1o{α:Type}(a:Array α)(i j:Nat):(a.extract i j).toList=(a.toList.drop i).take (j-i):=by simp[List.extract]
theorem q5r{α:Type}(a:Array α)(i:Nat):(a.extract i a.size).toList=a.toList.drop i:=by rw[q1o,Q3z (by simp)]
structure MP(a b out:Array Q2a)(ia ib:Nat):Prop where
 p:out.toList.Perm (a.toList.take ia++b.toList.take ib)
theorem MP.done{a b out:Array Q2a}{ia ib:Nat}(h:MP a b out ia ib):(q3y a b out ia ib).toList.Perm (a.toList++b.toList):=by
 unfold q3y
 rw[Q2b,Q2b,q5r,q5r]
 have h1:=q5p (x:=a.toList.drop ia) h.p
 rw[Q3d]at h1
 have h2:=h1.append_right (b.toList.drop ib)
 rw[Q1n a.toList,Q3d]at h2
 exact h2
theorem MP.last{a b out:Array Q2a}{ia ib:Nat}(h:MP a b out ia ib):(q7e a b out ia ib).toList.Perm (a.toList++b.toList):=by
 unfold q7e
 rw[Q2b,Q2b,q5r,q5r]
 have h1:=h.p.append_right (b.toList.drop ib)
 rw[Q1n,Q3d]at h1
 have h2:=q5p (x:=a.toList.drop ia) h1
 rw[Q3d]at h2
 exact h2
theorem MP.exA{a b out:Array Q2a}{ia ib:Nat}(h:MP a b out ia ib)(k:Nat):MP a b (out++a.extract ia (ia+k)) (ia+k) ib:=⟨by
 rw [Q2b,q1o,Z1k,Q8u]
 exact q5p h.p⟩
theorem MP.exB{a b out:Array Q2a}{ia ib:Nat}(h:MP a b out ia ib)(k:Nat):MP a b (out++b.extract ib (ib+k)) ia (ib+k):=⟨by
 rw [Q2b,q1o,Z1k,Q8u,<-Q1n]
 exact h.p.append_right _⟩
theorem take_one{α:Type}{a:Array α}{i:Nat}{x:α}(e:a[i]?=some x):a.toList.take (i+1)=a.toList.take i++[x]:=by
 rw[Q8u,Z4w,Z4a]
 simp[e]
theorem MP.puA{a b out:Array Q2a}{ia ib:Nat}{x:Q2a}(h:MP a b out ia ib)(e:a[ia]?=some x):MP a b (out.push x) (ia+1) ib:=⟨by
 rw [Q3k,take_one e]
 exact q5p h.p⟩
theorem MP.puB{a b out:Array Q2a}{ia ib:Nat}{x:Q2a}(h:MP a b out ia ib)(e:b[ib]?=some x):MP a b (out.push x) ia (ib+1):=⟨by
 rw [Q3k,take_one e,<-Q1n]
 exact h.p.append_right _⟩
theorem q1c{a:Array Q2a}(ha:∀x∈a,it x){i:Nat}(h:i<a.size):∃x,a[i]?=some x/\it x:=⟨a[i],by simp[h],ha _ (Array.getElem_mem h)⟩
structure MQ(a b:Array Q2a)(st:Q1i)(J:Q0d->Prop)(c0:Nat)(r:Option (Array Q2a))(out:Array Q2a)(ia ib:Nat)(st':Q1i)(s':Q0d):Prop where
 e:∀x,r=some x->x.toList.Perm (a.toList++b.toList)
 n:r=none->MP a b out ia ib/\ia+1<a.size/\ib<b.size/\c0<=ia+ib
 s:Sam st st'
 j:J s'
section
variable(c:CmpJ prog w A κ it J){a b:Array Q2a}{st:Q1i}(hk:kindOf st=κ)(ha:∀x∈a,it x)(hb:∀x∈b,it x)
include c hk ha hb
theorem y8m{mg c0 ia ib ac bc:Nat}{out:Array Q2a}{st1:Q1i}{s:Q0d}{Q:ForInStep T1->Q1i->Q0d->Prop}(h:MQ a b st J c0 none out ia ib st1 s)
  (q:∀r st' s',MQ a b st J (c0+1) (match r with|.done b'=>b'.1|.yield b'=>b'.1) (match r with|.done b'=>b'.2.1|.yield b'=>b'.2.1) (match r with|.done b'=>b'.2.2.1|.yield b'=>b'.2.2.1) (match r with|.done b'=>b'.2.2.2.1|.yield b'=>b'.2.2.2.1) st' s'->(∀b',r=.yield b'->b'.1=none)->Q r st' s') :
  kasC (model prog w) A E (mlB1 a b mg (none,out,ia,ib,ac,bc)) Q st1 s:=by
 obtain⟨hp,h1,h2,h3⟩:=h.n rfl
 obtain⟨x,ex,ix⟩:=q1c ha (show ia<a.size by omega)
 obtain⟨y,ey,iy⟩:=q1c hb h2
 unfold mlB1
 refine Q0r (q0q ey (Q0r (q0q ex (Q0r (z9g c (h.s.k.trans hk) iy ix h.j fun v s1 j1=>?_)))))
 have pb:=hp.puB ey
 have pa:=hp.puA ex
 cases v with
 |true=>
  dsimp only
  rw[if_pos rfl]
  refine Q0r (q0q ey ?_)
  split
  ·exact Q0z (q _ _ _ ⟨fun z e=>(by cases e;exact pb.done),fun e=>(by cases e),h.s,j1⟩ fun _ e=>by cases e)
  ·rename_i nz
   simp only[beq_iff_eq]at nz
   split
   ·exact Q0z (q _ _ _ ⟨fun z e=>(by cases e),fun _=>⟨pb,h1,by dsimp only;omega,by dsimp only;omega⟩,h.s,j1⟩ fun _ e=>by cases e)
   ·exact Q0z (q _ _ _ ⟨fun z e=>(by cases e),fun _=>⟨pb,h1,by dsimp only;omega,by dsimp only;omega⟩,h.s,j1⟩ fun _ e=>by cases e;rfl)
 |false=>
  dsimp only
  rw[if_neg (by decide)]
  refine Q0r (q0q ex ?_)
  split
  ·exact Q0z (q _ _ _ ⟨fun z e=>(by cases e;exact pa.last),fun e=>(by cases e),h.s,j1⟩ fun _ e=>by cases e)
  ·rename_i nz
   simp only[beq_iff_eq]at nz
   split
   ·exact Q0z (q _ _ _ ⟨fun z e=>(by cases e),fun _=>⟨pa,by dsimp only;omega,h2,by dsimp only;omega⟩,h.s,j1⟩ fun _ e=>by cases e)
   ·exact Q0z (q _ _ _ ⟨fun z e=>(by cases e),fun _=>⟨pa,by dsimp only;omega,h2,by dsimp only;omega⟩,h.s,j1⟩ fun _ e=>by cases e;rfl)
abbrev Q2(a b:Array Q2a)(st:Q1i)(J:Q0d->Prop)(c0:Nat)(r:ForInStep T2)(st':Q1i)(s':Q0d):Prop:=match r with
 |.done b'=>MQ a b st J c0 b'.1 b'.2.1 b'.2.2.1 b'.2.2.2.1 st' s'
 |.yield b'=>b'.1=none/\MQ a b st J c0 b'.1 b'.2.1 b'.2.2.1 b'.2.2.2.1 st' s'
theorem z8x{mg c0 ia ib ac k:Nat}{out:Array Q2a}{st1:Q1i}{s:Q0d}(hp:MP a b out ia ib)(h1:ia+1<a.size)(h2:ib<b.size)(h3:c0<=ia+ib)(hs:Sam st st1)(j:J s) :
  kasC (model prog w) A E (mlT2 a b mg ac k out ia ib) (Q2 a b st J c0) st1 s:=by
 obtain⟨x,ex,ix⟩:=q1c ha (show ia<a.size by omega)
 have pa:=hp.puA ex
 unfold mlT2
 refine Q0r (q0q ex ?_)
 split
 ·exact Q0z ⟨fun z e=>(by cases e;exact pa.last),fun e=>(by cases e),hs,j⟩
 ·rename_i nz
  simp only[beq_iff_eq]at nz
  have m:MQ a b st J c0 none (out.push x) (ia+1) ib st1 s:=⟨fun z e=>(by cases e),fun _=>⟨pa,by omega,h2,by omega⟩,hs,j⟩
  split
  ·exact Q0z m
  ·exact Q0z ⟨rfl,m⟩
theorem z8y{mg c0 ia ib ac bc:Nat}{out:Array Q2a}{st1:Q1i}{s:Q0d}(hp:MP a b out ia ib)(h1:ia+1<a.size)(h2:ib<b.size)(h3:c0<=ia+ib)(hs:Sam st st1)(j:J s) :
  kasC (model prog w) A E (mlT1 a b mg ac bc out ia ib) (Q2 a b st J c0) st1 s:=by
 obtain⟨y,ey,iy⟩:=q1c hb h2
 obtain⟨x,ex,ix⟩:=q1c ha (show ia<a.size by omega)
 have pb:=hp.puB ey
 unfold mlT1
 refine Q0r (q0q ey ?_)
 split
 ·exact Q0z ⟨fun z e=>(by cases e;exact pb.done),fun e=>(by cases e),hs,j⟩
 ·rename_i nz
  simp only[beq_iff_eq]at nz
  refine Q0r (q0q ex (Q0r (q3b c (hs.k.trans hk) ix (fun i hi=>q1c hb (by omega)) (by omega) j fun k s2 hk2 j2=>?_)))
  dsimp only
  split
  ·split
   ·exact Q0z ⟨fun z e=>(by cases e;exact(pb.exB k).done),fun e=>(by cases e),hs,j2⟩
   ·rename_i nz2
    simp only[beq_iff_eq]at nz2
    exact z8x c hk ha hb (pb.exB k) h1 (by omega) (by omega) hs j2
  ·exact z8x c hk ha hb pb h1 (by omega) (by omega) hs j2
theorem y8l{mg c0 ia ib ac bc:Nat}{out:Array Q2a}{st1:Q1i}{s:Q0d}(hp:MP a b out ia ib)(h1:ia+1<a.size)(h2:ib<b.size)(h3:c0<=ia+ib)(hs:Sam st st1)(j:J s) :
  kasC (model prog w) A E (mlT0 a b mg ac bc out ia ib) (Q2 a b st J c0) st1 s:=by
 obtain⟨y,ey,iy⟩:=q1c hb h2
 unfold mlT0
 refine Q0r (q4k hs fun st2 hs2=>Q0r (q0q ey (Q0r (q3b c (hs2.k.trans hk) iy (fun i hi=>q1c ha (by omega)) (by omega) j fun k s2 hk2 j2=>?_))))
 dsimp only
 split
 ·split
  ·exact Q0z ⟨fun z e=>(by cases e;exact(hp.exA k).last),fun e=>(by cases e),hs2,j2⟩
  ·rename_i nz
   simp only[beq_iff_eq]at nz
   split
   ·exact Q0z ⟨fun z e=>(by cases e;exact(hp.exA k).done),fun e=>(by cases e),hs2,j2⟩
   ·rename_i nz2
    simp only[beq_iff_eq]at nz2
    exact z8y c hk ha hb (hp.exA k) (by omega) h2 (by omega) hs2 j2
 ·exact z8y c hk ha hb hp h1 h2 h3 hs2 j2
theorem y8n{c0 ia ib mg:Nat}{out:Array Q2a}{st1:Q1i}{s:Q0d}{Q:ForInStep T0->Q1i->Q0d->Prop}(h:MQ a b st J c0 none out ia ib st1 s)
  (q1:∀b' st' s',MQ a b st J (c0+1) b'.1 b'.2.1 b'.2.2.1 b'.2.2.2.1 st' s'->b'.1≠none->Q (.done b') st' s') (q2:∀b' st' s',MQ a b st J (c0+1) none b'.2.1 b'.2.2.1 b'.2.2.2.1 st' s'->b'.1=none->Q (.yield b') st' s') :
  kasC (model prog w) A E (mlB0 a b (none,out,ia,ib,mg)) Q st1 s:=by
 have hz:1<=a.size:=by obtain⟨_,h1,_⟩:=h.n rfl;omega
 unfold mlB0
 refine Q0r (q3a (Q:=fun b' st' s'=>MQ a b st J (c0+1) b'.1 b'.2.1 b'.2.2.1 b'.2.2.2.1 st' s') (Q3u (q0y (fun n b' st' s'=>b'.1=none/\((n=a.size+b.size/\MQ a b st J c0 none b'.2.1 b'.2.2.1 b'.2.2.2.1 st' s')\/MQ a b st J (c0+1) none b'.2.1 b'.2.2.1 b'.2.2.2.1 st' s')) ⟨rfl,.inl ⟨by simp,h⟩⟩ ?_ ?_)) ?_)
 ·rintro x n ⟨r,o,i,k,ac,bc⟩ st2 s2 ⟨rfl,h2⟩
  have h2':MQ a b st J c0 none o i k st2 s2:=by
   rcases h2 with⟨_,h2⟩|h2
   ·exact h2
   ·exact⟨h2.e,fun e=>by obtain⟨z1,z2,z3,z4⟩:=h2.n e;exact⟨z1,z2,z3,by dsimp only at z4 ⊢;omega⟩,h2.s,h2.j⟩
  refine y8m c hk ha hb h2' fun r st3 s3 m my=>?_
  cases r with
  |done b'=>exact m
  |yield b'=>exact⟨my b' rfl,.inr (by have:=my b' rfl;dsimp only at m;rw[this]at m;exact m)⟩
 ·rintro⟨r,o,i,k,ac,bc⟩ st2 s2 ⟨rfl,h2⟩
  rcases h2 with⟨z,_⟩|h2
  ·omega
  ·exact h2
 ·rintro⟨r,o,i,k,ac,bc⟩ st2 s2 m
  dsimp only at m ⊢
  cases r with
  |some x=>exact Q0z (q1 _ _ _ ⟨m.e,fun e=>(by cases e),m.s,m.j⟩ (by simp))
  |none=>
   dsimp only
   refine Q0r (Q8q (Q3p ?_))
   refine Q0r (q3a (Q:=fun b' st' s'=>MQ a b st J (c0+1) b'.1 b'.2.1 b'.2.2.1 b'.2.2.2.1 st' s') (Q3u (q0y (fun n b' st' s'=>b'.1=none/\MQ a b st J (c0+1) none b'.2.1 b'.2.2.1 b'.2.2.2.1 st' s') ⟨rfl,m⟩ ?_ ?_)) ?_)
   ·rintro x n ⟨r,o,i,k,mg,ac,bc⟩ st2 s2 ⟨rfl,h2⟩
    obtain⟨z1,z2,z3,z4⟩:=h2.n rfl
    have fin:∀mg,kasC (model prog w) A E (mlT0 a b mg ac bc o i k) (FS (fun b' st' s'=>MQ a b st J (c0+1) b'.1 b'.2.1 b'.2.2.1 b'.2.2.2.1 st' s') fun b' st' s'=>b'.1=none/\MQ a b st J (c0+1) none b'.2.1 b'.2.2.1 b'.2.2.2.1 st' s') st2 s2:=fun mg=>
     q3a (y8l c hk ha hb z1 z2 z3 z4 h2.s h2.j) fun r st' s' q=>by
      cases r with
      |done b'=>exact q
      |yield b'=>obtain⟨e,q⟩:=q;rw[e]at q;exact⟨e,q⟩
    unfold mlB2
    dsimp only
    split
    ·exact fin _
    ·exact fin _
   ·rintro⟨r,o,i,k,mg,ac,bc⟩ st2 s2 ⟨rfl,h2⟩
    exact h2
   ·rintro⟨r,o,i,k,mg,ac,bc⟩ st2 s2 m
    dsimp only at m ⊢
    cases r with
    |some x=>exact Q0z (q1 _ _ _ ⟨m.e,fun e=>(by cases e),m.s,m.j⟩ (by simp))
    |none=>exact Q0r (q4k m.s fun st4 h4=>Q0z (q2 _ _ _ ⟨m.e,m.n,h4,m.j⟩ rfl))
theorem z5g{Q:Array Q2a->Q1i->Q0d->Prop}{s:Q0d}(a1:1<=a.size)(b1:1<=b.size)(j:J s)
  (q:∀r st' s',r.toList.Perm (a.toList++b.toList)->Sam st st'->J s'->Q r st' s'):kasC (model prog w) A E (q8f a b) Q st s:=by
 rw[z1t]
 obtain⟨y,ey,iy⟩:=q1c hb (show 0<b.size by omega)
 have p0:MP a b #[y] 0 1:=⟨by have:=take_one ey;simp at this ⊢;rw[this]⟩
 refine Q0r (Q8q (Q3p (Q0r (q0q ey ?_))))
 split
 ·exact Q0z (q _ _ _ p0.done (.refl _) j)
 ·rename_i n1
  simp only[beq_iff_eq]at n1
  split
  ·exact Q0z (q _ _ _ p0.last (.refl _) j)
  ·rename_i n2
   simp only[beq_iff_eq]at n2
   refine Q0r (Q7g (Q0r (Q3u (q0y (fun n b' st' s'=>b'.1=none/\n<=a.size+b.size/\MQ a b st J (a.size+b.size+1-n) none b'.2.1 b'.2.2.1 b'.2.2.2.1 st' s') ⟨rfl,by simp,?_⟩ ?_ ?_))))
   ·exact⟨fun z e=>(by cases e),fun _=>⟨p0,by dsimp only;omega,by dsimp only;omega,by dsimp only;simp⟩,.refl _,j⟩
   ·rintro x n ⟨r,o,i,k,mg⟩ st2 s2 ⟨rfl,hn,m⟩
    refine y8n c hk ha hb m (fun b' st' s' m' ne=>?_) fun b' st' s' m' e=>⟨e,by omega,by rw[show a.size+b.size+1-n=a.size+b.size+1-(n+1)+1 by omega];exact m'⟩
    obtain⟨r,rest⟩:=b'
    cases r with
    |none=>exact absurd rfl ne
    |some x=>exact Q0z (q _ _ _ (m'.e x rfl) m'.s m'.j)
   ·rintro⟨r,o,i,k,mg⟩ st2 s2 ⟨rfl,hn,m⟩
    obtain⟨z1,z2,z3,z4⟩:=m.n rfl
    dsimp only at z2 z3 z4
    omega
end
end
def q3j(a b out:Array Q2a)(na nb:Nat):Array Q2a:=a.extract 0 na++b.extract 0 nb++out.reverse
def q4z(a b out:Array Q2a)(na nb:Nat):Array Q2a:=b.extract 0 nb++a.extract 0 na++out.reverse
abbrev U1:=Option (Array Q2a)×Nat×Nat×Array Q2a×Nat×Nat
abbrev U2:=Option (Array Q2a)×Nat×Nat×Array Q2a×Nat×Nat×Nat
abbrev U0:=Option (Array Q2a)×Nat×Nat×Array Q2a×Nat
def mhB1(a b:Array Q2a)(mg:Nat)(s:U1):StateT Q1i Sem (ForInStep U1):=do
 let y <-elem' b (s.2.2.1-1)
 let x <-elem' a (s.2.1-1)
 let r <-lt' y x
 match r with
 |some aWins=>
  if aWins=true then do
   let v <-elem' a (s.2.1-1)
   if(s.2.1-1==0)=true then pure (.done (some (q3j a b (s.2.2.2.1.push v) (s.2.1-1) s.2.2.1),s.2.1-1,s.2.2.1,s.2.2.2.1.push v,s.2.2.2.2.1+1,0))
   else if s.2.2.2.2.1+1>=mg then pure (.done (none,s.2.1-1,s.2.2.1,s.2.2.2.1.push v,s.2.2.2.2.1+1,0))else pure (.yield (none,s.2.1-1,s.2.2.1,s.2.2.2.1.push v,s.2.2.2.2.1+1,0))
  else do
   let v <-elem' b (s.2.2.1-1)
   if(s.2.2.1-1==1)=true then pure (.done (some (q4z a b (s.2.2.2.1.push v) s.2.1 (s.2.2.1-1)),s.2.1,s.2.2.1-1,s.2.2.2.1.push v,0,s.2.2.2.2.2+1))
   else if s.2.2.2.2.2+1>=mg then pure (.done (none,s.2.1,s.2.2.1-1,s.2.2.2.1.push v,0,s.2.2.2.2.2+1))else pure (.yield (none,s.2.1,s.2.2.1-1,s.2.2.2.1.push v,0,s.2.2.2.2.2+1))
 |_=>pure (.done (some (q3j a b s.2.2.2.1 s.2.1 s.2.2.1),s.2.1,s.2.2.1,s.2.2.2.1,s.2.2.2.2.1,s.2.2.2.2.2))
def mhT2(a b:Array Q2a)(mg ac k:Nat)(out:Array Q2a)(na nb:Nat):StateT Q1i Sem (ForInStep U2):=do
 let x <-elem' a (na-1)
 if(na-1==0)=true then pure (.done (some (q3j a b (out.push x) (na-1) nb),na-1,nb,out.push x,mg,ac,k))
 else if(decide (ac<7)&&decide (k<7))=true then pure (.done (none,na-1,nb,out.push x,mg,ac,k))else pure (.yield (none,na-1,nb,out.push x,mg,ac,k))
def mhT1(a b:Array Q2a)(mg ac bc:Nat)(out:Array Q2a)(na nb:Nat):StateT Q1i Sem (ForInStep U2):=do
 let x <-elem' b (nb-1)
 if(nb-1==1)=true then pure (.done (some (q4z a b (out.push x) na (nb-1)),na,nb-1,out.push x,mg,ac,bc))
 else do
  let y <-elem' a (na-1)
  let r <-q3l true y b 0 (nb-1) (nb-1-1)
  match r with
  |some p=>if nb-1-p > 0 then(if(p==1)=true then pure (.done (some (q4z a b (out.push x++(b.extract p (nb-1)).reverse) na p),na,p,out.push x++(b.extract p (nb-1)).reverse,mg,ac,nb-1-p))
    else if (p==0)=true then pure (.done (some (q3j a b (out.push x++(b.extract p (nb-1)).reverse) na p),na,p,out.push x++(b.extract p (nb-1)).reverse,mg,ac,nb-1-p))
    else mhT2 a b mg ac (nb-1-p) (out.push x++(b.extract p (nb-1)).reverse) na p)else mhT2 a b mg ac (nb-1-p) (out.push x) na (nb-1)
  |_=>pure (.done (some (q3j a b (out.push x) na (nb-1)),na,nb-1,out.push x,mg,ac,bc))
def mhT0(a b:Array Q2a)(mg ac bc:Nat)(out:Array Q2a)(na nb:Nat):StateT Q1i Sem (ForInStep U2):=do
 q1g mg
 let y <-elem' b (nb-1)
 let r <-q3l false y a 0 na (na-1)
 match r with
 |some p=>if na-p > 0 then(if(p==0)=true then pure (.done (some (q3j a b (out++(a.extract p na).reverse) p nb),p,nb,out++(a.extract p na).reverse,mg,na-p,bc))
   else mhT1 a b mg (na-p) bc (out++(a.extract p na).reverse) p nb)else mhT1 a b mg (na-p) bc out na nb
 |_=>pure (.done (some (q3j a b out na nb),na,nb,out,mg,ac,bc))
def mhB2(a b:Array Q2a)(s:U2):StateT Q1i Sem (ForInStep U2):=
 if s.2.2.2.2.1 > 1 then mhT0 a b (s.2.2.2.2.1-1) s.2.2.2.2.2.1 s.2.2.2.2.2.2 s.2.2.2.1 s.2.1 s.2.2.1 else mhT0 a b s.2.2.2.2.1 s.2.2.2.2.2.1 s.2.2.2.2.2.2 s.2.2.2.1 s.2.1 s.2.2.1
def mhB0(a b:Array Q2a)(s:U0):StateT Q1i Sem (ForInStep U0):=do
 let r <-forIn [0:a.size+b.size] ((none,s.2.1,s.2.2.1,s.2.2.2.1,0,0):U1) fun _ r=>mhB1 a b s.2.2.2.2 r
 match r.1 with
 |some x=>pure (.done (some x,r.2.1,r.2.2.1,r.2.2.2.1,s.2.2.2.2))
 |none=>do
  liftM (rule "list.sort.gallop")
  let u <-forIn [0:a.size+b.size] ((none,r.2.1,r.2.2.1,r.2.2.2.1,s.2.2.2.2+1,r.2.2.2.2.1,r.2.2.2.2.2):U2) fun _ r=>mhB2 a b r
  match u.1 with
  |some x=>pure (.done (some x,u.2.1,u.2.2.1,u.2.2.2.1,u.2.2.2.2.1))
  |none=>do
   q1g (u.2.2.2.2.1+1)
   pure (.yield (none,u.2.1,u.2.2.1,u.2.2.2.1,u.2.2.2.2.1+1))
theorem z1u(a b:Array Q2a):q8g a b=(do
 rule "list.sort.merge-hi"
 let x <-elem' a (a.size-1)
 if (a.size-1==0)=true then pure (q3j a b #[x] (a.size-1) b.size)
 else if (b.size==1)=true then pure (q4z a b #[x] (a.size-1) b.size)
 else do
  let st <-get
  let r <-forIn [0:a.size+b.size] ((none,a.size-1,b.size,#[x],gallopOf st):U0) fun _ r=>mhB0 a b r
  match r.1 with
  |some r=>pure r
  |none=>unsupported "internal:list.sort.merge-bound"):=by kernel_rfl
section
variable{prog:Q1e}{w:Q1x}{A:Q1t}{E:Q0b->Q0d->Prop}{κ:Q7y}{it:Q2a->Prop}{J:Q0d->Prop}
structure HP(a b out:Array Q2a)(na nb:Nat):Prop where
 p:out.toList.Perm (a.toList.drop na++b.toList.drop nb)
theorem x5a{α:Type}(A B C D:List α):((A++B)++(C++D)).Perm ((A++C)++(B++D)):=by
 rw[Q1n,Q1n,<-Q1n B,<-Q1n C]
 exact(Q3o.append_right D).append_left A
theorem z0p{α:Type}(a:Array α)(i:Nat):(a.extract 0 i).toList=a.toList.take i:=by rw[q1o];simp
theorem HP.done{a b out:Array Q2a}{na nb:Nat}(h:HP a b out na nb):(q3j a b out na nb).toList.Perm (a.toList++b.toList):=by
 unfold q3j
 rw[Q2b,Q2b,z0p,z0p,Q8a]
 refine(((Q9b _).trans h.p).append_left _).trans ((x5a _ _ _ _).trans ?_)
 rw[Q3d,Q3d]
theorem HP.first{a b out:Array Q2a}{na nb:Nat}(h:HP a b out na nb):(q4z a b out na nb).toList.Perm (a.toList++b.toList):=by
 refine Z1q.trans ?_ h.done
 unfold q3j q4z
 rw[Q2b,Q2b,Q2b,Q2b]
 exact Q3o.append_right _
theorem q8u{α:Type}{a:Array α}{i:Nat}{x:α}(h:1<=i)(e:a[i-1]?=some x):a.toList.drop (i-1)=x::a.toList.drop i:=by
 obtain⟨hi,e⟩:=Q4z.mp e
 rw[Q2g (by simpa using hi),show i-1+1=i by omega]
 congr 1
theorem HP.puA{a b out:Array Q2a}{na nb:Nat}{x:Q2a}(h:HP a b out na nb)(h1:1<=na)(e:a[na-1]?=some x):HP a b (out.push x) (na-1) nb:=⟨by
 rw [Q3k,q8u h1 e]
 exact (Q3o.trans (h.p.append_left [x]))⟩
theorem HP.puB{a b out:Array Q2a}{na nb:Nat}{x:Q2a}(h:HP a b out na nb)(h1:1<=nb)(e:b[nb-1]?=some x):HP a b (out.push x) na (nb-1):=⟨by
 rw [Q3k,q8u h1 e]
 exact (Q3o.trans (h.p.append_left [x])).trans (by rw [List.singleton_append];exact List.perm_middle.symm)⟩
theorem q5t{α:Type}(a:Array α){p n:Nat}(h:p<=n):a.toList.drop p=(a.extract p n).toList++a.toList.drop n:=by
 rw[q1o,show a.toList.drop n=(a.toList.drop p).drop (n-p) by rw[List.drop_drop];congr 1;omega,Q3d]
theorem HP.exA{a b out:Array Q2a}{na nb p:Nat}(h:HP a b out na nb)(hp:p<=na):HP a b (out++(a.extract p na).reverse) p nb:=⟨by
 rw [Q2b,Q8a,q5t a hp,Q1n]
 exact (Q3o.trans ((Q9b _).append_right _)).trans (h.p.append_left _)⟩
theorem HP.exB{a b out:Array Q2a}{na nb p:Nat}(h:HP a b out na nb)(hp:p<=nb):HP a b (out++(b.extract p nb).reverse) na p:=⟨by
 rw [Q2b,Q8a,q5t b hp,<-Q1n]
 refine ((h.p.append_right _).trans ?_)
 exact ((Q9b _).append_left _).trans (by rw [Q1n,Q1n];exact Q3o.append_left _)⟩
structure HQ(a b:Array Q2a)(st:Q1i)(J:Q0d->Prop)(c0:Nat)(r:Option (Array Q2a))(out:Array Q2a)(na nb:Nat)(st':Q1i)(s':Q0d):Prop where
 e:∀x,r=some x->x.toList.Perm (a.toList++b.toList)
 n:r=none->HP a b out na nb/\1<=na/\2<=nb/\na<=a.size/\nb<=b.size/\c0+na+nb<=a.size+b.size
 s:Sam st st'
 j:J s'
section
variable(c:CmpJ prog w A κ it J){a b:Array Q2a}{st:Q1i}(hk:kindOf st=κ)(ha:∀x∈a,it x)(hb:∀x∈b,it x)
include c hk ha hb
theorem y8o{mg c0 na nb ac bc:Nat}{out:Array Q2a}{st1:Q1i}{s:Q0d}{Q:ForInStep U1->Q1i->Q0d->Prop}(h:HQ a b st J c0 none out na nb st1 s)
  (q1:∀b' st' s',HQ a b st J (c0+1) b'.1 b'.2.2.2.1 b'.2.1 b'.2.2.1 st' s'->Q (.done b') st' s') (q2:∀b' st' s',HQ a b st J (c0+1) none b'.2.2.2.1 b'.2.1 b'.2.2.1 st' s'->b'.1=none->Q (.yield b') st' s') :
  kasC (model prog w) A E (mhB1 a b mg (none,na,nb,out,ac,bc)) Q st1 s:=by
 obtain⟨hp,h1,h2,h3,h4,h5⟩:=h.n rfl
 obtain⟨x,ex,ix⟩:=q1c ha (show na-1<a.size by omega)
 obtain⟨y,ey,iy⟩:=q1c hb (show nb-1<b.size by omega)
 unfold mhB1
 refine Q0r (q0q ey (Q0r (q0q ex (Q0r (z9g c (h.s.k.trans hk) iy ix h.j fun v s1 j1=>?_)))))
 have pb:=hp.puB (by omega) ey
 have pa:=hp.puA h1 ex
 cases v with
 |true=>
  dsimp only
  rw[if_pos rfl]
  refine Q0r (q0q ex ?_)
  split
  ·exact Q0z (q1 _ _ _ ⟨fun z e=>(by cases e;exact pa.done),fun e=>(by cases e),h.s,j1⟩)
  ·rename_i nz
   simp only[beq_iff_eq]at nz
   have m:HQ a b st J (c0+1) none (out.push x) (na-1) nb st1 s1:=⟨fun z e=>(by cases e),fun _=>⟨pa,by omega,h2,by omega,h4,by omega⟩,h.s,j1⟩
   split
   ·exact Q0z (q1 _ _ _ m)
   ·exact Q0z (q2 _ _ _ m rfl)
 |false=>
  dsimp only
  rw[if_neg (by decide)]
  refine Q0r (q0q ey ?_)
  split
  ·exact Q0z (q1 _ _ _ ⟨fun z e=>(by cases e;exact pb.first),fun e=>(by cases e),h.s,j1⟩)
  ·rename_i nz
   simp only[beq_iff_eq]at nz
   have m:HQ a b st J (c0+1) none (out.push y) na (nb-1) st1 s1:=⟨fun z e=>(by cases e),fun _=>⟨pb,h1,by omega,h3,by omega,by omega⟩,h.s,j1⟩
   split
   ·exact Q0z (q1 _ _ _ m)
   ·exact Q0z (q2 _ _ _ m rfl)
abbrev W2(a b:Array Q2a)(st:Q1i)(J:Q0d->Prop)(c0:Nat):ForInStep U2->Q1i->Q0d->Prop:=
 FS (fun b' st' s'=>HQ a b st J c0 b'.1 b'.2.2.2.1 b'.2.1 b'.2.2.1 st' s') fun b' st' s'=>b'.1=none/\HQ a b st J c0 none b'.2.2.2.1 b'.2.1 b'.2.2.1 st' s'
theorem z9b{mg c0 na nb ac k:Nat}{out:Array Q2a}{st1:Q1i}{s:Q0d}(hp:HP a b out na nb)(h1:1<=na)(h2:2<=nb)(h3:na<=a.size)(h4:nb<=b.size)(h5:c0+na+nb<=a.size+b.size)(hs:Sam st st1)(j:J s) :
  kasC (model prog w) A E (mhT2 a b mg ac k out na nb) (W2 a b st J c0) st1 s:=by
 obtain⟨x,ex,ix⟩:=q1c ha (show na-1<a.size by omega)
 have pa:=hp.puA h1 ex
 unfold mhT2
 refine Q0r (q0q ex ?_)
 split
 ·exact Q0z ⟨fun z e=>(by cases e;exact pa.done),fun e=>(by cases e),hs,j⟩
 ·rename_i nz
  simp only[beq_iff_eq]at nz
  have m:HQ a b st J c0 none (out.push x) (na-1) nb st1 s:=⟨fun z e=>(by cases e),fun _=>⟨pa,by omega,h2,by omega,h4,by omega⟩,hs,j⟩
  split
  ·exact Q0z m
  ·exact Q0z ⟨rfl,m⟩
theorem z9c{mg c0 na nb ac bc:Nat}{out:Array Q2a}{st1:Q1i}{s:Q0d}(hp:HP a b out na nb)(h1:1<=na)(h2:2<=nb)(h3:na<=a.size)(h4:nb<=b.size)(h5:c0+na+nb<=a.size+b.size)(hs:Sam st st1)(j:J s) :
  kasC (model prog w) A E (mhT1 a b mg ac bc out na nb) (W2 a b st J c0) st1 s:=by
 obtain⟨y,ey,iy⟩:=q1c hb (show nb-1<b.size by omega)
 obtain⟨x,ex,ix⟩:=q1c ha (show na-1<a.size by omega)
 have pb:=hp.puB (by omega) ey
 unfold mhT1
 refine Q0r (q0q ey ?_)
 split
 ·exact Q0z ⟨fun z e=>(by cases e;exact pb.first),fun e=>(by cases e),hs,j⟩
 ·rename_i nz
  simp only[beq_iff_eq]at nz
  refine Q0r (q0q ex (Q0r (q3b c (hs.k.trans hk) ix (fun i hi=>by rw[Q4x];exact q1c hb (by omega)) (by omega) j fun k s2 hk2 j2=>?_)))
  dsimp only
  split
  ·split
   ·exact Q0z ⟨fun z e=>(by cases e;exact(pb.exB hk2).first),fun e=>(by cases e),hs,j2⟩
   ·rename_i nz2
    simp only[beq_iff_eq]at nz2
    split
    ·exact Q0z ⟨fun z e=>(by cases e;exact(pb.exB hk2).done),fun e=>(by cases e),hs,j2⟩
    ·rename_i nz3
     simp only[beq_iff_eq]at nz3
     exact z9b c hk ha hb (pb.exB hk2) h1 (by omega) h3 (by omega) (by omega) hs j2
  ·exact z9b c hk ha hb pb h1 (by omega) h3 (by omega) (by omega) hs j2
theorem z9d{mg c0 na nb ac bc:Nat}{out:Array Q2a}{st1:Q1i}{s:Q0d}(hp:HP a b out na nb)(h1:1<=na)(h2:2<=nb)(h3:na<=a.size)(h4:nb<=b.size)(h5:c0+na+nb<=a.size+b.size)(hs:Sam st st1)(j:J s) :
  kasC (model prog w) A E (mhT0 a b mg ac bc out na nb) (W2 a b st J c0) st1 s:=by
 obtain⟨y,ey,iy⟩:=q1c hb (show nb-1<b.size by omega)
 unfold mhT0
 refine Q0r (q4k hs fun st2 hs2=>Q0r (q0q ey (Q0r (q3b c (hs2.k.trans hk) iy (fun i hi=>by rw[Q4x];exact q1c ha (by omega)) (by omega) j fun k s2 hk2 j2=>?_))))
 dsimp only
 split
 ·split
  ·exact Q0z ⟨fun z e=>(by cases e;exact(hp.exA hk2).done),fun e=>(by cases e),hs2,j2⟩
  ·rename_i nz
   simp only[beq_iff_eq]at nz
   exact z9c c hk ha hb (hp.exA hk2) (by omega) h2 (by omega) h4 (by omega) hs2 j2
 ·exact z9c c hk ha hb hp h1 h2 h3 h4 h5 hs2 j2
theorem y8p{c0 na nb mg:Nat}{out:Array Q2a}{st1:Q1i}{s:Q0d}{Q:ForInStep U0->Q1i->Q0d->Prop}(h:HQ a b st J c0 none out na nb st1 s)
  (q1:∀b' st' s',HQ a b st J (c0+1) b'.1 b'.2.2.2.1 b'.2.1 b'.2.2.1 st' s'->b'.1≠none->Q (.done b') st' s') (q2:∀b' st' s',HQ a b st J (c0+1) none b'.2.2.2.1 b'.2.1 b'.2.2.1 st' s'->b'.1=none->Q (.yield b') st' s') :
  kasC (model prog w) A E (mhB0 a b (none,na,nb,out,mg)) Q st1 s:=by
 have hz:1<=a.size:=by obtain⟨_,h1,_,h3,_⟩:=h.n rfl;omega
 unfold mhB0
 refine Q0r (q3a (Q:=fun b' st' s'=>HQ a b st J (c0+1) b'.1 b'.2.2.2.1 b'.2.1 b'.2.2.1 st' s') (Q3u (q0y (fun n b' st' s'=>b'.1=none/\((n=a.size+b.size/\HQ a b st J c0 none b'.2.2.2.1 b'.2.1 b'.2.2.1 st' s')\/HQ a b st J (c0+1) none b'.2.2.2.1 b'.2.1 b'.2.2.1 st' s')) ⟨rfl,.inl ⟨by simp,h⟩⟩ ?_ ?_)) ?_)
 ·rintro x n ⟨r,i,k,o,ac,bc⟩ st2 s2 ⟨rfl,h2⟩
  have h2':HQ a b st J c0 none o i k st2 s2:=by
   rcases h2 with⟨_,h2⟩|h2
   ·exact h2
   ·exact⟨h2.e,fun e=>by obtain⟨z1,z2,z3,z4,z5,z6⟩:=h2.n e;exact⟨z1,z2,z3,z4,z5,by dsimp only at z6 ⊢;omega⟩,h2.s,h2.j⟩
  exact y8o c hk ha hb h2' (fun b' st' s' m=>m) fun b' st' s' m e=>⟨e,.inr m⟩
 ·rintro⟨r,i,k,o,ac,bc⟩ st2 s2 ⟨rfl,h2⟩
  rcases h2 with⟨z,_⟩|h2
  ·omega
  ·exact h2
 ·rintro⟨r,i,k,o,ac,bc⟩ st2 s2 m
  dsimp only at m ⊢
  cases r with
  |some x=>exact Q0z (q1 _ _ _ ⟨m.e,fun e=>(by cases e),m.s,m.j⟩ (by simp))
  |none=>
   dsimp only
   refine Q0r (Q8q (Q3p ?_))
   refine Q0r (q3a (Q:=fun b' st' s'=>HQ a b st J (c0+1) b'.1 b'.2.2.2.1 b'.2.1 b'.2.2.1 st' s') (Q3u (q0y (fun n b' st' s'=>b'.1=none/\HQ a b st J (c0+1) none b'.2.2.2.1 b'.2.1 b'.2.2.1 st' s') ⟨rfl,m⟩ ?_ ?_)) ?_)
   ·rintro x n ⟨r,i,k,o,mg,ac,bc⟩ st2 s2 ⟨rfl,h2⟩
    obtain⟨z1,z2,z3,z4,z5,z6⟩:=h2.n rfl
    unfold mhB2
    dsimp only
    split
    ·exact z9d c hk ha hb z1 z2 z3 z4 z5 z6 h2.s h2.j
    ·exact z9d c hk ha hb z1 z2 z3 z4 z5 z6 h2.s h2.j
   ·rintro⟨r,i,k,o,mg,ac,bc⟩ st2 s2 ⟨rfl,h2⟩
    exact h2
   ·rintro⟨r,i,k,o,mg,ac,bc⟩ st2 s2 m
    dsimp only at m ⊢
    cases r with
    |some x=>exact Q0z (q1 _ _ _ ⟨m.e,fun e=>(by cases e),m.s,m.j⟩ (by simp))
    |none=>exact Q0r (q4k m.s fun st4 h4=>Q0z (q2 _ _ _ ⟨m.e,m.n,h4,m.j⟩ rfl))
theorem z5h{Q:Array Q2a->Q1i->Q0d->Prop}{s:Q0d}(a1:1<=a.size)(b1:1<=b.size)(j:J s)
  (q:∀r st' s',r.toList.Perm (a.toList++b.toList)->Sam st st'->J s'->Q r st' s'):kasC (model prog w) A E (q8g a b) Q st s:=by
 rw[z1u]
 obtain⟨y,ey,iy⟩:=q1c ha (show a.size-1<a.size by omega)
 have p0:HP a b #[y] (a.size-1) b.size:=⟨by
  have:=q8u a1 ey
  rw [this,Q4n (by simp),Q4n (by simp)]
  exact .refl _⟩
 refine Q0r (Q8q (Q3p (Q0r (q0q ey ?_))))
 split
 ·exact Q0z (q _ _ _ p0.done (.refl _) j)
 ·rename_i n1
  simp only[beq_iff_eq]at n1
  split
  ·exact Q0z (q _ _ _ p0.first (.refl _) j)
  ·rename_i n2
   simp only[beq_iff_eq]at n2
   refine Q0r (Q7g (Q0r (Q3u (q0y (fun n b' st' s'=>b'.1=none/\n<=a.size+b.size/\HQ a b st J (a.size+b.size+1-n) none b'.2.2.2.1 b'.2.1 b'.2.2.1 st' s') ⟨rfl,by simp,?_⟩ ?_ ?_))))
   ·exact⟨fun z e=>(by cases e),fun _=>⟨p0,by dsimp only;omega,by dsimp only;omega,by dsimp only;omega,by dsimp only;omega,by dsimp only;simp only[Q8v,Q6u];omega⟩,.refl _,j⟩
   ·rintro x n ⟨r,i,k,o,mg⟩ st2 s2 ⟨rfl,hn,m⟩
    refine y8p c hk ha hb m (fun b' st' s' m' ne=>?_) fun b' st' s' m' e=>⟨e,by omega,by rw[show a.size+b.size+1-n=a.size+b.size+1-(n+1)+1 by omega];exact m'⟩
    obtain⟨r,rest⟩:=b'
    cases r with
    |none=>exact absurd rfl ne
    |some x=>exact Q0z (q _ _ _ (m'.e x rfl) m'.s m'.j)
   ·rintro⟨r,i,k,o,mg⟩ st2 s2 ⟨rfl,hn,m⟩
    obtain⟨z1,z2,z3,z4,z5,z6⟩:=m.n rfl
    dsimp only at z6
    omega
end
end
theorem z1v(i:Nat):mergeAt' i=(do
 let s <-get
 let (some (sa,na,power),some (sb,nb,_)):=((pendingOf s)[i]?,(pendingOf s)[i+1]?)|unsupported "internal:list.sort.pending"
 set (setPending s (((pendingOf s).setIfInBounds i (sa,na+nb,power)).eraseIdxIfInBounds (i+1)))
 let some k <-q3l false (<-elem' (arrOf s) sb) (arrOf s) sa na 0|return false
 if na-k==0 then return true
 let some nb <-q3l true (<-elem' (arrOf s) (sa+k+(na-k)-1)) (arrOf s) sb nb (nb-1)|return false
 if nb==0 then return true
 let merged <-if na-k<=nb then q8f ((arrOf s).extract (sa+k) sb) ((arrOf s).extract sb (sb+nb))else q8g ((arrOf s).extract (sa+k) sb) ((arrOf s).extract sb (sb+nb))
 modify fun s=>setArr s (merged.toList.zipIdx.foldl (fun a (p,j)=>a.setIfInBounds (sa+k+j) p) (arrOf s))
 return (failedOf (<-get)).isNone):=by kernel_rfl
theorem z7m{α:Type}(d:Nat):∀(ms:List α)(k:Nat)(xs:Array α),d+k+ms.length<=xs.size->
  ((ms.zipIdx k).foldl (fun a (q:α×Nat)=>a.setIfInBounds (d+q.2) q.1) xs).toList=xs.toList.take (d+k)++ms++xs.toList.drop (d+k+ms.length)
 |[],k,xs,h=>by simp
 |m::ms,k,xs,h=>by
  rw[Q7j,Z3t]
  simp only[Q1k]at h
  rw[z7m d ms (k+1) _ (by rw[Array.size_setIfInBounds];omega),Q9u]
  have hl:d+k<xs.toList.length:=by simp;omega
  have e1:(xs.toList.set (d+k) m).take (d+(k+1))=xs.toList.take (d+k)++[m]:=by
   rw[show d+(k+1)=d+k+1 by omega,Q8u,Z4w,Z4a]
   simp[List.take_set_of_le]
   exact Q1o hl
  have e2:(xs.toList.set (d+k) m).drop (d+(k+1)+ms.length)=xs.toList.drop (d+k+(m::ms).length):=by
   rw[List.drop_set_of_lt (by omega)]
   congr 1
   simp only[Q1k];omega
  dsimp only
  rw[e1,e2]
  simp
section
variable{prog:Q1e}{w:Q1x}{A:Q1t}{E:Q0b->Q0d->Prop}{κ:Q7y}{it:Q2a->Prop}{J:Q0d->Prop}
theorem q8h{a:Array Q2a}{i j:Nat}(h:∀x∈a,it x):∀x∈a.extract i j,it x:=fun x hx=>by
 refine h x ?_
 rw[<-Q8b]at hx ⊢
 rw[q1o]at hx
 exact Q8g (Q6f hx)
theorem z5i(c:CmpJ prog w A κ it J){i sa na nb pw pw2:Nat}{st:Q1i}{s:Q0d}{Q:Bool->Q1i->Q0d->Prop}(hk:kindOf st=κ)(h1:(pendingOf st)[i]?=some (sa,na,pw))(h2:(pendingOf st)[i+1]?=some (sa+na,nb,pw2))(na1:1<=na)(nb1:1<=nb)
  (hz:sa+na+nb<=(arrOf st).size) (hi:∀x∈arrOf st,it x) (hf:failedOf st=none) (j:J s)
  (q:∀(st':Q1i) s',kindOf st'=κ->(arrOf st').toList.Perm (arrOf st).toList->pendingOf st'=((pendingOf st).setIfInBounds i (sa,na+nb,pw)).eraseIdxIfInBounds (i+1)->failedOf st'=none->J s'->Q true st' s') :
  kasC (model prog w) A E (mergeAt' i) Q st s:=by
 rw[z1v]
 refine Q0r (Q7g ?_)
 simp only[h1,h2]
 generalize hst:setPending st (((pendingOf st).setIfInBounds i (sa,na+nb,pw)).eraseIdxIfInBounds (i+1))=st1
 have k1:kindOf st1=κ:=by rw[<-hst];exact hk
 have a1:arrOf st1=arrOf st:=by rw[<-hst]
 have p1:pendingOf st1=((pendingOf st).setIfInBounds i (sa,na+nb,pw)).eraseIdxIfInBounds (i+1):=by rw[<-hst]
 have f1:failedOf st1=none:=by rw[<-hst];exact hf
 refine Q0r (y3l ?_)
 obtain⟨y,ey,iy⟩:=q1c hi (show sa+na<(arrOf st).size by omega)
 refine Q0r (q0q ey (Q0r (q3b c k1 iy (fun i hi'=>q1c hi (by omega)) (by omega) j fun k s2 hk2 j2=>?_)))
 dsimp only
 split
 ·exact Q0z (q _ _ k1 (by rw[a1]) p1 f1 j2)
 ·rename_i nz
  simp only[beq_iff_eq]at nz
  obtain⟨x,ex,ix⟩:=q1c hi (show sa+k+(na-k)-1<(arrOf st).size by omega)
  refine Q0r (q0q ex (Q0r (q3b c k1 ix (fun i hi'=>q1c hi (by omega)) (by omega) j2 fun m s3 hm j3=>?_)))
  dsimp only
  split
  ·exact Q0z (q _ _ k1 (by rw[a1]) p1 f1 j3)
  ·rename_i nz2
   simp only[beq_iff_eq]at nz2
   have fin:∀(r:Array Q2a)(st':Q1i)(s':Q0d),r.toList.Perm (((arrOf st).extract (sa+k) (sa+na)).toList++((arrOf st).extract (sa+na) (sa+na+m)).toList)->Sam st1 st'->J s'->
     kasC (model prog w) A E (do
      modify fun s=>setArr s (r.toList.zipIdx.foldl (fun a (p,j)=>a.setIfInBounds (sa+k+j) p) (arrOf s))
      return (failedOf (<-get)).isNone) Q st' s':=fun r st' s' hr sm js=>by
    refine Q0r (Q7z (Q0r (Q7g (Q0z ?_))))
    have e:(failedOf (setArr st' (r.toList.zipIdx.foldl (fun a (p,j)=>a.setIfInBounds (sa+k+j) p) (arrOf st')))).isNone=true:=by
     show(failedOf st').isNone=true
     rw[sm.f,f1];rfl
    rw[e]
    refine q _ _ (sm.k.trans k1) ?_ (sm.p.trans p1) (sm.f.trans f1) js
    show(r.toList.zipIdx.foldl (fun a (p:Q2a×Nat)=>a.setIfInBounds (sa+k+p.2) p.1) (arrOf st')).toList.Perm _
    have ea:arrOf st'=arrOf st:=sm.a.trans a1
    rw[ea]
    have hl:r.toList.length=(na-k)+m:=by
     rw[hr.length_eq,Q0x,q1o,q1o]
     simp only[Q2q,Q5j,Q1u]
     omega
    have:=z7m (sa+k) r.toList 0 (arrOf st) (by rw[hl];omega)
    rw[show r.toList.zipIdx=r.toList.zipIdx 0 from rfl,this,hl,Z5t,show sa+k+(na-k+m)=sa+na+m by omega]
    refine((hr.append_left _).append_right _).trans ?_
    rw[Q1n,Q1n,<-q5t _ (show sa+na<=sa+na+m by omega),<-q5t _ (show sa+k<=sa+na by omega),Q3d]
   have sx:1<=((arrOf st).extract (sa+k) (sa+na)).size:=by simp only[Z2c];omega
   have sy:1<=((arrOf st).extract (sa+na) (sa+na+m)).size:=by simp only[Z2c];omega
   split
   ·exact Q0r (z5g c k1 (q8h hi) (q8h hi) sx sy j3 fin)
   ·exact Q0r (z5h c k1 (q8h hi) (q8h hi) sx sy j3 fin)
end
def y3w(lo nrem a:Nat):StateT Q1i Sem (Option (Option Nat)×Nat):=forIn [a:nrem] ((none,a):Option (Option Nat)×Nat) fun _ s=>do
 let x <-ltAt' (lo+s.2) (lo+s.2-1)
 match x with
 |some smaller=>if smaller=true then pure (.done (none,s.2))else pure (.yield (none,s.2+1))
 |_=>pure (.done (some none,s.2))
def q7n(lo nrem n:Nat):StateT Q1i Sem (Option Nat):=do
 reverseSlice' lo (lo+n)
 let r <-y3w lo nrem n
 match r.1 with
 |some x=>pure x
 |none=>pure (some r.2)
def crB(lo:Nat)(s:Option (Option Nat)×Nat×Nat):StateT Q1i Sem (ForInStep (Option (Option Nat)×Nat×Nat)):=do
 let x <-ltAt' (lo+s.2.1) (lo+s.2.1-1)
 match x with
 |some smaller=>
  if smaller=true then
   if s.2.2 > 0 then do
    reverseSlice' (lo+s.2.1-(s.2.2+1)) (lo+s.2.1)
    pure (.yield (none,s.2.1+1,0))
   else pure (.yield (none,s.2.1+1,0))
  else do
   let y <-ltAt' (lo+s.2.1-1) (lo+s.2.1)
   match y with
   |some larger=>if larger=true then pure (.done (none,s.2.1,s.2.2))else pure (.yield (none,s.2.1+1,s.2.2+1))
   |_=>pure (.done (some none,s.2.1,s.2.2))
 |_=>pure (.done (some none,s.2.1,s.2.2))
def z3y(lo nrem n:Nat):StateT Q1i Sem (Option Nat):=do
 liftM (rule "list.sort.descending-run")
 let r <-forIn [n+1:nrem] ((none,n+1,0):Option (Option Nat)×Nat×Nat) fun _ s=>crB lo s
 match r.1 with
 |some x=>pure x
 |none=>if r.2.2 > 0 then(do
   reverseSlice' (lo+r.2.1-(r.2.2+1)) (lo+r.2.1)
   q7n lo nrem r.2.1)else q7n lo nrem r.2.1
theorem q8v(lo nrem:Nat):countRun' lo nrem=(do
 let r <-y3w lo nrem 1
 match r.1 with
 |some x=>pure x
 |none=>if (r.2==nrem)=true then pure (some r.2)else if r.2 > 1 then (do
   let x <-ltAt' lo (lo+r.2-1)
   match x with
   |some rose=>if rose=true then pure (some r.2)else do
     reverseSlice' lo (lo+r.2)
     z3y lo nrem r.2
   |_=>pure none)else z3y lo nrem r.2):=by kernel_rfl
def bsP(lo k:Nat)(s:Option Bool×Nat×Nat):StateT Q1i Sem (ForInStep (Option Bool×Nat×Nat)):=
 if s.2.1>=s.2.2 then pure (.done (none,s.2.1,s.2.2))else do
  let x <-ltAt' (lo+k) (lo+(s.2.1+s.2.2) / 2)
  match x with
  |some less=>if less=true then pure (.yield (none,s.2.1,(s.2.1+s.2.2) / 2))else pure (.yield (none,(s.2.1+s.2.2) / 2+1,s.2.2))
  |_=>pure (.done (some false,s.2.1,s.2.2))
def bsB(lo k:Nat):StateT Q1i Sem (ForInStep (Option Bool×Unit)):=do
 let u <-forIn [0:k] ((none,0,k):Option Bool×Nat×Nat) fun _ s=>bsP lo k s
 match u.1 with
 |some x=>pure (.done (some x,()))
 |none=>do
  moveDown' (lo+k) (lo+u.2.1)
  pure (.yield (none,()))
theorem q6q(lo n ok:Nat):binarySort' lo n ok=(do
 let r <-forIn [max ok 1:n] ((none,()):Option Bool×Unit) fun k _=>bsB lo k
 match r.1 with
 |some x=>pure x
 |none=>pure true):=by kernel_rfl
def srM(size pw:Nat):StateT Q1i Sem (Option Unit×Unit):=forIn [0:size] ((none,()):Option Unit×Unit) fun _ _=>do
 let st <-get
 match (if(pendingOf st).size > 1 then(pendingOf st)[(pendingOf st).size-2]? else none)with
 |some (_,_,older)=>if older<=pw then pure (.done (none,()))else do
   let r <-mergeAt' ((pendingOf st).size-2)
   if(!r)=true then pure (.done (some (),()))else pure (.yield (none,()))
 |_=>pure (.done (none,()))
def z2y(lo n:Nat):StateT Q1i Sem (ForInStep (Option Unit×Nat)):=do
 modify fun s=>setPending s ((pendingOf s).push (lo,n,0))
 pure (.yield (none,lo+n))
def z2z(size lo n:Nat):StateT Q1i Sem (ForInStep (Option Unit×Nat)):=do
 let st <-get
 match (pendingOf st).back? with
 |some (s1,n1,_)=>do
  let u <-srM size (power' size (2*s1+n1) (2*s1+n1+n1+n) size)
  match u.1 with
  |some x=>pure (.done (some x,lo))
  |none=>do
   modify fun s=>setPending s ((pendingOf s).modify ((pendingOf s).size-1) fun(st,len,_)=>(st,len,power' size (2*s1+n1) (2*s1+n1+n1+n) size))
   z2y lo n
 |_=>z2y lo n
def srB(size minrun:Nat)(s:Option Unit×Nat):StateT Q1i Sem (ForInStep (Option Unit×Nat)):=
 if s.2>=size then pure (.done (none,s.2))else do
  let x <-countRun' s.2 (size-s.2)
  match x with
  |some found=>if found<minrun then(do
    liftM (rule "list.sort.binary-insertion")
    let r <-binarySort' s.2 (min (size-s.2) minrun) found
    if (!r)=true then pure (.done (some (),s.2))else z2z size s.2 (min (size-s.2) minrun))else z2z size s.2 found
  |_=>pure (.done (some (),s.2))
def srE(size:Nat):StateT Q1i Sem Unit:=do
 let r <-forIn [0:size] ((none,()):Option Unit×Unit) fun _ _=>do
  let st <-get
  if(pendingOf st).size<=1 then pure (.done (none,()))else do
   let r <-mergeAt' (if(if(pendingOf st).size-2 > 0 then(pendingOf st)[(pendingOf st).size-2-1]?.map (·.2.1)else none).any (·<((pendingOf st)[(pendingOf st).size-2+1]?.elim 0 (·.2.1)))then(pendingOf st).size-2-1 else(pendingOf st).size-2)
   if(!r)=true then pure (.done (some (),()))else pure (.yield (none,()))
 match r.1 with
 |some x=>pure x
 |none=>pure ()
theorem q7y:sortRuns'=(do
 let st <-get
 let r <-forIn [0:(arrOf st).size] ((none,0):Option Unit×Nat) fun _ s=>srB (arrOf st).size (minRun' (arrOf st).size (arrOf st).size 0) s
 match r.1 with
 |some x=>pure x
 |none=>srE (arrOf st).size):=by kernel_rfl
section
variable{prog:Q1e}{w:Q1x}{A:Q1t}{E:Q0b->Q0d->Prop}{κ:Q7y}{it:Q2a->Prop}{J:Q0d->Prop}
structure Per(st st':Q1i):Prop where
 k:kindOf st'=kindOf st
 a:(arrOf st').toList.Perm (arrOf st).toList
 p:pendingOf st'=pendingOf st
 f:failedOf st'=failedOf st
theorem Per.refl(st:Q1i):Per st st:=⟨rfl,.refl _,rfl,rfl⟩
theorem Per.sz{st st':Q1i}(h:Per st st'):(arrOf st').size=(arrOf st).size:=by have:=h.a.length_eq;simpa using this
theorem Per.al{st st':Q1i}(h:Per st st')(hi:∀x∈arrOf st,it x):∀x∈arrOf st',it x:=fun x hx=>hi x (by rw[<-Q8b]at hx ⊢;exact h.a.mem_iff.mp hx)
theorem z3e{M:Z1b}{st st0:Q1i}{i j:Nat}{s:Q0d}{Q:Unit->Q1i->Q0d->Prop}(h:Per st0 st)(q:∀st',Per st0 st'->Q () st' s):kasC M A E (reverseSlice' i j) Q st s:=by
 rw[reverseSlice'_eq]
 exact Q7z (q _ ⟨h.k,((mirror_perm _ _ _ _).toList).trans h.a,h.p,h.f⟩)
theorem y4y{M:Z1b}{st st0:Q1i}{i j:Nat}{s:Q0d}{Q:Unit->Q1i->Q0d->Prop}(h:Per st0 st)(q:∀st',Per st0 st'->Q () st' s):kasC M A E (moveDown' i j) Q st s:=by
 rw[moveDown'_eq]
 exact Q7z (q _ ⟨h.k,((bubble_perm _ _ _).toList).trans h.a,h.p,h.f⟩)
section
variable(c:CmpJ prog w A κ it J){st:Q1i}(hk:kindOf st=κ)(hi:∀x∈arrOf st,it x)
include c hk hi
theorem q6h{i j:Nat}{st1:Q1i}{s:Q0d}{Q:Option Bool->Q1i->Q0d->Prop}(h:Per st st1)(h1:i<(arrOf st).size)(h2:j<(arrOf st).size)(js:J s)(q:∀b s',J s'->Q (some b) st1 s'):kasC (model prog w) A E (ltAt' i j) Q st1 s:=by
 rw[ltAt'_eq]
 obtain⟨x,ex,ix⟩:=q1c (h.al hi) (by rw[h.sz];exact h1)
 obtain⟨y,ey,iy⟩:=q1c (h.al hi) (by rw[h.sz];exact h2)
 exact Q0r (Q7g (Q0r (q0q ex (Q0r (q0q ey (z9g c (h.k.trans hk) ix iy js q))))))
theorem z3z{lo nrem n:Nat}{st1:Q1i}{s:Q0d}{Q:Option (Option Nat)×Nat->Q1i->Q0d->Prop}(h:Per st st1)(h1:1<=n)(hn:n<=nrem)(hz:lo+nrem<=(arrOf st).size)(j:J s)
  (q:∀m s',1<=m->m<=nrem->J s'->Q (none,m) st1 s'):kasC (model prog w) A E (y3w lo nrem n) Q st1 s:=by
 unfold y3w
 refine Q3u (q0y (fun k b st' s'=>b.1=none/\1<=b.2/\b.2+k=nrem/\st'=st1/\J s') ⟨rfl,h1,by simp only[Q8v];omega,rfl,j⟩ ?_ ?_)
 ·rintro x k ⟨r,m⟩ st' s' ⟨rfl,m1,mk,rfl,j'⟩
  dsimp only at m1 mk ⊢
  refine Q0r (q6h c hk hi h (by omega) (by omega) j' fun v s2 j2=>?_)
  cases v with
  |true=>exact Q0z (q _ _ m1 (by omega) j2)
  |false=>exact Q0z ⟨rfl,by dsimp only;omega,by dsimp only;omega,rfl,j2⟩
 ·rintro⟨r,m⟩ st' s' ⟨rfl,m1,mk,rfl,j'⟩
  dsimp only at m1 mk
  exact q _ _ m1 (by omega) j'
theorem z0v{lo nrem n:Nat}{st1:Q1i}{s:Q0d}{Q:Option Nat->Q1i->Q0d->Prop}(h:Per st st1)(h1:1<=n)(hn:n<=nrem)(hz:lo+nrem<=(arrOf st).size)(j:J s)
  (q:∀m st' s',1<=m->m<=nrem->Per st st'->J s'->Q (some m) st' s'):kasC (model prog w) A E (q7n lo nrem n) Q st1 s:=by
 unfold q7n
 exact Q0r (z3e h fun st' h'=>Q0r (z3z c hk hi h' h1 hn hz j fun m s' m1 m2 j'=>Q0z (q _ _ _ m1 m2 h' j')))
theorem z0w{lo nrem n:Nat}{st1:Q1i}{s:Q0d}{Q:Option Nat->Q1i->Q0d->Prop}(h:Per st st1)(h1:1<=n)(hn:n+1<=nrem)(hz:lo+nrem<=(arrOf st).size)(j:J s)
  (q:∀m st' s',1<=m->m<=nrem->Per st st'->J s'->Q (some m) st' s'):kasC (model prog w) A E (z3y lo nrem n) Q st1 s:=by
 have fin:∀(m k:Nat)(st':Q1i)(s':Q0d),1<=m->m<=nrem->Per st st'->J s'->kasC (model prog w) A E (if k > 0 then(do
   reverseSlice' (lo+m-(k+1)) (lo+m)
   q7n lo nrem m)else q7n lo nrem m) Q st' s':=fun m k st' s' m1 m2 h' j'=>by
  split
  ·exact Q0r (z3e h' fun st2 h2=>z0v c hk hi h2 m1 m2 hz j' q)
  ·exact z0v c hk hi h' m1 m2 hz j' q
 unfold z3y
 refine Q0r (Q8q (Q3p (Q0r (Q3u (q0y (fun k b st' s'=>b.1=none/\1<=b.2.1/\b.2.1+k=nrem/\Per st st'/\J s') ⟨rfl,by dsimp only;omega,by simp only[Q8v];omega,h,j⟩ ?_ ?_)))))
 ·rintro x k ⟨r,m,e⟩ st' s' ⟨rfl,m1,mk,h',j'⟩
  dsimp only at m1 mk ⊢
  unfold crB
  dsimp only
  refine Q0r (q6h c hk hi h' (by omega) (by omega) j' fun v s2 j2=>?_)
  cases v with
  |true=>
   dsimp only
   rw[if_pos rfl]
   split
   ·exact Q0r (z3e h' fun st2 h2=>Q0z ⟨rfl,by dsimp only;omega,by dsimp only;omega,h2,j2⟩)
   ·exact Q0z ⟨rfl,by dsimp only;omega,by dsimp only;omega,h',j2⟩
  |false=>
   dsimp only
   rw[if_neg (by decide)]
   refine Q0r (q6h c hk hi h' (by omega) (by omega) j2 fun v s3 j3=>?_)
   cases v with
   |true=>exact Q0z (fin m e _ _ m1 (by omega) h' j3)
   |false=>exact Q0z ⟨rfl,by dsimp only;omega,by dsimp only;omega,h',j3⟩
 ·rintro⟨r,m,e⟩ st' s' ⟨rfl,m1,mk,h',j'⟩
  dsimp only at m1 mk
  exact fin m e _ _ m1 (by omega) h' j'
theorem z2n{lo nrem:Nat}{s:Q0d}{Q:Option Nat->Q1i->Q0d->Prop}(h1:1<=nrem)(hz:lo+nrem<=(arrOf st).size)(j:J s)
  (q:∀m st' s',1<=m->m<=nrem->Per st st'->J s'->Q (some m) st' s'):kasC (model prog w) A E (countRun' lo nrem) Q st s:=by
 rw[q8v]
 refine Q0r (z3z c hk hi (.refl _) (Q0k 1) h1 hz j fun m s1 m1 m2 j1=>?_)
 dsimp only
 split
 ·exact Q0z (q _ _ _ m1 m2 (.refl _) j1)
 ·rename_i nz
  simp only[beq_iff_eq]at nz
  split
  ·refine Q0r (q6h c hk hi (.refl _) (by omega) (by omega) j1 fun v s2 j2=>?_)
   cases v with
   |true=>exact Q0z (q _ _ _ m1 m2 (.refl _) j2)
   |false=>exact Q0r (z3e (.refl _) fun st2 h2=>z0w c hk hi h2 m1 (by omega) hz j2 q)
  ·exact z0w c hk hi (.refl _) m1 (by omega) hz j1 q
theorem q8x{lo n ok:Nat}{s:Q0d}{Q:Bool->Q1i->Q0d->Prop}(hz:lo+n<=(arrOf st).size)(j:J s)(q:∀st' s',Per st st'->J s'->Q true st' s'):kasC (model prog w) A E (binarySort' lo n ok) Q st s:=by
 rw[q6q]
 refine Q0r (Q3u ?_)
 have go:∀(l:List Nat)(st1:Q1i)(s:Q0d),(∀k∈l,k<n)->Per st st1->J s->kasC (model prog w) A E (forIn l ((none,()):Option Bool×Unit) fun k _=>bsB lo k) (fun b st' s'=>b.1=none/\Per st st'/\J s') st1 s:=by
  intro l
  induction l with
  |nil=>intro st1 s _ h j;exact kasC_nil ⟨rfl,h,j⟩
  |cons k l ih=>
   intro st1 s hl h j
   have hkn:k<n:=hl k (by simp)
   refine kasC_cons ?_
   unfold bsB
   refine Q0r (Q3u (q0y (fun _ b st' s'=>b.1=none/\b.2.2<=k/\st'=st1/\J s') ⟨rfl,Q0k _,rfl,j⟩ ?_ ?_))
   ·rintro x m ⟨r,lq,rq⟩ st' s' ⟨rfl,hr,rfl,j'⟩
    dsimp only at hr
    unfold bsP
    dsimp only
    split
    ·refine Q0z ?_
     dsimp only[FS]
     exact Q0r (y4y h fun st2 h2=>Q0z (ih st2 _ (fun k hk=>hl k (by simp[hk])) h2 j'))
    ·refine Q0r (q6h c hk hi h (by omega) (by omega) j' fun v s2 j2=>?_)
     cases v with
     |true=>exact Q0z ⟨rfl,by dsimp only;omega,rfl,j2⟩
     |false=>exact Q0z ⟨rfl,by dsimp only;omega,rfl,j2⟩
   ·rintro⟨r,lq,rq⟩ st' s' ⟨rfl,hr,rfl,j'⟩
    exact Q0r (y4y h fun st2 h2=>Q0z (ih st2 _ (fun k hk=>hl k (by simp[hk])) h2 j'))
 refine q3a (go _ st s (fun k hk=>by rw[List.mem_range'_1]at hk;omega) (.refl _) j) fun b st' s' hh1=>?_
 obtain⟨e,h,j⟩:=hh1
 obtain⟨r,u⟩:=b
 cases e
 exact Q0z (q _ _ h j)
end
end
def Til : List (Nat × Nat × Nat) -> Nat -> Nat -> Prop
 | [], a, b => a = b
 | (s, n, _) :: r, a, b => s = a /\ 1 <= n /\ Til r (a + n) b
theorem Til.le : ∀ {l : List (Nat × Nat × Nat)} {a b : Nat}, Til l a b -> a <= b
 | [], a, b, h => by have : a = b := h; omega
 | (s, n, p) :: r, a, b, ⟨_, _, h⟩ => by have := Til.le h; omega
theorem Til.snoc : ∀ {l : List (Nat × Nat × Nat)} {a b : Nat} (n p : Nat), Til l a b -> 1 <= n -> Til (l ++ [(b, n, p)]) a (b + n)
 | [], a, b, n, p, h, h1 => by cases (show a = b from h); exact ⟨rfl, h1, rfl⟩
 | (s, m, q) :: r, a, b, n, p, ⟨e, h1, h⟩, h2 => ⟨e, h1, Til.snoc n p h h2⟩
theorem Til.at2 : ∀ {l : List (Nat × Nat × Nat)} {a b i s n p s2 n2 p2 : Nat}, Til l a b -> l[i]? = some (s, n, p) -> l[i + 1]? = some (s2, n2, p2) -> s2 = s + n /\ 1 <= n /\ 1 <= n2 /\ s + n + n2 <= b /\ Til ((l.set i (s, n + n2, p)).eraseIdx (i + 1)) a b
 | [], _, _, _, _, _, _, _, _, _, _, h, _ => by simp at h
 | x :: [], _, _, i, _, _, _, _, _, _, _, _, h => by simp at h
 | (s0, n0, p0) :: (s1, n1, p1) :: r, a, b, 0, s, n, p, s2, n2, p2, ⟨e, h1, e2, h2, h⟩, g1, g2 => by
  simp at g1 g2
  obtain ⟨rfl, rfl, rfl⟩ := g1
  obtain ⟨rfl, rfl, rfl⟩ := g2
  have := Til.le h
  refine ⟨by omega, h1, h2, by omega, e, by omega, ?_⟩
  show Til r _ _
  rw [<- Q7i]; exact h
 | (s0, n0, p0) :: (s1, n1, p1) :: r, a, b, i + 1, s, n, p, s2, n2, p2, ⟨e, h1, h⟩, g1, g2 => by
  obtain ⟨z1, z2, z3, z4, z5⟩ := Til.at2 (i := i) h (by simpa using g1) (by simpa using g2)
  exact ⟨z1, z2, z3, z4, e, h1, z5⟩
theorem Til.mod {f : Nat × Nat × Nat -> Nat × Nat × Nat} (hf : ∀ x, (f x).1 = x.1 /\ (f x).2.1 = x.2.1) : ∀ {l : List (Nat × Nat × Nat)} {a b : Nat} (i : Nat), Til l a b -> Til (l.modify i f) a b
 | [], _, _, i, h => by simpa using h
 | (s, n, p) :: r, a, b, 0, ⟨e, h1, h⟩ => by
  obtain ⟨f1, f2⟩ := hf (s, n, p)
  rw [List.modify_zero_cons]
  generalize f (s, n, p) = v at f1 f2
  obtain ⟨x, y, z⟩ := v
  dsimp only at f1 f2
  subst f1 f2
  exact ⟨e, h1, h⟩
 | (s, n, p) :: r, a, b, i + 1, ⟨e, h1, h⟩ => by
  rw [List.modify_succ_cons]
  exact ⟨e, h1, Til.mod hf i h⟩
section
variable{prog:Q1e}{w:Q1x}{A:Q1t}{E:Q0b->Q0d->Prop}{κ:Q7y}{it:Q2a->Prop}{J:Q0d->Prop}
structure Whl(κ:Q7y)(a0:List Q2a)(lo:Nat)(st:Q1i):Prop where
 k:kindOf st=κ
 a:(arrOf st).toList.Perm a0
 f:failedOf st=none
 t:Til (pendingOf st).toList 0 lo
 l:lo<=a0.length
theorem Whl.sz{a0:List Q2a}{lo:Nat}{st:Q1i}(h:Whl κ a0 lo st):(arrOf st).size=a0.length:=by have:=h.a.length_eq;simpa using this
theorem Whl.al{a0:List Q2a}{lo:Nat}{st:Q1i}(h:Whl κ a0 lo st)(hi:∀x∈a0,it x):∀x∈arrOf st,it x:=fun x hx=>hi x (h.a.mem_iff.mp (by rw[Q8b];exact hx))
section
variable(c:CmpJ prog w A κ it J){a0:List Q2a}(hi:∀x∈a0,it x)
include c hi
theorem y4z{lo i:Nat}{st:Q1i}{s:Q0d}{Q:Bool->Q1i->Q0d->Prop}(h:Whl κ a0 lo st)(hp:i+1<(pendingOf st).size)(j:J s)(q:∀st' s',Whl κ a0 lo st'->J s'->Q true st' s'):kasC (model prog w) A E (mergeAt' i) Q st s:=by
 obtain⟨⟨sa,na,pa⟩,e1⟩:∃x,(pendingOf st)[i]?=some x:=⟨(pendingOf st)[i],by simp⟩
 obtain⟨⟨sb,nb,pb⟩,e2⟩:∃x,(pendingOf st)[i+1]?=some x:=⟨(pendingOf st)[i+1],by simp⟩
 obtain⟨rfl,n1,n2,z,t2⟩:=h.t.at2 (by rw[Q4r];exact e1) (by rw[Q4r];exact e2)
 refine z5i c h.k e1 e2 n1 n2 (by rw[h.sz];exact Q1l z h.l) (h.al hi) h.f j fun st' s' k' a' p' f' j'=>q _ _ ⟨k',a'.trans h.a,f',?_,h.l⟩ j'
 rw[p',Array.toList_eraseIdxIfInBounds,Q9u]
 exact t2
theorem x0m{lo size pw:Nat}{st:Q1i}{s:Q0d}{Q:Option Unit×Unit->Q1i->Q0d->Prop}(h:Whl κ a0 lo st)(j:J s)(q:∀st' s',Whl κ a0 lo st'->J s'->Q (none,()) st' s'):kasC (model prog w) A E (srM size pw) Q st s:=by
 unfold srM
 refine Q3u (q0y (fun _ b st' s'=>b=(none,())/\Whl κ a0 lo st'/\J s') ⟨rfl,h,j⟩ ?_ ?_)
 ·rintro x n b st' s' ⟨rfl,h',j'⟩
  refine Q0r (Q7g ?_)
  split
  ·rename_i e
   split
   ·exact Q0z (q _ _ h' j')
   ·have hp:(pendingOf st').size > 1:=by
     refine Q9i fun z=>?_
     rw[if_neg z]at e;cases e
    exact Q0r (y4z c hi h' (by omega) j' fun st2 s2 h2 j2=>Q0z ⟨rfl,h2,j2⟩)
  ·exact Q0z (q _ _ h' j')
 ·rintro b st' s' ⟨rfl,h',j'⟩
  exact q _ _ h' j'
theorem q9j{lo n:Nat}{st:Q1i}{s:Q0d}{Q:ForInStep (Option Unit×Nat)->Q1i->Q0d->Prop}(h:Whl κ a0 lo st)(h1:1<=n)(h2:lo+n<=a0.length)(j:J s)(q:∀st',Whl κ a0 (lo+n) st'->Q (.yield (none,lo+n)) st' s):kasC (model prog w) A E (z2y lo n) Q st s:=by
 unfold z2y
 refine Q0r (Q7z (Q0z (q _ ⟨h.k,h.a,h.f,?_,h2⟩)))
 show Til ((pendingOf st).push (lo,n,0)).toList 0 (lo+n)
 rw[Q3k]
 exact h.t.snoc n 0 h1
theorem q9k{lo n size:Nat}{st:Q1i}{s:Q0d}{Q:ForInStep (Option Unit×Nat)->Q1i->Q0d->Prop}(h:Whl κ a0 lo st)(h1:1<=n)(h2:lo+n<=a0.length)(j:J s)(q:∀st' s',Whl κ a0 (lo+n) st'->J s'->Q (.yield (none,lo+n)) st' s'):kasC (model prog w) A E (z2z size lo n) Q st s:=by
 unfold z2z
 refine Q0r (Q7g ?_)
 split
 ·refine Q0r (x0m c hi h j fun st' s' h' j'=>?_)
  refine Q0r (Q7z (q9j c hi ⟨h'.k,h'.a,h'.f,?_,h'.l⟩ h1 h2 j' fun st2 w2=>q _ _ w2 j'))
  show Til ((pendingOf st').modify _ _).toList 0 lo
  rw[Array.toList_modify]
  exact Til.mod (fun x=>by exact⟨rfl,rfl⟩) _ h'.t
 ·exact q9j c hi h h1 h2 j fun st2 w2=>q _ _ w2 j
theorem x0n{lo minrun:Nat}{st:Q1i}{s:Q0d}{Q:ForInStep (Option Unit×Nat)->Q1i->Q0d->Prop}(h:Whl κ a0 lo st)(j:J s)(q1:a0.length<=lo->Q (.done (none,lo)) st s)(q:∀lo' st' s',Whl κ a0 lo' st'->J s'->Q (.yield (none,lo')) st' s'):kasC (model prog w) A E (srB a0.length minrun (none,lo)) Q st s:=by
 unfold srB
 dsimp only
 split
 ·rename_i z;exact Q0z (q1 z)
 ·refine Q0r (z2n c h.k (h.al hi) (by omega) (by rw[h.sz];omega) j fun m st' s' m1 m2 p' j'=>?_)
  have w':Whl κ a0 lo st':=⟨p'.k.trans h.k,p'.a.trans h.a,p'.f.trans h.f,by rw[p'.p];exact h.t,h.l⟩
  dsimp only
  split
  ·refine Q0r (Q8q (Q3p (Q0r (q8x c w'.k (w'.al hi) (by rw[w'.sz];omega) j' fun st2 s2 p2 j2=>?_))))
   have w2:Whl κ a0 lo st2:=⟨p2.k.trans w'.k,p2.a.trans w'.a,p2.f.trans w'.f,by rw[p2.p];exact w'.t,h.l⟩
   simp only[Q5p,Q1j,if_false]
   exact q9k c hi w2 (by omega) (by omega) j2 fun st3 s3 w3 j3=>q _ _ _ w3 j3
  ·exact q9k c hi w' m1 (by omega) j' fun st3 s3 w3 j3=>q _ _ _ w3 j3
theorem y4m{lo size:Nat}{st:Q1i}{s:Q0d}{Q:Unit->Q1i->Q0d->Prop}(h:Whl κ a0 lo st)(j:J s)(q:∀st' s',Whl κ a0 lo st'->J s'->Q () st' s'):kasC (model prog w) A E (srE size) Q st s:=by
 unfold srE
 refine Q0r (Q3u (q0y (fun _ b st' s'=>b=(none,())/\Whl κ a0 lo st'/\J s') ⟨rfl,h,j⟩ ?_ ?_))
 ·rintro x n b st' s' ⟨rfl,h',j'⟩
  refine Q0r (Q7g ?_)
  split
  ·exact Q0z (show kasC _ _ _ (pure ()) Q st' s' from Q0z (q _ _ h' j'))
  ·refine Q0r (y4z c hi h' ?_ j' fun st2 s2 h2 j2=>Q0z ⟨rfl,h2,j2⟩)
   generalize Option.any _ _=u
   cases u<;>simp<;>omega
 ·rintro b st' s' ⟨rfl,h',j'⟩
  exact Q0z (q _ _ h' j')
theorem sortRuns_ok{st:Q1i}{s:Q0d}{Q:Unit->Q1i->Q0d->Prop}(hk:kindOf st=κ)(ha:(arrOf st).toList=a0)(hf:failedOf st=none)(hp:pendingOf st=#[])(j:J s)
  (q:∀st' s',(arrOf st').toList.Perm a0->failedOf st'=none->J s'->Q () st' s'):kasC (model prog w) A E sortRuns' Q st s:=by
 have w0:Whl κ a0 0 st:=⟨hk,by rw[ha],hf,by rw[hp];rfl,Q1f _⟩
 rw[q7y]
 refine Q0r (Q7g ?_)
 rw[w0.sz]
 refine Q0r (Q3u (q0y (fun _ b st' s'=>b.1=none/\Whl κ a0 b.2 st'/\J s') ⟨rfl,w0,j⟩ ?_ ?_))
 ·rintro x n ⟨r,lo⟩ st' s' ⟨rfl,h',j'⟩
  exact x0n c hi h' j' (fun _=>y4m c hi h' j' fun st2 s2 w2 j2=>q _ _ w2.a w2.f j2) fun lo' st2 s2 w2 j2=>⟨rfl,w2,j2⟩
 ·rintro⟨r,lo⟩ st' s' ⟨rfl,h',j'⟩
  exact y4m c hi h' j' fun st2 s2 w2 j2=>q _ _ w2.a w2.f j2
end
end
end So
namespace Ev
open PySem PySem.Spec PyProof.Rows L2
theorem z6j{xs:List V}{us vs:List Q0b}(r:Vals xs us)(p:vs.Perm us):∃ys,ys.Perm xs/\Vals ys vs:=by
 induction p generalizing xs with
 |nil=>cases r;exact⟨[],.refl _,.nil⟩
 |cons x _ ih=>
  cases r with
  |cons r1 r2=>obtain⟨ds,p1,q1⟩:=ih r2;exact⟨_::ds,.cons _ p1,.cons r1 q1⟩
 |swap x y l=>
  cases r with
  |cons r1 r2=>cases r2 with
   |cons r2 r3=>exact⟨_::_::_,.swap _ _ _,.cons r2 (.cons r1 r3)⟩
 |trans _ _ ih1 ih2=>
  obtain⟨ds,p1,q1⟩:=ih2 r
  obtain⟨es,p2,q2⟩:=ih1 q1
  exact⟨es,p2.trans p1,q2⟩
def q8z(X:Cx)(keys:Array Q0b)(s:Q0d):Prop:=∃κ,(∀(R:Q7y->Q0d->Prop)(E:Q0b->Q0d->Prop),R κ s->Q1d (model X.prog X.w) X.in2.A (keyKind' keys) R E s)/\So.CmpJ X.prog X.w X.in2.A κ (fun p=>p.1∈keys.toList) fun s'=>s'=s
section
variable{X:Cx}{pins:List (Q0u×Obj)}{σ:L2.St}{H:Hp}{s:Q0d}
theorem y6j{Q:Q6a->Q0d->Prop}{D kS:Q0u}{keys:Array Q0b}{us:List Q0b}{xs:List V}{e e1:Nat}{E:Q0b->Q0d->Prop}(I:Inv X.in2 pins σ H s)(fD:FpOk X.in2 pins H D)(fk:FpOk X.in2 pins H kS)(hne:kS≠D)
  (nk:s.heap.get? kS=some (seqObj "list" keys e)) (na:s.heap.get? D=some (seqObj "list" #[] e1)) (hsz:keys.size=us.length) (r:Vals xs us) (hle:us.length<=Q0l) (K:2<=us.length->q8z X keys s)
  (h:∀(ys:List V)(s':Q0d),ys.Perm xs->Inv X.in2 pins σ (upd H D (.lst ys)) s'->Q (.done (.ret .none)) s'):Q1d (model X.prog X.w) X.in2.A (ksk_end D false us.toArray e1 (.ref kS) keys) Q E s:=by
 have hzs:(keys.zip us.toArray).size=us.length:=by rw[Z3z,hsz,Q0g,Q9m]
 have tail:∀st:Q1i,(arrOf st).toList.Perm (keys.toList.zip us)->failedOf st=none->Q1d (model X.prog X.w) X.in2.A (Z4u D false e1 (.ref kS) st) Q E s:=by
  intro st hp hf
  have hp2:((arrOf st).map (·.2)).toList.Perm us:=by
   have:=hp.map (·.2)
   rw[Z3s (Q9k (hsz.symm.trans Q1u.symm))]at this
   rw[Q9h];exact this
  obtain⟨ps,p1,p3⟩:=z6j r hp2
  have hl:(arrOf st).size=us.length:=by have:=hp2.length_eq;simpa using this
  have pl:ps.length=us.length:=by rw[p3.length];simpa using hl
  unfold Z4u
  try dsimp only
  have s1:=Q1h.SameBut.update s.heap kS (Q2c fun _=>(#[]:Array Q0b))
  have na1:=(s1.2 D hne.symm).trans na
  have s2:=Q1h.SameBut.update (s.heap.update kS (Q2c fun _=>(#[]:Array Q0b))) D (Q2c fun _=>(arrOf st).map (·.2))
  refine Q0a (Q4h nk rfl ?_ (by rw[hsz];omega) (Q1f _))
  refine Q0a (Q7u (Q0a (Q7x na1 rfl ?_)))
  simp only[Q1j,if_false]
  refine Q0a (Q4h na1 rfl ?_ (Q1f _) (by rw[Z0a,hl];omega))
  rw[hf]
  simp only[bne_self_eq_false,Q1j,if_false]
  refine Q0f (h ps _ p1 (I.adopt (t':=s.toks) (D:=D) (kS:=kS) fD fk (fun b o hb hb' q=>(s2.2 b hb).trans ((s1.2 b hb').trans q)) ⟨_,(s2.2 kS hne).trans (Q3s nk fun _=>#[])⟩ ?_))
  have e3:=Q3s na1 fun _=>(arrOf st).map (·.2)
  exact⟨by rw[pl];omega,((arrOf st).map (·.2)).toList,_,p3,by rw[Q4e];exact e3⟩
 unfold ksk_end
 try dsimp only
 simp only[Q1j,if_false]
 by_cases h2:us.toArray.size<2
 ·rw[if_pos h2,if_pos h2]
  refine Q0a (Q0f ?_)
  rw[Q9n]
  refine Q0a (Q0f ?_)
  try dsimp only
  exact tail (Q1i.mk' general' (keys.zip us.toArray) #[] 7 none) (by show(keys.zip us.toArray).toList.Perm _;rw[ksk_zip]) rfl
 ·rw[if_neg h2,if_neg h2]
  rw[Q0g]at h2
  obtain⟨κ,hkk,hc⟩:=K (by omega)
  refine Q0a (hkk _ _ ?_)
  refine Q0a (Q1p (So.sortRuns_ok (Q:=fun _ st' s'=>(arrOf st').toList.Perm (keys.toList.zip us)/\failedOf st'=none/\s'=s) hc (fun x hx=>(Q4j (a:=x.1) (b:=x.2) hx).1) (st:=Q1i.mk' κ (keys.zip us.toArray) #[] 7 none) rfl (by show(keys.zip us.toArray).toList=_;rw[ksk_zip]) rfl rfl rfl fun st' s' a1 a2 a3=>⟨a1,a2,a3⟩) ?_ fun _ _ z=>z)
  rintro⟨⟨⟩,st'⟩ s' ⟨hp,hf,rfl⟩
  try dsimp only
  exact tail st' hp hf
theorem y1q{Q:Q6a->Q0d->Prop}{D kS f:Q0u}{us:List Q0b}{xs:List V}{e1:Nat}{E:Q0b->Q0d->Prop}(R:Hp->Prop)(P:Hp->Q0b->Prop)(hR:R H)(I:Inv X.in2 pins σ H s)(fD:FpOk X.in2 pins H D)(fk:FpOk X.in2 pins H kS)(hne:kS≠D)
  (nk:s.heap.get? kS=some (seqObj "list" #[] 0)) (na:s.heap.get? D=some (seqObj "list" #[] e1)) (r:Vals xs us) (hle:us.length<=Q0l) (K:∀(pins':List (Q0u×Obj))(H':Hp)(s':Q0d)(keys:Array Q0b),Inv X.in2 pins' σ H' s'->(∀v∈keys.toList,P H' v)->2<=keys.size->q8z X keys s')
  (turn:∀(i:Nat)(x:V)(u:Q0b),xs[i]?=some x->RelV x u->∀(pins':List (Q0u×Obj))(s':Q0d)(H':Hp),Inv X.in2 pins' σ H' s'->R H'->
   Q1d (model X.prog X.w) X.in2.A (call (.ref f) [u]) (fun v s2=>∃H2,P H2 v/\(∀z,P H' z->P H2 z)/\Inv X.in2 pins' σ H2 s2/\R H2) (fun _ _=>False) s')
  (h:∀(H':Hp)(ys:List V)(s':Q0d),R H'->H' D=none->ys.Perm xs->Inv X.in2 pins σ (upd H' D (.lst ys)) s'->Q (.done (.ret .none)) s'):Q1d (model X.prog X.w) X.in2.A (Z4v D (.ref f) false us.toArray e1 (.ref kS)) Q E s:=by
 unfold Z4v
 refine Q0a (Q3p ?_)
 rw[<-Q4m]
 have pk:∀{H':Hp}{s':Q0d}{kA:Array Q0b}{e:Nat},Inv X.in2 (pins++[(kS,seqObj "list" kA e),(D,seqObj "list" #[] e1)]) σ H' s'->s'.heap.get? kS=some (seqObj "list" kA e)/\s'.heap.get? D=some (seqObj "list" #[] e1)/\H' kS=none/\H' D=none:=fun {H' s' kA e} J=>by
  have h1:=J.pin (kS,seqObj "list" kA e) (by simp)
  have h2:=J.pin (D,seqObj "list" #[] e1) (by simp)
  exact⟨h1.1,h2.1,h1.2.1,h2.2.1⟩
 have rep:∀{H':Hp}{s':Q0d}{kA:Array Q0b}{e:Nat},Inv X.in2 pins σ H' s'->s'.heap.get? kS=some (seqObj "list" kA e)->s'.heap.get? D=some (seqObj "list" #[] e1)->H' kS=none->H' D=none->Inv X.in2 (pins++[(kS,seqObj "list" kA e),(D,seqObj "list" #[] e1)]) σ H' s':=fun J a b c d=>
  J.pins_of fun p hp=>by
   rcases Q0n.mp hp with hp|hp
   ·exact J.pin p (Q0t _ hp)
   ·rcases Q1b.mp hp with rfl|hp
    ·exact⟨a,c,fk.2.1,fk.2.2.1,z3m _ _ _⟩
    ·obtain rfl:=Q0i.mp hp
     exact⟨b,d,fD.2.1,fD.2.2.1,z3m _ _ _⟩
 refine Q0a (ksk_fold (fun i s'=>∃H' kA e,Inv X.in2 (pins++[(kS,seqObj "list" kA e),(D,seqObj "list" #[] e1)]) σ H' s'/\R H'/\(∀v∈kA.toList,P H' v)/\kA.size=i/\i<=us.length) us 0 s
  ⟨H,#[],0,rep I nk na fk.1 fD.1,hR,by simp,rfl,Q1f _⟩ ?step ?done)
 case step=>
  rintro j u s' hu ⟨H',kA,e,J,q,hk,hn,hi⟩
  rw[Q4x]at hn hi
  have hj:j<us.length:=(Q0s.mp hu).1
  obtain⟨x,hx,rx⟩:∃x,xs[j]?=some x/\RelV x u:=by
   have hl:=r.length
   obtain⟨u',e1,e2⟩:=r.get (Q0e (show j<xs.length by omega))
   rw[hu]at e1
   cases e1
   exact⟨_,Q0e (show j<xs.length by omega),e2⟩
  refine Q0a (Q5z (Q1p (turn j x u hx rx _ _ _ J q) (fun v s2 z=>?_) fun _ _ z=>z.elim))
  obtain⟨H2,pv,pz,J2,q2⟩:=z
  obtain⟨a1,a2,a3,a4⟩:=pk J2
  try dsimp only
  have s1:=Q1h.SameBut.update s2.heap kS (Q2c (·.push v))
  refine Q0a (Q4h a1 rfl ?_ (by omega) (Q1l (Q9k (Q7q ..)) (by omega)))
  have J3:Inv X.in2 pins σ H2 {s2 with heap:=s2.heap.update kS (Q2c (·.push v))}:=J2.unpinned.turned (t':=s2.toks) (fun b o hb z=>(s1.2 b hb).trans z) a3 fk.2.1 fk.2.2.2.1 fk.2.2.2.2.1 fk.2.2.2.2.2
  have e3:=Q3s a1 (·.push v)
  refine Q0f ⟨rfl,H2,_,_,rep J3 e3 ((s1.2 D hne.symm).trans a2) a3 a4,q2,fun z hz=>?_,by rw[Q7q,hn,Q4x],by omega⟩
  rw[Q3k]at hz
  rcases Q0n.mp hz with hz|hz
  ·exact pz z (hk z hz)
  ·rw[Q0i.mp hz];exact pv
 case done=>
  rintro s' ⟨H',kA,e,J,q,hk,hn,hi⟩
  rw[Q4x]at hn
  obtain⟨a1,a2,a3,a4⟩:=pk J
  refine Q0a (Q8p a1 rfl ?_)
  exact y6j J.unpinned ⟨a4,fD.2⟩ ⟨a3,fk.2⟩ hne a1 a2 hn r hle (fun h2=>K _ H' s' kA J hk (by omega)) fun ys s2 p1 J2=>h H' ys s2 q a4 p1 J2
theorem z4q{Q:VK}{a f:Q0u}{xs:List V}(R:Hp->Prop)(P:Hp->Q0b->Prop)(hR:R H)(I:Inv X pins σ H s)(sa:SqL X.K H a xs)(K:∀(pins':List (Q0u×Obj))(H':Hp)(s':Q0d)(keys:Array Q0b),Inv X.in2 pins' σ H' s'->(∀v∈keys.toList,P H' v)->2<=keys.size->q8z X keys s')
  (turn:∀(i:Nat)(x:V)(u:Q0b),xs[i]?=some x->RelV x u->∀(pins':List (Q0u×Obj))(s':Q0d)(H':Hp),Inv X.in2 pins' σ H' s'->R H'->
   Q1d (model X.prog X.w) X.in2.A (call (.ref f) [u]) (fun v s2=>∃H2,P H2 v/\(∀z,P H' z->P H2 z)/\Inv X.in2 pins' σ H2 s2/\R H2) (fun _ _=>False) s')
  (h:∀(H':Hp)(ys:List V)(D:Q0u),R H'->H' D=none->ys.Perm xs->Q (.ref D) (upd H' D (.lst ys))) :
  Q1d (model X.prog X.w) X.A (call (.builtin "sorted") [.ref a] [(Q0j "key",.ref f)]) (EP X pins σ Q) X.xe s:=by
 obtain⟨us,r,p,hz⟩:=I.list sa
 have hl:=r.length
 have hle:us.length<=Q0l:=by omega
 have hle':us.toArray.size<=Q0l:=by rw[Q0g];omega
 refine Z2z Z4j Z3q Z3r (ksk_s1 _ _) ?_
 unfold Q1g.«sorted»
 refine Q0a (m:=checkCount "sorted" 1 1 _) (Q0f (Q0a (collect_list p.isList ?_ hle)))
 refine Q0a (Q6r ?_ hle)
 generalize hh:(s.heap.push (seqObj "list" #[] 0)).update s.heap.objs.size (Q2c (·++us.toArray))=h1
 have z1:h1.objs.size=s.heap.objs.size+1:=by rw[<-hh,Q1h.size_update,Q8t]
 have k1:∀b o,s.heap.get? b=some o->h1.get? b=some o:=fun b o q=>by
  have hlt:b<s.heap.objs.size:=Q0m q
  rw[<-hh,Q1h.get?_update_ne _ _ _ _ (Q0y hlt),Q1h.get?_push_ne _ _ _ (Q0y hlt)]
  exact q
 have oL:(h1.push (seqObj "list" us.toArray 0)).get? h1.objs.size=some (seqObj "list" us.toArray 0):=Q0w _ rfl
 refine Q0a (Q2e (Z4k Z1w (T:= "list") (s:={s with heap:=h1.push (seqObj "list" us.toArray 0)}) ⟨_,oL,rfl⟩ Z1i ?_ (ksk_l1 _ _)))
 show Q1d (model X.prog X.w) X.in2.A (Q1g.«list.sort» ⟨[.ref h1.objs.size],[(Q0j "key",.ref f)]⟩) _ _ _
 rw[ksk_t1]
 unfold ksk_tree
 generalize hD:h1.objs.size=D at oL ⊢
 refine Q0a (Q8p (s:={s with heap:=h1.push (seqObj "list" us.toArray 0)}) oL rfl ?_)
 refine Q0a (Q4h (s:={s with heap:=h1.push (seqObj "list" us.toArray 0)}) oL rfl ?_ hle' (Q1f _))
 have e1:=Q3s oL fun _=>#[]
 generalize hh2:(h1.push (seqObj "list" us.toArray 0)).update D (Q2c fun _=>(#[]:Array Q0b))=h2 at e1
 have z2:h2.objs.size=D+1:=by rw[<-hh2,Q1h.size_update,Q8t,hD]
 have k2:∀b o,s.heap.get? b=some o->h2.get? b=some o:=fun b o q=>by
  have hlt:b<s.heap.objs.size:=Q0m q
  have hb:b<D:=by rw[<-hD,z1];exact Q7e hlt
  rw[<-hh2,Q1h.get?_update_ne _ _ _ _ (Q0y hb),Q1h.get?_push_ne _ _ _ (by rw[hD];exact Q0y hb)]
  exact k1 b o q
 refine Q0a (Q7x (s:={s with heap:=h2}) e1 rfl ?_)
 refine Q0a (Q7k (s:={s with heap:=h2}) ?_ hle)
 refine Q0a (Q6r ?_ (Q1f _))
 refine Q2e ?_
 generalize hkS:(h2.push (seqObj "tuple" us.toArray 0)).objs.size=kS
 have z3:kS=D+2:=by rw[<-hkS,Q8t,z2]
 have oK:((h2.push (seqObj "tuple" us.toArray 0)).push (seqObj "list" #[] 0)).get? kS=some (seqObj "list" #[] 0):=by rw[<-hkS];exact Q0w _ rfl
 have I1:Inv X pins σ H {s with heap:=(h2.push (seqObj "tuple" us.toArray 0)).push (seqObj "list" #[] 0)}:=I.kept (t':=s.toks) fun b o q=>Q0c _ (Q0c _ (k2 b o q))
 have fD:FpOk X pins H D:=I.fpOk (by omega) (I.hok.fresh (by omega))
 have fk:FpOk X pins H kS:=I.fpOk (by omega) (I.hok.fresh (by omega))
 refine y1q R P hR I1.in2 fD fk (by rw[z3];exact Q1s (Z1j (by decide))) oK (Q0c _ (Q0c _ e1)) r hle K turn fun H' ps s' q n p1 J=>?_
 exact⟨_,rfl,Q0f ⟨_,rfl,.ref D,_,J.out2 I.ok,rfl,h H' ps D q n p1⟩⟩
def KT(K:Q2p)(H:Hp)(v:Q0b):Prop:=∃(b:Q0u)(p q:Int),v=.ref b/\SqT K H b [.int p,.int q]
theorem y8v{v:Q0b}(I:Inv X pins σ H s)(h:KT X.K H v):∃(b:Q0u)(o:Obj)(n:Nat)(p q:Int)(t u:Tok),v=.ref b/\s.heap.get? b=some o/\o.cls=.type "tuple" /\o.data=.seq #[.int p t,.int q u] n:=by
 obtain⟨b,p,q,rfl,h⟩:=h
 obtain⟨its,r,⟨o,ho,hc,n,hd⟩,_⟩:=I.tuple h
 cases r with
 |cons r1 r=>cases r with
  |cons r2 r=>cases r;obtain⟨t,rfl⟩:=r1;obtain⟨u,rfl⟩:=r2;exact⟨b,o,n,p,q,t,u,rfl,ho,hc,hd⟩
theorem x3a{keys:Array Q0b}(I:Inv X.in2 pins σ H s)(hk:∀v∈keys.toList,KT X.K H v)(h2:2<=keys.size):q8z X keys s:=by
 refine⟨tuples' true,fun R E hR=>?_,fun x y s' hx hy e=>?_⟩
 ·have go:∀l:List Q0b,(∀v∈l,KT X.K H v)->∃fs,Z2r s.heap l fs/\fs.length=l.length/\∀f∈fs,∃p t,f=.int p t:=by
   intro l
   induction l with
   |nil=>intro _;exact⟨[],trivial,rfl,fun f h=>by cases h⟩
   |cons v l ih=>
    intro hl
    obtain⟨fs,a1,a2,a3⟩:=ih fun v hv=>hl v (by simp[hv])
    obtain⟨b,o,n,p,q,t,u,rfl,ho,hc,hd⟩:=y8v I (hl v (by simp))
    refine⟨.int p t::fs,Z2r.cons ho hc hd rfl a1,by simp[a2],fun f hf=>?_⟩
    rcases Q1b.mp hf with rfl|hf
    ·exact⟨p,t,rfl⟩
    ·exact a3 f hf
  obtain⟨fs,a1,a2,a3⟩:=go keys.toList hk
  have:=PySem.W.kat_kind (M:=model X.prog X.w) (A:=X.in2.A) (E:=E) (T:=.type "int") (Q:=R) a1 (by rw[a2,Q1u];omega) (fun f hf=>by obtain⟨p,t,rfl⟩:=a3 f hf;exact Z5k rfl) (by decide) hR
  rwa [Q4e]at this
 ·subst e
  obtain⟨x1,x2⟩:=x
  obtain⟨y1,y2⟩:=y
  dsimp only at hx hy ⊢
  obtain⟨b,o,n,p,q,t,u,rfl,ho,hc,hd⟩:=y8v I (hk x1 hx)
  obtain⟨b',o',n',p',q',t',u',rfl,ho',hc',hd'⟩:=y8v I (hk y1 hy)
  refine PySem.W.kat_lt ho hd ho' hd' ?_
  refine Z2d (Z0m (Z3a (fun _=>Z2s ?_) fun _=>Z3b (oneLt_int rfl)))
  refine Z2d (Z0m (Z3a (fun _=>Z2s (PySem.W.kat_nil rfl)) fun _=>Z3b (PySem.W.kat_one _ _ (wpAny_lt_int rfl))))
end
def z6h(sp:Den)(we:WE):WE:=fun σ S E Q=>we σ S E fun x S1=>∃(n:Nat)(xs:List PV),x=.ref n/\q1p S1 n=some xs/\
 (∀v∈xs,sp [v] S1 NoX fun u S2=>(∃a b:Int,u=.tup [.int a,.int b])/\S2=S1)/\∀ys:List PV,ys.Perm xs->Q (.ref S1.length) (S1++[.lst ys])
theorem y2i{K:Q2p}{H:Hp}{φ:List Q0u}{xs:List PV}{vs ws:List V}(r:RVs K H φ xs vs)(p:ws.Perm vs):∃ys,ys.Perm xs/\RVs K H φ ys ws:=by
 induction p generalizing xs with
 |nil=>cases xs with
  |nil=>exact⟨[],.refl _,rfl⟩
  |cons x xs=>obtain⟨_,_,e,_⟩:=r;cases e
 |cons x _ ih=>cases xs with
  |nil=>cases(show _::_=[]from r)
  |cons y xs=>
   obtain⟨_,_,e,r1,r2⟩:=r
   cases e
   obtain⟨ds,p1,q1⟩:=ih r2
   exact⟨y::ds,.cons _ p1,_,_,rfl,r1,q1⟩
 |swap x y l=>cases xs with
  |nil=>cases(show _::_=[]from r)
  |cons a xs=>cases xs with
   |nil=>obtain⟨_,_,e,_,e2⟩:=r;cases e;cases(show _::_=[]from e2)
   |cons b xs=>
    obtain⟨_,_,e,r1,_,_,e2,r2,r3⟩:=r
    cases e;cases e2
    exact⟨b::a::xs,.swap _ _ _,_,_,rfl,r2,_,_,rfl,r1,r3⟩
 |trans _ _ ih1 ih2=>
  obtain⟨ds,p1,q1⟩:=ih2 r
  obtain⟨es,p2,q2⟩:=ih1 q1
  exact⟨es,p2.trans p1,q2⟩
section
variable{X:Cx}{G:GX}{pos:Pos}
theorem z7a {e : Expr} {we : WE} {p p' kpos : Pos} {x : Str} {k : Nat} {f : Q0u} {fd : Q2z} {ps : List Str} {sp : Den} (hm : X.mg "sorted" = none) (C : Cal X.prog X.w X.K X.mg X.base k x ps (q0l X.K sp) f fd) (hr : Room k X.A.in1.in1) (he : SimE X G e we)
    (hg : Gl X "sorted" := by rfl) (hgx : Gl X x := by rfl) (hdb : (x == ("__debug__" : Str)) = false := by decide) (hst : Q1m [e] X.env = (false, eval e X.env) :: Q1m [] X.env := by rfl) : SimE X G (.Call (.Name "sorted" p) [e] [⟨some "key", .Name x p', kpos⟩] pos) (z6h sp we) := by
  rintro pins s σV H Q I ⟨φ, σ, S, Q0, L, R, h, kk⟩
  refine Q4f (q4n I hg hm q4d ?_)
  have ha := z1r he z8m hst
  have hk := z8f (nm := some "key") (kpos := kpos) (z1q (pos := p') hgx C.m (show RelV (V.ref f) (Q0b.ref f) from rfl) hdb) y4v
  refine callWith_kw (thn (ha pos pins s σV H (fun vs H1 => ∃ (n : Nat) (xs : List PV) (φ1 : List Q0u) (S1 : q0b) (a : Q0u), vs = [.ref a] /\ φ1[n]? = some a /\ φ <+: φ1 /\ Mono H H1 /\ Rel X.K φ1 S1 H1 /\ q1p S1 n = some xs /\
      (∀ v ∈ xs, sp [v] S1 NoX fun u S2 => (∃ a b : Int, u = .tup [.int a, .int b]) /\ S2 = S1) /\ ∀ ys : List PV, ys.Perm xs -> Q0 (.ref S1.length) (S1 ++ [.lst ys])) I
      ⟨φ, σ, S, _, L, R, h, fun v S1 φ1 H1 y q p1 m1 R1 r1 => ?_⟩) ?_) (by rw [hst]; rfl) (by rw [hst]; rfl)
  · obtain ⟨n, xs, rfl, q⟩ := q
    obtain ⟨a, rfl, qa⟩ := r1
    exact ⟨n, xs, φ1, S1, a, rfl, qa, p1, m1, R1, q⟩
  · rintro us s1 ⟨vs, H1, I1, r1, n, xs, φ1, S1, a, rfl, qa, p1, m1, R1, e1, ht, hq⟩
    refine thn (hk pos pins s1 σV H1 (fun zs H2 => zs = [.ref f] /\ H2 = H1) I1 ⟨rfl, rfl⟩) ?_
    rintro ws s2 ⟨zs, H2, I2, r2, rfl, rfl⟩
    cases r1 with
    | cons r1 r1' => cases r1'; cases r1; cases r2 with
      | cons r2 r2' => cases r2'; cases r2
                       obtain ⟨vs, sa, ra⟩ := R1.seq qa e1
                       show Q1d (model X.prog X.w) X.A (call (.builtin "sorted") [.ref a] [(Q0j "key", .ref f)]) _ X.xe s2
                       refine z4q (fun H' => ∃ φ', φ1 <+: φ' /\ Mono H2 H' /\ Rel X.K φ' S1 H') (KT X.K) ⟨φ1, Q0h _, .refl _, R1⟩ I2 sa (fun pins' H' s' keys I' hk h2 => x3a I' hk h2) ?_ ?_
                       · rintro i y u hy ru pins' s' H' I' ⟨φ', q1, q2, q3⟩
                         obtain ⟨pv, e2, rv⟩ := ra.getV hy
                         have rv' := RV.mono q2 q1 _ _ rv
                         refine Q1p (z7s (X := X.in2) (vs := [y]) (Q := fun v H2' => (∃ b p q, v = .ref b /\ SqT X.K H2' b [.int p, .int q]) /\ Mono H' H2' /\ ∃ φ', φ1 <+: φ' /\ Mono H2 H' /\ Rel X.K φ' S1 H2' /\ Mono H2 H2') C.G hr C.b .nil (z8l (K := X.K)) I' (.cons ru .nil) ?_) ?_ fun _ _ z => z
                         · refine ⟨φ', [pv], S1, _, NoX, NoG.xh, ⟨_, _, rfl, rv', rfl⟩, q3, ht pv (Q3g e2), ?_, fun _ _ _ _ z => z.elim, fun _ _ _ z => z⟩
                           rintro v S2 φ2 H3 w' ⟨⟨a, b, rfl⟩, rfl⟩ p3 m3 R3 rv3
                           refine ⟨?_, m3, φ2, q1.trans p3, q2, R3, q2.trans m3⟩
                           obtain ⟨c, vs, rfl, sq, _, _, rfl, rfl, _, _, rfl, rfl, rfl⟩ := rv3
                           exact ⟨c, a, b, rfl, sq⟩
                         · rintro v s3 ⟨w', H3, I3, r3, ⟨b, p, q, rfl, sq⟩, m3, φ2, z1, z2, z3, z4⟩
                           cases r3
                           exact ⟨H3, ⟨b, p, q, rfl, sq⟩, fun z hz => by obtain ⟨b, p, q, rfl, sq⟩ := hz; exact ⟨b, p, q, rfl, m3.sqT sq⟩, I3, φ2, z1, z4, z3⟩
                       · rintro H' ps' D ⟨φ', q1, q2, q3⟩ n' p'
                         obtain ⟨bs, b1, b2⟩ := y2i (RVs.mono q2 q1 _ _ ra) p'
                         exact ((kk.up p1 m1).up q1 q2).lst (hq bs b1) q3 b2 D n'
end
theorem y6z{us vs:List Q0b}{ks:List Str}(r:Q4l us ks)(p:vs.Perm us):∃ys,ys.Perm ks/\Q4l vs ys:=by
 induction p generalizing ks with
 |nil=>cases r;exact⟨[],.refl _,.nil⟩
 |cons x _ ih=>
  cases r with
  |cons y t r2=>obtain⟨ds,p1,q1⟩:=ih r2;exact⟨y::ds,.cons _ p1,.cons y t q1⟩
 |swap x y l=>
  cases r with
  |cons a t r2=>cases r2 with
   |cons b u r3=>exact⟨b::a::_,.swap _ _ _,.cons b u (.cons a t r3)⟩
 |trans _ _ ih1 ih2=>
  obtain⟨ds,p1,q1⟩:=ih2 r
  obtain⟨es,p2,q2⟩:=ih1 q1
  exact⟨es,p2.trans p1,q2⟩
theorem z7o{v:Q0b}:∀{us:List Q0b}{ks:List Str},Q4l us ks->v∈us->∃x t,v=.str x t
 |_,_,.nil,h=>by cases h
 |_,_,.cons x t r,h=>by
  rcases Q1b.mp h with rfl|h
  ·exact⟨x,t,rfl⟩
  ·exact z7o r h
def q7x(a:Q0u)(before:Nat)(st:Q1i):Sem Q6a:=do
 let sorted:=(arrOf st).map (·.2)
 let touched:=(<-seqEpoch a) != before
 Q1g.List.listUpdate (.ref a) fun _=>sorted
 if let some e:=failedOf st then rule "list.sort.comparison-raised";throw e
 if touched then rule "list.sort.modified";raiseError "ValueError" "list modified during sort"
 ret .none
def z6s(a:Q0u)(items:Array Q0b)(before:Nat):Sem Q6a:=do
 let kind <-if items.size<2 then pure general' else keyKind' items
 let r <-(if items.size<2 then pure ()else sortRuns').run (Q1i.mk' kind (items.zip items) #[] 7 none)
 q7x a before r.2
theorem q9w(a:Q0u):Q1g.«list.sort» ⟨[.ref a],[]⟩=(do
  let items <-Q1g.List.listItems (.ref a)
  Q1g.List.listUpdate (.ref a) fun _=>#[]
  let before <-seqEpoch a
  let held <-newTuple items.toList
  let keyStore <-newList []
  holding [held,keyStore] (z6s a items before)):=by kernel_rfl
section
variable{prog:Q1e}{w:Q1x}{A:Q1t}{E:Q0b->Q0d->Prop}{s:Q0d}
theorem z5j{a:Q0u}{n:Nat}{vs:List Q0b}{ks:List Str}{P:Q6a->Q0d->Prop}(ho:s.heap.get? a=some (seqObj "list" vs.toArray n))(hS:Q4l vs ks)(hle:vs.length<=Q0l)
  (h:∀(h':Q1h)(e:Nat)(out:List Q0b)(ys:List Str),(∀b o,b≠a->s.heap.get? b=some o->h'.get? b=some o)->h'.get? a=some (seqObj "list" out.toArray e)->Q4l out ys->ys.Perm ks->P (.done (.ret .none)) {s with heap:=h' }) :
  Q1d (model prog w) A (Q1g.«list.sort» ⟨[.ref a],[]⟩) P E s:=by
 rw[q9w]
 have ha:a<s.heap.objs.size:=Q0m ho
 have hle':vs.toArray.size<=Q0l:=by rw[Q0g];exact hle
 refine Q0a (Q8p ho rfl (Q0a (Q4h ho rfl ?_ hle' (Q1f _))))
 have s1:=Q1h.SameBut.update s.heap a (Q2c fun _=>(#[]:Array Q0b))
 have e1:=Q3s ho fun _=>(#[]:Array Q0b)
 generalize hh:s.heap.update a (Q2c fun _=>(#[]:Array Q0b))=h1 at e1 s1
 have z1:h1.objs.size=s.heap.objs.size:=by rw[<-hh,Q1h.size_update]
 refine Q0a (Q7x (s:={s with heap:=h1}) e1 rfl (Q0a (Q7k (s:={s with heap:=h1}) ?_ hle)))
 refine Q0a (Q6r ?_ (Q1f _))
 refine Q2e ?_
 have k2:∀b o,b≠a->s.heap.get? b=some o->((h1.push (seqObj "tuple" vs.toArray 0)).push (seqObj "list" #[] 0)).get? b=some o:=fun b o hb q=>Q0c _ (Q0c _ ((s1.2 b hb).trans q))
 have e2:=Q0c (seqObj "list" #[] 0) (Q0c (seqObj "tuple" vs.toArray 0) e1)
 show Q1d (model prog w) A (z6s a vs.toArray _) P E {s with heap:=(h1.push (seqObj "tuple" vs.toArray 0)).push (seqObj "list" #[] 0)}
 generalize (h1.push (seqObj "tuple" vs.toArray 0)).push (seqObj "list" #[] 0)=h2 at k2 e2
 generalize (if(#[]:Array Q0b).size==vs.toArray.size then n else n+1)=ep at e2 ⊢
 have tail:∀st:Q1i,(arrOf st).toList.Perm (vs.zip vs)->failedOf st=none->Q1d (model prog w) A (q7x a ep st) P E {s with heap:=h2}:=by
  intro st hp hf
  have hp2:((arrOf st).map (·.2)).toList.Perm vs:=by
   have:=hp.map (·.2)
   rw[Z3s (Q0k _)]at this
   rw[Q9h];exact this
  have hl:((arrOf st).map (·.2)).size<=Q0l:=by have:=hp2.length_eq;rw[Q1u]at this;omega
  obtain⟨ys,y1,y2⟩:=y6z hS hp2
  have s3:=Q1h.SameBut.update h2 a (Q2c fun _=>(arrOf st).map (·.2))
  have e3:=Q3s e2 fun _=>(arrOf st).map (·.2)
  unfold q7x
  dsimp only
  refine Q0a (Q7x (s:={s with heap:=h2}) e2 rfl ?_)
  refine Q0a (Q4h (s:={s with heap:=h2}) e2 rfl ?_ (Q1f _) (Nat.le_succ_of_le hl))
  rw[hf]
  simp only[bne_self_eq_false,Q1j,if_false]
  exact Q0f (h _ _ ((arrOf st).map (·.2)).toList ys (fun b o hb q=>(s3.2 b hb).trans (k2 b o hb q)) (by rw[Q4e];exact e3) y2 y1)
 unfold z6s
 by_cases g2:vs.toArray.size<2
 ·rw[if_pos g2,if_pos g2]
  refine Q0a (Q0f ?_)
  dsimp only
  rw[Q9n]
  refine Q0a (Q0f ?_)
  exact tail (Q1i.mk' general' (vs.toArray.zip vs.toArray) #[] 7 none) (by show(vs.toArray.zip vs.toArray).toList.Perm _;simp) rfl
 ·rw[if_neg g2,if_neg g2]
  rw[Q0g]at g2
  obtain⟨v1,v2,rest,rfl⟩:∃v1 v2 rest,vs=v1::v2::rest:=by
   match vs,g2 with
   |[],g2=>simp at g2
   |[_],g2=>simp at g2
   |a::b::c,_=>exact⟨a,b,c,rfl⟩
  rw[keyKind_strs hS]
  refine Q0a (Q0f ?_)
  have hc:So.CmpJ prog w A oneType' (fun p=>p∈(v1::v2::rest).zip (v1::v2::rest)) (fun s'=>s'={s with heap:=h2}):=fun x y s' hx hy e=>by
   subst e
   obtain⟨x1,x2⟩:=x
   obtain⟨y1,y2⟩:=y
   obtain⟨a,t,rfl⟩:=z7o hS (Q4j hx).1
   obtain⟨b,u,rfl⟩:=z7o hS (Q4j hy).1
   rw[keyLt'_oneType]
   exact oneLt_str rfl
  refine Q0a (Q1p (So.sortRuns_ok (Q:=fun _ st' s'=>(arrOf st').toList.Perm ((v1::v2::rest).zip (v1::v2::rest))/\failedOf st'=none/\s'={s with heap:=h2}) hc (fun x hx=>hx) (st:=Q1i.mk' oneType' ((v1::v2::rest).toArray.zip (v1::v2::rest).toArray) #[] 7 none) rfl (by show((v1::v2::rest).toArray.zip (v1::v2::rest).toArray).toList=_;simp) rfl rfl rfl fun st' s' a1 a2 a3=>⟨a1,a2,a3⟩) ?_ fun _ _ z=>z)
  rintro⟨⟨⟩,st'⟩ s' ⟨hp,hf,rfl⟩
  exact tail st' hp hf
theorem y3p{T:String}{r d S:Q0u}{n:Nat}{P:Nat->Q0b->Prop}{OK:Q1h->Prop}{R:Z4o->Q0d->Prop}(K:Z3c prog w T r d n P OK)(hh:A.handled=none)(hok:OK s.heap)(hSr:S≠r)(hSd:S≠d)(hS:s.heap.get? S=some {cls:=.type "list",data:=.seq #[] 0})(hn:n<=Q0l)
  (hR:∀h' tk acc' c',(∀b o,b≠S->s.heap.get? b=some o->h'.get? b=some o)->h'.get? S=some {cls:=.type "list",dict:=none,data:=.seq acc' c',slots:=#[]}->ItemsOf P acc' n->R (.ok (.ret (.ref S))) {s with heap:=h',toks:=tk}) :
  codeAny (model prog w) A (.builtin "list.__iadd__" ⟨[.ref S,.ref r],[]⟩) R s:=by
 refine Q8o PySem.F.entry_list_iadd ?_
 rw[Q1t.under_plainId Z0b _]
 exact PySem.W.kdl_extend K hh hok S hSr hSd (.ref S) 0 hS hR hn
theorem z2o{T:String}{r d:Q0u}{n:Nat}{P:Nat->Q0b->Prop}{OK:Q1h->Prop}{Q:List Q0b->Q0d->Prop}(K:Z3c prog w T r d n P OK)(hh:A.handled=none)(hok:OK s.heap)(hn:n<=Q0l)
  (hQ:∀(h':Q1h)(tk:Nat)(acc:Array Q0b),(∀b o,s.heap.get? b=some o->h'.get? b=some o)->s.heap.objs.size<h'.objs.size->ItemsOf P acc n->Q acc.toList {s with heap:=h',toks:=tk}):Q1d (model prog w) A (collect (.ref r)) Q E s:=by
 unfold collect
 refine Q0a (wpAny_runValue (Q8o PySem.F.entry_proto_collect ?_))
 rw[Q1t.under_plainId PySem.F.plain_proto_collect _]
 show Q1d _ A.in1 (newList [] >>= fun l=>again (.builtin "list.__iadd__" ⟨[l,.ref r],[]⟩)) _ _ s
 refine Q0a (Q2k ?_)
 have hS₁:(s.heap.push {cls:=.type "list",data:=.seq ([]:List Q0b).toArray}).get? s.heap.objs.size=some {cls:=.type "list",data:=.seq ([]:List Q0b).toArray}:=Q0w _ rfl
 have hlt:=K.there _ hok
 refine Q0f ⟨Z2n Z0b _,y3p (s:={s with heap:=s.heap.push {cls:=.type "list",data:=.seq ([]:List Q0b).toArray}}) K hh (K.keep _ _ hok fun b _ o e=>Q0c _ e) (Q1s hlt.1) (Q1s hlt.2) hS₁ hn fun h' tk acc c' hk hS' hacc=>?_⟩
 refine Q0a (wpAny_load hS' ?_)
 exact Q0f (hQ h' tk acc (fun b o e=>hk b o (Q0y (Q0m e)) (Q0c _ e)) (Q0m hS') hacc)
theorem x0x{kvs:List (Key×Q0b)}:∀(ks:List Str)(us:List Q0b)(i:Nat),kvs.map (·.1)=ks.map Q4k->us.length+i=ks.length->(∀j v,us[j]?=some v->∃k x,kvs[j+i]?=some (k,x)/\z0a k v=true)->Q4l us (ks.drop i)
 |ks,[],i,e,hl,_=>by rw[Q4n (by simp at hl;omega)];exact .nil
 |ks,u::us,i,e,hl,h=>by
  have hi:i<ks.length:=by simp at hl;omega
  obtain⟨k,x,e1,e2⟩:=h 0 u rfl
  rw[Q4x]at e1
  have e3:(kvs.map (·.1))[i]?=some k:=by rw[Q1z,e1];rfl
  rw[e,Q1z,Q0e hi]at e3
  simp only[Q9l,Q2l.injEq]at e3
  subst e3
  rcases q0p e2 with⟨_,_,z,_⟩|⟨y,t,z,rfl⟩
  ·cases z
  ·cases z
   rw[Q2g hi]
   exact .cons _ t (x0x ks us (i+1) e (by simp at hl;omega) fun j v hv=>by
    obtain ⟨k,x,a,b⟩:=h (j+1) v (by simpa using hv)
    exact ⟨k,x,by rw [show j+(i+1)=j+1+i by omega];exact a,b⟩)
theorem z1m{d:Q0u}{kvs:List (Key×Q0b)}{ks:List Str}{ep:Nat}{Q:Q0b->Q0d->Prop}(hh:A.handled=none)(hd:s.heap.DictAt (q0s prog w) d kvs ep)(lo:(d==sysModules)=false)(hn:kvs.length<=Q0l)(hk:kvs.map (·.1)=ks.map Q4k)
  (h:∀(h':Q1h)(tk D e:Nat)(out:List Q0b)(ys:List Str),(∀b o,s.heap.get? b=some o->h'.get? b=some o)->s.heap.objs.size<=D->h'.get? D=some (seqObj "list" out.toArray e)->Q4l out ys->ys.Perm ks->Q (.ref D) {s with heap:=h',toks:=tk}) :
  Q1d (model prog w) A (call (.builtin "sorted") [.ref d]) Q E s:=by
 refine Calls.call_function_entry Z4j Z3q Z3r (args_sorted1 _) ?_
 unfold Q1g.«sorted»
 refine Q0a (m:=checkCount "sorted" 1 1 _) (Q0f ?_)
 refine Q0a (z2o (PySem.W.kdl_dict (ep:=ep) lo) hh hd hn fun h1 tk acc k1 hgt hI=>?_)
 have hkl:ks.length=kvs.length:=by have:=congrArg Q3m hk;simpa using this.symm
 have hS:Q4l acc.toList ks:=by
  have:=x0x (kvs:=kvs) ks acc.toList 0 hk (by rw[Q1u,hI.1];omega) fun j v hv=>by
   obtain⟨k,x,a,b⟩:=hI.2 j v (by rw[Q4r]at hv;exact hv)
   exact⟨k,x,a,b⟩
  simpa using this
 have hle:acc.toList.length<=Q0l:=by rw[Q1u,hI.1];exact hn
 refine Q0a (Q6r ?_ hle)
 have oL:(h1.push (seqObj "list" acc.toList.toArray 0)).get? h1.objs.size=some (seqObj "list" acc.toList.toArray 0):=Q0w _ rfl
 refine Q0a (Q2e (Q2n Z1w (T:= "list") (s:={s with heap:=h1.push (seqObj "list" acc.toList.toArray 0),toks:=tk}) ⟨_,oL,rfl⟩ Z1i ?_ (args_list_sort _)))
 refine z5j (s:={s with heap:=h1.push (seqObj "list" acc.toList.toArray 0),toks:=tk}) oL hS hle fun h' e out ys k' e' s' p'=>?_
 have hge:s.heap.objs.size<=h1.objs.size:=Q6t hgt
 exact⟨_,rfl,Q0f ⟨_,rfl,h h' tk h1.objs.size e out ys (fun b o q=>k' b o (Q0y (Q0m (k1 b o q))) (Q0c _ (k1 b o q))) hge e' s' p'⟩⟩
end
section
variable{X:Cx}{G:GX}{pos:Pos}
theorem z7n:∀{its:List Q0b}{ns:List Str},Q4l its ns->Vals (ns.map V.str) its
 |_,_,.nil=>.nil
 |_,_,.cons n t h=>.cons ⟨t,rfl⟩ (z7n h)
theorem z5w(hc:X.calm=true):q3r X (.builtin "sorted") (fun xs H Q=>∃(p:Q0u)(kvs:List (Key×V))(ks:List Str),xs=[.ref p]/\H p=some (.dK kvs)/\kvs.map (·.1)=ks.map Q4k/\∀(ys:List Str)(l:Q0u),ys.Perm ks->H l=none->Q (.ref l) (upd H l (.lst (ys.map V.str)))):=by
 intro pins s σ H xs us Q I r h
 obtain⟨p,kvs,ks,rfl,hp,hk,q⟩:=h
 obtain⟨u,rfl,ru⟩:=q7t r
 cases ru
 obtain⟨hz,hsys,vs,rel,o,es,ep,h1,h2,h3,h4,h5,h6⟩:=(show q1e X.prog X.w H s.heap p (.dK kvs)from I.hok p _ hp)
 have ek:vs.map (·.1)=kvs.map (·.1):=by
  clear h5 h6 hz hk hp q I r
  induction rel with
  |nil=>rfl
  |cons a _ ih=>rw[Q0v,Q0v,ih,a.1]
 have el:vs.length=kvs.length:=by have:=congrArg Q3m ek;simpa using this
 refine z1m (ep:=ep) (kvs:=vs) (ks:=ks) (I.ok.hd hc) ⟨o,es,h1,h2,h3,h4,h5,h6⟩ hsys (by omega) (ek.trans hk) fun h' tk D e out ys k' ge e' s' p'=>?_
 have kl:ks.length=kvs.length:=by have:=congrArg Q3m hk;simpa using this.symm
 exact⟨.ref D,_,I.laid (t':=tk) k' ge (show q1e X.prog X.w _ _ _ (.lst (ys.map V.str))from⟨by rw[Q0q,p'.length_eq];omega,out,e,z7n s',e'⟩),rfl,q ys D p' (I.hok.fresh ge)⟩
def q6w : List (Key × PV) -> Option (List Str)
 | [] => some []
 | (.inr x, _) :: r => (q6w r).map (x :: ·)
 | (.inl _, _) :: _ => none
theorem q9e : ∀ {kvs : List (Key × PV)} {ks : List Str}, q6w kvs = some ks -> kvs.map (·.1) = ks.map Q4k
 | [], ks, h => by cases h; rfl
 | (.inr x, _) :: r, ks, h => by
  obtain ⟨zs, e1, rfl⟩ := Q2h.mp h
  rw [Q0v, Q0v, q9e e1]
 | (.inl _, _) :: _, ks, h => by cases h
def z0o:FL:=fun xs S Q=>match xs with
 |[.ref n]=>match (z5t S n).bind q6w with
  |some ks=>∀ys:List Str,ys.Perm ks->Q (.ref S.length) (S++[.lst (ys.map PV.str)])
  |none=>False
 |_=>False
theorem y4o{K:Q2p}{H:Hp}{φ:List Q0u}:∀ms:List Str,RVs K H φ (ms.map PV.str) (ms.map V.str)
 |[]=>rfl
 |m::r=>⟨_,_,rfl,rfl,y4o r⟩
theorem y7d{K:Q2p}{H:Hp}{φ:List Q0u}{xs:List (Key×PV)}{vs:List (Key×V)}(h:RKs K H φ xs vs):vs.map (·.1)=xs.map (·.1):=by
 induction h with
 |nil=>rfl
 |cons a _ ih=>rw[Q0v,Q0v,ih,a.1]
theorem z2q(hc:X.calm=true):q3r X (.builtin "sorted") (q8j X.K z0o):=by
 rintro pins s σ H xs us Q I r ⟨φ,S,pxs,Q0,R,hx,h,k⟩
 unfold z0o at h
 split at h
 ·rename_i n
  split at h
  ·rename_i ks e
   obtain⟨ys,e1,e2⟩:=Option.bind_eq_some_iff.mp e
   obtain⟨v,rfl,a,rfl,qa⟩:=q0v hx
   obtain⟨vs,sa,ra⟩:=R.dic qa e1
   exact z5w hc pins s σ H _ us Q I r ⟨a,vs,ks,rfl,sa,(y7d ra).trans (q9e e2),fun ms l hp hl=>k.lst (h ms hp) R (y4o ms) l hl⟩
  ·exact h.elim
 ·exact h.elim
end
section
variable{X:Cx}{G:GX}{pos:Pos}
def cInN(neg:Bool):F2:=fun y x S Q=>∃n kvs k,x=.ref n/\S[n]?=some (.dN kvs)/\y=ktP k/\((∃ys,k=.tup ys)/\kdep k<=8)/\Q (.bl (if neg then !(valN kvs k).isSome else(valN kvs k).isSome)) S
theorem z4y(hu:X.A.units+200<cLine):OpR X (compareOp .NotIn) (q2n X.K (cInN true)):=by
 rintro pins s σ H x y v u Q I rx ry ⟨φ,S,px,py,Q0,R,hx,hy,h,k⟩
 obtain⟨n,kvs,kk,rfl,e,rfl,⟨⟨ys,ek⟩,hd⟩,q⟩:=h
 obtain⟨a,rfl,qa⟩:=hy
 cases ry
 obtain⟨c,ws,ea,ra⟩:=R.obj n a _ qa e
 obtain⟨xs,hsys,rel,dde⟩:=z2k I ea ra
 have hh:=z9z ra rel kk
 have ht:=z7r I kk _ _ hx rx
 obtain⟨b,rfl⟩:∃b,v=.ref b:=by subst ek;obtain⟨b,_,e,_⟩:=ht;exact⟨b,e⟩
 refine Z5u (knd:=q3t X.prog X.w) (show X.A.in1.units+8<cLine by rw[q2z];omega) ⟨⟨ys,ek⟩,hd,ht⟩ hsys dde.dictOf ⟨.bl _,H,I.tok _,rfl,?_⟩
 rw[hh]
 exact k _ S φ H _ q (Q0h _) (.refl _) R rfl
end
section
variable{prog:Q1e}{w:Q1x}{A:Q1t}{E:Q0b->Q0d->Prop}{s:Q0d}
theorem y4p:∀{us:List Q0b}{ks:List Str},Q4l us ks->∀{i:Nat}(h:i<ks.length),∃tk,us[i]?=some (.str ks[i] tk)
 |_,_,.nil,i,h=>by simp at h
 |_,_,.cons x t r,0,h=>⟨t,rfl⟩
 |_,_,.cons x t r,i+1,h=>by
  obtain⟨tk,e⟩:=y4p r (i:=i) (by simpa using h)
  exact⟨tk,by simpa using e⟩
theorem y0k:entryFor table "tuple.index" = some Q1g.«tuple.index»:=entryFor_of_fast (by kernel_rfl)
theorem y3x {a : Q0u} {its : List Q0b} {ks : List Str} {x : Str} {t : Tok} {Q : Q0b -> Q0d -> Prop} (ht : Q7n s.heap a its.toArray) (hS : Q4l its ks) (hx : x ∈ ks) (h : ∀ tk u, Q (.int (ks.idxOf x) u) { s with toks := tk }) :
    Q1d (model prog w) A (call (.builtin "tuple.index") [.ref a, .str x t]) Q E s := by
  obtain ⟨o, ho, hc, n, hd⟩ := id ht
  refine Q2n Q9v (T := "tuple") ⟨o, ho, hc⟩ y0k ?_ (PySem.F.args_tuple_index_2 _ _)
  unfold Q1g.«tuple.index»
  refine Q0a (m := selfAndSome "tuple.index" "index" 1 3 _) (Q0f ?_)
  dsimp only
  refine Q0a (tupleItemsOf_ ht ?_)
  refine Q0a (Q0f (Q0a (Q0f ?_)))
  rw [Q9m, Q6s.forIn_eq_forIn_range']
  have hsz : ([0:its.toArray.size] : Q6s).size = its.length := by simp [Q6s.size]
  refine Q0a (Q1p (Q := fun b s' => ∃ u tk, b = (some (Q6a.done (Flow.ret (.int (ks.idxOf x) u))), ()) /\ s' = { s with toks := tk }) ?_ (fun b s' ⟨u, tk, e1, e2⟩ => ?_) fun _ _ z => z)
  · show Q1d _ _ (forIn (Z5v 0 ([0:its.toArray.size] : Q6s).size 1) _ _) _ _ _
    rw [hsz]
    have hl := q5m hS
    have go : ∀ (f i : Nat), i + f = its.length -> x ∈ ks.drop i -> ks.idxOf x = i + (ks.drop i).idxOf x -> Q1d (model prog w) A.in1 (forIn (Z5v i f) ((none, ()) : Option Q6a × Unit) fun (i : Nat) __s =>
            match its.toArray[i]? with
            | some y => do
              let __do_lift <- eqBool y (Q0b.str x t)
              if __do_lift = true then do
                  let __do_lift <- retInt (i : Int)
                  pure (ForInStep.done (some __do_lift, ()))
                else pure (Q3l (none, ()))
            | x => pure (Q3l (none, ()))) (fun b s' => ∃ u tk, b = (some (Q6a.done (Flow.ret (.int (ks.idxOf x) u))), ()) /\ s' = { s with toks := tk }) E s := by
      intro f
      induction f with
      | zero => intro i hi hm _; rw [Q4n (by omega)] at hm; cases hm
      | succ f ih =>
        intro i hi hm he
        have hik : i < ks.length := by omega
        obtain ⟨tk, ei⟩ : ∃ tk, its[i]? = some (.str ks[i] tk) := y4p hS hik
        rw [List.range'_succ, Q4u]
        rw [Q2g hik] at hm he
        have ei' : its.toArray[i]? = some (.str ks[i] tk) := by rw [Z1n]; exact ei
        rw [ei']
        refine Q0a (Q0a (Z5n ?_))
        by_cases hq : ks[i] = x
        · rw [decide_eq_true hq, if_pos rfl]
          rw [hq, List.idxOf_cons_self, Z5t] at he
          refine Q0a (Q0a (wpAny_mkInt (Q0f (Q0f (Q0f ⟨s.toks, s.toks + 1, by rw [he], rfl⟩)))))
        · rw [decide_eq_false hq, if_neg (by decide)]
          refine Q0f (ih (i + 1) (by omega) ?_ ?_)
          · rcases Q1b.mp hm with e | e
            · exact absurd e.symm hq
            · exact e
          · rw [he, Z4b, beq_false_of_ne hq]; simp only [cond_false]; omega
    exact go its.length 0 (by omega) (by simpa using hx) (by simp)
  · subst e1 e2
    exact Q0f ⟨_, rfl, h tk u⟩
end
structure GlobT(K:Q2p)(mg:Str->Option Q0b)(x:Str)(ks:List Str):Prop where
 is:∃(p:Q0u)(o:Obj)(its:Array Q0b)(n:Nat),mg x=some (.ref p)/\K.lookup p=some o/\o.cls=.type "tuple" /\o.dict=none/\o.data=.seq its n/\Q4l its.toList ks
section
variable{X:Cx}{G:GX}{pos:Pos}
def rTix(K:Q2p)(ks:List Str):V->List V->Hp->VK->Prop:=fun x xs H Q=>∃p o its n y,x=.ref p/\xs=[.str y]/\K.lookup p=some o/\o.cls=.type "tuple" /\o.data=.seq its n/\Q4l its.toList ks/\y∈ks/\Q (.int (ks.idxOf y)) H
theorem x2r(ks:List Str):MtR X "tuple.index" (rTix X.K ks):=by
 rintro pins s σ H x xs v us Q I rx rs ⟨p,o,its,n,y,ex,exs,hl,hc,hd,hS,hy,q⟩
 subst ex exs
 cases rx
 obtain⟨u,rfl,t,rfl⟩:=q7t rs
 exact y3x (its:=its.toList) ⟨o,I.kIn _ _ hl,hc,n,by rw[Q4e];exact hd⟩ hS hy fun tk u=>⟨.int _,H,I.tok tk,⟨_,rfl⟩,q⟩
def wTix(ks:List Str)(wa:WA):WE:=fun σ S E Q=>wa σ S E fun xs S1=>∃y,xs=[.str y]/\y∈ks/\Q (.int (ks.idxOf y)) S1
theorem y6m{x:Str}{ks:List Str}{e:Expr}{np apos cpos:Pos}{wa:WA}(g:GlobT X.K X.mg x ks)(ha:SimA X G [e] wa)(hg:Gl X x:=by rfl)(hdb:(x==("__debug__" : Str))=false:=by decide)
  (hbase:attributeBase (.Name x np) "index" X.env (eval (.Name x np) X.env)=eval (.Name x np) X.env:=by rfl)
  (hfew:((backTo cpos (Q1m [e] X.env)).all (fun x=>!x.1)&&(backToKw cpos (keywordEach [] X.env)).all (fun x=>x.1.isSome)
   && decide (([e]:List Expr).length+([]:List Q9d).length+(if ([]:List Q9d).isEmpty then 0 else 1)<30))=true:=by rfl)
  (hline:(apos.endLine==cpos.line)=true:=by rfl) (hs:Q1m [e] X.env=(false,eval e X.env)::Q1m [] X.env:=by rfl) (hplain:(backTo cpos (Q1m [] X.env)).any (·.1)=false:=by rfl) :
  SimE X G (.Call (.Attribute (.Name x np) "index" apos) [e] [] cpos) (wTix ks wa):=by
 obtain⟨p,o,its,n,hm,hl,hc,hdi,hd,hS⟩:=g.is
 refine(x1z PySem.F.plainAttrs_tuple Q9v PySem.F.type_tuple_index (x2r ks) (z1q hg hm (show RelV (V.ref p) (Q0b.ref p)from rfl) hdb) ha hbase hfew hline hs hplain).imp fun σV H Q hh1=>?_
 obtain⟨φ,σ,S,Q0,L,R,h,k⟩:=hh1
 refine⟨.inr (.inl ⟨rfl,o,hl,hc,hdi⟩),⟨φ,σ,S,_,L,R,h,fun vs S2 φ2 H2 xs q2 p2 m2 R2 r2=>?_⟩⟩
 obtain⟨y,rfl,hy,q⟩:=q2
 obtain⟨y',rfl,ry⟩:=q0v r2
 cases ry
 exact⟨p,o,its,n,y,rfl,rfl,hl,hc,hd,hS,hy,k _ S2 φ2 H2 _ q p2 m2 R2 rfl⟩
end
end Ev
namespace L2
open PySem PySem.Spec PyProof.Rows
open AutoSeq1 (wpAny_loadPart')
theorem Draws.tup{prog:Q1e}{w:Q1x}{A:Q1t}(hh:A.handled=none)(it l:Q0u)(hne:l≠it)(items:Array Q0b) :
  Z5l prog w A it [it,l] items.size (fun i v=>items[i]?=some v) (fun i h=>h.IsTupleIter it l i/\Q7n h l items) where
 live:=fun _ _ st=>let ⟨o,ho,_⟩:=st.1;⟨o,ho⟩
 frame:=fun _ _ _ st hk=>⟨let ⟨o,ho,r⟩:=st.1;⟨o,hk it (by simp) o ho,r⟩,let ⟨o,ho,r⟩:=st.2;⟨o,hk l (by simp) o ho,r⟩⟩
 item:=fun i s Q E hi st hQ=>by
  refine q4e st.1 st.2 (v:=items[i]) (by simp[hi]) fun h' hit' hs'=>?_
  exact hQ _ h' s.toks (by simp[hi]) ⟨hit',let ⟨o,ho,r⟩:=st.2;⟨o,hs'.extBut l o hne ho,r⟩⟩ hs'
 done:=fun s Q E st hE=>q3e hh st.1 st.2 (by simp) hE
theorem q6g(l:Q0u)(items:Array Q0b)(n:Nat)(dct:Option Q0u)(sl:Array (Option Q0b)) :
  Meets (Q1g.«enumerate.__new__» ⟨[.type "enumerate",.ref l],[]⟩) (fun _ R s=>s.heap.get? l=some {cls:=.type "tuple",dict:=dct,data:=.seq items n,slots:=sl}/\
   R (.ok (.ret (.ref (s.heap.push {cls:=.type "tuple_iterator",data:=.fields #[.ref l,.int 0 0]}).objs.size)))
    {s with heap:=(s.heap.push {cls:=.type "tuple_iterator",data:=.fields #[.ref l,.int 0 0]}).push {cls:=.type "enumerate",data:=.fields #[.none,.bool false,.ref s.heap.objs.size,rawInt 0,.none,.none]}}):=
 .of_wp fun prog w A R s h=>by
  obtain⟨hp,g,d,tk,os⟩:=s;obtain⟨hl,h⟩:=h
  have hsub:=sub_enumerate
  have hL:Q1h.IsTuple (Q0d.heap ⟨hp,g,d,tk,os⟩) l items:=⟨_,hl,rfl,n,rfl⟩
  wp_walk using Q8r hl
  refine wpAny_stack_any fun st=>Q0f ?_
  split
  ·rename_i c _ _ _ _ _
   cases(c==Q0b.type "enumerate")
   ·wp_walk using Q8r hl,Q5y hL
    exact⟨_,rfl,h⟩
   ·wp_walk using Q8r hl,Q5y hL
    exact⟨_,rfl,h⟩
  ·wp_walk using Q8r hl,Q5y hL
   exact⟨_,rfl,h⟩
theorem Draws.tupE{prog:Q1e}{w:Q1x}{A:Q1t}(hh:A.handled=none)(it l:Q0u)(hne:l≠it)(items:Array Q0b)(n:Nat)(hn:items.size<=n) :
  Z5l prog w A it [it,l] n (fun i v=>items[i]?=some v) (fun i h=>i=n/\h.IsTupleIter it l i/\Q7n h l items) where
 live:=fun _ _ st=>let ⟨o,ho,_⟩:=st.2.1;⟨o,ho⟩
 frame:=fun _ _ _ st hk=>⟨st.1,let ⟨o,ho,r⟩:=st.2.1;⟨o,hk it (by simp) o ho,r⟩,let ⟨o,ho,r⟩:=st.2.2;⟨o,hk l (by simp) o ho,r⟩⟩
 item:=fun i s Q E hi st hQ=>by have:=st.1;omega
 done:=fun s Q E st hE=>q3e hh st.2.1 st.2.2 (by simp;omega) hE
section
variable{prog:Q1e}{w:Q1x}{A:Q1t}{E:Q0b->Q0d->Prop}{s:Q0d}
theorem q4s{l:Q0u}{items:Array Q0b}{Q:Q0b->Q0d->Prop}(hL:Q7n s.heap l items)
  (h:∀h',IsEnum h' (s.heap.objs.size+1) s.heap.objs.size 0 .none->h'.IsTupleIter s.heap.objs.size l 0->h'.objs.size=s.heap.objs.size+2->
   (∀b o,s.heap.get? b=some o->h'.get? b=some o)->Q (.ref (s.heap.objs.size+1)) {s with heap:=h' }) :
  Q1d (model prog w) A (call (.type "enumerate") [.ref l]) Q E s:=by
 obtain⟨⟨c,dct,dt,sl⟩,hl,hc,n,hd⟩:=hL
 replace hc:c=.type "tuple" :=hc
 replace hd:dt=.seq items n:=hd
 subst hc hd
 refine callType_new PySem.F.called_enumerate (by decide) (PySem.F.typeCall_enumerate_1 _) (PySem.F.newCall_enumerate_1 _) (fun obj=>PySem.F.args_object_init_2 obj _) PySem.F.entry_enumerate_new
  (q6g l items n dct sl) ⟨hl,?_⟩
 have hz:(s.heap.push {cls:=.type "tuple_iterator",data:=.fields #[.ref l,.int 0 0]}).objs.size=s.heap.objs.size+1:=Q1h.size_push ..
 show _/\_
 rw[hz]
 have he:IsEnum ((s.heap.push {cls:=.type "tuple_iterator",data:=.fields #[.ref l,.int 0 0]}).push
   {cls:=.type "enumerate",data:=.fields #[.none,.bool false,.ref s.heap.objs.size,rawInt 0,.none,.none]}) (s.heap.objs.size+1) s.heap.objs.size 0 .none:=by
  have:=Q0w (s.heap.push {cls:=.type "tuple_iterator",data:=.fields #[.ref l,.int 0 0]})
   (o:={cls:=.type "enumerate",data:=.fields #[.none,.bool false,.ref s.heap.objs.size,rawInt 0,.none,.none]}) rfl
  rw[hz]at this;exact this
 refine⟨⟨_,he,rfl⟩,h _ he ⟨_,Q0c _ (Q0w _ rfl),rfl,rfl⟩ (by rw[Q1h.size_push,hz]) fun b o x=>Q0c _ (Q0c _ x)⟩
end
end L2
namespace Ev
open PySem PySem.Spec PyProof.Rows L2
section
variable{X:Cx}{G:GX}{pos:Pos}
def ItT(K:Q2p)(a:Q0u):It:=
  ⟨fun i H=>∃xs x,SqT K H a xs/\xs[i]?=some x,
   fun i H v H'=>∃p x,v=.ref p/\H p=none/\H'=upd H p (.tup [.int i,x])/\(∀xs,SqT K H a xs->xs[i]?=some x),
   fun i H=>∃xs,SqT K H a xs/\xs.length<=i⟩
structure TAt(e it a:Q0u)(i:Nat)(h:Q1h):Prop where
 ge:∃old,IsEnum h e it i old
 gi:h.IsTupleIter it a i
theorem z4n{P:Q1e}{w:Q1x}{K:Q2p}{es:List Expr}{k:Nat}{ps:Pos}(a e it:Q0u)(n:e≠it):Turn P w K (.Tuple es k ps) (ItT K a) [e,it] e (TAt e it a) where
 mem:=by simp
 obj:=fun i h st c hc=>by
  obtain⟨⟨old,ge⟩,gi⟩:=st
  simp only[Q1b,Q2r,or_false]at hc
  rcases hc with rfl|rfl
  ·exact⟨_,ge,fun v z=>by cases z⟩
  ·obtain⟨o,g,c,d⟩:=gi
   exact⟨o,g,fun v z=>by rw[d]at z;cases z⟩
 keep:=fun i h h' st kk=>by
  obtain⟨⟨old,ge⟩,gi⟩:=st
  exact⟨⟨old,kk e (by simp) _ ge⟩,gi.at fun o q=>kk it (by simp) o q⟩
 item:=by
  intro X hP hw hK hc i pins s σ H E I hf st hg
  subst hP hw hK
  obtain⟨⟨old,ge⟩,gi⟩:=st
  obtain⟨xs,x,hq,hx⟩:=hg
  obtain⟨its,rv,p,hz⟩:=I.tuple hq
  obtain⟨u,hu,ru⟩:=rv.get hx
  have fa:∀b∈[e,it],a≠b:=fun b hb=>I.sq_fp (tp:=true) hq (hf b hb)
  have hle:e<s.heap.objs.size:=Q0m ge
  have fap:=fa it (by simp)
  refine wpAny_pyNext_enum_itemD (Draws.tup (A:=X.A.in1) (I.ok.hd hc) it a fap its.toArray) ge ⟨gi,p⟩ (by have:=(Q0s.mp hu).1;simpa using this) n (by simp only[Q1b,Q2r,or_false,not_or];exact⟨n,Q4a (fa e (by simp))⟩) fun x' h1 tk px b1 b2 b3 b4 b5=>?_
  obtain rfl:x'=u:=by
   have:its[i]?=some x':=by simpa using px
   rw[hu]at this;exact(Q2j this).symm
  refine⟨_,rfl,wpAny_letOwnedTupleGo_enum b1 fun h2 c1 c2=>?_⟩
  have up:∀c o,c∉[e,it]->s.heap.get? c=some o->h2.get? c=some o:=fun c o hc' q=>by
   simp only[Q1b,Q2r,or_false,not_or]at hc'
   exact c2.extBut _ _ hc'.1 (b5 c o hc'.1 hc'.2 q)
  have I1:Inv X pins σ H {s with heap:=h2,toks:=tk+1}:=I.turneds (t':=tk+1) (ch:=[e,it]) up hf
  have f1:FpOk X pins H s.heap.objs.size:=I.fpOk (Q0k _) I.fresh
  have gT:=c2.extBut _ _ (Q1s hle) b3
  have I2:Inv X pins σ (upd H s.heap.objs.size (.tup [.int i,x])) {s with heap:=h2,toks:=tk+1}:=I1.trackO f1 I.sz ⟨by show 2<=Q0l;decide,[_,_],.cons ⟨tk,rfl⟩ (.cons ru .nil),⟨_,gT,rfl,_,rfl⟩⟩
  have lt:∀c∈[e,it],c≠s.heap.objs.size:=fun c hc'=>by
   simp only[Q1b,Q2r,or_false]at hc'
   rcases hc' with rfl|rfl
   ·exact Q0y hle
   ·obtain⟨o,g,_⟩:=gi;exact Q0y (Q0m g)
  refine⟨.ref s.heap.objs.size,_,I2,rfl,⟨_,x,rfl,I.fresh,rfl,fun zs hz=>by rw[I.tuple_inj hz hq];exact hx⟩,⟨⟨_,by rw[Z4l];exact c1⟩,b2.1.at fun o q=>c2.extBut _ _ (Q4a n) q⟩,fun c hc'=>?_⟩
  rw[q0g (lt c hc')]
  exact(hf c hc').1
 done:=by
  intro X hP hw hK hc i pins s σ H E I hf st hg
  subst hP hw hK
  obtain⟨⟨old,ge⟩,gi⟩:=st
  obtain⟨xs,hq,hl⟩:=hg
  obtain⟨its,rv,p,hz⟩:=I.tuple hq
  have l1:=rv.length
  have fa:∀b∈[e,it],a≠b:=fun b hb=>I.sq_fp (tp:=true) hq (hf b hb)
  refine wpAny_pyNext_enum_endD (Draws.tupE (A:=X.A.in1) (I.ok.hd hc) it a (fa it (by simp)) its.toArray i (by simp;omega)) ge ⟨rfl,gi,p⟩ fun h1 kk=>⟨rfl,I.turneds (t':=s.toks) (ch:=[e,it]) (fun c o hc' q=>?_) hf⟩
  simp only[Q1b,Q2r,or_false,not_or]at hc'
  exact kk c o hc'.2 q
 self:=fun _ _ _ _ _ st h=>by obtain⟨⟨old,ge⟩,_⟩:=st;exact Z5m ge h
def x3j(K:Q2p)(tl:TE):TI:=fun σ H R=>tl σ H fun x H1=>∃a xs,x=.ref a/\SqT K H1 a xs/\R (ItT K a) H1
theorem y2q{es:List Expr}{kk:Nat}{ps:Pos}{l:Expr}{tl:TE}{p:Pos}(hl:PE X l tl)(hm:X.mg "enumerate" = none)(hg:Gl X "enumerate" :=by rfl)(he:Q1m [l] X.env=(false,eval l X.env)::Q1m [] X.env:=by rfl):PI X (.Tuple es kk ps) (.Call (.Name "enumerate" p) [l] [] pos) (x3j X.K tl):=by
 intro pins s σ H R I h
 refine Q4f (q4n I hg hm y0y ?_)
 refine Q3b ?_ he rfl
 rw[he]
 show Q1d _ _ (spliced ((false,eval l X.env)::backTo pos (Q1m [] X.env))) _ _ s
 refine Q8n (thn (hl pins s σ H _ I h) ?_)
 rintro v s1 ⟨x,H1,I1,r1,a,xs,rfl,hq,q⟩
 refine Q8x ?_
 cases r1
 obtain⟨its,rv,p,hz⟩:=I1.tuple hq
 refine q4s p fun h' g1 g2 _ kk=>Z5m g1 ?_
 refine⟨_,[s1.heap.objs.size+1,s1.heap.objs.size],_,_,H1,rfl,I1.kept (t':=s1.toks) kk,z4n a _ _ (Nat.succ_ne_self _),⟨⟨_,g1⟩,g2⟩,fun c hc=>?_,q⟩
 have hle:s1.heap.objs.size<=c:=by
  simp only[Q1b,Q2r,or_false]at hc
  rcases hc with z|z<;>rw[z]<;>first|exact Q5l _ _|exact Q0k _
 exact I1.fpOk hle (I1.hok.fresh hle)
theorem z9u{K:Q2p}{φ:List Q0u}{H:Hp}{a:Q0u}{xs:List PV}{vs:List V}(sa:SqT K H a vs)(ra:RVs K H φ xs vs):ItR K φ H (ItT K a) ⟨enmP 0 xs,fun _=>True⟩ where
 go:=fun φ1 H1 S1 p m R e i z hz=>by
  have sa1:=m.sqT sa
  have ra1:=RVs.mono m p _ _ ra
  obtain⟨x,hx,rfl⟩:=z3v hz
  obtain⟨y,ey,ry⟩:=ra1.get hx
  refine⟨⟨vs,y,sa1,ey⟩,?_⟩
  rintro y' H' ⟨p',x1,e1,hp,e2,h3⟩
  subst e1 e2
  have:=h3 vs sa1
  rw[ey]at this
  cases this
  exact⟨φ1,Q0h _,.new _ hp,R.frame _ hp,p',_,rfl,SqT.of q0u,RVs.mono (.new _ hp) (Q0h _) _ _ (.cons (by rw[Int.zero_add];rfl) (.one ry))⟩
 stop:=fun φ1 H1 S1 p m R e i hi=>by
  have:(enmP 0 xs).length<=i:=hi
  rw[z3u]at this
  exact⟨vs,m.sqT sa,by rw[<-ra.length];exact this⟩
def q7r(w:WE):WI:=fun σ S E Q=>w σ S E fun x S1=>match x with
 |.tup xs=>Q ⟨enmP 0 xs,fun _=>True⟩ S1
 |_=>False
theorem z4t{es:List Expr}{kk:Nat}{ps:Pos}{l:Expr}{w:WE}{p:Pos}(hm:X.mg "enumerate" = none)(hl:SimE X G l w)(hg:Gl X "enumerate" :=by rfl)(he:Q1m [l] X.env=(false,eval l X.env)::Q1m [] X.env:=by rfl):SimI X G (.Tuple es kk ps) (.Call (.Name "enumerate" p) [l] [] pos) (q7r w):=
 PI.imp (y2q hl hm hg he) fun σV H Q hh1=>by obtain⟨φ,σ,S,Q0,L,R,h,k⟩:=hh1;exact(⟨φ,σ,S,_,L,R,h,fun v S1 φ1 H1 x q p1 m1 R1 r1=>by
  split at q
  ·obtain ⟨a,vs,rfl,sa,ra⟩:=r1
   exact ⟨a,vs,rfl,sa,k _ S1 φ1 H1 _ q p1 m1 R1 (z9u sa ra)⟩
  ·exact q.elim⟩)
end
end Ev
namespace L2
open PySem PySem.Spec PyProof.Rows
theorem y7k{X:Cx}{body:List Q5q}{h₀:Q9r}{hs:List Q9r}{pos:Pos}{t:TS}(h:PSs X.nx body t):PS X (.Try body (h₀::hs) [] [] pos) t:=by
 intro pins s σ H D I q
 refine wpAny_Try_except (Q1p (h pins s σ H D I.nx q) (fun f s1 z=>?_) fun _ _ z=>z.elim)
 have z:=z.imp fun _ _ _=>Inv.ofnx I.ok
 cases f with
 |next=>exact Q6y z
 |ret u=>exact z
 |brk=>exact z
 |cont=>exact z
end L2
namespace Ev
open PySem PySem.Spec PyProof.Rows L2
def y1h(w:WS):WS:=fun D _ σ S=>w D NoX σ S
theorem y1t{X:Cx}{G:GX}{body:List Q5q}{h₀:Q9r}{hs:List Q9r}{pos:Pos}{w:WS}(h:q6r X.nx NoG body w):SimS X G (.Try body (h₀::hs) [] [] pos) (y1h w):=
 (y7k h).imp fun D σV H hh1=>by obtain⟨φ,σ,S,D0,L,R,h,k⟩:=hh1;exact(⟨φ,σ,S,D0,L.nog,R,h,
  ⟨fun σ' S' φ' H' σV' q p m R' L'=>k.nx σ' S' φ' H' σV' q p m R' ⟨L'.len,L'.at',(L.mono m p).kx⟩,k.rt,fun σ' S' φ' H' σV' q p m R' L'=>k.bk σ' S' φ' H' σV' q p m R' ⟨L'.len,L'.at',(L.mono m p).kx⟩,fun σ' S' φ' H' σV' q p m R' L'=>k.ct σ' S' φ' H' σV' q p m R' ⟨L'.len,L'.at',(L.mono m p).kx⟩⟩⟩)
abbrev SimF(P:Q1e)(w:Q1x)(K:Q2p)(mg:Str->Option Q0b)(base:Q1h)(k:Nat)(x:Str)(N:List Str)(st:Q5q)(W:WS)(f:Q0u):Prop:=∀{cdv:Q0b}{A:Q1t}{outer:List Env}{s:Q0d}{H:Hp}{E:XK}{G:GX},RoomW k (A.deeper (envOfC x (q0o st) s.heap.objs.size f cdv))->Room k (A.deeper (envOfC x (q0o st) s.heap.objs.size f cdv))->q3q (CXE P w) (cxOf (CXE P w) P w K mg base N x (q0o st) f cdv A outer s H E) (xkOf K G.xh)->(A.deeper (envOfC x (q0o st) s.heap.objs.size f cdv)).units+200<cLine->N.Nodup->q6r (cxOf (CXE P w) P w K mg base N x (q0o st) f cdv A outer s H E) G (q3i st) W
section
variable{P:Q1e}{w:Q1x}{K:Q2p}{mg:Str->Option Q0b}{base h:Q1h}{k:Nat}{x:Str}{N ps:List Str}{st:Q5q}{W:WS}{f:Q0u}{fd:Q2z}
theorem sco{sc:Q5b}(h1:sc.kind=.function)(h2:sc.isCoroutine=false)(h3:sc.isGenerator=false)(h:N.Nodup/\N.take ps.length=ps/\(∀x∈ps,sc.names.lookup x=some .local\/sc.names.lookup x=some .cell)/\∀y∈sc.names,y.2≠.free):FnScope N ps sc:=⟨h1,h2,h3,h.1,h.2.1,h.2.2.1,h.2.2.2⟩
theorem _root_.L2.Loc2.sim(l:Loc2 K mg x st ps f fd)(h:SimF P w K mg base k x N st W f)(sc:FnScope N ps (q0o st):=by exact sco rfl rfl rfl (by decide +kernel)):Cal P w K mg base (k+1) x ps (q0l K (fnP ps.length N.length W)) f fd:=
 l.cal (x3t l.F sc fun _ _ _ _ _ _ _ hr hx=>h hr hr.toRoom hx (by have:=hr.un;omega) sc.nd)
def FnIn(K:Q2p)(x:Str)(st:Q5q)(f:Q0u):Prop:=Q3f K Q1y x=some (some (.ref f))/\∃fd,Fun K x x st f fd
theorem FnIn.mk{oc:Q0b}{od an:Option Q0u}{osl:Array (Option Q0b)}{kV doc pm cdv ct:Q0b}(a:Q3f K Q1y x=some (some (.ref f)))(l:K.lookup f=some ⟨oc,od,.func (Q5f x x (q5c st) (q3i st) (q0o st) .none kV doc pm an cdv ct),osl⟩)
  (c:Q7s K cdv x=true) (k:Q6k K (.ref f)=true):FnIn K x st f:=⟨a,_,x3q l c k⟩
theorem FnIn.gl(i:FnIn K x st f)(X:K.In h)(G:h.Ns Q1y mg):mg x=some (.ref f):=Q8h X G i.1
theorem FnIn.loc(i:FnIn K x st f)(X:K.In h)(G:h.Ns Q1y mg)
  (b:∀(kV doc pm:Q0b)(an:Option Q0u)(cdv ct:Q0b)(us:List Q0b),us.length=ps.length->bindArgs (Q5f x x (q5c st) (q3i st) (q0o st) .none kV doc pm an cdv ct) ⟨us,[]⟩=pure (ps.zip us)) :
  ∃fd,Loc2 K mg x st ps f fd/\∀us,us.length=ps.length->bindArgs fd ⟨us,[]⟩=pure (ps.zip us):=by
 obtain⟨a,fd,F⟩:=i
 obtain⟨oc,od,kV,doc,pm,an,cdv,ct,osl,rfl,lk,hcd⟩:=id F.ex
 exact⟨_,⟨F,Q8h X G a,F.binds b⟩,b kV doc pm an cdv ct⟩
end
end Ev
namespace My
open PySem L2 Ev
local macro_rules | `(tactic| dsimp! [$xs,*]) => do
 let ns := (("wSet wAsg q0e z4k q2w q0j q2x sSet wIfS q0k wTru truK wAnd wOr wNot wNeg wBin wVar wC wCB q0a wNil wTup wLst wRet q2f q0h wBM wBM0 wSl bSl q5g q2a q0z z2v wFor q1v q1d q6v z2u z9f q4c bIxD y0g z1h q2l q1n q6o x4g bAdd bI bSub z1g bMod bPow bMul cLt cGt x4d x4b y5h x4c x3z x4a z4d q7p y9e wIsX q9c ix_t ix_s ix_f ix_r q0f q8m fLen tyP fAll y0h q5d fInt fStr fMax q0x mPop q9u q5a x2u q9v q7s y1g z6d y1f List.getElem?_cons_zero List.getElem?_cons_succ List.set_cons_zero List.set_cons_succ List.map_cons List.map_nil List.replicate List.cons_append List.nil_append List.length_cons List.length_nil q5u q4f y6y y8r true_and if_true Bool.false_eq_true if_false Bool.not_true Bool.not_false q5j q5b q6l q6m q5k z0k q8r z2g z2h z0l z2e z0j z5m z5n z2f z2a z0g z5k z5l z2b q8o q6t z0e z0f q8p z0h q8q z2c z2d z0i y8i x2p y8j y8h z8q y5d q3n y5c y5b q5e y2z q9s decide_eq_true_eq and_self and_true decide_true decide_false not_true_eq_false not_false_eq_true Int.cast_ofNat_Int Int.reduceEq Int.reduceNeg Nat.reduceSub Nat.sub_self Bool.not_eq_true' decide_eq_false_iff_not Nat.reduceAdd y1h q7r q9d q4g wTix z0o".splitOn " ").map fun z => Z1r z.toName).toArray
 let ds := (("wSet wAsg q0e z4k q2w q0j q2x sSet wIfS q0k wTru truK wAnd wOr wNot wNeg wBin wVar wC wCB q0a wNil wTup wLst wRet q2f q0h wBM wBM0 wSl bSl q5g q2a q0z z2v wFor q1v q1d q6v z2u z9f q4c bIxD y0g z1h q2l q1n q6o x4g bAdd bI bSub z1g bMod bPow bMul cLt cGt wIsX q9c ix_t ix_s ix_f ix_r q8m fLen tyP fAll y0h q5d fInt fStr fMax q0x mPop q9u q5a x2u q9v q7s y1g z6d y1f true_and y1h q7r q9d q4g wTix z0o List.getElem?_cons_zero List.getElem?_cons_succ List.set_cons_zero List.set_cons_succ List.map_cons List.map_nil List.cons_append List.nil_append".splitOn " ").map fun z => Z1r z.toName).toArray
 `(tactic| first|(dsimp only[$[$ds:ident],*];first|simp only[$[$ns:ident],*, $xs,*]|skip)|simp only[$[$ns:ident],*, $xs,*])
def mk(l:List Nat):Str:=⟨l.toArray⟩
theorem q2i(l:List Nat):(mk l).cps.toList=l:=rfl
theorem q3z(l:List Nat):(mk l).length=l.length:=by simp[mk,Q9e]
theorem z9a(a b:List Nat):mk a++mk b=mk (a++b):=by
 apply z1k
 rw[y4b,q2i,q2i,q2i]
theorem z8z{a b:List Nat}(h:mk a=mk b):a=b:=by rw[<-q2i a,h,q2i]
theorem y3g(z:Str):z.cps.toList.length=z.length:=by simp[Q9e]
theorem q8t:Q0j "" = mk []:=by decide +kernel
theorem y0s(c:Nat):(⟨#[c]⟩:Str)=mk [c]:=rfl
def isL(c:Nat):Bool:=inS ⟨#[c]⟩ (Q0j "abcdefghijklmnopqrstuvwxyz")
def q2h(z:Str):Bool:=!decide (z.length=0)&&!decide (8<z.length)&&z.cps.toList.all isL
inductive Kd where
 |a (s:Str)|p (f t:Kd)
def Kd.pv:Kd->PV
 |.a s=>.str s
 |.p f t=>.tup [f.pv,t.pv]
def Kd.lv:Kd->Nat
 |.a _=>1
 |.p f t=>f.lv+t.lv
def Kd.dp:Kd->Nat
 |.a _=>0
 |.p f t=>max f.dp t.dp+1
def Kd.ok:Kd->Prop
 |.a s=>q2h s=true
 |.p f t=>f.ok/\t.ok
theorem q9t{s:Str}(h:q2h s=true):1<=s.length/\s.length<=8/\s.cps.toList.all isL=true:=by
 unfold q2h at h
 simp only[Q3i,Bool.not_eq_true',decide_eq_false_iff_not]at h
 exact⟨by omega,by omega,h.2⟩
theorem Kd.lv_pos:∀k:Kd,1<=k.lv
 |.a _=>Q0k _
 |.p f t=>Q1l (Kd.lv_pos f) (Q5l _ _)
theorem y0o:∀k:Kd,dep k.pv=k.dp
 |.a _=>rfl
 |.p f t=>by simp only[Kd.pv,dep,deps,y0o f,y0o t,Kd.dp];omega
theorem x2o(a b:Str):q2m [.str a,.str b]:=q4y [a,b]
theorem Ex.weak'{S0 S:q0b}{n:Nat}(h:Ex [n] S0 S)(hn:S0.length<=n):Ex [] S0 S:=⟨h.1,fun i hi _=>h.2 i hi (by simp;omega)⟩
section
variable{spc spi:Den}{S0:q0b}{z:Str}{np ns:Nat}{pcs:List Str}{D:PEnds}{E:EK}
end
theorem q4t(x:PV)(xs:List PV):atI (x::xs) 0=some x:=by
 unfold atI ixN
 simp only[Q1k]
 rw[if_pos (by decide),if_pos (by omega)]
 rfl
theorem y9o{xs:List Int}{i:Int}(h:xs≠[]):∃y,atI (xs.map PV.int) (i % (xs.length:Int))=some (.int y):=by
 have hp:0<xs.length:=Q6i.mpr h
 have h0:0<=i % (xs.length:Int):=Q3h _ (by omega)
 have h1:i % (xs.length:Int)<xs.length:=Q3r _ (by omega)
 unfold atI ixN
 rw[Q0q,if_pos h0,if_pos h1]
 have:(i % (xs.length:Int)).toNat<xs.length:=by omega
 exact⟨xs[(i % (xs.length:Int)).toNat],by simp[this]⟩
theorem y5f{i j:Int}(h:-(2 ^ 64)<j)(h':j<2 ^ 64):CMul i j:=.inr ⟨h,h'⟩
theorem y5g{i j:Int}(h:-(2 ^ 64)<i)(h':i<2 ^ 64):CMul i j:=.inl ⟨h,h'⟩
theorem x6p(ns:List Int)(h:ns.length<=63):cutP (ns.map PV.int) none (some 63)=ns.map PV.int:=by
 unfold cutP
 have:HT.sIx (ns.map PV.int).length (ns.map PV.int).length (some 63)=(ns.map PV.int).length:=by
  rw[show(63:Int)=((63:Nat):Int)from rfl,HT.sIx_nat,Q0q]
  omega
 rw[this,HT.sIx_none,Q6v,Q6u,Q9o]
def spl:Int->Nat->List Nat
 |_,0=>[]
 |n,k+1=>(97+(n % 26).toNat)::spl (n / 26) k
theorem q4a:∀(k:Nat)(n:Int),(spl n k).length=k
 |0,_=>rfl
 |k+1,n=>by rw[spl,Q1k,q4a k]
theorem z1o(lo:Int)(n:Nat):(rngP lo n).length=n:=by simp[rngP]
theorem z9w:∀m:Nat,m<26->isL (97+m)=true:=by decide +kernel
theorem z6v:∀(k:Nat)(n:Int),(spl n k).all isL=true
 |0,_=>rfl
 |k+1,n=>by
  have m0:0<=n % 26:=Q3h _ (by decide)
  have m1:n % 26<26:=Q3r _ (by decide)
  rw[spl,Z0y,z6v k,Z1a]
  exact z9w _ (by omega)
theorem z3n{l:List Nat}(h1:1<=l.length)(h8:l.length<=8)(h:l.all isL=true):q2h (mk l)=true:=by
 unfold q2h
 rw[q3z,q2i,h,decide_eq_false (by omega),decide_eq_false (by omega)]
 rfl
theorem q5q{α:Type} [DecidableEq α]:∀{l F:List α},l.Nodup->(∀x∈l,x∈F)->l.length<=F.length
 |[],_,_,_=>Q1f _
 |a::l,F,nd,h=>by
  obtain⟨h1,h2⟩:=Q1r.mp nd
  have ha:a∈F:=h a (by simp)
  have:=q5q (l:=l) (F:=F.erase a) h2 fun x hx=>(List.mem_erase_of_ne (by rintro rfl;exact h1 hx)).mpr (h x (Q2d _ hx))
  rw[List.length_erase_of_mem ha]at this
  have:0<F.length:=List.length_pos_of_mem ha
  simp only[Q1k]
  omega
def sAny:Str:=Q0j "any"
theorem y6e(z:Str)(k:Nat)(h:k<=z.length):Q7v z none (some (k:Int))=mk (z.cps.toList.take k):=by
 apply z1k
 rw[q6y,q2i,HT.sIx_none,HT.sIx_nat,Q6v,Q6u,Q8c h]
theorem y6h(z:Str)(k:Nat)(h:k<=z.length):Q7v z (some (k:Int)) none=mk (z.cps.toList.drop k):=by
 apply z1k
 rw[q6y,q2i,HT.sIx_none,HT.sIx_nat,Q8c h,Q3z]
 rw[Q5j,y3g]
 exact Q0k _
theorem y5i(ws:List Str)(w:Str):((ws.map PV.str).any fun y=>eqB y (.str w))=decide (w∈ws):=by
 rw[Z1s,Q5o,Q6d,decide_eq_true_eq]
 constructor
 ·rintro⟨x,hx,e⟩
  have e':eqB (.str x) (.str w)=true:=e
  rw[q3n,decide_eq_true_eq]at e'
  rw[<-e'];exact hx
 ·intro h
  exact⟨w,h,by show eqB (.str w) (.str w)=true;rw[q3n];simp⟩
theorem y4c{p:Nat->Bool}{l:List Nat}(k:Nat)(h:l.all p=true):(l.take k).all p=true:=Q4b.mpr fun x hx=>Q4b.mp h x (Q6f hx)
theorem y4d{p:Nat->Bool}{l:List Nat}(k:Nat)(h:l.all p=true):(l.drop k).all p=true:=Q4b.mpr fun x hx=>Q4b.mp h x (Q8g hx)
theorem q1l{α:Type}(xs:List α)(j:Nat)(h:j<xs.length):atI xs (j:Int)=some xs[j]:=by
 unfold atI ixN
 rw[if_pos (by omega),if_pos (by omega)]
 simp[h]
theorem y0q(xs:List PV)(k:Nat)(h:k<=xs.length):cutP xs none (some (k:Int))=xs.take k:=by
 unfold cutP
 rw[HT.sIx_none,HT.sIx_nat,Q6v,Q6u,Q8c h]
theorem z2l(xs:List PV)(k:Nat)(h:k<=xs.length):cutP xs (some (k:Int)) none=xs.drop k:=by
 unfold cutP
 rw[HT.sIx_none,HT.sIx_nat,Q8c h,Q3z]
 rw[Q5j]
 exact Q0k _
def q3f:WS:=
 (wSeq (wIfS (q0k (wBin cEq (wBin bIx (wVar 0) (wC (.int 0))) (wC (.str "/"))))
 (wSeq (wIfS (q0k (wBin cEq (wBin bIx (wVar 0) (wC (.int 2))) (wVar 1)))
 (wRet (wTup (q0a (wC (.str ">")) (q0a (wBin bIx (wVar 0) (wC (.int 1))) wNil))))
 q0z)
 (wIfS (wAnd (q0k (wBin cEq (wBin bIx (wVar 1) (wC (.int 0))) (wC (.str "/")))) (q0k (wBin cEq (wBin bIx (wVar 0) (wC (.int 2))) (wBin bIx (wVar 1) (wC (.int 1))))))
 (wRet (wTup (q0a (wC (.str ">>")) (q0a (wTup (q0a (wC (.str "/")) (q0a (wBin bIx (wVar 0) (wC (.int 1))) (q0a (wBin bIx (wVar 1) (wC (.int 2))) wNil)))) wNil))))
 q0z))
 q0z)
 (wSeq (wIfS (q0k (wBin cEq (wBin bIx (wVar 1) (wC (.int 0))) (wC (.str "\\"))))
 (wSeq (wIfS (q0k (wBin cEq (wBin bIx (wVar 1) (wC (.int 2))) (wVar 0)))
 (wRet (wTup (q0a (wC (.str "<")) (q0a (wBin bIx (wVar 1) (wC (.int 1))) wNil))))
 q0z)
 (wIfS (wAnd (q0k (wBin cEq (wBin bIx (wVar 0) (wC (.int 0))) (wC (.str "\\")))) (q0k (wBin cEq (wBin bIx (wVar 1) (wC (.int 2))) (wBin bIx (wVar 0) (wC (.int 1))))))
 (wRet (wTup (q0a (wC (.str "<<")) (q0a (wTup (q0a (wC (.str "\\")) (q0a (wBin bIx (wVar 1) (wC (.int 1))) (q0a (wBin bIx (wVar 0) (wC (.int 2))) wNil)))) wNil))))
 q0z))
 q0z)
 (wRet (wC .non))))
inductive Fm where
 |b (s:Str)|n (l:Bool) (x y:Fm)
deriving DecidableEq
def sSl:Bool->Str
 |false=>Q0j "/"
 |true=>Q0j "\\"
def Fm.pv:Fm->PV
 |.b s=>.tup [.str "basic",.str s]
 |.n l x y=>.tup [.str (sSl l),x.pv,y.pv]
def Fm.dp:Fm->Nat
 |.b _=>1
 |.n _ x y=>max x.dp y.dp+1
def Fm.lv:Fm->Nat
 |.b _=>1
 |.n _ x y=>x.lv+y.lv
def Fm.ov(ws:List Str):Fm->Prop
 |.b s=>s∈ws
 |.n _ x y=>x.ov ws/\y.ov ws
theorem Fm.lv_pos:∀f:Fm,1<=f.lv
 |.b _=>Q0k _
 |.n _ x y=>Q1l (Fm.lv_pos x) (Q5l _ _)
theorem Fm.dp_lv:∀f:Fm,f.dp<=f.lv
 |.b _=>Q0k _
 |.n _ x y=>by have:=Fm.dp_lv x;have:=Fm.dp_lv y;have:=Fm.lv_pos x;have:=Fm.lv_pos y;simp only[Fm.dp,Fm.lv];omega
theorem Fm.pv_tup(f:Fm):∃xs,f.pv=.tup xs:=by cases f<;>exact⟨_,rfl⟩
theorem z8r:∀f:Fm,nrf f.pv=true
 |.b _=>rfl
 |.n _ x y=>by simp only[Fm.pv,nrf,nrfs,z8r x,z8r y,Q4c]
theorem z3w:∀f:Fm,dep f.pv=f.dp
 |.b _=>rfl
 |.n _ x y=>by simp only[Fm.pv,dep,deps,z3w x,z3w y,Fm.dp];omega
theorem y4q:sSl false≠sSl true:=by decide +kernel
theorem z0q:∀f g:Fm,eqB f.pv g.pv=decide (f=g)
 |.b s,.b t=>by simp[Fm.pv,q5e,eqBs,q3n]
 |.b s,.n l x y=>by simp[Fm.pv,q5e,eqBs,q3n]
 |.n l x y,.b s=>by simp[Fm.pv,q5e,eqBs,q3n]
 |.n l x y,.n m u v=>by
  have h:(sSl l=sSl m)↔l=m:=by
   cases l<;>cases m<;>simp[y4q,y4q.symm]
  simp[Fm.pv,q5e,eqBs,q3n,z0q x u,z0q y v,h]
theorem z1s{f:Fm}(h:f.dp<=190):okEq f.pv:=⟨z8r f,by rw[z3w];exact h⟩
theorem x4e{f g:Fm}(hf:f.dp<=190)(hg:g.dp<=190)(S:q0b)(Q:VC):cEq f.pv g.pv S Q=Q (.bl (decide (f=g))) S:=by
 have h:=z0q f g
 have o1:=z1s hf
 have o2:=z1s hg
 obtain⟨xs,hx⟩:=f.pv_tup
 obtain⟨ys,hy⟩:=g.pv_tup
 rw[hx,hy]at h
 rw[hx]at o1 ⊢
 rw[hy]at o2 ⊢
 rw[y5h,<-q5e,h]
 simp only[o1,o2,and_self,true_and]
theorem fb0(s:Str)(S:q0b)(Q:VC):bIx (Fm.b s).pv (.int 0) S Q=Q (.str "basic") S:=rfl
theorem fb1(s:Str)(S:q0b)(Q:VC):bIx (Fm.b s).pv (.int 1) S Q=Q (.str s) S:=rfl
theorem fn0(l:Bool)(x y:Fm)(S:q0b)(Q:VC):bIx (Fm.n l x y).pv (.int 0) S Q=Q (.str (sSl l)) S:=rfl
theorem fn1(l:Bool)(x y:Fm)(S:q0b)(Q:VC):bIx (Fm.n l x y).pv (.int 1) S Q=Q x.pv S:=rfl
theorem fn2(l:Bool)(x y:Fm)(S:q0b)(Q:VC):bIx (Fm.n l x y).pv (.int 2) S Q=Q y.pv S:=rfl
theorem y6f:(sSl false=Q0j "/")=True:=by simp only[sSl]
theorem y6g:(sSl false=Q0j "\\")=False:=by simp only[eq_iff_iff,iff_false];decide +kernel
theorem y6c:(sSl true=Q0j "\\")=True:=by simp only[sSl]
theorem y6d:(sSl true=Q0j "/")=False:=by simp only[eq_iff_iff,iff_false];decide +kernel
theorem q4j(l:Bool):(sSl l=Q0j "basic")=False:=by cases l<;>(simp only[eq_iff_iff,iff_false];decide +kernel)
theorem ba_f:(Q0j "basic" = Q0j "/")=False:=by simp only[eq_iff_iff,iff_false];decide +kernel
theorem ba_b:(Q0j "basic" = Q0j "\\")=False:=by simp only[eq_iff_iff,iff_false];decide +kernel
mutual
theorem q5s:∀x:PV,nrf x=true->eqB x x=true
 |.non,_=>rfl
 |.bl b,_=>by simp[eqB]
 |.int i,_=>by simp[eqB]
 |.str s,_=>by rw[q3n];simp
 |.tup xs,h=>by rw[q5e];exact q3m xs (by rw[z8q]at h;exact h)
theorem q3m:∀xs:List PV,nrfs xs=true->eqBs xs xs=true
 |[],_=>rfl
 |x::xs,h=>by
  simp only[nrfs,Q3i]at h
  simp only[eqBs,q5s x h.1,q3m xs h.2,Q4c]
end
theorem z5b(l:List Int):q2m (l.map PV.int):=by
 refine⟨?_,?_⟩
 ·induction l with
  |nil=>rfl
  |cons a r ih=>simp only[Q0v,nrfs,nrf,ih,Q4c]
 ·induction l with
  |nil=>simp[deps]
  |cons a r ih=>simp only[Q0v,deps,dep];omega
theorem p12:(10:Int) ^ (12:Int).toNat=1000000000000:=by decide
theorem at2{a b:PV}(i:Int):atI [a,b] (i % 2)=some (if i % 2=0 then a else b):=by
 have h0:0<=i % 2:=Q3h _ (by decide)
 have h1:i % 2<2:=Q3r _ (by decide)
 rcases(show i % 2=0\/i % 2=1 by omega)with z|z
 ·rw[z];rfl
 ·rw[z];rfl
def lt(m:Nat):Str:=mk [97+m]
def tx(w:List Nat):Str:=mk (w.map (97+·))
def ro(w:List Nat)(i:Nat):List Nat:=match w with
 |[]=>[]
 |a::r=>(a+i) % 26::r
theorem y9a{n i:Nat}(h:i<n):ixN n (i:Int)=some i:=by
 unfold ixN
 rw[if_pos (by omega),if_pos (by omega)]
 simp
def mdL(a b:Fm):Option (Str×Fm):=match a with
 |.n false x y=>if y=b then some (Q0j ">",x)else match b with
  |.n false y' z=>if y=y' then some (Q0j ">>",.n false x z)else none
  |_=>none
 |_=>none
def mdR(a b:Fm):Option (Str×Fm):=match b with
 |.n true x y=>if y=a then some (Q0j "<",x)else match a with
  |.n true y' z=>if y=y' then some (Q0j "<<",.n true x z)else none
  |_=>none
 |_=>none
def md(a b:Fm):Option (Str×Fm):=(mdL a b).or (mdR a b)
def mdP:Option (Str×Fm)->PV
 |none=>.non
 |some (s,f)=>.tup [.str s,f.pv]
def y9q(sp:Den):Prop:=∀(a b:Fm)(S:q0b)(E:EK)(Q:VC),a.dp<=100->b.dp<=100->Q (mdP (md a b)) S->sp [a.pv,b.pv] S E Q
theorem Fm.ne_in{l:Bool}{x y:Fm}:x≠.n l x y:=by
 intro h
 have:=congrArg Fm.lv h
 simp only[Fm.lv]at this
 have:=Fm.lv_pos y
 omega
theorem q8w{f g:Fm}(hf:f.dp<=100)(hg:g.dp<=100)(S:q0b)(Q:VC):cEq f.pv g.pv S Q=Q (.bl (decide (f=g))) S:=x4e (by omega) (by omega) _ _
theorem y8q:y9q (fnP 2 2 q3f):=by
 intro a b S E Q ha hb h
 refine⟨rfl,?_⟩
 unfold q3f
 have p2:2<=Q0l:=big (by decide)
 have p3:3<=Q0l:=big (by decide)
 refine seqI fun K hK=>?_
 have hnon:mdL a b=none->K [some a.pv,some b.pv] S:=by
  intro hL
  refine hK _ _ ?_
  clear hK
  refine seqI fun K hK=>?_
  have hnon:mdR a b=none->K [some a.pv,some b.pv] S:=fun z=>hK _ _ (by
   rw [md,hL,z]at h
   exact h)
  have hsome:∀s f,mdR a b=some (s,f)->Q (.tup [.str s,f.pv]) S:=fun s f z=>by
   rw[md,hL,z]at h
   exact h
  clear h hK
  cases b with
  |b t=>dsimp![fb0,ba_b];exact hnon rfl
  |n m u v=>
   cases m with
   |false=>dsimp![fn0,y6g];exact hnon rfl
   |true=>
    simp only[Fm.dp]at hb
    dsimp![fn0,y6c]
    refine seqI fun K2 hK2=>?_
    dsimp![fn1,fn2,q8w (show v.dp<=100 by omega) ha]
    refine ite2 (fun z=>⟨p2,hsome _ _ (by simp only[mdR,if_pos z])⟩) (fun z=>hK2 _ _ ?_)
    cases a with
    |b t=>dsimp![fb0,ba_b];exact hnon (by simp only[mdR,if_neg z])
    |n l x y=>
     cases l with
     |false=>dsimp![fn0,y6g];exact hnon (by simp only[mdR,if_neg z])
     |true=>
      simp only[Fm.dp]at ha
      dsimp![fn0,fn1,fn2,y6c,q8w (show v.dp<=100 by omega) (show x.dp<=100 by omega)]
      exact ite2 (fun z2=>⟨p3,p2,hsome _ (.n true u y) (by simp only[mdR,if_neg z,if_pos z2])⟩) (fun z2=>hnon (by simp only[mdR,if_neg z,if_neg z2]))
 have hsome:∀s f,mdL a b=some (s,f)->Q (.tup [.str s,f.pv]) S:=fun s f z=>by
  rw[md,z]at h
  exact h
 clear h hK
 cases a with
 |b t=>dsimp![fb0,ba_f];exact hnon rfl
 |n l x y=>
  cases l with
  |true=>dsimp![fn0,y6d];exact hnon rfl
  |false=>
   simp only[Fm.dp]at ha
   dsimp![fn0,y6f]
   refine seqI fun K2 hK2=>?_
   dsimp![fn1,fn2,q8w (show y.dp<=100 by omega) hb]
   refine ite2 (fun z=>⟨p2,hsome _ _ (by simp only[mdL,if_pos z])⟩) (fun z=>hK2 _ _ ?_)
   cases b with
   |b t=>dsimp![fb0,ba_f];exact hnon (by simp only[mdL,if_neg z])
   |n m u v=>
    cases m with
    |true=>dsimp![fn0,y6d];exact hnon (by simp only[mdL,if_neg z])
    |false=>
     simp only[Fm.dp]at hb
     dsimp![fn0,fn1,fn2,y6f,q8w (show y.dp<=100 by omega) (show u.dp<=100 by omega)]
     exact ite2 (fun z2=>⟨p3,p2,hsome _ (.n false x v) (by simp only[mdL,if_neg z,if_pos z2])⟩) (fun z2=>hnon (by simp only[mdL,if_neg z,if_neg z2]))
theorem Fm.dp_pos(f:Fm):1<=f.dp:=by cases f<;>simp[Fm.dp]
def q1x(spLkind:Den):WS:=
 (wSeq (wIfS (q0k (wBin cEq (wBin bIx (wVar 0) (wC (.int 0))) (wC (.str "basic"))))
 (wRet (wBin bIx (wVar 0) (wC (.int 1))))
 q0z)
 (wRet (wTup (q0a (q0h spLkind (q0a (wBin bIx (wVar 0) (wC (.int 2))) wNil)) (q0a (q0h spLkind (q0a (wBin bIx (wVar 0) (wC (.int 1))) wNil)) wNil)))))
set_option maxHeartbeats 1000000
def Fm.kd:Fm->PV
 |.b s=>.str s
 |.n _ x y=>.tup [y.kd,x.kd]
theorem z1z{T:Nat->Den}(hT:∀n,T (n+1)=fnP 1 1 (q1x (T n))):∀(n:Nat)(f:Fm),f.dp<=n->∀(S:q0b)(E:EK)(Q:VC),Q f.kd S->T n [f.pv] S E Q
 |0,f,hd,S,E,Q,h=>by have:=f.dp_pos;omega
 |n+1,.b s,hd,S,E,Q,h=>by
  rw[hT]
  refine⟨rfl,?_⟩
  unfold q1x
  dsimp![wSeq,fb0,fb1]
  exact h
 |n+1,.n l x y,hd,S,E,Q,h=>by
  simp only[Fm.dp]at hd
  rw[hT]
  refine⟨rfl,?_⟩
  unfold q1x
  dsimp![wSeq,fn0,fn1,fn2,q4j]
  refine z1z hT n y (by omega) _ _ _ ?_
  refine z1z hT n x (by omega) _ _ _ ?_
  exact⟨big (by decide),h⟩
def x4l(sp:Den)(d:Nat):Prop:=∀(f:Fm),f.dp<=d->∀(S:q0b)(E:EK)(Q:VC),Q f.kd S->sp [f.pv] S E Q
def jnP(z:Fm)(f g:PV):PV:=.tup [.str "fn",z.kd,.tup [.str "of",f,.tup [.str "of",g,.tup [.str "bound",.int 0]]]]
def ofP(f g:PV):PV:=.tup [.str "of",f,g]
set_option maxHeartbeats 1000000
inductive Sg where
 |a|b|c|d
deriving DecidableEq
def Sg.st:Sg->Str
 |.a=>Q0j ">"
 |.b=>Q0j "<"
 |.c=>Q0j ">>"
 |.d=>Q0j "<<"
inductive Rd where
 |w (i:Int) (f:Fm)|n (s:Sg) (l r:Rd)
deriving DecidableEq
def y7a:Str:=Q0j "word"
def Rd.pv:Rd->PV
 |.w i f=>.tup [.str y7a,.int i,f.pv]
 |.n s l r=>.tup [.str s.st,l.pv,r.pv]
def Rd.lv:Rd->Nat
 |.w _ _=>1
 |.n _ l r=>l.lv+r.lv
def Rd.fd:Rd->Nat
 |.w _ f=>f.dp
 |.n _ l r=>max l.fd r.fd
def Rd.is:Rd->Int->Int->Fm->Prop
 |.w i f,a,b,g=>i=a/\b=a+1/\f=g
 |.n s l r,a,b,g=>∃k x y,l.is a k x/\r.is k b y/\md x y=some (s.st,g)
theorem rw1(i:Int)(f:Fm)(S:q0b)(Q:VC):bIx (Rd.w i f).pv (.int 1) S Q=Q (.int i) S:=rfl
theorem rw2(i:Int)(f:Fm)(S:q0b)(Q:VC):bIx (Rd.w i f).pv (.int 2) S Q=Q f.pv S:=rfl
set_option maxHeartbeats 1000000
set_option maxHeartbeats 1000000
def Rd.top:Rd->Option Rd
 |.n .a (.n .c x y) z=>some (.n .a x (.n .a y z))
 |.n .c (.n .c x y) z=>some (.n .c x (.n .c y z))
 |.n .b x (.n .d y z)=>some (.n .b (.n .b x y) z)
 |.n .d x (.n .d y z)=>some (.n .d (.n .d x y) z)
 |_=>none
def Rd.tn:Rd->Option Rd
 |.w _ _=>none
 |.n s l r=>match Rd.top (.n s l r)with
  |some t=>some t
  |none=>match l.tn with
   |some t=>some (.n s t r)
   |none=>match r.tn with
    |some t=>some (.n s l t)
    |none=>none
def Rd.ms:Rd->Nat
 |.w _ _=>0
 |.n s l r=>l.ms+r.ms+match s with
  |.a=>l.lv
  |.c=>l.lv
  |.b=>r.lv
  |.d=>r.lv
set_option maxHeartbeats 1000000
def Rd.hd:Rd->Str
 |.w _ _=>y7a
 |.n s _ _=>s.st
def Sg.ac:Sg->Bool
 |.a=>true
 |.c=>true
 |_=>false
theorem ok2(a b:Str):q2m [.str a,.str b]:=x2o a b
set_option maxHeartbeats 1000000
set_option maxHeartbeats 1000000
def Rd.wi:Rd->List Rd
 |.w i f=>[.w i f]
 |.n s l r=>.n s l r::(l.wi++r.wi)
def Rd.sm:Rd->Prop
 |.w _ f=>f.lv<=5
 |.n _ l r=>l.sm/\r.sm
def Rd.ov(ws:List Str):Rd->Prop
 |.w _ f=>f.ov ws
 |.n _ l r=>l.ov ws/\r.ov ws
def q1w:WS:=
 (wSeq (wSet 2 (q2l (q1v (wBin bIx (wVar 0) (wC (.int 2)))) [none,none,none,some 1] (q2w 3 (q0j (q0e 0) (q0j (q0e 1) (q0j (q0e 2) q2x)))) (q0k (wBin cEq (wVar 0) (wVar 3))) (wTup (q0a (wVar 1) (q0a (wVar 2) wNil)))))
 (wSeq (wIfS (wNot (wTru (wVar 2)))
 z2v
 q0z)
 (wRet (wVar 2))))
def Fm.k:Fm->KTr
 |.b s=>.tup [.str "basic",.str s]
 |.n l x y=>.tup [.str (sSl l),x.k,y.k]
theorem z3p:∀f:Fm,ktP f.k=f.pv
 |.b s=>rfl
 |.n l x y=>by simp only[Fm.k,ktP,ktPs,z3p x,z3p y,Fm.pv]
theorem q8n:∀f:Fm,kdep f.k=f.dp
 |.b s=>rfl
 |.n l x y=>by simp only[Fm.k,kdep,z0b,q8n x,q8n y,Fm.dp];omega
def Fm.arg:Fm->Fm
 |.n _ _ z=>z
 |f=>f
def Fm.res:Fm->Fm
 |.n _ x _=>x
 |f=>f
def Rd.fm:Rd->Fm
 |.w _ f=>f
 |.n .a l _=>l.fm.res
 |.n .b _ r=>r.fm.res
 |.n .c l r=>.n false l.fm.res r.fm.arg
 |.n .d l r=>.n true r.fm.res l.fm.arg
def Rd.tm(L:Int×Fm->PV):Rd->PV
 |.w i f=>L (i,f)
 |.n .a l r=>ofP (l.tm L) (r.tm L)
 |.n .b l r=>ofP (r.tm L) (l.tm L)
 |.n .c l r=>jnP r.fm.arg (l.tm L) (r.tm L)
 |.n .d l r=>jnP l.fm.arg (r.tm L) (l.tm L)
def Rd.ws:Rd->List (Int×Fm)
 |.w i f=>[(i,f)]
 |.n _ l r=>l.ws++r.ws
theorem q4i(p:Key×PV)(r:List (Key×PV))(k:Key):valP (p::r) k=if p.1=k then some p.2 else valP r k:=by
 unfold valP
 rw[Q2y]
 by_cases h:p.1=k
 ·rw[if_pos h,decide_eq_true h];rfl
 ·rw[if_neg h,decide_eq_false h]
def Rd.one:Rd->Option (Int×Fm)
 |.w i f=>some (i,f)
 |_=>none
def Sg.ab:Sg->Bool
 |.a=>true
 |.b=>true
 |_=>false
mutual
def plV:PV->Bool
 |.str _=>true
 |.int _=>true
 |.tup xs=>plVs xs&&decide (xs.length<=10)
 |_=>false
def plVs:List PV->Bool
 |[]=>true
 |x::xs=>plV x&&plVs xs
end
theorem z8e:∀f:Fm,plV f.pv=true
 |.b s=>rfl
 |.n l x y=>by simp only[Fm.pv,plV,plVs,z8e x,z8e y,Q4c,Q1k,Q4t];rfl
inductive Tm where
 |nm (w:Str)|lf (n:Int) (f:PV)|bd (k:Nat)|fn (k:PV) (t:Tm)|ap (f a:Tm)
def Tm.pv:Tm->PV
 |.nm w=>.tup [.str "name",.str w]
 |.lf n f=>.tup [.str "leaf",.int n,f]
 |.bd k=>.tup [.str "bound",.int k]
 |.fn k t=>.tup [.str "fn",k,t.pv]
 |.ap f a=>.tup [.str "of",f.pv,a.pv]
def Tm.sz:Tm->Nat
 |.fn _ t=>1+t.sz
 |.ap f a=>1+f.sz+a.sz
 |_=>1
def Tm.dp:Tm->Nat
 |.fn _ t=>t.dp+1
 |.ap f a=>max f.dp a.dp+1
 |_=>0
theorem x4h(x y:PV)(xs:List PV):atI (x::y::xs) 1=some y:=q1l (x::y::xs) 1 (by simp)
mutual
def q6b:PV->Bool
 |.str _=>true
 |.int _=>true
 |.tup xs=>z8b xs&&decide (xs.length<=10)
 |_=>false
def z8b:List PV->Bool
 |[]=>true
 |x::xs=>q6b x&&z8b xs
end
def Tm.gd:Tm->Nat->Prop
 |.nm _,_=>True
 |.lf _ f,_=>q6b f=true/\dep f<=30
 |.bd k,n=>k<n
 |.fn k t,n=>(q6b k=true/\dep k<=30)/\t.gd (n+1)
 |.ap f a,n=>f.gd n/\a.gd n
def mb(F:Nat->Nat->Tm):Tm->Nat->Tm
 |.bd k,d=>F k d
 |.fn k t,d=>.fn k (mb F t (d+1))
 |.ap f a,d=>.ap (mb F f d) (mb F a d)
 |t,_=>t
def rsF(m:Nat)(k d:Nat):Tm:=.bd (if k<d then k else k+m)
def rs(t:Tm)(m d:Nat):Tm:=mb (rsF m) t d
def sbF(a:Tm)(k d:Nat):Tm:=if k<d then .bd k else if k=d then rs a d 0 else .bd (k-1)
def sb(t:Tm)(d:Nat)(a:Tm):Tm:=mb (sbF a) t d
def dn:Tm->List Nat->Tm
 |.ap (.fn _ b) a,[]=>sb b 0 a
 |t,[]=>t
 |.fn k t,_::p=>.fn k (dn t p)
 |.ap f a,0::p=>.ap (dn f p) a
 |.ap f a,_::p=>.ap f (dn a p)
 |t,_=>t
inductive Pl:Tm->List Nat->Prop
 |here (k:PV) (b a:Tm):Pl (.ap (.fn k b) a) []
 |fn (k:PV) (t:Tm) (p:List Nat):Pl t p->Pl (.fn k t) (0::p)
 |l (f a:Tm) (p:List Nat):Pl f p->Pl (.ap f a) (0::p)
 |r (f a:Tm) (p:List Nat):Pl a p->Pl (.ap f a) (1::p)
inductive Nt where
 |nm (w:Str)|lf (n:Int) (f:PV)|vr (i:Nat)|fn (k:PV) (o:Nat) (t:Nt)|ap (f a:Nt)
def nf:Tm->Nat
 |.fn _ t=>nf t+1
 |.ap f a=>nf f+nf a
 |_=>0
def pt:Nt->Nat->Nt->Nt
 |.vr i,o,x=>if i=o then x else .vr i
 |.fn k o' t,o,x=>.fn k o' (pt t o x)
 |.ap f a,o,x=>.ap (pt f o x) (pt a o x)
 |t,_,_=>t
def oc:Tm->Nat->Nat
 |.bd k,j=>if k=j then 1 else 0
 |.fn _ t,j=>oc t (j+1)
 |.ap f a,j=>oc f j+oc a j
 |_,_=>0
def Tm.nd:Tm->Nat
 |.fn _ t=>1+t.nd
 |.ap f a=>1+f.nd+a.nd
 |_=>0
inductive R:Tm->Tm->Prop
 |be (k:PV) (b a:Tm):R (.ap (.fn k b) a) (sb b 0 a)
 |fn (k:PV) {t t':Tm}:R t t'->R (.fn k t) (.fn k t')
 |l (a:Tm) {f f':Tm}:R f f'->R (.ap f a) (.ap f' a)
 |r (f:Tm) {a a':Tm}:R a a'->R (.ap f a) (.ap f a')
instance x6x:DecidableEq (Int×PV):=fun _ _=>Q6n _
def fl(L:Int->PV->Tm):Tm->Tm
 |.lf n f=>L n f
 |.fn k t=>.fn k (fl L t)
 |.ap f a=>.ap (fl L f) (fl L a)
 |t=>t
section
variable{L:Int->PV->Tm}(hL:∀n f,(L n f).gd 0)
include hL
end
inductive FK:PV->Kd->Prop
 |b (s:Str):FK (.tup [.str "basic",.str s]) (.a s)
 |n (l:Bool) {x y:PV} {kx ky:Kd}:FK x kx->FK y ky->FK (.tup [.str (if l=true then Q0j "\\" else Q0j "/"),x,y]) (.p ky kx)
def lkN(ps:List (Str×Kd))(w:Str):Option Kd:=(ps.find? fun p=>decide (p.1=w)).map (·.2)
inductive Ty(ps:List (Str×Kd)):List Kd->Tm->Kd->Prop
 |nm {e:List Kd} {w:Str} {k:Kd}:lkN ps w=some k->Ty ps e (.nm w) k
 |lf {e:List Kd} (n:Int) {f:PV} {k:Kd}:FK f k->k.dp<=20->Ty ps e (.lf n f) k
 |bd {e:List Kd} {j:Nat} {k:Kd}:e[j]?=some k->Ty ps e (.bd j) k
 |fn {e:List Kd} {k k':Kd} {t:Tm}:k.dp<=20->Ty ps (k::e) t k'->Ty ps e (.fn k.pv t) (.p k k')
 |ap {e:List Kd} {k k':Kd} {f a:Tm}:Ty ps e f (.p k k')->Ty ps e a k->Ty ps e (.ap f a) k'
instance x6w:DecidableEq Kd:=fun _ _=>Q6n _
theorem q7l:∀f g:Kd,eqB f.pv g.pv=decide (f=g)
 |.a s,.a t=>by simp[Kd.pv,q3n]
 |.a s,.p f t=>by simp[Kd.pv,y5c]
 |.p f t,.a s=>by simp[Kd.pv,y5b]
 |.p f t,.p f' t'=>by
  have h1:=q7l f f'
  have h2:=q7l t t'
  simp only[Kd.pv,q5e,eqBs,h1,h2,Z1a,Kd.p.injEq]
  by_cases z1:f=f'<;>by_cases z2:t=t'<;>simp[z1,z2]
def Fm.kk:Fm->Kd
 |.b s=>.a s
 |.n _ x y=>.p y.kk x.kk
theorem z9o:∀f:Fm,f.kk.pv=f.kd
 |.b s=>rfl
 |.n _ x y=>by simp only[Fm.kk,Kd.pv,Fm.kd,z9o x,z9o y]
theorem y3i:∀f:Fm,f.kk.dp<=f.dp
 |.b s=>Q1f _
 |.n _ x y=>by have:=y3i x;have:=y3i y;simp only[Fm.kk,Kd.dp,Fm.dp];omega
mutual
theorem z8c:∀v:PV,plV v=true->nrf v=true
 |.str _,_=>rfl
 |.int _,_=>rfl
 |.tup xs,h=>by
  simp only[plV,Q3i]at h
  simp only[nrf]
  exact z3i xs h.1
 |.non,h=>by simp[plV]at h
 |.bl _,h=>by simp[plV]at h
 |.ref _,h=>by simp[plV]at h
 |.frl _,h=>by simp[plV]at h
 |.ty _,h=>by simp[plV]at h
 |.exc _,h=>by simp[plV]at h
theorem z3i:∀xs:List PV,plVs xs=true->nrfs xs=true
 |[],_=>rfl
 |x::r,h=>by
  simp only[plVs,Q3i]at h
  simp only[nrfs,z8c x h.1,z3i r h.2,Q4c]
end
def okP(n:Nat)(v:PV):Prop:=plV v=true/\dep v<=n
theorem okP.le{n m:Nat}{v:PV}(h:okP n v)(k:n<=m):okP m v:=⟨h.1,Q1l h.2 k⟩
theorem okP.eq{n:Nat}{v:PV}(h:okP n v)(k:n<=190):okEq v:=⟨z8c v h.1,Q1l h.2 k⟩
theorem q8c(n:Nat)(s:Str):okP n (.str s):=⟨rfl,Q1f _⟩
theorem x2n{n:Nat}{u v:PV}(hu:okP n u)(hv:okP n v):okP (n+1) (.tup [u,v]):=by
 refine⟨by simp only[plV,plVs,hu.1,hv.1,Q4c,Q1k,Q4t];rfl,?_⟩
 have:=hu.2
 have:=hv.2
 simp only[dep,deps];omega
theorem x5h{n:Nat}{u v w:PV}(hu:okP n u)(hv:okP n v)(hw:okP n w):okP (n+1) (.tup [u,v,w]):=by
 refine⟨by simp only[plV,plVs,hu.1,hv.1,hw.1,Q4c,Q1k,Q4t];rfl,?_⟩
 have:=hu.2
 have:=hv.2
 have:=hw.2
 simp only[dep,deps];omega
def trP(t:(Str×Fm)×PV):PV:=.tup [.str t.1.1,t.1.2.pv,t.2]
theorem y4x{f:Fm}{n:Nat}(h:f.dp<=n):okP n f.pv:=⟨z8e f,by rw[z3w];exact h⟩
theorem q4l:∀{xs:List PV},(∀x∈xs,okP 190 x)->q2m xs
 |[],_=>by rw[q9s];trivial
 |x::r,h=>by
  obtain⟨a,b⟩:=q4l (xs:=r) fun y hy=>h y (by simp[hy])
  have c:=(h x (by simp)).eq (Q0k _)
  exact⟨by simp only[nrfs,c.1,a,Q4c],by have:=c.2;simp only[deps];omega⟩
def ky(ws:List Str)(p:Int×Fm):Str×Fm:=((ws[p.1.toNat]?).getD (mk []),p.2)
def bkP(x y:PV)(tr:List ((Str×Fm)×PV)):PV:=.tup [x,y,.tup (tr.map trP)]
theorem bk2(x y:PV)(tr:List ((Str×Fm)×PV))(S:q0b)(Q:VC):bIx (bkP x y tr) (.int 2) S Q=Q (.tup (tr.map trP)) S:=rfl
def ftP(t:(Str×Fm)×PV):PV:=.tup [t.1.2.pv,t.2]
def x4j(sp:Den):Prop:=∀(x y:PV)(tr:List ((Str×Fm)×PV))(w:Str)(S:q0b)(E:EK)(Q:VC),tr.length<=100->(∃t∈tr,t.1.1=w)->
 (∀(q:Nat) S',S'[q]?=some (.lst ((tr.filter fun t=>decide (t.1.1=w)).map ftP))->Ex [] S S'->Q (.ref q) S')->sp [bkP x y tr,.str w] S E Q
theorem y7b:x4j (fnP 2 3 q1w):=by
 intro x y tr w S E Q hl hex h
 refine⟨rfl,?_⟩
 unfold q1w
 have p2:2<=Q0l:=big (by decide)
 refine seqI fun K hK=>?_
 dsimp![bk2]
 refine⟨by rw[Q0q];exact big (by omega),?_⟩
 refine y9l (fun rest ys σ S2=>∃(us vs:List ((Str×Fm)×PV))(j0 j1 j2:Option PV),rest=us.map trP/\σ=[j0,j1,j2,some (.str w)]/\S2=S/\ys=(vs.filter fun t=>decide (t.1.1=w)).map ftP/\vs++us=tr) ?_ ?_ _ _ _ _ ⟨tr,[],none,none,none,rfl,rfl,rfl,rfl,rfl⟩
 ·rintro ys σ S2 ⟨us,vs,j0,j1,j2,hr',rfl,rfl,rfl,e⟩
  obtain rfl:us=[]:=by cases us with
   |nil=>rfl
   |cons a b=>simp at hr'
  rw[Q2x]at e
  subst e
  refine⟨trivial,hK _ _ ?_⟩
  clear hK
  have gn:=q0f S2 (.lst ((vs.filter fun t=>decide (t.1.1=w)).map ftP))
  have hx:Ex [] S2 (S2++[SO.lst ((vs.filter fun t=>decide (t.1.1=w)).map ftP)]):=Ex.new [] _ _
  refine seqI fun K hK=>?_
  have hne:(vs.filter fun t=>decide (t.1.1=w)).map ftP≠[]:=by
   obtain⟨t,ht,e⟩:=hex
   have:t∈vs.filter fun t=>decide (t.1.1=w):=Q4i.mpr ⟨ht,by simpa using e⟩
   intro z
   rw[Q6j]at z
   rw[z]at this
   cases this
  generalize S2.length=q at *
  generalize S2++[SO.lst ((vs.filter fun t=>decide (t.1.1=w)).map ftP)]=S3 at *
  dsimp![gn]
  refine ite2 (fun c=>absurd (List.isEmpty_iff.mp (by simpa using c)) hne) (fun _=>hK _ _ ?_)
  dsimp![true_and]
  exact h q S3 gn hx
 ·rintro z rest ys σ S2 ⟨us,vs,j0,j1,j2,hr',rfl,rfl,rfl,e⟩ N hN
  obtain⟨t,us,rfl⟩:∃p r,us=p::r:=by
   cases us with
   |nil=>simp at hr'
   |cons a b=>exact⟨a,b,rfl⟩
  simp only[Q0v,Q7f]at hr'
  obtain⟨rfl,rfl⟩:=hr'
  refine⟨trivial,?_⟩
  dsimp![trP]
  have e2:(vs++[t])++us=tr:=by simp[<-e]
  refine ite2 (fun c=>⟨p2,?_⟩) (fun c=>?_)
  ·have:=hN _ _ _ ⟨us,vs++[t],some (.str t.1.1),some t.1.2.pv,some t.2,rfl,rfl,rfl,rfl,e2⟩
   rw[Q5r,List.filter_cons_of_pos (by simpa using c),Z4c,Q1w]at this
   exact this
  ·have:=hN _ _ _ ⟨us,vs++[t],some (.str t.1.1),some t.1.2.pv,some t.2,rfl,rfl,rfl,rfl,e2⟩
   rw[Q5r,List.filter_cons_of_neg (by simpa using c),Z4c,Q2x]at this
   exact this
def bo:Tm->Nat->List (Nat×Nat)
 |.bd k,d=>[(k,d)]
 |.fn _ b,d=>bo b (d+1)
 |.ap f a,d=>bo f d++bo a d
 |_,_=>[]
def wi:Tm->Nat->Tm->Tm
 |.fn k _,_,x=>.fn k x
 |.ap _ a,0,x=>.ap x a
 |.ap f _,_,x=>.ap f x
 |t,_,_=>t
def Nt.pv:Nt->PV
 |.nm w=>.tup [.str "name",.str w]
 |.lf n f=>.tup [.str "leaf",.int n,f]
 |.vr i=>.tup [.str "var",.int (i:Nat)]
 |.fn k o t=>.tup [.str "fn",k,.int (o:Nat),t.pv]
 |.ap f a=>.tup [.str "of",f.pv,a.pv]
def Nt.dp:Nt->Nat
 |.fn _ _ t=>t.dp+1
 |.ap f a=>max f.dp a.dp+1
 |_=>0
def Tm.pp:Tm->Prop
 |.lf _ f=>q6b f=true/\dep f<=30
 |.fn k t=>(q6b k=true/\dep k<=30)/\t.pp
 |.ap f a=>f.pp/\a.pp
 |_=>True
def Nt.gp:Nt->Prop
 |.lf _ f=>q6b f=true/\dep f<=30
 |.fn k _ t=>(q6b k=true/\dep k<=30)/\t.gp
 |.ap f a=>f.gp/\a.gp
 |_=>True
def isFn:Tm->Bool
 |.fn _ _=>true
 |_=>false
def pls:Tm->List (List Int)
 |.fn _ b=>(pls b).map (0::·)
 |.ap f a=>(if isFn f=true then[[]]else[])++((pls f).map (0::·)++(pls a).map (1::·))
 |_=>[]
def pj(p:List Int):PV:=.tup (p.map PV.int)
def inn:Tm->List Tm
 |.fn _ b=>[b]
 |.ap f a=>[f,a]
 |_=>[]
def pr(x:Tm×List Int):PV:=.tup [x.1.pv,pj x.2]
def out(st:List (Tm×List Int)):List (List Int):=st.flatMap fun x=>(pls x.1).map (x.2++·)
def ci(p:List Nat):List Int:=p.map fun x:Nat=>(x:Int)
theorem x6u{t:Tm}{p:List Nat}(h:Pl t p):ci p∈pls t:=by
 induction h with
 |here k b a=>simp[pls,isFn,ci]
 |fn k t p _ ih=>simp only[pls];exact Q0p.mpr ⟨_,ih,rfl⟩
 |l f a p _ ih=>simp only[pls,Q0n];exact .inr (.inl (Q0p.mpr ⟨_,ih,rfl⟩))
 |r f a p _ ih=>simp only[pls,Q0n];exact .inr (.inr (Q0p.mpr ⟨_,ih,rfl⟩))
def Rd.tt(L:Int×Fm->Tm):Rd->Tm
 |.w i f=>L (i,f)
 |.n .a l r=>.ap (l.tt L) (r.tt L)
 |.n .b l r=>.ap (r.tt L) (l.tt L)
 |.n .c l r=>.fn r.fm.arg.kd (.ap (l.tt L) (.ap (r.tt L) (.bd 0)))
 |.n .d l r=>.fn l.fm.arg.kd (.ap (r.tt L) (.ap (l.tt L) (.bd 0)))
theorem md_a(x y:Fm):md (.n false x y) y=some (Sg.a.st,x):=by simp[md,mdL,Sg.st]
theorem md_c(x y z:Fm):md (.n false x y) (.n false y z)=some (Sg.c.st,.n false x z):=by
 have:y≠.n false y z:=Fm.ne_in
 simp[md,mdL,this,Sg.st]
theorem md_b(x y:Fm):md y (.n true x y)=some (Sg.b.st,x):=by
 have h:mdL y (.n true x y)=none:=by
  cases y with
  |b s=>rfl
  |n l u v=>
   cases l with
   |true=>rfl
   |false=>
    have hne:v≠.n true x (.n false u v):=fun e=>by
     have:=congrArg Fm.lv e
     simp only[Fm.lv]at this
     have:=Fm.lv_pos x
     omega
    simp[mdL,hne]
 simp[md,h,mdR,Sg.st]
theorem md_d(x y z:Fm):md (.n true y z) (.n true x y)=some (Sg.d.st,.n true x z):=by
 have:y≠.n true y z:=Fm.ne_in
 simp[md,mdL,mdR,this,Sg.st]
set_option maxHeartbeats 1000000
set_option maxHeartbeats 1000000
def Rd.ap(s:Sg):Rd->Rd->Rd
 |.n .c u v,z=>.n s u (Rd.ap s v z)
 |x,z=>.n s x z
def Rd.pa(s:Sg):Rd->Rd->Rd
 |x,.n .d y z=>.n s (Rd.pa s x y) z
 |x,z=>.n s x z
def Rd.nf:Rd->Rd
 |.w i f=>.w i f
 |.n s l r=>if s.ac=true then Rd.ap s l.nf r.nf else Rd.pa s l.nf r.nf
def q1j(spshow_form:Den):WS:=
 (wSeq (wIfS (q0k (wBin cEq (wBin bIx (wVar 0) (wC (.int 0))) (wC (.str "basic"))))
 (wRet (wBin bIx (wVar 0) (wC (.int 1))))
 q0z)
 (wSeq (wAsg (wVar 0) (q2w 3 (q0j (q0e 1) (q0j (q0e 2) (q0j (q0e 3) q2x)))))
 (wSeq (wSet 4 (q0h spshow_form (q0a (wVar 3) wNil)))
 (wSeq (wIfS (q0k (wBin cNe (wBin bIx (wVar 3) (wC (.int 0))) (wC (.str "basic"))))
 (wSet 4 (q7s (z6d (Q0j "(") (y1f (wVar 4) (z6d (Q0j ")") y1g)))))
 q0z)
 (wRet (wBin bAdd (wBin bAdd (q0h spshow_form (q0a (wVar 2) wNil)) (wVar 1)) (wVar 4)))))))
def q1q(sprows_of:Den)(spshow_form:Den):WS:=
 (wRet (z2u spshow_form (q2l (q1v (q0h sprows_of (q0a (wVar 0) (q0a (wVar 1) wNil)))) [none,none] (q2w 2 (q0j (q0e 0) (q0j (q0e 1) q2x))) q1n (wVar 0))))
def Fm.nb:Fm->Prop
 |.b s=>q2h s=true
 |.n _ x y=>x.nb/\y.nb
theorem y7w{ws:List Str}(hw:∀w∈ws,q2h w=true):∀{f:Fm},f.ov ws->f.nb
 |.b s,h=>hw s h
 |.n _ x y,h=>⟨y7w hw h.1,y7w hw h.2⟩
def sgs:List Str:=[Q0j ">",Q0j "<",Q0j ">>",Q0j "<<"]
abbrev Tri:=Int×Int×Fm
def triP(t:Tri):PV:=.tup [.int t.1,.int t.2.1,t.2.2.pv]
def stp:Rd->List Tri->Option (List Tri)
 |.w i f,st=>some ((i,i+1,f)::st)
 |.n s _ _,(a,k,x)::(k',b,y)::st=>match md x y with
  |some (z,g)=>if k=k'/\z=s.st then some ((a,b,g)::st)else none
  |none=>none
 |.n _ _ _,_=>none
def run:List Rd->List Tri->Option (List Tri)
 |[],st=>some st
 |t::ts,st=>(stp t st).bind (run ts)
def q2s:WS:=
 (wSeq (wIfS (q0k (wBin cEq (wVar 0) (wLst wNil)))
 (wRet (wC (.int 0)))
 q0z)
 (wRet (wBin bMod (wBM0 "list" mPop (wVar 0)) (wVar 1))))
def q1f:WS:=
 (wSeq (wSet 3 (wC (.str "abcdefghijklmnopqrstuvwxyz")))
 (wSeq (wSet 4 (wC (.str "")))
 (wSeq (wFor (q1d (q0a (wBin bAdd (wCB fLen (q0a (wVar 2) wNil)) (wC (.int 1))) wNil)) (q0e 5) (wSeq (wSet 6 (wBin bAdd (wVar 1) (wVar 5)))
 (wSeq (wSet 7 (wC (.str "")))
 (wSeq (wFor (q1d (q0a (wVar 0) wNil)) (q0e 8) (wSeq (wSet 7 (wBin bAdd (wVar 7) (wBin bIx (wVar 3) (wBin bMod (wVar 6) (wC (.int 26))))))
 (wSet 6 (wBin z1g (wVar 6) (wC (.int 26))))))
 (wIfS (wAnd (q0k (wBin cEq (wVar 4) (wC (.str "")))) (q0k (wBin q3d (wVar 7) (wVar 2))))
 (wSet 4 (wVar 7))
 q0z)))))
 (wRet (wVar 4)))))
def q2d(spLdraw:Den)(spLfree_name:Den):WS:=
 (wSeq (wSet 3 (wC (.str "abcdefghijklmnopqrstuvwxyz")))
 (wSeq (wSet 4 (wLst wNil))
 (wSeq (wIfS (q0k (wBin cGt (q0h spLdraw (q0a (wVar 0) (q0a (wC (.int 3)) wNil))) (wC (.int 0))))
 (wSeq (wFor (q1d (q0a (wVar 1) wNil)) (q0e 5) (q2f (wBM "list" q0x (wVar 4) (q0a (q0h spLfree_name (q0a (wBin bAdd (wC (.int 1)) (q0h spLdraw (q0a (wVar 0) (q0a (wC (.int 8)) wNil)))) (q0a (q0h spLdraw (q0a (wVar 0) (q0a (wBin bPow (wC (.int 10)) (wC (.int 12))) wNil))) (q0a (wBin bAdd (wVar 4) (wVar 2)) wNil)))) wNil))))
 (wRet (wVar 4)))
 q0z)
 (wSeq (wSet 6 (q0h spLfree_name (q0a (wBin bAdd (wC (.int 1)) (q0h spLdraw (q0a (wVar 0) (q0a (wC (.int 8)) wNil)))) (q0a (q0h spLdraw (q0a (wVar 0) (q0a (wBin bPow (wC (.int 10)) (wC (.int 12))) wNil))) (q0a (wLst wNil) wNil)))))
 (wSeq (wSet 7 (q0h spLdraw (q0a (wVar 0) (q0a (wCB fLen (q0a (wVar 6) wNil)) wNil))))
 (wSeq (wSet 8 (wBM "str" q9v (wVar 3) (q0a (wBin bIx (wVar 6) (wVar 7)) wNil)))
 (wSeq (wSet 9 (q2l (q1d (q0a (wBin bAdd (wVar 1) (wC (.int 1))) wNil)) [none,some 6,some 3,some 7,some 8] (q0e 0) q1n (wBin bAdd (wBin bAdd (wSl (wVar 1) q2a (q5g (wVar 3))) (wBin bIx (wVar 2) (wBin bMod (wBin bAdd (wVar 4) (wVar 0)) (wC (.int 26))))) (wSl (wVar 1) (q5g (wBin bAdd (wVar 3) (wC (.int 1)))) q2a))))
 (wRet (wSl (q2l (q1v (wVar 9)) [none,some 2] (q0e 0) (q0k (wBin q3d (wVar 0) (wVar 1))) (wVar 0)) q2a (q5g (wVar 1)))))))))))
def q2r(spLdraw:Den)(spLform:Den):WS:=
 (wSeq (wIfS (q0k (wBin cLt (wVar 2) (wC (.int 2))))
 (wRet (wBin bIx (wVar 1) (q0h spLdraw (q0a (wVar 0) (q0a (wCB fLen (q0a (wVar 1) wNil)) wNil)))))
 q0z)
 (wSeq (wSet 3 (wBin bAdd (wC (.int 1)) (q0h spLdraw (q0a (wVar 0) (q0a (wBin bSub (wVar 2) (wC (.int 1))) wNil)))))
 (wSeq (wSet 4 (wBin bIx (wLst (q0a (wC (.str "/")) (q0a (wC (.str "\\")) wNil))) (q0h spLdraw (q0a (wVar 0) (q0a (wC (.int 2)) wNil)))))
 (wSeq (wSet 5 (q0h spLform (q0a (wVar 0) (q0a (wVar 1) (q0a (wVar 3) wNil)))))
 (wRet (wTup (q0a (wVar 4) (q0a (wVar 5) (q0a (q0h spLform (q0a (wVar 0) (q0a (wVar 1) (q0a (wBin bSub (wVar 2) (wVar 3)) wNil)))) wNil)))))))))
def q1r(spLwidth:Den):WS:=
 (wSeq (wIfS (q0k (wBin cEq (wBin bIx (wVar 0) (wC (.int 0))) (wC (.str "basic"))))
 (wRet (wC (.int 1)))
 q0z)
 (wRet (wBin bAdd (q0h spLwidth (q0a (wBin bIx (wVar 0) (wC (.int 1))) wNil)) (q0h spLwidth (q0a (wBin bIx (wVar 0) (wC (.int 2))) wNil)))))
def q2b(spLwidth:Den):WS:=
 (wSeq (wSet 3 (wBin bIx (wLst (q0a (wTup (q0a (wC (.str ">")) (q0a (wTup (q0a (wC (.str "/")) (q0a (wVar 0) (q0a (wVar 1) wNil)))) (q0a (wVar 1) wNil)))) (q0a (wTup (q0a (wC (.str "<")) (q0a (wVar 1) (q0a (wTup (q0a (wC (.str "\\")) (q0a (wVar 0) (q0a (wVar 1) wNil)))) wNil)))) wNil))) (wBin bMod (wVar 2) (wC (.int 2)))))
 (wSeq (wIfS (wAnd (q0k (wBin cGt (wVar 2) (wC (.int 1)))) (q0k (wBin cEq (wBin bIx (wVar 0) (wC (.int 0))) (wC (.str "/")))))
 (wSet 3 (wTup (q0a (wC (.str ">>")) (q0a (wTup (q0a (wC (.str "/")) (q0a (wBin bIx (wVar 0) (wC (.int 1))) (q0a (wVar 1) wNil)))) (q0a (wTup (q0a (wC (.str "/")) (q0a (wVar 1) (q0a (wBin bIx (wVar 0) (wC (.int 2))) wNil)))) wNil)))))
 q0z)
 (wSeq (wIfS (wAnd (q0k (wBin cGt (wVar 2) (wC (.int 1)))) (q0k (wBin cEq (wBin bIx (wVar 0) (wC (.int 0))) (wC (.str "\\")))))
 (wSet 3 (wTup (q0a (wC (.str "<<")) (q0a (wTup (q0a (wC (.str "\\")) (q0a (wVar 1) (q0a (wBin bIx (wVar 0) (wC (.int 2))) wNil)))) (q0a (wTup (q0a (wC (.str "\\")) (q0a (wBin bIx (wVar 0) (wC (.int 1))) (q0a (wVar 1) wNil)))) wNil)))))
 q0z)
 (wSeq (wIfS (wOr (q0k (wBin cGt (q0h spLwidth (q0a (wBin bIx (wVar 3) (wC (.int 1))) wNil)) (wC (.int 6)))) (q0k (wBin cGt (q0h spLwidth (q0a (wBin bIx (wVar 3) (wC (.int 2))) wNil)) (wC (.int 6)))))
 (wRet (wC .non))
 q0z)
 (wRet (wVar 3))))))
def q2e(spLdraw:Den)(spLform:Den)(spLsplit:Den):WS:=
 (wSeq (wSet 4 (wLst (q0a (wVar 2) wNil)))
 (wSeq (wSet 5 (wLst wNil))
 (wSeq (wFor (q1d (q0a (wBin bMul (wC (.int 2)) (wVar 3)) wNil)) (q0e 6) (wIfS (q0k (wBin cLt (wCB fLen (q0a (wVar 4) wNil)) (wVar 3)))
 (wSeq (wSet 7 (q0h spLdraw (q0a (wVar 0) (q0a (wCB fLen (q0a (wVar 4) wNil)) wNil))))
 (wSeq (wSet 8 (q0h spLform (q0a (wVar 0) (q0a (wVar 1) (q0a (wBin bIx (wLst (q0a (wC (.int 1)) (q0a (wC (.int 1)) (q0a (wC (.int 1)) (q0a (wC (.int 2)) (q0a (wC (.int 3)) wNil)))))) (q0h spLdraw (q0a (wVar 0) (q0a (wC (.int 5)) wNil)))) wNil)))))
 (wSeq (wSet 9 (q0h spLsplit (q0a (wBin bIx (wVar 4) (wVar 7)) (q0a (wVar 8) (q0a (q0h spLdraw (q0a (wVar 0) (q0a (wC (.int 4)) wNil))) wNil)))))
 (wIfS (q0k (wBin q7p (wVar 9) (wC .non)))
 (wSeq (wSet 4 (wBin bAdd (wBin bAdd (wSl (wVar 4) q2a (q5g (wVar 7))) (wLst (q0a (wBin bIx (wVar 9) (wC (.int 1))) (q0a (wBin bIx (wVar 9) (wC (.int 2))) wNil)))) (wSl (wVar 4) (q5g (wBin bAdd (wVar 7) (wC (.int 1)))) q2a)))
 (q2f (wBM "list" q0x (wVar 5) (q0a (wTup (q0a (wVar 7) (q0a (wBin bIx (wVar 9) (wC (.int 0))) wNil))) wNil))))
 q0z))))
 q0z))
 (wRet (wTup (q0a (wVar 4) (q0a (wVar 5) wNil)))))))
def q1s:WS:=
 (wSeq (wSet 2 (q2l (q1d (q0a (wCB fLen (q0a (wVar 0) wNil)) wNil)) [none,some 0] (q0e 0) q1n (wTup (q0a (wC (.str "word")) (q0a (wVar 0) (q0a (wBin bIx (wVar 1) (wVar 0)) wNil))))))
 (wSeq (wFor (q1v (q9c (wVar 1))) (q2w 2 (q0j (q0e 3) (q0j (q0e 4) q2x))) (wSet 2 (wBin bAdd (wBin bAdd (wSl (wVar 2) q2a (q5g (wVar 3))) (wLst (q0a (wTup (q0a (wVar 4) (q0a (wBin bIx (wVar 2) (wVar 3)) (q0a (wBin bIx (wVar 2) (wBin bAdd (wVar 3) (wC (.int 1)))) wNil)))) wNil))) (wSl (wVar 2) (q5g (wBin bAdd (wVar 3) (wC (.int 2)))) q2a))))
 (wRet (wBin bIx (wVar 2) (wC (.int 0))))))
def q1k(spLnames:Den)(spLdraw:Den):WS:=
 (wSeq (wSet 2 (q0h spLnames (q0a (wVar 0) (q0a (wCB fLen (q0a (wVar 1) wNil)) (q0a (wLst wNil) wNil)))))
 (wSeq (wSet 3 (q0h spLdraw (q0a (wVar 0) (q0a (wC (.int 3)) wNil))))
 (wSeq (wSet 4 z1h)
 (wSeq (wSet 5 (wLst wNil))
 (wSeq (wFor (q1d (q0a (wCB fLen (q0a (wVar 1) wNil)) wNil)) (q0e 6) (wSeq (wSet 7 (wBin bIx (wLst (q0a (wVar 6) (q0a (q0h spLdraw (q0a (wVar 0) (q0a (wCB fLen (q0a (wVar 1) wNil)) wNil))) (q0a (q0h spLdraw (q0a (wVar 0) (q0a (wCB y0g (q0a (wC (.int 2)) (q0a (wCB fLen (q0a (wVar 1) wNil)) wNil))) wNil))) wNil)))) (wVar 3)))
 (wSeq (wSet 8 (wBin bIx (wVar 2) (wVar 7)))
 (wSeq (wIfS (wAnd (q0k (wBin cGt (wCB fLen (q0a (wBM "dict" z9f (wVar 4) (q0a (wVar 8) (q0a (wLst wNil) wNil))) wNil)) (wC (.int 4)))) (q0k (wBin q3d (wBin bIx (wVar 1) (wVar 6)) (wBin bIxD (wVar 4) (wVar 8)))))
 (wSet 8 (wBin bIx (q2l (q1v (wVar 2)) [none,some 4] (q0e 0) (q0k (wBin cLt (wCB fLen (q0a (wBM "dict" z9f (wVar 1) (q0a (wVar 0) (q0a (wLst wNil) wNil))) wNil)) (wC (.int 5)))) (wVar 0)) (wC (.int 0))))
 q0z)
 (wSeq (q2f (wBM "list" q0x (wVar 5) (q0a (wVar 8) wNil)))
 (wSeq (wSet 9 (wBM "dict" q4c (wVar 4) (q0a (wVar 8) (q0a (wLst wNil) wNil))))
 (wIfS (q0k (wBin q3d (wBin bIx (wVar 1) (wVar 6)) (wVar 9)))
 (q2f (wBM "list" q0x (wVar 9) (q0a (wBin bIx (wVar 1) (wVar 6)) wNil)))
 q0z)))))))
 (wRet (wTup (q0a (wCB q5d (q0a (wVar 5) wNil)) (q0a (wVar 4) wNil)))))))))
def q1u(spLdraw:Den)(spLform:Den):WS:=
 (wFor (q1d (q0a (q0h spLdraw (q0a (wVar 0) (q0a (wC (.int 13)) wNil))) wNil)) (q0e 5) (wSeq (wSet 6 (wBin bIx (wVar 2) (q0h spLdraw (q0a (wVar 0) (q0a (wCB fLen (q0a (wVar 2) wNil)) wNil)))))
 (wSeq (wIfS (q0k (wBin cEq (q0h spLdraw (q0a (wVar 0) (q0a (wC (.int 2)) wNil))) (wC (.int 1))))
 (wSet 6 (q0h spLform (q0a (wVar 0) (q0a (wVar 1) (q0a (wBin bAdd (wC (.int 1)) (q0h spLdraw (q0a (wVar 0) (q0a (wC (.int 3)) wNil)))) wNil)))))
 q0z)
 (wSeq (wSet 7 (wBin bIxD (wVar 4) (wBin bIx (wVar 3) (q0h spLdraw (q0a (wVar 0) (q0a (wCB fLen (q0a (wVar 3) wNil)) wNil))))))
 (wIfS (wAnd (q0k (wBin q3d (wVar 6) (wVar 7))) (q0k (wBin cLt (wCB fLen (q0a (wVar 7) wNil)) (wC (.int 5)))))
 (q2f (wBM "list" q0x (wVar 7) (q0a (wVar 6) wNil)))
 q0z)))))
def q2p(spLdraw:Den):WS:=
 (wSeq (wSet 2 (wCB y0h (q0a (wVar 1) wNil)))
 (wSeq (wSet 3 (wLst wNil))
 (wSeq (z6g (q0k (wBin cNe (wVar 2) (wLst wNil))) (q2f (wBM "list" q0x (wVar 3) (q0a (wBM "list" q9u (wVar 2) (q0a (q0h spLdraw (q0a (wVar 0) (q0a (wCB fLen (q0a (wVar 2) wNil)) wNil))) wNil)) wNil))))
 (wRet (wVar 3)))))
def q2t(spLkind:Den)(spLnames:Den)(spLturn:Den):WS:=
 (wSeq (wSet 3 (wLst wNil))
 (wSeq (wFor (q6v (wVar 2)) (q0e 4) (wFor (q1v (wBin bIxD (wVar 2) (wVar 4))) (q0e 5) (wIfS (q0k (wBin q3d (q0h spLkind (q0a (wVar 5) wNil)) (wVar 3)))
 (q2f (wBM "list" q0x (wVar 3) (q0a (q0h spLkind (q0a (wVar 5) wNil)) wNil)))
 q0z)))
 (wSeq (wSet 6 (q0h spLnames (q0a (wVar 0) (q0a (wCB fLen (q0a (wVar 3) wNil)) (q0a (wLst wNil) wNil)))))
 (wSeq (wSet 7 (wLst wNil))
 (wSeq (wFor (q6v (wVar 2)) (q0e 4) (wFor (q1v (wBin bIxD (wVar 2) (wVar 4))) (q0e 5) (q2f (wBM "list" q0x (wVar 7) (q0a (wTup (q0a (wVar 4) (q0a (wVar 5) (q0a (wTup (q0a (wC (.str "name")) (q0a (wBin bIx (wVar 6) (wBM "list" z9e (wVar 3) (q0a (q0h spLkind (q0a (wVar 5) wNil)) wNil))) wNil))) wNil)))) wNil)))))
 (wSeq (wSet 8 (q0h spLturn (q0a (wVar 0) (q0a (y9y (q0a (wVar 6) (q0a (wVar 3) wNil))) wNil))))
 (wRet (wTup (q0a (wCB q5d (q0a (q2l (q1v (wVar 1)) [none] (q0e 0) q1n (wBin bIx (wVar 0) (wC (.int 1)))) wNil)) (q0a (wCB q5d (q0a (wVar 8) wNil)) (q0a (wCB q5d (q0a (q0h spLturn (q0a (wVar 0) (q0a (wVar 7) wNil))) wNil)) wNil)))))))))))
def q2q(spLnames:Den)(spLdraw:Den)(spLform:Den)(spLgrown:Den)(spLreading:Den)(spLsentence:Den)(spLfurther:Den)(spLbook:Den):WS:=
 (wSeq (wSet 3 (q2l (q1v (q0h spLnames (q0a (wVar 0) (q0a (wBin bIx (wLst (q0a (wC (.int 2)) (q0a (wC (.int 3)) (q0a (wC (.int 2)) (q0a (wC (.int 4)) wNil))))) (q0h spLdraw (q0a (wVar 0) (q0a (wC (.int 4)) wNil)))) (q0a (wLst (q0a (wC (.str "any")) wNil)) wNil))))) [none] (q0e 0) q1n (wTup (q0a (wC (.str "basic")) (q0a (wVar 0) wNil)))))
 (wSeq (wSet 4 (q0h spLform (q0a (wVar 0) (q0a (wVar 3) (q0a (wBin bIx (wLst (q0a (wC (.int 1)) (q0a (wC (.int 1)) (q0a (wC (.int 1)) (q0a (wC (.int 2)) wNil))))) (q0h spLdraw (q0a (wVar 0) (q0a (wC (.int 4)) wNil)))) wNil)))))
 (wSeq (wSet 5 (wBin bAdd (wC (.int 1)) (q0h spLdraw (q0a (wVar 0) (q0a (wVar 1) wNil)))))
 (wSeq (wAsg (q0h spLgrown (q0a (wVar 0) (q0a (wVar 3) (q0a (wVar 4) (q0a (wVar 5) wNil))))) (q2w 2 (q0j (q0e 6) (q0j (q0e 7) q2x))))
 (wSeq (wSet 8 (q0h spLreading (q0a (wVar 6) (q0a (wVar 7) wNil))))
 (wSeq (wIfS (q0k (wBin cEq (q0h spLdraw (q0a (wVar 0) (q0a (wC (.int 5)) wNil))) (wBin bSub (wC (.int 5)) (wVar 2))))
 (wSeq (wSet 6 (q2l (q1d (q0a (wVar 5) wNil)) [none,some 0,some 3] (q0e 0) q1n (q0h spLform (q0a (wVar 1) (q0a (wVar 2) (q0a (wBin bIx (wLst (q0a (wC (.int 1)) (q0a (wC (.int 1)) (q0a (wC (.int 2)) (q0a (wC (.int 2)) (q0a (wC (.int 3)) (q0a (wC (.int 4)) wNil))))))) (q0h spLdraw (q0a (wVar 1) (q0a (wC (.int 6)) wNil)))) wNil))))))
 (wSet 8 (wC .non)))
 q0z)
 (wSeq (wAsg (q0h spLsentence (q0a (wVar 0) (q0a (wVar 6) wNil))) (q2w 2 (q0j (q0e 9) (q0j (q0e 10) q2x))))
 (wSeq (q2f (q0h spLfurther (q0a (wVar 0) (q0a (wVar 3) (q0a (wVar 6) (q0a (wVar 9) (q0a (wVar 10) wNil)))))))
 (wRet (wTup (q0a (q0h spLbook (q0a (wVar 0) (q0a (wVar 3) (q0a (wVar 10) wNil)))) (q0a (wVar 9) (q0a (wVar 10) (q0a (wVar 8) (q0a (wVar 4) wNil)))))))))))))))
def q1t:WS:=
 (wSeq (wSet 1 (wBin bAdd (wSl (wVar 0) q2a (q5g (wC (.int 63)))) (wBin bMul (wLst (q0a (wC (.int 0)) wNil)) (wCB fInt (q0a (wBin cEqE (wVar 0) (wLst wNil)) wNil)))))
 (wSeq (wSet 2 (wLst wNil))
 (wSeq (wIfS (q0k (wBin cEq (wBin bMod (wBin bIx (wVar 1) (wC (.int 0))) (wC (.int 2))) (wC (.int 0))))
 (wSeq (wFor (q1v (wBin bAdd (wLst (q0a (wBin z1g (wBin bIx (wVar 1) (wC (.int 0))) (wC (.int 2))) wNil)) (wSl (wVar 1) (q5g (wC (.int 1))) q2a))) (q0e 3) (wFor (q1d (q0a (wC (.int 8)) wNil)) (q0e 4) (wSeq (q2f (wBM "list" q0x (wVar 2) (q0a (wBin bMod (wVar 3) (wBin bPow (wC (.int 10)) (wC (.int 12)))) wNil)))
 (wSet 3 (wBin z1g (wVar 3) (wBin bPow (wC (.int 10)) (wC (.int 12))))))))
 (wRet (q9c (wVar 2))))
 q0z)
 (wSeq (wSet 5 (wBin bMod (wBin z1g (wBin bIx (wVar 1) (wC (.int 0))) (wC (.int 2))) (wC (.int 2147483629))))
 (wSeq (wFor (q1d (q0a (wC (.int 504)) wNil)) (q0e 4) (wSeq (wSet 3 (wBin bMod (wBin bIx (wVar 1) (wBin bMod (wVar 4) (wCB fLen (q0a (wVar 1) wNil)))) (wC (.int 2147483647))))
 (wSeq (wSet 5 (wBin bMod (wBin bAdd (wBin bAdd (wBin bMul (wVar 5) (wVar 5)) (wBin bMul (wC (.int 69621)) (wVar 3))) (wVar 4)) (wC (.int 2147483629))))
 (q2f (wBM "list" q0x (wVar 2) (q0a (wBin z1g (wBin bMod (wBin bMul (wVar 5) (wBin bAdd (wVar 5) (wC (.int 48271)))) (wC (.int 2147483587))) (wC (.int 4))) wNil))))))
 (wRet (q9c (wVar 2))))))))
theorem forM{α:Type}{chk:q0b->Prop}{g:WG}{wb:WS}{D:PEnds}{E:EK}(f:α->PV)(l:List α)(P:List α->Ev.Loc->q0b->Prop)(hn:∀σ S,P l σ S->chk S/\D.nx σ S)
  (hc:∀a x b,l=a++x::b->∀σ S,P a σ S->∀N:Ev.Loc->q0b->Prop,(∀σ S,P (a++[x]) σ S->N σ S)->chk S/\g (f x) σ S E fun σ2 S2=>wb {nx:=N,rt:=D.rt,ct:=N,bk:=D.nx} E σ2 S2) (σ:Ev.Loc) (S:q0b) (h:P [] σ S):z5r chk g wb D E (l.map f) σ S:=by
 refine forI (fun rest σ S=>∃a b,l=a++b/\rest=b.map f/\P a σ S) ?_ ?_ _ _ _ ⟨[],l,rfl,rfl,h⟩
 ·rintro σ S ⟨a,b,e1,e2,p⟩
  obtain rfl:=Q6j.mp e2.symm
  rw[Q2x]at e1
  subst e1
  exact hn σ S p
 ·rintro y r σ S ⟨a,b,e1,e2,p⟩ N hN
  cases b with
  |nil=>cases e2
  |cons x b=>
   cases e2
   exact hc a x b e1 σ S p N fun σ S q=>hN σ S ⟨a++[x],b,by rw[e1];simp,rfl,q⟩
theorem q6u{α:Type}{chk:q0b->Prop}{g:WG}{wc:WT}{we:WE}{Q:VC}(f:α->PV)(l:List α)(P:List α->List PV->Ev.Loc->q0b->Prop)(hn:∀ys σ S,P l ys σ S->chk S/\Q (.ref S.length) (S++[.lst ys]))
  (hc:∀a x b,l=a++x::b->∀ys σ S,P a ys σ S->∀N:List PV->Ev.Loc->q0b->Prop,(∀ys σ S,P (a++[x]) ys σ S->N ys σ S)->chk S/\g (f x) σ S NoX fun σ2 S2=>wc σ2 S2 NoX fun b S3=>if b=true then we σ2 S3 NoX (fun y S4=>N (ys++[y]) σ2 S4)else N ys σ2 S3) (σ:Ev.Loc) (S:q0b) (h:P [] [] σ S):q7o chk g wc we Q (l.map f) [] σ S:=by
 refine y9l (fun rest ys σ S=>∃a b,l=a++b/\rest=b.map f/\P a ys σ S) ?_ ?_ _ _ _ _ ⟨[],l,rfl,rfl,h⟩
 ·rintro ys σ S ⟨a,b,e1,e2,p⟩
  obtain rfl:=Q6j.mp e2.symm
  rw[Q2x]at e1
  subst e1
  exact hn ys σ S p
 ·rintro y r ys σ S ⟨a,b,e1,e2,p⟩ N hN
  cases b with
  |nil=>cases e2
  |cons x b=>
   cases e2
   exact hc a x b e1 ys σ S p N fun ys σ S q=>hN ys σ S ⟨a++[x],b,by rw[e1];simp,rfl,q⟩
def iN(i:Nat):PV:=.int (i:Nat)
theorem z7t(n:Nat):rngP 0 n=(Q1q n).map iN:=by
 unfold rngP iN
 exact Q3y fun i _=>by simp
theorem q9o{n:Nat}{a b:List Nat}{x:Nat}(h:Q1q n=a++x::b):x=a.length/\a.length<n:=by
 have hl:=congrArg Q3m h
 simp at hl
 have e:(Q1q n)[a.length]?=some x:=by rw[h];simp
 rw[Z2e (by omega)]at e
 simp at e
 omega
theorem forR{chk:q0b->Prop}{g:WG}{wb:WS}{D:PEnds}{E:EK}(n:Nat)(P:Nat->Ev.Loc->q0b->Prop)(hn:∀σ S,P n σ S->chk S/\D.nx σ S)
  (hc:∀i,i<n->∀σ S,P i σ S->∀N:Ev.Loc->q0b->Prop,(∀σ S,P (i+1) σ S->N σ S)->chk S/\g (.int (i:Nat)) σ S E fun σ2 S2=>wb {nx:=N,rt:=D.rt,ct:=N,bk:=D.nx} E σ2 S2) (σ:Ev.Loc) (S:q0b) (h:P 0 σ S):z5r chk g wb D E (rngP 0 n) σ S:=by
 rw[z7t]
 refine forM iN _ (fun a σ S=>P a.length σ S) (fun σ S p=>hn σ S (by rwa [Q5w]at p)) (fun a x b e σ S p N hN=>?_) σ S h
 obtain⟨rfl,lt⟩:=q9o e
 exact hc _ lt σ S p N fun σ S q=>hN σ S (by rw[Q0x];exact q)
theorem y9k{chk:q0b->Prop}{g:WG}{wc:WT}{we:WE}{Q:VC}(n:Nat)(P:Nat->List PV->Ev.Loc->q0b->Prop)(hn:∀ys σ S,P n ys σ S->chk S/\Q (.ref S.length) (S++[.lst ys]))
  (hc:∀i,i<n->∀ys σ S,P i ys σ S->∀N:List PV->Ev.Loc->q0b->Prop,(∀ys σ S,P (i+1) ys σ S->N ys σ S)->chk S/\g (.int (i:Nat)) σ S NoX fun σ2 S2=>wc σ2 S2 NoX fun b S3=>if b=true then we σ2 S3 NoX (fun y S4=>N (ys++[y]) σ2 S4)else N ys σ2 S3) (σ:Ev.Loc) (S:q0b) (h:P 0 [] σ S):q7o chk g wc we Q (rngP 0 n) [] σ S:=by
 rw[z7t]
 refine q6u iN _ (fun a ys σ S=>P a.length ys σ S) (fun ys σ S p=>hn ys σ S (by rwa [Q5w]at p)) (fun a x b e ys σ S p N hN=>?_) σ S h
 obtain⟨rfl,lt⟩:=q9o e
 exact hc _ lt ys σ S p N fun ys σ S q=>hN ys σ S (by rw[Q0x];exact q)
def DkN(d:Nat)(S:q0b):Prop:=∃ns:List Int,S[d]?=some (.lst (ns.map PV.int))/\(∀n∈ns,0<=n)/\ns.length<=1000
theorem DkN.ex{d:Nat}{S S':q0b}{xs:List Nat}(h:DkN d S)(x:Ex xs S S')(hd:d∉xs):DkN d S':=by
 obtain⟨ns,a,b⟩:=h
 exact⟨ns,x.get a hd,b⟩
theorem DkN.lt{d:Nat}{S:q0b}(h:DkN d S):d<S.length:=by obtain⟨ns,a,_⟩:=h;exact q0d a
def q9a(sp:Den):Prop:=∀(d m:Nat)(S:q0b)(E:EK)(Q:VC),1<=m->DkN d S->(∀(r:Nat) S',r<m->DkN d S'->Ex [d] S S'->Q (.int (r:Nat)) S')->sp [.ref d,.int (m:Nat)] S E Q
theorem y9j:q9a (fnP 2 2 q2s):=by
 rintro d m S E Q hm ⟨ns,hd,h0,hl⟩ h
 refine⟨rfl,?_⟩
 unfold q2s
 have hd1:=q0i hd [SO.lst []]
 refine seqI fun K hK=>?_
 dsimp![q0c hd1]
 refine⟨Q1f _,z5b ns,?_⟩
 rcases List.eq_nil_or_concat ns with rfl|⟨ms,n,rfl⟩
 ·rw[if_pos (show eqBs (List.map PV.int []) []=true from rfl)]
  exact h 0 _ (by omega) ⟨[],hd1,by simp,Q1f _⟩ (Ex.new _ S _)
 ·rw[Z1t]at hd1 hl h0
  rw[if_neg (by rw[Z1t];cases ms<;>simp[eqBs])]
  refine hK _ _ ?_
  clear hK
  have e:(S++[SO.lst []])[d]?=some (.lst (ms.map PV.int++[.int n])):=by rw[hd1];simp
  dsimp![e,q0m e,List.getLast?_append,List.getLast?_singleton,Option.some_or,List.dropLast_concat]
  have hn0:=h0 n (by simp)
  have a1:=Q3h n (show(m:Int)≠0 by omega)
  have a2:=Q3r n (show(0:Int)<m by omega)
  refine⟨by omega,?_⟩
  rw[show n % (m:Int)=(((n % (m:Int)).toNat:Nat):Int) by omega]
  refine h _ _ (by omega) ⟨ms,q2k _ e,fun k hk=>h0 k (by simp[hk]),by simp at hl;omega⟩ ((Ex.new _ S _).set (.inl (by simp)))
def x4k(sp:Den):Prop:=∀(ns:List Int)(S:q0b)(E:EK)(Q:VC),ns.length<=63->(∀d S',DkN d S'->Ex [] S S'->S.length<=d->Q (.ref d) S')->sp [.frl (ns.map .int)] S E Q
theorem y3u(ns:List Int):(ns.map PV.int).isEmpty=ns.isEmpty:=by cases ns<;>rfl
theorem y8g:x4k (fnP 1 6 q1t):=by
 intro ns S E Q hl h
 refine⟨rfl,?_⟩
 unfold q1t
 obtain⟨x,xs,hxs,hxl⟩:∃x xs,ns++(if ns.isEmpty then[0]else[])=x::xs/\xs.length<=63:=by
  cases ns with
  |nil=>exact⟨0,[],rfl,by simp⟩
  |cons a r=>exact⟨a,r,by simp,by simp at hl;omega⟩
 refine seqI fun K hK=>?_
 have e0:=q0f S (SO.lst (ns.map PV.int))
 have e1:=q0i e0 [SO.lst [PV.int 0]]
 have e2:=q0f (S++[SO.lst (ns.map PV.int)]) (.lst [PV.int 0])
 have e1':=q0i e1 [SO.lst []]
 have e2':=q0i e2 [SO.lst []]
 have e3:=q0f (S++[SO.lst (ns.map PV.int)]++[SO.lst [PV.int 0]]) (.lst [])
 dsimp![x6p ns hl,cEqE]
 refine⟨big (by decide),Q1f _,_,_,rfl,rfl,q0c e3,?_⟩
 rw[y3u]
 have lz:(Q1v (if ns.isEmpty=true then(1:Int)else 0).toNat [PV.int 0]).flatten=(if ns.isEmpty=true then[0]else[]:List Int).map PV.int:=by split<;>rfl
 have z01:0<=(if ns.isEmpty=true then(1:Int)else 0)/\(if ns.isEmpty=true then(1:Int)else 0)<=1:=by split<;>omega
 have e4:=q0i e1' [SO.lst ((if ns.isEmpty=true then[0]else[]:List Int).map PV.int)]
 have cat:ns.map PV.int++(if ns.isEmpty=true then[0]else[]:List Int).map PV.int=(x::xs).map PV.int:=by rw[<-hxs];simp
 simp only[q0m e2',lz,q0m e4,cat]
 have cl:=congrArg Q3m cat
 simp only[Q0x,Q0q,Q1k]at cl
 refine⟨⟨by omega,by omega,big (by simp only[Q1k,Q4t];omega)⟩,big (by simp only[Q0q];omega),?_⟩
 have x0:Ex [] S (S++[SO.lst (ns.map PV.int)]++[SO.lst [PV.int 0]]++[SO.lst []]++[SO.lst ((if ns.isEmpty=true then[0]else[]:List Int).map PV.int)]):=(((Ex.new _ _ _).app _).app _).app _
 generalize S++[SO.lst (ns.map PV.int)]++[SO.lst [PV.int 0]]++[SO.lst []]++[SO.lst ((if ns.isEmpty=true then[0]else[]:List Int).map PV.int)]=S3 at x0 ⊢
 refine hK _ _ ?_
 clear hK K e0 e1 e2 e1' e2' e3 e4 lz z01 cat cl
 have g:=q0f S3 (.lst ((x::xs).map PV.int))
 have x1:Ex [] S (S3++[SO.lst ((x::xs).map PV.int)]):=x0.app _
 have lS3:=x0.1
 generalize S3++[SO.lst ((x::xs).map PV.int)]=S4 at g x1 ⊢
 generalize S3.length=c at g lS3 ⊢
 simp only[Q0v]at g
 refine seqI fun K hK=>?_
 dsimp![true_and]
 refine⟨Q1f _,hK _ _ ?_⟩
 clear hK K
 have g1:=q0i g [SO.lst []]
 have g2:=q0f S4 (.lst [])
 have x2:Ex [S4.length] S (S4++[SO.lst []]):=x1.nil.app _
 have ne:c≠S4.length:=by have:=q0d g;omega
 have l4:=x1.1
 generalize S4++[SO.lst []]=S5 at g1 g2 x2 ⊢
 generalize S4.length=r at g2 x2 ne l4 ⊢
 have last:∀(fs:List Int)(S6:q0b)(σ:Ev.Loc)(D:PEnds),S6[r]?=some (.lst (fs.map PV.int))->(∀n∈fs,0<=n)->fs.length<=1000->Ex [r] S S6->σ[2]?=some (some (.ref r))->D.rt=Q->wRet (q9c (wVar 2)) D E σ S6:=by
  intro fs S6 σ D a1 a2 a3 a4 a5 a6
  simp only[wRet,q9c,wVar,a5,q0m a1,a6]
  exact h S6.length _ ⟨fs.reverse,by rw[q0f];simp,fun n hn=>a2 n (by simpa using hn),by simpa using a3⟩ ((a4.app _).weak' l4) a4.1
 refine seqI fun K hK=>?_
 have em:∀i:Int,0<=i % 1000000000000:=fun i=>Q3h _ (by decide)
 dsimp![g1,q4t]
 refine⟨by decide,ite2 (fun z=>?_) (fun z=>?_)⟩
 ·refine seqI fun K2 hK2=>?_
  have ec:cutP (PV.int x::xs.map PV.int) (some 1) none=xs.map PV.int:=z2l (PV.int x::xs.map PV.int) 1 (by simp)
  have k1:=q0i g1 [SO.lst [PV.int (x / 2)]]
  dsimp![q0c k1,g1,q4t,ec]
  have k2:=q0f S5 (.lst [PV.int (x / 2)])
  have k3:=q0i k2 [SO.lst (xs.map PV.int)]
  have k4:=q0f (S5++[SO.lst [PV.int (x / 2)]]) (.lst (xs.map PV.int))
  dsimp![q0m k3,q0m k4]
  have x3:Ex [r] S (S5++[SO.lst [PV.int (x / 2)]]++[SO.lst (xs.map PV.int)]):=(x2.app _).app _
  have g3:=q0i (q0i g2 [SO.lst [PV.int (x / 2)]]) [SO.lst (xs.map PV.int)]
  generalize S5++[SO.lst [PV.int (x / 2)]]++[SO.lst (xs.map PV.int)]=S6 at x3 g3 ⊢
  refine⟨⟨by decide,by decide⟩,big (by decide),big (by simp;omega),?_⟩
  have nr:S6.length≠r:=by have:=q0d g3;omega
  obtain⟨ys,hys,yl⟩:∃ys:List Int,PV.int (x / 2)::xs.map PV.int=ys.map PV.int/\ys.length<=64:=⟨(x / 2)::xs,rfl,by simp;omega⟩
  rw[hys]
  have k5:=q0f S6 (.lst (ys.map PV.int))
  have g4:=q0i g3 [SO.lst (ys.map PV.int)]
  have x4:Ex [r] S (S6++[SO.lst (ys.map PV.int)]):=x3.app _
  generalize S6++[SO.lst (ys.map PV.int)]=S7 at k5 g4 x4 ⊢
  generalize S6.length=r2 at k5 nr ⊢
  dsimp![q0c k5]
  refine forM PV.int ys (fun a σ S8=>∃(fs:List Int)(j3 j4:Option PV),σ=[some (.frl (ns.map PV.int)),some (.ref c),some (.ref r),j3,j4,none]/\S8[r]?=some (.lst (fs.map PV.int))/\(∀n∈fs,0<=n)/\fs.length=8*a.length/\S8[r2]?=some (.lst (ys.map PV.int))/\Ex [r] S S8) ?_ ?_ _ _ ⟨[],none,none,rfl,g4,by simp,rfl,k5,x4⟩
  ·rintro σ S8 ⟨fs,j3,j4,rfl,a1,a2,a3,a4,a5⟩
   exact⟨q0c a4,hK2 _ _ (last fs S8 _ _ a1 a2 (by omega) a5 rfl rfl)⟩
  ·rintro a y b hab σ S8 ⟨fs,j3,j4,rfl,a1,a2,a3,a4,a5⟩ N hN
   have al:=congrArg Q3m hab
   simp only[Q1k,Q0x]at al
   refine⟨q0c a4,?_⟩
   dsimp![true_and]
   refine⟨⟨by decide,by decide⟩,?_⟩
   refine forR 8 (fun i σ S9=>∃(gs:List Int)(y:Int)(j4:Option PV),σ=[some (.frl (ns.map PV.int)),some (.ref c),some (.ref r),some (.int y),j4,none]/\S9[r]?=some (.lst (gs.map PV.int))/\(∀n∈gs,0<=n)/\gs.length=8*a.length+i/\S9[r2]?=some (.lst (ys.map PV.int))/\Ex [r] S S9) ?_ ?_ _ _ ⟨fs,y,j4,rfl,a1,a2,a3,a4,a5⟩
   ·rintro σ S9 ⟨gs,y,j4,rfl,b1,b2,b3,b4,b5⟩
    exact⟨trivial,hN _ _ ⟨gs,_,_,rfl,b1,b2,by simp;omega,b4,b5⟩⟩
   ·rintro i hi σ S9 ⟨gs,y,j4,rfl,b1,b2,b3,b4,b5⟩ N2 hN2
    refine⟨trivial,?_⟩
    dsimp![true_and]
    refine seqI fun K3 hK3=>?_
    dsimp![b1,q0m b1,p12]
    refine⟨⟨by decide,by decide,by decide⟩,by decide,bigl (by simp;omega),hK3 _ _ ?_⟩
    dsimp![p12]
    refine⟨⟨by decide,by decide,by decide⟩,⟨by decide,by decide⟩,hN2 _ _ ⟨gs++[y % 1000000000000],_,_,rfl,?_,?_,by simp;omega,q1h _ b4 (Q4a nr),b5.set (.inl (by simp))⟩⟩
    ·rw[q2k _ b1];simp
    ·intro n hn
     rcases Q0n.mp hn with q|q
     ·exact b2 n q
     ·rw[Q0i]at q;subst q;exact em y
 ·refine hK _ _ ?_
  clear hK K
  refine seqI fun K hK=>?_
  dsimp![g1,q4t]
  refine⟨⟨by decide,by decide⟩,by decide,hK _ _ ?_⟩
  clear hK K
  refine seqI fun K hK=>?_
  dsimp![true_and]
  refine⟨⟨by decide,by decide⟩,?_⟩
  obtain⟨cs,hcs,cp,cl⟩:∃cs:List Int,PV.int x::xs.map PV.int=cs.map PV.int/\cs≠[]/\cs.length<=64:=⟨x::xs,rfl,by simp,by simp;omega⟩
  rw[hcs]at g1
  refine forR 504 (fun i σ S8=>∃(fs:List Int)(u:Int)(j3 j4:Option PV),σ=[some (.frl (ns.map PV.int)),some (.ref c),some (.ref r),j3,j4,some (.int u)]/\0<=u/\u<2147483629/\S8[r]?=some (.lst (fs.map PV.int))/\(∀n∈fs,0<=n)/\fs.length=i/\S8[c]?=some (.lst (cs.map PV.int))/\Ex [r] S S8) ?_ ?_ _ _ ⟨[],_,none,none,rfl,Q3h _ (by decide),Q3r _ (by decide),g2,by simp,rfl,g1,x2⟩
  ·rintro σ S8 ⟨fs,u,j3,j4,rfl,u0,u1,a1,a2,a3,a4,a5⟩
   exact⟨trivial,hK _ _ (last fs S8 _ _ a1 a2 (by omega) a5 rfl rfl)⟩
  ·rintro i hi σ S8 ⟨fs,u,j3,j4,rfl,u0,u1,a1,a2,a3,a4,a5⟩ N hN
   refine⟨trivial,?_⟩
   dsimp![true_and]
   obtain⟨y,hy⟩:=y9o (xs:=cs) (i:=(i:Nat)) cp
   refine seqI fun K2 hK2=>?_
   have hp:(0:Int)<(cs.length:Int):=by have:=Q6i.mpr cp;omega
   dsimp![a4,q0c a4,Q0q,hy]
   refine⟨hp,by decide,hK2 _ _ ?_⟩
   clear hK2 K2
   have y0:=Q3h y (show(2147483647:Int)≠0 by decide)
   refine seqI fun K2 hK2=>?_
   dsimp![true_and]
   have big64:u<2 ^ 64:=by omega
   refine⟨y5f (by omega) (by omega),y5g (by decide) (by decide),by decide,hK2 _ _ ?_⟩
   clear hK2 K2
   have v0:0<=(u*u+69621*(y % 2147483647)+(i:Int)) % 2147483629:=Q3h _ (by decide)
   have v1:(u*u+69621*(y % 2147483647)+(i:Int)) % 2147483629<2147483629:=Q3r _ (by decide)
   generalize (u*u+69621*(y % 2147483647)+(i:Int)) % 2147483629=v at v0 v1 ⊢
   dsimp![a1,q0m a1]
   have w0:0<=v*(v+48271) % 2147483587:=Q3h _ (by decide)
   refine⟨y5f (by omega) (by omega),by decide,⟨by decide,by decide⟩,bigl (by simp;omega),hN _ _ ⟨fs++[v*(v+48271) % 2147483587 / 4],v,_,_,rfl,v0,v1,?_,?_,by simp;omega,q1h _ a4 (Q4a ne),a5.set (.inl (by simp))⟩⟩
   ·rw[q2k _ a1];simp
   ·intro n hn
    rcases Q0n.mp hn with q|q
    ·exact a2 n q
    ·rw[Q0i]at q;subst q
     generalize v*(v+48271) % 2147483587=w at w0 ⊢
     omega
theorem y6a:∀(k:Nat),1<=k->∀{n m:Int},spl n k=spl m k->0<n-m->n-m<=25->False
 |k+1,_,n,m,h,h1,h2=>by
  have:97+(n % 26).toNat=97+(m % 26).toNat:=(Z2g h).1
  omega
theorem y3s{k:Nat}(hk:1<=k)(num:Int){ws:List Str}(hw:ws.length<=25)(h:∀t,t<ws.length+1->mk (spl (num+(t:Nat)) k)∈ws):False:=by
 have nd:((Q1q (ws.length+1)).map fun t=>mk (spl (num+(t:Nat)) k)).Nodup:=by
  refine Q5x.mpr (Q8s.imp_of_mem ?_ (List.pairwise_lt_range (n:=ws.length+1)))
  intro a b ha hb hab e
  rw[Q5e]at ha hb
  exact y6a k hk (z8z e).symm (by omega) (by omega)
 have:=q5q nd (F:=ws) fun x hx=>by
  obtain⟨j,hj,rfl⟩:=Q0p.mp hx
  rw[Q5e]at hj
  exact h j hj
 rw[Q0q,Q5w]at this
 omega
def FreD(sp:Den):Prop:=∀(k b:Nat)(num:Int)(ws:List Str)(S:q0b)(E:EK)(Q:VC),1<=k->k<=8->S[b]?=some (.lst (ws.map PV.str))->ws.length<=25->(∀n:Int,mk (spl n k)∉ws->Q (.str (mk (spl n k))) S)->sp [.int (k:Nat),.int num,.ref b] S E Q
theorem y6b:∀(k:Nat)(n:Int)(w:List Nat),w++spl n (k+1)=(w++[97+(n % 26).toNat])++spl (n / 26) k:=fun k n w=>by rw[spl];simp
theorem x3r:FreD (fnP 3 9 q1f):=by
 intro k b num ws S E Q hk h8 hb hl h
 refine⟨rfl,?_⟩
 unfold q1f
 refine seqI fun K hK=>?_
 dsimp![true_and]
 refine hK _ _ ?_
 clear hK K
 refine seqI fun K hK=>?_
 dsimp![true_and]
 refine hK _ _ ?_
 clear hK K
 refine seqI fun K hK=>?_
 dsimp![q0c hb,Q0q]
 refine⟨⟨by omega,by omega⟩,?_⟩
 rw[show((ws.length:Int)+1).toNat=ws.length+1 by omega]
 refine forR (ws.length+1) (fun i σ S1=>S1=S/\∃(w:Str)(j5 j6 j7 j8:Option PV),σ=[some (.int (k:Nat)),some (.int num),some (.ref b),some (.str "abcdefghijklmnopqrstuvwxyz"),some (.str w),j5,j6,j7,j8]/\(w=mk []/\(∀t,t<i->mk (spl (num+(t:Nat)) k)∈ws)\/∃n:Int,w=mk (spl n k)/\w∉ws)) ?_ ?_ _ _ ⟨rfl,_,none,none,none,none,rfl,.inl ⟨q8t,fun t ht=>by omega⟩⟩
 ·rintro σ S1 ⟨rfl,w,j5,j6,j7,j8,rfl,hw⟩
  refine⟨trivial,hK _ _ ?_⟩
  dsimp![true_and]
  rcases hw with⟨rfl,hw⟩|⟨n,rfl,h2⟩
  ·exact(y3s hk num hl hw).elim
  ·exact h n h2
 ·rintro i hi σ S1 ⟨rfl,w,j5,j6,j7,j8,rfl,hw⟩ N hN
  refine⟨trivial,?_⟩
  dsimp![true_and]
  refine seqI fun K2 hK2=>?_
  dsimp![true_and]
  refine hK2 _ _ ?_
  clear hK2 K2
  refine seqI fun K2 hK2=>?_
  dsimp![true_and]
  refine hK2 _ _ ?_
  clear hK2 K2
  refine seqI fun K2 hK2=>?_
  dsimp![true_and]
  refine⟨⟨by omega,by omega⟩,?_⟩
  rw[Q2i]
  refine forR k (fun i2 σ S2=>S2=S1/\∃(v:List Nat)(n2:Int)(j8:Option PV),σ=[some (.int (k:Nat)),some (.int num),some (.ref b),some (.str "abcdefghijklmnopqrstuvwxyz"),some (.str w),some (.int (i:Nat)),some (.int n2),some (.str (mk v)),j8]/\v++spl n2 (k-i2)=spl (num+(i:Nat)) k) ?_ ?_ _ _ ⟨rfl,[],num+(i:Nat),j8,by rw[q8t],rfl⟩
  ·rintro σ S2 ⟨rfl,v,n2,j8',rfl,hv⟩
   rw[Z5p,spl,Q2x]at hv
   subst hv
   refine⟨trivial,hK2 _ _ ?_⟩
   dsimp![q8t,q0c hb,y5i]
   rcases hw with⟨rfl,hw⟩|⟨n,rfl,h2⟩
   ·rw[if_pos rfl]
    refine⟨q4y ws,ite2 (fun z=>hN _ _ ⟨rfl,_,_,_,_,_,rfl,.inr ⟨_,rfl,z⟩⟩) (fun z=>hN _ _ ⟨rfl,_,_,_,_,_,rfl,.inl ⟨rfl,fun t ht=>?_⟩⟩)⟩
    rcases Nat.lt_succ_iff_lt_or_eq.mp ht with y|rfl
    ·exact hw t y
    ·exact Q8k.mp z
   ·have ne:¬mk (spl n k)=mk []:=fun e=>by have:=congrArg Q3m (z8z e);rw[q4a]at this;simp at this;omega
    rw[if_neg ne]
    exact hN _ _ ⟨rfl,_,_,_,_,_,rfl,.inr ⟨n,rfl,h2⟩⟩
  ·rintro i2 hi2 σ S2 ⟨rfl,v,n2,j8',rfl,hv⟩ N2 hN2
   refine⟨trivial,?_⟩
   have m0:0<=n2 % 26:=Q3h _ (by decide)
   have m1:n2 % 26<26:=Q3r _ (by decide)
   have vl:=congrArg Q3m hv
   rw[Q0x,q4a,q4a]at vl
   obtain⟨q,hq⟩:∃q,k-i2=q+1:=⟨k-i2-1,by omega⟩
   rw[hq,y6b]at hv
   dsimp![true_and]
   refine seqI fun K3 hK3=>?_
   dsimp![q7h m0 m1]
   refine⟨by decide,q6j,?_⟩
   rw[y0s,z9a,q3z,q3z]
   refine⟨big (by simp;omega),hK3 _ _ ?_⟩
   dsimp![true_and]
   exact⟨⟨by decide,by decide⟩,hN2 _ _ ⟨rfl,_,n2 / 26,_,rfl,by rw[show k-(i2+1)=q by omega];exact hv⟩⟩
def NmsD(sp:Den):Prop:=∀(d b m:Nat)(bars:List Str)(S:q0b)(E:EK)(Q:VC),DkN d S->S[b]?=some (.lst (bars.map PV.str))->bars.length<=1->m<=20->b≠d->
 (∀(r:Nat)(ws:List Str) S',ws.length=m->ws.Nodup->(∀w∈ws,q2h w=true/\w∉bars)->S.length<=r->S'[r]?=some (.lst (ws.map PV.str))->DkN d S'->Ex [d] S S'->Q (.ref r) S')->sp [.ref d,.int (m:Nat),.ref b] S E Q
def vary(u:List Nat)(at' sp k:Nat):List Nat:=u.take at'++[97+(sp+k) % 26]++u.drop (at'+1)
theorem y1i{u:List Nat}{at' sp i j:Nat}(h:vary u at' sp i=vary u at' sp j)(hi:i<=25)(hj:j<=25):i=j:=by
 unfold vary at h
 have:=List.append_cancel_right h
 have:=List.append_cancel_left this
 simp at this
 omega
theorem z6i{u:List Nat}{at' sp:Nat}(h:q2h (mk u)=true)(ha:at'<u.length)(k:Nat):q2h (mk (vary u at' sp k))=true:=by
 obtain⟨h1,h2,h3⟩:=q9t h
 rw[q3z]at h1 h2
 rw[q2i]at h3
 have ll:(vary u at' sp k).length=u.length:=by unfold vary;simp;omega
 refine z3n (by omega) (by omega) ?_
 unfold vary
 rw[Z4d,Z4d,y4c _ h3,y4d _ h3]
 simp only[Z0y,List.all_nil,Z1a,Z0w]
 exact z9w _ (Nat.mod_lt _ (by decide))
theorem z6u:∀(k:Nat)(n:Int),∀c∈spl n k,∃m,m<26/\c=97+m
 |0,_,c,h=>by cases h
 |k+1,n,c,h=>by
  rw[spl]at h
  rcases Q1b.mp h with rfl|z
  ·exact⟨(n % 26).toNat,by omega,rfl⟩
  ·exact z6u k _ c z
theorem z3a{k:Nat}(h1:1<=k)(h8:k<=8)(n:Int):q2h (mk (spl n k))=true:=z3n (by rw[q4a];exact h1) (by rw[q4a];exact h8) (z6v _ _)
theorem z0u(xs:List PV)(k:Nat):cutP xs none (some (k:Int))=xs.take k:=by
 unfold cutP
 rw[HT.sIx_none,HT.sIx_nat,Q6v,Q6u,<-Q9o (l:=xs),List.take_take]
 simp
theorem flt2{α:Type}(p:α->Bool):∀l:List α,l.length=(l.filter p).length+(l.filter fun x=>!p x).length
 |[]=>rfl
 |a::l=>by
  have:=flt2 p l
  cases h:p a<;>simp[List.filter_cons,h]<;>omega
theorem y3t{ws:List Str}(nd:ws.Nodup){bars:List Str}(hb:bars.length<=1):ws.length<=(ws.filter fun w=>!decide (w∈bars)).length+1:=by
 have h1:(ws.filter fun w=>decide (w∈bars)).length<=1:=Q1l (q5q (nd.filter _) fun x hx=>by simpa using(Q4i.mp hx).2) hb
 have h2:=flt2 (fun w=>decide (w∈bars)) ws
 omega
theorem x2q{sd sf:Den}(hd:q9a sd)(hf:FreD sf):NmsD (fnP 3 10 (q2d sd sf)):=by
 intro d b m bars S E Q dk hb hbl hm nbd h
 have lb:=q0d hb
 refine⟨rfl,?_⟩
 unfold q2d
 refine seqI fun K hK=>?_
 dsimp![true_and]
 refine hK _ _ ?_
 clear hK K
 refine seqI fun K hK=>?_
 dsimp![true_and]
 refine⟨Q1f _,hK _ _ ?_⟩
 clear hK K
 have g0:=q0f S (.lst [])
 have b0:=q0i hb [SO.lst []]
 have d0:=dk.ex (Ex.new [] S [SO.lst []]) (by simp)
 have x0:Ex [d,S.length] S (S++[SO.lst []]):=Ex.new _ S _
 have ld:=dk.lt
 generalize S++[SO.lst []]=S0 at g0 b0 d0 x0 ⊢
 refine seqI fun K hK=>?_
 dsimp![true_and]
 refine hd d 3 _ _ _ (by decide) d0 fun r S1 hr d1 x1=>?_
 have g1:=x1.get g0 (by simp;omega)
 have b1:=x1.get b0 (by simp;exact nbd)
 have x01:=x0.trans (x1.weak (by simp))
 dsimp![true_and]
 refine ite2 (fun z=>?_) (fun z=>hK _ _ ?_)
 ·refine seqI fun K2 hK2=>?_
  dsimp![true_and]
  refine⟨⟨by omega,by omega⟩,?_⟩
  rw[Q2i]
  refine forR m (fun i σ S2=>∃(ws:List Str)(j5:Option PV),σ=[some (.ref d),some (.int (m:Nat)),some (.ref b),some (.str "abcdefghijklmnopqrstuvwxyz"),some (.ref S.length),j5,none,none,none,none]/\ws.length=i/\ws.Nodup/\(∀w∈ws,q2h w=true/\w∉bars)/\S2[S.length]?=some (.lst (ws.map PV.str))/\S2[b]?=some (.lst (bars.map PV.str))/\DkN d S2/\Ex [d,S.length] S S2) ?_ ?_ _ _ ⟨[],none,rfl,rfl,Z0j,by simp,g1,b1,d1,x01⟩
  ·rintro σ S2 ⟨ws,j5,rfl,a1,a2,a3,a4,a5,a6,a7⟩
   refine⟨trivial,hK2 _ _ ?_⟩
   dsimp![true_and]
   refine h S.length ws S2 a1 a2 a3 (Q0k _) a4 a6 ⟨a7.1,fun i hi hn=>a7.2 i hi fun y=>?_⟩
   simp only[Q1b,Q2r,or_false]at y hn
   omega
  ·rintro i hi σ S2 ⟨ws,j5,rfl,a1,a2,a3,a4,a5,a6,a7⟩ N hN
   refine⟨trivial,?_⟩
   dsimp![a4,p12]
   refine hd d 8 _ _ _ (by decide) a6 fun r1 S3 hr1 d3 x3=>?_
   dsimp![true_and]
   refine⟨⟨by decide,by decide,by decide⟩,hd d 1000000000000 _ _ _ (by decide) d3 fun r2 S4 hr2 d4 x4=>?_⟩
   have x24:=x3.trans x4
   have k4:=x24.get a4 (by simp;omega)
   have k5:=x24.get a5 (by simp;exact nbd)
   dsimp![q0m k4,q0m k5]
   refine⟨big (by simp;omega),?_⟩
   have k6:=q0f S4 (.lst (ws.map PV.str++bars.map PV.str))
   rw[<-Q1w]at k6 ⊢
   have k4':=q0i k4 [SO.lst ((ws++bars).map PV.str)]
   rw[show(1:Int)+(r1:Int)=((1+r1:Nat):Int) by omega]
   refine hf (1+r1) S4.length _ (ws++bars) _ _ _ (by omega) (by omega) k6 (by simp;omega) fun n hn=>?_
   simp only[Q0n,not_or]at hn
   dsimp![k4',q0m k4']
   have x25:Ex [d,S.length] S2 (S4++[SO.lst ((ws++bars).map PV.str)]):=(x24.weak (by simp)).app _
   refine⟨bigl (by simp;omega),hN _ _ ⟨ws++[mk (spl n (1+r1))],_,rfl,by simp;omega,?_,?_,?_,q1h _ (q0i k5 _) (by omega),(d4.ex (Ex.new [] S4 _) (by simp)).ex ((Ex.refl [S.length] _).set (.inl (by simp))) (by simp;omega),(a7.trans x25).set (.inl (by simp))⟩⟩
   ·rw[Q2t]
    exact⟨a2,by simp,fun x hx y hy e=>by rw[Q0i]at hy;subst hy;subst e;exact hn.1 hx⟩
   ·intro w hw
    rcases Q0n.mp hw with q|q
    ·exact a3 w q
    ·rw[Q0i]at q;subst q;exact⟨z3a (by omega) (by omega) n,hn.2⟩
   ·rw[q2k _ k4'];simp
 ·clear hK
  refine seqI fun K hK=>?_
  dsimp![p12]
  refine hd d 8 _ _ _ (by decide) d1 fun r1 S3 hr1 d3 x3=>?_
  dsimp![true_and]
  refine⟨⟨by decide,by decide,by decide⟩,hd d 1000000000000 _ _ _ (by decide) d3 fun r2 S4 hr2 d4 x4=>⟨Q1f _,?_⟩⟩
  have x24:=x3.trans x4
  have k5:=q0i (x24.get b1 (by simp;exact nbd)) [SO.lst []]
  have d5:=d4.ex (Ex.new [] S4 [SO.lst []]) (by simp)
  have x05:Ex [d,S.length] S (S4++[SO.lst []]):=(x01.trans (x24.weak (by simp))).app _
  have k6:=q0f S4 (.lst [])
  generalize S4++[SO.lst []]=S5 at k5 d5 x05 k6 ⊢
  rw[show(1:Int)+(r1:Int)=((1+r1:Nat):Int) by omega]
  refine hf (1+r1) S4.length _ [] _ _ _ (by omega) (by omega) k6 (by simp) fun n _=>hK _ _ ?_
  clear hK
  have ul:(spl n (1+r1)).length=1+r1:=q4a _ _
  have un:=z3a (show 1<=1+r1 by omega) (by omega) n
  have ulow:=z6u (1+r1) n
  generalize spl n (1+r1)=u at ul un ulow ⊢
  refine seqI fun K hK=>?_
  dsimp![q3z]
  refine⟨big (by omega),hd d u.length _ _ _ (by omega) d5 fun at' S6 hat d6 x6=>hK _ _ ?_⟩
  clear hK
  have k7:=x6.get k5 (by simp;exact nbd)
  have x06:=x05.trans (x6.weak (by simp))
  obtain⟨c,hc,ec⟩:=ulow u[at'] (Q3a hat)
  have ea:atI u (at':Int)=some (97+c):=by rw[q1l u at' hat,ec]
  refine seqI fun K hK=>?_
  dsimp![q3z,q2i,ea,y0s,show mk [97+c]=wd [c]from rfl,q9x c hc]
  refine⟨big (by omega),by omega,hK _ _ ?_⟩
  clear hK
  refine seqI fun K hK=>?_
  dsimp![true_and]
  refine⟨⟨by omega,by omega⟩,?_⟩
  rw[show((m:Int)+1).toNat=m+1 by omega]
  refine⟨by rw[z1o];exact big (by omega),?_⟩
  refine y9k (m+1) (fun i ys σ S7=>S7=S6/\(∃j0:Option PV,σ=[j0,some (.str (mk u)),some (.str "abcdefghijklmnopqrstuvwxyz"),some (.int (at':Nat)),some (.int (c:Nat))])/\ys=((Q1q i).map fun k=>mk (vary u at' c k)).map PV.str) ?_ ?_ _ _ ⟨rfl,⟨none,rfl⟩,rfl⟩
  ·rintro ys σ S7 ⟨rfl,⟨j0,rfl⟩,rfl⟩
   refine⟨trivial,hK _ _ ?_⟩
   clear hK
   have nd:((Q1q (m+1)).map fun k=>mk (vary u at' c k)).Nodup:=by
    refine Q5x.mpr (Q8s.imp_of_mem ?_ (List.nodup_range (n:=m+1)))
    intro p q hp hq hpq e
    rw[Q5e]at hp hq
    exact hpq (y1i (z8z e) (by omega) (by omega))
   have nm:∀w∈(Q1q (m+1)).map fun k=>mk (vary u at' c k),q2h w=true:=fun w hw=>by
    obtain⟨k,_,rfl⟩:=Q0p.mp hw
    exact z6i un hat k
   have vl:((Q1q (m+1)).map fun k=>mk (vary u at' c k)).length=m+1:=by simp
   generalize (Q1q (m+1)).map (fun k=>mk (vary u at' c k))=vs at nd nm vl ⊢
   have v1:=q0f S7 (.lst (vs.map PV.str))
   have v2:=q0i k7 [SO.lst (vs.map PV.str)]
   have d7:=d6.ex (Ex.new [] S7 [SO.lst (vs.map PV.str)]) (by simp)
   have x07:Ex [d,S.length] S (S7++[SO.lst (vs.map PV.str)]):=x06.app _
   have l7:S.length<=S7.length:=x06.1
   generalize S7++[SO.lst (vs.map PV.str)]=S8 at v1 v2 d7 x07 ⊢
   generalize S7.length=n7 at v1 l7 ⊢
   dsimp![q0c v1]
   refine⟨big (by simp;omega),?_⟩
   refine q6u PV.str vs (fun a ys σ S9=>S9=S8/\(∃j0:Option PV,σ=[j0,some (.ref b)])/\ys=(a.filter fun w=>!decide (w∈bars)).map PV.str) ?_ ?_ _ _ ⟨rfl,⟨none,rfl⟩,rfl⟩
   ·rintro ys σ S9 ⟨rfl,⟨j0,rfl⟩,rfl⟩
    refine⟨q0c v1,?_⟩
    have fl:=y3t nd hbl
    have v3:=q0f S9 (.lst ((vs.filter fun w=>!decide (w∈bars)).map PV.str))
    dsimp![q0c v3,z0u,<-List.map_take]
    have l9:=x07.1
    refine h _ ((vs.filter fun w=>!decide (w∈bars)).take m) _ ?_ ((nd.filter _).sublist (Z2u _ _)) (fun w hw=>?_) ?_ (q0f _ _) ((d7.ex (Ex.new [] S9 _) (by simp)).ex (Ex.new [] _ _) (by simp)) ?_
    ·rw[Q2q];omega
    ·have:=Q4i.mp (Q6f hw)
     exact⟨nm w this.1,by simpa using this.2⟩
    ·simp;omega
    ·refine⟨(x07.app _).app _ |>.1,fun i hi hn=>((x07.app _).app _).2 i hi fun y=>?_⟩
     simp only[Q1b,Q2r,or_false]at y hn
     omega
   ·rintro a w bb e ys σ S9 ⟨rfl,⟨j0,rfl⟩,rfl⟩ N hN
    refine⟨q0c v1,?_⟩
    dsimp![q0c v2,y5i]
    refine⟨q4y bars,ite2 (fun q=>hN _ _ _ ⟨rfl,⟨_,rfl⟩,?_⟩) (fun q=>hN _ _ _ ⟨rfl,⟨_,rfl⟩,?_⟩)⟩
    ·rw[Q5r,Q1w];congr 1;simp[q]
    ·rw[Q5r,Q1w];simp[Q8k.mp q]
  ·rintro i hi ys σ S7 ⟨rfl,⟨j0,rfl⟩,rfl⟩ N hN
   refine⟨trivial,?_⟩
   have m0:0<=((c:Int)+(i:Int)) % 26:=Q3h _ (by decide)
   have m1:((c:Int)+(i:Int)) % 26<26:=Q3r _ (by decide)
   dsimp![q3z,q7h m0 m1,y6e (mk u) at' (by rw[q3z];omega),q2i,y0s,z9a]
   have sd':Q7v (mk u) (some ((at':Int)+1)) none=mk (u.drop (at'+1)):=y6h (mk u) (at'+1) (by rw[q3z];omega)
   rw[sd',z9a,q3z]
   have ul':=un
   refine⟨big (by omega),by decide,q6j,big (by rw[Q2q];omega),big (by omega),big (by simp;omega),hN _ _ _ ⟨rfl,⟨_,rfl⟩,?_⟩⟩
   rw[List.range_succ,Q1w,Q1w]
   simp only[Q0v,Q6b,vary]
   rw[show(((c:Int)+(i:Int)) % 26).toNat=(c+i) % 26 by omega]
def bsP(s:Str):PV:=(Fm.b s).pv
def FmlD(sp:Den)(m:Nat):Prop:=∀(d b:Nat)(bs:List Str)(S:q0b)(E:EK)(Q:VC),DkN d S->S[b]?=some (.lst (bs.map bsP))->bs≠[]->b≠d->
 (∀(f:Fm) S',f.lv=max m 1->f.ov bs->DkN d S'->Ex [d] S S'->Q f.pv S')->sp [.ref d,.ref b,.int (m:Nat)] S E Q
theorem y0c{T U:Nat->Den}(hT:∀n,T (n+1)=fnP 3 6 (q2r (U n) (T n)))(hU:∀n,q9a (U (n+1))):∀(n m:Nat),m+1<n->FmlD (T n) m
 |0,m,hn=>by omega
 |1,m,hn=>by omega
 |n+2,m,hn=>by
  intro d b bs S E Q dk hb hw ne h
  rw[hT]
  refine⟨rfl,?_⟩
  unfold q2r
  have hp:=Q6i.mpr hw
  refine seqI fun K hK=>?_
  dsimp![hb,q0c hb,Q0q]
  refine ite2 (fun z=>?_) (fun z=>hK _ _ ?_)
  ·refine hU n d bs.length _ _ _ hp dk fun r S1 hr d1 x1=>?_
   have b1:=x1.get hb (by simp;exact ne)
   have ea:atI (bs.map bsP) (r:Int)=some (bsP bs[r]):=by rw[q1l _ r (by simpa using hr)];simp
   dsimp![b1,ea]
   exact h (.b bs[r]) S1 (by simp only[Fm.lv];omega) (Q3a hr) d1 x1
  ·clear hK
   refine seqI fun K hK=>?_
   dsimp![true_and]
   rw[show(m:Int)-1=((m-1:Nat):Int) by omega]
   refine hU n d (m-1) _ _ _ (by omega) dk fun r S1 hr d1 x1=>hK _ _ ?_
   clear hK
   rw[show(1:Int)+(r:Int)=((1+r:Nat):Int) by omega]
   refine seqI fun K hK=>?_
   dsimp![true_and]
   refine⟨big (by decide),?_⟩
   have b1:=q0i (x1.get hb (by simp;exact ne)) [SO.lst [PV.str "/",PV.str "\\"]]
   have d1':=d1.ex (Ex.new [] S1 [SO.lst [PV.str "/",PV.str "\\"]]) (by simp)
   have x1':Ex [d] S (S1++[SO.lst [PV.str "/",PV.str "\\"]]):=x1.app _
   have l1:=q0f S1 (SO.lst [PV.str "/",PV.str "\\"])
   have nd1:S1.length≠d:=by have:=d1.lt;omega
   generalize S1++[SO.lst [PV.str "/",PV.str "\\"]]=S1' at b1 d1' x1' l1 ⊢
   refine hU n d 2 _ _ _ (by decide) d1' fun r2 S2 hr2 d2 x2=>?_
   have l2:=x2.get l1 (by simp;exact nd1)
   have b2:=x2.get b1 (by simp;exact ne)
   have ea:atI [PV.str "/",PV.str "\\"] (r2:Int)=some (.str (sSl (decide (r2=1)))):=by
    rcases(show r2=0\/r2=1 by omega)with rfl|rfl<;>rfl
   dsimp![l2,ea]
   refine hK _ _ ?_
   clear hK
   refine seqI fun K hK=>?_
   dsimp![true_and]
   refine y0c hT hU (n+1) (1+r) (by omega) d b bs _ _ _ d2 b2 hw ne fun f1 S3 lv1 ov1 d3 x3=>hK _ _ ?_
   clear hK
   have b3:=x3.get b2 (by simp;exact ne)
   dsimp![true_and]
   rw[show(m:Int)-((1+r:Nat):Int)=((m-(1+r):Nat):Int) by omega]
   refine y0c hT hU (n+1) (m-(1+r)) (by omega) d b bs _ _ _ d3 b3 hw ne fun f2 S4 lv2 ov2 d4 x4=>⟨big (by decide),?_⟩
   exact h (.n (decide (r2=1)) f1 f2) S4 (by simp only[Fm.lv];omega) ⟨ov1,ov2⟩ d4 (((x1'.trans x2).trans x3).trans x4)
theorem z6e{T:Nat->Den}(hT:∀n,T (n+1)=fnP 1 1 (q1r (T n))):∀(n:Nat)(f:Fm),f.dp<=n->∀(S:q0b)(E:EK)(Q:VC),Q (.int (f.lv:Nat)) S->T n [f.pv] S E Q
 |0,f,hd,S,E,Q,h=>by have:=f.dp_pos;omega
 |n+1,.b s,hd,S,E,Q,h=>by
  rw[hT]
  refine⟨rfl,?_⟩
  unfold q1r
  dsimp![wSeq,fb0]
  exact h
 |n+1,.n l x y,hd,S,E,Q,h=>by
  simp only[Fm.dp]at hd
  rw[hT]
  refine⟨rfl,?_⟩
  unfold q1r
  dsimp![wSeq,fn0,fn1,fn2,q4j]
  refine z6e hT n x (by omega) _ _ _ ?_
  refine z6e hT n y (by omega) _ _ _ ?_
  dsimp![true_and]
  simp only[Fm.lv,Z4l]at h
  exact h
def SplD(sp:Den):Prop:=∀(f o:Fm)(w:Nat)(S:q0b)(E:EK)(Q:VC),f.lv<=6->o.lv<=3->w<4->
 (∀S',Ex [] S S'->Q .non S')->(∀(s:Sg)(x y:Fm) S',md x y=some (s.st,f)->x.lv<=6->y.lv<=6->(∀bs,f.ov bs->o.ov bs->x.ov bs/\y.ov bs)->Ex [] S S'->Q (.tup [.str s.st,x.pv,y.pv]) S')->sp [f.pv,o.pv,.int (w:Nat)] S E Q
theorem i3_0(x y z:PV)(S:q0b)(Q:VC):bIx (.tup [x,y,z]) (.int 0) S Q=Q x S:=rfl
theorem i3_1(x y z:PV)(S:q0b)(Q:VC):bIx (.tup [x,y,z]) (.int 1) S Q=Q y S:=rfl
theorem i3_2(x y z:PV)(S:q0b)(Q:VC):bIx (.tup [x,y,z]) (.int 2) S Q=Q z S:=rfl
theorem x0o{sw:Den}(hw:∀f:Fm,f.dp<=20->∀(S:q0b)(E:EK)(Q:VC),Q (.int (f.lv:Nat)) S->sw [f.pv] S E Q):SplD (fnP 3 4 (q2b sw)):=by
 intro f o w S E Q hf ho hw4 hn hs
 have p2:2<=Q0l:=big (by decide)
 have p3:3<=Q0l:=big (by decide)
 have fd:=f.dp_lv
 have od:=o.dp_lv
 refine⟨rfl,?_⟩
 unfold q2b
 have fin:∀(s:Sg)(x y:Fm)(S':q0b),md x y=some (s.st,f)->(∀bs,f.ov bs->o.ov bs->x.ov bs/\y.ov bs)->x.lv<=15->y.lv<=15->Ex [] S S'->(wSeq (wIfS (wOr (q0k (wBin cGt (q0h sw (q0a (wBin bIx (wVar 3) (wC (.int 1))) wNil)) (wC (.int 6)))) (q0k (wBin cGt (q0h sw (q0a (wBin bIx (wVar 3) (wC (.int 2))) wNil)) (wC (.int 6)))))
 (wRet (wC .non))
 q0z)
 (wRet (wVar 3))) {nx:=fun _ S'=>Q .non S',rt:=Q} E [some f.pv,some o.pv,some (.int (w:Nat)),some (.tup [.str s.st,x.pv,y.pv])] S':=by
  intro s x y S' hmd hov lx ly hx
  have dx:=x.dp_lv
  have dy:=y.dp_lv
  refine seqI fun K hK=>?_
  dsimp![i3_1,i3_2]
  refine hw x (by omega) _ _ _ ?_
  dsimp![true_and]
  refine ite2 (fun _=>hn S' hx) (fun z1=>?_)
  refine hw y (by omega) _ _ _ ?_
  dsimp![true_and]
  refine ite2 (fun _=>hn S' hx) (fun z2=>hK _ _ ?_)
  dsimp![true_and]
  exact hs s x y S' hmd (by omega) (by omega) hov hx
 refine seqI fun K hK=>?_
 dsimp![q0f,at2]
 refine⟨p3,p3,p3,p3,p2,by decide,hK _ _ ?_⟩
 clear hK K
 have xa:∀xs:List SO,Ex [] S (S++xs):=fun xs=>Ex.new [] S xs
 obtain⟨s,x,y,e,hmd,hov,lx,ly⟩:∃(s:Sg)(x y:Fm),(if(w:Int) % 2=0 then PV.tup [.str ">",.tup [.str "/",f.pv,o.pv],o.pv]else .tup [.str "<",o.pv,.tup [.str "\\",f.pv,o.pv]])=.tup [.str s.st,x.pv,y.pv]/\md x y=some (s.st,f)/\(∀bs,f.ov bs->o.ov bs->x.ov bs/\y.ov bs)/\x.lv<=15/\y.lv<=15:=by
  by_cases z:(w:Int) % 2=0
  ·exact⟨.a,.n false f o,o,by rw[if_pos z];rfl,md_a f o,fun bs a b=>⟨⟨a,b⟩,b⟩,by simp only[Fm.lv];omega,by omega⟩
  ·exact⟨.b,o,.n true f o,by rw[if_neg z];rfl,md_b f o,fun bs a b=>⟨b,⟨a,b⟩⟩,by omega,by simp only[Fm.lv];omega⟩
 rw[e]
 clear e
 refine seqI fun K hK=>?_
 dsimp![true_and]
 by_cases z:(1:Int)<(w:Int)
 ·rw[if_pos z]
  cases f with
  |b t=>
   dsimp![fb0,ba_f]
   refine hK _ _ ?_
   clear hK K
   refine seqI fun K hK=>?_
   dsimp![fb0,ba_b]
   rw[if_pos z]
   exact hK _ _ (fin s x y _ hmd hov lx ly (xa _))
  |n l u v=>
   have up:=u.lv_pos
   have vp:=v.lv_pos
   simp only[Fm.lv]at hf
   cases l with
   |false=>
    dsimp![fn0,y6f,fn1,fn2]
    refine⟨p3,p3,p3,hK _ _ ?_⟩
    clear hK K
    refine seqI fun K hK=>?_
    dsimp![fn0,y6g]
    rw[if_pos z]
    exact hK _ _ (fin .c (.n false u o) (.n false o v) _ (md_c u o v) (fun bs a b=>⟨⟨a.1,b⟩,⟨b,a.2⟩⟩) (by simp only[Fm.lv];omega) (by simp only[Fm.lv];omega) (xa _))
   |true=>
    dsimp![fn0,y6d]
    refine hK _ _ ?_
    clear hK K
    refine seqI fun K hK=>?_
    dsimp![fn0,y6c,fn1,fn2]
    rw[if_pos z]
    exact⟨p3,p3,p3,hK _ _ (fin .d (.n true o v) (.n true u o) _ (md_d u o v) (fun bs a b=>⟨⟨b,a.2⟩,⟨a.1,b⟩⟩) (by simp only[Fm.lv];omega) (by simp only[Fm.lv];omega) (xa _))⟩
 ·rw[if_neg z]
  refine hK _ _ ?_
  clear hK K
  refine seqI fun K hK=>?_
  dsimp![true_and]
  rw[if_neg z]
  exact hK _ _ (fin s x y _ hmd hov lx ly (xa _))
def Fit:Int->Int->List Fm->List Rd->Prop
 |a,b,[],ts=>ts=[]/\a=b
 |a,b,f::fs,ts=>∃t ts' k,ts=t::ts'/\t.is a k f/\Fit k b fs ts'
theorem y0f:∀{f1 f2:List Fm}{a b:Int}{ts:List Rd},Fit a b (f1++f2) ts->∃t1 t2 k,ts=t1++t2/\t1.length=f1.length/\Fit a k f1 t1/\Fit k b f2 t2
 |[],f2,a,b,ts,h=>⟨[],ts,a,rfl,rfl,⟨rfl,rfl⟩,h⟩
 |f::f1,f2,a,b,ts,⟨t,ts',k,e,h1,h2⟩=>by
  obtain⟨t1,t2,k',e',l',h3,h4⟩:=y0f h2
  exact⟨t::t1,t2,k',by rw[e,e'];rfl,by simp[l'],⟨t,t1,k,rfl,h1,h3⟩,h4⟩
theorem y1a:∀{f1 f2:List Fm}{a b k:Int}{t1 t2:List Rd},Fit a k f1 t1->Fit k b f2 t2->Fit a b (f1++f2) (t1++t2)
 |[],f2,a,b,k,t1,t2,⟨e1,e2⟩,h=>by subst e1 e2;exact h
 |f::f1,f2,a,b,k,t1,t2,⟨t,ts',k',e,h1,h2⟩,h=>by subst e;exact⟨t,ts'++t2,k',rfl,h1,y1a h2 h⟩
def Uns : List (Nat × Sg) -> List Rd -> Rd -> Prop
 | [], ts, r => ts = [r]
 | (p, s) :: q, ts, r => ∃ t1 u v t2, ts = t1 ++ u :: v :: t2 /\ t1.length = p /\ Uns q (t1 ++ .n s u v :: t2) r
def Grw(goal:Fm)(row:List Fm)(sp:List (Nat×Sg)):Prop:=∀ts a b,Fit a b row ts->∃r,Uns sp.reverse ts r/\r.is a b goal/\r.ws=ts.flatMap Rd.ws
theorem y9f(g:Fm):Grw g [g] []:=by
 rintro ts a b ⟨t,ts',k,e,h1,h2,h3⟩
 subst e h2 h3
 exact⟨t,rfl,h1,by simp⟩
theorem y3r{g f x y:Fm}{f1 f2:List Fm}{sp:List (Nat×Sg)}{s:Sg}(h:Grw g (f1++f::f2) sp)(hm:md x y=some (s.st,f)):Grw g (f1++x::y::f2) (sp++[(f1.length,s)]):=by
 intro ts a b ht
 obtain⟨t1,t2,k,rfl,l1,h1,u,ts',k2,e2,hu,v,ts2,k3,e3,hv,h3⟩:=y0f ht
 subst e2 e3
 obtain⟨r,hr,hi,hw⟩:=h (t1++.n s u v::ts2) a b (y1a h1 ⟨.n s u v,ts2,k3,rfl,⟨k2,x,y,hu,hv,hm⟩,h3⟩)
 refine⟨r,?_,hi,?_⟩
 ·rw[List.reverse_append]
  exact⟨t1,u,v,ts2,rfl,l1,hr⟩
 ·rw[hw];simp[Rd.ws]
def spP(p:Nat×Sg):PV:=.tup [.int (p.1:Nat),.str p.2.st]
def GwnD(sp:Den):Prop:=∀(d b m:Nat)(bs:List Str)(g:Fm)(S:q0b)(E:EK)(Q:VC),DkN d S->S[b]?=some (.lst (bs.map bsP))->bs≠[]->b≠d->g.lv<=2->g.ov bs->1<=m->m<=10->
 (∀(q r:Nat)(row:List Fm)(sl:List (Nat×Sg)) S',Grw g row sl->1<=row.length->row.length<=m->sl.length<=20->(∀f∈row,f.lv<=6/\f.ov bs)->S.length<=q->S.length<=r->S'[q]?=some (.lst (row.map Fm.pv))->S'[r]?=some (.lst (sl.map spP))->DkN d S'->Ex [d] S S'->Q (.tup [.ref q,.ref r]) S')->sp [.ref d,.ref b,g.pv,.int (m:Nat)] S E Q
theorem at5{i:Nat}(h:i<5):∃k:Nat,k<=3/\atI [PV.int 1,PV.int 1,PV.int 1,PV.int 2,PV.int 3] (i:Int)=some (.int (k:Nat)):=by
 rcases(show i=0\/i=1\/i=2\/i=3\/i=4 by omega)with rfl|rfl|rfl|rfl|rfl
 ·exact⟨1,by decide,rfl⟩
 ·exact⟨1,by decide,rfl⟩
 ·exact⟨1,by decide,rfl⟩
 ·exact⟨2,by decide,rfl⟩
 ·exact⟨3,by decide,rfl⟩
theorem x3l{sd sf ss:Den}(hd:q9a sd)(hf:∀m,m<=3->FmlD sf m)(hs:SplD ss):GwnD (fnP 4 10 (q2e sd sf ss)):=by
 intro d b m bs g S E Q dk hb hw ne hg hgo hm1 hm h
 have p1:1<=Q0l:=big (by decide)
 have p2:2<=Q0l:=big (by decide)
 have p5:5<=Q0l:=big (by decide)
 have lb:=q0d hb
 have ld:=dk.lt
 refine⟨rfl,?_⟩
 unfold q2e
 refine seqI fun K hK=>?_
 dsimp![true_and]
 refine⟨p1,hK _ _ ?_⟩
 clear hK K
 refine seqI fun K hK=>?_
 dsimp![true_and]
 refine⟨Q1f _,hK _ _ ?_⟩
 clear hK K
 have g0:=q0i (q0f S (.lst [g.pv])) [SO.lst []]
 have g1:=q0f (S++[SO.lst [g.pv]]) (.lst [])
 have b1:=q0i (q0i hb [SO.lst [g.pv]]) [SO.lst []]
 have x1:Ex [d,S.length,S.length+1] S (S++[SO.lst [g.pv]]++[SO.lst []]):=(Ex.new _ S _).app _
 have d1:DkN d (S++[SO.lst [g.pv]]++[SO.lst []]):=dk.ex ((Ex.new [] S _).app _) (by simp)
 have dl:(S++[SO.lst [g.pv]]).length=S.length+1:=by simp
 rw[dl]at g1 ⊢
 generalize S++[SO.lst [g.pv]]++[SO.lst []]=S1 at g0 g1 b1 x1 d1 ⊢
 refine seqI fun K hK=>?_
 dsimp![true_and]
 refine⟨y5g (by decide) (by decide),⟨by omega,by omega⟩,?_⟩
 rw[show(2*(m:Int)).toNat=2*m by omega]
 refine forR (2*m) (fun i σ S2=>∃(q:Nat)(row:List Fm)(sl:List (Nat×Sg))(j6 j7 j8 j9:Option PV),σ=[some (.ref d),some (.ref b),some g.pv,some (.int (m:Nat)),some (.ref q),some (.ref (S.length+1)),j6,j7,j8,j9]/\Grw g row sl/\1<=row.length/\row.length<=m/\sl.length<=i/\(∀f∈row,f.lv<=6/\f.ov bs)/\(S.length<=q/\q≠S.length+1)/\S2[q]?=some (.lst (row.map Fm.pv))/\S2[S.length+1]?=some (.lst (sl.map spP))/\S2[b]?=some (.lst (bs.map bsP))/\DkN d S2/\Ex [d,S.length+1] S S2) ?_ ?_ _ _ ⟨S.length,[g],[],none,none,none,none,rfl,y9f g,Q0k _,hm1,Q0k _,fun f hf=>by rw[Q0i]at hf;subst hf;exact⟨by omega,hgo⟩,⟨Q0k _,by omega⟩,g0,g1,b1,d1,⟨x1.1,fun i hi hn=>x1.2 i hi fun z=>hn (by simp only[Q1b,Q2r,or_false]at z ⊢;omega)⟩⟩
 ·rintro σ S2 ⟨q,row,sl,j6,j7,j8,j9,rfl,a1,a2,a3,a4,a5,a6,a7,a8,a9,a10,a11⟩
  refine⟨trivial,hK _ _ ?_⟩
  dsimp![true_and]
  refine⟨p2,h q (S.length+1) row sl S2 a1 a2 a3 (by omega) a5 a6.1 (by omega) a7 a8 a10 ⟨a11.1,fun i hi hn=>a11.2 i hi fun z=>?_⟩⟩
  simp only[Q1b,Q2r,or_false]at z hn
  omega
 ·rintro i hi σ S2 ⟨q,row,sl,j6,j7,j8,j9,rfl,a1,a2,a3,a4,a5,a6,a7,a8,a9,a10,a11⟩ N hN
  refine⟨trivial,?_⟩
  have lq:=q0d a7
  dsimp![q0c a7,Q0q]
  refine ite2 (fun z=>?_) (fun z=>hN _ _ ⟨q,row,sl,_,_,_,_,rfl,a1,a2,a3,by omega,a5,a6,a7,a8,a9,a10,a11⟩)
  refine seqI fun K2 hK2=>?_
  dsimp![q0c a7,Q0q]
  refine hd d row.length _ _ _ (by omega) a10 fun p S3 hp d3 x3=>hK2 _ _ ?_
  clear hK2
  have nq:q≠d:=by omega
  have ns:S.length+1≠d:=by omega
  refine seqI fun K2 hK2=>?_
  dsimp![true_and]
  refine⟨p5,?_⟩
  have x3':Ex [d] S2 (S3++[SO.lst [PV.int 1,PV.int 1,PV.int 1,PV.int 2,PV.int 3]]):=x3.app _
  have l3:=q0f S3 (SO.lst [PV.int 1,PV.int 1,PV.int 1,PV.int 2,PV.int 3])
  have n3:S3.length≠d:=by have:=d3.lt;omega
  have d3':=d3.ex (Ex.new [] S3 [SO.lst [PV.int 1,PV.int 1,PV.int 1,PV.int 2,PV.int 3]]) (by simp)
  generalize S3++[SO.lst [PV.int 1,PV.int 1,PV.int 1,PV.int 2,PV.int 3]]=S3' at x3' l3 d3' ⊢
  refine hd d 5 _ _ _ (by decide) d3' fun p5' S4 hp5 d4 x4=>?_
  have x24:=x3'.trans x4
  have l4:=x4.get l3 (by simp;exact n3)
  obtain⟨k,hk,ek⟩:=at5 hp5
  dsimp![l4,ek]
  have b4:=x24.get a9 (by simp;exact ne)
  refine hf k hk d b bs _ _ _ d4 b4 hw ne fun o S5 lo oo d5 x5=>hK2 _ _ ?_
  clear hK2
  have x25:=x24.trans x5
  have k7:=x25.get a7 (by simp;exact nq)
  refine seqI fun K2 hK2=>?_
  have ep:atI (row.map Fm.pv) (p:Int)=some (row[p].pv):=by rw[q1l _ p (by simpa using hp)];simp
  dsimp![k7,ep]
  refine hd d 4 _ _ _ (by decide) d5 fun w S6 hw6 d6 x6=>?_
  have x26:=x25.trans x6
  obtain⟨fl,fo⟩:=a5 row[p] (Q3a hp)
  have e1:row=row.take p++row[p]::row.drop (p+1):=by simp
  refine hs row[p] o w _ _ _ fl (by omega) hw6 (fun S7 x7=>hK2 _ _ ?_) fun s x y S7 hmd lx ly hov x7=>hK2 _ _ ?_
  ·have x27:=x26.trans x7.nil
   dsimp![true_and]
   exact hN _ _ ⟨q,row,sl,_,_,_,_,rfl,a1,a2,a3,by omega,a5,a6,x27.get a7 (by simp;exact nq),x27.get a8 (by simp;exact ns),x27.get a9 (by simp;exact ne),d6.ex x7 (by simp),a11.trans (x27.weak (by simp))⟩
  ·clear hK2
   have x27:=x26.trans x7.nil
   have m7:=x27.get a7 (by simp;exact nq)
   have m8:=x27.get a8 (by simp;exact ns)
   have m9:=x27.get a9 (by simp;exact ne)
   have d7:=d6.ex x7 (by simp)
   have x07:=a11.trans (x27.weak (D':=[d,S.length+1]) (by simp))
   dsimp![true_and]
   refine seqI fun K2 hK2=>?_
   have pl:p<=(row.map Fm.pv).length:=by simp;omega
   have pl1:p+1<=(row.map Fm.pv).length:=by simp;omega
   have e2:cutP (row.map Fm.pv) none (some (p:Int))=(row.map Fm.pv).take p:=y0q _ _ pl
   have e3:cutP (row.map Fm.pv) (some ((p:Int)+1)) none=(row.map Fm.pv).drop (p+1):=z2l _ _ pl1
   have c1:=q0i (q0f S7 (SO.lst ((row.map Fm.pv).take p))) [SO.lst [x.pv,y.pv]]
   have c2:=q0i (q0i (q0i m7 [SO.lst ((row.map Fm.pv).take p)]) [SO.lst [x.pv,y.pv]]) [SO.lst ((row.map Fm.pv).take p++[x.pv,y.pv])]
   have c3:=q0i (q0f (S7++[SO.lst ((row.map Fm.pv).take p)]++[SO.lst [x.pv,y.pv]]) (SO.lst ((row.map Fm.pv).take p++[x.pv,y.pv]))) [SO.lst ((row.map Fm.pv).drop (p+1))]
   dsimp![q0c m7,e2,e3,i3_1,i3_2]
   refine⟨p2,?_⟩
   simp only[q0m c1,q0c c2,e3,q0m c3]
   have tl:((row.map Fm.pv).take p).length=p:=by rw[Q2q];omega
   have dl2:((row.map Fm.pv).drop (p+1)).length=row.length-(p+1):=by rw[Q5j,Q0q]
   refine⟨big (by rw[tl];simp;omega),big (by rw[Q0x,tl,dl2];simp;omega),hK2 _ _ ?_⟩
   clear hK2
   have en:(row.map Fm.pv).take p++[x.pv,y.pv]++(row.map Fm.pv).drop (p+1)=(row.take p++x::y::row.drop (p+1)).map Fm.pv:=by simp
   rw[en]
   have x8:Ex [] S7 (S7++[SO.lst ((row.map Fm.pv).take p)]++[SO.lst [x.pv,y.pv]]++[SO.lst ((row.map Fm.pv).take p++[x.pv,y.pv])]++[SO.lst ((row.map Fm.pv).drop (p+1))]):=(((Ex.new _ _ _).app _).app _).app _
   generalize S7++[SO.lst ((row.map Fm.pv).take p)]++[SO.lst [x.pv,y.pv]]++[SO.lst ((row.map Fm.pv).take p++[x.pv,y.pv])]++[SO.lst ((row.map Fm.pv).drop (p+1))]=S8 at x8 ⊢
   have g9:=q0f S8 (SO.lst ((row.take p++x::y::row.drop (p+1)).map Fm.pv))
   have x9:Ex [] S7 (S8++[SO.lst ((row.take p++x::y::row.drop (p+1)).map Fm.pv)]):=x8.app _
   have l8:S7.length<=S8.length:=x8.1
   generalize S8++[SO.lst ((row.take p++x::y::row.drop (p+1)).map Fm.pv)]=S9 at g9 x9 ⊢
   generalize S8.length=q' at g9 l8 ⊢
   have n8:=x9.get m8 (by simp)
   have l7:=q0d m8
   dsimp![n8,q0m n8,i3_0]
   rw[e1]at a1
   have st:=y3r a1 hmd
   rw[show(row.take p).length=p by rw[Q2q];omega]at st
   refine⟨p2,bigl (by simp;omega),hN _ _ ⟨q',row.take p++x::y::row.drop (p+1),sl++[(p,s)],_,_,_,_,rfl,st,by simp;omega,by simp;omega,by simp;omega,fun f hf'=>?_,⟨by omega,by omega⟩,q1h _ g9 (by omega),?_,q1h _ (x9.get m9 (by simp)) (by omega),(d7.ex x9 (by simp)).ex ((Ex.refl [S.length+1] _).set (.inl (by simp))) (by simp;omega),(x07.trans x9.nil).set (.inl (by simp))⟩⟩
   ·simp only[Q0n,Q1b]at hf'
    rcases hf' with z1|rfl|rfl|z1
    ·exact a5 f (Q6f z1)
    ·exact⟨lx,(hov bs fo oo).1⟩
    ·exact⟨ly,(hov bs fo oo).2⟩
    ·exact a5 f (Q8g z1)
   ·rw[q2k _ n8];simp[spP]
def RgD(sp:Den):Prop:=∀(q r:Nat)(g:Fm)(row:List Fm)(sl:List (Nat×Sg))(S:q0b)(E:EK)(Q:VC),Grw g row sl->1<=row.length->row.length<=10->sl.length<=20->S[q]?=some (.lst (row.map Fm.pv))->S[r]?=some (.lst (sl.map spP))->
 (∀(t:Rd) S',t.is 0 (row.length:Nat) g->t.ws=row.zipIdx.map (fun p=>((p.2:Int),p.1))->Ex [] S S'->Q t.pv S')->sp [.ref q,.ref r] S E Q
def wrd(p:Fm×Nat):Rd:=.w (p.2:Int) p.1
theorem y0e:∀(row:List Fm)(k:Nat),Fit (k:Int) ((k+row.length:Nat):Int) row ((row.zipIdx k).map wrd)
 |[],k=>⟨rfl,by simp⟩
 |f::row,k=>by
  have:=y0e row (k+1)
  rw[show((k+1+row.length:Nat):Int)=((k+(f::row).length:Nat):Int) by simp;omega]at this
  exact⟨.w (k:Int) f,(row.zipIdx (k+1)).map wrd,((k+1:Nat):Int),by simp[wrd],⟨rfl,by simp,rfl⟩,this⟩
theorem y9u(row:List Fm)(k:Nat):((row.zipIdx k).map wrd).flatMap Rd.ws=(row.zipIdx k).map (fun p=>((p.2:Int),p.1)):=by
 induction row.zipIdx k with
 |nil=>rfl
 |cons a l ih=>rw[Q0v,Z3d,ih];rfl
theorem x1a:RgD (fnP 2 5 q1s):=by
 intro q r g row sl S E Q hg h1 h10 hsl hq hr h
 obtain⟨t,hu,hi,hw⟩:=hg (row.zipIdx.map wrd) 0 ((0+row.length:Nat):Int) (y0e row 0)
 rw[y9u]at hw
 rw[Q4x]at hi
 have p1:1<=Q0l:=big (by decide)
 have p3:3<=Q0l:=big (by decide)
 refine⟨rfl,?_⟩
 unfold q1s
 refine seqI fun K hK=>?_
 dsimp![q0c hq,Q0q]
 refine⟨⟨by omega,by omega⟩,?_⟩
 rw[Q2i]
 refine⟨by rw[z1o];exact big (by omega),?_⟩
 refine y9k row.length (fun i ys σ S1=>S1=S/\(∃j0:Option PV,σ=[j0,some (.ref q)])/\ys=((row.zipIdx.take i).map wrd).map Rd.pv) ?_ ?_ _ _ ⟨rfl,⟨none,rfl⟩,by simp⟩
 ·rintro ys σ S1 ⟨rfl,⟨j0,rfl⟩,rfl⟩
  rw[Q3z (by simp)]
  refine⟨trivial,hK _ _ ?_⟩
  clear hK
  have g1:=q0f S1 (SO.lst ((row.zipIdx.map wrd).map Rd.pv))
  have r1:=q0i hr [SO.lst ((row.zipIdx.map wrd).map Rd.pv)]
  have x1:Ex [] S1 (S1++[SO.lst ((row.zipIdx.map wrd).map Rd.pv)]):=Ex.new _ _ _
  have tl:(row.zipIdx.map wrd).length<=10:=by simp;omega
  generalize row.zipIdx.map wrd=ts at hu g1 r1 x1 tl ⊢
  generalize S1++[SO.lst (ts.map Rd.pv)]=S2 at g1 r1 x1 ⊢
  refine seqI fun K hK=>?_
  dsimp![q0m r1]
  have g2:=q0f S2 (SO.lst ((sl.map spP).reverse))
  have k2:=q0i g1 [SO.lst ((sl.map spP).reverse)]
  have x2:Ex [] S1 (S2++[SO.lst ((sl.map spP).reverse)]):=x1.app _
  rw[<-List.map_reverse]at g2 k2 x2 ⊢
  generalize S2++[SO.lst (sl.reverse.map spP)]=S3 at g2 k2 x2 ⊢
  generalize S2.length=r2 at g2 ⊢
  refine forI (fun rest σ S4=>∃(todo:List (Nat×Sg))(us:List Rd)(n:Nat)(j3 j4:Option PV),rest=todo.map spP/\Uns todo us t/\us.length<=10/\σ=[some (.ref q),some (.ref r),some (.ref n),j3,j4]/\S4[n]?=some (.lst (us.map Rd.pv))/\S4[r2]?=some (.lst (sl.reverse.map spP))/\Ex [] S1 S4) ?_ ?_ _ _ _ ⟨sl.reverse,ts,S1.length,none,none,rfl,hu,tl,rfl,k2,g2,x2⟩
  ·rintro σ S4 ⟨todo,us,n,j3,j4,e1,a1,a2,rfl,a3,a4,a5⟩
   obtain rfl:=Q6j.mp e1.symm
   have a1':us=[t]:=a1
   subst a1'
   refine⟨q0c a4,hK _ _ ?_⟩
   dsimp![a3,q4t]
   exact h t S4 hi hw a5
  ·rintro x rest σ S4 ⟨todo,us,n,j3,j4,e1,a1,a2,rfl,a3,a4,a5⟩ N hN
   cases todo with
   |nil=>cases e1
   |cons p todo=>
    cases e1
    obtain⟨p,s⟩:=p
    obtain⟨t1,u,v,t2,rfl,rfl,a1⟩:=a1
    refine⟨q0c a4,?_⟩
    simp only[Q0x,Q1k]at a2
    have tm:(t1++u::v::t2).map Rd.pv=t1.map Rd.pv++u.pv::v.pv::t2.map Rd.pv:=by simp
    have e2:cutP ((t1++u::v::t2).map Rd.pv) none (some (t1.length:Int))=t1.map Rd.pv:=by rw[y0q _ _ (by simp),tm,List.take_left' (by simp)]
    have e3:cutP ((t1++u::v::t2).map Rd.pv) (some ((t1.length:Int)+2)) none=t2.map Rd.pv:=by
     refine(z2l ((t1++u::v::t2).map Rd.pv) (t1.length+2) (by simp)).trans ?_
     rw[tm,show t1.map Rd.pv++u.pv::v.pv::t2.map Rd.pv=(t1.map Rd.pv++[u.pv,v.pv])++t2.map Rd.pv by simp,List.drop_left' (by simp)]
    have e4:atI ((t1++u::v::t2).map Rd.pv) (t1.length:Int)=some u.pv:=by rw[q1l _ _ (by simp)];simp
    have e5:atI ((t1++u::v::t2).map Rd.pv) ((t1.length:Int)+1)=some v.pv:=by
     refine(q1l ((t1++u::v::t2).map Rd.pv) (t1.length+1) (by simp)).trans ?_
     simp
    have c0:=q0i a3 [SO.lst (t1.map Rd.pv)]
    have c1:=q0i (q0f S4 (SO.lst (t1.map Rd.pv))) [SO.lst [(Rd.n s u v).pv]]
    have c2:=q0i (q0i c0 [SO.lst [(Rd.n s u v).pv]]) [SO.lst (t1.map Rd.pv++[(Rd.n s u v).pv])]
    have c3:=q0i (q0f (S4++[SO.lst (t1.map Rd.pv)]++[SO.lst [(Rd.n s u v).pv]]) (SO.lst (t1.map Rd.pv++[(Rd.n s u v).pv]))) [SO.lst (t2.map Rd.pv)]
    have rn:PV.tup [.str s.st,u.pv,v.pv]=(Rd.n s u v).pv:=rfl
    dsimp![spP,q0c a3,e2,e3,c0,e4,e5,rn,q0m c1,q0c c2,q0m c3]
    refine⟨p3,p1,big (by simp;omega),big (by simp;omega),hN _ _ ⟨todo,t1++.n s u v::t2,_,_,_,rfl,a1,by simp;omega,rfl,?_,q0i (q0i (q0i (q0i (q0i a4 _) _) _) _) _,((((a5.app _).app _).app _).app _).app _⟩⟩
    rw[q0f];simp
 ·rintro i hi2 ys σ S1 ⟨rfl,⟨j0,rfl⟩,rfl⟩ N hN
  refine⟨trivial,?_⟩
  have ea:atI (row.map Fm.pv) (i:Int)=some row[i].pv:=by rw[q1l _ i (by simpa using hi2)];simp
  dsimp![hq,ea]
  refine⟨p3,hN _ _ _ ⟨rfl,⟨_,rfl⟩,?_⟩⟩
  rw[List.take_succ_eq_append_getElem (by simpa using hi2)]
  simp[wrd,Rd.pv,y7a]
def TrnD(sp:Den):Prop:=∀(d q:Nat)(xs:List PV)(S:q0b)(E:EK)(Q:VC),DkN d S->S[q]?=some (.lst xs)->(∀x∈xs,okP 190 x)->xs.length<=100->q≠d->
 (∀(r:Nat)(ys:List PV) S',ys.Perm xs->S.length<=r->S'[r]?=some (.lst ys)->DkN d S'->Ex [d] S S'->Q (.ref r) S')->sp [.ref d,.ref q] S E Q
theorem q7k{α:Type}:∀{l:List α}{i:Nat}(h:i<l.length),(l[i]::l.eraseIdx i).Perm l
 |a::l,0,_=>by simp
 |a::l,i+1,h=>by
  have:=q7k (l:=l) (i:=i) (by simpa using h)
  simp only[List.getElem_cons_succ,Z0u]
  exact(Z1q.swap _ _ _).trans (this.cons a)
theorem x0c{sd:Den}(hd:q9a sd):TrnD (fnP 2 4 (q2p sd)):=by
 intro d q xs S E Q dk hq hok hl nq h
 have ld:=dk.lt
 refine⟨rfl,?_⟩
 unfold q2p
 refine seqI fun K hK=>?_
 dsimp![q0c hq]
 refine hK _ _ ?_
 clear hK K
 refine seqI fun K hK=>?_
 dsimp![true_and]
 refine⟨Q1f _,hK _ _ ?_⟩
 clear hK K
 have g0:=q0i (q0f S (.lst xs)) [SO.lst []]
 have g1:=q0f (S++[SO.lst xs]) (.lst [])
 have x1:Ex [d,S.length,S.length+1] S (S++[SO.lst xs]++[SO.lst []]):=(Ex.new _ S _).app _
 have d1:DkN d (S++[SO.lst xs]++[SO.lst []]):=dk.ex ((Ex.new [] S _).app _) (by simp)
 have dl:(S++[SO.lst xs]).length=S.length+1:=by simp
 rw[dl]at g1 ⊢
 generalize S++[SO.lst xs]++[SO.lst []]=S1 at g0 g1 x1 d1 ⊢
 refine seqI fun K hK=>?_
 refine y9v (fun m σ S2=>σ=[some (.ref d),some (.ref q),some (.ref S.length),some (.ref (S.length+1))]/\∃(ys zs:List PV),S2[S.length]?=some (.lst ys)/\S2[S.length+1]?=some (.lst zs)/\(zs++ys).Perm xs/\m=ys.length/\DkN d S2/\Ex [d,S.length,S.length+1] S S2) xs.length ⟨rfl,xs,[],g0,g1,Z1q.refl _,rfl,d1,x1⟩ ?_
 rintro m σ S2 ⟨rfl,ys,zs,a1,a2,a3,rfl,a4,a5⟩ T F hT hF
 have a1':=q0i a1 [SO.lst []]
 have oy:q2m ys:=q4l fun x hx=>hok x (a3.mem_iff.mp (by simp[hx]))
 have zl:=a3.length_eq
 rw[Q0x]at zl
 dsimp![q0c a1']
 refine⟨Q1f _,oy,?_⟩
 have x3:Ex [d,S.length,S.length+1] S (S2++[SO.lst []]):=a5.app _
 have d3:=a4.ex (Ex.new [] S2 [SO.lst []]) (by simp)
 have a2':=q0i a2 [SO.lst []]
 generalize S2++[SO.lst []]=S3 at a1' a2' x3 d3 ⊢
 cases ys with
 |nil=>
  rw[if_neg (by simp[eqBs])]
  refine hF _ (hK _ _ ?_)
  dsimp![true_and]
  rw[Q2x]at a3
  refine h (S.length+1) zs S3 a3 (by omega) a2' d3 ⟨x3.1,fun i hi hn=>x3.2 i hi fun z=>?_⟩
  simp only[Q1b,Q2r,or_false]at z hn
  omega
 |cons y ys=>
  rw[if_pos (by simp[eqBs])]
  refine hT _ fun N hN=>?_
  generalize hys:y::ys=us at *
  have ul:1<=us.length:=by rw[<-hys];simp
  dsimp![a1',a2',q0c a1']
  refine hd d us.length _ _ _ ul d3 fun p S4 hp d4 x4=>?_
  have k1:=x4.get a1' (by simp;omega)
  have k2:=x4.get a2' (by simp;omega)
  have k2':=q1h (.lst (us.eraseIdx p)) k2 (j:=S.length) (by omega)
  dsimp![k1,q0m k1,y9a hp,Q0e hp,q0m k2']
  refine⟨⟨by omega,by omega⟩,bigl (by omega),hN (us.eraseIdx p).length _ _ (by rw[List.length_eraseIdx_of_lt hp];omega) ⟨rfl,us.eraseIdx p,zs++[us[p]],q1h _ (q2k _ k1) (by omega),q2k _ k2',?_,rfl,(d4.ex ((Ex.refl [S.length] _).set (.inl (by simp))) (by simp;omega)).ex ((Ex.refl [S.length+1] _).set (.inl (by simp))) (by simp;omega),((x3.trans (x4.weak (by simp))).set (.inl (by simp))).set (.inl (by simp))⟩⟩
  rw[Q1n]
  exact((q7k hp).append_left zs).trans a3
abbrev Ent:=List (Str×Nat×List Fm)
def kvE(e:Str×Nat×List Fm):Key×PV:=(.inr e.1,.ref e.2.1)
theorem y4g{w:Str}:∀{ent:Ent},w∉ent.map (·.1)->valP (ent.map kvE) (.inr w)=none
 |[],_=>rfl
 |e::ent,h=>by
  rw[Q0v,Q1b,not_or]at h
  rw[Q0v,q4i,if_neg (by simp only[kvE,Q4k.injEq];exact fun z=>h.1 z.symm)]
  exact y4g h.2
theorem z1i{e:Str×Nat×List Fm}:∀{ent:Ent},(ent.map (·.1)).Nodup->e∈ent->valP (ent.map kvE) (.inr e.1)=some (.ref e.2.1)
 |x::ent,nd,h=>by
  rw[Q0v,Q1r]at nd
  rw[Q0v,q4i]
  rcases Q1b.mp h with rfl|h
  ·rw[if_pos (show(kvE e).1=Q4k e.1 from rfl)];rfl
  ·rw[if_neg (by simp only[kvE,Q4k.injEq];exact fun z=>nd.1 (Q0p.mpr ⟨e,h,z.symm⟩))]
   exact z1i nd.2 h
theorem x1g{w:Str}{n:Nat}{ent:Ent}(h:w∉ent.map (·.1)):putP (ent.map kvE) (.inr w) (.ref n)=(ent++[(w,n,[])]).map kvE:=by
 unfold putP
 rw[if_neg]
 ·rw[Q1w];rfl
 ·intro z
  obtain⟨y,hy,e⟩:=Q6d.mp z
  obtain⟨x,hx,rfl⟩:=Q0p.mp hy
  simp only[kvE,decide_eq_true_eq,Q4k.injEq]at e
  exact h (Q0p.mpr ⟨x,hx,e⟩)
structure FD(lo fd:Nat)(bs:List Str)(ent:Ent)(S:q0b):Prop where
 dic:S[fd]?=some (.dK (ent.map kvE))\/S[fd]?=some (.dF (ent.map kvE))
 nd:(ent.map (·.1)).Nodup
 rf:(fd::ent.map (·.2.1)).Nodup
 lst:∀e∈ent,S[e.2.1]?=some (.lst (e.2.2.map Fm.pv))
 lo1:lo<=fd
 lo2:∀e∈ent,lo<=e.2.1
 ok:∀e∈ent,q2h e.1=true/\e.2.2.length<=5/\e.2.2.Nodup/\∀f∈e.2.2,f.lv<=6/\f.ov bs
theorem FD.ex{lo fd:Nat}{bs:List Str}{ent:Ent}{S S':q0b}{D:List Nat}(h:FD lo fd bs ent S)(x:Ex D S S')(hD:∀i∈D,i<lo\/S.length<=i):FD lo fd bs ent S':=by
 have nn:∀i,lo<=i->i<S.length->i∉D:=fun i h1 h2 z=>by have:=hD i z;omega
 refine⟨?_,h.nd,h.rf,fun e he=>x.get (h.lst e he) (nn _ (h.lo2 e he) (q0d (h.lst e he))),h.lo1,h.lo2,h.ok⟩
 rcases h.dic with z|z
 ·exact .inl (x.get z (nn _ h.lo1 (q0d z)))
 ·exact .inr (x.get z (nn _ h.lo1 (q0d z)))
theorem FD.lt{lo fd:Nat}{bs:List Str}{ent:Ent}{S:q0b}(h:FD lo fd bs ent S):fd<S.length:=by rcases h.dic with z|z<;>exact q0d z
def tot(ent:Ent):Nat:=(ent.map fun e=>e.2.2.length).sum
theorem y5u(a b:Ent):tot (a++b)=tot a+tot b:=by simp[tot]
theorem FD.more{lo fd n:Nat}{bs:List Str}{a b:Ent}{w:Str}{fs:List Fm}{f:Fm}{S:q0b}(h:FD lo fd bs (a++(w,n,fs)::b) S)(h5:fs.length<=4)(hf:f∉fs)(lv:f.lv<=6)(ov:f.ov bs):FD lo fd bs (a++(w,n,fs++[f])::b) (S.set n (.lst ((fs++[f]).map Fm.pv))):=by
 have hn:S[n]?=some (.lst (fs.map Fm.pv)):=h.lst (w,n,fs) (by simp)
 have hk:(a++(w,n,fs++[f])::b).map kvE=(a++(w,n,fs)::b).map kvE:=by simp[kvE]
 have hr:=h.rf
 have ne:n≠fd:=by
  rintro rfl
  rw[Q1r]at hr
  exact hr.1 (by simp)
 have ne2:∀e,e∈a\/e∈b->n≠e.2.1:=fun e he z=>by
  rw[Q1r,Q1w,Q0v]at hr
  have r2:=hr.2
  rw[Q2t]at r2
  obtain⟨_,r4,r5⟩:=r2
  rcases he with he|he
  ·exact r5 e.2.1 (Q0p.mpr ⟨e,he,rfl⟩) n (by simp) z.symm
  ·rw[Q1r]at r4
   exact r4.1 (Q0p.mpr ⟨e,he,z.symm⟩)
 have old:∀e,e∈a\/e∈b->e∈a++(w,n,fs)::b:=fun e he=>by
  rcases he with he|he<;>simp[he]
 have sp:∀e,e∈a++(w,n,fs++[f])::b->(e∈a\/e∈b)\/e=(w,n,fs++[f]):=fun e he=>by
  simp only[Q0n,Q1b]at he
  rcases he with he|he|he
  ·exact .inl (.inl he)
  ·exact .inr he
  ·exact .inl (.inr he)
 refine⟨?_,by simpa using h.nd,by simpa using h.rf,fun e he=>?_,h.lo1,fun e he=>?_,fun e he=>?_⟩
 ·rw[hk]
  rcases h.dic with z|z
  ·exact .inl (q1h _ z ne)
  ·exact .inr (q1h _ z ne)
 ·rcases sp e he with z|rfl
  ·exact q1h _ (h.lst e (old e z)) (ne2 e z)
  ·exact q2k _ hn
 ·rcases sp e he with z|rfl
  ·exact h.lo2 e (old e z)
  ·exact h.lo2 (w,n,fs) (by simp)
 ·rcases sp e he with z|rfl
  ·exact h.ok e (old e z)
  ·obtain⟨o1,o2,o3,o4⟩:=h.ok (w,n,fs) (by simp)
   refine⟨o1,by simp;omega,?_,fun g hg=>?_⟩
   ·rw[Q2t]
    exact⟨o3,by simp,fun x hx y hy e=>by rw[Q0i]at hy;subst hy;subst e;exact hf hx⟩
   ·rcases Q0n.mp hg with z|z
    ·exact o4 g z
    ·rw[Q0i]at z;subst z;exact⟨lv,ov⟩
theorem FD.word{lo fd n:Nat}{bs:List Str}{ent:Ent}{w:Str}{S:q0b}(h:FD lo fd bs ent S)(hd:S[fd]?=some (.dK (ent.map kvE)))(hw:w∉ent.map (·.1))(hn:S[n]?=some (.lst []))(hlo:lo<=n)(hfr:n≠fd/\∀e∈ent,n≠e.2.1)(nb:q2h w=true):FD lo fd bs (ent++[(w,n,[])]) (S.set fd (.dK ((ent++[(w,n,[])]).map kvE))):=by
 have hr:=h.rf
 rw[Q1r]at hr
 have ne:∀e∈ent,fd≠e.2.1:=fun e he z=>hr.1 (Q0p.mpr ⟨e,he,z.symm⟩)
 refine⟨.inl (q2k _ hd),?_,?_,fun e he=>?_,h.lo1,fun e he=>?_,fun e he=>?_⟩
 ·rw[Q1w,Q2t]
  exact⟨h.nd,by simp,fun x hx y hy e=>by simp at hy;subst hy;subst e;exact hw hx⟩
 ·rw[Q1r,Q1w,Q0n,Q2t]
  refine⟨fun z=>?_,hr.2,by simp,fun x hx y hy e=>?_⟩
  ·rcases z with z|z
   ·exact hr.1 z
   ·simp at z;exact hfr.1 z.symm
  ·simp at hy
   subst hy;subst e
   obtain⟨e,he,z⟩:=Q0p.mp hx
   exact hfr.2 e he z.symm
 ·rcases Q0n.mp he with z|z
  ·exact q1h _ (h.lst e z) (ne e z)
  ·rw[Q0i]at z;subst z
   exact q1h _ hn (Q4a hfr.1)
 ·rcases Q0n.mp he with z|z
  ·exact h.lo2 e z
  ·rw[Q0i]at z;subst z;exact hlo
 ·rcases Q0n.mp he with z|z
  ·exact h.ok e z
  ·rw[Q0i]at z;subst z
   exact⟨nb,by simp,Z0j,by simp⟩
theorem y1b(fs:List Fm)(f:Fm):((fs.map Fm.pv).any fun y=>eqB y f.pv)=decide (f∈fs):=by
 rw[Z1s,Q5o,Q6d,decide_eq_true_eq]
 constructor
 ·rintro⟨x,hx,e⟩
  have e':eqB x.pv f.pv=true:=e
  rw[z0q,decide_eq_true_eq]at e'
  rw[<-e'];exact hx
 ·intro h
  exact⟨f,h,by show eqB f.pv f.pv=true;rw[z0q];simp⟩
theorem q6c{fs:List Fm}(h:∀f∈fs,f.lv<=100):q2m (fs.map Fm.pv):=q4l fun x hx=>by
 obtain⟨f,hf,rfl⟩:=Q0p.mp hx
 exact y4x (by have:=h f hf;have:=f.dp_lv;omega)
theorem q8d{f:Fm}(h:f.lv<=100):okEq f.pv:=z1s (by have:=f.dp_lv;omega)
theorem y0x{f:Fm}{fs:List Fm}{n:Nat}{S:q0b}{Q:VC}(hf:f.lv<=100)(hfs:∀g∈fs,g.lv<=100)(hn:S[n]?=some (.lst (fs.map Fm.pv)))(h:Q (.bl (!decide (f∈fs))) S):q3d f.pv (.ref n) S Q:=by
 obtain⟨xs,e⟩:=f.pv_tup
 have:=y1b fs f
 have ok:=q8d hf
 rw[e]at this ok ⊢
 rw[z4d,q0c hn]
 exact⟨⟨ok,q6c hfs⟩,by rw[this];exact h⟩
structure Sen(ws:List Str)(row:List Fm)(ent:Ent):Prop where
 len:ws.length=row.length
 has:∀(k:Nat)(f:Fm),row[k]?=some f->∃w,ws[k]?=some w/\∃e∈ent,e.1=w/\f∈e.2.2
 key:∀w∈ws,w∈ent.map (·.1)
 key2:∀e∈ent,e.1∈ws
def SnD(sp:Den):Prop:=∀(d q:Nat)(bs:List Str)(row:List Fm)(S:q0b)(E:EK)(Q:VC),DkN d S->S[q]?=some (.lst (row.map Fm.pv))->q≠d->1<=row.length->row.length<=10->(∀f∈row,f.lv<=6/\f.ov bs)->
 (∀(fd:Nat)(ws:List Str)(ent:Ent) S',FD S.length fd bs ent S'->S'[fd]?=some (.dK (ent.map kvE))->Sen ws row ent->tot ent<=row.length->(∀w∈ws,q2h w=true)->DkN d S'->Ex [d] S S'->Q (.tup [.tup (ws.map PV.str),.ref fd]) S')->sp [.ref d,.ref q] S E Q
theorem z0r{ent:Ent}{e:Str×Nat×List Fm}(h:e∈ent):∃a b,ent=a++e::b:=List.append_of_mem h
theorem FD.val{lo fd:Nat}{bs:List Str}{ent:Ent}{S:q0b}(h:FD lo fd bs ent S)(w:Str):(∃e∈ent,e.1=w/\valP (ent.map kvE) (.inr w)=some (.ref e.2.1))\/(w∉ent.map (·.1)/\valP (ent.map kvE) (.inr w)=none):=by
 by_cases z:w∈ent.map (·.1)
 ·obtain⟨e,he,rfl⟩:=Q0p.mp z
  exact .inl ⟨e,he,rfl,z1i h.nd he⟩
 ·exact .inr ⟨z,y4g z⟩
theorem FD.ex2{lo fd:Nat}{bs:List Str}{ent:Ent}{S S':q0b}{D:List Nat}(h:FD lo fd bs ent S)(x:Ex D S S')(h1:fd∉D)(h2:∀e∈ent,e.2.1∉D):FD lo fd bs ent S':=by
 refine⟨?_,h.nd,h.rf,fun e he=>x.get (h.lst e he) (h2 e he),h.lo1,h.lo2,h.ok⟩
 rcases h.dic with z|z
 ·exact .inl (x.get z h1)
 ·exact .inr (x.get z h1)
theorem Sen.step{ws:List Str}{row:List Fm}{i:Nat}{ent ent':Ent}{w:Str}(h:Sen ws (row.take i) ent)(hi:i<row.length)(hg:∀e∈ent,∃e'∈ent',e'.1=e.1/\∀f∈e.2.2,f∈e'.2.2)(hw:∃e'∈ent',e'.1=w/\row[i]∈e'.2.2)(hk:∀e'∈ent',e'.1=w\/∃e∈ent,e.1=e'.1):Sen (ws++[w]) (row.take (i+1)) ent':=by
 have wl:ws.length=i:=by rw[h.len,Q2q];omega
 refine⟨by simp[wl];omega,fun k f hf=>?_,fun v hv=>?_,fun e he=>?_⟩
 ·by_cases z:k<i
  ·have:(row.take i)[k]?=some f:=by rw[Q5m z];rwa [Q5m (by omega)]at hf
   obtain⟨v,h1,e,he,h2,h3⟩:=h.has k f this
   obtain⟨e',he',g1,g2⟩:=hg e he
   exact⟨v,by rw[Q0o (by omega)];exact h1,e',he',g1.trans h2,g2 f h3⟩
  ·have hk1:k<i+1:=by
    have:=(Q0s.mp hf).1
    rw[Q2q]at this
    omega
   obtain rfl:k=i:=by omega
   rw[Q5m hk1,Q0e hi]at hf
   cases hf
   exact⟨w,by rw[Q2u (by omega),wl];simp,hw⟩
 ·rcases Q0n.mp hv with z|z
  ·obtain⟨e,he,rfl⟩:=Q0p.mp (h.key v z)
   obtain⟨e',he',g1,_⟩:=hg e he
   exact Q0p.mpr ⟨e',he',g1⟩
  ·rw[Q0i]at z;subst z
   obtain⟨e',he',g1,_⟩:=hw
   exact Q0p.mpr ⟨e',he',g1⟩
 ·rcases hk e he with z|⟨e0,he0,z⟩
  ·simp[z]
  ·have:=h.key2 e0 he0
   rw[z]at this
   simp[this]
theorem q4p:∀{ent:Ent}{e e':Str×Nat×List Fm},(ent.map (·.1)).Nodup->e∈ent->e'∈ent->e'.1=e.1->e'=e
 |x::ent,e,e',nd,h,h',q=>by
  rw[Q0v,Q1r]at nd
  rcases Q1b.mp h with z1|z1<;>rcases Q1b.mp h' with z2|z2
  ·rw[z1,z2]
  ·exact absurd (Q0p.mpr ⟨e',z2,by rw[q,z1]⟩) nd.1
  ·exact absurd (Q0p.mpr ⟨e,z1,by rw[<-q,z2]⟩) nd.1
  ·exact q4p nd.2 z1 z2 q
theorem x4v{sn sd:Den}(hn:NmsD sn)(hd:q9a sd):SnD (fnP 2 10 (q1k sn sd)):=by
 intro d q bs row S E Q dk hq nq h1 h10 hrow h
 have p3:3<=Q0l:=big (by decide)
 have p2:2<=Q0l:=big (by decide)
 have ld:=dk.lt
 have lq:=q0d hq
 have hr100:∀f∈row,f.lv<=100:=fun f hf=>by have:=(hrow f hf).1;omega
 refine⟨rfl,?_⟩
 unfold q1k
 refine seqI fun K hK=>?_
 dsimp![q0c hq,Q0q]
 refine⟨Q1f _,hn d S.length row.length [] _ _ _ (dk.ex (Ex.new [] S [SO.lst []]) (by simp)) (q0f _ _) (by simp) (by omega) (by omega) fun nq' ns S1 nl nnd nok ln gn d1 x1=>hK _ _ ?_⟩
 clear hK K
 have q1:=x1.get (q0i hq [SO.lst []]) (by simp;exact nq)
 have x01:Ex [d] S S1:=(Ex.new [d] S _).trans x1
 simp only[Q0x,Q1k,Q4t]at ln
 refine seqI fun K hK=>?_
 dsimp![true_and]
 refine hd d 3 _ _ _ (by decide) d1 fun way S2 hway d2 x2=>hK _ _ ?_
 clear hK K
 have q2:=x2.get q1 (by simp;exact nq)
 have n2:=x2.get gn (by simp;omega)
 have x02:=x01.trans x2
 refine seqI fun K hK=>?_
 dsimp![true_and]
 refine hK _ _ ?_
 clear hK K
 refine seqI fun K hK=>?_
 dsimp![true_and]
 refine⟨Q1f _,hK _ _ ?_⟩
 clear hK K
 have dl:(S2++[SO.dK []]).length=S2.length+1:=by simp
 have f3:=q0i (q0f S2 (SO.dK [])) [SO.lst []]
 have w3:=q0f (S2++[SO.dK []]) (SO.lst [])
 have q3:=q0i (q0i q2 [SO.dK []]) [SO.lst []]
 have n3:=q0i (q0i n2 [SO.dK []]) [SO.lst []]
 have d3:DkN d (S2++[SO.dK []]++[SO.lst []]):=d2.ex ((Ex.new [] S2 _).app _) (by simp)
 have x03:Ex [d] S (S2++[SO.dK []]++[SO.lst []]):=(x02.app _).app _
 have l2:=x02.1
 have l2':=q0d n2
 rw[dl]at w3 ⊢
 generalize S2++[SO.dK []]++[SO.lst []]=S3 at f3 w3 q3 n3 d3 x03 ⊢
 generalize hfd:S2.length=fd at f3 w3 l2 l2' ⊢
 have l3:=q0d w3
 refine seqI fun K hK=>?_
 dsimp![q0c q3,Q0q]
 refine⟨⟨by omega,by omega⟩,?_⟩
 rw[Q2i]
 refine forR row.length (fun i σ S4=>∃(ws:List Str)(ent:Ent)(j6 j7 j8 j9:Option PV),σ=[some (.ref d),some (.ref q),some (.ref nq'),some (.int (way:Nat)),some (.ref fd),some (.ref (fd+1)),j6,j7,j8,j9]/\S4[fd]?=some (.dK (ent.map kvE))/\FD fd fd bs ent S4/\(∀e∈ent,e.2.1≠fd+1)/\S4[fd+1]?=some (.lst (ws.map PV.str))/\Sen ws (row.take i) ent/\tot ent<=i/\ent.length<=i/\(∀w∈ws,q2h w=true)/\S4[q]?=some (.lst (row.map Fm.pv))/\S4[nq']?=some (.lst (ns.map PV.str))/\DkN d S4/\Ex [d] S S4) ?_ ?_ _ _ ⟨[],[],none,none,none,none,rfl,f3,⟨.inl f3,by simp,by simp,by simp,Q0k _,by simp,by simp⟩,by simp,w3,⟨by simp,by simp,by simp,by simp⟩,by simp[tot],by simp,by simp,q3,n3,d3,x03⟩
 ·rintro σ S4 ⟨ws,ent,j6,j7,j8,j9,rfl,a1,a2,a3,a4,a5,a6,a7,a8,a9,a10,a11,a12⟩
  refine⟨trivial,hK _ _ ?_⟩
  rw[Q9o]at a5
  dsimp![q0c a4]
  refine⟨p2,h fd ws ent S4 ⟨a2.dic,a2.nd,a2.rf,a2.lst,l2,fun e he=>Q1l l2 (a2.lo2 e he),a2.ok⟩ a1 a5 a6 a8 a11 a12⟩
 ·rintro i hi σ S4 ⟨ws,ent,j6,j7,j8,j9,rfl,a1,a2,a3,a4,a5,a6,a7,a8,a9,a10,a11,a12⟩ N hN
  refine⟨trivial,?_⟩
  dsimp![true_and]
  have hfi:=hrow row[i] (Q3a hi)
  have e6:atI (row.map Fm.pv) (i:Int)=some row[i].pv:=by rw[q1l _ i (by simpa using hi)];simp
  refine seqI fun K2 hK2=>?_
  dsimp![q0c a9,Q0q]
  refine hd d row.length _ _ _ h1 a11 fun r1 S5 hr1 d5 x5=>?_
  have k9:=x5.get a9 (by simp;exact nq)
  dsimp![q0c k9,Q0q,y0g]
  refine⟨_,_,rfl,?_⟩
  obtain⟨m2,hm2,hm21,hm22⟩:∃m2:Nat,(if((row.length:Nat):Int)<2 then((row.length:Nat):Int)else 2)=(m2:Int)/\1<=m2/\m2<=row.length:=by
   by_cases z:((row.length:Nat):Int)<2
   ·exact⟨row.length,by rw[if_pos z],h1,Q0k _⟩
   ·exact⟨2,by rw[if_neg z];rfl,by decide,by omega⟩
  rw[hm2]
  refine hd d m2 _ _ _ hm21 d5 fun r2 S6 hr2 d6 x6=>⟨p3,?_⟩
  have x46:=x5.trans x6
  obtain⟨p,hp,ep⟩:∃p:Nat,p<row.length/\atI [PV.int (i:Nat),PV.int (r1:Nat),PV.int (r2:Nat)] (way:Int)=some (.int (p:Nat)):=by
   rcases(show way=0\/way=1\/way=2 by omega)with rfl|rfl|rfl
   ·exact⟨i,hi,rfl⟩
   ·exact⟨r1,hr1,rfl⟩
   ·exact⟨r2,by omega,rfl⟩
  have y6:=q0f S6 (SO.lst [PV.int (i:Nat),PV.int (r1:Nat),PV.int (r2:Nat)])
  dsimp![ep]
  have x47:Ex [d] S4 (S6++[SO.lst [PV.int (i:Nat),PV.int (r1:Nat),PV.int (r2:Nat)]]):=x46.app _
  have d7:=d6.ex (Ex.new [] S6 [SO.lst [PV.int (i:Nat),PV.int (r1:Nat),PV.int (r2:Nat)]]) (by simp)
  generalize S6++[SO.lst [PV.int (i:Nat),PV.int (r1:Nat),PV.int (r2:Nat)]]=S7 at x47 d7 ⊢
  refine hK2 _ _ ?_
  clear hK2
  have c1:=x47.get a1 (by simp;omega)
  have c2:=a2.ex x47 (by simp;omega)
  have c4:=x47.get a4 (by simp;omega)
  have c9:=x47.get a9 (by simp;exact nq)
  have c10:=x47.get a10 (by simp;omega)
  have x07:=a12.trans x47
  have l7:=q0d c4
  clear a1 a2 a4 a9 a10 a11 a12 x47 x46 x5 x6 d5 d6 k9 y6
  refine seqI fun K2 hK2=>?_
  have en:atI (ns.map PV.str) (p:Int)=some (.str ns[p]):=by rw[q1l _ p (by simp;omega)];simp
  dsimp![c10,en]
  refine hK2 _ _ ?_
  clear hK2
  have last:∀(w:Str)(S8:q0b),q2h w=true->(∀e∈ent,e.1=w->e.2.2.length<=4\/row[i]∈e.2.2)->S8[fd]?=some (.dK (ent.map kvE))->FD fd fd bs ent S8->S8[fd+1]?=some (.lst (ws.map PV.str))->S8[q]?=some (.lst (row.map Fm.pv))->S8[nq']?=some (.lst (ns.map PV.str))->DkN d S8->Ex [d] S S8->fd+1<S8.length->
    (wSeq (q2f (wBM "list" q0x (wVar 5) (q0a (wVar 8) wNil)))
 (wSeq (wSet 9 (wBM "dict" q4c (wVar 4) (q0a (wVar 8) (q0a (wLst wNil) wNil))))
 (wIfS (q0k (wBin q3d (wBin bIx (wVar 1) (wVar 6)) (wVar 9)))
 (q2f (wBM "list" q0x (wVar 9) (q0a (wBin bIx (wVar 1) (wVar 6)) wNil)))
 q0z))) {nx:=N,rt:=Q,bk:=K,ct:=N} E [some (.ref d),some (.ref q),some (.ref nq'),some (.int (way:Nat)),some (.ref fd),some (.ref (fd+1)),some (.int (i:Nat)),some (.int (p:Nat)),some (.str w),j9] S8:=by
   intro w S8 nw hw4 b1 b2 b4 b9 b10 b11 b12 lt8
   have wl:ws.length=i:=by rw[a5.len,Q2q];omega
   refine seqI fun K3 hK3=>?_
   dsimp![b4,q0m b4]
   refine⟨bigl (by simp;omega),hK3 _ _ ?_⟩
   clear hK3
   rw[show ws.map PV.str++[PV.str w]=(ws++[w]).map PV.str by simp]
   have x9:Ex [fd+1] S8 (S8.set (fd+1) (.lst ((ws++[w]).map PV.str))):=(Ex.refl _ _).set (.inl (by simp))
   have g4:=q2k (.lst ((ws++[w]).map PV.str)) b4
   generalize S8.set (fd+1) (.lst ((ws++[w]).map PV.str))=S9 at x9 g4 ⊢
   have x9':Ex [d] S S9:=⟨Q1l b12.1 x9.1,fun j hj hn=>by rw[x9.2 j (Q1a hj b12.1) (by simp;omega)];exact b12.2 j hj hn⟩
   have g1:=x9.get b1 (by simp)
   have g2:=b2.ex2 x9 (by simp) fun e he=>by simp;exact a3 e he
   have g9:=x9.get b9 (by simp;omega)
   have g10:=x9.get b10 (by simp;omega)
   have g11:=b11.ex x9 (by simp;omega)
   have lt9:fd+1<S9.length:=by have:=x9.1;omega
   clear b1 b2 b4 b9 b10 b11 b12 x9
   have nws:∀v∈ws++[w],q2h v=true:=fun v hv=>by
    rcases Q0n.mp hv with z|z
    ·exact a8 v z
    ·rw[Q0i]at z;subst z;exact nw
   have x10:Ex [] S9 (S9++[SO.lst []]):=Ex.new _ _ _
   have y10:=q0f S9 (SO.lst [])
   have k1:=x10.get g1 (by simp)
   have k2:=g2.ex2 x10 (by simp) (by simp)
   have k4:=x10.get g4 (by simp)
   have k9:=x10.get g9 (by simp)
   have k10:=x10.get g10 (by simp)
   have k11:=g11.ex x10 (by simp)
   have x010:Ex [d] S (S9++[SO.lst []]):=x9'.app _
   refine seqI fun K3 hK3=>?_
   dsimp![g1]
   refine⟨Q1f _,?_⟩
   generalize S9++[SO.lst []]=S10 at x10 y10 k1 k2 k4 k9 k10 k11 x010 ⊢
   refine⟨fd,_,_,_,.inr w,rfl,rfl,k1,rfl,bigl (by simp;omega),fun v hv=>hK3 _ _ ?_,fun hv=>hK3 _ _ ?_⟩
   ·clear hK3
    rcases k2.val w with⟨e,he,ew,e1⟩|⟨z,e1⟩
    ·rw[e1]at hv
     cases hv
     obtain⟨o1,o2,o3,o4⟩:=k2.ok e he
     have l1:=k2.lst e he
     dsimp![k9,e6,q0c l1,y1b,l1,q0m l1]
     refine⟨⟨q8d (hr100 _ (Q3a hi)),q6c fun g hg=>by have:=(o4 g hg).1;omega⟩,?_⟩
     by_cases z:row[i]∈e.2.2
     ·rw[if_neg (fun y=>y z)]
      exact hN _ _ ⟨ws++[w],ent,_,_,_,_,rfl,k1,k2,a3,k4,a5.step hi (fun e0 he0=>⟨e0,he0,rfl,fun f hf=>hf⟩) ⟨e,he,ew,z⟩ (fun e0 he0=>.inr ⟨e0,he0,rfl⟩),by omega,by omega,nws,k9,k10,k11,x010⟩
     ·rw[if_pos z]
      obtain⟨ea,eb,rfl⟩:=z0r he
      obtain⟨ew',en',ef⟩:=e
      have h4:ef.length<=4:=by
       rcases hw4 _ he ew with y|y
       ·exact y
       ·exact absurd y z
      have k2':=k2.more h4 z hfi.1 hfi.2
      have ln':fd<=en':=k2.lo2 (ew',en',ef) (by simp)
      have nef:en'≠fd:=by
       rintro rfl
       have:=k2.rf
       rw[Q1r]at this
       exact this.1 (by simp)
      have ne1:en'≠fd+1:=a3 (ew',en',ef) (by simp)
      dsimp only
      rw[show ef.map Fm.pv++[row[i].pv]=(ef++[row[i]]).map Fm.pv by simp]
      refine⟨bigl (by simp;omega),hN _ _ ⟨ws++[w],ea++(ew',en',ef++[row[i]])::eb,_,_,_,_,rfl,?_,k2',?_,q1h _ k4 ne1,a5.step hi ?_ ⟨(ew',en',ef++[row[i]]),by simp,ew,by simp⟩ ?_,?_,?_,nws,q1h _ k9 (by omega),q1h _ k10 (by omega),k11.ex ((Ex.refl [en'] _).set (.inl (by simp))) (by simp;omega),?_⟩⟩
      ·rw[q1h _ k1 nef];simp[kvE]
      ·intro e0 he0
       simp only[Q0n,Q1b]at he0
       rcases he0 with y|rfl|y
       ·exact a3 e0 (by simp[y])
       ·exact ne1
       ·exact a3 e0 (by simp[y])
      ·intro e0 he0
       simp only[Q0n,Q1b]at he0
       rcases he0 with y|rfl|y
       ·exact⟨e0,by simp[y],rfl,fun f hf=>hf⟩
       ·exact⟨(ew',en',ef++[row[i]]),by simp,rfl,fun f hf=>by simp[hf]⟩
       ·exact⟨e0,by simp[y],rfl,fun f hf=>hf⟩
      ·intro e0 he0
       simp only[Q0n,Q1b]at he0
       rcases he0 with y|rfl|y
       ·exact .inr ⟨e0,by simp[y],rfl⟩
       ·exact .inr ⟨(ew',en',ef),by simp,rfl⟩
       ·exact .inr ⟨e0,by simp[y],rfl⟩
      ·simp[tot]at a6 ⊢;omega
      ·simp at a7 ⊢;omega
      ·exact x010.set (.inr (by omega))
    ·rw[e1]at hv;cases hv
   ·clear hK3
    have hwn:w∉ent.map (·.1):=by
     rcases k2.val w with⟨e,he,ew,e1⟩|⟨z,e1⟩
     ·rw[e1]at hv;cases hv
     ·exact z
    rw[x1g hwn]
    have fresh:∀e∈ent,S9.length≠e.2.1:=fun e he z=>by have:=q0d (g2.lst e he);omega
    have k2':=k2.word k1 hwn y10 (by omega) ⟨by omega,fresh⟩ nw
    have nl:S9.length≠fd:=by omega
    have k1':=q2k (.dK ((ent++[(w,S9.length,[])]).map kvE)) k1
    have y10':=q1h (.dK ((ent++[(w,S9.length,[])]).map kvE)) y10 (j:=fd) (by omega)
    have k4':=q1h (.dK ((ent++[(w,S9.length,[])]).map kvE)) k4 (j:=fd) (by omega)
    have k9':=q1h (.dK ((ent++[(w,S9.length,[])]).map kvE)) k9 (j:=fd) (by omega)
    have k10':=q1h (.dK ((ent++[(w,S9.length,[])]).map kvE)) k10 (j:=fd) (by omega)
    have xs11:Ex [fd] S10 (S10.set fd (.dK ((ent++[(w,S9.length,[])]).map kvE))):=(Ex.refl _ _).set (.inl (by simp))
    have k11':=k11.ex xs11 (by simp;omega)
    clear xs11
    have x011:Ex [d] S (S10.set fd (.dK ((ent++[(w,S9.length,[])]).map kvE))):=x010.set (.inr (by omega))
    generalize S10.set fd (.dK ((ent++[(w,S9.length,[])]).map kvE))=S11 at k2' k1' y10' k4' k9' k10' k11' x011 ⊢
    generalize S9.length=n9 at *
    dsimp![k9',e6,q0c y10',List.any_nil,y10',q0m y10']
    refine⟨q8d (hr100 _ (Q3a hi)),?_⟩
    have k3':=k2'.more (a:=ent) (b:=[]) (f:=row[i]) (by simp) (by simp) hfi.1 hfi.2
    refine⟨bigl (by simp),hN _ _ ⟨ws++[w],ent++[(w,n9,[row[i]])],_,_,_,_,rfl,?_,k3',?_,q1h _ k4' (by omega),a5.step hi ?_ ⟨(w,n9,[row[i]]),by simp,rfl,by simp⟩ ?_,?_,by simp;omega,nws,q1h _ k9' (by omega),q1h _ k10' (by omega),k11'.ex ((Ex.refl [n9] _).set (.inl (by simp))) (by simp;omega),x011.set (.inr (by omega))⟩⟩
    ·rw[q1h _ k1' (by omega)];simp[kvE]
    ·intro e0 he0
     rcases Q0n.mp he0 with y|y
     ·exact a3 e0 y
     ·rw[Q0i]at y;subst y;show n9≠fd+1;omega
    ·intro e0 he0
     exact⟨e0,by simp[he0],rfl,fun f hf=>hf⟩
    ·intro e0 he0
     rcases Q0n.mp he0 with y|y
     ·exact .inr ⟨e0,y,rfl⟩
     ·rw[Q0i]at y;subst y;exact .inl rfl
    ·rw[y5u];simp[tot]at a6 ⊢;omega
  refine seqI fun K2 hK2=>?_
  have x8:Ex [] S7 (S7++[SO.lst []]):=Ex.new _ _ _
  have y8:=q0f S7 (SO.lst [])
  have m1:=x8.get c1 (by simp)
  have m2:=c2.ex2 x8 (by simp) (by simp)
  have m4:=x8.get c4 (by simp)
  have m9:=x8.get c9 (by simp)
  have m10:=x8.get c10 (by simp)
  have m11:=d7.ex x8 (by simp)
  have x08:Ex [d] S (S7++[SO.lst []]):=x07.app _
  have l8:fd+1<(S7++[SO.lst []]).length:=q0d m4
  have pn:q2h ns[p]=true:=(nok ns[p] (Q3a (by omega))).1
  dsimp![c1]
  refine⟨Q1f _,?_⟩
  generalize S7++[SO.lst []]=S8 at x8 y8 m1 m2 m4 m9 m10 m11 x08 l8 ⊢
  refine⟨fd,_,_,_,.inr ns[p],rfl,rfl,.inl m1,rfl,?_⟩
  rcases m2.val ns[p]with⟨e,he,ew,e1⟩|⟨z,e1⟩
  ·have l1:=m2.lst e he
   obtain⟨o1,o2,o3,o4⟩:=m2.ok e he
   rw[e1]
   dsimp![Z2t,q0c l1,Q0q]
   refine ite2 (fun z=>?_) (fun z=>hK2 _ _ ?_)
   ·dsimp![m9,e6]
    refine⟨fd,_,_,_,rfl,.inl m1,rfl,e1,?_⟩
    refine y0x (hr100 _ (Q3a hi)) (fun g hg=>by have:=(o4 g hg).1;omega) l1 ?_
    by_cases z2:row[i]∈e.2.2
    ·rw[decide_eq_true z2]
     dsimp![true_and]
     refine hK2 _ _ (last ns[p] S8 pn (fun e' he' ee=>.inr ?_) m1 m2 m4 m9 m10 m11 x08 l8)
     rw[q4p m2.nd he he' (ee.trans ew.symm)];exact z2
    ·rw[decide_eq_false z2]
     dsimp![q0c m10]
     refine⟨big (by simp;omega),?_⟩
     refine q6u PV.str ns (fun a ys σ S9=>∃(us:List Str)(j0:Option PV),σ=[j0,some (.ref fd)]/\ys=us.map PV.str/\us.length<=a.length/\(∀u∈us,u∈ns/\∀e∈ent,e.1=u->e.2.2.length<=4)/\(∀u∈a,u∉ent.map (·.1)->us≠[])/\Ex [] S8 S9) ?_ ?_ _ _ ⟨[],none,rfl,rfl,Q0k _,by simp,by simp,Ex.refl _ _⟩
     ·rintro ys σ S9 ⟨us,j0,rfl,rfl,b1,b2,b3,b4⟩
      refine⟨q0c (b4.get m10 (by simp)),?_⟩
      have ne:us≠[]:=fun z3=>by
       have all:∀u∈ns,u∈ent.map (·.1):=fun u hu=>Q9i fun y=>b3 u hu y z3
       have:=q5q nnd all
       rw[Q0q]at this
       omega
      cases us with
      |nil=>exact absurd rfl ne
      |cons u us=>
       obtain⟨u1,u2⟩:=b2 u (by simp)
       have y9:=q0f S9 (SO.lst ((u::us).map PV.str))
       have x9:Ex [] S8 (S9++[SO.lst ((u::us).map PV.str)]):=b4.app _
       have n1:=x9.get m1 (by simp)
       have n2':=m2.ex2 x9 (by simp) (by simp)
       have n4:=x9.get m4 (by simp)
       have n9:=x9.get m9 (by simp)
       have n10:=x9.get m10 (by simp)
       have n11:=m11.ex x9 (by simp)
       have x09:=x08.trans x9.nil
       have ll:=Q1a l8 x9.1
       simp only[Q0v]at y9 x9 n1 n2' n4 n9 n10 n11 x09 ll ⊢
       generalize S9++[SO.lst (PV.str u::us.map PV.str)]=S10 at y9 n1 n2' n4 n9 n10 n11 x09 ll ⊢
       dsimp![y9,q4t]
       exact hK2 _ _ (last u S10 (nok u u1).1 (fun e' he' ee=>.inl (u2 e' he' ee)) n1 n2' n4 n9 n10 n11 x09 ll)
     ·rintro a u bb eab ys σ S9 ⟨us,j0,rfl,rfl,b1,b2,b3,b4⟩ N2 hN2
      refine⟨q0c (b4.get m10 (by simp)),?_⟩
      have n1:=b4.get m1 (by simp)
      have n1':=q0i n1 [SO.lst []]
      have un:u∈ns:=by rw[eab];simp
      have n2':=m2.ex2 (b4.app [SO.lst []]) (by simp) (by simp)
      have y9:=q0f S9 (SO.lst [])
      dsimp![n1]
      refine⟨Q1f _,fd,_,_,_,.inr u,rfl,rfl,.inl n1',rfl,?_⟩
      have b4':Ex [] S8 (S9++[SO.lst []]):=b4.app _
      generalize S9++[SO.lst []]=S10 at n1' n2' y9 b4' ⊢
      rcases n2'.val u with⟨e0,he0,ew0,e10⟩|⟨z0,e10⟩
      ·have l10:=n2'.lst e0 he0
       rw[e10]
       dsimp![Z2t,q0c l10,Q0q]
       refine ite2 (fun y=>hN2 _ _ _ ⟨us++[u],_,rfl,by simp,by simp;omega,fun v hv=>?_,fun v hv _=>by simp,b4'⟩) (fun y=>hN2 _ _ _ ⟨us,_,rfl,rfl,by simp;omega,b2,fun v hv hk=>?_,b4'⟩)
       ·rcases Q0n.mp hv with w1|w1
        ·exact b2 v w1
        ·rw[Q0i]at w1;subst w1
         exact⟨un,fun e' he' ee=>by rw[q4p n2'.nd he0 he' (ee.trans ew0.symm)];omega⟩
       ·rcases Q0n.mp hv with w1|w1
        ·exact b3 v w1 hk
        ·rw[Q0i]at w1;subst w1
         exact absurd (Q0p.mpr ⟨e0,he0,ew0⟩) hk
      ·rw[e10]
       dsimp![Q7d,q0c y9]
       rw[if_pos (by simp)]
       refine hN2 _ _ _ ⟨us++[u],_,rfl,by simp,by simp;omega,fun v hv=>?_,fun v hv _=>by simp,b4'⟩
       rcases Q0n.mp hv with w1|w1
       ·exact b2 v w1
       ·rw[Q0i]at w1;subst w1
        exact⟨un,fun e' he' ee=>absurd (Q0p.mpr ⟨e',he',ee⟩) z0⟩
   ·refine last ns[p] S8 pn (fun e' he' ee=>.inl ?_) m1 m2 m4 m9 m10 m11 x08 l8
    rw[q4p m2.nd he he' (ee.trans ew.symm)];omega
  ·rw[e1]
   dsimp![Q7d,q0c y8]
   rw[if_neg (by simp)]
   exact hK2 _ _ (last ns[p] S8 pn (fun e' he' ee=>absurd (Q0p.mpr ⟨e',he',ee⟩) z) m1 m2 m4 m9 m10 m11 x08 l8)
def Grws(ent ent':Ent):Prop:=(∀e∈ent,∃e'∈ent',e'.1=e.1/\∀f∈e.2.2,f∈e'.2.2)/\∀e'∈ent',∃e∈ent,e.1=e'.1
theorem Grws.refl(ent:Ent):Grws ent ent:=⟨fun e he=>⟨e,he,rfl,fun f hf=>hf⟩,fun e he=>⟨e,he,rfl⟩⟩
theorem Grws.trans{a b c:Ent}(h:Grws a b)(k:Grws b c):Grws a c:=by
 refine⟨fun e he=>?_,fun e he=>?_⟩
 ·obtain⟨e1,h1,q1,f1⟩:=h.1 e he
  obtain⟨e2,h2,q2,f2⟩:=k.1 e1 h1
  exact⟨e2,h2,q2.trans q1,fun f hf=>f2 f (f1 f hf)⟩
 ·obtain⟨e1,h1,q1⟩:=k.2 e he
  obtain⟨e2,h2,q2⟩:=h.2 e1 h1
  exact⟨e2,h2,q2.trans q1⟩
theorem y0a(a b:Ent)(w:Str)(n:Nat)(fs:List Fm)(f:Fm):Grws (a++(w,n,fs)::b) (a++(w,n,fs++[f])::b):=by
 refine⟨fun e he=>?_,fun e he=>?_⟩<;>simp only[Q0n,Q1b]at he<;>rcases he with y|rfl|y
 ·exact⟨e,by simp[y],rfl,fun f hf=>hf⟩
 ·exact⟨(w,n,fs++[f]),by simp,rfl,fun f hf=>by simp[hf]⟩
 ·exact⟨e,by simp[y],rfl,fun f hf=>hf⟩
 ·exact⟨e,by simp[y],rfl⟩
 ·exact⟨(w,n,fs),by simp,rfl⟩
 ·exact⟨e,by simp[y],rfl⟩
theorem Sen.grow{ws:List Str}{row:List Fm}{ent ent':Ent}(h:Sen ws row ent)(g:Grws ent ent'):Sen ws row ent':=by
 refine⟨h.len,fun k f hf=>?_,fun w hw=>?_,fun e he=>?_⟩
 ·obtain⟨w,h1,e,he,h2,h3⟩:=h.has k f hf
  obtain⟨e',he',g1,g2⟩:=g.1 e he
  exact⟨w,h1,e',he',g1.trans h2,g2 f h3⟩
 ·obtain⟨e,he,rfl⟩:=Q0p.mp (h.key w hw)
  obtain⟨e',he',g1,_⟩:=g.1 e he
  exact Q0p.mpr ⟨e',he',g1⟩
 ·obtain⟨e0,he0,q⟩:=g.2 e he
  have:=h.key2 e0 he0
  rwa [q]at this
def FurD(sp:Den):Prop:=∀(d b q fd:Nat)(bs:List Str)(row:List Fm)(ws:List Str)(ent:Ent)(S0 S:q0b)(E:EK)(Q:VC),DkN d S->d<S0.length->S[b]?=some (.lst (bs.map bsP))->bs≠[]->b≠d->b<S0.length->S[q]?=some (.lst (row.map Fm.pv))->q≠d->q<S0.length->1<=row.length->(∀f∈row,f.lv<=6/\f.ov bs)->FD S0.length fd bs ent S->S[fd]?=some (.dK (ent.map kvE))->1<=ws.length->(∀w∈ws,w∈ent.map (·.1))->Ex [d] S0 S->
 (∀(ent':Ent) S',FD S0.length fd bs ent' S'->S'[fd]?=some (.dK (ent'.map kvE))->Grws ent ent'->tot ent'<=tot ent+12->S'[b]?=some (.lst (bs.map bsP))->DkN d S'->Ex [d] S0 S'->Q .non S')->sp [.ref d,.ref b,.ref q,.tup (ws.map PV.str),.ref fd] S E Q
theorem x3p{sd sf:Den}(hd:q9a sd)(hf:∀m,m<=3->FmlD sf m):FurD (fnP 5 8 (q1u sd sf)):=by
 intro d b q fd bs row ws ent S0 S E Q dk ld hb hw nb lb hq nq lq h1 hrow hfd hdk hws hkey x0 h
 have lf:=hfd.lo1
 refine⟨rfl,?_⟩
 unfold q1u
 dsimp![true_and]
 refine hd d 13 _ _ _ (by decide) dk fun n S1 hn d1 x1=>?_
 dsimp![true_and]
 refine⟨⟨by omega,by omega⟩,?_⟩
 rw[Q2i]
 have D1:∀i∈[d],i<S0.length\/S.length<=i:=by simp;omega
 refine forR n (fun i σ S2=>∃(en:Ent)(j5 j6 j7:Option PV),σ=[some (.ref d),some (.ref b),some (.ref q),some (.tup (ws.map PV.str)),some (.ref fd),j5,j6,j7]/\FD S0.length fd bs en S2/\S2[fd]?=some (.dK (en.map kvE))/\Grws ent en/\tot en<=tot ent+i/\S2[b]?=some (.lst (bs.map bsP))/\S2[q]?=some (.lst (row.map Fm.pv))/\DkN d S2/\Ex [d] S0 S2) ?_ ?_ _ _ ⟨ent,none,none,none,rfl,hfd.ex x1 D1,x1.get hdk (by simp;omega),Grws.refl _,Q0k _,x1.get hb (by simp;exact nb),x1.get hq (by simp;exact nq),d1,x0.trans x1⟩
 ·rintro σ S2 ⟨en,j5,j6,j7,rfl,a1,a2,a3,a4,a5,a6,a7,a8⟩
  exact⟨trivial,h en S2 a1 a2 a3 (by omega) a5 a7 a8⟩
 ·rintro i hi σ S2 ⟨en,j5,j6,j7,rfl,a1,a2,a3,a4,a5,a6,a7,a8⟩ N hN
  refine⟨trivial,?_⟩
  dsimp![true_and]
  refine seqI fun K hK=>?_
  dsimp![a6,q0c a6,Q0q]
  refine hd d row.length _ _ _ h1 a7 fun p S3 hp d3 x3=>?_
  have ep:atI (row.map Fm.pv) (p:Int)=some row[p].pv:=by rw[q1l _ p (by simpa using hp)];simp
  have k6:=x3.get a6 (by simp;exact nq)
  dsimp![k6,ep]
  refine hK _ _ ?_
  clear hK
  obtain⟨fl,fo⟩:=hrow row[p] (Q3a hp)
  have rest:∀(f:Fm)(S4:q0b),f.lv<=6->f.ov bs->DkN d S4->Ex [d] S2 S4->(wSeq (wSet 7 (wBin bIxD (wVar 4) (wBin bIx (wVar 3) (q0h sd (q0a (wVar 0) (q0a (wCB fLen (q0a (wVar 3) wNil)) wNil))))))
 (wIfS (wAnd (q0k (wBin q3d (wVar 6) (wVar 7))) (q0k (wBin cLt (wCB fLen (q0a (wVar 7) wNil)) (wC (.int 5)))))
 (q2f (wBM "list" q0x (wVar 7) (q0a (wVar 6) wNil)))
 q0z)) {nx:=N,rt:=Q,bk:=fun _ S'=>Q .non S',ct:=N} E [some (.ref d),some (.ref b),some (.ref q),some (.tup (ws.map PV.str)),some (.ref fd),some (.int (i:Nat)),some f.pv,j7] S4:=by
   intro f S4 lf1 lf2 d4 x4
   refine seqI fun K hK=>?_
   dsimp![Q0q]
   refine hd d ws.length _ _ _ hws d4 fun p2 S5 hp2 d5 x5=>?_
   have x25:=x4.trans x5
   have D2:∀i∈[d],i<S0.length\/S2.length<=i:=by simp;omega
   have k1:=a1.ex x25 D2
   have k2:=x25.get a2 (by simp;omega)
   have k5:=x25.get a5 (by simp;exact nb)
   have k6:=x25.get a6 (by simp;exact nq)
   have x05:=a8.trans x25
   have ew:atI (ws.map PV.str) (p2:Int)=some (.str ws[p2]):=by rw[q1l _ p2 (by simpa using hp2)];simp
   dsimp![ew]
   have hin:ws[p2]∈en.map (·.1):=by
    obtain⟨e,he,q1⟩:=Q0p.mp (hkey ws[p2] (Q3a hp2))
    obtain⟨e',he',q2,_⟩:=a3.1 e he
    exact Q0p.mpr ⟨e',he',q2.trans q1⟩
   rcases k1.val ws[p2]with⟨e,he,ee,e1⟩|⟨z,_⟩
   ·refine⟨fd,_,_,_,rfl,.inl k2,rfl,e1,hK _ _ ?_⟩
    clear hK
    have l1:=k1.lst e he
    obtain⟨o1,o2,o3,o4⟩:=k1.ok e he
    dsimp![q0c l1,y1b,Q0q,l1,q0m l1]
    refine⟨⟨q8d (by omega),q6c fun g hg=>by have:=(o4 g hg).1;omega⟩,?_⟩
    have same:N [some (.ref d),some (.ref b),some (.ref q),some (.tup (ws.map PV.str)),some (.ref fd),some (.int (i:Nat)),some f.pv,some (.ref e.2.1)] S5:=hN _ _ ⟨en,_,_,_,rfl,k1,k2,a3,by omega,k5,k6,d5,x05⟩
    refine ite2 (fun z=>ite2 (fun z2=>?_) (fun _=>same)) (fun _=>same)
    clear same
    obtain⟨ea,eb,rfl⟩:=z0r he
    obtain⟨ew',en',ef⟩:=e
    dsimp only at z z2 l1 ⊢
    have k1':=k1.more (by omega) z lf1 lf2
    have ln':S0.length<=en':=k1.lo2 (ew',en',ef) (by simp)
    have nef:en'≠fd:=by
     rintro rfl
     have:=k1.rf
     rw[Q1r]at this
     exact this.1 (by simp)
    rw[show ef.map Fm.pv++[f.pv]=(ef++[f]).map Fm.pv by simp]
    refine⟨bigl (by omega),hN _ _ ⟨ea++(ew',en',ef++[f])::eb,_,_,_,rfl,k1',?_,a3.trans (y0a _ _ _ _ _ _),?_,q1h _ k5 (by omega),q1h _ k6 (by omega),d5.ex ((Ex.refl [en'] _).set (.inl (by simp))) (by simp;omega),x05.set (.inr ln')⟩⟩
    ·rw[q1h _ k2 nef];simp[kvE]
    ·simp[tot]at a4 ⊢;omega
   ·exact absurd hin z
  refine seqI fun K hK=>?_
  dsimp![true_and]
  refine hd d 2 _ _ _ (by decide) d3 fun r S4 hr d4 x4=>?_
  have x24:=x3.trans x4
  dsimp![true_and]
  refine ite2 (fun z=>?_) (fun z=>hK _ _ (rest row[p] S4 fl fo d4 x24))
  refine hd d 3 _ _ _ (by decide) d4 fun r2 S5 hr2 d5 x5=>?_
  have x25:=x24.trans x5
  dsimp![true_and]
  rw[show(1:Int)+(r2:Int)=((1+r2:Nat):Int) by omega]
  refine hf (1+r2) (by omega) d b bs _ _ _ d5 (x25.get a5 (by simp;exact nb)) hw nb fun f S6 lv ov d6 x6=>hK _ _ (rest f S6 (by omega) ov d6 (x25.trans x6))
def trs(ent:Ent):List (Str×Fm):=ent.flatMap fun e=>e.2.2.map fun f=>(e.1,f)
theorem z6o(a b:Ent):trs (a++b)=trs a++trs b:=by simp[trs]
theorem z6n(a:Ent):(trs a).length=tot a:=by
 induction a with
 |nil=>rfl
 |cons e a ih=>simp only[trs,tot,Z3d,Q0x,Q0q,Q0v,Q8w]at ih ⊢;omega
def nmP(w:Str):PV:=.tup [.str "name",.str w]
def BkD(sp:Den):Prop:=∀(d b fd:Nat)(bs:List Str)(ent:Ent)(S0 S:q0b)(E:EK)(Q:VC),DkN d S->d<S0.length->S[b]?=some (.lst (bs.map bsP))->b≠d->b<S0.length->bs.length<=100->FD S0.length fd bs ent S->S[fd]?=some (.dK (ent.map kvE))->tot ent<=20->ent.length<=100->Ex [d] S0 S->
 (∀(x y:PV)(tr:List ((Str×Fm)×PV)) S',(tr.map (·.1)).Perm (trs ent)->(∀t∈tr,∃w,t.2=nmP w)->FD S0.length fd bs ent S'->S'[b]?=some (.lst (bs.map bsP))->DkN d S'->Ex [d] S0 S'->Q (bkP x y tr) S')->sp [.ref d,.ref b,.ref fd] S E Q
theorem x4i(ks:List Kd)(k:Kd):((ks.map Kd.pv).any fun y=>eqB y k.pv)=decide (k∈ks):=by
 rw[Z1s,Q5o,Q6d,decide_eq_true_eq]
 constructor
 ·rintro⟨x,hx,e⟩
  have e':eqB x.pv k.pv=true:=e
  rw[q7l,decide_eq_true_eq]at e'
  rw[<-e'];exact hx
 ·intro h
  exact⟨k,h,by show eqB k.pv k.pv=true;rw[q7l];simp⟩
theorem z8d:∀k:Kd,plV k.pv=true
 |.a s=>rfl
 |.p f t=>by simp[Kd.pv,plV,plVs,z8d f,z8d t]
theorem q9r{k:Kd}{n:Nat}(h:k.dp<=n):okP n k.pv:=⟨z8d k,by rw[y0o];exact h⟩
theorem FD.frz{lo fd:Nat}{bs:List Str}{ent:Ent}{S:q0b}(h:FD lo fd bs ent S)(l:fd<S.length):FD lo fd bs ent (S.set fd (.dF (ent.map kvE))):=by
 have hr:=h.rf
 rw[Q1r]at hr
 exact⟨.inr (Q1o l),h.nd,h.rf,fun e he=>q1h _ (h.lst e he) fun z=>hr.1 (Q0p.mpr ⟨e,he,z.symm⟩),h.lo1,h.lo2,h.ok⟩
theorem y5a:∀{l:List Kd}{a:Kd}{i:Nat},l[i]?=some a->l.idxOf a<=i
 |[],a,i,h=>by simp at h
 |x::l,a,0,h=>by simp at h;subst h;simp
 |x::l,a,i+1,h=>by
  have:=y5a (l:=l) (by simpa using h)
  rw[Z4b]
  cases x==a<;>simp only[cond_true,cond_false]<;>omega
theorem q5o{α β:Type}(f:α->β){ys zs:List β}(h:ys.Perm zs):∀l:List α,zs=l.map f->∃l':List α,l'.Perm l/\ys=l'.map f:=by
 induction h with
 |nil=>intro l e;exact⟨l,.refl _,e⟩
 |cons x p ih=>
  intro l e
  cases l with
  |nil=>cases e
  |cons a l=>
   simp only[Q0v,Q7f]at e
   obtain⟨l',h1,h2⟩:=ih l e.2
   exact⟨a::l',h1.cons a,by rw[h2,e.1];rfl⟩
 |swap x y l0=>
  intro l e
  cases l with
  |nil=>cases e
  |cons a l=>
   cases l with
   |nil=>cases e
   |cons b l=>
    simp only[Q0v,Q7f]at e
    exact⟨b::a::l,.swap _ _ _,by rw[e.1,e.2.1,e.2.2];rfl⟩
 |trans p q ih1 ih2=>
  intro l e
  obtain⟨l1,h1,h2⟩:=ih2 l e
  obtain⟨l2,h3,h4⟩:=ih1 l1 h2
  exact⟨l2,h3.trans h1,h4⟩
theorem y9x{lo fd:Nat}{bs:List Str}{ent:Ent}{v0 v1 v3 v6 v7 v8:Option PV}{body:WS}{D:PEnds}{E:EK}(P:List (Str×Fm)->q0b->Prop)(hP:∀ps S,P ps S->FD lo fd bs ent S/\S[fd]?=some (.dF (ent.map kvE)))
  (hb:∀a w f b,trs ent=a++(w,f)::b->∀S,P a S->∀(N:Ev.Loc->q0b->Prop)(bk:Ev.Loc->q0b->Prop),(∀S',P (a++[(w,f)]) S'->N [v0,v1,some (.ref fd),v3,some (.str w),some f.pv,v6,v7,v8] S')->body {nx:=N,rt:=D.rt,ct:=N,bk:=bk} E [v0,v1,some (.ref fd),v3,some (.str w),some f.pv,v6,v7,v8] S)
  (hn:∀j4 j5 S,P (trs ent) S->D.nx [v0,v1,some (.ref fd),v3,j4,j5,v6,v7,v8] S) (S:q0b) (h0:S[fd]?=some (.dK (ent.map kvE))\/S[fd]?=some (.dF (ent.map kvE))) (hs:P [] (S.set fd (.dF (ent.map kvE)))) (j4 j5:Option PV) :
  wFor (q6v (wVar 2)) (q0e 4) (wFor (q1v (wBin bIxD (wVar 2) (wVar 4))) (q0e 5) body) D E [v0,v1,some (.ref fd),v3,j4,j5,v6,v7,v8] S:=by
 dsimp![true_and]
 refine⟨fd,_,rfl,h0,?_⟩
 rw[show(ent.map kvE).map (fun p=>keyP p.1)=ent.map (fun e=>PV.str e.1) by rw[Q3v];rfl]
 refine forM (fun e=>PV.str e.1) ent (fun a σ S1=>∃j4 j5,σ=[v0,v1,some (.ref fd),v3,j4,j5,v6,v7,v8]/\P (trs a) S1) ?_ ?_ _ _ ⟨j4,j5,rfl,hs⟩
 ·rintro σ S1 ⟨j4,j5,rfl,p⟩
  exact⟨(hP _ _ p).2,hn _ _ _ p⟩
 ·rintro a e b hab σ S1 ⟨j4,j5,rfl,p⟩ N hN
  obtain⟨q1,q2⟩:=hP _ _ p
  have he:e∈ent:=by rw[hab];simp
  refine⟨q2,?_⟩
  dsimp![true_and]
  refine⟨fd,_,_,_,rfl,.inr q2,rfl,z1i q1.nd he,?_⟩
  have l1:=q1.lst e he
  dsimp![q0c l1]
  refine forM Fm.pv e.2.2 (fun c σ S2=>∃j5,σ=[v0,v1,some (.ref fd),v3,some (.str e.1),j5,v6,v7,v8]/\P (trs a++c.map fun f=>(e.1,f)) S2) ?_ ?_ _ _ ⟨j5,rfl,by simpa using p⟩
  ·rintro σ S2 ⟨j5,rfl,p2⟩
   refine⟨q0c ((hP _ _ p2).1.lst e he),hN _ _ ⟨_,_,rfl,?_⟩⟩
   rw[z6o]
   simpa[trs]using p2
  ·rintro c f c2 hc σ S2 ⟨j5,rfl,p2⟩ N2 hN2
   refine⟨q0c ((hP _ _ p2).1.lst e he),?_⟩
   dsimp![true_and]
   refine hb (trs a++c.map fun f=>(e.1,f)) e.1 f ((c2.map fun f=>(e.1,f))++trs b) ?_ S2 p2 N2 _ fun S' p'=>hN2 _ _ ⟨_,rfl,?_⟩
   ·rw[hab,z6o,show trs (e::b)=e.2.2.map (fun f=>(e.1,f))++trs b by simp[trs],hc];simp
   ·rw[Q1w,<-Q1n];exact p'
theorem x6s{sk sn st:Den}(hk:x4l sk 10)(hn:NmsD sn)(ht:TrnD st):BkD (fnP 3 9 (q2t sk sn st)):=by
 intro d b fd bs ent S0 S E Q dk ld hb nb lb hbl hfd hdk ht20 hel x0 h
 have p2:2<=Q0l:=big (by decide)
 have p3:3<=Q0l:=big (by decide)
 have lf:=hfd.lo1
 have tl:=z6n ent
 have fdp:∀e∈ent,∀f∈e.2.2,f.dp<=6:=fun e he f hf=>by have:=(hfd.ok e he).2.2.2 f hf;have:=f.dp_lv;omega
 have tdp:∀p∈trs ent,p.2.dp<=6:=fun p hp=>by
  obtain⟨e,he,hp⟩:=Q7m.mp hp
  obtain⟨f,hf,rfl⟩:=Q0p.mp hp
  exact fdp e he f hf
 refine⟨rfl,?_⟩
 unfold q2t
 refine seqI fun K hK=>?_
 dsimp![true_and]
 refine⟨Q1f _,hK _ _ ?_⟩
 clear hK K
 have lS:=x0.1
 have hfl:=hfd.lt
 have y1:=q0f S (SO.lst [])
 have x1:Ex [] S (S++[SO.lst []]):=Ex.new _ _ _
 have k1:=hfd.ex2 x1 (by simp) (by simp)
 have k2:=x1.get hdk (by simp)
 have k3:=x1.get hb (by simp)
 have k4:=dk.ex x1 (by simp)
 have x01:=x0.trans x1.nil
 have fresh:∀e∈ent,e.2.1≠S.length:=fun e he z=>by have:=q0d (hfd.lst e he);omega
 generalize S++[SO.lst []]=S1 at y1 k1 k2 k3 k4 x01 ⊢
 generalize hkq:S.length=kq at y1 fresh lS hfl ⊢
 refine seqI fun K hK=>?_
 refine y9x (lo:=S0.length) (bs:=bs) (fun ps S2=>∃ks:List Kd,S2[kq]?=some (.lst (ks.map Kd.pv))/\(∀p∈ps,p.2.kk∈ks)/\(∀k∈ks,k.dp<=6)/\ks.length<=ps.length/\FD S0.length fd bs ent S2/\S2[fd]?=some (.dF (ent.map kvE))/\S2[b]?=some (.lst (bs.map bsP))/\DkN d S2/\Ex [d] S0 S2) (fun ps S2 hh1=>by obtain⟨ks,a1,a2,a3,a4,a5,a6,_⟩:=hh1;exact(⟨a5,a6⟩)) ?_ ?_ S1 (.inl k2) ⟨[],q1h _ y1 (by omega),by simp,by simp,Q0k _,k1.frz (q0d k2),q2k _ k2,q1h _ k3 (by omega),k4.ex ((Ex.refl [fd] _).set (.inl (by simp))) (by simp;omega),x01.set (.inr lf)⟩ none none
 ·rintro a w f c hac S2 ⟨ks,a1,a2,a3,a4,a5,a6,a7,a8,a9⟩ N bk hN
  have fd6:f.dp<=6:=tdp (w,f) (by rw[hac];simp)
  have kd6:f.kk.dp<=6:=Q1l (y3i f) fd6
  have al:a.length<(trs ent).length:=by rw[hac];simp
  have ok1:okEq f.kk.pv:=(q9r kd6).eq (by decide)
  have ok2:q2m (ks.map Kd.pv):=q4l fun x hx=>by
   obtain⟨k,hk',rfl⟩:=Q0p.mp hx
   exact(q9r (a3 k hk')).le (by decide)
  dsimp![true_and]
  refine hk f (by omega) _ _ _ ?_
  rw[<-z9o]
  dsimp![q0c a1,x4i,a1]
  refine⟨⟨ok1,ok2⟩,ite2 (fun z=>?_) (fun z=>hN _ ⟨ks,a1,fun p hp=>?_,a3,by simp;omega,a5,a6,a7,a8,a9⟩)⟩
  ·refine hk f (by omega) _ _ _ ?_
   rw[<-z9o]
   dsimp![q0m a1]
   have x3:Ex [kq] S2 (S2.set kq (.lst ((ks++[f.kk]).map Kd.pv))):=(Ex.refl _ _).set (.inl (by simp))
   rw[show ks.map Kd.pv++[f.kk.pv]=(ks++[f.kk]).map Kd.pv by simp]
   refine⟨bigl (by simp;omega),hN _ ⟨ks++[f.kk],q2k _ a1,fun p hp=>?_,fun k hk'=>?_,by simp;omega,a5.ex2 x3 (by simp;omega) (fun e he=>by simp;exact fresh e he),x3.get a6 (by simp;omega),x3.get a7 (by simp;omega),a8.ex x3 (by simp;omega),a9.set (.inr lS)⟩⟩
   ·rcases Q0n.mp hp with y|y
    ·simp[a2 p y]
    ·rw[Q0i]at y;subst y;simp
   ·rcases Q0n.mp hk' with y|y
    ·exact a3 k y
    ·rw[Q0i]at y;subst y;exact kd6
  ·rcases Q0n.mp hp with y|y
   ·exact a2 p y
   ·rw[Q0i]at y;subst y;exact Q8k.mp z
 ·rintro j4 j5 S2 ⟨ks,a1,a2,a3,a4,a5,a6,a7,a8,a9⟩
  refine hK _ _ ?_
  clear hK K y1 k1 k2 k3 k4 x01 S1
  have lk:=q0d a1
  refine seqI fun K hK=>?_
  dsimp![q0c a1,Q0q]
  have x3:Ex [] S2 (S2++[SO.lst []]):=Ex.new _ _ _
  refine⟨Q1f _,hn d S2.length ks.length [] _ _ _ (a8.ex x3 (by simp)) (q0f _ _) (by simp) (by omega) (by omega) fun nq ns S3 nl nnd nok ln gn d3 x4=>hK _ _ ?_⟩
  clear hK K
  have x23:Ex [d] S2 S3:=x3.nil.trans x4
  have nln:S2.length<=nq:=by simp at ln;omega
  have D2:∀i∈[d],i<S0.length\/S2.length<=i:=by simp;omega
  have b1:=x23.get a1 (by simp;omega)
  have b5:=a5.ex x23 D2
  have b6:=x23.get a6 (by simp;omega)
  have b7:=x23.get a7 (by simp;exact nb)
  have x03:=a9.trans x23
  clear a1 a5 a6 a7 a8 a9 x3 x4 x23
  refine seqI fun K hK=>?_
  dsimp![true_and]
  refine⟨Q1f _,hK _ _ ?_⟩
  clear hK K
  have x4:Ex [] S3 (S3++[SO.lst []]):=Ex.new _ _ _
  have y4:=q0f S3 (SO.lst [])
  have c1:=x4.get b1 (by simp)
  have c5:=b5.ex2 x4 (by simp) (by simp)
  have c6:=x4.get b6 (by simp)
  have c7:=x4.get b7 (by simp)
  have c8:=d3.ex x4 (by simp)
  have cn:=x4.get gn (by simp)
  have x04:=x03.trans x4.nil
  have ln3:=q0d gn
  have fr3:∀e∈ent,e.2.1≠S3.length:=fun e he z=>by have:=q0d (b5.lst e he);omega
  have lS3:=x03.1
  generalize S3++[SO.lst []]=S4 at x4 y4 c1 c5 c6 c7 c8 cn x04 ⊢
  have ltq:∀i,i<S3.length->i≠S3.length:=fun i hi=>by omega
  have lkq:=q0d b1
  have lfd:=b5.lt
  have lbb:=q0d b7
  have ldd:=d3.lt
  generalize S3.length=tq at y4 fr3 lS3 ln3 ltq lkq lfd lbb ldd ⊢
  clear b1 b5 b6 b7 d3 gn x03 x4
  refine seqI fun K hK=>?_
  refine y9x (lo:=S0.length) (bs:=bs) (fun ps S5=>∃tr:List ((Str×Fm)×PV),S5[tq]?=some (.lst (tr.map trP))/\tr.map (·.1)=ps/\(∀t∈tr,∃w,t.2=nmP w)/\S5[kq]?=some (.lst (ks.map Kd.pv))/\S5[nq]?=some (.lst (ns.map PV.str))/\FD S0.length fd bs ent S5/\S5[fd]?=some (.dF (ent.map kvE))/\S5[b]?=some (.lst (bs.map bsP))/\DkN d S5/\Ex [d] S0 S5) (fun ps S5 hh2=>by obtain⟨tr,a1,a2,a3,a4,a5,a6,a7,_⟩:=hh2;exact(⟨a6,a7⟩)) ?_ ?_ S4 (.inr c6) ⟨[],q1h _ y4 (by omega),rfl,by simp,q1h _ c1 (by omega),q1h _ cn (by omega),c5.frz (q0d c6),q2k _ c6,q1h _ c7 (by omega),c8.ex ((Ex.refl [fd] _).set (.inl (by simp))) (by simp;omega),x04.set (.inr lf)⟩ _ _
  ·rintro a w f c hac S5 ⟨tr,a1,rfl,e3,e4,e5,e6,e7,e8,e9,e10⟩ N bk hN
   have fd6:f.dp<=6:=tdp (w,f) (by rw[hac];simp)
   have kd6:f.kk.dp<=6:=Q1l (y3i f) fd6
   have al:tr.length<(trs ent).length:=by rw[hac];simp
   have ok1:okEq f.kk.pv:=(q9r kd6).eq (by decide)
   have ok2:q2m (ks.map Kd.pv):=q4l fun x hx=>by
    obtain⟨k,hk',rfl⟩:=Q0p.mp hx
    exact(q9r (a3 k hk')).le (by decide)
   have km:f.kk∈ks:=a2 (w,f) (by rw[hac];simp)
   have il:=List.idxOf_lt_length_of_mem km
   have ie:=List.getElem_idxOf il
   dsimp![a1,e5,e4]
   refine hk f (by omega) _ _ _ ?_
   rw[<-z9o]
   refine⟨kq,_,_,ks.idxOf f.kk,rfl,rfl,q0c e4,⟨ok1,ok2⟩,by simp;omega,⟨f.kk.pv,by rw[Q1z,Q0e il,ie];rfl,by rw[q7l];simp⟩,fun i z hi hz=>?_,?_⟩
   ·rw[Q1z]at hz
    obtain⟨k,hk1,rfl⟩:=Q2h.mp hz
    rw[q7l,decide_eq_false_iff_not]
    rintro rfl
    have:=y5a hk1
    omega
   ·have en:atI (ns.map PV.str) ((ks.idxOf f.kk:Nat):Int)=some (.str ns[ks.idxOf f.kk]):=by rw[q1l _ _ (by simp;omega)];simp
    dsimp![e5,en,q0m a1]
    have x6:Ex [tq] S5 (S5.set tq (.lst ((tr++[((w,f),nmP ns[ks.idxOf f.kk])]).map trP))):=(Ex.refl _ _).set (.inl (by simp))
    refine⟨p2,p3,bigl (by simp;omega),?_⟩
    rw[show tr.map trP++[PV.tup [.str w,f.pv,.tup [.str "name",.str ns[ks.idxOf f.kk]]]]=(tr++[((w,f),nmP ns[ks.idxOf f.kk])]).map trP by simp[trP,nmP]]
    refine hN _ ⟨tr++[((w,f),nmP ns[ks.idxOf f.kk])],q2k _ a1,by simp,fun t htt=>?_,x6.get e4 (by simp;omega),x6.get e5 (by simp;omega),e6.ex2 x6 (by simp;omega) (fun e he=>by simp;exact fr3 e he),x6.get e7 (by simp;omega),x6.get e8 (by simp;omega),e9.ex x6 (by simp;omega),e10.set (.inr lS3)⟩
    rcases Q0n.mp htt with y|y
    ·exact e3 t y
    ·rw[Q0i]at y;subst y;exact⟨_,rfl⟩
  ·rintro j4 j5 S5 ⟨tr,a1,etr,e3,e4,e5,e6,e7,e8,e9,e10⟩
   refine hK _ _ ?_
   clear hK K
   have trl:tr.length=tot ent:=by rw[<-tl,<-etr,Q0q]
   refine seqI fun K hK=>?_
   dsimp![true_and]
   refine⟨nq,kq,_,_,rfl,q0c e5,q0c e4,by simp;omega,?_⟩
   have x6:Ex [] S5 (S5++[SO.lst (zipP (ns.map PV.str) (ks.map Kd.pv))]):=Ex.new _ _ _
   have y6:=q0f S5 (SO.lst (zipP (ns.map PV.str) (ks.map Kd.pv)))
   have lS5:=e10.1
   have zk:∀x∈zipP (ns.map PV.str) (ks.map Kd.pv),okP 190 x:=fun x hx=>by
    unfold zipP at hx
    obtain⟨⟨u,v⟩,huv,rfl⟩:=Q0p.mp hx
    have h1:=(Q4j huv).1
    have h2:=(Q4j huv).2
    obtain⟨n',_,rfl⟩:=Q0p.mp h1
    obtain⟨k',hk',rfl⟩:=Q0p.mp h2
    exact(x2n (q8c 6 _) (q9r (a3 k' hk'))).le (by decide)
   have zl:(zipP (ns.map PV.str) (ks.map Kd.pv)).length<=100:=by unfold zipP;simp;omega
   refine ht d S5.length _ _ _ _ (e9.ex x6 (by simp)) y6 zk zl (by omega) fun r ys S7 hperm lr gr d7 x7=>hK _ _ ?_
   clear hK K
   have x57:Ex [d] S5 S7:=x6.nil.trans x7
   have D5:∀i∈[d],i<S0.length\/S5.length<=i:=by simp;omega
   have yl:=hperm.length_eq
   have g1:=x57.get a1 (by simp;omega)
   have g6:=e6.ex x57 D5
   have g8:=x57.get e8 (by simp;exact nb)
   have x07:=e10.trans x57
   dsimp![q0c g8]
   refine⟨by rw[Q0q];exact big (by omega),?_⟩
   refine q6u bsP bs (fun a zs σ S8=>S8=S7/\(∃j0:Option PV,σ=[j0])/\zs.length=a.length) ?_ ?_ _ _ ⟨rfl,⟨none,rfl⟩,rfl⟩
   ·rintro zs σ S8 ⟨rfl,⟨j0,rfl⟩,hz⟩
    refine⟨q0c g8,?_⟩
    have x8:Ex [] S8 (S8++[SO.lst zs]):=Ex.new _ _ _
    have y8:=q0f S8 (SO.lst zs)
    have g2:=x8.get gr (by simp)
    have g1':=x8.get g1 (by simp)
    have g6':=g6.ex2 x8 (by simp) (by simp)
    have g8':=x8.get g8 (by simp)
    have d8:=d7.ex x8 (by simp)
    have x08:=x07.trans x8.nil
    generalize S8++[SO.lst zs]=S9 at x8 y8 g2 g1' g6' g8' d8 x08 ⊢
    dsimp![q0c g2,q0c y8]
    have tk:∀x∈tr.map trP,okP 190 x:=fun x hx=>by
     obtain⟨t,htt,rfl⟩:=Q0p.mp hx
     obtain⟨w,hw⟩:=e3 t htt
     have:t.1.2.dp<=6:=tdp t.1 (by rw[<-etr];exact Q0p.mpr ⟨t,htt,rfl⟩)
     show okP 190 (.tup [.str t.1.1,t.1.2.pv,t.2])
     rw[hw]
     exact(x5h (q8c 6 _) (y4x this) ((x2n (q8c 5 _) (q8c 5 _)))).le (by decide)
    refine ht d tq _ _ _ _ d8 g1' tk (by simp;omega) (by omega) fun r2 ys2 S10 hp2 lr2 gr2 d10 x10=>?_
    dsimp![q0c gr2]
    have D9:∀i∈[d],i<S0.length\/S9.length<=i:=by simp;omega
    obtain⟨tr2,ptr,rfl⟩:=q5o trP hp2 tr rfl
    refine⟨p3,h _ _ tr2 S10 ?_ (fun t htt=>e3 t (ptr.mem_iff.mp htt)) (g6'.ex x10 D9) (x10.get g8' (by simp;exact nb)) d10 (x08.trans x10)⟩
    rw[<-etr]
    exact ptr.map _
   ·rintro a s bb hab zs σ S8 ⟨rfl,⟨j0,rfl⟩,hz⟩ N2 hN2
    refine⟨q0c g8,?_⟩
    dsimp![bsP,fb1]
    exact hN2 _ _ _ ⟨rfl,⟨_,rfl⟩,by simp;omega⟩
def rdP:Option Rd->PV
 |none=>.non
 |some r=>r.pv
structure Mad(bs ws:List Str)(ent:Ent)(tr:List ((Str×Fm)×PV))(g:Fm)(rd:Option Rd):Prop where
 bnd:bs.Nodup
 bok:∀w∈bs,q2h w=true/\w≠sAny
 bl:2<=bs.length/\bs.length<=4
 tp:(tr.map (·.1)).Perm (trs ent)
 tn:∀t∈tr,∃w,t.2=nmP w
 wl:1<=ws.length/\ws.length<=6
 wn:∀w∈ws,q2h w=true
 key:∀w∈ws,w∈ent.map (·.1)
 key2:∀e∈ent,e.1∈ws
 gl:g.lv<=2
 go:g.ov bs
 tt:tot ent<=18
 ne:∀e∈ent,e.2.2≠[]
 rd:∀r,rd=some r->r.is 0 (ws.length:Nat) g/\∀p∈r.ws,0<=p.1/\∃w e,ws[p.1.toNat]?=some w/\e∈ent/\e.1=w/\p.2∈e.2.2
def MakD(sp:Den):Prop:=∀(d m l:Nat)(S:q0b)(E:EK)(Q:VC),DkN d S->1<=m->m<=6->l<=1->
 (∀(x y:PV)(bs ws:List Str)(ent:Ent)(tr:List ((Str×Fm)×PV))(g:Fm)(rd:Option Rd)(fd:Nat) S',Mad bs ws ent tr g rd->(l=0->rd≠none)->FD S.length fd bs ent S'->DkN d S'->Ex [d] S S'->Q (.tup [bkP x y tr,.tup (ws.map PV.str),.ref fd,rdP rd,g.pv]) S')->sp [.ref d,.int (m:Nat),.int (l:Nat)] S E Q
theorem at4{a b c e:Nat}{i:Nat}(h:i<4):∃k:Nat,(k=a\/k=b\/k=c\/k=e)/\atI [PV.int (a:Nat),PV.int (b:Nat),PV.int (c:Nat),PV.int (e:Nat)] (i:Int)=some (.int (k:Nat)):=by
 rcases(show i=0\/i=1\/i=2\/i=3 by omega)with rfl|rfl|rfl|rfl
 ·exact⟨a,.inl rfl,rfl⟩
 ·exact⟨b,.inr (.inl rfl),rfl⟩
 ·exact⟨c,.inr (.inr (.inl rfl)),rfl⟩
 ·exact⟨e,.inr (.inr (.inr rfl)),rfl⟩
theorem at6{i:Nat}(h:i<6):∃k:Nat,1<=k/\k<=4/\atI [PV.int 1,PV.int 1,PV.int 2,PV.int 2,PV.int 3,PV.int 4] (i:Int)=some (.int (k:Nat)):=by
 rcases(show i=0\/i=1\/i=2\/i=3\/i=4\/i=5 by omega)with rfl|rfl|rfl|rfl|rfl|rfl
 ·exact⟨1,by decide,by decide,rfl⟩
 ·exact⟨1,by decide,by decide,rfl⟩
 ·exact⟨2,by decide,by decide,rfl⟩
 ·exact⟨2,by decide,by decide,rfl⟩
 ·exact⟨3,by decide,by decide,rfl⟩
 ·exact⟨4,by decide,by decide,rfl⟩
theorem any1:[PV.str "any"]=[sAny].map PV.str:=rfl
theorem Sen.ne{ws:List Str}{row:List Fm}{ent:Ent}(h:Sen ws row ent)(nd:(ent.map (·.1)).Nodup):∀e∈ent,e.2.2≠[]:=fun e he z=>by
 obtain⟨k,hk,ek⟩:=Q6e.mp (h.key2 e he)
 have hr:k<row.length:=by rw[<-h.len];exact hk
 obtain⟨w,h1,e',he',h2,h3⟩:=h.has k row[k] (Q0e hr)
 rw[Q0e hk,ek]at h1
 cases h1
 rw[q4p nd he he' h2,z]at h3
 cases h3
theorem z9l:∀{ent:Ent},(∀e∈ent,e.2.2≠[])->ent.length<=tot ent
 |[],_=>Q0k _
 |e::ent,h=>by
  have:=z9l (ent:=ent) fun x hx=>h x (by simp[hx])
  have:=Q6i.mpr (h e (by simp))
  simp only[tot,Q0v,Q8w,Q1k]at *
  omega
theorem x2t{sn sd sf sg sr ss su sb:Den}(hn:NmsD sn)(hd:q9a sd)(hf:∀m,m<=4->FmlD sf m)(hg:GwnD sg)(hr:RgD sr)(hs:SnD ss)(hu:FurD su)(hb:BkD sb):MakD (fnP 3 11 (q2q sn sd sf sg sr ss su sb)):=by
 intro d m l S E Q dk hm1 hm6 hl h
 have p1:1<=Q0l:=big (by decide)
 have p2:2<=Q0l:=big (by decide)
 have p4:4<=Q0l:=big (by decide)
 have p5:5<=Q0l:=big (by decide)
 have p6:6<=Q0l:=big (by decide)
 have ld:=dk.lt
 refine⟨rfl,?_⟩
 unfold q2q
 refine seqI fun K hK=>?_
 dsimp![true_and]
 have x1:Ex [] S (S++[SO.lst [PV.int 2,PV.int 3,PV.int 2,PV.int 4]]):=Ex.new _ _ _
 have y1:=q0f S (SO.lst [PV.int 2,PV.int 3,PV.int 2,PV.int 4])
 refine⟨p4,?_⟩
 have d1:=dk.ex x1 (by simp)
 generalize S++[SO.lst [PV.int 2,PV.int 3,PV.int 2,PV.int 4]]=S1 at x1 y1 d1 ⊢
 refine hd d 4 _ _ _ (by decide) d1 fun r S2 hr4 d2 x2=>?_
 have y2:=x2.get y1 (by simp;omega)
 obtain⟨n,hn4,en⟩:=at4 (a:=2) (b:=3) (c:=2) (e:=4) hr4
 have en':atI [PV.int 2,PV.int 3,PV.int 2,PV.int 4] (r:Int)=some (.int (n:Nat)):=en
 dsimp![y2,en']
 refine⟨p1,?_⟩
 have x3:Ex [] S2 (S2++[SO.lst [PV.str "any"]]):=Ex.new _ _ _
 have y3:=q0f S2 (SO.lst [PV.str "any"])
 have d3:=d2.ex x3 (by simp)
 have x03:Ex [d] S (S2++[SO.lst [PV.str "any"]]):=(x1.nil.trans x2).trans x3.nil
 have l2:S.length<=S2.length:=(x1.nil.trans x2).1
 generalize S2++[SO.lst [PV.str "any"]]=S3 at x3 y3 d3 x03 ⊢
 rw[any1]at y3
 refine hn d S2.length n [sAny] _ _ _ d3 y3 (by simp) (by omega) (by omega) fun nq bs S4 bl bnd bok ln gn d4 x4=>?_
 have x04:=x03.trans x4
 dsimp![q0c gn]
 refine⟨by rw[Q0q];exact big (by omega),?_⟩
 refine q6u PV.str bs (fun a zs σ S5=>S5=S4/\(∃j0:Option PV,σ=[j0])/\zs=a.map bsP) ?_ ?_ _ _ ⟨rfl,⟨none,rfl⟩,rfl⟩
 ·rintro zs σ S5 ⟨rfl,⟨j0,rfl⟩,rfl⟩
  refine⟨q0c gn,hK _ _ ?_⟩
  clear hK K
  have g5:=q0f S5 (SO.lst (bs.map bsP))
  have x05:Ex [d] S (S5++[SO.lst (bs.map bsP)]):=x04.app _
  have d5:=d4.ex (Ex.new [] S5 [SO.lst (bs.map bsP)]) (by simp)
  have l5:S.length<=S5.length:=x04.1
  generalize S5++[SO.lst (bs.map bsP)]=S6 at g5 x05 d5 ⊢
  generalize S5.length=b at g5 l5 ⊢
  clear x4 gn d4 x04 y3 d3 x3 x03 y2 x2 d2 d1 y1 x1
  have nb:b≠d:=by omega
  have bne:bs≠[]:=fun z=>by rw[z]at bl;simp at bl;omega
  refine seqI fun K hK=>?_
  dsimp![true_and]
  refine⟨p4,?_⟩
  have x7:Ex [] S6 (S6++[SO.lst [PV.int 1,PV.int 1,PV.int 1,PV.int 2]]):=Ex.new _ _ _
  have y7:=q0f S6 (SO.lst [PV.int 1,PV.int 1,PV.int 1,PV.int 2])
  have l6:=d5.lt
  generalize S6++[SO.lst [PV.int 1,PV.int 1,PV.int 1,PV.int 2]]=S7 at x7 y7 ⊢
  refine hd d 4 _ _ _ (by decide) (d5.ex x7 (by simp)) fun r7 S8 hr7 d8 x8=>?_
  have y8:=x8.get y7 (by simp;omega)
  obtain⟨k,hk4,ek⟩:=at4 (a:=1) (b:=1) (c:=1) (e:=2) hr7
  have ek':atI [PV.int 1,PV.int 1,PV.int 1,PV.int 2] (r7:Int)=some (.int (k:Nat)):=ek
  dsimp![y8,ek']
  have x68:Ex [d] S6 S8:=x7.nil.trans x8
  have g8:=x68.get g5 (by simp;exact nb)
  refine hf k (by omega) d b bs _ _ _ d8 g8 bne nb fun g S9 glv gov d9 x9=>hK _ _ ?_
  clear hK K
  have x69:=x68.trans x9
  have x09:=x05.trans x69
  have g9:=x69.get g5 (by simp;exact nb)
  clear x68 x7 y7 y8 x8 d8 g8 x69 x9 g5 x05 d5 l6
  refine seqI fun K hK=>?_
  dsimp![true_and]
  refine hd d m _ _ _ hm1 d9 fun r9 S10 hr9 d10 x10=>hK _ _ ?_
  clear hK K
  rw[show(1:Int)+(r9:Int)=((1+r9:Nat):Int) by omega]
  have g10:=x10.get g9 (by simp;exact nb)
  have x010:=x09.trans x10
  refine seqI fun K hK=>?_
  dsimp![true_and]
  refine hg d b (1+r9) bs g _ _ _ d10 g10 bne nb (by omega) gov (by omega) (by omega) fun q sq row sl S11 hgr r1 r2 sl20 hrow lq lsq gq gsq d11 x11=>?_
  have lS10:=x010.1
  have ld10:=d10.lt
  dsimp![true_and]
  refine hK _ _ ?_
  clear hK K
  have g11:=x11.get g10 (by simp;exact nb)
  have x011:=x010.trans x11
  refine seqI fun K hK=>?_
  dsimp![true_and]
  refine hr q sq g row sl _ _ _ hgr r1 (by omega) sl20 gq gsq fun t S12 hti htw x12=>hK _ _ ?_
  clear hK K
  have g12:=x12.get g11 (by simp)
  have gq12:=x12.get gq (by simp)
  have d12:=d11.ex x12 (by simp)
  have x012:=x011.trans x12.nil
  have l12:b<S12.length:=q0d g12
  have rest:∀(row:List Fm)(rd:Option Rd)(q:Nat)(S13:q0b)(v7:Option PV),1<=row.length->row.length<=6->(∀f∈row,f.lv<=6/\f.ov bs)->(l=0->rd≠none)->(∀t,rd=some t->t.is 0 (row.length:Nat) g/\t.ws=row.zipIdx.map (fun p=>((p.2:Int),p.1)))->S13[q]?=some (.lst (row.map Fm.pv))->q≠d->S13[b]?=some (.lst (bs.map bsP))->DkN d S13->Ex [d] S S13->
    (wSeq (wAsg (q0h ss (q0a (wVar 0) (q0a (wVar 6) wNil))) (q2w 2 (q0j (q0e 9) (q0j (q0e 10) q2x))))
 (wSeq (q2f (q0h su (q0a (wVar 0) (q0a (wVar 3) (q0a (wVar 6) (q0a (wVar 9) (q0a (wVar 10) wNil)))))))
 (wRet (wTup (q0a (q0h sb (q0a (wVar 0) (q0a (wVar 3) (q0a (wVar 10) wNil)))) (q0a (wVar 9) (q0a (wVar 10) (q0a (wVar 8) (q0a (wVar 4) wNil))))))))) {nx:=fun _ S'=>Q .non S',rt:=Q} E [some (.ref d),some (.int (m:Nat)),some (.int (l:Nat)),some (.ref b),some g.pv,some (.int ((1+r9:Nat):Int)),some (.ref q),v7,some (rdP rd),none,none] S13:=by
   intro row rd q S13 v7 e1 e2 e3 e4 e5 e6 e7 e8 e9 e10
   have lq13:=q0d e6
   have lb13:=q0d e8
   have ld13:=e9.lt
   refine seqI fun K hK=>?_
   dsimp![true_and]
   refine hs d q bs row _ _ _ e9 e6 e7 e1 (by omega) e3 fun fd ws ent S14 f1 f2 f3 f4 f5 d14 x14=>?_
   dsimp![true_and]
   refine hK _ _ ?_
   clear hK K
   have g14:=x14.get e8 (by simp;exact nb)
   have q14:=x14.get e6 (by simp;exact e7)
   have wl:=f3.len
   refine seqI fun K hK=>?_
   dsimp![true_and]
   refine hu d b q fd bs row ws ent S13 S14 _ _ d14 ld13 g14 bne nb lb13 q14 e7 lq13 e1 e3 f1 f2 (by omega) f3.key x14 fun ent' S15 h1 h2 h3 h4 h5 d15 x15=>hK _ _ ?_
   clear hK K
   have f3':=f3.grow h3
   dsimp![true_and]
   have ene:=f3'.ne h1.nd
   have el:ent'.length<=100:=by have:=z9l ene;omega
   refine hb d b fd bs ent' S13 S15 _ _ d15 ld13 h5 nb lb13 (by omega) h1 h2 (by omega) el x15 fun x y tr S16 t1 t2 t3 t4 d16 x16=>⟨p5,?_⟩
   have x016:=e10.trans x16
   refine h x y bs ws ent' tr g rd fd S16 ⟨bnd,fun w hw=>⟨(bok w hw).1,by simpa using(bok w hw).2⟩,by omega,t1,t2,by omega,f5,f3'.key,f3'.key2,by omega,gov,by omega,ene,fun t ht=>?_⟩ e4 ⟨t3.dic,t3.nd,t3.rf,t3.lst,Q1l e10.1 t3.lo1,fun e he=>Q1l e10.1 (t3.lo2 e he),t3.ok⟩ d16 x016
   obtain⟨i1,i2⟩:=e5 t ht
   refine⟨by rw[wl];exact i1,fun p hp=>?_⟩
   rw[i2]at hp
   obtain⟨⟨f,k⟩,hz,rfl⟩:=Q0p.mp hp
   have:=List.mem_zipIdx hz
   refine⟨by simp,?_⟩
   have hk:row[k]?=some f:=by rw[Q0e (by omega)];simp[this.2.2]
   obtain⟨w,a1,e,a2,a3,a4⟩:=f3'.has k f hk
   exact⟨w,e,by simpa using a1,a2,a3,a4⟩
  refine seqI fun K hK=>?_
  dsimp![true_and]
  refine hd d 5 _ _ _ (by decide) d12 fun r12 S13 hr12 d13 x13=>?_
  have g13:=x13.get g12 (by simp;exact nb)
  have x013:=x012.trans x13
  dsimp![true_and]
  refine ite2 (fun z=>?_) (fun z=>hK _ _ (rest row (some t) q S13 _ r1 (by omega) hrow (by simp) (fun t' ht=>by cases ht;exact⟨hti,htw⟩) (x13.get gq12 (by simp;omega)) (by omega) g13 d13 x013))
  refine seqI fun K2 hK2=>?_
  dsimp![true_and]
  refine⟨⟨by omega,by omega⟩,?_⟩
  rw[Q2i]
  refine⟨by rw[z1o];exact big (by omega),?_⟩
  refine y9k (1+r9) (fun i ys σ S14=>∃(row:List Fm)(j0:Option PV),σ=[j0,some (.ref d),some (.ref b)]/\ys=row.map Fm.pv/\row.length=i/\(∀f∈row,f.lv<=6/\f.ov bs)/\S14[b]?=some (.lst (bs.map bsP))/\DkN d S14/\Ex [d] S S14) ?_ ?_ _ _ ⟨[],none,rfl,rfl,rfl,by simp,g13,d13,x013⟩
  ·rintro ys σ S14 ⟨row',j0,rfl,rfl,b1,b2,b3,b4,b5⟩
   refine⟨trivial,hK2 _ _ ?_⟩
   dsimp![true_and]
   refine hK _ _ (rest row' none S14.length _ _ (by omega) (by omega) b2 (fun z2=>by omega) (fun t ht=>by cases ht) (q0f _ _) (by have:=b4.lt;omega) (q0i b3 _) (b4.ex (Ex.new [] S14 _) (by simp)) (b5.app _))
  ·rintro i hi ys σ S14 ⟨row',j0,rfl,rfl,b1,b2,b3,b4,b5⟩ N hN
   refine⟨trivial,?_⟩
   dsimp![true_and]
   refine⟨p6,?_⟩
   have x15:Ex [] S14 (S14++[SO.lst [PV.int 1,PV.int 1,PV.int 2,PV.int 2,PV.int 3,PV.int 4]]):=Ex.new _ _ _
   have y15:=q0f S14 (SO.lst [PV.int 1,PV.int 1,PV.int 2,PV.int 2,PV.int 3,PV.int 4])
   have l14:=b4.lt
   generalize S14++[SO.lst [PV.int 1,PV.int 1,PV.int 2,PV.int 2,PV.int 3,PV.int 4]]=S15 at x15 y15 ⊢
   refine hd d 6 _ _ _ (by decide) (b4.ex x15 (by simp)) fun r15 S16 hr15 d16 x16=>?_
   obtain⟨k6,k61,k64,ek6⟩:=at6 hr15
   have y16:=x16.get y15 (by simp;omega)
   dsimp![y16,ek6]
   have x146:Ex [d] S14 S16:=x15.nil.trans x16
   refine hf k6 k64 d b bs _ _ _ d16 (x146.get b3 (by simp;exact nb)) bne nb fun f S17 flv fov d17 x17=>hN _ _ _ ⟨row'++[f],_,rfl,by simp,by simp;omega,fun f' hf'=>?_,(x146.trans x17).get b3 (by simp;exact nb),d17,(b5.trans x146).trans x17⟩
   rcases Q0n.mp hf' with z1|z1
   ·exact b2 f' z1
   ·rw[Q0i]at z1;subst z1;exact⟨by omega,fov⟩
 ·rintro a s bb hab zs σ S5 ⟨rfl,⟨j0,rfl⟩,rfl⟩ N hN
  refine⟨q0c gn,?_⟩
  dsimp![true_and]
  exact⟨p2,hN _ _ _ ⟨rfl,⟨_,rfl⟩,by simp[bsP,Fm.pv]⟩⟩
def Fm.tx:Fm->Str
 |.b s=>s
 |.n l x y=>x.tx++sSl l++(if y.lv=1 then y.tx else Q6l++Q0j "(" ++y.tx++Q0j ")")
theorem q6x(a b:Str):(a++b).length=a.length+b.length:=by
 show(a.cps++b.cps).size=_
 rw[Z2o];rfl
theorem x4w(l:Bool):(sSl l).length=1:=by cases l<;>decide +kernel
theorem z6k:∀{f:Fm},f.nb->f.tx.length+10<=20*f.lv
 |.b s,h=>by have:=(q9t (show q2h s=true from h)).2.1;simp only[Fm.tx,Fm.lv];omega
 |.n l x y,h=>by
  have hx:=z6k h.1
  have hy:=z6k h.2
  have c1:(Q0j "(").length=1:=by decide +kernel
  have c2:(Q0j ")").length=1:=by decide +kernel
  have c0:Q6l.length=0:=rfl
  simp only[Fm.tx,Fm.lv]
  split<;>simp only[q6x,x4w,c0,c1,c2]<;>omega
def ShoG(sp:Den)(n:Nat):Prop:=∀(f:Fm),f.nb->f.lv<=n->∀(S:q0b)(E:EK)(Q:VC),Q (.str f.tx) S->sp [f.pv] S E Q
theorem z7l{T:Nat->Den}(hT:∀n,T (n+1)=fnP 1 5 (q1j (T n))):∀(n:Nat),n<=100->ShoG (T n) n
 |0,_=>fun f _ h=>by have:=f.lv_pos;omega
 |n+1,hn100=>by
  intro f hn hl S E Q hq
  rw[hT]
  refine⟨rfl,?_⟩
  unfold q1j
  cases f with
  |b s=>
   dsimp![wSeq,fb0,fb1]
   exact hq
  |n l x y=>
   have xp:=x.lv_pos
   have yp:=y.lv_pos
   have tl:=z6k hn
   have txl:=z6k hn.1
   have tyl:=z6k hn.2
   simp only[Fm.lv]at hl tl
   have ih:=z7l hT n (by omega)
   refine seqI fun K hK=>?_
   dsimp![fn0,q4j]
   refine hK _ _ ?_
   clear hK K
   refine seqI fun K hK=>?_
   dsimp![Fm.pv]
   refine hK _ _ ?_
   clear hK K
   refine seqI fun K hK=>?_
   dsimp![true_and]
   refine ih y hn.2 (by omega) _ _ _ (hK _ _ ?_)
   clear hK K
   have last:∀w:Str,(Fm.n l x y).tx=x.tx++sSl l++w->wRet (wBin bAdd (wBin bAdd (q0h (T n) (q0a (wVar 2) wNil)) (wVar 1)) (wVar 4)) {nx:=fun x S'=>Q PV.non S',rt:=Q} E [some (Fm.n l x y).pv,some (PV.str (sSl l)),some x.pv,some y.pv,some (PV.str w)] S:=fun w e=>by
    dsimp![true_and]
    refine ih x hn.1 (by omega) _ _ _ ?_
    rw[e]at hq tl
    have e1:=q6x x.tx (sSl l)
    have e2:=q6x (x.tx++sSl l) w
    dsimp![true_and]
    exact⟨big (by omega),big (by omega),hq⟩
   refine seqI fun K hK=>?_
   cases y with
   |b s=>
    dsimp![fb0]
    exact hK _ _ (last s rfl)
   |n m u v=>
    have up:=u.lv_pos
    have vp:=v.lv_pos
    have ne:¬(Fm.n m u v).lv=1:=by simp only[Fm.lv];omega
    have hw2:=q6x (Q6l++Q0j "(" ++(Fm.n m u v).tx) (Q0j ")")
    have hw3:=q6x (Q6l++Q0j "(") (Fm.n m u v).tx
    have hw4:=q6x Q6l (Q0j "(")
    have c1:(Q0j "(").length=1:=by decide +kernel
    have c2:(Q0j ")").length=1:=by decide +kernel
    have c0:Q6l.length=0:=rfl
    dsimp! [fn0,q4j]
    refine ⟨by decide,⟨big (by omega),big (by omega)⟩,big (by omega),big (by omega),?_⟩
    exact hK _ _ (last _ (by rw [Fm.tx,if_neg ne]))
def wfs(tr:List ((Str×Fm)×PV))(w:Str):List Fm:=(tr.filter fun t=>decide (t.1.1=w)).map (·.1.2)
def upF(fs:List Fm):Prop:=fs.Pairwise fun f g=>¬g.tx.cps.toList<f.tx.cps.toList
structure Bok(tr:List ((Str×Fm)×PV)):Prop where
 len:tr.length<=60
 ok:∀t∈tr,t.1.2.nb/\t.1.2.lv<=6
def FosG(sp:Den):Prop:=∀(x y:PV)(tr:List ((Str×Fm)×PV))(w:Str)(S:q0b)(E:EK)(Q:VC),Bok tr->(∃t∈tr,t.1.1=w)->
 (∀(q:Nat)(fs:List Fm) S',fs.Perm (wfs tr w)->upF fs->S.length<=q->S'[q]?=some (.lst (fs.map Fm.pv))->Ex [] S S'->Q (.ref q) S')->sp [bkP x y tr,.str w] S E Q
theorem x3s{sr ss:Den}(hr:x4j sr)(hs:ShoG ss 6):FosG (fnP 2 2 (q1q sr ss)):=by
 intro x y tr w S E Q bo hex h
 refine⟨rfl,?_⟩
 unfold q1q
 dsimp![true_and]
 refine hr x y tr w _ _ _ (by have:=bo.len;omega) hex fun q S1 hq hx=>?_
 have hl:(tr.filter fun t=>decide (t.1.1=w)).length<=60:=Q1l (List.length_filter_le _ _) bo.len
 have hin:∀t∈tr.filter fun t=>decide (t.1.1=w),t.1.2.nb/\t.1.2.lv<=6:=fun t ht=>bo.ok t (Q4i.mp ht).1
 have hwf:wfs tr w=(tr.filter fun t=>decide (t.1.1=w)).map (·.1.2):=rfl
 generalize (tr.filter fun t=>decide (t.1.1=w))=us at hq hl hin hwf ⊢
 dsimp![q0c hq]
 refine⟨big (by simp;omega),?_⟩
 refine q6u ftP us (fun a ys σ S2=>S2=S1/\(∃j0 j1,σ=[j0,j1])/\ys=(a.map (·.1.2)).map Fm.pv) ?_ ?_ _ _ ⟨rfl,⟨none,none,rfl⟩,rfl⟩
 ·rintro ys σ S2 ⟨rfl,⟨j0,j1,rfl⟩,rfl⟩
  refine⟨q0c hq,?_⟩
  rw[<-hwf]
  have gl:∀f∈wfs tr w,f.nb/\f.lv<=6:=fun f hf=>by
   rw[hwf]at hf
   obtain⟨t,ht,rfl⟩:=Q0p.mp hf
   exact hin t ht
  have fl:(wfs tr w).length<=60:=by rw[hwf,Q0q];exact hl
  have gn:=q0f S2 (.lst ((wfs tr w).map Fm.pv))
  refine⟨S2.length,(wfs tr w).map Fm.pv,(wfs tr w).map Fm.tx,rfl,q0c gn,by simp;omega,by simp,fun i v k e1 e2=>?_,fun ps hp hu=>?_⟩
  ·rw[Q1z]at e1 e2
   obtain⟨f,hf,rfl⟩:=Q2h.mp e1
   rw[hf]at e2
   cases e2
   obtain⟨f1,f2⟩:=gl f (Q3g hf)
   exact hs f f1 f2 _ _ _ ⟨rfl,rfl⟩
  ·have hz:((wfs tr w).map Fm.tx).zip ((wfs tr w).map Fm.pv)=(wfs tr w).map fun f=>(f.tx,f.pv):=by
    rw[List.zip_map']
   rw[hz]at hp
   obtain⟨fs,h1,rfl⟩:=q5o (fun f:Fm=>(f.tx,f.pv)) hp _ rfl
   refine h _ fs _ h1 ?_ ?_ ?_ ((hx.app _).app _)
   ·exact Q5x.mp hu
   ·have:=hx.1;simp;omega
   ·rw[q0f,Q3v];rfl
 ·rintro a t bb hab ys σ S2 ⟨rfl,⟨j0,j1,rfl⟩,rfl⟩ N hN
  refine⟨q0c hq,?_⟩
  dsimp![ftP]
  exact hN _ _ _ ⟨rfl,⟨_,_,rfl⟩,by simp⟩
theorem x5l{a b f:Fm}{s:Str}(h:mdL a b=some (s,f)):(s=Q0j ">" /\a=.n false f b)\/(s=Q0j ">>" /\∃x y z,a=.n false x y/\b=.n false y z/\f=.n false x z):=by
 cases a with
 |b t=>cases h
 |n l x y=>
  cases l with
  |true=>cases h
  |false=>
   by_cases z:y=b
   ·simp only[mdL,if_pos z]at h
    cases h
    exact .inl ⟨rfl,by rw[z]⟩
   ·cases b with
    |b t=>simp only[mdL,if_neg z]at h;cases h
    |n m u v=>
     cases m with
     |true=>simp only[mdL,if_neg z]at h;cases h
     |false=>
      by_cases z2:y=u
      ·simp only[mdL,if_neg z,if_pos z2]at h
       cases h
       exact .inr ⟨rfl,x,y,v,rfl,by rw[z2],rfl⟩
      ·simp only[mdL,if_neg z,if_neg z2]at h;cases h
theorem x5k{a b f:Fm}{s:Str}(h:mdR a b=some (s,f)):(s=Q0j "<" /\b=.n true f a)\/(s=Q0j "<<" /\∃x y z,a=.n true y z/\b=.n true x y/\f=.n true x z):=by
 cases b with
 |b t=>cases h
 |n l x y=>
  cases l with
  |false=>cases h
  |true=>
   by_cases z:y=a
   ·simp only[mdR,if_pos z]at h
    cases h
    exact .inl ⟨rfl,by rw[z]⟩
   ·cases a with
    |b t=>simp only[mdR,if_neg z]at h;cases h
    |n m u v=>
     cases m with
     |false=>simp only[mdR,if_neg z]at h;cases h
     |true=>
      by_cases z2:y=u
      ·simp only[mdR,if_neg z,if_pos z2]at h
       cases h
       exact .inr ⟨rfl,x,y,v,by rw[z2],rfl,rfl⟩
      ·simp only[mdR,if_neg z,if_neg z2]at h;cases h
theorem mdc{a b f:Fm}{s:Str}(h:md a b=some (s,f)):(s=Q0j ">" /\a=.n false f b)\/(s=Q0j ">>" /\∃x y z,a=.n false x y/\b=.n false y z/\f=.n false x z)\/(s=Q0j "<" /\b=.n true f a)\/(s=Q0j "<<" /\∃x y z,a=.n true y z/\b=.n true x y/\f=.n true x z):=by
 unfold md at h
 rcases Option.or_eq_some_iff.mp h with e|⟨_,e⟩
 ·rcases x5l e with z|z
  ·exact .inl z
  ·exact .inr (.inl z)
 ·rcases x5k e with z|z
  ·exact .inr (.inr (.inl z))
  ·exact .inr (.inr (.inr z))
def ndP(u:Rd×Tri):PV:=.tup [u.1.pv,triP u.2]
theorem nd1(u:Rd×Tri)(S:q0b)(Q:VC):bIx (ndP u) (.int 1) S Q=Q (triP u.2) S:=rfl
def q2c(spLparts:Den):WS:=
 (wSeq (wIfS (q0k (wBin cEq (wBin bIx (wVar 0) (wC (.int 0))) (wC (.str "basic"))))
 (wRet (wLst (q0a (wVar 0) wNil)))
 q0z)
 (wRet (wBin bAdd (wBin bAdd (wLst (q0a (wVar 0) wNil)) (q0h spLparts (q0a (wBin bIx (wVar 0) (wC (.int 1))) wNil))) (q0h spLparts (q0a (wBin bIx (wVar 0) (wC (.int 2))) wNil)))))
def q0t(spforms_of:Den):WS:=
 (wSeq (wSet 2 (wLst wNil))
 (wSeq (wFor (q7r (wVar 1)) (q2w 2 (q0j (q0e 3) (q0j (q0e 4) q2x))) (y1h (q2f (wBM "list" q0x (wVar 2) (q0a (q0h spforms_of (q0a (wVar 0) (q0a (wVar 4) wNil))) wNil)))))
 (wRet (wVar 2))))
def q1i:WS:=
 (wRet (q9d (q4g (q0a (wC (.int 1)) (q0a (wBin bAdd (wVar 0) (wC (.int 1))) wNil))) [none,none,some 0] (q0e 0) (q1d (q0a (wBin bSub (wBin bAdd (wVar 2) (wC (.int 1))) (wVar 0)) wNil)) (q0e 1) (wTup (q0a (wVar 1) (q0a (wBin bAdd (wVar 1) (wVar 0)) wNil)))))
def q1b:WS:=
 (wRet (wTup (q0a (wBin bIx (wVar 0) (wC (.int 1))) (q0a (wTix [(Q0j ">"),(Q0j "<"),(Q0j ">>"),(Q0j "<<")] (q0a (wBin bIx (wVar 0) (wC (.int 0))) wNil)) wNil))))
def q0r(spmade:Den)(spshow_form:Den)(sprank_of_way:Den):WS:=
 (wSeq (wSet 3 z1h)
 (wSeq (wFor (q4g (q0a (wBin bAdd (wVar 1) (wC (.int 1))) (q0a (wVar 2) wNil))) (q0e 4) (wFor (q1v (wBin bIxN (wVar 0) (wTup (q0a (wVar 1) (q0a (wVar 4) wNil))))) (q0e 5) (wFor (q1v (wBin bIxN (wVar 0) (wTup (q0a (wVar 4) (q0a (wVar 2) wNil))))) (q0e 6) (wSeq (wSet 7 (q0h spmade (q0a (wVar 5) (q0a (wVar 6) wNil))))
 (wIfS (q0k (wBin q7p (wVar 7) (wC .non)))
 (wSeq (wAsg (wVar 7) (q2w 2 (q0j (q0e 8) (q0j (q0e 9) q2x))))
 (wSeq (wSet 10 (wBM "dict" q4c (wVar 3) (q0a (q0h spshow_form (q0a (wVar 9) wNil)) (q0a (wTup (q0a (wVar 9) (q0a (wLst wNil) wNil))) wNil))))
 (q2f (wBM "list" q0x (wBin bIx (wVar 10) (wC (.int 1))) (q0a (wTup (q0a (wVar 8) (q0a (wVar 4) (q0a (wVar 5) (q0a (wVar 6) wNil))))) wNil)))))
 q0z)))))
 (wRet (q2l (q1v (wCB z0o (q0a (wVar 3) wNil))) [none,some 3] (q0e 0) q1n (wTup (q0a (wBin bIx (wBin bIxD (wVar 1) (wVar 0)) (wC (.int 0))) (q0a (z6h sprank_of_way (wBin bIx (wBin bIxD (wVar 1) (wVar 0)) (wC (.int 1)))) wNil)))))))
def q2o(spforms_of_words:Den)(spstretches:Den)(sprows_of_stretch:Den):WS:=
 (wSeq (wSet 2 (q0h spforms_of_words (q0a (wVar 0) (q0a (wVar 1) wNil))))
 (wSeq (wSet 3 z1h)
 (wSeq (wSet 4 (wLst wNil))
 (wSeq (wFor (q1v (q0h spstretches (q0a (wCB fLen (q0a (wVar 1) wNil)) wNil))) (q2w 2 (q0j (q0e 5) (q0j (q0e 6) q2x))) (wSeq (wIfS (q0k (wBin cEq (wVar 6) (wBin bAdd (wVar 5) (wC (.int 1)))))
 (wSet 7 (q2l (q1v (wBin bIx (wVar 2) (wVar 5))) [none] (q0e 0) q1n (wTup (q0a (wVar 0) (q0a (wLst wNil) wNil)))))
 (wSet 7 (q0h sprows_of_stretch (q0a (wVar 3) (q0a (wVar 5) (q0a (wVar 6) wNil))))))
 (wSeq (wAsg (q2l (q1v (wVar 7)) [none,none] (q2w 2 (q0j (q0e 0) (q0j (q0e 1) q2x))) q1n (wVar 0)) (z4k (wVar 3) (wTup (q0a (wVar 5) (q0a (wVar 6) wNil))) z7q))
 (q2f (wBM "list" q5a (wVar 4) (q0a (q2l (q1v (wVar 7)) [none,none,some 5,some 6] (q2w 2 (q0j (q0e 0) (q0j (q0e 1) q2x))) q1n (wTup (q0a (wVar 2) (q0a (wVar 3) (q0a (wVar 0) (q0a (wVar 1) wNil)))))) wNil))))))
 (wRet (wVar 4))))))
def q3s(spLmade:Den)(spLnumbers:Den)(spLparts:Den)(spchart:Den):WS:=
 (wSeq (wAsg (q0h spLmade (q0a (q0h spLnumbers (q0a (wVar 0) wNil)) (q0a (wC (.int 6)) (q0a (wC (.int 1)) wNil)))) (q2w 5 (q0j (q0e 1) (q0j (q0e 2) (q0j (q0e 3) (q0j (q0e 4) (q0j (q0e 5) q2x)))))))
 (wSeq (wSet 6 z1h)
 (wSeq (wFor (q1v (wVar 2)) (q0e 7) (wFor (q1v (wBin bIxD (wVar 3) (wVar 7))) (q0e 8) (wFor (q1v (q0h spLparts (q0a (wVar 8) wNil))) (q0e 9) (wAsg (wC (.bl true)) (z4k (wVar 6) (wVar 9) z7q)))))
 (wSeq (wFor (q1v (q0h spchart (q0a (wVar 1) (q0a (wVar 2) wNil)))) (q2w 4 (q0j (q0e 10) (q0j (q0e 11) (q0j (q0e 8) (q0j (q0e 12) q2x))))) (wIfS (q0k (wBin (cInN true) (wVar 8) (wVar 6)))
 (wIfS (wOr (q0k (wBin cEq (wBin bIx (wVar 8) (wC (.int 0))) (wC (.str "basic")))) (wOr (q0k (wBin (cInN true) (wBin bIx (wVar 8) (wC (.int 1))) (wVar 6))) (q0k (wBin (cInN true) (wBin bIx (wVar 8) (wC (.int 2))) (wVar 6)))))
 (wRet (wC (.bl false)))
 q0z)
 q0z))
 (wRet (wC (.bl true)))))))
def prP(p:Nat×Nat):PV:=.tup [.int (p.1:Nat),.int (p.2:Nat)]
def stl(n:Nat):List Nat->List (Nat×Nat)
 |[]=>[]
 |l::r=>((Q1q (n-l)).map fun i=>(i,i+(l+1)))++stl n r
theorem y4t(i n:Nat):rngP (i:Int) n=((Q1q n).map (·+i)).map iN:=by
 unfold rngP iN
 rw[Q3v]
 exact Q3y fun j _=>by simp[Q6c];omega
theorem z4e{chk:q0b->Prop}{Z:List PV->Ev.Loc->q0b->Prop}{S:q0b}{a:Nat}{jn:Option PV}(hc:chk S):∀(xs:List Nat)(ys:List PV)(j1:Option PV),ys.length+xs.length<=1000->(∀j1',Z (ys++xs.map fun i=>prP (i,i+a)) [some (.int (a:Nat)),j1',jn] S)->
  c2In chk (q0e 1) (wTup (q0a (wVar 1) (q0a (wBin bAdd (wVar 1) (wVar 0)) wNil))) Z (xs.map iN) ys [some (.int (a:Nat)),j1,jn] S
 |[],ys,j1,_,h=>⟨hc,by simpa using h j1⟩
 |x::xs,ys,j1,hl,h=>by
  refine⟨hc,big (by simp at hl;omega),fun ys' σ' S'=>c2In chk (q0e 1) (wTup (q0a (wVar 1) (q0a (wBin bAdd (wVar 1) (wVar 0)) wNil))) Z (xs.map iN) ys' σ' S',fun _ _ _ z=>z,?_⟩
  dsimp![iN]
  refine⟨big (by decide),?_⟩
  have:=z4e hc xs (ys++[prP (x,x+a)]) (some (.int (x:Nat))) (by simp at hl ⊢;omega) fun j1'=>by
   have:=h j1'
   simpa using this
  simpa[prP]using this
theorem z4f{Q:VC}{S:q0b}{n:Nat}(hn:n<=10):∀(ls:List Nat)(ys:List PV)(j0 j1:Option PV),(∀l∈ls,l<n)->ys.length+20*ls.length<=500->Q (.ref S.length) (S++[.lst (ys++(stl n ls).map prP)])->
  c2Go (fun _=>True) (q0e 0) (q1d (q0a (wBin bSub (wBin bAdd (wVar 2) (wC (.int 1))) (wVar 0)) wNil)) (q0e 1) (wTup (q0a (wVar 1) (q0a (wBin bAdd (wVar 1) (wVar 0)) wNil))) Q ((ls.map (·+1)).map iN) ys [j0,j1,some (.int (n:Nat))] S
 |[],ys,j0,j1,_,hl,h=>⟨trivial,big (by simp at hl;omega),by simpa[stl]using h⟩
 |l::r,ys,j0,j1,hm,hl,h=>by
  have hln:=hm l (by simp)
  refine⟨trivial,fun ys' σ' S'=>c2Go (fun _=>True) (q0e 0) (q1d (q0a (wBin bSub (wBin bAdd (wVar 2) (wC (.int 1))) (wVar 0)) wNil)) (q0e 1) (wTup (q0a (wVar 1) (q0a (wBin bAdd (wVar 1) (wVar 0)) wNil))) Q ((r.map (·+1)).map iN) ys' σ' S',fun _ _ _ z=>z,?_⟩
  dsimp![iN]
  have e:(((n:Nat):Int)+1-((l+1:Nat):Int)).toNat=n-l:=by omega
  refine⟨⟨by omega,by omega⟩,?_⟩
  rw[e,z7t]
  refine z4e trivial _ _ _ (by simp at hl ⊢;omega) fun j1'=>?_
  refine z4f hn r _ _ _ (fun k hk=>hm k (by simp[hk])) (by simp at hl ⊢;omega) ?_
  rw[stl,Q1w,Q3v]at h
  rw[Q1n]
  exact h
def StrD(sp:Den):Prop:=∀(n:Nat)(S:q0b)(E:EK)(Q:VC),n<=10->Q (.ref S.length) (S++[.lst ((stl n (Q1q n)).map prP)])->sp [.int (n:Nat)] S E Q
theorem x0i:StrD (fnP 1 1 q1i):=by
 intro n S E Q hn h
 refine⟨rfl,?_⟩
 unfold q1i
 dsimp![true_and]
 refine⟨⟨by decide,by decide,by omega,by omega⟩,?_⟩
 rw[show((n:Nat):Int)+1-1=((n:Nat):Int) by omega,Q2i,show(1:Int)=((1:Nat):Int)from rfl,y4t]
 exact z4f hn _ _ _ _ (fun l hl=>by simpa using hl) (by simp;omega) (by simpa using h)
structure Wy where
 s:Str
 k:Nat
 l:Fm
 r:Fm
def Wy.pv(w:Wy):PV:=.tup [.str w.s,.int (w.k:Nat),w.l.pv,w.r.pv]
def RnkD(sp:Den):Prop:=∀(w:Wy)(S:q0b)(E:EK)(Q:VC),w.s∈sgs->(∀a b:Int,Q (.tup [.int a,.int b]) S)->sp [w.pv] S E Q
theorem x0z:RnkD (fnP 1 1 q1b):=by
 intro w S E Q hs h
 refine⟨rfl,?_⟩
 unfold q1b
 dsimp![Wy.pv]
 exact⟨w.s,rfl,hs,big (by decide),h _ _⟩
def FwsD(sp:Den):Prop:=∀(x y:PV)(tr:List ((Str×Fm)×PV))(ws:List Str)(S:q0b)(E:EK)(Q:VC),Bok tr->(∀w∈ws,∃t∈tr,t.1.1=w)->ws.length<=10->
 (∀(q:Nat)(cs:List (Nat×List Fm)) S',S.length<=q->S'[q]?=some (.lst (cs.map fun c=>PV.ref c.1))->cs.length=ws.length->(∀(i:Nat) c w,cs[i]?=some c->ws[i]?=some w->c.2.Perm (wfs tr w)/\S'[c.1]?=some (.lst (c.2.map Fm.pv))/\S.length<=c.1)->Ex [] S S'->Q (.ref q) S')->sp [bkP x y tr,.tup (ws.map PV.str)] S E Q
theorem x3o{sf:Den}(hf:FosG sf):FwsD (fnP 2 5 (q0t sf)):=by
 intro x y tr ws S E Q bo hex hw h
 refine⟨rfl,?_⟩
 unfold q0t
 refine seqI fun K hK=>?_
 dsimp![true_and]
 refine⟨big (by decide),hK _ _ ?_⟩
 clear hK
 refine seqI fun K hK=>?_
 dsimp![true_and]
 have key:∀(i:Nat)(xs:List Str),enmP (i:Int) (xs.map PV.str)=(xs.zipIdx i).map fun p=>PV.tup [.int (p.2:Nat),.str p.1]:=by
  intro i xs
  induction xs generalizing i with
  |nil=>rfl
  |cons a xs ih=>simp only[Q0v,enmP,Q7j];rw[show(i:Int)+1=((i+1:Nat):Int) by omega,ih]
 rw[show(0:Int)=((0:Nat):Int)from rfl,key]
 refine forM (fun p:Str×Nat=>PV.tup [.int (p.2:Nat),.str p.1]) _ (fun a σ S1=>∃(cs:List (Nat×List Fm))(j3 j4:Option PV),σ=[some (bkP x y tr),some (.tup (ws.map PV.str)),some (.ref S.length),j3,j4]/\S1[S.length]?=some (.lst (cs.map fun c=>PV.ref c.1))/\cs.length=a.length/\
  (∀(i:Nat) c w,cs[i]?=some c->ws[i]?=some w->c.2.Perm (wfs tr w)/\S1[c.1]?=some (.lst (c.2.map Fm.pv))/\S.length<c.1)/\Ex [] S S1) ?_ ?_ _ _ ⟨[],none,none,rfl,q0f _ _,rfl,fun i c w e=>by simp at e,Ex.new _ _ _⟩
 ·rintro σ S1 ⟨cs,j3,j4,rfl,h1,h2,h3,h4⟩
  refine⟨trivial,hK _ _ ?_⟩
  dsimp![true_and]
  exact h _ cs _ (Q0k _) h1 (by rw[h2,List.length_zipIdx]) (fun i c w a b=>by obtain⟨z1,z2,z3⟩:=h3 i c w a b;exact⟨z1,z2,by omega⟩) h4
 ·rintro a u b hab σ S1 ⟨cs,j3,j4,rfl,h1,h2,h3,h4⟩ N hN
  have hu:(ws.zipIdx 0)[a.length]?=some u:=by rw[hab];simp
  rw[List.getElem?_zipIdx]at hu
  obtain⟨w,hw1,hw2⟩:=Q2h.mp hu
  subst hw2
  refine⟨trivial,?_⟩
  dsimp![q0c h1]
  refine⟨by rw[h1],hf x y tr w _ _ _ bo (hex w (Q3g hw1)) fun q fs S2 p1 _ p2 p3 p4=>?_⟩
  have g1:=p4.get h1 (by simp)
  have l1:=q0d h1
  have cl:cs.length<=10:=by have:=(Q0s.mp hw1).1;omega
  simp only[q0m g1]
  refine⟨big (by simp;omega),hN _ _ ⟨cs++[(q,fs)],_,_,rfl,?_,by simp[h2],fun i c w' e1 e2=>?_,(h4.trans p4).set (.inr (Q0k _))⟩⟩
  ·rw[Q1o (q0d g1)];simp
  ·rw[List.getElem?_append]at e1
   split at e1
   ·obtain⟨z1,z2,z3⟩:=h3 i c w' e1 e2
    exact⟨z1,by rw[Q1c (by omega)];exact p4.get z2 (by simp),z3⟩
   ·rename_i hi
    have hi2:i=cs.length:=by
     have:=(Q0s.mp e1).1
     simp at this;omega
    subst hi2
    simp at e1
    subst e1
    rw[h2,hw1]at e2
    cases e2
    exact⟨p1,by rw[Q1c (by omega)];exact p3,by omega⟩
theorem lv1:∀f:Fm,1<=f.lv
 |.b _=>Q0k _
 |.n _ x y=>by have:=lv1 x;simp only[Fm.lv];omega
theorem z0s:∀f:Fm,f.dp<=f.lv
 |.b _=>by simp[Fm.dp,Fm.lv]
 |.n _ x y=>by
  have:=z0s x;have:=z0s y;have:=lv1 x;have:=lv1 y
  simp only[Fm.dp,Fm.lv];omega
structure Gd(f:Fm):Prop where
 nb:f.nb
 sz:f.lv<=6\/∃b x z,f=.n b x z/\x.lv<=5/\z.lv<=5
theorem Gd.lv{f:Fm}(h:Gd f):f.lv<=10:=by
 rcases h.sz with z|⟨b,x,z,rfl,h1,h2⟩
 ·omega
 ·simp only[Fm.lv];omega
theorem Gd.dp{f:Fm}(h:Gd f):f.dp<=6:=by
 rcases h.sz with z|⟨b,x,z,rfl,h1,h2⟩
 ·have:=z0s f;omega
 ·have:=z0s x;have:=z0s z;simp only[Fm.dp];omega
theorem Gd.lr{b:Bool}{x z:Fm}(h:Gd (.n b x z)):x.nb/\z.nb/\x.lv<=5/\z.lv<=5:=by
 refine⟨h.nb.1,h.nb.2,?_⟩
 rcases h.sz with w|⟨b',x',z',e,h1,h2⟩
 ·have:=lv1 x;have:=lv1 z
  simp only[Fm.lv]at w;omega
 ·cases e;exact⟨h1,h2⟩
theorem x5j{a b f:Fm}{s:Str}(ha:Gd a)(hb:Gd b)(h:md a b=some (s,f)):Gd f/\s∈sgs:=by
 rcases mdc h with⟨rfl,rfl⟩|⟨rfl,x,y,z,rfl,rfl,rfl⟩|⟨rfl,rfl⟩|⟨rfl,x,y,z,rfl,rfl,rfl⟩
 ·exact⟨⟨ha.lr.1,.inl (by have:=ha.lr.2.2.1;omega)⟩,by simp[sgs]⟩
 ·exact⟨⟨⟨ha.lr.1,hb.lr.2.1⟩,.inr ⟨_,_,_,rfl,ha.lr.2.2.1,hb.lr.2.2.2⟩⟩,by simp[sgs]⟩
 ·exact⟨⟨hb.lr.1,.inl (by have:=hb.lr.2.2.1;omega)⟩,by simp[sgs]⟩
 ·exact⟨⟨⟨hb.lr.1,ha.lr.2.1⟩,.inr ⟨_,_,_,rfl,hb.lr.2.2.1,ha.lr.2.2.2⟩⟩,by simp[sgs]⟩
def TxI:Prop:=∀f g:Fm,Gd f->Gd g->f.tx=g.tx->f=g
structure En where
 f:Fm
 n:Nat
 ws:List Wy
def kvR(e:En):Key×PV:=(.inr e.f.tx,.tup [e.f.pv,.ref e.n])
theorem y9z{t:Str}:∀{es:List En},t∉es.map (fun e=>e.f.tx)->valP (es.map kvR) (.inr t)=none
 |[],_=>rfl
 |e::es,h=>by
  simp only[Q0v,Q1b,not_or]at h
  rw[Q0v,q4i,if_neg (by simp only[kvR,Q4k.injEq];exact fun z=>h.1 z.symm)]
  exact y9z h.2
theorem z2w{e:En}:∀{es:List En},(es.map fun e=>e.f.tx).Nodup->e∈es->valP (es.map kvR) (.inr e.f.tx)=some (.tup [e.f.pv,.ref e.n])
 |x::es,nd,h=>by
  rw[Q0v,q4i]
  rw[Q0v,Q1r]at nd
  rcases Q1b.mp h with rfl|h
  ·rw[if_pos (show(kvR e).1=Q4k e.f.tx from rfl)];rfl
  ·rw[if_neg (by simp only[kvR,Q4k.injEq];exact fun z=>nd.1 (by rw[z];exact Q0p.mpr ⟨e,h,rfl⟩))]
   exact z2w nd.2 h
theorem x4z{t:Str}{v:PV}{es:List En}(h:t∉es.map (fun e=>e.f.tx)):putP (es.map kvR) (.inr t) v=es.map kvR++[(.inr t,v)]:=by
 unfold putP
 rw[if_neg]
 intro z
 simp only[Q6d,Q0p,decide_eq_true_eq]at z
 obtain⟨_,⟨e,he,rfl⟩,e2⟩:=z
 simp only[kvR,Q4k.injEq]at e2
 exact h (Q0p.mpr ⟨e,he,e2⟩)
structure Fnd(lo fd:Nat)(src:Wy->Prop)(c:Nat)(es:List En)(S:q0b):Prop where
 dic:S[fd]?=some (.dK (es.map kvR))
 lo1:lo<=fd
 nd:(es.map fun e=>e.f.tx).Nodup
 rf:(fd::es.map (·.n)).Nodup
 lo2:∀e∈es,lo<=e.n
 lst:∀e∈es,S[e.n]?=some (.lst (e.ws.map Wy.pv))
 gd:∀e∈es,Gd e.f
 wit:∀e∈es,∃w,src w/\md w.l w.r=some (w.s,e.f)
 way:∀e∈es,e.ws≠[]/\∀w∈e.ws,w.s∈sgs/\src w/\(TxI->md w.l w.r=some (w.s,e.f))
 len:es.length<=c/\∀e∈es,e.ws.length<=c
theorem Fnd.up{lo fd c c':Nat}{src:Wy->Prop}{es:List En}{S:q0b}(h:Fnd lo fd src c es S)(hc:c<=c'):Fnd lo fd src c' es S:=
 ⟨h.dic,h.lo1,h.nd,h.rf,h.lo2,h.lst,h.gd,h.wit,h.way,by have:=h.len.1;omega,fun e he=>by have:=h.len.2 e he;omega⟩
theorem Fnd.ex{lo fd c:Nat}{src:Wy->Prop}{es:List En}{S S':q0b}(h:Fnd lo fd src c es S)(x:Ex [] S S'):Fnd lo fd src c es S':=
 ⟨x.get h.dic (by simp),h.lo1,h.nd,h.rf,h.lo2,fun e he=>x.get (h.lst e he) (by simp),h.gd,h.wit,h.way,h.len⟩
theorem z8s{α β:Type}{f:α->β}:∀{l:List α}{a b:α},(l.map f).Nodup->a∈l->b∈l->f a=f b->a=b
 |x::l,a,b,nd,ha,hb,e=>by
  rw[Q0v,Q1r]at nd
  cases ha with
  |head=>cases hb with
   |head=>rfl
   |tail _ hb=>exact absurd (Q0p.mpr ⟨b,hb,e.symm⟩) nd.1
  |tail _ ha=>cases hb with
   |head=>exact absurd (Q0p.mpr ⟨a,ha,e⟩) nd.1
   |tail _ hb=>exact z8s nd.2 ha hb e
section
variable{lo fd c:Nat}{src:Wy->Prop}{es:List En}{S:q0b}
theorem Fnd.lt(h:Fnd lo fd src c es S){e:En}(he:e∈es):e.n<S.length:=q0d (h.lst e he)
theorem Fnd.ne(h:Fnd lo fd src c es S){e:En}(he:e∈es):e.n≠fd:=fun z=>(Q1r.mp h.rf).1 (Q0p.mpr ⟨e,he,z⟩)
theorem Fnd.new(h:Fnd lo fd src c es S){f:Fm}{w:Wy}(hf:f.tx∉es.map fun e=>e.f.tx)(gf:Gd f)(hw:src w)(hs:w.s∈sgs)(hm:md w.l w.r=some (w.s,f))(hl:lo<=S.length) :
  Fnd lo fd src (c+1) (es++[⟨f,S.length,[w]⟩]) (((S++[SO.lst []]).set fd (SO.dK (es.map kvR++[((Q4k f.tx:Key),PV.tup [f.pv,PV.ref S.length])]))).set S.length (SO.lst [w.pv])):=by
 have lf:=q0d h.dic
 have sp:∀{P:En->Prop},(∀e∈es,P e)->P ⟨f,S.length,[w]⟩->∀e∈es++[⟨f,S.length,[w]⟩],P e:=fun {P} a b e he=>by
  rcases Q0n.mp he with he|he
  ·exact a e he
  ·rw[Q0i.mp he];exact b
 refine⟨?_,h.lo1,?_,?_,sp h.lo2 hl,sp (fun e he=>?_) ?_,sp h.gd gf,sp h.wit ⟨w,hw,hm⟩,sp h.way ⟨by simp,fun v hv=>?_⟩,by have:=h.len.1;simp;omega,sp (fun e he=>by have:=h.len.2 e he;omega) (by simp)⟩
 ·rw[Q1c (by omega),Q1o (by simp;omega)]
  simp[kvR]
 ·rw[Q1w,Q2t]
  refine⟨h.nd,by simp,fun a ha b hb=>?_⟩
  simp at hb
  subst hb
  exact fun z=>hf (by rw[<-z];exact ha)
 ·have:=Q1r.mp h.rf
  rw[Q1r,Q1w,Q0n,Q2t]
  refine⟨fun z=>?_,this.2,by simp,fun a ha b hb=>?_⟩
  ·rcases z with z|z
   ·exact this.1 z
   ·simp at z;omega
  ·simp at hb
   obtain⟨e,he,rfl⟩:=Q0p.mp ha
   have:=h.lt he
   omega
 ·have l1:=h.lt he
  rw[Q1c (by omega),Q1c (Q4a (h.ne he)),Q0o l1]
  exact h.lst e he
 ·rw[Q1o (by simp)];rfl
 ·simp at hv
  subst hv
  exact⟨hs,hw,fun _=>hm⟩
def En.add(m:Nat)(w:Wy)(e:En):En:=if e.n=m then {e with ws:=e.ws++[w]}else e
theorem En.add_f(m:Nat)(w:Wy)(e:En):(e.add m w).f=e.f:=by unfold En.add;split<;>rfl
theorem En.add_n(m:Nat)(w:Wy)(e:En):(e.add m w).n=e.n:=by unfold En.add;split<;>rfl
theorem Fnd.old(h:Fnd lo fd src c es S){f:Fm}{w:Wy}{e:En}(he:e∈es)(ht:e.f.tx=f.tx)(gf:Gd f)(hw:src w)(hs:w.s∈sgs)(hm:md w.l w.r=some (w.s,f)) :
  Fnd lo fd src (c+1) (es.map (En.add e.n w)) ((S++[SO.lst []]).set e.n (SO.lst (e.ws.map Wy.pv++[w.pv]))):=by
 have lf:=q0d h.dic
 have le:=h.lt he
 have n2:=(Q1r.mp h.rf).2
 have m1:(es.map (En.add e.n w)).map (fun e=>e.f.tx)=es.map fun e=>e.f.tx:=by rw[Q3v];exact Q3y fun x _=>by simp[Q6c,En.add_f]
 have m2:(es.map (En.add e.n w)).map (·.n)=es.map (·.n):=by rw[Q3v];exact Q3y fun x _=>by simp[Q6c,En.add_n]
 have m3:(es.map (En.add e.n w)).map kvR=es.map kvR:=by rw[Q3v];exact Q3y fun x _=>by simp[Q6c,kvR,En.add_f,En.add_n]
 have all:∀{P:En->Prop},(∀x∈es,P (x.add e.n w))->∀x∈es.map (En.add e.n w),P x:=fun {P} a x hx=>by
  obtain⟨y,hy,rfl⟩:=Q0p.mp hx
  exact a y hy
 have is:∀x∈es,x.n=e.n->x=e:=fun x hx z=>z8s n2 hx he z
 refine⟨?_,h.lo1,by rw[m1];exact h.nd,by rw[m2];exact h.rf,all fun x hx=>by rw[En.add_n];exact h.lo2 x hx,all fun x hx=>?_,all fun x hx=>by rw[En.add_f];exact h.gd x hx,all fun x hx=>by rw[En.add_f];exact h.wit x hx,all fun x hx=>?_,by have:=h.len.1;simp;omega,all fun x hx=>?_⟩
 ·rw[Q1c (h.ne he),m3,Q0o lf];exact h.dic
 ·by_cases z:x.n=e.n
  ·have:=is x hx z
   subst this
   rw[En.add_n,Q1o (by simp;omega)]
   simp[En.add]
  ·rw[En.add_n,Q1c (Q4a z),Q0o (h.lt hx)]
   simp only[En.add,if_neg z]
   exact h.lst x hx
 ·by_cases z:x.n=e.n
  ·have:=is x hx z
   subst this
   simp only[En.add,if_pos]
   refine⟨by simp,fun v hv=>?_⟩
   rcases Q0n.mp hv with hv|hv
   ·exact(h.way x hx).2 v hv
   ·rw[Q0i.mp hv]
    exact⟨hs,hw,fun T=>by rw[T x.f f (h.gd x hx) gf ht];exact hm⟩
  ·simp only[En.add,if_neg z]
   exact h.way x hx
 ·have:=h.len.2 x hx
  unfold En.add
  split
  ·simp;omega
  ·omega
end
def Kp(lo:Nat)(S S':q0b):Prop:=S.length<=S'.length/\∀i,i<lo->S'[i]?=S[i]?
theorem Kp.refl(lo:Nat)(S:q0b):Kp lo S S:=⟨Q0k _,fun _ _=>rfl⟩
theorem Kp.trans{lo:Nat}{A B C:q0b}(a:Kp lo A B)(b:Kp lo B C):Kp lo A C:=⟨Q1l a.1 b.1,fun i h=>(b.2 i h).trans (a.2 i h)⟩
theorem Kp.app{lo:Nat}{S S':q0b}(h:Kp lo S S')(hl:lo<=S.length)(xs:List SO):Kp lo S (S'++xs):=⟨by rw[Q0x];have:=h.1;omega,fun i hi=>by rw[Q0o (by have:=h.1;omega)];exact h.2 i hi⟩
theorem Kp.set{lo:Nat}{S S':q0b}(h:Kp lo S S'){n:Nat}(hn:lo<=n)(o:SO):Kp lo S (S'.set n o):=⟨by rw[Z3x];exact h.1,fun i hi=>by rw[Q1c (by omega)];exact h.2 i hi⟩
theorem Kp.get{lo:Nat}{S S':q0b}(h:Kp lo S S'){i:Nat}{o:SO}(hi:i<lo)(e:S[i]?=some o):S'[i]?=some o:=(h.2 i hi).trans e
def rosB(sm ss:Den):WS:=(wSeq (wSet 7 (q0h sm (q0a (wVar 5) (q0a (wVar 6) wNil))))
 (wIfS (q0k (wBin q7p (wVar 7) (wC .non)))
 (wSeq (wAsg (wVar 7) (q2w 2 (q0j (q0e 8) (q0j (q0e 9) q2x))))
 (wSeq (wSet 10 (wBM "dict" q4c (wVar 3) (q0a (q0h ss (q0a (wVar 9) wNil)) (q0a (wTup (q0a (wVar 9) (q0a (wLst wNil) wNil))) wNil))))
 (q2f (wBM "list" q0x (wBin bIx (wVar 10) (wC (.int 1))) (q0a (wTup (q0a (wVar 8) (q0a (wVar 4) (q0a (wVar 5) (q0a (wVar 6) wNil))))) wNil)))))
 q0z))
theorem y2k{sm ss:Den}(hm:y9q sm)(hs:ShoG ss 10){D:PEnds}{E:EK}{lo fd c k:Nat}{src:Wy->Prop}{es:List En}{S:q0b}{l r:Fm}{v0 v1 v2 j7 j8 j9 j10:Option PV}(F:Fnd lo fd src c es S)(hc:c<=900000)(hl:lo<=S.length)(gl:Gd l)(gr:Gd r)
  (hsrc:∀s f,md l r=some (s,f)->src ⟨s,k,l,r⟩) (hN:∀es' S' j7 j8 j9 j10,Fnd lo fd src (c+1) es' S'->Kp lo S S'->D.nx [v0,v1,v2,some (.ref fd),some (.int (k:Nat)),some l.pv,some r.pv,j7,j8,j9,j10] S') :
  rosB sm ss D E [v0,v1,v2,some (.ref fd),some (.int (k:Nat)),some l.pv,some r.pv,j7,j8,j9,j10] S:=by
 have p4:4<=Q0l:=big (by decide)
 unfold rosB
 refine seqI fun K hK=>?_
 dsimp![true_and]
 refine hm l r _ _ _ (by have:=gl.dp;omega) (by have:=gr.dp;omega) (hK _ _ ?_)
 clear hK
 cases hmd:md l r with
 |none=>
  dsimp![mdP]
  exact hN es S _ _ _ _ (F.up (by omega)) (.refl _ _)
 |some p=>
  obtain⟨s,f⟩:=p
  obtain⟨gf,hsg⟩:=x5j gl gr hmd
  dsimp![mdP]
  refine seqI fun K hK=>?_
  dsimp![true_and]
  refine hK _ _ ?_
  clear hK
  refine seqI fun K hK=>?_
  dsimp![true_and]
  have lf:=q0d F.dic
  have d1:(S++[SO.lst []])[fd]?=some (.dK (es.map kvR)):=by rw[Q0o lf];exact F.dic
  refine⟨by rw[F.dic],hs f gf.nb gf.lv _ _ _ ⟨big (by decide),big (by decide),fd,_,_,es.map kvR,.inr f.tx,rfl,rfl,d1,rfl,big (by have:=F.len.1;simp;omega),fun v hv=>hK _ _ ?_,fun hv=>hK _ _ ?_⟩⟩
  ·by_cases z:f.tx∈es.map fun e=>e.f.tx
   ·obtain⟨e,he,ht⟩:=Q0p.mp z
    rw[<-ht,z2w F.nd he]at hv
    cases hv
    have g1:(S++[SO.lst []])[e.n]?=some (.lst (e.ws.map Wy.pv)):=by rw[Q0o (F.lt he)];exact F.lst e he
    dsimp![x4h]
    simp only[g1,q0m g1]
    refine⟨trivial,p4,big (by have:=F.len.2 e he;simp;omega),?_⟩
    exact hN _ _ _ _ _ _ (F.old he ht gf (hsrc s f hmd) hsg hmd) (((Kp.refl _ _).app hl _).set (F.lo2 e he) _)
   ·rw[y9z z]at hv;cases hv
  ·have z:f.tx∉es.map fun e=>e.f.tx:=fun z=>by
    obtain⟨e,he,ht⟩:=Q0p.mp z
    rw[<-ht,z2w F.nd he]at hv;cases hv
   have g1:((S++[SO.lst []]).set fd (.dK (putP (es.map kvR) (.inr f.tx) (.tup [f.pv,.ref S.length]))))[S.length]?=some (.lst []):=by rw[Q1c (by omega)];simp
   dsimp![x4h]
   simp only[g1,q0m g1]
   refine⟨trivial,p4,big (by decide),?_⟩
   rw[x4z z]
   exact hN _ _ _ _ _ _ (F.new (w:=⟨s,k,l,r⟩) z gf (hsrc s f hmd) hsg hmd hl) ((((Kp.refl _ _).app hl _).set F.lo1 _).set hl _)
def bd:Nat->Nat
 |1=>5|2=>25|3=>250|4=>3125|5=>43750|6=>656250|_=>0
def smw(w:Nat):Nat->Nat
 |0=>0
 |t+1=>smw w t+bd (t+1)*bd (w-(t+1))
theorem y4n:∀w,w<=6->∀t,t<w->smw w t<=bd w:=by decide
theorem y9n:∀w,w<=6->bd w<=656250:=by decide
def pk(i j:Nat):KTr:=.tup [.int (i:Nat),.int (j:Nat)]
structure Cel(ce lo:Nat)(fo:Nat->Nat->List Fm)(dn:Nat->Nat->Prop)(S:q0b):Prop where
 is:∃kvs,S[ce]?=some (.dN kvs)/\∀a b,dn a b->∃n,valN kvs (pk a b)=some (.ref n)/\n<lo/\S[n]?=some (.lst ((fo a b).map Fm.pv))
 lt:ce<lo
theorem Cel.kp{ce lo:Nat}{fo:Nat->Nat->List Fm}{dn:Nat->Nat->Prop}{S S':q0b}(h:Cel ce lo fo dn S)(k:Kp lo S S'):Cel ce lo fo dn S':=by
 obtain⟨kvs,e,q⟩:=h.is
 refine⟨⟨kvs,k.get h.lt e,fun a b d=>?_⟩,h.lt⟩
 obtain⟨n,z1,z2,z3⟩:=q a b d
 exact⟨n,z1,z2,k.get z2 z3⟩
def q4v(fo:Nat->Nat->List Fm)(i j:Nat)(w:Wy):Prop:=i<w.k/\w.k<j/\w.l∈fo i w.k/\w.r∈fo w.k j
structure EnOk(src:Wy->Prop)(e:En):Prop where
 gd:Gd e.f
 wit:∃w,src w/\md w.l w.r=some (w.s,e.f)
 way:e.ws≠[]/\∀w∈e.ws,w.s∈sgs/\src w/\(TxI->md w.l w.r=some (w.s,e.f))
def enP(e:En):PV:=.tup [e.f.pv,.ref e.n]
def RosD(sp:Den):Prop:=∀(ce i j:Nat)(fo:Nat->Nat->List Fm)(S:q0b)(E:EK)(Q:VC),Cel ce S.length fo (fun a b=>i<=a/\a<b/\b<=j/\b-a<j-i) S->
 (∀a b,i<=a->a<b->b<=j->b-a<j-i->(∀f∈fo a b,Gd f)/\(fo a b).length<=bd (b-a))->i+2<=j->j<=i+6->j<=100->
 (∀(q:Nat)(es:List En) S',S.length<=q->S'[q]?=some (.lst (es.map enP))->(∀e∈es,EnOk (q4v fo i j) e/\S.length<=e.n/\S'[e.n]?=some (.lst (e.ws.map Wy.pv)))->es.length<=bd (j-i)->Kp S.length S S'->Q (.ref q) S')->
 sp [.ref ce,.int (i:Nat),.int (j:Nat)] S E Q
theorem tp0(a b:PV)(S:q0b)(Q:VC):bIx (.tup [a,b]) (.int 0) S Q=Q a S:=rfl
theorem tp1(a b:PV)(S:q0b)(Q:VC):bIx (.tup [a,b]) (.int 1) S Q=Q b S:=rfl
theorem x0y{sm ss sr:Den}(hm:y9q sm)(hs:ShoG ss 10)(hr:RnkD sr):RosD (fnP 3 11 (q0r sm ss sr)):=by
 intro ce i j fo S E Q hC hfo h1 h2 h3 h
 refine⟨rfl,?_⟩
 unfold q0r
 refine seqI fun K hK=>?_
 dsimp![true_and]
 refine hK _ _ ?_
 clear hK
 have F0:Fnd S.length S.length (q4v fo i j) 0 [] (S++[.dK []]):=⟨by simp,Q0k _,by simp,by simp,by simp,by simp,by simp,by simp,by simp,by simp⟩
 have K0:Kp S.length S (S++[.dK []]):=(Kp.refl _ _).app (Q0k _) _
 generalize S++[SO.dK []]=S0 at F0 K0
 refine seqI fun K hK=>?_
 dsimp![true_and]
 refine⟨⟨by omega,by omega,by omega,by omega⟩,?_⟩
 rw[show((i:Nat):Int)+1=((i+1:Nat):Int) by omega,show(((j:Nat):Int)-((i+1:Nat):Int)).toNat=j-i-1 by omega,y4t]
 refine forM iN _ (fun a σ S2=>∃es j4 j5 j6 j7 j8 j9 j10,σ=[some (.ref ce),some (.int (i:Nat)),some (.int (j:Nat)),some (.ref S.length),j4,j5,j6,j7,j8,j9,j10]/\Fnd S.length S.length (q4v fo i j) (smw (j-i) a.length) es S2/\Kp S.length S S2) ?_ ?_ _ _ ⟨[],_,_,_,_,_,_,_,rfl,F0,K0⟩
 ·rintro σ S2 ⟨es,j4,j5,j6,j7,j8,j9,j10,rfl,F2,K2⟩
  refine⟨trivial,hK _ _ ?_⟩
  clear hK
  have hc:smw (j-i) ((Q1q (j-i-1)).map (·+(i+1))).length<=bd (j-i):=by
   rw[Q0q,Q5w]
   exact y4n (j-i) (by omega) _ (by omega)
  have hc2:=y9n (j-i) (by omega)
  have el:es.length<=bd (j-i):=Q1l F2.len.1 hc
  have tx:∀l:List En,q6w (l.map kvR)=some (l.map fun e=>e.f.tx):=by
   intro l
   induction l with
   |nil=>rfl
   |cons e l ih=>rw[Q0v,Q0v];unfold kvR q6w;rw[show List.map (fun e:En=>((Q4k e.f.tx:Key),PV.tup [e.f.pv,PV.ref e.n])) l=l.map kvR from rfl,ih];rfl
  have hd:(z5t S2 S.length).bind q6w=some (es.map fun e=>e.f.tx):=by
   unfold z5t;rw[F2.dic];exact tx es
  dsimp![hd]
  intro ys hy
  obtain⟨es2,p2,rfl⟩:=q5o (fun e:En=>e.f.tx) hy es rfl
  have g3:=q0f S2 (.lst ((es2.map fun e=>e.f.tx).map PV.str))
  have x3:Ex [] S2 (S2++[.lst ((es2.map fun e=>e.f.tx).map PV.str)]):=Ex.new _ _ _
  generalize S2++[SO.lst ((es2.map fun e=>e.f.tx).map PV.str)]=S3 at g3 x3
  have l2:=p2.length_eq
  refine⟨big (by simp;omega),?_⟩
  rw[Q3v]at g3 ⊢
  have F3:=F2.ex x3
  refine q6u (fun e:En=>PV.str e.f.tx) es2 (fun a ys σ S4=>∃out:List En,ys=out.map enP/\out.length=a.length/\(∀e∈out,EnOk (q4v fo i j) e/\S.length<=e.n/\S4[e.n]?=some (.lst (e.ws.map Wy.pv)))/\Ex [] S3 S4/\∃j0,σ=[j0,some (.ref S.length)]) ?_ ?_ _ _ ⟨[],rfl,rfl,by simp,Ex.refl _ _,none,rfl⟩
  ·rintro ys σ S4 ⟨out,rfl,o1,o2,x4,j0,rfl⟩
   have k4:Kp S.length S S4:=⟨by have:=K2.1;have:=x3.1;have:=x4.1;omega,fun n hn=>by
    have:=K2.1;have:=x3.1
    rw [x4.2 n (by omega) (by simp),x3.2 n (by omega) (by simp)];exact K2.2 n hn⟩
   refine⟨q0c (x4.get g3 (by simp)),h S4.length out _ k4.1 (q0f _ _) (fun e he=>?_) (by omega) (k4.app (Q0k _) _)⟩
   obtain⟨z1,z2,z3⟩:=o2 e he
   exact⟨z1,z2,by rw[Q0o (q0d z3)];exact z3⟩
  ·rintro a e b hab ys σ S4 ⟨out,rfl,o1,o2,x4,j0,rfl⟩ N hN
   have he:e∈es:=p2.mem_iff.mp (by rw[hab];simp)
   have F4:=F3.ex x4
   have g4:=F4.lst e he
   have ix:∀{R:VC},R (.tup [e.f.pv,.ref e.n]) S4->bIxD (.ref S.length) (.str e.f.tx) S4 R:=fun hR=>⟨S.length,es.map kvR,.inr e.f.tx,_,rfl,.inl F4.dic,rfl,z2w F4.nd he,hR⟩
   refine⟨q0c (x4.get g3 (by simp)),?_⟩
   simp only[q0e,q1n,wTup,q0a,wBin,wVar,wC,wNil,z6h,List.getElem?_cons_zero,Z0z,List.set_cons_zero,List.set_cons_succ,if_pos]
   refine ix ?_
   rw[tp0]
   refine ix ?_
   rw[tp1]
   refine⟨e.n,e.ws.map Wy.pv,rfl,q0c g4,fun v hv=>?_,fun ys hy=>⟨big (show 2<=1000000 by decide),?_⟩⟩
   ·obtain⟨w,hw,rfl⟩:=Q0p.mp hv
    exact hr w _ _ _ ((F4.way e he).2 w hw).1 fun a b=>⟨⟨a,b,rfl⟩,rfl⟩
   ·obtain⟨ws',q1,rfl⟩:=q5o Wy.pv hy e.ws rfl
    refine hN _ _ _ ⟨out++[⟨e.f,S4.length,ws'⟩],by simp[enP],by simp[o1],fun x hx=>?_,x4.app _,_,rfl⟩
    rcases Q0n.mp hx with hx|hx
    ·obtain⟨z1,z2,z3⟩:=o2 x hx
     exact⟨z1,z2,by rw[Q0o (q0d z3)];exact z3⟩
    ·rw[Q0i.mp hx]
     obtain⟨y1,y2⟩:=F4.way e he
     refine⟨⟨F4.gd e he,F4.wit e he,fun z=>y1 (Z1q.eq_nil (z▸q1.symm)),fun w hw=>y2 w (q1.mem_iff.mp hw)⟩,?_,q0f _ _⟩
     have:=K2.1;have:=x3.1;have:=x4.1
     show S.length<=S4.length
     omega
 ·rintro a k b hab σ S2 ⟨es,j4,j5,j6,j7,j8,j9,j10,rfl,F2,K2⟩ N hN
  have hk:k=a.length+(i+1)/\a.length<j-i-1:=by
   have e:((Q1q (j-i-1)).map (·+(i+1)))[a.length]?=some k:=by rw[hab];simp
   have hl:=congrArg Q3m hab
   simp at hl
   rw[Q1z,Z2e (by omega)]at e
   simp at e
   omega
  obtain⟨hk1,hk2⟩:=hk
  refine⟨trivial,?_⟩
  dsimp![iN]
  refine⟨big (by decide),?_⟩
  have kw:j-i=(j-k)+(k-i):=by omega
  have ks:smw (j-i) (a.length+1)=smw (j-i) a.length+bd (k-i)*bd (j-k):=by
   show smw (j-i) a.length+bd (a.length+1)*bd (j-i-(a.length+1))=_
   rw[show k-i=a.length+1 by omega,show j-k=j-i-(a.length+1) by omega]
  have kb:=y4n (j-i) (by omega) (a.length+1) (by omega)
  have kb2:=y9n (j-i) (by omega)
  obtain⟨gl,ll⟩:=hfo i k (Q0k _) (by omega) (by omega) (by omega)
  obtain⟨gr,lr⟩:=hfo k j (by omega) (by omega) (Q0k _) (by omega)
  have cell:∀{S3:q0b}{x y:Nat}(k3:Kp S.length S S3)(d:i<=x/\x<y/\y<=j/\y-x<j-i){R:VC},(∀n,S3[n]?=some (.lst ((fo x y).map Fm.pv))->n<S.length->R (.ref n) S3)->bIxN (.ref ce) (.tup [.int (x:Nat),.int (y:Nat)]) S3 R:=fun {S3 x y} k3 d {R} hR=>by
   obtain⟨kvs,e1,e2⟩:=(hC.kp k3).is
   obtain⟨n,z1,z2,z3⟩:=e2 x y d
   exact⟨ce,kvs,pk x y,.ref n,rfl,e1,rfl,⟨⟨_,rfl⟩,by simp[pk,kdep,z0b]⟩,z1,hR n z3 z2⟩
  refine cell K2 ⟨Q0k _,by omega,by omega,by omega⟩ fun n1 g1 m1=>?_
  simp only[q0c g1]
  refine forM Fm.pv (fo i k) (fun a2 σ S3=>∃es j5 j6 j7 j8 j9 j10,σ=[some (.ref ce),some (.int (i:Nat)),some (.int (j:Nat)),some (.ref S.length),some (.int (k:Nat)),j5,j6,j7,j8,j9,j10]/\Fnd S.length S.length (q4v fo i j) (smw (j-i) a.length+a2.length*bd (j-k)) es S3/\Kp S.length S S3) ?_ ?_ _ _ ⟨es,_,_,_,_,_,_,rfl,by simpa using F2,K2⟩
  ·rintro σ S3 ⟨es,j5,j6,j7,j8,j9,j10,rfl,F3,K3⟩
   refine⟨q0c (K3.get m1 ((K2.2 n1 m1).symm.trans g1)),hN _ _ ⟨es,_,_,_,_,_,_,_,rfl,?_,K3⟩⟩
   rw[Q0x,Q3c,ks]
   exact F3.up (Nat.add_le_add_left (Z2f _ ll) _)
  ·rintro a2 l b2 hab2 σ S3 ⟨es,j5,j6,j7,j8,j9,j10,rfl,F3,K3⟩ N2 hN2
   have hl2:a2.length<(fo i k).length:=by rw[hab2];simp
   have ml:l∈fo i k:=by rw[hab2];simp
   refine⟨q0c (K3.get m1 ((K2.2 n1 m1).symm.trans g1)),?_⟩
   dsimp![true_and]
   refine⟨big (by decide),cell K3 ⟨by omega,by omega,Q0k _,by omega⟩ fun n2 g2 m2=>?_⟩
   simp only[q0c g2]
   refine forM Fm.pv (fo k j) (fun a3 σ S4=>∃es j6 j7 j8 j9 j10,σ=[some (.ref ce),some (.int (i:Nat)),some (.int (j:Nat)),some (.ref S.length),some (.int (k:Nat)),some l.pv,j6,j7,j8,j9,j10]/\Fnd S.length S.length (q4v fo i j) (smw (j-i) a.length+a2.length*bd (j-k)+a3.length) es S4/\Kp S.length S S4) ?_ ?_ _ _ ⟨es,_,_,_,_,_,rfl,by simpa using F3,K3⟩
   ·rintro σ S4 ⟨es,j6,j7,j8,j9,j10,rfl,F4,K4⟩
    refine⟨q0c (K4.get m2 ((K3.2 n2 m2).symm.trans g2)),hN2 _ _ ⟨es,_,_,_,_,_,_,rfl,?_,K4⟩⟩
    rw[Q0x,Q3c,Z6b,Z6c]
    exact F4.up (by omega)
   ·rintro a3 r b3 hab3 σ S4 ⟨es,j6,j7,j8,j9,j10,rfl,F4,K4⟩ N3 hN3
    have hl3:a3.length<(fo k j).length:=by rw[hab3];simp
    have mr:r∈fo k j:=by rw[hab3];simp
    have cb:smw (j-i) a.length+a2.length*bd (j-k)+a3.length<=900000:=by
     have:(a2.length+1)*bd (j-k)<=bd (k-i)*bd (j-k):=Z2f _ (by omega)
     rw[Z6b,Z6c]at this
     omega
    refine⟨q0c (K4.get m2 ((K3.2 n2 m2).symm.trans g2)),?_⟩
    dsimp![true_and]
    refine y2k hm hs (D:={nx:=N3,rt:=Q,bk:=N2,ct:=N3}) F4 cb (by have:=K4.1;omega) (gl l ml) (gr r mr) (fun s f _=>⟨by show i<k;omega,by show k<j;omega,ml,mr⟩) fun es' S5 j7 j8 j9 j10 F5 K5=>hN3 _ _ ⟨es',_,_,_,_,_,rfl,?_,K4.trans K5⟩
    rw[Q0x,Q3c,<-Q7i]
    exact F5
abbrev Cl:=List (Nat×Nat×List En)
def ckey(c:Nat×Nat×List En):Nat×Nat:=(c.1,c.2.1)
def foOf:Cl->Nat->Nat->List Fm
 |[],_,_=>[]
 |c::r,a,b=>if c.1=a/\c.2.1=b then c.2.2.map En.f else foOf r a b
theorem z2i:∀{cl:Cl}{c:Nat×Nat×List En},(cl.map ckey).Nodup->c∈cl->foOf cl c.1 c.2.1=c.2.2.map En.f
 |x::cl,c,nd,h=>by
  rw[Q0v,Q1r]at nd
  unfold foOf
  cases h with
  |head=>rw[if_pos ⟨rfl,rfl⟩]
  |tail _ h=>
   rw[if_neg (fun z=>nd.1 (Q0p.mpr ⟨c,h,by unfold ckey;rw[z.1,z.2]⟩))]
   exact z2i nd.2 h
theorem q8s{c:Nat×Nat×List En}{a b:Nat}:∀{cl:Cl},(a,b)∈cl.map ckey->foOf (cl++[c]) a b=foOf cl a b
 |x::cl,h=>by
  show(if x.1=a/\x.2.1=b then x.2.2.map En.f else foOf (cl++[c]) a b)=if x.1=a/\x.2.1=b then x.2.2.map En.f else foOf cl a b
  split
  ·rfl
  ·rename_i z
   rw[Q0v]at h
   cases h with
   |head=>exact absurd ⟨rfl,rfl⟩ z
   |tail _ h=>exact q8s h
theorem x0l:∀n,n<7->((Q1q (n+1)).all fun b=>(Q1q b).all fun a=>(stl n (Q1q n)).contains (a,b))=true:=by decide
theorem y5z(n:Nat)(hn:n<7)(b:Nat)(hb:b<n+1)(a:Nat)(ha:a<b):(a,b)∈stl n (Q1q n):=by
 have h:=Q4b.mp (x0l n hn) b (Q5e.mpr hb)
 have h2:=Q4b.mp h a (Q5e.mpr ha)
 simpa using h2
theorem x0j:∀n,n<7->(stl n (Q1q n)).Nodup:=by decide
theorem x0k:∀n,n<7->∀p∈stl n (Q1q n),p.1<p.2/\p.2<=n:=by decide
theorem y4l:∀n,n<7->(stl n (Q1q n)).Pairwise fun p q=>p.2-p.1<=q.2-q.1:=by decide
theorem z6q{n:Nat}(hn:n<7){a b:List (Nat×Nat)}{p:Nat×Nat}(h:stl n (Q1q n)=a++p::b){x y:Nat}(h1:x<y)(h2:y<=n)(h3:y-x<p.2-p.1):(x,y)∈a:=by
 have hm:=y5z n hn y (by omega) x h1
 have hu:=y4l n hn
 rw[h]at hm hu
 rcases Q0n.mp hm with z|z
 ·exact z
 ·have hu2:=(Q8e.mp hu).2.1
  rw[List.pairwise_cons]at hu2
  rcases Q1b.mp z with z|z
  ·rw[<-z]at h3;simp at h3
  ·have:=hu2.1 _ z;simp at this;omega
def rwP(c:Nat×Nat×List En)(e:En):PV:=.tup [.int (c.1:Nat),.int (c.2.1:Nat),e.f.pv,.ref e.n]
def rows(cl:Cl):List PV:=cl.flatMap fun c=>c.2.2.map (rwP c)
structure ClOk(tr:List ((Str×Fm)×PV))(ws:List Str)(cl:Cl)(c:Nat×Nat×List En):Prop where
 lt:c.1<c.2.1/\c.2.1<=ws.length
 len:c.2.2.length<=bd (c.2.1-c.1)
 gd:∀e∈c.2.2,Gd e.f
 one:c.2.1=c.1+1->∀e∈c.2.2,e.ws=[]/\∃w,ws[c.1]?=some w/\e.f∈wfs tr w
 two:c.1+2<=c.2.1->∀e∈c.2.2,EnOk (q4v (foOf cl) c.1 c.2.1) e
structure Tb(tr:List ((Str×Fm)×PV))(ws:List Str)(ce tb:Nat)(cl:Cl)(S:q0b):Prop where
 nd:(cl.map ckey).Nodup
 tab:S[tb]?=some (.lst (rows cl))
 dic:(cl=[]/\S[ce]?=some (.dK []))\/∃kvs,S[ce]?=some (.dN kvs)/\kvs.length<=cl.length/\∀c∈cl,∃n,valN kvs (pk c.1 c.2.1)=some (.ref n)/\n≠ce/\n≠tb/\S[n]?=some (.lst ((c.2.2.map En.f).map Fm.pv))
 lst:∀c∈cl,∀e∈c.2.2,e.n≠ce/\e.n≠tb/\S[e.n]?=some (.lst (e.ws.map Wy.pv))
 ok:∀c∈cl,ClOk tr ws cl c
theorem y2j(cl:Cl)(c:Nat×Nat×List En):rows (cl++[c])=rows cl++c.2.2.map (rwP c):=by simp[rows]
theorem z6t{cl:Cl}{c:Nat×Nat×List En}{i j:Nat}(h:∀a b,i<=a->a<b->b<=j->b-a<j-i->(a,b)∈cl.map ckey){w:Wy}(s:q4v (foOf cl) i j w):q4v (foOf (cl++[c])) i j w:=by
 obtain⟨h1,h2,h3,h4⟩:=s
 refine⟨h1,h2,?_,?_⟩
 ·rw[q8s (h i w.k (Q0k _) h1 (by omega) (by omega))];exact h3
 ·rw[q8s (h w.k j (by omega) h2 (Q0k _) (by omega))];exact h4
theorem EnOk.app{cl:Cl}{c:Nat×Nat×List En}{i j:Nat}(h:∀a b,i<=a->a<b->b<=j->b-a<j-i->(a,b)∈cl.map ckey){e:En}(k:EnOk (q4v (foOf cl) i j) e):EnOk (q4v (foOf (cl++[c])) i j) e:=
 ⟨k.gd,let ⟨w,a,b⟩:=k.wit;⟨w,z6t h a,b⟩,k.way.1,fun w hw=>⟨(k.way.2 w hw).1,z6t h (k.way.2 w hw).2.1,(k.way.2 w hw).2.2⟩⟩
theorem x1m{a b a' b':Nat}(h:pk a b=pk a' b'):a=a'/\b=b':=by
 unfold pk at h
 simp only[KTr.tup.injEq,Q7f,KTr.int.injEq,and_true]at h
 omega
theorem Tb.add{tr:List ((Str×Fm)×PV)}{ws:List Str}{ce tb:Nat}{cl:Cl}{S S1:q0b}{c:Nat×Nat×List En}(h:Tb tr ws ce tb cl S)(x:Ex [] S S1)(hk:ckey c∉cl.map ckey)(hct:ce≠tb)(hlc:c.1<c.2.1/\c.2.1<=ws.length)(hln:c.2.2.length<=bd (c.2.1-c.1))(hgd:∀e∈c.2.2,Gd e.f)
  (h1:c.2.1=c.1+1->∀e∈c.2.2,e.ws=[]/\∃w,ws[c.1]?=some w/\e.f∈wfs tr w) (h2:c.1+2<=c.2.1->∀e∈c.2.2,EnOk (q4v (foOf cl) c.1 c.2.1) e) (hs:∀a b,c.1<=a->a<b->b<=c.2.1->b-a<c.2.1-c.1->(a,b)∈cl.map ckey)
  (hs2:∀d∈cl,∀a b,d.1<=a->a<b->b<=d.2.1->b-a<d.2.1-d.1->(a,b)∈cl.map ckey) (hl:∀e∈c.2.2,S.length<=e.n/\S1[e.n]?=some (.lst (e.ws.map Wy.pv))) {kvs:List (KTr×PV)} (hkv:S1[ce]?=some (.dN kvs)\/(S1[ce]?=some (.dK [])/\kvs=[])) :
  Tb tr ws ce tb (cl++[c]) ((((S1++[SO.lst ((c.2.2.map En.f).map Fm.pv)]).set ce (.dN (putN kvs (pk c.1 c.2.1) (.ref S1.length))))++[SO.lst (c.2.2.map (rwP c))]).set tb (.lst (rows cl++c.2.2.map (rwP c)))):=by
 have lt:tb<S.length:=q0d h.tab
 have lc:ce<S.length:=by rcases h.dic with⟨_,z⟩|⟨_,z,_⟩<;>exact q0d z
 have l1:=x.1
 generalize hT:((((S1++[SO.lst ((c.2.2.map En.f).map Fm.pv)]).set ce (.dN (putN kvs (pk c.1 c.2.1) (.ref S1.length))))++[SO.lst (c.2.2.map (rwP c))]).set tb (.lst (rows cl++c.2.2.map (rwP c))))=T
 have g:∀i o,i≠ce->i≠tb->S1[i]?=some o->T[i]?=some o:=fun i o n1 n2 e=>by
  have:=q0d e
  rw[<-hT,Q1c (Q4a n2),Q0o (by simp;omega),Q1c (Q4a n1),Q0o this]
  exact e
 have g1:T[S1.length]?=some (SO.lst ((c.2.2.map En.f).map Fm.pv)):=by
  rw[<-hT,Q1c (by omega),Q0o (by simp),Q1c (by omega)]
  simp
 have g2:T[ce]?=some (.dN (putN kvs (pk c.1 c.2.1) (.ref S1.length))):=by
  rw[<-hT,Q1c (Q4a hct),Q0o (by simp;omega),Q1o (by simp;omega)]
 have g3:T[tb]?=some (.lst (rows cl++c.2.2.map (rwP c))):=by
  rw[<-hT,Q1o (by simp;omega)]
 have hall:∀{P:(Nat×Nat×List En)->Prop},(∀d∈cl,P d)->P c->∀d∈cl++[c],P d:=fun {P} a b d hd=>by
  rcases Q0n.mp hd with hd|hd
  ·exact a d hd
  ·rw[Q0i.mp hd];exact b
 have hkv2:kvs.length<=cl.length/\∀d∈cl,∃n,valN kvs (pk d.1 d.2.1)=some (.ref n)/\n≠ce/\n≠tb/\S1[n]?=some (.lst ((d.2.2.map En.f).map Fm.pv)):=by
  rcases h.dic with⟨z1,z2⟩|⟨kv0,z1,z2,z3⟩
  ·subst z1
   have:=x.get z2 (by simp)
   rcases hkv with q|⟨q,rfl⟩
   ·rw[this]at q;cases q
   ·exact⟨Q0k _,by simp⟩
  ·have:=x.get z1 (by simp)
   rcases hkv with q|⟨q,_⟩
   ·rw[this]at q
    cases q
    exact⟨z2,fun d hd=>by obtain⟨n,a,b,c',e⟩:=z3 d hd;exact⟨n,a,b,c',x.get e (by simp)⟩⟩
   ·rw[this]at q;cases q
 refine⟨?_,by rw[y2j];exact g3,.inr ⟨_,g2,?_,?_⟩,?_,?_⟩
 ·rw[Q1w,Q2t]
  refine⟨h.nd,by simp,fun a ha b hb=>?_⟩
  simp at hb
  subst hb
  exact fun z=>hk (by rw[<-z];exact ha)
 ·have:=z3h kvs (pk c.1 c.2.1) (.ref S1.length)
  have:=hkv2.1
  simp;omega
 ·refine hall (fun d hd=>?_) ⟨S1.length,by rw[q7w,if_pos rfl],by omega,by omega,g1⟩
  obtain⟨n,a1,a2,a3,a4⟩:=hkv2.2 d hd
  refine⟨n,?_,a2,a3,g n _ a2 a3 a4⟩
  rw[q7w,if_neg]
  ·exact a1
  ·intro z
   obtain⟨z1,z2⟩:=x1m z
   exact hk (Q0p.mpr ⟨d,hd,by unfold ckey;rw[z1,z2]⟩)
 ·refine hall (fun d hd e he=>?_) fun e he=>?_
  ·obtain⟨a1,a2,a3⟩:=h.lst d hd e he
   exact⟨a1,a2,g _ _ a1 a2 (x.get a3 (by simp))⟩
  ·obtain⟨a1,a2⟩:=hl e he
   exact⟨by omega,by omega,g _ _ (by omega) (by omega) a2⟩
 ·refine hall (fun d hd=>?_) ⟨hlc,hln,hgd,h1,fun z e he=>(h2 z e he).app hs⟩
  have k:=h.ok d hd
  exact⟨k.lt,k.len,k.gd,k.one,fun z e he=>(k.two z e he).app (hs2 d hd)⟩
def ChtD(sp:Den):Prop:=∀(x y:PV)(tr:List ((Str×Fm)×PV))(ws:List Str)(S:q0b)(E:EK)(Q:VC),Bok tr->(∀w∈ws,∃t∈tr,t.1.1=w)->(∀w∈ws,(wfs tr w).length<=5)->1<=ws.length->ws.length<=6->
 (∀(ce tb:Nat)(cl:Cl) S',Tb tr ws ce tb cl S'->cl.map ckey=stl ws.length (Q1q ws.length)->S.length<=tb->Ex [] S S'->Q (.ref tb) S')->sp [bkP x y tr,.tup (ws.map PV.str)] S E Q
theorem y4r:∀{cl:Cl},(∀c∈cl,c.2.2.length<=bd (c.2.1-c.1))->(rows cl).length<=((cl.map ckey).map fun p=>bd (p.2-p.1)).sum
 |[],_=>by simp[rows]
 |c::cl,h=>by
  have h1:=h c (by simp)
  have h2:=y4r (cl:=cl) fun d hd=>h d (by simp[hd])
  have e:rows (c::cl)=c.2.2.map (rwP c)++rows cl:=by simp[rows]
  rw[e,Q0x,Q0q,Q0v,Q0v,Q8w]
  simp only[ckey]
  omega
theorem y5y:∀n,n<7->((stl n (Q1q n)).map fun p=>bd (p.2-p.1)).sum<=754280:=by decide
theorem en2(e:En):enP e=.tup [e.f.pv,.ref e.n]:=rfl
theorem x3y{sf ss sr:Den}(hf:FwsD sf)(hs:StrD ss)(hr:RosD sr):ChtD (fnP 2 8 (q2o sf ss sr)):=by
 intro x y tr ws S E Q bo hex h5 w1 w6 h
 refine⟨rfl,?_⟩
 unfold q2o
 refine seqI fun K hK=>?_
 dsimp![true_and]
 refine hf x y tr ws _ _ _ bo hex (by omega) fun q cs S1 q1 q2 q3 q4 x1=>hK _ _ ?_
 clear hK
 refine seqI fun K hK=>?_
 dsimp![true_and]
 refine hK _ _ ?_
 clear hK
 refine seqI fun K hK=>?_
 dsimp![true_and]
 refine⟨big (by decide),hK _ _ ?_⟩
 clear hK
 have T0:Tb tr ws S1.length (S1.length+1) [] ((S1++[SO.dK []])++[SO.lst []]):=⟨by simp,by simp[rows],.inl ⟨rfl,by simp⟩,by simp,by simp⟩
 have x2:Ex [] S1 ((S1++[SO.dK []])++[SO.lst []]):=(Ex.new _ _ _).app _
 have le:(S1++[SO.dK []]).length=S1.length+1:=by simp
 rw[le]
 generalize (S1++[SO.dK []])++[SO.lst []]=S3 at T0 x2
 refine seqI fun K hK=>?_
 dsimp![Q0q]
 refine hs ws.length _ _ _ (by omega) ?_
 have g4:=q0f S3 (.lst ((stl ws.length (Q1q ws.length)).map prP))
 have x4:Ex [] S3 (S3++[.lst ((stl ws.length (Q1q ws.length)).map prP)]):=Ex.new _ _ _
 generalize S3++[SO.lst ((stl ws.length (Q1q ws.length)).map prP)]=S4 at g4 x4
 have lq:=q0d q2
 have l3:S1.length+1<S3.length:=q0d T0.tab
 have l4:=q0d g4
 simp only[q0c g4]
 have Ta:Tb tr ws S1.length (S1.length+1) [] S4:=⟨T0.nd,x4.get T0.tab (by simp),(by rcases T0.dic with⟨a,b⟩|⟨kvs,a,b,c⟩;exact .inl ⟨a,x4.get b (by simp)⟩;exact .inr ⟨kvs,x4.get a (by simp),b,by simp⟩),by simp,by simp⟩
 generalize hce:S1.length=ce at *
 refine forM prP _ (fun a σ S5=>∃(cl:Cl)(j5 j6 j7:Option PV),σ=[some (bkP x y tr),some (.tup (ws.map PV.str)),some (.ref q),some (.ref ce),some (.ref (ce+1)),j5,j6,j7]/\cl.map ckey=a/\Tb tr ws ce (ce+1) cl S5/\Ex [ce,ce+1] S4 S5) ?_ ?_ _ _ ⟨[],_,_,_,rfl,rfl,Ta,Ex.refl _ _⟩
 ·rintro σ S5 ⟨cl,j5,j6,j7,rfl,k1,T5,x5⟩
  refine⟨q0c (x5.get g4 (by simp;omega)),hK _ _ ?_⟩
  dsimp![true_and]
  have l1:=x1.1
  refine h ce (ce+1) cl S5 T5 k1 (by omega) ⟨by have:=x2.1;have:=x4.1;have:=x5.1;omega,fun n hn _=>?_⟩
  have:=x2.1;have:=x4.1
  rw[x5.2 n (by omega) (by simp;omega),x4.2 n (by omega) (by simp),x2.2 n (by omega) (by simp)]
  exact x1.2 n hn (by simp)
 ·rintro a p b hab σ S5 ⟨cl,j5,j6,j7,rfl,k1,T5,x5⟩ N hN
  obtain⟨i,j⟩:=p
  have hn7:ws.length<7:=by omega
  obtain⟨hij,hjn⟩:=x0k ws.length hn7 (i,j) (by rw[hab];simp)
  dsimp only at hij hjn
  have hnk:(i,j)∉cl.map ckey:=by
   have:=x0j ws.length hn7
   rw[hab]at this
   rw[k1]
   exact fun z=>(Q2t.mp this).2.2 _ z _ (by simp) rfl
  have hsh:∀u v,i<=u->u<v->v<=j->v-u<j-i->(u,v)∈cl.map ckey:=fun u v _ h2 h3 h4=>by
   rw[k1];exact z6q hn7 hab h2 (by omega) h4
  have hsh2:∀d∈cl,∀u v,d.1<=u->u<v->v<=d.2.1->v-u<d.2.1-d.1->(u,v)∈cl.map ckey:=fun d hd u v _ h2 h3 h4=>by
   have hk:=(T5.ok d hd).lt
   have hd':ckey d∈a:=by rw[<-k1];exact Q0p.mpr ⟨d,hd,rfl⟩
   have hw:d.2.1-d.1<=j-i:=by
    have hu:=y4l ws.length hn7
    rw[hab]at hu
    exact(Q8e.mp hu).2.2 _ hd' (i,j) (by simp)
   rw[k1];exact z6q hn7 hab h2 (by omega) (by show v-u<j-i;omega)
  refine⟨q0c (x5.get g4 (by simp;omega)),?_⟩
  dsimp![prP]
  have fin:∀(r:Nat)(es:List En)(S6:q0b),Ex [] S5 S6->S5.length<=r->S6[r]?=some (.lst (es.map enP))->es.length<=bd (j-i)->(∀e∈es,Gd e.f)->(j=i+1->∀e∈es,e.ws=[]/\∃w,ws[i]?=some w/\e.f∈wfs tr w)->(i+2<=j->∀e∈es,EnOk (q4v (foOf cl) i j) e)->(∀e∈es,S5.length<=e.n/\S6[e.n]?=some (.lst (e.ws.map Wy.pv)))->
   wSeq (wAsg (q2l (q1v (wVar 7)) [none,none] (q2w 2 (q0j (q0e 0) (q0j (q0e 1) q2x))) q1n (wVar 0)) (z4k (wVar 3) (wTup (q0a (wVar 5) (q0a (wVar 6) wNil))) z7q))
    (q2f (wBM "list" q5a (wVar 4) (q0a (q2l (q1v (wVar 7)) [none,none,some 5,some 6] (q2w 2 (q0j (q0e 0) (q0j (q0e 1) q2x))) q1n (wTup (q0a (wVar 2) (q0a (wVar 3) (q0a (wVar 0) (q0a (wVar 1) wNil)))))) wNil)))
    {nx:=N,rt:=Q,bk:=K,ct:=N} E [some (bkP x y tr),some (.tup (ws.map PV.str)),some (.ref q),some (.ref ce),some (.ref (ce+1)),some (.int (i:Nat)),some (.int (j:Nat)),some (.ref r)] S6:=by
   intro r es S6 x6 r1 r2 e1 e2 e3 e4 e5
   have b6:=y9n (j-i) (by omega)
   have lce:ce<S5.length:=by rcases T5.dic with⟨_,z⟩|⟨_,z,_⟩<;>exact q0d z
   have ltb:=q0d T5.tab
   have l6:=x6.1
   obtain⟨kvs,hkv,hkl⟩:∃kvs,(S6[ce]?=some (.dN kvs)\/(S6[ce]?=some (.dK [])/\kvs=[]))/\kvs.length<=cl.length:=by
    rcases T5.dic with⟨z1,z2⟩|⟨kv0,z1,z2,z3⟩
    ·exact⟨[],.inr ⟨x6.get z2 (by simp),rfl⟩,by simp⟩
    ·exact⟨kv0,.inl (x6.get z1 (by simp)),z2⟩
   have hrl:(rows cl).length+es.length<=754280:=by
    have h1:=y4r (cl:=cl) fun c hc=>(T5.ok c hc).len
    have h2:=y5y ws.length hn7
    rw[hab,Q1w,List.sum_append,Q0v,Q8w]at h2
    rw[k1]at h1
    dsimp only at h2
    omega
   have hcl:cl.length<=100:=by
    have h1:=congrArg Q3m k1
    have h2:∀n,n<7->(stl n (Q1q n)).length<=50:=by decide
    have h3:=h2 ws.length hn7
    rw[hab]at h3
    simp at h1 h3
    omega
   have TT:=Tb.add (c:=(i,j,es)) T5 x6 hnk (by omega) ⟨hij,hjn⟩ e1 e2 e3 e4 hsh hsh2 e5 hkv
   refine seqI fun K2 hK2=>?_
   dsimp![q0c r2]
   refine⟨big (by simp;omega),?_⟩
   refine q6u enP es (fun a ys σ S7=>ys=(a.map En.f).map Fm.pv/\S7=S6/\∃j0 j1,σ=[j0,j1]) ?_ ?_ _ _ ⟨rfl,rfl,_,_,rfl⟩
   ·rintro ys σ S7 ⟨rfl,rfl,j0,j1,rfl⟩
    refine⟨q0c r2,big (by decide),ce,pk i j,kvs,rfl,rfl,⟨⟨_,rfl⟩,by simp[pk,kdep,z0b]⟩,?_,big (by omega),hK2 _ _ ?_⟩
    ·rw[Q0o (by omega)];exact hkv
    ·have lr:=q0d r2
     have r3:((S7++[SO.lst ((es.map En.f).map Fm.pv)]).set ce (.dN (putN kvs (pk i j) (.ref S7.length))))[r]?=some (.lst (es.map enP)):=by
      rw[Q1c (by omega),Q0o lr];exact r2
     have t3:((S7++[SO.lst ((es.map En.f).map Fm.pv)]).set ce (.dN (putN kvs (pk i j) (.ref S7.length))))[ce+1]?=some (.lst (rows cl)):=by
      rw[Q1c (by omega),Q0o (by omega)];exact x6.get T5.tab (by simp)
     have x8:Ex [ce,ce+1] S4 ((S7++[SO.lst ((es.map En.f).map Fm.pv)]).set ce (.dN (putN kvs (pk i j) (.ref S7.length)))):=((x5.trans x6.nil).app _).set (.inl (by simp))
     change Tb tr ws ce (ce+1) (cl++[(i,j,es)]) ((((S7++[SO.lst ((es.map En.f).map Fm.pv)]).set ce (.dN (putN kvs (pk i j) (.ref S7.length))))++[SO.lst (es.map (rwP (i,j,es)))]).set (ce+1) (SO.lst (rows cl++es.map (rwP (i,j,es)))))at TT
     generalize (S7++[SO.lst ((es.map En.f).map Fm.pv)]).set ce (SO.dN (putN kvs (pk i j) (.ref S7.length)))=S8 at r3 t3 x8 TT
     have l8:=q0d t3
     dsimp![q0c r3,t3]
     refine⟨big (by simp;omega),?_⟩
     refine q6u enP es (fun a ys σ S9=>ys=a.map (rwP (i,j,es))/\S9=S8/\∃j0 j1,σ=[j0,j1,some (.int (i:Nat)),some (.int (j:Nat))]) ?_ ?_ _ _ ⟨rfl,rfl,_,_,rfl⟩
     ·rintro ys σ S9 ⟨rfl,rfl,j0,j1,rfl⟩
      have t4:(S9++[SO.lst (es.map (rwP (i,j,es)))])[ce+1]?=some (.lst (rows cl)):=by rw[Q0o l8];exact t3
      simp only[q0m t4,q0m (q0f S9 (SO.lst (es.map (rwP (i,j,es)))))]
      refine⟨q0c r3,big (by simp;omega),hN _ _ ⟨cl++[(i,j,es)],_,_,_,rfl,by rw[Q1w,k1];rfl,TT,(x8.app _).set (.inl (by simp))⟩⟩
     ·rintro a e b hab ys σ S9 ⟨rfl,rfl,j0,j1,rfl⟩ N2 hN2
      refine⟨q0c r3,?_⟩
      dsimp![en2]
      exact⟨big (by decide),hN2 _ _ _ ⟨by simp[rwP],rfl,_,_,rfl⟩⟩
   ·rintro a e b hab ys σ S7 ⟨rfl,rfl,j0,j1,rfl⟩ N2 hN2
    refine⟨q0c r2,?_⟩
    dsimp![en2]
    exact hN2 _ _ _ ⟨by simp,rfl,_,_,rfl⟩
  refine seqI fun K2 hK2=>?_
  dsimp![true_and]
  by_cases z:j=i+1
  ·rw[if_pos (by omega)]
   have lce:ce<S4.length:=by have:=x4.1;omega
   have gq:S5[q]?=some (.lst (cs.map fun c=>PV.ref c.1)):=x5.get (x4.get (x2.get q2 (by simp)) (by simp)) (by simp;omega)
   have hic:i<cs.length:=by omega
   obtain⟨w,hw⟩:∃w,ws[i]?=some w:=⟨ws[i],Q0e (by omega)⟩
   obtain⟨c1,c2,c3⟩:=q4 i cs[i] w (Q0e hic) hw
   have hat:atI (cs.map fun c=>PV.ref c.1) (i:Nat)=some (.ref cs[i].1):=y0z (by rw[Q1z,Q0e hic];rfl)
   have lcs:=q0d c2
   have gc:S5[cs[i].1]?=some (.lst (cs[i].2.map Fm.pv)):=x5.get (x4.get (x2.get c2 (by simp)) (by simp)) (by simp;omega)
   simp only[gq,hat,q0c gc]
   have wm:w∈ws:=Q3g hw
   have cl5:=h5 w wm
   rw[<-c1.length_eq]at cl5
   generalize cs[i]=c at c1 c2 c3 hat lcs gc cl5
   refine⟨big (by simp;omega),?_⟩
   refine q6u Fm.pv c.2 (fun a ys σ S6=>∃out:List En,ys=out.map enP/\out.map En.f=a/\(∀e∈out,e.ws=[]/\S5.length<=e.n/\S6[e.n]?=some (.lst []))/\Ex [] S5 S6/\∃j0,σ=[j0]) ?_ ?_ _ _ ⟨[],rfl,rfl,by simp,Ex.refl _ _,_,rfl⟩
   ·rintro ys σ S6 ⟨out,rfl,o1,o2,x6,j0,rfl⟩
    have ol:out.length=c.2.length:=by rw[<-o1,Q0q]
    have of:∀e∈out,e.f∈wfs tr w:=fun e he=>c1.mem_iff.mp (by rw[<-o1];exact Q0p.mpr ⟨e,he,rfl⟩)
    refine⟨q0c (x6.get gc (by simp)),hK2 _ _ (fin S6.length out _ (x6.app _) x6.1 (q0f _ _) ?_ (fun e he=>?_) (fun _ e he=>⟨(o2 e he).1,w,hw,of e he⟩) (fun z2=>by omega) fun e he=>?_)⟩
    ·rw[show j-i=1 by omega];show out.length<=5;omega
    ·have:=of e he
     unfold wfs at this
     obtain⟨t,ht,e2⟩:=Q0p.mp this
     have:=bo.ok t (Q4i.mp ht).1
     rw[e2]at this
     exact⟨this.1,.inl this.2⟩
    ·obtain⟨z1,z2,z3⟩:=o2 e he
     exact⟨z2,by rw[Q0o (q0d z3),z1];exact z3⟩
   ·rintro a f b hab2 ys σ S6 ⟨out,rfl,o1,o2,x6,j0,rfl⟩ N2 hN2
    refine⟨q0c (x6.get gc (by simp)),?_⟩
    dsimp![true_and]
    refine⟨big (by decide),big (by decide),hN2 _ _ _ ⟨out++[⟨f,S6.length,[]⟩],by simp[enP],by simp[o1],fun e he=>?_,x6.app _,_,rfl⟩⟩
    rcases Q0n.mp he with he|he
    ·obtain⟨z1,z2,z3⟩:=o2 e he
     exact⟨z1,z2,by rw[Q0o (q0d z3)];exact z3⟩
    ·rw[Q0i.mp he]
     exact⟨rfl,x6.1,q0f _ _⟩
  ·rw[if_neg (by omega)]
   have hce:∃kvs,S5[ce]?=some (.dN kvs)/\kvs.length<=cl.length/\∀c∈cl,∃n,valN kvs (pk c.1 c.2.1)=some (.ref n)/\n≠ce/\n≠ce+1/\S5[n]?=some (.lst ((c.2.2.map En.f).map Fm.pv)):=by
    rcases T5.dic with⟨z1,z2⟩|z1
    ·have:=hsh i (i+1) (Q0k _) (by omega) (by omega) (by omega)
     rw[z1]at this
     simp at this
    ·exact z1
   obtain⟨kvs,v1,v2,v3⟩:=hce
   have inn:∀u v,i<=u->u<v->v<=j->v-u<j-i->∃c∈cl,c.1=u/\c.2.1=v:=fun u v a1 a2 a3 a4=>by
    obtain⟨c,hc,e⟩:=Q0p.mp (hsh u v a1 a2 a3 a4)
    exact⟨c,hc,congrArg Prod.fst e,congrArg Prod.snd e⟩
   refine hr ce i j (foOf cl) _ _ _ ⟨⟨kvs,v1,fun u v d=>?_⟩,q0d v1⟩ (fun u v a1 a2 a3 a4=>?_) (by omega) (by omega) (by omega) fun r es S6 r1 r2 r3 r4 k6=>hK2 _ _ (fin r es S6 ⟨k6.1,fun n hn _=>k6.2 n hn⟩ r1 r2 r4 (fun e he=>(r3 e he).1.gd) (fun z2=>by omega) (fun _ e he=>(r3 e he).1) fun e he=>(r3 e he).2)
   ·obtain⟨c,hc,rfl,rfl⟩:=inn u v d.1 d.2.1 d.2.2.1 d.2.2.2
    obtain⟨n,n1,n2,n3,n4⟩:=v3 c hc
    exact⟨n,n1,q0d n4,by rw[z2i T5.nd hc];exact n4⟩
   ·obtain⟨c,hc,rfl,rfl⟩:=inn u v a1 a2 a3 a4
    have k:=T5.ok c hc
    rw[z2i T5.nd hc]
    refine⟨fun f hf=>?_,by rw[Q0q];exact k.len⟩
    obtain⟨e,he,rfl⟩:=Q0p.mp hf
    exact k.gd e he
def pts:Fm->List Fm
 |.b s=>[.b s]
 |.n l x y=>.n l x y::(pts x++pts y)
theorem q5n(f:Fm):f∈pts f:=by cases f<;>simp[pts]
theorem q5z:∀f:Fm,(pts f).length+1=2*f.lv
 |.b s=>rfl
 |.n l x y=>by
  have:=q5z x;have:=q5z y
  simp only[pts,Q1k,Q0x,Fm.lv];omega
theorem z7w{l:Bool}{x y:Fm}:∀{g:Fm},.n l x y∈pts g->x∈pts g/\y∈pts g
 |.b s,h=>by simp[pts]at h
 |.n l' x' y',h=>by
  simp only[pts,Q1b,Q0n]at h ⊢
  rcases h with h|h|h
  ·cases h;exact⟨.inr (.inl (q5n _)),.inr (.inr (q5n _))⟩
  ·have:=z7w h;exact⟨.inr (.inl this.1),.inr (.inl this.2)⟩
  ·have:=z7w h;exact⟨.inr (.inr this.1),.inr (.inr this.2)⟩
def InP(tr:List ((Str×Fm)×PV))(ws:List Str)(p:Fm):Prop:=∃w∈ws,∃g∈wfs tr w,p∈pts g
def PT(tr:List ((Str×Fm)×PV))(ws:List Str)(f:Fm):Prop:=InP tr ws f\/∃b x z,f=.n b x z/\InP tr ws x/\InP tr ws z
theorem PT.lr{tr:List ((Str×Fm)×PV)}{ws:List Str}{b:Bool}{x z:Fm}(h:PT tr ws (.n b x z)):InP tr ws x/\InP tr ws z:=by
 rcases h with⟨w,hw,g,hg,hp⟩|⟨b',x',z',e,h1,h2⟩
 ·have:=z7w hp
  exact⟨⟨w,hw,g,hg,this.1⟩,⟨w,hw,g,hg,this.2⟩⟩
 ·cases e;exact⟨h1,h2⟩
theorem x5i{tr:List ((Str×Fm)×PV)}{ws:List Str}{a b f:Fm}{s:Str}(ha:PT tr ws a)(hb:PT tr ws b)(h:md a b=some (s,f)):PT tr ws f:=by
 rcases mdc h with⟨_,rfl⟩|⟨_,x,y,z,rfl,rfl,rfl⟩|⟨_,rfl⟩|⟨_,x,y,z,rfl,rfl,rfl⟩
 ·exact .inl ha.lr.1
 ·exact .inr ⟨_,_,_,rfl,ha.lr.1,hb.lr.2⟩
 ·exact .inl hb.lr.1
 ·exact .inr ⟨_,_,_,rfl,hb.lr.1,ha.lr.2⟩
theorem z3s{cl:Cl}{a b:Nat}{f:Fm}(h:f∈foOf cl a b):∃c∈cl,c.1=a/\c.2.1=b/\∃e∈c.2.2,e.f=f:=by
 induction cl with
 |nil=>simp[foOf]at h
 |cons c cl ih=>
  unfold foOf at h
  split at h
  ·rename_i z
   obtain⟨e,he,e2⟩:=Q0p.mp h
   exact⟨c,by simp,z.1,z.2,e,he,e2⟩
  ·obtain⟨d,hd,r⟩:=ih h
   exact⟨d,by simp[hd],r⟩
theorem y5v{tr:List ((Str×Fm)×PV)}{ws:List Str}{ce tb:Nat}{cl:Cl}{S:q0b}(h:Tb tr ws ce tb cl S):∀(n:Nat)(c:Nat×Nat×List En),c∈cl->c.2.1-c.1<=n->∀e∈c.2.2,PT tr ws e.f
 |0,c,hc,hn,e,he=>by have:=(h.ok c hc).lt;omega
 |n+1,c,hc,hn,e,he=>by
  have k:=h.ok c hc
  have hl:=k.lt
  by_cases z:c.2.1=c.1+1
  ·obtain⟨_,w,hw,hf⟩:=k.one z e he
   exact .inl ⟨w,Q3g hw,e.f,hf,q5n _⟩
  ·obtain⟨w,⟨s1,s2,s3,s4⟩,hm⟩:=(k.two (by omega) e he).wit
   obtain⟨c1,m1,q1,q2,e1,n1,r1⟩:=z3s s3
   obtain⟨c2,m2,q3,q4,e2,n2,r2⟩:=z3s s4
   have p1:=y5v h n c1 m1 (by omega) e1 n1
   have p2:=y5v h n c2 m2 (by omega) e2 n2
   rw[r1]at p1
   rw[r2]at p2
   exact x5i p1 p2 hm
def PrtD(sp:Den)(n:Nat):Prop:=∀(f:Fm),f.dp<=n->f.lv<=6->∀(S:q0b)(E:EK)(Q:VC),(∀r S',S.length<=r->S'[r]?=some (.lst ((pts f).map Fm.pv))->Ex [] S S'->Q (.ref r) S')->sp [f.pv] S E Q
theorem z7y{T:Nat->Den}(hT:∀n,T (n+1)=fnP 1 1 (q2c (T n))):∀n,PrtD (T n) n
 |0,f,hd,_=>by cases f<;>simp[Fm.dp]at hd
 |n+1,f,hd,hl=>by
  intro S E Q h
  rw[hT]
  refine⟨rfl,?_⟩
  unfold q2c
  refine seqI fun K hK=>?_
  cases f with
  |b s=>
   dsimp![fb0]
   exact⟨big (by decide),h _ _ (Q0k _) (by simp[pts]) (Ex.new _ _ _)⟩
  |n l x y=>
   have lx:=lv1 x
   have ly:=lv1 y
   simp only[Fm.dp,Fm.lv]at hd hl
   have nb:(sSl l=Q0j "basic")=False:=by cases l<;>simp only[eq_iff_iff,iff_false]<;>decide +kernel
   dsimp![fn0,nb]
   refine hK _ _ ?_
   dsimp![fn1,fn2]
   refine⟨big (by decide),z7y hT n x (by omega) (by omega) _ _ _ fun r1 S1 l1 g1 x1=>?_⟩
   have g0:=x1.get (q0f S (.lst [(Fm.n l x y).pv])) (by simp)
   have px:=q5z x
   have py:=q5z y
   simp only[q0m g0,q0m g1]
   refine⟨big (by simp;omega),z7y hT n y (by omega) (by omega) _ _ _ fun r2 S2 l2 g2 x2=>?_⟩
   have g3:=x2.get (q0f S1 (.lst ([(Fm.n l x y).pv]++(pts x).map Fm.pv))) (by simp)
   simp only[q0m g3,q0m g2]
   refine⟨big (by simp;omega),h _ _ ?_ (by rw[q0f];simp[pts]) ?_⟩
   ·have:=x1.1;have:=x2.1
    simp at *;omega
   ·exact(((Ex.new [] S _).trans x1).app _ |>.trans x2).app _
section
open PySem L2 Ev PySem.Spec PyProof.Rows
def top(i:Nat):Q5q:=Z4m.main.body.getD i (.Pass ⟨0,0,0,0⟩)
structure Tab where
 dLdraw:Den
 dLfree_name:Den
 dLnames:Den
 dLform:Den
 dLwidth:Den
 dLsplit:Den
 dLgrown:Den
 dLreading:Den
 dLsentence:Den
 dLfurther:Den
 dLkind:Den
 dLturn:Den
 dLbook:Den
 dLmade:Den
 dLnumbers:Den
 dLparts:Den
 drows_of:Den
 dshow_form:Den
 dforms_of:Den
 dforms_of_words:Den
 dstretches:Den
 dmade:Den
 drank_of_way:Den
 drows_of_stretch:Den
 dchart:Den
 dlaw:Den
def tabS(t:Tab):Tab where
 dLdraw:=fnP 2 2 (q2s)
 dLfree_name:=fnP 3 9 (q1f)
 dLnames:=fnP 3 10 (q2d t.dLdraw t.dLfree_name)
 dLform:=fnP 3 6 (q2r t.dLdraw t.dLform)
 dLwidth:=fnP 1 1 (q1r t.dLwidth)
 dLsplit:=fnP 3 4 (q2b t.dLwidth)
 dLgrown:=fnP 4 10 (q2e t.dLdraw t.dLform t.dLsplit)
 dLreading:=fnP 2 5 (q1s)
 dLsentence:=fnP 2 10 (q1k t.dLnames t.dLdraw)
 dLfurther:=fnP 5 8 (q1u t.dLdraw t.dLform)
 dLkind:=fnP 1 1 (q1x t.dLkind)
 dLturn:=fnP 2 4 (q2p t.dLdraw)
 dLbook:=fnP 3 9 (q2t t.dLkind t.dLnames t.dLturn)
 dLmade:=fnP 3 11 (q2q t.dLnames t.dLdraw t.dLform t.dLgrown t.dLreading t.dLsentence t.dLfurther t.dLbook)
 dLnumbers:=fnP 1 6 (q1t)
 dLparts:=fnP 1 1 (q2c t.dLparts)
 drows_of:=fnP 2 3 (q1w)
 dshow_form:=fnP 1 5 (q1j t.dshow_form)
 dforms_of:=fnP 2 2 (q1q t.drows_of t.dshow_form)
 dforms_of_words:=fnP 2 5 (q0t t.dforms_of)
 dstretches:=fnP 1 1 (q1i)
 dmade:=fnP 2 2 (q3f)
 drank_of_way:=fnP 1 1 (q1b)
 drows_of_stretch:=fnP 3 11 (q0r t.dmade t.dshow_form t.drank_of_way)
 dchart:=fnP 2 8 (q2o t.dforms_of_words t.dstretches t.drows_of_stretch)
 dlaw:=fnP 1 13 (q3s t.dLmade t.dLnumbers t.dLparts t.dchart)
def tab:Nat->Tab
 |0=>⟨fun _ _ _ _=>False,fun _ _ _ _=>False,fun _ _ _ _=>False,fun _ _ _ _=>False,fun _ _ _ _=>False,fun _ _ _ _=>False,fun _ _ _ _=>False,fun _ _ _ _=>False,fun _ _ _ _=>False,fun _ _ _ _=>False,fun _ _ _ _=>False,fun _ _ _ _=>False,fun _ _ _ _=>False,fun _ _ _ _=>False,fun _ _ _ _=>False,fun _ _ _ _=>False,fun _ _ _ _=>False,fun _ _ _ _=>False,fun _ _ _ _=>False,fun _ _ _ _=>False,fun _ _ _ _=>False,fun _ _ _ _=>False,fun _ _ _ _=>False,fun _ _ _ _=>False,fun _ _ _ _=>False,fun _ _ _ _=>False⟩
 |k+1=>tabS (tab k)
structure Sta(K:Q2p)(mg:Str->Option Q0b):Prop where
 z0:mg "enumerate" = none
 z1:mg "int" = none
 z2:mg "len" = none
 z3:mg "list" = none
 z4:mg "min" = none
 z5:mg "range" = none
 z6:mg "sorted" = none
 z7:mg "tuple" = none
 z8:mg "zip" = none
 g0:GlobT K mg "SIGNS" [(Q0j ">"),(Q0j "<"),(Q0j ">>"),(Q0j "<<")]
abbrev sF0:Q5q:=top 19
abbrev nF0:List Str:=["_law_deck", "_law_most"]
abbrev pF0:List Str:=["_law_deck", "_law_most"]
abbrev sF1:Q5q:=top 20
abbrev nF1:List Str:=["_law_size", "_law_number", "_law_names_here", "_law_letters", "_law_found", "_law_turn_here", "_law_left", "_law_name", "_law_k"]
abbrev pF1:List Str:=["_law_size", "_law_number", "_law_names_here"]
abbrev sF2:Q5q:=top 21
abbrev nF2:List Str:=["_law_deck", "_law_many", "_law_bars", "_law_letters", "_law_found", "_law_k", "_law_base", "_law_at", "_law_spot", "_law_some"]
abbrev pF2:List Str:=["_law_deck", "_law_many", "_law_bars"]
abbrev sF3:Q5q:=top 25
abbrev nF3:List Str:=["_law_deck", "_law_basics", "_law_size", "_law_left", "_law_slash", "_law_one"]
abbrev pF3:List Str:=["_law_deck", "_law_basics", "_law_size"]
abbrev sF4:Q5q:=top 22
abbrev nF4:List Str:=["_law_form_here"]
abbrev pF4:List Str:=["_law_form_here"]
abbrev sF5:Q5q:=top 26
abbrev nF5:List Str:=["_law_form_here", "_law_other", "_law_way", "_law_some"]
abbrev pF5:List Str:=["_law_form_here", "_law_other", "_law_way"]
abbrev sF6:Q5q:=top 27
abbrev nF6:List Str:=["_law_deck", "_law_basics", "_law_goal", "_law_many", "_law_row", "_law_trees", "_law_turn_here", "_law_at", "_law_other", "_law_some"]
abbrev pF6:List Str:=["_law_deck", "_law_basics", "_law_goal", "_law_many"]
abbrev sF7:Q5q:=top 28
abbrev nF7:List Str:=["_law_row", "_law_splits", "_law_trees", "_law_at", "_law_sign"]
abbrev pF7:List Str:=["_law_row", "_law_splits"]
abbrev sF8:Q5q:=top 30
abbrev nF8:List Str:=["_law_deck", "_law_row", "_law_names_here", "_law_way", "_law_forms", "_law_words", "_law_k", "_law_at", "_law_word", "_law_some"]
abbrev pF8:List Str:=["_law_deck", "_law_row"]
abbrev sF9:Q5q:=top 31
abbrev nF9:List Str:=["_law_deck", "_law_basics", "_law_row", "_law_words", "_law_forms", "_law_turn_here", "_law_form_here", "_law_some"]
abbrev pF9:List Str:=["_law_deck", "_law_basics", "_law_row", "_law_words", "_law_forms"]
abbrev sF10:Q5q:=top 23
abbrev nF10:List Str:=["_law_form_here"]
abbrev pF10:List Str:=["_law_form_here"]
abbrev sF11:Q5q:=top 29
abbrev nF11:List Str:=["_law_deck", "_law_things", "_law_left", "_law_found"]
abbrev pF11:List Str:=["_law_deck", "_law_things"]
abbrev sF12:Q5q:=top 32
abbrev nF12:List Str:=["_law_deck", "_law_basics", "_law_forms", "_law_kinds", "_law_word", "_law_form_here", "_law_names_here", "_law_triples", "_law_pairs"]
abbrev pF12:List Str:=["_law_deck", "_law_basics", "_law_forms"]
abbrev sF13:Q5q:=top 33
abbrev nF13:List Str:=["_law_deck", "_law_most", "_law_loose", "_law_basics", "_law_goal", "_law_many", "_law_row", "_law_splits", "_law_reading_here", "_law_words", "_law_forms"]
abbrev pF13:List Str:=["_law_deck", "_law_most", "_law_loose"]
abbrev sF14:Q5q:=top 18
abbrev nF14:List Str:=["_law_script", "_law_cells", "_law_found", "_law_cell", "_law_k", "_law_number"]
abbrev pF14:List Str:=["_law_script"]
abbrev sF15:Q5q:=top 34
abbrev nF15:List Str:=["_law_form_here"]
abbrev pF15:List Str:=["_law_form_here"]
abbrev sF16:Q5q:=top 6
abbrev nF16:List Str:=["book", "word", "rows"]
abbrev pF16:List Str:=["book", "word"]
abbrev sF17:Q5q:=top 4
abbrev nF17:List Str:=["form", "slash", "left", "right", "shown"]
abbrev pF17:List Str:=["form"]
abbrev sF18:Q5q:=top 7
abbrev nF18:List Str:=["book", "word"]
abbrev pF18:List Str:=["book", "word"]
abbrev sF19:Q5q:=top 13
abbrev nF19:List Str:=["book", "words", "told", "place", "word"]
abbrev pF19:List Str:=["book", "words"]
abbrev sF20:Q5q:=top 14
abbrev nF20:List Str:=["size"]
abbrev pF20:List Str:=["size"]
abbrev sF21:Q5q:=top 10
abbrev nF21:List Str:=["left", "right"]
abbrev pF21:List Str:=["left", "right"]
abbrev sF22:Q5q:=top 16
abbrev nF22:List Str:=["way"]
abbrev pF22:List Str:=["way"]
abbrev sF23:Q5q:=top 15
abbrev nF23:List Str:=["cells", "i", "j", "found", "k", "left", "right", "told", "sign", "form", "row"]
abbrev pF23:List Str:=["cells", "i", "j"]
abbrev sF24:Q5q:=top 12
abbrev nF24:List Str:=["book", "words", "forms", "cells", "table", "i", "j", "rows"]
abbrev pF24:List Str:=["book", "words"]
abbrev sF25:Q5q:=top 35
abbrev nF25:List Str:=["_law_script", "_law_book_here", "_law_words", "_law_forms", "_law_reading_here", "_law_goal", "_law_parts_here", "_law_word", "_law_form_here", "_law_part", "_law_i", "_law_j", "_law_ways"]
abbrev pF25:List Str:=["_law_script"]
structure Fns(P:Q1e)(w:Q1x)(K:Q2p)(mg:Str->Option Q0b)(base:Q1h)(k:Nat)(t:Tab)(f:Nat->Q0u)(fd:Nat->Q2z):Prop where
 c0:Cal P w K mg base k "_law_draw" pF0 (q0l K t.dLdraw) (f 0) (fd 0)
 c1:Cal P w K mg base k "_law_free_name" pF1 (q0l K t.dLfree_name) (f 1) (fd 1)
 c2:Cal P w K mg base k "_law_names" pF2 (q0l K t.dLnames) (f 2) (fd 2)
 c3:Cal P w K mg base k "_law_form" pF3 (q0l K t.dLform) (f 3) (fd 3)
 c4:Cal P w K mg base k "_law_width" pF4 (q0l K t.dLwidth) (f 4) (fd 4)
 c5:Cal P w K mg base k "_law_split" pF5 (q0l K t.dLsplit) (f 5) (fd 5)
 c6:Cal P w K mg base k "_law_grown" pF6 (q0l K t.dLgrown) (f 6) (fd 6)
 c7:Cal P w K mg base k "_law_reading" pF7 (q0l K t.dLreading) (f 7) (fd 7)
 c8:Cal P w K mg base k "_law_sentence" pF8 (q0l K t.dLsentence) (f 8) (fd 8)
 c9:Cal P w K mg base k "_law_further" pF9 (q0l K t.dLfurther) (f 9) (fd 9)
 c10:Cal P w K mg base k "_law_kind" pF10 (q0l K t.dLkind) (f 10) (fd 10)
 c11:Cal P w K mg base k "_law_turn" pF11 (q0l K t.dLturn) (f 11) (fd 11)
 c12:Cal P w K mg base k "_law_book" pF12 (q0l K t.dLbook) (f 12) (fd 12)
 c13:Cal P w K mg base k "_law_made" pF13 (q0l K t.dLmade) (f 13) (fd 13)
 c14:Cal P w K mg base k "_law_numbers" pF14 (q0l K t.dLnumbers) (f 14) (fd 14)
 c15:Cal P w K mg base k "_law_parts" pF15 (q0l K t.dLparts) (f 15) (fd 15)
 c16:Cal P w K mg base k "rows_of" pF16 (q0l K t.drows_of) (f 16) (fd 16)
 c17:Cal P w K mg base k "show_form" pF17 (q0l K t.dshow_form) (f 17) (fd 17)
 c18:Cal P w K mg base k "forms_of" pF18 (q0l K t.dforms_of) (f 18) (fd 18)
 c19:Cal P w K mg base k "forms_of_words" pF19 (q0l K t.dforms_of_words) (f 19) (fd 19)
 c20:Cal P w K mg base k "stretches" pF20 (q0l K t.dstretches) (f 20) (fd 20)
 c21:Cal P w K mg base k "made" pF21 (q0l K t.dmade) (f 21) (fd 21)
 c22:Cal P w K mg base k "rank_of_way" pF22 (q0l K t.drank_of_way) (f 22) (fd 22)
 c23:Cal P w K mg base k "rows_of_stretch" pF23 (q0l K t.drows_of_stretch) (f 23) (fd 23)
 c24:Cal P w K mg base k "chart" pF24 (q0l K t.dchart) (f 24) (fd 24)
 c25:Cal P w K mg base k "law" pF25 (q0l K t.dlaw) (f 25) (fd 25)
structure Locs(K:Q2p)(mg:Str->Option Q0b)(f:Nat->Q0u)(fd:Nat->Q2z):Prop where
 l0:Loc2 K mg "_law_draw" sF0 pF0 (f 0) (fd 0)
 l1:Loc2 K mg "_law_free_name" sF1 pF1 (f 1) (fd 1)
 l2:Loc2 K mg "_law_names" sF2 pF2 (f 2) (fd 2)
 l3:Loc2 K mg "_law_form" sF3 pF3 (f 3) (fd 3)
 l4:Loc2 K mg "_law_width" sF4 pF4 (f 4) (fd 4)
 l5:Loc2 K mg "_law_split" sF5 pF5 (f 5) (fd 5)
 l6:Loc2 K mg "_law_grown" sF6 pF6 (f 6) (fd 6)
 l7:Loc2 K mg "_law_reading" sF7 pF7 (f 7) (fd 7)
 l8:Loc2 K mg "_law_sentence" sF8 pF8 (f 8) (fd 8)
 l9:Loc2 K mg "_law_further" sF9 pF9 (f 9) (fd 9)
 l10:Loc2 K mg "_law_kind" sF10 pF10 (f 10) (fd 10)
 l11:Loc2 K mg "_law_turn" sF11 pF11 (f 11) (fd 11)
 l12:Loc2 K mg "_law_book" sF12 pF12 (f 12) (fd 12)
 l13:Loc2 K mg "_law_made" sF13 pF13 (f 13) (fd 13)
 l14:Loc2 K mg "_law_numbers" sF14 pF14 (f 14) (fd 14)
 l15:Loc2 K mg "_law_parts" sF15 pF15 (f 15) (fd 15)
 l16:Loc2 K mg "rows_of" sF16 pF16 (f 16) (fd 16)
 l17:Loc2 K mg "show_form" sF17 pF17 (f 17) (fd 17)
 l18:Loc2 K mg "forms_of" sF18 pF18 (f 18) (fd 18)
 l19:Loc2 K mg "forms_of_words" sF19 pF19 (f 19) (fd 19)
 l20:Loc2 K mg "stretches" sF20 pF20 (f 20) (fd 20)
 l21:Loc2 K mg "made" sF21 pF21 (f 21) (fd 21)
 l22:Loc2 K mg "rank_of_way" sF22 pF22 (f 22) (fd 22)
 l23:Loc2 K mg "rows_of_stretch" sF23 pF23 (f 23) (fd 23)
 l24:Loc2 K mg "chart" sF24 pF24 (f 24) (fd 24)
 l25:Loc2 K mg "law" sF25 pF25 (f 25) (fd 25)
section
variable{P:Q1e}{w:Q1x}{K:Q2p}{mg:Str->Option Q0b}{base:Q1h}{k:Nat}{t:Tab}{f:Nat->Q0u}{fd:Nat->Q2z}{g:Q0u}(Z:Sta K mg)(I:Fns P w K mg base k t f fd)
theorem cpo{X:Cx}{scope:Q5b}{N':List Str}{ix:List (Option Nat)}(kind:scope.kind=.function:=by rfl)(cell:∀y∈scope.names,y.2≠.cell:=by decide +kernel)(names:∀y∈scope.names,y.2=.local->scope.names.lookup y.1=some .local:=by decide +kernel)(free:(scope.names.all fun y=>!(y.2==.free)||X.env.scope.names.lookup y.1==some .cell||X.env.scope.names.lookup y.1==some .free)=true:=by rfl)(ixs:IxOk X.N X.env.scope scope N' ix:=by repeat' (first|exact trivial|refine⟨⟨rfl,rfl,by first|exact Q9a rfl|exact Q7r rfl⟩,?_⟩)):CompOk X scope N' ix:=x3x kind cell names free ixs
local macro_rules|`(tactic|trace $s:str)=>do
 let mut ts:=#[]
 let mut p:=""
 for c in s.getString.toList do
  let r:=if p=="" then(("! y6k _|$ q2g ? ?|% z3c|& q4b|' z6y ? ?|* y1r ?|+ x0s hu ? ?|, z3b I.c# hr hx ?|. y6o _ hn ?|0 q9m hn|1 y6p ?|2 y6n|3 y6l ?|4 q4x y8c ? ?|5 z7e ?|6 z4u ? ?|7 x0t ? ? ?|8 y1s|9 y6t PassesOwn.leaving rfl ? ? ?|: q3h x2f:hu ? ? q7d:_|; y2f ?|= q9m N|? q5x y0t Z.z2 PySem.boot_len ?|@ y1w ?|A y2g _ rfl ?|B z7k|C z4s Z.z5 ?|D q5y PySem.F.plainAttrs_list PySem.F.slot_list_append PySem.F.type_list_append z5f ? ?|E q4x y8a ? ?|F SimW.t ?|G z7c ? ? ?|H z7i|I z7h ?|J y1z ? ?|K z7g ?|L y6s hu ? ?|M y6w ? ?|N q3h z8n:hu ? ? U|O q3h x2e ? ? q7d:_|P q4x y2w ? ?|Q y6q|R q4x y7z ? ?|S q4x y7y ? ?|T q3h x2d ? ? q7d:_|U q4x y7x ? ?|V y1x|W q4w z2p Z.z7 L2.z5x ?|X y6x ? ?|Y y1u ?|Z z3b I.c# hr z8l ?|^ x0u|_ q3h z4y:hu ? ? U|a y1y ?|b q3h z8o ? ? q7d:_|c q5y PySem.F.plainAttrs_dict PySem.F.slot_dict_get PySem.F.type_dict_get y3c:hu ? ?|d q5y PySem.F.plainAttrs_dict PySem.F.slot_dict_setdefault PySem.F.type_dict_setdefault z5c:hu ? ?|e q3h x2c:hu ? ? q7d:_|f z7j ?|g y2d ?|h z1n Z.z5 ?|i y6r hu ? ?|j y2h x0v:hu ? ?|k y6v PySem.F.plainAttrs_list PySem.F.slot_list_pop PySem.F.type_list_pop y8k ?|l q5y PySem.F.plainAttrs_str PySem.F.slot_str_index PySem.F.type_str_index z8u:rfl ? ?|m q5x z5u:rfl Z.z4 Ev.y3z ?|n q4w z5v Z.z3 L2.boot_list ?|o z6z PassesOwn.leaving ? ?|p q5y PySem.F.plainAttrs_list PySem.F.slot_list_pop PySem.F.type_list_pop z8t ? ?|q q5y PySem.F.plainAttrs_list PySem.F.slot_list_index PySem.F.type_list_index z5d:hu ? ?|r y1v rfl Z.z3 Z.z8 ?|s q4w y0u Z.z1 L2.y4a ?|t y6u y8b:hu ? ? q7d:_|u y2b ?|v y2a ?|w z7d|x z4r ?|y y2c ? ?|z y2e|~ z7b Z.z6 I.c# hw.in2 ?|¡ z4t Z.z0 ?|¢ y1t ?|£ y6m Z.g0 ?|¤ q5x z2q:rfl Z.z6 Ev.q4d ?|¥ z7a Z.z6 I.c# hw.in2 ?|¦ q5y PySem.F.plainAttrs_list PySem.F.slot_list_extend PySem.F.type_list_extend z5e ? ?".splitOn "|").find? (·.front==c)).getD "" else p.replace "#" (toString ((c.toNat-48)%208))
  if r.contains '#' then p:=r else
   p:=""
   let xs:List Lean.Term<-((r.splitOn " ").tail).mapM fun w=>do
    if w=="?" then `(?_)else if w=="_" then `(_)else if w=="F" then `(fun _ _ _ _ _=>?_)else if w=="U" then `(by with_unfolding_all rfl)else if w=="C" then `(by exact cpo)else if w=="N" then `(by dsimp only[Cx.comp];decide +kernel)else
     let ys:List Lean.Term<-(w.splitOn ":").mapM fun v=>if v=="_" then `(_)else pure ⟨Z1r v.toName⟩
     if ys.tail.isEmpty then pure ys.head! else `($(ys.head!) $(ys.tail.toArray)*)
   ts:=ts.push (<-if xs.tail.isEmpty then `(tactic|exact $(xs.head!))else `(tactic|refine $(xs.head!) $(xs.tail.toArray)*))
 `(tactic|($[$ts]*))
include Z I
theorem mF0:SimF P w K mg base k "_law_draw" nF0 sF0 (q2s) g:=by
 intro _ _ _ _ _ _ _ hw hr hx hu hn
 trace "'7:!5%*1&8*1Ek!!"
theorem mF1:SimF P w K mg base k "_law_free_name" nF1 sF1 (q1f) g:=by
 intro _ _ _ _ _ _ _ hw hr hx hu hn
 trace "'.2'.2'9C$4?$!%&%0'.4!!'.2'9C$!%0'.4!+!E!&*.P!&*7FJ:!2KN!!*.!8*1!"
theorem mF2:SimF P w K mg base k "_law_names" nF2 sF2 (q2d t.dLdraw t.dLfree_name) g:=by
 intro _ _ _ _ _ _ _ hw hr hx hu hn
 trace "'.2'.5%'7O,0$!$&%&'9C$!%0*@D!$,1$4&,0$!$&%$,0$!$S&&%$4!!%%*1!8'.,1$4&,0$!$&%$,0$!$S&&%$5%%'.,0$!$?$!%%'.l!$+!!%'"
 refine q3g _ ["_law_k", "_law_base", "_law_letters", "_law_at", "_law_spot"] [none,some 6,some 3,some 7,some 8] hn rfl (by exact cpo) ?_ (fun _ _ _ _ _=>?_) (fun _ _ _ _ _=>?_)
 trace "C$4!&%=44G!HI!+!E4!!&G!I4!&H*1G"
 refine q7a ["_law_name", "_law_bars"] [none,some 2] rfl (by exact cpo) ?_ (fun _ _ _ _ _=>?_) (fun _ _ _ _ _=>?_) (fun _ _ _ _ _=>?_)
 trace ";!=N!!!HI!"
theorem mF3:SimF P w K mg base k "_law_form" nF3 sF3 (q2r t.dLdraw t.dLform) g:=by
 intro _ _ _ _ _ _ _ hw hr hx hu hn
 trace "'7T!&*1+!,0$!$?$!%%8'.4&,0$!$U!&%'.+5$2$2%,0$!$&%'.,3$!$!$!%*13$!$!$,3$!$!$U!!%%"
theorem mF4:SimF P w K mg base k "_law_width" nF4 sF4 (q1r t.dLwidth) g:=by
 intro _ _ _ _ _ _ _ hw hr hx hu hn
 trace "'7:+!&2*1&8*14,4$+!&%,4$+!&%"
theorem mF5:SimF P w K mg base k "_law_split" nF5 sF5 (q2b t.dLwidth) g:=by
 intro _ _ _ _ _ _ _ hw hr hx hu hn
 trace "'.+5$3$2$3$2$!$!%$!%$3$2$!$3$2$!$!%%%E!&'7FJO!&K:+!&2*.3$2$3$2$+!&$!%$3$2$!$+!&%%8'7FJO!&K:+!&2*.3$2$3$2$!$+!&%$3$2$+!&$!%%8'7FXO,4$+!&%&aO,4$+!&%&*1Q8*1!"
theorem mF6:SimF P w K mg base k "_law_grown" nF6 sF6 (q2e t.dLdraw t.dLform t.dLsplit) g:=by
 intro _ _ _ _ _ _ _ hw hr hx hu hn
 trace "'.5$!%'.5%'9C$R&!%0*7T?$!%!'.,0$!$?$!%%'.,3$!$!$+5$&$&$&$&$&%,0$!$&%%'.,5$+!!$!$,0$!$&%%*7b!Q'.44G!HI!5$+!&$+!&%G!I4!&H*@D!$3$!$+!&%%88*13$!$!%"
theorem mF7:SimF P w K mg base k "_law_reading" nF7 sF7 (q1s) g:=by
 intro _ _ _ _ _ _ _ hw hr hx hu hn
 trace "'"
 refine q3g _ ["_law_k", "_law_row"] [none,some 0] hn rfl (by exact cpo) ?_ (fun _ _ _ _ _=>?_) (fun _ _ _ _ _=>?_)
 trace "C$?$!%%=3$2$!$+!!%'9;Y!A6060B*.44G!HI!5$3$!$+!!$+!4!&%%G!I4!&H*1+!&"
theorem mF8:SimF P w K mg base k "_law_sentence" nF8 sF8 (q1k t.dLnames t.dLdraw) g:=by
 intro _ _ _ _ _ _ _ hw hr hx hu hn
 trace "'.,2$!$?$!%$5%%'.,0$!$&%'.V'.5%'9C$?$!%%0'.+5$!$,0$!$?$!%%$,0$!$m$&$?$!%%%%!'.+!!'7FJO?$c!$!$5%%%&KN+!!L!!*.+"
 refine q7a ["_law_name", "_law_forms"] [none,some 4] rfl (by exact cpo) ?_ (fun _ _ _ _ _=>?_) (fun _ _ _ _ _=>?_) (fun _ _ _ _ _=>?_)
 trace ";!=T?$c!$!$5%%%&!&8'@D!$!%'.d!$!$5%%*7N+!!!*@D!$+!!%8*13$W$!%$!%"
theorem mF9:SimF P w K mg base k "_law_further" nF9 sF9 (q1u t.dLdraw t.dLform) g:=by
 intro _ _ _ _ _ _ _ hw hr hx hu hn
 trace "*9C$,0$!$&%%0'.+!,0$!$?$!%%'7:,0$!$&%&*.,3$!$!$4&,0$!$&%%8'.L!+!,0$!$?$!%%*7FJN!!KT?$!%&*@D!$!%8"
theorem mF10:SimF P w K mg base k "_law_kind" nF10 sF10 (q1x t.dLkind) g:=by
 intro _ _ _ _ _ _ _ hw hr hx hu hn
 trace "'7:+!&2*1+!&8*13$,:$+!&%$,:$+!&%%"
theorem mF11:SimF P w K mg base k "_law_turn" nF11 sF11 (q2p t.dLdraw) g:=by
 intro _ _ _ _ _ _ _ hw hr hx hu hn
 trace "'.n$!%'.5%'oe!5%*@D!$p!$,0$!$?$!%%%%*1!"
theorem mF12:SimF P w K mg base k "_law_book" nF12 sF12 (q2t t.dLkind t.dLnames t.dLturn) g:=by
 intro _ _ _ _ _ _ _ hw hr hx hu hn
 trace "'.5%'9f!0*9;L!!0*7N,:$!%!*@D!$,:$!%%8'.,2$!$?$!%$5%%'.5%'9f!0*9;L!!0*@D!$3$!$!$3$2$+!q!$,:$!%%%%%'.,;$!$r$!$!%%*13$W$"
 refine q3u ["_law_basic"] [none] rfl (by exact cpo) ?_ (fun _ _ _ _ _=>?_) (fun _ _ _ _ _=>?_)
 trace ";!=+!&%$W$!%$W$,;$!$!%%%"
theorem mF13:SimF P w K mg base k "_law_made" nF13 sF13 (q2q t.dLnames t.dLdraw t.dLform t.dLgrown t.dLreading t.dLsentence t.dLfurther t.dLbook) g:=by
 intro _ _ _ _ _ _ _ hw hr hx hu hn
 trace "'."
 refine q3u ["_law_name"] [none] rfl (by exact cpo) ?_ (fun _ _ _ _ _=>?_) (fun _ _ _ _ _=>?_)
 trace ";,2$!$+5$&$&$&$&%,0$!$&%$5$2%%=3$2$!%'.,3$!$!$+5$&$&$&$&%,0$!$&%%'.4&,0$!$!%'M,6$!$!$!$!%A6060B'.,7$!$!%'7:,0$!$&%U&!'"
 refine q3g _ ["_law_k", "_law_deck", "_law_basics"] [none,some 0,some 3] hn rfl (by exact cpo) ?_ (fun _ _ _ _ _=>?_) (fun _ _ _ _ _=>?_)
 trace "C$!%=Z3$!$!$+"
 refine z7e (by(with_reducible refine q2g ?_ ?_ (hs:=?_)) ;(focus exact q4b) ;rotate_left 1;(focus with_unfolding_all rfl) ;(with_reducible refine q2g ?_ ?_ (hs:=?_)) ;(focus exact q4b) ;rotate_left 1;(focus with_unfolding_all rfl) ;(with_reducible refine q2g ?_ ?_ (hs:=?_)) ;(focus exact q4b) ;rotate_left 1;(focus with_unfolding_all rfl) ;(with_reducible refine q2g ?_ ?_ (hs:=?_)) ;(focus exact q4b) ;rotate_left 1;(focus with_unfolding_all rfl) ;(with_reducible refine q2g ?_ ?_ (hs:=?_)) ;(focus exact q4b) ;rotate_left 1;(focus with_unfolding_all rfl) ;(with_reducible refine q2g ?_ ?_ (hs:=?_)) ;(focus exact q4b) ;rotate_left 1;(focus with_unfolding_all rfl) ;exact z3c)
 trace "Z0$!$&%%*.Q8'M,8$!$!%A6060B'@,9$!$!$!$!$!%*13$,<$!$!$!%$!$!$!$!%"
theorem mF14:SimF P w K mg base k "_law_numbers" nF14 sF14 (q1t) g:=by
 intro _ _ _ _ _ _ _ hw hr hx hu hn
 trace "'.4G!HI&R5$&%s$t!5%%'.5%'7:E+!&&&'9;45$P+!&&%G!I&H0*9C$&%0'@D!$E!S&&%*.P!S&&*1Y!8'.EP+!&&&'9C$&%0'.E+!E!?$!%&'.E44R!!R&!!&*@D!$PER!4!&&&%*1Y!"
theorem mF15:SimF P w K mg base k "_law_parts" nF15 sF15 (q2c t.dLparts) g:=by
 intro _ _ _ _ _ _ _ hw hr hx hu hn
 trace "'7:+!&2*15$!%8*1445$!%,?$+!&%,?$+!&%"
theorem mF16:SimF P w K mg base k "rows_of" nF16 sF16 (q1w) g:=by
 intro _ _ _ _ _ _ _ hw hr hx hu hn
 trace "'"
 refine q8a _ ["own", "form", "term", "word"] [none,none,none,some 1] hn rfl (by exact cpo) ?_ (fun _ _ _ _ _=>?_) (fun _ _ _ _ _=>?_) (fun _ _ _ _ _=>?_)
 trace ";+!&A6=6=6=B:!!3$!$!%'7uv!*w8*1!"
theorem mF17:SimF P w K mg base k "show_form" nF17 sF17 (q1j t.dshow_form) g:=by
 intro _ _ _ _ _ _ _ hw hr hx hu hn
 trace "'7:+!&2*1+!&8'M!A606060B'.,A$!%'7e+!&2*.xgy!gz8*144,A$!%!!"
theorem mF18:SimF P w K mg base k "forms_of" nF18 sF18 (q1q t.drows_of t.dshow_form) g:=by
 intro _ _ _ _ _ _ _ hw hr hx hu hn
 trace "*1~A"
 refine q3u ["form", "term"] [none,none] rfl (by exact cpo) ?_ (fun _ _ _ _ _=>?_) (fun _ _ _ _ _=>?_)
 trace ";,@$!$!%A6=6=B!"
theorem mF19:SimF P w K mg base k "forms_of_words" nF19 sF19 (q0t t.dforms_of) g:=by
 intro _ _ _ _ _ _ _ hw hr hx hu hn
 trace "'.5%'9¡!A6060B*¢*@D!$ZB$!$!%%*1!"
theorem mF20:SimF P w K mg base k "stretches" nF20 sF20 (q1i) g:=by
 intro _ _ _ _ _ _ _ hw hr hx hu hn
 trace "*1"
 refine z7f ["long", "i", "size"] [none,none,some 0] rfl (by exact cpo) ?_ (fun _ _ _ _ _=>?_) (fun _ _ _ _ _=>?_) (fun _ _ _ _ _=>?_) (fun _ _ _ _ _=>?_)
 trace "h$&$4!&%=C$U4!&!%=3$!$4!!%"
theorem mF21:SimF P w K mg base k "made" nF21 sF21 (q3f) g:=by
 intro _ _ _ _ _ _ _ hw hr hx hu hn
 trace "'7:+!&2'7:+!&!*13$2$+!&%8*7FJ:+!&2K:+!&+!&*13$2$3$2$+!&$+!&%%88'7:+!&2'7:+!&!*13$2$+!&%8*7FJ:+!&2K:+!&+!&*13$2$3$2$+!&$+!&%%88*1Q"
theorem mF22:SimF P w K mg base k "rank_of_way" nF22 sF22 (q1b) g:=by
 intro _ _ _ _ _ _ _ hw hr hx hu hn
 trace "*13$+!&$£$+!&%%"
theorem mF23:SimF P w K mg base k "rows_of_stretch" nF23 sF23 (q0r t.dmade t.dshow_form t.drank_of_way) g:=by
 intro _ _ _ _ _ _ _ hw hr hx hu hn
 trace "'.V'9h$4!&$!%0*9;i!3$!$!%0*9;i!3$!$!%0'.,E$!$!%*7b!Q'M!A6060B'.d!$,A$!%$3$!$5%%%*@D+!&$3$!$!$!$!%%8*1"
 refine q3u ["text", "found"] [none,some 3] rfl (by exact cpo) ?_ (fun _ _ _ _ _=>?_) (fun _ _ _ _ _=>?_)
 trace ";¤$!%=3$+L!!&$¥F+L!!&%"
theorem mF24:SimF P w K mg base k "chart" nF24 sF24 (q2o t.dforms_of_words t.dstretches t.drows_of_stretch) g:=by
 intro _ _ _ _ _ _ _ hw hr hx hu hn
 trace "'.,C$!$!%'.V'.5%'9;,D$?$!%%A6060B'7:!4!&*"
 refine q3g _ ["form"] [none] hn rfl (by exact cpo) ?_ (fun _ _ _ _ _=>?_) (fun _ _ _ _ _=>?_)
 trace ";+!!=3$!$5%%*.,G$!$!$!%'M"
 refine q3u ["form", "ways"] [none,none] rfl (by exact cpo) ?_ (fun _ _ _ _ _=>?_) (fun _ _ _ _ _=>?_)
 trace ";!A6=6=B!j!3$!$!%*@¦!$"
 refine q3u ["form", "ways", "i", "j"] [none,none,some 5,some 6] rfl (by exact cpo) ?_ (fun _ _ _ _ _=>?_) (fun _ _ _ _ _=>?_)
 trace ";!A6=6=B3$!$!$!$!%%*1!"
theorem mF25:SimF P w K mg base k "law" nF25 sF25 (q3s t.dLmade t.dLnumbers t.dLparts t.dchart) g:=by
 intro _ _ _ _ _ _ _ hw hr hx hu hn
 trace "'M,=$,>$!%$&$&%A6060606060B'.V'9;!0*9;L!!0*9;,?$!%0*M^j!!'9;,H$!$!%A60606060B*7_!!*7FX:+!&2X_+!&!a_+!&!*1^88*1^"
end
theorem good{P:Q1e}{w:Q1x}{K:Q2p}{mg:Str->Option Q0b}{base:Q1h}{f:Nat->Q0u}{fd:Nat->Q2z}(Z:Sta K mg)(l:Locs K mg f fd):∀k,Fns P w K mg base k (tab k) f fd
 |0=>⟨l.l0.cal q1z,l.l1.cal q1z,l.l2.cal q1z,l.l3.cal q1z,l.l4.cal q1z,l.l5.cal q1z,l.l6.cal q1z,l.l7.cal q1z,l.l8.cal q1z,l.l9.cal q1z,l.l10.cal q1z,l.l11.cal q1z,l.l12.cal q1z,l.l13.cal q1z,l.l14.cal q1z,l.l15.cal q1z,l.l16.cal q1z,l.l17.cal q1z,l.l18.cal q1z,l.l19.cal q1z,l.l20.cal q1z,l.l21.cal q1z,l.l22.cal q1z,l.l23.cal q1z,l.l24.cal q1z,l.l25.cal q1z⟩
 |k+1=>by
  have I:=good (P:=P) (w:=w) (base:=base) Z l k
  exact⟨l.l0.sim (mF0 Z I),l.l1.sim (mF1 Z I),l.l2.sim (mF2 Z I),l.l3.sim (mF3 Z I),l.l4.sim (mF4 Z I),l.l5.sim (mF5 Z I),l.l6.sim (mF6 Z I),l.l7.sim (mF7 Z I),l.l8.sim (mF8 Z I),l.l9.sim (mF9 Z I),l.l10.sim (mF10 Z I),l.l11.sim (mF11 Z I),l.l12.sim (mF12 Z I),l.l13.sim (mF13 Z I),l.l14.sim (mF14 Z I),l.l15.sim (mF15 Z I),l.l16.sim (mF16 Z I),l.l17.sim (mF17 Z I),l.l18.sim (mF18 Z I),l.l19.sim (mF19 Z I),l.l20.sim (mF20 Z I),l.l21.sim (mF21 Z I),l.l22.sim (mF22 Z I),l.l23.sim (mF23 Z I),l.l24.sim (mF24 Z I),l.l25.sim (mF25 Z I)⟩
theorem q9z{P:List Q0b->Prop}{ps:List Str}(hp:ps.length=1)(h:∀a0,P [a0])(us:List Q0b)(hl:us.length=ps.length):P us:=by
 rw[hp]at hl
 cases us with|nil=>exact absurd hl (by simp)|cons a r=>cases r with|nil=>exact h _|cons b r=>exact absurd hl (by simp)
theorem q8k{P:List Q0b->Prop}{ps:List Str}(hp:ps.length=2)(h:∀a0 a1,P [a0,a1])(us:List Q0b)(hl:us.length=ps.length):P us:=by
 rw[hp]at hl
 cases us with|nil=>exact absurd hl (by simp)|cons a r=>cases r with|nil=>exact absurd hl (by simp)|cons b r=>cases r with|nil=>exact h _ _|cons b r=>exact absurd hl (by simp)
theorem z1y{P:List Q0b->Prop}{ps:List Str}(hp:ps.length=3)(h:∀a0 a1 a2,P [a0,a1,a2])(us:List Q0b)(hl:us.length=ps.length):P us:=by
 rw[hp]at hl
 cases us with|nil=>exact absurd hl (by simp)|cons a r=>cases r with|nil=>exact absurd hl (by simp)|cons b r=>cases r with|nil=>exact absurd hl (by simp)|cons b r=>cases r with|nil=>exact h _ _ _|cons b r=>exact absurd hl (by simp)
theorem x5p{P:List Q0b->Prop}{ps:List Str}(hp:ps.length=4)(h:∀a0 a1 a2 a3,P [a0,a1,a2,a3])(us:List Q0b)(hl:us.length=ps.length):P us:=by
 rw[hp]at hl
 cases us with|nil=>exact absurd hl (by simp)|cons a r=>cases r with|nil=>exact absurd hl (by simp)|cons b r=>cases r with|nil=>exact absurd hl (by simp)|cons b r=>cases r with|nil=>exact absurd hl (by simp)|cons b r=>cases r with|nil=>exact h _ _ _ _|cons b r=>exact absurd hl (by simp)
theorem x5o{P:List Q0b->Prop}{ps:List Str}(hp:ps.length=5)(h:∀a0 a1 a2 a3 a4,P [a0,a1,a2,a3,a4])(us:List Q0b)(hl:us.length=ps.length):P us:=by
 rw[hp]at hl
 cases us with|nil=>exact absurd hl (by simp)|cons a r=>cases r with|nil=>exact absurd hl (by simp)|cons b r=>cases r with|nil=>exact absurd hl (by simp)|cons b r=>cases r with|nil=>exact absurd hl (by simp)|cons b r=>cases r with|nil=>exact absurd hl (by simp)|cons b r=>cases r with|nil=>exact h _ _ _ _ _|cons b r=>exact absurd hl (by simp)
theorem all_mk{l:Q9f}{w:Q1x}{K:Q2p}{h:Q1h}{mg:Str->Option Q0b}{fa f0 f1 f2 f3 f4 f5 f6 f7 f8 f9 f10 f11 f12 f13 f14 f15 f16 f17 f18 f19 f20 f21 f22 f23 f24 f25:Q0u}(X:K.In h)(G:h.Ns Q1y mg)(hfa:mg "law" = some (.ref fa))
    (h0:FnIn K "_law_draw" sF0 f0)
    (h1:FnIn K "_law_free_name" sF1 f1)
    (h2:FnIn K "_law_names" sF2 f2)
    (h3:FnIn K "_law_form" sF3 f3)
    (h4:FnIn K "_law_width" sF4 f4)
    (h5:FnIn K "_law_split" sF5 f5)
    (h6:FnIn K "_law_grown" sF6 f6)
    (h7:FnIn K "_law_reading" sF7 f7)
    (h8:FnIn K "_law_sentence" sF8 f8)
    (h9:FnIn K "_law_further" sF9 f9)
    (h10:FnIn K "_law_kind" sF10 f10)
    (h11:FnIn K "_law_turn" sF11 f11)
    (h12:FnIn K "_law_book" sF12 f12)
    (h13:FnIn K "_law_made" sF13 f13)
    (h14:FnIn K "_law_numbers" sF14 f14)
    (h15:FnIn K "_law_parts" sF15 f15)
    (h16:FnIn K "rows_of" sF16 f16)
    (h17:FnIn K "show_form" sF17 f17)
    (h18:FnIn K "forms_of" sF18 f18)
    (h19:FnIn K "forms_of_words" sF19 f19)
    (h20:FnIn K "stretches" sF20 f20)
    (h21:FnIn K "made" sF21 f21)
    (h22:FnIn K "rank_of_way" sF22 f22)
    (h23:FnIn K "rows_of_stretch" sF23 f23)
    (h24:FnIn K "chart" sF24 f24)
    (h25:FnIn K "law" sF25 f25)
     {a_SIGNS__t:Q0u} {n_SIGNS__t:Nat} {sl_SIGNS__t:Array (Option Q0b)} {t_SIGNS__t_0:Tok} {t_SIGNS__t_1:Tok} {t_SIGNS__t_2:Tok} {t_SIGNS__t_3:Tok}
    (gg_SIGNS__t:Q3f K Q1y "SIGNS" = some (some (.ref a_SIGNS__t)))
    (gl_SIGNS__t:K.lookup a_SIGNS__t=some ⟨.type "tuple",none,.seq #[.str ">" t_SIGNS__t_0,.str "<" t_SIGNS__t_1,.str ">>" t_SIGNS__t_2,.str "<<" t_SIGNS__t_3] n_SIGNS__t,sl_SIGNS__t⟩)
    (z_enumerate:Q3f K Q1y "enumerate" = some none)
    (z_int:Q3f K Q1y "int" = some none)
    (z_len:Q3f K Q1y "len" = some none)
    (z_list:Q3f K Q1y "list" = some none)
    (z_min:Q3f K Q1y "min" = some none)
    (z_range:Q3f K Q1y "range" = some none)
    (z_sorted:Q3f K Q1y "sorted" = some none)
    (z_tuple:Q3f K Q1y "tuple" = some none)
    (z_zip:Q3f K Q1y "zip" = some none)
    : ∃fd:Q2z,(∀(s:Q0d)(v:Q0b),Z2i s fd ⟨[v],[]⟩ [("_law_script",v)])/\∀base:Q1h,K.In base->base.Ns Q1y mg->FnOk l.prog w K mg base (CXE l.prog w) 200 fa fd ["_law_script"] (q0l K (tab 200).dlaw):=by
  cases hfa.symm.trans (h25.gl X G)
  have g_SIGNS__t:GlobT K mg "SIGNS" [(Q0j ">"),(Q0j "<"),(Q0j ">>"),(Q0j "<<")]:=⟨⟨a_SIGNS__t,_,_,_,Q8h X G gg_SIGNS__t,gl_SIGNS__t,rfl,rfl,rfl,(.cons _ _ (.cons _ _ (.cons _ _ (.cons _ _ .nil))))⟩⟩
  obtain⟨d0,L0,b0⟩:=h0.loc (ps:=pF0) X G fun _ _ _ _ _ _=>q8k rfl fun _ _=>rfl
  obtain⟨d1,L1,b1⟩:=h1.loc (ps:=pF1) X G fun _ _ _ _ _ _=>z1y rfl fun _ _ _=>rfl
  obtain⟨d2,L2,b2⟩:=h2.loc (ps:=pF2) X G fun _ _ _ _ _ _=>z1y rfl fun _ _ _=>rfl
  obtain⟨d3,L3,b3⟩:=h3.loc (ps:=pF3) X G fun _ _ _ _ _ _=>z1y rfl fun _ _ _=>rfl
  obtain⟨d4,L4,b4⟩:=h4.loc (ps:=pF4) X G fun _ _ _ _ _ _=>q9z rfl fun _=>rfl
  obtain⟨d5,L5,b5⟩:=h5.loc (ps:=pF5) X G fun _ _ _ _ _ _=>z1y rfl fun _ _ _=>rfl
  obtain⟨d6,L6,b6⟩:=h6.loc (ps:=pF6) X G fun _ _ _ _ _ _=>x5p rfl fun _ _ _ _=>rfl
  obtain⟨d7,L7,b7⟩:=h7.loc (ps:=pF7) X G fun _ _ _ _ _ _=>q8k rfl fun _ _=>rfl
  obtain⟨d8,L8,b8⟩:=h8.loc (ps:=pF8) X G fun _ _ _ _ _ _=>q8k rfl fun _ _=>rfl
  obtain⟨d9,L9,b9⟩:=h9.loc (ps:=pF9) X G fun _ _ _ _ _ _=>x5o rfl fun _ _ _ _ _=>rfl
  obtain⟨d10,L10,b10⟩:=h10.loc (ps:=pF10) X G fun _ _ _ _ _ _=>q9z rfl fun _=>rfl
  obtain⟨d11,L11,b11⟩:=h11.loc (ps:=pF11) X G fun _ _ _ _ _ _=>q8k rfl fun _ _=>rfl
  obtain⟨d12,L12,b12⟩:=h12.loc (ps:=pF12) X G fun _ _ _ _ _ _=>z1y rfl fun _ _ _=>rfl
  obtain⟨d13,L13,b13⟩:=h13.loc (ps:=pF13) X G fun _ _ _ _ _ _=>z1y rfl fun _ _ _=>rfl
  obtain⟨d14,L14,b14⟩:=h14.loc (ps:=pF14) X G fun _ _ _ _ _ _=>q9z rfl fun _=>rfl
  obtain⟨d15,L15,b15⟩:=h15.loc (ps:=pF15) X G fun _ _ _ _ _ _=>q9z rfl fun _=>rfl
  obtain⟨d16,L16,b16⟩:=h16.loc (ps:=pF16) X G fun _ _ _ _ _ _=>q8k rfl fun _ _=>rfl
  obtain⟨d17,L17,b17⟩:=h17.loc (ps:=pF17) X G fun _ _ _ _ _ _=>q9z rfl fun _=>rfl
  obtain⟨d18,L18,b18⟩:=h18.loc (ps:=pF18) X G fun _ _ _ _ _ _=>q8k rfl fun _ _=>rfl
  obtain⟨d19,L19,b19⟩:=h19.loc (ps:=pF19) X G fun _ _ _ _ _ _=>q8k rfl fun _ _=>rfl
  obtain⟨d20,L20,b20⟩:=h20.loc (ps:=pF20) X G fun _ _ _ _ _ _=>q9z rfl fun _=>rfl
  obtain⟨d21,L21,b21⟩:=h21.loc (ps:=pF21) X G fun _ _ _ _ _ _=>q8k rfl fun _ _=>rfl
  obtain⟨d22,L22,b22⟩:=h22.loc (ps:=pF22) X G fun _ _ _ _ _ _=>q9z rfl fun _=>rfl
  obtain⟨d23,L23,b23⟩:=h23.loc (ps:=pF23) X G fun _ _ _ _ _ _=>z1y rfl fun _ _ _=>rfl
  obtain⟨d24,L24,b24⟩:=h24.loc (ps:=pF24) X G fun _ _ _ _ _ _=>q8k rfl fun _ _=>rfl
  obtain⟨d25,L25,b25⟩:=h25.loc (ps:=pF25) X G fun _ _ _ _ _ _=>q9z rfl fun _=>rfl
  exact⟨d25,fun s v=>.of_eq (b25 [v] rfl),fun base _ _=>(good (f:=fun i=>[f0,f1,f2,f3,f4,f5,f6,f7,f8,f9,f10,f11,f12,f13,f14,f15,f16,f17,f18,f19,f20,f21,f22,f23,f24,fa].getD i fa) (fd:=fun i=>[d0,d1,d2,d3,d4,d5,d6,d7,d8,d9,d10,d11,d12,d13,d14,d15,d16,d17,d18,d19,d20,d21,d22,d23,d24,d25].getD i d0) (⟨Q3e X G z_enumerate,Q3e X G z_int,Q3e X G z_len,Q3e X G z_list,Q3e X G z_min,Q3e X G z_range,Q3e X G z_sorted,Q3e X G z_tuple,Q3e X G z_zip,g_SIGNS__t⟩:Sta K mg) ⟨L0,L1,L2,L3,L4,L5,L6,L7,L8,L9,L10,L11,L12,L13,L14,L15,L16,L17,L18,L19,L20,L21,L22,L23,L24,L25⟩ 200).c25.G⟩
theorem walk{l:Q9f}{q:Q1e}{loose:List Str}{XP:(Str->Option Q0b)->Q1h->Prop}{YP:Q1x->Q1h->Prop}{d:DefRec}{K:Params->Q2p}(hlaw:LawP (tab 200).dlaw)(hn:l.most=some 63)(hdf:d.params.defaults=[])
  (hY:∀(w:Q1x)(h:Q1h),YP w h->(K w.params).In h)
  (F:∀(w:Q1x)(mg:Str->Option Q0b)(fa:Q0u)(h:Q1h),(K w.params).In h->h.Ns Q1y mg->mg d.name=some (.ref fa)->
   ∃fd:Q2z,(∀(s:Q0d)(u:Q0b),Z2i s fd ⟨[u],[]⟩ [("_law_script",u)])/\∀base:Q1h,(K w.params).In base->base.Ns Q1y mg->FnOk l.prog w (K w.params) mg base (CXE l.prog w) 200 fa fd ["_law_script"] (q0l (K w.params) (tab 200).dlaw)) :
  Z3j q loose XP YP l.row.toRowW d [] (fun f vs=>Z2m f vs):=
 L2.z6f (n:=63) (k:=200) (x:= "_law_script") (CX:=fun w=>CXE l.prog w) (sp:=fun w=>q0l (K w.params) (tab 200).dlaw) hn (by decide) hdf ⟨rfl,by decide,by decide⟩ hY F (fun _ H a ns hl hO hS=>x2y hlaw H a ns hl hO hS) fun _ _ _ _ _ hh1=>by obtain⟨_,_,_,_,_,_,_,_,_,_,_,z⟩:=hh1;exact(z)
end
theorem q6k(n:Nat):q9a (tab (n+1)).dLdraw:=y9j
theorem x6e(n:Nat):FreD (tab (n+1)).dLfree_name:=x3r
theorem y8w(n:Nat):NmsD (tab (n+2)).dLnames:=x2q (q6k n) (x6e n)
theorem y8x:∀n m,m+1<n->FmlD (tab n).dLform m:=y0c (T:=fun n=>(tab n).dLform) (U:=fun n=>(tab n).dLdraw) (fun _=>rfl) q6k
theorem x5q:∀(n:Nat)(f:Fm),f.dp<=n->∀(S:q0b)(E:EK)(Q:VC),Q (.int (f.lv:Nat)) S->(tab n).dLwidth [f.pv] S E Q:=z6e (T:=fun n=>(tab n).dLwidth) (fun _=>rfl)
theorem x5t(n:Nat):SplD (tab (n+21)).dLsplit:=x0o fun f hf=>x5q (n+20) f (by omega)
theorem x6b(n:Nat):GwnD (tab (n+22)).dLgrown:=x3l (q6k (n+20)) (fun m hm=>y8x (n+21) m (by omega)) (x5t n)
theorem x5w(n:Nat):RgD (tab (n+1)).dLreading:=x1a
theorem k_sn(n:Nat):SnD (tab (n+3)).dLsentence:=x4v (y8w n) (q6k (n+1))
theorem x6d(n:Nat):FurD (tab (n+10)).dLfurther:=x3p (q6k (n+8)) (fun m hm=>y8x (n+9) m (by omega))
theorem x6a(n:Nat):x4l (tab n).dLkind n:=z1z (T:=fun n=>(tab n).dLkind) (fun _=>rfl) n
theorem x5r(n:Nat):TrnD (tab (n+2)).dLturn:=x0c (q6k n)
theorem k_bk(n:Nat):BkD (tab (n+11)).dLbook:=x6s (fun f hf=>x6a (n+10) f (by omega)) (y8w (n+8)) (x5r (n+8))
theorem x5z(n:Nat):MakD (tab (n+30)).dLmade:=x2t (y8w (n+27)) (q6k (n+28)) (fun m hm=>y8x (n+29) m (by omega)) (x6b (n+7)) (x5w (n+28)) (k_sn (n+26)) (x6d (n+19)) (k_bk (n+18))
theorem x5y(n:Nat):x4k (tab (n+1)).dLnumbers:=y8g
theorem x5u:ShoG (tab 196).dshow_form 100:=z7l (T:=fun n=>(tab (n+96)).dshow_form) (fun _=>rfl) 100 (by decide)
theorem x6f:FosG (tab 197).dforms_of:=x3s y7b (fun f h1 h2=>x5u f h1 (by omega))
theorem Mad.bok2{bs ws:List Str}{ent:Ent}{tr:List ((Str×Fm)×PV)}{g:Fm}{rd:Option Rd}(M:Mad bs ws ent tr g rd){lo fd:Nat}{S:q0b}(F:FD lo fd bs ent S):Bok tr:=by
 have hl:tr.length<=18:=by
  have:=M.tp.length_eq
  rw[Q0q,z6n]at this
  have:=M.tt
  omega
 refine⟨by omega,fun t ht=>?_⟩
 have:t.1∈trs ent:=M.tp.mem_iff.mp (Q0p.mpr ⟨t,ht,rfl⟩)
 obtain⟨e,he,hf⟩:=Q7m.mp this
 obtain⟨f,hf,e1⟩:=Q0p.mp hf
 obtain⟨_,_,_,o4⟩:=F.ok e he
 obtain⟨l6,ov⟩:=o4 f hf
 rw[<-e1]
 exact⟨y7w (fun w hw=>(M.bok w hw).1) ov,l6⟩
theorem x5x(n:Nat):PrtD (tab n).dLparts n:=z7y (T:=fun n=>(tab n).dLparts) (fun _=>rfl) n
theorem x3f:ShoG (tab 197).dshow_form 100:=z7l (T:=fun n=>(tab (n+97)).dshow_form) (fun _=>rfl) 100 (by decide)
theorem x5v:RosD (tab 198).drows_of_stretch:=x0y (sm:=(tab 197).dmade) (ss:=(tab 197).dshow_form) (sr:=(tab 197).drank_of_way) y8q (fun f h1 h2=>x3f f h1 (by omega)) x0z
theorem x6c:FwsD (tab 198).dforms_of_words:=x3o (sf:=(tab 197).dforms_of) x6f
theorem x5s:StrD (tab 198).dstretches:=x0i
theorem x6g:ChtD (tab 199).dchart:=x3y (sf:=(tab 198).dforms_of_words) (ss:=(tab 198).dstretches) (sr:=(tab 198).drows_of_stretch) x6c x5s x5v
theorem Fm.k_tup(f:Fm):∃ys,f.k=.tup ys:=by cases f<;>exact⟨_,rfl⟩
structure Pd(ph c:Nat)(G:Fm->Prop)(S:q0b):Prop where
 is:∃kvs,(S[ph]?=some (.dN kvs)\/(S[ph]?=some (.dK [])/\kvs=[]))/\kvs.length<=c/\∀p,G p->(valN kvs p.k).isSome=true
theorem Pd.ex{ph c:Nat}{G:Fm->Prop}{S S':q0b}(h:Pd ph c G S)(x:Ex [] S S'):Pd ph c G S':=by
 obtain⟨kvs,a,b,d⟩:=h.is
 refine⟨⟨kvs,?_,b,d⟩⟩
 rcases a with a|⟨a,e⟩
 ·exact .inl (x.get a (by simp))
 ·exact .inr ⟨x.get a (by simp),e⟩
theorem Pd.imp{ph c c':Nat}{G G':Fm->Prop}{S:q0b}(h:Pd ph c G S)(hc:c<=c')(hg:∀p,G' p->G p):Pd ph c' G' S:=by
 obtain⟨kvs,a,b,d⟩:=h.is
 exact⟨⟨kvs,a,by omega,fun p hp=>d p (hg p hp)⟩⟩
theorem Pd.put{ph c:Nat}{G:Fm->Prop}{S:q0b}{p:Fm}{R:q0b->Prop}(h:Pd ph c G S)(hc:c<=100000)(hp:p.dp<=8)(k:∀kvs,Pd ph (c+1) (fun q=>G q\/q=p) (S.set ph (.dN kvs))->R (S.set ph (.dN kvs))):z7q (.ref ph) p.pv (.bl true) S R:=by
 obtain⟨kvs,a,b,d⟩:=h.is
 have lp:ph<S.length:=by rcases a with a|⟨a,_⟩<;>exact q0d a
 refine⟨ph,p.k,kvs,rfl,(z3p p).symm,⟨p.k_tup,by rw[q8n];exact hp⟩,a,big (by omega),k _ ⟨⟨_,.inl (Q1o lp),?_,fun q hq=>?_⟩⟩⟩
 ·have:=z3h kvs p.k (PV.bl true);omega
 ·rw[q7w]
  split
  ·rfl
  ·rename_i z
   rcases hq with hq|rfl
   ·exact d q hq
   ·exact absurd rfl z
theorem Pd.non{ph c:Nat}{G:Fm->Prop}{S:q0b}{p0:Fm}(h:Pd ph c G S)(h0:G p0):∃kvs,S[ph]?=some (.dN kvs)/\∀p,G p->(valN kvs p.k).isSome=true:=by
 obtain⟨kvs,a,b,d⟩:=h.is
 rcases a with a|⟨a,rfl⟩
 ·exact⟨kvs,a,d⟩
 ·have:=d p0 h0
  simp[valN]at this
theorem y5p{ent:Ent}{tr:List ((Str×Fm)×PV)}(tp:(tr.map (·.1)).Perm (trs ent))(nd:(ent.map (·.1)).Nodup){e:Str×Nat×List Fm}(he:e∈ent):(wfs tr e.1).Perm e.2.2:=by
 have h1:wfs tr e.1=((tr.map (·.1)).filter fun p=>decide (p.1=e.1)).map (·.2):=by
  unfold wfs
  rw[List.filter_map,Q3v]
  rfl
 have h0:∀l:Ent,e.1∉l.map (·.1)->(trs l).filter (fun p=>decide (p.1=e.1))=[]:=fun l hl=>by
  rw[Z1l]
  intro p hp
  obtain⟨d,hd,hp⟩:=Q7m.mp hp
  obtain⟨f,_,rfl⟩:=Q0p.mp hp
  simp only[decide_eq_true_eq]
  exact fun z=>hl (Q0p.mpr ⟨d,hd,z⟩)
 have h2:∀l:Ent,(l.map (·.1)).Nodup->e∈l->((trs l).filter fun p=>decide (p.1=e.1)).map (·.2)=e.2.2:=by
  intro l
  induction l with
  |nil=>intro _ z;cases z
  |cons d l ih=>
   intro nd hm
   rw[Q0v,Q1r]at nd
   have et:trs (d::l)=(d.2.2.map fun f=>(d.1,f))++trs l:=by simp[trs]
   rw[et,Q5r,Q1w]
   cases hm with
   |head=>
    rw[h0 l nd.1,List.filter_eq_self.mpr (by intro p hp;obtain⟨f,_,rfl⟩:=Q0p.mp hp;simp)]
    rw[Q3v,Q6b,Q2x]
    exact List.map_id _
   |tail _ hm=>
    have hne:d.1≠e.1:=fun z=>nd.1 (by rw[z];exact Q0p.mpr ⟨e,hm,rfl⟩)
    rw[ih nd.2 hm,Z1l.mpr (by intro p hp;obtain⟨f,_,rfl⟩:=Q0p.mp hp;simpa using hne)]
    rfl
 rw[h1]
 refine((tp.filter _).map _).trans ?_
 rw[h2 ent nd he]
theorem z7x:∀{f p:Fm}{n:Nat},p∈pts f->f.dp<=n->p.dp<=n
 |.b s,p,n,h,hn=>by simp only[pts,Q0i]at h;rw[h];exact hn
 |.n l x y,p,n,h,hn=>by
  simp only[pts,Q1b,Q0n]at h
  rcases h with h|h|h
  ·rw[h];exact hn
  ·simp only[Fm.dp]at hn;exact z7x h (by omega)
  ·simp only[Fm.dp]at hn;exact z7x h (by omega)
theorem law_ok:LawP (tab 200).dlaw:=by
 intro ns hns
 have hnum:=x5y 198
 have hmak:=x5z 169
 have hprt:=x5x 199
 have hcht:=x6g
 show fnP 1 13 (q3s (tab 199).dLmade (tab 199).dLnumbers (tab 199).dLparts (tab 199).dchart) _ _ _ _
 generalize (tab 199).dLmade=s1,(tab 199).dLnumbers=s2,(tab 199).dLparts=s3,(tab 199).dchart=s4 at *
 refine⟨rfl,?_⟩
 unfold q3s
 refine seqI fun K hK=>?_
 dsimp![true_and]
 refine hnum ns _ _ _ hns fun d S1 dk x1 _=>?_
 refine hmak d 6 1 _ _ _ dk (by decide) (by decide) (by decide) fun x y bs ws ent tr g rd fd S2 M hrd F d2 x2=>?_
 dsimp![true_and]
 refine hK _ _ ?_
 clear hK
 refine seqI fun K hK=>?_
 dsimp![true_and]
 refine hK _ _ ?_
 clear hK
 have w6:=M.wl
 have F1:FD S1.length fd bs ent (S2++[.dK []]):=F.ex (Ex.new [] _ _) (by simp)
 have P1:Pd S2.length 0 (fun _=>False) (S2++[.dK []]):=⟨⟨[],.inr ⟨by simp,rfl⟩,by simp,fun p z=>z.elim⟩⟩
 have l12:S1.length<=S2.length:=x2.1
 have bo:=M.bok2 F
 generalize hS3:S2++[SO.dK []]=S3 at F1 P1
 have l3:S3.length=S2.length+1:=by rw[<-hS3];simp
 have x3:Ex [S2.length] S2 S3:=by rw[<-hS3];exact Ex.new _ _ _
 generalize hph:S2.length=ph at *
 refine seqI fun K hK=>?_
 dsimp![true_and]
 have FE:∀{S4:q0b},Ex [ph] S2 S4->FD S1.length fd bs ent S4:=fun x4=>F.ex x4 (fun i hi=>.inr (by simp at hi;omega))
 refine forM PV.str ws (fun a σ S4=>∃j7 j8 j9,σ=[some (.frl (ns.map PV.int)),some (bkP x y tr),some (.tup (ws.map PV.str)),some (.ref fd),some (rdP rd),some g.pv,some (.ref ph),j7,j8,j9,none,none,none]/\Ex [ph] S2 S4/\ph<S4.length/\Pd ph (55*a.length) (fun p=>∃e∈ent,e.1∈a/\∃f∈e.2.2,p∈pts f) S4) ?_ ?_ _ _ ⟨_,_,_,rfl,x3,by omega,P1.imp (by omega) fun p hh1=>by obtain⟨e,_,z,_⟩:=hh1;cases z⟩
 ·rintro σ S4 ⟨j7,j8,j9,rfl,x4,l4,P4⟩
  refine⟨trivial,hK _ _ ?_⟩
  have ew:∀w∈ws,∃e∈ent,e.1=w/\(wfs tr w).Perm e.2.2:=fun w hw=>by
   obtain⟨e,he,rfl⟩:=Q0p.mp (M.key w hw)
   exact⟨e,he,rfl,y5p M.tp F.nd he⟩
  refine seqI fun K2 hK2=>?_
  dsimp![true_and]
  refine hcht x y tr ws _ _ _ bo (fun w hw=>?_) (fun w hw=>?_) w6.1 w6.2 fun ce tb cl S5 T5 _ _ x5=>?_
  ·obtain⟨e,he,e1,pe⟩:=ew w hw
   obtain⟨f,hf⟩:=Z0l _ (M.ne e he)
   have:=pe.mem_iff.mpr hf
   unfold wfs at this
   obtain⟨t,ht,_⟩:=Q0p.mp this
   have:=Q4i.mp ht
   exact⟨t,this.1,by simpa using this.2⟩
  ·obtain⟨e,he,e1,pe⟩:=ew w hw
   rw[pe.length_eq]
   exact(F.ok e he).2.1
  have hin0:∀p,InP tr ws p->∃e∈ent,e.1∈ws/\∃f∈e.2.2,p∈pts f:=fun p hh2=>by
   obtain⟨w,hw,g,hg,hp⟩:=hh2
   obtain⟨e,he,e1,pe⟩:=ew w hw
   exact⟨e,he,by rw[e1];exact hw,g,pe.mem_iff.mp hg,hp⟩
  obtain⟨p0,hp0⟩:∃p0,InP tr ws p0:=by
   have hw:ws[0]∈ws:=Q3a (by omega)
   obtain⟨e,he,e1,pe⟩:=ew _ hw
   obtain⟨f,hf⟩:=Z0l _ (M.ne e he)
   exact⟨f,_,hw,f,pe.mem_iff.mpr hf,q5n f⟩
  obtain⟨kvs,kd,kin⟩:=(P4.ex x5).non (hin0 p0 hp0)
  have hin:∀p,InP tr ws p->(valN kvs p.k).isSome=true:=fun p hp=>kin p (hin0 p hp)
  have er:rows cl=(cl.flatMap fun c=>c.2.2.map fun e=>(c,e)).map fun p=>rwP p.1 p.2:=by
   simp only[rows,List.map_flatMap,Q3v]
   rfl
  have ta:=T5.tab
  rw[er]at ta
  simp only[q0c ta]
  have chk:∀{f:Fm}{R:VC},f.dp<=8->R (.bl (!(valN kvs f.k).isSome)) S5->cInN true f.pv (.ref ph) S5 R:=fun {f R} hd hR=>⟨ph,kvs,f.k,rfl,kd,(z3p f).symm,⟨f.k_tup,by rw[q8n];exact hd⟩,hR⟩
  refine forM (fun p:(Nat×Nat×List En)×En=>rwP p.1 p.2) _ (fun a σ S6=>S6=S5/\∃j7 j8 j9 j10 j11 j12,σ=[some (.frl (ns.map PV.int)),some (bkP x y tr),some (.tup (ws.map PV.str)),some (.ref fd),some (rdP rd),some g.pv,some (.ref ph),j7,j8,j9,j10,j11,j12]) ?_ ?_ _ _ ⟨rfl,_,_,_,_,_,_,rfl⟩
  ·rintro σ S6 ⟨rfl,j7,j8,j9,j10,j11,j12,rfl⟩
   exact⟨q0c ta,hK2 _ _ rfl⟩
  ·rintro a p b hab σ S6 ⟨rfl,j7,j8,j9,j10,j11,j12,rfl⟩ N hN
   have hm:p∈cl.flatMap fun c=>c.2.2.map fun e=>(c,e):=by rw[hab];simp
   obtain⟨c,hc,hm⟩:=Q7m.mp hm
   obtain⟨e,he,rfl⟩:=Q0p.mp hm
   have gd:=((T5.ok c hc).gd e he).dp
   have pt:=y5v T5 _ c hc (Q0k _) e he
   refine⟨q0c ta,?_⟩
   dsimp![rwP]
   refine chk (by omega) ?_
   cases hv:(valN kvs e.f.k).isSome with
   |true=>
    dsimp![Q5p,Q1j]
    exact hN _ _ ⟨rfl,_,_,_,_,_,_,rfl⟩
   |false=>
    rcases pt with z|⟨b,x',z',ef,h1,h2⟩
    ·rw[hin _ z]at hv;cases hv
    ·rw[ef]at gd ⊢
     simp only[Fm.dp]at gd
     dsimp![Z4i,fn0,fn1,fn2,q4j]
     refine chk (by omega) ?_
     dsimp![hin _ h1,Q5p,Q1j]
     refine chk (by omega) ?_
     dsimp![hin _ h2,Q5p,Q1j]
     exact hN _ _ ⟨rfl,_,_,_,_,_,_,rfl⟩
 ·rintro a w b hab σ S4 ⟨j7,j8,j9,rfl,x4,l4,P4⟩ N hN
  have hw:w∈ws:=by rw[hab];simp
  have al:a.length<6:=by have:=congrArg Q3m hab;simp at this;omega
  refine⟨trivial,?_⟩
  dsimp![true_and]
  obtain⟨e,he,e1,hv⟩:∃e∈ent,e.1=w/\valP (ent.map kvE) (.inr w)=some (.ref e.2.1):=by
   rcases F.val w with z|⟨z,_⟩
   ·exact z
   ·exact absurd (M.key w hw) z
  obtain⟨_,el,_,eo⟩:=F.ok e he
  refine⟨fd,_,_,_,rfl,(FE x4).dic,rfl,hv,?_⟩
  have g4:=(FE x4).lst e he
  simp only[q0c g4]
  refine forM Fm.pv e.2.2 (fun a2 σ S5=>∃j8 j9,σ=[some (.frl (ns.map PV.int)),some (bkP x y tr),some (.tup (ws.map PV.str)),some (.ref fd),some (rdP rd),some g.pv,some (.ref ph),some (.str w),j8,j9,none,none,none]/\Ex [ph] S2 S5/\ph<S5.length/\Pd ph (55*a.length+11*a2.length) (fun p=>(∃e∈ent,e.1∈a/\∃f∈e.2.2,p∈pts f)\/∃f∈a2,p∈pts f) S5) ?_ ?_ _ _ ⟨_,_,rfl,x4,l4,P4.imp (by omega) fun p z=>by rcases z with z|⟨f,z,_⟩;exact z;cases z⟩
  ·rintro σ S5 ⟨j8,j9,rfl,x5,l5,P5⟩
   refine⟨q0c ((FE x5).lst e he),hN _ _ ⟨_,_,_,rfl,x5,l5,P5.imp (by simp;omega) fun p hh3=>?_⟩⟩
   obtain⟨e',he',z,f,hf,hp⟩:=hh3
   rcases Q0n.mp z with z|z
   ·exact .inl ⟨e',he',z,f,hf,hp⟩
   ·have:e'=e:=z8s F.nd he' he (by rw[Q0i.mp z,e1])
    subst this
    exact .inr ⟨f,hf,hp⟩
  ·rintro a2 f b2 hab2 σ S5 ⟨j8,j9,rfl,x5,l5,P5⟩ N2 hN2
   have hf:f∈e.2.2:=by rw[hab2];simp
   have a2l:a2.length<5:=by have:=congrArg Q3m hab2;simp at this;omega
   obtain⟨fl,_⟩:=eo f hf
   have fd6:=f.dp_lv
   have pl:=q5z f
   refine⟨q0c ((FE x5).lst e he),?_⟩
   dsimp![true_and]
   refine hprt f (by omega) fl _ _ _ fun r S6 r1 r2 x6=>?_
   simp only[q0c r2]
   refine forM Fm.pv (pts f) (fun a3 σ S7=>∃j9,σ=[some (.frl (ns.map PV.int)),some (bkP x y tr),some (.tup (ws.map PV.str)),some (.ref fd),some (rdP rd),some g.pv,some (.ref ph),some (.str w),some f.pv,j9,none,none,none]/\Ex [ph] S2 S7/\ph<S7.length/\S7[r]?=some (.lst ((pts f).map Fm.pv))/\Pd ph (55*a.length+11*a2.length+a3.length) (fun p=>((∃e∈ent,e.1∈a/\∃f∈e.2.2,p∈pts f)\/∃f∈a2,p∈pts f)\/p∈a3) S7) ?_ ?_ _ _ ⟨_,rfl,x5.trans x6.nil,by have:=x6.1;omega,r2,(P5.ex x6).imp (by omega) fun p z=>by rcases z with z|z;exact z;cases z⟩
   ·rintro σ S7 ⟨j9,rfl,x7,l7,r7,P7⟩
    refine⟨q0c r7,hN2 _ _ ⟨_,_,rfl,x7,l7,P7.imp (by simp;omega) fun p z=>?_⟩⟩
    rcases z with z|⟨f',z,hp⟩
    ·exact .inl (.inl z)
    ·rcases Q0n.mp z with z|z
     ·exact .inl (.inr ⟨f',z,hp⟩)
     ·rw[Q0i.mp z]at hp;exact .inr hp
   ·rintro a3 p b3 hab3 σ S7 ⟨j9,rfl,x7,l7,r7,P7⟩ N3 hN3
    have a3l:a3.length<=11:=by have:=congrArg Q3m hab3;simp at this;omega
    have hp:p∈pts f:=by rw[hab3];simp
    refine⟨q0c r7,?_⟩
    dsimp![true_and]
    refine P7.put (by omega) (z7x hp (by omega)) fun kvs P8=>hN3 _ _ ⟨_,rfl,x7.set (.inl (by simp)),by simpa using l7,by rw[Q1c (by omega)];exact r7,P8.imp (by simp;omega) fun q z=>?_⟩
    rcases z with z|z
    ·exact .inl (.inl z)
    ·rcases Q0n.mp z with z|z
     ·exact .inl (.inr z)
     ·exact .inr (Q0i.mp z)
end My
open PySem PySem.W PyProof.Rows
def PySem.W.Fast.tw11432479283677077253:Unit:=()
def PySem.W.Fast.tw15576835461339821746:Unit:=()
def PySem.W.Fast.tw2616057684411259757:Unit:=()
def PySem.W.Fast.tw8451749577347980928:Unit:=()
def PySem.W.Fast.tw7846664997500850511:Unit:=()
def PySem.W.Fast.tw8945569524617106014:Unit:=()
def PySem.W.Fast.tw10827285206167823409:Unit:=()
def PySem.W.Fast.tw2561137699734087023:Unit:=()
def PySem.W.Fast.tw8123162109418755825:Unit:=()
def PySem.W.Fast.tw10650485994988827847:Unit:=()
def PySem.W.Fast.tw16062741233949398466:Unit:=()
def PySem.W.Fast.tw9019900394153784533:Unit:=()
def PySem.W.Fast.tw4186320446664544306:Unit:=()
def PySem.W.Fast.tw7056434727904108036:Unit:=()
def PySem.W.Fast.tw17610459948429301223:Unit:=()
def PySem.W.Fast.tw14229906227864573680:Unit:=()
def PySem.W.Fast.tw9753477485768618648:Unit:=()
def PySem.W.Fast.tw6741913649228299957:Unit:=()
def PySem.W.Fast.tw15232602026698521081:Unit:=()
def PySem.W.Fast.tw14418053233545535958:Unit:=()
def PySem.W.Fast.tw5596122412374067263:Unit:=()
def PySem.W.Fast.tw12800691406188093515:Unit:=()
def PySem.W.Fast.tw2974342234087791140:Unit:=()
def PySem.W.Fast.tw7078321369321700501:Unit:=()
def PySem.W.Fast.tw14786326851372568677:Unit:=()
def PySem.W.Fast.tw4825007470156223991:Unit:=()
def PySem.W.Fast.tw5617148658962204553:Unit:=()
def PySem.W.Fast.tw3548491099247888359:Unit:=()
def PySem.W.Fast.tw3162466046903761002:Unit:=()
def PySem.W.Fast.tw2396172251075543306:Unit:=()
def PySem.W.Fast.tw13827310520460753230:Unit:=()
def PySem.W.Fast.tw7070634669766012226:Unit:=()
def PySem.W.Fast.tw3294412711873977828:Unit:=()
def PySem.W.Fast.tw12018341737986697357:Unit:=()
def PySem.W.Fast.tw5073452912591597233:Unit:=()
set_option maxRecDepth 100000 in
set_option maxHeartbeats 0 in
theorem PySem.Challenge.cw_slashwise_k43_forms_of_parts_holds : PySem.Challenge.rw_slashwise_k43_forms_of_parts.Holds := by
 w_on; o_law; k_head; (case hw => w_witness2)
 k_fill
 refine My.walk (l := PySem.Challenge.rw_slashwise_k43_forms_of_parts) My.law_ok rfl rfl (fun w h Y => PySem.W.kIn_of Y) ?F
 case F =>
  intro w mg fa h KX G hmg
  refine' My.all_mk KX G hmg (.mk ?a0 ?l0 ?c0 ?k0) (.mk ?a1 ?l1 ?c1 ?k1) (.mk ?a2 ?l2 ?c2 ?k2) (.mk ?a3 ?l3 ?c3 ?k3) (.mk ?a4 ?l4 ?c4 ?k4) (.mk ?a5 ?l5 ?c5 ?k5) (.mk ?a6 ?l6 ?c6 ?k6) (.mk ?a7 ?l7 ?c7 ?k7) (.mk ?a8 ?l8 ?c8 ?k8) (.mk ?a9 ?l9 ?c9 ?k9) (.mk ?a10 ?l10 ?c10 ?k10) (.mk ?a11 ?l11 ?c11 ?k11) (.mk ?a12 ?l12 ?c12 ?k12) (.mk ?a13 ?l13 ?c13 ?k13) (.mk ?a14 ?l14 ?c14 ?k14) (.mk ?a15 ?l15 ?c15 ?k15) (.mk ?a16 ?l16 ?c16 ?k16) (.mk ?a17 ?l17 ?c17 ?k17) (.mk ?a18 ?l18 ?c18 ?k18) (.mk ?a19 ?l19 ?c19 ?k19) (.mk ?a20 ?l20 ?c20 ?k20) (.mk ?a21 ?l21 ?c21 ?k21) (.mk ?a22 ?l22 ?c22 ?k22) (.mk ?a23 ?l23 ?c23 ?k23) (.mk ?a24 ?l24 ?c24 ?k24) (.mk ?a25 ?l25 ?c25 ?k25) ?gg_SIGNS__t ?gl_SIGNS__t ?z_enumerate ?z_int ?z_len ?z_list ?z_min ?z_range ?z_sorted ?z_tuple ?z_zip
  (case a0 | l0 | c0 | k0 | a1 | l1 | c1 | k1 | a2 | l2 | c2 | k2 | a3 | l3 | c3 | k3 | a4 | l4 | c4 | k4 | a5 | l5 | c5 | k5 | a6 | l6 | c6 | k6 | a7 | l7 | c7 | k7 | a8 | l8 | c8 | k8 | a9 | l9 | c9 | k9 | a10 | l10 | c10 | k10 | a11 | l11 | c11 | k11 | a12 | l12 | c12 | k12 | a13 | l13 | c13 | k13 | a14 | l14 | c14 | k14 | a15 | l15 | c15 | k15 | a16 | l16 | c16 | k16 | a17 | l17 | c17 | k17 | a18 | l18 | c18 | k18 | a19 | l19 | c19 | k19 | a20 | l20 | c20 | k20 | a21 | l21 | c21 | k21 | a22 | l22 | c22 | k22 | a23 | l23 | c23 | k23 | a24 | l24 | c24 | k24 | a25 | l25 | c25 | k25 | gg_SIGNS__t | gl_SIGNS__t | z_enumerate | z_int | z_len | z_list | z_min | z_range | z_sorted | z_tuple | z_zip => k_is)
#print axioms PySem.Challenge.cw_slashwise_k43_forms_of_parts_holds
