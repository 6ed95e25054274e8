import PyProof.Rows.All
import PyProof.DictRoadsH
import Wide.All
import OpenK.AllK
import Wide.FinOn
import Lean
import PyProof.EqAt
import PyProof.EqKinds
import PyProof.TupleCall
import KE.KTryMore
import PyProof.StationsW
import PyProof.ExcBaseAll.ValueError
import PyProof.Rows.CatchOwn
import PyProof.ZipIter
import PyProof.ListNew
import PyProof.Rows.TupAdd
import PyProof.NeKinds
import KE.KUnpack
import KE.KRevSl
import PyProof.FitsBits
import PyProof.RulesAs
import PyProof.NsDelKeeps
import PyProof.ExcArgsOwn
import OpenK.KDescr
import KE.KIsNot
import PyProof.ExcAttrAll.ValueError
import PyProof.ExcInit
import PyProof.InstStoreFacts
import PyProof.FString
import PyProof.Rows.RegStrFacts
import PyProof.StrOps2
import PyProof.EnumFor
import PyProof.EnumMake
import PyProof.DictCompW
import PyProof.ListRange
import PyProof.DictIter
import KE.KSortKey
import PyProof.Rows.SortStr
import KE.KDictLaws
import KE.KIntText
import PyProof.Rows.StrNews
import KE.KSortTup
import KE.KDictList
import PyProof.Rows.TupTab
import PyProof.FactsAll.tuple_2
import PyProof.FactsAll.tuple_3
import PyProof.Draws
import PyProof.EnumStmt
import PyProof.Rows.CallKwBuiltin
import PyProof.Rows.SetFrom
import PySem.Challenge.RW_slashwise_k80_words_of_a_sentence
open PySem.W (Frag)
open Array renaming getElem?_eq_some_iff->Q3a,getElem?_setIfInBounds_self_of_lt->Q4u,length_toList->Q5e,forIn_toList->Q8c,append_assoc->Q8d,find?_toList->Q8f,append_empty->Q8h,toList_push->Q8i,toList_inj->Q8y,toList->Q9u
open Bool renaming and_eq_true->Q2u,false_eq_true->Q2v,false_ne_true->Q3o,eq_iff_iff->Q6q,not_true->Q7e,or_eq_true->Q9n,false_and->Q9o,false_or->Q9w,true_and->Q9y,and_self->Q9z,or_true->Z0j
open Char renaming toNat->Z0z
open False renaming elim->Q2g
open ForInStep renaming yield->Q2a
open Int renaming toNat_natCast->Q3d,emod_lt_of_pos->Q4d,emod_nonneg->Q5c
open LawfulBEq renaming eq_of_beq->Q7l
open Lean renaming mkIdent->Q7u
open List renaming prefix_refl->Q0d,size_toArray->Q0f,getElem?_eq_getElem->Q0h,getElem?_eq_some_iff->Q0j,length_cons->Q0q,length_append->Q0s,mem_append_right->Q0u,getElem?_append_left->Q0x,mem_cons_of_mem->Q1b,map_cons->Q1c,replicate->Q1d,getElem?_append_right->Q1e,mem_cons->Q1h,getElem?_set_self->Q1i,length_nil->Q1k,mem_singleton->Q1l,lookup_cons->Q1q,length_map->Q1s,getElem?_set_ne->Q1v,append_nil->Q2c,cons_append->Q2e,getElem?_map->Q2i,lookup->Q2k,replicate_succ->Q2l,mem_cons_self->Q2p,find?_cons->Q2r,range->Q2y,flatten_cons->Q2z,getD_eq_getElem?_getD->Q3b,drop_eq_getElem_cons->Q3e,length_take->Q3h,mem_append->Q3p,length_singleton->Q3u,length->Q3x,filterMap_cons->Q3y,append_assoc->Q4i,any_cons->Q4m,length_eq_zero_iff->Q4n,length_drop->Q4p,not_mem_nil->Q4q,nodup_cons->Q4w,getElem?_eq_none->Q4x,mem_of_getElem?->Q5d,prefix_append->Q5r,getElem?_drop->Q5t,of_mem_zip->Q6s,forIn_cons->Q6t,mem_range->Q6y,getElem?_replicate->Q7f,take_of_length_le->Q7n,cons->Q7o,map_nil->Q7r,map_map->Q7s,mem_append_left->Q7v,mem_filterMap->Q8k,contains_cons->Q8u,foldl->Q8w,all_eq_true->Q9b,getElem_inj->Q9c,drop_length->Q9h,range'_succ->Q9k,mem_filter->Q9l,length_set->Q9m,drop_drop->Q9s,sum_cons->Z0b,mem_map->Z0k,range'->Z0s
open List.Pairwise renaming nil->Z0h
open Nat renaming le_refl->Q0m,lt_of_lt_of_le->Q0o,ne_of_lt->Q1m,le_trans->Q1t,zero_le->Q2b,lt_irrefl->Q2s,sub_self->Q4c,le_of_lt->Q4z,ne_of_gt->Q6k,add_assoc->Q7j,sub_zero->Q7z,add_zero->Q8a,lt_of_le_of_lt->Q9a,min_eq_left->Q9r,mul_succ->Z0t,log2_lt->Z0x
open Ne renaming symm->Q3s
open Option renaming some->Q1r,map_eq_some_iff->Q2j,isSome_iff_exists->Q3g,bind_some->Q6a,getD_none->Q8p,map_some->Q8x
open Option.some renaming inj->Q1p
open Or renaming inr->Q4l,inl->Q5y
open PyProof.Rows renaming slot_tuple_getitem->Q3l,AllBare->Q4y,callWith_type1->Q5h,IsTup->Q5u,SortKind->Q6p,Keyed->Q7y,IntsAre->Q8q,subscriptTail_builtinR->Q8v,callWith_builtin1->Z0o,tail_any->Z0p
open PySem renaming Value->Q0a,Shared->Q0b,wpAny_bind->Q0c,Addr->Q0i,sizeLine->Q0k,Program->Q0l,wpAny_pure->Q0n,mainGlobals->Q0r,starEach->Q0t,Around->Q0w,wpAny->Q0y,Heap->Q0z,World->Q1a,Builtin->Q1g,wpAny_mono->Q1o,FuncData->Q1u,wpAny_holding->Q1y,wpAny_loadPart_at->Q2m,sizeLine_eq->Q2n,wpAny_standAt->Q2w,NameKind->Q3f,mem_of_lookup->Q3i,wpAny_newObj_type->Q3j,codeAny_call_builtin->Q3m,Scope->Q3n,Paired->Q3r,Stmt->Q3t,wpAny_call->Q3w,wpAny_execs_nil->Q4e,wpAny_passesOwn->Q4f,wpAny_field->Q4h,wpAny_Call_Name_kw->Q4k,eqIsQuiet_byValue->Q4s,wpAny_truthy_bool->Q4t,codeAny_mono->Q5o,typeIs_str->Q5p,call_meets->Q5q,wpAny_setField->Q5z,OwnTail->Q6g,wpAny_isSubtype_exc->Q6h,strLen_append->Q6n,wpAny_Call_ofName->Q6v,plainObj_wpAny_Assign_Attribute->Q6w,IsPart->Q7a,wpAny_execs_cons->Q7c,noFill_tuple_add->Q7d,wpAny_specialOf->Q7i,Within->Q7k,wpAny_Expr_any->Q7w,refuseLoop_ref->Q7x,GenState->Q8j,BindsTo->Q8m,Keyword->Q8n,seq_tuple_add->Q8o,call->Q8r,wpAny_attempt->Q8t,Model->Q9d,concat_meets->Q9e,wpAny_mkText->Q9i,ExcBaseFacts->Q9j,seqIndex_of->Q9p,Result->Q9v,tupleKind_room_in1->Q9x,wpAny_Name->Z0c,slot_list_getitem->Z0d,typeIs_int->Z0e,wpAny_call_entry->Z0l,wpAny_forIn_list->Z0m,wpAny_lookBehind->Z0q,pastItsLine_dict->Z0r,CmpOp->Z0u,DictEntry->Z0v,wpAny_mroOf_exc->Z0y
open PySem.Calls renaming evalArgs_plain->Q5a,Name_function_global->Q6r,callWith_builtin->Q7g,Constant_str->Q8e
open PySem.Challenge renaming pw_slashwise_k80_words_of_a_sentence->Q9t
open PySem.Code renaming quiet_builtin->Q5s,isFrame->Q7p,frames->Z0n
open PySem.EntryCells renaming newEntry->Q7b
open PySem.F renaming store_ValueError->Q2d,args_tuple_add_2->Q4b,entry_tuple_add->Q4g,slot_tuple_add->Q4j,slot_tuple_hash->Q4o,args_str_split_2->Q6i,excBase_ValueError->Q6l,entry_str_split->Q6o,slot_str_split->Q6x,attrBase_ValueError->Q8s,slot_int_rmul->Z0f,entry_bexc_ga->Z0i
open PySem.Heap renaming get?_push_of_some->Q0e,lt_size->Q0p
open PySem.Obj renaming mapFields->Q2t,data_mapFields->Q2x,isFreed_of_fields->Q3v,mapSeq->Q6e
open PySem.ScopeKind renaming function->Q7h
open PySem.SeqAt renaming EqAt->Q3k,RcNeAt->Q7m
open PySem.Str renaming ofString->Q0g,ofString_eq_toList->Q7t,join->Q8z,length->Q9f
open PySem.StrLaws renaming glued_eq_join->Q4r,occBody->Q6j,partsFrom->Q8b
open PySem.Txt renaming split->Q5b,join->Q5x
open PySem.W renaming nsIn->Q0v,kia_one->Q1f,findIn->Q1j,Frag->Q1n,mg_none_of->Q1x,mg_of->Q1z,kitOne->Q2f,kia_tup->Q2h,kitAny->Q2o,fnOf->Q2q,keepIn->Q3c,kitx_list->Q3q,codeIn->Q3z,exmOne->Q4a,looks_findIn->Q4v,kitx_tuple->Q5f,Looks->Q5g,methodObj->Q5i,hasDictIn->Q5j,specialIn->Q5k,kitx_none->Q5l,kitx_bool->Q5m,kitx_dict->Q5n,kitx_int->Q5v,kitx_str->Q5w,instObj->Q6d,OpenLaw->Q6f,lookIn->Q6m,mroIn->Q6u,cellsFrom_some->Q6z,callWith_K->Q7q,plainGet->Q8g,takesIn->Q8l,WalkO->Q9g,looks_mroIn->Q9q
open PySem.W.WData renaming int->Z0w
open PySem.W.WShape renaming has->Z0g
open PySem.Within renaming cons->Z0a
open Sum renaming inl->Q6b,inr->Q6c
open True renaming intro->Q1w
set_option Elab.async false
set_option linter.all false
set_option maxRecDepth 100000
set_option maxHeartbeats 4000000
noncomputable section
namespace L2
open PySem PySem.Spec PyProof.Rows
abbrev Key:=Sum Int Str
def q9j:Key->Q0a->Bool
 |.inl k,v=>Q0a.isInt k v
 |.inr x,v=>Q0a.isStrOf x v
def keyH(w:Q1a):Key->Int
 |.inl k=>hashInt k
 |.inr x=>hashStr w x
theorem q0i:∀{k:Key}{v:Q0a},q9j k v=true->(∃i t,k=Q6b i/\v=Q0a.int i t)\/(∃x t,k=Q6c x/\v=Q0a.str x t)
 |.inl i,v,h=>by
  obtain⟨t,e⟩:=Q0a.isInt_shape (k:=i) (v:=v) h
  exact .inl ⟨i,t,rfl,e⟩
 |.inr x,v,h=>by
  obtain⟨t,e⟩:=Q0a.isStrOf_shape (x:=x) (v:=v) h
  exact .inr ⟨x,t,rfl,e⟩
theorem z2d(i:Int)(t:Tok):q9j (.inl i) (.int i t)=true:=by simp[q9j,Q0a.isInt]
theorem z2c(x:Str)(t:Tok):q9j (.inr x) (.str x t)=true:=by simp[q9j,Q0a.isStrOf]
theorem y1y(a b:Int):decide ((Q6b a:Key)=Q6b b)=(a==b):=by
 by_cases e:a=b
 ·subst e;simp
 ·have h:¬(Q6b a:Key)=Q6b b:=fun q=>e (Q6b.inj q)
  rw[decide_eq_false h]
  exact(beq_eq_false_iff_ne.mpr e).symm
theorem y1v(a b:Str):decide ((Q6c a:Key)=Q6c b)=decide (a=b):=by
 by_cases e:a=b
 ·subst e;simp
 ·have h:¬(Q6c a:Key)=Q6c b:=fun q=>e (Q6c.inj q)
  rw[decide_eq_false h,decide_eq_false e]
theorem y1x(a:Int)(b:Str):decide ((Q6b a:Key)=Q6c b)=false:=decide_eq_false (fun q=>nomatch q)
theorem y1w(a:Str)(b:Int):decide ((Q6c a:Key)=Q6b b)=false:=decide_eq_false (fun q=>nomatch q)
def q0h(prog:Q0l)(w:Q1a):PySem.KeyKind prog w Key where
 is:=q9j
 hash:=keyH w
 inj:=fun v a b ha hb=>by
  rcases q0i ha with⟨i,t,rfl,rfl⟩|⟨x,t,rfl,rfl⟩
  ·rcases q0i hb with⟨j,u,rfl,e⟩|⟨y,u,rfl,e⟩
   ·injection e with e1 _;rw[e1]
   ·exact nomatch e
  ·rcases q0i hb with⟨j,u,rfl,e⟩|⟨y,u,rfl,e⟩
   ·exact nomatch e
   ·injection e with e1 _;rw[e1]
 byValue:=fun k v h=>by
  rcases q0i h with⟨i,t,rfl,rfl⟩|⟨x,t,rfl,rfl⟩<;>rfl
 pyHash:=fun hv h=>by
  rcases q0i hv with⟨i,t,rfl,rfl⟩|⟨x,t,rfl,rfl⟩
  ·exact wpAny_pyHash_int h
  ·exact wpAny_pyHash_str h
 eqBool:=fun hu hv h=>by
  rcases q0i hu with⟨i,t,rfl,rfl⟩|⟨x,t,rfl,rfl⟩
  ·rcases q0i hv with⟨j,u,rfl,rfl⟩|⟨y,u,rfl,rfl⟩
   ·rw[y1y]at h;exact wpAny_eqBool_int h
   ·rw[y1x]at h;exact Q3k.int_str i t y u _ _ _ _ h
  ·rcases q0i hv with⟨j,u,rfl,rfl⟩|⟨y,u,rfl,rfl⟩
   ·rw[y1w]at h;exact Q3k.str_int x t j u _ _ _ _ h
   ·rw[y1v]at h;exact wpAny_eqBool_str h
 «strs»:=fun k x t v h=>by
  rcases q0i h with⟨i,u,rfl,e⟩|⟨y,u,rfl,e⟩
  ·exact nomatch e
  ·injection e with e1 _
   subst e1
   cases v<;>rfl
theorem q3c(prog:Q0l)(w:Q1a)(i:Int)(t:Tok):(q0h prog w).is (.inl i) (.int i t)=true:=z2d i t
theorem q3b(prog:Q0l)(w:Q1a)(x:Str)(t:Tok):(q0h prog w).is (.inr x) (.str x t)=true:=z2c x t
inductive V where
 |non|bl (b:Bool)|int (i:Int)|str (x:Str)|byt (b:Array UInt8)|flt (b:UInt64)|ref (a:Q0i)|ty (n:String)
 deriving DecidableEq
def RelV:V->Q0a->Prop
 |.non,u=>u=Q0a.none
 |.bl b,u=>u=Q0a.bool b
 |.int i,u=>∃t,u=Q0a.int i t
 |.str x,u=>∃t,u=Q0a.str x t
 |.byt b,u=>∃t,u=Q0a.bytes b t
 |.flt b,u=>∃t,u=Q0a.float b t
 |.ref a,u=>u=Q0a.ref a
 |.ty n,u=>u=Q0a.type n
abbrev Vals:List V->List Q0a->Prop:=Q3r RelV
theorem Vals.length{xs:List V}{us:List Q0a}(r:Vals xs us):xs.length=us.length:=Q3r.length r
theorem Vals.get:∀{xs:List V}{us:List Q0a}{i:Nat}{x:V},Vals xs us->xs[i]?=some x->∃u,us[i]?=some u/\RelV x u
 |_,_,_,_,.nil,e=>by simp at e
 |_,_,0,_,.cons r _,e=>by simp at e;subst e;exact⟨_,rfl,r⟩
 |_,_,i+1,x,.cons _ t,e=>by
  obtain⟨u,h1,h2⟩:=Vals.get (i:=i) (x:=x) t (by simpa using e)
  exact⟨u,by simpa using h1,h2⟩
theorem Vals.set{x:V}{u:Q0a}(r:RelV x u):∀{xs:List V}{us:List Q0a}(i:Nat),Vals xs us->Vals (xs.set i x) (us.set i u)
 |_,_,_,.nil=>.nil
 |_,_,0,.cons _ t=>.cons r t
 |_,_,i+1,.cons q t=>.cons q (Vals.set r i t)
theorem Vals.append:∀{xs ys:List V}{us ws:List Q0a},Vals xs us->Vals ys ws->Vals (xs++ys) (us++ws)
 |_,_,_,_,.nil,s=>s
 |_,_,_,_,.cons r t,s=>.cons r (Vals.append t s)
theorem Vals.take:∀{xs:List V}{us:List Q0a}(n:Nat),Vals xs us->Vals (xs.take n) (us.take n)
 |_,_,0,_=>.nil
 |_,_,_+1,.nil=>.nil
 |_,_,n+1,.cons r t=>.cons r (Vals.take n t)
theorem Vals.drop:∀{xs:List V}{us:List Q0a}(n:Nat),Vals xs us->Vals (xs.drop n) (us.drop n)
 |_,_,0,r=>r
 |_,_,_+1,.nil=>.nil
 |_,_,n+1,.cons _ t=>Vals.drop n t
def RelO:Option V->Option Q0a->Prop
 |some v,some u=>RelV v u
 |none,none=>True
 |_,_=>False
def KV{κ:Type}:List (κ×V)->List (κ×Q0a)->Prop:=Q3r fun(p:κ×V) (q:κ×Q0a)=>p.1=q.1/\RelV p.2 q.2
def kV:Key->V
 |.inl i=>.int i
 |.inr x=>.str x
inductive KTr where
 |int (i:Int)|str (x:Str)|tup (xs:List KTr)
instance y4f:DecidableEq KTr:=fun _ _=>Classical.propDecidable _
mutual
def kdep:KTr->Nat
 |.tup xs=>1+z2e xs
 |_=>0
def z2e:List KTr->Nat
 |[]=>0
 |x::xs=>max (kdep x) (z2e xs)
end
theorem q1x:∀{xs:List KTr}{j:Nat}{x:KTr},xs[j]?=some x->kdep x<=z2e xs
 |[],_,_,e=>by simp at e
 |x::xs,0,y,e=>by simp at e;subst e;simp only[z2e];omega
 |x::xs,j+1,y,e=>by simp at e;have:=q1x e;simp only[z2e];omega
theorem q4d(A:Q0w):A.in1.units=A.units+1:=rfl
theorem q4e{xs:List KTr}{j:Nat}{x:KTr}(e:xs[j]?=some x):xs.getD j (.int 0)=x:=by rw[Q3b,e];rfl
mutual
def TrA(h:Q0z):KTr->Q0a->Prop
 |.int i,v=>∃t,v=.int i t
 |.str x,v=>∃t,v=.str x t
 |.tup xs,v=>∃(a:Q0i)(its:List Q0a),v=.ref a/\Q5u h a its.toArray/\TrAs h xs its
def TrAs(h:Q0z):List KTr->List Q0a->Prop
 |[],vs=>vs=[]
 |x::xs,vs=>∃y ys,vs=y::ys/\TrA h x y/\TrAs h xs ys
end
theorem Q5u.same{h:Q0z}{a:Q0i}{xs ys:List Q0a}(p:Q5u h a xs.toArray)(q:Q5u h a ys.toArray):xs=ys:=by
 obtain⟨o,e,_,n,d⟩:=p
 obtain⟨o',e',_,n',d'⟩:=q
 obtain rfl:o=o':=Q1p (e.symm.trans e')
 rw[d]at d'
 injection d' with h1 _
 simpa using h1
mutual
theorem TrA.inj{h:Q0z}:∀{x y:KTr}{v:Q0a},TrA h x v->TrA h y v->x=y
 |.int i,y,v,⟨t,e⟩,q=>by
  subst e
  cases y with
  |int j=>obtain⟨t',e⟩:=q;cases e;rfl
  |str z=>obtain⟨t',e⟩:=q;cases e
  |tup ys=>obtain⟨a,its,e,_⟩:=q;cases e
 |.str x,y,v,⟨t,e⟩,q=>by
  subst e
  cases y with
  |int j=>obtain⟨t',e⟩:=q;cases e
  |str z=>obtain⟨t',e⟩:=q;cases e;rfl
  |tup ys=>obtain⟨a,its,e,_⟩:=q;cases e
 |.tup xs,y,v,⟨a,its,e,p,r⟩,q=>by
  subst e
  cases y with
  |int j=>obtain⟨t',e⟩:=q;cases e
  |str z=>obtain⟨t',e⟩:=q;cases e
  |tup ys=>
   obtain⟨b,its2,e,p2,r2⟩:=q
   cases e
   have:=Q5u.same p p2
   subst this
   rw[TrAs.inj r r2]
theorem TrAs.inj{h:Q0z}:∀{xs ys:List KTr}{vs:List Q0a},TrAs h xs vs->TrAs h ys vs->xs=ys
 |[],[],_,_,_=>rfl
 |[],_::_,_,h,⟨_,_,e,_⟩=>by rw[show _=[]from h]at e;cases e
 |_::_,[],_,⟨_,_,e,_⟩,h=>by rw[show _=[]from h]at e;cases e
 |x::xs,y::ys,_,⟨a,b,e,r,t⟩,⟨a',b',e',r',t'⟩=>by
  subst e
  cases e'
  rw[TrA.inj r r',TrAs.inj t t']
end
mutual
theorem TrA.at{h h':Q0z}(k:∀a its,Q5u h a its->Q5u h' a its):∀{x:KTr}{v:Q0a},TrA h x v->TrA h' x v
 |.int i,_,h=>h
 |.str x,_,h=>h
 |.tup xs,_,⟨a,its,e,p,r⟩=>⟨a,its,e,k _ _ p,TrAs.at k r⟩
theorem TrAs.at{h h':Q0z}(k:∀a its,Q5u h a its->Q5u h' a its):∀{xs:List KTr}{vs:List Q0a},TrAs h xs vs->TrAs h' xs vs
 |[],_,h=>h
 |x::xs,_,⟨y,ys,e,r,t⟩=>⟨y,ys,e,TrA.at k r,TrAs.at k t⟩
end
theorem TrAs.length{h:Q0z}:∀{xs:List KTr}{vs:List Q0a},TrAs h xs vs->xs.length=vs.length
 |[],_,h=>by rw[show _=[]from h];rfl
 |_::xs,_,⟨y,ys,e,_,t⟩=>by rw[e,Q0q,Q0q,TrAs.length t]
theorem TrAs.get{h:Q0z}:∀{xs:List KTr}{vs:List Q0a}{i:Nat}{x:KTr},TrAs h xs vs->xs[i]?=some x->∃y,vs[i]?=some y/\TrA h x y
 |[],_,_,_,_,e=>by simp at e
 |x::xs,_,0,x',⟨y,ys,e,r,t⟩,q=>by
  simp at q;subst q;subst e
  exact⟨y,by simp,r⟩
 |x::xs,_,i+1,x',⟨y,ys,e,r,t⟩,q=>by
  subst e
  obtain⟨z,h1,h2⟩:=TrAs.get (i:=i) t (by simpa using q)
  exact⟨z,by simpa using h1,h2⟩
theorem z9n(xs ys:List KTr):((Q2y (min xs.length ys.length)).all (fun j=>decide (xs.getD j (.int 0)=ys.getD j (.int 0)))&&xs.length==ys.length)=decide (KTr.tup xs=KTr.tup ys):=by
 rw[Q6q]
 simp only[Q2u,Q9b,Q6y,decide_eq_true_eq,beq_iff_eq,KTr.tup.injEq]
 constructor
 ·rintro⟨h,hl⟩
  apply List.ext_getElem hl
  intro n h1 h2
  have:=h n (by omega)
  rw[Q3b,Q3b,Q0h h1,Q0h h2]at this
  exact this
 ·rintro rfl
  exact⟨fun _ _=>rfl,rfl⟩
theorem y2z{s:Q0b}:∀(d:Nat)(A:Q0w)(x y:KTr)(v u:Q0a),kdep x<=d->A.units+d<cLine->TrA s.heap x v->TrA s.heap y u->Q3k A s v u (decide (x=y)):=by
 intro d
 induction d with
 |zero=>
  intro A x y v u hd hu rx ry
  cases x with
  |tup xs=>simp[kdep]at hd
  |int a=>
   obtain⟨t,rfl⟩:=rx
   cases y with
   |int b=>obtain⟨t',rfl⟩:=ry;rw[show decide (KTr.int a=KTr.int b)=(a==b) by rw[Q6q];simp];exact .int_int a t b t'
   |str b=>obtain⟨t',rfl⟩:=ry;simpa using Q3k.int_str (A:=A) (s:=s) a t b t'
   |tup ys=>obtain⟨b,its,rfl,p,_⟩:=ry;simpa using Q3k.int_tuple (A:=A) (s:=s) a t p (by omega)
  |str a=>
   obtain⟨t,rfl⟩:=rx
   cases y with
   |int b=>obtain⟨t',rfl⟩:=ry;simpa using Q3k.str_int (A:=A) (s:=s) a t b t'
   |str b=>obtain⟨t',rfl⟩:=ry;rw[show decide (KTr.str a=KTr.str b)=(a==b) by rw[Q6q];simp];exact .str_str a t b t'
   |tup ys=>obtain⟨b,its,rfl,p,_⟩:=ry;simpa using Q3k.str_tuple (A:=A) (s:=s) a t p (by omega)
 |succ d ih=>
  intro A x y v u hd hu rx ry
  cases x with
  |tup xs=>
   obtain⟨a,its,rfl,p1,r1⟩:=id rx
   cases y with
   |int b=>obtain⟨t',rfl⟩:=ry;simpa using Q3k.tuple_int (A:=A) (s:=s) b t' p1 (by omega)
   |str b=>obtain⟨t',rfl⟩:=ry;simpa using Q3k.tuple_str (A:=A) (s:=s) b t' p1 (by omega)
   |tup ys=>
    obtain⟨b,its2,rfl,p2,r2⟩:=id ry
    by_cases hab:a=b
    ·subst hab
     rw[decide_eq_true (TrA.inj rx ry)]
     exact .same _
    ·refine .of_refs hab ?_
     have e:decide (KTr.tup xs=KTr.tup ys)=((Q2y (min its.toArray.size its2.toArray.size)).all (fun j=>decide (xs.getD j (.int 0)=ys.getD j (.int 0)))&&its.toArray.size==its2.toArray.size):=by
      rw[Q0f,Q0f,<-r1.length,<-r2.length,z9n]
     rw[e]
     refine .tuples p1 p2 (by omega) fun j h1 h2=>?_
     have hj1:j<xs.length:=by rw[r1.length];simpa using h1
     have hj2:j<ys.length:=by rw[r2.length];simpa using h2
     have e1:xs[j]?=some xs[j]:=Q0h hj1
     have e2:ys[j]?=some ys[j]:=Q0h hj2
     obtain⟨v1,g1,q1⟩:=r1.get e1
     obtain⟨v2,g2,q2⟩:=r2.get e2
     have l1:j<its.length:=by simpa using h1
     have l2:j<its2.length:=by simpa using h2
     rw[q4e e1,q4e e2]
     rw[Q0h l1]at g1
     rw[Q0h l2]at g2
     cases g1
     cases g2
     have hdd:=q1x e1
     simp only[kdep]at hd
     exact ih A.in1 _ _ _ _ (by omega) (by rw[q4d];omega) (by simpa using q1) (by simpa using q2)
  |int a=>exact ih A _ _ v u (Q2b _) (by omega) rx ry
  |str a=>exact ih A _ _ v u (Q2b _) (by omega) rx ry
mutual
def trH(P:Q0l)(w:Q1a):KTr->Int
 |.int i=>(q0h P w).hash (.inl i)
 |.str x=>(q0h P w).hash (.inr x)
 |.tup xs=>reduceHash (Q1g.Tuple.tupleHashOf (trHs P w xs))
def trHs(P:Q0l)(w:Q1a):List KTr->List Int
 |[]=>[]
 |x::xs=>trH P w x::trHs P w xs
end
mutual
def trD:KTr->Nat
 |.tup xs=>trDs xs+1
 |_=>1
def trDs:List KTr->Nat
 |[]=>0
 |x::xs=>trD x+trDs xs
end
def HsAt(P:Q0l)(w:Q1a)(A:Q0w)(h:Q0z)(v:Q0a)(x:Int)(d:Nat):Prop:=∀(E:Q0a->Q0b->Prop)(s:Q0b)(Q:Int->Q0b->Prop),s.heap=h->Q x {s with toks:=s.toks+d}->Q0y (model P w) A (pyHash v) Q E s
theorem y2h{P:Q0l}{w:Q1a}{A:Q0w}{h:Q0z}{a:Q0i}{its:List Q0a}{xs:List KTr}(hu:A.units<cLine)(p:Q5u h a its.toArray)(hl:xs.length=its.length)(hi:∀(j:Nat)(x:KTr)(v:Q0a),xs[j]?=some x->its[j]?=some v->HsAt P w A.in1 h v (trH P w x) (trD x)) :
  HsAt P w A h (.ref a) (trH P w (.tup xs)) (trD (.tup xs)):=by
 intro E s Q eh hQ
 subst eh
 obtain⟨o,ho,hc,n,hd⟩:=p
 have hT:s.TypeIs (.ref a) "tuple" :=⟨o,ho,hc⟩
 unfold pyHash
 first|unfold pyHashByItsType|skip
 first|refine Q0c (wpAny_cRoomFor_or (.inr hu) ?_)|skip
 refine Q0c (Q7i hT Q4o.lookup ?_)
 show Q0y _ _ (if(some (Q0a.builtin "tuple.__hash__")==some Q0a.none)=true then _ else _) Q E s
 rw[if_neg (by rw[beq_builtin_none];exact Q3o)]
 refine Q0c (Q7i hT Q4o.lookup ?_)
 show Q0y _ _ (callSpecialIfBoundUnlessNone? (.ref a) "__hash__" _ >>= _) Q E s
 refine Q0c (wpAny_callSpecialIfBoundUnlessNone?_slot hT Q4o (Z0l Q4o hT F.entry_tuple_hash ?_ (F.args_tuple_hash_1 _)))
 show Q0y _ _ (Q1g.Tuple.tupleItemsOf (.ref a) >>= _) _ _ s
 refine Q0c (wpAny_tupleItemsOf ho hd ?_)
 refine Q0c ?_
 rw[<-Q8c]
 refine Z0m _
  (fun rest (b:Array Int) s'=>∃(done left:List KTr),xs=done++left/\its.drop done.length=rest/\b.toList=trHs P w done/\s'={s with toks:=s.toks+trDs done})
  _ ?_ ?_ _ _ ⟨[],xs,rfl,rfl,rfl,rfl⟩
 ·rintro v rest b s' ⟨done,left,e1,e2,hb,rfl⟩
  have hlt:done.length<its.length:=by
   rcases Nat.lt_or_ge done.length its.length with z|z
   ·exact z
   ·rw[List.drop_eq_nil_of_le z]at e2;cases e2
  rw[Q3e hlt]at e2
  obtain⟨ev,er⟩:=Q7o.inj e2
  obtain⟨x,left',rfl⟩:∃x l,left=x::l:=by
   cases left with
   |nil=>rw[Q2c]at e1;subst e1;omega
   |cons x l=>exact⟨x,l,rfl⟩
  have hx:xs[done.length]?=some x:=by rw[e1,Q1e (Q0m _),Q4c];rfl
  have hv:its[done.length]?=some v:=by rw[Q0h hlt,ev]
  have sn:∀(l:List KTr),trHs P w (l++[x])=trHs P w l++[trH P w x]:=fun l=>by
   induction l with
   |nil=>rfl
   |cons a r ih=>simp only[Q2e,trHs,ih]
  have sd:∀(l:List KTr),trDs (l++[x])=trDs l+trD x:=fun l=>by
   induction l with
   |nil=>simp[trDs]
   |cons a r ih=>simp only[Q2e,trDs,ih];omega
  refine Q0c (hi done.length x v hx hv _ _ _ rfl ?_)
  have fin:∃(done' left'':List KTr),xs=done'++left''/\its.drop done'.length=rest/\(b.push (trH P w x)).toList=trHs P w done'/\({s with toks:=s.toks+trDs done+trD x}:Q0b)={s with toks:=s.toks+trDs done' }:=
   ⟨done++[x],left',by rw[e1];simp,by rw[Q0s,Q3u];exact er,by rw[sn,Q8i,hb],by rw[sd,Q7j]⟩
  first
   |exact Q0n fin
   |exact Q0c (Q0n (Q0n fin))
 ·rintro b s' ⟨done,left,e1,e2,hb,rfl⟩
  have hz:left=[]:=by
   have h1:its.length<=done.length:=List.drop_eq_nil_iff.mp e2
   have h2:=congrArg Q3x e1
   rw[Q0s]at h2
   cases left with
   |nil=>rfl
   |cons _ _=>simp at h2;omega
  subst hz
  rw[Q2c]at e1
  subst e1
  show Q0y _ _ (retInt (Q1g.Tuple.tupleHashOf b.toList)) _ _ _
  rw[hb]
  refine wpAny_ret_mkInt ?_
  show Q0y _ _ (if(decide (-(2:Int) ^ 63<=Q1g.Tuple.tupleHashOf (trHs P w xs))&&decide (Q1g.Tuple.tupleHashOf (trHs P w xs)<2 ^ 63))=true then _ else _) Q E _
  simp only[trH,trD]at hQ
  unfold reduceHash at hQ
  by_cases hr:(decide (-(2:Int) ^ 63<=Q1g.Tuple.tupleHashOf (trHs P w xs))&&decide (Q1g.Tuple.tupleHashOf (trHs P w xs)<2 ^ 63))=true
  ·rw[if_pos hr]
   rw[if_pos hr]at hQ
   exact Q0n (by simpa[Q7j]using hQ)
  ·rw[if_neg hr]
   rw[if_neg hr]at hQ
   exact Q0c (wpAny_rule (Q0n (by simpa[Q7j]using hQ)))
theorem z6o{P:Q0l}{w:Q1a}{h:Q0z}:∀(d:Nat)(A:Q0w)(x:KTr)(v:Q0a),kdep x<=d->A.units+d<cLine->TrA h x v->HsAt P w A h v (trH P w x) (trD x):=by
 intro d
 have atom:∀(A:Q0w)(k:Key)(v:Q0a),(q0h P w).is k v=true->HsAt P w A h v ((q0h P w).hash k) 1:=fun A k v hk E s Q eh hQ=>(q0h P w).pyHash hk hQ
 induction d with
 |zero=>
  intro A x v hd hu r
  cases x with
  |tup xs=>simp[kdep]at hd
  |int a=>obtain⟨t,rfl⟩:=r;exact atom A (.inl a) _ (q3c P w a t)
  |str a=>obtain⟨t,rfl⟩:=r;exact atom A (.inr a) _ (q3b P w a t)
 |succ d ih=>
  intro A x v hd hu r
  cases x with
  |tup xs=>
   obtain⟨a,its,rfl,p,q⟩:=r
   refine y2h (by omega) p q.length fun j x v e1 e2=>?_
   obtain⟨v',g,q'⟩:=q.get e1
   rw[e2]at g
   cases g
   have:=q1x e1
   simp only[kdep]at hd
   exact ih A.in1 x v (by omega) (by rw[q4d];omega) q'
  |int a=>exact ih A _ v (Q2b _) (by omega) r
  |str a=>exact ih A _ v (Q2b _) (by omega) r
theorem z3q{P:Q0l}{w:Q1a}{A:Q0w}{E:Q0a->Q0b->Prop}{s:Q0b}:∀(n:Nat)(x:KTr)(v:Q0a)(Q:Bool->Q0b->Prop),kdep x<=n->TrA s.heap x v->Q true s->Q0y (model P w) A (eqIsQuiet n v) Q E s:=by
 intro n
 induction n with
 |zero=>
  intro x v Q hd r hQ
  cases x with
  |tup xs=>simp[kdep]at hd
  |int a=>obtain⟨t,rfl⟩:=r;rw[Q4s 0 rfl];exact Q0n hQ
  |str a=>obtain⟨t,rfl⟩:=r;rw[Q4s 0 rfl];exact Q0n hQ
 |succ n ih=>
  intro x v Q hd r hQ
  cases x with
  |int a=>obtain⟨t,rfl⟩:=r;rw[Q4s _ rfl];exact Q0n hQ
  |str a=>obtain⟨t,rfl⟩:=r;rw[Q4s _ rfl];exact Q0n hQ
  |tup xs=>
   obtain⟨a,its,rfl,⟨o,ho,hc,n',hd'⟩,q⟩:=r
   have hT:s.TypeIs (.ref a) "tuple" :=⟨o,ho,hc⟩
   simp only[kdep]at hd
   unfold eqIsQuiet
   refine Q0c (Q7i hT F.slot_tuple_eq.lookup ?_)
   show Q0y _ _ (isInstance (.ref a) (.type "tuple") >>= _) _ _ s
   refine Q0c (wpAny_isInstance hT isSubtype_tuple_tuple ?_)
   simp only[Q7e,Q2v,if_false]
   refine Q0c (wpAny_seqItems ho hd' ?_)
   refine Q0c ?_
   show Q0y _ _ (forIn its.toArray _ _) _ _ s
   rw[<-Q8c]
   refine Z0m _ (fun rest r s'=>r.1=none/\s'=s/\∀v∈rest,∃y,kdep y<=n/\TrA s.heap y v) _ ?_ ?_ _ _ ⟨rfl,rfl,fun v hv=>?_⟩
   ·rintro v rest r s' ⟨hr,rfl,hall⟩
    obtain⟨y,h1,h2⟩:=hall v Q2p
    refine Q0c (ih y v _ h1 h2 ?_)
    simp only[Q7e,Q2v,if_false]
    exact Q0n ⟨rfl,rfl,fun u hu'=>hall u (Q1b _ hu')⟩
   ·rintro⟨r1,r2⟩ s' ⟨hr,rfl,_⟩
    simp only at hr
    subst hr
    exact Q0n hQ
   ·obtain⟨j,hj⟩:=List.mem_iff_getElem?.mp hv
    have hjl:j<its.length:=by
     have:=(Q0j.mp hj).1
     simpa using this
    have hjx:j<xs.length:=by rw[q.length];exact hjl
    obtain⟨v',g,q'⟩:=q.get (Q0h hjx)
    have:v'=v:=by
     have hj':its[j]?=some v:=by simpa using hj
     rw[hj']at g
     exact(Q1p g).symm
    subst this
    have:=q1x (Q0h hjx)
    exact⟨_,by omega,q'⟩
def z3p(P:Q0l)(w:Q1a):HeapKind P w KTr where
 is:=fun h x a=>(∃xs,x=.tup xs)/\kdep x<=8/\TrA h x (.ref a)
 hash:=trH P w
 draws:=trD
 room:=fun A=>A.units+8<cLine
 inj:=fun hx hy=>TrA.inj hx.2.2 hy.2.2
 keeps:=fun {h h' k a d o es ep} hk ho hd hs=>⟨hk.1,hk.2.1,TrA.at (fun b its ⟨o',e,c,n,q⟩=>⟨o',(hs.2 b (by
  rintro rfl
  obtain rfl:o'=o:=Q1p (e.symm.trans ho)
  rw [hd]at q;exact nomatch q)).trans e,c,n,q⟩) hk.2.2⟩
 pyHash:=fun hu hk h=>z6o 8 _ _ _ hk.2.1 hu hk.2.2 _ _ _ rfl h
 eqBool:=fun {A E s x y a b Q} hu hx hy h=>y2z 8 A x y _ _ hx.2.1 hu hx.2.2 hy.2.2 _ _ _ _ h
 quiet:=fun hk h=>z3q 8 _ _ _ hk.2.1 hk.2.2 h
inductive HO where
 |lst (xs:List V)
 |tup (xs:List V)
 |dK (kvs:List (Key×V))|dT (kvs:List (List Key×V))|dH (c:Nat) (kvs:List (KTr×Q0i×V))
 |set (S:Int->Bool) (n:Nat)
 |ins (C dx:Q0i) (fs:List (Str×V))
 |own (x:Q0i)
 |xd (fs:List (Str×V))
 |met (f x:Q0i)
 |rng (lo hi:Int)
 |frz (o:Obj) (u:HO)
 |tbl (ps:Array Q0a)
 |ext (φ:Q0z->Prop)
abbrev Hp:=Q0i->Option HO
def upd(H:Hp)(a:Q0i)(o:HO):Hp:=fun b=>if b=a then some o else H b
theorem q0d{H:Hp}{a:Q0i}{o:HO}:upd H a o a=some o:=by unfold upd;rw[if_pos rfl]
theorem q0b{H:Hp}{a b:Q0i}{o:HO}(h:b≠a):upd H a o b=H b:=by unfold upd;rw[if_neg h]
theorem z0a{H:Hp}{a:Q0i}{o u:HO}:upd (upd H a o) a u=upd H a u:=by
 funext b;unfold upd;split<;>rfl
theorem q4q{H:Hp}{a b:Q0i}{o u:HO}(h:H a=some o)(h':H b=some u)(d:o≠u):a≠b:=by
 intro e;subst e;rw[h]at h';exact d (Q1p h')
theorem q0f{H:Hp}{a b:Q0i}{o:HO}(h:H a=some o)(h':H b=none):a≠b:=by
 intro e;subst e;rw[h]at h';cases h'
section
variable(P:Q0l)(w:Q1a)
def q0j(H:Hp)(h:Q0z)(a:Q0i):HO->Prop
 |.lst xs=>xs.length<=Q0k/\∃(its:List Q0a)(n:Nat),Vals xs its/\h.get? a=some {cls:=.type "list",data:=.seq its.toArray n}
 |.tup xs=>xs.length<=Q0k/\∃its:List Q0a,Vals xs its/\Q5u h a its.toArray
 |.dK kvs=>kvs.length<=Q0k/\(a==sysModules)=false/\∃vs,KV kvs vs/\h.DictOf (q0h P w) a vs
 |.dT kvs=>kvs.length<=Q0k/\(a==sysModules)=false/\∃xs:List (List Key×Q0i×Q0a),
   Q3r (fun(p:List Key×V) (q:List Key×Q0i×Q0a)=>p.1=q.1/\H q.2.1=some (.tup (p.1.map kV))/\RelV p.2 q.2.2) kvs xs/\
   ∃o es ep,h.get? a=some o/\o.ExactDict/\o.data=.dict es ep/\es.toList=xs.map (entryOfKey (tupleKind (q0h P w)))/\(xs.map (·.1)).Nodup
 |.dH c kvs=>kvs.length<=Q0k/\(a==sysModules)=false/\∃xs:List (KTr×Q0i×Q0a),
   Q3r (fun(p:KTr×Q0i×V) (q:KTr×Q0i×Q0a)=>p.1=q.1/\p.2.1=q.2.1/\RelV p.2.2 q.2.2) kvs xs/\
   ∃o es,h.get? a=some o/\o.ExactDict/\o.data=.dict es (c+kvs.length)/\es.toList=xs.map (entryOfKey (z3p P w))/\(xs.map (·.1)).Nodup
 |.set S n=>h.SetOf (intKind P w) a S n
 |.ins C dx fs=>H dx=some (.own a)/\fs.length<=1000/\dx≠a/\h.get? a=some (Q6d C dx)/\
   ∃mA,h.Ns1 dx mA/\(∀f,RelO (fs.lookup f) (mA f))/\Q7k mA (fs.map (·.1))
 |.own _=>∃o,h.get? a=some o
 |.xd fs=>∃mA,h.Ns1 a mA/\∀f,RelO (fs.lookup f) (mA f)
 |.rng lo hi=>∃t u v,h.get? a=some {cls:=.type "range",data:=.fields #[.int lo t,.int hi u,.int 1 v]}
 |.frz o u=>h.get? a=some o/\q0j H h a u
 |.tbl ps=>h.get? a=some {cls:=.none,data:=.fields ps}
 |.met f x=>h.get? a=some (Q5i (.ref f) (.ref x))
 |.ext φ=>φ h/\(∃o,h.get? a=some o)/\∀h1 h2:Q0z,φ h1->(∀o,h1.get? a=some o->h2.get? a=some o)->φ h2
def HOk(H:Hp)(h:Q0z):Prop:=∀a o,H a=some o->q0j P w H h a o
end
section
variable{P:Q0l}{w:Q1a}{H H':Hp}{h h':Q0z}{a:Q0i}{o:HO}
theorem q0j.lt(x:q0j P w H h a o):a<h.objs.size:=by
 cases o with
 |lst xs=>obtain⟨_,_,_,_,e⟩:=x;exact Q0p e
 |tup xs=>obtain⟨_,_,_,p⟩:=x;exact p.lt
 |dK kvs=>obtain⟨_,_,_,_,o,_,_,e,_⟩:=x;exact Q0p e
 |dT kvs=>obtain⟨_,_,_,_,o,_,_,e,_⟩:=x;exact Q0p e
 |dH c kvs=>obtain⟨_,_,_,_,o,_,e,_⟩:=x;exact Q0p e
 |set S n=>obtain⟨o,_,_,_,e,_⟩:=x;exact Q0p e
 |ins C dx fs=>obtain⟨_,_,_,e,_⟩:=x;exact Q0p e
 |own y=>obtain⟨_,e⟩:=x;exact Q0p e
 |xd fs=>obtain⟨_,⟨_,_,_,e,_⟩,_⟩:=x;exact Q0p e
 |rng lo hi=>obtain⟨_,_,_,e⟩:=x;exact Q0p e
 |frz ob u=>obtain⟨e,_⟩:=x;exact Q0p e
 |tbl ps=>exact Q0p (show h.get? a=some _ from x)
 |met f y=>exact Q0p (show h.get? a=some _ from x)
 |ext φ=>obtain⟨_,⟨_,e⟩,_⟩:=x;exact Q0p e
theorem Q3r.mapP{α β:Type}{F G:α->β->Prop}:∀{l₁:List α}{l₂:List β},Q3r F l₁ l₂->(∀a b,F a b->G a b)->Q3r G l₁ l₂
 |_,_,.nil,_=>.nil
 |_,_,.cons r t,f=>.cons (f _ _ r) (Q3r.mapP t f)
theorem q0j.stay(x:q0j P w H h a o)(k:∀b u,(b=a\/H b=some (.own a))->h.get? b=some u->h'.get? b=some u)
  (ho:∀b,H b=some (.own a)->H' b=some (.own a)) (ht:∀b xs,H b=some (.tup xs)->H' b=some (.tup xs)):q0j P w H' h' a o:=by
 induction o with
 |lst xs=>obtain⟨z,its,n,r,e⟩:=x;exact⟨z,its,n,r,k _ _ (.inl rfl) e⟩
 |tup xs=>obtain⟨z,its,r,ob,e,c⟩:=x;exact⟨z,its,r,ob,k _ _ (.inl rfl) e,c⟩
 |dK kvs=>obtain⟨z,y,vs,r,ob,es,ep,e,c⟩:=x;exact⟨z,y,vs,r,ob,es,ep,k _ _ (.inl rfl) e,c⟩
 |dT kvs=>
  obtain⟨z,y,xs,r,ob,es,ep,e,c⟩:=x
  exact⟨z,y,xs,Q3r.mapP r fun p q z=>⟨z.1,ht _ _ z.2.1,z.2.2⟩,ob,es,ep,k _ _ (.inl rfl) e,c⟩
 |dH n kvs=>obtain⟨z,y,xs,r,ob,es,e,c⟩:=x;exact⟨z,y,xs,r,ob,es,k _ _ (.inl rfl) e,c⟩
 |set S n=>obtain⟨ob,es,ep,t,e,c⟩:=x;exact⟨ob,es,ep,t,k _ _ (.inl rfl) e,c⟩
 |ins C dx fs=>
  obtain⟨d,z,ne,e,mA,⟨od,es,ep,e2,c⟩,r⟩:=x
  exact⟨ho _ d,z,ne,k _ _ (.inl rfl) e,mA,⟨od,es,ep,k _ _ (.inr d) e2,c⟩,r⟩
 |own y=>obtain⟨ob,e⟩:=x;exact⟨ob,k _ _ (.inl rfl) e⟩
 |xd fs=>obtain⟨mA,⟨od,es,ep,e,c⟩,r⟩:=x;exact⟨mA,⟨od,es,ep,k _ _ (.inl rfl) e,c⟩,r⟩
 |rng lo hi=>obtain⟨t,u,v,e⟩:=x;exact⟨t,u,v,k _ _ (.inl rfl) e⟩
 |frz ob u ih=>obtain⟨e,q⟩:=x;exact⟨k _ _ (.inl rfl) e,ih q⟩
 |tbl ps=>
  have e:h.get? a=some {cls:=.none,data:=.fields ps}:=x
  show h'.get? a=some {cls:=.none,data:=.fields ps}
  exact k a _ (.inl rfl) e
 |met f y=>
  have e:h.get? a=some (Q5i (.ref f) (.ref y)):=x
  show h'.get? a=some (Q5i (.ref f) (.ref y))
  exact k a _ (.inl rfl) e
 |ext φ=>obtain⟨p,⟨o,e⟩,st⟩:=x;exact⟨st _ _ p fun o q=>k _ _ (.inl rfl) q,⟨o,k _ _ (.inl rfl) e⟩,st⟩
theorem HOk.lt(x:HOk P w H h)(e:H a=some o):a<h.objs.size:=(x a o e).lt
theorem HOk.fresh(x:HOk P w H h)(e:h.objs.size<=a):H a=none:=by
 cases q:H a with
 |none=>rfl
 |some u=>exact absurd (Q0o (x.lt q) e) (Q2s _)
theorem HOk.kept(x:HOk P w H h)(k:∀b u,h.get? b=some u->h'.get? b=some u):HOk P w H h':=fun a o e=>
 (x a o e).stay (fun b u _ q=>k b u q) (fun _ q=>q) fun _ _ q=>q
theorem HOk.laid(x:HOk P w H h)(k:∀b u,h.get? b=some u->h'.get? b=some u)(hp:h.objs.size<=a)(new:q0j P w (upd H a o) h' a o):HOk P w (upd H a o) h':=fun b u e=>by
 have hn:=x.fresh hp
 by_cases hb:b=a
 ·subst hb;rw[q0d]at e;cases e;exact new
 ·rw[q0b hb]at e
  exact(x b u e).stay (fun c v _ q=>k c v q) (fun c q=>by rw[q0b (q0f q hn)];exact q) fun c xs q=>by rw[q0b (q0f q hn)];exact q
end
def Rd(H:Hp)(a:Q0i)(u:HO):Prop:=H a=some u\/∃o,H a=some (.frz o u)
theorem Rd.ok{P:Q0l}{w:Q1a}{H:Hp}{h:Q0z}{a:Q0i}{u:HO}(r:Rd H a u)(x:HOk P w H h):q0j P w H h a u:=by
 rcases r with r|⟨o,r⟩
 ·exact x a u r
 ·obtain⟨_,q⟩:=x a _ r
  exact q
def Mut:Option HO->Prop
 |some (.lst _)=>True
 |some (.dK _)=>True
 |some (.dT _)=>True
 |some (.dH _ _)=>True
 |some (.set _ _)=>True
 |some (.ins _ _ _)=>True
 |some (.ext _)=>True
 |_=>False
section
variable{P:Q0l}{w:Q1a}{H:Hp}{h h':Q0z}{x e:Q0i}{o':HO}
theorem HOk.write(ok:HOk P w H h)(mu:Mut (H x))(he:e=x\/H e=some (.own x))(k:∀b u,b≠e->h.get? b=some u->h'.get? b=some u)(heo:∃u,h'.get? e=some u)
  (new:q0j P w (upd H x o') h' x o'):HOk P w (upd H x o') h':=fun b u q=>by
 have nown:∀c y,H c=some (.own y)->c≠x:=fun c y r z=>by subst z;rw[r]at mu;exact mu
 have ntup:∀c xs,H c=some (.tup xs)->c≠x:=fun c xs r z=>by subst z;rw[r]at mu;exact mu
 by_cases hb:b=x
 ·subst hb;rw[q0d]at q;cases q;exact new
 ·rw[q0b hb]at q
  by_cases hbe:b=e
  ·have q':H b=some (.own x):=by
    rcases he with z|z
    ·exact absurd (hbe.trans z) hb
    ·rw[hbe];exact z
   rw[q]at q';cases q'
   obtain⟨v,hv⟩:=heo
   exact⟨v,by rw[hbe];exact hv⟩
  ·refine(ok b u q).stay (fun c v hc r=>k c v ?_ r) (fun c r=>by rw[q0b (nown c b r)];exact r) fun c xs r=>by rw[q0b (ntup c xs r)];exact r
   rcases hc with rfl|hc
   ·exact hbe
   ·rintro rfl
    rcases he with z|z
    ·exact nown c b hc z
    ·rw[hc]at z;cases z;exact hb rfl
end
structure Un(fs ex:List Q0i)(H H':Hp)(h h':Q0z):Prop where
 keep:∀b o,h.get? b=some o->H b=none->b∉fs->b∉ex->h'.get? b=some o
 slot:∀b o,h.get? b=some o->H b=none->b∈fs->b∉ex->∃sl,h'.get? b=some {o with slots:=sl}
 free:∀b o,h.get? b=some o->H b=none->b∉ex->H' b=none
 there:∀b o,h.get? b=some o->b∉ex->∃o',h'.get? b=some o'
 tups:∀b xs,H b=some (.tup xs)->H' b=some (.tup xs)
 frzs:∀b o u,H b=some (.frz o u)->H' b=some (.frz o u)
 tbls:∀b ps,H b=some (.tbl ps)->∃more,H' b=some (.tbl (ps++more))
section
variable{fs fs' ex ex':List Q0i}{H H1 H2:Hp}{h h1 h2 h':Q0z}{a x e:Q0i}{o:HO}
theorem Un.any(u:Un fs ex H H1 h h1){b:Q0i}{ob:Obj}(q:h.get? b=some ob)(n:H b=none)(hx:b∉ex):∃sl,h1.get? b=some {ob with slots:=sl}:=by
 by_cases hb:b∈fs
 ·exact u.slot b ob q n hb hx
 ·exact⟨ob.slots,u.keep b ob q n hb hx⟩
theorem Un.kept(k:∀b u,h.get? b=some u->h'.get? b=some u):Un fs ex H H h h':=
 ⟨fun b ob q _ _ _=>k b ob q,fun b ob q _ _ _=>⟨ob.slots,k b ob q⟩,fun _ _ _ n _=>n,fun b ob q _=>⟨ob,k b ob q⟩,fun _ _ q=>q,fun _ _ _ q=>q,fun _ ps q=>⟨#[],by rw[q];simp⟩⟩
theorem Un.refl:Un fs ex H H h h:=Un.kept fun _ _ q=>q
theorem Un.laid(k:∀b u,h.get? b=some u->h'.get? b=some u)(hp:h.objs.size<=a)(hn:H a=none):Un fs ex H (upd H a o) h h' where
 keep:=fun b u q _ _ _=>k b u q
 slot:=fun b u q _ _ _=>⟨u.slots,k b u q⟩
 free:=fun b u q n _=>by rw[q0b (Q1m (Q0o (Q0p q) hp))];exact n
 there:=fun b u q _=>⟨u,k b u q⟩
 tups:=fun b xs q=>by rw[q0b (q0f q hn)];exact q
 frzs:=fun b u xs q=>by rw[q0b (q0f q hn)];exact q
 tbls:=fun b ps q=>⟨#[],by rw[q0b (q0f q hn),q];simp⟩
theorem Un.write(mu:Mut (H x))(he:e=x\/H e=some (.own x))(k:∀b u,b≠e->h.get? b=some u->h'.get? b=some u)(heo:∃u,h'.get? e=some u):Un fs ex H (upd H x o) h h':=by
 have hx:∀b,H b=none->b≠x:=fun b n z=>by subst z;rw[n]at mu;exact mu
 have hb:∀b,H b=none->b≠e:=fun b n z=>by
  subst z
  rcases he with r|r
  ·exact hx b n r
  ·rw[n]at r;cases r
 have hm:∀b u,H b=some u->¬Mut (some u)->b≠x:=fun b u q nm z=>by subst z;rw[q]at mu;exact nm mu
 refine⟨fun b u q n _ _=>k b u (hb b n) q,fun b u q n _ _=>⟨u.slots,k b u (hb b n) q⟩,fun b u q n _=>by rw[q0b (hx b n)];exact n,fun b u q _=>?_,
  fun b xs q=>by rw [q0b (hm b _ q fun z=>z)];exact q,fun b u xs q=>by rw [q0b (hm b _ q fun z=>z)];exact q,fun b ps q=>⟨#[],by rw [q0b (hm b _ q fun z=>z),q];simp⟩⟩
 by_cases hbe:b=e
 ·subst hbe;exact heo
 ·exact⟨u,k b u hbe q⟩
end
def trk(h:Q0z)(H:Hp):List Q0i:=(Q2y h.objs.size).filter fun a=>(H a).isSome
def hidT(h:Q0z)(H:Hp):Q0z:=PySem.W.hideAll h (trk h H)
theorem z2n(h:Q0z)(H:Hp):(hidT h H).objs.size=h.objs.size:=PySem.W.hideAll_size _ _
theorem z5m{h:Q0z}{H:Hp}{b:Q0i}{o:Obj}(e:h.get? b=some o)(n:H b=none):(hidT h H).get? b=some o:=
 PySem.W.hideAll_get _ e fun hm=>by
  have q:(H b).isSome=true:=(Q9l.mp hm).2
  rw[n]at q;simp at q
theorem z8f{h:Q0z}{H:Hp}{b:Q0i}{o:Obj}(e:(hidT h H).get? b=some o):h.get? b=some o/\H b=none:=by
 have e':h.get? b=some o:=PySem.W.of_hideAll (trk h H) e
 refine⟨e',?_⟩
 cases q:H b with
 |none=>rfl
 |some x=>
  have hm:b∈trk h H:=Q9l.mpr ⟨Q6y.mpr (Q0p e'),by simp[q]⟩
  have z:(hidT h H).get? b=none:=PySem.W.hideAll_none (trk h H) hm
  rw[z]at e;cases e
structure Mod(K:Q1n)(mg:Str->Option Q0a)(base:Q0z):Prop where
 kin:K.In base
 glob:base.Ns Q0r mg
 blt:∃mb,base.Ns builtinsNs mb/\∀x:Str,x≠ "__name__" ->mb x=bootBuiltins x
 nolimit:base.NoLimit
/-- the context: a def's body (or a comprehension's block) running. base: fixed through the whole law;s₀,H₀: the entry;outer: the frames whose slots others may change (a def's callers);stack: all frames that run;
   ex: iterators that were made ahead of the entry and are walked here (a comprehension's);fn: the names whose cells were made at the entry (a def: all;a comprehension's block: its own);calm: not within an except suite;pn: pins that every state bears;xe: what is wanted of an exception that leaves the code -/
structure Cx where
 prog:Q0l
 w:Q1a
 K:Q1n
 mg:Str->Option Q0a
 base:Q0z
 A:Q0w
 N:List Str
 s₀:Q0b
 H₀:Hp
 env:Env
 outer:List Env
 stack:List Env
 ex:List Q0i
 fn:Str->Bool
 calm:Bool
 pn:List (Q0i×Obj)
 xe:Q0a->Q0b->Prop
def frs(l:List Env):List Q0i:=l.filterMap (·.frame)
abbrev Cx.fs(X:Cx):List Q0i:=frs X.outer
def Vis(sc:Q3n)(x:Str):Prop:=sc.names.lookup x=some .local\/sc.names.lookup x=some .cell\/sc.names.lookup x=some .free
def Loc(sc:Q3n)(x:Str):Prop:=sc.names.lookup x=some .local\/sc.names.lookup x=some .cell
def Look(env:Env)(h:Q0z)(m:Str->Option Q0a)(x:Str)(u:Q0a):Prop:=
 (env.kindOf x=some .local/\m x=some u)\/((env.kindOf x=some .cell\/env.kindOf x=some .free)/\∃c,env.cells.lookup x=some c/\h.IsCell c (some u))
structure Cx.Ok(X:Cx):Prop where
 mod:Mod X.K X.mg X.base
 kind:X.env.scope.kind=.function
 glob:X.env.globals=Q0r
 blt:X.env.builtins=builtinsNs
 above:X.s₀.heap.objs.size<=X.env.locals
 inj:∀x y c,X.env.cells.lookup x=some c->X.env.cells.lookup y=some c->x=y
 has:∀x,(X.env.kindOf x=some .cell\/X.env.kindOf x=some .free)->∃c,X.env.cells.lookup x=some c
 cab:∀x c,X.fn x=true->X.env.cells.lookup x=some c->X.s₀.heap.objs.size<=c
 hd:X.calm=true->X.A.handled=none
 frames:X.A.frames=some X.stack
 stk:X.stack=X.outer\/(X.stack=X.env::X.outer/\X.env.frame=some X.env.locals)
 exf:∀b∈X.ex,b≠X.env.locals/\∀x c,X.env.cells.lookup x=some c->c≠b
 bs:∀b o,X.base.get? b=some o->X.s₀.heap.get? b=some o/\X.H₀ b=none
 bsz:X.base.objs.size<=X.s₀.heap.objs.size
 noex:∀b o,X.base.get? b=some o->b∉X.ex
 exfs:∀b∈X.ex,b∉X.fs
 funs:X.s₀.heap.FunFrames X.base X.outer
 frf:∀b∈X.fs,X.H₀ b=none
structure Inv(X:Cx)(pins:List (Q0i×Obj))(σ:List (Option V))(H:Hp)(s:Q0b):Prop where
 ok:X.Ok
 os:s.os=X.s₀.os
 bare:Q4y s.gens
 base:Un X.fs X.ex X.H₀ H X.s₀.heap s.heap
 loc:∃m,s.heap.Ns X.env.locals m/\∀(i:Nat)(x:Str)(v:V),X.N[i]?=some x->σ[i]?=some (some v)->Vis X.env.scope x->∃u,RelV v u/\Look X.env s.heap m x u
 cell:∀x c,X.env.cells.lookup x=some c->∃v,s.heap.IsCell c v
 free:H X.env.locals=none
 freeC:∀x c,X.env.cells.lookup x=some c->H c=none
 pin:∀p∈X.pn++pins,s.heap.get? p.1=some p.2/\H p.1=none/\p.1≠X.env.locals/\p.1∉X.fs/\∀v,p.2.data≠.cell v
 hok:HOk X.prog X.w H s.heap
 len:σ.length=X.N.length
section
variable{X:Cx}{pins:List (Q0i×Obj)}{σ:List (Option V)}{H H':Hp}{s:Q0b}{h':Q0z}
theorem Cx.Ok.nofr(ok:X.Ok){b:Q0i}{o:Obj}(e:X.base.get? b=some o):b∉X.fs:=fun hb=>by
 have:=(ok.funs.mem hb).1
 rw[e]at this;cases this
theorem Inv.bs(I:Inv X pins σ H s):∀b o,X.base.get? b=some o->s.heap.get? b=some o/\H b=none:=fun b o e=>
 ⟨I.base.keep b o (I.ok.bs b o e).1 (I.ok.bs b o e).2 (I.ok.nofr e) (I.ok.noex b o e),I.base.free b o (I.ok.bs b o e).1 (I.ok.bs b o e).2 (I.ok.noex b o e)⟩
theorem Inv.bk(I:Inv X pins σ H s):∀b o,X.base.get? b=some o->s.heap.get? b=some o:=fun b o e=>(I.bs b o e).1
theorem Inv.mod(I:Inv X pins σ H s):Mod X.K X.mg X.base:=I.ok.mod
theorem Inv.kIn(I:Inv X pins σ H s):X.K.In s.heap:=I.ok.mod.kin.keeps I.bk
theorem Inv.lt(I:Inv X pins σ H s):X.env.locals<s.heap.objs.size:=let ⟨_,hn,_⟩:=I.loc;hn.lt
theorem Inv.sz(I:Inv X pins σ H s):X.s₀.heap.objs.size<=s.heap.objs.size:=Q1t I.ok.above (Q4z I.lt)
theorem Inv.nofs(I:Inv X pins σ H s){a:Q0i}(h:s.heap.objs.size<=a):a∉X.fs:=fun hb=>by
 obtain⟨_,o,ho,_⟩:=I.ok.funs.mem hb
 exact absurd (Q0o (Q0p ho) (Q1t I.sz h)) (Q2s _)
theorem Inv.cne(I:Inv X pins σ H s):∀x c,X.env.cells.lookup x=some c->c≠X.env.locals:=fun x c e z=>by
 obtain⟨v,o,ho,hd⟩:=I.cell x c e
 obtain⟨m,⟨o',es,ep,ho',hd',_⟩,_⟩:=I.loc
 rw[z,ho']at ho;cases ho;rw[hd']at hd;cases hd
theorem Inv.funs(I:Inv X pins σ H s):s.heap.FunFrames X.base X.outer:=by
 have all:∀(l:List Env),(∀b∈frs l,b∈X.fs)->X.s₀.heap.FunFrames X.base l->s.heap.FunFrames X.base l:=by
  intro l
  induction l with
  |nil=>intro _ _;trivial
  |cons env r ih=>
   intro hs hl
   obtain⟨hk,⟨L,o,hf,hn,ho,hd⟩,hr⟩:=hl
   have hL:L∈X.fs:=hs L (by unfold frs;rw[Q3y,hf];exact Q2p)
   obtain⟨sl,e⟩:=I.base.slot L o ho (I.ok.frf L hL) hL fun z=>I.ok.exfs L z hL
   exact⟨hk,⟨L,_,hf,hn,e,hd⟩,ih (fun b hb=>hs b (by unfold frs;rw[Q3y,hf];exact Q1b _ hb)) hr⟩
 exact all X.outer (fun _ hb=>hb) I.ok.funs
theorem Inv.stack(I:Inv X pins σ H s):s.heap.FunFrames X.base X.stack:=by
 rcases I.ok.stk with e|⟨e,hf⟩
 ·rw[e];exact I.funs
 ·rw[e]
  obtain⟨m,hn,_⟩:=I.loc
  refine .cons (by rw[I.ok.kind];decide) hf hn ?_ I.funs
  exact Q0z.get?_none_of_le (Q1t I.ok.bsz I.ok.above)
theorem Inv.stkSub(I:Inv X pins σ H s):∀b∈frs X.stack,b∈X.env.locals::X.fs:=fun b hb=>by
 rcases I.ok.stk with e|⟨e,hf⟩
 ·rw[e]at hb;exact Q1b _ hb
 ·rw[e]at hb
  unfold frs at hb
  rw[Q3y,hf]at hb
  exact hb
theorem Inv.stkFree(I:Inv X pins σ H s):∀b∈frs X.stack,H b=none:=fun b hb=>by
 rcases Q1h.mp (I.stkSub b hb)with e|hb
 ·rw[e];exact I.free
 ·obtain⟨_,o,ho,_⟩:=I.ok.funs.mem hb
  exact I.base.free b o ho (I.ok.frf b hb) fun z=>I.ok.exfs b z hb
theorem Inv.step{g':Array Q8j}{t':Nat}{d':Drawn}{ch:List Q0i}(I:Inv X pins σ H s)
  (hch:∀b∈ch,(b∈X.ex\/X.s₀.heap.objs.size<=b)/\b≠X.env.locals/\(∀x c,X.env.cells.lookup x=some c->c≠b)/\∀p∈X.pn++pins,p.1≠b)
  (keep:∀b o,b≠X.env.locals->b∉X.fs->b∉ch->s.heap.get? b=some o->H b=none->h'.get? b=some o)
  (slot:∀b o,b≠X.env.locals->b∈X.fs->b∉ch->s.heap.get? b=some o->H b=none->∃sl,h'.get? b=some {o with slots:=sl}) (free:∀b o,b∉ch->s.heap.get? b=some o->H b=none->H' b=none)
  (there:∀b o,b∉ch->s.heap.get? b=some o->∃o',h'.get? b=some o')
  (tups:∀b xs,H b=some (.tup xs)->H' b=some (.tup xs)) (frzs:∀b o u,H b=some (.frz o u)->H' b=some (.frz o u)) (tbls:∀b ps,H b=some (.tbl ps)->∃more,H' b=some (.tbl (ps++more)))
  (ns:∀m,s.heap.Ns X.env.locals m->h'.Ns X.env.locals m) (hok:HOk X.prog X.w H' h') (hg:Q4y g') :
  Inv X pins σ H' {s with heap:=h',gens:=g',drawn:=d',toks:=t' }:=by
 have neL:∀b o,X.s₀.heap.get? b=some o->b≠X.env.locals:=fun b o e=>Q1m (Q0o (Q0p e) I.ok.above)
 have neC:∀b o,X.s₀.heap.get? b=some o->b∉X.ex->b∉ch:=fun b o e hx hb=>by
  rcases(hch b hb).1 with z|z
  ·exact hx z
  ·exact absurd (Q0o (Q0p e) z) (Q2s _)
 have cellK:∀x c,X.env.cells.lookup x=some c->∀v,s.heap.IsCell c v->h'.IsCell c v:=fun x c e v hh1=>by
  obtain⟨o,ho,hd⟩:=hh1
  have nch:c∉ch:=fun z=>(hch c z).2.2.1 x c e rfl
  by_cases hc:c∈X.fs
  ·obtain⟨sl,q⟩:=slot c o (I.cne x c e) hc nch ho (I.freeC x c e)
   exact⟨_,q,hd⟩
  ·exact⟨o,keep c o (I.cne x c e) hc nch ho (I.freeC x c e),hd⟩
 refine⟨I.ok,I.os,hg,⟨fun b o e n hb hx=>?_,fun b o e n hb hx=>?_,fun b o e n hx=>?_,fun b o e hx=>?_,fun b xs e=>tups b xs (I.base.tups b xs e),fun b o xs e=>frzs b o xs (I.base.frzs b o xs e),fun b ps e=>?_⟩,?_,fun x c e=>?_,?_,fun x c e=>?_,fun p hp=>?_,hok,I.len⟩
 ·exact keep b o (neL b o e) hb (neC b o e hx) (I.base.keep b o e n hb hx) (I.base.free b o e n hx)
 ·obtain⟨sl,e1⟩:=I.base.slot b o e n hb hx
  obtain⟨sl',e2⟩:=slot b _ (neL b o e) hb (neC b o e hx) e1 (I.base.free b o e n hx)
  exact⟨sl',e2⟩
 ·obtain⟨o',e1⟩:=I.base.there b o e hx
  exact free b o' (neC b o e hx) e1 (I.base.free b o e n hx)
 ·obtain⟨o',e1⟩:=I.base.there b o e hx
  exact there b o' (neC b o e hx) e1
 ·obtain⟨m1,e1⟩:=I.base.tbls b ps e
  obtain⟨m2,e2⟩:=tbls b _ e1
  exact⟨m1++m2,by rw[e2,Q8d]⟩
 ·obtain⟨m,hn,hl⟩:=I.loc
  refine⟨m,ns m hn,fun i x v e1 e2 e3=>?_⟩
  obtain⟨u,r,l⟩:=hl i x v e1 e2 e3
  refine⟨u,r,?_⟩
  rcases l with l|⟨k,c,e,z⟩
  ·exact .inl l
  ·exact .inr ⟨k,c,e,cellK x c e _ z⟩
 ·obtain⟨v,z⟩:=I.cell x c e
  exact⟨v,cellK x c e v z⟩
 ·obtain⟨m,⟨o,_,_,ho,_⟩,_⟩:=I.loc
  exact free _ o (fun z=>(hch _ z).2.1 rfl) ho I.free
 ·obtain⟨v,o,ho,hd⟩:=I.cell x c e
  exact free c o (fun z=>(hch c z).2.2.1 x c e rfl) ho (I.freeC x c e)
 ·obtain⟨e,n,ne,nf,d⟩:=I.pin p hp
  have nch:p.1∉ch:=fun z=>(hch p.1 z).2.2.2 p hp rfl
  exact⟨keep p.1 p.2 ne nf nch e n,free p.1 p.2 nch e n,ne,nf,d⟩
theorem Inv.un{t':Nat}(I:Inv X pins σ H s)(u:Un X.fs [] H H' s.heap h')(hok:HOk X.prog X.w H' h'):Inv X pins σ H' {s with heap:=h',toks:=t' }:=by
 obtain⟨m,⟨o,es,ep,ho,r⟩,_⟩:=id I.loc
 obtain⟨sl,hL⟩:=u.any ho I.free (by simp)
 exact I.step (g':=s.gens) (d':=s.drawn) (ch:=[]) (fun _ z=>nomatch z) (fun b o _ hb _ e n=>u.keep b o e n hb (by simp)) (fun b o _ hb _ e n=>u.slot b o e n hb (by simp)) (fun b o _ e n=>u.free b o e n (by simp)) (fun b o _ e=>u.there b o e (by simp)) u.tups u.frzs u.tbls (fun m' hm=>by
  obtain ⟨o',es',ep',ho',r'⟩:=hm
  rw [ho]at ho';cases ho'
  exact ⟨_,es',ep',hL,r'⟩) hok I.bare
theorem Inv.call{g':Array Q8j}{t':Nat}{d':Drawn}{ch:List Q0i}(I:Inv X pins σ H s)(u:Un (frs X.stack) ch H H' s.heap h')(hok:HOk X.prog X.w H' h')(hg:Q4y g')
  (hch:∀b∈ch,(b∈X.ex\/X.s₀.heap.objs.size<=b)/\b≠X.env.locals/\(∀x c,X.env.cells.lookup x=some c->c≠b)/\∀p∈X.pn++pins,p.1≠b) :
  Inv X pins σ H' {s with heap:=h',gens:=g',drawn:=d',toks:=t' }:=by
 obtain⟨m,⟨o,es,ep,ho,r⟩,_⟩:=id I.loc
 obtain⟨sl,hL⟩:=u.any ho I.free fun z=>(hch _ z).2.1 rfl
 exact I.step (ch:=ch) hch (fun b o hL hb hc e n=>u.keep b o e n (fun z=>(Q1h.mp (I.stkSub b z)).elim hL hb) hc) (fun b o _ _ hc e n=>u.any e n hc) (fun b o hc e n=>u.free b o e n hc) (fun b o hc e=>u.there b o e hc) u.tups u.frzs u.tbls (fun m' hm=>by
  obtain ⟨o',es',ep',ho',r'⟩:=hm
  rw [ho]at ho';cases ho'
  exact ⟨_,es',ep',hL,r'⟩) hok hg
theorem Inv.turned{t':Nat}{it:Q0i}(I:Inv X pins σ H s)(k:∀b o,b≠it->s.heap.get? b=some o->h'.get? b=some o)(hn:H it=none)(hL:it≠X.env.locals)
  (h1:it∈X.ex\/X.s₀.heap.objs.size<=it) (h2:∀x c,X.env.cells.lookup x=some c->c≠it) (h3:∀p∈X.pn++pins,p.1≠it):Inv X pins σ H {s with heap:=h',toks:=t' }:=by
 have nit:∀b u,H b=some u->b≠it:=fun b u e z=>by rw[z,hn]at e;cases e
 refine I.step (g':=s.gens) (d':=s.drawn) (ch:=[it]) (fun b hb=>?_) (fun b o _ _ hc e _=>k b o (fun z=>hc (by simp[z])) e) (fun b o _ _ hc e _=>⟨o.slots,k b o (fun z=>hc (by simp[z])) e⟩) (fun _ _ _ _ n=>n)
  (fun b o hc e=>⟨o,k b o (fun z=>hc (by simp[z])) e⟩) (fun _ _ e=>e) (fun _ _ _ e=>e) (fun b ps e=>⟨#[],by rw[e];simp⟩) (fun m hm=>?_) (fun b u e=>?_) I.bare
 ·have e:b=it:=by simpa using hb
  subst e
  exact⟨h1,hL,h2,h3⟩
 ·obtain⟨o,es,ep,ho,r⟩:=hm
  exact⟨o,es,ep,k _ o (Q3s hL) ho,r⟩
 ·refine(I.hok b u e).stay (fun c v hc q=>k c v ?_ q) (fun _ q=>q) fun _ _ q=>q
  rcases hc with z|z
  ·rw[z];exact nit b u e
  ·exact nit c _ z
theorem Inv.tok(I:Inv X pins σ H s)(t:Nat):Inv X pins σ H {s with toks:=t}:=I.un (h':=s.heap) (t':=t) Un.refl I.hok
theorem Inv.kept{t':Nat}(I:Inv X pins σ H s)(k:∀b u,s.heap.get? b=some u->h'.get? b=some u):Inv X pins σ H {s with heap:=h',toks:=t' }:=I.un (Un.kept k) (I.hok.kept k)
theorem Inv.laid{a:Q0i}{o:HO}{t':Nat}(I:Inv X pins σ H s)(k:∀b u,s.heap.get? b=some u->h'.get? b=some u)(hp:s.heap.objs.size<=a)(new:q0j X.prog X.w (upd H a o) h' a o) :
  Inv X pins σ (upd H a o) {s with heap:=h',toks:=t' }:=I.un (Un.laid k hp (I.hok.fresh hp)) (I.hok.laid k hp new)
theorem Inv.write{x e:Q0i}{o:HO}{t':Nat}(I:Inv X pins σ H s)(mu:Mut (H x))(he:e=x\/H e=some (.own x))(k:∀b u,b≠e->s.heap.get? b=some u->h'.get? b=some u)(heo:∃u,h'.get? e=some u)
  (new:q0j X.prog X.w (upd H x o) h' x o):Inv X pins σ (upd H x o) {s with heap:=h',toks:=t' }:=I.un (Un.write mu he k heo) (I.hok.write mu he k heo new)
theorem Inv.pins_of{pins':List (Q0i×Obj)}(I:Inv X pins σ H s)(h:∀p∈pins',s.heap.get? p.1=some p.2/\H p.1=none/\p.1≠X.env.locals/\p.1∉X.fs/\∀v,p.2.data≠.cell v):Inv X pins' σ H s:=
 ⟨I.ok,I.os,I.bare,I.base,I.loc,I.cell,I.free,I.freeC,fun p hp=>(Q3p.mp hp).elim (fun z=>I.pin p (Q7v _ z)) (h p),I.hok,I.len⟩
theorem q4p{N:List Str}(hN:N.Nodup){i j:Nat}{x:Str}(a:N[i]?=some x)(b:N[j]?=some x):i=j:=by
 obtain⟨h1,e1⟩:=Q0j.mp a
 obtain⟨h2,e2⟩:=Q0j.mp b
 exact(Q9c hN).mp (e1.trans e2.symm)
theorem z0g{M:Q9d}{A:Q0w}{E:Q0a->Q0b->Prop}{i:Nat}{x:Str}{v:V}{u:Q0a}{Q:Unit->Q0b->Prop}(I:Inv X pins σ H s)(hN:X.N.Nodup)(hi:X.N[i]?=some x)(hx:Loc X.env.scope x)(r:RelV v u)
  (h:∀s',Inv X pins (σ.set i (some v)) H s'->(∃a,Q0z.SameBut a s.heap s'.heap/\(a=X.env.locals\/X.env.cells.lookup x=some a))->Q () s') (hf:X.fn x=true\/X.env.scope.names.lookup x=some .local:=by first|exact .inl rfl|exact .inr rfl|assumption):Q0y M A (storeName X.env x u) Q E s:=by
 obtain⟨m,hn,hl⟩:=id I.loc
 have hcls:(X.env.scope.kind==.class||(X.env.scope.kind==.module&&X.env.locals != X.env.globals))=false:=by rw[I.ok.kind];rfl
 have hiσ:i<σ.length:=by rw[I.len];exact(Q0j.mp hi).1
 have cne:=I.cne
 have tracked:∀{a:Q0i}{h':Q0z},(∃o,s.heap.get? a=some o/\H a=none)->Q0z.SameBut a s.heap h'->HOk X.prog X.w H h':=fun {a h'} ha hs b ob e=>by
  obtain⟨_,_,hfree⟩:=ha
  refine(I.hok b ob e).stay (fun c w' hc q=>(hs.2 c ?_).trans q) (fun _ q=>q) fun _ _ q=>q
  rintro rfl
  rcases hc with rfl|hc
  ·rw[hfree]at e;cases e
  ·rw[hfree]at hc;cases hc
 rcases hx with hk|hk
 ·refine wpAny_storeName_local hk hn (fun h' hn' hs=>?_) hcls
  obtain⟨oL,_,_,hoL,_⟩:=id hn
  refine h _ ⟨I.ok,I.os,I.bare,⟨fun b o e n hb hx=>?_,fun b o e n hb hx=>?_,I.base.free,fun b o e hx=>?_,I.base.tups,I.base.frzs,I.base.tbls⟩,⟨_,hn',fun j y v' e1 e2 e3=>?_⟩,fun y c e=>?_,I.free,I.freeC,fun p hp=>?_,tracked ⟨oL,hoL,I.free⟩ hs,by simpa using I.len⟩ ⟨_,hs,.inl rfl⟩
  ·exact(hs.2 b (Q1m (Q0o (Q0p e) I.ok.above))).trans (I.base.keep b o e n hb hx)
  ·obtain⟨sl,e1⟩:=I.base.slot b o e n hb hx
   exact⟨sl,(hs.2 b (Q1m (Q0o (Q0p e) I.ok.above))).trans e1⟩
  ·obtain⟨o',e1⟩:=I.base.there b o e hx
   exact⟨o',(hs.2 b (Q1m (Q0o (Q0p e) I.ok.above))).trans e1⟩
  ·by_cases hj:j=i
   ·subst hj
    rw[hi]at e1;cases e1
    rw[Q1i hiσ]at e2
    cases e2
    exact⟨u,r,.inl ⟨hk,by simp⟩⟩
   ·rw[Q1v (Q3s hj)]at e2
    obtain⟨u',r',q⟩:=hl j y v' e1 e2 e3
    refine⟨u',r',?_⟩
    rcases q with⟨k,e⟩|⟨k,c,e,z⟩
    ·refine .inl ⟨k,?_⟩
     have:y≠x:=fun e=>hj (q4p hN e1 (e▸hi))
     simp[this,e]
    ·exact .inr ⟨k,c,e,z.sameBut hs (cne y c e)⟩
  ·obtain⟨w',z⟩:=I.cell y c e
   exact⟨w',z.sameBut hs (cne y c e)⟩
  ·obtain⟨e,n,ne,nf,d⟩:=I.pin p hp
   exact⟨(hs.2 p.1 ne).trans e,n,ne,nf,d⟩
 ·have hfn:X.fn x=true:=by
   rcases hf with z|z
   ·exact z
   ·rw[z]at hk;cases hk
  obtain⟨c,hc⟩:=I.ok.has x (.inl hk)
  obtain⟨w',z⟩:=I.cell x c hc
  refine wpAny_storeName_cell I.ok.kind hk hc z (fun h' hc' hs=>?_)
  obtain⟨oc,hoc,hocd⟩:=id z
  refine h {s with heap:=h' } ⟨I.ok,I.os,I.bare,⟨fun b o e n hb hx=>?_,fun b o e n hb hx=>?_,I.base.free,fun b o e hx=>?_,I.base.tups,I.base.frzs,I.base.tbls⟩,⟨m,hn.sameBut hs (Q3s (cne x c hc)),fun j y v' e1 e2 e3=>?_⟩,fun y c' e=>?_,I.free,I.freeC,fun p hp=>?_,tracked ⟨oc,hoc,I.freeC x c hc⟩ hs,by simpa using I.len⟩ ⟨c,hs,.inr hc⟩
  ·exact(hs.2 b (Q1m (Q0o (Q0p e) (I.ok.cab x c hfn hc)))).trans (I.base.keep b o e n hb hx)
  ·obtain⟨sl,e1⟩:=I.base.slot b o e n hb hx
   exact⟨sl,(hs.2 b (Q1m (Q0o (Q0p e) (I.ok.cab x c hfn hc)))).trans e1⟩
  ·obtain⟨o',e1⟩:=I.base.there b o e hx
   exact⟨o',(hs.2 b (Q1m (Q0o (Q0p e) (I.ok.cab x c hfn hc)))).trans e1⟩
  ·by_cases hj:j=i
   ·subst hj
    rw[hi]at e1;cases e1
    rw[Q1i hiσ]at e2
    cases e2
    exact⟨u,r,.inr ⟨.inl hk,c,hc,hc'⟩⟩
   ·rw[Q1v (Q3s hj)]at e2
    obtain⟨u',r',q⟩:=hl j y v' e1 e2 e3
    refine⟨u',r',?_⟩
    rcases q with q|⟨k,c',e,z'⟩
    ·exact .inl q
    ·refine .inr ⟨k,c',e,z'.sameBut hs ?_⟩
     rintro rfl
     exact hj (q4p hN e1 (I.ok.inj _ _ _ e hc▸hi))
  ·by_cases hcc:c'=c
   ·subst hcc;exact⟨_,hc'⟩
   ·obtain⟨w2,z2⟩:=I.cell y c' e
    exact⟨w2,z2.sameBut hs hcc⟩
  ·obtain⟨e,n,ne,nf,d⟩:=I.pin p hp
   refine⟨(hs.2 p.1 ?_).trans e,n,ne,nf,d⟩
   intro q
   rw[q,hoc]at e
   have q':oc=p.2:=Q1p e
   exact d w' (by rw[<-q'];exact hocd)
theorem q4k{M:Q9d}{A:Q0w}{E:Q0a->Q0b->Prop}{i:Nat}{x:Str}{v:V}{u:Q0a}{Q:Unit->Q0b->Prop}(I:Inv X pins σ H s)(hN:X.N.Nodup)(hi:X.N[i]?=some x)(hx:Loc X.env.scope x)(r:RelV v u)
  (h:∀s',Inv X pins (σ.set i (some v)) H s'->Q () s') (hf:X.fn x=true\/X.env.scope.names.lookup x=some .local:=by first|exact .inl rfl|exact .inr rfl|assumption):Q0y M A (storeName X.env x u) Q E s:=
 z0g I hN hi hx r (fun s' I' _=>h s' I') hf
theorem Inv.call'{s':Q0b}{ch:List Q0i}(I:Inv X pins σ H s)(ho:s'.os=s.os)(u:Un (frs X.stack) ch H H' s.heap s'.heap)(hok:HOk X.prog X.w H' s'.heap)(hg:Q4y s'.gens)
  (hch:∀b∈ch,(b∈X.ex\/X.s₀.heap.objs.size<=b)/\b≠X.env.locals/\(∀x c,X.env.cells.lookup x=some c->c≠b)/\∀p∈X.pn++pins,p.1≠b):Inv X pins σ H' s':=by
 obtain⟨h',g',d',t',o'⟩:=s'
 have e:o'=s.os:=ho
 subst e
 exact I.call (g':=g') (t':=t') (d':=d') u hok hg hch
end
abbrev XK:=Q0a->Option Q0i->Hp->Prop
abbrev St:=List (Option V)
abbrev VK:=V->Hp->Prop
abbrev TE:=St->Hp->VK->Prop
abbrev TT:=St->Hp->(Bool->Hp->Prop)->Prop
abbrev TA:=St->Hp->(List V->Hp->Prop)->Prop
structure Ends where
 nx:St->Hp->Prop
 rt:VK
 bk:St->Hp->Prop:=fun _ _=>False
 ct:St->Hp->Prop:=fun _ _=>False
abbrev TS:=Ends->St->Hp->Prop
def EP(X:Cx)(pins:List (Q0i×Obj))(σ:St)(Q:VK)(u:Q0a)(s':Q0b):Prop:=∃v H',Inv X pins σ H' s'/\RelV v u/\Q v H'
def TP(X:Cx)(pins:List (Q0i×Obj))(σ:St)(Q:Bool->Hp->Prop)(b:Bool)(s':Q0b):Prop:=∃H',Inv X pins σ H' s'/\Q b H'
def AP(X:Cx)(pins:List (Q0i×Obj))(σ:St)(Q:List V->Hp->Prop)(us:List Q0a)(s':Q0b):Prop:=∃vs H',Inv X pins σ H' s'/\Vals vs us/\Q vs H'
def SP(X:Cx)(pins:List (Q0i×Obj))(D:Ends)(f:Flow)(s':Q0b):Prop:=
 match f with
 |.next=>∃σ' H',Inv X pins σ' H' s'/\D.nx σ' H'
 |.brk=>∃σ' H',Inv X pins σ' H' s'/\D.bk σ' H'
 |.cont=>∃σ' H',Inv X pins σ' H' s'/\D.ct σ' H'
 |.ret u=>∃v σ' H',Inv X pins σ' H' s'/\RelV v u/\D.rt v H'
def PE(X:Cx)(e:Expr)(t:TE):Prop:=
 ∀(pins:List (Q0i×Obj))(s:Q0b)(σ:St)(H:Hp)(Q:VK),Inv X pins σ H s->t σ H Q->Q0y (model X.prog X.w) X.A (eval e X.env) (EP X pins σ Q) X.xe s
def PT(X:Cx)(e:Expr)(t:TT):Prop:=
 ∀(pins:List (Q0i×Obj))(s:Q0b)(σ:St)(H:Hp)(Q:Bool->Hp->Prop),Inv X pins σ H s->t σ H Q->Q0y (model X.prog X.w) X.A (isTrue e X.env (eval e X.env)) (TP X pins σ Q) X.xe s
def PW(X:Cx)(e:Expr)(t:TT):Prop:=
 ∀(whole:Sem Q0a)(pins:List (Q0i×Obj))(s:Q0b)(σ:St)(H:Hp)(Q:Bool->Hp->Prop),Inv X pins σ H s->t σ H Q->Q0y (model X.prog X.w) X.A (isTrue e X.env whole) (TP X pins σ Q) X.xe s
def PA(X:Cx)(es:List Expr)(t:TA):Prop:=
 ∀(pos:Pos)(pins:List (Q0i×Obj))(s:Q0b)(σ:St)(H:Hp)(Q:List V->Hp->Prop),Inv X pins σ H s->t σ H Q->Q0y (model X.prog X.w) X.A (spliced (backTo pos (Q0t es X.env))) (AP X pins σ Q) X.xe s
def PS(X:Cx)(st:Q3t)(t:TS):Prop:=
 ∀(pins:List (Q0i×Obj))(s:Q0b)(σ:St)(H:Hp)(D:Ends),Inv X pins σ H s->t D σ H->Q0y (model X.prog X.w) X.A (exec st X.env) (SP X pins D) X.xe s
def PSs(X:Cx)(st:List Q3t)(t:TS):Prop:=
 ∀(pins:List (Q0i×Obj))(s:Q0b)(σ:St)(H:Hp)(D:Ends),Inv X pins σ H s->t D σ H->Q0y (model X.prog X.w) X.A (execs st X.env) (SP X pins D) X.xe s
theorem thn{α:Type}{t:Sem α}{Q Q':α->Q0b->Prop}{M:Q9d}{A:Q0w}{E:Q0a->Q0b->Prop}{s:Q0b}(h:Q0y M A t Q E s)(hQ:∀a s,Q a s->Q' a s):Q0y M A t Q' E s:=Q1o h hQ fun _ _ x=>x
section
variable{X:Cx}
def tVar(i:Nat):TE:=fun σ H Q=>∃v,σ[i]?=some (some v)/\Q v H
def tC(v:V):TE:=fun _ H Q=>Q v H
theorem z1f{i:Nat}{x:Str}{pos:Pos}(hN:X.N[i]?=some x)(hv:Vis X.env.scope x)(hd:(x==("__debug__" : Str))=false:=by decide)(hcd:(x==("__classdict__" : Str))=false:=by decide):PE X (.Name x pos) (tVar i):=by
 intro pins s σ H Q I h
 obtain⟨v,e,h⟩:=h
 obtain⟨m,hn,hl⟩:=I.loc
 obtain⟨u,r,l⟩:=hl i x v hN e hv
 have fin:EP X pins σ Q u s:=⟨v,H,I,r,h⟩
 rcases l with⟨hk,hm⟩|⟨hk,c,hc,hcell⟩
 ·exact Z0c (wpAny_loadName_local I.ok.kind hk hn hm fin) hd
 ·rcases hk with hk|hk
  ·exact Z0c (wpAny_loadName_cell I.ok.kind hk hc hcell fin) hd
  ·exact Z0c (wpAny_loadName_free I.ok.kind hk hc hcell fin hcd) hd
theorem y1c {i j pos}:PE X (.Constant (.int i) j pos) (tC (.int i)):=fun _ _ _ H _ I h=>wpAny_Constant_int ⟨.int i,H,I.tok _,⟨_,rfl⟩,h⟩
theorem y3o {b j pos}:PE X (.Constant (.bool b) j pos) (tC (.bl b)):=fun _ _ _ H _ I h=>Constant_bool ⟨.bl b,H,I,rfl,h⟩
theorem y1a {j pos}:PE X (.Constant .none j pos) (tC .non):=fun _ _ _ H _ I h=>Constant_none ⟨.non,H,I,rfl,h⟩
theorem y0x {x j pos}:PE X (.Constant (.str x) j pos) (tC (.str x)):=fun _ _ _ H _ I h=>Q8e ⟨.str x,H,I.tok _,⟨_,rfl⟩,h⟩
def Gl(X:Cx)(x:Str):Prop:=X.env.kindOf x=some .globalImplicit
theorem q2d{E:Q0a->Q0b->Prop}{pins:List (Q0i×Obj)}{s:Q0b}{σ:St}{H:Hp}{x:Str}{u:Q0a}{pos:Pos}{Q:Q0a->Q0b->Prop}(I:Inv X pins σ H s)(hg:Gl X x)(hm:X.mg x=some u)(h:Q u s)
  (hd:(x==("__debug__" : Str))=false:=by decide):Q0y (model X.prog X.w) X.A (eval (.Name x pos) X.env) Q E s:=
 Q6r I.ok.kind hg (Calls.loadGlobal_global (by rw[I.ok.glob];exact I.mod.glob.keeps I.bk) hm h) hd
theorem q8b{E:Q0a->Q0b->Prop}{pins:List (Q0i×Obj)}{s:Q0b}{σ:St}{H:Hp}{x:Str}{u:Q0a}{pos:Pos}{Q:Q0a->Q0b->Prop}(I:Inv X pins σ H s)(hg:Gl X x)(hm:X.mg x=none)(hv:bootBuiltins x=some u)(h:Q u s)
  (hn:x≠ "__name__" :=by decide) (hd:(x==("__debug__" : Str))=false:=by decide):Q0y (model X.prog X.w) X.A (eval (.Name x pos) X.env) Q E s:=by
 obtain⟨mb,h1,h2⟩:=I.mod.blt
 exact Q6r I.ok.kind hg (Calls.loadGlobal_builtin (by rw[I.ok.glob];exact I.mod.glob.keeps I.bk) hm (by rw[I.ok.blt];exact h1.keeps I.bk) ((h2 x hn).trans hv) h) hd
theorem z1g{x:Str}{v:V}{u:Q0a}{pos:Pos}(hg:Gl X x)(hm:X.mg x=some u)(r:RelV v u)(hd:(x==("__debug__" : Str))=false:=by decide):PE X (.Name x pos) (tC v):=
 fun _ _ _ H _ I h=>q2d I hg hm ⟨v,H,I,r,h⟩ hd
theorem z1i{x:Str}{v:V}{u:Q0a}{pos:Pos}(hg:Gl X x)(hm:X.mg x=none)(hv:bootBuiltins x=some u)(r:RelV v u)(hn:x≠ "__name__" :=by decide)(hd:(x==("__debug__" : Str))=false:=by decide):PE X (.Name x pos) (tC v):=
 fun _ _ _ H _ I h=>q8b I hg hm hv ⟨v,H,I,r,h⟩ hn hd
variable{a b:Expr}{ta tb:TE}{pos:Pos}
variable{tA tB':TT}{rest:List Expr}
def tOr(t u:TT):TT:=fun σ H Q=>t σ H fun c H1=>if c=true then Q true H1 else u σ H1 Q
def tNot(t:TT):TT:=fun σ H Q=>t σ H fun c H1=>Q (!c) H1
theorem y0j(ha:PT X a tA):PW X (.BoolOp .Or [a] pos) tA:=by
 intro wh pins s σ H Q I h
 refine isTrue_or (thn (ha pins s σ H Q I h) fun c s1 e=>?_)
 cases c with
 |false=>exact isTrue_or_nil e
 |true=>exact e
theorem y3i(ha:PT X a tA)(hb:PW X (.BoolOp .Or (b::rest) pos) tB'):PW X (.BoolOp .Or (a::b::rest) pos) (tOr tA tB'):=by
 intro wh pins s σ H Q I h
 refine isTrue_or (thn (ha pins s σ H _ I h) fun c s1 hh1=>?_)
 obtain⟨H1,I1,q1⟩:=hh1
 cases c with
 |true=>exact⟨H1,I1,q1⟩
 |false=>exact hb wh pins s1 σ H1 Q I1 q1
theorem y0k(ha:PT X a tA):PT X (.UnaryOp .Not a pos) (tNot tA):=by
 intro pins s σ H Q I h
 exact isTrue_not (ha pins s σ H (fun c H1=>Q (!c) H1) I h)
def y3g(ta tb:TE):TE:=fun σ H Q=>ta σ H fun x H1=>∃c,x=.bl c/\if c=true then tb σ H1 Q else Q (.bl false) H1
def y3b(ta:TE):TE:=fun σ H Q=>ta σ H fun x H1=>∃c,x=.bl c/\Q (.bl (!c)) H1
theorem y0y {op} {t:TE} (h:PE X a t):PE X (.BoolOp op [a] pos) t:=fun pins s σ H Q I hw=>BoolOp_one (h pins s σ H Q I hw)
theorem y1e(ha:PE X a ta)(hb:PE X (.BoolOp .And (b::rest) pos) tb):PE X (.BoolOp .And (a::b::rest) pos) (y3g ta tb):=by
 intro pins s σ H Q I h
 refine BoolOp_and (thn (ha pins s σ H _ I h) fun v s1 hh1=>?_)
 obtain⟨x,H1,I1,r1,q1⟩:=hh1
 obtain⟨c,rfl,q1⟩:=q1
 cases r1
 refine Q4t ?_
 cases c with
 |true=>exact hb pins s1 σ H1 Q I1 q1
 |false=>exact⟨.bl false,H1,I1,rfl,q1⟩
theorem y0z(ha:PE X a ta):PE X (.UnaryOp .Not a pos) (y3b ta):=by
 intro pins s σ H Q I h
 refine UnaryOp_ (thn (ha pins s σ H _ I h) fun v s1 hh1=>?_)
 obtain⟨x,H1,I1,r1,q1⟩:=hh1
 obtain⟨c,rfl,q1⟩:=q1
 cases r1
 exact not_of (Q4t ⟨.bl (!c),H1,I1,rfl,q1⟩)
def tIf(t:TT)(ta tb:TE):TE:=fun σ H Q=>t σ H fun c H1=>if c=true then ta σ H1 Q else tb σ H1 Q
theorem z4u{c:Expr}(hc:PT X c tA)(ha:PE X a ta)(hb:PE X b tb):PE X (.IfExp c a b pos) (tIf tA ta tb):=by
 intro pins s σ H Q I h
 refine wpAny_IfExp (thn (hc pins s σ H _ I h) fun d s1 hh1=>?_)
 obtain⟨H1,I1,q1⟩:=hh1
 cases d with
 |true=>exact ha pins s1 σ H1 Q I1 q1
 |false=>exact hb pins s1 σ H1 Q I1 q1
end
def SqL(K:Q1n)(H:Hp)(a:Q0i)(xs:List V):Prop:=
 Rd H a (.lst xs)\/
  ∃(o:Obj)(its:Array Q0a)(n:Nat),K.lookup a=some o/\o.cls=.type "list" /\o.dict=none/\o.data=.seq its n/\its.size<=Q0k/\Vals xs its.toList
def SqT(K:Q1n)(H:Hp)(a:Q0i)(xs:List V):Prop:=
 Rd H a (.tup xs)\/
  ∃(o:Obj)(its:Array Q0a)(n:Nat),K.lookup a=some o/\o.cls=.type "tuple" /\o.data=.seq its n/\its.size<=Q0k/\Vals xs its.toList
def absV:Q0a->Option V
 |.none=>some .non
 |.bool b=>some (.bl b)
 |.int i _=>some (.int i)
 |.str x _=>some (.str x)
 |.bytes b _=>some (.byt b)
 |.float b _=>some (.flt b)
 |.ref a=>some (.ref a)
 |.type n=>some (.ty n)
 |_=>none
theorem RelV.abs{x:V}{u:Q0a}(r:RelV x u):absV u=some x:=by
 cases x with
 |non=>cases r;rfl
 |bl _=>cases r;rfl
 |int _=>obtain⟨t,rfl⟩:=r;rfl
 |str _=>obtain⟨t,rfl⟩:=r;rfl
 |byt _=>obtain⟨t,rfl⟩:=r;rfl
 |flt _=>obtain⟨t,rfl⟩:=r;rfl
 |ref _=>cases r;rfl
 |ty _=>cases r;rfl
theorem RelV.inj{x y:V}{u:Q0a}(r:RelV x u)(q:RelV y u):x=y:=Q1p (r.abs.symm.trans q.abs)
theorem Vals.inj:∀{xs ys:List V}{us:List Q0a},Vals xs us->Vals ys us->xs=ys
 |_,_,_,.nil,.nil=>rfl
 |_,_,_,.cons r t,.cons r' t'=>by rw[r.inj r',Vals.inj t t']
section
variable{X:Cx}{pins:List (Q0i×Obj)}{σ:St}{H:Hp}{s:Q0b}{a:Q0i}{xs ys:List V}
theorem SqL.of{K:Q1n}(h:H a=some (.lst xs)):SqL K H a xs:=.inl (.inl h)
theorem SqT.of{K:Q1n}(h:H a=some (.tup xs)):SqT K H a xs:=.inl (.inl h)
theorem Inv.list(I:Inv X pins σ H s)(h:SqL X.K H a xs):∃its:List Q0a,Vals xs its/\PlainL s.heap a its.toArray/\xs.length<=Q0k:=by
 rcases h with h|⟨o,its,n,hk,hc,hd,hs,hz,r⟩
 ·obtain⟨z,its,n,r,e⟩:=h.ok I.hok
  exact⟨its,r,⟨_,n,e,rfl,rfl,rfl⟩,z⟩
 ·refine⟨its.toList,r,⟨o,n,I.kIn a o hk,hc,hd,by simpa using hs⟩,?_⟩
  have e:=r.length
  simp only[Q5e]at e
  omega
theorem Inv.tuple(I:Inv X pins σ H s)(h:SqT X.K H a xs):∃its:List Q0a,Vals xs its/\Q5u s.heap a its.toArray/\xs.length<=Q0k:=by
 rcases h with h|⟨o,its,n,hk,hc,hs,hz,r⟩
 ·obtain⟨z,its,r,p⟩:=h.ok I.hok
  exact⟨its,r,p,z⟩
 ·refine⟨its.toList,r,⟨o,I.kIn a o hk,hc,n,by simpa using hs⟩,?_⟩
  have e:=r.length
  simp only[Q5e]at e
  omega
theorem Inv.list_inj(I:Inv X pins σ H s)(h:SqL X.K H a xs)(h':SqL X.K H a ys):xs=ys:=by
 obtain⟨its,r,⟨o,n,e,_,_,d⟩,_⟩:=I.list h
 obtain⟨its',r',⟨o',n',e',_,_,d'⟩,_⟩:=I.list h'
 rw[e]at e';cases e'
 rw[d]at d'
 injection d' with d1 _
 have:its=its':=by simpa using congrArg Q9u d1
 subst this
 exact r.inj r'
theorem Inv.tuple_inj(I:Inv X pins σ H s)(h:SqT X.K H a xs)(h':SqT X.K H a ys):xs=ys:=by
 obtain⟨its,r,⟨o,e,_,n,d⟩,_⟩:=I.tuple h
 obtain⟨its',r',⟨o',e',_,n',d'⟩,_⟩:=I.tuple h'
 rw[e]at e';cases e'
 rw[d]at d'
 injection d' with d1 _
 have:its=its':=by simpa using congrArg Q9u d1
 subst this
 exact r.inj r'
end
section
variable{X:Cx}{pins:List (Q0i×Obj)}{σ:St}{H:Hp}{s:Q0b}{E:Q0a->Q0b->Prop}
end
section
variable{X:Cx}{st:Q3t}{rest:List Q3t}{t u:TS}{e:Expr}{te:TE}{pos:Pos}
def y3c:TS:=fun D σ H=>D.nx σ H
def tSeq(t u:TS):TS:=fun D σ H=>t {D with nx:=u D} σ H
theorem z7q:PSs X [] y3c:=fun _ _ σ H _ I h=>Q4e ⟨σ,H,I,h⟩
theorem q4n(h1:PS X st t)(h2:PSs X rest u):PSs X (st::rest) (tSeq t u):=by
 intro pins s σ H D I h
 refine Q7c (thn (h1 pins s σ H {D with nx:=u D} I h) fun f s1 q=>?_)
 cases f with
 |next=>
  obtain⟨σ',H',I',q⟩:=q
  exact h2 pins s1 σ' H' D I' q
 |ret v=>exact q
 |brk=>exact q
 |cont=>exact q
theorem z0y(h1:PS X st t):PSs X [st] t:=by
 intro pins s σ H D I h
 refine Q7c (thn (h1 pins s σ H D I h) fun f s1 q=>?_)
 cases f with
 |next=>exact Q4e q
 |ret v=>exact q
 |brk=>exact q
 |cont=>exact q
theorem Inv.quiet{pins:List (Q0i×Obj)}{σ:St}{H:Hp}{s:Q0b}(I:Inv X pins σ H s):interactive X.env=false:=by simp[interactive,I.ok.kind]
def y3e(te:TE):TS:=fun D σ H=>te σ H fun _ H1=>D.nx σ H1
theorem z7r(he:PE X e te)(hs:swapsWith e none pos.line X.env=pure false:=by rfl):PS X (.Expr e pos) (y3e te):=by
 intro pins s σ H D I h
 exact Q7w (thn (he pins s σ H _ I h) fun v s1 hh1=>by obtain⟨x,H1,I1,r1,q1⟩:=hh1;exact(⟨σ,H1,I1,q1⟩)) I.quiet hs
def tRet(te:TE):TS:=fun D σ H=>te σ H D.rt
theorem y0n(he:PE X e te):PS X (.Return (some e) pos) (tRet te):=by
 intro pins s σ H D I h
 exact wpAny_Return_some (thn (he pins s σ H _ I h) fun v s1 hh1=>by obtain⟨x,H1,I1,r1,q1⟩:=hh1;exact(⟨x,σ,H1,I1,r1,q1⟩))
def tIfS(c:TT)(t u:TS):TS:=fun D σ H=>c σ H fun b H1=>if b=true then t D σ H1 else u D σ H1
theorem y3j{c:Expr}{a b:List Q3t}{tc:TT}(hc:PT X c tc)(ha:PSs X a t)(hb:PSs X b u):PS X (.If c a b pos) (tIfS tc t u):=by
 intro pins s σ H D I h
 refine wpAny_If (thn (hc pins s σ H _ I h) fun d s1 hh1=>?_)
 obtain⟨H1,I1,q1⟩:=hh1
 cases d with
 |true=>exact ha pins s1 σ H1 D I1 q1
 |false=>exact hb pins s1 σ H1 D I1 q1
end
abbrev TG:=V->St->Hp->(St->Hp->Prop)->Prop
def PG(X:Cx)(target:Expr)(t:TG):Prop:=
 ∀(pins:List (Q0i×Obj))(s:Q0b)(σ:St)(H:Hp)(v:V)(u:Q0a)(Q:St->Hp->Prop),Inv X pins σ H s->RelV v u->t v σ H Q->
  Q0y (model X.prog X.w) X.A (assign target X.env u) (fun _ s'=>∃σ' H',Inv X pins σ' H' s'/\Q σ' H') X.xe s
abbrev TSet:=V->V->V->Hp->(Hp->Prop)->Prop
def PSet(X:Cx)(t:TSet):Prop:=
 ∀(pins:List (Q0i×Obj))(s:Q0b)(σ:St)(H:Hp)(o i v:V)(ov iv u:Q0a)(Q:Hp->Prop),Inv X pins σ H s->RelV o ov->RelV i iv->RelV v u->t o i v H Q->
  Q0y (model X.prog X.w) X.A (setItem ov iv u) (fun _ s'=>∃H',Inv X pins σ H' s'/\Q H') X.xe s
section
variable{X:Cx}{pos:Pos}
def y2j(i:Nat):TG:=fun v σ H Q=>Q (σ.set i (some v)) H
theorem z7v{i:Nat}{x:Str}(hN:X.N.Nodup)(hi:X.N[i]?=some x)(hx:Loc X.env.scope x)(hf:X.fn x=true\/X.env.scope.names.lookup x=some .local:=by first|exact .inl rfl|exact .inr rfl|assumption):PG X (.Name x pos) (y2j i):=by
 intro pins s σ H v u Q I r h
 exact wpAny_assign_Name (q4k I hN hi hx r (fun s' I'=>⟨_,H,I',h⟩) hf)
def gSub(to ti:TE)(t:TSet):TG:=fun v σ H Q=>to σ H fun o H1=>ti σ H1 fun i H2=>t o i v H2 fun H3=>Q σ H3
theorem y0v{o i:Expr}{to ti:TE}{t:TSet}(ho:PE X o to)(hi:PE X i ti)(hs:PSet X t)
  (ha:∀v,assign (.Subscript o i pos) X.env v=(do
   let ov <-holding [v] (eval o X.env)
   let iv <-holding [v,ov] (eval i X.env)
   standAt pos
   holding [v,ov,iv] (setItem ov iv v)
   release [v,ov,iv] []):=by intro _;rfl):PG X (.Subscript o i pos) (gSub to ti t):=by
 intro pins s σ H v u Q I r h
 rw[ha]
 refine Q0c (Q1y (thn (ho pins s σ H _ I h) fun ov s1 hh1=>?_))
 obtain⟨x,H1,I1,r1,q1⟩:=hh1
 refine Q0c (Q1y (thn (hi pins s1 σ H1 _ I1 q1) fun iv s2 hh2=>?_))
 obtain⟨y,H2,I2,r2,q2⟩:=hh2
 refine Q0c (Q2w (Q0c (Q1y (thn (hs pins s2 σ H2 x y v ov iv u _ I2 r1 r2 r q2) fun _ s3 hh3=>?_))))
 obtain⟨H3,I3,q3⟩:=hh3
 exact wpAny_release ⟨σ,H3,I3,q3⟩
def tAsg(te:TE)(g:TG):TS:=fun D σ H=>te σ H fun x H1=>g x σ H1 D.nx
theorem y0p{tg e:Expr}{te:TE}{g:TG}(he:PE X e te)(hg:PG X tg g)(hs:swapsWithSole [tg] e pos.line X.env=pure false:=by rfl)(hw:swappedStores [tg] e X.env=pure none:=by rfl)
  (h1:(assignEach [tg] X.env).map (·.2)=[assign tg X.env]:=by rfl):PS X (.Assign [tg] e pos) (tAsg te g):=by
 intro pins s σ H D I h
 refine wpAny_Assign_stores (thn (he pins s σ H _ I h) fun v s1 ⟨x,H1,I1,r1,q1⟩=>?_) hs hw
 rw[h1]
 exact thn (hg pins s1 σ H1 x v _ I1 r1 q1) fun _ s2 q=>q
theorem y0m{i:Nat}{x:Str}{e:Expr}{te:TE}{pos':Pos}(hN:X.N.Nodup)(hi:X.N[i]?=some x)(hx:Loc X.env.scope x)(he:PE X e te)(hs:swapsWith e (some (.Name x pos')) pos.line X.env=pure false:=by rfl)(hf:X.fn x=true\/X.env.scope.names.lookup x=some .local:=by first|exact .inl rfl|exact .inr rfl|assumption) :
  PS X (.Assign [.Name x pos'] e pos) (tAsg te (y2j i)):=by
 intro pins s σ H D I h
 refine wpAny_Assign_Name (thn (he pins s σ H _ I h) fun v s1 ⟨y,H1,I1,r1,q1⟩=>?_) hs
 exact q4k I1 hN hi hx r1 (fun s2 I2=>⟨_,H1,I2,q1⟩) hf
end
section
variable{X:Cx}{pos:Pos}
end
structure It where
 go:Nat->Hp->Prop
 yld:Nat->Hp->V->Hp->Prop
 stop:Nat->Hp->Prop
def FpOk(X:Cx)(pins:List (Q0i×Obj))(H:Hp)(b:Q0i):Prop:=
 H b=none/\b≠X.env.locals/\b∉X.fs/\(b∈X.ex\/X.s₀.heap.objs.size<=b)/\(∀x c,X.env.cells.lookup x=some c->c≠b)/\∀p∈X.pn++pins,p.1≠b
theorem Inv.fpOk{X:Cx}{pins:List (Q0i×Obj)}{σ:St}{H H':Hp}{s:Q0b}{b:Q0i}(I:Inv X pins σ H s)(hb:s.heap.objs.size<=b)(hn:H' b=none):FpOk X pins H' b:=by
 refine⟨hn,Q6k (Q0o I.lt hb),I.nofs hb,.inr (Q1t I.sz hb),fun x c e z=>?_,fun p hp z=>?_⟩
 ·obtain⟨v,q⟩:=I.cell x c e
  exact absurd (Q0o q.lt (by rw[z];exact hb)) (Q2s _)
 ·exact absurd (Q0o (Q0p (I.pin p hp).1) (by rw[z];exact hb)) (Q2s _)
structure Turn(P:Q0l)(w:Q1a)(K:Q1n)(tg:Expr)(J:It)(fp:List Q0i)(it:Q0i)(tn:Nat->Q0z->Prop):Prop where
 mem:it∈fp
 obj:∀i h,tn i h->∀b∈fp,∃o,h.get? b=some o/\∀v,o.data≠.cell v
 keep:∀i h h',tn i h->(∀b∈fp,∀o,h.get? b=some o->h'.get? b=some o)->tn i h'
 item:∀(X:Cx),X.prog=P->X.w=w->X.K=K->X.calm=true->∀(i:Nat)(pins:List (Q0i×Obj))(s:Q0b)(σ:St)(H:Hp)(E:Q0a->Q0b->Prop),Inv X pins σ H s->(∀b∈fp,FpOk X pins H b)->tn i s.heap->J.go i H->
  Q0y (model P w) X.A (pyNext (.ref it)) (fun r s1=>∃u,r=some u/\
   Q0y (model P w) X.A (letOwnedTupleGo tg (.ref it) u) (fun _ s2=>∃x H',Inv X pins σ H' s2/\RelV x u/\J.yld i H x H'/\tn (i+1) s2.heap/\∀b∈fp,H' b=none) E s1) E s
 done:∀(X:Cx),X.prog=P->X.w=w->X.K=K->X.calm=true->∀(i:Nat)(pins:List (Q0i×Obj))(s:Q0b)(σ:St)(H:Hp)(E:Q0a->Q0b->Prop),Inv X pins σ H s->(∀b∈fp,FpOk X pins H b)->tn i s.heap->J.stop i H->
  Q0y (model P w) X.A (pyNext (.ref it)) (fun r s1=>r=none/\Inv X pins σ H s1) E s
 self:∀(A:Q0w)(i:Nat)(s:Q0b)(Q:Q0a->Q0b->Prop)(E:Q0a->Q0b->Prop),tn i s.heap->Q (.ref it) s->Q0y (model P w) A (pyIter (.ref it)) Q E s
abbrev TI:=St->Hp->(It->Hp->Prop)->Prop
def PIE(X:Cx)(pins:List (Q0i×Obj))(σ:St)(tg:Expr)(R:It->Hp->Prop)(itv:Q0a)(s2:Q0b):Prop:=
 ∃(it:Q0i)(fp:List Q0i)(tn:Nat->Q0z->Prop)(J:It)(H':Hp),itv=.ref it/\Inv X pins σ H' s2/\Turn X.prog X.w X.K tg J fp it tn/\tn 0 s2.heap/\(∀b∈fp,FpOk X pins H' b)/\R J H'
def PI(X:Cx)(tg iter:Expr)(wi:TI):Prop:=
 ∀(pins:List (Q0i×Obj))(s:Q0b)(σ:St)(H:Hp)(R:It->Hp->Prop),Inv X pins σ H s->wi σ H R->
  Q0y (model X.prog X.w) X.A (eval iter X.env) (fun v s1=>Q0y (model X.prog X.w) X.A (pyIter v) (PIE X pins σ tg R) X.xe s1) X.xe s
theorem z5n {M : Q9d} {A : Q0w} {E : Q0a -> Q0b -> Prop} {s : Q0b} {tg : Expr} {it : Q0i} {u : Q0a} {o : Obj} {n : String} {vs : Array Q0a} {Q : Unit -> Q0b -> Prop} (ho : s.heap.get? it = some o) (hc : o.cls = .type n) (hd : o.data = .fields vs)
    (hn : ["enumerate", "zip", "dict_itemiterator", "dict_reverseitemiterator", "odict_iterator", "itertools.zip_longest", "itertools.pairwise"].contains n = false) (hQ : Q () s) : Q0y M A (letOwnedTupleGo tg (.ref it) u) Q E s := by
  unfold letOwnedTupleGo
  cases tg <;> first
    | exact Q0n hQ
    | (cases u <;> first
        | exact Q0n hQ
        | (refine Q0c (wpAny_load ho ?_)
           rw [hc, hd]
           show Q0y M A (if (["enumerate", "zip", "dict_itemiterator", "dict_reverseitemiterator", "odict_iterator", "itertools.zip_longest", "itertools.pairwise"].contains n && vs[0]? == some (rawInt _)) = true then _ else _) Q E s
           rw [if_neg (by intro h; rw [hn, Q9o] at h; cases h)]
           exact Q0n hQ))
def Itl(K:Q1n)(a:Q0i):It:=
 ⟨fun i H=>∃xs x,SqL K H a xs/\xs[i]?=some x,fun i H x H'=>H'=H/\∀xs,SqL K H a xs->xs[i]?=some x,fun i H=>∃xs,SqL K H a xs/\xs.length<=i⟩
def Itt(K:Q1n)(a:Q0i):It:=
 ⟨fun i H=>∃xs x,SqT K H a xs/\xs[i]?=some x,fun i H x H'=>H'=H/\∀xs,SqT K H a xs->xs[i]?=some x,fun i H=>∃xs,SqT K H a xs/\xs.length<=i⟩
def Itr(lo:Int)(n:Nat):It:=⟨fun i _=>i<n,fun i H x H'=>H'=H/\x=.int (lo+i),fun i _=>n<=i⟩
theorem z0b{P:Q0l}{w:Q1a}{K:Q1n}{tg:Expr}(a it:Q0i):Turn P w K tg (Itl K a) [it] it (fun i h=>h.IsListIter it a i) where
 mem:=by simp
 obj:=fun i h st b hb=>by
  have e:b=it:=by simpa using hb
  subst e
  obtain⟨o,e,c,d⟩:=st
  exact⟨o,e,fun v z=>by rw[d]at z;cases z⟩
 keep:=fun i h h' st k=>st.at fun o e=>k it (by simp) o e
 item:=by
  intro X hP hw hK hc i pins s σ H E I hf st hg
  subst hP hw hK
  obtain⟨xs,x,hq,hx⟩:=hg
  obtain⟨its,rv,p,hz⟩:=I.list hq
  obtain⟨u,hu,ru⟩:=rv.get hx
  obtain⟨f0,f1,f2,f3,f4,f5⟩:=hf it (by simp)
  refine wpAny_pyNext_list_item st p.isList (x:=u) (by simpa using hu) fun h' st' sb=>?_
  have I1:Inv X pins σ H {s with heap:=h' }:=I.turned (t':=s.toks) (fun b o hb e=>(sb.2 b hb).trans e) f0 f1 f3 f4 f5
  obtain⟨o,e,c,d⟩:=id st'
  exact⟨u,rfl,z5n (s:={s with heap:=h' }) e c d (by decide) ⟨x,H,I1,ru,⟨rfl,fun ys hy=>by rw[I.list_inj hy hq];exact hx⟩,st',fun b hb=>(hf b hb).1⟩⟩
 done:=by
  intro X hP hw hK hc i pins s σ H E I hf st hg
  subst hP hw hK
  obtain⟨xs,hq,hx⟩:=hg
  obtain⟨its,rv,p,hz⟩:=I.list hq
  obtain⟨f0,f1,f2,f3,f4,f5⟩:=hf it (by simp)
  have hl:=rv.length
  exact wpAny_pyNext_list_end (I.ok.hd hc) st p.isList (by simp;omega) fun h' eb=>⟨rfl,I.turned (t':=s.toks) (fun b o hb e=>eb b o hb e) f0 f1 f3 f4 f5⟩
 self:=fun _ _ _ _ _ st h=>wpAny_pyIter_listiter st h
theorem q8p{P:Q0l}{w:Q1a}{K:Q1n}{tg:Expr}(a it:Q0i):Turn P w K tg (Itt K a) [it] it (fun i h=>h.IsTupleIter it a i) where
 mem:=by simp
 obj:=fun i h st b hb=>by
  have e:b=it:=by simpa using hb
  subst e
  obtain⟨o,e,c,d⟩:=st
  exact⟨o,e,fun v z=>by rw[d]at z;cases z⟩
 keep:=fun i h h' st k=>st.at fun o e=>k it (by simp) o e
 item:=by
  intro X hP hw hK hc i pins s σ H E I hf st hg
  subst hP hw hK
  obtain⟨xs,x,hq,hx⟩:=hg
  obtain⟨its,rv,p,hz⟩:=I.tuple hq
  obtain⟨u,hu,ru⟩:=rv.get hx
  obtain⟨f0,f1,f2,f3,f4,f5⟩:=hf it (by simp)
  refine wpAny_pyNext_tuple_item st (show s.heap.IsTuple a its.toArray from p) (x:=u) (by simpa using hu) fun h' st' sb=>?_
  have I1:Inv X pins σ H {s with heap:=h' }:=I.turned (t':=s.toks) (fun b o hb e=>(sb.2 b hb).trans e) f0 f1 f3 f4 f5
  obtain⟨o,e,c,d⟩:=id st'
  exact⟨u,rfl,z5n (s:={s with heap:=h' }) e c d (by decide) ⟨x,H,I1,ru,⟨rfl,fun ys hy=>by rw[I.tuple_inj hy hq];exact hx⟩,st',fun b hb=>(hf b hb).1⟩⟩
 done:=by
  intro X hP hw hK hc i pins s σ H E I hf st hg
  subst hP hw hK
  obtain⟨xs,hq,hx⟩:=hg
  obtain⟨its,rv,p,hz⟩:=I.tuple hq
  obtain⟨f0,f1,f2,f3,f4,f5⟩:=hf it (by simp)
  have hl:=rv.length
  exact wpAny_pyNext_tuple_end (I.ok.hd hc) st (show s.heap.IsTuple a its.toArray from p) (by simp;omega) fun h' eb=>⟨rfl,I.turned (t':=s.toks) (fun b o hb e=>eb b o hb e) f0 f1 f3 f4 f5⟩
 self:=fun _ _ _ _ _ st h=>wpAny_pyIter_tupleiter st h
theorem q8q{P:Q0l}{w:Q1a}{K:Q1n}{tg:Expr}(it:Q0i)(lo:Int)(n:Nat):Turn P w K tg (Itr lo n) [it] it (fun i h=>IsRangeIter h it (lo+(i:Nat)*1) ((n:Int)-(i:Nat)) 1) where
 mem:=by simp
 obj:=fun i h st b hb=>by
  have e:b=it:=by simpa using hb
  subst e
  exact⟨_,st,fun v z=>by
   have z':Data.fields _=Data.cell v:=z
   cases z'⟩
 keep:=fun i h h' st k=>k it (by simp) _ st
 item:=by
  intro X hP hw hK hc i pins s σ H E I hf st hg
  subst hP hw hK
  obtain⟨f0,f1,f2,f3,f4,f5⟩:=hf it (by simp)
  have W:=Walks.range (prog:=X.prog) (w:=X.w) (I.ok.hd hc) it lo 1 n
  refine W.item i s _ _ hg st fun v h' tk hv st' kk=>?_
  obtain⟨t,rfl⟩:=hv
  have I1:Inv X pins σ H {s with heap:=h',toks:=tk}:=I.turned (fun b o hb e=>kk b o (by simpa using hb) e) f0 f1 f3 f4 f5
  refine⟨_,rfl,z5n (s:={s with heap:=h',toks:=tk}) (n:= "range_iterator") st' rfl rfl (by decide) ⟨.int (lo+i),H,I1,⟨t,?_⟩,⟨rfl,rfl⟩,st',fun b hb=>(hf b hb).1⟩⟩
  rw[Int.mul_one]
 done:=by
  intro X hP hw hK hc i pins s σ H E I hf st hg
  subst hP hw hK
  obtain⟨f0,f1,f2,f3,f4,f5⟩:=hf it (by simp)
  exact wpAny_pyNext_range_end (I.ok.hd hc) st (by have:n<=i:=hg;omega) fun h' eb=>⟨rfl,I.turned (t':=s.toks) (fun b o hb e=>eb b o hb e) f0 f1 f3 f4 f5⟩
 self:=fun _ _ _ _ _ st h=>wpAny_pyIter_rangeiter st h
section
variable{X:Cx}{tg:Expr}
theorem z4l{pins:List (Q0i×Obj)}{σ:St}{H:Hp}{s:Q0b}{R:It->Hp->Prop}{E:Q0a->Q0b->Prop}{lo hi:Int}{t u v:Tok}{tk:Nat}(I:Inv X pins σ H s)(h1:-(2 ^ 62)<=lo)(h2:lo<2 ^ 62)(h3:-(2 ^ 62)<=hi)(h4:hi<2 ^ 62)
  (q:R (Itr lo (hi-lo).toNat) H):Q0y (model X.prog X.w) X.A (pyIter (.ref s.heap.objs.size)) (PIE X pins σ tg R) E {s with heap:=s.heap.push {cls:=.type "range",data:=.fields #[.int lo t,.int hi u,.int 1 v]},toks:=tk}:=by
 refine wpAny_pyIter_range (IsRange.new ..) (small_one h1 h2 h3 h4) ?_
 have I1:Inv X pins σ H {s with heap:=s.heap.push {cls:=.type "range",data:=.fields #[.int lo t,.int hi u,.int 1 v]},toks:=tk}:=I.kept fun b o e=>Q0e _ e
 refine⟨(s.heap.push {cls:=.type "range",data:=.fields #[.int lo t,.int hi u,.int 1 v]}).objs.size,[(s.heap.push {cls:=.type "range",data:=.fields #[.int lo t,.int hi u,.int 1 v]}).objs.size],_,_,H,rfl,
  I1.kept (t':=tk) fun b o e=>Q0e _ e,q8q _ lo (hi-lo).toNat,?_,fun b hb=>?_,q⟩
 ·have e1:lo+((0:Nat):Int)*1=lo:=by simp
  have e2:(((hi-lo).toNat:Nat):Int)-((0:Nat):Int)=Q1g.Range.rangeSize lo hi 1:=by rw[rangeSize_one];split<;>omega
  show IsRangeIter _ _ (lo+((0:Nat):Int)*1) ((((hi-lo).toNat:Nat):Int)-((0:Nat):Int)) 1
  rw[e1,e2]
  exact Q0z.get?_push_size _ rfl
 ·have e:b=(s.heap.push {cls:=.type "range",data:=.fields #[.int lo t,.int hi u,.int 1 v]}).objs.size:=by simpa using hb
  subst e
  exact I1.fpOk (Q0m _) (I1.hok.fresh (Q0m _))
def y3y(ta:TA):TI:=fun σ H R=>ta σ H fun vs H1=>∃j:Int,vs=[.int j]/\-(2 ^ 62)<=j/\j<2 ^ 62/\R (Itr 0 j.toNat) H1
theorem z1e{a:Expr}{ta:TA}{p pos:Pos}(hg:Gl X "range")(hm:X.mg "range" = none)(ha:PA X [a] ta)(hs:Q0t [a] X.env=[(false,eval a X.env)]:=by rfl):PI X tg (.Call (.Name "range" p) [a] [] pos) (y3y ta):=by
 intro pins s σ H R I h
 refine Call_ (q8b I hg hm boot_range (Q5h (thn (ha pos pins s σ H _ I h) fun us s1 ⟨vs,H1,I1,r1,q1⟩=>?_) hs rfl))
 obtain⟨j,e,q1,q2,q⟩:=q1
 subst e
 cases r1 with
 |cons r rr=>
  cases rr
  obtain⟨t,rfl⟩:=r
  exact call_range_1 (z4l I1 (by omega) (by omega) q1 q2 (by simpa using q))
def tFor(wi:TI)(g:TG)(tb:TS):TS:=fun D σ H=>wi σ H fun J H1=>∃W:Nat->Nat->St->Hp->Prop,(∃m,W 0 m σ H1)/\∀i m σ H,W i m σ H->
 (J.stop i H/\D.nx σ H)\/(J.go i H/\∃N:St->Hp->Prop,(∀σ' H',N σ' H'->∃m',m'<m/\W (i+1) m' σ' H')/\∀x H',J.yld i H x H'->g x σ H' fun σ2 H2=>tb {D with nx:=N,ct:=N,bk:=D.nx} σ2 H2)
def q3y(fp:List Q0i)(h:Q0z):List (Q0i×Obj):=fp.filterMap fun b=>(h.get? b).map fun o=>(b,o)
theorem q0w{fp:List Q0i}{h:Q0z}{b:Q0i}{o:Obj}(hb:b∈fp)(e:h.get? b=some o):(b,o)∈q3y fp h:=Q8k.mpr ⟨b,hb,by rw[e];rfl⟩
theorem q5h{fp:List Q0i}{h:Q0z}{p:Q0i×Obj}(hp:p∈q3y fp h):p.1∈fp/\h.get? p.1=some p.2:=by
 obtain⟨b,hb,e⟩:=Q8k.mp hp
 cases q:h.get? b with
 |none=>rw[q]at e;cases e
 |some o=>
  rw[q]at e
  have e':(b,o)=p:=Q1p e
  subst e'
  exact⟨hb,q⟩
theorem Inv.pinned{pins:List (Q0i×Obj)}{σ:St}{H:Hp}{s:Q0b}{fp:List Q0i}(I:Inv X pins σ H s)(hf:∀b∈fp,FpOk X pins H b)(ho:∀b∈fp,∃o,s.heap.get? b=some o/\∀v,o.data≠.cell v):Inv X (pins++q3y fp s.heap) σ H s:=
 I.pins_of fun p hp=>(Q3p.mp hp).elim (fun z=>I.pin p (Q0u _ z)) fun z=>by
  obtain⟨hb,e⟩:=q5h z
  obtain⟨f0,f1,f2,_⟩:=hf p.1 hb
  obtain⟨o,e',d⟩:=ho p.1 hb
  rw[e]at e';cases e'
  exact⟨e,f0,f1,f2,d⟩
theorem Inv.unpinned{pins pl:List (Q0i×Obj)}{σ:St}{H:Hp}{s:Q0b}(I:Inv X (pins++pl) σ H s):Inv X pins σ H s:=I.pins_of fun p hp=>I.pin p (Q0u _ (Q7v _ hp))
theorem y0o{iter:Expr}{body:List Q3t}{wi:TI}{g:TG}{tb:TS}{pos:Pos}(hp:PassesOwn (model X.prog X.w) X.A X.env X.xe)(hc:X.calm=true)(hi:PI X tg iter wi)(hg:PG X tg g)(hb:PSs X body tb)
  (hs:∀x,foldedSetIterable iter X.env x=pure x:=by intro _;rfl):PS X (.For tg iter body [] pos) (tFor wi g tb):=by
 intro pins s σ H D I h
 refine wpAny_For (thn (hi pins s σ H _ I h) fun v s1 h1=>thn h1 fun itv s2 h2=>?_) hs
 obtain⟨it,fp,tn,J,H2,e,I2,T,st2,f2,W,⟨m0,w0⟩,turn⟩:=h2
 subst e
 have stat:∀{H':Hp},(∀b∈fp,H' b=none)->∀b∈fp,FpOk X pins H' b:=fun hn b hb=>⟨hn b hb,(f2 b hb).2⟩
 refine codeAny_forLoop_any (fun n s'=>∃i σ' H',Inv X pins σ' H' s'/\tn i s'.heap/\(∀b∈fp,H' b=none)/\W i n σ' H') ?_ m0 ⟨0,σ,H2,I2,st2,fun b hb=>(f2 b hb).1,w0⟩
 rintro n s3 ⟨i,σ3,H3,I3,st3,fr3,w3⟩
 rcases turn i n σ3 H3 w3 with⟨stop,qn⟩|⟨go,N,hN,step⟩
 ·refine Q4f hp (thn (T.done X rfl rfl rfl hc i pins s3 σ3 H3 X.xe I3 (stat fr3) st3 stop) fun r s4 hh1=>?_)
  obtain⟨hr,I4⟩:=hh1
  subst hr
  exact Q4e ⟨σ3,H3,I4,qn⟩
 ·refine Q4f hp (thn (T.item X rfl rfl rfl hc i pins s3 σ3 H3 X.xe I3 (stat fr3) st3 go) fun r s4 hh2=>?_)
  obtain⟨u,hr,h4⟩:=hh2
  subst hr
  refine Q4f hp (thn h4 fun _ s5 hh3=>?_)
  obtain⟨x,H5,I5,r5,y5,st5,fr5⟩:=hh3
  have I5':=I5.pinned (stat fr5) (T.obj _ _ st5)
  refine Q4f hp (thn (hg _ s5 σ3 H5 x u _ I5' r5 (step x H5 y5)) fun _ s6 hh4=>?_)
  obtain⟨σ6,H6,I6,q6⟩:=hh4
  refine Q4f hp (thn (hb _ s6 σ6 H6 _ I6 q6) fun f s7 q7=>?_)
  have again:∀{σ7:St}{H7:Hp},Inv X (pins++q3y fp s5.heap) σ7 H7 s7->N σ7 H7->∃m,m<n/\∃i σ' H',Inv X pins σ' H' s7/\tn i s7.heap/\(∀b∈fp,H' b=none)/\W i m σ' H':=fun {σ7 H7} I7 n7=>by
   obtain⟨m',hm,w7⟩:=hN σ7 H7 n7
   refine⟨m',hm,i+1,σ7,H7,I7.unpinned,T.keep _ _ _ st5 fun b hb o e=>(I7.pin (b,o) (Q0u _ (Q0u _ (q0w hb e)))).1,fun b hb=>?_,w7⟩
   obtain⟨o,e,d⟩:=T.obj _ _ st5 b hb
   exact(I7.pin (b,o) (Q0u _ (Q0u _ (q0w hb e)))).2.1
  cases f with
  |next=>obtain⟨σ7,H7,I7,n7⟩:=q7;exact again I7 n7
  |cont=>obtain⟨σ7,H7,I7,n7⟩:=q7;exact again I7 n7
  |brk=>obtain⟨σ7,H7,I7,q7⟩:=q7;exact⟨σ7,H7,I7.unpinned,q7⟩
  |ret v=>obtain⟨x7,σ7,H7,I7,r7,q7⟩:=q7;exact⟨x7,σ7,H7,I7.unpinned,r7,q7⟩
end
abbrev R2:=V->V->Hp->VK->Prop
def OpR(X:Cx)(f:Q0a->Q0a->Sem Q0a)(r:R2):Prop:=
 ∀(pins:List (Q0i×Obj))(s:Q0b)(σ:St)(H:Hp)(x y:V)(v u:Q0a)(Q:VK),Inv X pins σ H s->RelV x v->RelV y u->r x y H Q->
  Q0y (model X.prog X.w) X.A (f v u) (EP X pins σ Q) X.xe s
def UnR(X:Cx)(f:Q0a->Sem Q0a)(r:V->Hp->VK->Prop):Prop:=
 ∀(pins:List (Q0i×Obj))(s:Q0b)(σ:St)(H:Hp)(x:V)(v:Q0a)(Q:VK),Inv X pins σ H s->RelV x v->r x H Q->
  Q0y (model X.prog X.w) X.A (f v) (EP X pins σ Q) X.xe s
def q1p(X:Cx)(f:Q0a)(r:List V->Hp->VK->Prop):Prop:=
 ∀(pins:List (Q0i×Obj))(s:Q0b)(σ:St)(H:Hp)(xs:List V)(us:List Q0a)(Q:VK),Inv X pins σ H s->Vals xs us->r xs H Q->
  Q0y (model X.prog X.w) X.A (call f us) (EP X pins σ Q) X.xe s
def TruR(X:Cx)(r:V->Hp->(Bool->Hp->Prop)->Prop):Prop:=
 ∀(pins:List (Q0i×Obj))(s:Q0b)(σ:St)(H:Hp)(x:V)(v:Q0a)(Q:Bool->Hp->Prop),Inv X pins σ H s->RelV x v->r x H Q->
  Q0y (model X.prog X.w) X.A (truthy v) (TP X pins σ Q) X.xe s
def tOp(r:R2)(ta tb:TE):TE:=fun σ H Q=>ta σ H fun x H1=>tb σ H1 fun y H2=>r x y H2 Q
def tUn(r:V->Hp->VK->Prop)(ta:TE):TE:=fun σ H Q=>ta σ H fun x H1=>r x H1 Q
def rI(C:Int->Int->Prop)(g:Int->Int->V):R2:=fun x y H Q=>∃i j,x=.int i/\y=.int j/\C i j/\Q (g i j) H
def rI0(g:Int->Int->V):R2:=fun x y H Q=>∃i j,x=.int i/\y=.int j/\Q (g i j) H
def rU(g:Int->V):V->Hp->VK->Prop:=fun x H Q=>∃i,x=.int i/\Q (g i) H
section
variable{X:Cx}{a b c:Expr}{ta tb tc:TE}{pos:Pos}
theorem binT(ha:PE X a ta)(hb:PE X b tb){pins:List (Q0i×Obj)}{s:Q0b}{σ:St}{H:Hp}{R:V->V->Hp->Prop}(I:Inv X pins σ H s)
  (h:ta σ H fun x H1=>tb σ H1 fun y H2=>R x y H2) {Q:Q0a->Q0b->Prop} {f:Q0a->Q0a->Sem Q0a}
  (hf:∀v u s2 x y H2,Inv X pins σ H2 s2->RelV x v->RelV y u->R x y H2->Q0y (model X.prog X.w) X.A (f v u) Q X.xe s2) :
  Q0y (model X.prog X.w) X.A (eval a X.env) (fun v s₁=>Q0y (model X.prog X.w) X.A (eval b X.env) (fun u s₂=>Q0y (model X.prog X.w) X.A (f v u) Q X.xe s₂) X.xe s₁) X.xe s:=by
 refine thn (ha pins s σ H _ I h) fun v s1 hh1=>?_
 obtain⟨x,H1,I1,r1,q1⟩:=hh1
 refine thn (hb pins s1 σ H1 _ I1 q1) fun u s2 hh2=>?_
 obtain⟨y,H2,I2,r2,q2⟩:=hh2
 exact hf v u s2 x y H2 I2 r1 r2 q2
theorem y3l{op:Operator}{r:R2}(ho:OpR X (binaryOp op) r)(ha:PE X a ta)(hb:PE X b tb):PE X (.BinOp a op b pos) (tOp r ta tb):=by
 intro pins s σ H Q I h
 exact wpAny_BinOp (binT ha hb I h fun v u s2 x y H2 I2 rx ry q=>ho pins s2 σ H2 x y v u Q I2 rx ry q)
theorem y3k{op:UnaryOp}{r:V->Hp->VK->Prop}(ho:UnR X (unaryOp op) r)(ha:PE X a ta):PE X (.UnaryOp op a pos) (tUn r ta):=by
 intro pins s σ H Q I h
 exact UnaryOp_ (thn (ha pins s σ H _ I h) fun v s1 hh1=>by obtain⟨x,H1,I1,r1,q1⟩:=hh1;exact(ho pins s1 σ H1 x v Q I1 r1 q1))
theorem opI{f:Q0a->Q0a->Sem Q0a}{C:Int->Int->Prop}{g:Int->Int->Int}
  (rule:∀(i j:Int)(t u:Tok)(s:Q0b)(Q:Q0a->Q0b->Prop)(E:Q0a->Q0b->Prop),C i j->Q (.int (g i j) s.toks) {s with toks:=s.toks+1}->Q0y (model X.prog X.w) X.A (f (.int i t) (.int j u)) Q E s) :
  OpR X f (rI C fun i j=>.int (g i j)):=by
 intro pins s σ H x y v u Q I rx ry h
 obtain⟨i,j,rfl,rfl,hc,q⟩:=h
 obtain⟨t,rfl⟩:=rx
 obtain⟨t',rfl⟩:=ry
 exact rule i j t t' s _ _ hc ⟨.int (g i j),H,I.tok _,⟨_,rfl⟩,q⟩
theorem opI0{f:Q0a->Q0a->Sem Q0a}{g:Int->Int->Int}
  (rule:∀(i j:Int)(t u:Tok)(s:Q0b)(Q:Q0a->Q0b->Prop)(E:Q0a->Q0b->Prop),Q (.int (g i j) s.toks) {s with toks:=s.toks+1}->Q0y (model X.prog X.w) X.A (f (.int i t) (.int j u)) Q E s) :
  OpR X f (rI0 fun i j=>.int (g i j)):=by
 intro pins s σ H x y v u Q I rx ry h
 obtain⟨i,j,rfl,rfl,q⟩:=h
 obtain⟨t,rfl⟩:=rx
 obtain⟨t',rfl⟩:=ry
 exact rule i j t t' s _ _ ⟨.int (g i j),H,I.tok _,⟨_,rfl⟩,q⟩
theorem opB0{f:Q0a->Q0a->Sem Q0a}{g:Int->Int->Bool}
  (rule:∀(i j:Int)(t u:Tok)(s:Q0b)(Q:Q0a->Q0b->Prop)(E:Q0a->Q0b->Prop),Q (.bool (g i j)) s->Q0y (model X.prog X.w) X.A (f (.int i t) (.int j u)) Q E s) :
  OpR X f (rI0 fun i j=>.bl (g i j)):=by
 intro pins s σ H x y v u Q I rx ry h
 obtain⟨i,j,rfl,rfl,q⟩:=h
 obtain⟨t,rfl⟩:=rx
 obtain⟨t',rfl⟩:=ry
 exact rule i j t t' s _ _ ⟨.bl (g i j),H,I,rfl,q⟩
def CMul(i j:Int):Prop:=(-(2 ^ 64)<i/\i<2 ^ 64)\/(-(2 ^ 64)<j/\j<2 ^ 64)
theorem CMul.ok{i j:Int}(h:CMul i j):IntMulOk i j:=by
 rcases h with⟨h1,h2⟩|⟨h1,h2⟩
 ·exact .of_left (intBits_le_64 h1 h2)
 ·exact .of_right (intBits_le_64 h1 h2)
theorem y1o:OpR X (binaryOp .Add) (rI0 fun i j=>.int (i+j)):=opI0 fun _ _ _ _ _ _ _ q=>add_int q
theorem y1l:OpR X (binaryOp .Mult) (rI CMul fun i j=>.int (i*j)):=opI fun _ _ _ _ _ _ _ hc q=>mul_int q hc.ok
theorem y1m:OpR X (binaryOp .Mod) (rI (fun _ j=>0<j) fun i j=>.int (i % j)):=opI fun i j _ _ _ _ _ hc q=>by
 have h1:(0:Int)<j:=hc
 exact mod_int' (by omega) (by rw[Int.fmod_eq_emod_of_nonneg i (by omega)];exact q)
theorem unI{f:Q0a->Sem Q0a}{g:Int->Int}
  (rule:∀(i:Int)(t:Tok)(s:Q0b)(Q:Q0a->Q0b->Prop)(E:Q0a->Q0b->Prop),Q (.int (g i) s.toks) {s with toks:=s.toks+1}->Q0y (model X.prog X.w) X.A (f (.int i t)) Q E s) :
  UnR X f (rU fun i=>.int (g i)):=by
 intro pins s σ H x v Q I rx h
 obtain⟨i,rfl,q⟩:=h
 obtain⟨t,rfl⟩:=rx
 exact rule i t s _ _ ⟨.int (g i),H,I.tok _,⟨_,rfl⟩,q⟩
theorem z9u:UnR X (unaryOp .USub) (rU fun i=>.int (-i)):=unI fun _ _ _ _ _ q=>neg_int q
end
section
variable{X:Cx}{a b c:Expr}{ta tb tc:TE}{pos:Pos}
theorem y3q:OpR X (compareOp .Lt) (rI0 fun i j=>.bl (decide (i<j))):=opB0 fun _ _ _ _ _ _ _ q=>lt_int q
theorem y3r:OpR X (compareOp .Gt) (rI0 fun i j=>.bl (decide (j<i))):=opB0 fun _ _ _ _ _ _ _ q=>gt_int q
theorem q5i(b:Expr){op:Z0u}(h:op≠.In:=by decide)(h2:op≠.NotIn:=by decide):behindInMarks op b=false:=by
 have e1:(op==Z0u.In)=false:=by cases op<;>first|rfl|exact absurd rfl h
 have e2:(op==Z0u.NotIn)=false:=by cases op<;>first|rfl|exact absurd rfl h2
 cases b<;>simp[behindInMarks,e1,e2]
theorem z7x{op:Z0u}{r:R2}(ho:OpR X (compareOp op) r)(ha:PE X a ta)(hb:PE X b tb)(hm:behindInMarks op b=false):PE X (.Compare a [op] [b] pos) (tOp r ta tb):=by
 intro pins s σ H Q I h
 exact wpAny_Compare1 (binT ha hb I h fun v u s2 x y H2 I2 rx ry q=>ho pins s2 σ H2 x y v u Q I2 rx ry q) hm
def z9y(t:TE):TT:=fun σ H Q=>t σ H fun x H'=>∃k,x=.bl k/\Q k H'
theorem z7p{op:Z0u}{r:R2}(ho:OpR X (compareOp op) r)(ha:PE X a ta)(hb:PE X b tb)(hm:behindInMarks op b=false):PT X (.Compare a [op] [b] pos) (z9y (tOp r ta tb)):=by
 intro pins s σ H Q I h
 refine wpAny_isTrue_Compare1 (thn (ha pins s σ H _ I h) fun v s1 ⟨x,H1,I1,r1,q1⟩=>thn (hb pins s1 σ H1 _ I1 q1) fun u s2 ⟨y,H2,I2,r2,q2⟩=>
  thn (ho pins s2 σ H2 x y v u _ I2 r1 r2 q2) fun c s3 ⟨z,H3,I3,r3,k,e,q3⟩=>?_) hm
 subst e
 cases r3
 exact Q4t ⟨H3,I3,q3⟩
def TruV(K:Q1n)(x:V)(H:Hp)(k:Bool):Prop:=
 match x with
 |.non=>k=false
 |.bl b=>k=b
 |.int i=>k=(i != 0)
 |.str y=>y.length<=Q0k/\k=((y.length:Int) != 0)
 |.byt y=>y.size<=Q0k/\k=((y.size:Int) != 0)
 |.ref p=>(∃xs,SqL K H p xs/\k=!xs.isEmpty)\/(∃xs,SqT K H p xs/\k=!xs.isEmpty)\/∃kvs,H p=some (.dK kvs)/\k=!kvs.isEmpty
 |_=>False
theorem q9q{κ:Type}{kvs:List (κ×V)}{vs:List (κ×Q0a)}(r:KV kvs vs):(!vs.isEmpty)=!kvs.isEmpty:=by
 cases r<;>rfl
theorem q4f{xs:List V}{its:List Q0a}(r:Vals xs its):(!its.toArray.isEmpty)=!xs.isEmpty:=by
 cases r<;>simp
theorem q3f:(Q0k:Nat)<2 ^ 63:=by rw[Q2n];decide
theorem z9x:TruR X (fun x H Q=>∃k,TruV X.K x H k/\Q k H):=by
 intro pins s σ H x v Q I rx h
 obtain⟨k,e,q⟩:=h
 have hl:=q3f
 have hs:Q0k=16777216:=Q2n
 cases x with
 |non=>
  cases rx
  have e':k=false:=e
  subst e'
  exact truthy_none ⟨H,I,q⟩
 |bl b=>
  cases rx
  have e':k=b:=e
  subst e'
  exact Q4t ⟨H,I,q⟩
 |int i=>
  obtain⟨t,rfl⟩:=rx
  have e':k=(i != 0):=e
  subst e'
  exact PySem.P.truthy_int ⟨H,I,q⟩
 |str y=>
  obtain⟨t,rfl⟩:=rx
  obtain⟨hy,e'⟩:y.length<=Q0k/\k=((y.length:Int) != 0):=e
  subst e'
  exact PySem.P.truthy_str (by omega) ⟨H,I.tok _,q⟩
 |byt y=>
  obtain⟨t,rfl⟩:=rx
  obtain⟨hy,e'⟩:y.size<=Q0k/\k=((y.size:Int) != 0):=e
  subst e'
  exact PySem.W.truthy_bytes (by omega) ⟨H,I.tok _,q⟩
 |ref p=>
  cases rx
  have e':(∃xs,SqL X.K H p xs/\k=!xs.isEmpty)\/(∃xs,SqT X.K H p xs/\k=!xs.isEmpty)\/∃kvs,H p=some (.dK kvs)/\k=!kvs.isEmpty:=e
  rcases e' with⟨xs,hx,e'⟩|⟨xs,hx,e'⟩|⟨kvs,hx,e'⟩
  ·subst e'
   obtain⟨its,r,pl,hz⟩:=I.list hx
   have hlen:=r.length
   exact wpAny_truthy_list pl.isList (by simp only[Q0f];omega) ⟨H,I.tok _,by rw[q4f r];exact q⟩
  ·subst e'
   obtain⟨its,r,pl,hz⟩:=I.tuple hx
   have hlen:=r.length
   exact truthy_tuple pl (by simp only[Q0f];omega) ⟨H,I.tok _,by rw[q4f r];exact q⟩
  ·subst e'
   obtain⟨hz,hS,vs,r,m⟩:kvs.length<=Q0k/\(p==sysModules)=false/\∃vs,KV kvs vs/\s.heap.DictOf (q0h X.prog X.w) p vs:=I.hok p _ hx
   have hlen:kvs.length=vs.length:=Q3r.length r
   exact wpAny_truthy_dict hS m (by omega) ⟨H,I.tok _,by rw[q9q r];exact q⟩
 |_=>exact(show False from e).elim
theorem z4m(ha:PE X a ta)(he:∀whole,isTrue a X.env whole=(do let v <-whole;standAt a.pos;holding [v] (truthy v))) :
  PT X a (fun σ H Q=>ta σ H fun x H'=>∃k,TruV X.K x H' k/\Q k H'):=by
 intro pins s σ H Q I h
 exact isTrue_plain (thn (ha pins s σ H _ I h) fun v s1 hh1=>by obtain⟨x,H1,I1,r1,q1⟩:=hh1;exact(z9x pins s1 σ H1 x v Q I1 r1 q1)) (he _)
theorem q9a:OpR X (binaryOp .Add) (fun x y H Q=>∃i j,x=.str i/\y=.str j/\i.length+j.length<=Q0k/\Q (.str (i++j)) H):=by
 intro pins s σ H x y v u Q I rx ry h
 obtain⟨i,j,rfl,rfl,hz,q⟩:=h
 obtain⟨t,rfl⟩:=rx
 obtain⟨t',rfl⟩:=ry
 exact add_str (fun t' tk=>⟨.str (i++j),H,I.tok _,⟨_,rfl⟩,q⟩) hz
theorem q4z{x:V}{us:List Q0a}(r:Vals [x] us):∃u,us=[u]/\RelV x u:=by
 cases r with
 |cons r1 r2=>cases r2;exact⟨_,rfl,r1⟩
theorem q8o{x y:V}{us:List Q0a}(r:Vals [x,y] us):∃u w',us=[u,w']/\RelV x u/\RelV y w':=by
 cases r with
 |cons r1 r2=>
  cases r2 with
  |cons r3 r4=>cases r4;exact⟨_,_,rfl,r1,r3⟩
theorem q6f:q1p X (.type "int") (fun xs H Q=>(∃i,xs=[.int i]/\Q (.int i) H)\/∃k,xs=[.bl k]/\Q (.int (if k then 1 else 0)) H):=by
 intro pins s σ H xs us Q I r h
 rcases h with⟨i,rfl,q⟩|⟨k,rfl,q⟩
 ·obtain⟨u,rfl,t,rfl⟩:=q4z r
  exact call_int_int ⟨.int i,H,I,⟨_,rfl⟩,q⟩
 ·obtain⟨u,rfl,r1⟩:=q4z r
  cases r1
  exact call_int_bool ⟨.int (if k then 1 else 0),H,I.tok _,⟨_,rfl⟩,q⟩
end
structure ObjM(h:Q0z)(x dx C:Q0i)(mA:Str->Option Q0a):Prop where
 obj:h.get? x=some (Q6d C dx)
 ns:h.Ns1 dx mA
 ne:dx≠x
theorem q5j{h:Q0z}{dx:Q0i}{mA:Str->Option Q0a}(n:h.Ns1 dx mA):∃od,h.get? dx=some od/\∀name,Q6m name od=some (mA name):=by
 obtain⟨o,es,ep,ho,hd,hk,_,hm⟩:=n
 refine⟨o,ho,fun name=>?_⟩
 have e:=hm name
 unfold nsFind findBy at e
 rw[<-Q8f]at e
 unfold Q6m
 rw[hd]
 dsimp only
 split
 ·rename_i y q
  rw[q]at e
  exact congrArg some e
 ·rename_i q
  rw[q]at e
  have a:es.toList.any (·.refKey)=false:=by
   rw[List.any_eq_false]
   intro y hy
   obtain⟨z,t,hkey⟩:=hk y (Array.mem_toList_iff.mp hy)
   simp[Z0v.refKey,hkey]
  have a':¬es.toList.any (·.refKey)=true:=by rw[a];exact Q3o
  rw[if_neg a']
  exact congrArg some e
theorem ObjM.look{h:Q0z}{x dx C:Q0i}{mA:Str->Option Q0a}(I:ObjM h x dx C mA):∃od,PySem.W.InstAt h x (Q6d C dx) C (some od)/\∀name,Q6m name od=some (mA name):=
 let ⟨od,ho,hl⟩:=q5j I.ns
 ⟨od,⟨I.obj,rfl,rfl,ho⟩,hl⟩
section
variable{prog:Q0l}{w:Q1a}{A:Q0w}{E:Q0a->Q0b->Prop}{s:Q0b}{K:Q1n}{x dx C f:Q0i}{mA:Str->Option Q0a}{name:Str}{v:Q0a}
end
def putF (f : Str) (v : V) : List (Str × V) -> List (Str × V)
 | [] => [(f, v)]
 | (g, x) :: r => if g = f then (g, v) :: r else (g, x) :: putF f v r
theorem q3e (f g : Str) (v : V) : ∀ fs : List (Str × V), (putF f v fs).lookup g = if g = f then some v else fs.lookup g
 | [] => by
  show Q2k g [(f, v)] = _
  by_cases h : g = f
  ·have hb : (g == f) = true := beq_iff_eq.mpr h
   simp only [Q2k, hb, if_pos h]
  ·have hb : (g == f) = false := beq_eq_false_iff_ne.mpr h
   simp only [Q2k, hb, if_neg h]
 | (k, x) :: r => by
  have ih := q3e f g v r
  rw [show putF f v ((k, x) :: r) = (if k = f then (k, v) :: r else (k, x) :: putF f v r) from rfl]
  by_cases hk : k = f
  ·rw [if_pos hk]
   by_cases h : g = k
   ·have hb : (g == k) = true := beq_iff_eq.mpr h
    simp only [Q2k, hb, if_pos (h.trans hk)]
   ·have hb : (g == k) = false := beq_eq_false_iff_ne.mpr h
    simp only [Q2k, hb, if_neg (fun e : g = f => h (e.trans hk.symm))]
  ·rw [if_neg hk]
   by_cases h : g = k
   ·have hb : (g == k) = true := beq_iff_eq.mpr h
    simp only [Q2k, hb, if_neg (fun e : g = f => hk (h.symm.trans e))]
   ·have hb : (g == k) = false := beq_eq_false_iff_ne.mpr h
    simp only [Q2k, hb]
    exact ih
theorem q3i (f : Str) (v : V) : ∀ fs : List (Str × V), f ∈ (putF f v fs).map (·.1) /\ ∀ g, g ∈ fs.map (·.1) -> g ∈ (putF f v fs).map (·.1)
 | [] => ⟨by simp [putF], fun g h => by simp at h⟩
 | (k, x) :: r => by
  obtain ⟨i1, i2⟩ := q3i f v r
  rw [show putF f v ((k, x) :: r) = (if k = f then (k, v) :: r else (k, x) :: putF f v r) from rfl]
  by_cases hk : k = f
  ·rw [if_pos hk]
   subst hk
   exact ⟨by simp, fun g h => by simpa using h⟩
  ·rw [if_neg hk]
   refine ⟨?_, fun g h => ?_⟩
   ·rw [Q1c]
    exact Q1b _ i1
   ·rw [Q1c] at h ⊢
    rcases Q1h.mp h with e | e
    ·exact Q1h.mpr (.inl e)
    ·exact Q1b _ (i2 g e)
theorem RelO.some_of{v:V}{o:Option Q0a}(r:RelO (some v) o):∃u,o=some u/\RelV v u:=by
 cases o with
 |none=>exact(show False from r).elim
 |some u=>exact⟨u,rfl,r⟩
theorem z2o{v:V}{u:Q0a}(r:RelV v u):PySem.W.handedIn u=true:=by
 cases v with
 |non=>cases(show u=Q0a.none from r);rfl
 |bl b=>cases(show u=Q0a.bool b from r);rfl
 |int i=>obtain⟨t,e⟩:=(show ∃t,u=Q0a.int i t from r);cases e;rfl
 |str x=>obtain⟨t,e⟩:=(show ∃t,u=Q0a.str x t from r);cases e;rfl
 |byt b=>obtain⟨t,e⟩:=(show ∃t,u=Q0a.bytes b t from r);cases e;rfl
 |flt b=>obtain⟨t,e⟩:=(show ∃t,u=Q0a.float b t from r);cases e;rfl
 |ref a=>cases(show u=Q0a.ref a from r);rfl
 |ty n=>cases(show u=Q0a.type n from r);rfl
section
variable{P:Q0l}{w:Q1a}{H H':Hp}{h h':Q0z}{a C dx:Q0i}{fs fs':List (Str×V)}
theorem z9d(hok:HOk P w H h)(e:H a=some (.ins C dx fs)):∃mA,ObjM h a dx C mA/\(∀f,RelO (fs.lookup f) (mA f))/\Q7k mA (fs.map (·.1))/\fs.length<=1000/\H dx=some (.own a):=by
 obtain⟨d,z,ne,ob,mA,n,r,q⟩:=(show q0j P w H h a (.ins C dx fs)from hok a _ e)
 exact⟨mA,⟨ob,n,ne⟩,r,q,z,d⟩
end
structure Cls(K:Q1n)(C:Q0i):Prop where
 pg:Q8g K C Str.empty=true
 hd:Q5j K C=true
 po:PySem.W.plainOver K C=true
 sa:Q1j K (.ref C) "__setattr__" = some (some (.builtin "object.__setattr__"))
theorem Cls.get{K:Q1n}{C:Q0i}(c:Cls K C)(f:Str):Q8g K C f=true:=c.pg
section
variable{X:Cx}{pins:List (Q0i×Obj)}{σ:St}{H:Hp}{s:Q0b}{a C dx:Q0i}{fs:List (Str×V)}{f:Str}{v:V}{A:Q0w}{E:Q0a->Q0b->Prop}
theorem z9l{prog:Q0l}{w:Q1a}{env:Env}{e:Expr}{f:Str}{pos:Pos}{s:Q0b}{Q:Q0a->Q0b->Prop}(hb:attributeBase e f env (eval e env)=eval e env)
  (h:Q0y (model prog w) A (eval e env) (fun o s₁=>Q0y (model prog w) A (getAttr o f true) Q E s₁) E s):Q0y (model prog w) A (eval (.Attribute e f pos) env) Q E s:=
 Attribute_any_ h (by rw[arm_eval_Attribute,hb])
end
section
variable{X:Cx}{o e value:Expr}{f:Str}{pos pos' tpos:Pos}{ta tv:TE}
end
section
variable{X:Cx}{pins:List (Q0i×Obj)}{σ:St}{H:Hp}{s:Q0b}{A:Q0w}{E:Q0a->Q0b->Prop}{Q:Q0a->Q0b->Prop}{c:Q0a}{b:Bool}
inductive TyOf(K:Q1n)(H:Hp):V->Q0a->Prop where
 |non:TyOf K H .non (.type "NoneType")
 |bl (x:Bool):TyOf K H (.bl x) (.type "bool")
 |int (i:Int):TyOf K H (.int i) (.type "int")
 |str (x:Str):TyOf K H (.str x) (.type "str")
 |flt (x:UInt64):TyOf K H (.flt x) (.type "float")
 |lst {a:Q0i} {xs:List V} (e:H a=some (.lst xs)):TyOf K H (.ref a) (.type "list")
 |frz {a:Q0i} {o:Obj} {xs:List V} (e:H a=some (.frz o (.lst xs))):TyOf K H (.ref a) (.type "list")
 |tup {a:Q0i} {xs:List V} (e:H a=some (.tup xs)):TyOf K H (.ref a) (.type "tuple")
 |dK {a:Q0i} {kvs:List (Key×V)} (e:H a=some (.dK kvs)):TyOf K H (.ref a) (.type "dict")
 |dT {a:Q0i} {kvs:List (List Key×V)} (e:H a=some (.dT kvs)):TyOf K H (.ref a) (.type "dict")
 |ins {a C dx:Q0i} {fs:List (Str×V)} (e:H a=some (.ins C dx fs)) (cl:Cls K C) (ha:Q1j K (.ref C) "__class__" = some (some (.builtin "object.__class__")))
   (hn:Q5k K (.builtin "object.__class__") "__get__" = some (some (.builtin "getset_descriptor.__get__"))) (htk:Q8l K (.builtin "object.__class__")=some true)
   (hm:Q6u K C (.type "object")=some true):TyOf K H (.ref a) (.ref C)
theorem q5u{x:V}{u t:Q0a}(I:Inv X pins σ H s)(rx:RelV x u)(ty:TyOf X.K H x t)(e:Q2f X.K t c=some b)(h:∀tk,Q (.bool b) {s with toks:=tk}) :
  Q0y (model X.prog X.w) A (call (.builtin "isinstance") [u,c]) Q E s:=by
 cases ty with
 |non=>cases(show u=Q0a.none from rx);exact Q1f Q5l I.kIn Q1w e (fun z=>nomatch z) h
 |bl y=>cases(show u=Q0a.bool y from rx);exact Q1f Q5m I.kIn Q1w e (fun z=>nomatch z) h
 |int i=>obtain⟨t,q⟩:=(show ∃t,u=Q0a.int i t from rx);cases q;exact Q1f Q5v I.kIn Q1w e (fun z=>nomatch z) h
 |str y=>obtain⟨t,q⟩:=(show ∃t,u=Q0a.str y t from rx);cases q;exact Q1f Q5w I.kIn Q1w e (fun z=>nomatch z) h
 |flt y=>obtain⟨t,q⟩:=(show ∃t,u=Q0a.float y t from rx);cases q;exact Q1f PySem.W.kitx_float I.kIn Q1w e (fun z=>nomatch z) h
 |@lst a xs ea=>
  cases(show u=Q0a.ref a from rx)
  obtain⟨_,_,n,_,h1⟩:=(show q0j X.prog X.w H s.heap a (.lst xs)from I.hok a _ ea)
  exact Q1f Q3q I.kIn ⟨_,h1,rfl⟩ e (fun z=>nomatch z) h
 |@frz a ob xs ea=>
  cases(show u=Q0a.ref a from rx)
  obtain⟨_,_,_,n,_,h1⟩:=(show q0j X.prog X.w H s.heap a (.frz ob (.lst xs))from I.hok a _ ea)
  exact Q1f Q3q I.kIn ⟨_,h1,rfl⟩ e (fun z=>nomatch z) h
 |@tup a xs ea=>
  cases(show u=Q0a.ref a from rx)
  obtain⟨_,_,_,p⟩:=(show q0j X.prog X.w H s.heap a (.tup xs)from I.hok a _ ea)
  obtain⟨o,h1,h2,_⟩:=p
  exact Q1f Q5f I.kIn ⟨o,h1,h2⟩ e (fun z=>nomatch z) h
 |@dK a kvs ea=>
  cases(show u=Q0a.ref a from rx)
  obtain⟨_,_,vs,_,p⟩:=(show q0j X.prog X.w H s.heap a (.dK kvs)from I.hok a _ ea)
  obtain⟨o,es,ep,h1,h2,_⟩:=p
  exact Q1f Q5n I.kIn ⟨o,h1,h2.1⟩ e (fun z=>nomatch z) h
 |@dT a kvs ea=>
  cases(show u=Q0a.ref a from rx)
  obtain⟨_,_,xs,_,o,es,ep,h1,h2,_⟩:=(show q0j X.prog X.w H s.heap a (.dT kvs)from I.hok a _ ea)
  exact Q1f Q5n I.kIn ⟨o,h1,h2.1⟩ e (fun z=>nomatch z) h
 |@ins a C dx fs ea cl ha hn htk hm=>
  cases(show u=Q0a.ref a from rx)
  obtain⟨mA,O,_⟩:=z9d I.hok ea
  obtain⟨od,J,_⟩:=O.look
  exact Q1f (PySem.W.kitx_own (cl.get _) cl.hd ha hn htk hm) I.kIn J e (fun z=>nomatch z) h
end
structure Room(k:Nat)(A:Q0w):Prop where
 hd:A.handled=none
 dp:A.depth+3*k+5<recursionLimit
 un:A.units+16*k+200<cLine
theorem Room.mono{j k:Nat}{A:Q0w}(r:Room k A)(h:j<=k):Room j A:=⟨r.hd,by have:=r.dp;omega,by have:=r.un;omega⟩
theorem Room.deeper{k:Nat}{A:Q0w}(r:Room (k+1) A)(env:Env):Room k (A.deeper env):=
 ⟨r.hd,by have:=r.dp;show A.depth+1+3*k+5<_;omega,by have:=r.un;show A.units+3+16*k+200<_;omega⟩
structure RoomW(k:Nat)(A:Q0w):Prop extends Room k A where
 wd:A.units+16*k+210<cLine
theorem Room.deeperW{k:Nat}{A:Q0w}(r:Room (k+1) A)(env:Env):RoomW k (A.deeper env):=⟨r.deeper env,by have:=r.un;show A.units+3+16*k+210<_;omega⟩
theorem q9g{A:Q0w}{C:Q0i}{us:List Q0a}{kw:List (Str×Q0a)}:(A.under (.builtin "type.__call__" ⟨.ref C::us,kw⟩)).depth=A.depth+1:=by
 first|rfl|simp[Q0w.under,Code.weight,Code.isCreation,Code.isGuard,Code.isCaller,Z0n,Q7p,guardIds]
theorem q9f{A:Q0w}{C:Q0i}{us:List Q0a}{kw:List (Str×Q0a)}:(A.under (.builtin "type.__call__" ⟨.ref C::us,kw⟩)).units=A.units+1:=by
 first|rfl|simp[Q0w.under,Code.cUnits,Z0n,Q7p]
theorem Room.make{k:Nat}{A:Q0w}(r:Room (k+1) A)(C:Q0i)(us:List Q0a)(kw:List (Str×Q0a)):Room k (A.under (.builtin "type.__call__" ⟨.ref C::us,kw⟩)):=
 ⟨r.hd,by have:=r.dp;rw[q9g];omega,by have:=r.un;rw[q9f];omega⟩
theorem Room.depth{k:Nat}{A:Q0w}(r:Room k A):A.depth<recursionLimit:=by have:=r.dp;omega
def tNil:TA:=fun _ H Q=>Q [] H
def z6q(ta:TE)(tr:TA):TA:=fun σ H Q=>ta σ H fun x H1=>tr σ H1 fun xs H2=>Q (x::xs) H2
section
variable{X:Cx}{e:Expr}{es:List Expr}{te:TE}{t:TA}{pos:Pos}
theorem q7w:PA X [] tNil:=fun _ _ _ _ H Q I h=>Calls.spliced_nil ⟨[],H,I,.nil,h⟩
theorem q1u(ha:PE X e te)(hr:PA X es t)(hs:Q0t (e::es) X.env=(false,eval e X.env)::Q0t es X.env:=by rfl):PA X (e::es) (z6q te t):=by
 intro pos pins s σ H Q I h
 rw[hs]
 show Q0y _ _ (spliced ((false,eval e X.env)::backTo pos (Q0t es X.env))) _ _ s
 refine Calls.spliced_cons (thn (ha pins s σ H _ I h) fun u s1 hh1=>?_)
 obtain⟨x,H1,I1,r1,q1⟩:=hh1
 exact thn (hr pos pins s1 σ H1 _ I1 q1) fun us s2 hh2=>by obtain⟨xs,H2,I2,r2,q2⟩:=hh2;exact(⟨x::xs,H2,I2,.cons r1 r2,q2⟩)
def tTup(t:TA):TE:=fun σ H Q=>t σ H fun xs H1=>xs.length<=Q0k/\∀p,H1 p=none->Q (.ref p) (upd H1 p (.tup xs))
def tLst(t:TA):TE:=fun σ H Q=>t σ H fun xs H1=>xs.length<=Q0k/\∀p,H1 p=none->Q (.ref p) (upd H1 p (.lst xs))
theorem y0w {x1} (h:PA X es t):PE X (.Tuple es x1 pos) (tTup t):=by
 intro pins s σ H Q I hq
 refine wpAny_Tuple_spliced (thn (h pos pins s σ H _ I hq) fun us s1 ⟨xs,H1,I1,r,z,q⟩=>⟨by rw[<-r.length];exact z,?_⟩)
 have hf:H1 s1.heap.objs.size=none:=I1.hok.fresh (Q0m _)
 refine⟨.ref s1.heap.objs.size,upd H1 s1.heap.objs.size (.tup xs),I1.laid (t':=s1.toks) (fun b u e=>Q0e _ e) (Q0m _) ?_,rfl,q _ hf⟩
 exact⟨z,us,r,⟨_,Q0z.get?_push_size _ rfl,rfl,_,rfl⟩⟩
theorem y1b(h:PA X es t):PE X (.List es pos) (tLst t):=by
 intro pins s σ H Q I hq
 refine wpAny_List_spliced (thn (h pos pins s σ H _ I hq) fun us s1 ⟨xs,H1,I1,r,z,q⟩=>⟨by rw[<-r.length];exact z,?_⟩)
 have hf:H1 s1.heap.objs.size=none:=I1.hok.fresh (Q0m _)
 refine⟨.ref s1.heap.objs.size,upd H1 s1.heap.objs.size (.lst xs),I1.laid (t':=s1.toks) (fun b u e=>Q0e _ e) (Q0m _) ?_,rfl,q _ hf⟩
 exact⟨z,us,0,r,Q0z.get?_push_size _ rfl⟩
end
abbrev Sp:=List V->Hp->VK->XK->Prop
abbrev CXT:=List Env->Hp->Q0b->XK->Q0a->Q0b->Prop
structure Env0(P:Q0l)(w:Q1a)(K:Q1n)(mg:Str->Option Q0a)(base:Q0z)(A:Q0w)(outer:List Env)(s:Q0b)(H:Hp):Prop where
 frames:A.frames=some outer
 mod:Mod K mg base
 bs:∀b o,base.get? b=some o->s.heap.get? b=some o/\H b=none
 bsz:base.objs.size<=s.heap.objs.size
 funs:s.heap.FunFrames base outer
 frf:∀b∈frs outer,H b=none
 hok:HOk P w H s.heap
 bare:Q4y s.gens
def CE(outer:List Env)(P:Q0l)(w:Q1a)(H:Hp)(s:Q0b)(Q:VK)(u:Q0a)(s':Q0b):Prop:=
 ∃v H',s'.os=s.os/\Q4y s'.gens/\Un (frs outer) [] H H' s.heap s'.heap/\HOk P w H' s'.heap/\RelV v u/\Q v H'
def CR(CX:CXT)(outer:List Env)(P:Q0l)(w:Q1a)(H:Hp)(s:Q0b)(Q:VK)(E:XK)(r:Q9v)(s':Q0b):Prop:=
 match r with
 |.ok (.ret u)=>CE outer P w H s Q u s'
 |.ok _=>False
 |.error e=>CX outer H s E e s'
structure FnOk(P:Q0l)(w:Q1a)(K:Q1n)(mg:Str->Option Q0a)(base:Q0z)(CX:CXT)(k:Nat)(f:Q0i)(fd:Q1u)(ps:List Str)(sp:Sp):Prop where
 len:∀vs H Q E,sp vs H Q E->vs.length=ps.length
 run:∀(A:Q0w)(outer:List Env)(s:Q0b)(H:Hp)(args:Args)(us:List Q0a)(vs:List V)(Q:VK)(E:XK),Room k A->Env0 P w K mg base A outer s H->Q8m s fd args (ps.zip us)->Vals vs us->sp vs H Q E->
  codeAny (model P w) A (.call (.ref f) args) (CR CX outer P w H s Q E) s
theorem Env0.make{P:Q0l}{w:Q1a}{K:Q1n}{mg:Str->Option Q0a}{base:Q0z}{A:Q0w}{outer:List Env}{s:Q0b}{H:Hp}(e:Env0 P w K mg base A outer s H)(C:Q0i)(us:List Q0a)(kw:List (Str×Q0a)) :
  Env0 P w K mg base (A.under (.builtin "type.__call__" ⟨.ref C::us,kw⟩)) outer s H:=⟨by first|exact e.frames|(simpa[Q0w.under,Code.envs,Q7p,pushEnvs]using e.frames),e.mod,e.bs,e.bsz,e.funs,e.frf,e.hok,e.bare⟩
section
variable{X:Cx}{pins:List (Q0i×Obj)}{σ:St}{H:Hp}{s s':Q0b}
theorem Inv.env0(I:Inv X pins σ H s):Env0 X.prog X.w X.K X.mg X.base X.A X.stack s H:=
 ⟨I.ok.frames,I.ok.mod,I.bs,Q1t I.ok.bsz I.sz,I.stack,I.stkFree,I.hok,I.bare⟩
theorem Inv.after{Q:VK}{u:Q0a}(I:Inv X pins σ H s)(h:CE X.stack X.prog X.w H s Q u s'):EP X pins σ Q u s':=by
 obtain⟨v,H',os,bare,un,hok,r,q⟩:=h
 obtain⟨hh,g,d,t,os'⟩:=s'
 obtain rfl:os'=s.os:=os
 exact⟨v,H',I.call (h':=hh) (g':=g) (d':=d) (t':=t) (ch:=[]) un hok bare (fun b z=>absurd z (by simp)),r,q⟩
end
def y3f(sp:Sp)(dvs:List V)(E:XK)(t:TA):TE:=fun σ H Q=>t σ H fun vs H1=>sp (vs++dvs) H1 Q E
def q2l(K:Q1n)(fd:Q1u)(ps:List Str)(ds:List Q0a):Prop:=
 ∀(s:Q0b)(us:List Q0a),K.In s.heap->(us++ds).length=ps.length->Q8m s fd ⟨us,[]⟩ (ps.zip (us++ds))
theorem q2l.all{K:Q1n}{fd:Q1u}{ps:List Str}(h:∀us:List Q0a,us.length=ps.length->bindArgs fd ⟨us,[]⟩=pure (ps.zip us)):q2l K fd ps []:=fun s us _ hl=>by
 rw[Q2c]at hl ⊢
 exact .of_eq (h us hl)
def q1m(CX:CXT)(X:Cx)(E:XK):Prop:=∀(pins:List (Q0i×Obj))(σ:St)(H:Hp)(s:Q0b)(e:Q0a)(s':Q0b),Inv X pins σ H s->CX X.stack H s E e s'->X.xe e s'
section
variable{X:Cx}{CX:CXT}{k:Nat}{f C:Q0i}{fd:Q1u}{ps:List Str}{sp:Sp}{dvs:List V}{ds:List Q0a}{E:XK}{x m:Str}{p pos apos:Pos}{e o:Expr}{es:List Expr}{ta:TE}{t:TA}
theorem y0g{pins:List (Q0i×Obj)}{σ:St}{H:Hp}{s:Q0b}{Q:VK}{us:List Q0a}{vs:List V}(F:FnOk X.prog X.w X.K X.mg X.base CX k f fd ps sp)(hr:Room k X.A)(hb:q2l X.K fd ps ds)(hd:Vals dvs ds)(hx:q1m CX X E)
  (I:Inv X pins σ H s) (r:Vals vs us) (h:sp (vs++dvs) H Q E):Q0y (model X.prog X.w) X.A (call (.ref f) us) (EP X pins σ Q) X.xe s:=by
 have r2:Vals (vs++dvs) (us++ds):=r.append hd
 have hl:(us++ds).length=ps.length:=by rw[<-r2.length];exact F.len _ _ _ _ h
 refine Q3w (Q5o (F.run X.A X.stack s H ⟨us,[]⟩ (us++ds) (vs++dvs) Q E hr I.env0 (hb s us I.kIn hl) r2 h) fun r s' hq=>?_)
 cases r with
 |error e=>exact hx pins σ H s e s' I hq
 |ok fl=>
  cases fl with
  |ret u=>exact I.after hq
  |next=>exact Q2g hq
  |brk=>exact Q2g hq
  |cont=>exact Q2g hq
theorem z7y(F:FnOk X.prog X.w X.K X.mg X.base CX k f fd ps sp)(hr:Room k X.A)(hg:Gl X x)(hm:X.mg x=some (.ref f))(hk:Q3c X.K (.ref f)=true)(hb:q2l X.K fd ps ds)(hd:Vals dvs ds)(hx:q1m CX X E)
  (ha:PA X (e::es) t) (hdb:(x==("__debug__" : Str))=false:=by decide) (he:Q0t (e::es) X.env=(false,eval e X.env)::Q0t es X.env:=by rfl) (hpl:(backTo pos (Q0t es X.env)).any (·.1)=false:=by rfl) :
  PE X (.Call (.Name x p) (e::es) [] pos) (y3f sp dvs E t):=by
 intro pins s σ H Q I h
 refine Q4k (q2d I hg hm ?_ hdb)
 refine Q7q (h₀:=X.base) I.ok.mod.kin hk (thn (ha pos pins s σ H _ I h) fun us s1 ⟨vs,H1,I1,r,q⟩=>⟨I1.kIn,?_⟩) he hpl
 exact y0g F hr hb hd hx I1 r q
end
section
variable{X:Cx}{CX:CXT}{k:Nat}{f C:Q0i}{fd:Q1u}{ps ks:List Str}{sp:Sp}{E:XK}{x m:Str}{p pos apos kpos:Pos}{e o:Expr}{es:List Expr}{kws:List Q8n}{te ta:TE}{t tk:TA}{nm:Option Str}
variable{g:List Q0a->List Q0a->List Q0a}{gV:List V->List V->List V}
end
structure FnScope(N P:List Str)(sc:Q3n):Prop where
 kind:sc.kind=.function
 co:sc.isCoroutine=false
 gen:sc.isGenerator=false
 nd:N.Nodup
 pre:N.take P.length=P
 par:∀x∈P,sc.names.lookup x=some .local\/sc.names.lookup x=some .cell
 nofree:∀y∈sc.names,y.2≠.free
theorem q6g {kindOf : Str -> Option Q3f} {x : Str} : ∀ {binds : List (Str × Q0a)} {m : Str -> Option Q0a}, (∀ v, (x, v) ∉ binds) -> bindL kindOf binds m x = m x
 | [], _, _ => rfl
 | (n, v) :: r, m, h => by
  unfold bindL
  rw [q6g fun w hw => h w (Q1b _ hw)]
  split
  ·have : x ≠ n := by rintro rfl; exact h v Q2p
   simp [this]
  ·rfl
theorem q6i {kindOf : Str -> Option Q3f} {x : Str} : ∀ {binds : List (Str × Q0a)} {m : Str -> Option Q0a}, (∀ v, (x, v) ∉ binds) -> bindC kindOf binds m x = m x
 | [], _, _ => rfl
 | (n, v) :: r, m, h => by
  unfold bindC
  rw [q6i fun w hw => h w (Q1b _ hw)]
  split
  ·rfl
  ·have : x ≠ n := by rintro rfl; exact h v Q2p
   simp [this]
theorem q6h{kindOf:Str->Option Q3f}{x:Str}{v:Q0a}:∀{P:List Str}{vs:List Q0a}{i:Nat}{m:Str->Option Q0a},P.Nodup->P[i]?=some x->vs[i]?=some v->kindOf x=some .local->
  bindL kindOf (P.zip vs) m x=some v
 |[],_,_,_,_,h,_,_=>by simp at h
 |_::_,[],_,_,_,_,h,_=>by simp at h
 |p::P,w::vs,0,m,nd,h1,h2,hk=>by
  simp at h1 h2;subst h1;subst h2
  show bindL kindOf ((p,w)::P.zip vs) m p=_
  unfold bindL
  rw[q6g fun v hv=>(Q4w.mp nd).1 (Q6s hv).1,if_pos hk]
  simp
 |p::P,w::vs,i+1,m,nd,h1,h2,hk=>by
  show bindL kindOf ((p,w)::P.zip vs) m x=_
  unfold bindL
  exact q6h (i:=i) (Q4w.mp nd).2 (by simpa using h1) (by simpa using h2) hk
theorem q6j{kindOf:Str->Option Q3f}{x:Str}{v:Q0a}:∀{P:List Str}{vs:List Q0a}{i:Nat}{m:Str->Option Q0a},P.Nodup->P[i]?=some x->vs[i]?=some v->kindOf x≠some .local->
  bindC kindOf (P.zip vs) m x=some v
 |[],_,_,_,_,h,_,_=>by simp at h
 |_::_,[],_,_,_,_,h,_=>by simp at h
 |p::P,w::vs,0,m,nd,h1,h2,hk=>by
  simp at h1 h2;subst h1;subst h2
  show bindC kindOf ((p,w)::P.zip vs) m p=_
  unfold bindC
  rw[q6i fun v hv=>(Q4w.mp nd).1 (Q6s hv).1,if_neg hk]
  simp
 |p::P,w::vs,i+1,m,nd,h1,h2,hk=>by
  show bindC kindOf ((p,w)::P.zip vs) m x=_
  unfold bindC
  exact q6j (i:=i) (Q4w.mp nd).2 (by simpa using h1) (by simpa using h2) hk
def q2z(N:List Str)(vs:List V):St:=vs.map some++Q1d (N.length-vs.length) none
def cxOf(CX:CXT)(P:Q0l)(w:Q1a)(K:Q1n)(mg:Str->Option Q0a)(base:Q0z)(N:List Str)(qual:Str)(scope:Q3n)(f:Q0i)(cd:Q0a)(A:Q0w)(outer:List Env)(s:Q0b)(H:Hp)(E:XK):Cx where
 prog:=P
 w:=w
 K:=K
 mg:=mg
 base:=base
 A:=A.deeper (envOfC qual scope s.heap.objs.size f cd)
 N:=N
 s₀:=s
 H₀:=H
 env:=envOfC qual scope s.heap.objs.size f cd
 outer:=outer
 stack:=envOfC qual scope s.heap.objs.size f cd::outer
 ex:=[]
 calm:=true
 fn:=fun _=>true
 pn:=[]
 xe:=fun e s'=>Q0y (model P w) (A.deeper (envOfC qual scope s.heap.objs.size f cd)) (leaving (envOfC qual scope s.heap.objs.size f cd) e) (fun _ s''=>CX outer H s E e s'') (fun e' s''=>CX outer H s E e' s'') s'
theorem q8j{sc:Q3n}{n:Nat}{x:Str}(h:sc.names.lookup x=some .cell):∃c,(cellsFrom n sc.names []).lookup x=some c:=by
 have q:=Q6z sc.names n [] (.inl h)
 exact Q3g.mp q
theorem z2j{CX:CXT}{P:Q0l}{w:Q1a}{K:Q1n}{mg:Str->Option Q0a}{base:Q0z}{N ps:List Str}{qual:Str}{scope:Q3n}{f:Q0i}{cd:Q0a}{A:Q0w}{outer:List Env}{s s1:Q0b}{H:Hp}{E:XK}{us:List Q0a}{vs:List V}
  (S:FnScope N ps scope) (hd:A.handled=none) (e0:Env0 P w K mg base A outer s H) (hl:vs.length=ps.length) (r:Vals vs us)
  (x:InCallC s s.heap.objs.size (bindL (envOfC qual scope s.heap.objs.size f cd).kindOf (ps.zip us) fun _=>none) (cellsFrom (s.heap.objs.size+1) scope.names []) (bindC (envOfC qual scope s.heap.objs.size f cd).kindOf (ps.zip us) fun _=>none) s1) :
  Inv (cxOf CX P w K mg base N qual scope f cd A outer s H E) [] (q2z N vs) H s1:=by
 have hpl:ps.length<=N.length:=by have:=congrArg Q3x S.pre;rw[Q3h]at this;omega
 obtain⟨h1,tk,rfl,hk⟩:=x.done
 have noA:∀b:Q0i,b∉(cxOf CX P w K mg base N qual scope f cd A outer s H E).ex:=fun b z=>absurd (show b∈([]:List Q0i)from z) (by simp)
 refine⟨⟨e0.mod,S.kind,rfl,rfl,Q0m _,fun y z c h1 h2=>?_,fun y hy=>?_,fun y c _ h=>?_,fun _=>hd,Q0w.frames_deeper e0.frames,.inr ⟨rfl,rfl⟩,fun b z=>absurd z (noA b),e0.bs,e0.bsz,fun b _ _=>noA b,fun b z=>absurd z (noA b),e0.funs,e0.frf⟩,
  rfl,e0.bare,Un.kept hk,⟨_,x.toInCall.ns,fun i y v h1 h2 h3=>?_⟩,fun y c h=>⟨_,x.cell y c h⟩,e0.hok.fresh (Q0m _),fun y c h=>?_,fun p hp=>absurd (show p∈([]:List (Q0i×Obj))from hp) (by simp),e0.hok.kept hk,?_⟩
 ·exact name_of_addr x.apart (Q3i h1) (Q3i h2)
 ·have hy:scope.names.lookup y=some .cell\/scope.names.lookup y=some .free:=hy
  rcases hy with hy|hy
  ·exact q8j hy
  ·exact absurd rfl (S.nofree _ (Q3i hy))
 ·exact Q4z (x.above y c (Q3i h))
 ·have hi:i<vs.length:=by
   unfold q2z at h2
   by_cases hi:i<vs.length
   ·exact hi
   ·rw[Q1e (by simpa using hi)]at h2
    rw[Q7f]at h2
    split at h2<;>cases h2
  have ha:vs[i]?=some v:=by
   unfold q2z at h2
   rw[Q0x (by simpa using hi),Q2i]at h2
   cases e:vs[i]? with
   |none=>rw[e]at h2;cases h2
   |some a=>rw[e]at h2;cases h2;rfl
  obtain⟨u,hu,rv⟩:=r.get ha
  have hp:ps[i]?=some y:=by
   rw[<-S.pre,List.getElem?_take_of_lt (by omega)];exact h1
  have ndP:ps.Nodup:=by rw[<-S.pre];exact S.nd.sublist (List.take_sublist _ _)
  refine⟨u,rv,?_⟩
  rcases S.par y (Q5d hp)with k|k
  ·exact .inl ⟨k,q6h ndP hp hu k⟩
  ·obtain⟨c,e⟩:=q8j (n:=s.heap.objs.size+1) k
   refine .inr ⟨.inl k,c,e,?_⟩
   have q:=x.cell y c e
   rw[q6j ndP hp hu (by show scope.names.lookup y≠_;rw[k];decide)]at q
   exact q
 ·exact e0.hok.fresh (Q4z (x.above y c (Q3i h)))
 ·unfold q2z
  show _=N.length
  rw[Q0s,Q1s,List.length_replicate]
  omega
theorem y3z{CX:CXT}{P:Q0l}{w:Q1a}{K:Q1n}{mg:Str->Option Q0a}{base:Q0z}{k:Nat}{f:Q0i}{name qual:Str}{params:Arguments}{body:List Q3t}{scope:Q3n}{dV kV doc pm cdv ct oc:Q0a}{an od:Option Q0i}
  {osl:Array (Option Q0a)} {N ps:List Str} {sp:Sp} (lk:K.lookup f=some ⟨oc,od,.func (Q2q name qual params body scope dV kV doc pm an cdv ct),osl⟩) (hcd:Q3z K cdv qual=true) (S:FnScope N ps scope)
  (len:∀vs H Q E,sp vs H Q E->vs.length=ps.length)
  (hbody:∀(A:Q0w)(outer:List Env)(s:Q0b)(H:Hp)(vs:List V)(Q:VK)(E:XK),RoomW k (A.deeper (envOfC qual scope s.heap.objs.size f cdv))->sp vs H Q E->
   ∃t,PSs (cxOf CX P w K mg base N qual scope f cdv A outer s H E) body t/\t {nx:=fun _ H'=>Q .non H',rt:=Q} (q2z N vs) H) :
  FnOk P w K mg base CX (k+1) f (Q2q name qual params body scope dV kV doc pm an cdv ct) ps sp:=by
 refine⟨len,fun A outer s H args us vs Q E hr e0 hb r hsp=>?_⟩
 have hl:=len _ _ _ _ hsp
 have KX:K.In s.heap:=e0.mod.kin.keeps fun b o e=>(e0.bs b o e).1
 have lim:s.heap.NoLimit:=e0.mod.nolimit.keeps fun b o e=>(e0.bs b o e).1
 have hkind:∀y∈ps.zip us,scope.names.lookup y.1=some .local\/(scope.names.lookup y.1=some .cell/\((cellsFrom (s.heap.objs.size+1) scope.names []).lookup y.1).isSome=true):=fun hh1 hy=>by
  obtain⟨n,v⟩:=hh1
  rcases S.par n (Q6s hy).1 with q|q
  ·exact .inl q
  ·exact .inr ⟨q,Q6z _ _ _ (.inl q)⟩
 refine codeAny_call_function hr.depth (KX _ _ lk) rfl S.co S.gen rfl (PySem.W.codeRec_of KX hcd) (hb _ _ _ _ ?_)
 refine wpAny_newFunctionEnv_cells S.kind hkind fun env he s1 x=>?_
 subst he
 refine⟨lim.keeps x.toInCall.keep,codeAny_func ?_⟩
 obtain⟨t,ht,hq⟩:=hbody A outer s H vs Q E (hr.deeperW _) hsp
 have I:Inv (cxOf CX P w K mg base N qual scope f cdv A outer s H E) [] (q2z N vs) H s1:=z2j S hr.hd e0 hl r x
 refine Q1o (ht [] s1 (q2z N vs) H _ I hq) (fun fl s' hs=>?_) fun e s' hs=>hs
 have fin:∀{σ':St}{H':Hp}{v:V}{u:Q0a},Inv (cxOf CX P w K mg base N qual scope f cdv A outer s H E) [] σ' H' s'->RelV v u->Q v H'->CE outer P w H s Q u s':=
  fun {σ' H' v u} J rv q=>⟨v,H',J.os,J.bare,J.base,J.hok,rv,q⟩
 cases fl with
 |ret u=>
  obtain⟨v,σ',H',J,rv,q⟩:=hs
  exact fin J rv q
 |next=>
  obtain⟨σ',H',J,q⟩:=hs
  exact fin (v:=V.non) (u:=Q0a.none) J rfl q
 |brk=>
  obtain⟨_,_,_,q⟩:=hs
  exact Q2g q
 |cont=>
  obtain⟨_,_,_,q⟩:=hs
  exact Q2g q
section
variable{X:Cx}{x:Str}{p pos:Pos}{e:Expr}{es:List Expr}{t:TA}{id T:String}{r:List V->Hp->VK->Prop}
def tCB(r:List V->Hp->VK->Prop)(t:TA):TE:=fun σ H Q=>t σ H fun vs H1=>r vs H1 Q
theorem q4o(hc:q1p X (.builtin id) r)(hg:Gl X x)(hm:X.mg x=none)(hv:bootBuiltins x=some (.builtin id))(ha:PA X (e::es) t)(hn:x≠ "__name__" :=by decide)(hdb:(x==("__debug__" : Str))=false:=by decide)
  (he:Q0t (e::es) X.env=(false,eval e X.env)::Q0t es X.env:=by rfl) (hpl:(backTo pos (Q0t es X.env)).any (·.1)=false:=by rfl):PE X (.Call (.Name x p) (e::es) [] pos) (tCB r t):=by
 intro pins s σ H Q I h
 refine Q4k (q8b I hg hm hv ?_ hn hdb)
 exact Z0o (thn (ha pos pins s σ H _ I h) fun us s1 hh1=>by obtain⟨vs,H1,I1,r1,q1⟩:=hh1;exact(hc pins s1 σ H1 vs us Q I1 r1 q1)) he hpl
theorem z1h(hc:q1p X (.type T) r)(hg:Gl X x)(hm:X.mg x=none)(hv:bootBuiltins x=some (.type T))(ha:PA X (e::es) t)(hn:x≠ "__name__" :=by decide)(hdb:(x==("__debug__" : Str))=false:=by decide)
  (he:Q0t (e::es) X.env=(false,eval e X.env)::Q0t es X.env:=by rfl) (hpl:(backTo pos (Q0t es X.env)).any (·.1)=false:=by rfl):PE X (.Call (.Name x p) (e::es) [] pos) (tCB r t):=by
 intro pins s σ H Q I h
 refine Q4k (q8b I hg hm hv ?_ hn hdb)
 exact Q5h (thn (ha pos pins s σ H _ I h) fun us s1 hh1=>by obtain⟨vs,H1,I1,r1,q1⟩:=hh1;exact(hc pins s1 σ H1 vs us Q I1 r1 q1)) he hpl
end
end L2
namespace HT
open PySem PyProof.Rows
section
open PySem.SeqAt
open PySem.AutoSeq1 (wpAny_loadPart')
open PySem.MeetsSeq PySem.MeetsSeq2 PySem.MeetsSeq3
end
section
variable{prog:Q0l}{w:Q1a}{A:Q0w}{E:Q0a->Q0b->Prop}{s:Q0b}
theorem cat_tup{t b:Q0i}{vs ws:List Q0a}{Q:Q0a->Q0b->Prop}(ht:Q5u s.heap t vs.toArray)(hb:Q5u s.heap b ws.toArray)(hv:vs≠[])
  (h1:ws=[]->Q (.ref t) s) (h2:ws≠[]->Q (.ref s.heap.objs.size) {s with heap:=s.heap.push {cls:=.type "tuple",data:=.seq (vs++ws).toArray}})
  (hsz:vs.length+ws.length<=Q0k):Q0y (model prog w) A (binaryOp .Add (.ref t) (.ref b)) Q E s:=by
 obtain⟨⟨cls,dd,data,sl⟩,ho,hc,n,hd⟩:=id ht
 obtain⟨⟨cls2,dd2,data2,sl2⟩,ho2,hc2,n2,hd2⟩:=id hb
 simp only at hc hd hc2 hd2
 subst hc hd hc2 hd2
 have e:vs.toArray++ws.toArray=(vs++ws).toArray:=by simp
 by_cases hw:ws=[]
 ·exact Q9e ⟨_,ho,rfl⟩ ⟨_,ho2,rfl⟩ Q7d Q8o Q4j Q4g (Q4b _ _)
   (tuple_addW1 t b vs.toArray ws.toArray n n2 dd dd2 sl sl2 (by simpa using hv) (by simp[hw])) ⟨ho,ho2,h1 hw⟩
 ·refine Q9e ⟨_,ho,rfl⟩ ⟨_,ho2,rfl⟩ Q7d Q8o Q4j Q4g (Q4b _ _)
   (tuple_addW2 t b vs.toArray ws.toArray n n2 dd dd2 sl sl2 (by simpa using hv) (by simpa using hw) (by rw[Q0f,Q0f];exact hsz)) ⟨ho,ho2,?_⟩
  rw[e]
  exact h2 hw
def sIx(n d:Nat):Option Int->Nat
 |none=>d
 |some v=>if v<0 then(v+(n:Int)).toNat else min v.toNat n
theorem sIx_none(n d:Nat):sIx n d none=d:=rfl
theorem sIx_nat(n d k:Nat):sIx n d (some (k:Int))=min k n:=by
 show(if(k:Int)<0 then((k:Int)+(n:Int)).toNat else min (k:Int).toNat n)=min k n
 rw[if_neg (by omega),Q3d]
theorem y0f(n d:Nat)(hd:d<=n)(o:Option Int):sIx n d o<=n:=by
 cases o with
 |none=>exact hd
 |some v=>
  show(if v<0 then(v+(n:Int)).toNat else min v.toNat n)<=n
  by_cases hv:v<0
  ·rw[if_pos hv];omega
  ·rw[if_neg hv];exact Nat.min_le_right _ _
theorem z3a(v:Int)(n d:Nat):(if v<0 then max (v+(n:Int)) 0 else min v (n:Int))=((sIx n d (some v):Nat):Int):=by
 show(if v<0 then max (v+(n:Int)) 0 else min v (n:Int))=(((if v<0 then(v+(n:Int)).toNat else min v.toNat n):Nat):Int)
 by_cases hv:v<0
 ·simp only[if_pos hv];omega
 ·simp only[if_neg hv];omega
theorem q9u(lo hi:Option Int)(n:Nat):Q1g.Slice.sliceAdjust lo hi 1 (n:Int)=(((sIx n 0 lo:Nat):Int),((sIx n n hi:Nat):Int)):=by
 have h1:¬((1:Int)<0):=by omega
 unfold Q1g.Slice.sliceAdjust
 simp only[h1,if_false]
 refine Prod.ext ?_ ?_
 ·cases lo with
  |none=>rfl
  |some v=>exact z3a v n 0
 ·cases hi with
  |none=>rfl
  |some v=>exact z3a v n n
theorem q8y(i j:Nat):Q1g.Slice.slicePlaces (i:Int) (j:Int) 1=j-i:=by
 unfold Q1g.Slice.slicePlaces
 have h1:(1:Int) > 0:=by omega
 simp only[h1,if_true,Int.ediv_one]
 split<;>omega
theorem q3w{v:Q0a}{o:Option Int}{Q:Option Int->Q0b->Prop}(p:Q7a v o)(h:Q o s):Q0y (model prog w) A (Q1g.Slice.slicePartIndex v) Q E s:=by
 cases p with
 |none=>exact slicePart_none h
 |int i t=>exact slicePart_int h
theorem q2i{sl:Q0i}{vl vu:Q0a}{lo hi:Option Int}{n:Nat}{Q:Int×Int×Nat->Q0b->Prop}(hs:s.heap.IsSliceOf sl vl vu .none)(pl:Q7a vl lo)(pu:Q7a vu hi)
  (h:Q (((sIx n 0 lo:Nat):Int),1,sIx n n hi-sIx n 0 lo) s):Q0y (model prog w) A (Q1g.Slice.sliceApplied (.ref sl) (pure (n:Int))) Q E s:=by
 obtain⟨os,hos,hcs,hds⟩:=id hs
 unfold Q1g.Slice.sliceApplied Q1g.Slice.sliceFields
 refine Q0c (Q0c (Q4h hos hds (x:=vl) rfl (Q0c (Q4h hos hds (x:=vu) rfl (Q0c (Q4h hos hds (x:=.none) rfl (Q0n ?_)))))))
 refine Q0c (slicePart_none ?_)
 show Q0y _ _ (if((1:Int)==0)=true then _ else _) _ _ s
 rw[if_neg (by decide)]
 refine Q0c (q3w pl (Q0c (q3w pu (Q0c (Q0n ?_)))))
 show Q0y _ _ (match Q1g.Slice.sliceAdjust lo hi 1 (n:Int)with|(lo,hi)=>pure (lo,(1:Int),Q1g.Slice.slicePlaces lo hi 1)) _ _ s
 rw[q9u lo hi n]
 show Q0y _ _ (pure (((sIx n 0 lo:Nat):Int),(1:Int),Q1g.Slice.slicePlaces ((sIx n 0 lo:Nat):Int) ((sIx n n hi:Nat):Int) 1)) _ _ s
 rw[q8y]
 exact Q0n h
theorem z4q(xs:Array Q0a)(i k:Nat):((Q2y k).filterMap fun(m:Nat)=>xs[((i:Int)+(m:Int)*1).toNat]?).toArray=((xs.toList.drop i).take k).toArray:=by
 have e:(fun(m:Nat)=>xs[((i:Int)+(m:Int)*1).toNat]?)=fun m=>xs[i+m]?:=by
  funext m
  have:((i:Int)+(m:Int)*1).toNat=i+m:=by omega
  rw[this]
 rw[e]
 have:=pick_run xs i k
 rw[List.filterMap_map]at this
 have e2:((fun x=>xs[x]?)∘fun x=>i+x)=fun m=>xs[i+m]?:=rfl
 rw[e2]at this
 rw[this]
theorem getItem_tuple_cut{t sl:Q0i}{items:Array Q0a}{vl vu:Q0a}{lo hi:Option Int}{Q:Q0a->Q0b->Prop}(ht:Q5u s.heap t items)(hs:s.heap.IsSliceOf sl vl vu .none)(pl:Q7a vl lo)(pu:Q7a vu hi)
  (hw:¬(sIx items.size 0 lo=0/\sIx items.size items.size hi=items.size))
  (h:Q (.ref s.heap.objs.size) {s with heap:=s.heap.push {cls:=.type "tuple",data:=.seq ((items.toList.drop (sIx items.size 0 lo)).take (sIx items.size items.size hi-sIx items.size 0 lo)).toArray}})
  (hsz:items.size<=Q0k):Q0y (model prog w) A (getItem (.ref t) (.ref sl)) Q E s:=by
 have htake:sizeOk (.seq ((items.toList.drop (sIx items.size 0 lo)).take (sIx items.size items.size hi-sIx items.size 0 lo)).toArray):=by
  show((items.toList.drop (sIx items.size 0 lo)).take (sIx items.size items.size hi-sIx items.size 0 lo)).toArray.size<=Q0k
  rw[Q0f,Q3h,Q4p,Q5e]
  omega
 have hj:sIx items.size items.size hi<=items.size:=y0f _ _ (Q0m _) hi
 obtain⟨os,hos,hcs,hds⟩:=id hs
 have hTs:s.TypeIs (.ref sl) "slice" :=⟨os,hos,hcs⟩
 unfold getItem
 try with_reducible refine Q1y ?_
 first|refine Q0c (Q0n ?_)|skip
 refine Q0c (wpAny_sequenceKey ht.typeIs (by decide) ?_)
 refine Q0c (wpAny_callSpecial?_slot (name:=Q0g "__getitem__") ht.typeIs Q3l
  (Z0l Q3l ht.typeIs entry_tuple_getitem ?_ (args_tuple_getitem _ _)))
 show Q0y _ _ (Q1g.Tuple.tupleItemsOf (.ref t) >>= _) _ _ s
 refine Q0c (tupleItemsOf_ ht ?_)
 refine Q0c (wpAny_typeOf hTs ?_)
 rw[if_pos (by decide)]
 refine Q0c (q2i hs pl pu ?_)
 have hno:¬((((sIx items.size 0 lo:Nat):Int)==0&&(1:Int)==1&&(sIx items.size items.size hi-sIx items.size 0 lo)==items.size)=true):=by
  intro q
  rw[Q2u,Q2u]at q
  have q1:((sIx items.size 0 lo:Nat):Int)=0:=Q7l q.1.1
  have q2:sIx items.size items.size hi-sIx items.size 0 lo=items.size:=Q7l q.2
  exact hw ⟨by omega,by omega⟩
 show Q0y _ _ (if(((sIx items.size 0 lo:Nat):Int)==0&&(1:Int)==1&&(sIx items.size items.size hi-sIx items.size 0 lo)==items.size)=true then _ else _) _ _ s
 rw[if_neg hno,z4q]
 first
  |exact Q0c (m:=Q1g.Tuple.tupleExact _) (Q3j (Q0n ⟨_,rfl,Q0n h⟩) htake)
  |exact Q0c (m:=Q1g.Tuple.tupleExact _) (Q3j (Q0c (Q0n (Q0n ⟨_,rfl,Q0n h⟩))) htake)
  |exact Q0c (Q0c (m:=Q1g.Tuple.tupleExact _) (Q3j (Q0n (Q0n ⟨_,rfl,Q0n h⟩)) htake))
  |exact Q0c (Q0c (m:=Q1g.Tuple.tupleExact _) (Q3j (Q0n ⟨_,rfl,Q0n h⟩) htake))
end
end HT
namespace L2
open PySem PySem.Spec PyProof.Rows
abbrev TO:=St->Hp->(Option Int->Hp->Prop)->Prop
def PO(X:Cx)(e:Option Expr)(t:TO):Prop:=
 ∀(pins:List (Q0i×Obj))(s:Q0b)(σ:St)(H:Hp)(Q:Option Int->Hp->Prop),Inv X pins σ H s->t σ H Q->
  Q0y (model X.prog X.w) X.A (evalPart e X.env) (fun u s'=>∃o H',Inv X pins σ H' s'/\Q7a u o/\Q o H') X.xe s
def z6p:TO:=fun _ H Q=>Q none H
def y3a(t:TE):TO:=fun σ H Q=>t σ H fun x H1=>∃i,x=.int i/\Q (some i) H1
section
variable{X:Cx}{e:Expr}{te:TE}{lo hi:Option Expr}{tl th:TO}{pos p2:Pos}
theorem z7u:PO X none z6p:=by
 intro pins s σ H Q I h
 rw[evalPart_none]
 exact Q0n ⟨none,H,I,.none,h⟩
theorem z7t(h:PE X e te):PO X (some e) (y3a te):=by
 intro pins s σ H Q I hw
 rw[evalPart_some]
 refine thn (h pins s σ H _ I hw) fun u s1 hh1=>?_
 obtain⟨x,H1,I1,r1,q1⟩:=hh1
 obtain⟨i,rfl,q⟩:=q1
 obtain⟨t,rfl⟩:=r1
 exact⟨some i,H1,I1,.int i t,q⟩
def SlR(X:Cx)(r:V->Option Int->Option Int->Hp->VK->Prop):Prop:=
 ∀(pins:List (Q0i×Obj))(s:Q0b)(σ:St)(H:Hp)(x:V)(v vl vu:Q0a)(lo hi:Option Int)(sl:Q0i)(Q:VK),Inv X pins σ H s->RelV x v->s.heap.IsSliceOf sl vl vu .none->Q7a vl lo->Q7a vu hi->r x lo hi H Q->
  ∃T id,typeLookup (.type T) "__getitem__" = pure (some (.builtin id))/\s.TypeIs v T/\Q0y (model X.prog X.w) X.A (getItem v (.ref sl)) (EP X pins σ Q) X.xe s
def tSl(r:V->Option Int->Option Int->Hp->VK->Prop)(te:TE)(tl th:TO):TE:=fun σ H Q=>te σ H fun x H1=>tl σ H1 fun l H2=>th σ H2 fun u H3=>r x l u H3 Q
theorem z4t{r:V->Option Int->Option Int->Hp->VK->Prop}(hr:SlR X r)(he:PE X e te)(hl:PO X lo tl)(hu:PO X hi th):PE X (.Subscript e (.Slice lo hi none p2) pos) (tSl r te tl th):=by
 intro pins s σ H Q I h
 refine Subscript_ (thn (he pins s σ H _ I h) fun v s1 hh1=>?_)
 obtain⟨x,H1,I1,r1,q1⟩:=hh1
 refine wpAny_Slice (thn (hl pins s1 σ H1 _ I1 q1) fun vl s2 ⟨l,H2,I2,pl,q2⟩=>thn (hu pins s2 σ H2 _ I2 q2) fun vu s3 hh2=>?_)
 obtain⟨u,H3,I3,pu,q3⟩:=hh2
 rw[evalPart_none]
 refine Q0n ?_
 have I4:Inv X pins σ H3 {s3 with heap:=s3.heap.push {cls:=.type "slice",data:=.fields #[vl,vu,.none]}}:=I3.kept (t':=s3.toks) fun b ob q=>Q0e _ q
 obtain⟨T,id,hT,ht,hg⟩:=hr pins {s3 with heap:=s3.heap.push {cls:=.type "slice",data:=.fields #[vl,vu,.none]}} σ H3 x v vl vu l u s3.heap.objs.size Q I4 r1 (Q0z.IsSliceOf.new ..) pl pu q3
 show Q0y (model X.prog X.w) X.A (subscriptTail e (.Slice lo hi none p2) v (.ref s3.heap.objs.size)) (EP X pins σ Q) X.xe {s3 with heap:=s3.heap.push {cls:=.type "slice",data:=.fields #[vl,vu,.none]}}
 exact tail_any (ops:=[.ref s3.heap.objs.size,v]) ht hT hg (by with_unfolding_all rfl)
def cutV(xs:List V)(lo hi:Option Int):List V:=(xs.drop (HT.sIx xs.length 0 lo)).take (HT.sIx xs.length xs.length hi-HT.sIx xs.length 0 lo)
theorem q3n(xs:List V)(lo hi:Option Int):(cutV xs lo hi).length<=xs.length:=by
 unfold cutV
 rw[Q3h,Q4p]
 omega
def rSlT(K:Q1n):V->Option Int->Option Int->Hp->VK->Prop:=fun x lo hi H Q=>∃a xs,x=.ref a/\SqT K H a xs/\
 ¬(HT.sIx xs.length 0 lo=0/\HT.sIx xs.length xs.length hi=xs.length)/\∀p,H p=none->Q (.ref p) (upd H p (.tup (cutV xs lo hi)))
theorem z9z:SlR X (rSlT X.K):=by
 intro pins s σ H x v vl vu lo hi sl Q I rx hs pl pu h
 obtain⟨a,xs,rfl,hx,hw,q⟩:=h
 cases rx
 obtain⟨its,r,ht,hz⟩:=I.tuple hx
 have hlen:its.toArray.size=xs.length:=by rw[Q0f];exact r.length.symm
 refine⟨"tuple",_,Q3l.lookup,ht.typeIs,?_⟩
 refine HT.getItem_tuple_cut ht hs pl pu (by rw[hlen];exact hw) ?_ (by rw[hlen];exact hz)
 rw[hlen]
 refine⟨.ref s.heap.objs.size,_,I.laid (t':=s.toks) (o:=.tup (cutV xs lo hi)) (fun b ob q=>Q0e _ q) (Q0m _) ?_,rfl,q _ (I.hok.fresh (Q0m _))⟩
 exact⟨Q1t (q3n xs lo hi) hz,_,(r.drop (HT.sIx xs.length 0 lo)).take (HT.sIx xs.length xs.length hi-HT.sIx xs.length 0 lo),Q5u.new _ _⟩
def y0i(K:Q1n):R2:=fun x y H Q=>∃a b xs ys,x=.ref a/\y=.ref b/\SqT K H a xs/\SqT K H b ys/\xs≠[]/\xs.length+ys.length<=Q0k/\
 (ys=[]->Q (.ref a) H)/\(ys≠[]->∀p,H p=none->Q (.ref p) (upd H p (.tup (xs++ys))))
theorem Vals.nil_iff{xs:List V}{us:List Q0a}(r:Vals xs us):us=[]↔xs=[]:=by
 cases r with
 |nil=>simp
 |cons _ _=>simp
theorem z8e:OpR X (binaryOp .Add) (y0i X.K):=by
 intro pins s σ H x y v u Q I rx ry h
 obtain⟨a,b,xs,ys,rfl,rfl,ha,hb,hx,hz,q1,q2⟩:=h
 cases rx
 cases ry
 obtain⟨its,r1,p1,_⟩:=I.tuple ha
 obtain⟨its2,r2,p2,_⟩:=I.tuple hb
 refine HT.cat_tup p1 p2 (fun z=>hx (r1.nil_iff.mp z)) (fun z=>⟨.ref a,H,I,rfl,q1 (r2.nil_iff.mp z)⟩) (fun z=>?_) (by rw[<-r1.length,<-r2.length];exact hz)
 refine⟨.ref s.heap.objs.size,_,I.laid (t':=s.toks) (o:=.tup (xs++ys)) (fun b ob q=>Q0e _ q) (Q0m _) ?_,rfl,q2 (fun w=>z (r2.nil_iff.mpr w)) _ (I.hok.fresh (Q0m _))⟩
 exact⟨by rw[Q0s];exact hz,_,r1.append r2,Q5u.new _ _⟩
end
def ixN(n:Nat)(i:Int):Option Nat:=if 0<=i then(if i<n then some i.toNat else none)else if -(n:Int)<=i then some (i+n).toNat else none
def atI{α:Type}(xs:List α)(i:Int):Option α:=(ixN xs.length i).bind fun j=>xs[j]?
theorem z2g{n:Nat}{i:Int}{j:Nat}(h:ixN n i=some j):seqIndex? i n=some j/\j<n/\-(n:Int)<=i/\i<n:=by
 unfold ixN at h
 by_cases h0:0<=i
 ·rw[if_pos h0]at h
  by_cases h1:i<n
  ·rw[if_pos h1]at h
   have e:i.toNat=j:=Q1p h
   exact⟨by rw[Q9p h0 h1,e],by omega,by omega,h1⟩
  ·rw[if_neg h1]at h;cases h
 ·rw[if_neg h0]at h
  by_cases h1:-(n:Int)<=i
  ·rw[if_pos h1]at h
   have e:(i+n).toNat=j:=Q1p h
   exact⟨by rw[seqIndex_neg (by omega) h1,e],by omega,h1,by omega⟩
  ·rw[if_neg h1]at h;cases h
theorem q7m{α:Type}{xs:List α}{i:Int}{v:α}(h:atI xs i=some v):∃j,seqIndex? i xs.length=some j/\xs[j]?=some v/\j<xs.length/\-(xs.length:Int)<=i/\i<xs.length:=by
 unfold atI at h
 cases e:ixN xs.length i with
 |none=>rw[e]at h;cases h
 |some j=>
  rw[e]at h
  obtain⟨h1,h2,h3,h4⟩:=z2g e
  exact⟨j,h1,h,h2,h3,h4⟩
theorem z9m{α:Type}{xs:List α}{j:Nat}{v:α}(h:xs[j]?=some v):atI xs (j:Int)=some v:=by
 have hj:j<xs.length:=(Q0j.mp h).1
 have e:ixN xs.length (j:Int)=some j:=by
  unfold ixN
  rw[if_pos (by omega),if_pos (by omega)];simp
 unfold atI;rw[e];exact h
def z3h(b:Expr):Prop:=∀o i,subscripted b false o i=operate [o,i] (getItem o i)
def IxR(X:Cx)(r:R2):Prop:=
 ∀(value slice:Expr)(pins:List (Q0i×Obj))(s:Q0b)(σ:St)(H:Hp)(x y:V)(v u:Q0a)(Q:VK),Inv X pins σ H s->RelV x v->RelV y u->r x y H Q->
  subscripted slice false v u=operate [v,u] (getItem v u)->Q0y (model X.prog X.w) X.A (subscriptTail value slice v u) (EP X pins σ Q) X.xe s
def MtR(X:Cx)(id:String)(r:V->List V->Hp->VK->Prop):Prop:=
 ∀(pins:List (Q0i×Obj))(s:Q0b)(σ:St)(H:Hp)(x:V)(xs:List V)(v:Q0a)(us:List Q0a)(Q:VK),Inv X pins σ H s->RelV x v->Vals xs us->r x xs H Q->
  Q0y (model X.prog X.w) X.A (call (.builtin id) (v::us)) (EP X pins σ Q) X.xe s
section
variable{X:Cx}{a b:Expr}{ta tb:TE}{pos:Pos}
theorem y3m{r:R2}(hr:IxR X r)(ha:PE X a ta)(hb:PE X b tb)(hs:z3h b):PE X (.Subscript a b pos) (tOp r ta tb):=by
 intro pins s σ H Q I h
 exact Subscript_ (binT ha hb I h fun v u s2 x y H2 I2 rx ry q=>hr a b pins s2 σ H2 x y v u Q I2 rx ry q (hs _ _))
def rIxL(K:Q1n):R2:=fun x y H Q=>∃p xs i v,x=.ref p/\y=.int i/\SqL K H p xs/\atI xs i=some v/\Q v H
def rIxT(K:Q1n):R2:=fun x y H Q=>∃p xs i v,x=.ref p/\y=.int i/\SqT K H p xs/\atI xs i=some v/\Q v H
def rIxS:R2:=fun x y H Q=>∃z i c,x=.str z/\y=.int i/\z.length<=Q0k/\atI z.cps.toList i=some c/\Q (.str ⟨#[c]⟩) H
theorem z2f:IxR X (rIxL X.K):=by
 intro value slice pins s σ H x y v u Q I rx ry h hs
 obtain⟨p,xs,i,z,rfl,rfl,hq,he,q⟩:=h
 cases rx
 obtain⟨t,rfl⟩:=ry
 obtain⟨its,r,pl,hz⟩:=I.list hq
 obtain⟨j,h1,h2,h3,h4,h5⟩:=q7m he
 obtain⟨w,ew,rw'⟩:=r.get h2
 have hl:=r.length
 have hn:=q3f
 have fin:EP X pins σ Q w s:=⟨z,H,I,rw',q⟩
 by_cases h0:0<=i
 ·have hj:i.toNat=j:=by
   rw[Q9p h0 h5]at h1
   exact Q1p h1
  exact item_listR pl.isList h0 (by omega) (by rw[hj];simpa using ew) fin hs
 ·have hj:(i+(its.toArray.size:Int)).toNat=j:=by
   rw[seqIndex_neg (by omega) h4]at h1
   rw[Q0f,<-hl]
   exact Q1p h1
  exact Q8v (x:=w) pl.isList.typeIs Z0d.lookup
   (wpAny_getItem_list_neg (Q:=fun r s'=>r=w/\EP X pins σ Q r s') pl.isList (by omega) (by rw[Q0f]<;>omega) (by omega) (by rw[hj];simpa using ew) ⟨rfl,fin⟩) hs
theorem y2e:IxR X (rIxT X.K):=by
 intro value slice pins s σ H x y v u Q I rx ry h hs
 obtain⟨p,xs,i,z,rfl,rfl,hq,he,q⟩:=h
 cases rx
 obtain⟨t,rfl⟩:=ry
 obtain⟨its,r,pl,hz⟩:=I.tuple hq
 obtain⟨j,h1,h2,h3,h4,h5⟩:=q7m he
 obtain⟨w,ew,rw'⟩:=r.get h2
 have hl:=r.length
 have hn:=q3f
 have fin:EP X pins σ Q w s:=⟨z,H,I,rw',q⟩
 exact Q8v (x:=w) pl.typeIs slot_tuple_getitem.lookup
  (getItem_tuple (j:=j) (Q:=fun r s'=>r=w/\EP X pins σ Q r s') pl (by omega) (by omega) (by rw[Q0f,<-hl];exact h1) (by simpa using ew) ⟨rfl,fin⟩) hs
theorem y2f:IxR X rIxS:=by
 intro value slice pins s σ H x y v u Q I rx ry h hs
 obtain⟨z,i,c,rfl,rfl,hz,he,q⟩:=h
 obtain⟨t,rfl⟩:=rx
 obtain⟨t',rfl⟩:=ry
 obtain⟨j,h1,h2,h3,h4,h5⟩:=q7m he
 have hl:z.cps.toList.length=z.length:=by simp[Q9f]
 rw[hl]at h1 h4 h5
 have hn:=q3f
 exact tail_any (Q5p s z t) slot_str_getitem.lookup (getItem_str (c:=c) (by
  have e1:decide (i < -(2 ^ 63:Int))=false:=decide_eq_false (by omega)
  have e2:decide (i>=2 ^ 63)=false:=decide_eq_false (by omega)
  rw [e1,e2,Bool.or_false]) (by rw [h1];simpa using h2) ⟨.str ⟨#[c]⟩,H,I.tok _,⟨_,rfl⟩,q⟩) hs
theorem q9e(its:List Q0a)(n j:Nat)(u:Q0a):Q6e (·.setIfInBounds j u) {cls:=.type "list",data:=.seq its.toArray n}={cls:=.type "list",data:=.seq (its.set j u).toArray n}:=by
 simp[Q6e]
theorem Inv.lst{pins:List (Q0i×Obj)}{σ:St}{H:Hp}{s:Q0b}{p:Q0i}{xs:List V}(I:Inv X pins σ H s)(h:H p=some (.lst xs)) :
  ∃(its:List Q0a)(n:Nat),Vals xs its/\s.heap.get? p=some {cls:=.type "list",data:=.seq its.toArray n}/\xs.length<=Q0k:=by
 obtain⟨z,its,n,r,e⟩:=I.hok p _ h
 exact⟨its,n,r,e,z⟩
theorem Inv.lstUpd{pins:List (Q0i×Obj)}{σ:St}{H:Hp}{s:Q0b}{p:Q0i}{xs ys:List V}{its its':List Q0a}{n n':Nat}{f:Obj->Obj}(I:Inv X pins σ H s)(h:H p=some (.lst xs))
  (ho:s.heap.get? p=some {cls:=.type "list",data:=.seq its.toArray n}) (hf:f {cls:=.type "list",data:=.seq its.toArray n}={cls:=.type "list",data:=.seq its'.toArray n' }) (r:Vals ys its') (hz:ys.length<=Q0k) (t:Nat) :
  Inv X pins σ (upd H p (.lst ys)) {s with heap:=s.heap.update p f,toks:=t}:=by
 have e:(s.heap.update p f).get? p=some {cls:=.type "list",data:=.seq its'.toArray n' }:=by
  rw[Q0z.get?_update_self f ho (by rw[hf]<;>rfl),hf]
 refine I.write (x:=p) (e:=p) (by rw[h];trivial) (.inl rfl) (fun b u hb q=>(Q0z.get?_update_other _ _ (Q3s hb)).trans q) ⟨_,e⟩ ?_
 exact⟨hz,its',n',r,e⟩
def y3h:V->V->V->Hp->(Hp->Prop)->Prop:=fun o i v H Q=>∃p xs k j,o=.ref p/\i=.int k/\H p=some (.lst xs)/\ixN xs.length k=some j/\Q (upd H p (.lst (xs.set j v)))
theorem z4k:PSet X y3h:=by
 intro pins s σ H o i v ov iv u Q I ro ri rv h
 obtain⟨p,xs,k,j,rfl,rfl,hp,hj,q⟩:=h
 cases ro
 obtain⟨t,rfl⟩:=ri
 obtain⟨its,n,r,ho,hz⟩:=I.lst hp
 obtain⟨h1,h2,h3,h4⟩:=z2g hj
 have hl:=r.length
 have hn:=q3f
 have I':Inv X pins σ (upd H p (.lst (xs.set j v))) {s with heap:=s.heap.update p (Q6e (·.setIfInBounds j u))}:=
  I.lstUpd hp ho (q9e its n j u) (r.set rv j) (by rw[Q9m];exact hz) s.toks
 by_cases h0:0<=k
 ·have hk:k.toNat=j:=by
   rw[Q9p h0 h4]at h1
   exact Q1p h1
  exact PySem.W.ki_setAt ho h0 (by omega) (by rw[Q0f,<-hl];exact h4) (by rw[hk];exact⟨_,I',q⟩)
 ·have hk:(k+(its.toArray.size:Int)).toNat=j:=by
   rw[seqIndex_neg (by omega) h3]at h1
   rw[Q0f,<-hl]
   exact Q1p h1
  exact PySem.W.ki_setBack ho (by omega) (by rw[Q0f,<-hl];exact h3) (by omega) (by rw[hk];exact⟨_,I',q⟩)
theorem q5c(lo hi:Option Int)(n:Nat):(sliceBounds lo hi none n).1=((HT.sIx n 0 lo:Nat):Int)/\(sliceBounds lo hi none n).2.1=((HT.sIx n n hi:Nat):Int)/\(sliceBounds lo hi none n).2.2=1:=by
 refine⟨?_,?_,rfl⟩
 ·cases lo with
  |none=>simp[sliceBounds,HT.sIx]
  |some i=>
   simp only[sliceBounds,HT.sIx,Q8p,show(1:Int) > 0 by decide,if_true]
   by_cases h:i<0
   ·simp only[h,if_true]<;>omega
   ·simp only[h,if_false]<;>omega
 ·cases hi with
  |none=>simp[sliceBounds,HT.sIx]
  |some i=>
   simp only[sliceBounds,HT.sIx,Q8p,show(1:Int) > 0 by decide,if_true]
   by_cases h:i<0
   ·simp only[h,if_true]<;>omega
   ·simp only[h,if_false]<;>omega
theorem q4l(its:List Q0a)(lo hi:Option Int):slicePick its.toArray lo hi none=((its.drop (HT.sIx its.length 0 lo)).take (HT.sIx its.length its.length hi-HT.sIx its.length 0 lo)).toArray:=by
 obtain⟨h1,h2,h3⟩:=q5c lo hi its.toArray.size
 unfold slicePick
 rw[h1,h2,h3]
 simp only[sliceRange_one,pick_run,Q0f]<;>rfl
def rSlL(K:Q1n):V->Option Int->Option Int->Hp->VK->Prop:=fun x lo hi H Q=>∃a xs,x=.ref a/\SqL K H a xs/\∀p,H p=none->Q (.ref p) (upd H p (.lst (cutV xs lo hi)))
theorem z0k:SlR X (rSlL X.K):=by
 intro pins s σ H x v vl vu lo hi sl Q I rx hs pl pu h
 obtain⟨a,xs,rfl,hx,q⟩:=h
 cases rx
 obtain⟨its,r,ht,hz⟩:=I.list hx
 have hlen:=r.length
 refine⟨"list",_,Z0d.lookup,ht.isList.typeIs,?_⟩
 refine wpAny_getItem_list_slice ht.isList hs pl pu .none (by simp) ?_ (by rw[Q0f]<;>omega)
 rw[q4l,<-hlen]
 refine⟨.ref s.heap.objs.size,_,I.laid (t':=s.toks) (o:=.lst (cutV xs lo hi)) (fun b ob q=>Q0e _ q) (Q0m _) ?_,rfl,q _ (I.hok.fresh (Q0m _))⟩
 exact⟨Q1t (q3n xs lo hi) hz,_,0,(r.drop (HT.sIx xs.length 0 lo)).take (HT.sIx xs.length xs.length hi-HT.sIx xs.length 0 lo),Q0z.get?_push_size _ rfl⟩
theorem q1l:q1p X (.builtin "len") (fun xs H Q=>∃p ys,xs=[.ref p]/\(SqL X.K H p ys\/SqT X.K H p ys)/\Q (.int ys.length) H):=by
 intro pins s σ H xs us Q I r h
 obtain⟨p,ys,rfl,hq,q⟩:=h
 obtain⟨u,rfl,rx⟩:=q4z r
 cases rx
 have hn:=q3f
 rcases hq with hq|hq
 ·obtain⟨its,r',pl,hz⟩:=I.list hq
  have hlen:=r'.length
  exact Calls.call_len_list pl.isList (by simp only[Q0f]<;>omega) ⟨.int ys.length,H,I.tok _,⟨s.toks+1,by rw[Q0f,hlen]⟩,q⟩
 ·obtain⟨its,r',pl,hz⟩:=I.tuple hq
  have hlen:=r'.length
  exact len_tuple pl (by simp only[Q0f]<;>omega) ⟨.int ys.length,H,I.tok _,⟨s.toks+1,by rw[Q0f,hlen]⟩,q⟩
theorem q6e:q1p X (.builtin "len") (fun xs H Q=>∃z,xs=[.str z]/\z.length<=Q0k/\Q (.int z.length) H):=by
 intro pins s σ H xs us Q I r h
 obtain⟨z,rfl,hz,q⟩:=h
 obtain⟨u,rfl,t,rfl⟩:=q4z r
 have hn:=q3f
 exact len_str (by omega) ⟨.int z.length,H,I.tok _,⟨_,rfl⟩,q⟩
theorem q1k:q1p X (.type "list") (fun xs H Q=>∃p ys,xs=[.ref p]/\(SqL X.K H p ys\/SqT X.K H p ys)/\∀l,H l=none->Q (.ref l) (upd H l (.lst ys))):=by
 intro pins s σ H xs us Q I r h
 obtain⟨p,ys,rfl,hq,q⟩:=h
 obtain⟨u,rfl,rx⟩:=q4z r
 cases rx
 have fin:∀(its:List Q0a),Vals ys its->ys.length<=Q0k->∀(h':Q0z)(c':Nat),(∀b o',s.heap.get? b=some o'->h'.get? b=some o')->
   h'.get? s.heap.objs.size=some {cls:=.type "list",dict:=none,data:=.seq its.toArray c',slots:=#[]}->EP X pins σ Q (.ref s.heap.objs.size) {s with heap:=h' }:=fun its r' hz h' c' kp e=>
  ⟨.ref s.heap.objs.size,_,I.laid (t':=s.toks) kp (Q0m _) (show q0j X.prog X.w _ h' _ (.lst ys)from⟨hz,its,c',r',e⟩),rfl,q _ (I.hok.fresh (Q0m _))⟩
 rcases hq with hq|hq
 ·obtain⟨its,r',pl,hz⟩:=I.list hq
  have hlen:=r'.length
  obtain⟨o,ho,hc,n,hd⟩:=pl.isList
  exact call_list_seq p (.inl rfl) ho hc hd (fun h' c' kp e=>fin its r' hz h' c' kp e) (by simp only[Q0f]<;>omega)
 ·obtain⟨its,r',pl,hz⟩:=I.tuple hq
  have hlen:=r'.length
  obtain⟨o,ho,hc,n,hd⟩:=pl
  exact call_list_seq p (.inr rfl) ho hc hd (fun h' c' kp e=>fin its r' hz h' c' kp e) (by simp only[Q0f]<;>omega)
theorem q1y:q1p X (.type "tuple") (fun xs H Q=>∃p ys,xs=[.ref p]/\((SqL X.K H p ys/\∀l,H l=none->Q (.ref l) (upd H l (.tup ys)))\/(SqT X.K H p ys/\Q (.ref p) H))):=by
 intro pins s σ H xs us Q I r h
 obtain⟨p,ys,rfl,h⟩:=h
 obtain⟨u,rfl,rx⟩:=q4z r
 cases rx
 rcases h with⟨hq,q⟩|⟨hq,q⟩
 ·obtain⟨its,r',pl,hz⟩:=I.list hq
  have hlen:=r'.length
  refine call_tuple_list pl.isList (fun h' kp=>?_) (by simp only[Q0f]<;>omega)
  have I1:Inv X pins σ H {s with heap:=h' }:=I.kept (t':=s.toks) kp
  have I2:Inv X pins σ (upd H h'.objs.size (.tup ys)) {s with heap:=h'.push {cls:=.type "tuple",data:=.seq its.toArray}}:=
   I1.laid (t':=s.toks) (fun b o e=>Q0e _ e) (Q0m _) (show q0j X.prog X.w _ _ _ (.tup ys)from⟨hz,its,r',Q5u.new _ _⟩)
  exact⟨.ref h'.objs.size,_,I2,rfl,q _ (I1.hok.fresh (Q0m _))⟩
 ·obtain⟨its,r',pl,hz⟩:=I.tuple hq
  exact call_tuple_same pl ⟨.ref p,H,I,rfl,q⟩
def tyV(K:Q1n)(T:String)(x:V)(H:Hp):Prop:=match x with
 |.str _=>T = "str"
 |.int _=>T = "int"
 |.ref p=>(T = "list" /\∃xs,SqL K H p xs)\/(T = "tuple" /\∃o,K.lookup p=some o/\o.cls=.type "tuple" /\o.dict=none)\/
   (T = "dict" /\((∃kvs,H p=some (.dK kvs))\/∃kvs,H p=some (.dT kvs)))\/(T = "set" /\∃S n,H p=some (.set S n))
 |_=>False
theorem z9w{pins:List (Q0i×Obj)}{σ:St}{H:Hp}{s:Q0b}{T:String}{x:V}{v:Q0a}(I:Inv X pins σ H s)(r:RelV x v)(ty:tyV X.K T x H) :
  s.TypeIs v T/\∀a,v=.ref a->∃ob,s.heap.get? a=some ob/\ob.dict=none:=by
 cases x with
 |str z=>
  obtain⟨t,rfl⟩:=r
  cases(show T = "str" from ty)
  exact⟨Q5p s z t,fun _ e=>nomatch e⟩
 |int i=>
  obtain⟨t,rfl⟩:=r
  cases(show T = "int" from ty)
  exact⟨Z0e s i t,fun _ e=>nomatch e⟩
 |ref p=>
  cases r
  rcases ty with⟨rfl,xs,hq⟩|⟨rfl,o,hk,hc,hd⟩|⟨rfl,hk⟩|⟨rfl,S,n,hk⟩
  ·obtain⟨its,_,pl,_⟩:=I.list hq
   refine⟨pl.isList.typeIs,fun a e=>?_⟩
   cases e
   obtain⟨o,n,e,c,hd,_⟩:=pl
   exact⟨o,e,hd⟩
  ·refine⟨⟨o,I.kIn p o hk,hc⟩,fun a e=>?_⟩
   cases e
   exact⟨o,I.kIn _ o hk,hd⟩
  ·have z:∃o,s.heap.get? p=some o/\o.ExactDict:=by
    rcases hk with⟨kvs,hk⟩|⟨kvs,hk⟩
    ·obtain⟨_,_,_,_,o,_,_,e,ex,_⟩:=I.hok p _ hk
     exact⟨o,e,ex⟩
    ·obtain⟨_,_,_,_,o,_,_,e,ex,_⟩:=I.hok p _ hk
     exact⟨o,e,ex⟩
   obtain⟨o,e,ex⟩:=z
   refine⟨⟨o,e,ex.1⟩,fun a e2=>?_⟩
   cases e2
   exact⟨o,e,ex.2.1⟩
  ·obtain⟨o,_,_,_,e,ex,_⟩:=I.hok p _ hk
   refine⟨⟨o,e,ex.1⟩,fun a e2=>?_⟩
   cases e2
   exact⟨o,e,ex.2.1⟩
 |_=>exact Q2g ty
def tBM(K:Q1n)(T:String)(r:V->List V->Hp->VK->Prop)(to:TE)(t:TA):TE:=fun σ H Q=>to σ H fun x H1=>tyV K T x H1/\t σ H1 fun xs H2=>r x xs H2 Q
variable{o e:Expr}{es:List Expr}{to:TE}{t:TA}{name:Str}{apos cpos:Pos}{T id:String}{r:V->List V->Hp->VK->Prop}
theorem y3n(pa:PlainAttrs T)(slot:Slot T name id)(hty:typeOf (.builtin id)=pure (.type "method_descriptor"))(hm:MtR X id r)(ho:PE X o to)(ha:PA X (e::es) t)
  (hbase:attributeBase o name X.env (eval o X.env)=eval o X.env:=by rfl)
  (hfew:((backTo cpos (Q0t (e::es) X.env)).all (fun x=>!x.1)&&(backToKw cpos (keywordEach [] X.env)).all (fun x=>x.1.isSome)
   && decide ((e::es).length+([]:List Q8n).length+(if ([]:List Q8n).isEmpty then 0 else 1)<30))=true:=by rfl)
  (hline:(apos.endLine==cpos.line)=true:=by rfl) (hs:Q0t (e::es) X.env=(false,eval e X.env)::Q0t es X.env:=by rfl) (hplain:(backTo cpos (Q0t es X.env)).any (·.1)=false:=by rfl) :
  PE X (.Call (.Attribute o name apos) (e::es) [] cpos) (tBM X.K T r to t):=by
 intro pins s σ H Q I h
 refine wpAny_Call_method_late hbase hfew hline rfl (thn (ho pins s σ H _ I h) fun v s1 hh1=>?_)
 obtain⟨x,H1,I1,r1,ty,q1⟩:=hh1
 obtain⟨h1,h2⟩:=z9w I1 r1 ty
 refine⟨T,id,pa,slot,hty,h1,h2,?_⟩
 have hA:=ha cpos pins s1 σ H1 _ I1 q1
 rw[hs]at hA ⊢
 refine Q7g (by show(false||(backTo cpos (Q0t es X.env)).any (·.1))=false;rw[hplain]<;>rfl) (Q5a ?_)
 exact thn hA fun us s2 hh2=>by obtain⟨vs,H2,I2,r2,q2⟩:=hh2;exact(hm pins s2 σ H2 x vs v us Q I2 r1 r2 q2)
/- xs.append(e),list.index on a module's tuple .. are MtR facts of 06m -/
end
def MtM(X:Cx)(id:String)(r:V->List V->Hp->VK->Prop):Prop:=
 ∀(pins:List (Q0i×Obj))(s:Q0b)(σ:St)(H:Hp)(x:V)(xs:List V)(v:Q0a)(us:List Q0a)(Q:VK),Inv X pins σ H s->RelV x v->Vals xs us->r x xs H Q->
  Q0y (model X.prog X.w) X.A (call (.builtin id) (v::us)) (EP X pins σ Q) X.xe s
theorem Vals.one:∀{x:V}{us:List Q0a},Vals [x] us->∃u,us=[u]/\RelV x u
 |_,_,.cons r .nil=>⟨_,rfl,r⟩
theorem Vals.rep{xs:List V}{us:List Q0a}(h:Vals xs us):∀k:Nat,Vals (Q1d k xs).flatten (Q1d k us).flatten
 |0=>.nil
 |k+1=>by
  rw[Q2l,Q2l,Q2z,Q2z]
  exact Vals.append h (Vals.rep h k)
theorem q5v(its:List Q0a):∀(k:Nat)(acc:List Q0a),
  Q8w (fun x1 x2=>x1++x2) acc.toArray (Q1d k its.toArray)=(acc++(Q1d k its).flatten).toArray
 |0,acc=>by simp
 |k+1,acc=>by
  have e:acc.toArray++its.toArray=(acc++its).toArray:=by simp
  have e2:(acc++its)++(Q1d k its).flatten=acc++(Q1d (k+1) its).flatten:=by
   rw[Q2l,Q2z,Q4i]
  rw[<-e2,<-q5v its k (acc++its),<-e,Q2l,List.foldl_cons]
section
variable{X:Cx}{pins:List (Q0i×Obj)}{σ:St}{H:Hp}{s:Q0b}{l b:Q0i}{xs ys zs:List V}
theorem Inv.lset{its its':List Q0a}{n:Nat}{f:Array Q0a->Array Q0a}{t':Nat}(I:Inv X pins σ H s)(hH:H l=some (.lst xs))
  (e:s.heap.get? l=some {cls:=.type "list",data:=.seq its.toArray n}) (hf:f its.toArray=its'.toArray) (hv:Vals ys its') (hz:ys.length<=Q0k) :
  Inv X pins σ (upd H l (.lst ys)) {s with heap:=s.heap.update l (Q6e f),toks:=t' }:=by
 have q:=PySem.IsL.update e f
 rw[hf]at q
 refine I.write (x:=l) (e:=l) (by rw[hH];exact trivial) (.inl rfl) (fun b' u hb hu=>(Q0z.get?_update_other s.heap (Q6e f) (Q3s hb)).trans hu) ⟨_,q⟩ ?_
 exact⟨hz,its',_,hv,q⟩
theorem Inv.lnew{its:List Q0a}{t':Nat}(I:Inv X pins σ H s)(hv:Vals ys its)(hz:ys.length<=Q0k) :
  Inv X pins σ (upd H s.heap.objs.size (.lst ys)) {s with heap:=s.heap.push {cls:=.type "list",data:=.seq its.toArray},toks:=t' }:=
 I.laid (fun _ _ q=>Q0e _ q) (Q0m _) ⟨hz,its,0,hv,Q0z.get?_push_size _ rfl⟩
theorem Inv.fresh(I:Inv X pins σ H s):H s.heap.objs.size=none:=I.hok.fresh (Q0m _)
theorem Inv.lstM(I:Inv X pins σ H s)(hH:H l=some (.lst xs)):xs.length<=Q0k/\∃(its:List Q0a)(n:Nat),Vals xs its/\xs.length=its.length/\s.heap.get? l=some {cls:=.type "list",data:=.seq its.toArray n}:=by
 obtain⟨z,its,n,r,e⟩:=I.hok l _ hH
 exact⟨z,its,n,r,r.length,e⟩
theorem z5a{n:Nat}(h:n<=Q0k):Q1g.List.listTooLong n=false:=by
 unfold Q1g.List.listTooLong
 exact decide_eq_false (by omega)
end
section
variable{X:Cx}
def z7m:V->List V->Hp->VK->Prop:=fun x vs H Q=>∃l xs y,x=.ref l/\vs=[y]/\H l=some (.lst xs)/\xs.length<Q0k/\Q .non (upd H l (.lst (xs++[y])))
theorem z1q:MtM X "list.append" z7m:=by
 intro pins s σ H x vs v us Q I rx rv h
 obtain⟨l,xs,y,rfl,rfl,hH,hz,q⟩:=h
 cases rx
 obtain⟨u,rfl,ru⟩:=rv.one
 obtain⟨z,its,n,r,hl,e⟩:=I.lstM hH
 refine Q5q F.slot_list_append ⟨_,e,rfl⟩ F.entry_list_append (F.args_list_append_2 _ _) (PySem.list_append l its.toArray n u (by rw[Q0f];omega)) ⟨e,?_⟩
 refine⟨.non,_,I.lset (its':=its++[u]) hH e (by simp) (r.append (.cons ru .nil)) ?_,rfl,q⟩
 rw[Q0s,Q3u]
 omega
def rCat:R2:=fun x y H Q=>∃l b xs zs,x=.ref l/\y=.ref b/\H l=some (.lst xs)/\H b=some (.lst zs)/\xs.length+zs.length<=Q0k/\∀p,H p=none->Q (.ref p) (upd H p (.lst (xs++zs)))
theorem y1n:OpR X (binaryOp .Add) rCat:=by
 intro pins s σ H x y v u Q I rx ry h
 obtain⟨l,b,xs,zs,rfl,rfl,hH,hB,hz,q⟩:=h
 cases rx
 cases ry
 obtain⟨z,its,n,r,hl,e⟩:=I.lstM hH
 obtain⟨z2,its2,n2,r2,hl2,e2⟩:=I.lstM hB
 refine PySem.P.add_list e e2 ?_ (by rw[Q0f,Q0f];omega)
 have ea:its.toArray++its2.toArray=(its++its2).toArray:=by simp
 rw[ea]
 exact⟨.ref _,_,I.lnew (t':=s.toks) (r.append r2) (by rw[Q0s];omega),rfl,q _ I.fresh⟩
def rRep:R2:=fun x y H Q=>∃l k xs,x=.ref l/\y=.int k/\H l=some (.lst xs)/\-(2 ^ 63)<=k/\k<2 ^ 63/\xs.length*k.toNat<=Q0k/\
 ∀p,H p=none->Q (.ref p) (upd H p (.lst (Q1d k.toNat xs).flatten))
theorem z8q{α:Type}(xs:List α)(k:Nat):(Q1d k xs).flatten.length=k*xs.length:=by
 induction k with
 |zero=>simp
 |succ k ih=>rw[Q2l,Q2z,Q0s,ih,Nat.succ_mul,Nat.add_comm]
theorem y1k:OpR X (binaryOp .Mult) rRep:=by
 intro pins s σ H x y v u Q I rx ry h
 obtain⟨l,k,xs,rfl,rfl,hH,h1,h2,hz,q⟩:=h
 cases rx
 obtain⟨t,rfl⟩:=ry
 obtain⟨z,its,n,r,hl,e⟩:=I.lstM hH
 have hlen:its.toArray.size*k.toNat<=Q0k:=by rw[Q0f,<-hl];exact hz
 have hcap:¬its.toArray.size*k.toNat > (2 ^ 63-1) / 8:=by
  have:(Q0k:Nat)<=(2 ^ 63-1) / 8:=by decide
  omega
 have hfit:¬(!Q1g.List.listFitsIndex k)=true:=by
  rw[fitsIndex_both h1 h2]
  exact Q3o
 have hlong:¬Q1g.List.listTooLong (its.toArray.size*k.toNat)=true:=by
  rw[z5a hlen]
  exact Q3o
 have hnew:Q8w (fun x1 x2=>x1++x2) #[] (Q1d (if its.toArray.isEmpty=true then 0 else k.toNat) its.toArray)=(Q1d k.toNat its).flatten.toArray:=by
  have f0:∀m:Nat,Q8w (fun x1 x2=>x1++x2) #[] (Q1d m its.toArray)=(Q1d m its).flatten.toArray:=fun m=>by
   have:=q5v its m []
   rw[List.nil_append]at this
   exact this
  rw[f0]
  cases its with
  |nil=>simp
  |cons a r'=>rw[if_neg (by simp)]
 refine wpAny_binaryOp_repeat_ref (T:= "list") (U:= "int") (by decide) ⟨_,e,rfl⟩ (fun s'=>Z0e s' k t) noFill_list_mul F.fills_int_mul Z0f repeat_list F.slot_int_index.lookup
  (Q5q Z0f (Z0e s k t) F.entry_int_rmul (F.args_int_rmul_2 _ _) (int___rmul___int_list k t l its.toArray n)
   ⟨e,rfl,⟨_,e,rfl⟩,Q5q F.slot_list_mul ⟨_,e,rfl⟩ F.entry_list_mul (F.args_list_mul_2 _ _) (AutoListH.list___mul___list_int_3 l its.toArray n k t hfit hcap hlong) ⟨e,?_⟩⟩)
 rw[hnew]
 exact⟨.ref _,_,I.lnew (t':=s.toks) (r.rep k.toNat) (by rw[z8q,Nat.mul_comm];exact hz),rfl,q _ I.fresh⟩
end
section
variable{prog:Q0l}{w:Q1a}{A:Q0w}{E:Q0a->Q0b->Prop}{s:Q0b}
end
section
variable{X:Cx}
end
end L2
namespace Att
open PySem PySem.W PySem.Calls PyProof.Rows
theorem q3m{P:Params}{h:Q0z}:∀(ns:List Int)(vs:List Q0a),WellAll P h vs (ns.map Z0w)->Q8q vs ns:=by
 intro ns
 induction ns with
 |nil=>
  intro vs w
  rw[Q7r]at w
  cases w
  exact .nil
 |cons n ns ih=>
  intro vs w
  rw[Q1c]at w
  cases w with
  |cons a b=>
   cases a
   exact .cons _ _ (ih _ b)
theorem z0w {l : Q6f} {n : Nat} (hn : l.most = some n) {P : Params} {h : Q0z} {args : List WData} {vals : List Q0a}
  (hpre : l.row.toRowW.claim.pre args = true) (hwl : WellAll P h vals args) :
  ∃ a vs ns, vals = [Q0a.ref a] /\ args = [WData.list (ns.map Z0w)] /\ h.get? a = some { cls := .type "list", data := .seq vs.toArray } /\ Q8q vs ns /\ ns.length <= n := by
 have hsh : WShape.hasAll [] args [.list .int] = true := (pre_splitW hpre).1
 have hc : l.pre.holds [] { args := args } = true := (pre_splitW hpre).2
 obtain ⟨d, r, rfl, h1, h2⟩ := hasAllW_cons hsh
 obtain rfl := hasAllW_nil h2
 obtain ⟨xs, rfl, h3⟩ := hasW_list h1
 obtain ⟨ns, rfl⟩ := items_int h3
 have hlen : ns.length <= n := by
  unfold Q6f.pre at hc
  have h4 : (WTm.not (.lt (.lit (.int (n : Int))) (.len (.arg 0)))).holds [] { args := [.list (ns.map .int)] } = true := by
   have h4 := (holds_andW hc).1
   rw [hn] at h4
   exact h4
  have h5 := condW_of h4 (w_not (w_lt w_lit (w_len_list (w_arg rfl))))
  rw [Q1s] at h5
  refine Nat.le_of_not_lt fun q => ?_
  have q' : (n : Int) < ((ns.length : Nat) : Int) := by omega
  first
   | (rw [decide_eq_true q'] at h5; exact absurd h5 (by decide))
   | (simp at h5; omega)
 cases hwl with
 | cons w1 w2 =>
  cases w2
  cases w1 with
  | list ho hall => exact ⟨_, _, ns, rfl, rfl, ho, q3m ns _ hall, hlen⟩
theorem z1c(l:Q6f)(args:List WData):l.row.toRowW.claim.post args (.bool true) args=true:=
 postW_of (r:=l.row.toRowW) (X:=(true==true))
  (show Z0g [] (.bool true) .bool=true by first|rfl|decide|simp[Z0g,WShape.arms,WShape.armsAll])
  (show(WTm.eq .res (.lit (.bool true))).value [] {args:=args,res:=some (.bool true),after:=args}=some (.bool (true==true))from w_eq_bool (w_res rfl) w_lit) rfl
theorem attach_call{l:Q6f}{n:Nat}{q:Q0l}{loose:List Str}{XP:(Str->Option Q0a)->Q0z->Prop}{YP:Q1a->Q0z->Prop}{d:DefRec}
  (hn:l.most=some n) (hdf:d.params.defaults=[])
  (call:∀(w:Q1a)(s₀ s₁:Q0b)(mg mb:Str->Option Q0a)(fa:Q0i)(o:Obj)(pm cd doc:Q0a)(a:Q0i)(vs:List Q0a)(ns:List Int),
   Ground q loose [] XP w s₀ mg mb s₁.heap->YP w s₁.heap->
   s₁.heap.get? fa=some o->o.data=.func (docDef d.name d.params d.body d.scope pm cd doc)->s₁.heap.CodeRec cd d.name->mg d.name=some (.ref fa)->
   s₁.heap.get? a=some {cls:=.type "list",data:=.seq vs.toArray}->Q8q vs ns->ns.length<=n->s₁.gens=#[]->
   codeAny (model l.prog w) callerA (.call (.ref fa) ⟨[.ref a],[]⟩) (fun r s'=>r=.ok (.ret (.bool true))/\OldK s₁.heap s'.heap/\s'.os=s₁.os/\Q4y s'.gens) s₁) :
  WalkO q loose XP YP l.row.toRowW d [] (fun f vs=>Q8r f vs):=by
 intro w s₀ s₁ mg mb G Y fa o pm cd doc dV kV ho hd hcd hD hmg hg args vals as hpre hlay hrd hwl hlo
 obtain rfl:dV=.none:=Dflts.none hD hdf
 obtain rfl:kV=.none:=Dflts.noKw hD
 obtain⟨a,vs,ns,rfl,rfl,hobj,hints,hlen⟩:=z0w hn hpre hwl
 refine enter_call (Q5o (call w s₀ s₁ mg mb fa o pm cd doc a vs ns G Y ho (fd_plain hd) hcd hmg hobj hints hlen hg) fun r s' hq=>?_)
 obtain⟨rfl,h2,h3,h4⟩:=hq
 exact⟨.inl ⟨.bool true,.bool true,[],rfl,fun _=>rfl,.bool true,z1c l _,fun _=>⟨Z0h,fun _ hm=>(nomatch hm)⟩⟩,h2,h3,h4⟩
section
variable{prog:Q0l}{w:Q1a}{A:Q0w}{E:Q0a->Q0b->Prop}{s:Q0b}{K:Q1n}
end
end Att
namespace L2
open PySem PySem.Spec PyProof.Rows
theorem q1v:∀{vs:List Q0a}{ns:List Int},Q8q vs ns->Vals (ns.map V.int) vs
 |_,_,.nil=>.nil
 |_,_,.cons n t h=>.cons ⟨t,rfl⟩ (q1v h)
def Only(H:Hp):Prop:=∀b,H b=none\/∃o xs,H b=some (.frz o (.lst xs))
theorem z5g{P:Q0l}{w:Q1a}{K:Q1n}{mg mb:Str->Option Q0a}{CX:CXT}{k:Nat}{fa a:Q0i}{fd:Q1u}{x:Str}{sp:Sp}{s₁:Q0b}{vs:List Q0a}{ns:List Int}
  (KX:K.In s₁.heap) (hns:s₁.heap.Ns Q0r mg) (hb:s₁.heap.Ns builtinsNs mb) (hbb:∀x:Str,x≠ "__name__" ->mb x=bootBuiltins x) (hlim:s₁.heap.NoLimit) (hg:s₁.gens=#[])
  (ha:s₁.heap.get? a=some {cls:=.type "list",data:=.seq vs.toArray}) (hi:Q8q vs ns) (hl:ns.length<=Q0k) (hr:Room k callerA)
  (F:∀base:Q0z,K.In base->base.Ns Q0r mg->FnOk P w K mg base CX k fa fd [x] sp) (hbind:∀(s:Q0b)(u:Q0a),Q8m s fd ⟨[u],[]⟩ [(x,u)])
  (hsp:∀H:Hp,Only H->SqL K H a (ns.map V.int)->sp [.ref a] H (fun v _=>v=.bl true) fun _ _ _=>False)
  (hCX:∀H e s',CX [] H s₁ (fun _ _ _=>False) e s'->False) :
  codeAny (model P w) callerA (.call (.ref fa) ⟨[.ref a],[]⟩) (fun r s'=>r=.ok (.ret (.bool true))/\OldK s₁.heap s'.heap/\s'.os=s₁.os/\Q4y s'.gens) s₁:=by
 have rv:=q1v hi
 have lenV:=hi.length
 have core:∀H:Hp,Only H->SqL K H a (ns.map V.int)->HOk P w H s₁.heap->(∀b,H b≠none->b=a)->(H a≠none->K.lookup a=none)->
   codeAny (model P w) callerA (.call (.ref fa) ⟨[.ref a],[]⟩) (fun r s'=>r=.ok (.ret (.bool true))/\OldK s₁.heap s'.heap/\s'.os=s₁.os/\Q4y s'.gens) s₁:=by
  intro H hO hS hok hA hK
  have base_of:∀{b:Q0i}{o:Obj},s₁.heap.get? b=some o->H b=none->(hidT s₁.heap H).get? b=some o:=fun e n=>z5m e n
  have noA:∀{b:Q0i}{o:Obj}{es:Array Z0v}{ep:Nat},s₁.heap.get? b=some o->o.data=.dict es ep->H b=none:=fun {b o es ep} e d=>by
   cases q:H b with
   |none=>rfl
   |some u=>
    have e':b=a:=hA b (by rw[q];simp)
    subst e'
    rw[ha]at e;cases e
    have d':Data.seq vs.toArray _=Data.dict es ep:=d
    cases d'
  have nsK:∀{b:Q0i}{m:Str->Option Q0a},s₁.heap.Ns b m->(hidT s₁.heap H).Ns b m:=fun {b m} ⟨o,es,ep,e,d,r⟩=>⟨o,es,ep,base_of e (noA e d),d,r⟩
  have hKb:K.In (hidT s₁.heap H):=fun b o e=>base_of (KX b o e) (by
   cases q:H b with
   |none=>rfl
   |some u=>
    have e':b=a:=hA b (by rw [q];simp)
    subst e'
    rw [hK (by rw [q];simp)]at e;cases e)
  have hM:Mod K mg (hidT s₁.heap H):=⟨hKb,nsK hns,⟨mb,nsK hb,hbb⟩,let ⟨mc,h1,h2⟩:=hlim;⟨mc,nsK h1,h2⟩⟩
  have e0:Env0 P w K mg (hidT s₁.heap H) callerA [] s₁ H:=⟨rfl,hM,fun b o e=>z8f e,Nat.le_of_eq (z2n _ _),trivial,fun b hb=>absurd (show b∈([]:List Q0i)from hb) (by simp),hok,.of_eq hg⟩
  refine Q5o ((F _ hKb (nsK hns)).run callerA [] s₁ H ⟨[.ref a],[]⟩ [.ref a] [.ref a] _ _ hr e0 (hbind s₁ (.ref a)) (.cons rfl .nil) (hsp H hO hS)) fun r s' h=>?_
  cases r with
  |error e=>exact(hCX H e s' h).elim
  |ok fl=>
   cases fl with
   |next=>exact Q2g h
   |brk=>exact Q2g h
   |cont=>exact Q2g h
   |ret u=>
    obtain⟨v,H',os,bare,un,hok',r',q⟩:=h
    have q':v=.bl true:=q
    subst q'
    obtain rfl:u=Q0a.bool true:=r'
    refine⟨rfl,OldK.of_keep fun b o e=>?_,os,bare⟩
    cases q:H b with
    |none=>exact un.keep b o e q (by intro z;exact absurd (show b∈([]:List Q0i)from z) (by simp)) (by simp)
    |some u=>
     rcases hO b with z|⟨ob,xs,z⟩
     ·rw[q]at z;cases z
     ·have z2:=un.frzs b ob _ z
      obtain⟨e1,_⟩:=hok b _ z
      obtain⟨e2,_⟩:=hok' b _ z2
      rw[e]at e1;cases e1
      exact e2
 cases hk:K.lookup a with
 |some o=>
  have e:=KX a o hk
  rw[ha]at e
  cases e
  refine core (fun _=>none) (fun _=>.inl rfl) (.inr ⟨_,vs.toArray,_,hk,rfl,rfl,rfl,by rw[Q0f,lenV];exact hl,by simpa using rv⟩) (fun b u z=>by have z':(none:Option HO)=some u:=z;cases z') (fun b z=>absurd rfl z) fun z=>absurd rfl z
 |none=>
  refine core (fun b=>if b=a then some (.frz {cls:=.type "list",data:=.seq vs.toArray} (.lst (ns.map V.int)))else none) (fun b=>?_) (.inl (.inr ⟨{cls:=.type "list",data:=.seq vs.toArray},if_pos rfl⟩)) (fun b u z=>?_) (fun b z=>?_) fun _=>hk
  ·by_cases hb:b=a
   ·exact .inr ⟨_,_,if_pos hb⟩
   ·exact .inl (if_neg hb)
  ·by_cases hb:b=a
   ·have z':=(if_pos hb).symm.trans z
    cases z'
    subst hb
    exact⟨ha,by rw[Q1s];exact hl,vs,_,rv,ha⟩
   ·have z':=(if_neg hb).symm.trans z
    cases z'
  ·by_cases hb:b=a
   ·exact hb
   ·exact absurd (if_neg hb) z
theorem q9y{l:Q6f}{n k:Nat}{q:Q0l}{loose:List Str}{XP:(Str->Option Q0a)->Q0z->Prop}{YP:Q1a->Q0z->Prop}{d:DefRec}{K:Params->Q1n}{CX:Q1a->CXT}{sp:Q1a->Sp}{x:Str}
  (hn:l.most=some n) (hn2:n<=Q0k) (hdf:d.params.defaults=[]) (hr:Room k callerA)
  (hY:∀(w:Q1a)(h:Q0z),YP w h->(K w.params).In h)
  (F:∀(w:Q1a)(mg:Str->Option Q0a)(fa:Q0i)(h:Q0z),(K w.params).In h->h.Ns Q0r mg->mg d.name=some (.ref fa)->
   ∃fd:Q1u,(∀(s:Q0b)(u:Q0a),Q8m s fd ⟨[u],[]⟩ [(x,u)])/\
    ∀base:Q0z,(K w.params).In base->base.Ns Q0r mg->FnOk l.prog w (K w.params) mg base (CX w) k fa fd [x] (sp w))
  (hsp:∀(w:Q1a)(H:Hp)(a:Q0i)(ns:List Int),ns.length<=n->Only H->SqL (K w.params) H a (ns.map V.int)->sp w [.ref a] H (fun v _=>v=.bl true) fun _ _ _=>False)
  (hCX:∀(w:Q1a)(H:Hp)(s:Q0b)(e:Q0a)(s':Q0b),CX w [] H s (fun _ _ _=>False) e s'->False) :
  Q9g q loose XP YP l.row.toRowW d [] (fun f vs=>Q8r f vs):=by
 refine Att.attach_call hn hdf fun w s₀ s₁ mg mb fa o pm cd doc a vs ns G Y ho hd hcd hmg hobj hints hlen hg=>?_
 have KX:=hY w _ Y
 obtain⟨fd,hb,hF⟩:=F w mg fa _ KX G.T.g hmg
 exact z5g KX G.T.g G.T.b G.T.builtins G.T.nolimit hg hobj hints (Q1t hlen hn2) hr hF hb (fun H hO hS=>hsp w H a ns hlen hO hS) fun H e s'=>hCX w H s₁ e s'
end L2
/- THE LAST THEOREM (shape;LID,My.* are yours):
   My.Adr: a structure of the addresses that your layer names (classes,functions);My.Txt K t: a structure (Prop) of the equations over K;
   My.txt_mk:{K} {implicit addresses ..} (e1:nsIn K Q0r "law" = some (some (.ref f))) (e2:K.lookup f=some ⟨oc,od,.func (fnOf "law" "law" params body scope dV kV doc pm an cdv ct),sl⟩) (e3:codeIn K cdv "law" = true) ..:∃t,My.Txt K t
set_option maxRecDepth 100000 in
set_option maxHeartbeats 0 in
theorem PySem.Challenge.cw_LID_holds : PySem.Challenge.rw_LID.Holds := by
 w_on;o_law;k_head;(case hw => w_witness2)
 k_fill
 refine L2.q9y (l := PySem.Challenge.rw_LID) (n := 63) (k := 40) (x := "script") (CX := fun w => ..) (sp := fun _ => My.sp_law) rfl (by decide) rfl ⟨rfl, by decide, by decide⟩ (fun w h Y => PySem.W.kIn_of Y) ?F ?S ?C
 case F =>
  intro w mg fa h KX G hmg
  have T : ∃ t, My.Txt (L2.KOf KX) t := by
   dsimp only[L2.KOf]                          -- K must stand as «<heap const> w.params» for k_is
   refine' My.txt_mk ?e1 ?e2 ?e3 ..
   (case e1 => PySem.W.k_is)                    -- in the order: a name -> its address -> its object -> its parts
   (case e2 => PySem.W.k_is)
   ..
  obtain⟨t, T⟩ := T
  have e0 := hmg.symm.trans (Q1z KX G T.law)
  cases e0                                       -- fa is the law's own address
  exact⟨_, fun s u => .of_eq rfl, fun base kb nb => My.law_fn T kb nb⟩     -- if «.of_eq rfl» comes too early: refine' ⟨_, ?b, fun base kb nb => My.law_fn T kb nb⟩;exact fun s u => .of_eq rfl
 case S => exact fun w H a ns hl hO hS => ..
 case C => exact ..
(the tactic k_is has no namespace: write k_is) -/
namespace L2
open PySem PySem.Spec PyProof.Rows
def q1j(s:Q3t):Arguments:=match s with
 |.FunctionDef _ a _ _ _ _ _ _ _ _=>a
 |_=>{posonlyargs:=[],args:=[],vararg:=none,kwonlyargs:=[],kw_defaults:=[],kwarg:=none,defaults:=[]}
def q0u(s:Q3t):List Q3t:=match s with
 |.FunctionDef _ _ b _ _ _ _ _ _ _=>b
 |_=>[]
def q0e(s:Q3t):Q3n:=match s with
 |.FunctionDef _ _ _ _ _ _ sc _ _ _=>sc
 |_=>{kind:=.function,names:=[],isGenerator:=false,isCoroutine:=false}
abbrev E0:XK:=fun _ _ _=>False
structure Fun(K:Q1n)(x qual:Str)(st:Q3t)(f:Q0i)(fd:Q1u):Prop where
 ex:∃(oc:Q0a)(od:Option Q0i)(kV doc pm:Q0a)(an:Option Q0i)(cdv ct:Q0a)(osl:Array (Option Q0a)),
  fd=Q2q x qual (q1j st) (q0u st) (q0e st) .none kV doc pm an cdv ct/\K.lookup f=some ⟨oc,od,.func fd,osl⟩/\Q3z K cdv qual=true
 kp:Q3c K (.ref f)=true
section
variable{P:Q0l}{w:Q1a}{K:Q1n}{mg:Str->Option Q0a}{base:Q0z}
theorem Fun.binds{x qual:Str}{st:Q3t}{f:Q0i}{fd:Q1u}{ps:List Str}(F:Fun K x qual st f fd)
  (h:∀(kV doc pm:Q0a)(an:Option Q0i)(cdv ct:Q0a)(us:List Q0a),us.length=ps.length->bindArgs (Q2q x qual (q1j st) (q0u st) (q0e st) .none kV doc pm an cdv ct) ⟨us,[]⟩=pure (ps.zip us)):q2l K fd ps []:=by
 obtain⟨oc,od,kV,doc,pm,an,cdv,ct,osl,rfl,lk,hcd⟩:=F.ex
 exact .all (h kV doc pm an cdv ct)
theorem y2k{x qual:Str}{st:Q3t}{f:Q0i}{oc:Q0a}{od an:Option Q0i}{osl:Array (Option Q0a)}{kV doc pm cdv ct:Q0a}(l:K.lookup f=some ⟨oc,od,.func (Q2q x qual (q1j st) (q0u st) (q0e st) .none kV doc pm an cdv ct),osl⟩)
  (c:Q3z K cdv qual=true) (k:Q3c K (.ref f)=true):Fun K x qual st f (Q2q x qual (q1j st) (q0u st) (q0e st) .none kV doc pm an cdv ct):=⟨⟨oc,od,kV,doc,pm,an,cdv,ct,osl,rfl,l,c⟩,k⟩
end
section
variable{X:Cx}
theorem pv(i:Nat){x:Str}{pos:Pos}(hN:X.N[i]?=some x:=by rfl)(hv:Vis X.env.scope x:=by first|exact Q5y rfl|exact Q4l (Q5y rfl)|exact Q4l (Q4l rfl))(hd:(x==("__debug__" : Str))=false:=by decide)
  (hcd:(x==("__classdict__" : Str))=false:=by decide):PE X (.Name x pos) (tVar i):=z1f hN hv hd hcd
end
theorem ite2{c A B:Prop} [Decidable c] (h1:c->A) (h2:¬c->B):if c then A else B:=by
 by_cases h:c
 ·rw[if_pos h]
  exact h1 h
 ·rw[if_neg h]
  exact h2 h
structure Fly(e:Q0i)(cls:Q0a)(dx:Option Q0i)(own:List Q0i)(h:Q0z):Prop where
 is:∃(oe:Obj)(vs:Array Q0a)(hd:Q0a),h.get? e=some oe/\oe.cls=cls/\oe.dict=dx/\oe.data=.fields vs/\vs[1]?=some hd/\
  (hd=.none\/∃(T:Q0i)(oT:Obj)(ts:Array Q0a),hd=.ref T/\T∈own/\T≠e/\h.get? T=some oT/\oT.data=.fields ts/\ts[3]?=some .none)
structure Past(fs own:List Q0i)(h h':Q0z):Prop where
 keep:∀b o,h.get? b=some o->b∉own->b∉fs->h'.get? b=some o
 slot:∀b o,h.get? b=some o->b∉own->b∈fs->∃sl,h'.get? b=some {o with slots:=sl}
 there:∀b o,h.get? b=some o->∃o',h'.get? b=some o'
theorem Past.refl(fs own:List Q0i)(h:Q0z):Past fs own h h:=⟨fun _ _ q _ _=>q,fun _ o q _ _=>⟨o.slots,q⟩,fun _ o q=>⟨o,q⟩⟩
theorem Past.trans{fs own:List Q0i}{h1 h2 h3:Q0z}(a:Past fs own h1 h2)(b:Past fs own h2 h3):Past fs own h1 h3 where
 keep:=fun c o q n m=>b.keep c o (a.keep c o q n m) n m
 slot:=fun c o q n m=>by
  obtain⟨sl,q1⟩:=a.slot c o q n m
  obtain⟨sl2,q2⟩:=b.slot c _ q1 n m
  exact⟨sl2,q2⟩
 there:=fun c o q=>by
  obtain⟨o1,q1⟩:=a.there c o q
  exact b.there c o1 q1
theorem q8z{fs own:List Q0i}{h h':Q0z}(x:Q0z.SlotsOnly fs h h'):Past fs own h h' where
 keep:=fun b o q _ m=>by rw[x.2.1 b m];exact q
 slot:=fun b o q _ _=>x.2.2 b o q
 there:=fun b o q=>let ⟨_,z⟩:=x.2.2 b o q;⟨_,z⟩
theorem z1k{fs own:List Q0i}(h:Q0z)(o:Obj):Past fs own h (h.push o) where
 keep:=fun b u q _ _=>Q0e o q
 slot:=fun b u q _ _=>⟨u.slots,Q0e o q⟩
 there:=fun b u q=>⟨u,Q0e o q⟩
theorem q2c{fs own:List Q0i}{h:Q0z}{a:Q0i}{oa:Obj}{vs:Array Q0a}(g:Array Q0a->Array Q0a)(ha:a∈own)(q:h.get? a=some oa)(hd:oa.data=.fields vs):Past fs own h (h.update a (Q2t g)) where
 keep:=fun b u z n _=>by rw[Q0z.get?_update_other _ _ (fun w=>n (by rw[<-w];exact ha))];exact z
 slot:=fun b u z n _=>⟨u.slots,by rw[Q0z.get?_update_other _ _ (fun w=>n (by rw[<-w];exact ha))];exact z⟩
 there:=fun b u z=>by
  by_cases w:a=b
  ·subst w
   exact⟨_,Q0z.get?_update_self _ q (Q3v (Q2x hd g))⟩
  ·exact⟨u,by rw[Q0z.get?_update_other _ _ w];exact z⟩
section
variable{M:Q9d}{A:Q0w}{E:Q0a->Q0b->Prop}{s:Q0b}
theorem q3s(f:Array Q0a->Array Q0a)(o:Obj):(Q2t f o).dict=o.dict:=by
 unfold Q2t
 split<;>rfl
theorem q7x{base:Q0z}{env:Env}{outer:List Env}{L e:Q0i}{oe:Obj}{vs:Array Q0a}{head:Q0a}{hn:Bool}{own:List Q0i}{Q:Unit->Q0b->Prop}(hfr:A.frames=some (env::outer))(hl:s.heap.FunFrames base (env::outer))
  (hf:env.frame=some L) (he:s.heap.get? e=some oe) (hd:oe.data=.fields vs) (hsz:1<vs.size) (ho:e∈own)
  (h:∀h' T,s.heap.get? T=none->Past ((env::outer).filterMap (·.frame)) own s.heap h'->Fly e oe.cls oe.dict [T] h'->Q () {s with heap:=h' }) :
  Q0y M A (do let a <-frameOf env;let pl <-entryPlaceOf L hn;let b <-Q7b head a .none (rawInt L) .none pl;setField (.ref e) 1 b) (fun _ s'=>Q0y M A (setFlight (.ref e) none) Q E s') E s:=by
 have nfr:e∉(env::outer).filterMap (·.frame):=fun z=>by
  obtain⟨-,o,q,nd⟩:=hl.mem z
  rw[he]at q;cases q
  exact nd vs hd
 refine Q0c (wpAny_frameOf_fun hfr hl hf fun g1 s1=>Q0c (wpAny_entryPlaceOf fun pl hpl=>?_))
 have P1:Past ((env::outer).filterMap (·.frame)) own s.heap g1:=q8z s1
 unfold Q7b newFields
 refine Q0c (Q3j ?_ (hpl.sizeOk5 _ _ _ _ _))
 have e1:g1.get? e=some oe:=by rw[s1.2.1 e nfr];exact he
 generalize hto:({cls:=.type "traceback",dict:=none,data:=.fields ([head,.ref L,.none,rawInt L,.none]++(if pl.isEmpty then Q1d 6 Q0a.none else pl)).toArray}:Obj)=to
 have P2:Past ((env::outer).filterMap (·.frame)) own g1 (g1.push to):=z1k g1 to
 have e2:=Q0e (h:=g1) to e1
 have Tnew:s.heap.get? g1.objs.size=none:=by
  cases q:s.heap.get? g1.objs.size with
  |none=>rfl
  |some o=>exact absurd (Q0p q) (by rw[s1.1];exact Q2s _)
 have T2:(g1.push to).get? g1.objs.size=some to:=Q0z.get?_push_size g1 (by subst hto;rfl)
 refine Q5z e2 hd hsz ?_
 have Te:g1.objs.size≠e:=Q6k (Q0p e1)
 have P3:Past ((env::outer).filterMap (·.frame)) own (g1.push to) _:=q2c (·.setIfInBounds 1 (Q0a.ref g1.objs.size)) ho e2 hd
 have d3:=Q2x hd (·.setIfInBounds 1 (Q0a.ref g1.objs.size))
 have e3:=Q0z.get?_update_self (Q2t (·.setIfInBounds 1 (Q0a.ref g1.objs.size))) e2 (Q3v d3)
 have T3:=(Q0z.get?_update_other (g1.push to) (Q2t (·.setIfInBounds 1 (Q0a.ref g1.objs.size))) (Q3s Te)).trans T2
 have tod:to.data=.fields ([head,.ref L,.none,rawInt L,.none]++(if pl.isEmpty then Q1d 6 Q0a.none else pl)).toArray:=by subst hto;rfl
 unfold setFlight
 refine Q0c (Q4h e3 d3 (x:=.ref g1.objs.size) (by simp[hsz]) ?_)
 rw[if_pos (show(Q0a.ref g1.objs.size != Q0a.none)=true by simp)]
 have sz3:3<([head,.ref L,.none,rawInt L,.none]++(if pl.isEmpty then Q1d 6 Q0a.none else pl)).toArray.size:=by
  simp only[Q0f,Q0s,Q0q,Q1k];omega
 refine Q5z T3 tod sz3 (h _ g1.objs.size Tnew ?_ ?_)
 ·have P:=(P1.trans P2).trans P3
  have nT:∀b u,s.heap.get? b=some u->g1.objs.size≠b:=fun b u z w=>by rw[w,z]at Tnew;cases Tnew
  refine⟨fun b u z n m=>?_,fun b u z n m=>?_,fun b u z=>?_⟩
  ·rw[Q0z.get?_update_other _ _ (nT b u z)]
   exact P.keep b u z n m
  ·obtain⟨sl,q⟩:=P.slot b u z n m
   exact⟨sl,by rw[Q0z.get?_update_other _ _ (nT b u z)];exact q⟩
  ·obtain⟨o',q⟩:=P.there b u z
   exact⟨o',by rw[Q0z.get?_update_other _ _ (nT b u z)];exact q⟩
 ·have T4:=Q0z.get?_update_self (Q2t (·.setIfInBounds 3 ((none:Option Q0i).elim Q0a.none fun f=>rawInt f))) T3 (Q3v (Q2x tod _))
  refine⟨_,_,.ref g1.objs.size,?_,Obj.cls_mapFields _ _,q3s _ _,d3,by simp[hsz],.inr ⟨g1.objs.size,_,_,rfl,by simp,Te,T4,Q2x tod _,?_⟩⟩
  ·rw[Q0z.get?_update_other _ _ Te]
   exact e3
  ·rw[Q4u sz3]
   rfl
theorem q7y{base:Q0z}{env:Env}{outer:List Env}{L e:Q0i}{cls:Q0a}{dx:Option Q0i}{own:List Q0i}{Q:Unit->Q0b->Prop}(hfr:A.frames=some (env::outer))(hl:s.heap.FunFrames base (env::outer))(hf:env.frame=some L)(F:Fly e cls dx own s.heap)
  (h:∀h' T,s.heap.get? T=none->Past ((env::outer).filterMap (·.frame)) (e::own) s.heap h'->Fly e cls dx [T] h'->Q () {s with heap:=h' }):Q0y M A (noteFrame (.ref e) env) (fun _ s2=>Q0y M A (setFlight (.ref e) none) Q E s2) E s:=by
 obtain⟨oe,vs,hd,he,hc,hdd,hdt,h1,hh⟩:=F.is
 subst hc hdd
 have hsz:1<vs.size:=(Q3a.mp h1).1
 unfold noteFrame
 simp only[hf]
 refine Q0c (Q4h he hdt h1 ?_)
 rcases hh with rfl|⟨T,oT,ts,rfl,hT,Te,gT,dT,h3⟩
 ·rw[if_neg (by decide)]
  exact q7x hfr hl hf he hdt hsz (by simp) h
 ·rw[if_pos (show(Q0a.ref T != Q0a.none)=true by simp)]
  refine Q0c (Q4h gT dT h3 ?_)
  rw[if_neg (show ¬((Q0a.none==rawInt L)=true) by simp[rawInt])]
  refine Q0c (Q5z gT dT (Q3a.mp h3).1 ?_)
  have P:Past ((env::outer).filterMap (·.frame)) (e::own) s.heap _:=q2c (·.setIfInBounds 3 Q0a.none) (Q1b _ hT) gT dT
  have hl2:(s.heap.update T (Q2t (·.setIfInBounds 3 Q0a.none))).FunFrames base (env::outer):=hl.of_keeps fun b o q nd=>⟨o,by
   rw [Q0z.get?_update_other _ _ (fun w=>by subst w;rw [gT]at q;cases q;exact nd ts dT)];exact q,rfl⟩
  refine q7x (own:=e::own) hfr hl2 hf (oe:=oe) (by rw[Q0z.get?_update_other _ _ Te];exact he) hdt hsz (by simp) fun h' T' n' P' F'=>h h' T' ?_ (P.trans P') F'
  cases q:s.heap.get? T' with
  |none=>rfl
  |some o=>
   obtain⟨o',z⟩:=P.there T' o q
   rw[z]at n'
   cases n'
theorem z1y{base:Q0z}{env:Env}{outer:List Env}{L e:Q0i}{cls:Q0a}{dx:Option Q0i}{own:List Q0i}{Q:Unit->Q0b->Prop}(hfr:A.frames=some (env::outer))(hl:s.heap.FunFrames base (env::outer))(hf:env.frame=some L)(F:Fly e cls dx own s.heap)
  (h:∀h' T,s.heap.get? T=none->Past ((env::outer).filterMap (·.frame)) (e::own) s.heap h'->Fly e cls dx [T] h'->Q () {s with heap:=h' }):Q0y M A (leaving env (.ref e)) Q E s:=by
 unfold leaving
 exact Q0c (q7y hfr hl hf F h)
theorem z5h{fs:List Q0i}{e T:Q0i}{cls:Q0a}{dx:Option Q0i}{Q:Unit->Q0b->Prop}(F:Fly e cls dx [T] s.heap)(h:∀h',Past fs [T] s.heap h'->Fly e cls dx [T] h'->Q () {s with heap:=h' }):Q0y M A (setFlight (.ref e) none) Q E s:=by
 obtain⟨oe,vs,hd,he,hc,hdd,hdt,h1,hh⟩:=F.is
 unfold setFlight
 refine Q0c (Q4h he hdt h1 ?_)
 rcases hh with rfl|⟨T',oT,ts,rfl,hT,Te,gT,dT,h3⟩
 ·rw[if_neg (by decide)]
  exact Q0n (h s.heap (Past.refl _ _ _) ⟨oe,vs,.none,he,hc,hdd,hdt,h1,.inl rfl⟩)
 ·have:T'=T:=by simpa using hT
  subst this
  rw[if_pos (show(Q0a.ref T' != Q0a.none)=true by simp)]
  have s3:=(Q3a.mp h3).1
  have T4:=Q0z.get?_update_self (Q2t (·.setIfInBounds 3 ((none:Option Q0i).elim Q0a.none fun f=>rawInt f))) gT (Q3v (Q2x dT _))
  refine Q5z gT dT s3 (h _ (q2c _ (by simp) gT dT) ⟨oe,vs,.ref T',by rw[Q0z.get?_update_other _ _ Te];exact he,hc,hdd,hdt,h1,.inr ⟨T',_,_,rfl,by simp,Te,T4,Q2x dT _,?_⟩⟩)
  rw[Q4u s3]
  rfl
end
def CXE(P:Q0l)(w:Q1a):CXT:=fun outer H s E e s'=>∃(a:Q0i)(cls:Q0a)(dx:Option Q0i)(own:List Q0i)(H':Hp),e=.ref a/\s'.os=s.os/\Q4y s'.gens/\Un (frs outer) [] H H' s.heap s'.heap/\HOk P w H' s'.heap/\Fly a cls dx own s'.heap/\
 (∀b∈a::own,s.heap.get? b=none/\H' b=none)/\E cls dx H'
theorem HOk.past{P:Q0l}{w:Q1a}{H:Hp}{h h':Q0z}{fs own:List Q0i}(ok:HOk P w H h)(p:Past fs own h h')(n1:∀b∈fs,H b=none)(n2:∀b∈own,H b=none):HOk P w H h':=fun a o q=>
 (ok a o q).stay (fun b u hb z=>p.keep b u z (fun m=>by
   rcases hb with rfl|hb
   ·rw [n2 _ m]at q;cases q
   ·rw [n2 _ m]at hb;cases hb) (fun m=>by
   rcases hb with rfl|hb
   ·rw [n1 _ m]at q;cases q
   ·rw [n1 _ m]at hb;cases hb)) (fun _ q=>q) fun _ _ q=>q
theorem q0j.ex{P:Q0l}{w:Q1a}{H:Hp}{h:Q0z}{a:Q0i}{o:HO}(x:q0j P w H h a o):∃u,h.get? a=some u:=by
 cases o with
 |lst xs=>obtain⟨_,_,_,_,e⟩:=x;exact⟨_,e⟩
 |tup xs=>obtain⟨_,_,_,_,e,_⟩:=x;exact⟨_,e⟩
 |dK kvs=>obtain⟨_,_,_,_,o,_,_,e,_⟩:=x;exact⟨_,e⟩
 |dT kvs=>obtain⟨_,_,_,_,o,_,_,e,_⟩:=x;exact⟨_,e⟩
 |dH c kvs=>obtain⟨_,_,_,_,o,_,e,_⟩:=x;exact⟨_,e⟩
 |set S n=>obtain⟨o,_,_,_,e,_⟩:=x;exact⟨_,e⟩
 |ins C dx fs=>obtain⟨_,_,_,e,_⟩:=x;exact⟨_,e⟩
 |own _=>exact x
 |xd fs=>obtain⟨_,⟨_,_,_,e,_⟩,_⟩:=x;exact⟨_,e⟩
 |rng lo hi=>obtain⟨_,_,_,e⟩:=x;exact⟨_,e⟩
 |frz o u=>exact⟨_,x.1⟩
 |tbl ps=>exact⟨_,x⟩
 |met f y=>exact⟨_,x⟩
 |ext φ=>exact x.2.1
theorem HOk.none_of{P:Q0l}{w:Q1a}{H:Hp}{h:Q0z}{b:Q0i}(ok:HOk P w H h)(n:h.get? b=none):H b=none:=by
 cases q:H b with
 |none=>rfl
 |some o=>
  obtain⟨u,z⟩:=q0j.ex (ok b o q)
  rw[n]at z;cases z
theorem y3p{P:Q0l}{w:Q1a}{K:Q1n}{mg:Str->Option Q0a}{base:Q0z}{N:List Str}{qual:Str}{scope:Q3n}{f:Q0i}{cd:Q0a}{A:Q0w}{outer:List Env}{s:Q0b}{H:Hp}{E:XK} :
  q1m (CXE P w) (cxOf (CXE P w) P w K mg base N qual scope f cd A outer s H E) E:=by
 intro pins σ H1 s1 e s2 I1 hx
 obtain⟨a,cls,dx,own,H2,rfl,os,bare,un,hok,F,new,q⟩:=hx
 have I2:=I1.call' os un hok bare (fun b z=>absurd z (by simp))
 have n0:∀b,(∃o,s.heap.get? b=some o)->∃o,s1.heap.get? b=some o:=fun b ⟨o,z⟩=>I1.base.there b o z (by intro y;cases y)
 have old:∀b,(∃o,s.heap.get? b=some o)->b∉a::own:=fun b z m=>by
  obtain⟨o,y⟩:=n0 b z
  rw[(new b m).1]at y;cases y
 have n2:∀b,(∃o,s.heap.get? b=some o)->∃o,s2.heap.get? b=some o:=fun b ⟨o,z⟩=>I2.base.there b o z (by intro y;cases y)
 refine z1y (base:=base) I2.ok.frames I2.stack rfl F fun h' T nT P' F'=>?_
 have hfr:∀b,(∃o,s.heap.get? b=some o)->b∉frs outer->b∉frs (envOfC qual scope s.heap.objs.size f cd::outer):=fun b ⟨o,z⟩ m y=>by
  have lt:=Q0p z
  have y':b∈s.heap.objs.size::frs outer:=y
  rcases Q1h.mp y' with r|r
  ·rw[r]at lt;exact absurd lt (Q2s _)
  ·exact m r
 refine⟨a,cls,dx,[T],H2,rfl,I2.os,I2.bare,⟨fun b o z n m _=>?_,fun b o z n m _=>?_,fun b o z n x=>I2.base.free b o z n x,fun b o z x=>?_,I2.base.tups,I2.base.frzs,I2.base.tbls⟩,?_,F',?_,q⟩
 ·exact P'.keep b o (I2.base.keep b o z n m (by intro y;cases y)) (old b ⟨o,z⟩) (hfr b ⟨o,z⟩ m)
 ·obtain⟨sl,y⟩:=I2.base.slot b o z n m (by intro y;cases y)
  obtain⟨sl2,y2⟩:=P'.slot b _ y (old b ⟨o,z⟩) (show b∈s.heap.objs.size::frs outer from Q1b _ m)
  exact⟨sl2,y2⟩
 ·obtain⟨o2,y⟩:=n2 b ⟨o,z⟩
  exact P'.there b o2 y
 ·exact HOk.past I2.hok P' I2.stkFree fun b m=>(new b m).2
 ·intro b m
  simp only[Q1h,Q4q,or_false]at m
  rcases m with rfl|rfl
  ·refine⟨?_,(new b (by simp)).2⟩
   cases z:s.heap.get? b with
   |none=>rfl
   |some o=>exact absurd (by simp) (old b ⟨o,z⟩)
  ·refine⟨?_,HOk.none_of I2.hok nT⟩
   cases z:s.heap.get? b with
   |none=>rfl
   |some o=>
    obtain⟨o',y⟩:=n2 b ⟨o,z⟩
    rw[nT]at y;cases y
def vErr:List Q0a:=[.type "ValueError",.type "Exception",.type "BaseException",.type "object"]
section
variable{X:Cx}{E:XK}
end
theorem Inv.stepX{X:Cx}{pins:List (Q0i×Obj)}{σ:List (Option V)}{H H':Hp}{s:Q0b}{h':Q0z}{g':Array Q8j}{t':Nat}{d':Drawn}{ch:List Q0i}(I:Inv X pins σ H s)
  (hch:∀b∈ch,(b∈X.ex\/X.s₀.heap.get? b=none)/\b≠X.env.locals/\(∀x c,X.env.cells.lookup x=some c->c≠b)/\∀p∈X.pn++pins,p.1≠b)
  (keep:∀b o,b≠X.env.locals->b∉X.fs->b∉ch->s.heap.get? b=some o->H b=none->h'.get? b=some o)
  (slot:∀b o,b≠X.env.locals->b∈X.fs->b∉ch->s.heap.get? b=some o->H b=none->∃sl,h'.get? b=some {o with slots:=sl}) (free:∀b o,b∉ch->s.heap.get? b=some o->H b=none->H' b=none)
  (there:∀b o,b∉ch->s.heap.get? b=some o->∃o',h'.get? b=some o')
  (tups:∀b xs,H b=some (.tup xs)->H' b=some (.tup xs)) (frzs:∀b o u,H b=some (.frz o u)->H' b=some (.frz o u)) (tbls:∀b ps,H b=some (.tbl ps)->∃more,H' b=some (.tbl (ps++more)))
  (ns:∀m,s.heap.Ns X.env.locals m->h'.Ns X.env.locals m) (hok:HOk X.prog X.w H' h') (hg:Q4y g') :
  Inv X pins σ H' {s with heap:=h',gens:=g',drawn:=d',toks:=t' }:=by
 have neL:∀b o,X.s₀.heap.get? b=some o->b≠X.env.locals:=fun b o e=>Q1m (Q0o (Q0p e) I.ok.above)
 have neC:∀b o,X.s₀.heap.get? b=some o->b∉X.ex->b∉ch:=fun b o e hx hb=>by
  rcases(hch b hb).1 with z|z
  ·exact hx z
  ·rw[e]at z;cases z
 have cellK:∀x c,X.env.cells.lookup x=some c->∀v,s.heap.IsCell c v->h'.IsCell c v:=fun x c e v hh1=>by
  obtain⟨o,ho,hd⟩:=hh1
  have nch:c∉ch:=fun z=>(hch c z).2.2.1 x c e rfl
  by_cases hc:c∈X.fs
  ·obtain⟨sl,q⟩:=slot c o (I.cne x c e) hc nch ho (I.freeC x c e)
   exact⟨_,q,hd⟩
  ·exact⟨o,keep c o (I.cne x c e) hc nch ho (I.freeC x c e),hd⟩
 refine⟨I.ok,I.os,hg,⟨fun b o e n hb hx=>?_,fun b o e n hb hx=>?_,fun b o e n hx=>?_,fun b o e hx=>?_,fun b xs e=>tups b xs (I.base.tups b xs e),fun b o xs e=>frzs b o xs (I.base.frzs b o xs e),fun b ps e=>?_⟩,?_,fun x c e=>?_,?_,fun x c e=>?_,fun p hp=>?_,hok,I.len⟩
 ·exact keep b o (neL b o e) hb (neC b o e hx) (I.base.keep b o e n hb hx) (I.base.free b o e n hx)
 ·obtain⟨sl,e1⟩:=I.base.slot b o e n hb hx
  obtain⟨sl',e2⟩:=slot b _ (neL b o e) hb (neC b o e hx) e1 (I.base.free b o e n hx)
  exact⟨sl',e2⟩
 ·obtain⟨o',e1⟩:=I.base.there b o e hx
  exact free b o' (neC b o e hx) e1 (I.base.free b o e n hx)
 ·obtain⟨o',e1⟩:=I.base.there b o e hx
  exact there b o' (neC b o e hx) e1
 ·obtain⟨m1,e1⟩:=I.base.tbls b ps e
  obtain⟨m2,e2⟩:=tbls b _ e1
  exact⟨m1++m2,by rw[e2,Q8d]⟩
 ·obtain⟨m,hn,hl⟩:=I.loc
  refine⟨m,ns m hn,fun i x v e1 e2 e3=>?_⟩
  obtain⟨u,r,l⟩:=hl i x v e1 e2 e3
  refine⟨u,r,?_⟩
  rcases l with l|⟨k,c,e,z⟩
  ·exact .inl l
  ·exact .inr ⟨k,c,e,cellK x c e _ z⟩
 ·obtain⟨v,z⟩:=I.cell x c e
  exact⟨v,cellK x c e v z⟩
 ·obtain⟨m,⟨o,_,_,ho,_⟩,_⟩:=I.loc
  exact free _ o (fun z=>(hch _ z).2.1 rfl) ho I.free
 ·obtain⟨v,o,ho,hd⟩:=I.cell x c e
  exact free c o (fun z=>(hch c z).2.2.1 x c e rfl) ho (I.freeC x c e)
 ·obtain⟨e,n,ne,nf,d⟩:=I.pin p hp
  have nch:p.1∉ch:=fun z=>(hch p.1 z).2.2.2 p hp rfl
  exact⟨keep p.1 p.2 ne nf nch e n,free p.1 p.2 nch e n,ne,nf,d⟩
theorem CXE.imp{P:Q0l}{w:Q1a}{outer:List Env}{H:Hp}{s s':Q0b}{E E':XK}{e:Q0a}(h:CXE P w outer H s E e s')(i:∀c d H',E c d H'->E' c d H'):CXE P w outer H s E' e s':=
 let ⟨a,cls,dx,own,H',h1,h2,h3,h4,h5,h6,h7,q⟩:=h;⟨a,cls,dx,own,H',h1,h2,h3,h4,h5,h6,h7,i _ _ _ q⟩
theorem q1m.imp{P:Q0l}{w:Q1a}{X:Cx}{E E':XK}(h:q1m (CXE P w) X E)(i:∀c d H',E' c d H'->E c d H'):q1m (CXE P w) X E':=fun pins σ H s e s' I q=>h pins σ H s e s' I (q.imp i)
theorem Fun.okX{P:Q0l}{w:Q1a}{K:Q1n}{mg:Str->Option Q0a}{base:Q0z}{x qual:Str}{st:Q3t}{f:Q0i}{fd:Q1u}{N ps:List Str}{k:Nat}{sp:Sp}(F:Fun K x qual st f fd)(S:FnScope N ps (q0e st))(len:∀vs H Q E,sp vs H Q E->vs.length=ps.length)
  (hbody:∀(cdv:Q0a)(A:Q0w)(outer:List Env)(s:Q0b)(H:Hp)(vs:List V)(Q:VK)(E:XK),RoomW k (A.deeper (envOfC qual (q0e st) s.heap.objs.size f cdv))->sp vs H Q E->
   ∃t,PSs (cxOf (CXE P w) P w K mg base N qual (q0e st) f cdv A outer s H E) (q0u st) t/\t {nx:=fun _ H'=>Q .non H',rt:=Q} (q2z N vs) H):FnOk P w K mg base (CXE P w) (k+1) f fd ps sp:=by
 obtain⟨oc,od,kV,doc,pm,an,cdv,ct,osl,rfl,lk,hcd⟩:=F.ex
 exact y3z lk hcd S len fun A outer s H vs Q E hr hsp=>hbody cdv A outer s H vs Q E hr hsp
def q1e(d:Q0i)(fs:List (Str×V)):Q0z->Prop:=fun h=>∃mA,h.Ns1 d mA/\(∀f,RelO (fs.lookup f) (mA f))/\Q7k mA (fs.map (·.1))
def ExcD(H:Hp)(a C:Q0i)(dx:Option Q0i):Prop:=∃f:Q0z->Prop,H a=some (.ext f)/\∀h,f h->∃o vs,h.get? a=some o/\o.cls=.ref C/\o.dict=dx/\o.data=.fields vs
section
variable(P:Q0l)(w:Q1a)
end
section
variable{P:Q0l}{w:Q1a}{H H':Hp}{h h':Q0z}{a:Q0i}{o:HO}
end
section
variable{P:Q0l}{w:Q1a}{H:Hp}{h h':Q0z}{x e:Q0i}{o':HO}
end
section
variable{fs fs' ex ex':List Q0i}{H H1 H2:Hp}{h h1 h2 h':Q0z}{a x e:Q0i}{o:HO}
end
section
variable{X:Cx}{pins:List (Q0i×Obj)}{σ:List (Option V)}{H H':Hp}{s:Q0b}{h':Q0z}
end
section
variable{X:Cx}
variable{a b:Expr}{ta tb:TE}{pos:Pos}
variable{tA tB':TT}{rest:List Expr}
end
section
variable{X:Cx}{pins:List (Q0i×Obj)}{σ:St}{H:Hp}{s:Q0b}{a:Q0i}{xs ys:List V}
end
section
variable{X:Cx}{pins:List (Q0i×Obj)}{σ:St}{H:Hp}{s:Q0b}{E:Q0a->Q0b->Prop}
end
section
variable{X:Cx}{st:Q3t}{rest:List Q3t}{t u:TS}{e:Expr}{te:TE}{pos:Pos}
end
section
variable{X:Cx}{pos:Pos}
end
section
variable{X:Cx}{pos:Pos}
end
section
variable{X:Cx}{tg:Expr}
end
section
variable{X:Cx}{a b c:Expr}{ta tb tc:TE}{pos:Pos}
end
section
variable{X:Cx}{a b c:Expr}{ta tb tc:TE}{pos:Pos}
end
section
variable{prog:Q0l}{w:Q1a}{A:Q0w}{E:Q0a->Q0b->Prop}{s:Q0b}{K:Q1n}{x dx C f:Q0i}{mA:Str->Option Q0a}{name:Str}{v:Q0a}
end
section
variable{P:Q0l}{w:Q1a}{H H':Hp}{h h':Q0z}{a C dx:Q0i}{fs fs':List (Str×V)}
end
section
variable{X:Cx}{pins:List (Q0i×Obj)}{σ:St}{H:Hp}{s:Q0b}{a C dx:Q0i}{fs:List (Str×V)}{f:Str}{v:V}{A:Q0w}{E:Q0a->Q0b->Prop}
end
section
variable{X:Cx}{o e value:Expr}{f:Str}{pos pos' tpos:Pos}{ta tv:TE}
end
section
variable{X:Cx}{pins:List (Q0i×Obj)}{σ:St}{H:Hp}{s:Q0b}{A:Q0w}{E:Q0a->Q0b->Prop}{Q:Q0a->Q0b->Prop}{c:Q0a}{b:Bool}
end
section
variable{X:Cx}{e:Expr}{es:List Expr}{te:TE}{t:TA}{pos:Pos}
end
section
variable{X:Cx}{pins:List (Q0i×Obj)}{σ:St}{H:Hp}{s s':Q0b}
end
section
variable{X:Cx}{CX:CXT}{k:Nat}{f C:Q0i}{fd:Q1u}{ps:List Str}{sp:Sp}{dvs:List V}{ds:List Q0a}{E:XK}{x m:Str}{p pos apos:Pos}{e o:Expr}{es:List Expr}{ta:TE}{t:TA}
end
section
variable{X:Cx}{CX:CXT}{k:Nat}{f C:Q0i}{fd:Q1u}{ps ks:List Str}{sp:Sp}{E:XK}{x m:Str}{p pos apos kpos:Pos}{e o:Expr}{es:List Expr}{kws:List Q8n}{te ta:TE}{t tk:TA}{nm:Option Str}
variable{g:List Q0a->List Q0a->List Q0a}{gV:List V->List V->List V}
end
section
variable{X:Cx}{x:Str}{p pos:Pos}{e:Expr}{es:List Expr}{t:TA}{id T:String}{r:List V->Hp->VK->Prop}
end
section
variable{κ:Type} [DecidableEq κ]
def valV(kvs:List (κ×V))(k:κ):Option V:=(kvs.find? fun kv=>decide (kv.1=k)).map (·.2)
def putK(kvs:List (κ×V))(k:κ)(v:V):List (κ×V):=
 if(kvs.any fun kv=>decide (kv.1=k))=true then kvs.map (fun kv=>if kv.1=k then(kv.1,v)else kv)else kvs++[(k,v)]
theorem q2m{p:κ×V}{r:List (κ×V)}{k:κ}(e:p.1=k):valV (p::r) k=some p.2:=by simp[valV,Q2r,e]
theorem q2n{p:κ×V}{r:List (κ×V)}{k:κ}(e:¬p.1=k):valV (p::r) k=valV r k:=by simp[valV,Q2r,e]
theorem q7p(k:κ):∀kvs:List (κ×V),(kvs.any fun kv=>decide (kv.1=k))=(valV kvs k).isSome
 |[]=>rfl
 |p::r=>by
  rw[Q4m]
  by_cases e:p.1=k
  ·simp only[q2m e,decide_eq_true e,Bool.true_or,Option.isSome_some]
  ·rw[q2n e,decide_eq_false e,Q9w];exact q7p k r
theorem q3h(kvs:List (κ×V))(k:κ)(v:V):(putK kvs k v).length<=kvs.length+1:=by
 unfold putK
 split
 ·rw[Q1s];omega
 ·rw[Q0s,Q0q,Q1k];omega
theorem RelO.isSome_eq{o:Option V}{u:Option Q0a}(r:RelO o u):o.isSome=u.isSome:=by
 cases o with
 |none=>cases u with
  |none=>rfl
  |some _=>exact(show False from r).elim
 |some _=>cases u with
  |none=>exact(show False from r).elim
  |some _=>rfl
theorem KV.val{kvs:List (κ×V)}{vs:List (κ×Q0a)}(r:KV kvs vs)(k:κ):RelO (valV kvs k) (valueAt vs k):=by
 unfold KV at r
 induction r with
 |nil=>exact Q1w
 |@cons p q ps qs h t ih=>
  obtain⟨h1,h2⟩:=h
  by_cases e:p.1=k
  ·have e':q.1=k:=h1.symm.trans e
   have b:valueAt (q::qs) k=some q.2:=by simp[valueAt,Q2r,e']
   rw[q2m e,b];exact h2
  ·have e':¬q.1=k:=fun z=>e (h1.trans z)
   have b:valueAt (q::qs) k=valueAt qs k:=by simp[valueAt,Q2r,e']
   rw[q2n e,b];exact ih
theorem KV.any{kvs:List (κ×V)}{vs:List (κ×Q0a)}(r:KV kvs vs)(k:κ):(kvs.any fun kv=>decide (kv.1=k))=vs.any fun kv=>decide (kv.1=k):=by
 unfold KV at r
 induction r with
 |nil=>rfl
 |cons h t ih=>rw[Q4m,Q4m,ih,h.1]
theorem KV.repl{kvs:List (κ×V)}{vs:List (κ×Q0a)}(r:KV kvs vs)(k:κ){y:V}{u:Q0a}(ry:RelV y u) :
  KV (kvs.map fun kv=>if kv.1=k then(kv.1,y)else kv) (vs.map fun kv=>if kv.1=k then(kv.1,u)else kv):=by
 unfold KV at r ⊢
 induction r with
 |nil=>exact .nil
 |@cons p q ps qs h t ih=>
  rw[Q1c,Q1c]
  refine .cons ?_ ih
  obtain⟨h1,h2⟩:=h
  by_cases e:p.1=k
  ·rw[if_pos e,if_pos (h1.symm.trans e)];exact⟨h1,ry⟩
  ·rw[if_neg e,if_neg (fun z=>e (h1.trans z))];exact⟨h1,h2⟩
theorem KV.put{kvs:List (κ×V)}{vs:List (κ×Q0a)}(r:KV kvs vs)(k:κ){y:V}{u:Q0a}(ry:RelV y u):KV (putK kvs k y) (stored vs k u):=by
 unfold putK stored
 rw[r.any k]
 by_cases e:(vs.any fun kv=>decide (kv.1=k))=true
 ·rw[if_pos e,if_pos e];exact r.repl k ry
 ·rw[if_neg e,if_neg e];exact Q3r.snoc r ⟨rfl,ry⟩
theorem KV.length{kvs:List (κ×V)}{vs:List (κ×Q0a)}(r:KV kvs vs):kvs.length=vs.length:=Q3r.length r
end
theorem z8t{P:Q0l}{w:Q1a}{k:Key}{u:Q0a}(r:RelV (kV k) u):(q0h P w).is k u=true:=by
 cases k with
 |inl i=>obtain⟨t,e⟩:=(show ∃t,u=Q0a.int i t from r);subst e;exact q3c P w i t
 |inr x=>obtain⟨t,e⟩:=(show ∃t,u=Q0a.str x t from r);subst e;exact q3b P w x t
theorem q5l{P:Q0l}{w:Q1a}:∀{ks:List Key}{us:List Q0a},Vals (ks.map kV) us->ItemsAre (q0h P w) ks us
 |[],_,r=>by rw[Q7r]at r;cases r;exact .nil
 |k::ks,_,r=>by
  rw[Q1c]at r
  cases r with
  |cons h t=>exact .cons (z8t h) (q5l t)
abbrev KT(H:Hp):List (List Key×V)->List (List Key×Q0i×Q0a)->Prop:=Q3r fun p q=>p.1=q.1/\H q.2.1=some (.tup (p.1.map kV))/\RelV p.2 q.2.2
theorem KT.val{H:Hp}{kvs:List (List Key×V)}{xs:List (List Key×Q0i×Q0a)}(r:KT H kvs xs)(k:List Key):RelO (valV kvs k) ((atKey xs k).map (·.2)):=by
 induction r with
 |nil=>exact Q1w
 |@cons p q ps qs h t ih=>
  obtain⟨h1,_,h2⟩:=h
  by_cases e:p.1=k
  ·have e':q.1=k:=h1.symm.trans e
   have b:atKey (q::qs) k=some q.2:=by simp[atKey,Q2r,e']
   rw[q2m e,b];exact h2
  ·have e':¬q.1=k:=fun z=>e (h1.trans z)
   have b:atKey (q::qs) k=atKey qs k:=by simp[atKey,Q2r,e']
   rw[q2n e,b];exact ih
theorem KT.repl{H:Hp}{kvs:List (List Key×V)}{xs:List (List Key×Q0i×Q0a)}(r:KT H kvs xs)(k:List Key){y:V}{u:Q0a}(ry:RelV y u) :
  KT H (kvs.map fun kv=>if kv.1=k then(kv.1,y)else kv) (xs.map (putAt k u)):=by
 induction r with
 |nil=>exact .nil
 |@cons p q ps qs h t ih=>
  rw[Q1c,Q1c]
  refine .cons ?_ ih
  obtain⟨h1,h2,h3⟩:=h
  unfold putAt
  by_cases e:p.1=k
  ·rw[if_pos e,if_pos (h1.symm.trans e)];exact⟨h1,h2,ry⟩
  ·rw[if_neg e,if_neg (fun z=>e (h1.trans z))];exact⟨h1,h2,h3⟩
theorem KT.put{H:Hp}{kvs:List (List Key×V)}{xs:List (List Key×Q0i×Q0a)}(r:KT H kvs xs)(k:List Key){b:Q0i}{y:V}{u:Q0a}(hb:H b=some (.tup (k.map kV)))(ry:RelV y u) :
  KT H (putK kvs k y) (storedH xs k b u):=by
 have e:(kvs.any fun kv=>decide (kv.1=k))=(atKey xs k).isSome:=by
  rw[q7p,(r.val k).isSome_eq,Option.isSome_map]
 unfold putK storedH
 rw[e]
 by_cases q:(atKey xs k).isSome=true
 ·rw[if_pos q,if_pos q];exact r.repl k ry
 ·rw[if_neg q,if_neg q];exact Q3r.snoc r ⟨rfl,hb,ry⟩
theorem KT.keeps{H H':Hp}{kvs:List (List Key×V)}{xs:List (List Key×Q0i×Q0a)}(r:KT H kvs xs)(ht:∀b ys,H b=some (.tup ys)->H' b=some (.tup ys)):KT H' kvs xs:=
 Q3r.mapP r fun _ _ z=>⟨z.1,ht _ _ z.2.1,z.2.2⟩
section
variable{P:Q0l}{w:Q1a}{H:Hp}{h:Q0z}{a:Q0i}
theorem y0h{u:HO}(ok:HOk P w H h)(e:Rd H a u):q0j P w H h a u:=e.ok ok
theorem z9g{kvs:List (Key×V)}(ok:HOk P w H h)(e:Rd H a (.dK kvs)):kvs.length<=Q0k/\(a==sysModules)=false/\∃vs,KV kvs vs/\h.DictOf (q0h P w) a vs:=
 show q0j P w H h a (.dK kvs)from y0h ok e
theorem y4c{kvs:List (Key×V)}(ok:HOk P w H h)(e:H a=some (.dK kvs)):kvs.length<=Q0k/\(a==sysModules)=false/\∃vs,KV kvs vs/\h.DictOf (q0h P w) a vs:=z9g ok (.inl e)
theorem z2b{ks:List Key}(ok:HOk P w H h)(e:H a=some (.tup (ks.map kV))):(tupleKind (q0h P w)).is h ks a:=by
 obtain⟨_,its,r,o,h1,h2,n,h3⟩:=(show q0j P w H h a (.tup (ks.map kV))from ok a _ e)
 exact⟨o,its.toArray,n,h1,h2,h3,by simpa using q5l r⟩
theorem z9f{kvs:List (List Key×V)}(ok:HOk P w H h)(e:Rd H a (.dT kvs)):kvs.length<=Q0k/\(a==sysModules)=false/\
  ∃xs,KT H kvs xs/\h.DictOfH (tupleKind (q0h P w)) a xs:=by
 obtain⟨z,y,xs,r,o,es,ep,h1,h2,h3,h4,h5⟩:=(show q0j P w H h a (.dT kvs)from y0h ok e)
 refine⟨z,y,xs,r,o,es,ep,h1,h2,h3,h4,fun x hx=>?_,h5⟩
 have all:∀{l:List (List Key×V)}{m:List (List Key×Q0i×Q0a)},KT H l m->∀x∈m,(tupleKind (q0h P w)).is h x.1 x.2.1:=by
  intro l m q
  induction q with
  |nil=>intro x hx;exact nomatch hx
  |@cons p q ps qs hq t ih=>
   intro x hx
   rcases Q1h.mp hx with e|hx
   ·subst e
    exact z2b ok (by rw[<-hq.1];exact hq.2.1)
   ·exact ih x hx
 exact all r x hx
theorem y4a{kvs:List (List Key×V)}(ok:HOk P w H h)(e:H a=some (.dT kvs)):kvs.length<=Q0k/\(a==sysModules)=false/\
  ∃xs,KT H kvs xs/\h.DictOfH (tupleKind (q0h P w)) a xs:=z9f ok (.inl e)
end
def DGet(H:Hp)(a:Q0i)(y:V)(r:Option V):Prop:=
 (∃kvs k,Rd H a (.dK kvs)/\y=kV k/\r=valV kvs k)\/∃kvs k b,Rd H a (.dT kvs)/\y=.ref b/\H b=some (.tup (k.map kV))/\r=valV kvs k
def DPut(H:Hp)(a:Q0i)(y v:V)(H':Hp):Prop:=
 (∃kvs k,H a=some (.dK kvs)/\y=kV k/\kvs.length<Q0k/\H'=upd H a (.dK (putK kvs k v)))\/
 ∃kvs k b,H a=some (.dT kvs)/\y=.ref b/\H b=some (.tup (k.map kV))/\kvs.length<Q0k/\H'=upd H a (.dT (putK kvs k v))
theorem DGet.k{H:Hp}{a:Q0i}{kvs:List (Key×V)}{k:Key}(e:H a=some (.dK kvs)):DGet H a (kV k) (valV kvs k):=.inl ⟨kvs,k,.inl e,rfl,rfl⟩
theorem DPut.k{H:Hp}{a:Q0i}{kvs:List (Key×V)}{k:Key}{v:V}(e:H a=some (.dK kvs))(hl:kvs.length<Q0k):DPut H a (kV k) v (upd H a (.dK (putK kvs k v))):=.inl ⟨kvs,k,e,rfl,hl,rfl⟩
section
variable{X:Cx}{pins:List (Q0i×Obj)}{σ:St}{H:Hp}{s:Q0b}{a:Q0i}{y v:V}{u r:Q0a}{o:Option V}{A:Q0w}{E:Q0a->Q0b->Prop}
theorem z2y{Q:Q0a->Q0b->Prop}(hu:A.units+1<cLine)(I:Inv X pins σ H s)(g:DGet H a y (some v))(ry:RelV y u)(h:∀w' s',Inv X pins σ H s'->RelV v w'->Q w' s') :
  Q0y (model X.prog X.w) A (getItem (.ref a) u) Q E s:=by
 rcases g with⟨kvs,k,e,ey,l⟩|⟨kvs,k,b,e,ey,eb,l⟩
 ·subst ey
  obtain⟨z,hd,vs,rel,dd⟩:=z9g I.hok e
  obtain⟨w',hw,rw'⟩:=RelO.some_of (v:=v) (o:=valueAt vs k) (by rw[l];exact rel.val k)
  exact wpAny_getItem_of (z8t ry) dd.mapOf hw (h w' _ (I.tok _) rw')
 ·subst ey
  cases(show u=Q0a.ref b from ry)
  obtain⟨z,hd,xs,rel,dd⟩:=z9f I.hok e
  obtain⟨w',hw,rw'⟩:=RelO.some_of (v:=v) (o:=(atKey xs k).map (·.2)) (by rw[l];exact rel.val k)
  obtain⟨p,hp,hp2⟩:=Q2j.mp hw
  refine wpAny_getItem_heap (Q9x hu) (z2b I.hok eb) dd hp ?_
  rw[hp2]
  exact h w' _ (I.tok _) rw'
theorem z2w{h':Q0z}{t':Nat}{ob:HO}(I:Inv X pins σ H s)(mu:Mut (H a))(hs:Q0z.SameBut a s.heap h')(he:∃q,h'.get? a=some q)(new:q0j X.prog X.w (upd H a ob) h' a ob) :
  Inv X pins σ (upd H a ob) {s with heap:=h',toks:=t' }:=
 I.write (x:=a) (e:=a) mu (.inl rfl) (fun b q hb z=>(hs.2 b hb).trans z) he new
theorem y2p{P:Q0l}{w:Q1a}{H':Hp}{h':Q0z}{kvs:List (Key×V)}{vs:List (Key×Q0a)}(z:kvs.length<=Q0k)(hd:(a==sysModules)=false)(rel:KV kvs vs)(dd:h'.DictOf (q0h P w) a vs) :
  q0j P w H' h' a (.dK kvs):=⟨z,hd,vs,rel,dd⟩
theorem z2x{H':Hp}{Q:Unit->Q0b->Prop}(hu:A.units+1<cLine)(I:Inv X pins σ H s)(g:DPut H a y v H')(ry:RelV y u)(rv:RelV v r)(h:∀s',Inv X pins σ H' s'->Q () s') :
  Q0y (model X.prog X.w) A (setItem (.ref a) u r) Q E s:=by
 rcases g with⟨kvs,k,e,ey,l,eH⟩|⟨kvs,k,b,e,ey,eb,l,eH⟩
 ·subst ey eH
  obtain⟨z,hd,vs,rel,dd⟩:=y4c I.hok e
  have hz:vs.length<=Q0k:=by rw[<-rel.length];exact z
  have hl:(putK kvs k v).length<=Q0k:=by have:=q3h kvs k v;omega
  refine wpAny_setItem_pairs (hsz:=hz) (z8t ry) dd fun h' dd' hs=>h _ ?_
  have he:∃q,h'.get? a=some q:=let ⟨q,_,_,hq,_⟩:=dd';⟨q,hq⟩
  exact z2w I (by rw[e];exact Q1w) hs he (y2p hl hd (rel.put k rv) dd')
 ·subst ey eH
  cases(show u=Q0a.ref b from ry)
  obtain⟨z,hd,xs,rel,dd⟩:=y4a I.hok e
  have hz:xs.length<=Q0k:=by rw[<-Q3r.length rel];exact z
  have hl:(putK kvs k v).length<=Q0k:=by have:=q3h kvs k v;omega
  refine wpAny_setItem_heap (hsz:=hz) (Q9x hu) (z2b I.hok eb) dd fun h' dd' hs=>h _ ?_
  obtain⟨q,es,ep,hq,h2,h3,h4,_,h5⟩:=dd'
  refine z2w I (by rw[e];exact Q1w) hs ⟨q,hq⟩ ⟨hl,hd,_,(rel.put k eb rv).keeps fun c ys ec=>?_,q,es,ep,hq,h2,h3,h4,h5⟩
  rw[q0b (q4q ec e (fun z=>nomatch z))]
  exact ec
end
section
variable{X:Cx}{pins:List (Q0i×Obj)}{σ:St}{H:Hp}{s:Q0b}{a:Q0i}{kvs:List (Key×V)}{k:Key}{u:Q0a}{A:Q0w}{E:Q0a->Q0b->Prop}
end
theorem q7h{X:Cx}{pins:List (Q0i×Obj)}{σ:St}{H:Hp}{s:Q0b}{a:Q0i}{y:V}{o:Option V}(I:Inv X pins σ H s)(g:DGet H a y o):s.TypeIs (.ref a) "dict" :=by
 rcases g with⟨kvs,k,e,_,_⟩|⟨kvs,k,b,e,_,_,_⟩
 ·obtain⟨_,_,vs,_,dd⟩:=z9g I.hok e
  exact dd.typeIs
 ·obtain⟨_,_,xs,_,dd⟩:=z9f I.hok e
  exact dd.typeIs
section
variable{X:Cx}{o i e value:Expr}{pos pos' tpos:Pos}{td ty tv:TE}
end
section
variable{X:Cx}{pos:Pos}
end
section
variable{X:Cx}{pins:List (Q0i×Obj)}{σ:St}{H:Hp}{s:Q0b}{a:Q0i}{y d:V}{u r:Q0a}{o:Option V}{A:Q0w}{E:Q0a->Q0b->Prop}
end
section
variable{X:Cx}{o e f:Expr}{apos cpos:Pos}{td ty tx:TE}
end
section
variable{X:Cx}{pins:List (Q0i×Obj)}{σ:St}{H:Hp}{s:Q0b}{a:Q0i}{kvs:List (Key×V)}{A:Q0w}{E:Q0a->Q0b->Prop}
end
section
variable{X:Cx}{pins:List (Q0i×Obj)}{σ:St}{H:Hp}{s:Q0b}{a:Q0i}{y:V}{u:Q0a}{A:Q0w}{E:Q0a->Q0b->Prop}
end
end L2
namespace Att
open PySem PySem.W PySem.Calls PyProof.Rows
section
variable{prog:Q0l}{w:Q1a}{A:Q0w}{E:Q0a->Q0b->Prop}{s:Q0b}{K:Q1n}
end
end Att
namespace L2
open PySem PySem.Spec PyProof.Rows
section
variable{P:Q0l}{w:Q1a}{K:Q1n}{mg:Str->Option Q0a}{base:Q0z}
end
section
variable{X:Cx}
end
section
variable{κ:Type} [DecidableEq κ]
end
theorem q6c(env:Env):∀(names:List (Str×Q3f))(acc:List (Str×Q0i)),
  (∀p∈names,p.2=.free->∃c,env.cells.lookup p.1=some c)->
  (∀x c,acc.lookup x=some c->env.cells.lookup x=some c)->
  ∃cl,(forIn names acc (fun(x:Str×Q3f) cs=>
    (if (x.2==Q3f.free)=true then (do let a <-cellOf env x.1;pure (Q2a ((x.1,a)::cs)))else pure (Q2a cs))):Sem (List (Str×Q0i)))=pure cl/\
   (∀x c,cl.lookup x=some c->env.cells.lookup x=some c)/\
   (∀x,(names.lookup x=some .free\/(acc.lookup x).isSome=true)->∃c,cl.lookup x=some c):=by
 intro names
 induction names with
 |nil=>
  intro acc _ ha
  refine⟨acc,rfl,ha,fun x hx=>?_⟩
  rcases hx with hx|hx
  ·simp at hx
  ·exact Q3g.mp hx
 |cons p r ih=>
  intro acc hf ha
  obtain⟨n,k⟩:=p
  have hr:∀p∈r,p.2=.free->∃c,env.cells.lookup p.1=some c:=fun p hp=>hf p (Q1b _ hp)
  by_cases hk:k=.free
  ·subst hk
   obtain⟨c,hc⟩:=hf (n,.free) Q2p rfl
   obtain⟨cl,h1,h2,h3⟩:=ih ((n,c)::acc) hr (fun x c' e=>by
    rw [Q1q]at e
    cases hx:x==n with
    |true=>
     rw [hx]at e
     have:=Q7l hx
     subst this
     cases e
     exact hc
    |false=>rw [hx]at e;exact ha x c' e)
   refine⟨cl,?_,h2,fun x hx=>h3 x ?_⟩
   ·rw[Q6t]
    have:cellOf env n=pure c:=by unfold cellOf;rw[hc]
    simp only[beq_self_eq_true,if_true,this]
    exact h1
   ·rcases hx with hx|hx
    ·rw[Q1q]at hx
     cases hq:x==n with
     |true=>right;rw[Q1q,hq];rfl
     |false=>rw[hq]at hx;exact .inl hx
    ·right
     rw[Q1q]
     cases hq:x==n with
     |true=>rfl
     |false=>exact hx
  ·have hb:(k==Q3f.free)=false:=by simpa using hk
   obtain⟨cl,h1,h2,h3⟩:=ih acc hr ha
   refine⟨cl,?_,h2,fun x hx=>h3 x ?_⟩
   ·rw[Q6t]
    simp only[hb,Q2v,if_false]
    exact h1
   ·rcases hx with hx|hx
    ·rw[Q1q]at hx
     cases hq:x==n with
     |true=>rw[hq]at hx;cases hx;exact absurd rfl hk
     |false=>rw[hq]at hx;exact .inl hx
    ·exact .inr hx
theorem q6d{scope:Q3n}{env:Env}(hf:∀p∈scope.names,p.2=.free->∃c,env.cells.lookup p.1=some c) :
  ∃cl,closureFor scope env=pure cl/\(∀x c,cl.lookup x=some c->env.cells.lookup x=some c)/\(∀x,scope.names.lookup x=some .free->∃c,cl.lookup x=some c):=by
 obtain⟨cl,h1,h2,h3⟩:=q6c env scope.names [] hf (fun _ _ e=>by simp at e)
 refine⟨cl,?_,h2,fun x hx=>h3 x (.inl hx)⟩
 unfold closureFor
 simp only[]
 have:((forIn scope.names ([]:List (Str×Q0i)) (fun(x:Str×Q3f) cs=>
    (if (x.2==Q3f.free)=true then (do let a <-cellOf env x.1;pure (Q2a ((x.1,a)::cs)))else pure (Q2a cs))):Sem (List (Str×Q0i))) >>= fun r=>pure r)=pure cl:=by
  rw[h1];rfl
 exact this
def IxOk(N:List Str)(around:Q3n)(scope:Q3n):List Str->List (Option Nat)->Prop
 |[],[]=>True
 |y::r,some j::t=>(N[j]?=some y/\scope.names.lookup y=some .free/\(around.names.lookup y=some .cell\/around.names.lookup y=some .free))/\IxOk N around scope r t
 |_::r,none::t=>IxOk N around scope r t
 |_,_=>False
theorem IxOk.at{N:List Str}{around scope:Q3n}:∀{N':List Str}{ix:List (Option Nat)},IxOk N around scope N' ix->∀(i:Nat)(y:Str)(j:Nat),N'[i]?=some y->ix[i]?=some (some j)->
  N[j]?=some y/\scope.names.lookup y=some .free/\(around.names.lookup y=some .cell\/around.names.lookup y=some .free)
 |[],_,_,i,y,j,e,_=>by simp at e
 |_::_,[],h,_,_,_,_,_=>h.elim
 |y'::r,some j'::t,h,0,y,j,e,e'=>by
  simp at e e'
  subst e e'
  exact h.1
 |y'::r,some j'::t,h,i+1,y,j,e,e'=>IxOk.at (N':=r) (ix:=t) h.2 i y j (by simpa using e) (by simpa using e')
 |y'::r,none::t,h,0,y,j,e,e'=>by simp at e'
 |y'::r,none::t,h,i+1,y,j,e,e'=>IxOk.at (N':=r) (ix:=t) h i y j (by simpa using e) (by simpa using e')
theorem IxOk.len{N:List Str}{around scope:Q3n}:∀{N':List Str}{ix:List (Option Nat)},IxOk N around scope N' ix->ix.length=N'.length
 |[],[],_=>rfl
 |[],_::_,h=>h.elim
 |_::_,[],h=>h.elim
 |_::r,some _::t,h=>by simp[IxOk.len (N':=r) (ix:=t) h.2]
 |_::r,none::t,h=>by simp[IxOk.len (N':=r) (ix:=t) h]
def q0t(ix:List (Option Nat))(σ:St):St:=ix.map fun o=>match o with
 |none=>none
 |some j=>match σ[j]? with
  |some v=>v
  |none=>none
structure CompOk(X:Cx)(scope:Q3n)(N':List Str)(ix:List (Option Nat)):Prop where
 kind:scope.kind=.function
 cell:∀y∈scope.names,y.2≠.cell
 names:∀y∈scope.names,y.2=.local->scope.names.lookup y.1=some .local
 free:∀y∈scope.names,y.2=.free->X.env.scope.names.lookup y.1=some .cell\/X.env.scope.names.lookup y.1=some .free
 ixs:IxOk X.N X.env.scope scope N' ix
def Cx.comp(X:Cx)(scope:Q3n)(N':List Str)(cl:List (Str×Q0i))(C:Q0i)(s:Q0b)(H:Hp)(fp:List Q0i):Cx where
 prog:=X.prog
 w:=X.w
 K:=X.K
 mg:=X.mg
 base:=X.base
 A:=X.A
 N:=N'
 s₀:=s
 H₀:=H
 env:=compEnvC scope cl C X.env
 outer:=X.stack
 stack:=X.stack
 ex:=fp
 fn:=fun _=>false
 calm:=true
 pn:=[]
 xe:=fun _ _=>False
theorem q3p{env:Env}{scope:Q3n}{x:Str}{k:Q3f}:(relabel scope env).names.lookup x=some k->k=.cell\/k=.free->(∀y∈scope.names,y.2≠.cell)->scope.names.lookup x=some .free:=by
 unfold relabel
 dsimp only
 generalize scope.names=names
 intro h hk hc
 induction names with
 |nil=>simp at h
 |cons p r ih=>
  obtain⟨n,k'⟩:=p
  rw[Q1c,Q1q]at h
  rw[Q1q]
  by_cases hf:k'=.free
  ·subst hf
   cases hq:x==n with
   |true=>rfl
   |false=>
    refine ih ?_ fun y hy=>hc y (Q1b _ hy)
    split at h
    ·rename_i hh;simp only[hq]at hh;split at hh<;>exact absurd hh (by simp[hq])
    ·exact h
  ·have hb:(k' == Q3f.free)=false:=by simpa using hf
   simp only[hb,Q9o,Q2v,if_false]at h
   cases hq:x==n with
   |true=>
    rw[hq]at h
    simp only[Q1r.injEq]at h
    subst h
    rcases hk with hk|hk
    ·exact absurd hk (hc (n,k') Q2p)
    ·exact absurd hk hf
   |false=>
    rw[hq]at h
    exact ih h fun y hy=>hc y (Q1b _ hy)
theorem q5g{env:Env}{scope:Q3n}{x:Str}(h:scope.names.lookup x=some .free):(relabel scope env).names.lookup x=some .cell\/(relabel scope env).names.lookup x=some .free:=by
 unfold relabel
 dsimp only
 generalize scope.names=names at h
 induction names with
 |nil=>simp at h
 |cons p r ih=>
  obtain⟨n,k'⟩:=p
  rw[Q1q]at h
  rw[Q1c]
  cases hq:x==n with
  |true=>
   rw[hq]at h
   simp only[Q1r.injEq]at h
   subst h
   by_cases hc:(env.scope.kind==Q7h&&env.kindOf n==some Q3f.cell)=true
   ·left
    simp only[beq_self_eq_true,Q9y,hc,if_true,Q1q,hq]
   ·right
    simp only[beq_self_eq_true,Q9y,hc,Q2v,if_false,Q1q,hq]
  |false=>
   rw[hq]at h
   have:=ih h
   by_cases hc:(k' == Q3f.free&&env.scope.kind==Q7h&&env.kindOf n==some Q3f.cell)=true
   ·simp only[hc,if_true,Q1q,hq];exact this
   ·simp only[hc,Q2v,if_false,Q1q,hq];exact this
section
variable{X:Cx}{pins:List (Q0i×Obj)}{σ:St}{H:Hp}{s:Q0b}
theorem Inv.track{D:Q0i}{its:List Q0a}{n:Nat}{ys:List V}(I:Inv X pins σ H s)(hn:H D=none)(hL:D≠X.env.locals)(h1:X.s₀.heap.objs.size<=D)
  (h2:∀x c,X.env.cells.lookup x=some c->c≠D) (h3:∀p∈X.pn++pins,p.1≠D) (ho:s.heap.get? D=some {cls:=.type "list",data:=.seq its.toArray n}) (r:Vals ys its) (hz:ys.length<=Q0k) :
  Inv X pins σ (upd H D (.lst ys)) s:=by
 have ne:∀b u,H b=some u->b≠D:=fun b u e z=>by rw[z,hn]at e;cases e
 have ne0:∀b o,X.s₀.heap.get? b=some o->b≠D:=fun b o e=>Q1m (Q0o (Q0p e) h1)
 refine⟨I.ok,I.os,I.bare,⟨I.base.keep,I.base.slot,fun b o e n' hx=>?_,I.base.there,fun b xs e=>?_,fun b o u e=>?_,fun b ps e=>?_⟩,I.loc,I.cell,?_,fun x c e=>?_,fun p hp=>?_,fun b u e=>?_,I.len⟩
 ·rw[q0b (ne0 b o e)];exact I.base.free b o e n' hx
 ·have q:=I.base.tups b xs e
  rw[q0b (ne _ _ q)];exact q
 ·have q:=I.base.frzs b o u e
  rw[q0b (ne _ _ q)];exact q
 ·obtain⟨more,q⟩:=I.base.tbls b ps e
  exact⟨more,by rw[q0b (ne _ _ q)];exact q⟩
 ·rw[q0b (Q3s hL)];exact I.free
 ·rw[q0b (h2 x c e)];exact I.freeC x c e
 ·obtain⟨a1,a2,a3⟩:=I.pin p hp
  exact⟨a1,by rw[q0b (h3 p hp)];exact a2,a3⟩
 ·by_cases hb:b=D
  ·subst hb
   rw[q0d]at e
   cases e
   exact⟨hz,its,n,r,ho⟩
  ·rw[q0b hb]at e
   refine(I.hok b u e).stay (fun c v hc q=>q) (fun c q=>?_) fun c xs q=>?_
   ·rw[q0b (ne _ _ q)];exact q
   ·rw[q0b (ne _ _ q)];exact q
theorem Inv.comp{scope:Q3n}{N':List Str}{ix:List (Option Nat)}{cl:List (Str×Q0i)}{C:Q0i}{fp:List Q0i}{h':Q0z}{t':Nat}(I:Inv X pins σ H s)(co:CompOk X scope N' ix)
  (hcl1:∀x c,cl.lookup x=some c->X.env.cells.lookup x=some c) (hcl2:∀x,scope.names.lookup x=some .free->∃c,cl.lookup x=some c) (hc:X.calm=true)
  (hC:s.heap.objs.size<=C) (hns:h'.Ns C fun _=>none) (hk:∀b o,s.heap.get? b=some o->h'.get? b=some o) (hf:∀b∈fp,FpOk X pins H b) (hfz:∀b∈fp,b<s.heap.objs.size) :
  Inv (X.comp scope N' cl C s H fp) [] (q0t ix σ) H {s with heap:=h',toks:=t' }:=by
 have lookK:∀x k,(compEnvC scope cl C X.env).kindOf x=some k->k=.cell\/k=.free->scope.names.lookup x=some .free:=fun x k e hk'=>q3p (env:=X.env) e hk' co.cell
 have ok:(X.comp scope N' cl C s H fp).Ok:=by
  refine⟨I.ok.mod,co.kind,I.ok.glob,I.ok.blt,hC,fun x y c e1 e2=>I.ok.inj x y c (hcl1 x c e1) (hcl1 y c e2),fun x hx=>?_,fun x c e=>(by cases e),fun _=>I.ok.hd hc,I.ok.frames,.inl rfl,fun b hb=>⟨?_,fun x c e=>?_⟩,I.bs,?_,fun b o e hb=>?_,fun b hb z=>?_,I.stack,I.stkFree⟩
  ·refine hcl2 x ?_
   rcases hx with e|e
   ·exact lookK x _ e (.inl rfl)
   ·exact lookK x _ e (.inr rfl)
  ·exact Q1m (Q0o (hfz b hb) hC)
  ·exact(hf b hb).2.2.2.2.1 x c (hcl1 x c e)
  ·exact Q1t I.ok.bsz I.sz
  ·rcases(hf b hb).2.2.2.1 with z|z
   ·exact I.ok.noex b o e z
   ·exact absurd (Q0o (Q0p (I.ok.bs b o e).1) z) (Q2s _)
  ·rcases Q1h.mp (I.stkSub b z)with q|q
   ·exact(hf b hb).2.1 q
   ·exact(hf b hb).2.2.1 q
 refine⟨ok,rfl,I.bare,Un.kept hk,⟨_,hns,fun i y v e1 e2 e3=>?_⟩,fun x c e=>?_,?_,fun x c e=>I.freeC x c (hcl1 x c e),(fun p hp=>by cases hp),I.hok.kept hk,?_⟩
 ·-- a name of the frame around
  have e1':N'[i]?=some y:=e1
  have e2':(q0t ix σ)[i]?=some (some v):=e2
  unfold q0t at e2'
  rw[Q2i]at e2'
  cases hix:ix[i]? with
  |none=>rw[hix]at e2';cases e2'
  |some o=>
   rw[hix]at e2'
   cases o with
   |none=>cases e2'
   |some j=>
    have hj:σ[j]?=some (some v):=by
     cases hs:σ[j]? with
     |none=>simp only[Q8x,hs]at e2';cases e2'
     |some o=>
      simp only[Q8x,hs,Q1r.injEq]at e2'
      rw[e2']
    obtain⟨a1,a2,a3⟩:=co.ixs.at i y j e1' hix
    obtain⟨m,hm,hl⟩:=I.loc
    obtain⟨u,r,l⟩:=hl j y v a1 hj (by rcases a3 with z|z;exact .inr (.inl z);exact .inr (.inr z))
    refine⟨u,r,.inr ⟨q5g a2,?_⟩⟩
    obtain⟨c,hc'⟩:=hcl2 y a2
    refine⟨c,hc',?_⟩
    rcases l with⟨z,_⟩|⟨_,c',e',o,ho,hd⟩
    ·have z':X.env.scope.names.lookup y=some .local:=z
     rcases a3 with q|q<;>rw[z']at q<;>cases q
    ·have:c'=c:=Q1p (e'.symm.trans (hcl1 y c hc'))
     subst this
     exact⟨o,hk _ _ ho,hd⟩
 ·obtain⟨v,o,ho,hd⟩:=I.cell x c (hcl1 x c e)
  exact⟨v,o,hk _ _ ho,hd⟩
 ·exact I.hok.fresh hC
 ·show(q0t ix σ).length=N'.length
  unfold q0t
  rw[Q1s]
  exact co.ixs.len
end
def q8l(J:It)(g:TG)(tc:TT)(te:TE)(Q:VK)(σ₀:St)(H1:Hp):Prop:=∃(W:Nat->List V->St->Hp->Prop)(n:Nat),n<=Q0k/\W 0 [] σ₀ H1/\∀i ys σ H,i<=n->W i ys σ H->
 (J.stop i H/\∀p,H p=none->Q (.ref p) (upd H p (.lst ys)))\/(i<n/\J.go i H/\∀x H',J.yld i H x H'->g x σ H' fun σ2 H2=>tc σ2 H2 fun b H3=>if b=true then te σ2 H3 fun y H4=>W (i+1) (ys++[y]) σ2 H4 else W (i+1) ys σ2 H3)
def z0d(wi:TI)(ix:List (Option Nat))(g:TG)(tc:TT)(te:TE):TE:=fun σ H Q=>wi σ H fun J H1=>q8l J g tc te Q (q0t ix σ) H1
section
variable{X:Cx}{tg iter elt c:Expr}{scope:Q3n}{pos:Pos}{N':List Str}{ix:List (Option Nat)}{wi:TI}{g:TG}{te:TE}{tc:TT}
structure CompMid(X:Cx)(scope:Q3n)(N':List Str)(cl:List (Str×Q0i))(C D:Q0i)(s₂:Q0b)(H₂:Hp)(fp:List Q0i)(tn:Nat->Q0z->Prop)(W:Nat->List V->St->Hp->Prop)(i:Nat)(ys:List V)(σ':St)(H':Hp)(s':Q0b):Prop where
 inv:∃us:List Q0a,Vals ys us/\Inv (X.comp scope N' cl C s₂ H₂ fp) [(D,{cls:=.type "list",data:=.seq us.toArray us.length})] σ' H' s'
 tn:tn i s'.heap
 fpn:∀b∈fp,H' b=none
 len:ys.length<=i
 w:W i ys σ' H'
theorem z5s{pins:List (Q0i×Obj)}{σ:St}{H₂:Hp}{s₂:Q0b}{cl:List (Str×Q0i)}{C D:Q0i}{fp:List Q0i}{Q:VK}{ys:List V}{us:List Q0a}{σ':St}{H':Hp}{s':Q0b}
  (I₂:Inv X pins σ H₂ s₂) (f2:∀b∈fp,FpOk X pins H₂ b) (hD:s₂.heap.objs.size<=D) (hC:s₂.heap.objs.size<=C) (hDC:D≠C) (r:Vals ys us)
  (I':Inv (X.comp scope N' cl C s₂ H₂ fp) [(D,{cls:=.type "list",data:=.seq us.toArray us.length})] σ' H' s') (hz:ys.length<=Q0k) (q:∀p,H' p=none->Q (.ref p) (upd H' p (.lst ys))) :
  ∃m,s'.heap.Ns C m/\∀h',Q0z.SameBut C s'.heap h'->EP X pins σ Q (.ref D) {s' with heap:=h' }:=by
 obtain⟨m,hm,_⟩:=I'.loc
 refine⟨m,hm,fun h' sb=>?_⟩
 have new:∀a,s₂.heap.objs.size<=a->a≠X.env.locals/\X.s₀.heap.objs.size<=a/\(∀x c,X.env.cells.lookup x=some c->c≠a)/\∀p∈X.pn++pins,p.1≠a:=fun a ha=>by
  refine⟨Q6k (Q0o I₂.lt ha),Q1t I₂.sz ha,fun x c e=>?_,fun p hp=>?_⟩
  ·obtain⟨v,o,ho,_⟩:=I₂.cell x c e
   exact Q1m (Q0o (Q0p ho) ha)
  ·exact Q1m (Q0o (Q0p (I₂.pin p hp).1) ha)
 have I3:Inv X pins σ H' s':=I₂.call' I'.os I'.base I'.hok I'.bare fun b hb=>⟨(f2 b hb).2.2.2.1,(f2 b hb).2.1,(f2 b hb).2.2.2.2.1,(f2 b hb).2.2.2.2.2⟩
 obtain⟨eD,nD,_,_,_⟩:=I'.pin (D,{cls:=.type "list",data:=.seq us.toArray us.length}) (by simp)
 obtain⟨c1,c2,c3,c4⟩:=new C hC
 have I4:Inv X pins σ H' {s' with heap:=h' }:=I3.turned (t':=s'.toks) (it:=C) (fun b o hb e=>(sb.2 b hb).trans e) I'.free c1 (.inr c2) c3 c4
 obtain⟨d1,d2,d3,d4⟩:=new D hD
 have I5:=I4.track (D:=D) (ys:=ys) nD d1 d2 d3 d4 ((sb.2 D hDC).trans eD) r hz
 exact⟨.ref D,_,I5,rfl,q D nD⟩
theorem z5t{H₂:Hp}{s₂:Q0b}{cl:List (Str×Q0i)}{C D:Q0i}{fp:List Q0i}{ys:List V}{us:List Q0a}{σ':St}{H':Hp}{s':Q0b}{pl:List (Q0i×Obj)}{y:V}{u:Q0a}{Q:Q0a->Q0b->Prop}{E:Q0a->Q0b->Prop}
  (hD:s₂.heap.objs.size<=D) (hDC:D≠C) (hcl:∀x c,cl.lookup x=some c->c≠D) (r:Vals ys us) (ry:RelV y u) (hz:ys.length<Q0k)
  (I':Inv (X.comp scope N' cl C s₂ H₂ fp) ([(D,{cls:=.type "list",data:=.seq us.toArray us.length})]++pl) σ' H' s') (hp:∀p∈pl,p.1≠D)
  (h:∀s'',Inv (X.comp scope N' cl C s₂ H₂ fp) ([(D,{cls:=.type "list",data:=.seq (us++[u]).toArray (us++[u]).length})]++pl) σ' H' s''->Q .none s'') :
  Q0y (model X.prog X.w) X.A (call (.builtin "list.append") [.ref D,u]) Q E s':=by
 obtain⟨eD,nD,neD,nfD,ndD⟩:=I'.pin (D,{cls:=.type "list",data:=.seq us.toArray us.length}) (by simp)
 refine append_at eD (fun h₅ hs₅ hD₅=>h _ ?_) (by simp only[Q0f];rw[<-r.length];exact Q4z hz)
 have I1:Inv (X.comp scope N' cl C s₂ H₂ fp) pl σ' H' s':=I'.pins_of fun p hp'=>I'.pin p (Q0u _ (Q0u _ hp'))
 have I2:Inv (X.comp scope N' cl C s₂ H₂ fp) pl σ' H' {s' with heap:=h₅}:=I1.turned (t':=s'.toks) (it:=D) (fun b o hb e=>(hs₅.2 b hb).trans e) nD neD (.inr hD) hcl (fun p hp'=>hp p (by simpa[Cx.comp]using hp'))
 refine I2.pins_of fun p hp'=>?_
 rcases Q3p.mp hp' with z|z
 ·obtain rfl:=Q1l.mp z
  refine⟨?_,nD,neD,nfD,fun v z=>by cases z⟩
  rw[hD₅,Q0s,Q3u,List.push_toArray]
 ·exact I2.pin p (Q0u _ z)
end
section
variable{X:Cx}{tg iter elt c:Expr}{scope:Q3n}{pos:Pos}{N':List Str}{ix:List (Option Nat)}{wi:TI}{g:TG}{te:TE}{tc:TT}
theorem z5j{prog:Q0l}{w:Q1a}{A:Q0w}{s:Q0b}{elt target iter:Expr}{ifs:List Expr}{scope:Q3n}{pos:Pos}{it acc:Q0a}{env:Env}{R:Q9v->Q0b->Prop}(I:Nat->Q0b->Prop)
  (turn:∀n s,I n s->Q0y (model prog w) A (pyNext it) (fun r s₁=>match r with
   |none=>R (.ok .next) s₁
   |some v=>Q0y (model prog w) A (letOwnedTupleGo target it v) (fun _ s₀=>Q0y (model prog w) A (assign target env v) (fun _ s₂=>
     Q0y (model prog w) A (forIn ifs true fun c r=>if r=true then do let ok <-isTrue c env (eval c env);pure (Q2a ok)else pure (Q2a r)) (fun ok s₃=>if ok=true then Q0y (model prog w) A (eval elt env) (fun x s₄=>
      Q0y (model prog w) A (call (.builtin "list.append") [acc,x]) (fun _ s₅=>∃m,m<n/\I m s₅) (notedBy (model prog w) A env fun e s'=>R (.error e) s') s₄) (notedBy (model prog w) A env fun e s'=>R (.error e) s') s₃
      else ∃m,m<n/\I m s₃) (notedBy (model prog w) A env fun e s'=>R (.error e) s') s₂)
     (notedBy (model prog w) A env fun e s'=>R (.error e) s') s₀) (notedBy (model prog w) A env fun e s'=>R (.error e) s') s₁) (notedBy (model prog w) A env fun e s'=>R (.error e) s') s)
  (n:Nat) (h:I n s):codeAny (model prog w) A (.compLoop (.ListComp elt [⟨target,iter,ifs,0⟩] scope pos) 0 it acc env) R s:=by
 refine codeAny_loop rfl I (fun n s hI=>?_) n h
 show Q0y _ A ((compTurn (.ListComp elt [⟨target,iter,ifs,0⟩] scope pos) 0 it acc env).onRaise (fun x=>do noteFrame x env;theTreesLotGoes x)) _ _ s
 refine wpAny_noted ?_
 rw[compTurn_list]
 refine Q0c (Q2w (Q0c (Q1o (turn n s hI) (fun r s₁ h₁=>?_) fun _ _ h'=>h')))
 cases r with
 |none=>exact Q0n h₁
 |some v=>
  refine Q0c (Q1o h₁ (fun _ s₀ h₀'=>?_) fun _ _ h'=>h')
  refine Q0c (Q1o h₀' (fun _ s₂ h₂=>?_) fun _ _ h'=>h')
  refine Q0c (Q1o h₂ (fun okb s₃ h₃=>?_) fun _ _ h'=>h')
  cases okb with
  |false=>exact Q0n ⟨rfl,h₃⟩
  |true=>exact Q0c (Q0c (Q1o h₃ (fun x s₄ h₄=>Q0c (Q1o h₄ (fun _ s₅ h₅=>Q0n (Q0n ⟨rfl,h₅⟩)) fun _ _ h'=>h')) fun _ _ h'=>h'))
def PTs(X:Cx)(ifs:List Expr)(t:TT):Prop:=
 ∀(pins:List (Q0i×Obj))(s:Q0b)(σ:St)(H:Hp)(Q:Bool->Hp->Prop),Inv X pins σ H s->t σ H Q->Q0y (model X.prog X.w) X.A (forIn ifs true fun c r=>if r=true then do let ok <-isTrue c X.env (eval c X.env);pure (Q2a ok)else pure (Q2a r)) (TP X pins σ Q) X.xe s
theorem z7n(h:PT X c tc):PTs X [c] tc:=fun pins s σ H Q I q=>wpAny_tests_one (h pins s σ H Q I q)
theorem z7o(h:∀σ H Q,tc σ H Q->Q true H):PTs X [] tc:=fun pins s σ H Q I q=>wpAny_tests_nil ⟨H,I,h σ H Q q⟩
theorem z2z{ifs:List Expr}{use:Option (Q0a->Sem Unit)}{Qf:Q0a->Q0b->Prop}{pins:List (Q0i×Obj)}{s:Q0b}{σ:St}{H:Hp}{ps:Pos}(hc:X.calm=true)(co:CompOk X scope N' ix)(hi:PI X tg iter wi)(hg:∀cl C s H fp,PG (X.comp scope N' cl C s H fp) tg g)(ht:∀cl C s H fp,PTs (X.comp scope N' cl C s H fp) ifs tc)(he:∀cl C s H fp,PE (X.comp scope N' cl C s H fp) elt te)
  (hs:∀x,foldedSetIterable iter X.env x=pure x:=by intro _;rfl)
  (I:Inv X pins σ H s) (h:wi σ H fun J H1=>∃Q:VK,q8l J g tc te Q (q0t ix σ) H1/\∀{H₂:Hp}{s₂:Q0b}{cl:List (Str×Q0i)}{C D:Q0i}{fp:List Q0i}{ys:List V}{us:List Q0a}{σ':St}{H':Hp}{s':Q0b},Inv X pins σ H₂ s₂->(∀b∈fp,FpOk X pins H₂ b)->s₂.heap.objs.size<=D->s₂.heap.objs.size<=C->D≠C->Vals ys us->
   Inv (X.comp scope N' cl C s₂ H₂ fp) [(D,{cls:=.type "list",data:=.seq us.toArray us.length})] σ' H' s'->ys.length<=Q0k->(∀p,H' p=none->Q (.ref p) (upd H' p (.lst ys)))->compPost (model X.prog X.w) X.A X.xe use Qf (.ref D) C (.ok .next) s') :
  Q0y (model X.prog X.w) X.A (comprehension (.ListComp elt [⟨tg,iter,ifs,0⟩] scope pos) scope X.env ps (newList []) false (eval iter X.env) use) Qf X.xe s:=by
 obtain⟨cl,hclos,hcl1,hcl2⟩:=q6d (scope:=scope) (env:=X.env) fun p hp e=>by
  rcases co.free p hp e with z|z
  ·exact I.ok.has p.1 (.inl z)
  ·exact I.ok.has p.1 (.inr z)
 refine wpAny_comprehension_free (use:=use) rfl hs hclos co.kind co.names (thn (hi pins s σ H _ I h) fun v s1 h1=>thn h1 fun itv s₂ h2=>?_)
 obtain⟨it,fp,tn,J,H₂,rfl,I₂,T,st2,f2,Q,⟨W,n,hn,w0,turn⟩,fin⟩:=h2
 refine Q3j (wpAny_newFunctionEnv co.cell (by intro y hy;simp at hy) (fun h₁ hns₁ hsb₁=>?_) co.kind)
 dsimp only at hns₁ hsb₁ ⊢
 generalize hH2:s₂.heap.push {cls:=.type "list",dict:=none,data:=.seq ([]:List Q0a).toArray}=H2 at hns₁ hsb₁ ⊢
 have hC:H2.objs.size=s₂.heap.objs.size+1:=by rw[<-hH2,Q0z.size_push]
 have hCle:s₂.heap.objs.size<=H2.objs.size:=by omega
 have hDC:s₂.heap.objs.size≠H2.objs.size:=by omega
 have old:∀b o,s₂.heap.get? b=some o->h₁.get? b=some o:=fun b o e=>hsb₁.extBut b o (Q1m (by rw[hC];exact Nat.lt_succ_of_lt (Q0p e))) (Q0e _ (hH2▸Q0e _ e))
 have hacc:h₁.get? s₂.heap.objs.size=some {cls:=.type "list",data:=.seq ([]:List Q0a).toArray}:=hsb₁.extBut _ _ hDC (Q0e _ (hH2▸Q0z.get?_push_size _ rfl))
 have hfz:∀b∈fp,b<s₂.heap.objs.size:=fun b hb=>by
  obtain⟨o,e,_⟩:=T.obj _ _ st2 b hb
  exact Q0p e
 have hclD:∀x c,cl.lookup x=some c->c≠s₂.heap.objs.size:=fun x c e=>by
  obtain⟨v,o,ho,_⟩:=I₂.cell x c (hcl1 x c e)
  exact Q1m (Q0p ho)
 have st0:tn 0 h₁:=T.keep _ _ _ st2 fun b hb o e=>old b o e
 have loop:∀s₃:Q0b,s₃={s₂ with heap:=h₁,toks:=s₂.toks+([]:List (Str×Q0a)).length}->
   codeAny (model X.prog X.w) X.A (.compLoop (.ListComp elt [⟨tg,iter,ifs,0⟩] scope pos) 0 (.ref it) (.ref s₂.heap.objs.size) (compEnvC scope cl H2.objs.size X.env))
    (compPost (model X.prog X.w) X.A X.xe use Qf (.ref s₂.heap.objs.size) H2.objs.size) s₃:=by
  rintro s₃ rfl
  have I0:=I₂.comp (t':=s₂.toks+([]:List (Str×Q0a)).length) co hcl1 hcl2 hc hCle hns₁ old f2 hfz
  have nof:s₂.heap.objs.size∉(X.comp scope N' cl H2.objs.size s₂ H₂ fp).fs:=fun z=>by
   obtain⟨_,o,ho,_⟩:=I0.ok.funs.mem z
   exact absurd (Q0p ho) (Q2s _)
  have I0':Inv (X.comp scope N' cl H2.objs.size s₂ H₂ fp) [(s₂.heap.objs.size,{cls:=.type "list",data:=.seq ([]:List Q0a).toArray ([]:List Q0a).length})] (q0t ix σ) H₂ {s₂ with heap:=h₁,toks:=s₂.toks+([]:List (Str×Q0a)).length}:=I0.pins_of fun p hp=>by
   obtain rfl:=Q1l.mp hp
   exact⟨hacc,I₂.fresh,hDC,nof,fun v z=>by cases z⟩
  have hclC:∀x c,cl.lookup x=some c->c≠s₂.heap.objs.size:=hclD
  have fpok:∀{us:List Q0a}{H':Hp},(∀b∈fp,H' b=none)->∀b∈fp,FpOk (X.comp scope N' cl H2.objs.size s₂ H₂ fp) [(s₂.heap.objs.size,{cls:=.type "list",data:=.seq us.toArray us.length})] H' b:=fun hn' b hb=>
   ⟨hn' b hb,(I0.ok.exf b hb).1,I0.ok.exfs b hb,.inl hb,(I0.ok.exf b hb).2,fun p hp=>by
    have hp':p∈[(s₂.heap.objs.size,({cls:=.type "list",data:=.seq _ _}:Obj))]:=hp
    obtain rfl:=Q1l.mp hp'
    exact Q6k (hfz b hb)⟩
  refine z5j (fun k s'=>∃i ys σ' H',i<=n/\k=n-i/\CompMid X scope N' cl H2.objs.size s₂.heap.objs.size s₂ H₂ fp tn W i ys σ' H' s') ?_ n
   ⟨0,[],q0t ix σ,H₂,Q2b _,rfl,⟨[],.nil,I0'⟩,st0,fun b hb=>(f2 b hb).1,Q0m _,w0⟩
  rintro k s3 ⟨i,ys,σ3,H3,hi3,rfl,⟨us,r3,I3⟩,st3,fr3,hl3,w3⟩
  have weak:∀{e:Q0a}{s':Q0b},False->notedBy (model X.prog X.w) X.A (compEnvC scope cl H2.objs.size X.env) (fun e s'=>compPost (model X.prog X.w) X.A X.xe use Qf (.ref s₂.heap.objs.size) H2.objs.size (.error e) s') e s':=fun z=>z.elim
  rcases turn i ys σ3 H3 hi3 w3 with⟨stop,q⟩|⟨hlt,go,step⟩
  ·refine thn (T.done (X.comp scope N' cl H2.objs.size s₂ H₂ fp) rfl rfl rfl rfl i _ s3 σ3 H3 _ I3 (fpok fr3) st3 stop) fun r s4 hh1=>?_
   obtain⟨hr,I4⟩:=hh1
   subst hr
   exact fin I₂ f2 (Q0m _) hCle hDC r3 I4 (by omega) q
  ·refine thn (T.item (X.comp scope N' cl H2.objs.size s₂ H₂ fp) rfl rfl rfl rfl i _ s3 σ3 H3 _ I3 (fpok fr3) st3 go) fun r s4 hh2=>?_
   obtain⟨u,hr,h4⟩:=hh2
   subst hr
   refine thn h4 fun _ s5 hh3=>?_
   obtain⟨x,H5,I5,r5,y5,st5,fr5⟩:=hh3
   have I5':=I5.pinned (fpok fr5) (T.obj _ _ st5)
   refine Q1o (hg cl _ s₂ H₂ fp _ s5 σ3 H5 x u _ I5' r5 (step x H5 y5)) (fun _ s6 ⟨σ6,H6,I6,q6⟩=>?_) fun _ _ z=>weak z
   refine Q1o (ht cl _ s₂ H₂ fp _ s6 σ6 H6 _ I6 q6) (fun b6 s6' ⟨H6',I6',q6'⟩=>?_) fun _ _ z=>weak z
   have hpl:∀p∈q3y fp s5.heap,p.1≠s₂.heap.objs.size:=fun p hp=>Q1m (hfz p.1 (q5h hp).1)
   cases b6 with
   |false=>
    have q6'':W (i+1) ys σ6 H6':=by simpa using q6'
    have g6:¬(false=true):=by decide
    rw[if_neg g6]
    refine⟨n-(i+1),by omega,i+1,ys,σ6,H6',hlt,rfl,⟨us,r3,I6'.unpinned⟩,?_,fun b hb=>?_,by omega,q6''⟩
    ·exact T.keep _ _ _ st5 fun b hb o e=>(I6'.pin (b,o) (Q0u _ (Q0u _ (q0w hb e)))).1
    ·obtain⟨o,e,d⟩:=T.obj _ _ st5 b hb
     exact(I6'.pin (b,o) (Q0u _ (Q0u _ (q0w hb e)))).2.1
   |true=>
    have q6'':te σ6 H6' fun y H4=>W (i+1) (ys++[y]) σ6 H4:=by simpa using q6'
    have g6:true=true:=rfl
    rw[if_pos g6]
    refine Q1o (he cl _ s₂ H₂ fp _ s6' σ6 H6' _ I6' q6'') (fun u7 s7 ⟨y7,H7,I7,r7,q7⟩=>?_) fun _ _ z=>weak z
    refine z5t (pl:=q3y fp s5.heap) (Q0m _) hDC hclD r3 r7 (by omega) I7 hpl fun s8 I8=>?_
    refine⟨n-(i+1),by omega,i+1,ys++[y7],σ6,H7,hlt,rfl,⟨us++[u7],r3.append (.cons r7 .nil),I8.unpinned⟩,?_,fun b hb=>?_,by rw[Q0s,Q3u];omega,q7⟩
    ·exact T.keep _ _ _ st5 fun b hb o e=>(I8.pin (b,o) (Q0u _ (Q0u _ (q0w hb e)))).1
    ·obtain⟨o,e,d⟩:=T.obj _ _ st5 b hb
     exact(I8.pin (b,o) (Q0u _ (Q0u _ (q0w hb e)))).2.1
 exact codeAny_compStart_list (loop _ rfl) (T.self _ 0 _ _ _ st0 (loop _ rfl))
theorem q7u{ifs:List Expr}(hc:X.calm=true)(co:CompOk X scope N' ix)(hit:PI X tg iter wi)(hm:∀σ H R R',(∀J H1,R J H1->R' J H1)->wi σ H R->wi σ H R')(hg:∀cl C s H fp,PG (X.comp scope N' cl C s H fp) tg g)(ht:∀cl C s H fp,PTs (X.comp scope N' cl C s H fp) ifs tc)(he:∀cl C s H fp,PE (X.comp scope N' cl C s H fp) elt te)
  (hs:∀x,foldedSetIterable iter X.env x=pure x:=by intro _;rfl):PE X (.ListComp elt [⟨tg,iter,ifs,0⟩] scope pos) (z0d wi ix g tc te):=by
 intro pins s σ H Q I h
 rw[eval_ListComp]
 refine z2z (use:=none) (Qf:=EP X pins σ Q) hc co hit hg ht he hs I (hm σ H _ _ (fun J H1 q=>⟨_,q,?_⟩) h)
 intro H₂ s₂ cl C DD fp ys us σ' H' s' I₂ f2 hD hC hDC r I' hz q
 exact z5s I₂ f2 hD hC hDC r I' hz q
end
section
variable{prog:Q0l}{w:Q1a}{A:Q0w}{s:Q0b}{elt t1 i1 t2 i2:Expr}{scope:Q3n}{pos:Pos}{it acc:Q0a}{env:Env}{R:Q9v->Q0b->Prop}
end
section
variable{X:Cx}{elt t1 i1 t2 i2:Expr}{scope:Q3n}{pos:Pos}{N':List Str}{ix:List (Option Nat)}{wi wi2:TI}{g1 g2:TG}{te:TE}
end
section
variable{prog:Q0l}{w:Q1a}{A:Q0w}{E:Q0a->Q0b->Prop}{s:Q0b}
end
section
variable{prog:Q0l}{w:Q1a}{A:Q0w}{E:Q0a->Q0b->Prop}{s:Q0b}
end
section
variable{X:Cx}{pins:List (Q0i×Obj)}{σ:St}{H:Hp}{s:Q0b}{h':Q0z}
end
section
variable{prog:Q0l}{w:Q1a}{A:Q0w}{E:Q0a->Q0b->Prop}{s:Q0b}
end
section
variable{prog:Q0l}{w:Q1a}{A:Q0w}{E:Q0a->Q0b->Prop}{s:Q0b}
end
section
variable{prog:Q0l}{w:Q1a}{A:Q0w}{s:Q0b}{R:Q9v->Q0b->Prop}
end
section
variable{prog:Q0l}{w:Q1a}{A:Q0w}{s:Q0b}{R:Q9v->Q0b->Prop}
end
section
variable{prog:Q0l}{w:Q1a}{A:Q0w}{E:Q0a->Q0b->Prop}{s:Q0b}
end
section
variable{X:Cx}
theorem z4x:OpR X (binaryOp .FloorDiv) (rI (fun _ j=>0<j/\j<2 ^ 100) fun i j=>.int (i / j)):=opI fun i j _ _ s Q E hc q=>by
 refine floordiv_int (by omega) ?_ (.inl (PyProof.noPylong_of_log2 ?_))
 ·rw[Int.fdiv_eq_ediv_of_nonneg _ (by omega)];exact q
 ·have:j.natAbs<2 ^ 100:=by omega
  have h2:j.natAbs.log2<100:=(Z0x (by omega)).mpr this
  omega
theorem q8s{ys:List Str}:∀{us:List Q0a},Vals (ys.map V.str) us->StrsAre us ys:=by
 induction ys with
 |nil=>intro us r;cases r;exact .nil
 |cons y ys ih=>
  intro us r
  cases r with
  |cons a b=>
   obtain⟨t,rfl⟩:=a
   exact .cons _ t (ih b)
theorem z8l:MtR X "str.join" (fun x xs H Q=>∃(z:Str)(p:Q0i)(ys:List Str),x=.str z/\xs=[.ref p]/\SqL X.K H p (ys.map V.str)/\(ys.map (·.length)).sum+ys.length*z.length<=16777216/\Q (.str (Q5x z ys)) H):=by
 intro pins s σ H x xs v us Q I rx r h
 obtain⟨z,p,ys,rfl,rfl,hp,hb,q⟩:=h
 obtain⟨t,rfl⟩:=rx
 obtain⟨u,rfl,ru⟩:=q4z r
 cases ru
 obtain⟨is,r1,p1,_⟩:=I.list hp
 exact join_list p1.isList (by simpa using q8s r1) hb fun t' k=>⟨.str _,H,I.tok k,⟨t',rfl⟩,q⟩
theorem q9p{h:Q0z}{sl:Q0i}{vl vu:Q0a}{lo hi:Option Int}(hs:h.IsSliceOf sl vl vu .none)(pl:Q7a vl lo)(pu:Q7a vu hi):∃l u:Option (Int×Tok),h.IsSlice sl l u none/\l.map (·.1)=lo/\u.map (·.1)=hi:=by
 cases pl with
 |none=>
  cases pu with
  |none=>exact⟨none,none,hs,rfl,rfl⟩
  |int i t=>exact⟨none,some (_,_),hs,rfl,rfl⟩
 |int i t=>
  cases pu with
  |none=>exact⟨some (_,_),none,hs,rfl,rfl⟩
  |int i t=>exact⟨some (_,_),some (_,_),hs,rfl,rfl⟩
theorem y0a:SlR X (fun x lo hi H Q=>∃z:Str,x=.str z/\z.length<=Q0k/\Q (.str (Txt.slice z lo hi)) H):=by
 intro pins s σ H x v vl vu lo hi sl Q I rx hs pl pu h
 obtain⟨z,rfl,hz,q⟩:=h
 obtain⟨t,rfl⟩:=rx
 obtain⟨l,u,hsl,rfl,rfl⟩:=q9p hs pl pu
 refine⟨"str",_,F.slot_str_getitem.lookup,Q5p _ _ _,wpAny_getItem_str_slice (l:=l) (u:=u) (st:=none) hsl rfl ?_⟩
 exact post_val_or_str ⟨Q1t (Txt.slice_le z _ _) hz,fun t' k=>⟨.str _,H,I.tok k,⟨t',rfl⟩,q⟩⟩
end
section
variable{X:Cx}
end
theorem boot_list:bootBuiltins "list" = some (.type "list"):=by kernel_rfl
theorem q4i:bootBuiltins "tuple" = some (.type "tuple"):=by kernel_rfl
theorem z5w:bootBuiltins "str" = some (.type "str"):=by kernel_rfl
theorem q8k:bootBuiltins "int" = some (.type "int"):=by kernel_rfl
theorem z3f:bootBuiltins "bool" = some (.type "bool"):=by kernel_rfl
theorem q7k:bootBuiltins "isinstance" = some (.builtin "isinstance"):=by kernel_rfl
section
variable{X:Cx}
theorem z5i{K:Q1n}{T C D:String}{b c:Bool}(h1:Q2f K (.type T) (.type C)=some b)(h2:Q2f K (.type T) (.type D)=some c):Q2o K (.type T) [.type C,.type D]=some (b||c):=by
 unfold Q2o
 rw[h1]
 cases b with
 |true=>rfl
 |false=>
  show Q2o K (.type T) [.type D]=_
  unfold Q2o
  rw[h2]
  cases c<;>rfl
end
structure Cal(P:Q0l)(w:Q1a)(K:Q1n)(mg:Str->Option Q0a)(base:Q0z)(k:Nat)(name:Str)(ps:List Str)(sp:Sp)(f:Q0i)(fd:Q1u):Prop where
 G:FnOk P w K mg base (CXE P w) k f fd ps sp
 m:mg name=some (.ref f)
 kp:Q3c K (.ref f)=true
 b:q2l K fd ps []
structure Loc2(K:Q1n)(mg:Str->Option Q0a)(name:Str)(st:Q3t)(ps:List Str)(f:Q0i)(fd:Q1u):Prop where
 F:Fun K name name st f fd
 m:mg name=some (.ref f)
 b:q2l K fd ps []
theorem Loc2.cal{P:Q0l}{w:Q1a}{K:Q1n}{mg:Str->Option Q0a}{base:Q0z}{k:Nat}{name:Str}{st:Q3t}{ps:List Str}{sp:Sp}{f:Q0i}{fd:Q1u}(l:Loc2 K mg name st ps f fd)(G:FnOk P w K mg base (CXE P w) k f fd ps sp):Cal P w K mg base k name ps sp f fd:=⟨G,l.m,l.F.kp,l.b⟩
end L2
namespace My
open PySem L2
def wd(ks:List Nat):Str:=⟨(ks.map (97+·)).toArray⟩
theorem q6r{x y:Str}(h:x.cps.toList=y.cps.toList):x=y:=by
 obtain⟨a⟩:=x
 obtain⟨b⟩:=y
 have:a=b:=by rw[<-Q8y];exact h
 rw[this]
theorem q2s(ks:List Nat):(wd ks).cps.toList=ks.map (97+·):=rfl
theorem q4x(ks:List Nat):(wd ks).length=ks.length:=by simp[wd,Q9f]
theorem q2r(x y:Str):(x++y).cps.toList=x.cps.toList++y.cps.toList:=by
 show(x.cps++y.cps).toList=_
 simp
theorem z9s(a b:List Nat):wd a++wd b=wd (a++b):=by
 apply q6r
 rw[q2r,q2s,q2s,q2s,List.map_append]
theorem q4b:(Q0g "abcdefghijklmnopqrstuvwxyz")=wd (Q2y 26):=by decide +kernel
theorem z5r:(Q0g "")=wd []:=by decide +kernel
theorem q4c{i:Int}(h0:0<=i)(h1:i<26):atI (Q0g "abcdefghijklmnopqrstuvwxyz").cps.toList i=some (97+i.toNat):=by
 obtain⟨m,rfl⟩:∃m:Nat,i=(m:Int):=⟨i.toNat,by omega⟩
 have hm:m<26:=by omega
 rw[q4b]
 refine z9m ?_
 rw[q2s]
 simp[hm]
theorem q3g:(Q0g "abcdefghijklmnopqrstuvwxyz").length<=Q0k:=by rw[q4b,q4x];decide
end My
namespace L2
open PySem PySem.Spec PyProof.Rows
theorem y2r{X:Cx}{scope:Q3n}{N':List Str}{ix:List (Option Nat)}(kind:scope.kind=.function)(cell:∀y∈scope.names,y.2≠.cell)(names:∀y∈scope.names,y.2=.local->scope.names.lookup y.1=some .local)
  (free:(scope.names.all fun y=>!(y.2==.free)||X.env.scope.names.lookup y.1==some .cell||X.env.scope.names.lookup y.1==some .free)=true) (ixs:IxOk X.N X.env.scope scope N' ix):CompOk X scope N' ix:=
 ⟨kind,cell,names,fun y hy e=>by
  have h:=Q9b.mp free y hy
  simp only [e,beq_self_eq_true,Q7e,Q9w,Q9n,beq_iff_eq]at h
  exact h,ixs⟩
section
variable{X:Cx}{K:Q1n}
end
end L2
namespace My
open PySem L2
theorem q9k:∀ts:List Str,(Q5x (Q0g "") ts).cps.toList=ts.flatMap (·.cps.toList):=by
 intro ts
 have e:Q5x (Q0g "") ts=Q8z (Q0g "") ts:=Q4r _ _
 rw[e]
 have e0:(Q0g "").cps.toList=[]:=by decide +kernel
 induction ts with
 |nil=>rfl
 |cons x r ih=>
  cases r with
  |nil=>simp[Q8z]
  |cons y r=>
   show(x++Q0g "" ++Q8z (Q0g "") (y::r)).cps.toList=_
   rw[q2r,q2r,e0,ih (Q4r _ _)]
   simp
theorem z8u(rows:List Nat):Q5x (Q0g "") (rows.map fun n=>wd [n])=wd rows:=by
 apply q6r
 rw[q9k,q2s]
 induction rows with
 |nil=>rfl
 |cons n r ih=>rw[Q1c,List.flatMap_cons,ih];rfl
end My
namespace L2
open PySem PySem.Spec PyProof.Rows
def Its(z:Str):It:=⟨fun i _=>i<z.length,fun i H v H'=>H'=H/\∃c,z.cps[i]?=some c/\v=.str ⟨#[c]⟩,fun i _=>z.length<=i⟩
theorem z0f{P:Q0l}{w:Q1a}{A:Q0w}(hh:A.handled=none)(it:Q0i)(x:Str)(t:Tok):Walks P w A it [it] [it] x.cps.size (SignAt x) fun i h=>h.IsStrIter it (strIterType x) x t i:=by
 unfold strIterType
 split
 ·exact Walks.strAscii hh it x t
 ·exact Walks.strWide hh it x t
theorem y2i{M:Q9d}{A:Q0w}{E:Q0a->Q0b->Prop}{s:Q0b}{tg:Expr}{it:Q0i}{u:Q0a}{x:Str}{t:Tok}{i:Nat}{Q:Unit->Q0b->Prop}(h:s.heap.IsStrIter it (strIterType x) x t i)(hQ:Q () s):Q0y M A (letOwnedTupleGo tg (.ref it) u) Q E s:=by
 obtain⟨o,e,c,d⟩:=h
 refine z5n e c d ?_ hQ
 unfold strIterType
 split<;>decide
theorem z3o{P:Q0l}{w:Q1a}{K:Q1n}{tg:Expr}(it:Q0i)(x:Str)(t:Tok):Turn P w K tg (Its x) [it] it (fun i h=>i<=x.length/\h.IsStrIter it (strIterType x) x t i) where
 mem:=by simp
 obj:=fun i h st b hb=>by
  obtain rfl:=Q1l.mp hb
  obtain⟨_,o,e,c,d⟩:=st
  exact⟨o,e,fun v z=>by rw[d]at z;cases z⟩
 keep:=fun i h h' st k=>by
  obtain⟨hi,o,e,r⟩:=st
  exact⟨hi,o,k it (by simp) o e,r⟩
 item:=by
  intro X hP hw hK hc i pins s σ H E I hf st hg
  subst hP hw hK
  obtain⟨f0,f1,f2,f3,f4,f5⟩:=hf it (by simp)
  have hg':i<x.length:=hg
  refine(z0f (P:=X.prog) (w:=X.w) (I.ok.hd hc) it x t).item i s _ _ hg' st.2 fun v h' tk hv st' kk=>?_
  have I1:Inv X pins σ H {s with heap:=h',toks:=tk}:=I.turned (fun b o hb e=>kk b o (by simpa using hb) e) f0 f1 f3 f4 f5
  obtain⟨c,u,hc',rfl⟩:=hv
  exact⟨_,rfl,y2i (s:={s with heap:=h',toks:=tk}) st' ⟨.str ⟨#[c]⟩,H,I1,⟨u,rfl⟩,⟨rfl,c,hc',rfl⟩,⟨hg',st'⟩,fun b hb=>(hf b hb).1⟩⟩
 done:=by
  intro X hP hw hK hc i pins s σ H E I hf st hg
  subst hP hw hK
  obtain⟨f0,f1,f2,f3,f4,f5⟩:=hf it (by simp)
  have hg':x.length<=i:=hg
  have e:i=x.cps.size:=Nat.le_antisymm st.1 hg'
  subst e
  exact(z0f (P:=X.prog) (w:=X.w) (I.ok.hd hc) it x t).done s _ _ st.2 fun h' tk kk=>⟨rfl,I.turned (fun b o hb e=>kk b o (by simpa using hb) e) f0 f1 f3 f4 f5⟩
 self:=fun A i s Q E st h=>by
  have st':=st.2
  unfold strIterType at st'
  split at st'
  ·exact wpAny_pyIter_striter_ascii st' h
  ·exact wpAny_pyIter_striter_wide st' h
section
variable{X:Cx}{tg:Expr}
end
abbrev TJ:=St->Hp->Str->(Str->Hp->Prop)->Prop
section
variable{X:Cx}{e:Expr}{es:List Expr}{t:TJ}{te:TE}{pos p2:Pos}
end
section
variable{X:Cx}
theorem z4y:OpR X (binaryOp .Add) (fun x y H Q=>(∃a b ys,x=.ref a/\y=.ref b/\SqT X.K H a []/\SqT X.K H b ys/\Q (.ref b) H)\/y0i X.K x y H Q):=by
 intro pins s σ H x y v u Q I rx ry h
 rcases h with h|h
 ·obtain⟨a,b,ys,rfl,rfl,ha,hb,q⟩:=h
  cases rx
  cases ry
  obtain⟨its,r1,p1,_⟩:=I.tuple ha
  obtain⟨its2,r2,p2,hz⟩:=I.tuple hb
  cases r1
  obtain⟨⟨c1,e1,t1,l1⟩,ho,hc,n,hd⟩:=p1
  obtain⟨⟨c2,e2,t2,l2⟩,ho2,hc2,n2,hd2⟩:=p2
  simp only at hc hd hc2 hd2
  subst hc hd hc2 hd2
  refine Q9e ⟨_,ho,rfl⟩ ⟨_,ho2,rfl⟩ Q7d Q8o Q4j Q4g (Q4b _ _)
   (tuple_addW0 a b _ its2.toArray n n2 e1 e2 l1 l2 (by rfl)) ⟨ho,ho2,⟨.ref b,H,I,rfl,q⟩⟩
 ·exact z8e pins s σ H x y v u Q I rx ry h
end
end L2
namespace Ev
open PySem L2
inductive PV where
 |non|bl (b:Bool)|int (i:Int)|str (x:Str)|ty (n:String)
 |tup (xs:List PV)|frl (xs:List PV)|ref (n:Nat)|exc (c:String×List (String×PV))
instance:Coe String (String×List (String×PV)):=⟨fun c=>(c,[])⟩
inductive SO where
 |lst (xs:List PV)|dK (kvs:List (Key×PV))|dN (kvs:List (KTr×PV))|dF (kvs:List (Key×PV))
abbrev q0a:=List SO
abbrev Loc:=List (Option PV)
def SqF(K:Q1n)(H:Hp)(a:Q0i)(xs:List V):Prop:=
 (∃o,H a=some (.frz o (.lst xs)))\/∃(o:Obj)(its:Array Q0a)(n:Nat),K.lookup a=some o/\o.cls=.type "list" /\o.dict=none/\o.data=.seq its n/\its.size<=Q0k/\Vals xs its.toList
theorem SqF.sq{K:Q1n}{H:Hp}{a:Q0i}{xs:List V}(h:SqF K H a xs):SqL K H a xs:=by
 rcases h with⟨o,h⟩|h
 ·exact .inl (.inr ⟨o,h⟩)
 ·exact .inr h
def toV:PV->V
 |.int i=>.int i
 |.str x=>.str x
 |.bl b=>.bl b
 |_=>.non
def q9v(H:Hp)(dx:Option Q0i)(fs:List (String×PV)):Prop:=fs=[]\/∃d,dx=some d/\H d=some (.ext (q1e d (fs.map fun p=>(Q0g p.1,toV p.2))))
def y4e(K:Q1n)(H:Hp)(a:Q0i)(c:String×List (String×PV)):Prop:=∃(C:Q0i)(dx:Option Q0i),ExcD H a C dx/\Q0v K Q0r (Q0g c.1)=some (some (.ref C))/\q9v H dx c.2
mutual
def RV(K:Q1n)(H:Hp)(φ:List Q0i):PV->V->Prop
 |.non,v=>v=.non
 |.bl b,v=>v=.bl b
 |.int i,v=>v=.int i
 |.str x,v=>v=.str x
 |.ty n,v=>v=.ty n
 |.tup xs,v=>∃a vs,v=.ref a/\SqT K H a vs/\RVs K H φ xs vs
 |.frl xs,v=>∃a vs,v=.ref a/\SqF K H a vs/\RVs K H φ xs vs
 |.ref n,v=>∃a,v=.ref a/\φ[n]?=some a
 |.exc c,v=>∃a,v=.ref a/\y4e K H a c
def RVs(K:Q1n)(H:Hp)(φ:List Q0i):List PV->List V->Prop
 |[],vs=>vs=[]
 |x::xs,vs=>∃y ys,vs=y::ys/\RV K H φ x y/\RVs K H φ xs ys
end
structure Mono(H H':Hp):Prop where
 tup:∀a xs,H a=some (.tup xs)->H' a=some (.tup xs)
 frz:∀a o u,H a=some (.frz o u)->H' a=some (.frz o u)
 ext:∀a f,H a=some (.ext f)->H' a=some (.ext f)
 dic:∀a c ws,H a=some (.dH c ws)->∃ws',H' a=some (.dH c ws')
theorem Mono.refl(H:Hp):Mono H H:=⟨fun _ _ h=>h,fun _ _ _ h=>h,fun _ _ h=>h,fun _ _ ws h=>⟨ws,h⟩⟩
theorem Mono.trans{H H1 H2:Hp}(a:Mono H H1)(b:Mono H1 H2):Mono H H2:=⟨fun c xs h=>b.tup c xs (a.tup c xs h),fun c o u h=>b.frz c o u (a.frz c o u h),fun c f h=>b.ext c f (a.ext c f h),fun c n ws h=>let ⟨ws',h'⟩:=a.dic c n ws h;b.dic c n ws' h'⟩
theorem Mono.new{H:Hp}{p:Q0i}(o:HO)(h:H p=none):Mono H (upd H p o):=⟨fun b u q=>by rw[q0b (q0f q h)];exact q,fun b u v q=>by rw[q0b (q0f q h)];exact q,fun b f q=>by rw[q0b (q0f q h)];exact q,fun b c ws q=>⟨ws,by rw[q0b (q0f q h)];exact q⟩⟩
theorem q9v.mono{H H':Hp}{dx:Option Q0i}{fs:List (String×PV)}(h:q9v H dx fs)(m:Mono H H'):q9v H' dx fs:=by
 rcases h with h|⟨d,e,h⟩
 ·exact .inl h
 ·exact .inr ⟨d,e,m.ext _ _ h⟩
theorem Mono.rd{H H':Hp}(m:Mono H H'){a:Q0i}{xs:List V}(h:Rd H a (.tup xs)):Rd H' a (.tup xs):=by
 rcases h with h|⟨o,h⟩
 ·exact .inl (m.tup _ _ h)
 ·exact .inr ⟨o,m.frz _ _ _ h⟩
theorem Mono.sqT{K:Q1n}{H H':Hp}(m:Mono H H'){a:Q0i}{xs:List V}(h:SqT K H a xs):SqT K H' a xs:=by
 rcases h with h|h
 ·exact .inl (m.rd h)
 ·exact .inr h
theorem Mono.sqF{K:Q1n}{H H':Hp}(m:Mono H H'){a:Q0i}{xs:List V}(h:SqF K H a xs):SqF K H' a xs:=by
 rcases h with⟨o,h⟩|h
 ·exact .inl ⟨o,m.frz _ _ _ h⟩
 ·exact .inr h
theorem q6s{φ φ':List Q0i}(h:φ <+: φ'){n:Nat}{a:Q0i}(e:φ[n]?=some a):φ'[n]?=some a:=by
 obtain⟨t,rfl⟩:=h
 rw[Q0x (by
  have:=Q0j.mp e
  exact this.1)]
 exact e
section
variable{K:Q1n}{H H':Hp}{φ φ':List Q0i}
mutual
theorem RV.mono(m:Mono H H')(p:φ <+: φ'):∀(v:PV)(x:V),RV K H φ v x->RV K H' φ' v x
 |.non,_,h=>h
 |.bl _,_,h=>h
 |.int _,_,h=>h
 |.str _,_,h=>h
 |.ty _,_,h=>h
 |.tup xs,_,⟨a,vs,e,s,r⟩=>⟨a,vs,e,m.sqT s,RVs.mono m p xs vs r⟩
 |.frl xs,_,⟨a,vs,e,s,r⟩=>⟨a,vs,e,m.sqF s,RVs.mono m p xs vs r⟩
 |.ref _,_,⟨a,e,q⟩=>⟨a,e,q6s p q⟩
 |.exc _,_,⟨a,e,C,dx,⟨f,h1,h3⟩,h2,h4⟩=>⟨a,e,C,dx,⟨f,m.ext _ _ h1,h3⟩,h2,h4.mono m⟩
theorem RVs.mono(m:Mono H H')(p:φ <+: φ'):∀(xs:List PV)(vs:List V),RVs K H φ xs vs->RVs K H' φ' xs vs
 |[],_,h=>h
 |x::xs,_,⟨y,ys,e,r,t⟩=>⟨y,ys,e,RV.mono m p x y r,RVs.mono m p xs ys t⟩
end
theorem RVs.length:∀{xs:List PV}{vs:List V},RVs K H φ xs vs->xs.length=vs.length
 |[],_,h=>by rw[show _=[]from h];rfl
 |_::xs,_,⟨y,ys,e,_,t⟩=>by rw[e,Q0q,Q0q,RVs.length t]
theorem RVs.get:∀{xs:List PV}{vs:List V}{i:Nat}{x:PV},RVs K H φ xs vs->xs[i]?=some x->∃y,vs[i]?=some y/\RV K H φ x y
 |[],_,_,_,_,e=>by simp at e
 |x::xs,_,0,x',⟨y,ys,e,r,t⟩,q=>by
  simp at q;subst q;subst e
  exact⟨y,by simp,r⟩
 |x::xs,_,i+1,x',⟨y,ys,e,r,t⟩,q=>by
  subst e
  obtain⟨z,h1,h2⟩:=RVs.get (i:=i) t (by simpa using q)
  exact⟨z,by simpa using h1,h2⟩
theorem RVs.append:∀{xs ys:List PV}{vs ws:List V},RVs K H φ xs vs->RVs K H φ ys ws->RVs K H φ (xs++ys) (vs++ws)
 |[],_,_,_,h,s=>by rw[show _=[]from h];exact s
 |x::xs,_,_,_,⟨y,ys,e,r,t⟩,s=>by subst e;exact⟨y,_,rfl,r,RVs.append t s⟩
theorem RVs.one{x:PV}{y:V}(r:RV K H φ x y):RVs K H φ [x] [y]:=⟨y,[],rfl,r,rfl⟩
theorem RVs.cons{x:PV}{y:V}{xs:List PV}{ys:List V}(r:RV K H φ x y)(t:RVs K H φ xs ys):RVs K H φ (x::xs) (y::ys):=⟨y,ys,rfl,r,t⟩
theorem RVs.take:∀{xs:List PV}{vs:List V}(n:Nat),RVs K H φ xs vs->RVs K H φ (xs.take n) (vs.take n)
 |_,_,0,_=>by simp;exact rfl
 |[],_,_+1,h=>by rw[show _=[]from h];exact rfl
 |x::xs,_,n+1,⟨y,ys,e,r,t⟩=>by subst e;exact⟨y,_,rfl,r,RVs.take n t⟩
theorem RVs.drop:∀{xs:List PV}{vs:List V}(n:Nat),RVs K H φ xs vs->RVs K H φ (xs.drop n) (vs.drop n)
 |_,_,0,h=>h
 |[],_,_+1,h=>by rw[show _=[]from h];exact rfl
 |x::xs,_,n+1,⟨y,ys,e,r,t⟩=>by subst e;exact RVs.drop n t
theorem RVs.set{z:PV}{u:V}(q:RV K H φ z u):∀{xs:List PV}{vs:List V}(n:Nat),RVs K H φ xs vs->RVs K H φ (xs.set n z) (vs.set n u)
 |[],_,_,h=>by rw[show _=[]from h];exact rfl
 |x::xs,_,0,⟨y,ys,e,r,t⟩=>by subst e;exact⟨u,_,rfl,q,t⟩
 |x::xs,_,n+1,⟨y,ys,e,r,t⟩=>by subst e;exact⟨y,_,rfl,r,RVs.set q n t⟩
theorem RVs.rep{xs:List PV}{vs:List V}(h:RVs K H φ xs vs):∀n,RVs K H φ (Q1d n xs).flatten (Q1d n vs).flatten
 |0=>rfl
 |n+1=>by
  rw[Q2l,Q2l,Q2z,Q2z]
  exact h.append (RVs.rep h n)
theorem RVs.strs:∀{ns:List Str}{vs:List V},RVs K H φ (ns.map PV.str) vs->vs=ns.map V.str
 |[],_,h=>h
 |_::ns,_,⟨y,ys,e,r,t⟩=>by rw[e,show y=_ from r,RVs.strs t];rfl
theorem RVs.of_ints:∀(ns:List Int),RVs K H φ (ns.map PV.int) (ns.map V.int)
 |[]=>rfl
 |_::ns=>⟨_,_,rfl,rfl,RVs.of_ints ns⟩
def RKs(K:Q1n)(H:Hp)(φ:List Q0i):List (Key×PV)->List (Key×V)->Prop:=Q3r fun p q=>p.1=q.1/\RV K H φ p.2 q.2
theorem RKs.mono(m:Mono H H')(p:φ <+: φ'){xs:List (Key×PV)}{ys:List (Key×V)}(h:RKs K H φ xs ys):RKs K H' φ' xs ys:=Q3r.mapP h fun _ _ hh1=>by obtain⟨a,b⟩:=hh1;exact(⟨a,RV.mono m p _ _ b⟩)
mutual
def ktP:KTr->PV
 |.int i=>.int i
 |.str x=>.str x
 |.tup xs=>.tup (ktPs xs)
def ktPs:List KTr->List PV
 |[]=>[]
 |x::xs=>ktP x::ktPs xs
end
def RNs(K:Q1n)(H:Hp)(φ:List Q0i):List (KTr×PV)->List (KTr×Q0i×V)->Prop:=Q3r fun p q=>p.1=q.1/\((∃ys,p.1=.tup ys)/\kdep p.1<=8)/\RV K H φ (ktP p.1) (.ref q.2.1)/\RV K H φ p.2 q.2.2
theorem RNs.mono(m:Mono H H')(p:φ <+: φ'){xs:List (KTr×PV)}{ys:List (KTr×Q0i×V)}(h:RNs K H φ xs ys):RNs K H' φ' xs ys:=Q3r.mapP h fun _ _ hh1=>by obtain⟨a,c,b,d⟩:=hh1;exact(⟨a,c,RV.mono m p _ _ b,RV.mono m p _ _ d⟩)
def ObjR(K:Q1n)(H:Hp)(φ:List Q0i):SO->Q0i->Prop
 |.lst xs,a=>∃vs,H a=some (.lst vs)/\RVs K H φ xs vs
 |.dK kvs,a=>∃ws,H a=some (.dK ws)/\RKs K H φ kvs ws
 |.dN kvs,a=>∃c ws,H a=some (.dH c ws)/\RNs K H φ kvs ws
 |.dF kvs,a=>∃o ws,H a=some (.frz o (.dK ws))/\RKs K H φ kvs ws
theorem ObjR.some{o:SO}{a:Q0i}(h:ObjR K H φ o a):∃u,H a=Q1r u:=by
 cases o with
 |lst xs=>obtain⟨vs,e,_⟩:=h;exact⟨_,e⟩
 |dK xs=>obtain⟨vs,e,_⟩:=h;exact⟨_,e⟩
 |dN xs=>obtain⟨_,vs,e,_⟩:=h;exact⟨_,e⟩
 |dF xs=>obtain⟨_,vs,e,_⟩:=h;exact⟨_,e⟩
theorem ObjR.mono(m:Mono H H')(p:φ <+: φ'){o:SO}{a:Q0i}(e:∀u,H a=Q1r u->H' a=Q1r u)(h:ObjR K H φ o a):ObjR K H' φ' o a:=by
 cases o with
 |lst xs=>obtain⟨vs,q,r⟩:=h;exact⟨vs,e _ q,RVs.mono m p _ _ r⟩
 |dK xs=>obtain⟨vs,q,r⟩:=h;exact⟨vs,e _ q,RKs.mono m p r⟩
 |dN xs=>obtain⟨c,vs,q,r⟩:=h;exact⟨c,vs,e _ q,RNs.mono m p r⟩
 |dF xs=>obtain⟨c,vs,q,r⟩:=h;exact⟨c,vs,e _ q,RKs.mono m p r⟩
structure Rel(K:Q1n)(φ:List Q0i)(S:q0a)(H:Hp):Prop where
 len:φ.length=S.length
 nd:φ.Nodup
 obj:∀(n:Nat)(a:Q0i)(o:SO),φ[n]?=some a->S[n]?=some o->ObjR K H φ o a
theorem Rel.at'{S:q0a}(h:Rel K φ S H){n:Nat}{a:Q0i}(e:φ[n]?=some a):∃o,S[n]?=some o/\ObjR K H φ o a:=by
 have hn:n<S.length:=by rw[<-h.len];exact(Q0j.mp e).1
 exact⟨S[n],Q0h hn,h.obj n a _ e (Q0h hn)⟩
theorem Rel.frame{S:q0a}(h:Rel K φ S H){p:Q0i}(o:HO)(hp:H p=none):Rel K φ S (upd H p o):=
 ⟨h.len,h.nd,fun n a o' e q=>(h.obj n a o' e q).mono (Mono.new o hp) (Q0d _) fun u z=>by rw[q0b (q0f z hp)];exact z⟩
theorem Rel.new{S:q0a}(h:Rel K φ S H){p:Q0i}{o:SO}{u:HO}(hp:H p=none)(ho:ObjR K (upd H p u) (φ++[p]) o p):Rel K (φ++[p]) (S++[o]) (upd H p u):=by
 refine⟨by simp[h.len],?_,fun n a o' e q=>?_⟩
 ·refine List.nodup_append.mpr ⟨h.nd,by simp,fun a ha b hb=>?_⟩
  rw[Q1l]at hb
  subst hb
  intro z
  subst z
  obtain⟨n,hn,e⟩:=List.mem_iff_getElem.mp ha
  obtain⟨o',_,r⟩:=h.at' (n:=n) (a:=a) (by rw[Q0h hn,e])
  obtain⟨u',z⟩:=r.some
  rw[hp]at z
  cases z
 ·by_cases hn:n<φ.length
  ·rw[Q0x hn]at e
   rw[Q0x (by rw[<-h.len];exact hn)]at q
   exact(h.obj n a o' e q).mono (Mono.new u hp) (Q5r _ _) fun u' z=>by rw[q0b (q0f z hp)];exact z
  ·have hn':n=φ.length:=by
    have:=(Q0j.mp e).1
    simp at this
    omega
   subst hn'
   rw[Q1e (Q0m _)]at e
   rw[h.len,Q1e (Q0m _)]at q
   simp at e q
   subst e q
   exact ho
theorem Rel.put{S:q0a}(h:Rel K φ S H){n:Nat}{a:Q0i}{o:SO}{u:HO}(e:φ[n]?=some a)(m:Mono H (upd H a u))(ho:ObjR K (upd H a u) φ o a):Rel K φ (S.set n o) (upd H a u):=by
 refine⟨by simp[h.len],h.nd,fun i b o' q r=>?_⟩
 by_cases hi:i=n
 ·subst hi
  rw[e]at q
  cases q
  have hl:i<S.length:=by rw[<-h.len];exact(Q0j.mp e).1
  rw[Q1i hl]at r
  cases r
  exact ho
 ·rw[Q1v (fun z=>hi z.symm)]at r
  have hb:b≠a:=fun z=>by
   subst z
   have h1:=Q0j.mp q
   have h2:=Q0j.mp e
   obtain⟨l1,e1⟩:=h1
   obtain⟨l2,e2⟩:=h2
   exact hi ((Q9c h.nd).mp (e1.trans e2.symm))
  exact(h.obj i b o' q r).mono m (Q0d _) fun u' z=>by rw[q0b hb];exact z
theorem Mono.lst{a:Q0i}{xs:List V}{u:HO}(e:H a=some (.lst xs)):Mono H (upd H a u):=
 ⟨fun b xs q=>by rw[q0b (q4q q e (by intro z;cases z))];exact q,fun b o w q=>by rw[q0b (q4q q e (by intro z;cases z))];exact q,fun b f q=>by rw[q0b (q4q q e (by intro z;cases z))];exact q,fun b c ws q=>⟨ws,by rw[q0b (q4q q e (by intro z;cases z))];exact q⟩⟩
theorem Mono.dict{a:Q0i}{xs:List (Key×V)}{u:HO}(e:H a=some (.dK xs)):Mono H (upd H a u):=
 ⟨fun b xs q=>by rw[q0b (q4q q e (by intro z;cases z))];exact q,fun b o w q=>by rw[q0b (q4q q e (by intro z;cases z))];exact q,fun b f q=>by rw[q0b (q4q q e (by intro z;cases z))];exact q,fun b c ws q=>⟨ws,by rw[q0b (q4q q e (by intro z;cases z))];exact q⟩⟩
abbrev EK:=PV->q0a->Prop
structure GX where
 ek:EK
 xh:PV->Hp->Prop
structure LRel(K:Q1n)(G:GX)(H:Hp)(φ:List Q0i)(σ:Loc)(σV:St):Prop where
 len:σ.length=σV.length
 at':∀(i:Nat)(v:PV),σ[i]?=some (some v)->∃x,σV[i]?=some (some x)/\RV K H φ v x
 kx:∀v S' φ' H',G.ek v S'->φ <+: φ'->Mono H H'->Rel K φ' S' H'->G.xh v H'
theorem LRel.mono{G:GX}(m:Mono H H')(p:φ <+: φ'){σ:Loc}{σV:St}(h:LRel K G H φ σ σV):LRel K G H' φ' σ σV:=
 ⟨h.len,fun i v e=>let ⟨x,a,b⟩:=h.at' i v e;⟨x,a,RV.mono m p _ _ b⟩,fun v S1 φ1 H1 g p1 m1 r=>h.kx v S1 φ1 H1 g (p.trans p1) (m.trans m1) r⟩
theorem LRel.set{G:GX}{σ:Loc}{σV:St}(h:LRel K G H φ σ σV)(i:Nat){v:PV}{x:V}(r:RV K H φ v x):LRel K G H φ (σ.set i (some v)) (σV.set i (some x)):=by
 refine⟨by simp[h.len],fun j u e=>?_,h.kx⟩
 by_cases hj:j=i
 ·subst hj
  have hl:j<σ.length:=by
   have:=(Q0j.mp e).1
   simpa using this
  rw[Q1i hl]at e
  cases e
  exact⟨x,Q1i (by rw[<-h.len];exact hl),r⟩
 ·rw[Q1v (fun z=>hj z.symm)]at e
  rw[Q1v (fun z=>hj z.symm)]
  exact h.at' j u e
end
end Ev
namespace Ev
open PySem L2
abbrev VC:=PV->q0a->Prop
abbrev WE:=Loc->q0a->EK->VC->Prop
abbrev WT:=Loc->q0a->EK->(Bool->q0a->Prop)->Prop
abbrev WA:=Loc->q0a->EK->(List PV->q0a->Prop)->Prop
def KE(K:Q1n)(φ:List Q0i)(H:Hp)(Q0:VC)(Q:VK):Prop:=∀v S' φ' H' x,Q0 v S'->φ <+: φ'->Mono H H'->Rel K φ' S' H'->RV K H' φ' v x->Q x H'
def KB(K:Q1n)(φ:List Q0i)(H:Hp)(Q0:Bool->q0a->Prop)(Q:Bool->Hp->Prop):Prop:=∀v S' φ' H',Q0 v S'->φ <+: φ'->Mono H H'->Rel K φ' S' H'->Q v H'
def KL(K:Q1n)(φ:List Q0i)(H:Hp)(Q0:List PV->q0a->Prop)(Q:List V->Hp->Prop):Prop:=∀v S' φ' H' x,Q0 v S'->φ <+: φ'->Mono H H'->Rel K φ' S' H'->RVs K H' φ' v x->Q x H'
theorem KE.up{K:Q1n}{φ φ1:List Q0i}{H H1:Hp}{Q0:VC}{Q:VK}(k:KE K φ H Q0 Q)(p:φ <+: φ1)(m:Mono H H1):KE K φ1 H1 Q0 Q:=fun v S' φ' H' x q p' m'=>k v S' φ' H' x q (p.trans p') (m.trans m')
theorem KB.up{K:Q1n}{φ φ1:List Q0i}{H H1:Hp}{Q0:Bool->q0a->Prop}{Q:Bool->Hp->Prop}(k:KB K φ H Q0 Q)(p:φ <+: φ1)(m:Mono H H1):KB K φ1 H1 Q0 Q:=fun v S' φ' H' q p' m'=>k v S' φ' H' q (p.trans p') (m.trans m')
def q3q(K:Q1n)(G:GX)(w:WE):TE:=fun σV H Q=>∃φ σ S Q0,LRel K G H φ σ σV/\Rel K φ S H/\w σ S G.ek Q0/\KE K φ H Q0 Q
def q6w(K:Q1n)(G:GX)(w:WT):TT:=fun σV H Q=>∃φ σ S Q0,LRel K G H φ σ σV/\Rel K φ S H/\w σ S G.ek Q0/\KB K φ H Q0 Q
def y1t(K:Q1n)(G:GX)(w:WA):TA:=fun σV H Q=>∃φ σ S Q0,LRel K G H φ σ σV/\Rel K φ S H/\w σ S G.ek Q0/\KL K φ H Q0 Q
def SimE(X:Cx)(G:GX)(e:Expr)(w:WE):Prop:=PE X e (q3q X.K G w)
def SimT(X:Cx)(G:GX)(e:Expr)(w:WT):Prop:=PT X e (q6w X.K G w)
def SimW(X:Cx)(G:GX)(e:Expr)(w:WT):Prop:=PW X e (q6w X.K G w)
def SimA(X:Cx)(G:GX)(es:List Expr)(w:WA):Prop:=PA X es (y1t X.K G w)
theorem _root_.L2.PE.imp{X:Cx}{e:Expr}{t t':TE}(h:PE X e t)(i:∀σ H Q,t' σ H Q->t σ H Q):PE X e t':=fun pins s σ H Q I q=>h pins s σ H Q I (i σ H Q q)
theorem _root_.L2.PT.imp{X:Cx}{e:Expr}{t t':TT}(h:PT X e t)(i:∀σ H Q,t' σ H Q->t σ H Q):PT X e t':=fun pins s σ H Q I q=>h pins s σ H Q I (i σ H Q q)
theorem _root_.L2.PW.imp{X:Cx}{e:Expr}{t t':TT}(h:PW X e t)(i:∀σ H Q,t' σ H Q->t σ H Q):PW X e t':=fun wh pins s σ H Q I q=>h wh pins s σ H Q I (i σ H Q q)
theorem _root_.L2.PA.imp{X:Cx}{e:List Expr}{t t':TA}(h:PA X e t)(i:∀σ H Q,t' σ H Q->t σ H Q):PA X e t':=fun pos pins s σ H Q I q=>h pos pins s σ H Q I (i σ H Q q)
def wVar(i:Nat):WE:=fun σ S _ Q=>match σ[i]? with
 |some (some v)=>Q v S
 |_=>False
def wC(v:PV):WE:=fun _ S _ Q=>Q v S
section
variable{X:Cx}{G:GX}{pos:Pos}
theorem z6s(i:Nat){x:Str}(hN:X.N[i]?=some x:=by rfl)(hv:Vis X.env.scope x:=by first|exact Q5y rfl|exact Q4l (Q5y rfl)|exact Q4l (Q4l rfl))(hd:(x==("__debug__" : Str))=false:=by decide)(hcd:(x==("__classdict__" : Str))=false:=by decide) :
  SimE X G (.Name x pos) (wVar i):=by
 refine(z1f (i:=i) hN hv hd hcd).imp fun σV H Q hh1=>?_
 obtain⟨φ,σ,S,Q0,L,R,h,k⟩:=hh1
 unfold wVar at h
 split at h
 ·rename_i v e
  obtain⟨x,e',r⟩:=L.at' i v e
  exact⟨x,e',k v S φ H x h (Q0d _) (.refl _) R r⟩
 ·exact h.elim
theorem q1z{e:Expr}{v:V}(p:PV)(h:PE X e (tC v))(r:∀H φ,RV X.K H φ p v):SimE X G e (wC p):=
 h.imp fun σV H Q hh1=>by obtain⟨φ,σ,S,Q0,L,R,h,k⟩:=hh1;exact(k p S φ H v h (Q0d _) (.refl _) R (r H φ))
theorem z7d {i j}:SimE X G (.Constant (.int i) j pos) (wC (.int i)):=q1z _ y1c fun _ _=>rfl
theorem y0d {i j}:SimE X G (.Constant (.bool i) j pos) (wC (.bl i)):=q1z _ y3o fun _ _=>rfl
theorem z6u {i j}:SimE X G (.Constant (.str i) j pos) (wC (.str i)):=q1z _ y0x fun _ _=>rfl
theorem z6z {j}:SimE X G (.Constant .none j pos) (wC .non):=q1z _ y1a fun _ _=>rfl
structure GlobV(K:Q1n)(mg:Str->Option Q0a)(x:Str)(p:PV):Prop where
 is:∃u v,mg x=some u/\RelV v u/\∀H φ,RV K H φ p v
theorem z4a{x:Str}{p:PV}(g:GlobV X.K X.mg x p)(hg:Gl X x:=by rfl)(hd:(x==("__debug__" : Str))=false:=by decide):SimE X G (.Name x pos) (wC p):=by
 obtain⟨u,v,h1,h2,h3⟩:=g.is
 exact q1z p (z1g hg h1 h2 hd) h3
theorem q7r{x:Str}{T:String}(hm:X.mg x=none)(hb:bootBuiltins x=some (.type T))(hg:Gl X x:=by rfl)(hn:x≠ "__name__" :=by decide)(hd:(x==("__debug__" : Str))=false:=by decide):SimE X G (.Name x pos) (wC (.ty T)):=
 q1z (v:=.ty T) _ (z1i hg hm hb rfl hn hd) fun _ _=>rfl
end
abbrev F2:=PV->PV->q0a->VC->Prop
def wBin(f:F2)(wa wb:WE):WE:=fun σ S E Q=>wa σ S E fun x S1=>wb σ S1 E fun y S2=>f x y S2 Q
def q1w(K:Q1n)(f:F2):R2:=fun x' y' H Q=>∃φ S x y Q0,Rel K φ S H/\RV K H φ x x'/\RV K H φ y y'/\f x y S Q0/\KE K φ H Q0 Q
section
variable{X:Cx}{G:GX}{pos:Pos}{a b:Expr}{wa wb:WE}{f:F2}
theorem q2p{σV:St}{H:Hp}{Q:VK}(h:q3q X.K G (wBin f wa wb) σV H Q):tOp (q1w X.K f) (q3q X.K G wa) (q3q X.K G wb) σV H Q:=by
 obtain⟨φ,σ,S,Q0,L,R,h,k⟩:=h
 refine⟨φ,σ,S,_,L,R,h,fun v S1 φ1 H1 x q p1 m1 R1 r1=>?_⟩
 refine⟨φ1,σ,S1,_,L.mono m1 p1,R1,q,fun u S2 φ2 H2 y q2 p2 m2 R2 r2=>?_⟩
 exact⟨φ2,S2,v,u,Q0,R2,RV.mono m2 p2 _ _ r1,r2,q2,k.up (p1.trans p2) (m1.trans m2)⟩
theorem q4m{op:Operator}(ho:OpR X (binaryOp op) (q1w X.K f))(ha:SimE X G a wa)(hb:SimE X G b wb):SimE X G (.BinOp a op b pos) (wBin f wa wb):=(y3l ho ha hb).imp fun _ _ _ h=>q2p h
theorem z7f{op:Z0u}(ho:OpR X (compareOp op) (q1w X.K f))(ha:SimE X G a wa)(hb:SimE X G b wb)(hm:behindInMarks op b=false):SimE X G (.Compare a [op] [b] pos) (wBin f wa wb):=(z7x ho ha hb hm).imp fun _ _ _ h=>q2p h
def q2h(w:WE):WT:=fun σ S E Q=>w σ S E fun x S1=>match x with
 |.bl c=>Q c S1
 |_=>False
theorem z1u{w:WE}{t:TE}(i:∀σ H Q,q3q X.K G w σ H Q->t σ H Q){σV:St}{H:Hp}{Q:Bool->Hp->Prop}(h:q6w X.K G (q2h w) σV H Q):z9y t σV H Q:=by
 obtain⟨φ,σ,S,Q0,L,R,h,k⟩:=h
 refine i _ _ _ ⟨φ,σ,S,_,L,R,h,fun v S1 φ1 H1 x q p1 m1 R1 r1=>?_⟩
 cases v with
 |bl c=>exact⟨c,r1,k c S1 φ1 H1 q p1 m1 R1⟩
 |_=>exact q.elim
theorem q2o{op:Z0u}(ho:OpR X (compareOp op) (q1w X.K f))(ha:SimE X G a wa)(hb:SimE X G b wb)(hm:behindInMarks op b=false):SimT X G (.Compare a [op] [b] pos) (q2h (wBin f wa wb)):=
 (z7p ho ha hb hm).imp fun _ _ _ h=>z1u (fun _ _ _ h=>q2p h) h
end
def truK(x:PV)(S:q0a)(Q:Bool->q0a->Prop):Prop:=match x with
 |.non=>Q false S
 |.bl b=>Q b S
 |.int i=>Q (i != 0) S
 |.str y=>y.length<=Q0k/\Q (!decide (y.length=0)) S
 |.tup xs=>Q (!xs.isEmpty) S
 |.frl xs=>Q (!xs.isEmpty) S
 |.ref n=>match S[n]? with
  |some (.lst xs)=>Q (!xs.isEmpty) S
  |some (.dK xs)=>Q (!xs.isEmpty) S
  |_=>False
 |.ty _=>False
 |.exc _=>False
def wTru(w:WE):WT:=fun σ S E Q=>w σ S E fun x S1=>truK x S1 Q
theorem z2v{K:Q1n}{H:Hp}{φ:List Q0i}{xs:List PV}{vs:List V}(r:RVs K H φ xs vs):(!xs.isEmpty)=!vs.isEmpty:=by
 have:=r.length
 cases xs<;>cases vs<;>simp_all
theorem z6n{K:Q1n}{H:Hp}{φ:List Q0i}{S:q0a}{x:PV}{x':V}{Q0:Bool->q0a->Prop}{Q:Bool->Hp->Prop}(R:Rel K φ S H)(r:RV K H φ x x')(h:truK x S Q0)(k:∀b,Q0 b S->Q b H):∃b,TruV K x' H b/\Q b H:=by
 unfold truK at h
 cases x with
 |non=>cases r;exact⟨false,rfl,k _ h⟩
 |bl b=>cases r;exact⟨b,rfl,k _ h⟩
 |int i=>cases r;exact⟨_,rfl,k _ h⟩
 |str y=>
  cases r
  obtain⟨hz,h⟩:=h
  refine⟨!decide (y.length=0),⟨hz,?_⟩,k _ h⟩
  by_cases e:y.length=0
  ·rw[e];rfl
  ·rw[decide_eq_false e]
   symm
   simp only[bne_iff_ne,Bool.not_false]
   intro z
   exact e (by exact_mod_cast z)
 |tup xs=>
  obtain⟨a,vs,rfl,s,rs⟩:=r
  exact⟨_,.inr (.inl ⟨vs,s,rfl⟩),k _ (by rw[<-z2v rs];exact h)⟩
 |frl xs=>
  obtain⟨a,vs,rfl,s,rs⟩:=r
  exact⟨_,.inl ⟨vs,s.sq,rfl⟩,k _ (by rw[<-z2v rs];exact h)⟩
 |ref n=>
  obtain⟨a,rfl,e⟩:=r
  dsimp only at h
  split at h
  ·rename_i xs es
   obtain⟨vs,e1,rs⟩:=R.obj n a _ e es
   exact⟨_,.inl ⟨vs,SqL.of e1,rfl⟩,k _ (by rw[<-z2v rs];exact h)⟩
  ·rename_i xs es
   obtain⟨vs,e1,rs⟩:=R.obj n a _ e es
   have:(!xs.isEmpty)=!vs.isEmpty:=by cases rs<;>rfl
   exact⟨_,.inr (.inr ⟨vs,e1,rfl⟩),k _ (by rw[<-this];exact h)⟩
  ·exact h.elim
 |ty n=>exact h.elim
 |exc c=>exact h.elim
section
variable{X:Cx}{G:GX}{pos:Pos}{a b c:Expr}{wa wb:WE}{ta tb:WT}{rest:List Expr}
theorem z4f(ha:SimE X G a wa)(he:∀whole,isTrue a X.env whole=(do let v <-whole;standAt a.pos;holding [v] (truthy v)):=by intro _;rfl):SimT X G a (wTru wa):=
 (z4m ha he).imp fun σV H Q hh1=>by obtain⟨φ,σ,S,Q0,L,R,h,k⟩:=hh1;exact(⟨φ,σ,S,_,L,R,h,fun v S1 φ1 H1 x q p1 m1 R1 r1=>z6n R1 r1 q fun b q=>k b S1 φ1 H1 q p1 m1 R1⟩)
def wOr(ta tb:WT):WT:=fun σ S E Q=>ta σ S E fun c S1=>if c=true then Q true S1 else tb σ S1 E Q
def wNot(ta:WT):WT:=fun σ S E Q=>ta σ S E fun c S1=>Q (!c) S1
theorem SimW.t{e:Expr}{w:WT}(h:SimW X G e w):SimT X G e w:=h _
theorem z4e(ha:SimT X G a ta):SimW X G (.BoolOp .Or [a] pos) ta:=y0j ha
theorem z7i(ha:SimT X G a ta)(hb:SimW X G (.BoolOp .Or (b::rest) pos) tb):SimW X G (.BoolOp .Or (a::b::rest) pos) (wOr ta tb):=
 (y3i ha hb).imp fun σV H Q hh1=>by obtain⟨φ,σ,S,Q0,L,R,h,k⟩:=hh1;exact(⟨φ,σ,S,_,L,R,h,fun c S1 φ1 H1 q p1 m1 R1=>by
  cases c with
  |false=>exact ⟨φ1,σ,S1,_,L.mono m1 p1,R1,q,k.up p1 m1⟩
  |true=>exact k true S1 φ1 H1 q p1 m1 R1⟩)
theorem z4g(ha:SimT X G a ta):SimT X G (.UnaryOp .Not a pos) (wNot ta):=
 (y0k ha).imp fun σV H Q hh1=>by obtain⟨φ,σ,S,Q0,L,R,h,k⟩:=hh1;exact(⟨φ,σ,S,_,L,R,h,fun c S1 φ1 H1 q p1 m1 R1=>k (!c) S1 φ1 H1 q p1 m1 R1⟩)
def q8n(wa wb:WE):WE:=fun σ S E Q=>wa σ S E fun x S1=>match x with
 |.bl c=>if c=true then wb σ S1 E Q else Q (.bl false) S1
 |_=>False
def z3n(wa:WE):WE:=fun σ S E Q=>wa σ S E fun x S1=>match x with
 |.bl c=>Q (.bl (!c)) S1
 |_=>False
theorem z6x {op} (h:SimE X G a wa):SimE X G (.BoolOp op [a] pos) wa:=y0y h
theorem z7h(ha:SimE X G a wa)(hb:SimE X G (.BoolOp .And (b::rest) pos) wb):SimE X G (.BoolOp .And (a::b::rest) pos) (q8n wa wb):=
 (y1e ha hb).imp fun σV H Q hh1=>by obtain⟨φ,σ,S,Q0,L,R,h,k⟩:=hh1;exact(⟨φ,σ,S,_,L,R,h,fun v S1 φ1 H1 x q p1 m1 R1 r1=>by
  cases v with
  |bl c=>
   refine ⟨c,r1,?_⟩
   cases c with
   |true=>exact ⟨φ1,σ,S1,_,L.mono m1 p1,R1,q,k.up p1 m1⟩
   |false=>exact k _ S1 φ1 H1 _ q p1 m1 R1 rfl
  |_=>exact q.elim⟩)
theorem z6y(ha:SimE X G a wa):SimE X G (.UnaryOp .Not a pos) (z3n wa):=
 (y0z ha).imp fun σV H Q hh1=>by obtain⟨φ,σ,S,Q0,L,R,h,k⟩:=hh1;exact(⟨φ,σ,S,_,L,R,h,fun v S1 φ1 H1 x q p1 m1 R1 r1=>by
  cases v with
  |bl c=>exact ⟨c,r1,k _ S1 φ1 H1 _ q p1 m1 R1 rfl⟩
  |_=>exact q.elim⟩)
def wIf(t:WT)(wa wb:WE):WE:=fun σ S E Q=>t σ S E fun c S1=>if c=true then wa σ S1 E Q else wb σ S1 E Q
theorem z0r(hc:SimT X G c ta)(ha:SimE X G a wa)(hb:SimE X G b wb):SimE X G (.IfExp c a b pos) (wIf ta wa wb):=
 (z4u hc ha hb).imp fun σV H Q hh1=>by obtain⟨φ,σ,S,Q0,L,R,h,k⟩:=hh1;exact(⟨φ,σ,S,_,L,R,h,fun c S1 φ1 H1 q p1 m1 R1=>by
  cases c with
  |true=>exact ⟨φ1,σ,S1,_,L.mono m1 p1,R1,q,k.up p1 m1⟩
  |false=>exact ⟨φ1,σ,S1,_,L.mono m1 p1,R1,q,k.up p1 m1⟩⟩)
def wNeg(wa:WE):WE:=fun σ S E Q=>wa σ S E fun x S1=>match x with
 |.int i=>Q (.int (-i)) S1
 |_=>False
theorem z7a(ha:SimE X G a wa):SimE X G (.UnaryOp .USub a pos) (wNeg wa):=
 (y3k z9u ha).imp fun σV H Q hh1=>by obtain⟨φ,σ,S,Q0,L,R,h,k⟩:=hh1;exact(⟨φ,σ,S,_,L,R,h,fun v S1 φ1 H1 x q p1 m1 R1 r1=>by
  cases v with
  |int c=>exact ⟨c,r1,k _ S1 φ1 H1 _ q p1 m1 R1 rfl⟩
  |_=>exact q.elim⟩)
def wNil:WA:=fun _ S _ Q=>Q [] S
def q0c(wa:WE)(wr:WA):WA:=fun σ S E Q=>wa σ S E fun x S1=>wr σ S1 E fun xs S2=>Q (x::xs) S2
theorem z4j:SimA X G [] wNil:=q7w.imp fun σV H Q hh1=>by obtain⟨φ,σ,S,Q0,L,R,h,k⟩:=hh1;exact(k [] S φ H [] h (Q0d _) (.refl _) R rfl)
theorem z0v{e:Expr}{es:List Expr}{we:WE}{wr:WA}(ha:SimE X G e we)(hr:SimA X G es wr)(hs:Q0t (e::es) X.env=(false,eval e X.env)::Q0t es X.env:=by rfl):SimA X G (e::es) (q0c we wr):=
 (q1u ha hr hs).imp fun σV H Q hh1=>by obtain⟨φ,σ,S,Q0,L,R,h,k⟩:=hh1;exact(⟨φ,σ,S,_,L,R,h,fun v S1 φ1 H1 x q p1 m1 R1 r1=>
  ⟨φ1,σ,S1,_,L.mono m1 p1,R1,q,fun vs S2 φ2 H2 xs q2 p2 m2 R2 r2=>k (v::vs) S2 φ2 H2 (x::xs) q2 (p1.trans p2) (m1.trans m2) R2 (.cons (RV.mono m2 p2 _ _ r1) r2)⟩⟩)
def wLst(w:WA):WE:=fun σ S E Q=>w σ S E fun xs S1=>xs.length<=Q0k/\Q (.ref S1.length) (S1++[.lst xs])
variable{es:List Expr}{w:WA}
theorem KE.tup{K:Q1n}{φ:List Q0i}{H:Hp}{Q0:VC}{Q:VK}{S:q0a}{xs:List PV}{vs:List V}(k:KE K φ H Q0 Q)(q:Q0 (.tup xs) S)(R:Rel K φ S H)(r:RVs K H φ xs vs):∀p,H p=none->Q (.ref p) (upd H p (.tup vs)):=fun p hp=>
 k _ S φ _ _ q (Q0d _) (.new _ hp) (R.frame _ hp) ⟨p,vs,rfl,SqT.of q0d,RVs.mono (.new _ hp) (Q0d _) _ _ r⟩
theorem KE.lst{K:Q1n}{φ:List Q0i}{H:Hp}{Q0:VC}{Q:VK}{S:q0a}{xs:List PV}{vs:List V}(k:KE K φ H Q0 Q)(q:Q0 (.ref S.length) (S++[.lst xs]))(R:Rel K φ S H)(r:RVs K H φ xs vs):∀p,H p=none->Q (.ref p) (upd H p (.lst vs)):=fun p hp=>
 k _ (S++[.lst xs]) (φ++[p]) _ _ q (Q5r _ _) (.new _ hp) (R.new (o:=.lst xs) hp ⟨vs,q0d,RVs.mono (.new _ hp) (Q5r _ _) _ _ r⟩) (show RV K _ _ (.ref S.length) _ from⟨p,rfl,by rw[<-R.len];simp⟩)
theorem z7b(h:SimA X G es w):SimE X G (.List es pos) (wLst w):=
 (y1b h).imp fun σV H Q hh1=>by obtain⟨φ,σ,S,Q0,L,R,h,k⟩:=hh1;exact(⟨φ,σ,S,_,L,R,h,fun vs S1 φ1 H1 xs hh2 p1 m1 R1 r1=>by obtain⟨hz,q⟩:=hh2;exact(⟨by rw[<-r1.length];exact hz,(k.up p1 m1).lst q R1 r1⟩)⟩)
end
def q3o(S:q0a)(n:Nat):Option (List PV):=match S[n]? with
 |some (.lst xs)=>some xs
 |_=>none
def q1t(S:q0a)(n:Nat):Option (List PV):=match S[n]? with
 |some (.lst xs)=>some xs
 |_=>none
section
variable{K:Q1n}{H:Hp}{φ:List Q0i}{S:q0a}
theorem z1s{n:Nat}{xs:List PV}(e:q3o S n=some xs):S[n]?=some (.lst xs):=by
 unfold q3o at e
 split at e
 ·cases e;assumption
 ·cases e
theorem Rel.lst(R:Rel K φ S H){n:Nat}{a:Q0i}{xs:List PV}(q:φ[n]?=some a)(e:q3o S n=some xs):∃vs,H a=some (.lst vs)/\RVs K H φ xs vs:=R.obj n a _ q (z1s e)
theorem Rel.seq(R:Rel K φ S H){n:Nat}{a:Q0i}{xs:List PV}(q:φ[n]?=some a)(e:q1t S n=some xs):∃vs,SqL K H a vs/\RVs K H φ xs vs:=by
 unfold q1t at e
 split at e
 ·rename_i ys es
  cases e
  obtain⟨vs,e1,r⟩:=R.obj n a _ q es
  exact⟨vs,SqL.of e1,r⟩
 ·cases e
end
def bAdd:F2:=fun x y S Q=>match x,y with
 |.int i,.int j=>Q (.int (i+j)) S
 |.str a,.str b=>a.length+b.length<=Q0k/\Q (.str (a++b)) S
 |.tup xs,.tup ys=>xs.length+ys.length<=Q0k/\Q (.tup (xs++ys)) S
 |.ref m,.ref n=>match q3o S m,q3o S n with
  |some xs,some ys=>xs.length+ys.length<=Q0k/\Q (.ref S.length) (S++[.lst (xs++ys)])
  |_,_=>False
 |_,_=>False
def bI(C:Int->Int->Prop)(g:Int->Int->PV):F2:=fun x y S Q=>match x,y with
 |.int i,.int j=>C i j/\Q (g i j) S
 |_,_=>False
def q3t:F2:=bI (fun _ j=>0<j/\j<2 ^ 100) fun i j=>.int (i / j)
def bMod:F2:=bI (fun _ j=>0<j) fun i j=>.int (i % j)
def cLt:F2:=bI (fun _ _=>True) fun i j=>.bl (decide (i<j))
def cGt:F2:=bI (fun _ _=>True) fun i j=>.bl (decide (j<i))
def bMul:F2:=fun x y S Q=>match x,y with
 |.int i,.int j=>CMul i j/\Q (.int (i*j)) S
 |.ref m,.int k=>match q3o S m with
  |some xs=>(-(2 ^ 63)<=k/\k<2 ^ 63/\xs.length*k.toNat<=Q0k)/\Q (.ref S.length) (S++[.lst (Q1d k.toNat xs).flatten])
  |none=>False
 |_,_=>False
section
variable{X:Cx}
theorem z4w{f:Q0a->Q0a->Sem Q0a}{C D:Int->Int->Prop}{g:Int->Int->PV}{gV:Int->Int->V}(ho:OpR X f (rI D gV))(hd:∀i j,C i j->D i j)(hg:∀i j H φ,RV X.K H φ (g i j) (gV i j)):OpR X f (q1w X.K (bI C g)):=by
 rintro pins s σ H x y v u Q I rx ry ⟨φ,S,px,py,Q0,R,hx,hy,h,k⟩
 unfold bI at h
 split at h
 ·rename_i i j
  exact ho pins s σ H x y v u Q I rx ry ⟨i,j,hx,hy,hd i j h.1,k _ S φ H _ h.2 (Q0d _) (.refl _) R (hg i j H φ)⟩
 ·exact h.elim
theorem OpR.of0{f:Q0a->Q0a->Sem Q0a}{gV:Int->Int->V}(ho:OpR X f (rI0 gV)):OpR X f (rI (fun _ _=>True) gV):=fun pins s σ H x y v u Q I rx ry hh1=>by obtain⟨i,j,a,b,_,q⟩:=hh1;exact(ho pins s σ H x y v u Q I rx ry ⟨i,j,a,b,q⟩)
theorem z4v:OpR X (binaryOp .FloorDiv) (q1w X.K q3t):=z4w z4x (fun _ _ h=>h) fun _ _ _ _=>rfl
theorem z8c:OpR X (binaryOp .Mod) (q1w X.K bMod):=z4w y1m (fun _ _ h=>h) fun _ _ _ _=>rfl
theorem y1i:OpR X (compareOp .Lt) (q1w X.K cLt):=z4w (OpR.of0 y3q) (fun _ _ h=>h) fun _ _ _ _=>rfl
theorem y1j:OpR X (compareOp .Gt) (q1w X.K cGt):=z4w (OpR.of0 y3r) (fun _ _ h=>h) fun _ _ _ _=>rfl
theorem z8b:OpR X (binaryOp .Mult) (q1w X.K bMul):=by
 rintro pins s σ H x y v u Q I rx ry ⟨φ,S,px,py,Q0,R,hx,hy,h,k⟩
 unfold bMul at h
 split at h
 ·rename_i i j
  exact y1l pins s σ H x y v u Q I rx ry ⟨i,j,hx,hy,h.1,k _ S φ H _ h.2 (Q0d _) (.refl _) R rfl⟩
 ·rename_i m kk
  split at h
  ·rename_i xs e
   obtain⟨a,rfl,qa⟩:=hx
   cases hy
   obtain⟨vs,ea,r⟩:=R.lst qa e
   obtain⟨⟨h1,h2,h3⟩,h⟩:=h
   exact y1k pins s σ H _ _ v u Q I rx ry ⟨a,kk,vs,rfl,rfl,ea,h1,h2,by rw[<-r.length];exact h3,k.lst h R (r.rep _)⟩
  ·exact h.elim
 ·exact h.elim
theorem z8d:OpR X (binaryOp .Add) (q1w X.K bAdd):=by
 rintro pins s σ H x y v u Q I rx ry ⟨φ,S,px,py,Q0,R,hx,hy,h,k⟩
 unfold bAdd at h
 split at h
 ·rename_i i j
  exact y1o pins s σ H x y v u Q I rx ry ⟨i,j,hx,hy,k _ S φ H _ h (Q0d _) (.refl _) R rfl⟩
 ·rename_i a b
  exact q9a pins s σ H x y v u Q I rx ry ⟨a,b,hx,hy,h.1,k _ S φ H _ h.2 (Q0d _) (.refl _) R rfl⟩
 ·rename_i xs ys
  obtain⟨a,vs,rfl,sa,ra⟩:=hx
  obtain⟨b,ws,rfl,sb,rb⟩:=hy
  refine z4y pins s σ H _ _ v u Q I rx ry ?_
  by_cases hv:vs=[]
  ·subst hv
   have:xs=[]:=Q4n.mp (by rw[ra.length];rfl)
   subst this
   exact .inl ⟨a,b,ws,rfl,rfl,sa,sb,k _ S φ H _ h.2 (Q0d _) (.refl _) R ⟨b,ws,rfl,sb,rb⟩⟩
  ·refine .inr ⟨a,b,vs,ws,rfl,rfl,sa,sb,hv,by rw[<-ra.length,<-rb.length];exact h.1,fun hw=>?_,fun _=>k.tup h.2 R (ra.append rb)⟩
   subst hw
   have:ys=[]:=Q4n.mp (by rw[rb.length];rfl)
   subst this
   refine k _ S φ H _ h.2 (Q0d _) (.refl _) R ?_
   rw[Q2c]
   exact⟨a,vs,rfl,sa,ra⟩
 ·rename_i m n
  split at h
  ·rename_i xs ys e1 e2
   obtain⟨a,rfl,qa⟩:=hx
   obtain⟨b,rfl,qb⟩:=hy
   obtain⟨vs,ea,ra⟩:=R.lst qa e1
   obtain⟨ws,eb,rb⟩:=R.lst qb e2
   exact y1n pins s σ H _ _ v u Q I rx ry ⟨a,b,vs,ws,rfl,rfl,ea,eb,by rw[<-ra.length,<-rb.length];exact h.1,k.lst h.2 R (ra.append rb)⟩
  ·exact h.elim
 ·exact h.elim
def y2x:F2:=fun x y S Q=>match x,y with
 |.int i,.int j=>Q (.int (i+j)) S
 |.str a,.str b=>a.length+b.length<=Q0k/\Q (.str (a++b)) S
 |_,_=>False
end
mutual
def eqB:PV->PV->Bool
 |.non,y=>match y with
  |.non=>true
  |_=>false
 |.bl a,y=>match y with
  |.bl b=>a==b
  |.int b=>(if a then 1 else 0)==b
  |_=>false
 |.int a,y=>match y with
  |.bl b=>a==(if b then 1 else 0)
  |.int b=>a==b
  |_=>false
 |.str a,y=>match y with
  |.str b=>a==b
  |_=>false
 |.tup xs,y=>match y with
  |.tup ys=>eqBs xs ys
  |_=>false
 |.ty _,_=>false
 |.frl _,_=>false
 |.ref _,_=>false
 |.exc _,_=>false
def eqBs:List PV->List PV->Bool
 |[],ys=>ys.isEmpty
 |x::xs,ys=>match ys with
  |[]=>false
  |y::r=>eqB x y&&eqBs xs r
end
mutual
def nrf:PV->Bool
 |.ty _=>false
 |.frl _=>false
 |.ref _=>false
 |.exc _=>false
 |.tup xs=>nrfs xs
 |_=>true
def nrfs:List PV->Bool
 |[]=>true
 |x::xs=>nrf x&&nrfs xs
end
mutual
def dep:PV->Nat
 |.tup xs=>1+deps xs
 |_=>0
def deps:List PV->Nat
 |[]=>0
 |x::xs=>max (dep x) (deps xs)
end
theorem q8e:∀{xs ys:List PV},eqBs xs ys=true->xs.length=ys.length
 |[],ys,h=>by cases ys<;>simp_all [eqBs]
 |x::xs,ys,h=>by
  cases ys with
  |nil=>simp[eqBs]at h
  |cons y r=>
   simp only[eqBs,Q2u]at h
   simp[q8e h.2]
theorem q1c:∀(xs ys:List PV),eqBs xs ys=((Q2y (min xs.length ys.length)).all (fun j=>eqB (xs.getD j .non) (ys.getD j .non))&&xs.length==ys.length)
 |[],ys=>by cases ys<;>simp[eqBs]
 |x::xs,ys=>by
  cases ys with
  |nil=>simp[eqBs]
  |cons y r=>
   have e:min (x::xs).length (y::r).length=min xs.length r.length+1:=by simp only[Q0q];omega
   rw[e,List.range_succ_eq_map,List.all_cons,List.all_map]
   simp only[eqBs,q1c xs r,Q0q,Function.comp]
   rw[Bool.and_assoc]
   congr 2
   by_cases h:xs.length=r.length
   ·simp[h]
   ·simp[h]
mutual
theorem q8g:∀x:PV,nrf x=true->eqB x x=true
 |.non,_=>rfl
 |.bl b,_=>by simp[eqB]
 |.int i,_=>by simp[eqB]
 |.str x,_=>by simp[eqB]
 |.tup xs,h=>by simp only[eqB];exact q6a xs (by simpa[nrf]using h)
 |.ty _,h=>by simp[nrf]at h
 |.frl _,h=>by simp[nrf]at h
 |.ref _,h=>by simp[nrf]at h
 |.exc _,h=>by simp[nrf]at h
theorem q6a:∀xs:List PV,nrfs xs=true->eqBs xs xs=true
 |[],_=>rfl
 |x::xs,h=>by
  simp only[nrfs,Q2u]at h
  simp only[eqBs,q8g x h.1,q6a xs h.2,Q9z]
end
section
variable{X:Cx}{pins:List (Q0i×Obj)}{s:Q0b}{σ:St}{H:Hp}{φ:List Q0i}
mutual
theorem RV.inj(I:Inv X pins σ H s):∀(x y:PV)(v:V),nrf x=true->nrf y=true->RV X.K H φ x v->RV X.K H φ y v->x=y
 |.non,y,v,_,hy,r,q=>by cases y<;>simp_all [RV,nrf]
 |.bl b,y,v,_,hy,r,q=>by cases y<;>simp_all [RV,nrf]
 |.int b,y,v,_,hy,r,q=>by cases y<;>simp_all [RV,nrf]
 |.str b,y,v,_,hy,r,q=>by cases y<;>simp_all [RV,nrf]
 |.ty _,y,v,h,hy,r,q=>by simp[nrf]at h
 |.frl _,y,v,h,hy,r,q=>by simp[nrf]at h
 |.ref _,y,v,h,hy,r,q=>by simp[nrf]at h
 |.exc _,y,v,h,hy,r,q=>by simp[nrf]at h
 |.tup xs,y,v,h,hy,r,q=>by
  obtain⟨a,vs,rfl,sa,ra⟩:=r
  cases y with
  |tup ys=>
   obtain⟨b,ws,e,sb,rb⟩:=q
   cases e
   have:=I.tuple_inj sa sb
   subst this
   rw[RVs.inj I xs ys vs (by simpa[nrf]using h) (by simpa[nrf]using hy) ra rb]
  |non=>cases q
  |bl _=>cases q
  |int _=>cases q
  |str _=>cases q
  |ty _=>simp[nrf]at hy
  |frl _=>simp[nrf]at hy
  |ref _=>simp[nrf]at hy
  |exc _=>simp[nrf]at hy
theorem RVs.inj(I:Inv X pins σ H s):∀(xs ys:List PV)(vs:List V),nrfs xs=true->nrfs ys=true->RVs X.K H φ xs vs->RVs X.K H φ ys vs->xs=ys
 |[],ys,vs,_,_,r,q=>by
  rw[show vs=[]from r]at q
  exact(Q4n.mp (by rw[RVs.length q];rfl)).symm
 |x::xs,ys,vs,h,h',r,q=>by
  obtain⟨v,ws,rfl,r1,r2⟩:=r
  cases ys with
  |nil=>cases(show v::ws=[]from q)
  |cons y ys=>
   obtain⟨v',ws',e,q1,q2⟩:=q
   cases e
   simp only[nrfs,Q2u]at h h'
   rw[RV.inj I x y v h.1 h'.1 r1 q1,RVs.inj I xs ys ws h.2 h'.2 r2 q2]
end
theorem q1i(A:Q0w):A.in1.units=A.units+1:=rfl
theorem q0z{vs:List V}{its:List Q0a}(r:Vals vs its){j:Nat}(h:j<its.toArray.size){x:V}(e:vs[j]?=some x):RelV x its.toArray[j]:=by
 obtain⟨u,e1,r1⟩:=r.get e
 have:its.toArray[j]=u:=by
  have h':j<its.length:=by simpa using h
  rw[Q0h h']at e1
  simpa using e1
 rw[this]
 exact r1
theorem q0q:∀{xs:List PV}{j:Nat}{x:PV},nrfs xs=true->xs[j]?=some x->nrf x=true
 |[],_,_,_,e=>by simp at e
 |x::xs,0,y,h,e=>by simp[nrfs]at h e;subst e;exact h.1
 |x::xs,j+1,y,h,e=>by simp[nrfs]at h e;exact q0q h.2 e
theorem q1o:∀{xs:List PV}{j:Nat}{x:PV},xs[j]?=some x->dep x<=deps xs
 |[],_,_,e=>by simp at e
 |x::xs,0,y,e=>by simp at e;subst e;simp only[deps];omega
 |x::xs,j+1,y,e=>by simp at e;have:=q1o e;simp only[deps];omega
theorem q0l{xs:List PV}{j:Nat}{x:PV}(e:xs[j]?=some x):xs.getD j .non=x:=by rw[Q3b,e];rfl
theorem q8h(I:Inv X pins σ H s):∀(d:Nat)(A:Q0w)(x y:PV)(x' y':V)(v u:Q0a),nrf x=true->nrf y=true->dep x<=d->A.units+d<cLine->RV X.K H φ x x'->RV X.K H φ y y'->RelV x' v->RelV y' u->Q3k A s v u (eqB x y):=by
 intro d
 induction d with
 |zero=>
  intro A x y x' y' v u hx hy hd hu rx ry qx qy
  cases x with
  |tup xs=>simp[dep]at hd
  |non=>
   cases rx;cases qx
   cases y with
   |non=>cases ry;cases qy;exact .same _
   |bl b=>cases ry;cases qy;exact .none_bool b
   |int b=>cases ry;obtain⟨t,rfl⟩:=qy;exact .none_int b t
   |str b=>cases ry;obtain⟨t,rfl⟩:=qy;exact .none_str b t
   |tup ys=>obtain⟨b,ws,rfl,sb,rb⟩:=ry;cases qy;obtain⟨_,_,p,_⟩:=I.tuple sb;exact .none_tuple p (by omega)
   |ty _=>simp[nrf]at hy
   |frl _=>simp[nrf]at hy
   |ref _=>simp[nrf]at hy
   |exc _=>simp[nrf]at hy
  |bl a=>
   cases rx;cases qx
   cases y with
   |non=>cases ry;cases qy;exact .bool_none a
   |bl b=>cases ry;cases qy;exact .bool_bool a b
   |int b=>cases ry;obtain⟨t,rfl⟩:=qy;exact .bool_int a b t
   |str b=>cases ry;obtain⟨t,rfl⟩:=qy;exact .bool_str a b t
   |tup ys=>obtain⟨b,ws,rfl,sb,rb⟩:=ry;cases qy;obtain⟨_,_,p,_⟩:=I.tuple sb;exact .bool_tuple a p (by omega)
   |ty _=>simp[nrf]at hy
   |frl _=>simp[nrf]at hy
   |ref _=>simp[nrf]at hy
   |exc _=>simp[nrf]at hy
  |int a=>
   cases rx;obtain⟨t,rfl⟩:=qx
   cases y with
   |non=>cases ry;cases qy;exact .int_none a t
   |bl b=>cases ry;cases qy;exact .int_bool a t b
   |int b=>cases ry;obtain⟨t',rfl⟩:=qy;exact .int_int a t b t'
   |str b=>cases ry;obtain⟨t',rfl⟩:=qy;exact .int_str a t b t'
   |tup ys=>obtain⟨b,ws,rfl,sb,rb⟩:=ry;cases qy;obtain⟨_,_,p,_⟩:=I.tuple sb;exact .int_tuple a t p (by omega)
   |ty _=>simp[nrf]at hy
   |frl _=>simp[nrf]at hy
   |ref _=>simp[nrf]at hy
   |exc _=>simp[nrf]at hy
  |str a=>
   cases rx;obtain⟨t,rfl⟩:=qx
   cases y with
   |non=>cases ry;cases qy;exact .str_none a t
   |bl b=>cases ry;cases qy;exact .str_bool a t b
   |int b=>cases ry;obtain⟨t',rfl⟩:=qy;exact .str_int a t b t'
   |str b=>cases ry;obtain⟨t',rfl⟩:=qy;exact .str_str a t b t'
   |tup ys=>obtain⟨b,ws,rfl,sb,rb⟩:=ry;cases qy;obtain⟨_,_,p,_⟩:=I.tuple sb;exact .str_tuple a t p (by omega)
   |ty _=>simp[nrf]at hy
   |frl _=>simp[nrf]at hy
   |ref _=>simp[nrf]at hy
   |exc _=>simp[nrf]at hy
  |ty _=>simp[nrf]at hx
  |frl _=>simp[nrf]at hx
  |ref _=>simp[nrf]at hx
  |exc _=>simp[nrf]at hx
 |succ d ih=>
  intro A x y x' y' v u hx hy hd hu rx ry qx qy
  cases x with
  |tup xs=>
   obtain⟨a,vs,rfl,sa,ra⟩:=id rx
   cases qx
   obtain⟨its,r1,p1,_⟩:=I.tuple sa
   cases y with
   |non=>cases ry;cases qy;exact .tuple_none p1 (by omega)
   |bl b=>cases ry;cases qy;exact .tuple_bool b p1 (by omega)
   |int b=>cases ry;obtain⟨t,rfl⟩:=qy;exact .tuple_int b t p1 (by omega)
   |str b=>cases ry;obtain⟨t,rfl⟩:=qy;exact .tuple_str b t p1 (by omega)
   |ty _=>simp[nrf]at hy
   |frl _=>simp[nrf]at hy
   |ref _=>simp[nrf]at hy
   |exc _=>simp[nrf]at hy
   |tup ys=>
    obtain⟨b,ws,rfl,sb,rb⟩:=id ry
    cases qy
    obtain⟨its2,r2,p2,_⟩:=I.tuple sb
    by_cases hab:a=b
    ·subst hab
     rw[RV.inj I _ _ _ hx hy rx ry,q8g _ hy]
     exact .same _
    ·refine .of_refs hab ?_
     have e:eqB (.tup xs) (.tup ys)=((Q2y (min its.toArray.size its2.toArray.size)).all (fun j=>eqB (xs.getD j .non) (ys.getD j .non))&&its.toArray.size==its2.toArray.size):=by
      simp only[eqB]
      rw[q1c,Q0f,Q0f,<-r1.length,<-r2.length,ra.length,rb.length]
     rw[e]
     refine .tuples p1 p2 (by omega) fun j h1 h2=>?_
     have hj1:j<xs.length:=by rw[ra.length,r1.length];simpa using h1
     have hj2:j<ys.length:=by rw[rb.length,r2.length];simpa using h2
     have e1:xs[j]?=some xs[j]:=Q0h hj1
     have e2:ys[j]?=some ys[j]:=Q0h hj2
     obtain⟨v1,g1,q1⟩:=ra.get e1
     obtain⟨v2,g2,q2⟩:=rb.get e2
     rw[q0l e1,q0l e2]
     have hdd:=q1o e1
     simp only[dep]at hd
     exact ih A.in1 _ _ v1 v2 _ _ (q0q (by simpa[nrf]using hx) e1) (q0q (by simpa[nrf]using hy) e2) (by omega) (by rw[q1i];omega) q1 q2 (q0z r1 h1 g1) (q0z r2 h2 g2)
  |non=>exact ih A _ _ x' y' v u hx hy (Q2b _) (by omega) rx ry qx qy
  |bl a=>exact ih A _ _ x' y' v u hx hy (Q2b _) (by omega) rx ry qx qy
  |int a=>exact ih A _ _ x' y' v u hx hy (Q2b _) (by omega) rx ry qx qy
  |str a=>exact ih A _ _ x' y' v u hx hy (Q2b _) (by omega) rx ry qx qy
  |ty _=>simp[nrf]at hx
  |frl _=>simp[nrf]at hx
  |ref _=>simp[nrf]at hx
  |exc _=>simp[nrf]at hx
end
section
variable{X:Cx}{pins:List (Q0i×Obj)}{s:Q0b}{σ:St}{H:Hp}{φ:List Q0i}
theorem z6a(I:Inv X pins σ H s)(d:Nat)(A:Q0w)(x y:PV)(x' y':V)(v u:Q0a)(hx:nrf x=true)(hy:nrf y=true)(hd:∀xs ys,x=.tup xs->y=.tup ys->dep x<=d)(hu:A.units+d<cLine)(rx:RV X.K H φ x x')(ry:RV X.K H φ y y')(qx:RelV x' v)(qy:RelV y' u):SeqAt.RcAt A s v u (eqB x y):=by
 cases x with
 |non=>
  cases rx
  cases qx
  cases y with
  |non=>cases ry;cases qy;exact .none_none
  |bl b=>cases ry;cases qy;exact .none_bool b
  |int b=>cases ry;obtain⟨t',rfl⟩:=qy;exact .none_int b t'
  |str b=>cases ry;obtain⟨t',rfl⟩:=qy;exact .none_str b t'
  |tup ys=>obtain⟨b,ws,rfl,sb,rb⟩:=ry;cases qy;obtain⟨_,_,p,_⟩:=I.tuple sb;exact .none_tuple  p (by omega)
  |ty _=>simp[nrf]at hy
  |frl _=>simp[nrf]at hy
  |ref _=>simp[nrf]at hy
  |exc _=>simp[nrf]at hy
 |bl a=>
  cases rx
  cases qx
  cases y with
  |non=>cases ry;cases qy;exact .bool_none a
  |bl b=>cases ry;cases qy;exact .bool_bool a b
  |int b=>cases ry;obtain⟨t',rfl⟩:=qy;exact .bool_int a b t'
  |str b=>cases ry;obtain⟨t',rfl⟩:=qy;exact .bool_str a b t'
  |tup ys=>obtain⟨b,ws,rfl,sb,rb⟩:=ry;cases qy;obtain⟨_,_,p,_⟩:=I.tuple sb;exact .bool_tuple a p (by omega)
  |ty _=>simp[nrf]at hy
  |frl _=>simp[nrf]at hy
  |ref _=>simp[nrf]at hy
  |exc _=>simp[nrf]at hy
 |int a=>
  cases rx
  obtain⟨t,rfl⟩:=qx
  cases y with
  |non=>cases ry;cases qy;exact .int_none a t
  |bl b=>cases ry;cases qy;exact .int_bool a t b
  |int b=>cases ry;obtain⟨t',rfl⟩:=qy;exact .int_int a t b t'
  |str b=>cases ry;obtain⟨t',rfl⟩:=qy;exact .int_str a t b t'
  |tup ys=>obtain⟨b,ws,rfl,sb,rb⟩:=ry;cases qy;obtain⟨_,_,p,_⟩:=I.tuple sb;exact .int_tuple a t p (by omega)
  |ty _=>simp[nrf]at hy
  |frl _=>simp[nrf]at hy
  |ref _=>simp[nrf]at hy
  |exc _=>simp[nrf]at hy
 |str a=>
  cases rx
  obtain⟨t,rfl⟩:=qx
  cases y with
  |non=>cases ry;cases qy;exact .str_none a t
  |bl b=>cases ry;cases qy;exact .str_bool a t b
  |int b=>cases ry;obtain⟨t',rfl⟩:=qy;exact .str_int a t b t'
  |str b=>cases ry;obtain⟨t',rfl⟩:=qy;exact .str_str a t b t'
  |tup ys=>obtain⟨b,ws,rfl,sb,rb⟩:=ry;cases qy;obtain⟨_,_,p,_⟩:=I.tuple sb;exact .str_tuple a t p (by omega)
  |ty _=>simp[nrf]at hy
  |frl _=>simp[nrf]at hy
  |ref _=>simp[nrf]at hy
  |exc _=>simp[nrf]at hy
 |ty _=>simp[nrf]at hx
 |frl _=>simp[nrf]at hx
 |ref _=>simp[nrf]at hx
 |exc _=>simp[nrf]at hx
 |tup xs=>
  obtain⟨a,vs,rfl,sa,ra⟩:=id rx
  cases qx
  obtain⟨its,r1,p1,_⟩:=I.tuple sa
  cases y with
  |non=>cases ry;cases qy;exact .tuple_none p1 (by omega)
  |bl b=>cases ry;cases qy;exact .tuple_bool b p1 (by omega)
  |int b=>cases ry;obtain⟨t,rfl⟩:=qy;exact .tuple_int b t p1 (by omega)
  |str b=>cases ry;obtain⟨t,rfl⟩:=qy;exact .tuple_str b t p1 (by omega)
  |ty _=>simp[nrf]at hy
  |frl _=>simp[nrf]at hy
  |ref _=>simp[nrf]at hy
  |exc _=>simp[nrf]at hy
  |tup ys=>
   obtain⟨b,ws,rfl,sb,rb⟩:=id ry
   cases qy
   obtain⟨its2,r2,p2,_⟩:=I.tuple sb
   have e:eqB (.tup xs) (.tup ys)=((Q2y (min its.toArray.size its2.toArray.size)).all (fun j=>eqB (xs.getD j .non) (ys.getD j .non))&&its.toArray.size==its2.toArray.size):=by
    simp only[eqB]
    rw[q1c,Q0f,Q0f,<-r1.length,<-r2.length,ra.length,rb.length]
   rw[e]
   have hd':=hd xs ys rfl rfl
   simp only[dep]at hd'
   refine .tuples p1 p2 (by omega) fun j h1 h2=>?_
   have hj1:j<xs.length:=by rw[ra.length,r1.length];simpa using h1
   have hj2:j<ys.length:=by rw[rb.length,r2.length];simpa using h2
   have e1:xs[j]?=some xs[j]:=Q0h hj1
   have e2:ys[j]?=some ys[j]:=Q0h hj2
   obtain⟨v1,g1,q1⟩:=ra.get e1
   obtain⟨v2,g2,q2⟩:=rb.get e2
   rw[q0l e1,q0l e2]
   have hdd:=q1o e1
   exact q8h I (d-1) A.in1 _ _ v1 v2 _ _ (q0q (by simpa[nrf]using hx) e1) (q0q (by simpa[nrf]using hy) e2) (by omega) (by rw[q1i];omega) q1 q2 (q0z r1 h1 g1) (q0z r2 h2 g2)
theorem q7t(I:Inv X pins σ H s)(d:Nat)(A:Q0w)(x y:PV)(x' y':V)(v u:Q0a)(hx:nrf x=true)(hy:nrf y=true)(hd:∀xs ys,x=.tup xs->y=.tup ys->dep x<=d)(hu:A.units+d<cLine)(rx:RV X.K H φ x x')(ry:RV X.K H φ y y')(qx:RelV x' v)(qy:RelV y' u):Q7m A s v u (!eqB x y):=by
 cases x with
 |non=>
  cases rx
  cases qx
  cases y with
  |non=>cases ry;cases qy;exact .none_none
  |bl b=>cases ry;cases qy;exact .none_bool b
  |int b=>cases ry;obtain⟨t',rfl⟩:=qy;exact .none_int b t'
  |str b=>cases ry;obtain⟨t',rfl⟩:=qy;exact .none_str b t'
  |tup ys=>obtain⟨b,ws,rfl,sb,rb⟩:=ry;cases qy;obtain⟨_,_,p,_⟩:=I.tuple sb;exact .none_tuple  p (by omega)
  |ty _=>simp[nrf]at hy
  |frl _=>simp[nrf]at hy
  |ref _=>simp[nrf]at hy
  |exc _=>simp[nrf]at hy
 |bl a=>
  cases rx
  cases qx
  cases y with
  |non=>cases ry;cases qy;exact .bool_none a
  |bl b=>cases ry;cases qy;exact .bool_bool a b
  |int b=>cases ry;obtain⟨t',rfl⟩:=qy;exact .bool_int a b t'
  |str b=>cases ry;obtain⟨t',rfl⟩:=qy;exact .bool_str a b t'
  |tup ys=>obtain⟨b,ws,rfl,sb,rb⟩:=ry;cases qy;obtain⟨_,_,p,_⟩:=I.tuple sb;exact .bool_tuple a p (by omega)
  |ty _=>simp[nrf]at hy
  |frl _=>simp[nrf]at hy
  |ref _=>simp[nrf]at hy
  |exc _=>simp[nrf]at hy
 |int a=>
  cases rx
  obtain⟨t,rfl⟩:=qx
  cases y with
  |non=>cases ry;cases qy;exact .int_none a t
  |bl b=>cases ry;cases qy;exact .int_bool a t b
  |int b=>cases ry;obtain⟨t',rfl⟩:=qy;exact .int_int a t b t'
  |str b=>cases ry;obtain⟨t',rfl⟩:=qy;exact .int_str a t b t'
  |tup ys=>obtain⟨b,ws,rfl,sb,rb⟩:=ry;cases qy;obtain⟨_,_,p,_⟩:=I.tuple sb;exact .int_tuple a t p (by omega)
  |ty _=>simp[nrf]at hy
  |frl _=>simp[nrf]at hy
  |ref _=>simp[nrf]at hy
  |exc _=>simp[nrf]at hy
 |str a=>
  cases rx
  obtain⟨t,rfl⟩:=qx
  cases y with
  |non=>cases ry;cases qy;exact .str_none a t
  |bl b=>cases ry;cases qy;exact .str_bool a t b
  |int b=>cases ry;obtain⟨t',rfl⟩:=qy;exact .str_int a t b t'
  |str b=>cases ry;obtain⟨t',rfl⟩:=qy;exact .str_str a t b t'
  |tup ys=>obtain⟨b,ws,rfl,sb,rb⟩:=ry;cases qy;obtain⟨_,_,p,_⟩:=I.tuple sb;exact .str_tuple a t p (by omega)
  |ty _=>simp[nrf]at hy
  |frl _=>simp[nrf]at hy
  |ref _=>simp[nrf]at hy
  |exc _=>simp[nrf]at hy
 |ty _=>simp[nrf]at hx
 |frl _=>simp[nrf]at hx
 |ref _=>simp[nrf]at hx
 |exc _=>simp[nrf]at hx
 |tup xs=>
  obtain⟨a,vs,rfl,sa,ra⟩:=id rx
  cases qx
  obtain⟨its,r1,p1,_⟩:=I.tuple sa
  cases y with
  |non=>cases ry;cases qy;exact .tuple_none p1 (by omega)
  |bl b=>cases ry;cases qy;exact .tuple_bool b p1 (by omega)
  |int b=>cases ry;obtain⟨t,rfl⟩:=qy;exact .tuple_int b t p1 (by omega)
  |str b=>cases ry;obtain⟨t,rfl⟩:=qy;exact .tuple_str b t p1 (by omega)
  |ty _=>simp[nrf]at hy
  |frl _=>simp[nrf]at hy
  |ref _=>simp[nrf]at hy
  |exc _=>simp[nrf]at hy
  |tup ys=>
   obtain⟨b,ws,rfl,sb,rb⟩:=id ry
   cases qy
   obtain⟨its2,r2,p2,_⟩:=I.tuple sb
   have e:eqB (.tup xs) (.tup ys)=((Q2y (min its.toArray.size its2.toArray.size)).all (fun j=>eqB (xs.getD j .non) (ys.getD j .non))&&its.toArray.size==its2.toArray.size):=by
    simp only[eqB]
    rw[q1c,Q0f,Q0f,<-r1.length,<-r2.length,ra.length,rb.length]
   rw[e]
   have hd':=hd xs ys rfl rfl
   simp only[dep]at hd'
   refine .tuples p1 p2 (by omega) fun j h1 h2=>?_
   have hj1:j<xs.length:=by rw[ra.length,r1.length];simpa using h1
   have hj2:j<ys.length:=by rw[rb.length,r2.length];simpa using h2
   have e1:xs[j]?=some xs[j]:=Q0h hj1
   have e2:ys[j]?=some ys[j]:=Q0h hj2
   obtain⟨v1,g1,q1⟩:=ra.get e1
   obtain⟨v2,g2,q2⟩:=rb.get e2
   rw[q0l e1,q0l e2]
   have hdd:=q1o e1
   exact q8h I (d-1) A.in1 _ _ v1 v2 _ _ (q0q (by simpa[nrf]using hx) e1) (q0q (by simpa[nrf]using hy) e2) (by omega) (by rw[q1i];omega) q1 q2 (q0z r1 h1 g1) (q0z r2 h2 g2)
end
def okEq(x:PV):Prop:=nrf x=true/\dep x<=190
def z1n(xs:List PV):Prop:=nrfs xs=true/\deps xs<=190
def cEqG(neg:Bool):F2:=fun x y S Q=>match x,y with
 |.tup xs,.tup ys=>(okEq (.tup xs)/\okEq (.tup ys))/\Q (.bl (neg ^^ eqBs xs ys)) S
 |.ref m,.ref n=>match q1t S m,q1t S n with
  |some xs,some ys=>(z1n xs/\z1n ys)/\Q (.bl (neg ^^ eqBs xs ys)) S
  |_,_=>False
 |.ref _,_=>False
 |_,.ref _=>False
 |x,y=>(nrf x=true/\nrf y=true)/\Q (.bl (neg ^^ eqB x y)) S
def cEq:F2:=cEqG false
def cNe:F2:=cEqG true
theorem z2t:∀{xs ys:List PV},xs.length≠ys.length->eqBs xs ys=false:=fun {xs ys} h=>by
 cases e:eqBs xs ys with
 |false=>rfl
 |true=>exact absurd (q8e e) h
theorem z2u{xs ys:List PV}(h:xs.length=ys.length):eqBs xs ys=(Q2y xs.length).all (fun j=>eqB (xs.getD j .non) (ys.getD j .non)):=by
 rw[q1c,<-h,Nat.min_self];simp
section
variable{X:Cx}
theorem q6m(b:Bool):(false ^^ b)=b:=by cases b<;>rfl
theorem q6l(b:Bool):(true ^^ b)=!b:=by cases b<;>rfl
theorem q5x{pins:List (Q0i×Obj)}{s:Q0b}{σ:St}{H:Hp}{φ:List Q0i}{S:q0a}{Q0:VC}{Q:VK}{b b':Bool}(I:Inv X pins σ H s)(k:KE X.K φ H Q0 Q)(R:Rel X.K φ S H)(q:Q0 (.bl b) S)(e:b=b'):EP X pins σ Q (.bool b') s:=by
 subst e
 exact⟨.bl b,H,I,rfl,k _ S φ H _ q (Q0d _) (.refl _) R rfl⟩
theorem z2p{x y:PV}(h:∀xs ys,x=.tup xs->y=.tup ys->False)(d:Nat):∀xs ys,x=.tup xs->y=.tup ys->dep x<=d:=fun xs ys a b=>(h xs ys a b).elim
theorem z6d(hu:X.A.units+200<cLine):OpR X (compareOp .Eq) (q1w X.K cEq):=by
 rintro pins s σ H x y v u Q I rx ry ⟨φ,S,px,py,Q0,R,hx,hy,h,k⟩
 unfold cEq cEqG at h
 split at h
 ·rename_i xs ys
  obtain⟨⟨o1,o2⟩,h⟩:=h
  rw[q6m]at h
  exact z6a I 190 X.A _ _ x y v u o1.1 o2.1 (fun _ _ _ _=>o1.2) (by omega) hx hy rx ry X.prog X.w X.xe _ (q5x I k R h (by simp only[eqB]))
 ·rename_i m n
  split at h
  ·rename_i xs ys e1 e2
   obtain⟨⟨o1,o2⟩,h⟩:=h
   rw[q6m]at h
   obtain⟨a,rfl,qa⟩:=hx
   obtain⟨b,rfl,qb⟩:=hy
   obtain⟨vs,sa,ra⟩:=R.seq qa e1
   obtain⟨ws,sb,rb⟩:=R.seq qb e2
   cases rx
   cases ry
   obtain⟨its,r1,p1,_⟩:=I.list sa
   obtain⟨its2,r2,p2,_⟩:=I.list sb
   by_cases hl:xs.length=ys.length
   ·rw[z2u hl]at h
    have hz:its.toArray.size=its2.toArray.size:=by rw[Q0f,Q0f,<-r1.length,<-r2.length,<-ra.length,<-rb.length,hl]
    refine SeqAt.eq_listAt (e:=fun j=>eqB (xs.getD j .non) (ys.getD j .non)) p1.isList p2.isList hz (by omega) (fun j h1 h2=>?_) (q5x I k R h (by rw[Q0f,<-r1.length,<-ra.length]))
    have hj1:j<xs.length:=by rw[ra.length,r1.length];simpa using h1
    have hj2:j<ys.length:=by omega
    have e1:xs[j]?=some xs[j]:=Q0h hj1
    have e2:ys[j]?=some ys[j]:=Q0h hj2
    obtain⟨v1,g1,q1⟩:=ra.get e1
    obtain⟨v2,g2,q2⟩:=rb.get e2
    rw[q0l e1,q0l e2]
    have hdd:=q1o e1
    have:=o1.2
    exact q8h I 190 X.A.in1 _ _ v1 v2 _ _ (q0q o1.1 e1) (q0q o2.1 e2) (by omega) (by rw[q1i];omega) q1 q2 (q0z r1 h1 g1) (q0z r2 h2 g2)
   ·rw[z2t hl]at h
    have hz:(its.toArray.size != its2.toArray.size)=true:=by rw[Q0f,Q0f,<-r1.length,<-r2.length,<-ra.length,<-rb.length];simpa using hl
    exact SeqAt.eq_list_lengthsAt p1.isList p2.isList hz (by omega) (q5x I k R h rfl)
  ·exact h.elim
 ·exact h.elim
 ·exact h.elim
 ·rename_i h1 h2 h3 h4
  obtain⟨⟨o1,o2⟩,h⟩:=h
  rw[q6m]at h
  exact z6a I 0 X.A _ _ x y v u o1 o2 (z2p (by assumption) _) (by omega) hx hy rx ry X.prog X.w X.xe _ (q5x I k R h rfl)
theorem y1h(hu:X.A.units+200<cLine):OpR X (compareOp .NotEq) (q1w X.K cNe):=by
 rintro pins s σ H x y v u Q I rx ry ⟨φ,S,px,py,Q0,R,hx,hy,h,k⟩
 unfold cNe cEqG at h
 split at h
 ·rename_i xs ys
  obtain⟨⟨o1,o2⟩,h⟩:=h
  rw[q6l]at h
  exact q7t I 190 X.A _ _ x y v u o1.1 o2.1 (fun _ _ _ _=>o1.2) (by omega) hx hy rx ry X.prog X.w X.xe _ (q5x I k R h (by simp only[eqB]))
 ·rename_i m n
  split at h
  ·rename_i xs ys e1 e2
   obtain⟨⟨o1,o2⟩,h⟩:=h
   rw[q6l]at h
   obtain⟨a,rfl,qa⟩:=hx
   obtain⟨b,rfl,qb⟩:=hy
   obtain⟨vs,sa,ra⟩:=R.seq qa e1
   obtain⟨ws,sb,rb⟩:=R.seq qb e2
   cases rx
   cases ry
   obtain⟨its,r1,p1,_⟩:=I.list sa
   obtain⟨its2,r2,p2,_⟩:=I.list sb
   by_cases hl:xs.length=ys.length
   ·rw[z2u hl]at h
    have hz:its.toArray.size=its2.toArray.size:=by rw[Q0f,Q0f,<-r1.length,<-r2.length,<-ra.length,<-rb.length,hl]
    refine Q7m.lists (e:=fun j=>eqB (xs.getD j .non) (ys.getD j .non)) p1.isList p2.isList hz (by omega) (fun j h1 h2=>?_) X.prog X.w X.xe _ (q5x I k R h (by rw[Q0f,<-r1.length,<-ra.length]))
    have hj1:j<xs.length:=by rw[ra.length,r1.length];simpa using h1
    have hj2:j<ys.length:=by omega
    have e1:xs[j]?=some xs[j]:=Q0h hj1
    have e2:ys[j]?=some ys[j]:=Q0h hj2
    obtain⟨v1,g1,q1⟩:=ra.get e1
    obtain⟨v2,g2,q2⟩:=rb.get e2
    rw[q0l e1,q0l e2]
    have hdd:=q1o e1
    have:=o1.2
    exact q8h I 190 X.A.in1 _ _ v1 v2 _ _ (q0q o1.1 e1) (q0q o2.1 e2) (by omega) (by rw[q1i];omega) q1 q2 (q0z r1 h1 g1) (q0z r2 h2 g2)
   ·rw[z2t hl]at h
    have hz:(its.toArray.size != its2.toArray.size)=true:=by rw[Q0f,Q0f,<-r1.length,<-r2.length,<-ra.length,<-rb.length];simpa using hl
    exact Q7m.lists_lengths p1.isList p2.isList hz (by omega) X.prog X.w X.xe _ (q5x I k R h rfl)
  ·exact h.elim
 ·exact h.elim
 ·exact h.elim
 ·rename_i h1 h2 h3 h4
  obtain⟨⟨o1,o2⟩,h⟩:=h
  rw[q6l]at h
  exact q7t I 0 X.A _ _ x y v u o1 o2 (z2p (by assumption) _) (by omega) hx hy rx ry X.prog X.w X.xe _ (q5x I k R h rfl)
def inS(i j:Str):Bool:=!(Q1g.Str.occurrences j i 0 j.length 1).isEmpty
open Classical in
def y3x:PV->Bool
 |.non=>true
 |_=>false
end
theorem q7l{K:Q1n}{H:Hp}{φ:List Q0i}{xs:List PV}{vs:List V}{i:Int}{v:PV}(r:RVs K H φ xs vs)(e:atI xs i=some v):∃x,atI vs i=some x/\RV K H φ v x:=by
 unfold atI at e ⊢
 rw[<-r.length]
 cases h:ixN xs.length i with
 |none=>rw[h]at e;cases e
 |some j=>
  rw[h]at e
  obtain⟨x,h1,h2⟩:=r.get (i:=j) e
  exact⟨x,h1,h2⟩
def valP(kvs:List (Key×PV))(k:Key):Option PV:=(kvs.find? fun kv=>decide (kv.1=k)).map (·.2)
def putP(kvs:List (Key×PV))(k:Key)(v:PV):List (Key×PV):=
 if kvs.any (fun kv=>decide (kv.1=k))then kvs.map fun kv=>if kv.1=k then(kv.1,v)else kv else kvs++[(k,v)]
def q9i:PV->Option Key
 |.int i=>some (.inl i)
 |.str x=>some (.inr x)
 |_=>none
theorem z2a{K:Q1n}{H:Hp}{φ:List Q0i}{y:PV}{y':V}{k:Key}(r:RV K H φ y y')(e:q9i y=some k):y'=kV k:=by
 cases y with
 |int i=>cases e;exact r
 |str i=>cases e;exact r
 |_=>cases e
theorem RKs.val{K:Q1n}{H:Hp}{φ:List Q0i}{xs:List (Key×PV)}{ys:List (Key×V)}(h:RKs K H φ xs ys)(k:Key):(∀v,valP xs k=some v->∃x,valV ys k=some x/\RV K H φ v x)/\(valP xs k=none->valV ys k=none):=by
 unfold RKs at h
 induction h with
 |nil=>exact⟨fun v e=>by simp[valP]at e,fun _=>rfl⟩
 |@cons p q ps qs hd t ih=>
  by_cases e:p.1=k
  ·have e1:valP (p::ps) k=some p.2:=by simp[valP,Q2r,e]
   rw[e1,q2m (hd.1.symm.trans e)]
   exact⟨fun v z=>by cases z;exact⟨_,rfl,hd.2⟩,fun z=>by cases z⟩
  ·have e1:valP (p::ps) k=valP ps k:=by simp[valP,Q2r,e]
   rw[e1,q2n (fun z=>e (hd.1.trans z))]
   exact ih
theorem RKs.any{K:Q1n}{H:Hp}{φ:List Q0i}{xs:List (Key×PV)}{ys:List (Key×V)}(h:RKs K H φ xs ys)(k:Key):(xs.any fun kv=>decide (kv.1=k))=ys.any fun kv=>decide (kv.1=k):=by
 unfold RKs at h
 induction h with
 |nil=>rfl
 |@cons p q ps qs hd t ih=>rw[Q4m,Q4m,ih,hd.1]
theorem RKs.repl{K:Q1n}{H:Hp}{φ:List Q0i}{xs:List (Key×PV)}{ys:List (Key×V)}(h:RKs K H φ xs ys)(k:Key){v:PV}{x:V}(r:RV K H φ v x):RKs K H φ (xs.map fun kv=>if kv.1=k then(kv.1,v)else kv) (ys.map fun kv=>if kv.1=k then(kv.1,x)else kv):=by
 unfold RKs at h ⊢
 induction h with
 |nil=>exact .nil
 |@cons p q ps qs hd t ih=>
  rw[Q1c,Q1c]
  refine .cons ?_ ih
  by_cases e:p.1=k
  ·rw[if_pos e,if_pos (hd.1.symm.trans e)]
   exact⟨hd.1,r⟩
  ·rw[if_neg e,if_neg (fun z=>e (hd.1.trans z))]
   exact hd
theorem RKs.snoc{K:Q1n}{H:Hp}{φ:List Q0i}{xs:List (Key×PV)}{ys:List (Key×V)}(h:RKs K H φ xs ys)(k:Key){v:PV}{x:V}(r:RV K H φ v x):RKs K H φ (xs++[(k,v)]) (ys++[(k,x)]):=by
 unfold RKs at h ⊢
 induction h with
 |nil=>exact .cons ⟨rfl,r⟩ .nil
 |cons hd t ih=>exact .cons hd ih
theorem RKs.put{K:Q1n}{H:Hp}{φ:List Q0i}{xs:List (Key×PV)}{ys:List (Key×V)}(h:RKs K H φ xs ys)(k:Key){v:PV}{x:V}(r:RV K H φ v x):RKs K H φ (putP xs k v) (putK ys k x):=by
 unfold putP putK
 rw[h.any]
 split
 ·exact h.repl k r
 ·exact h.snoc k r
theorem RKs.length{K:Q1n}{H:Hp}{φ:List Q0i}{xs:List (Key×PV)}{ys:List (Key×V)}(h:RKs K H φ xs ys):xs.length=ys.length:=Q3r.length h
def bIx:F2:=fun x y S Q=>match x,y with
 |.tup xs,.int i=>match atI xs i with
  |some v=>Q v S
  |none=>False
 |.str z,.int i=>z.length<=Q0k/\match atI z.cps.toList i with
  |some c=>Q (.str ⟨#[c]⟩) S
  |none=>False
 |.frl xs,.int i=>match atI xs i with
  |some v=>Q v S
  |none=>False
 |.ref n,y=>match S[n]? with
  |some (.lst xs)=>match y with
   |.int i=>match atI xs i with
    |some v=>Q v S
    |none=>False
   |_=>False
  |some (.dK kvs)=>match q9i y with
   |some k=>match valP kvs k with
    |some v=>Q v S
    |none=>False
   |none=>False
  |_=>False
 |_,_=>False
theorem z8x{X:Cx}(hu:X.A.units+200<cLine):IxR X (fun x y H Q=>∃a v,x=.ref a/\DGet H a y (some v)/\Q v H):=by
 intro value slice pins s σ H x y v u Q I rx ry h hs
 obtain⟨a,w,rfl,g,q⟩:=h
 cases rx
 exact Z0p (q7h I g) PySem.F.slot_dict_getitem.lookup (z2y (by omega) I g ry fun w' s3 I3 rw'=>⟨w,H,I3,rw',q⟩) hs
section
variable{X:Cx}{G:GX}{pos:Pos}
theorem z8w(hu:X.A.units+200<cLine):IxR X (q1w X.K bIx):=by
 rintro value slice pins s σ H x y v u Q I rx ry ⟨φ,S,px,py,Q0,R,hx,hy,h,k⟩ hs
 unfold bIx at h
 split at h
 ·rename_i xs i
  split at h
  ·rename_i w e
   obtain⟨a,vs,rfl,sa,ra⟩:=hx
   cases hy
   obtain⟨w',e',r'⟩:=q7l ra e
   exact y2e value slice pins s σ H _ _ v u Q I rx ry ⟨a,vs,i,w',rfl,rfl,sa,e',k _ S φ H _ h (Q0d _) (.refl _) R r'⟩ hs
  ·exact h.elim
 ·rename_i z i
  obtain⟨hz,h⟩:=h
  split at h
  ·rename_i c e
   cases hx
   cases hy
   exact y2f value slice pins s σ H _ _ v u Q I rx ry ⟨z,i,c,rfl,rfl,hz,e,k _ S φ H _ h (Q0d _) (.refl _) R rfl⟩ hs
  ·exact h.elim
 ·rename_i xs i
  split at h
  ·rename_i w e
   obtain⟨a,vs,rfl,sa,ra⟩:=hx
   cases hy
   obtain⟨w',e',r'⟩:=q7l ra e
   exact z2f value slice pins s σ H _ _ v u Q I rx ry ⟨a,vs,i,w',rfl,rfl,sa.sq,e',k _ S φ H _ h (Q0d _) (.refl _) R r'⟩ hs
  ·exact h.elim
 ·rename_i n
  obtain⟨a,rfl,qa⟩:=hx
  split at h
  ·rename_i xs es
   split at h
   ·rename_i i
    split at h
    ·rename_i w e
     cases hy
     obtain⟨vs,sa,ra⟩:=R.obj n a _ qa es
     obtain⟨w',e',r'⟩:=q7l ra e
     exact z2f value slice pins s σ H _ _ v u Q I rx ry ⟨a,vs,i,w',rfl,rfl,SqL.of sa,e',k _ S φ H _ h (Q0d _) (.refl _) R r'⟩ hs
    ·exact h.elim
   ·exact h.elim
  ·rename_i kvs es
   split at h
   ·rename_i kk ek
    split at h
    ·rename_i w e
     have hk:=z2a hy ek
     subst hk
     obtain⟨ws,sa,ra⟩:=R.obj n a _ qa es
     obtain⟨w',e',r'⟩:=(ra.val kk).1 w e
     refine z8x hu value slice pins s σ H _ _ v u Q I rx ry ⟨a,w',rfl,?_,k _ S φ H _ h (Q0d _) (.refl _) R r'⟩ hs
     rw[<-e']
     exact DGet.k sa
    ·exact h.elim
   ·exact h.elim
  ·exact h.elim
 ·exact h.elim
variable{a b:Expr}{wa wb:WE}
theorem y0b(hu:X.A.units+200<cLine)(ha:SimE X G a wa)(hb:SimE X G b wb)(hs:z3h b:=by exact fun _ _=>rfl):SimE X G (.Subscript a b pos) (wBin bIx wa wb):=(y3m (z8w hu) ha hb hs).imp fun _ _ _ h=>q2p h
def cutP{α:Type}(xs:List α)(lo hi:Option Int):List α:=(xs.drop (HT.sIx xs.length 0 lo)).take (HT.sIx xs.length xs.length hi-HT.sIx xs.length 0 lo)
theorem q7i{K:Q1n}{H:Hp}{φ:List Q0i}{xs:List PV}{vs:List V}(lo hi:Option Int)(r:RVs K H φ xs vs):RVs K H φ (cutP xs lo hi) (cutV vs lo hi):=by
 unfold cutP cutV
 rw[<-r.length]
 exact(r.drop _).take _
abbrev F3:=PV->Option Int->Option Int->q0a->VC->Prop
def bSl:F3:=fun x lo hi S Q=>match x with
 |.str z=>z.length<=Q0k/\Q (.str (Txt.slice z lo hi)) S
 |.tup xs=>¬(HT.sIx xs.length 0 lo=0/\HT.sIx xs.length xs.length hi=xs.length)/\Q (.tup (cutP xs lo hi)) S
 |.frl xs=>Q (.ref S.length) (S++[.lst (cutP xs lo hi)])
 |.ref n=>match q1t S n with
  |some xs=>Q (.ref S.length) (S++[.lst (cutP xs lo hi)])
  |none=>False
 |_=>False
def y1r(K:Q1n)(f:F3):V->Option Int->Option Int->Hp->VK->Prop:=fun x' lo hi H Q=>∃φ S x Q0,Rel K φ S H/\RV K H φ x x'/\f x lo hi S Q0/\KE K φ H Q0 Q
theorem sls:SlR X (y1r X.K bSl):=by
 rintro pins s σ H x v vl vu lo hi sl Q I rx hs pl pu ⟨φ,S,px,Q0,R,hx,h,k⟩
 unfold bSl at h
 split at h
 ·rename_i z
  cases hx
  exact y0a pins s σ H _ v vl vu lo hi sl Q I rx hs pl pu ⟨z,rfl,h.1,k _ S φ H _ h.2 (Q0d _) (.refl _) R rfl⟩
 ·rename_i xs
  obtain⟨a,vs,rfl,sa,ra⟩:=hx
  exact z9z pins s σ H _ v vl vu lo hi sl Q I rx hs pl pu ⟨a,vs,rfl,sa,by rw[<-ra.length];exact h.1,k.tup h.2 R (q7i lo hi ra)⟩
 ·rename_i xs
  obtain⟨a,vs,rfl,sa,ra⟩:=hx
  exact z0k pins s σ H _ v vl vu lo hi sl Q I rx hs pl pu ⟨a,vs,rfl,sa.sq,k.lst h R (q7i lo hi ra)⟩
 ·rename_i n
  split at h
  ·rename_i xs es
   obtain⟨a,rfl,qa⟩:=hx
   obtain⟨vs,sa,ra⟩:=R.seq qa es
   exact z0k pins s σ H _ v vl vu lo hi sl Q I rx hs pl pu ⟨a,vs,rfl,sa,k.lst h R (q7i lo hi ra)⟩
  ·exact h.elim
 ·exact h.elim
abbrev WO:=Loc->q0a->EK->(Option Int->q0a->Prop)->Prop
def KO(K:Q1n)(φ:List Q0i)(H:Hp)(Q0:Option Int->q0a->Prop)(Q:Option Int->Hp->Prop):Prop:=∀v S' φ' H',Q0 v S'->φ <+: φ'->Mono H H'->Rel K φ' S' H'->Q v H'
def y3s(K:Q1n)(G:GX)(w:WO):TO:=fun σV H Q=>∃φ σ S Q0,LRel K G H φ σ σV/\Rel K φ S H/\w σ S G.ek Q0/\KO K φ H Q0 Q
def SimO(X:Cx)(G:GX)(e:Option Expr)(w:WO):Prop:=PO X e (y3s X.K G w)
theorem PO.imp{e:Option Expr}{t t':TO}(h:PO X e t)(i:∀σ H Q,t' σ H Q->t σ H Q):PO X e t':=fun pins s σ H Q I q=>h pins s σ H Q I (i σ H Q q)
def q2u:WO:=fun _ S _ Q=>Q none S
def q9z(w:WE):WO:=fun σ S E Q=>w σ S E fun x S1=>match x with
 |.int i=>Q (some i) S1
 |_=>False
theorem z0u:SimO X G none q2u:=PO.imp z7u fun σV H Q hh1=>by obtain⟨φ,σ,S,Q0,L,R,h,k⟩:=hh1;exact(k none S φ H h (Q0d _) (.refl _) R)
theorem z0t{e:Expr}{w:WE}(h:SimE X G e w):SimO X G (some e) (q9z w):=
 PO.imp (z7t h) fun σV H Q hh1=>by obtain⟨φ,σ,S,Q0,L,R,h,k⟩:=hh1;exact(⟨φ,σ,S,_,L,R,h,fun v S1 φ1 H1 x q p1 m1 R1 r1=>by
  cases v with
  |int i=>exact ⟨i,r1,k _ S1 φ1 H1 q p1 m1 R1⟩
  |_=>exact q.elim⟩)
def wSl(w:WE)(wl wh:WO):WE:=fun σ S E Q=>w σ S E fun x S1=>wl σ S1 E fun lo S2=>wh σ S2 E fun hi S3=>bSl x lo hi S3 Q
theorem z0p{e:Expr}{w:WE}{lo hi:Option Expr}{wl wh:WO}{p2:Pos}(he:SimE X G e w)(hl:SimO X G lo wl)(hh:SimO X G hi wh):SimE X G (.Subscript e (.Slice lo hi none p2) pos) (wSl w wl wh):=
 (z4t sls he hl hh).imp fun σV H Q hh1=>by obtain⟨φ,σ,S,Q0,L,R,h,k⟩:=hh1;exact(⟨φ,σ,S,_,L,R,h,fun v S1 φ1 H1 x q p1 m1 R1 r1=>
  ⟨φ1,σ,S1,_,L.mono m1 p1,R1,q,fun l S2 φ2 H2 q2 p2 m2 R2=>
   ⟨φ2,σ,S2,_,(L.mono m1 p1).mono m2 p2,R2,q2,fun u S3 φ3 H3 q3 p3 m3 R3=>
    ⟨φ3,S3,v,Q0,R3,RV.mono m3 p3 _ _ (RV.mono m2 p2 _ _ r1),q3,k.up ((p1.trans p2).trans p3) ((m1.trans m2).trans m3)⟩⟩⟩⟩)
abbrev FL:=List PV->q0a->VC->Prop
def q5k(K:Q1n)(f:FL):List V->Hp->VK->Prop:=fun xs' H Q=>∃φ S xs Q0,Rel K φ S H/\RVs K H φ xs xs'/\f xs S Q0/\KE K φ H Q0 Q
def wCB(f:FL)(wa:WA):WE:=fun σ S E Q=>wa σ S E fun xs S1=>f xs S1 Q
theorem z1v{f:FL}{wa:WA}{σV:St}{H:Hp}{Q:VK}(h:q3q X.K G (wCB f wa) σV H Q):tCB (q5k X.K f) (y1t X.K G wa) σV H Q:=by
 obtain⟨φ,σ,S,Q0,L,R,h,k⟩:=h
 exact⟨φ,σ,S,_,L,R,h,fun v S1 φ1 H1 x q p1 m1 R1 r1=>⟨φ1,S1,v,Q0,R1,r1,q,k.up p1 m1⟩⟩
theorem q5d{f:FL}{x:Str}{id:String}{p:Pos}{e:Expr}{es:List Expr}{wa:WA}(hc:q1p X (.builtin id) (q5k X.K f))(hm:X.mg x=none)(hv:bootBuiltins x=some (.builtin id))(ha:SimA X G (e::es) wa)(hg:Gl X x:=by rfl)(hn:x≠ "__name__" :=by decide)(hdb:(x==("__debug__" : Str))=false:=by decide)
  (he:Q0t (e::es) X.env=(false,eval e X.env)::Q0t es X.env:=by rfl) (hpl:(backTo pos (Q0t es X.env)).any (·.1)=false:=by rfl):SimE X G (.Call (.Name x p) (e::es) [] pos) (wCB f wa):=
 (q4o hc hg hm hv ha hn hdb he hpl).imp fun _ _ _ h=>z1v h
theorem q2a{f:FL}{x:Str}{T:String}{p:Pos}{e:Expr}{es:List Expr}{wa:WA}(hc:q1p X (.type T) (q5k X.K f))(hm:X.mg x=none)(hv:bootBuiltins x=some (.type T))(ha:SimA X G (e::es) wa)(hg:Gl X x:=by rfl)(hn:x≠ "__name__" :=by decide)(hdb:(x==("__debug__" : Str))=false:=by decide)
  (he:Q0t (e::es) X.env=(false,eval e X.env)::Q0t es X.env:=by rfl) (hpl:(backTo pos (Q0t es X.env)).any (·.1)=false:=by rfl):SimE X G (.Call (.Name x p) (e::es) [] pos) (wCB f wa):=
 (z1h hc hg hm hv ha hn hdb he hpl).imp fun _ _ _ h=>z1v h
theorem q0k{K:Q1n}{H:Hp}{φ:List Q0i}{x:PV}{vs:List V}(r:RVs K H φ [x] vs):∃v,vs=[v]/\RV K H φ x v:=by
 obtain⟨y,ys,rfl,r1,r2⟩:=r
 rw[show ys=[]from r2]
 exact⟨y,rfl,r1⟩
theorem q6q{K:Q1n}{H:Hp}{φ:List Q0i}{x y:PV}{vs:List V}(r:RVs K H φ [x,y] vs):∃v w,vs=[v,w]/\RV K H φ x v/\RV K H φ y w:=by
 obtain⟨a,as,rfl,r1,r2⟩:=r
 obtain⟨b,rfl,r3⟩:=q0k r2
 exact⟨a,b,rfl,r1,r3⟩
def fLen:FL:=fun xs S Q=>match xs with
 |[.str z]=>z.length<=Q0k/\Q (.int z.length) S
 |[.tup xs]=>Q (.int xs.length) S
 |[.frl xs]=>Q (.int xs.length) S
 |[.ref n]=>match q1t S n with
  |some xs=>Q (.int xs.length) S
  |none=>False
 |_=>False
theorem z3c:q1p X (.builtin "len") (q5k X.K fLen):=by
 rintro pins s σ H xs us Q I r ⟨φ,S,pxs,Q0,R,hx,h,k⟩
 unfold fLen at h
 split at h
 ·rename_i z
  obtain⟨v,rfl,r1⟩:=q0k hx
  cases r1
  exact q6e pins s σ H _ us Q I r ⟨z,rfl,h.1,k _ S φ H _ h.2 (Q0d _) (.refl _) R rfl⟩
 ·rename_i ys
  obtain⟨v,rfl,a,vs,rfl,sa,ra⟩:=q0k hx
  exact q1l pins s σ H _ us Q I r ⟨a,vs,rfl,.inr sa,k _ S φ H _ h (Q0d _) (.refl _) R (by rw[<-ra.length];rfl)⟩
 ·rename_i ys
  obtain⟨v,rfl,a,vs,rfl,sa,ra⟩:=q0k hx
  exact q1l pins s σ H _ us Q I r ⟨a,vs,rfl,.inl sa.sq,k _ S φ H _ h (Q0d _) (.refl _) R (by rw[<-ra.length];rfl)⟩
 ·rename_i n
  split at h
  ·rename_i ys es
   obtain⟨v,rfl,a,rfl,qa⟩:=q0k hx
   obtain⟨vs,sa,ra⟩:=R.seq qa es
   exact q1l pins s σ H _ us Q I r ⟨a,vs,rfl,.inl sa,k _ S φ H _ h (Q0d _) (.refl _) R (by rw[<-ra.length];rfl)⟩
  ·exact h.elim
 ·exact h.elim
def tyP(x:PV)(S:q0a):Option String:=match x with
 |.non=>some "NoneType"
 |.bl _=>some "bool"
 |.int _=>some "int"
 |.str _=>some "str"
 |.tup _=>some "tuple"
 |.ref n=>match S[n]? with
  |some (.lst _)=>some "list"
  |some (.dK _)=>some "dict"
  |_=>none
 |.frl _=>some "list"
 |.ty _=>none
 |.exc _=>none
def isT(T C:String):Bool:=T==C||(T == "bool"&&C == "int")
def z1z:List String:=["NoneType", "bool", "int", "str", "tuple", "list", "dict"]
def q1b:List String:=["list", "tuple", "str", "int", "bool", "dict"]
theorem q6x(K:Q1n):∀T∈z1z,∀C∈q1b,Q2f K (.type T) (.type C)=some (isT T C):=by
 intro T hT C hC
 simp only[z1z,Q1h,Q4q,or_false]at hT
 simp only[q1b,Q1h,Q4q,or_false]at hC
 rcases hT with rfl|rfl|rfl|rfl|rfl|rfl|rfl<;>rcases hC with rfl|rfl|rfl|rfl|rfl|rfl<;>kernel_rfl
theorem q4j {x : PV} {S : q0a} {T : String} (h : tyP x S = some T) : T ∈ z1z := by
 unfold tyP at h
 split at h
 all_goals first
  | (cases h; simp [z1z])
  | (split at h <;> first | (cases h; simp [z1z]) | cases h)
  | cases h
end
section
variable{X:Cx}{G:GX}{pos:Pos}
theorem z9c{pins:List (Q0i×Obj)}{s:Q0b}{σ:St}{H:Hp}{φ:List Q0i}{S:q0a}{x:PV}{x':V}{u c:Q0a}{T:String}{b:Bool}{A:Q0w}{E:Q0a->Q0b->Prop}{Q:Q0a->Q0b->Prop}(I:Inv X pins σ H s)(R:Rel X.K φ S H)(rx:RV X.K H φ x x')(q:RelV x' u)
  (ht:tyP x S=some T) (e:Q2f X.K (.type T) c=some b) (h:∀tk,Q (.bool b) {s with toks:=tk}):Q0y (model X.prog X.w) A (call (.builtin "isinstance") [u,c]) Q E s:=by
 unfold tyP at ht
 split at ht
 ·cases ht;cases rx;cases(show u=Q0a.none from q);exact Q1f Q5l I.kIn Q1w e (fun z=>nomatch z) h
 ·rename_i y;cases ht;cases rx;cases(show u=Q0a.bool y from q);exact Q1f Q5m I.kIn Q1w e (fun z=>nomatch z) h
 ·rename_i y;cases ht;cases rx;obtain⟨t,rfl⟩:=(show ∃t,u=Q0a.int y t from q);exact Q1f Q5v I.kIn Q1w e (fun z=>nomatch z) h
 ·rename_i y;cases ht;cases rx;obtain⟨t,rfl⟩:=(show ∃t,u=Q0a.str y t from q);exact Q1f Q5w I.kIn Q1w e (fun z=>nomatch z) h
 ·cases ht
  obtain⟨a,vs,rfl,sa,ra⟩:=rx
  cases q
  obtain⟨its,_,⟨o,h1,h2,_⟩,_⟩:=I.tuple sa
  exact Q1f Q5f I.kIn ⟨o,h1,h2⟩ e (fun z=>nomatch z) h
 ·rename_i n
  obtain⟨a,rfl,qa⟩:=rx
  cases q
  split at ht
  ·rename_i xs es
   cases ht
   obtain⟨vs,e1,_⟩:=R.obj n a _ qa es
   exact q5u (x:=.ref a) I rfl (TyOf.lst (K:=X.K) e1) e h
  ·rename_i xs es
   cases ht
   obtain⟨vs,e1,_⟩:=R.obj n a _ qa es
   exact q5u (x:=.ref a) I rfl (TyOf.dK (K:=X.K) e1) e h
  ·cases ht
 ·cases ht
  obtain⟨a,vs,rfl,sa,ra⟩:=rx
  cases q
  obtain⟨its,_,p,_⟩:=I.list sa.sq
  obtain⟨o,h1,h2,_⟩:=p.isList
  exact Q1f Q3q I.kIn ⟨o,h1,h2⟩ e (fun z=>nomatch z) h
 ·cases ht
 ·cases ht
theorem z9b{pins:List (Q0i×Obj)}{s:Q0b}{σ:St}{H:Hp}{φ:List Q0i}{S:q0a}{x:PV}{x':V}{u:Q0a}{T:String}{p:Q0i}{its:List Q0a}{b:Bool}{A:Q0w}{E:Q0a->Q0b->Prop}{Q:Q0a->Q0b->Prop}(I:Inv X pins σ H s)(R:Rel X.K φ S H)(rx:RV X.K H φ x x')(q:RelV x' u)
  (ht:tyP x S=some T) (ho:Q5u s.heap p its.toArray) (e:Q2o X.K (.type T) its=some b) (h:∀tk,Q (.bool b) {s with toks:=tk}):Q0y (model X.prog X.w) A (call (.builtin "isinstance") [u,.ref p]) Q E s:=by
 obtain⟨⟨cls,dd,dat,sl⟩,ho,hc,n,hd⟩:=ho
 simp only at hc hd
 subst hc hd
 unfold tyP at ht
 split at ht
 ·cases ht;cases rx;cases(show u=Q0a.none from q);exact Q2h Q5l I.kIn Q1w ho e (fun z=>nomatch z) h
 ·rename_i y;cases ht;cases rx;cases(show u=Q0a.bool y from q);exact Q2h Q5m I.kIn Q1w ho e (fun z=>nomatch z) h
 ·rename_i y;cases ht;cases rx;obtain⟨t,rfl⟩:=(show ∃t,u=Q0a.int y t from q);exact Q2h Q5v I.kIn Q1w ho e (fun z=>nomatch z) h
 ·rename_i y;cases ht;cases rx;obtain⟨t,rfl⟩:=(show ∃t,u=Q0a.str y t from q);exact Q2h Q5w I.kIn Q1w ho e (fun z=>nomatch z) h
 ·cases ht
  obtain⟨a,vs,rfl,sa,ra⟩:=rx
  cases q
  obtain⟨_,_,⟨o,h1,h2,_⟩,_⟩:=I.tuple sa
  exact Q2h Q5f I.kIn ⟨o,h1,h2⟩ ho e (fun z=>nomatch z) h
 ·rename_i m
  obtain⟨a,rfl,qa⟩:=rx
  cases q
  split at ht
  ·rename_i xs es
   cases ht
   obtain⟨vs,e1,_⟩:=R.obj m a _ qa es
   obtain⟨_,_,n,_,h1⟩:=(show q0j X.prog X.w H s.heap a (.lst vs)from I.hok a _ e1)
   exact Q2h Q3q I.kIn ⟨_,h1,rfl⟩ ho e (fun z=>nomatch z) h
  ·rename_i xs es
   cases ht
   obtain⟨vs,e1,_⟩:=R.obj m a _ qa es
   obtain⟨_,_,_,_,p⟩:=(show q0j X.prog X.w H s.heap a (.dK vs)from I.hok a _ e1)
   obtain⟨o,es,ep,h1,h2,_⟩:=p
   exact Q2h Q5n I.kIn ⟨o,h1,h2.1⟩ ho e (fun z=>nomatch z) h
  ·cases ht
 ·cases ht
  obtain⟨a,vs,rfl,sa,ra⟩:=rx
  cases q
  obtain⟨_,_,p,_⟩:=I.list sa.sq
  obtain⟨o,h1,h2,_⟩:=p.isList
  exact Q2h Q3q I.kIn ⟨o,h1,h2⟩ ho e (fun z=>nomatch z) h
 ·cases ht
 ·cases ht
def fIsi:FL:=fun xs S Q=>match xs with
 |[x,.ty D]=>match tyP x S with
  |some T=>D∈q1b/\Q (.bl (isT T D)) S
  |none=>False
 |[x,.tup [.ty D,.ty D']]=>match tyP x S with
  |some T=>(D∈q1b/\D'∈q1b)/\Q (.bl (isT T D||isT T D')) S
  |none=>False
 |_=>False
theorem z3d:q1p X (.builtin "isinstance") (q5k X.K fIsi):=by
 rintro pins s σ H xs us Q I r ⟨φ,S,pxs,Q0,R,hx,h,k⟩
 unfold fIsi at h
 split at h
 ·rename_i x D
  split at h
  ·rename_i T ht
   obtain⟨v,w,rfl,r1,r2⟩:=q6q hx
   cases r2
   obtain⟨u,c,rfl,ru,rc⟩:=q8o r
   cases(show c=Q0a.type D from rc)
   exact z9c I R r1 ru ht (q6x X.K T (q4j ht) D h.1) fun tk=>⟨.bl _,H,I.tok tk,rfl,k _ S φ H _ h.2 (Q0d _) (.refl _) R rfl⟩
  ·exact h.elim
 ·rename_i x D D'
  split at h
  ·rename_i T ht
   obtain⟨v,w,rfl,r1,a,vs,rfl,sa,ra⟩:=q6q hx
   obtain⟨d1,d2,rfl,q1,q2⟩:=q6q ra
   cases q1
   cases q2
   obtain⟨u,c,rfl,ru,rc⟩:=q8o r
   cases(show c=Q0a.ref a from rc)
   obtain⟨its,rv,p,_⟩:=I.tuple sa
   obtain⟨v1,v2,rfl,g1,g2⟩:=q8o rv
   cases(show v1=Q0a.type D from g1)
   cases(show v2=Q0a.type D' from g2)
   exact z9b I R r1 ru ht p (z5i (q6x X.K T (q4j ht) D h.1.1) (q6x X.K T (q4j ht) D' h.1.2)) fun tk=>⟨.bl _,H,I.tok tk,rfl,k _ S φ H _ h.2 (Q0d _) (.refl _) R rfl⟩
  ·exact h.elim
 ·exact h.elim
def q1g:List PV->Option (List Str)
 |[]=>some []
 |.str i::r=>(q1g r).map (i::·)
 |_=>none
theorem q5b:∀{xs:List PV}{ns:List Str},q1g xs=some ns->xs=ns.map PV.str
 |[],ns,h=>by simp[q1g]at h;subst h;rfl
 |x::r,ns,h=>by
  cases x with
  |str i=>
   simp only[q1g,Q2j]at h
   obtain⟨ms,h1,rfl⟩:=h
   rw[q5b h1];rfl
  |_=>simp[q1g]at h
theorem q8r(ns:List Str):q1g (ns.map PV.str)=some ns:=by induction ns with
 |nil=>rfl
 |cons a r ih=>simp[q1g,ih]
def z2q:FL:=fun xs S Q=>match xs with
 |[.frl ys]=>Q (.ref S.length) (S++[.lst ys])
 |[.tup ys]=>Q (.ref S.length) (S++[.lst ys])
 |[.ref n]=>match q1t S n with
  |some ys=>Q (.ref S.length) (S++[.lst ys])
  |none=>False
 |_=>False
def q4h:FL:=fun xs S Q=>match xs with
 |[.tup ys]=>Q (.tup ys) S
 |[.ref n]=>match q1t S n with
  |some ys=>Q (.tup ys) S
  |none=>False
 |_=>False
theorem q9s:q1p X (.type "list") (q5k X.K z2q):=by
 rintro pins s σ H xs us Q I r ⟨φ,S,pxs,Q0,R,hx,h,k⟩
 unfold z2q at h
 split at h
 ·obtain⟨v,rfl,a,vs,rfl,sa,ra⟩:=q0k hx
  exact q1k pins s σ H _ us Q I r ⟨a,vs,rfl,.inl sa.sq,k.lst h R ra⟩
 ·obtain⟨v,rfl,a,vs,rfl,sa,ra⟩:=q0k hx
  exact q1k pins s σ H _ us Q I r ⟨a,vs,rfl,.inr sa,k.lst h R ra⟩
 ·rename_i n
  split at h
  ·rename_i ys e
   obtain⟨v,rfl,a,rfl,qa⟩:=q0k hx
   obtain⟨vs,sa,ra⟩:=R.seq qa e
   exact q1k pins s σ H _ us Q I r ⟨a,vs,rfl,.inl sa,k.lst h R ra⟩
  ·exact h.elim
 ·exact h.elim
theorem q7j:q1p X (.type "tuple") (q5k X.K q4h):=by
 rintro pins s σ H xs us Q I r ⟨φ,S,pxs,Q0,R,hx,h,k⟩
 unfold q4h at h
 split at h
 ·obtain⟨v,rfl,a,vs,rfl,sa,ra⟩:=q0k hx
  exact q1y pins s σ H _ us Q I r ⟨a,vs,rfl,.inr ⟨sa,k _ S φ H _ h (Q0d _) (.refl _) R ⟨a,vs,rfl,sa,ra⟩⟩⟩
 ·rename_i n
  split at h
  ·rename_i ys e
   obtain⟨v,rfl,a,rfl,qa⟩:=q0k hx
   obtain⟨vs,sa,ra⟩:=R.seq qa e
   exact q1y pins s σ H _ us Q I r ⟨a,vs,rfl,.inl ⟨sa,k.tup h R ra⟩⟩
  ·exact h.elim
 ·exact h.elim
def fInt:FL:=fun xs S Q=>match xs with
 |[.int i]=>Q (.int i) S
 |[.bl b]=>Q (.int (if b then 1 else 0)) S
 |_=>False
theorem z3e:q1p X (.type "int") (q5k X.K fInt):=by
 rintro pins s σ H xs us Q I r ⟨φ,S,pxs,Q0,R,hx,h,k⟩
 unfold fInt at h
 split at h
 ·obtain⟨v,rfl,r1⟩:=q0k hx
  cases r1
  exact q6f pins s σ H _ us Q I r (.inl ⟨_,rfl,k _ S φ H _ h (Q0d _) (.refl _) R rfl⟩)
 ·obtain⟨v,rfl,r1⟩:=q0k hx
  cases r1
  exact q6f pins s σ H _ us Q I r (.inr ⟨_,rfl,k _ S φ H _ h (Q0d _) (.refl _) R rfl⟩)
 ·exact h.elim
def fStr:FL:=fun xs S Q=>match xs with
 |[.int i]=>i.natAbs.log2<1920/\Q (.str (toString i)) S
 |_=>False
abbrev FM:=PV->List PV->q0a->VC->Prop
def liftM(K:Q1n)(f:FM):V->List V->Hp->VK->Prop:=fun x' xs' H Q=>∃φ S x xs Q0,Rel K φ S H/\RV K H φ x x'/\RVs K H φ xs xs'/\f x xs S Q0/\KE K φ H Q0 Q
def wBM(T:String)(f:FM)(wo:WE)(wa:WA):WE:=fun σ S E Q=>wo σ S E fun x S1=>tyP x S1=some T/\wa σ S1 E fun xs S2=>f x xs S2 Q
theorem z9v{K:Q1n}{H:Hp}{φ:List Q0i}{S:q0a}{x:PV}{x':V}{T:String}(R:Rel K φ S H)(r:RV K H φ x x')(h:tyP x S=some T)(hT:T = "str" \/T = "list" \/T = "dict"):tyV K T x' H:=by
 unfold tyP at h
 split at h
 ·cases h;simp at hT
 ·cases h;simp at hT
 ·cases h;simp at hT
 ·cases h;cases r;rfl
 ·cases h;simp at hT
 ·rename_i n
  obtain⟨a,rfl,qa⟩:=r
  split at h
  ·rename_i xs es
   cases h
   obtain⟨vs,e1,_⟩:=R.obj n a _ qa es
   exact .inl ⟨rfl,vs,SqL.of e1⟩
  ·rename_i xs es
   cases h
   obtain⟨vs,e1,_⟩:=R.obj n a _ qa es
   exact .inr (.inr (.inl ⟨rfl,.inl ⟨vs,e1⟩⟩))
  ·cases h
 ·cases h
  obtain⟨a,vs,rfl,sa,ra⟩:=r
  exact .inl ⟨rfl,vs,sa.sq⟩
 ·cases h
 ·cases h
theorem z0s{f:FM}{T id:String}{name:Str}{o e:Expr}{es:List Expr}{apos cpos:Pos}{wo:WE}{wa:WA}(pa:PlainAttrs T)(slot:Slot T name id)(hty:typeOf (.builtin id)=pure (.type "method_descriptor"))(hm:MtR X id (liftM X.K f))(ho:SimE X G o wo)(ha:SimA X G (e::es) wa)
  (hT:T = "str" \/T = "list" \/T = "dict" :=by first|exact Q5y rfl|exact Q4l (Q5y rfl)|exact Q4l (Q4l rfl))
  (hbase:attributeBase o name X.env (eval o X.env)=eval o X.env:=by rfl)
  (hfew:((backTo cpos (Q0t (e::es) X.env)).all (fun x=>!x.1)&&(backToKw cpos (keywordEach [] X.env)).all (fun x=>x.1.isSome)
   && decide ((e::es).length+([]:List Q8n).length+(if ([]:List Q8n).isEmpty then 0 else 1)<30))=true:=by rfl)
  (hline:(apos.endLine==cpos.line)=true:=by rfl) (hs:Q0t (e::es) X.env=(false,eval e X.env)::Q0t es X.env:=by rfl) (hplain:(backTo cpos (Q0t es X.env)).any (·.1)=false:=by rfl) :
  SimE X G (.Call (.Attribute o name apos) (e::es) [] cpos) (wBM T f wo wa):=
 (y3n pa slot hty hm ho ha hbase hfew hline hs hplain).imp fun σV H Q hh1=>by obtain⟨φ,σ,S,Q0,L,R,h,k⟩:=hh1;exact(⟨φ,σ,S,_,L,R,h,fun v S1 φ1 H1 x hh2 p1 m1 R1 r1=>by obtain⟨ht,q⟩:=hh2;exact(⟨z9v R1 r1 ht hT,
  ⟨φ1,σ,S1,_,L.mono m1 p1,R1,q,fun vs S2 φ2 H2 xs q2 p2 m2 R2 r2=>⟨φ2,S2,v,vs,Q0,R2,RV.mono m2 p2 _ _ r1,r2,q2,k.up (p1.trans p2) (m1.trans m2)⟩⟩⟩)⟩)
theorem KE.put{K:Q1n}{φ:List Q0i}{H:Hp}{Q0:VC}{Q:VK}{S:q0a}{n:Nat}{a:Q0i}{old:List V}{xs:List PV}{vs:List V}{y:PV}{y':V}(k:KE K φ H Q0 Q)(R:Rel K φ S H)(qa:φ[n]?=some a)(e:H a=some (.lst old))(r:RVs K H φ xs vs)(ry:RV K H φ y y')(q:Q0 y (S.set n (.lst xs))):Q y' (upd H a (.lst vs)):=
 k _ _ φ _ _ q (Q0d _) (.lst e) (R.put (o:=.lst xs) qa (.lst e) ⟨vs,q0d,RVs.mono (.lst e) (Q0d _) _ _ r⟩) (RV.mono (.lst e) (Q0d _) _ _ ry)
def q1h:FM:=fun x xs S Q=>match x,xs with
 |.ref n,[y]=>match q3o S n with
  |some ys=>ys.length<Q0k/\Q .non (S.set n (.lst (ys++[y])))
  |none=>False
 |_,_=>False
theorem q9d:MtR X "list.append" (liftM X.K q1h):=by
 rintro pins s σ H x xs v us Q I rx rs ⟨φ,S,px,pxs,Q0,R,hx,hxs,h,k⟩
 unfold q1h at h
 split at h
 ·rename_i n y
  split at h
  ·rename_i ys e
   obtain⟨a,rfl,qa⟩:=hx
   obtain⟨y',rfl,ry⟩:=q0k hxs
   obtain⟨vs,ea,ra⟩:=R.lst qa e
   exact z1q pins s σ H _ _ v us Q I rx rs ⟨a,vs,y',rfl,rfl,ea,by rw[<-ra.length];exact h.1,k.put R qa ea (ra.append (.one ry)) (show RV X.K H φ .non .non from rfl) h.2⟩
  ·exact h.elim
 ·exact h.elim
def q9h:FM:=fun x xs S Q=>match x,xs with
 |.str z,[.ref n]=>match (q1t S n).bind q1g with
  |some ys=>(ys.map (·.length)).sum+ys.length*z.length<=16777216/\Q (.str (Q5x z ys)) S
  |none=>False
 |_,_=>False
theorem z5c:MtR X "str.join" (liftM X.K q9h):=by
 rintro pins s σ H x xs v us Q I rx rs ⟨φ,S,px,pxs,Q0,R,hx,hxs,h,k⟩
 unfold q9h at h
 split at h
 ·rename_i z n
  split at h
  ·rename_i ys e
   obtain⟨zs,e1,e2⟩:=Option.bind_eq_some_iff.mp e
   have:=q5b e2
   subst this
   cases hx
   obtain⟨y',rfl,a,rfl,qa⟩:=q0k hxs
   obtain⟨vs,sa,ra⟩:=R.seq qa e1
   rw[ra.strs]at sa
   exact z8l pins s σ H _ _ v us Q I rx rs ⟨z,a,ys,rfl,rfl,sa,h.1,k _ S φ H _ h.2 (Q0d _) (.refl _) R rfl⟩
  ·exact h.elim
 ·exact h.elim
def z6e:FM:=fun x xs S Q=>match x,xs with
 |.str z,[.str y]=>0<=Txt.find z y/\Q (.int (Txt.find z y)) S
 |_,_=>False
end
structure PEnds where
 nx:Loc->q0a->Prop
 rt:VC
 bk:Loc->q0a->Prop:=fun _ _=>False
 ct:Loc->q0a->Prop:=fun _ _=>False
abbrev WS:=PEnds->EK->Loc->q0a->Prop
def KN(K:Q1n)(G:GX)(φ:List Q0i)(H:Hp)(Q0:Loc->q0a->Prop)(Q:St->Hp->Prop):Prop:=∀σ' S' φ' H' σV',Q0 σ' S'->φ <+: φ'->Mono H H'->Rel K φ' S' H'->LRel K G H' φ' σ' σV'->Q σV' H'
theorem KN.up{K:Q1n}{G:GX}{φ φ1:List Q0i}{H H1:Hp}{Q0:Loc->q0a->Prop}{Q:St->Hp->Prop}(k:KN K G φ H Q0 Q)(p:φ <+: φ1)(m:Mono H H1):KN K G φ1 H1 Q0 Q:=fun σ' S' φ' H' σV' q p' m'=>k σ' S' φ' H' σV' q (p.trans p') (m.trans m')
structure KS(K:Q1n)(G:GX)(φ:List Q0i)(H:Hp)(D0:PEnds)(D:Ends):Prop where
 nx:KN K G φ H D0.nx D.nx
 rt:KE K φ H D0.rt D.rt
 bk:KN K G φ H D0.bk D.bk
 ct:KN K G φ H D0.ct D.ct
theorem KS.up{K:Q1n}{G:GX}{φ φ1:List Q0i}{H H1:Hp}{D0:PEnds}{D:Ends}(k:KS K G φ H D0 D)(p:φ <+: φ1)(m:Mono H H1):KS K G φ1 H1 D0 D:=⟨k.nx.up p m,k.rt.up p m,k.bk.up p m,k.ct.up p m⟩
def z8p(K:Q1n)(G:GX)(w:WS):TS:=fun D σV H=>∃φ σ S D0,LRel K G H φ σ σV/\Rel K φ S H/\w D0 G.ek σ S/\KS K G φ H D0 D
def SimS(X:Cx)(G:GX)(st:Q3t)(w:WS):Prop:=PS X st (z8p X.K G w)
def q3u(X:Cx)(G:GX)(st:List Q3t)(w:WS):Prop:=PSs X st (z8p X.K G w)
theorem _root_.L2.PS.imp{X:Cx}{e:Q3t}{t t':TS}(h:PS X e t)(i:∀D σ H,t' D σ H->t D σ H):PS X e t':=fun pins s σ H D I q=>h pins s σ H D I (i D σ H q)
theorem _root_.L2.PSs.imp{X:Cx}{e:List Q3t}{t t':TS}(h:PSs X e t)(i:∀D σ H,t' D σ H->t D σ H):PSs X e t':=fun pins s σ H D I q=>h pins s σ H D I (i D σ H q)
section
variable{X:Cx}{G:GX}{pos:Pos}
def q2v:WS:=fun D _ σ S=>D.nx σ S
def wSeq(w1 w2:WS):WS:=fun D E σ S=>w1 {D with nx:=w2 D E} E σ S
theorem z3x:q3u X G [] q2v:=z7q.imp fun D σV H hh1=>by obtain⟨φ,σ,S,D0,L,R,h,k⟩:=hh1;exact(k.nx σ S φ H σV h (Q0d _) (.refl _) R L)
theorem z3w{st:Q3t}{w:WS}(h:SimS X G st w):q3u X G [st] w:=z0y h
theorem z0o{st:Q3t}{rest:List Q3t}{w1 w2:WS}(h1:SimS X G st w1)(h2:q3u X G rest w2):q3u X G (st::rest) (wSeq w1 w2):=
 (q4n h1 h2).imp fun D σV H hh1=>by obtain⟨φ,σ,S,D0,L,R,h,k⟩:=hh1;exact(⟨φ,σ,S,_,L,R,h,⟨fun σ' S' φ' H' σV' q p m R' L'=>⟨φ',σ',S',D0,L',R',q,k.up p m⟩,k.rt,k.bk,k.ct⟩⟩)
def q6o(w:WE):WS:=fun D E σ S=>w σ S E fun _ S1=>D.nx σ S1
theorem z4b{e:Expr}{w:WE}(he:SimE X G e w)(hs:swapsWith e none pos.line X.env=pure false:=by rfl):SimS X G (.Expr e pos) (q6o w):=
 (z7r he hs).imp fun D σV H hh1=>by obtain⟨φ,σ,S,D0,L,R,h,k⟩:=hh1;exact(⟨φ,σ,S,_,L,R,h,fun v S1 φ1 H1 x q p1 m1 R1 r1=>k.nx σ S1 φ1 H1 σV q p1 m1 R1 (L.mono m1 p1)⟩)
def wRet(w:WE):WS:=fun D E σ S=>w σ S E D.rt
theorem z6w{e:Expr}{w:WE}(he:SimE X G e w):SimS X G (.Return (some e) pos) (wRet w):=
 (y0n he).imp fun D σV H hh1=>by obtain⟨φ,σ,S,D0,L,R,h,k⟩:=hh1;exact(⟨φ,σ,S,_,L,R,h,k.rt⟩)
def wIfS(c:WT)(t u:WS):WS:=fun D E σ S=>c σ S E fun b S1=>if b=true then t D E σ S1 else u D E σ S1
theorem y0c{c:Expr}{a b:List Q3t}{wc:WT}{t u:WS}(hc:SimT X G c wc)(ha:q3u X G a t)(hb:q3u X G b u):SimS X G (.If c a b pos) (wIfS wc t u):=
 (y3j hc ha hb).imp fun D σV H hh1=>by obtain⟨φ,σ,S,D0,L,R,h,k⟩:=hh1;exact(⟨φ,σ,S,_,L,R,h,fun c S1 φ1 H1 q p1 m1 R1=>by
  cases c with
  |true=>exact ⟨φ1,σ,S1,D0,L.mono m1 p1,R1,q,k.up p1 m1⟩
  |false=>exact ⟨φ1,σ,S1,D0,L.mono m1 p1,R1,q,k.up p1 m1⟩⟩)
abbrev WG:=PV->Loc->q0a->EK->(Loc->q0a->Prop)->Prop
def z5f(K:Q1n)(G:GX)(w:WG):TG:=fun v' σV H Q=>∃φ v σ S Q0,LRel K G H φ σ σV/\Rel K φ S H/\RV K H φ v v'/\w v σ S G.ek Q0/\KN K G φ H Q0 Q
def SimG(X:Cx)(G:GX)(tg:Expr)(w:WG):Prop:=PG X tg (z5f X.K G w)
theorem PG.imp{e:Expr}{t t':TG}(h:PG X e t)(i:∀v σ H Q,t' v σ H Q->t v σ H Q):PG X e t':=fun pins s σ H v u Q I r q=>h pins s σ H v u Q I r (i v σ H Q q)
def q1q(i:Nat):WG:=fun v σ S _ Q=>Q (σ.set i (some v)) S
theorem q5e{i:Nat}{x:Str}(hN:X.N.Nodup)(hi:X.N[i]?=some x:=by rfl)(hx:L2.Loc X.env.scope x:=by first|exact Q5y rfl|exact Q4l rfl)(hf:X.fn x=true\/X.env.scope.names.lookup x=some .local:=by first|exact .inl rfl|exact .inr rfl|assumption):SimG X G (.Name x pos) (q1q i):=
 PG.imp (z7v (i:=i) hN hi hx hf) fun v' σV H Q hh1=>by obtain⟨φ,v,σ,S,Q0,L,R,r,h,k⟩:=hh1;exact(k _ S φ H _ h (Q0d _) (.refl _) R (L.set i r))
def wAsg(w:WE)(g:WG):WS:=fun D E σ S=>w σ S E fun v S1=>g v σ S1 E D.nx
theorem z7g{tg e:Expr}{w:WE}{g:WG}(he:SimE X G e w)(hg:SimG X G tg g)(hs:swapsWithSole [tg] e pos.line X.env=pure false:=by rfl)(hw:swappedStores [tg] e X.env=pure none:=by rfl)
  (h1:(assignEach [tg] X.env).map (·.2)=[assign tg X.env]:=by rfl):SimS X G (.Assign [tg] e pos) (wAsg w g):=
 (y0p he hg hs hw h1).imp fun D σV H hh1=>by obtain⟨φ,σ,S,D0,L,R,h,k⟩:=hh1;exact(⟨φ,σ,S,_,L,R,h,fun v S1 φ1 H1 x q p1 m1 R1 r1=>⟨φ1,v,σ,S1,D0.nx,L.mono m1 p1,R1,r1,q,k.nx.up p1 m1⟩⟩)
def wSet(i:Nat)(w:WE):WS:=fun D E σ S=>w σ S E fun v S1=>D.nx (σ.set i (some v)) S1
theorem z6v(i:Nat){x:Str}{e:Expr}{w:WE}{pos':Pos}(hN:X.N.Nodup)(he:SimE X G e w)(hi:X.N[i]?=some x:=by rfl)(hx:L2.Loc X.env.scope x:=by first|exact Q5y rfl|exact Q4l rfl)(hs:swapsWith e (some (.Name x pos')) pos.line X.env=pure false:=by rfl)(hf:X.fn x=true\/X.env.scope.names.lookup x=some .local:=by first|exact .inl rfl|exact .inr rfl|assumption) :
  SimS X G (.Assign [.Name x pos'] e pos) (wSet i w):=
 (y0m (i:=i) hN hi hx he hs hf).imp fun D σV H hh1=>by obtain⟨φ,σ,S,D0,L,R,h,k⟩:=hh1;exact(⟨φ,σ,S,_,L,R,h,fun v S1 φ1 H1 x q p1 m1 R1 r1=>k.nx _ S1 φ1 H1 _ q p1 m1 R1 ((L.mono m1 p1).set i r1)⟩)
abbrev FS:=PV->PV->PV->q0a->(q0a->Prop)->Prop
def z1w(K:Q1n)(f:FS):TSet:=fun o' i' v' H Q=>∃φ S o i v Q0,Rel K φ S H/\RV K H φ o o'/\RV K H φ i i'/\RV K H φ v v'/\f o i v S Q0/\∀S' H',Q0 S'->Mono H H'->Rel K φ S' H'->Q H'
def sSet:FS:=fun o i v S Q=>match o with
 |.ref n=>match S[n]? with
  |some (.lst xs)=>match i with
   |.int k=>match ixN xs.length k with
    |some j=>Q (S.set n (.lst (xs.set j v)))
    |none=>False
   |_=>False
  |some (.dK kvs)=>match q9i i with
   |some k=>kvs.length<Q0k/\Q (S.set n (.dK (putP kvs k v)))
   |none=>False
  |_=>False
 |_=>False
theorem sets(hu:X.A.units+200<cLine):PSet X (z1w X.K sSet):=by
 rintro pins s σ H o i v ov iv u Q I ro ri rv ⟨φ,S,po,pi,pv,Q0,R,ho,hi,hv,h,k⟩
 unfold sSet at h
 split at h
 ·rename_i n
  obtain⟨a,rfl,qa⟩:=ho
  split at h
  ·rename_i xs e
   split at h
   ·rename_i kk
    split at h
    ·rename_i j ej
     cases hi
     obtain⟨vs,ea,ra⟩:=R.obj n a _ qa e
     rw[ra.length]at ej
     refine z4k pins s σ H _ _ v ov iv u Q I ro ri rv ⟨a,vs,kk,j,rfl,rfl,ea,ej,k _ _ h (.lst ea) (R.put (o:=.lst (xs.set j pv)) qa (.lst ea) ⟨vs.set j v,q0d,RVs.mono (.lst ea) (Q0d _) _ _ (ra.set hv j)⟩)⟩
    ·exact h.elim
   ·exact h.elim
  ·rename_i kvs e
   split at h
   ·rename_i kk ek
    have hk:=z2a hi ek
    subst hk
    obtain⟨ws,ea,ra⟩:=R.obj n a _ qa e
    cases ro
    refine z2x (by omega) I (DPut.k ea (by rw[<-ra.length];exact h.1)) ri rv fun s' I'=>⟨_,I',k _ _ h.2 (.dict ea) (R.put (o:=.dK (putP kvs kk pv)) qa (.dict ea) ⟨_,q0d,RKs.mono (.dict ea) (Q0d _) (ra.put kk hv)⟩)⟩
   ·exact h.elim
  ·exact h.elim
 ·exact h.elim
def z3m(wo wi:WE)(f:FS):WG:=fun v σ S E Q=>wo σ S E fun o S1=>wi σ S1 E fun i S2=>f o i v S2 fun S3=>Q σ S3
theorem z4i{o i:Expr}{wo wi:WE}{f:FS}(hf:PSet X (z1w X.K f))(ho:SimE X G o wo)(hi:SimE X G i wi)
  (ha:∀v,assign (.Subscript o i pos) X.env v=(do
   let ov <-holding [v] (eval o X.env)
   let iv <-holding [v,ov] (eval i X.env)
   standAt pos
   holding [v,ov,iv] (setItem ov iv v)
   release [v,ov,iv] []):=by intro _;rfl):SimG X G (.Subscript o i pos) (z3m wo wi f):=
 PG.imp (y0v ho hi hf ha) fun v' σV H Q hh1=>by obtain⟨φ,v,σ,S,Q0,L,R,r,h,k⟩:=hh1;exact(⟨φ,σ,S,_,L,R,h,fun ov S1 φ1 H1 x q p1 m1 R1 r1=>⟨φ1,σ,S1,_,L.mono m1 p1,R1,q,fun iv S2 φ2 H2 y q2 p2 m2 R2 r2=>
  ⟨φ2,S2,ov,iv,v,_,R2,RV.mono m2 p2 _ _ r1,r2,RV.mono m2 p2 _ _ (RV.mono m1 p1 _ _ r),q2,fun S3 H3 q3 m3 R3=>k σ S3 φ2 H3 σV q3 (p1.trans p2) ((m1.trans m2).trans m3) R3 (((L.mono m1 p1).mono m2 p2).mono m3 (Q0d _))⟩⟩⟩)
structure PIt where
 xs:List PV
 chk:q0a->Prop
structure ItR(K:Q1n)(φ0:List Q0i)(H0:Hp)(J:It)(it:PIt):Prop where
 go:∀φ H S,φ0 <+: φ->Mono H0 H->Rel K φ S H->it.chk S->∀(i:Nat) x,it.xs[i]?=some x->J.go i H/\∀y H',J.yld i H y H'->∃φ',φ <+: φ'/\Mono H H'/\Rel K φ' S H'/\RV K H' φ' x y
 stop:∀φ H S,φ0 <+: φ->Mono H0 H->Rel K φ S H->it.chk S->∀i:Nat,it.xs.length<=i->J.stop i H
abbrev WI:=Loc->q0a->EK->(PIt->q0a->Prop)->Prop
def KI(K:Q1n)(φ:List Q0i)(H:Hp)(Q0:PIt->q0a->Prop)(R:It->Hp->Prop):Prop:=∀it S' φ' H' J,Q0 it S'->φ <+: φ'->Mono H H'->Rel K φ' S' H'->ItR K φ' H' J it->R J H'
def z5e(K:Q1n)(G:GX)(w:WI):TI:=fun σV H R=>∃φ σ S Q0,LRel K G H φ σ σV/\Rel K φ S H/\w σ S G.ek Q0/\KI K φ H Q0 R
def SimI(X:Cx)(G:GX)(tg iter:Expr)(w:WI):Prop:=PI X tg iter (z5e X.K G w)
theorem PI.imp{tg e:Expr}{t t':TI}(h:PI X tg e t)(i:∀σ H Q,t' σ H Q->t σ H Q):PI X tg e t':=fun pins s σ H R I q=>h pins s σ H R I (i σ H R q)
def iAny(K:Q1n)(tl:TE):TI:=fun σ H R=>tl σ H fun x H1=>(∃a,x=.ref a/\(∃xs,SqL K H1 a xs)/\R (Itl K a) H1)\/(∃a,x=.ref a/\(∃xs,SqT K H1 a xs)/\R (Itt K a) H1)\/∃z,x=.str z/\R (Its z) H1
theorem y0u{tg l:Expr}{tl:TE}(hl:PE X l tl):PI X tg l (iAny X.K tl):=by
 intro pins s σ H R I h
 refine thn (hl pins s σ H _ I h) fun v s1 hh1=>?_
 obtain⟨x,H1,I1,r1,q1⟩:=hh1
 rcases q1 with⟨a,e,⟨xs,hq⟩,q⟩|⟨a,e,⟨xs,hq⟩,q⟩|⟨z,rfl,q⟩
 ·subst e
  cases r1
  obtain⟨its,rv,p,hz⟩:=I1.list hq
  refine wpAny_pyIter_list p.isList ?_
  refine⟨s1.heap.objs.size,[s1.heap.objs.size],_,_,H1,rfl,I1.kept (t':=s1.toks) fun b o e=>Q0e _ e,z0b a _,⟨_,Q0z.get?_push_size _ rfl,rfl,rfl⟩,fun b hb=>?_,q⟩
  have e:b=s1.heap.objs.size:=by simpa using hb
  subst e
  exact I1.fpOk (Q0m _) (I1.hok.fresh (Q0m _))
 ·subst e
  cases r1
  obtain⟨its,rv,p,hz⟩:=I1.tuple hq
  refine wpAny_pyIter_tuple (show s1.heap.IsTuple a its.toArray from p) ?_
  refine⟨s1.heap.objs.size,[s1.heap.objs.size],_,_,H1,rfl,I1.kept (t':=s1.toks) fun b o e=>Q0e _ e,q8p a _,⟨_,Q0z.get?_push_size _ rfl,rfl,rfl⟩,fun b hb=>?_,q⟩
  have e:b=s1.heap.objs.size:=by simpa using hb
  subst e
  exact I1.fpOk (Q0m _) (I1.hok.fresh (Q0m _))
 ·obtain⟨t,rfl⟩:=r1
  refine wpAny_pyIter_strU ?_
  refine⟨s1.heap.objs.size,[s1.heap.objs.size],_,_,H1,rfl,I1.kept (t':=s1.toks) fun b o e=>Q0e _ e,z3o _ z t,⟨Q2b _,_,Q0z.get?_push_size _ rfl,rfl,rfl⟩,fun b hb=>?_,q⟩
  obtain rfl:=Q1l.mp hb
  exact I1.fpOk (Q0m _) I1.fresh
def chr1(c:Nat):PV:=.str ⟨#[c]⟩
def q8m(w:WE):WI:=fun σ S E Q=>w σ S E fun x S1=>match x with
 |.ref n=>match q1t S1 n with
  |some xs=>Q ⟨xs,fun S=>q1t S n=some xs⟩ S1
  |none=>False
 |.tup xs=>Q ⟨xs,fun _=>True⟩ S1
 |.frl xs=>Q ⟨xs,fun _=>True⟩ S1
 |.str z=>Q ⟨z.cps.toList.map chr1,fun _=>True⟩ S1
 |_=>False
theorem z5l{K:Q1n}{φ:List Q0i}{H:Hp}{n:Nat}{a:Q0i}{xs:List PV}(qa:φ[n]?=some a):ItR K φ H (Itl K a) ⟨xs,fun S=>q1t S n=some xs⟩ where
 go:=fun φ1 H1 S1 p m R e i x hx=>by
  obtain⟨vs,sa,ra⟩:=R.seq (q6s p qa) e
  obtain⟨y,ey,ry⟩:=ra.get hx
  refine⟨⟨vs,y,sa,ey⟩,fun y' H' hh1=>?_⟩
  obtain⟨e1,e2⟩:=hh1
  subst e1
  have:=e2 vs sa
  rw[ey]at this
  cases this
  exact⟨φ1,Q0d _,.refl _,R,ry⟩
 stop:=fun φ1 H1 S1 p m R e i hi=>by
  obtain⟨vs,sa,ra⟩:=R.seq (q6s p qa) e
  exact⟨vs,sa,by rw[<-ra.length];exact hi⟩
theorem z8y{K:Q1n}{φ:List Q0i}{H:Hp}{a:Q0i}{xs:List PV}{vs:List V}(sa:SqT K H a vs)(ra:RVs K H φ xs vs):ItR K φ H (Itt K a) ⟨xs,fun _=>True⟩ where
 go:=fun φ1 H1 S1 p m R e i x hx=>by
  have sa1:=m.sqT sa
  obtain⟨y,ey,ry⟩:=(RVs.mono m p _ _ ra).get hx
  refine⟨⟨vs,y,sa1,ey⟩,fun y' H' hh1=>?_⟩
  obtain⟨e1,e2⟩:=hh1
  subst e1
  have:=e2 vs sa1
  rw[ey]at this
  cases this
  exact⟨φ1,Q0d _,.refl _,R,ry⟩
 stop:=fun φ1 H1 S1 p m R e i hi=>⟨vs,m.sqT sa,by rw[<-ra.length];exact hi⟩
theorem z9a{K:Q1n}{φ:List Q0i}{H:Hp}{a:Q0i}{xs:List PV}{vs:List V}(sa:SqF K H a vs)(ra:RVs K H φ xs vs):ItR K φ H (Itl K a) ⟨xs,fun _=>True⟩ where
 go:=fun φ1 H1 S1 p m R e i x hx=>by
  have sa1:=(m.sqF sa).sq
  obtain⟨y,ey,ry⟩:=(RVs.mono m p _ _ ra).get hx
  refine⟨⟨vs,y,sa1,ey⟩,fun y' H' hh1=>?_⟩
  obtain⟨e1,e2⟩:=hh1
  subst e1
  have:=e2 vs sa1
  rw[ey]at this
  cases this
  exact⟨φ1,Q0d _,.refl _,R,ry⟩
 stop:=fun φ1 H1 S1 p m R e i hi=>⟨vs,(m.sqF sa).sq,by rw[<-ra.length];exact hi⟩
theorem z8z{K:Q1n}{φ:List Q0i}{H:Hp}{z:Str}:ItR K φ H (Its z) ⟨z.cps.toList.map chr1,fun _=>True⟩ where
 go:=fun φ1 H1 S1 p m R e i x hx=>by
  have hx':(z.cps.toList.map chr1)[i]?=some x:=hx
  rw[Q2i]at hx'
  obtain⟨c,hc,rfl⟩:=Q2j.mp hx'
  have hc':z.cps[i]?=some c:=by simpa using hc
  refine⟨(Q3a.mp hc').1,fun y' H' ⟨e1,c',e2,e3⟩=>?_⟩
  subst e1
  rw[hc']at e2
  cases e2
  exact⟨φ1,Q0d _,.refl _,R,e3⟩
 stop:=fun φ1 H1 S1 p m R e i hi=>by
  have:(z.cps.toList.map chr1).length<=i:=hi
  show z.cps.size<=i
  simpa using this
theorem z4h{tg l:Expr}{w:WE}(hl:SimE X G l w):SimI X G tg l (q8m w):=
 PI.imp (y0u hl) fun σV H Q hh1=>by obtain⟨φ,σ,S,Q0,L,R,h,k⟩:=hh1;exact(⟨φ,σ,S,_,L,R,h,fun v S1 φ1 H1 x q p1 m1 R1 r1=>by
  split at q
  ·rename_i n
   split at q
   ·rename_i xs e
    obtain ⟨a,rfl,qa⟩:=r1
    obtain ⟨vs,sa,ra⟩:=R1.seq qa e
    exact .inl ⟨a,rfl,⟨vs,sa⟩,k _ S1 φ1 H1 _ q p1 m1 R1 (z5l qa)⟩
   ·exact q.elim
  ·rename_i xs
   obtain ⟨a,vs,rfl,sa,ra⟩:=r1
   exact .inr (.inl ⟨a,rfl,⟨vs,sa⟩,k _ S1 φ1 H1 _ q p1 m1 R1 (z8y sa ra)⟩)
  ·rename_i xs
   obtain ⟨a,vs,rfl,sa,ra⟩:=r1
   exact .inl ⟨a,rfl,⟨vs,sa.sq⟩,k _ S1 φ1 H1 _ q p1 m1 R1 (z9a sa ra)⟩
  ·rename_i z
   cases r1
   exact .inr (.inr ⟨z,rfl,k _ S1 φ1 H1 _ q p1 m1 R1 z8z⟩)
  ·exact q.elim⟩)
def rngP(lo:Int)(n:Nat):List PV:=(Q2y n).map fun i=>.int (lo+(i:Nat))
def q1s(wa:WA):WI:=fun σ S E Q=>wa σ S E fun xs S1=>match xs with
 |[.int j]=>(-(2 ^ 62)<=j/\j<2 ^ 62)/\Q ⟨rngP 0 j.toNat,fun _=>True⟩ S1
 |_=>False
theorem z2h{K:Q1n}{φ:List Q0i}{H:Hp}{lo:Int}{n:Nat}:ItR K φ H (Itr lo n) ⟨rngP lo n,fun _=>True⟩ where
 go:=fun φ1 H1 S1 p m R e i x hx=>by
  have hx':(rngP lo n)[i]?=some x:=hx
  unfold rngP at hx'
  rw[Q2i]at hx'
  obtain⟨c,hc,rfl⟩:=Q2j.mp hx'
  obtain⟨hl,rfl⟩:=Q0j.mp hc
  rw[List.getElem_range]
  refine⟨by show i<n;simpa using hl,fun y' H' hh1=>?_⟩
  obtain⟨e1,e2⟩:=hh1
  subst e1
  exact⟨φ1,Q0d _,.refl _,R,e2⟩
 stop:=fun φ1 H1 S1 p m R e i hi=>by
  have:(rngP lo n).length<=i:=hi
  unfold rngP at this
  show n<=i
  simpa using this
theorem q8w{tg a:Expr}{wa:WA}{p:Pos}(hm:X.mg "range" = none)(ha:SimA X G [a] wa)(hg:Gl X "range" :=by rfl)(hs:Q0t [a] X.env=[(false,eval a X.env)]:=by rfl):SimI X G tg (.Call (.Name "range" p) [a] [] pos) (q1s wa):=
 PI.imp (z1e hg hm ha hs) fun σV H Q hh1=>by obtain⟨φ,σ,S,Q0,L,R,h,k⟩:=hh1;exact(⟨φ,σ,S,_,L,R,h,fun v S1 φ1 H1 x q p1 m1 R1 r1=>by
  split at q
  ·rename_i j
   obtain ⟨y,rfl,r⟩:=q0k r1
   cases r
   exact ⟨j,rfl,q.1.1,q.1.2,k _ S1 φ1 H1 _ q.2 p1 m1 R1 z2h⟩
  ·exact q.elim⟩)
def z5o(chk:q0a->Prop)(g:WG)(wb:WS)(D:PEnds)(E:EK):List PV->Loc->q0a->Prop
 |[],σ,S=>chk S/\D.nx σ S
 |x::r,σ,S=>chk S/\∃N:Loc->q0a->Prop,(∀σ' S',N σ' S'->z5o chk g wb D E r σ' S')/\g x σ S E fun σ2 S2=>wb {nx:=N,rt:=D.rt,ct:=N,bk:=D.nx} E σ2 S2
def wFor(wi:WI)(g:WG)(wb:WS):WS:=fun D E σ S=>wi σ S E fun it S1=>z5o it.chk g wb D E it.xs σ S1
theorem z7e{tg iter:Expr}{body:List Q3t}{wi:WI}{g:WG}{wb:WS}(hp:PassesOwn (model X.prog X.w) X.A X.env X.xe)(hc:X.calm=true)(hi:SimI X G tg iter wi)(hg:SimG X G tg g)(hb:q3u X G body wb)(hs:∀x,foldedSetIterable iter X.env x=pure x:=by intro _;rfl):SimS X G (.For tg iter body [] pos) (wFor wi g wb):=
 (y0o hp hc hi hg hb hs).imp fun D σV H hh1=>by obtain⟨φ,σ,S,D0,L,R,h,k⟩:=hh1;exact(⟨φ,σ,S,_,L,R,h,fun it S1 φ1 H1 J q p1 m1 R1 hj=>by
  refine ⟨fun i m σV' H'=>m=it.xs.length-i/\i<=it.xs.length/\∃φ' σ' S',φ1 <+: φ'/\Mono H1 H'/\LRel X.K G H' φ' σ' σV'/\Rel X.K φ' S' H'/\z5o it.chk g wb D0 G.ek (it.xs.drop i) σ' S',⟨it.xs.length,by simp,Q2b _,φ1,σ,S1,Q0d _,.refl _,L.mono m1 p1,R1,by simpa using q⟩,?_⟩
  rintro i m σV' H' ⟨rfl,hi,φ',σ',S',p',m',L',R',hf⟩
  by_cases hlt:i<it.xs.length
  ·rw [Q3e hlt]at hf
   obtain ⟨hch,N,hN,hb⟩:=hf
   obtain ⟨jg,jy⟩:=hj.go φ' H' S' p' m' R' hch i _ (Q0h hlt)
   refine .inr ⟨jg,fun σ2V H2=>∃φ2 σ2 S2,φ' <+: φ2/\Mono H' H2/\LRel X.K G H2 φ2 σ2 σ2V/\Rel X.K φ2 S2 H2/\N σ2 S2,?_,?_⟩
   ·rintro σ2V H2 ⟨φ2,σ2,S2,p2,m2,L2,R2,hn⟩
    exact ⟨it.xs.length-(i+1),by omega,rfl,hlt,φ2,σ2,S2,p'.trans p2,m'.trans m2,L2,R2,hN σ2 S2 hn⟩
   ·intro y H2 hy
    obtain ⟨φ2,p2,m2,R2,r2⟩:=jy y H2 hy
    refine ⟨φ2,_,σ',S',_,L'.mono m2 p2,R2,r2,hb,fun σ3 S3 φ3 H3 σ3V q3 p3 m3 R3 L3=>?_⟩
    refine ⟨φ3,σ3,S3,_,L3,R3,q3,⟨?_,k.rt.up (((p1.trans p').trans p2).trans p3) (((m1.trans m').trans m2).trans m3),k.nx.up (((p1.trans p').trans p2).trans p3) (((m1.trans m').trans m2).trans m3),?_⟩⟩
    ·exact fun σ4 S4 φ4 H4 σ4V q4 p4 m4 R4 L4=>⟨φ4,σ4,S4,(p2.trans p3).trans p4,(m2.trans m3).trans m4,L4,R4,q4⟩
    ·exact fun σ4 S4 φ4 H4 σ4V q4 p4 m4 R4 L4=>⟨φ4,σ4,S4,(p2.trans p3).trans p4,(m2.trans m3).trans m4,L4,R4,q4⟩
  ·have e:i=it.xs.length:=by omega
   subst e
   rw [Q9h]at hf
   exact .inl ⟨hj.stop φ' H' S' p' m' R' hf.1 _ (Q0m _),k.nx σ' S' φ' H' σV' hf.2 (p1.trans p') (m1.trans m') R' L'⟩⟩)
def q4g(ix:List (Option Nat))(σ:Loc):Loc:=ix.map fun o=>match o with
 |none=>none
 |some j=>match σ[j]? with
  |some v=>v
  |none=>none
abbrev NoX:EK:=fun _ _=>False
abbrev NoG:GX:=⟨NoX,fun _ _=>False⟩
def q8i(chk:q0a->Prop)(g:WG)(wc:WT)(we:WE)(Q:VC):List PV->List PV->Loc->q0a->Prop
 |[],ys,_,S=>chk S/\Q (.ref S.length) (S++[.lst ys])
 |x::r,ys,σ,S=>chk S/\∃N:List PV->Loc->q0a->Prop,(∀ys' σ' S',N ys' σ' S'->q8i chk g wc we Q r ys' σ' S')/\g x σ S NoX fun σ2 S2=>wc σ2 S2 NoX fun b S3=>if b=true then we σ2 S3 NoX (fun y S4=>N (ys++[y]) σ2 S4)else N ys σ2 S3
def q3v:WT:=fun _ S _ Q=>Q true S
def q6p(wi:WI)(ix:List (Option Nat))(g:WG)(wc:WT)(we:WE):WE:=fun σ S E Q=>wi σ S E fun it S1=>it.xs.length<=Q0k/\q8i it.chk g wc we Q it.xs [] (q4g ix σ) S1
theorem z2k{K:Q1n}{H:Hp}{φ:List Q0i}{σ:Loc}{σV:St}(ix:List (Option Nat))(L:LRel K G H φ σ σV):LRel K NoG H φ (q4g ix σ) (q0t ix σV):=by
 refine⟨by simp[q4g,q0t],fun i v e=>?_,fun _ _ _ _ q=>q.elim⟩
 unfold q4g at e
 rw[Q2i]at e
 obtain⟨o,ho,e'⟩:=Q2j.mp e
 cases o with
 |none=>cases e'
 |some j=>
  dsimp only at e'
  cases hj:σ[j]? with
  |none=>rw[hj]at e';cases e'
  |some w=>
   rw[hj]at e'
   dsimp only at e'
   subst e'
   obtain⟨x,hx,r⟩:=L.at' j v hj
   refine⟨x,?_,r⟩
   unfold q0t
   rw[Q2i,ho]
   simp[hx]
end
end Ev
namespace Ev
open PySem L2 PySem.Spec PyProof.Rows
section
variable{X:Cx}{G:GX}{pos:Pos}
end
abbrev Den:=List PV->q0a->EK->VC->Prop
def ClsP(K:Q1n)(H:Hp)(v:PV)(cls:Q0a)(dx:Option Q0i):Prop:=∃c C,v=.exc c/\cls=.ref C/\Q0v K Q0r (Q0g c.1)=some (some (.ref C))/\q9v H dx c.2
def xkOf(K:Q1n)(f:PV->Hp->Prop):XK:=fun cls dx H'=>∃v,ClsP K H' v cls dx/\f v H'
def KX(K:Q1n)(φ:List Q0i)(H:Hp)(E0:EK)(f:PV->Hp->Prop):Prop:=∀v S' φ' H',E0 v S'->φ <+: φ'->Mono H H'->Rel K φ' S' H'->f v H'
def q0s(K:Q1n)(sp:Den):Sp:=fun vs H Q E=>∃φ args S Q0 E0 f,RVs K H φ args vs/\Rel K φ S H/\sp args S E0 Q0/\KE K φ H Q0 Q/\KX K φ H E0 f/\∀cls d H',xkOf K f cls d H'->E cls d H'
def q1f(sp:Den)(wa:WA):WE:=fun σ S E Q=>wa σ S E fun xs S1=>sp xs S1 E Q
theorem z4d{X:Cx}{G:GX}{pos:Pos}{k:Nat}{f:Q0i}{fd:Q1u}{ps:List Str}{sp:Den}{x:Str}{p:Pos}{e:Expr}{es:List Expr}{wa:WA}(C:Cal X.prog X.w X.K X.mg X.base k x ps (q0s X.K sp) f fd)(hr:Room k X.A)(hx:q1m (CXE X.prog X.w) X (xkOf X.K G.xh))(ha:SimA X G (e::es) wa)(hg:Gl X x:=by rfl)
  (hdb:(x==("__debug__" : Str))=false:=by decide) (he:Q0t (e::es) X.env=(false,eval e X.env)::Q0t es X.env:=by rfl) (hpl:(backTo pos (Q0t es X.env)).any (·.1)=false:=by rfl) :
  SimE X G (.Call (.Name x p) (e::es) [] pos) (q1f sp wa):=
 (z7y C.G hr hg C.m C.kp C.b .nil hx ha hdb he hpl).imp fun σV H Q hh1=>by obtain⟨φ,σ,S,Q0,L,R,h,k⟩:=hh1;exact(⟨φ,σ,S,_,L,R,h,fun v S1 φ1 H1 x q p1 m1 R1 r1=>
  ⟨φ1,v,S1,Q0,G.ek,G.xh,by rw [Q2c];exact r1,R1,q,k.up p1 m1,(L.mono m1 p1).kx,fun _ _ _ z=>z⟩⟩)
def fnP(np nl:Nat)(w:WS):Den:=fun args S E Q=>args.length=np/\w {nx:=fun _ S'=>Q .non S',rt:=Q} E (args.map some++Q1d (nl-np) none) S
theorem z0i{K:Q1n}{G:GX}{H:Hp}{φ:List Q0i}{args:List PV}{vs:List V}(N:List Str)(r:RVs K H φ args vs)(kx:KX K φ H G.ek G.xh):LRel K G H φ (args.map some++Q1d (N.length-args.length) none) (L2.q2z N vs):=by
 refine⟨by unfold L2.q2z;simp[r.length],fun i v e=>?_,kx⟩
 by_cases hi:i<args.length
 ·rw[Q0x (by simpa using hi),Q2i]at e
  obtain⟨u,hu,e'⟩:=Q2j.mp e
  cases e'
  obtain⟨x,hx,rx⟩:=r.get hu
  refine⟨x,?_,rx⟩
  unfold L2.q2z
  rw[Q0x (by simpa[<-r.length]using hi),Q2i,hx]
  rfl
 ·rw[Q1e (by simpa using hi),Q7f]at e
  split at e<;>cases e
theorem y2l{P:Q0l}{w:Q1a}{K:Q1n}{mg:Str->Option Q0a}{base:Q0z}{x qual:Str}{st:Q3t}{f:Q0i}{fd:Q1u}{N ps:List Str}{k:Nat}{wb:WS}(F:Fun K x qual st f fd)(Sc:FnScope N ps (q0e st))
  (sim:∀(cdv:Q0a)(A:Q0w)(outer:List Env)(s:Q0b)(H:Hp)(E:XK)(G:GX),RoomW k (A.deeper (envOfC qual (q0e st) s.heap.objs.size f cdv))->q1m (CXE P w) (cxOf (CXE P w) P w K mg base N qual (q0e st) f cdv A outer s H E) (xkOf K G.xh)->
   q3u (cxOf (CXE P w) P w K mg base N qual (q0e st) f cdv A outer s H E) G (q0u st) wb) :
  FnOk P w K mg base (CXE P w) (k+1) f fd ps (q0s K (fnP ps.length N.length wb)):=by
 refine F.okX Sc (fun vs H Q E h=>?_) (fun cdv A outer s H vs Q E hr h=>?_)
 ·obtain⟨φ,args,S,Q0,E0,g,r,_,⟨h,_⟩,_⟩:=h
  rw[<-r.length,h]
 ·obtain⟨φ,args,S,Q0,E0,g,r,R,⟨hl,h⟩,kk,kx,hE⟩:=h
  refine⟨_,sim cdv A outer s H E ⟨E0,g⟩ hr (y3p.imp hE),φ,_,S,{nx:=fun _ S'=>Q0 .non S',rt:=Q0},?_,R,h,⟨fun σ' S' φ' H' σV' q p m R' L'=>kk _ S' φ' H' _ q p m R' rfl,kk,fun _ _ _ _ _ q=>q.elim,fun _ _ _ _ _ q=>q.elim⟩⟩
  have:=z0i (G:=⟨E0,g⟩) N r kx
  rw[hl]at this
  exact this
theorem q5w{P:Q0l}{w:Q1a}{K:Q1n}{mg:Str->Option Q0a}{base:Q0z}{k:Nat}{f:Q0i}{fd:Q1u}{ps:List Str}:FnOk P w K mg base (CXE P w) k f fd ps (q0s K fun _ _ _ _=>False):=
 ⟨fun vs H Q E hh1=>by obtain⟨_,_,_,_,_,_,_,_,h,_⟩:=hh1;exact(h.elim),fun A outer s H args us vs Q E _ _ _ _ hh2=>by obtain⟨_,_,_,_,_,_,_,_,h,_⟩:=hh2;exact(h.elim)⟩
def LawP(sp:Den):Prop:=∀ns:List Int,ns.length<=63->sp [.frl (ns.map .int)] [] NoX fun v _=>v=.bl true
theorem y1u{K:Q1n}{sp:Den}(h:LawP sp):∀(H:Hp)(a:Q0i)(ns:List Int),ns.length<=63->Only H->SqL K H a (ns.map V.int)->q0s K sp [.ref a] H (fun v _=>v=.bl true) fun _ _ _=>False:=by
 intro H a ns hl hO hS
 refine⟨[],[.frl (ns.map .int)],[],_,NoX,fun _ _=>False,⟨_,_,rfl,⟨a,_,rfl,?_,RVs.of_ints ns⟩,rfl⟩,⟨rfl,by simp,fun n a o e=>by simp at e⟩,h ns hl,fun v S' φ' H' x q p m R r=>?_,fun _ _ _ _ q=>q.elim,fun _ _ _ hh1=>by obtain⟨_,_,q⟩:=hh1;exact(q)⟩
 ·rcases hS with hS|hS
  ·rcases hS with z|⟨o,z⟩
   ·rcases hO a with w|⟨o,xs,w⟩
    ·rw[z]at w;cases w
    ·rw[z]at w;cases w
   ·exact .inl ⟨o,z⟩
  ·exact .inr hS
 ·subst q
  exact r
end Ev
namespace L2
open PySem PySem.Spec PyProof.Rows
section
variable{prog:Q0l}{w:Q1a}{A:Q0w}{E:Q0a->Q0b->Prop}{s:Q0b}
end
end L2
namespace Ev
open PySem L2
section
variable{X:Cx}{G:GX}{pos:Pos}
end
section
variable{X:Cx}{G:GX}{pos:Pos}
theorem q4a{K:Q1n}{w:WI}(σ:St)(H:Hp)(R R':It->Hp->Prop)(h:∀J H1,R J H1->R' J H1)(q:z5e K G w σ H R):z5e K G w σ H R':=by
 obtain⟨φ,σ,S,Q0,L,R,hw,k⟩:=q
 exact⟨φ,σ,S,Q0,L,R,hw,fun it S' φ' H' J q p m R hj=>h _ _ (k it S' φ' H' J q p m R hj)⟩
theorem q6b{tg iter elt c:Expr}{scope:Q3n}{wi:WI}{g:WG}{wc:WT}{we:WE}{ix:List (Option Nat)}{σV:St}{H:Hp}{Q:VK}(h:q3q X.K G (q6p wi ix g wc we) σV H Q):z0d (z5e X.K G wi) ix (z5f X.K NoG g) (q6w X.K NoG wc) (q3q X.K NoG we) σV H Q:=by
 obtain⟨φ,σ,S,Q0,L,R,h,k⟩:=h
 refine⟨φ,σ,S,_,L,R,h,fun it S1 φ1 H1 J hh1 p1 m1 R1 hj=>?_⟩
 obtain⟨hz,q⟩:=hh1
 refine⟨fun i ys σV' H'=>∃φ' σ' S' pys,φ1 <+: φ'/\Mono H1 H'/\LRel X.K NoG H' φ' σ' σV'/\Rel X.K φ' S' H'/\RVs X.K H' φ' pys ys/\q8i it.chk g wc we Q0 (it.xs.drop i) pys σ' S',it.xs.length,hz,⟨φ1,_,S1,[],Q0d _,.refl _,z2k ix (L.mono m1 p1),R1,rfl,by simpa using q⟩,?_⟩
 rintro i ys σV' H' hi ⟨φ',σ',S',pys,p',m',L',R',rys,hf⟩
 by_cases hlt:i<it.xs.length
 ·rw[Q3e hlt]at hf
  obtain⟨hch,N,hN,hb⟩:=hf
  obtain⟨jg,jy⟩:=hj.go φ' H' S' p' m' R' hch i _ (Q0h hlt)
  refine .inr ⟨hlt,jg,fun y H2 hy=>?_⟩
  obtain⟨φ2,p2,m2,R2,r2⟩:=jy y H2 hy
  refine⟨φ2,_,σ',S',_,L'.mono m2 p2,R2,r2,hb,fun σ3 S3 φ3 H3 σ3V q3 p3 m3 R3 L3=>?_⟩
  refine⟨φ3,σ3,S3,_,L3,R3,q3,fun b S4 φ4 H4 q4 p4 m4 R4=>?_⟩
  cases b with
  |true=>
   have hw:we σ3 S4 NoX (fun y S4=>N (pys++[y]) σ3 S4):=q4
   refine⟨φ4,σ3,S4,_,L3.mono m4 p4,R4,hw,fun z S5 φ5 H5 z' q5 p5 m5 R5 r5=>?_⟩
   exact⟨φ5,σ3,S5,pys++[z],(((p'.trans p2).trans p3).trans p4).trans p5,(((m'.trans m2).trans m3).trans m4).trans m5,(L3.mono m4 p4).mono m5 p5,R5,(RVs.mono (((m2.trans m3).trans m4).trans m5) (((p2.trans p3).trans p4).trans p5) _ _ rys).append (.one r5),hN _ _ _ q5⟩
  |false=>exact⟨φ4,σ3,S4,pys,((p'.trans p2).trans p3).trans p4,((m'.trans m2).trans m3).trans m4,L3.mono m4 p4,R4,RVs.mono ((m2.trans m3).trans m4) ((p2.trans p3).trans p4) _ _ rys,hN _ _ _ q4⟩
 ·have e:i=it.xs.length:=by omega
  subst e
  rw[Q9h]at hf
  exact .inl ⟨hj.stop φ' H' S' p' m' R' hf.1 _ (Q0m _),(k.up (p1.trans p') (m1.trans m')).lst hf.2 R' rys⟩
theorem z0c{K:Q1n}(σ:St)(H:Hp)(Q:Bool->Hp->Prop)(h:q6w K NoG q3v σ H Q):Q true H:=by
 obtain⟨φ,σ,S,Q0,L,R,h,k⟩:=h
 exact k true S φ H h (Q0d _) (.refl _) R
theorem z4c{tg iter elt:Expr}{scope:Q3n}{wi:WI}{g:WG}{we:WE}(N':List Str)(ix:List (Option Nat))(hc:X.calm=true)(co:CompOk X scope N' ix)(hi:SimI X G tg iter wi)(hg:∀cl C s H fp,SimG (X.comp scope N' cl C s H fp) NoG tg g)(he:∀cl C s H fp,SimE (X.comp scope N' cl C s H fp) NoG elt we)
  (hs:∀x,foldedSetIterable iter X.env x=pure x:=by intro _;rfl):SimE X G (.ListComp elt [⟨tg,iter,[],0⟩] scope pos) (q6p wi ix g q3v we):=
 (q7u (g:=z5f X.K NoG g) (tc:=q6w X.K NoG q3v) (te:=q3q X.K NoG we) hc co hi q4a hg (fun _ _ _ _ _=>z7o z0c) he hs).imp fun σV H Q h=>q6b (tg:=tg) (iter:=iter) (elt:=elt) (c:=elt) (scope:=scope) h
theorem q8v{tg iter elt c:Expr}{scope:Q3n}{wi:WI}{g:WG}{wc:WT}{we:WE}(N':List Str)(ix:List (Option Nat))(hc:X.calm=true)(co:CompOk X scope N' ix)(hi:SimI X G tg iter wi)(hg:∀cl C s H fp,SimG (X.comp scope N' cl C s H fp) NoG tg g)(ht:∀cl C s H fp,SimT (X.comp scope N' cl C s H fp) NoG c wc)(he:∀cl C s H fp,SimE (X.comp scope N' cl C s H fp) NoG elt we)
  (hs:∀x,foldedSetIterable iter X.env x=pure x:=by intro _;rfl):SimE X G (.ListComp elt [⟨tg,iter,[c],0⟩] scope pos) (q6p wi ix g wc we):=
 (q7u (g:=z5f X.K NoG g) (tc:=q6w X.K NoG wc) (te:=q3q X.K NoG we) hc co hi q4a hg (fun cl C s H fp=>z7n (ht cl C s H fp)) he hs).imp fun σV H Q h=>q6b (tg:=tg) (iter:=iter) (elt:=elt) (c:=c) (scope:=scope) h
end
end Ev
namespace My
open PySem L2 Ev
def Ex(D:List Nat)(S S':q0a):Prop:=S.length<=S'.length/\∀i,i<S.length->i∉D->S'[i]?=S[i]?
theorem Ex.refl(D:List Nat)(S:q0a):Ex D S S:=⟨Q0m _,fun _ _ _=>rfl⟩
theorem Ex.trans{D:List Nat}{S S1 S2:q0a}(a:Ex D S S1)(b:Ex D S1 S2):Ex D S S2:=⟨Q1t a.1 b.1,fun i h n=>(b.2 i (Q0o h a.1) n).trans (a.2 i h n)⟩
theorem Ex.app{D:List Nat}{S S':q0a}(a:Ex D S S')(xs:List SO):Ex D S (S'++xs):=⟨by rw[Q0s];exact Q1t a.1 (Nat.le_add_right _ _),fun i h n=>by rw[Q0x (Q0o h a.1)];exact a.2 i h n⟩
theorem Ex.set{D:List Nat}{S S':q0a}(a:Ex D S S'){i:Nat}{o:SO}(hi:i∈D\/S.length<=i):Ex D S (S'.set i o):=⟨by rw[Q9m];exact a.1,fun j h n=>by
 rw [Q1v]
 ·exact a.2 j h n
 ·rintro rfl
  rcases hi with z|z
  ·exact n z
  ·omega⟩
theorem Ex.get{D:List Nat}{S S':q0a}(a:Ex D S S'){i:Nat}{o:SO}(e:S[i]?=some o)(n:i∉D):S'[i]?=some o:=by
 rw[a.2 i (Q0j.mp e).1 n];exact e
theorem Ex.new(D:List Nat)(S:q0a)(xs:List SO):Ex D S (S++xs):=(Ex.refl D S).app xs
theorem q1d(S:q0a)(o:SO):(S++[o])[S.length]?=some o:=by simp
theorem q2f{S:q0a}{i:Nat}{o:SO}(e:S[i]?=some o)(xs:List SO):(S++xs)[i]?=some o:=by
 rw[Q0x (Q0j.mp e).1];exact e
theorem z6j{S:q0a}{i:Nat}{o:SO}(u:SO)(e:S[i]?=some o):(S.set i u)[i]?=some u:=Q1i (Q0j.mp e).1
theorem y4d{S:q0a}{i j:Nat}{o:SO}(u:SO)(e:S[i]?=some o)(h:j≠i):(S.set j u)[i]?=some o:=by rw[Q1v h];exact e
theorem z5d{S:q0a}{i:Nat}{o:SO}(e:S[i]?=some o):i<S.length:=(Q0j.mp e).1
theorem q3d{S:q0a}{n:Nat}{xs:List PV}(e:S[n]?=some (.lst xs)):q3o S n=some xs:=by unfold q3o;rw[e]
theorem q0y{S:q0a}{n:Nat}{xs:List PV}(e:S[n]?=some (.lst xs)):q1t S n=some xs:=by unfold q1t;rw[e]
theorem z7j(S:q0a)(xs:List PV):q1t (S++[.lst xs]) S.length=some xs:=q0y (q1d _ _)
theorem z8o(S:q0a)(xs:List PV):q3o (S++[.lst xs]) S.length=some xs:=q3d (q1d _ _)
theorem seqI{a b:WS}{D:PEnds}{E:EK}{σ:Ev.Loc}{S:q0a}(h:∀K:Ev.Loc->q0a->Prop,(∀σ S,b D E σ S->K σ S)->a {D with nx:=K} E σ S):wSeq a b D E σ S:=h _ fun _ _ z=>z
theorem forI{chk:q0a->Prop}{g:WG}{wb:WS}{D:PEnds}{E:EK}(P:List PV->Ev.Loc->q0a->Prop)(hn:∀σ S,P [] σ S->chk S/\D.nx σ S)
  (hc:∀x r σ S,P (x::r) σ S->∀N:Ev.Loc->q0a->Prop,(∀σ S,P r σ S->N σ S)->chk S/\g x σ S E fun σ2 S2=>wb {nx:=N,rt:=D.rt,ct:=N,bk:=D.nx} E σ2 S2):∀(xs:List PV)(σ:Ev.Loc)(S:q0a),P xs σ S->z5o chk g wb D E xs σ S
 |[],σ,S,h=>hn σ S h
 |x::r,σ,S,h=>⟨(hc x r σ S h (P r) fun _ _ z=>z).1,P r,fun σ' S' q=>forI P hn hc r σ' S' q,(hc x r σ S h (P r) fun _ _ z=>z).2⟩
theorem z9j{chk:q0a->Prop}{g:WG}{wc:WT}{we:WE}{Q:VC}(P:List PV->List PV->Ev.Loc->q0a->Prop)(hn:∀ys σ S,P [] ys σ S->chk S/\Q (.ref S.length) (S++[.lst ys]))
  (hc:∀x r ys σ S,P (x::r) ys σ S->∀N:List PV->Ev.Loc->q0a->Prop,(∀ys σ S,P r ys σ S->N ys σ S)->chk S/\g x σ S NoX fun σ2 S2=>wc σ2 S2 NoX fun b S3=>if b=true then we σ2 S3 NoX (fun y S4=>N (ys++[y]) σ2 S4)else N ys σ2 S3):∀(xs ys:List PV)(σ:Ev.Loc)(S:q0a),P xs ys σ S->q8i chk g wc we Q xs ys σ S
 |[],ys,σ,S,h=>hn ys σ S h
 |x::r,ys,σ,S,h=>⟨(hc x r ys σ S h (P r) fun _ _ _ z=>z).1,P r,fun ys' σ' S' q=>z9j P hn hc r ys' σ' S' q,(hc x r ys σ S h (P r) fun _ _ _ z=>z).2⟩
theorem z5k:("tuple" ∈q1b)=True:=by simp[q1b]
theorem y1z:("str" ∈q1b)=True:=by simp[q1b]
theorem y2a:("int" ∈q1b)=True:=by simp[q1b]
theorem z8s:("bool" ∈q1b)=True:=by simp[q1b]
theorem q2j:isT "NoneType" "list" = false:=rfl
theorem q2e:isT "NoneType" "tuple" = false:=rfl
theorem q3k:isT "NoneType" "str" = false:=rfl
theorem q3l:isT "NoneType" "int" = false:=rfl
theorem q2k:isT "NoneType" "bool" = false:=rfl
theorem q5s:isT "bool" "list" = false:=rfl
theorem q4v:isT "bool" "tuple" = false:=rfl
theorem q7f:isT "bool" "str" = false:=rfl
theorem q7g:isT "bool" "int" = true:=rfl
theorem q5t:isT "bool" "bool" = true:=rfl
theorem q7d:isT "int" "list" = false:=rfl
theorem q5r:isT "int" "tuple" = false:=rfl
theorem q9n:isT "int" "str" = false:=rfl
theorem q9o:isT "int" "int" = true:=rfl
theorem q7e:isT "int" "bool" = false:=rfl
theorem q6z:isT "str" "list" = false:=rfl
theorem q5o:isT "str" "tuple" = false:=rfl
theorem q9l:isT "str" "str" = true:=rfl
theorem q9m:isT "str" "int" = false:=rfl
theorem q7a:isT "str" "bool" = false:=rfl
theorem q4s:isT "tuple" "list" = false:=rfl
theorem q3r:isT "tuple" "tuple" = true:=rfl
theorem q5m:isT "tuple" "str" = false:=rfl
theorem q5n:isT "tuple" "int" = false:=rfl
theorem q4t:isT "tuple" "bool" = false:=rfl
theorem q5p:isT "list" "list" = true:=rfl
theorem q4u:isT "list" "tuple" = false:=rfl
theorem q7b:isT "list" "str" = false:=rfl
theorem q7c:isT "list" "int" = false:=rfl
theorem q5q:isT "list" "bool" = false:=rfl
theorem z8i:nrf .non=true:=rfl
theorem y1p(b:Bool):nrf (.bl b)=true:=rfl
theorem z8j(b:Int):nrf (.int b)=true:=rfl
theorem z8h(b:Str):nrf (.str b)=true:=rfl
theorem z6i(a b:Int):eqB (.int a) (.int b)=decide (a=b):=by simp only[eqB];exact Bool.beq_eq_decide_eq a b
theorem q8f(a b:Str):eqB (.str a) (.str b)=decide (a=b):=by
 simp only[eqB]
 by_cases h:a=b
 ·subst h;simp
 ·rw[decide_eq_false h];exact beq_eq_false_iff_ne.mpr h
theorem q9b(l:List Str):z1n (l.map PV.str):=by
 refine⟨?_,?_⟩
 ·induction l with
  |nil=>rfl
  |cons a r ih=>simp only[Q1c,nrfs,nrf,ih,Q9z]
 ·induction l with
  |nil=>simp[deps]
  |cons a r ih=>simp only[Q1c,deps,dep];omega
theorem z1m:z1n []=True:=by simp[z1n,nrfs,deps]
theorem y2w(a b:Int)(S:q0a)(Q:VC):cEq (.int a) (.int b) S Q=(Q (.bl (decide (a=b))) S):=by simp only[cEq,cEqG,nrf,z6i,q6m,q6l,true_and,and_self]
theorem y2v(a b:Str)(S:q0a)(Q:VC):cEq (.str a) (.str b) S Q=(Q (.bl (decide (a=b))) S):=by simp only[cEq,cEqG,nrf,q8f,q6m,q6l,true_and,and_self]
theorem y2u(a b:Str)(S:q0a)(Q:VC):cNe (.str a) (.str b) S Q=(Q (.bl (!decide (a=b))) S):=by simp only[cNe,cEqG,nrf,q8f,q6m,q6l,true_and,and_self]
theorem big{n:Nat}(h:n<=1000000):n<=Q0k:=Q1t h (by decide)
theorem bigl{n:Nat}(h:n<=1000000):n<Q0k:=Q9a h (by decide)
end My
namespace Ev
open PySem PySem.Spec PyProof.Rows L2
section
variable{X:Cx}{G:GX}{pos:Pos}
end
section
variable{X:Cx}{G:GX}{pos:Pos}
end
section
variable{X:Cx}{G:GX}{pos:Pos}
end
end Ev
namespace My
open PySem L2 Ev
theorem ix_t(xs:List PV)(i:Int)(S:q0a)(Q:VC):bIx (.tup xs) (.int i) S Q=match atI xs i with
  |some v=>Q v S
  |none=>False:=rfl
theorem ix_s(z:Str)(i:Int)(S:q0a)(Q:VC):bIx (.str z) (.int i) S Q=(z.length<=Q0k/\match atI z.cps.toList i with
  |some c=>Q (.str ⟨#[c]⟩) S
  |none=>False):=rfl
theorem ix_f(xs:List PV)(i:Int)(S:q0a)(Q:VC):bIx (.frl xs) (.int i) S Q=match atI xs i with
  |some v=>Q v S
  |none=>False:=rfl
theorem ix_r(n:Nat)(y:PV)(S:q0a)(Q:VC):bIx (.ref n) y S Q=match S[n]? with
  |some (.lst xs)=>match y with
   |.int i=>match atI xs i with
    |some v=>Q v S
    |none=>False
   |_=>False
  |some (.dK kvs)=>match q9i y with
   |some k=>match valP kvs k with
    |some v=>Q v S
    |none=>False
   |none=>False
  |_=>False:=rfl
end My
namespace L2
open PySem PySem.Spec PyProof.Rows
def Cx.nx(X:Cx):Cx:={X with xe:=fun _ _=>False}
def Cx.hd(X:Cx)(e:Q0i):Cx:={X with A:=X.A.mark (some (.ref e)),calm:=false,xe:=fun _ _=>False}
section
variable{X:Cx}{pins:List (Q0i×Obj)}{σ:St}{H H':Hp}{s:Q0b}
theorem Inv.nx(I:Inv X pins σ H s):Inv X.nx pins σ H s:=
 ⟨⟨I.ok.mod,I.ok.kind,I.ok.glob,I.ok.blt,I.ok.above,I.ok.inj,I.ok.has,I.ok.cab,I.ok.hd,I.ok.frames,I.ok.stk,I.ok.exf,I.ok.bs,I.ok.bsz,I.ok.noex,I.ok.exfs,I.ok.funs,I.ok.frf⟩,I.os,I.bare,I.base,I.loc,I.cell,I.free,I.freeC,I.pin,I.hok,I.len⟩
theorem Inv.ofnx(o:X.Ok)(I:Inv X.nx pins σ H s):Inv X pins σ H s:=⟨o,I.os,I.bare,I.base,I.loc,I.cell,I.free,I.freeC,I.pin,I.hok,I.len⟩
theorem Inv.hd{e:Q0i}(I:Inv X pins σ H s):Inv (X.hd e) pins σ H s:=
 ⟨⟨I.ok.mod,I.ok.kind,I.ok.glob,I.ok.blt,I.ok.above,I.ok.inj,I.ok.has,I.ok.cab,fun z=>(Q3o z).elim,I.ok.frames,I.ok.stk,I.ok.exf,I.ok.bs,I.ok.bsz,I.ok.noex,I.ok.exfs,I.ok.funs,I.ok.frf⟩,I.os,I.bare,I.base,I.loc,I.cell,I.free,I.freeC,I.pin,I.hok,I.len⟩
theorem Inv.ofhd{e:Q0i}(o:X.Ok)(I:Inv (X.hd e) pins σ H s):Inv X pins σ H s:=⟨o,I.os,I.bare,I.base,I.loc,I.cell,I.free,I.freeC,I.pin,I.hok,I.len⟩
end
def EXE(X:Cx)(pins:List (Q0i×Obj))(σ:St)(E:XK):Q0a->Q0b->Prop:=fun e s'=>∃H1 s1,Inv X pins σ H1 s1/\CXE X.prog X.w X.stack H1 s1 E e s'
abbrev TEX:=St->Hp->VK->XK->Prop
def PEX(X:Cx)(e:Expr)(t:TEX):Prop:=
 ∀(pins:List (Q0i×Obj))(s:Q0b)(σ:St)(H:Hp)(Q:VK)(E:XK),Inv X pins σ H s->t σ H Q E->Q0y (model X.prog X.w) X.A (eval e X.env) (EP X pins σ Q) (EXE X pins σ E) s
abbrev XC:=Q0a->Option Q0i->St->Hp->Prop
abbrev TSX:=Ends->XC->St->Hp->Prop
def XEnd(X:Cx)(pins:List (Q0i×Obj))(E:XC):Q0a->Q0b->Prop:=fun e s'=>∃σ,EXE X pins σ (fun cls d H'=>E cls d σ H') e s'
def PSX(X:Cx)(st:Q3t)(t:TSX):Prop:=
 ∀(pins:List (Q0i×Obj))(s:Q0b)(σ:St)(H:Hp)(D:Ends)(E:XC),Inv X pins σ H s->t D E σ H->Q0y (model X.prog X.w) X.A (exec st X.env) (SP X pins D) (XEnd X pins E) s
def PSXs(X:Cx)(st:List Q3t)(t:TSX):Prop:=
 ∀(pins:List (Q0i×Obj))(s:Q0b)(σ:St)(H:Hp)(D:Ends)(E:XC),Inv X pins σ H s->t D E σ H->Q0y (model X.prog X.w) X.A (execs st X.env) (SP X pins D) (XEnd X pins E) s
section
variable{X:Cx}{k:Nat}{f:Q0i}{fd:Q1u}{ps:List Str}{sp:Sp}{dvs:List V}{ds:List Q0a}{x:Str}{p pos:Pos}{e:Expr}{es:List Expr}{t:TA}
theorem z7k{pins:List (Q0i×Obj)}{σ:St}{H:Hp}{s:Q0b}{Q:VK}{E:XK}{us:List Q0a}{vs:List V}(F:FnOk X.prog X.w X.K X.mg X.base (CXE X.prog X.w) k f fd ps sp)(hr:Room k X.A)(hb:q2l X.K fd ps ds)(hd:Vals dvs ds)
  (I:Inv X pins σ H s) (r:Vals vs us) (h:sp (vs++dvs) H Q E):Q0y (model X.prog X.w) X.A (call (.ref f) us) (EP X pins σ Q) (EXE X pins σ E) s:=by
 have r2:Vals (vs++dvs) (us++ds):=r.append hd
 have hl:(us++ds).length=ps.length:=by rw[<-r2.length];exact F.len _ _ _ _ h
 refine Q3w (Q5o (F.run X.A X.stack s H ⟨us,[]⟩ (us++ds) (vs++dvs) Q E hr I.env0 (hb s us I.kIn hl) r2 h) fun r s' hq=>?_)
 cases r with
 |error e=>exact⟨H,s,I,hq⟩
 |ok fl=>
  cases fl with
  |ret u=>exact I.after hq
  |next=>exact Q2g hq
  |brk=>exact Q2g hq
  |cont=>exact Q2g hq
theorem z4r(F:FnOk X.prog X.w X.K X.mg X.base (CXE X.prog X.w) k f fd ps sp)(hr:Room k X.A)(hg:Gl X x)(hm:X.mg x=some (.ref f))(hk:Q3c X.K (.ref f)=true)(hb:q2l X.K fd ps ds)(hd:Vals dvs ds)
  (ha:PA X.nx (e::es) t) (hdb:(x==("__debug__" : Str))=false:=by decide) (he:Q0t (e::es) X.env=(false,eval e X.env)::Q0t es X.env:=by rfl) (hpl:(backTo pos (Q0t es X.env)).any (·.1)=false:=by rfl) :
  PEX X (.Call (.Name x p) (e::es) [] pos) (fun σ H Q E=>t σ H fun vs H1=>sp (vs++dvs) H1 Q E):=by
 intro pins s σ H Q E I h
 refine Q4k (q2d I hg hm ?_ hdb)
 refine Q7q (h₀:=X.base) I.ok.mod.kin hk (Q1o (ha pos pins s σ H _ I.nx h) (fun us s1 ⟨vs,H1,I1,r,q⟩=>⟨(I1.ofnx I.ok).kIn,?_⟩) fun _ _ z=>z.elim) he hpl
 exact z7k F hr hb hd (I1.ofnx I.ok) r q
end
section
variable{X:Cx}{e:Expr}{te:TEX}{pos:Pos}
theorem z4o(he:PEX X e te)(hs:swapsWith e none pos.line X.env=pure false:=by rfl):PSX X (.Expr e pos) (fun D E σ H=>te σ H (fun _ H1=>D.nx σ H1) fun cls d H'=>E cls d σ H'):=by
 intro pins s σ H D E I h
 exact Q7w (Q1o (he pins s σ H _ _ I h) (fun v s1 hh1=>by obtain⟨x,H1,I1,r1,q1⟩:=hh1;exact(⟨σ,H1,I1,q1⟩)) fun _ _ z=>⟨σ,z⟩) I.quiet hs
theorem z4n:PSXs X [] (fun D _ σ H=>D.nx σ H):=by
 intro pins s σ H D E I h
 exact Q4e ⟨σ,H,I,h⟩
theorem z0x{st:Q3t}{sts:List Q3t}{t u:TSX}(a:PSX X st t)(b:PSXs X sts u):PSXs X (st::sts) (fun D E σ H=>t {D with nx:=fun σ1 H1=>u D E σ1 H1} E σ H):=by
 intro pins s σ H D E I h
 refine Q7c (Q1o (a pins s σ H _ E I h) (fun f s1 q=>?_) fun _ _ z=>z)
 cases f with
 |next=>obtain⟨σ1,H1,I1,q1⟩:=q;exact b pins s1 σ1 H1 D E I1 q1
 |ret u=>exact q
 |brk=>exact q
 |cont=>exact q
end
section
variable{X:Cx}{pins:List (Q0i×Obj)}{σ:St}{H H':Hp}{s:Q0b}
theorem Inv.gone{i:Nat}{x:Str}{h':Q0z}{t':Nat}{m:Str->Option Q0a}{v:Option Q0a}(I:Inv X pins σ H s)(hN:X.N.Nodup)(hi:X.N[i]?=some x)(hm:s.heap.Ns X.env.locals m)(hn':h'.Ns X.env.locals (fun y=>if y=x then v else m y))(hs:Q0z.SameBut X.env.locals s.heap h') :
  Inv X pins (σ.set i none) H {s with heap:=h',toks:=t' }:=by
 obtain⟨m0,hn,hl⟩:=id I.loc
 have em:m0=m:=by rw[hn.eq_nsMap,hm.eq_nsMap]
 subst em
 have cne:=I.cne
 have tracked:HOk X.prog X.w H h':=fun b ob e=>by
  refine(I.hok b ob e).stay (fun c w' hc q=>(hs.2 c ?_).trans q) (fun _ q=>q) fun _ _ q=>q
  rintro rfl
  rcases hc with rfl|hc
  ·rw[I.free]at e;cases e
  ·rw[I.free]at hc;cases hc
 refine⟨I.ok,I.os,I.bare,⟨fun b o e n hb hx=>?_,fun b o e n hb hx=>?_,I.base.free,fun b o e hx=>?_,I.base.tups,I.base.frzs,I.base.tbls⟩,⟨_,hn',fun j y v' e1 e2 e3=>?_⟩,fun y c e=>?_,I.free,I.freeC,fun p hp=>?_,tracked,by simpa using I.len⟩
 ·exact(hs.2 b (Q1m (Q0o (Q0p e) I.ok.above))).trans (I.base.keep b o e n hb hx)
 ·obtain⟨sl,e1⟩:=I.base.slot b o e n hb hx
  exact⟨sl,(hs.2 b (Q1m (Q0o (Q0p e) I.ok.above))).trans e1⟩
 ·obtain⟨o',e1⟩:=I.base.there b o e hx
  exact⟨o',(hs.2 b (Q1m (Q0o (Q0p e) I.ok.above))).trans e1⟩
 ·have hj:j≠i:=by
   rintro rfl
   by_cases hlt:j<σ.length
   ·rw[Q1i hlt]at e2;cases e2
   ·rw[Q4x (by simpa using hlt)]at e2;cases e2
  rw[Q1v (Q3s hj)]at e2
  obtain⟨u',r',q⟩:=hl j y v' e1 e2 e3
  refine⟨u',r',?_⟩
  rcases q with⟨k,e⟩|⟨k,c,e,z⟩
  ·refine .inl ⟨k,?_⟩
   have:y≠x:=fun e=>hj (q4p hN e1 (e▸hi))
   simp[this,e]
  ·exact .inr ⟨k,c,e,z.sameBut hs (cne y c e)⟩
 ·obtain⟨w',z⟩:=I.cell y c e
  exact⟨w',z.sameBut hs (cne y c e)⟩
 ·obtain⟨e,n,ne,nf,d⟩:=I.pin p hp
  exact⟨(hs.2 p.1 ne).trans e,n,ne,nf,d⟩
theorem Inv.news{b:Q0i}(I:Inv X pins σ H s)(n:s.heap.get? b=none):(b∈X.ex\/X.s₀.heap.get? b=none)/\b≠X.env.locals/\(∀x c,X.env.cells.lookup x=some c->c≠b)/\∀p∈X.pn++pins,p.1≠b:=by
 refine⟨?_,?_,fun x c e z=>?_,fun p hp z=>?_⟩
 ·by_cases hb:b∈X.ex
  ·exact .inl hb
  ·refine .inr ?_
   cases q:X.s₀.heap.get? b with
   |none=>rfl
   |some o=>
    obtain⟨o',e1⟩:=I.base.there b o q hb
    rw[n]at e1;cases e1
 ·rintro rfl
  obtain⟨m,⟨o,_,_,ho,_⟩,_⟩:=I.loc
  rw[n]at ho;cases ho
 ·subst z
  obtain⟨v,o,ho,_⟩:=I.cell x c e
  rw[n]at ho;cases ho
 ·subst z
  obtain⟨e,_⟩:=I.pin p hp
  rw[n]at e;cases e
theorem z4z{h h':Q0z}{L:Q0i}{m:Str->Option Q0a}(hn:h.Ns L m)(k:∀o,h.get? L=some o->∃sl,h'.get? L=some {o with slots:=sl}):h'.Ns L m:=by
 obtain⟨o,es,ep,ho,r⟩:=hn
 obtain⟨sl,e⟩:=k o ho
 exact⟨_,es,ep,e,r⟩
theorem Inv.past{h':Q0z}{own:List Q0i}(I:Inv X pins σ H s)(hst:X.stack=X.env::X.outer)(hf:X.env.frame=some X.env.locals)(nw:∀b∈own,((b∈X.ex\/X.s₀.heap.get? b=none)/\b≠X.env.locals/\(∀x c,X.env.cells.lookup x=some c->c≠b)/\∀p∈X.pn++pins,p.1≠b)/\H b=none)
  (p:Past (frs X.stack) own s.heap h'):Inv X pins σ H {s with heap:=h' }:=by
 have efs:frs X.stack=X.env.locals::X.fs:=by rw[hst];show frs (X.env::X.outer)=_;unfold frs;rw[Q3y,hf];rfl
 refine I.stepX (ch:=own) (g':=s.gens) (d':=s.drawn) (t':=s.toks) (fun b hb=>(nw b hb).1) (fun b o n1 n2 n3 e _=>?_) (fun b o n1 n2 n3 e _=>?_) (fun b o _ _ z=>z) (fun b o _ e=>p.there b o e) (fun b xs z=>z) (fun b o u z=>z) (fun b ps z=>⟨#[],by rw[Q8h];exact z⟩) (fun m hn=>?_) (HOk.past I.hok p I.stkFree fun b hb=>(nw b hb).2) I.bare
 ·exact p.keep b o e n3 (by rw[efs];exact fun z=>(Q1h.mp z).elim n1 n2)
 ·exact p.slot b o e n3 (by rw[efs];exact Q1b _ n2)
 ·refine z4z hn fun o ho=>p.slot _ o ho (fun z=>(nw _ z).1.2.1 rfl) (by rw[efs];exact Q2p)
theorem Inv.trackX{a:Q0i}{φ:Q0z->Prop}(I:Inv X pins σ H s)(nw:(a∈X.ex\/X.s₀.heap.get? a=none)/\a≠X.env.locals/\(∀x c,X.env.cells.lookup x=some c->c≠a)/\∀p∈X.pn++pins,p.1≠a)(na:H a=none)(x:q0j X.prog X.w (upd H a (.ext φ)) s.heap a (.ext φ)):Inv X pins σ (upd H a (.ext φ)) s:=by
 have up:∀b u,H b=some u->upd H a (.ext φ) b=some u:=fun b u z=>by
  rw[q0b (fun w=>by subst w;rw[na]at z;cases z)];exact z
 refine I.stepX (ch:=[a]) (h':=s.heap) (g':=s.gens) (d':=s.drawn) (t':=s.toks) (fun b hb=>by simp only[Q1l]at hb;subst hb;exact nw) (fun b o n1 n2 n3 e _=>e) (fun b o n1 n2 n3 e _=>⟨o.slots,e⟩) (fun b o n _ z=>by rw[q0b (by simpa using n)];exact z) (fun b o _ e=>⟨o,e⟩) (fun b xs z=>up b _ z) (fun b o u z=>up b _ z) (fun b ps z=>⟨#[],by rw[Q8h];exact up b _ z⟩) (fun m hn=>hn) (fun b u e=>?_) I.bare
 by_cases hb:b=a
 ·subst hb
  rw[q0d]at e;cases e
  exact x
 ·rw[q0b hb]at e
  exact(I.hok b u e).stay (fun _ _ _ q=>q) (fun c q=>up c _ q) fun c xs q=>up c _ q
end
def y4b(i:Nat)(D:Ends):Ends:={nx:=fun σ H=>D.nx (σ.set i none) H,rt:=D.rt,bk:=fun σ H=>D.bk (σ.set i none) H,ct:=fun σ H=>D.ct (σ.set i none) H}
def q2g(a:Q0i)(cls:Q0a)(dx:Option Q0i)(h:Q0z):Prop:=∃o vs,h.get? a=some o/\o.cls=cls/\o.dict=dx/\o.data=.fields vs
theorem q2g.ok{P:Q0l}{w:Q1a}{H:Hp}{a T:Q0i}{cls:Q0a}{dx:Option Q0i}{h:Q0z}(F:Fly a cls dx [T] h):q0j P w H h a (.ext (q2g a cls dx)):=by
 obtain⟨oe,vs,hd,he,hc,hdd,hdt,h1,hh⟩:=F.is
 refine⟨⟨oe,vs,he,hc,hdd,hdt⟩,⟨oe,he⟩,fun h1 h2 hh1 k=>by obtain⟨o,vs,q,c,d⟩:=hh1;exact(⟨o,vs,k o q,c,d⟩)⟩
section
variable{X:Cx}{i:Nat}{y n:Str}{yp hpos pos:Pos}{cv:Q0a}{body suite:List Q3t}{b₀:Q3t}{tb:TSX}{ts:TS}
theorem y2t{pins:List (Q0i×Obj)}{E:XC}{e:Q0a}{s':Q0b}{Q:Flow->Q0b->Prop}{hs:List ExceptHandler}(hst:X.stack=X.env::X.outer)(hf:X.env.frame=some X.env.locals)(h:XEnd X pins E e s')
  (go:∀a T cls dx σ H h',e=.ref a->Inv X pins σ H {s' with heap:=h' }->Fly a cls dx [T] h'->(∀b∈[a,T],((b∈X.ex\/X.s₀.heap.get? b=none)/\b≠X.env.locals/\(∀x c,X.env.cells.lookup x=some c->c≠b)/\∀p∈X.pn++pins,p.1≠b)/\H b=none)->E cls dx σ H->Q0y (model X.prog X.w) X.A (handleBy (.ref a) X.env hs) Q X.xe {s' with heap:=h' }) :
  Q0y (model X.prog X.w) X.A (noteFrame e X.env) (fun _ s₂=>Q0y (model X.prog X.w) X.A (setFlight e none) (fun _ s₃=>Q0y (model X.prog X.w) X.A (handleBy e X.env hs) Q X.xe s₃) X.xe s₂) X.xe s':=by
 obtain⟨σ,H1,s1,I1,a,cls,dx,own,H2,rfl,os,bare,un,hok,F,new,q⟩:=h
 have I2:Inv X pins σ H2 s':=I1.call' os un hok bare (fun b z=>absurd z (by simp))
 refine q7y (base:=X.base) (outer:=X.outer) (by rw[I2.ok.frames,hst]) (by have:=I2.stack;rw[hst]at this;exact this) hf F fun h' T nT P' F'=>?_
 have nw:∀b∈a::own,((b∈X.ex\/X.s₀.heap.get? b=none)/\b≠X.env.locals/\(∀x c,X.env.cells.lookup x=some c->c≠b)/\∀p∈X.pn++pins,p.1≠b)/\H2 b=none:=fun b hb=>⟨I1.news (new b hb).1,(new b hb).2⟩
 refine go a T cls dx σ H2 h' rfl (I2.past hst hf nw (by rw[hst];exact P')) F' (fun b hb=>?_) q
 simp only[Q1h,Q4q,or_false]at hb
 rcases hb with rfl|rfl
 ·exact nw b (by simp)
 ·exact⟨I2.news nT,HOk.none_of I2.hok nT⟩
theorem y0l(hst:X.stack=X.env::X.outer)(hf:X.env.frame=some X.env.locals)(hB:PSXs X body tb)(hg:Gl X y)(hm:X.mg y=some cv)(hN:X.N.Nodup)(hi:X.N[i]?=some n)(hl:X.env.scope.names.lookup n=some .local)(hS:∀a,PSs (X.hd a) (b₀::suite) ts)
  (hk:X.env.kindOf n=some .local) (hd:(y==("__debug__" : Str))=false:=by decide) :
  PS X (.Try body [.ExceptHandler (some (.Name y yp)) (some n) (b₀::suite) hpos] [] [] pos)
   (fun D σ H=>tb D (fun cls dx σ' H'=>Q4a X.K cls cv=some true/\∀a,H' a=none->ts (y4b i D) (σ'.set i (some (.ref a))) (upd H' a (.ext (q2g a cls dx)))) σ H):=by
 intro pins s σ H D I h
 have ok:=I.ok
 refine wpAny_Try_except (Q1o (hB pins s σ H _ _ I h) (fun f s1 q=>?_) fun e s1 q=>?_)
 ·cases f with
  |next=>exact Q4e q
  |ret u=>exact q
  |brk=>exact q
  |cont=>exact q
 ·refine y2t hst hf q fun a T cls dx σ1 H1 h1 _ I1 F1 nw hh1=>?_
  obtain⟨em,hq⟩:=hh1
  refine wpAny_handleBy_cons (codeAny_handlers_test ?_) (by intro z;cases z)
  refine q2d (X:=X.hd a) (I1.hd (e:=a)) hg hm ?_ hd
  obtain⟨oe,vs,hdv,he,hc,hdd,hdt,h1',hh⟩:=id F1.is
  subst hc
  have LT:Q5g (model X.prog X.w) h1 (typeOf (.ref a)) oe.cls:=by
   unfold typeOf
   exact(Q5g.ld he).andThen .now
  refine PySem.W.exm_one I1.kIn LT em _ _ _ _ (fun _ _ z=>z) ?_
  show codeAny _ _ _ _ _
  refine codeAny_handlers_suite_as ?_
  refine z5h (fs:=frs X.stack) F1 fun h2 P2 F2=>?_
  have I2:Inv X pins σ1 H1 {s1 with heap:=h2}:=I1.past (s:={s1 with heap:=h1}) (h':=h2) hst hf (own:=[T]) (fun b hb=>nw b (by simp only[Q1l]at hb;subst hb;simp)) P2
  have I3:=I2.trackX (φ:=q2g a oe.cls dx) (nw a (by simp)).1 (nw a (by simp)).2 (q2g.ok F2)
  refine q4k (X:=X.hd a) (v:=.ref a) (u:=.ref a) (I3.hd (e:=a)) hN hi (.inl hl) rfl (fun s3 I4=>?_) (.inr hl)
  refine Q1o (hS a pins s3 _ _ _ I4 (hq a (nw a (by simp)).2)) (fun f s4 q4=>?_) fun _ _ z=>z.elim
  show Q0y _ _ _ _ _ _
  have gone:∀σ' H',Inv (X.hd a) pins σ' H' s4->∀{Q:Flow->Q0b->Prop},(∀s5,Inv X pins (σ'.set i none) H' s5->Q f s5)->Q0y (model X.prog X.w) X.A (do bindName X.env n .none;unbindBehindTheSuite X.env n hpos) (fun _ s₃=>Q f s₃) X.xe s4:=fun σ' H' I5 Q k=>by
   have I6:Inv X pins σ' H' s4:=I5.ofhd ok
   obtain⟨m,hn,_⟩:=id I6.loc
   refine wpAny_nameGoes_keeps hk hn (by rw[ok.kind];rfl) fun h' v hn' hs=>k _ (I6.gone hN hi hn hn' hs)
  cases f with
  |next=>obtain⟨σ',H',I5,q5⟩:=q4;exact gone σ' H' I5 fun s5 I6=>⟨_,H',I6,q5⟩
  |brk=>obtain⟨σ',H',I5,q5⟩:=q4;exact gone σ' H' I5 fun s5 I6=>⟨_,H',I6,q5⟩
  |cont=>obtain⟨σ',H',I5,q5⟩:=q4;exact gone σ' H' I5 fun s5 I6=>⟨_,H',I6,q5⟩
  |ret u=>obtain⟨v,σ',H',I5,r,q5⟩:=q4;exact gone σ' H' I5 fun s5 I6=>⟨v,_,H',I6,r,q5⟩
end
end L2
namespace L2
open PySem PySem.Spec PySem.W PySem.Calls PyProof.Rows Builtin Builtin.ObjectAttr Builtin.Getset_descriptor
structure ExcK(K:Q1n)(D:Q0i):Prop where
 c:(clsIn K D).isSome=true
 ga:findIn K (.ref D) "__getattribute__" = some (some (.builtin "BaseException.__getattribute__"))
 nga:findIn K (.ref D) "__getattr__" = some none
 cl:findIn K (.ref D) "__class__" = some (some (.builtin "object.__class__"))
 gt:specialIn K (.builtin "object.__class__") "__get__" = some (some (.builtin "getset_descriptor.__get__"))
 tk:takesIn K (.builtin "object.__class__")=some true
 mo:mroIn K D (.type "object")=some true
 mb:mroIn K D (.type "BaseException")=some true
section
variable{K:Q1n}{D x:Q0i}{prog:Q0l}{w:Q1a}{A:Q0w}{E:Q0a->Q0b->Prop}{s:Q0b}
theorem z5p{M:Q9d}{h:Q0z}(X:K.In h)(e:ExcK K D):Q5g M h (find (.ref x) (.ref D) "__class__") (.bind (.builtin "getset_descriptor.__get__") (.builtin "object.__class__")):=by
 have L1:=Q4v (M:=M) X e.cl
 have L2:Q5g M h (getOf (some (.builtin "object.__class__"))) _:=looks_specialIn X e.gt
 have L3:=looks_takesIn (M:=M) X e.tk
 refine L1.andThen (L2.andThen ?_)
 exact(show Q5g M h (dataDescriptor? (some (.builtin "object.__class__")) (some (.builtin "getset_descriptor.__get__"))) (some (_,_))from L3.andThen .now).andThen (Q5g.tag .now)
theorem q4w{tp:Q0a}{R:Q9v->Q0b->Prop}(X:K.In s.heap)(L0:Q5g (model prog w) s.heap (typeOf (.ref x)) (.ref D))(hm:mroIn K D (.type "object")=some true)
  (h:R (.ok (.ret (.ref D))) s):codeAny (model prog w) A (.call (.builtin "getset_descriptor.__get__") ⟨[.builtin "object.__class__",.ref x,tp],[]⟩) R s:=by
 obtain⟨hh,g,dr,t,os⟩:=s
 have L1:=Q9q (M:=model prog w) X hm
 refine Q3m KF.slot_gs.plain KF.entry_gs (KF.slot_gs.check _ _ _ _ _ _ _ _ KF.type_class (KF.args_gs _ _ _) ?_)
 unfold Q1g.«getset_descriptor.__get__» descrGet
 rw[dga_obj]
 refine Q0c (Q0n ?_)
 unfold descrGetter descrCheckInstance descrNameAndClass isInstance
 simp only[KF.owner_class]
 repeat lk
 refine⟨Q5s _ (by decide +kernel),codeAny_builtin KF.entry_class ?_⟩
 unfold Q1g.«object.__class__» shownTypeOf
 repeat lk
 exact h
theorem q5y{nameV:Q0a}{Q:Unit->Q0b->Prop}{M:Q9d}(X:K.In s.heap)(L0:Q5g M s.heap (typeOf (.ref x)) (.ref D))(e:ExcK K D)(hq:Q () s):Q0y M A (checkBuiltinCall "BaseException.__getattribute__" ⟨[.ref x,nameV],[]⟩) Q E s:=by
 obtain⟨hh,g,dr,t,os⟩:=s
 have hk:builtinKind "BaseException.__getattribute__" = some .slot:=by decide +kernel
 have hsplit:splitId "BaseException.__getattribute__" = some ("BaseException", "__getattribute__"):=by decide +kernel
 have ha:=F.args_bexc_ga (.ref x) nameV
 have LI:Q5g M hh (isInstance (.ref x) (.type "BaseException")) true:=L0.andThen (Q9q X e.mb)
 simp only[checkBuiltinCall,hk,hsplit]
 refine Q0c ?_
 refine Q0c (L0.at ((Q9q X e.mb).at ?_))
 repeat (first|assumption|wp_step)
theorem z2r{tk:Tok}{Q:Fin->Q0b->Prop}(X:K.In s.heap)(L0:Q5g (model prog w) s.heap (typeOf (.ref x)) (.ref D))(e:ExcK K D)(hq:Q (.done (.ret (.ref D))) s) :
  Q0y (model prog w) A (Q1g.«object.__getattribute__» ⟨[.ref x,.str "__class__" tk],[]⟩) Q E s:=by
 obtain⟨hh,g,dr,t,os⟩:=s
 have LF:=z5p (M:=model prog w) (x:=x) X e
 unfold Q1g.«object.__getattribute__»
 refine Q0c (Q0n ?_)
 refine Q0c (Q0n ?_)
 refine Q0c (L0.at (Q0c (LF.at ?_)))
 show Q0y _ _ (bindTo _ _ _ _) _ _ _
 unfold bindTo
 show Q0y _ _ (holding [_] (call _ [_,_,_]) >>= ret) _ _ _
 exact Q0c (Q1y (Q3w (q4w (s:=⟨hh,g,dr,t,os⟩) X L0 e.mo (Q0n hq))))
theorem y2m{Q:Option Q0a->Q0b->Prop}(X:K.In s.heap)(L0:Q5g (model prog w) s.heap (typeOf (.ref x)) (.ref D))(e:ExcK K D)(hq:Q (some (.ref D)) {s with toks:=s.toks+1}):Q0y (model prog w) A (getAttr? (.ref x) "__class__") Q E s:=by
 obtain⟨hh,g,dr,t,os⟩:=s
 have FB:=Q8s
 have L1:=Q4v (M:=model prog w) X e.ga
 have L2:=Q4v (M:=model prog w) X e.nga
 unfold getAttr? getAttrBy? getAttrBy
 refine Q0c (Q9i (Q0c (Q8t (Q1y (Q0c (L0.at (Q0c (L1.at ?_))))))))
 show Q0y _ _ (getAttrByItsOwn _ _ _ _ _ _) _ _ _
 unfold getAttrByItsOwn
 refine Q0c ?_
 show Q0y _ _ (typeLookup _ _) _ _ _
 refine L2.at (Q0c (Q8t (Q1y ?_)))
 show Q0y _ _ (boundAndCalled _ _ _) _ _ _
 unfold boundAndCalled
 rw[FB.ga.bind (.ref x)]
 refine Q0c (Q0n ?_)
 refine Q3w (Q3m FB.ga.plain Z0i (q5y (s:=⟨hh,g,dr,t+1,os⟩) X L0 e (z2r (s:=⟨hh,g,dr,t+1,os⟩) X L0 e ?_)))
 exact handed_on rfl (Q0n hq)
theorem q8c(e:ExcK K D):KitX K (.ref x) (.ref D) (fun h=>∃o,h.get? x=some o/\o.cls=.ref D) where
 ty:=fun M h _ ⟨o,q,c⟩=>c▸(Q5g.ld q).andThen .now
 it:=fun _ _ X _=>by
  obtain⟨cdD,hcD⟩:=Q3g.mp e.c
  unfold clsIn at hcD
  split at hcD
  ·rename_i c' d' cd' sl' ho
   intro A' Q' E' s' k q
   unfold isType loadHead
   exact Q0c (wpAny_loadPart (k _ _ (X _ _ ho)) (Q0n q))
  ·cases hcD
 ne:=fun h tp dd its n sl X htp=>by
  obtain⟨cdD,hcD⟩:=Q3g.mp e.c
  refine Bool.eq_false_iff.mpr fun q=>?_
  have e:D=tp:=Q0a.ref.inj (beq_iff_eq.mp q)
  subst e
  unfold clsIn at hcD
  split at hcD
  ·rename_i c' d' cd' sl' ho
   have z:=(X _ _ ho).symm.trans htp
   cases z
  ·cases hcD
 ca:=fun X ⟨o,q,c⟩ k=>y2m X (c▸(Q5g.ld q).andThen .now) e k
end
end L2
namespace L2
open PySem PySem.Spec PyProof.Rows Builtin Builtin.ObjectAttr
section
variable{prog:Q0l}{w:Q1a}{A:Q0w}{E:Q0a->Q0b->Prop}{h:Q0z}{g:Array Q8j}{d:Drawn}{t:Nat}{os:OsState}
variable{nm q:Str}{C N:Q0i}{bs bm bmB:List Q0a}{hdct:Bool}{sn:List Str}{sub:List Q0a}{ab:Bool}{col:Option Bool}{dd:Option Q0i}{k0 k1 k2 k3 k5:Option Q0a}{B newId initId:String}
theorem q2w(F:Q9j B newId initId bmB)(T:Q6g h bmB bm){mN:Str->Option Q0a}{rest:List Q0a}{fI:Q0i}{oI:Obj}{Q:Fin->Q0b->Prop}
  (hC:h.get? C=some (excClassObj nm q C N bs bm hdct sn sub ab col dd k0 k1 k2 k3 k5 newId)) (hn:h.Ns N mN) (hi:mN "__init__" = some (.ref fI)) (hfI:h.get? fI=some oI) (hfc:oI.cls=.type "function")
  (hq:∀h' e,Q0z.MadeExcOf h h' e (.ref C) rest->Q0y (model prog w) A (call (.ref fI) (.ref e::rest)) (fun r s'=>r=.none/\Q (.done (.ret (.ref e))) s') E ⟨h',g,d,t,os⟩) (hrest:rest.length<=Q0k:=by size_fits) :
  Q0y (model prog w) A (Q1g.«type.__call__» ⟨.ref C::rest,[]⟩) Q E ⟨h,g,d,t,os⟩:=by
 repeat (first|with_reducible refine Q2m hC ?_|with_reducible refine wpAny_madeBy_exc hC ?_|wp_step)
 refine codeAny_call_builtin_code (Q5s _ F.quiet) (wpAny_check_new_subT F T hC ?_)
 refine codeAny_exc_new_subT F T hC ?_ hrest
 show Q0y _ _ _ _ _ _
 have hC₁:=Q0e {cls:=.ref C,data:=.fields #[.ref h.objs.size,.none,.none,.none,.bool false,.none]}
  (Q0e {cls:=.type "tuple",data:=.seq rest.toArray} hC)
 have hfI₁:=Q0e {cls:=.ref C,data:=.fields #[.ref h.objs.size,.none,.none,.none,.bool false,.none]}
  (Q0e {cls:=.type "tuple",data:=.seq rest.toArray} hfI)
 have hn₁:((h.push {cls:=.type "tuple",data:=.seq rest.toArray}).push {cls:=.ref C,data:=.fields #[.ref h.objs.size,.none,.none,.none,.bool false,.none]}).Ns N mN:=by
  obtain⟨o,es,ep,e,r⟩:=hn
  exact⟨o,es,ep,Q0e _ (Q0e _ e),r⟩
 have hget:((h.push {cls:=.type "tuple",data:=.seq rest.toArray}).push
   {cls:=.ref C,data:=.fields #[.ref h.objs.size,.none,.none,.none,.bool false,.none]}).get? (h.objs.size+1)=some
   {cls:=.ref C,data:=.fields #[.ref h.objs.size,.none,.none,.none,.bool false,.none]}:=by heap_get
 have hcC:(Q0a.ref C::bm).contains (.ref C)=true:=by simp
 have T₁:=T.keeps (h':=(h.push {cls:=.type "tuple",data:=.seq rest.toArray}).push {cls:=.ref C,data:=.fields #[.ref h.objs.size,.none,.none,.none,.bool false,.none]})
  fun b o e=>Q0e _ (Q0e _ e)
 unfold isInstance
 repeat (first|with_reducible refine Q2m hget ?_|(with_reducible refine Q6h hC₁ ?_;rw[hcC])|wp_step)
 show Q0y _ _ (typeLookup (.ref C) _) _ _ _
 refine wpAny_typeLookup_tail hC₁ hn₁ T₁ F.mroIs F.init.lookup ?_
 rw[hi]
 refine Q1y (Q0c ?_)
 unfold bindSpecial
 refine Q0c (wpAny_typeOf (T:= "function") ⟨_,hfI₁,hfc⟩ ?_)
 rw[if_pos (by decide)]
 refine Q0n (Q0c (Q1o (hq _ (h.objs.size+1) ⟨fun b o hb=>Q0e _ (Q0e _ hb),Q0z.get?_none_of_le (Nat.le_succ _),h.objs.size,hget,Q0z.get?_none_of_le (Q0m _),?_⟩) (fun r s' hr=>?_) fun _ _ x=>x))
 ·exact Q0e _ (Q0z.get?_push_at rfl rfl)
 ·obtain⟨rfl,hQ⟩:=hr
  wp_walk
  exact hQ
theorem q9t(F:Q9j B newId initId bmB)(T:Q6g h bmB bm){mN:Str->Option Q0a}{rest:List Q0a}{fI:Q0i}{oI:Obj}{Q:Q0a->Q0b->Prop}
  (hC:h.get? C=some (excClassObj nm q C N bs bm hdct sn sub ab col dd k0 k1 k2 k3 k5 newId)) (hn:h.Ns N mN) (hi:mN "__init__" = some (.ref fI)) (hfI:h.get? fI=some oI) (hfc:oI.cls=.type "function")
  (hq:∀h' e,Q0z.MadeExcOf h h' e (.ref C) rest->
   Q0y (model prog w) (A.under (.builtin "type.__call__" ⟨.ref C::rest,[]⟩)) (call (.ref fI) (.ref e::rest)) (fun r s'=>r=.none/\Q (.ref e) s') E ⟨h',g,d,t,os⟩) (hrest:rest.length<=Q0k:=by size_fits) :
  Q0y (model prog w) A (call (.ref C) rest) Q E ⟨h,g,d,t,os⟩:=by
 have f1:=tc_lookup
 have f2:=tc_bind (.ref C)
 have hT:(⟨h,g,d,t,os⟩:Q0b).TypeIs (.ref C) "type" :=⟨_,hC,rfl⟩
 refine Q3w (codeAny_of_tree ?_)
 show Q0y _ _ (callAny (.ref C) _) _ _ _
 repeat (any_goals (first|assumption|with_reducible refine Q2m hC ?_|wp_step))
 refine⟨rfl,?_⟩
 refine codeAny_call_builtin_at (Q5s _ (by decide +kernel)) entry_typeCall (wpAny_check_type_call_sub hC (q2w (hrest:=hrest) F T hC hn hi hfI hfc fun h' e hm=>?_))
 exact hq h' e hm
def q0g(a C:Q0i)(dx:Option Q0i):Q0z->Prop:=fun h=>∃t,h.get? a=some {cls:=.ref C,dict:=dx,data:=.fields #[.ref t,.none,.none,.none,.bool false,.none]}
theorem q2b{M:Q9d}{env:Env}{s:Q0b}{x:Sem Q0a}{Q:Flow->Q0b->Prop}(hbase:bm.contains (.type "BaseException")=true)(hh:A.handled=none)
  (h:Q0y M A x (fun v s₁=>∃e dx,v=.ref e/\s₁.heap.get? C=some (excClassObj nm q C N bs bm hdct sn sub ab col dd k0 k1 k2 k3 k5 newId)/\q0g e C dx s₁.heap/\E (.ref e) s₁) E s) :
  Q0y M A (raiseStmt env (some x) none) Q E s:=by
 have hcB:(Q0a.ref C::bm).contains (.type "BaseException")=true:=by rw[Q8u,hbase,Z0j]
 unfold raiseStmt
 refine Q0c (Q1o h (fun v s₁ h₁=>?_) fun _ _ x=>x)
 obtain⟨e,dx,rfl,hC,⟨t,he⟩,hE⟩:=h₁
 obtain⟨hp,g,d,tk,os⟩:=s₁
 repeat (first|with_reducible refine Q2m he ?_|with_reducible refine Q2m hC ?_|(with_reducible refine Q6h hC ?_;rw[hcB])|wp_step)
 exact wpAny_raiseNew_none hh hE
theorem q8x (F : Q9j B newId initId bmB) {s : Q0b} {env : Env} {mN : Str -> Option Q0a} {x : Str} {np cpos pos : Pos} {args : List Expr} {fI : Q0i} {oI : Obj} {Q : Flow -> Q0b -> Prop}
  (hbase : bm.contains (.type "BaseException") = true) (hh : A.handled = none) (hplain : (backTo cpos (Q0t args env)).any (·.1) = false) (hi : mN "__init__" = some (.ref fI)) (hfc : oI.cls = .type "function")
  (h : Q0y (model prog w) A (eval (.Name x np) env) (fun f s₁ => f = .ref C /\ Q0y (model prog w) A (evalArgs (.ref C) true (backTo cpos (Q0t args env)) [])
   (fun a s₂ => a.kw = [] /\ a.pos.length <= Q0k /\ s₂.heap.get? C = some (excClassObj nm q C N bs bm hdct sn sub ab col dd k0 k1 k2 k3 k5 newId) /\ s₂.heap.Ns N mN /\ Q6g s₂.heap bmB bm /\ s₂.heap.get? fI = some oI /\
    ∀ h' e, Q0z.MadeExcOf s₂.heap h' e (.ref C) a.pos -> Q0y (model prog w) (A.under (.builtin "type.__call__" ⟨.ref C :: a.pos, []⟩)) (call (.ref fI) (.ref e :: a.pos)) (fun r s' => r = .none /\ ∃ dx, s'.heap.get? C = some (excClassObj nm q C N bs bm hdct sn sub ab col dd k0 k1 k2 k3 k5 newId) /\ q0g e C dx s'.heap /\ E (.ref e) s') E { s₂ with heap := h' }) E s₁) E s) :
  Q0y (model prog w) A (exec (.Raise (some (.Call (.Name x np) args [] cpos)) none pos) env) Q E s := by
 rw [arm_exec_Raise]
 first
  | refine Q0c (Q2w (q2b (C := C) (nm := nm) (q := q) (N := N) (bs := bs) (bm := bm) (hdct := hdct) (sn := sn) (sub := sub) (ab := ab) (col := col) (dd := dd) (k0 := k0) (k1 := k1) (k2 := k2) (k3 := k3) (k5 := k5) (newId := newId) hbase hh (Q0c (Q1o (Q6v (Q1o h (fun f s₁ h₁ => ?_) fun _ _ x => x)) (fun v s₃ h₃ => Q0c (Q2w (Q0n h₃))) fun _ _ x => x))))
  | (simp only [evalOpt, Option.map]; refine Q0c (Q2w (q2b (C := C) (nm := nm) (q := q) (N := N) (bs := bs) (bm := bm) (hdct := hdct) (sn := sn) (sub := sub) (ab := ab) (col := col) (dd := dd) (k0 := k0) (k1 := k1) (k2 := k2) (k3 := k3) (k5 := k5) (newId := newId) hbase hh (Q0c (Q1o (Q6v (Q1o h (fun f s₁ h₁ => ?_) fun _ _ x => x)) (fun v s₃ h₃ => Q0c (Q2w (Q0n h₃))) fun _ _ x => x)))))
  | (refine Q0c (Q2w (q2b (C := C) (nm := nm) (q := q) (N := N) (bs := bs) (bm := bm) (hdct := hdct) (sn := sn) (sub := sub) (ab := ab) (col := col) (dd := dd) (k0 := k0) (k1 := k1) (k2 := k2) (k3 := k3) (k5 := k5) (newId := newId) hbase hh ?_)); refine Q0c (Q1o (Q6v (Q1o h (fun f s₁ h₁ => ?_) fun _ _ x => x)) (fun v s₃ h₃ => Q0c (Q2w (Q0n h₃))) fun _ _ x => x))
 obtain ⟨rfl, h₁⟩ := h₁
 unfold callWith
 refine Q0c (Q1y (Q1o h₁ (fun a s₂ h₂ => Q0c (Q2w ?_)) fun _ _ x => x))
 obtain ⟨apos, akw⟩ := a
 obtain ⟨hkw, hlen, hC, hn, T, hfI, h₂⟩ := h₂
 obtain rfl : akw = [] := hkw
 obtain ⟨hp, g, d, tk, os⟩ := s₂
 simp only [hplain]
 refine Q0c (wpAny_keeperOf_exc hC ?_)
 refine Q0c (q9t (hrest := hlen) F T hC hn hi hfI hfc fun h' e hm => Q1o (h₂ h' e hm) (fun r s' hr => ?_) fun _ _ z => z)
 obtain ⟨r0, dx, z⟩ := hr
 exact ⟨r0, Q0c (Q1y (wpAny_point (Q0n ⟨e, dx, rfl, z⟩)))⟩
end
theorem q3a{h:Q0z}{bmB tl:List Q0a}(T:Q6g h bmB tl)(self:Q0a)(what:Str):refuseLoop self what tl=refuseLoop self what bmB:=by
 induction T with
 |base=>rfl
 |own _ _ _ _ ih=>rw[Q7x,ih]
section
variable{K:Q1n}{prog:Q0l}{w:Q1a}{A:Q0w}{E:Q0a->Q0b->Prop}{h:Q0z}{g:Array Q8j}{d:Drawn}{t:Nat}{os:OsState}
variable{nm q:Str}{C N x:Q0i}{bs bm:List Q0a}{sn:List Str}{sub:List Q0a}{ab:Bool}{col:Option Bool}{dd:Option Q0i}{k0 k1 k2 k3 k5:Option Q0a}{newId:String}
 {mA:Str->Option Q0a} {name:Str} {v:Q0a} {o:Obj}
theorem z3b{M:Q9d}{nameV:Q0a}{Q:Unit->Q0b->Prop}(hC:h.get? C=some (excClassObj nm q C N bs bm true sn sub ab col dd k0 k1 k2 k3 k5 newId))(T:Q6g h vErr bm)(hx:h.get? x=some o)(hc:o.cls=.ref C)(hq:Q () ⟨h,g,d,t,os⟩) :
  Q0y M A (checkBuiltinCall "object.__setattr__" ⟨[.ref x,nameV,v],[]⟩) Q E ⟨h,g,d,t,os⟩:=by
 have SF:=Q2d
 have hcB:(Q0a.ref C::bm).contains (.type "object")=true:=by rw[Q8u,T.hasType SF.hasOwner,Z0j]
 have ha:=SF.args (.ref x) nameV v
 simp only[checkBuiltinCall,SF.kind,SF.split]
 refine Q0c ?_
 ·unfold isInstance
  repeat (first|(with_reducible refine Q2m hx ?_;rw[hc])|(with_reducible refine Q6h hC ?_;rw[hcB])|wp_step)
  exact hq
theorem z0h{tk:Tok}{Q:Fin->Q0b->Prop}(X:K.In h)(hC:h.get? C=some (excClassObj nm q C N bs bm true sn sub ab col dd k0 k1 k2 k3 k5 newId))(T:Q6g h vErr bm)(hna:Q1j K (.ref C) name=some none)
  (hx:h.get? x=some o) (hc:o.cls=.ref C) (hnc:∀c,o.data≠.cls c) (hdn:o.dict=none) (hfr:o.isFreed=false)
  (hq:∀h' tk',h'.get? x=some {cls:=o.cls,dict:=some h.objs.size,data:=o.data,slots:=o.slots}->h'.Ns1 h.objs.size (fun y=>if y=name then some v else none)->(∀b ob,b≠x->h.get? b=some ob->h'.get? b=some ob)->Q (.done (.ret .none)) ⟨h',g,d,tk',os⟩) :
  Q0y (model prog w) A (Q1g.«object.__setattr__» ⟨[.ref x,.str name tk,v],[]⟩) Q E ⟨h,g,d,t,os⟩:=by
 have hpass:=Q2d.passes (.ref x)
 have hpt:=q3a T (.ref x) "__setattr__"
 have L:=Q4v (M:=model prog w) X hna
 unfold Q1g.«object.__setattr__»
 repeat (first|rw[refuse_eq]|(rw[Q7x,hpt];unfold vErr;rw[hpass])|(with_reducible refine Q2m hx ?_;rw[hc])|with_reducible refine Z0y hC ?_|with_reducible refine L.at ?_|wp_step)
 rw[hdn,if_neg (by simp[typeHasDict])]
 split
 ·rename_i hcd
  cases hcd
 split
 ·rename_i c hcd
  exact absurd hcd (hnc c)
 ·have hx₁:(h.push {cls:=.type "dict",data:=.dict #[]}).get? x=some o:=Q0e _ hx
  have hxs:x≠h.objs.size:=Q1m (Q0p hx)
  refine Q0c (wpAny_alloc' ?_)
  refine Q0c (wpAny_update' hx₁ ?_)
  refine Q0n ?_
  have hgd:((h.push {cls:=.type "dict",data:=.dict #[]}).update x fun o=>{cls:=o.cls,dict:=some h.objs.size,data:=o.data,slots:=o.slots}).get? h.objs.size
    = some {cls:=.type "dict",data:=.dict #[]}:=
   (Q0z.get?_update_ne _ _ _ _ hxs.symm).trans (Q0z.get?_push_at rfl rfl)
  have hnd:((h.push {cls:=.type "dict",data:=.dict #[]}).update x fun o=>{cls:=o.cls,dict:=some h.objs.size,data:=o.data,slots:=o.slots}).Ns h.objs.size (fun _=>none):=
   ⟨_,#[],_,hgd,rfl,fun e he=>absurd he (by simp),fun _=>rfl⟩
  show Q0y _ _ (storeInDict h.objs.size (.str name tk) name v) _ _ _
  unfold storeInDict newKeyGuard
  refine Q0c (Q0n (Q0c (wpAny_nsSet1 (Q0z.Ns1.of_empty hnd) fun h' hn' hs=>?_)))
  obtain⟨oD,esD,epD,hoD,hdD,hcD⟩:=hn'.count (Z0a name v Within.nil)
  refine Q0c (Z0q hoD (by rw[hdD];exact Z0r (Q1t hcD (by rw[Q0q,Q1k,Q2n];omega))) ?_)
  wp_walk
  refine hq h' _ ?_ hn' (fun b ob hbx hb=>(hs.2 b (Q1m (Q0p hb))).trans ((Q0z.get?_update_ne _ _ _ _ hbx).trans (Q0e _ hb)))
  refine(hs.2 x hxs).trans (Q0z.get?_update_self _ hx₁ ?_)
  obtain⟨oc,od,odt,osl⟩:=o
  cases odt<;>first|rfl|exact hfr
theorem q8t{tk:Tok}{dx:Q0i}{ns:List Str}{Q:Fin->Q0b->Prop}(X:K.In h)(hC:h.get? C=some (excClassObj nm q C N bs bm true sn sub ab col dd k0 k1 k2 k3 k5 newId))(T:Q6g h vErr bm)(hna:Q1j K (.ref C) name=some none)
  (hx:h.get? x=some o) (hc:o.cls=.ref C) (hdx:o.dict=some dx) (hns:h.Ns1 dx mA) (hw:Within mA ns) (hsz:ns.length<=Q0k)
  (hq:∀h' tk',h'.Ns1 dx (fun y=>if y=name then some v else mA y)->Q0z.SameBut dx h h'->Q (.done (.ret .none)) ⟨h',g,d,tk',os⟩) :
  Q0y (model prog w) A (Q1g.«object.__setattr__» ⟨[.ref x,.str name tk,v],[]⟩) Q E ⟨h,g,d,t,os⟩:=by
 have hpass:=Q2d.passes (.ref x)
 have hpt:=q3a T (.ref x) "__setattr__"
 have L:=Q4v (M:=model prog w) X hna
 unfold Q1g.«object.__setattr__»
 repeat (first|rw[refuse_eq]|(rw[Q7x,hpt];unfold vErr;rw[hpass])|(with_reducible refine Q2m hx ?_;rw[hc])|with_reducible refine Z0y hC ?_|with_reducible refine L.at ?_|wp_step)
 rw[hdx]
 refine Q0n ?_
 show Q0y _ _ (storeInDict dx (.str name tk) name v) _ _ _
 unfold storeInDict newKeyGuard
 refine Q0c (Q0n (Q0c (wpAny_nsSet1 hns fun h' hn' hs=>?_)))
 obtain⟨oD,esD,epD,hoD,hdD,hcD⟩:=hn'.count (Z0a name v hw)
 refine Q0c (Z0q hoD (by rw[hdD];exact Z0r (Q1t hcD (by rw[Q0q];omega))) ?_)
 wp_walk
 exact hq h' _ hn' hs
theorem q5f{Q:Unit->Q0b->Prop}(X:K.In h)(hs:Q1j K (.ref C) "__setattr__" = some (some (.builtin "object.__setattr__")))(hC:h.get? C=some (excClassObj nm q C N bs bm true sn sub ab col dd k0 k1 k2 k3 k5 newId))(T:Q6g h vErr bm)
  (hx:h.get? x=some o) (hc:o.cls=.ref C) (hb:∀tk tk' E' Q',(∀h' k,Q () ⟨h',g,d,k,os⟩->Q' (.done (.ret .none)) ⟨h',g,d,k,os⟩)->Q0y (model prog w) A.in1 (Q1g.«object.__setattr__» ⟨[.ref x,.str name tk,v],[]⟩) Q' E' ⟨h,g,d,tk',os⟩) :
  Q0y (model prog w) A (setAttr (.ref x) name v) Q E ⟨h,g,d,t,os⟩:=by
 have L0:Q5g (model prog w) h (typeOf (.ref x)) (.ref C):=hc▸(Q5g.ld hx).andThen .now
 refine Q0c (Q9i (Q0c (Q0c (Q0c (L0 _ _ _ _ (fun _ _ e=>e) (Q4v X hs _ _ _ _ (fun _ _ e=>e) (Q1y ?_)))))))
 rw[Q2d.slot.bind]
 refine Q0c (Q0n (Q0c (Q3w (Q3m Q2d.slot.plain Q2d.entry (z3b hC T hx hc ?_)))))
 refine hb _ _ _ _ fun h' k z=>?_
 exact Q0n (Q0n z)
end
end L2
namespace L2
open PySem PySem.Spec PySem.W PySem.Calls PyProof.Rows Builtin Builtin.ObjectAttr
theorem q1e.ok{P:Q0l}{w:Q1a}{H:Hp}{h:Q0z}{d:Q0i}{fs:List (Str×V)}(x:q1e d fs h):q0j P w H h d (.ext (q1e d fs)):=by
 obtain⟨mA,⟨od,es,ep,e,c⟩,r⟩:=id x
 exact⟨x,⟨od,e⟩,fun h1 h2 ⟨mA,⟨od,es,ep,e,c⟩,r⟩ k=>⟨mA,⟨od,es,ep,k _ e,c⟩,r⟩⟩
theorem q0g.ok{P:Q0l}{w:Q1a}{H:Hp}{h:Q0z}{a C:Q0i}{dx:Option Q0i}(x:q0g a C dx h):q0j P w H h a (.ext (q0g a C dx)):=by
 obtain⟨t,e⟩:=id x
 exact⟨x,⟨_,e⟩,fun h1 h2 hh1 k=>by obtain⟨t,e⟩:=hh1;exact(⟨t,k _ e⟩)⟩
def q8d(K:Q1n)(C f:Q0i):Bool:=match K.lookup C with
 |some ⟨.type "type",_,.cls cd,sl⟩=>(match cd.mro,sl.toList with
  |.ref C'::bm,[_,_,_,_,some (.builtin n),_]=>C' == C&&n == "ValueError.__new__"&&!cd.hasDel&&cd.hasDict&&tailIn K vErr bm&&nsOkIn K cd.ns&&nsIn K cd.ns "__init__" == some (some (.ref f))&&typeIn K (.ref f)==some (.type "function")
  |_,_=>false)
 |_=>false
theorem q9c{K:Q1n}{h:Q0z}{N:Q0i}{mg:Str->Option Q0a}{n:Str}{v:Q0a}(X:K.In h)(G:h.Ns N mg)(e:nsIn K N n=some (some v)):mg n=some v:=by
 obtain⟨o,es,ep,ho,hd,_,hf⟩:=G
 unfold nsIn at e
 split at e
 ·rename_i c d es' n' sl q
  have:=X _ _ q
  rw[ho]at this
  cases this
  cases hd
  split at e
  ·rename_i he
   cases e
   rw[<-hf]
   unfold nsFind findBy
   rw[<-Q8f,he]
   rfl
  ·split at e<;>cases e
 ·cases e
theorem q2q{K:Q1n}{h:Q0z}{C f:Q0i}(X:K.In h)(q:q8d K C f=true) :
  ∃bm N nm qn bs sn sub ab col dd k0 k1 k2 k3 k5 mN oI,h.get? C=some (excClassObj nm qn C N bs bm true sn sub ab col dd k0 k1 k2 k3 k5 "ValueError.__new__")/\h.Ns N mN/\mN "__init__" = some (.ref f)/\Q6g h vErr bm/\K.lookup f=some oI/\oI.cls=.type "function" :=by
 unfold q8d at q
 split at q
 ·rename_i d0 cl slots lk
  split at q
  ·rename_i C1 rest j0 j1 j2 j3 id j5 hm hs
   simp only[Q2u,beq_iff_eq,Bool.not_eq_true']at q
   obtain⟨⟨⟨⟨⟨⟨⟨rfl,rfl⟩,nodel⟩,hdd⟩,tl⟩,okN⟩,hI⟩,tf⟩:=q
   obtain⟨c1,c2,c3,c4,c5,c6,c7,c8,c9,c10,c11⟩:=cl
   dsimp only at hm nodel okN hI hdd
   subst hm nodel hdd
   have es:slots=#[j0,j1,j2,j3,some (.builtin "ValueError.__new__"),j5]:=by
    cases slots with
    |mk l=>simp only at hs;rw[hs]
   subst es
   have G:h.Ns c4 (h.nsMap c4):=Q0z.Ns.of_isNs (PySem.W.isNs_of_in X okN)
   unfold typeIn at tf
   dsimp only at tf
   cases lf:K.lookup f with
   |none=>rw[lf]at tf;cases tf
   |some oI=>
    rw[lf]at tf
    exact⟨rest,c4,c1,c5,c2,c7,c8,c9,c10,d0,j0,j1,j2,j3,j5,h.nsMap c4,oI,X _ _ lk,G,q9c X G hI,PySem.W.tail_of_in X tl,rfl,Q1p tf⟩
  ·cases q
 ·cases q
structure ExcF(K:Q1n)(C f:Q0i)(fs:List Str):Prop where
 ex:q8d K C f=true
 sa:findIn K (.ref C) "__setattr__" = some (some (.builtin "object.__setattr__"))
 na:∀n∈fs,findIn K (.ref C) n=some none
structure ExcS(K:Q1n)(S:Q0i):Prop where
 rd:readsIn K S (.type "type")=true
 ga:specialIn K (.ref S) "__getattribute__" = some (some (.builtin "type.__getattribute__"))
 fi:findCls K (.ref S) (.type "type") "__init__" = some (.val (.builtin "ValueError.__init__"))
section
variable{X:Cx}{pins:List (Q0i×Obj)}{σ:St}{H:Hp}{s:Q0b}
theorem Inv.two{a d:Q0i}{f φ ψ:Q0z->Prop}{h':Q0z}{t':Nat}(I:Inv X pins σ H s)(ha:H a=some (.ext f))(nd:s.heap.get? d=none)(keep:∀b o,b≠a->s.heap.get? b=some o->h'.get? b=some o)(x1:∀H,q0j X.prog X.w H h' a (.ext φ))(x2:∀H,q0j X.prog X.w H h' d (.ext ψ)) :
  Inv X pins σ (upd (upd H a (.ext φ)) d (.ext ψ)) {s with heap:=h',toks:=t' }:=by
 have Hd:H d=none:=HOk.none_of I.hok nd
 have old:∀b o,s.heap.get? b=some o->b≠d:=fun b o e z=>by rw[z,nd]at e;cases e
 have oth:∀b,b≠a->b≠d->upd (upd H a (.ext φ)) d (.ext ψ) b=H b:=fun b n1 n2=>by rw[q0b n2,q0b n1]
 have nn:∀b,H b=none->b≠a:=fun b n z=>by rw[z,ha]at n;cases n
 have nt:∀b o,H b=some o->(∀f,o≠.ext f)->b≠a/\b≠d:=fun b o e ne=>⟨fun z=>by rw[z,ha]at e;cases e;exact ne f rfl,fun z=>by rw[z,Hd]at e;cases e⟩
 refine I.un ⟨fun b o e n _ _=>keep b o (nn b n) e,fun b o e n _ _=>⟨o.slots,keep b o (nn b n) e⟩,fun b o e n _=>by rw[oth b (nn b n) (old b o e)];exact n,fun b o e _=>?_,fun b xs e=>?_,fun b o u e=>?_,fun b ps e=>⟨#[],?_⟩⟩ fun b o e=>?_
 ·by_cases hb:b=a
  ·subst hb;exact(x1 H).2.1
  ·exact⟨o,keep b o hb e⟩
 ·have z:=nt b _ e (fun _ z=>nomatch z);rw[oth b z.1 z.2];exact e
 ·have z:=nt b _ e (fun _ z=>nomatch z);rw[oth b z.1 z.2];exact e
 ·have z:=nt b _ e (fun _ z=>nomatch z);rw[oth b z.1 z.2,e];simp
 ·by_cases hd:b=d
  ·subst hd;rw[q0d]at e;cases e;exact x2 _
  ·rw[q0b hd]at e
   by_cases hb:b=a
   ·subst hb;rw[q0d]at e;cases e;exact x1 _
   ·rw[q0b hb]at e
    refine(I.hok b o e).stay (fun c u hc q=>keep c u ?_ q) (fun c q=>?_) fun c xs q=>?_
    ·rcases hc with rfl|hc
     ·exact hb
     ·exact(nt c _ hc (fun _ z=>nomatch z)).1
    ·have z:=nt c _ q (fun _ z=>nomatch z);rw[oth c z.1 z.2];exact q
    ·have z:=nt c _ q (fun _ z=>nomatch z);rw[oth c z.1 z.2];exact q
end
section
variable{X:Cx}{o e value:Expr}{f:Str}{pos pos' tpos:Pos}{ta tv:TE}
theorem z1a(hv:PE X value tv)(ha:PE X o ta)(hs:swapsWith value (some (.Attribute o f pos')) pos.line X.env=pure false:=by rfl):PS X (.Assign [.Attribute o f pos'] value pos) (fun D σ H=>tv σ H fun y H1=>ta σ H1 fun x H2=>
  ∃a C g fs,x=.ref a/\H2 a=some (.ext (q0g a C none))/\ExcF X.K C g fs/\f∈fs/\∀d,H2 d=none->D.nx σ (upd (upd H2 a (.ext (q0g a C (some d)))) d (.ext (q1e d [(f,y)])))):=by
 intro pins s σ H D I h
 refine Q6w (thn (hv pins s σ H _ I h) fun u s1 ⟨y,H1,I1,ry,q⟩=>thn (ha pins s1 σ H1 _ I1 q) fun ov s2 ⟨x,H2,I2,rx,a,C,g,fs,ex,ea,F,hf,q2⟩=>?_) hs
 subst ex
 obtain rfl:ov=Q0a.ref a:=rx
 obtain⟨bm,N,nm,qn,bs,sn,sub,ab,col,dd,k0,k1,k2,k3,k5,mN,oI,hC,hN,hi,T,_⟩:=q2q I2.kIn F.ex
 obtain⟨t,hx⟩:=(I2.hok a _ ea).1
 have kI:=I2.kIn
 obtain⟨hp,gg,d,tk,os⟩:=s2
 refine q5f kI F.sa hC T hx rfl fun tk1 tk2 E' Q' hQ=>z0h kI hC T (F.na f hf) hx rfl (fun c z=>nomatch z) rfl rfl fun h' tk' hx' hn' keep=>hQ h' tk' ?_
 refine⟨σ,_,I2.two (t':=tk') ea (Q0z.get?_none_of_le (Q0m _)) keep (fun _=>q0g.ok ⟨t,hx'⟩) (fun _=>q1e.ok ⟨_,hn',fun n=>?_,fun n hn=>?_⟩),q2 _ (I2.hok.fresh (Q0m _))⟩
 ·by_cases z:n=f
  ·rw[if_pos z];subst z;simp only[Q2k,beq_self_eq_true];exact ry
  ·rw[if_neg z];have:(n==f)=false:=beq_eq_false_iff_ne.mpr z
   simp only[Q2k,this];trivial
 ·by_cases z:n=f
  ·simp[z]
  ·exact absurd (if_neg z) hn
theorem z0z(hv:PE X value tv)(ha:PE X o ta)(hs:swapsWith value (some (.Attribute o f pos')) pos.line X.env=pure false:=by rfl):PS X (.Assign [.Attribute o f pos'] value pos) (fun D σ H=>tv σ H fun y H1=>ta σ H1 fun x H2=>
  ∃a C g fs d l,x=.ref a/\H2 a=some (.ext (q0g a C (some d)))/\H2 d=some (.ext (q1e d l))/\l.length<1000/\ExcF X.K C g fs/\f∈fs/\D.nx σ (upd H2 d (.ext (q1e d (putF f y l))))):=by
 intro pins s σ H D I h
 refine Q6w (thn (hv pins s σ H _ I h) fun u s1 ⟨y,H1,I1,ry,q⟩=>thn (ha pins s1 σ H1 _ I1 q) fun ov s2 ⟨x,H2,I2,rx,a,C,g,fs,d,l,ex,ea,ed,hl,F,hf,q2⟩=>?_) hs
 subst ex
 obtain rfl:ov=Q0a.ref a:=rx
 obtain⟨bm,N,nm,qn,bs,sn,sub,ab,col,dd,k0,k1,k2,k3,k5,mN,oI,hC,hN,hi,T,_⟩:=q2q I2.kIn F.ex
 obtain⟨t,hx⟩:=(I2.hok a _ ea).1
 obtain⟨mA,hns,r,wi⟩:=(I2.hok d _ ed).1
 have kI:=I2.kIn
 obtain⟨hp,gg,dr,tk,os⟩:=s2
 refine q5f kI F.sa hC T hx rfl fun tk1 tk2 E' Q' hQ=>q8t kI hC T (F.na f hf) hx rfl rfl hns wi (by rw[Q1s,Q2n];omega) fun h' tk' hn' sb=>hQ h' tk' ?_
 have hd:∃o,h'.get? d=some o:=let ⟨o,_,_,e',_⟩:=hn';⟨o,e'⟩
 refine⟨σ,_,I2.write (x:=d) (e:=d) (t':=tk') (by rw[ed];exact Q1w) (.inl rfl) (fun b q hb z=>(sb.2 b hb).trans z) hd (q1e.ok ⟨_,hn',fun n=>?_,fun n hn=>?_⟩),q2⟩
 ·rw[q3e]
  by_cases z:n=f
  ·rw[if_pos z,if_pos z];exact ry
  ·rw[if_neg z,if_neg z];exact r n
 ·by_cases z:n=f
  ·rw[z];exact(q3i f y l).1
  ·refine(q3i f y l).2 n (wi n fun z2=>hn ?_)
   show(if n=f then some u else mA n)=none
   rw[if_neg z];exact z2
end
def PQJ(X:Cx)(es:List Expr)(t:St->Prop)(k:Nat):Prop:=∀(pins:List (Q0i×Obj))(s:Q0b)(σ:St)(H:Hp)(acc:Str)(Q:Str->Q0b->Prop),Inv X pins σ H s->t σ->acc.length+k<=Q0k->
 (∀out s',out.length<=Q0k->Inv X pins σ H s'->Q out s')->Joins (model X.prog X.w) X.A X.xe (evalEach es X.env) acc Q s
section
variable{X:Cx}{t:St->Prop}{k:Nat}{es:List Expr}{pos:Pos}
theorem y0r:PQJ X [] (fun _=>True) 0:=fun pins s σ H acc Q I _ hk q=>q acc s (by omega) I
theorem y0q{x:Str} {j} (hr:PQJ X es t k) (hx:x.length<=1000:=by decide):PQJ X (.Constant (.str x) j pos::es) t (1000+k):=fun pins s σ H acc Q I h hk q=>by
 refine Q8e ⟨x,_,rfl,?_,hr pins _ σ H _ Q (I.tok _) h ?_ q⟩
 ·rw[Q6n];omega
 ·rw[Q6n];omega
theorem z6b(i:Nat){y:Str}{p:Pos}(hr:PQJ X es t k)(hN:X.N[i]?=some y:=by rfl)(hv:Vis X.env.scope y:=by first|exact Q5y rfl|exact Q4l (Q5y rfl)|exact Q4l (Q4l rfl))(hd:(y==("__debug__" : Str))=false:=by decide)
  (hcd:(y==("__classdict__" : Str))=false:=by decide):PQJ X (.FormattedValue (.Name y p) (-1) none pos::es) (fun σ=>(∃n:Int,σ[i]?=some (some (.int n))/\n.natAbs.log2<1920)/\t σ) (1921+k):=fun pins s σ H acc Q I h hk q=>by
 obtain⟨⟨n,e,hn⟩,h⟩:=h
 refine wpAny_FormattedValue_plain (thn (z1f (i:=i) hN hv hd hcd pins s σ H (fun v H'=>v=.int n/\H'=H) I ⟨_,e,rfl,rfl⟩) fun u s1 hh1=>?_)
 obtain⟨v,H1,I1,r,ev,eH⟩:=hh1
 subst ev eH
 obtain⟨tk,rfl⟩:=(show ∃tk,u=Q0a.int n tk from r)
 have hl:=int_text_len_1921 hn
 exact wpAny_formatField_int hn ⟨_,_,rfl,by rw[Q6n];omega,hr pins _ σ H1 _ Q (I1.tok _) h (by rw[Q6n];omega) q⟩
theorem z7w{v₁ v₂:Expr}(hj:PQJ X (v₁::v₂::es) t k)(hk:k<=100000:=by decide):PE X (.JoinedStr (v₁::v₂::es) pos) (fun σ H Q=>t σ/\∀x,Q (.str x) H):=fun pins s σ H Q I h=>
 wpAny_JoinedStr (hj pins s σ H _ _ I h.1 (by rw[Q2n];show 0+k<=_;omega) fun out s' ho I'=>⟨ho,.str out,H,I'.tok _,⟨_,rfl⟩,h.2 out⟩)
end
section
variable{X:Cx}{y:Str}{S:Q0i}{np apos cpos pos:Pos}{e0 e1:Expr}{ta:TA}
theorem z4p{pl:Sem Bool}(hg:Gl X y)(hm:X.mg y=some (.ref S))(F:ExcS X.K S)(ha:PA X [e0,e1] ta)(hs:swapsWith (.Call (.Attribute (.Name y np) "__init__" apos) [e0,e1] [] cpos) none pos.line X.env=pure false:=by rfl)(hd:(y==("__debug__" : Str))=false:=by decide)
  (he:Q0t [e0,e1] X.env=(false,eval e0 X.env)::Q0t [e1] X.env:=by rfl) (hpl:(backTo cpos (Q0t [e1] X.env)).any (·.1)=false:=by rfl)
  (ht:eval (.Call (.Attribute (.Name y np) "__init__" apos) [e0,e1] [] cpos) X.env=(do
   let ov <-eval (.Name y np) X.env
   standAt apos.atName
   let (f,first) <-holding [ov] (getMethod ov "__init__" pl)
   callWith cpos f first (backTo cpos (Q0t [e0,e1] X.env)) (backToKw cpos (keywordEach [] X.env))):=by rfl) :
  PS X (.Expr (.Call (.Attribute (.Name y np) "__init__" apos) [e0,e1] [] cpos) pos) (fun D σ H=>ta σ H fun vs H1=>∃a C g fs dx v,vs=[.ref a,v]/\H1 a=some (.ext (q0g a C dx))/\ExcF X.K C g fs/\D.nx σ (upd H1 a (.ext (q0g a C dx)))):=by
 intro pins s σ H D I h
 refine Q7w (PySem.W.methodCall_KW (pl:=pl) (q2d I hg hm ?_ hd) ht) I.quiet hs
 refine PySem.W.method_cls I.kIn F.ga (PySem.W.cls_value I.kIn F.rd F.fi (by decide +kernel) ?_)
 have hA:=ha cpos pins _ σ H _ (I.tok (s.toks+1)) h
 dsimp only
 rw[he]at hA ⊢
 refine Q7g (by show(false||(backTo cpos (Q0t [e1] X.env)).any (·.1))=false;rw[hpl]<;>rfl) (Q5a ?_)
 refine thn hA fun us s2 hh1=>?_
 obtain⟨vs,H2,I2,r2,a,C,g,fs,dx,v,ev,ea,G,q⟩:=hh1
 subst ev
 obtain⟨u,u',rfl,ru,ru'⟩:=q8o r2
 obtain rfl:u=Q0a.ref a:=ru
 obtain⟨bm,N,nm,qn,bs,sn,sub,ab,col,dd,k0,k1,k2,k3,k5,mN,oI,hC,hN,hi,T,_⟩:=q2q I2.kIn G.ex
 obtain⟨t,hx⟩:=(I2.hok a _ ea).1
 have FB:=Q6l
 obtain⟨hp,gg,dr,tk,os⟩:=s2
 refine Q3w (Q3m FB.init.plain FB.initEntry (wpAny_check_init_subT FB T hC hx rfl ?_))
 wp_walk
 have hx1:(hp.push {cls:=.type "tuple",data:=.seq #[u']}).get? a=some _:=Q0e _ hx
 have hx2:=Q0z.get?_update_self (Q2t fun x=>x.setIfInBounds 0 (Q0a.ref hp.objs.size)) hx1 rfl
 exact⟨σ,_,I2.write (x:=a) (e:=a) (t':=tk) (by rw[ea];exact Q1w) (.inl rfl) (fun b o hb z=>by rw[Q0z.get?_update_other _ _ (Q3s hb)];exact Q0e _ z) ⟨_,hx2⟩ (q0g.ok ⟨_,hx2⟩),q⟩
end
def tQJ(t:St->Prop):TE:=fun σ H Q=>t σ/\∀x,Q (.str x) H
def sIni(K:Q1n)(ta:TA):TS:=fun D σ H=>ta σ H fun vs H1=>∃a C g fs dx v,vs=[.ref a,v]/\H1 a=some (.ext (q0g a C dx))/\ExcF K C g fs/\D.nx σ (upd H1 a (.ext (q0g a C dx)))
def sSt1(K:Q1n)(f:Str)(tv ta:TE):TS:=fun D σ H=>tv σ H fun y H1=>ta σ H1 fun x H2=>∃a C g fs,x=.ref a/\H2 a=some (.ext (q0g a C none))/\ExcF K C g fs/\f∈fs/\∀d,H2 d=none->D.nx σ (upd (upd H2 a (.ext (q0g a C (some d)))) d (.ext (q1e d [(f,y)])))
def sSt2(K:Q1n)(f:Str)(tv ta:TE):TS:=fun D σ H=>tv σ H fun y H1=>ta σ H1 fun x H2=>∃a C g fs d l,x=.ref a/\H2 a=some (.ext (q0g a C (some d)))/\H2 d=some (.ext (q1e d l))/\l.length<1000/\ExcF K C g fs/\f∈fs/\D.nx σ (upd H2 d (.ext (q1e d (putF f y l))))
def z0j(K:Q1n)(g:Q0i)(fs:List Str)(ok:List V->Prop):Sp:=fun vs H Q _=>∃e C xs,vs=.ref e::xs/\xs.length=fs.length/\ok xs/\H e=some (.ext (q0g e C none))/\ExcF K C g fs/\
 ∀d,H d=none->Q .non (upd (upd H e (.ext (q0g e C (some d)))) d (.ext (q1e d (fs.zip xs))))
theorem z9t{H:Hp}{a:Q0i}{o:HO}(h:H a=some o):upd H a o=H:=by
 funext b
 by_cases z:b=a
 ·rw[z,q0d,h]
 ·rw[q0b z]
section
variable{P:Q0l}{w:Q1a}{K:Q1n}{mg:Str->Option Q0a}{base:Q0z}{qual:Str}{st:Q3t}{f:Q0i}{fd:Q1u}{t:St->Prop}{s a b fa fb:Str}{ok:List V->Prop}
theorem ini2(F:Fun K "__init__" qual st f fd)(S:FnScope [s,a,b] [s,a,b] (q0e st))(hab:fa≠fb)
  (hb:∀(cdv:Q0a)(A:Q0w)(outer:List Env)(s1:Q0b)(H:Hp)(E:XK),PSs (cxOf (CXE P w) P w K mg base [s,a,b] qual (q0e st) f cdv A outer s1 H E) (q0u st) (tSeq (sIni K (z6q (tVar 0) (z6q (tQJ t) tNil))) (tSeq (sSt1 K fa (tVar 1) (tVar 0)) (sSt2 K fb (tVar 2) (tVar 0))))) (ht:∀e x y,ok [x,y]->t [some (.ref e),some x,some y]) :
  FnOk P w K mg base (CXE P w) 1 f fd [s,a,b] (z0j K f [fa,fb] ok):=by
 refine Fun.okX F S (fun vs H Q E hh1=>by obtain⟨e,C,xs,ev,hl,_⟩:=hh1;subst ev;simp[hl]) fun cdv A outer s1 H vs Q E hr h=>⟨_,hb cdv A outer s1 H E,?_⟩
 obtain⟨e,C,xs,rfl,hl,hok,he,hF,q⟩:=h
 obtain⟨x,y,rfl⟩:∃x y,xs=[x,y]:=by
  match xs,hl with
  |[x,y],_=>exact⟨x,y,rfl⟩
 refine⟨_,rfl,ht e x y hok,fun z=>⟨e,C,f,[fa,fb],none,_,rfl,he,hF,?_⟩⟩
 rw[z9t he]
 refine⟨_,rfl,_,rfl,e,C,f,[fa,fb],rfl,he,hF,by simp,fun d hd=>?_⟩
 have ne:e≠d:=q0f he hd
 refine⟨_,rfl,_,rfl,e,C,f,[fa,fb],d,_,rfl,by rw[q0b ne,q0d],q0d,by show 1<1000;decide,hF,by simp,?_⟩
 rw[z0a]
 have:=q d hd
 simp only[putF,if_neg hab]
 exact this
end
section
variable{X:Cx}{E:XK}{x:Str}{C g:Q0i}{fd:Q1u}{ps fs:List Str}{ok:List V->Prop}{np cpos pos:Pos}{e0:Expr}{es:List Expr}{ta:TA}
theorem z1b(hp:q1m (CXE X.prog X.w) X E)(hc:X.calm=true)(hg:Gl X x)(hm:X.mg x=some (.ref C))(F:ExcF X.K C g fs)(G:FnOk X.prog X.w X.K X.mg X.base (CXE X.prog X.w) 1 g fd ps (z0j X.K g fs ok))(hr:Room 2 X.A)(hb:q2l X.K fd ps [])(ha:PA X (e0::es) ta)
  (hd:(x==("__debug__" : Str))=false:=by decide) (he:Q0t (e0::es) X.env=(false,eval e0 X.env)::Q0t es X.env:=by rfl) (hpl:(backTo cpos (Q0t (e0::es) X.env)).any (·.1)=false:=by rfl) :
  PS X (.Raise (some (.Call (.Name x np) (e0::es) [] cpos)) none pos) (fun _ σ H=>ta σ H fun vs H1=>vs.length=fs.length/\vs.length<=Q0k/\ok vs/\∀d,H1 d=none->E (.ref C) (some d) (upd H1 d (.ext (q1e d (fs.zip vs))))):=by
 intro pins s σ H D I h
 obtain⟨bm,N,nm,qn,bs,sn,sub,ab,col,dd,k0,k1,k2,k3,k5,mN,oI,hC,hN,hi,T,lI,cI⟩:=q2q I.ok.mod.kin F.ex
 have FB:=Q6l
 refine q8x (C:=C) (N:=N) (nm:=nm) (q:=qn) (bs:=bs) (bm:=bm) (hdct:=true) (sn:=sn) (sub:=sub) (ab:=ab) (col:=col) (dd:=dd) (k0:=k0) (k1:=k1) (k2:=k2) (k3:=k3) (k5:=k5) (mN:=mN) (oI:=oI) FB (T.hasType FB.hasBase) (I.ok.hd hc) hpl hi cI ?_
 refine q2d I hg hm ⟨rfl,?_⟩ hd
 have hs:=ha cpos pins s σ H _ I h
 rw[he]at hs ⊢
 refine Q5a (Q1o hs (fun us s2 ⟨vs,H1,I1,r,hl,hz,hok,hE⟩=>?_) fun _ _ z=>z)
 refine⟨rfl,by rw[<-r.length];exact hz,I1.bk _ _ hC,hN.keeps I1.bk,T.keeps I1.bk,I1.kIn _ _ lI,fun h' e m=>?_⟩
 have He:H1 e=none:=HOk.none_of I1.hok m.new
 obtain⟨t,het,_⟩:=m.there
 have I2:Inv X pins σ (upd H1 e (.ext (q0g e C none))) {s2 with heap:=h' }:=(I1.kept (t':=s2.toks) m.keeps).trackX (I1.news m.new) He (q0g.ok ⟨t,het⟩)
 have rr:Vals (.ref e::vs) (.ref e::us):=.cons rfl r
 have sp0:z0j X.K g fs ok (.ref e::vs) (upd H1 e (.ext (q0g e C none))) (fun v H2=>v=.non/\∃d,H1 d=none/\d≠e/\H2=upd (upd H1 e (.ext (q0g e C (some d)))) d (.ext (q1e d (fs.zip vs)))) E0:=
  ⟨e,C,vs,rfl,hl,hok,q0d,F,fun d hd=>⟨rfl,d,by
   have ne:d≠e:=fun z=>by rw [z,q0d]at hd;cases hd
   rw [q0b ne]at hd
   exact ⟨hd,ne,by rw [z0a]⟩⟩⟩
 have hln:(Q0a.ref e::us).length=ps.length:=by rw[<-rr.length];exact G.len _ _ _ _ sp0
 refine Q3w (Q5o (G.run _ X.stack _ _ ⟨Q0a.ref e::us,[]⟩ (Q0a.ref e::us) _ _ E0 (hr.make C us []) (I2.env0.make C us []) (by have:=hb _ (Q0a.ref e::us) I2.kIn (by rw[Q2c];exact hln);rwa [Q2c]at this) rr sp0) fun r' s' hq=>?_)
 cases r' with
 |error _=>obtain⟨_,_,_,_,_,_,_,_,_,_,_,_,z⟩:=hq;exact z.elim
 |ok fl=>
  cases fl with
  |next=>exact Q2g hq
  |brk=>exact Q2g hq
  |cont=>exact Q2g hq
  |ret u=>
   obtain⟨v,H4,os,bare,un,hok4,rv,ev,d,Hd,ne,eH⟩:=hq
   subst ev eH
   have I4:=I2.call' (s':=s') os un hok4 bare (fun b z=>absurd z (by simp))
   have nm4:=(hok4 e (.ext (q0g e C (some d))) (by rw[q0b (Q3s ne),q0d])).1
   refine⟨rv,some d,I4.bk _ _ hC,nm4,?_⟩
   have eq:∀b,b≠e->upd (upd H1 e (.ext (q0g e C (some d)))) d (.ext (q1e d (fs.zip vs))) b=upd H1 d (.ext (q1e d (fs.zip vs))) b:=fun b n=>by
    by_cases z:b=d
    ·rw[z,q0d,q0d]
    ·rw[q0b z,q0b z,q0b n]
   have ee:upd H1 d (.ext (q1e d (fs.zip vs))) e=none:=by rw[q0b (Q3s ne)];exact He
   have old:∀b o,s2.heap.get? b=some o->b≠e:=fun b o q z=>by rw[z,m.new]at q;cases q
   have h3:∀b,b≠e->upd H1 e (.ext (q0g e C none)) b=H1 b:=fun b n=>q0b n
   have nt:∀b o,H1 b=some o->b≠e:=fun b o q z=>by rw[z,He]at q;cases q
   have nd:∀b o,H1 b=some o->b≠d:=fun b o q z=>by rw[z,Hd]at q;cases q
   obtain⟨t4,e4⟩:=nm4
   refine hp pins σ H1 s2 (.ref e) s' I1 ⟨e,.ref C,some d,[],upd H1 d (.ext (q1e d (fs.zip vs))),rfl,os,bare,⟨fun b o q n f x=>?_,fun b o q n f x=>?_,fun b o q n x=>?_,fun b o q x=>?_,fun b l q=>?_,fun b o u q=>?_,fun b l q=>⟨#[],?_⟩⟩,fun b o q=>?_,⟨_,_,.none,e4,rfl,rfl,rfl,rfl,.inl rfl⟩,fun b hb=>?_,hE d Hd⟩
   ·exact un.keep b o (m.keeps b o q) (by rw[h3 b (old b o q)];exact n) f x
   ·exact un.slot b o (m.keeps b o q) (by rw[h3 b (old b o q)];exact n) f x
   ·have:=un.free b o (m.keeps b o q) (by rw[h3 b (old b o q)];exact n) x
    rw[eq b (old b o q)]at this
    exact this
   ·exact un.there b o (m.keeps b o q) x
   ·rw[q0b (nd b _ q)];exact q
   ·rw[q0b (nd b _ q)];exact q
   ·rw[q0b (nd b _ q),q];simp
   ·have nbe:b≠e:=fun z=>by rw[z,ee]at q;cases q
    rw[<-eq b nbe]at q
    refine(hok4 b o q).stay (fun _ _ _ z=>z) (fun c z=>?_) fun c l z=>?_
    ·have nce:c≠e:=fun w=>by rw[w,q0b (Q3s ne),q0d]at z;cases z
     rw[<-eq c nce];exact z
    ·have nce:c≠e:=fun w=>by rw[w,q0b (Q3s ne),q0d]at z;cases z
     rw[<-eq c nce];exact z
   ·have:b=e:=by simpa using hb
    subst this
    exact⟨m.new,ee⟩
end
section
variable{K:Q1n}{D x:Q0i}{prog:Q0l}{w:Q1a}{A:Q0w}{E:Q0a->Q0b->Prop}{s:Q0b}
theorem z9e{tk:Tok}{name:Str}{v:Q0a}{Q:Fin->Q0b->Prop}(X:K.In s.heap)(L0:Q5g (model prog w) s.heap (typeOf (.ref x)) (.ref D))(LF:Q5g (model prog w) s.heap (find (.ref x) (.ref D) name) (.value v))(hq:Q (.done (.ret v)) s) :
  Q0y (model prog w) A (Q1g.«object.__getattribute__» ⟨[.ref x,.str name tk],[]⟩) Q E s:=by
 obtain⟨hh,g,dr,t,os⟩:=s
 unfold Q1g.«object.__getattribute__»
 refine Q0c (Q0n ?_)
 refine Q0c (Q0n ?_)
 refine Q0c (L0.at (Q0c (LF.at ?_)))
 exact Q0n hq
theorem z5q{name:Str}{v:Q0a}{ox od:Obj}{expr:Bool}{Q:Q0a->Q0b->Prop}(X:K.In s.heap)(I:InstAt s.heap x ox D (some od))(e:ExcK K D)(hd:hasDictIn K D=true)(ha:findIn K (.ref D) name=some none)(hl:lookIn name od=some (some v))(hv:handedIn v=true)(hq:Q v {s with toks:=s.toks+1}) :
  Q0y (model prog w) A (getAttr (.ref x) name expr) Q E s:=by
 have LF:=looks_find (M:=model prog w) X I (findObj_own hd ha rfl hl)
 have L0:=I.type (M:=model prog w)
 obtain⟨hh,g,dr,t,os⟩:=s
 have FB:=Q8s
 have L1:=Q4v (M:=model prog w) X e.ga
 have L2:=Q4v (M:=model prog w) X e.nga
 unfold getAttr getAttrBy
 refine Q0c (Q9i (Q1y (Q0c (L0.at (Q0c (L1.at ?_))))))
 show Q0y _ _ (getAttrByItsOwn _ _ _ _ _ _) _ _ _
 unfold getAttrByItsOwn
 refine Q0c ?_
 show Q0y _ _ (typeLookup _ _) _ _ _
 refine L2.at (Q0c (Q8t (Q1y ?_)))
 unfold callGetattribute
 rw[show(expr&&onTheHeap (Q0a.builtin "BaseException.__getattribute__"))=false from Bool.and_false _,if_neg (by decide)]
 unfold boundAndCalled
 rw[FB.ga.bind (.ref x)]
 refine Q0c (Q0n ?_)
 refine Q3w (Q3m FB.ga.plain Z0i (q5y (s:=⟨hh,g,dr,t+1,os⟩) X L0 e (z9e (s:=⟨hh,g,dr,t+1,os⟩) X L0 LF ?_)))
 exact handed_on hv hq
end
structure ExcG(K:Q1n)(C:Q0i)(f:Str):Prop where
 k:ExcK K C
 hd:hasDictIn K C=true
 na:findIn K (.ref C) f=some none
theorem z4s{X:Cx}{e:Expr}{f:Str}{pos:Pos}{ta:TE}(he:PE X e ta)(hb:attributeBase e f X.env (eval e X.env)=eval e X.env:=by rfl) :
  PE X (.Attribute e f pos) (fun σ H Q=>ta σ H fun x H1=>∃a C d fs v,x=.ref a/\ExcD H1 a C (some d)/\H1 d=some (.ext (q1e d fs))/\ExcG X.K C f/\fs.lookup f=some v/\Q v H1):=by
 intro pins s σ H Q I h
 refine z9l hb (thn (he pins s σ H _ I h) fun u s1 ⟨x,H1,I1,rx,a,C,d,fs,v,ex,⟨φ,ea,hφ⟩,ed,G,l,q⟩=>?_)
 subst ex
 obtain rfl:u=Q0a.ref a:=rx
 obtain⟨o,vs,ho,hc,hdx,hdt⟩:=hφ _ (I1.hok a _ ea).1
 obtain⟨mA,hns,r,_⟩:=(I1.hok d _ ed).1
 obtain⟨u,hu,ru⟩:=RelO.some_of (v:=v) (o:=mA f) (by rw[<-l];exact r f)
 obtain⟨od,hod,hlk⟩:=q5j hns
 exact z5q I1.kIn ⟨ho,hc,by unfold notCls;rw[hdt],by rw[hdx];exact hod⟩ G.k G.hd G.na (by rw[hlk,hu]) (z2o ru) ⟨v,H1,I1.tok _,ru,q⟩
end L2
namespace Ev
open PySem L2 PySem.Spec PyProof.Rows
theorem LRel.nog{K:Q1n}{G:GX}{H:Hp}{φ:List Q0i}{σ:Loc}{σV:L2.St}(L:LRel K G H φ σ σV):LRel K NoG H φ σ σV:=⟨L.len,L.at',fun _ _ _ _ q=>q.elim⟩
theorem LRel.forget{K:Q1n}{G:GX}{H:Hp}{φ:List Q0i}{σ:Loc}{σV:L2.St}(L:LRel K G H φ σ σV)(i:Nat):LRel K G H φ (σ.set i none) (σV.set i none):=by
 refine⟨by simp[L.len],fun j v e=>?_,L.kx⟩
 have hj:j≠i:=by
  rintro rfl
  by_cases hlt:j<σ.length
  ·rw[Q1i hlt]at e;cases e
  ·rw[Q4x (by simpa using hlt)]at e;cases e
 rw[Q1v (Q3s hj)]at e ⊢
 exact L.at' j v e
section
variable{X:Cx}{G:GX}{pos:Pos}
end
abbrev XEK:=PV->Loc->q0a->Prop
abbrev WSX:=PEnds->XEK->Loc->q0a->Prop
def KXS(K:Q1n)(G:GX)(φ:List Q0i)(H:Hp)(E0:XEK)(E:XC):Prop:=∀v σ' S' φ' H' σV' cls dx,E0 v σ' S'->φ <+: φ'->Mono H H'->Rel K φ' S' H'->LRel K G H' φ' σ' σV'->ClsP K H' v cls dx->E cls dx σV' H'
theorem KXS.up{K:Q1n}{G:GX}{φ φ1:List Q0i}{H H1:Hp}{E0:XEK}{E:XC}(k:KXS K G φ H E0 E)(p:φ <+: φ1)(m:Mono H H1):KXS K G φ1 H1 E0 E:=fun v σ' S' φ' H' σV' cls dx q p' m'=>k v σ' S' φ' H' σV' cls dx q (p.trans p') (m.trans m')
def z6f(K:Q1n)(G:GX)(w:WSX):TSX:=fun D E σV H=>∃φ σ S D0 E0,LRel K G H φ σ σV/\Rel K φ S H/\w D0 E0 σ S/\KS K G φ H D0 D/\KXS K G φ H E0 E
def z9o(X:Cx)(G:GX)(st:Q3t)(w:WSX):Prop:=PSX X st (z6f X.K G w)
def q6k(X:Cx)(G:GX)(st:List Q3t)(w:WSX):Prop:=PSXs X st (z6f X.K G w)
def y1s(K:Q1n)(G:GX)(w:WE):TEX:=fun σV H Q E=>∃φ σ S Q0 E0,LRel K G H φ σ σV/\Rel K φ S H/\w σ S E0 Q0/\KE K φ H Q0 Q/\∀v S' φ' H' cls d,E0 v S'->φ <+: φ'->Mono H H'->Rel K φ' S' H'->ClsP K H' v cls d->E cls d H'
def y2y(X:Cx)(G:GX)(e:Expr)(w:WE):Prop:=PEX X e (y1s X.K G w)
theorem _root_.L2.PEX.imp{X:Cx}{e:Expr}{t t':TEX}(h:PEX X e t)(i:∀σ H Q E,t' σ H Q E->t σ H Q E):PEX X e t':=fun pins s σ H Q E I q=>h pins s σ H Q E I (i σ H Q E q)
theorem _root_.L2.PSX.imp{X:Cx}{e:Q3t}{t t':TSX}(h:PSX X e t)(i:∀D E σ H,t' D E σ H->t D E σ H):PSX X e t':=fun pins s σ H D E I q=>h pins s σ H D E I (i D E σ H q)
theorem _root_.L2.PSXs.imp{X:Cx}{e:List Q3t}{t t':TSX}(h:PSXs X e t)(i:∀D E σ H,t' D E σ H->t D E σ H):PSXs X e t':=fun pins s σ H D E I q=>h pins s σ H D E I (i D E σ H q)
def q7o(sp:Den)(wa:WA):WE:=fun σ S E Q=>wa σ S NoX fun xs S1=>sp xs S1 E Q
def q7n(w:WE):WSX:=fun D E σ S=>w σ S (fun v S'=>E v σ S') fun _ S1=>D.nx σ S1
def z6m:WSX:=fun D _ σ S=>D.nx σ S
def z6l(w1 w2:WSX):WSX:=fun D E σ S=>w1 {D with nx:=w2 D E} E σ S
section
variable{X:Cx}{G:GX}{pos:Pos}
theorem z0n{k:Nat}{f:Q0i}{fd:Q1u}{ps:List Str}{sp:Den}{x:Str}{p:Pos}{e:Expr}{es:List Expr}{wa:WA}(C:Cal X.prog X.w X.K X.mg X.base k x ps (q0s X.K sp) f fd)(hr:Room k X.A)(ha:SimA X.nx NoG (e::es) wa)(hg:Gl X x:=by rfl)
  (hdb:(x==("__debug__" : Str))=false:=by decide) (he:Q0t (e::es) X.env=(false,eval e X.env)::Q0t es X.env:=by rfl) (hpl:(backTo pos (Q0t es X.env)).any (·.1)=false:=by rfl) :
  y2y X G (.Call (.Name x p) (e::es) [] pos) (q7o sp wa):=
 (z4r (dvs:=[]) C.G hr hg C.m C.kp C.b .nil ha hdb he hpl).imp fun σV H Q E hh1=>by obtain⟨φ,σ,S,Q0,E0,L,R,h,k,kx⟩:=hh1;exact(⟨φ,σ,S,_,L.nog,R,h,fun v S1 φ1 H1 x q p1 m1 R1 r1=>
  ⟨φ1,v,S1,Q0,E0,fun v' H'=>∀cls d,ClsP X.K H' v' cls d->E cls d H',by rw [Q2c];exact r1,R1,q,k.up p1 m1,fun v' S' φ' H' q' p' m' R' cls d hc=>kx v' S' φ' H' cls d q' (p1.trans p') (m1.trans m') R' hc,fun cls d H' hh2=>by obtain ⟨v',hc,q'⟩:=hh2;exact (q' cls d hc)⟩⟩)
theorem z0l{e:Expr}{w:WE}(he:y2y X G e w)(hs:swapsWith e none pos.line X.env=pure false:=by rfl):z9o X G (.Expr e pos) (q7n w):=
 (z4o he hs).imp fun D E σV H hh1=>by obtain⟨φ,σ,S,D0,E0,L,R,h,k,kx⟩:=hh1;exact(⟨φ,σ,S,_,_,L,R,h,fun v S1 φ1 H1 x q p1 m1 R1 r1=>k.nx σ S1 φ1 H1 σV q p1 m1 R1 (L.mono m1 p1),fun v S' φ' H' cls d q p m R' hc=>kx v σ S' φ' H' σV cls d q p m R' (L.mono m p) hc⟩)
theorem z3v:q6k X G [] z6m:=z4n.imp fun D E σV H hh1=>by obtain⟨φ,σ,S,D0,E0,L,R,h,k,kx⟩:=hh1;exact(k.nx σ S φ H σV h (Q0d _) (.refl _) R L)
theorem z0m{st:Q3t}{rest:List Q3t}{w1 w2:WSX}(h1:z9o X G st w1)(h2:q6k X G rest w2):q6k X G (st::rest) (z6l w1 w2):=
 (z0x h1 h2).imp fun D E σV H hh1=>by obtain⟨φ,σ,S,D0,E0,L,R,h,k,kx⟩:=hh1;exact(⟨φ,σ,S,_,_,L,R,h,⟨fun σ' S' φ' H' σV' q p m R' L'=>⟨φ',σ',S',D0,E0,L',R',q,k.up p m,kx.up p m⟩,k.rt,k.bk,k.ct⟩,kx⟩)
theorem z3u{st:Q3t}{w:WSX}(h:z9o X G st w):q6k X G [st] w:=(z0m h z3v).imp fun D E σV H hh1=>by obtain⟨φ,σ,S,D0,E0,L,R,h,k,kx⟩:=hh1;exact(⟨φ,σ,S,D0,E0,L,R,h,k,kx⟩)
end
def z7z(i:Nat)(D:PEnds):PEnds:={nx:=fun σ S=>D.nx (σ.set i none) S,rt:=D.rt,bk:=fun σ S=>D.bk (σ.set i none) S,ct:=fun σ S=>D.ct (σ.set i none) S}
structure Cau(K:Q1n)(mg:Str->Option Q0a)(y:Str)(cs:List String):Prop where
 is:∃cv,mg y=some cv/\∀c∈cs,∃C,Q0v K Q0r (Q0g c)=some (some (.ref C))/\Q4a K (.ref C) cv=some true
def wTry(i:Nat)(cs:List String)(wb:WSX)(ws:WS):WS:=fun D _ σ S=>wb D (fun v σ' S'=>match v with
 |.exc c=>c.1∈cs/\ws (z7z i D) NoX (σ'.set i (some v)) S'
 |_=>False) σ S
theorem y2n{K:Q1n}{H:Hp}{a C:Q0i}{dx:Option Q0i}{c:String×List (String×PV)}{φ:List Q0i}(h:Q0v K Q0r (Q0g c.1)=some (some (.ref C)))(ha:H a=none)(hf:q9v H dx c.2):RV K (upd H a (.ext (q2g a (.ref C) dx))) φ (.exc c) (.ref a):=
 ⟨a,rfl,C,dx,⟨_,q0d,fun h hh1=>by obtain⟨o,vs,q,c,d⟩:=hh1;exact(⟨o,vs,q,c,d⟩)⟩,h,hf.mono (.new _ ha)⟩
section
variable{X:Cx}{G:GX}{pos:Pos}
theorem z6t(i:Nat){y n:Str}{yp hpos:Pos}{body suite:List Q3t}{b₀:Q3t}{wb:WSX}{ws:WS}{cs:List String}(C:Cau X.K X.mg y cs)(hB:q6k X G body wb)(hN:X.N.Nodup)(hS:∀a,q3u (X.hd a) NoG (b₀::suite) ws)(hst:X.stack=X.env::X.outer:=by rfl)(hf:X.env.frame=some X.env.locals:=by rfl)
  (hi:X.N[i]?=some n:=by rfl) (hg:Gl X y:=by rfl) (hl:X.env.scope.names.lookup n=some .local:=by rfl) (hk:X.env.kindOf n=some .local:=by rfl) (hd:(y==("__debug__" : Str))=false:=by decide) :
  SimS X G (.Try body [.ExceptHandler (some (.Name y yp)) (some n) (b₀::suite) hpos] [] [] pos) (wTry i cs wb ws):=by
 obtain⟨cv,hm,hc⟩:=C.is
 refine(y0l (ts:=z8p X.K NoG ws) hst hf hB hg hm hN hi hl hS hk hd).imp fun D σV H ⟨φ,σ,S,D0,L,R,h,k⟩=>⟨φ,σ,S,D0,_,L,R,h,k,fun v σ' S' φ' H' σV' cls dx q p m R' L' hcl=>?_⟩
 obtain⟨c,C',rfl,rfl,hn,hfl⟩:=hcl
 obtain⟨hcs,hw⟩:=q
 obtain⟨C2,hn2,hx⟩:=hc c.1 hcs
 rw[hn]at hn2
 cases hn2
 refine⟨hx,fun a ha=>?_⟩
 have mn:Mono H' (upd H' a (.ext (q2g a (.ref C') dx))):=.new _ ha
 refine⟨φ',_,S',_,((L'.mono mn (Q0d _)).nog).set i (y2n hn ha hfl),R'.frame _ ha,hw,?_⟩
 have kk:=(k.up p m).up (Q0d φ') mn
 have kx:=((L'.mono mn (Q0d φ'))).kx
 have up:∀{σ1 φ1 H1 σV1},φ' <+: φ1->Mono (upd H' a (.ext (q2g a (.ref C') dx))) H1->LRel X.K NoG H1 φ1 σ1 σV1->LRel X.K G H1 φ1 (σ1.set i none) (σV1.set i none):=fun {σ1 φ1 H1 σV1} p1 m1 L1=>
  LRel.forget ⟨L1.len,L1.at',((L'.mono mn (Q0d φ')).mono m1 p1).kx⟩ i
 exact⟨fun σ1 S1 φ1 H1 σV1 q1 p1 m1 R1 L1=>kk.nx _ S1 φ1 H1 _ q1 p1 m1 R1 (up p1 m1 L1),kk.rt,fun σ1 S1 φ1 H1 σV1 q1 p1 m1 R1 L1=>kk.bk _ S1 φ1 H1 _ q1 p1 m1 R1 (up p1 m1 L1),fun σ1 S1 φ1 H1 σV1 q1 p1 m1 R1 L1=>kk.ct _ S1 φ1 H1 _ q1 p1 m1 R1 (up p1 m1 L1)⟩
end
def cV:V->Q0a
 |.ref a=>.ref a
 |.ty T=>.type T
 |_=>.none
def IsCV(v:V):Prop:=(∃a,v=.ref a)\/∃T,v=.ty T
theorem IsCV.eq{v:V}{u:Q0a}(h:IsCV v)(r:RelV v u):u=cV v:=by
 rcases h with⟨a,rfl⟩|⟨T,rfl⟩
 ·exact r
 ·exact r
theorem y2q{vs:List V}{us:List Q0a}(h:∀v∈vs,IsCV v)(r:Vals vs us):us=vs.map cV:=by
 induction r with
 |nil=>rfl
 |cons a b ih=>rw[Q1c,(h _ (by simp)).eq a,ih fun v hv=>h v (by simp[hv])]
def z9p(X:Cx)(y:Str)(v:V):Prop:=IsCV v/\∃u,RelV v u/\((X.mg y=some u)\/(X.mg y=none/\bootBuiltins y=some u/\y≠ "__name__"))
section
variable{X:Cx}{G:GX}{pos:Pos}
theorem y1d{y:Str}{v:V}(h:z9p X y v)(hg:Gl X y)(hd:(y==("__debug__" : Str))=false):PE X (.Name y pos) (tC v):=by
 obtain⟨_,u,r,h|⟨h1,h2,h3⟩⟩:=h
 ·exact z1g hg h r hd
 ·exact z1i hg h1 h2 r h3 hd
def y3d(vs:List V):TA:=fun _ H Q=>Q vs H
inductive Names(X:Cx):List Expr->List V->Prop
 |nil:Names X [] []
 |cons {y:Str} {p:Pos} {v:V} {es:List Expr} {vs:List V} (h:z9p X y v) (hg:Gl X y) (hd:(y==("__debug__" : Str))=false) (r:Names X es vs):Names X (.Name y p::es) (v::vs)
theorem Names.pa{es:List Expr}{vs:List V}(h:Names X es vs):PA X es (y3d vs):=by
 induction h with
 |nil=>exact q7w
 |cons h hg hd r ih=>exact q1u (y1d h hg hd) ih
theorem Names.cv{es:List Expr}{vs:List V}(h:Names X es vs):∀v∈vs,IsCV v:=by
 induction h with
 |nil=>simp
 |cons h hg hd r ih=>intro v hv;rcases Q1h.mp hv with rfl|hv;exact h.1;exact ih v hv
def ExcH(H:Hp)(a C:Q0i):Prop:=∃f:Q0z->Prop,H a=some (.ext f)/\∀h,f h->∃o,h.get? a=some o/\o.cls=.ref C
theorem ExcH.rec{pins:List (Q0i×Obj)}{s:Q0b}{σ:L2.St}{H:Hp}{a C:Q0i}(x:ExcH H a C)(I:Inv X pins σ H s):∃o,s.heap.get? a=some o/\o.cls=.ref C:=by
 obtain⟨f,e,k⟩:=x
 exact k _ (I.hok a _ e).1
def rX1(K:Q1n):List V->Hp->VK->Prop:=fun vs H Q=>∃a C v b,vs=[.ref a,v]/\IsCV v/\ExcH H a C/\ExcK K C/\Q2f K (.ref C) (cV v)=some b/\Q (.bl b) H
theorem z5v:q1p X (.builtin "isinstance") (rX1 X.K):=by
 rintro pins s σ H xs us Q I r ⟨a,C,v,b,rfl,hv,hx,hk,e,q⟩
 obtain⟨u,c,rfl,ru,rc⟩:=q8o r
 cases(show u=Q0a.ref a from ru)
 cases hv.eq rc
 exact Q1f (q8c hk) I.kIn (hx.rec I) e (fun z=>nomatch z) fun tk=>⟨.bl _,H,I.tok tk,rfl,q⟩
def rXT(K:Q1n):List V->Hp->VK->Prop:=fun vs H Q=>∃a C p its b,vs=[.ref a,.ref p]/\(∀v∈its,IsCV v)/\H p=some (.tup its)/\ExcH H a C/\ExcK K C/\Q2o K (.ref C) (its.map cV)=some b/\Q (.bl b) H
theorem z5u:q1p X (.builtin "isinstance") (rXT X.K):=by
 rintro pins s σ H xs us Q I r ⟨a,C,p,its,b,rfl,hv,hp,hx,hk,e,q⟩
 obtain⟨u,c,rfl,ru,rc⟩:=q8o r
 cases(show u=Q0a.ref a from ru)
 cases(show c=Q0a.ref p from rc)
 obtain⟨us,rv,pp,_⟩:=I.tuple (SqT.of hp)
 rw[y2q hv rv]at pp
 obtain⟨⟨cls,dd,dat,sl⟩,ho,hc,n,hd⟩:=pp
 simp only at hc hd
 subst hc hd
 exact Q2h (q8c hk) I.kIn (hx.rec I) ho e (fun z=>nomatch z) fun tk=>⟨.bl _,H,I.tok tk,rfl,q⟩
def wIsX(w:WE)(tab:List (String×Bool)):WE:=fun σ S E Q=>w σ S E fun v S1=>match v with
 |.exc c=>(match tab.lookup c.1 with
  |some b=>Q (.bl b) S1
  |none=>False)
 |_=>False
structure TabX1(K:Q1n)(cv:Q0a)(tab:List (String×Bool)):Prop where
 is:∀c b,tab.lookup c=some b->∃C,Q0v K Q0r (Q0g c)=some (some (.ref C))/\ExcK K C/\Q2f K (.ref C) cv=some b
structure TabXT(K:Q1n)(cvs:List Q0a)(tab:List (String×Bool)):Prop where
 is:∀c b,tab.lookup c=some b->∃C,Q0v K Q0r (Q0g c)=some (some (.ref C))/\ExcK K C/\Q2o K (.ref C) cvs=some b
theorem z2s{K:Q1n}{H:Hp}{φ:List Q0i}{c:String×List (String×PV)}{x:V}{C:Q0i}(r:RV K H φ (.exc c) x)(h:Q0v K Q0r (Q0g c.1)=some (some (.ref C))):∃a,x=.ref a/\ExcH H a C:=by
 obtain⟨a,rfl,C',dx,⟨f,e,k⟩,h',_⟩:=r
 rw[h]at h'
 cases h'
 exact⟨a,rfl,f,e,fun h q=>by obtain⟨o,_,h1,h2,_⟩:=k h q;exact⟨o,h1,h2⟩⟩
theorem z3z{e:Expr}{w:WE}{y:Str}{v:V}{p yp:Pos}{tab:List (String×Bool)}(hm:X.mg "isinstance" = none)(he:SimE X G e w)(hv:z9p X y v)(T:TabX1 X.K (cV v) tab)(hg:Gl X y:=by rfl)(hd:(y==("__debug__" : Str))=false:=by decide)(hgi:Gl X "isinstance" :=by rfl)
  (hs:Q0t [e,.Name y yp] X.env=(false,eval e X.env)::Q0t [.Name y yp] X.env:=by rfl) (hpl:(backTo pos (Q0t [.Name y yp] X.env)).any (·.1)=false:=by rfl):SimE X G (.Call (.Name "isinstance" p) [e,.Name y yp] [] pos) (wIsX w tab):=
 (q4o (z5v (X:=X)) hgi hm rfl (q1u he (Names.cons (p:=yp) hv hg hd .nil).pa hs) (by decide) (by decide) hs hpl).imp fun σV H Q hh1=>by obtain⟨φ,σ,S,Q0,L,R,h,k⟩:=hh1;exact(⟨φ,σ,S,_,L,R,h,fun u S1 φ1 H1 x q p1 m1 R1 r1=>by
  cases u with
  |exc c=>
   dsimp only at q
   split at q
   ·rename_i b hb
    obtain ⟨C,h1,h2,h3⟩:=T.is c.1 b hb
    obtain ⟨a,rfl,hx⟩:=z2s r1 h1
    exact ⟨a,C,v,b,rfl,hv.1,hx,h2,h3,k _ S1 φ1 H1 _ q p1 m1 R1 rfl⟩
   ·exact q.elim
  |_=>exact q.elim⟩)
theorem ExcH.upd{H:Hp}{a C p:Q0i}{o:HO}(x:ExcH H a C)(hp:H p=none):ExcH (upd H p o) a C:=by
 obtain⟨f,e,k⟩:=x
 exact⟨f,by rw[q0b (fun z=>by subst z;rw[hp]at e;cases e)];exact e,k⟩
theorem z3y{e:Expr}{w:WE}{ys:List Expr}{vs:List V}{p tp:Pos}{kk:Nat}{tab:List (String×Bool)}(hm:X.mg "isinstance" = none)(he:SimE X G e w)(hv:Names X ys vs)(T:TabXT X.K (vs.map cV) tab)(hl:vs.length<=60)(hgi:Gl X "isinstance" :=by rfl)
  (hs:Q0t [e,.Tuple ys kk tp] X.env=(false,eval e X.env)::Q0t [.Tuple ys kk tp] X.env:=by rfl) (hpl:(backTo pos (Q0t [.Tuple ys kk tp] X.env)).any (·.1)=false:=by rfl):SimE X G (.Call (.Name "isinstance" p) [e,.Tuple ys kk tp] [] pos) (wIsX w tab):=
 (q4o (z5u (X:=X)) hgi hm rfl (q1u he (q1u (y0w hv.pa) q7w) hs) (by decide) (by decide) hs hpl).imp fun σV H Q hh1=>by obtain⟨φ,σ,S,Q0,L,R,h,k⟩:=hh1;exact(⟨φ,σ,S,_,L,R,h,fun u S1 φ1 H1 x q p1 m1 R1 r1=>by
  cases u with
  |exc c=>
   dsimp only at q
   split at q
   ·rename_i b hb
    obtain ⟨C,h1,h2,h3⟩:=T.is c.1 b hb
    obtain ⟨a,rfl,hx⟩:=z2s r1 h1
    refine ⟨Q1t hl (by unfold Q0k;decide),fun q' hq'=>⟨a,C,q',vs,b,rfl,hv.cv,q0d,hx.upd hq',h2,h3,?_⟩⟩
    exact k _ S1 φ1 _ _ q p1 (m1.trans (.new _ hq')) (R1.frame _ hq') rfl
   ·exact q.elim
  |_=>exact q.elim⟩)
end
def YV(mg:Str->Option Q0a)(y:Str)(v:V):Prop:=IsCV v/\∃u,RelV v u/\((mg y=some u)\/(mg y=none/\bootBuiltins y=some u/\y≠ "__name__"))
theorem YV.own{mg:Str->Option Q0a}{y:Str}{C:Q0i}(h:mg y=some (.ref C)):YV mg y (.ref C):=⟨.inl ⟨C,rfl⟩,_,rfl,.inl h⟩
theorem YV.ty{mg:Str->Option Q0a}{y:Str}{T:String}(h:mg y=none)(b:bootBuiltins y=some (.type T))(n:y≠ "__name__" :=by decide):YV mg y (.ty T):=⟨.inr ⟨T,rfl⟩,_,rfl,.inr ⟨h,b,n⟩⟩
structure HIs1(K:Q1n)(mg:Str->Option Q0a)(y:Str)(tab:List (String×Bool)):Prop where
 is:∃v,YV mg y v/\TabX1 K (cV v) tab
def z3i(mg:Str->Option Q0a):List Str->List V->Prop
 |[],[]=>True
 |y::ys,v::vs=>YV mg y v/\z3i mg ys vs
 |_,_=>False
structure HIsT(K:Q1n)(mg:Str->Option Q0a)(ys:List Str)(tab:List (String×Bool)):Prop where
 is:∃vs,z3i mg ys vs/\TabXT K (vs.map cV) tab
def z3j(X:Cx):List Str->List Expr->Prop
 |[],[]=>True
 |y::ys,.Name y' _::es=>y'=y/\Gl X y/\(y==("__debug__" : Str))=false/\z3j X ys es
 |_,_=>False
theorem z5b{X:Cx}:∀(ys:List Str)(es:List Expr)(vs:List V),z3i X.mg ys vs->z3j X ys es->Names X es vs/\vs.length=ys.length:=by
 intro ys
 induction ys with
 |nil=>
  intro es vs h r
  cases vs with
  |nil=>cases es with
   |nil=>exact⟨.nil,rfl⟩
   |cons _ _=>exact(show False from r).elim
  |cons _ _=>exact(show False from h).elim
 |cons y ys ih=>
  intro es vs h r
  cases vs with
  |nil=>exact(show False from h).elim
  |cons v vs=>cases es with
   |nil=>exact(show False from r).elim
   |cons e es=>cases e with
    |Name y' p=>
     obtain⟨e,g,d,r⟩:=r
     subst e
     obtain⟨a,b⟩:=ih es vs h.2 r
     exact⟨.cons h.1 g d a,by simp[b]⟩
    |_=>exact(show False from r).elim
theorem TabX1.nil{K:Q1n}{cv:Q0a}:TabX1 K cv []:=⟨fun _ _ h=>by cases h⟩
theorem TabX1.cons{K:Q1n}{cv:Q0a}{c:String}{C:Q0i}{b:Bool}{tab:List (String×Bool)}(h:Q0v K Q0r (Q0g c)=some (some (.ref C)))(k:ExcK K C)(e:Q2f K (.ref C) cv=some b)(r:TabX1 K cv tab):TabX1 K cv ((c,b)::tab):=⟨fun c' b' q=>by
 rw [Q1q]at q
 split at q
 ·rename_i z
  have z:=Q7l z
  subst z
  cases q
  exact ⟨C,h,k,e⟩
 ·exact r.is c' b' q⟩
theorem TabXT.nil{K:Q1n}{cv:List Q0a}:TabXT K cv []:=⟨fun _ _ h=>by cases h⟩
theorem TabXT.cons{K:Q1n}{cv:List Q0a}{c:String}{C:Q0i}{b:Bool}{tab:List (String×Bool)}(h:Q0v K Q0r (Q0g c)=some (some (.ref C)))(k:ExcK K C)(e:Q2o K (.ref C) cv=some b)(r:TabXT K cv tab):TabXT K cv ((c,b)::tab):=⟨fun c' b' q=>by
 rw [Q1q]at q
 split at q
 ·rename_i z
  have z:=Q7l z
  subst z
  cases q
  exact ⟨C,h,k,e⟩
 ·exact r.is c' b' q⟩
def CauL(K:Q1n)(cv:Q0a)(cs:List String):Prop:=∀c∈cs,∃C,Q0v K Q0r (Q0g c)=some (some (.ref C))/\Q4a K (.ref C) cv=some true
theorem CauL.nil{K:Q1n}{cv:Q0a}:CauL K cv []:=fun _ h=>by cases h
theorem CauL.cons{K:Q1n}{cv:Q0a}{c:String}{C:Q0i}{cs:List String}(h:Q0v K Q0r (Q0g c)=some (some (.ref C)))(e:Q4a K (.ref C) cv=some true)(r:CauL K cv cs):CauL K cv (c::cs):=fun c' hc=>by
 rcases Q1h.mp hc with rfl|hc
 ·exact⟨C,h,e⟩
 ·exact r c' hc
section
variable{X:Cx}{G:GX}{pos:Pos}
theorem z0q{e:Expr}{w:WE}{y:Str}{p yp:Pos}{tab:List (String×Bool)}(hm:X.mg "isinstance" = none)(he:SimE X G e w)(T:HIs1 X.K X.mg y tab)(hg:Gl X y:=by rfl)(hd:(y==("__debug__" : Str))=false:=by decide)(hgi:Gl X "isinstance" :=by rfl)
  (hs:Q0t [e,.Name y yp] X.env=(false,eval e X.env)::Q0t [.Name y yp] X.env:=by rfl) (hpl:(backTo pos (Q0t [.Name y yp] X.env)).any (·.1)=false:=by rfl):SimE X G (.Call (.Name "isinstance" p) [e,.Name y yp] [] pos) (wIsX w tab):=by
 obtain⟨v,h1,h2⟩:=T.is
 exact z3z hm he h1 h2 hg hd hgi hs hpl
theorem z7c(ys:List Str){e:Expr}{w:WE}{es:List Expr}{p tp:Pos}{kk:Nat}{tab:List (String×Bool)}(hm:X.mg "isinstance" = none)(he:SimE X G e w)(T:HIsT X.K X.mg ys tab)(hE:z3j X ys es)(hl:ys.length<=60:=by decide)(hgi:Gl X "isinstance" :=by rfl)
  (hs:Q0t [e,.Tuple es kk tp] X.env=(false,eval e X.env)::Q0t [.Tuple es kk tp] X.env:=by rfl) (hpl:(backTo pos (Q0t [.Tuple es kk tp] X.env)).any (·.1)=false:=by rfl):SimE X G (.Call (.Name "isinstance" p) [e,.Tuple es kk tp] [] pos) (wIsX w tab):=by
 obtain⟨vs,h1,h2⟩:=T.is
 obtain⟨n,l⟩:=z5b ys es vs h1 hE
 exact z3y hm he n h2 (by rw[l];exact hl) hgi hs hpl
end
section
variable{X:Cx}{G:GX}{pos:Pos}
end
theorem z2i{K:Q1n}{C:Q0i}(h:Q5j K C=true):(PySem.W.clsIn K C).isSome=true:=by
 obtain⟨cd,h,_⟩:=PySem.W.any_some h
 rw[h];rfl
end Ev
namespace Ev
open PySem PySem.Spec PyProof.Rows L2
open PySem.AutoSeq1 (wpAny_loadPart')
section
variable{X:Cx}
end
section
variable{prog:Q0l}{w:Q1a}{A:Q0w}{E:Q0a->Q0b->Prop}{s:Q0b}{r:Q0i}{n:Int}{t u v:Tok}{Q:Q0a->Q0b->Prop}
end
section
variable{X:Cx}{G:GX}{pos:Pos}
end
section
variable{X:Cx}{G:GX}{pos:Pos}{a:Expr}{ta:TE}{wa:WE}
end
section
variable{X:Cx}
end
section
variable{X:Cx}
end
section
variable{X:Cx}{G:GX}{pos:Pos}
end
end Ev
namespace L2
open PySem PySem.Spec PyProof.Rows
section
variable{X:Cx}{tg iter kx vx:Expr}{scope:Q3n}{pos:Pos}{N':List Str}{ix:List (Option Nat)}{wi:TI}
end
end L2
namespace Ev
open PySem PySem.Spec PyProof.Rows L2
section
variable{X:Cx}{G:GX}{pos:Pos}
end
section
variable{X:Cx}
end
section
variable{P:Q0l}{w:Q1a}{κ:Type} [DecidableEq κ] {knd:HeapKind P w κ} {A:Q0w} {E:Q0a->Q0b->Prop} {s:Q0b}
end
section
variable{X:Cx}{G:GX}{pos:Pos}{pins:List (Q0i×Obj)}{σ:L2.St}{H:Hp}{s:Q0b}{φ:List Q0i}
end
end Ev
namespace L2
open PySem PySem.Spec PyProof.Rows
section
variable{X:Cx}{tg iter kx vx:Expr}{scope:Q3n}{pos:Pos}{N':List Str}{ix:List (Option Nat)}{wi:TI}{g:TG}{tk tv:TE}
end
end L2
namespace Ev
open PySem PySem.Spec PyProof.Rows L2
section
variable{X:Cx}{G:GX}{pos:Pos}
end
section
variable{X:Cx}{G:GX}{pos:Pos}
end
end Ev
namespace L2
open PySem PySem.Spec PyProof.Rows
section
variable{X:Cx}{tg iter kx vx:Expr}{scope:Q3n}{pos:Pos}{N':List Str}{ix:List (Option Nat)}{wi:TI}{g:TG}{tk tv:TE}
end
end L2
namespace Ev
open PySem PySem.Spec PyProof.Rows L2
section
variable{X:Cx}{G:GX}{pos:Pos}
end
section
variable{X:Cx}{G:GX}{pos:Pos}
end
section
variable{X:Cx}{G:GX}{pos:Pos}
theorem q1v:∀{its:List Q0a}{ns:List Int},Q8q its ns->Vals (ns.map V.int) its
 |_,_,.nil=>.nil
 |_,_,.cons n t h=>.cons ⟨t,rfl⟩ (q1v h)
end
section
variable{P:Q0l}{w:Q1a}{A:Q0w}{E:Q0a->Q0b->Prop}{s:Q0b}{it d:Q0i}{i ep:Nat}{od:Obj}{es:Array Z0v}
end
section
variable{X:Cx}{G:GX}{pos:Pos}
end
end Ev
namespace L2
open PySem PySem.Spec PyProof.Rows
section
variable{X:Cx}{pins:List (Q0i×Obj)}{σ:St}{H:Hp}{s:Q0b}
end
end L2
namespace Ev
open PySem PySem.Spec PyProof.Rows L2
section
variable{X:Cx}{pins:List (Q0i×Obj)}{σ:L2.St}{H:Hp}{s:Q0b}
end
section
variable{X:Cx}{G:GX}{pos:Pos}
end
section
variable{X:Cx}{G:GX}{pos:Pos}
end
section
variable{X:Cx}{G:GX}{pos:Pos}
end
section
variable{X:Cx}{G:GX}{pos:Pos}
open Classical in
end
section
variable{X:Cx}{G:GX}{pos:Pos}
end
end Ev
namespace Ev
open PySem PySem.Spec PyProof.Rows L2 PySem.Builtin.Str
section
variable{X:Cx}{G:GX}{pos:Pos}
theorem q4y : ∀ l : List (Str × Tok), Vals (l.map fun p => V.str p.1) (strValues l)
 | [] => .nil
 | (x, t) :: r => .cons ⟨t, rfl⟩ (q4y r)
theorem _root_.L2.mt_split{z y:Str}{pins:List (Q0i×Obj)}{s:Q0b}{σ:L2.St}{H:Hp}{t u:Tok}{Q:VK}(I:Inv X pins σ H s)(hy:(y.length==0)=false)(hz:z.length+2<=Q0k)(q:∀l,H l=none->Q (.ref l) (upd H l (.lst ((Q5b z y).map V.str)))) :
  Q0y (model X.prog X.w) X.A (call (.builtin "str.split") [.str z t,.str y u]) (EP X pins σ Q) X.xe s:=by
 have hn:(partsBetween z (occurrences z y 0 z.length (z.length+1)) y.length).length<=Q0k:=by
  have e1:=StrLaws.occ_length_le z y 0 z.length (z.length+1)
  rw[length_partsBetween];omega
 have fin:∀(l:List (Str×Tok))(k:Nat),l.map (·.1)=Q5b z y->l.length<=Q0k->EP X pins σ Q (.ref s.heap.objs.size) {s with heap:=s.heap.push {cls:=.type "list",data:=.seq (strValues l).toArray},toks:=k}:=fun l k e hl=>by
  refine⟨.ref s.heap.objs.size,_,I.lnew (ys:=l.map fun p=>V.str p.1) (q4y l) (by rw[Q1s];exact hl),rfl,?_⟩
  have:=q _ I.fresh
  rw[<-e,Q7s]at this
  exact this
 cases h1:(decide (z.length<y.length)||decide (strKind z<strKind y))
 ·cases hf:(occurrences z y 0 z.length (z.length+1)).isEmpty
  ·refine Q5q Q6x (Q5p _ _ _) Q6o (Q6i _ _) (meets_str_split_sep z y t u h1 hy hf (by omega) hn) ?_
   show wants _ _ _ {s with toks:=_,heap:=s.heap.push {cls:=.type "list",data:=.seq (strsFrom s.toks (partsBetween z (occurrences z y 0 z.length (z.length+1)) y.length)).toArray}}
   rw[strsFrom_eq]
   have e:(numbered s.toks (partsBetween z (occurrences z y 0 z.length (z.length+1)) y.length)).map (·.1)=Q5b z y:=(numbered_texts s.toks (partsBetween z (occurrences z y 0 z.length (z.length+1)) y.length)).trans ((if_neg (ne_true_of_eq_false h1)).trans (if_neg (ne_true_of_eq_false hf))).symm
   refine fin (numbered s.toks _) _ e ?_
   have e2:=congrArg Q3x (numbered_texts s.toks (partsBetween z (occurrences z y 0 z.length (z.length+1)) y.length))
   rw[Q1s]at e2
   omega
  ·exact Q5q Q6x (Q5p _ _ _) Q6o (Q6i _ _) (meets_str_split_not_found z y t u h1 hy hf)
    (fin [(z,t)] s.toks ((if_neg (ne_true_of_eq_false h1)).trans (if_pos hf)).symm (by show 1<=Q0k;decide))
 ·exact Q5q Q6x (Q5p _ _ _) Q6o (Q6i _ _) (meets_str_split_cannot_occur z y t u h1)
   (fin [(z,t)] s.toks (if_pos h1).symm (by show 1<=Q0k;decide))
def q8a:FM:=fun x xs S Q=>match x,xs with
 |.str z,[.str y]=>(y.length≠0/\z.length+2<=Q0k)/\Q (.ref S.length) (S++[.lst ((Q5b z y).map PV.str)])
 |_,_=>False
theorem q7q{K:Q1n}{H:Hp}{φ:List Q0i}:∀l:List Str,RVs K H φ (l.map PV.str) (l.map V.str)
 |[]=>rfl
 |x::r=>⟨V.str x,r.map V.str,rfl,rfl,q7q r⟩
theorem z1p:MtR X "str.split" (liftM X.K q8a):=by
 rintro pins s σ H x xs v us Q I rx rs ⟨φ,S,px,pxs,Q0,R,hx,hxs,h,k⟩
 unfold q8a at h
 split at h
 ·rename_i z y
  cases hx
  obtain⟨y',rfl,ry⟩:=q0k hxs
  cases ry
  obtain⟨t,rfl⟩:=rx
  obtain⟨u,rfl,ru⟩:=q4z rs
  obtain⟨t',rfl⟩:=ru
  exact L2.mt_split I (by simp[h.1.1]) h.1.2 (k.lst h.2 R (q7q _))
 ·exact h.elim
end
end Ev
namespace Ev
open PySem PySem.Spec PyProof.Rows L2
section
variable{X:Cx}
end
end Ev
namespace Ev
open PySem L2
section
variable{X:Cx}{G:GX}{pos:Pos}
end
end Ev
namespace So
open PySem PySem.W PyProof.Rows
section
variable{prog:Q0l}{w:Q1a}{A:Q0w}{E:Q0a->Q0b->Prop}{σ:Type}
def FS{β:Type}(Q:β->σ->Q0b->Prop)(I:β->σ->Q0b->Prop)(r:ForInStep β)(st':σ)(s':Q0b):Prop:=match r with|.done b'=>Q b' st' s'|.yield b'=>I b' st' s'
def CmpJ(prog:Q0l)(w:Q1a)(A:Q0w)(κ:Q6p)(it:Q7y->Prop)(J:Q0b->Prop):Prop:=
 ∀x y s,it x->it y->J s->Q0y (model prog w) A (keyLt' κ x.1 y.1) (fun _ s'=>J s') (fun _ _=>False) s
variable{κ:Q6p}{it:Q7y->Prop}{J:Q0b->Prop}
end
abbrev T2:=Option (Array Q7y)×Array Q7y×Nat×Nat×Nat×Nat×Nat
section
variable{prog:Q0l}{w:Q1a}{A:Q0w}{E:Q0a->Q0b->Prop}{κ:Q6p}{it:Q7y->Prop}{J:Q0b->Prop}
section
variable(c:CmpJ prog w A κ it J){a b:Array Q7y}{st:SortSt}(hk:kindOf st=κ)(ha:∀x∈a,it x)(hb:∀x∈b,it x)
include c hk ha hb
end
end
section
variable{prog:Q0l}{w:Q1a}{A:Q0w}{E:Q0a->Q0b->Prop}{κ:Q6p}{it:Q7y->Prop}{J:Q0b->Prop}
section
variable(c:CmpJ prog w A κ it J){a b:Array Q7y}{st:SortSt}(hk:kindOf st=κ)(ha:∀x∈a,it x)(hb:∀x∈b,it x)
include c hk ha hb
end
end
section
variable{prog:Q0l}{w:Q1a}{A:Q0w}{E:Q0a->Q0b->Prop}{κ:Q6p}{it:Q7y->Prop}{J:Q0b->Prop}
end
section
variable{prog:Q0l}{w:Q1a}{A:Q0w}{E:Q0a->Q0b->Prop}{κ:Q6p}{it:Q7y->Prop}{J:Q0b->Prop}
section
variable(c:CmpJ prog w A κ it J){st:SortSt}(hk:kindOf st=κ)(hi:∀x∈arrOf st,it x)
include c hk hi
end
end
section
variable{prog:Q0l}{w:Q1a}{A:Q0w}{E:Q0a->Q0b->Prop}{κ:Q6p}{it:Q7y->Prop}{J:Q0b->Prop}
section
variable(c:CmpJ prog w A κ it J){a0:List Q7y}(hi:∀x∈a0,it x)
include c hi
end
end
end So
namespace Ev
open PySem PySem.Spec PyProof.Rows L2
section
variable{X:Cx}{pins:List (Q0i×Obj)}{σ:L2.St}{H:Hp}{s:Q0b}
def KT(K:Q1n)(H:Hp)(v:Q0a):Prop:=∃(b:Q0i)(p q:Int),v=.ref b/\SqT K H b [.int p,.int q]
end
section
variable{X:Cx}{G:GX}{pos:Pos}
end
section
variable{prog:Q0l}{w:Q1a}{A:Q0w}{E:Q0a->Q0b->Prop}{s:Q0b}
end
section
variable{X:Cx}{G:GX}{pos:Pos}
end
section
variable{X:Cx}{G:GX}{pos:Pos}
end
section
variable{prog:Q0l}{w:Q1a}{A:Q0w}{E:Q0a->Q0b->Prop}{s:Q0b}
end
section
variable{X:Cx}{G:GX}{pos:Pos}
end
end Ev
namespace L2
open PySem PySem.Spec PyProof.Rows
open AutoSeq1 (wpAny_loadPart')
section
variable{prog:Q0l}{w:Q1a}{A:Q0w}{E:Q0a->Q0b->Prop}{s:Q0b}
end
end L2
namespace Ev
open PySem PySem.Spec PyProof.Rows L2
section
variable{X:Cx}{G:GX}{pos:Pos}
end
end Ev
namespace L2
open PySem PySem.Spec PyProof.Rows
end L2
namespace Ev
open PySem PySem.Spec PyProof.Rows L2
section
variable{prog:Q0l}{w:Q1a}{A:Q0w}{E:Q0a->Q0b->Prop}{s:Q0b}
end
section
variable{X:Cx}{G:GX}{pos:Pos}
end
section
variable{prog:Q0l}{w:Q1a}{A:Q0w}{E:Q0a->Q0b->Prop}{s:Q0b}
end
section
variable{X:Cx}{G:GX}{pos:Pos}
end
section
variable{X:Cx}{G:GX}
end
end Ev
namespace HT
open PySem PySem.Spec PyProof.Rows L2
section
variable{prog:Q0l}{w:Q1a}{A:Q0w}{E:Q0a->Q0b->Prop}{s:Q0b}
end
end HT
namespace Ev
open PySem PySem.Spec PyProof.Rows L2
section
variable{X:Cx}{G:GX}
end
end Ev
namespace Ev
open PySem L2 PySem.Spec PyProof.Rows
def okB(b:Bool)(v:V):Prop:=(∃n:Int,v=.int n/\n.natAbs.log2<1920)\/b=false/\∃z,v=.str z
def okV:List Bool->List V->Prop
 |[],vs=>vs=[]
 |b::bs,vs=>∃v r,vs=v::r/\okB b v/\okV bs r
def okP(b:Bool):PV->Prop
 |.int n=>n.natAbs.log2<1920
 |.str _=>b=false
 |_=>False
def okF:List Bool->List PV->Prop
 |[],[]=>True
 |b::bs,x::xs=>okP b x/\okF bs xs
 |_,_=>False
theorem okI{v:V}(h:okB true v):∃n:Int,some (some v)=some (some (.int n))/\n.natAbs.log2<1920:=by
 rcases h with⟨n,rfl,h⟩|⟨h,_⟩
 ·exact⟨n,rfl,h⟩
 ·cases h
theorem okV2{b c:Bool}{x y:V}(h:okV [b,c] [x,y]):okB b x/\okB c y:=by
 obtain⟨_,_,e,h,_,_,e',h',_⟩:=h
 cases e;cases e';exact⟨h,h'⟩
theorem z1l{K:Q1n}{H:Hp}{φ:List Q0i}:∀{bs:List Bool}{xs:List PV}{vs:List V},okF bs xs->RVs K H φ xs vs->vs=xs.map toV/\okV bs vs/\xs.length=bs.length
 |[],[],_,_,r=>⟨r,r,rfl⟩
 |[],_::_,_,h,_=>h.elim
 |_::_,[],_,h,_=>h.elim
 |b::bs,x::xs,vs,h,r=>by
  obtain⟨y,ys,rfl,ry,rs⟩:=r
  obtain⟨e,hv,hl⟩:=z1l h.2 rs
  have:y=toV x/\okB b y:=by
   have h1:=h.1
   cases x<;>first|exact h1.elim|skip
   ·cases(show y=_ from ry);exact⟨rfl,.inl ⟨_,rfl,h1⟩⟩
   ·cases(show y=_ from ry);exact⟨rfl,.inr ⟨h1,_,rfl⟩⟩
  exact⟨by rw[Q1c,<-e,<-this.1],⟨y,ys,rfl,this.2,hv⟩,by simp[hl]⟩
theorem q9w:∀(fs:List String)(xs:List PV),(fs.map Q0g).zip (xs.map toV)=(fs.zip xs).map fun p=>(Q0g p.1,toV p.2)
 |[],_=>rfl
 |_::_,[]=>rfl
 |f::fs,x::xs=>by simp only[Q1c,List.zip_cons_cons,q9w fs xs]
structure ExcI(K:Q1n)(mg:Str->Option Q0a)(c:String)(fs:List String)(bs:List Bool):Prop where
 is:∃C g fd ps,Q0v K Q0r (Q0g c)=some (some (.ref C))/\mg (Q0g c)=some (.ref C)/\ExcF K C g (fs.map Q0g)/\(∀P w base,FnOk P w K mg base (CXE P w) 1 g fd ps (z0j K g (fs.map Q0g) (okV bs)))/\q2l K fd ps []
def q2t(c:String)(fs:List String)(bs:List Bool)(wa:WA):WS:=fun _ E σ S=>wa σ S E fun xs S1=>bs.length=fs.length/\bs.length<=100/\okF bs xs/\E (.exc (c,fs.zip xs)) S1
def q6n(cs:List String)(f:String)(w:WE):WE:=fun σ S E Q=>w σ S E fun v S1=>match v with
 |.exc c=>c.1∈cs/\(match c.2.lookup f with
  |some (.int n)=>Q (.int n) S1
  |some (.str z)=>Q (.str z) S1
  |_=>False)
 |_=>False
structure HFld(K:Q1n)(cs:List String)(f:String):Prop where
 is:∀c∈cs,∃C,Q0v K Q0r (Q0g c)=some (some (.ref C))/\ExcG K C (Q0g f)
theorem HFld.nil{K:Q1n}{f:String}:HFld K [] f:=⟨fun _ h=>nomatch h⟩
theorem HFld.cons{K:Q1n}{f c:String}{cs:List String}{C:Q0i}(a:Q0v K Q0r (Q0g c)=some (some (.ref C)))(g:ExcG K C (Q0g f))(h:HFld K cs f):HFld K (c::cs) f:=⟨fun d hd=>by
 rcases Q1h.mp hd with rfl|hd
 ·exact ⟨C,a,g⟩
 ·exact h.is d hd⟩
theorem z8g{a b:String}(h:Q0g a=Q0g b):a=b:=by
 rw[Q7t,Q7t]at h
 injection h with h
 have h2:a.toList.map Z0z=b.toList.map Z0z:=by injection h
 have h3:a.toList=b.toList:=List.map_inj_right (fun x y e=>Char.ext (UInt32.toNat_inj.mp e)) |>.mp h2
 exact String.toList_inj.mp h3
theorem q3z{f:String}{u:PV}:∀{fs:List (String×PV)},fs.lookup f=some u->(fs.map fun p=>(Q0g p.1,toV p.2)).lookup (Q0g f)=some (toV u)
 |[],h=>nomatch h
 |p::fs,h=>by
  simp only[Q1c]
  by_cases z:f=p.1
  ·subst z
   simp only[Q2k,beq_self_eq_true]at h ⊢
   cases h;rfl
  ·have z1:(f==p.1)=false:=beq_eq_false_iff_ne.mpr z
   have z2:(Q0g f==Q0g p.1)=false:=beq_eq_false_iff_ne.mpr fun e=>z (z8g e)
   simp only[Q2k,z1,z2]at h ⊢
   exact q3z h
section
variable{X:Cx}{G:GX}{pos:Pos}
theorem q8u{c:String}{fs:List String}{bs:List Bool}{k:Nat}{x:Str}{np cpos:Pos}{e0:Expr}{es:List Expr}{wa:WA}(C:ExcI X.K X.mg c fs bs)(hx:q1m (CXE X.prog X.w) X (xkOf X.K G.xh))(hc:X.calm=true)(hr:Room (k+2) X.A)(ha:SimA X G (e0::es) wa)(ex:x=Q0g c:=by rfl)(hg:Gl X x:=by rfl)
  (hd:(x==("__debug__" : Str))=false:=by decide) (he:Q0t (e0::es) X.env=(false,eval e0 X.env)::Q0t es X.env:=by rfl) (hpl:(backTo cpos (Q0t (e0::es) X.env)).any (·.1)=false:=by rfl):SimS X G (.Raise (some (.Call (.Name x np) (e0::es) [] cpos)) none pos) (q2t c fs bs wa):=by
 obtain⟨C,g,fd,ps,h1,h2,F,hG,hb⟩:=C.is
 subst ex
 refine(z1b hx hc hg h2 F (hG _ _ _) (hr.mono (by omega)) hb ha hd he hpl).imp fun D σV H ⟨φ,σ,S,D0,L,R,h,k⟩=>⟨φ,σ,S,_,L,R,h,fun v S1 φ1 H1 x hh1 p1 m1 R1 r1=>?_⟩
 obtain⟨hb,hz,hok,q⟩:=hh1
 obtain⟨e,hv,hl⟩:=z1l hok r1
 subst e
 refine⟨by rw[Q1s,Q1s,hl,hb],?_,hv,fun d hd=>?_⟩
 ·rw[Q1s,hl,Q2n];omega
 rw[q9w]
 exact⟨.exc (c,fs.zip v),⟨_,C,rfl,rfl,h1,.inr ⟨d,rfl,q0d⟩⟩,(L.mono m1 p1).kx _ S1 φ1 _ q (Q0d _) (.new _ hd) (R1.frame _ hd)⟩
theorem q7s{cs:List String}{f:String}{x:Str}{e:Expr}{w:WE}(F:HFld X.K cs f)(he:SimE X G e w)(ex:x=Q0g f:=by rfl)(hb:attributeBase e x X.env (eval e X.env)=eval e X.env:=by rfl):SimE X G (.Attribute e x pos) (q6n cs f w):=by
 subst ex
 refine(z4s he hb).imp fun σV H Q ⟨φ,σ,S,Q0,L,R,h,k⟩=>⟨φ,σ,S,_,L,R,h,fun v S1 φ1 H1 x q p1 m1 R1 r1=>?_⟩
 cases v<;>first|exact q.elim|skip
 rename_i c
 obtain⟨hc,q⟩:=q
 obtain⟨a,rfl,C,dx,hx,hn,hf⟩:=r1
 obtain⟨C',hn',hg⟩:=F.is _ hc
 rw[hn]at hn'
 cases hn'
 rcases hf with e|⟨d,rfl,hd⟩
 ·rw[e]at q;exact q.elim
 cases hu:c.2.lookup f with
 |none=>rw[hu]at q;exact q.elim
 |some u=>
  rw[hu]at q
  refine⟨a,C,d,_,toV u,rfl,hx,hd,hg,q3z hu,?_⟩
  cases u<;>first|exact q.elim|exact k _ S1 φ1 H1 _ q p1 m1 R1 rfl
end
def cbod:Q3t->List Q3t
 |.ClassDef _ _ _ b _ _ _ _ _ _ _=>b
 |_=>[]
theorem y1q{K:Q1n}{C:Q0i}:∀n∈([]:List String).map Q0g,Q1j K (.ref C) n=some none:=fun _ h=>nomatch h
theorem z1o{K:Q1n}{C:Q0i}{f:String}{fs:List String}(a:Q1j K (.ref C) (Q0g f)=some none)(h:∀n∈fs.map Q0g,Q1j K (.ref C) n=some none):∀n∈(f::fs).map Q0g,Q1j K (.ref C) n=some none:=fun n hn=>by
 rcases Q1h.mp hn with rfl|hn
 ·exact a
 ·exact h n hn
def z3k(K:Q1n)(qual:Str)(st:Q3t)(f:Q0i):Prop:=∃fd,Fun K "__init__" qual st f fd
theorem z3k.mk{K:Q1n}{qual:Str}{st:Q3t}{f:Q0i}{oc:Q0a}{od an:Option Q0i}{osl:Array (Option Q0a)}{kV doc pm cdv ct:Q0a}(l:K.lookup f=some ⟨oc,od,.func (Q2q "__init__" qual (q1j st) (q0u st) (q0e st) .none kV doc pm an cdv ct),osl⟩)
  (c:Q3z K cdv qual=true) (k:Q3c K (.ref f)=true):z3k K qual st f:=⟨_,⟨_,_,_,_,_,_,_,_,_,rfl,l,c⟩,k⟩
theorem z3k.get{K:Q1n}{qual:Str}{st:Q3t}{f:Q0i}{ps:List Str}(i:z3k K qual st f)
  (b:∀(kV doc pm:Q0a)(an:Option Q0i)(cdv ct:Q0a)(us:List Q0a),us.length=ps.length->bindArgs (Q2q "__init__" qual (q1j st) (q0u st) (q0e st) .none kV doc pm an cdv ct) ⟨us,[]⟩=pure (ps.zip us)) :
  ∃fd,Fun K "__init__" qual st f fd/\q2l K fd ps []:=by
 obtain⟨fd,F⟩:=i
 exact⟨fd,F,F.binds b⟩
end Ev
namespace Ev
open PySem PySem.Spec PyProof.Rows L2
abbrev SimF(P:Q0l)(w:Q1a)(K:Q1n)(mg:Str->Option Q0a)(base:Q0z)(k:Nat)(x:Str)(N:List Str)(st:Q3t)(W:WS)(f:Q0i):Prop:=∀{cdv:Q0a}{A:Q0w}{outer:List Env}{s:Q0b}{H:Hp}{E:XK}{G:GX},RoomW k (A.deeper (envOfC x (q0e st) s.heap.objs.size f cdv))->Room k (A.deeper (envOfC x (q0e st) s.heap.objs.size f cdv))->q1m (CXE P w) (cxOf (CXE P w) P w K mg base N x (q0e st) f cdv A outer s H E) (xkOf K G.xh)->(A.deeper (envOfC x (q0e st) s.heap.objs.size f cdv)).units+200<cLine->N.Nodup->q3u (cxOf (CXE P w) P w K mg base N x (q0e st) f cdv A outer s H E) G (q0u st) W
section
variable{P:Q0l}{w:Q1a}{K:Q1n}{mg:Str->Option Q0a}{base h:Q0z}{k:Nat}{x:Str}{N ps:List Str}{st:Q3t}{W:WS}{f:Q0i}{fd:Q1u}
theorem sco{sc:Q3n}(h1:sc.kind=.function)(h2:sc.isCoroutine=false)(h3:sc.isGenerator=false)(h:N.Nodup/\N.take ps.length=ps/\(∀x∈ps,sc.names.lookup x=some .local\/sc.names.lookup x=some .cell)/\∀y∈sc.names,y.2≠.free):FnScope N ps sc:=⟨h1,h2,h3,h.1,h.2.1,h.2.2.1,h.2.2.2⟩
theorem _root_.L2.Loc2.sim(l:Loc2 K mg x st ps f fd)(h:SimF P w K mg base k x N st W f)(sc:FnScope N ps (q0e st):=by exact sco rfl rfl rfl (by decide +kernel)):Cal P w K mg base (k+1) x ps (q0s K (fnP ps.length N.length W)) f fd:=
 l.cal (y2l l.F sc fun _ _ _ _ _ _ _ hr hx=>h hr hr.toRoom hx (by have:=hr.un;omega) sc.nd)
def FnIn(K:Q1n)(x:Str)(st:Q3t)(f:Q0i):Prop:=Q0v K Q0r x=some (some (.ref f))/\∃fd,Fun K x x st f fd
theorem FnIn.mk{oc:Q0a}{od an:Option Q0i}{osl:Array (Option Q0a)}{kV doc pm cdv ct:Q0a}(a:Q0v K Q0r x=some (some (.ref f)))(l:K.lookup f=some ⟨oc,od,.func (Q2q x x (q1j st) (q0u st) (q0e st) .none kV doc pm an cdv ct),osl⟩)
  (c:Q3z K cdv x=true) (k:Q3c K (.ref f)=true):FnIn K x st f:=⟨a,_,y2k l c k⟩
theorem FnIn.gl(i:FnIn K x st f)(X:K.In h)(G:h.Ns Q0r mg):mg x=some (.ref f):=Q1z X G i.1
theorem FnIn.loc(i:FnIn K x st f)(X:K.In h)(G:h.Ns Q0r mg)
  (b:∀(kV doc pm:Q0a)(an:Option Q0i)(cdv ct:Q0a)(us:List Q0a),us.length=ps.length->bindArgs (Q2q x x (q1j st) (q0u st) (q0e st) .none kV doc pm an cdv ct) ⟨us,[]⟩=pure (ps.zip us)) :
  ∃fd,Loc2 K mg x st ps f fd/\∀us,us.length=ps.length->bindArgs fd ⟨us,[]⟩=pure (ps.zip us):=by
 obtain⟨a,fd,F⟩:=i
 obtain⟨oc,od,kV,doc,pm,an,cdv,ct,osl,rfl,lk,hcd⟩:=id F.ex
 exact⟨_,⟨F,Q1z X G a,F.binds b⟩,b kV doc pm an cdv ct⟩
end
section
variable{P:Q0l}{w:Q1a}{K:Q1n}{mg:Str->Option Q0a}{base h:Q0z}{k:Nat}{g x:Str}{N ps:List Str}{st:Q3t}{W:WS}{f:Q0i}{fd:Q1u}
end
end Ev
namespace FA
inductive Fo(α:Type) where
 |b (s:α)|n (l:Bool) (x y:Fo α)
inductive Tk(α:Type) where
 |nm (s:α)|op|cl|sl (l:Bool)|bad
inductive It(α:Type) where
 |f (x:Fo α)|o|s (l:Bool)
variable{α:Type}
def aw:List (It α)->Bool
 |.s _::.f _::_=>true
 |_=>false
def lay(x:Fo α):List (It α)->List (It α)
 |.s b::.f l::r=>.f (.n b l x)::r
 |st=>.f x::st
def cls:List (It α)->Option (List (It α))
 |.f (.n b x y)::.o::r=>if aw r=true then some (lay (.n b x y) r)else none
 |_=>none
def step(st:List (It α)):Tk α->Option (List (It α))
 |.cl=>cls st
 |.op=>some (.o::st)
 |.sl b=>some (.s b::st)
 |.nm s=>some (lay (.b s) st)
 |.bad=>none
def run:List (It α)->List (Tk α)->Option (List (It α))
 |st,[]=>some st
 |st,t::ts=>(step st t).bind fun st'=>run st' ts
def one:Option (List (It α))->Option (Fo α)
 |some [.f x]=>some x
 |_=>none
mutual
def tk:Fo α->List (Tk α)
 |.b s=>[.nm s]
 |.n l x y=>tk x++.sl l::tkr y
def tkr:Fo α->List (Tk α)
 |.b s=>[.nm s]
 |.n l x y=>.op::(tk x++.sl l::tkr y)++[.cl]
end
def itk:It α->List (Tk α)
 |.f x=>tk x
 |.o=>[.op]
 |.s l=>[.sl l]
def stk:List (It α)->List (Tk α)
 |[]=>[]
 |i::r=>stk r++itk i
def nms:List (Tk α)->List α
 |[]=>[]
 |.nm s::r=>s::nms r
 |_::r=>nms r
def lvs:Fo α->List α
 |.b s=>[s]
 |.n _ x y=>lvs x++lvs y
end FA
namespace FA
variable{γ:Type} [DecidableEq γ]
section
variable(L:γ->Bool)
def cut(r:List γ):List (List γ):=if r=[]then[]else[r]
def go:List γ->List γ->List (List γ)
 |r,[]=>cut r
 |r,c::cs=>if L c=true then go (r++[c]) cs else cut r++[c]::go [] cs
end
section
variable(L:γ->Bool)(o c:γ)(sl:Bool->γ)
def txt:Tk (List γ)->List γ
 |.nm s=>s
 |.op=>[o]
 |.cl=>[c]
 |.sl b=>[sl b]
 |.bad=>[]
def nam(s:List γ):Bool:=!s.isEmpty&&decide (s.length<=8)&&s.all L
def cla(p:List γ):Tk (List γ):=
 if p=[c]then .cl else if p=[o]then .op else if p=[sl false]then .sl false else if p=[sl true]then .sl true else if nam L p=true then .nm p else .bad
end
section
variable{L:γ->Bool}{o c:γ}{sl:Bool->γ}
def Okf(L:γ->Bool):Fo (List γ)->Prop
 |.b s=>nam L s=true
 |.n _ x y=>Okf L x/\Okf L y
end
end FA
namespace FA
variable{γ:Type} [DecidableEq γ] {L:γ->Bool} {o c:γ} {sl:Bool->γ}
def toks(L:γ->Bool)(o c:γ)(sl:Bool->γ)(t:List γ):List (Tk (List γ)):=(go L [] t).map (cla L o c sl)
def okN(L:γ->Bool)(ts:List (Tk (List γ))):Prop:=∀s,.nm s∈ts->nam L s=true
end FA
namespace My
open PySem L2 Ev
local macro_rules | `(tactic| dsimp! [$xs,*]) => do
 let ns := (("wSet wAsg q1q z3m sSet wIfS q2h wTru truK wOr wNot q8n z3n wIf wNeg wBin wVar wC wCB q0c wNil wLst wRet q6o q1f wBM wSl bSl q9z q2u q2v wFor q8m q1s q6p q3v q4g y2x bAdd bI q3t bMod bMul cLt cGt y2w y2v y2u y3x wTry q7o q7n z6m z6l z7z wIsX ix_t ix_s ix_f ix_r q1d q9i fLen fIsi tyP z2q q4h fInt fStr q1h q9h z6e List.getElem?_cons_zero List.getElem?_cons_succ List.set_cons_zero List.set_cons_succ List.map_cons List.map_nil List.replicate List.cons_append List.nil_append List.length_cons List.length_nil q6m q6l z7j z8o true_and if_true Bool.false_eq_true if_false Bool.not_true Bool.not_false z5k y1z y2a z8s q2j q2e q3k q3l q2k q5s q4v q7f q7g q5t q7d q5r q9n q9o q7e q6z q5o q9l q9m q7a q4s q3r q5m q5n q4t q5p q4u q7b q7c q5q z8i y1p z8j z8h z6i q8f z1m decide_eq_true_eq and_self and_true decide_true decide_false not_true_eq_false not_false_eq_true Int.cast_ofNat_Int Int.reduceEq Int.reduceNeg Nat.reduceSub Nat.sub_self Bool.not_eq_true' decide_eq_false_iff_not Nat.reduceAdd q2t q6n okF okP".splitOn " ").map fun z => Q7u z.toName).toArray
 let ds := (("wSet wAsg q1q z3m sSet wIfS q2h wTru truK wOr wNot q8n z3n wIf wNeg wBin wVar wC wCB q0c wNil wLst wRet q6o q1f wBM wSl bSl q9z q2u q2v wFor q8m q1s q6p q3v q4g y2x bAdd bI q3t bMod bMul cLt cGt wTry q7o q7n z6m z6l z7z wIsX ix_t ix_s ix_f ix_r q9i fLen fIsi tyP z2q q4h fInt fStr q1h q9h z6e true_and q2t q6n List.getElem?_cons_zero List.getElem?_cons_succ List.set_cons_zero List.set_cons_succ List.map_cons List.map_nil List.cons_append List.nil_append".splitOn " ").map fun z => Q7u z.toName).toArray
 `(tactic| first|(dsimp only[$[$ds:ident],*];first|simp only[$[$ns:ident],*, $xs,*]|skip)|simp only[$[$ns:ident],*, $xs,*])
def mk(l:List Nat):Str:=⟨l.toArray⟩
theorem q1a(l:List Nat):(mk l).cps.toList=l:=rfl
theorem q1r(l:List Nat):(mk l).length=l.length:=by simp[mk,Q9f]
theorem z8m(z:Str):mk z.cps.toList=z:=rfl
theorem z1r(a b:List Nat):mk a++mk b=mk (a++b):=by
 apply q6r
 rw[q2r,q1a,q1a,q1a]
theorem y2s(c:Nat):(⟨#[c]⟩:Str)=mk [c]:=rfl
def isL(c:Nat):Bool:=inS ⟨#[c]⟩ (Q0g "abcdefghijklmnopqrstuvwxyz")
def z8k(z:Str):Bool:=!decide (z.length=0)&&!decide (8<z.length)&&z.cps.toList.all isL
def q0p:WS:=
 (wSeq (wIfS (q2h (wBin cLt (wVar 1) (wCB fLen (q0c (wVar 0) wNil))))
 (wRet (wBin bIx (wVar 0) (wVar 1)))
 q2v)
 (wRet (wC (.int 0))))
def q0v:WS:=
 (wSeq (wSet 2 (wC (.str "abcdefghijklmnopqrstuvwxyz")))
 (wSeq (wSet 3 (wBin bAdd (wC (.int 1)) (wBin bMod (wVar 0) (wC (.int 8)))))
 (wSeq (wSet 4 (wBin bMod (wBin q3t (wVar 0) (wC (.int 8))) (wVar 3)))
 (wSeq (wSet 5 (wBin bAdd (wBin bMod (wBin q3t (wVar 0) (wC (.int 64))) (wC (.int 2147483646))) (wC (.int 1))))
 (wSeq (wSet 6 (wLst wNil))
 (wSeq (wFor (q1s (q0c (wVar 3) wNil)) (q1q 7) (wSeq (wSet 5 (wBin bMod (wBin bMul (wVar 5) (wC (.int 48271))) (wC (.int 2147483647))))
 (q6o (wBM "list" q1h (wVar 6) (q0c (wBin bMod (wBin q3t (wVar 5) (wC (.int 1000))) (wC (.int 26))) wNil)))))
 (wSeq (wSet 8 (wLst wNil))
 (wSeq (wFor (q1s (q0c (wVar 1) wNil)) (q1q 7) (wSeq (wSet 9 (wBin bAdd (wBin bAdd (wSl (wVar 6) q2u (q9z (wVar 4))) (wLst (q0c (wBin bMod (wBin bAdd (wBin bIx (wVar 6) (wVar 4)) (wVar 7)) (wC (.int 26))) wNil))) (wSl (wVar 6) (q9z (wBin bAdd (wVar 4) (wC (.int 1)))) q2u)))
 (q6o (wBM "list" q1h (wVar 8) (q0c (wBM "str" q9h (wC (.str "")) (q0c (q6p (q8m (wVar 9)) [none,some 2] (q1q 0) q3v (wBin bIx (wVar 1) (wVar 0))) wNil)) wNil)))))
 (wRet (wVar 8))))))))))
def q0x:WS:=
 (wSeq (wSet 1 (wC (.str "abcdefghijklmnopqrstuvwxyz")))
 (wSeq (wSet 2 (wC (.str "")))
 (wSeq (wSet 3 (wBin q3t (wVar 0) (wC (.int 8))))
 (wSeq (wFor (q1s (q0c (wBin bAdd (wC (.int 1)) (wBin bMod (wVar 0) (wC (.int 8)))) wNil)) (q1q 4) (wSeq (wSet 2 (wBin bAdd (wVar 2) (wBin bIx (wVar 1) (wBin bMod (wVar 3) (wC (.int 26))))))
 (wSet 3 (wBin q3t (wVar 3) (wC (.int 26))))))
 (wRet (wVar 2))))))
open FA (Fo It Tk aw lay)
abbrev F5:=Fo (List Nat)
abbrev I5:=It (List Nat)
theorem z5x(xs:List PV)(k:Nat)(h:k<xs.length):atI xs (-1-(k:Int))=xs[xs.length-1-k]?:=by
 unfold atI ixN
 rw[if_neg (by omega),if_pos (by omega)]
 rw[Q6a]
 congr 1
 omega
theorem y3u(xs:List PV)(a:PV):atI (xs++[a]) (-1)=some a:=by
 have:=z5x (xs++[a]) 0 (by simp)
 simpa using this
open FA (Fo It Tk aw lay cls)
theorem atI0(a:PV)(r:List PV):atI (a::r) 0=some a:=by
 unfold atI ixN
 simp
open FA (Fo It Tk aw lay cls run step tk tkr itk stk nms lvs)
open FA (Fo It Tk aw lay cls run step tk tkr itk stk nms lvs)
open FA (Fo It Tk aw lay cls step tk tkr itk stk nms lvs)
open FA (Fo It Tk aw lay cls step tk tkr itk stk nms lvs)
open FA (Fo It Tk aw lay cls step tk tkr itk stk nms lvs)
open FA (Fo It Tk aw lay cls step tk tkr itk stk nms lvs)
open FA (Fo It Tk aw lay cls step tk tkr itk stk nms lvs Okf)
def nod:F5->Nat
 |.b _=>1
 |.n _ x y=>nod x+nod y+1
def tl(fs:List F5):Nat:=(fs.map fun f=>(lvs f).length).sum
def tn(fs:List F5):Nat:=(fs.map nod).sum
open FA (Fo It Tk aw lay cls step tk tkr itk stk nms lvs Okf)
theorem rng5(n:Nat):(rngP 0 n).length=n:=by unfold rngP;simp
def isAB(c:Nat):Bool:=inS ⟨#[c]⟩ (Q0g "ab")
def wo:List Nat->List Nat->List (List Nat)
 |_,[]=>[]
 |r,c::cs=>if isAB c=true then wo (r++[c]) cs else if r=[]then wo [] cs else r::wo [] cs
open FA (Fo It Tk aw lay cls step tk tkr itk stk nms lvs Okf)
theorem q5z:∀l:List Str,eqBs (l.map PV.str) (l.map PV.str)=true
 |[]=>rfl
 |z::r=>by
  show(eqB (.str z) (.str z)&&eqBs (r.map PV.str) (r.map PV.str))=true
  rw[q5z r,q8f]
  simp
def low5(ks:List Nat):Prop:=∀k∈ks,k<26
def Nm5(ks:List Nat):Prop:=1<=ks.length/\ks.length<=8/\low5 ks
theorem z5y(c:Nat):(⟨#[97+c]⟩:Str)=wd [c]:=rfl
theorem q4r{a b:List Nat}(ha:low5 a)(hb:low5 b):low5 (a++b):=fun k hk=>by
 rcases Q3p.mp hk with z|z
 ·exact ha k z
 ·exact hb k z
theorem q6v{k:Nat}(h:k<26):low5 [k]:=fun m hm=>by rw[Q1l]at hm;subst hm;exact h
def z6k(sp:Den):Prop:=∀(cell:Int)(S:q0a)(E:EK)(Q:VC),(∀ks,Nm5 ks->Q (.str (wd ks)) S)->sp [.int cell] S E Q
theorem z3l:z6k (fnP 1 5 q0x):=by
 intro cell S E Q h
 refine⟨rfl,?_⟩
 unfold q0x
 refine seqI fun K hK=>?_
 dsimp![true_and]
 refine hK _ _ ?_
 clear hK K
 refine seqI fun K hK=>?_
 dsimp![true_and]
 refine hK _ _ ?_
 clear hK K
 refine seqI fun K hK=>?_
 dsimp![true_and]
 refine⟨⟨by decide,by decide⟩,hK _ _ ?_⟩
 clear hK K
 refine seqI fun K hK=>?_
 obtain⟨k,hk,hk1,hk8⟩:∃k:Nat,1+cell % 8=(k:Int)/\1<=k/\k<=8:=⟨(1+cell % 8).toNat,by omega,by omega,by omega⟩
 dsimp![hk]
 clear hk
 refine⟨by decide,⟨by omega,by omega⟩,?_⟩
 rw[Q3d]
 refine forI (fun rest σ S1=>S1=S/\∃(cs:List Nat)(r:Int)(j:Option PV),σ=[some (.int cell),some (.str "abcdefghijklmnopqrstuvwxyz"),some (.str (wd cs)),some (.int r),j]/\cs.length+rest.length=k/\low5 cs) ?_ ?_ _ _ _ ⟨rfl,[],_,none,by rw[z5r],by rw[rng5];simp,fun _ h=>by cases h⟩
 ·rintro σ S1 ⟨rfl,cs,r,j,rfl,hl,hc⟩
  refine⟨trivial,hK _ _ ?_⟩
  dsimp![true_and]
  rw[Q1k]at hl
  exact h cs ⟨by omega,by omega,hc⟩
 ·rintro x rr σ S1 ⟨rfl,cs,r,j,rfl,hl,hc⟩ N hN
  rw[Q0q]at hl
  refine⟨trivial,?_⟩
  dsimp![true_and]
  refine seqI fun K2 hK2=>?_
  have h0:=Q5c r (show(26:Int)≠0 by decide)
  have h1:=Q4d r (show(0:Int)<26 by decide)
  dsimp![q4c h0 h1]
  rw[z5y,z9s,q4x,q4x]
  refine⟨by decide,q3g,big (by simp only[Q0q,Q1k];omega),hK2 _ _ ?_⟩
  dsimp![true_and]
  exact⟨⟨by decide,by decide⟩,hN _ _ ⟨rfl,cs++[(r % 26).toNat],_,_,rfl,by simp only[Q0s,Q0q,Q1k];omega,q4r hc (q6v (by omega))⟩⟩
def iv(ks:List Nat):List PV:=ks.map fun k=>PV.int (k:Nat)
theorem q3j(ks:List Nat):(iv ks).length=ks.length:=by simp[iv]
def wpv(ws:List (List Nat)):List PV:=ws.map fun w=>PV.str (wd w)
theorem z9i(ks:List Nat){a:Nat}(h:a<=ks.length):cutP (iv ks) none (some (a:Int))=iv (ks.take a):=by
 unfold cutP
 rw[HT.sIx_none,HT.sIx_nat,q3j,Q9r h,List.drop_zero,Q7z]
 simp[iv,List.map_take]
theorem z9h(ks:List Nat){a:Nat}(h:a<=ks.length):cutP (iv ks) (some (a:Int)) none=iv (ks.drop a):=by
 unfold cutP
 rw[HT.sIx_none,HT.sIx_nat,q3j,Q9r h,Q7n (by simp[iv])]
 simp[iv,List.map_drop]
theorem y3w(ks:List Nat){a:Nat}(h:a<ks.length):atI (iv ks) (a:Int)=some (.int (ks[a]:Nat)):=by
 unfold atI ixN
 rw[if_pos (by omega),q3j,if_pos (by omega)]
 simp[iv,h]
theorem q6y{w:List Nat}(h:w.length<=100):((w.map fun n=>wd [n]).map (·.length)).sum+(w.map fun n=>wd [n]).length*(Q0g "").length<=16777216:=by
 rw[show(Q0g "").length=0 by decide +kernel,Nat.mul_zero,Q8a]
 have:((w.map fun n=>wd [n]).map (·.length)).sum=w.length:=by
  clear h
  induction w with
  |nil=>rfl
  |cons a r ih=>
   simp only[Q1c,Z0b,Q0q]
   rw[ih,q4x]
   simp;omega
 omega
theorem q7z{x:PV}{n:Nat}(h:x∈rngP 0 n):∃i:Nat,i<n/\x=.int (i:Nat):=by
 unfold rngP at h
 obtain⟨i,hi,rfl⟩:=Z0k.mp h
 rw[Q6y]at hi
 exact⟨i,hi,by simp⟩
def z3g(sp:Den):Prop:=∀(cell:Int)(m:Nat)(S:q0a)(E:EK)(Q:VC),m<=100->
 (∀(r:Nat)(ws:List (List Nat)) S',ws.length=m->(∀w∈ws,Nm5 w)->S.length<=r->S'[r]?=some (.lst (wpv ws))->Ex [] S S'->Q (.ref r) S')->sp [.int cell,.int (m:Nat)] S E Q
theorem q9x:z3g (fnP 2 10 q0v):=by
 intro cell m S E Q hm h
 refine⟨rfl,?_⟩
 unfold q0v
 obtain⟨sz,hsz,hz1,hz8⟩:∃k:Nat,1+cell % 8=(k:Int)/\1<=k/\k<=8:=⟨(1+cell % 8).toNat,by omega,by omega,by omega⟩
 obtain⟨a,ha,ha1⟩:∃a:Nat,cell / 8 % (sz:Int)=(a:Int)/\a<sz:=by
  have:=Q5c (cell / 8) (show(sz:Int)≠0 by omega)
  have:=Q4d (cell / 8) (show(0:Int)<sz by omega)
  exact⟨(cell / 8 % (sz:Int)).toNat,by omega,by omega⟩
 refine seqI fun K hK=>?_
 dsimp![true_and]
 refine hK _ _ ?_
 clear hK K
 refine seqI fun K hK=>?_
 dsimp![hsz]
 refine⟨by decide,hK _ _ ?_⟩
 clear hK K
 refine seqI fun K hK=>?_
 dsimp![ha]
 clear ha hsz
 refine⟨⟨by decide,by decide⟩,by omega,hK _ _ ?_⟩
 clear hK K
 refine seqI fun K hK=>?_
 dsimp![true_and]
 refine⟨⟨by decide,by decide⟩,by decide,hK _ _ ?_⟩
 clear hK K
 refine seqI fun K hK=>?_
 dsimp![true_and]
 refine⟨big (by decide),hK _ _ ?_⟩
 clear hK K
 refine seqI fun K hK=>?_
 dsimp![true_and]
 refine⟨⟨by omega,by omega⟩,?_⟩
 rw[Q3d]
 refine forI (fun rest σ S1=>∃(ks:List Nat)(num:Int)(j:Option PV),σ=[some (.int cell),some (.int (m:Nat)),some (.str "abcdefghijklmnopqrstuvwxyz"),some (.int (sz:Nat)),some (.int (a:Nat)),some (.int num),some (.ref S.length),j,none,none]/\ks.length+rest.length=sz/\low5 ks/\S1[S.length]?=some (.lst (iv ks))/\Ex [] S S1) ?_ ?_ _ _ _ ⟨[],_,none,rfl,by rw[rng5];simp,(fun _ h=>by cases h),q1d _ _,Ex.new _ _ _⟩
 ·rintro σ S1 ⟨ks,num,j,rfl,hl,hlo,hs,hx⟩
  rw[Q1k,Q8a]at hl
  refine⟨trivial,hK _ _ ?_⟩
  clear hK K
  refine seqI fun K hK=>?_
  dsimp![true_and]
  refine⟨big (by decide),hK _ _ ?_⟩
  clear hK K
  refine seqI fun K hK=>?_
  dsimp![true_and]
  refine⟨⟨by omega,by omega⟩,?_⟩
  rw[Q3d]
  have lS:S.length<S1.length:=z5d hs
  refine forI (fun rest σ S2=>∃(ws:List (List Nat))(j j2:Option PV),σ=[some (.int cell),some (.int (m:Nat)),some (.str "abcdefghijklmnopqrstuvwxyz"),some (.int (sz:Nat)),some (.int (a:Nat)),some (.int num),some (.ref S.length),j,some (.ref S1.length),j2]/\ws.length+rest.length=m/\(∀w∈ws,Nm5 w)/\S2[S.length]?=some (.lst (iv ks))/\S2[S1.length]?=some (.lst (wpv ws))/\Ex [] S S2/\∀x∈rest,∃i:Nat,i<m/\x=.int (i:Nat)) ?_ ?_ _ _ _ ⟨[],_,none,rfl,by rw[rng5];simp,(fun _ h=>by cases h),q2f hs _,q1d _ _,hx.app _,fun x hx=>q7z hx⟩
  ·rintro σ S2 ⟨ws,j,j2,rfl,hl2,hna,g1,g2,hx2,-⟩
   refine⟨trivial,hK _ _ ?_⟩
   dsimp![true_and]
   exact h S1.length ws S2 (by simpa using hl2) hna (by have:=hx.1;omega) g2 hx2
  ·rintro x r σ S2 ⟨ws,j,j2,rfl,hl2,hna,g1,g2,hx2,hr⟩ N hN
   obtain⟨i,hi,rfl⟩:=hr x (by simp)
   rw[Q0q]at hl2
   refine⟨trivial,?_⟩
   dsimp![true_and]
   refine seqI fun K2 hK2=>?_
   have al:a<ks.length:=by omega
   have e1:=z9i ks (Q4z al)
   have e2:=z9h ks (a:=a+1) (by omega)
   have g1a:=q2f g1 [SO.lst (iv (ks.take a))]
   dsimp![q0y g1,e1,g1a,y3w ks al]
   have q0:0<=(((ks[a]:Nat):Int)+(i:Nat)) % 26:=Q5c _ (by decide)
   have q1:(((ks[a]:Nat):Int)+(i:Nat)) % 26<26:=Q4d _ (by decide)
   obtain⟨q,hq,hq26⟩:∃q:Nat,(((ks[a]:Nat):Int)+(i:Nat)) % 26=(q:Int)/\q<26:=⟨((((ks[a]:Nat):Int)+(i:Nat)) % 26).toNat,by omega,by omega⟩
   rw[hq]
   have gA:=q2f (q1d S2 (SO.lst (iv (ks.take a)))) [SO.lst [PV.int (q:Nat)]]
   have gB:=fun C=>q2f (q2f g1a [SO.lst [PV.int (q:Nat)]]) [SO.lst C]
   have gC:=fun C D=>q2f (q1d (S2++[SO.lst (iv (ks.take a))]++[SO.lst [PV.int (q:Nat)]]) (SO.lst C)) [SO.lst D]
   have c1:((a:Nat):Int)+1=((a+1:Nat):Int):=by omega
   simp only[q3d gA]
   refine⟨by decide,by decide,by rw[q3j,Q3h];exact big (by simp only[Q0q,Q1k];omega),?_⟩
   simp only[q0y (gB _),c1,e2,q3d (gC _ _)]
   have row:iv (ks.take a)++[PV.int (q:Nat)]++iv (ks.drop (a+1))=iv (ks.take a++[q]++ks.drop (a+1)):=by simp[iv]
   have rl:(ks.take a++[q]++ks.drop (a+1)).length=sz:=by
    simp only[Q0s,Q3h,Q4p,Q0q,Q1k];omega
   have rlo:low5 (ks.take a++[q]++ks.drop (a+1)):=q4r (q4r (fun k hk=>hlo k (List.mem_of_mem_take hk)) (q6v hq26)) fun k hk=>hlo k (List.mem_of_mem_drop hk)
   refine⟨by simp only[Q0s,q3j,Q3h,Q4p,Q0q,Q1k];exact big (by omega),hK2 _ _ ?_⟩
   clear hK2 K2 gA gB gC c1 e1 e2 g1a
   rw[row]
   generalize ks.take a++[q]++ks.drop (a+1)=rw at rl rlo ⊢
   have y1:Ex [] S2 (S2++[SO.lst (iv (ks.take a))]++[SO.lst [PV.int (q:Nat)]]++[SO.lst (iv (ks.take a)++[PV.int (q:Nat)])]++[SO.lst (iv (ks.drop (a+1)))]):=(((Ex.new [] S2 _).app _).app _).app _
   generalize S2++[SO.lst (iv (ks.take a))]++[SO.lst [PV.int (q:Nat)]]++[SO.lst (iv (ks.take a)++[PV.int (q:Nat)])]++[SO.lst (iv (ks.drop (a+1)))]=S3 at y1 ⊢
   have y2:=y1.app [SO.lst (iv rw)]
   have gr:=q1d S3 (SO.lst (iv rw))
   generalize S3++[SO.lst (iv rw)]=S4 at y2 gr ⊢
   generalize Q3x S3=nr at gr ⊢
   dsimp![q0y gr,y2.get g2 (by simp)]
   refine⟨by rw[q3j];exact big (by omega),?_⟩
   refine z9j (fun rest ys σ S5=>S5=S4/\(∃v,σ=[v,some (.str "abcdefghijklmnopqrstuvwxyz")])/\∃done cs,rw=done++cs/\rest=iv cs/\ys=(done.map fun n=>wd [n]).map PV.str) ?_ ?_ _ _ _ _ ⟨rfl,⟨none,rfl⟩,[],rw,rfl,rfl,rfl⟩
   ·rintro ys σ S5 ⟨rfl,-,done,cs,e1,e2,rfl⟩
    have:cs=[]:=by
     cases cs with
     |nil=>rfl
     |cons a b=>simp[iv]at e2
    subst this
    rw[Q2c]at e1
    subst e1
    refine⟨q0y gr,?_⟩
    have g3:=q2f (y2.get g2 (by simp)) [SO.lst ((rw.map fun n=>wd [n]).map PV.str)]
    dsimp![Q6a,q8r,z8u,g3,q3d g3]
    have wl:(wpv ws).length=ws.length:=by simp[wpv]
    refine⟨q6y (by omega),by rw[wl];exact bigl (by omega),hN _ _ ⟨ws++[rw],_,_,rfl,by simp only[Q0s,Q0q,Q1k];omega,fun w hw=>?_,?_,?_,((hx2.trans y2).app _).set (.inr (by have:=hx.1;omega)),fun y hy=>hr y (Q1b _ hy)⟩⟩
    ·rcases Q3p.mp hw with z|z
     ·exact hna w z
     ·rw[Q1l]at z
      subst z
      exact⟨by omega,by omega,rlo⟩
    ·exact y4d _ (q2f (y2.get g1 (by simp)) _) (by omega)
    ·rw[z6j _ g3]
     simp[wpv]
   ·rintro x r ys σ S5 ⟨rfl,⟨v,rfl⟩,done,cs,e1,e2,rfl⟩ N hN
    cases cs with
    |nil=>simp[iv]at e2
    |cons c cs=>
     have e3:x::r=PV.int (c:Nat)::iv cs:=e2
     obtain⟨rfl,rfl⟩:=Q7o.inj e3
     have c26:c<26:=rlo c (by rw[e1];simp)
     refine⟨q0y gr,?_⟩
     dsimp![q4c (i:=(c:Int)) (by omega) (by omega)]
     rw[z5y,Q3d]
     exact⟨q3g,hN _ _ _ ⟨rfl,⟨_,rfl⟩,done++[c],cs,by simp[e1],rfl,by simp⟩⟩
 ·rintro x rr σ S1 ⟨ks,num,j,rfl,hl,hlo,hs,hx⟩ N hN
  rw[Q0q]at hl
  refine⟨trivial,?_⟩
  dsimp![true_and]
  refine seqI fun K2 hK2=>?_
  dsimp![true_and]
  refine⟨.inr ⟨by decide,by decide⟩,by decide,hK2 _ _ ?_⟩
  obtain⟨q,hq,hq26⟩:∃q:Nat,num*48271 % 2147483647 / 1000 % 26=(q:Int)/\q<26:=by
   have:=Q5c (num*48271 % 2147483647 / 1000) (show(26:Int)≠0 by decide)
   have:=Q4d (num*48271 % 2147483647 / 1000) (show(0:Int)<26 by decide)
   exact⟨(num*48271 % 2147483647 / 1000 % 26).toNat,by omega,by omega⟩
  dsimp![hs,q3d hs,hq]
  refine⟨⟨by decide,by decide⟩,by decide,by rw[q3j];exact bigl (by omega),hN _ _ ⟨ks++[q],_,_,rfl,by simp only[Q0s,Q0q,Q1k];omega,q4r hlo (q6v hq26),?_,hx.set (.inr (Q0m _))⟩⟩
  rw[z6j _ hs]
  simp[iv]
open FA (Fo It Tk aw lay cls step tk tkr itk stk nms lvs Okf)
open FA (Fo It Tk aw lay cls step tk tkr itk stk nms lvs Okf)
def z9q(sp:Den):Prop:=∀(ns:List Int)(k:Nat)(S:q0a)(E:EK)(Q:VC),ns.length<=63->(∀v,Q (.int v) S)->sp [.frl (ns.map .int),.int (k:Nat)] S E Q
theorem z9k:z9q (fnP 2 2 q0p):=by
 intro ns k S E Q hl h
 refine⟨rfl,?_⟩
 unfold q0p
 refine seqI fun K hK=>?_
 dsimp![Q1s]
 refine ite2 (fun z=>?_) (fun z=>hK _ _ ?_)
 ·have e:atI (ns.map PV.int) (k:Int)=some (.int (ns[k]'(by omega))):=by
   unfold atI ixN
   rw[if_pos (by omega),Q1s,if_pos z]
   simp[show k<ns.length by omega]
  dsimp![e]
  exact h _
 ·dsimp![true_and]
  exact h _
inductive Kd where
 |a (s:Str)|p (f t:Kd)
def Kd.pv:Kd->PV
 |.a s=>.str s
 |.p f t=>.tup [f.pv,t.pv]
def Kd.txt:Kd->List Nat
 |.a s=>s.cps.toList
 |.p f t=>40::f.txt++62::t.txt++[41]
def Kd.lv:Kd->Nat
 |.a _=>1
 |.p f t=>f.lv+t.lv
def Kd.dp:Kd->Nat
 |.a _=>0
 |.p f t=>max f.dp t.dp+1
def Kd.ok:Kd->Prop
 |.a s=>z8k s=true
 |.p f t=>f.ok/\t.ok
def sO:Str:=Q0g "("
def sG:Str:=Q0g ">"
def sC:Str:=Q0g ")"
def Kd.toks:Kd->List Str
 |.a s=>[s]
 |.p f t=>sO::f.toks++sG::t.toks++[sC]
section
variable{spc spi:Den}{S0:q0a}{z:Str}{np ns:Nat}{pcs:List Str}{D:PEnds}{E:EK}
end
inductive Tm where
 |nm (w:Str)|lf (n:Int) (f:PV)|bd (k:Nat)|fn (k:PV) (t:Tm)|ap (f a:Tm)
def Tm.pv:Tm->PV
 |.nm w=>.tup [.str "name",.str w]
 |.lf n f=>.tup [.str "leaf",.int n,f]
 |.bd k=>.tup [.str "bound",.int k]
 |.fn k t=>.tup [.str "fn",k,t.pv]
 |.ap f a=>.tup [.str "of",f.pv,a.pv]
def Tm.sz:Tm->Nat
 |.fn _ t=>1+t.sz
 |.ap f a=>1+f.sz+a.sz
 |_=>1
def Tm.dp:Tm->Nat
 |.fn _ t=>t.dp+1
 |.ap f a=>max f.dp a.dp+1
 |_=>0
mutual
def y0s:PV->Bool
 |.str _=>true
 |.int _=>true
 |.tup xs=>z1d xs&&decide (xs.length<=10)
 |_=>false
def z1d:List PV->Bool
 |[]=>true
 |x::xs=>y0s x&&z1d xs
end
theorem q5a(s:Str)(c i:Nat):Q1g.Str.subAt s ⟨#[c]⟩ i=true↔s.cps.toList[i]?=some c:=by
 have l1:(⟨#[c]⟩:Str).length=1:=rfl
 unfold Q1g.Str.subAt
 rw[l1,beq_iff_eq,<-Q8y,Array.toList_extract,List.extract_eq_drop_take,Nat.add_sub_cancel_left]
 by_cases h:i<s.cps.toList.length
 ·rw[Q3e h,List.take_succ_cons,List.take_zero,Q0h h]
  simp
 ·rw[List.drop_of_length_le (by omega),Q4x (by omega)]
  simp
inductive T8 where
 |nm (w:Str)|bd (k:Nat)|fn (q:Kd) (t:T8)|ap (f a:T8)
def T8.ok:T8->Nat->Prop
 |.nm w,_=>z8k w=true
 |.bd k,n=>k<n
 |.fn q t,n=>(q.ok/\q.lv<=12)/\t.ok (n+1)
 |.ap f a,n=>f.ok n/\a.ok n
def T8.isF:T8->Bool
 |.fn _ _=>true
 |_=>false
def fig(k:Nat):List Nat:=(Q0g (toString (k:Int))).cps.toList
inductive Tk8 where
 |o|c|w (s:Str)|b (k:Nat)|f (q:Kd)
def Tk8.pv:Tk8->PV
 |.o=>.str sO
 |.c=>.str sC
 |.w s=>.tup [.str "name",.str s]
 |.b k=>.tup [.str "bound",.int k]
 |.f q=>.tup [.str "fn",q.pv]
def Tk8.tx:Tk8->List Nat
 |.o=>[40]
 |.c=>[41]
 |.w s=>s.cps.toList
 |.b k=>35::fig k
 |.f q=>91::(q.txt++[93])
def T8.tks:T8->List Tk8
 |.nm w=>[.w w]
 |.bd k=>[.b k]
 |.fn q t=>.f q::t.tks
 |.ap f a=>(if f.isF=true then .o::f.tks++[.c]else f.tks)++.o::a.tks++[.c]
def txs(l:List Tk8):List Nat:=l.flatMap Tk8.tx
def T8.tx(t:T8):List Nat:=txs t.tks
def Tk8.ok:Tk8->Prop
 |.w s=>z8k s=true
 |.b k=>k<100
 |.f q=>q.ok/\q.lv<=12
 |_=>True
def jn(c:Nat):List (List Nat)->List Nat
 |[]=>[]
 |[p]=>p
 |p::q::r=>p++c::jn c (q::r)
theorem z8v(c:Nat):∀l:List (List Nat),Q5x (mk [c]) (l.map mk)=mk (jn c l):=by
 intro l
 unfold Q5x
 rw[Q4r]
 induction l with
 |nil=>rfl
 |cons p r ih=>
  cases r with
  |nil=>rfl
  |cons q r=>
   show mk p++mk [c]++Q8z (mk [c]) ((q::r).map mk)=_
   rw[ih]
   show(⟨(p.toArray++[c].toArray)++(jn c (q::r)).toArray⟩:Str)=⟨(p++c::jn c (q::r)).toArray⟩
   simp
theorem z6r{p:Str}{l:List Nat}:p=mk l↔p.cps.toList=l:=⟨fun h=>by rw[h,q1a],fun h=>by rw[<-h,z8m]⟩
def hit(z:List Nat)(c a n:Nat):List Nat:=(Z0s a n).filter fun i=>decide (z[i]?=some c)
theorem z2m(z:List Nat)(c a k m:Nat):hit z c a (k+m)=hit z c a k++hit z c (a+k) m:=by
 unfold hit
 rw[<-List.filter_append]
 congr 1
 have:=List.range'_append (s:=a) (m:=k) (n:=m) (step:=1)
 rw[Nat.one_mul]at this
 exact this.symm
theorem z2l{z:List Nat}{c a n:Nat}(h:∀i,a<=i->i<a+n->z[i]?≠some c):hit z c a n=[]:=by
 unfold hit
 rw[List.filter_eq_nil_iff]
 intro i hi
 rw[List.mem_range'_1]at hi
 simpa using h i hi.1 hi.2
theorem q6u(z:List Nat)(c hi limit:Nat)(hz:∀i,z[i]?=some c->i+1<=hi):∀(n a:Nat)(st:Array Nat×Nat),st.2<=a->st.1.size+n<=limit->(forIn (Z0s a n) st (Q6j (mk z) (mk [c]) hi limit)).run.fst.toList=st.1.toList++hit z c a n
 |0,a,st,_,_=>by
  show st.1.toList=_
  simp[hit]
 |n+1,a,st,h1,h2=>by
  rw[Q9k,Q6t,hit]
  rw[Q9k,List.filter_cons]
  by_cases e:z[a]?=some c
  ·have hs:Q1g.Str.subAt (mk z) (mk [c]) a=true:=(q5a (mk z) c a).mpr (by rw[q1a];exact e)
   have ob:Q6j (mk z) (mk [c]) hi limit a st=pure (Q2a (st.1.push a,a+1)):=if_pos ⟨⟨⟨by omega,h1⟩,hz a e⟩,hs⟩
   rw[ob,if_pos (decide_eq_true e)]
   have:=q6u z c hi limit hz n (a+1) (st.1.push a,a+1) (Q0m _) (by simp;omega)
   rw[Q8i,Q4i]at this
   exact this
  ·have ob:Q6j (mk z) (mk [c]) hi limit a st=pure (Q2a st):=if_neg fun q=>e (by have:=(q5a (mk z) c a).mp q.2;rwa [q1a]at this)
   rw[ob,if_neg (by simpa using e)]
   exact q6u z c hi limit hz n (a+1) st (by omega) (by omega)
theorem z5z(z:List Nat)(a b:Nat):Q1g.Str.strSub (mk z) a b=mk ((z.drop a).take (b-a)):=by
 have:=StrLaws.strSub_toList (mk z) a b
 rw[q1a]at this
 exact z6r.mpr this
theorem q7v{z:List Nat}{c:Nat}:∀(l:List (List Nat))(a:Nat),l≠[]->(∀p∈l,c∉p)->z.drop a=jn c l->a<=z.length->Q8b (mk z) 1 a (hit z c a (z.length+1-a))=l.map mk
 |[],_,h,_,_,_=>absurd rfl h
 |[p],a,_,hc,e,ha=>by
  have ez:∀i,a<=i->z[i]?≠some c:=fun i hi q=>by
   have:(z.drop a)[i-a]?=some c:=by rw[Q5t,show a+(i-a)=i by omega];exact q
   rw[e]at this
   exact hc p (by simp) (Q5d this)
  rw[z2l fun i h1 _=>ez i h1]
  show[Q1g.Str.strSub (mk z) a (mk z).length]=_
  rw[z5z,q1r,Q7n (by simp),e]
  rfl
 |p::q::r,a,_,hc,e,ha=>by
  have e':z.drop a=p++c::jn c (q::r):=e
  have hl:z.length=a+p.length+1+(jn c (q::r)).length:=by
   have:=congrArg Q3x e'
   simp at this
   omega
  have hk:z[a+p.length]?=some c:=by
   rw[<-Q5t,e'];simp
  have ez:∀i,a<=i->i<a+p.length->z[i]?≠some c:=fun i h1 h2 w=>by
   have:(z.drop a)[i-a]?=some c:=by rw[Q5t,show a+(i-a)=i by omega];exact w
   rw[e',Q0x (by omega)]at this
   exact hc p (by simp) (Q5d this)
  have ed:z.drop (a+p.length+1)=jn c (q::r):=by
   rw[<-Q9s,<-Q9s,e'];simp
  have h1:hit z c (a+p.length) 1=[a+p.length]:=by simp[hit,hk]
  rw[show z.length+1-a=p.length+(1+(z.length+1-(a+p.length+1))) by omega,z2m,z2m,z2l ez,h1]
  show Q1g.Str.strSub (mk z) a (a+p.length)::Q8b (mk z) 1 (a+p.length+1) (hit z c (a+p.length+1) (z.length+1-(a+p.length+1)))=_
  rw[q7v (q::r) (a+p.length+1) (by simp) (fun x hx=>hc x (by simp[hx])) ed (by omega),z5z,e']
  simp
theorem z3s{c:Nat}(hc:c<128){l:List (List Nat)}(h:l≠[])(hl:∀p∈l,c∉p):Q5b (mk (jn c l)) (mk [c])=l.map mk:=by
 have ho:Q1g.Str.occurrences (mk (jn c l)) (mk [c]) 0 (mk (jn c l)).length ((mk (jn c l)).length+1)=hit (jn c l) c 0 ((jn c l).length+1):=by
  rw[StrLaws.occ_eq,q1r,Q7z]
  have:=q6u (jn c l) c (jn c l).length ((jn c l).length+1) (fun i hi=>(Q0j.mp hi).1) ((jn c l).length+1) 0 (#[],0) (Q0m _) (by simp)
  exact this
 have hp:=q7v (z:=jn c l) l 0 h hl (by simp) (Q2b _)
 rw[Q7z]at hp
 have one:hit (jn c l) c 0 ((jn c l).length+1)=[]->[mk (jn c l)]=l.map mk:=fun e=>by
  rw[e]at hp
  rw[<-hp]
  show[_]=[Q1g.Str.strSub _ 0 _]
  rw[StrLaws.sub_whole]
 unfold Q5b
 rw[ho]
 split
 ·rename_i e
  have k1:Q1g.Str.strKind (mk [c])=1:=by
   unfold Q1g.Str.strKind
   rw[if_pos (by simp[mk];omega)]
  have k2:1<=Q1g.Str.strKind (mk (jn c l)):=by
   unfold Q1g.Str.strKind
   split
   ·exact Q0m _
   ·split<;>decide
  have l0:jn c l=[]:=by
   simp only[Q9n,decide_eq_true_eq,q1r,k1]at e
   rcases e with e|e
   ·exact List.eq_nil_of_length_eq_zero (by simpa using e)
   ·omega
  exact one (z2l fun i _ _=>by rw[l0];simp)
 ·split
  ·rename_i e
   exact one (List.isEmpty_iff.mp e)
  ·rw[StrLaws.partsBetween_eq];exact hp
def q0m(spLcell_at:Den)(spLwords:Den)(spLword:Den):WS:=
 (wSeq (wSet 1 (wLst wNil))
 (wSeq (wFor (q1s (q0c (wBin bMod (q1f spLcell_at (q0c (wVar 0) (q0c (wC (.int 0)) wNil))) (wC (.int 15))) wNil)) (q1q 2) (wSeq (wSet 3 (q1f spLcell_at (q0c (wVar 0) (q0c (wBin bAdd (wC (.int 2)) (wBin bMul (wC (.int 2)) (wVar 2))) wNil))))
 (wSeq (wSet 4 (wLst (q0c (q1f spLword (q0c (wBin q3t (wVar 3) (wC (.int 7))) wNil)) (q0c (wBin bIx (q1f spLwords (q0c (wBin q3t (wVar 3) (wC (.int 7))) (q0c (wC (.int 1)) wNil))) (wC (.int 0))) wNil))))
 (q6o (wBM "list" q1h (wVar 1) (q0c (wBin bIx (wLst (q0c (wBin bIx (wVar 4) (wBin bMod (q1f spLcell_at (q0c (wVar 0) (q0c (wBin bAdd (wC (.int 3)) (wBin bMul (wC (.int 2)) (wVar 2))) wNil))) (wC (.int 2)))) (q0c (wC (.str "")) wNil))) (wCB fInt (q0c (wBin cEq (wBin bMod (wVar 3) (wC (.int 7))) (wC (.int 3))) wNil))) wNil))))))
 (wRet (wBin bAdd (wBin bAdd (wBin bIx (wLst (q0c (wC (.str "")) (q0c (wC (.str " ")) wNil))) (wCB fInt (q0c (wBin cEq (wBin bMod (q1f spLcell_at (q0c (wVar 0) (q0c (wC (.int 1)) wNil))) (wC (.int 16))) (wC (.int 5))) wNil))) (wBM "str" q9h (wC (.str " ")) (q0c (wVar 1) wNil))) (wBin bIx (wLst (q0c (wC (.str "")) (q0c (wC (.str " ")) wNil))) (wCB fInt (q0c (wBin cEq (wBin bMod (q1f spLcell_at (q0c (wVar 0) (q0c (wC (.int 1)) wNil))) (wC (.int 16))) (wC (.int 6))) wNil)))))))
def q0r:WS:=
 (wSeq (wIfS (q2h (wBin cEq (wVar 0) (wC (.str ""))))
 (wRet (wLst wNil))
 q2v)
 (wSeq (wSet 1 (wLst (q0c (wC (.str "")) wNil)))
 (wSeq (wFor (q8m (wVar 0)) (q1q 2) (wIfS (q2h (wBin cEq (wVar 2) (wC (.str " "))))
 (q6o (wBM "list" q1h (wVar 1) (q0c (wC (.str "")) wNil)))
 (wAsg (wBin bAdd (wBin bIx (wVar 1) (wNeg (wC (.int 1)))) (wVar 2)) (z3m (wVar 1) (wNeg (wC (.int 1))) sSet))))
 (wRet (wVar 1)))))
def q0n:WS:=
 (wSeq (wSet 1 (wIf (q2h (wBin cNe (wVar 0) (wC (.str "")))) (wBM "str" q8a (wVar 0) (q0c (wC (.str " ")) wNil)) (wLst wNil)))
 (wSeq (wIfS (q2h (wBin cGt (wCB fLen (q0c (wVar 1) wNil)) (wC (.int 10))))
 (q2t "TooMany" ["count", "most"] [true,true] (q0c (wCB fLen (q0c (wVar 1) wNil)) (q0c (wC (.int 10)) wNil)))
 q2v)
 (wRet (wCB q4h (q0c (wVar 1) wNil)))))
def q0o(spwords_in:Den):WS:=
 (wSeq (wSet 2 (wC .non))
 (wSeq (wTry 3 ["TooMany"] (q7n (q7o spwords_in (q0c (wVar 0) wNil)))
 (wSet 2 (wVar 3)))
 (wSeq (wIfS (wOr (wNot (wTru (wIsX (wVar 2) [("TooMany",true)]))) (wNot (wTru (wIsX (wVar 2) [("TooMany",true)]))))
 (wRet (wC (.bl false)))
 q2v)
 (wSeq (wIfS (wTru (wIsX (wVar 2) [("TooMany",false)]))
 (wRet (wC (.bl false)))
 q2v)
 (wSeq (wSet 4 (q8n (wCB fIsi (q0c (q6n ["TooMany"] "count" (wVar 2)) (q0c (wC (.ty "int")) wNil))) (z3n (wCB fIsi (q0c (q6n ["TooMany"] "count" (wVar 2)) (q0c (wC (.ty "bool")) wNil))))))
 (wRet (q8n (wVar 4) (q8n (wBin cEq (q6n ["TooMany"] "count" (wVar 2)) (wVar 1)) (wBin cEq (q6n ["TooMany"] "most" (wVar 2)) (wC (.int 10)))))))))))
def q1n(spLsentence:Den)(spLparted:Den)(spLrefused:Den)(spwords_in:Den):WS:=
 (wSeq (wSet 1 (q1f spLsentence (q0c (wVar 0) wNil)))
 (wSeq (wSet 2 (q1f spLparted (q0c (wVar 1) wNil)))
 (wSeq (wIfS (q2h (wBin cGt (wCB fLen (q0c (wVar 2) wNil)) (wC (.int 10))))
 (wRet (q1f spLrefused (q0c (wVar 1) (q0c (wCB fLen (q0c (wVar 2) wNil)) wNil))))
 q2v)
 (wSeq (wSet 3 (q1f spwords_in (q0c (wVar 1) wNil)))
 (wSeq (wIfS (wOr (wNot (wTru (wCB fIsi (q0c (wVar 3) (q0c (wC (.ty "tuple")) wNil))))) (q2h (wBin cNe (q6p (q8m (wVar 3)) [none] (q1q 0) (wNot (wTru (wCB fIsi (q0c (wVar 0) (q0c (wC (.ty "str")) wNil))))) (wVar 0)) (wLst wNil))))
 (wRet (wC (.bl false)))
 q2v)
 (wRet (wBin cEq (wCB z2q (q0c (wVar 3) wNil)) (wVar 2))))))))
section
open PySem L2 Ev PySem.Spec PyProof.Rows
def top(i:Nat):Q3t:=Q9t.main.body.getD i (.Pass ⟨0,0,0,0⟩)
structure Tab where
 dLcell_at:Den
 dLwords:Den
 dLword:Den
 dLsentence:Den
 dLparted:Den
 dwords_in:Den
 dLrefused:Den
 dlaw:Den
def tabS(t:Tab):Tab where
 dLcell_at:=fnP 2 2 (q0p)
 dLwords:=fnP 2 10 (q0v)
 dLword:=fnP 1 5 (q0x)
 dLsentence:=fnP 1 5 (q0m t.dLcell_at t.dLwords t.dLword)
 dLparted:=fnP 1 3 (q0r)
 dwords_in:=fnP 1 2 (q0n)
 dLrefused:=fnP 2 5 (q0o t.dwords_in)
 dlaw:=fnP 1 4 (q1n t.dLsentence t.dLparted t.dLrefused t.dwords_in)
def tab:Nat->Tab
 |0=>⟨fun _ _ _ _=>False,fun _ _ _ _=>False,fun _ _ _ _=>False,fun _ _ _ _=>False,fun _ _ _ _=>False,fun _ _ _ _=>False,fun _ _ _ _=>False,fun _ _ _ _=>False⟩
 |k+1=>tabS (tab k)
structure Sta(K:Q1n)(mg:Str->Option Q0a):Prop where
 z0:mg "bool" = none
 z1:mg "int" = none
 z2:mg "isinstance" = none
 z3:mg "len" = none
 z4:mg "list" = none
 z5:mg "range" = none
 z6:mg "str" = none
 z7:mg "tuple" = none
 g0:GlobV K mg "MOST_WORDS" (.int 10)
 h0:ExcI K mg "TooMany" ["count", "most"] [true,true]
 h1:HFld K ["TooMany"] "count"
 h2:HFld K ["TooMany"] "most"
 h3:Cau K mg "SlashError" ["TooMany"]
 h4:HIsT K mg ["NoForm", "NoNumber", "NoRow", "NoWord"] [("TooMany",false)]
 h5:HIs1 K mg "TooMany" [("TooMany",true)]
 h6:HIs1 K mg "ValueError" [("TooMany",true)]
abbrev sF0:Q3t:=top 11
abbrev nF0:List Str:=["_law_script", "_law_k"]
abbrev pF0:List Str:=["_law_script", "_law_k"]
abbrev sF1:Q3t:=top 12
abbrev nF1:List Str:=["_law_cell", "_law_many", "_law_letters", "_law_size", "_law_at", "_law_number", "_law_base", "_law_k", "_law_words_here", "_law_row"]
abbrev pF1:List Str:=["_law_cell", "_law_many"]
abbrev sF2:Q3t:=top 13
abbrev nF2:List Str:=["_law_cell", "_law_letters", "_law_word_here", "_law_rest", "_law_j"]
abbrev pF2:List Str:=["_law_cell"]
abbrev sF3:Q3t:=top 15
abbrev nF3:List Str:=["_law_script", "_law_words_here", "_law_k", "_law_cell", "_law_two"]
abbrev pF3:List Str:=["_law_script"]
abbrev sF4:Q3t:=top 14
abbrev nF4:List Str:=["_law_text", "_law_words_here", "_law_sign"]
abbrev pF4:List Str:=["_law_text"]
abbrev sF5:Q3t:=top 9
abbrev nF5:List Str:=["text", "words"]
abbrev pF5:List Str:=["text"]
abbrev sF6:Q3t:=top 16
abbrev nF6:List Str:=["_law_text", "_law_count", "_law_error", "e", "_law_whole"]
abbrev pF6:List Str:=["_law_text", "_law_count"]
abbrev sF7:Q3t:=top 17
abbrev nF7:List Str:=["_law_script", "_law_text", "_law_due", "_law_found"]
abbrev pF7:List Str:=["_law_script"]
structure Fns(P:Q0l)(w:Q1a)(K:Q1n)(mg:Str->Option Q0a)(base:Q0z)(k:Nat)(t:Tab)(f:Nat->Q0i)(fd:Nat->Q1u):Prop where
 c0:Cal P w K mg base k "_law_cell_at" pF0 (q0s K t.dLcell_at) (f 0) (fd 0)
 c1:Cal P w K mg base k "_law_words" pF1 (q0s K t.dLwords) (f 1) (fd 1)
 c2:Cal P w K mg base k "_law_word" pF2 (q0s K t.dLword) (f 2) (fd 2)
 c3:Cal P w K mg base k "_law_sentence" pF3 (q0s K t.dLsentence) (f 3) (fd 3)
 c4:Cal P w K mg base k "_law_parted" pF4 (q0s K t.dLparted) (f 4) (fd 4)
 c5:Cal P w K mg base k "words_in" pF5 (q0s K t.dwords_in) (f 5) (fd 5)
 c6:Cal P w K mg base k "_law_refused" pF6 (q0s K t.dLrefused) (f 6) (fd 6)
 c7:Cal P w K mg base k "law" pF7 (q0s K t.dlaw) (f 7) (fd 7)
structure Locs(K:Q1n)(mg:Str->Option Q0a)(f:Nat->Q0i)(fd:Nat->Q1u):Prop where
 l0:Loc2 K mg "_law_cell_at" sF0 pF0 (f 0) (fd 0)
 l1:Loc2 K mg "_law_words" sF1 pF1 (f 1) (fd 1)
 l2:Loc2 K mg "_law_word" sF2 pF2 (f 2) (fd 2)
 l3:Loc2 K mg "_law_sentence" sF3 pF3 (f 3) (fd 3)
 l4:Loc2 K mg "_law_parted" sF4 pF4 (f 4) (fd 4)
 l5:Loc2 K mg "words_in" sF5 pF5 (f 5) (fd 5)
 l6:Loc2 K mg "_law_refused" sF6 pF6 (f 6) (fd 6)
 l7:Loc2 K mg "law" sF7 pF7 (f 7) (fd 7)
section
variable{P:Q0l}{w:Q1a}{K:Q1n}{mg:Str->Option Q0a}{base:Q0z}{k:Nat}{t:Tab}{f:Nat->Q0i}{fd:Nat->Q1u}{g:Q0i}(Z:Sta K mg)(I:Fns P w K mg base (k+2) t f fd)
theorem cpo{X:Cx}{scope:Q3n}{N':List Str}{ix:List (Option Nat)}(kind:scope.kind=.function:=by rfl)(cell:∀y∈scope.names,y.2≠.cell:=by decide +kernel)(names:∀y∈scope.names,y.2=.local->scope.names.lookup y.1=some .local:=by decide +kernel)(free:(scope.names.all fun y=>!(y.2==.free)||X.env.scope.names.lookup y.1==some .cell||X.env.scope.names.lookup y.1==some .free)=true:=by rfl)(ixs:IxOk X.N X.env.scope scope N' ix:=by repeat' (first|exact trivial|refine⟨⟨rfl,rfl,by first|exact Q5y rfl|exact Q4l rfl⟩,?_⟩)):CompOk X scope N' ix:=y2r kind cell names free ixs
local macro_rules|`(tactic|trace $s:str)=>do
 let mut ts:=#[]
 let mut p:=""
 for c in s.getString.toList do
  let r:=if p=="" then(("! z6s _|$ z0v ? ?|% z4j|& z7d|' z0o ? ?|* z6v _ hn ?|+ z3w ?|, z6u|. z6w ?|0 q4m z8d ? ?|1 q4m z8c ? ?|2 z7b ?|3 z4d I.c# hr hx ?|4 y0b hu ? ?|5 y0c ? ? ?|6 z3x|7 q4m z4v ? ?|8 z7f z6d:hu ? ? q5i:_|9 q5d z3c Z.z3 PySem.boot_len ?|: z7e PassesOwn.leaving rfl ? ? ?|; q5e hn|= z4f ?|? q8w Z.z5 ?|@ z4b ?|A z0s PySem.F.plainAttrs_list PySem.F.slot_list_append PySem.F.type_list_append q9d ? ?|B z4g ?|C q5d z3d Z.z2 L2.q7k ?|D q4m z8b ? ?|E z4h ?|F q2a z3e Z.z1 L2.q8k ?|G y0d|H z7h ? ?|I q7s Z.h1 ?|J z0p ? ? ?|K z0u|L z0t ?|M z0s PySem.F.plainAttrs_str PySem.F.slot_str_join PySem.F.type_str_join z5c ? ?|N q5e N|O q2o z6d:hu ? ? q5i:_|P z7a ?|Q q2o y1h:hu ? ? q5i:_|R q2o y1j ? ? q5i:_|S z4a Z.g0|T SimW.t ?|U z7i ? ?|V z4e ?|W z6x ?|X q2o y1i ? ? q5i:_|Y z7g ? ?|Z z4i sets:hu ? ?|^ z0r ? ? ?|_ z0s PySem.F.plainAttrs_str PySem.F.slot_str_split PySem.F.type_str_split z1p ? ?|a q8u Z.h0 hx rfl hr ?|b q2a q7j Z.z7 L2.q4i ?|c z6z|d z3u ?|e z0l ?|f z0n I.c# hr ?|g z0q Z.z2 ? Z.h5|h z0q Z.z2 ? Z.h6|i q7r Z.z1 L2.q8k|j z6y ?|k q7r Z.z0 L2.z3f|l q7s Z.h2 ?|m q7r Z.z7 L2.q4i|n q7r Z.z6 L2.z5w|o q2a q9s Z.z4 L2.boot_list ?".splitOn "|").find? (·.front==c)).getD "" else p.replace "#" (toString ((c.toNat-48)%208))
  if r.contains '#' then p:=r else
   p:=""
   let xs:List Lean.Term<-((r.splitOn " ").tail).mapM fun w=>do
    if w=="?" then `(?_)else if w=="_" then `(_)else if w=="F" then `(fun _ _ _ _ _=>?_)else if w=="U" then `(by with_unfolding_all rfl)else if w=="C" then `(by exact cpo)else if w=="N" then `(by dsimp only[Cx.comp];decide +kernel)else
     let ys:List Lean.Term<-(w.splitOn ":").mapM fun v=>if v=="_" then `(_)else pure ⟨Q7u v.toName⟩
     if ys.tail.isEmpty then pure ys.head! else `($(ys.head!) $(ys.tail.toArray)*)
   ts:=ts.push (<-if xs.tail.isEmpty then `(tactic|exact $(xs.head!))else `(tactic|refine $(xs.head!) $(xs.tail.toArray)*))
 `(tactic|($[$ts]*))
include Z I
theorem mF0:SimF P w K mg base (k+2) "_law_cell_at" nF0 sF0 (q0p) g:=by
 intro _ _ _ _ _ _ _ hw hr hx hu hn
 trace "'5X!9$!%+.4!!6+.&"
theorem mF1:SimF P w K mg base (k+2) "_law_words" nF1 sF1 (q0v) g:=by
 intro _ _ _ _ _ _ _ hw hr hx hu hn
 trace "'*,'*0&1!&'*17!&!'*017!&&&'*2%':?$!%;'*1D!&&+@A!$17!&&%'*2%':?$!%;'*00J!KL!2$104!!!&%J!L0!&K+@A!$M,$"
 refine z4c ["_law_number", "_law_letters"] [none,some 2] rfl (by exact cpo) ?_ (fun _ _ _ _ _=>?_) (fun _ _ _ _ _=>?_)
 trace "E!N4!!%%+.!"
theorem mF2:SimF P w K mg base (k+2) "_law_word" nF2 sF2 (q0x) g:=by
 intro _ _ _ _ _ _ _ hw hr hx hu hn
 trace "'*,'*,'*7!&':?$0&1!&%;'*0!4!1!&+*7!&+.!"
theorem mF3:SimF P w K mg base (k+2) "_law_sentence" nF3 sF3 (q0m t.dLcell_at t.dLwords t.dLword) g:=by
 intro _ _ _ _ _ _ _ hw hr hx hu hn
 trace "'*2%':?$130$!$&%&%;'*30$!$0&D&!%'*2$32$7!&%$431$7!&$&%&%+@A!$42$4!130$!$0&D&!%&$,%F$81!&&%%+.0042$,$,%F$8130$!$&%&&%M,$!%42$,$,%F$8130$!$&%&&%"
theorem mF4:SimF P w K mg base (k+2) "_law_parted" nF4 sF4 (q0r) g:=by
 intro _ _ _ _ _ _ _ hw hr hx hu hn
 trace "'5O!,+.2%6'*2$,%':E!;+5O!,+@A!$,%+Y04!P&!Z!P&+.!"
theorem mF5:SimF P w K mg base (k+2) "words_in" nF5 sF5 (q0n) g:=by
 intro _ _ _ _ _ _ _ hw hr hx hu hn
 trace "'*^Q!,_!$,%2%'5R9$!%S+a$9$!%$S%6+.b$!%"
theorem mF6:SimF P w K mg base (k+2) "_law_refused" nF6 sF6 (q0o t.dwords_in) g:=by
 intro _ _ _ _ _ _ _ hw hr hx hu hn
 trace "'*c'"
 refine z6t _ Z.h3 ?_ hn (fun _=>?_)
 trace "def5$!%+*!'5TUB=g!VB=h!+.G6'5="
 refine z7c ["NoForm", "NoNumber", "NoRow", "NoWord"] Z.z2 ?_ Z.h4 ⟨rfl,rfl,by decide,⟨rfl,rfl,by decide,⟨rfl,rfl,by decide,⟨rfl,rfl,by decide,trivial⟩⟩⟩⟩
 trace "!+.G6'*HC$I!$i%WjC$I!$k%+.H!H8I!!W8l!&"
theorem mF7:SimF P w K mg base (k+2) "law" nF7 sF7 (q1n t.dLsentence t.dLparted t.dLrefused t.dwords_in) g:=by
 intro _ _ _ _ _ _ _ hw hr hx hu hn
 trace "'*33$!%'*34$!%'5R9$!%&+.36$!$9$!%%6'*35$!%'5TUB=C$!$m%VQ"
 refine q8v ["_law_word_here"] [none] rfl (by exact cpo) ?_ (fun _ _ _ _ _=>?_) (fun _ _ _ _ _=>?_) (fun _ _ _ _ _=>?_)
 trace "E!NB=C$!$n%!2%+.G6+.8o$!%!"
end
theorem good{P:Q0l}{w:Q1a}{K:Q1n}{mg:Str->Option Q0a}{base:Q0z}{f:Nat->Q0i}{fd:Nat->Q1u}(Z:Sta K mg)(l:Locs K mg f fd):∀k,Fns P w K mg base (k+2) (tab k) f fd
 |0=>⟨l.l0.cal q5w,l.l1.cal q5w,l.l2.cal q5w,l.l3.cal q5w,l.l4.cal q5w,l.l5.cal q5w,l.l6.cal q5w,l.l7.cal q5w⟩
 |k+1=>by
  have I:=good (P:=P) (w:=w) (base:=base) Z l k
  exact⟨l.l0.sim (mF0 Z I),l.l1.sim (mF1 Z I),l.l2.sim (mF2 Z I),l.l3.sim (mF3 Z I),l.l4.sim (mF4 Z I),l.l5.sim (mF5 Z I),l.l6.sim (mF6 Z I),l.l7.sim (mF7 Z I)⟩
abbrev q3x:Q3t:=(cbod (top 6)).getD 0 (.Pass ⟨0,0,0,0⟩)
theorem q9r{P:Q0l}{w:Q1a}{K:Q1n}{mg:Str->Option Q0a}{base:Q0z}{S g:Q0i}{fd:Q1u}(hm:mg "SlashError" = some (.ref S))(hS:ExcS K S)(F:Fun K "__init__" "TooMany.__init__" q3x g fd):FnOk P w K mg base (CXE P w) 1 g fd ["self", "count", "most"] (z0j K g (["count", "most"].map Q0g) (okV [true,true])):=
 ini2 F (sco rfl rfl rfl (by decide +kernel)) (by decide) (fun cdv A outer s1 H E=>q4n (z4p rfl hm hS (q1u (pv 0) (q1u (z7w (z6b 1 (y0q (z6b 2 y0r)))) q7w))) (q4n (z1a (pv 1) (pv 0)) (z0y (z0z (pv 2) (pv 0))))) fun _ _ _ h=>⟨okI (okV2 h).1,okI (okV2 h).2,trivial⟩
theorem z1x{P:List Q0a->Prop}{ps:List Str}(hp:ps.length=1)(h:∀a0,P [a0])(us:List Q0a)(hl:us.length=ps.length):P us:=by
 rw[hp]at hl
 cases us with|nil=>exact absurd hl (by simp)|cons a r=>cases r with|nil=>exact h _|cons b r=>exact absurd hl (by simp)
theorem z8r{P:List Q0a->Prop}{ps:List Str}(hp:ps.length=2)(h:∀a0 a1,P [a0,a1])(us:List Q0a)(hl:us.length=ps.length):P us:=by
 rw[hp]at hl
 cases us with|nil=>exact absurd hl (by simp)|cons a r=>cases r with|nil=>exact absurd hl (by simp)|cons b r=>cases r with|nil=>exact h _ _|cons b r=>exact absurd hl (by simp)
theorem y3t{P:List Q0a->Prop}{ps:List Str}(hp:ps.length=3)(h:∀a0 a1 a2,P [a0,a1,a2])(us:List Q0a)(hl:us.length=ps.length):P us:=by
 rw[hp]at hl
 cases us with|nil=>exact absurd hl (by simp)|cons a r=>cases r with|nil=>exact absurd hl (by simp)|cons b r=>cases r with|nil=>exact absurd hl (by simp)|cons b r=>cases r with|nil=>exact h _ _ _|cons b r=>exact absurd hl (by simp)
theorem all_mk{l:Q6f}{w:Q1a}{K:Q1n}{h:Q0z}{mg:Str->Option Q0a}{fa f0 f1 f2 f3 f4 f5 f6 f7:Q0i}(X:K.In h)(G:h.Ns Q0r mg)(hfa:mg "law" = some (.ref fa))
    (h0:FnIn K "_law_cell_at" sF0 f0)
    (h1:FnIn K "_law_words" sF1 f1)
    (h2:FnIn K "_law_word" sF2 f2)
    (h3:FnIn K "_law_sentence" sF3 f3)
    (h4:FnIn K "_law_parted" sF4 f4)
    (h5:FnIn K "words_in" sF5 f5)
    (h6:FnIn K "_law_refused" sF6 f6)
    (h7:FnIn K "law" sF7 f7)
     {t_MOST_WORDS:Tok} {C_NoForm:Q0i} {C_NoNumber:Q0i} {C_NoRow:Q0i} {C_NoWord:Q0i} {C_SlashError:Q0i} {C_TooMany:Q0i} {G_TooMany:Q0i}
    (gg_MOST_WORDS:Q0v K Q0r "MOST_WORDS" = some (some (.int 10 t_MOST_WORDS)))
    (xa_NoForm:Q0v K Q0r "NoForm" = some (some (.ref C_NoForm)))
    (xa_NoNumber:Q0v K Q0r "NoNumber" = some (some (.ref C_NoNumber)))
    (xa_NoRow:Q0v K Q0r "NoRow" = some (some (.ref C_NoRow)))
    (xa_NoWord:Q0v K Q0r "NoWord" = some (some (.ref C_NoWord)))
    (xa_SlashError:Q0v K Q0r "SlashError" = some (some (.ref C_SlashError)))
    (xa_TooMany:Q0v K Q0r "TooMany" = some (some (.ref C_TooMany)))
    (xr:PySem.W.readsIn K C_SlashError (.type "type")=true)
    (xq:Q5k K (.ref C_SlashError) "__getattribute__" = some (some (.builtin "type.__getattribute__")))
    (xv:PySem.W.findCls K (.ref C_SlashError) (.type "type") "__init__" = some (.val (.builtin "ValueError.__init__")))
    (xj_TooMany:Q1j K (.ref C_TooMany) "__init__" = some (some (.ref G_TooMany)))
    (xm_TooMany:z3k K "TooMany.__init__" q3x G_TooMany)
    (xk_TooMany:q8d K C_TooMany G_TooMany=true)
    (xs_TooMany:Q1j K (.ref C_TooMany) "__setattr__" = some (some (.builtin "object.__setattr__")))
    (xn_TooMany_count:Q1j K (.ref C_TooMany) (Q0g "count")=some none)
    (xn_TooMany_most:Q1j K (.ref C_TooMany) (Q0g "most")=some none)
    (xh_TooMany_count:Q1j K (.ref C_TooMany) (Q0g "count")=some none)
    (xh_TooMany_most:Q1j K (.ref C_TooMany) (Q0g "most")=some none)
    (xg:Q5k K (.builtin "object.__class__") "__get__" = some (some (.builtin "getset_descriptor.__get__")))
    (xt:Q8l K (.builtin "object.__class__")=some true)
    (x1_TooMany:Q5j K C_TooMany=true)
    (x2_TooMany:Q1j K (.ref C_TooMany) "__getattribute__" = some (some (.builtin "BaseException.__getattribute__")))
    (x3_TooMany:Q1j K (.ref C_TooMany) "__getattr__" = some none)
    (x4_TooMany:Q1j K (.ref C_TooMany) "__class__" = some (some (.builtin "object.__class__")))
    (x5_TooMany:Q6u K C_TooMany (.type "object")=some true)
    (x6_TooMany:Q6u K C_TooMany (.type "BaseException")=some true)
    (xc_SlashError_TooMany:Q4a K (.ref C_TooMany) (.ref C_SlashError)=some true)
    (xi_NoForm_NoNumber_NoRow_NoWord_TooMany:Q2o K (.ref C_TooMany) [.ref C_NoForm,.ref C_NoNumber,.ref C_NoRow,.ref C_NoWord]=some false)
    (xi_TooMany_TooMany:Q2f K (.ref C_TooMany) (.ref C_TooMany)=some true)
    (xi_ValueError_TooMany:Q2f K (.ref C_TooMany) (.type "ValueError")=some true)
    (z_bool:Q0v K Q0r "bool" = some none)
    (z_int:Q0v K Q0r "int" = some none)
    (z_isinstance:Q0v K Q0r "isinstance" = some none)
    (z_len:Q0v K Q0r "len" = some none)
    (z_list:Q0v K Q0r "list" = some none)
    (z_range:Q0v K Q0r "range" = some none)
    (z_str:Q0v K Q0r "str" = some none)
    (z_tuple:Q0v K Q0r "tuple" = some none)
    (z_ValueError:Q0v K Q0r "ValueError" = some none)
    : ∃fd:Q1u,(∀(s:Q0b)(v:Q0a),Q8m s fd ⟨[v],[]⟩ [("_law_script",v)])/\∀base:Q0z,K.In base->base.Ns Q0r mg->FnOk l.prog w K mg base (CXE l.prog w) 62 fa fd ["_law_script"] (q0s K (tab 60).dlaw):=by
  cases hfa.symm.trans (h7.gl X G)
  have g_MOST_WORDS:GlobV K mg "MOST_WORDS" (.int 10):=⟨⟨_,.int 10,Q1z X G gg_MOST_WORDS,⟨_,rfl⟩,fun _ _=>rfl⟩⟩
  obtain⟨dI_TooMany,F_TooMany,B_TooMany⟩:=xm_TooMany.get (ps:=["self", "count", "most"]) fun _ _ _ _ _ _=>y3t rfl fun _ _ _=>rfl
  have x_TooMany:ExcI K mg "TooMany" ["count", "most"] [true,true]:=⟨⟨C_TooMany,G_TooMany,dI_TooMany,_,xa_TooMany,Q1z X G xa_TooMany,⟨xk_TooMany,xs_TooMany,(z1o xn_TooMany_count (z1o xn_TooMany_most y1q))⟩,fun P w base=>q9r (Q1z X G xa_SlashError) ⟨xr,xq,xv⟩ F_TooMany,B_TooMany⟩⟩
  have k_TooMany:ExcK K C_TooMany:=⟨Ev.z2i x1_TooMany,x2_TooMany,x3_TooMany,x4_TooMany,xg,xt,x5_TooMany,x6_TooMany⟩
  have y_SlashError:Cau K mg "SlashError" ["TooMany"]:=⟨⟨.ref C_SlashError,Q1z X G xa_SlashError,((.cons xa_TooMany xc_SlashError_TooMany .nil):CauL K (.ref C_SlashError) _)⟩⟩
  have i_NoForm_NoNumber_NoRow_NoWord_:HIsT K mg ["NoForm", "NoNumber", "NoRow", "NoWord"] [("TooMany",false)]:=⟨⟨[.ref C_NoForm,.ref C_NoNumber,.ref C_NoRow,.ref C_NoWord],⟨.own (Q1z X G xa_NoForm),⟨.own (Q1z X G xa_NoNumber),⟨.own (Q1z X G xa_NoRow),⟨.own (Q1z X G xa_NoWord),trivial⟩⟩⟩⟩,(.cons xa_TooMany k_TooMany xi_NoForm_NoNumber_NoRow_NoWord_TooMany .nil)⟩⟩
  have i_TooMany:HIs1 K mg "TooMany" [("TooMany",true)]:=⟨⟨_,.own (Q1z X G xa_TooMany),(.cons xa_TooMany k_TooMany xi_TooMany_TooMany .nil)⟩⟩
  have i_ValueError:HIs1 K mg "ValueError" [("TooMany",true)]:=⟨⟨_,.ty (Q1x X G z_ValueError) rfl,(.cons xa_TooMany k_TooMany xi_ValueError_TooMany .nil)⟩⟩
  have f_count:HFld K ["TooMany"] "count" :=(.cons xa_TooMany ⟨k_TooMany,x1_TooMany,xh_TooMany_count⟩ .nil)
  have f_most:HFld K ["TooMany"] "most" :=(.cons xa_TooMany ⟨k_TooMany,x1_TooMany,xh_TooMany_most⟩ .nil)
  obtain⟨d0,L0,b0⟩:=h0.loc (ps:=pF0) X G fun _ _ _ _ _ _=>z8r rfl fun _ _=>rfl
  obtain⟨d1,L1,b1⟩:=h1.loc (ps:=pF1) X G fun _ _ _ _ _ _=>z8r rfl fun _ _=>rfl
  obtain⟨d2,L2,b2⟩:=h2.loc (ps:=pF2) X G fun _ _ _ _ _ _=>z1x rfl fun _=>rfl
  obtain⟨d3,L3,b3⟩:=h3.loc (ps:=pF3) X G fun _ _ _ _ _ _=>z1x rfl fun _=>rfl
  obtain⟨d4,L4,b4⟩:=h4.loc (ps:=pF4) X G fun _ _ _ _ _ _=>z1x rfl fun _=>rfl
  obtain⟨d5,L5,b5⟩:=h5.loc (ps:=pF5) X G fun _ _ _ _ _ _=>z1x rfl fun _=>rfl
  obtain⟨d6,L6,b6⟩:=h6.loc (ps:=pF6) X G fun _ _ _ _ _ _=>z8r rfl fun _ _=>rfl
  obtain⟨d7,L7,b7⟩:=h7.loc (ps:=pF7) X G fun _ _ _ _ _ _=>z1x rfl fun _=>rfl
  exact⟨d7,fun s v=>.of_eq (b7 [v] rfl),fun base _ _=>(good (f:=fun i=>[f0,f1,f2,f3,f4,f5,f6,fa].getD i fa) (fd:=fun i=>[d0,d1,d2,d3,d4,d5,d6,d7].getD i d0) (⟨Q1x X G z_bool,Q1x X G z_int,Q1x X G z_isinstance,Q1x X G z_len,Q1x X G z_list,Q1x X G z_range,Q1x X G z_str,Q1x X G z_tuple,g_MOST_WORDS,x_TooMany,f_count,f_most,y_SlashError,i_NoForm_NoNumber_NoRow_NoWord_,i_TooMany,i_ValueError⟩:Sta K mg) ⟨L0,L1,L2,L3,L4,L5,L6,L7⟩ 60).c7.G⟩
theorem walk{l:Q6f}{q:Q0l}{loose:List Str}{XP:(Str->Option Q0a)->Q0z->Prop}{YP:Q1a->Q0z->Prop}{d:DefRec}{K:Params->Q1n}(hlaw:LawP (tab 60).dlaw)(hn:l.most=some 63)(hdf:d.params.defaults=[])
  (hY:∀(w:Q1a)(h:Q0z),YP w h->(K w.params).In h)
  (F:∀(w:Q1a)(mg:Str->Option Q0a)(fa:Q0i)(h:Q0z),(K w.params).In h->h.Ns Q0r mg->mg d.name=some (.ref fa)->
   ∃fd:Q1u,(∀(s:Q0b)(u:Q0a),Q8m s fd ⟨[u],[]⟩ [("_law_script",u)])/\∀base:Q0z,(K w.params).In base->base.Ns Q0r mg->FnOk l.prog w (K w.params) mg base (CXE l.prog w) 62 fa fd ["_law_script"] (q0s (K w.params) (tab 60).dlaw)) :
  Q9g q loose XP YP l.row.toRowW d [] (fun f vs=>Q8r f vs):=
 L2.q9y (n:=63) (k:=62) (x:= "_law_script") (CX:=fun w=>CXE l.prog w) (sp:=fun w=>q0s (K w.params) (tab 60).dlaw) hn (by decide) hdf ⟨rfl,by decide,by decide⟩ hY F (fun _ H a ns hl hO hS=>y1u hlaw H a ns hl hO hS) fun _ _ _ _ _ hh1=>by obtain⟨_,_,_,_,_,_,_,_,_,_,_,_,z⟩:=hh1;exact(z)
end
def pc(c:Nat):List Nat->List (List Nat)
 |[]=>[[]]
 |a::r=>if a=c then[]::pc c r else(a::(pc c r).headD [])::(pc c r).tail
theorem y1g(c:Nat):∀z,pc c z≠[]
 |[]=>by simp[pc]
 |a::r=>by unfold pc;split<;>simp
theorem q6t(c:Nat)(z:List Nat):∃p q,pc c z=p::q:=by
 cases e:pc c z with
 |nil=>exact absurd e (y1g c z)
 |cons p q=>exact⟨p,q,rfl⟩
theorem z8a(c:Nat):∀z,jn c (pc c z)=z
 |[]=>rfl
 |a::r=>by
  have ih:=z8a c r
  obtain⟨p,q,e⟩:=q6t c r
  unfold pc
  rw[e]at ih ⊢
  split
  ·rename_i h
   subst h
   show[]++a::jn a (p::q)=_
   rw[ih];rfl
  ·cases q with
   |nil=>show a::p=_;rw[show p=r from ih]
   |cons q l=>
    show(a::p)++c::jn c (q::l)=_
    rw[Q2e]
    exact congrArg (a::·) ih
theorem y1f(c:Nat):∀z,∀p∈pc c z,c∉p
 |[],p,h=>by
  rw[pc,Q1l]at h
  subst h;simp
 |a::r,p,h=>by
  have ih:=y1f c r
  obtain⟨u,q,e⟩:=q6t c r
  unfold pc at h
  rw[e]at h ih
  split at h
  ·rcases Q1h.mp h with rfl|h
   ·simp
   ·exact ih p h
  ·rename_i n
   rcases Q1h.mp h with rfl|h
   ·have:=ih u (by simp)
    simp only[List.headD_cons,Q1h,not_or]
    exact⟨Q3s n,this⟩
   ·exact ih p (by simp only[List.tail_cons]at h;simp[h])
theorem z6c(c:Nat):∀u,∃i l,pc c u=i++[l]/\pc c (u++[c])=i++[l]++[[]]/\∀a,a≠c->pc c (u++[a])=i++[l++[a]]
 |[]=>⟨[],[],rfl,by simp[pc],fun a h=>by simp[pc,h]⟩
 |b::u=>by
  obtain⟨i,l,e1,e2,e3⟩:=z6c c u
  by_cases h:b=c
  ·refine⟨[]::i,l,?_,?_,fun a ha=>?_⟩
   ·rw[pc,if_pos h,e1];rfl
   ·rw[Q2e,pc,if_pos h,e2];rfl
   ·rw[Q2e,pc,if_pos h,e3 a ha];rfl
  ·cases i with
   |nil=>
    refine⟨[],b::l,?_,?_,fun a ha=>?_⟩
    ·rw[pc,if_neg h,e1];rfl
    ·rw[Q2e,pc,if_neg h,e2];rfl
    ·rw[Q2e,pc,if_neg h,e3 a ha];rfl
   |cons x i=>
    refine⟨(b::x)::i,l,?_,?_,fun a ha=>?_⟩
    ·rw[pc,if_neg h,e1];rfl
    ·rw[Q2e,pc,if_neg h,e2];rfl
    ·rw[Q2e,pc,if_neg h,e3 a ha];rfl
theorem z1j(c:Nat):∀z,(pc c z).length<=z.length+1
 |[]=>by simp[pc]
 |a::r=>by
  have:=z1j c r
  obtain⟨u,q,e⟩:=q6t c r
  unfold pc
  rw[e]at this ⊢
  split<;>simp at this ⊢<;>omega
theorem z6g(c:Nat):∀(l:List (List Nat))(p:List Nat),p∈l->p.length<=(jn c l).length
 |[],_,h=>nomatch h
 |[q],p,h=>by rw[Q1l]at h;subst h;exact Q0m _
 |q::r::l,p,h=>by
  show p.length<=(q++c::jn c (r::l)).length
  rw[Q0s,Q0q]
  rcases Q1h.mp h with rfl|h
  ·omega
  ·have:=z6g c (r::l) p h
   omega
def dz(z:List Nat):List (List Nat):=if z=[]then[]else pc 32 z
def tpv(l:List (List Nat)):List PV:=l.map fun p=>PV.str (mk p)
def PrtD(sp:Den):Prop:=∀(z:List Nat)(S:q0a)(E:EK)(Q:VC),z.length<=100000->(∀r S',S'[r]?=some (.lst (tpv (dz z)))->Ex [] S S'->Q (.ref r) S')->sp [.str (mk z)] S E Q
theorem e0:Q0g "" = mk []:=by decide +kernel
theorem e1:Q0g " " = mk [32]:=by decide +kernel
theorem z8n{a b:List Nat}:mk a=mk b↔a=b:=⟨fun h=>by have:=congrArg (fun s:Str=>s.cps.toList) h;rwa [q1a,q1a]at this,fun h=>by rw[h]⟩
theorem q2y(a b:List (List Nat)):tpv (a++b)=tpv a++tpv b:=by simp[tpv]
theorem q2x(a:List (List Nat)):(tpv a).length=a.length:=by simp[tpv]
theorem y2g(n:Nat):ixN (n+1) (-1)=some n:=by
 unfold ixN
 rw[if_neg (by omega),if_pos (by omega)]
 congr 1;omega
theorem z7s:PrtD (fnP 1 3 q0r):=by
 intro z S E Q hz h
 refine⟨rfl,?_⟩
 unfold q0r
 refine seqI fun K hK=>?_
 dsimp![e0,z8n]
 refine ite2 (fun hz0=>⟨by decide,h _ _ (by subst hz0;rw[Q1e (Q0m _),Q4c];rfl) (Ex.new _ _ _)⟩) fun hz0=>hK _ _ ?_
 clear hK K
 refine seqI fun K hK=>?_
 dsimp![e0]
 refine⟨by decide,hK _ _ ?_⟩
 clear hK K
 refine seqI fun K hK=>?_
 dsimp![q1a]
 refine forI (fun rest σ S1=>∃(u v:List Nat)(x:Option PV),u++v=z/\rest=v.map chr1/\σ=[some (.str (mk z)),some (.ref S.length),x]/\S1[S.length]?=some (.lst (tpv (pc 32 u)))/\Ex [] S S1) ?_ ?_ _ _ _ ⟨[],z,none,rfl,rfl,rfl,by rw[Q1e (Q0m _),Q4c];rfl,Ex.new _ _ _⟩
 ·rintro σ S1 ⟨u,v,x,rfl,hr,rfl,hS,hx⟩
  have:v=[]:=by cases v with
   |nil=>rfl
   |cons a r=>cases hr
  subst this
  refine⟨trivial,hK _ _ ?_⟩
  dsimp![true_and]
  rw[Q2c]at h hz0
  exact h _ _ (by rw[hS,dz,if_neg hz0]) hx
 ·rintro x r σ S1 ⟨u,v,y,hu,hr,rfl,hS,hx⟩ N hN
  cases v with
  |nil=>cases hr
  |cons a v=>
   simp only[Q1c,Q7o.injEq]at hr
   obtain⟨rfl,rfl⟩:=hr
   obtain⟨i,l,q1,q2,q3⟩:=z6c 32 u
   have hS':S1[S.length]?=some (.lst (tpv i++[.str (mk l)])):=by rw[hS,q1,q2y];rfl
   have hlen:(tpv i++[PV.str (mk l)]).length=i.length+1:=by simp[tpv]
   have hL:i.length+1<=z.length+1/\l.length<=z.length:=by
    have h1:=z1j 32 u
    have h2:=congrArg Q3x (z8a 32 u)
    have h3:l.length<=(jn 32 (pc 32 u)).length:=z6g 32 _ _ (by rw[q1];simp)
    rw[q1]at h1
    have h4:=congrArg Q3x hu
    simp at h1 h4
    omega
   have hset:(tpv i++[PV.str (mk l)]).set i.length (.str (mk (l++[a])))=tpv (i++[l++[a]]):=by
    simp[q2y,List.set_append,q2x,tpv]
   have lt:S.length<S1.length:=(Q0j.mp hS).1
   refine⟨trivial,?_⟩
   dsimp![chr1,y2s,e1,e0,z8n,hS',q3d hS',y3u,hlen,y2g,z1r,hset,q1r,Q7o.injEq,and_true]
   refine ite2 (fun ha=>⟨by rw[Q2n];omega,hN _ _ ⟨u++[a],v,_,by rw[<-hu];simp,rfl,rfl,?_,hx.set (.inr (Q0m _))⟩⟩) fun ha=>⟨by rw[Q2n];omega,hN _ _ ⟨u++[a],v,_,by rw[<-hu];simp,rfl,rfl,?_,hx.set (.inr (Q0m _))⟩⟩
   ·rw[Q1i lt,ha,q2,q2y,q2y];rfl
   ·rw[Q1i lt,q3 a ha]
theorem y2o(z:List Nat):(dz z).length<=z.length+1:=by
 unfold dz
 split
 ·exact Q2b _
 ·exact z1j 32 z
def WinD(sp:Den):Prop:=∀(z:List Nat)(S:q0a)(E:EK)(Q:VC),z.length<=100000->((dz z).length<=10->∀S',Ex [] S S'->Q (.tup (tpv (dz z))) S')->
 (10<(dz z).length->∀S',Ex [] S S'->E (.exc ("TooMany",[("count",.int (dz z).length),("most",.int 10)])) S')->sp [.str (mk z)] S E Q
theorem z3t{z:List Nat}(h:z≠[]):(Q5b (mk z) (mk [32])).map PV.str=tpv (dz z):=by
 have:=z3s (c:=32) (by decide) (y1g 32 z) (y1f 32 z)
 rw[z8a]at this
 rw[this,dz,if_neg h,Q7s];rfl
theorem z1t{n:Nat}(h:n<=100001):(n:Int).natAbs.log2<1920:=by
 rw[Int.natAbs_natCast]
 by_cases z:n=0
 ·subst z;decide
 ·rw[Z0x z];exact Q9a (Q1t h (by decide:100001<=2 ^ 20)) (Nat.pow_lt_pow_right (by decide) (by decide))
theorem z9r:WinD (fnP 1 2 q0n):=by
 intro z S E Q hz h1 h2
 refine⟨rfl,?_⟩
 unfold q0n
 have hd:=y2o z
 have rest:∀(K:Ev.Loc->q0a->Prop) S1 r,S1[r]?=some (.lst (tpv (dz z)))->Ex [] S S1->(∀(σ:Ev.Loc)(S:q0a),wSeq (wIfS (q2h (wBin cGt (wCB fLen (q0c (wVar 1) wNil)) (wC (.int 10))))
   (q2t "TooMany" ["count", "most"] [true,true] (q0c (wCB fLen (q0c (wVar 1) wNil)) (q0c (wC (.int 10)) wNil)))
   q2v)
   (wRet (wCB q4h (q0c (wVar 1) wNil))) {nx:=fun _ S'=>Q .non S',rt:=Q} E σ S->K σ S)->K [some (.str (mk z)),some (.ref r)] S1:=by
  intro K S1 r hr hx hK
  refine hK _ _ (seqI fun K2 hK2=>?_)
  dsimp![q0y hr,q2x]
  refine ite2 (fun hc=>⟨by decide,⟨z1t (by omega),by decide⟩,h2 (by omega) _ hx⟩) fun hc=>hK2 _ _ ?_
  dsimp![q0y hr]
  exact h1 (by omega) _ hx
 refine seqI fun K hK=>?_
 dsimp![e0,e1,z8n,q1r]
 refine ite2 (fun hz0=>?_) fun hz0=>⟨by decide,rest K _ _ ?_ (Ex.new _ _ _) hK⟩
 ·dsimp![q8a,q1r]
  exact⟨⟨by decide,by rw[Q2n];omega⟩,rest K _ _ (by rw[Q1e (Q0m _),Q4c,z3t hz0];rfl) (Ex.new _ _ _) hK⟩
 ·rw[Q1e (Q0m _),Q4c,dz,if_pos (Decidable.not_not.mp hz0)];rfl
theorem z6h(c n:Nat):∀l:List (List Nat),(∀p∈l,p.length<=n)->(jn c l).length<=(n+1)*l.length
 |[],_=>Q2b _
 |[p],h=>by have:=h p (by simp);simp only[jn,Q0q,Q1k];omega
 |p::q::r,h=>by
  have h1:=h p (by simp)
  have h2:=z6h c n (q::r) fun x hx=>h x (by simp[hx])
  show(p++c::jn c (q::r)).length<=_
  rw[Q0s,Q0q,Q0q (a:=p),Z0t]
  omega
theorem z0e(n:Nat):∀l:List (List Nat),(∀p∈l,p.length<=n)->((l.map mk).map (·.length)).sum<=n*l.length
 |[],_=>Q2b _
 |p::r,h=>by
  have h1:=h p (by simp)
  have h2:=z0e n r fun x hx=>h x (by simp[hx])
  simp only[Q1c,Z0b,Q0q,q1r,Z0t]
  omega
theorem z3r(l:List (List Nat)):q1g (tpv l)=some (l.map mk):=by
 induction l with
 |nil=>rfl
 |cons p r ih=>
  show q1g (PV.str (mk p)::tpv r)=_
  unfold q1g
  rw[ih];rfl
def PkS(w:WE)(ns:List Int)(k:Nat):Prop:=∀(σ:Ev.Loc)(S:q0a)(E:EK)(Q:VC),σ[0]?=some (some (.frl (ns.map .int)))->(∀z S',z.length<=k->Ex [] S S'->Q (.str (mk z)) S')->w σ S E Q
theorem y0t{spc:Den}(hc:z9q spc){ns:List Int}(hn:ns.length<=63)(c:Int):PkS (wBin bIx (wLst (q0c (wC (.str "")) (q0c (wC (.str " ")) wNil))) (wCB fInt (q0c (wBin cEq (wBin bMod (q1f spc (q0c (wVar 0) (q0c (wC (.int 1)) wNil))) (wC (.int 16))) (wC (.int c))) wNil))) ns 1:=by
 intro σ S E Q h0 h
 dsimp![h0]
 refine⟨by decide,hc ns 1 _ _ _ hn fun v=>?_⟩
 dsimp![q1d]
 refine⟨by decide,?_⟩
 by_cases hv:v % 16=c
 ·rw[if_pos hv]
  exact h [32] _ (by simp) (Ex.new _ _ _)
 ·rw[if_neg hv]
  exact h [] _ (by simp) (Ex.new _ _ _)
def SenD(sp:Den):Prop:=∀(ns:List Int)(S:q0a)(E:EK)(Q:VC),ns.length<=63->(∀z S',z.length<=1000->Ex [] S S'->Q (.str (mk z)) S')->sp [.frl (ns.map .int)] S E Q
theorem y0e{spc spw sp1:Den}(hc:z9q spc)(hw:z3g spw)(h1:z6k sp1):SenD (fnP 1 5 (q0m spc spw sp1)):=by
 intro ns S E Q hn h
 refine⟨rfl,?_⟩
 unfold q0m
 refine seqI fun K hK=>?_
 dsimp![true_and]
 refine⟨by decide,hK _ _ ?_⟩
 clear hK K
 refine seqI fun K hK=>?_
 dsimp![true_and]
 refine hc ns 0 _ _ _ hn fun v=>?_
 obtain⟨m,hm,hm14⟩:∃m:Nat,v % 15=(m:Int)/\m<=14:=⟨(v % 15).toNat,by omega,by omega⟩
 dsimp![hm]
 refine⟨by decide,⟨by omega,by omega⟩,?_⟩
 rw[Q3d]
 refine forI (fun rest σ S1=>∃(l:List (List Nat))(x y t:Option PV),(∀p∈l,p.length<=8)/\l.length+rest.length=m/\(∀x∈rest,x∈rngP 0 m)/\σ=[some (.frl (ns.map .int)),some (.ref S.length),x,y,t]/\S1[S.length]?=some (.lst (tpv l))/\Ex [] S S1) ?_ ?_ _ _ _ ⟨[],none,none,none,fun _ h=>(nomatch h),by simp[rngP],fun _ h=>h,rfl,by rw[Q1e (Q0m _),Q4c];rfl,Ex.new _ _ _⟩
 ·rintro σ S1 ⟨l,x,y,t,hl,hm,-,rfl,hS,hx⟩
  rw[Q1k,Q8a]at hm
  refine⟨trivial,hK _ _ ?_⟩
  have hj:=z6h 32 8 l hl
  have hs:=z0e 8 l hl
  have pA:=y0t hc hn 5
  have pC:=y0t hc hn 6
  revert pA pC
  generalize (wBin bIx (wLst (q0c (wC (.str "")) (q0c (wC (.str " ")) wNil))) (wCB fInt (q0c (wBin cEq (wBin bMod (q1f spc (q0c (wVar 0) (q0c (wC (.int 1)) wNil))) (wC (.int 16))) (wC (.int 5))) wNil)))=A
  generalize (wBin bIx (wLst (q0c (wC (.str "")) (q0c (wC (.str " ")) wNil))) (wCB fInt (q0c (wBin cEq (wBin bMod (q1f spc (q0c (wVar 0) (q0c (wC (.int 1)) wNil))) (wC (.int 16))) (wC (.int 6))) wNil)))=C
  intro pA pC
  dsimp![true_and]
  refine pA _ _ _ _ rfl fun z1 S2 hz1 hx2=>?_
  have hS2:=hx2.get hS (by simp)
  dsimp![q0y hS2,Q6a,z3r,e1,z8v,z1r,q1r]
  refine⟨by simp only[Q1s,Q0q,Q1k];omega,by rw[Q2n];omega,pC _ _ _ _ rfl fun z2 S3 hz2 hx3=>?_⟩
  dsimp![z1r,q1r]
  refine⟨by rw[Q2n];simp only[Q0s];omega,h _ _ (by simp only[Q0s];omega) ((hx.trans hx2).trans hx3)⟩
 ·rintro x r σ S1 ⟨l,x1,y,t,hl,hm,hr,rfl,hS,hx⟩ N hN
  obtain⟨j,hj,rfl⟩:=q7z (hr x (by simp))
  rw[Q0q]at hm
  refine⟨trivial,?_⟩
  dsimp![true_and]
  have i2:(2+2*(j:Int))=((2+2*j:Nat):Int):=by omega
  have i3:(3+2*(j:Int))=((3+2*j:Nat):Int):=by omega
  refine seqI fun K2 hK2=>?_
  dsimp![i2]
  refine⟨by first|omega|exact .inl ⟨by decide,by decide⟩|exact⟨by decide,by decide⟩,hc ns _ _ _ _ hn fun v=>?_⟩
  refine hK2 _ _ ?_
  clear hK2 K2
  refine seqI fun K2 hK2=>?_
  dsimp![true_and]
  refine⟨⟨by decide,by decide⟩,h1 _ _ _ _ fun ks hks=>⟨⟨by decide,by decide⟩,hw _ 1 _ _ _ (by decide) fun r2 ws S2 hws hnm hr1 hr2 hx2=>?_⟩⟩
  obtain⟨w,rfl⟩:∃w,ws=[w]:=by
   match ws,hws with
   |[w],_=>exact⟨w,rfl⟩
  have hw1:=hnm w (by simp)
  dsimp![bIx,hr2,wpv,atI0,Q1c,Q7r]
  refine⟨by decide,hK2 _ _ ?_⟩
  clear hK2 K2
  have hS2:=hx2.get hS (by simp)
  have lt2:S.length<S2.length:=(Q0j.mp hS2).1
  have hA:(S2++[SO.lst [PV.str (wd ks),PV.str (wd w)]])[S2.length]?=some (.lst [.str (wd ks),.str (wd w)]):=q1d _ _
  have hB:(S2++[SO.lst [PV.str (wd ks),PV.str (wd w)]])[S.length]?=some (.lst (tpv l)):=by rw[Q0x lt2];exact hS2
  have hX:Ex [] S (S2++[SO.lst [PV.str (wd ks),PV.str (wd w)]]):=(hx.trans hx2).app _
  generalize (S2++[SO.lst [PV.str (wd ks),PV.str (wd w)]])=S3 at hA hB hX ⊢
  dsimp![i3,hB]
  refine⟨by first|exact .inl ⟨by decide,by decide⟩|exact⟨by decide,by decide⟩|(unfold CMul;omega),hc ns _ _ _ _ hn fun c=>?_⟩
  have mkw:∀u:List Nat,Nm5 u->∃p:List Nat,p.length<=8/\wd u=mk p:=fun u hu=>⟨(wd u).cps.toList,by have:=q4x u;rw[<-z8m (wd u),q1r]at this;have:=hu.2.1;omega,(z8m _).symm⟩
  obtain⟨p,hp,ep⟩:∃p:List Nat,p.length<=8/\atI [PV.str (wd ks),PV.str (wd w)] (c % 2)=some (.str (mk p)):=by
   rcases Int.emod_two_eq c with e|e
   ·obtain⟨p,h1,h2⟩:=mkw ks hks
    exact⟨p,h1,by rw[e,h2];rfl⟩
   ·obtain⟨p,h1,h2⟩:=mkw w hw1
    exact⟨p,h1,by rw[e,h2];rfl⟩
  dsimp![hA,ep]
  refine⟨by decide,by decide,by decide,?_⟩
  obtain⟨p',hp',ep'⟩:∃p':List Nat,p'.length<=8/\atI [PV.str (mk p),PV.str ""] (if v % 7=3 then 1 else 0)=some (.str (mk p')):=by
   by_cases e:v % 7=3
   ·rw[if_pos e];exact⟨[],by simp,by rw[e0];rfl⟩
   ·rw[if_neg e];exact⟨p,hp,rfl⟩
  have lt3:S.length<S3.length:=(Q0j.mp hB).1
  have hB':(S3++[SO.lst [PV.str (mk p),PV.str ""]])[S.length]?=some (.lst (tpv l)):=by rw[Q0x lt3];exact hB
  dsimp![ep',q3d hB',q2x]
  refine⟨by rw[Q2n];omega,hN _ _ ⟨l++[p'],_,_,_,fun q hq=>?_,by simp only[Q0s,Q0q,Q1k];omega,fun x hx=>hr x (by simp[hx]),rfl,?_,(hX.app _).set (.inr (Q0m _))⟩⟩
  ·rcases Q3p.mp hq with q|q
   ·exact hl _ q
   ·rw[Q1l]at q;subst q;exact hp'
  ·rw[Q1i (by rw[Q0s];omega),q2y];rfl
theorem lkC(a b:PV):Q2k "count" [("count",a),("most",b)]=some a:=rfl
theorem lkM(a b:PV):Q2k "most" [("count",a),("most",b)]=some b:=rfl
theorem mem1(c:String):c∈[c]:=by simp
def RefD(sp:Den):Prop:=∀(z:List Nat)(S:q0a)(E:EK)(Q:VC),z.length<=100000->10<(dz z).length->(∀S',Ex [] S S'->Q (.bl true) S')->sp [.str (mk z),.int (dz z).length] S E Q
theorem z7l{spw:Den}(hw:WinD spw):RefD (fnP 2 5 (q0o spw)):=by
 intro z S E Q hz hd h
 refine⟨rfl,?_⟩
 unfold q0o
 refine seqI fun K hK=>?_
 dsimp![true_and]
 refine hK _ _ ?_
 clear hK K
 refine seqI fun K hK=>?_
 dsimp![true_and]
 refine hw z _ _ _ hz (fun q=>absurd hd (by omega)) fun _ S' hx=>?_
 dsimp![true_and]
 refine⟨by simp,hK _ _ ?_⟩
 clear hK K
 refine seqI fun K hK=>?_
 dsimp![true_and]
 refine hK _ _ ?_
 clear hK K
 refine seqI fun K hK=>?_
 dsimp![true_and]
 refine hK _ _ ?_
 clear hK K
 refine seqI fun K hK=>?_
 dsimp![lkC]
 refine⟨mem1 _,mem1 _,hK _ _ ?_⟩
 dsimp![lkC,lkM]
 exact⟨mem1 _,mem1 _,h _ hx⟩
theorem y2b(n:Nat):WinD (tab (n+1)).dwords_in:=z9r
theorem y3v(n:Nat):RefD (tab (n+2)).dLrefused:=z7l (y2b n)
theorem y2d(n:Nat):PrtD (tab (n+1)).dLparted:=z7s
theorem y2c(n:Nat):SenD (tab (n+2)).dLsentence:=y0e z9k q9x z3l
theorem law_ok:LawP (tab 60).dlaw:=by
 intro ns hn
 have e:(tab 60).dlaw=fnP 1 4 (q1n (tab 59).dLsentence (tab 59).dLparted (tab 59).dLrefused (tab 59).dwords_in):=rfl
 rw[e]
 have h1:=y2c 57
 have h2:=y2d 58
 have h3:=y3v 57
 have h4:=y2b 58
 revert h1 h2 h3 h4
 generalize (tab 59).dLsentence=s1
 generalize (tab 59).dLparted=s2
 generalize (tab 59).dLrefused=s3
 generalize (tab 59).dwords_in=s4
 intro h1 h2 h3 h4
 refine⟨rfl,?_⟩
 unfold q1n
 refine seqI fun K hK=>?_
 dsimp![true_and]
 refine h1 ns _ _ _ hn fun z S1 hz hx1=>hK _ _ ?_
 clear hK K
 refine seqI fun K hK=>?_
 dsimp![true_and]
 refine h2 z _ _ _ (by omega) fun r S2 hr hx2=>hK _ _ ?_
 clear hK K
 refine seqI fun K hK=>?_
 dsimp![q0y hr,q2x]
 refine ite2 (fun hc=>h3 z _ _ _ (by omega) (by omega) fun _ _=>rfl) fun hc=>hK _ _ ?_
 clear hK K
 refine seqI fun K hK=>?_
 dsimp![true_and]
 refine h4 z _ _ _ (by omega) (fun _ S3 hx3=>hK _ _ ?_) fun q=>absurd q (by omega)
 clear hK K
 refine seqI fun K hK=>?_
 dsimp![true_and]
 refine⟨by rw[q2x,Q2n];omega,z9j (fun rest ys σ S=>ys=[]/\S=S3/\(∀x∈rest,∃t,x=PV.str t)/\∃o,σ=[o]) ?_ ?_ _ _ _ _ ⟨rfl,rfl,fun x hx=>by obtain⟨p,_,rfl⟩:=Z0k.mp hx;exact⟨_,rfl⟩,_,rfl⟩⟩
 ·rintro ys σ S ⟨rfl,rfl,-,o,rfl⟩
  refine⟨trivial,by decide,?_⟩
  have g1:(S++[SO.lst []]++[SO.lst []])[S.length]?=some (.lst []):=by rw[Q0x (by simp)];exact q1d _ _
  have g2:(S++[SO.lst []]++[SO.lst []])[(S++[SO.lst []]).length]?=some (.lst []):=q1d _ _
  dsimp![cNe,cEqG,q0y g1,q0y g2]
  refine(if_neg (by simp[eqBs])).mpr (hK _ _ ?_)
  have hr3:=(hx3.get hr (by simp))
  have hr4:(S++[SO.lst []]++[SO.lst []]++[SO.lst (tpv (dz z))])[r]?=some (.lst (tpv (dz z))):=by
   have:=(Q0j.mp hr3).1
   rw[Q4i,Q4i,Q0x this];exact hr3
  have hr5:(S++[SO.lst []]++[SO.lst []]++[SO.lst (tpv (dz z))])[(S++[SO.lst []]++[SO.lst []]).length]?=some (.lst (tpv (dz z))):=q1d _ _
  dsimp![cEq,cEqG,q0y hr4,q0y hr5]
  have et:tpv (dz z)=((dz z).map mk).map PV.str:=by rw[Q7s];rfl
  rw[et]
  exact⟨q9b _,by rw[q5z]⟩
 ·rintro x r ys σ S ⟨rfl,rfl,hr,o,rfl⟩ N hN
  obtain⟨t,rfl⟩:=hr x (by simp)
  refine⟨trivial,?_⟩
  dsimp![true_and]
  exact hN _ _ _ ⟨rfl,rfl,fun x hx=>hr x (by simp[hx]),_,rfl⟩
end My
open PySem PySem.W PyProof.Rows
def PySem.W.Fast.tw2987394829764281064:Unit:=()
def PySem.W.Fast.tw13714235189896434645:Unit:=()
def PySem.W.Fast.tw12815702655553604136:Unit:=()
def PySem.W.Fast.tw824241391025543533:Unit:=()
def PySem.W.Fast.tw1844012821705120832:Unit:=()
def PySem.W.Fast.tw9882553501243019230:Unit:=()
def PySem.W.Fast.tw5997929834915297795:Unit:=()
def PySem.W.Fast.tw4255732177345393426:Unit:=()
def PySem.W.Fast.tw5620756627494835362:Unit:=()
def PySem.W.Fast.tw284072058493314229:Unit:=()
def PySem.W.Fast.tw11085811521628621444:Unit:=()
def PySem.W.Fast.tw11775064914444255266:Unit:=()
def PySem.W.Fast.tw16496597992765897901:Unit:=()
def PySem.W.Fast.tw15973151918339381818:Unit:=()
def PySem.W.Fast.tw3243269773785279681:Unit:=()
def PySem.W.Fast.tw14463930614454079135:Unit:=()
def PySem.W.Fast.tw12824348843406968371:Unit:=()
def PySem.W.Fast.tw17217814185336354302:Unit:=()
def PySem.W.Fast.tw8765660379293515279:Unit:=()
def PySem.W.Fast.tw13296408037360069139:Unit:=()
def PySem.W.Fast.tw13183132875784074584:Unit:=()
set_option maxRecDepth 100000 in
set_option maxHeartbeats 0 in
theorem PySem.Challenge.cw_slashwise_k80_words_of_a_sentence_holds : PySem.Challenge.rw_slashwise_k80_words_of_a_sentence.Holds := by
 w_on; o_law; k_head; (case hw => w_witness2)
 k_fill
 refine My.walk (l := PySem.Challenge.rw_slashwise_k80_words_of_a_sentence) My.law_ok rfl rfl (fun w h Y => PySem.W.kIn_of Y) ?F
 case F =>
  intro w mg fa h KX G hmg
  refine' My.all_mk KX G hmg (.mk ?a0 ?l0 ?c0 ?k0) (.mk ?a1 ?l1 ?c1 ?k1) (.mk ?a2 ?l2 ?c2 ?k2) (.mk ?a3 ?l3 ?c3 ?k3) (.mk ?a4 ?l4 ?c4 ?k4) (.mk ?a5 ?l5 ?c5 ?k5) (.mk ?a6 ?l6 ?c6 ?k6) (.mk ?a7 ?l7 ?c7 ?k7) ?gg_MOST_WORDS ?xa_NoForm ?xa_NoNumber ?xa_NoRow ?xa_NoWord ?xa_SlashError ?xa_TooMany ?xr ?xq ?xv ?xj_TooMany (.mk ?lTooMany ?cTooMany ?kTooMany) ?xk_TooMany ?xs_TooMany ?xn_TooMany_count ?xn_TooMany_most ?xh_TooMany_count ?xh_TooMany_most ?xg ?xt ?x1_TooMany ?x2_TooMany ?x3_TooMany ?x4_TooMany ?x5_TooMany ?x6_TooMany ?xc_SlashError_TooMany ?xi_NoForm_NoNumber_NoRow_NoWord_TooMany ?xi_TooMany_TooMany ?xi_ValueError_TooMany ?z_bool ?z_int ?z_isinstance ?z_len ?z_list ?z_range ?z_str ?z_tuple ?z_ValueError
  (case a0 | l0 | c0 | k0 | a1 | l1 | c1 | k1 | a2 | l2 | c2 | k2 | a3 | l3 | c3 | k3 | a4 | l4 | c4 | k4 | a5 | l5 | c5 | k5 | a6 | l6 | c6 | k6 | a7 | l7 | c7 | k7 | gg_MOST_WORDS | xa_NoForm | xa_NoNumber | xa_NoRow | xa_NoWord | xa_SlashError | xa_TooMany | xr | xq | xv | xj_TooMany | lTooMany | cTooMany | kTooMany => k_is)
  (case xk_TooMany => kernel_rfl)
  (case xs_TooMany | xn_TooMany_count | xn_TooMany_most | xh_TooMany_count | xh_TooMany_most | xg | xt | x1_TooMany | x2_TooMany | x3_TooMany | x4_TooMany | x5_TooMany | x6_TooMany => k_is)
  (case xc_SlashError_TooMany => kts_exm)
  (case xi_NoForm_NoNumber_NoRow_NoWord_TooMany | xi_TooMany_TooMany | xi_ValueError_TooMany => kit_is)
  (case z_bool | z_int | z_isinstance | z_len | z_list | z_range | z_str | z_tuple | z_ValueError => k_is)
#print axioms PySem.Challenge.cw_slashwise_k80_words_of_a_sentence_holds
