import PyProof.Rows.All
import PyProof.DictRoadsH
import Wide.All
import OpenK.AllK
import Wide.FinOn
import Lean
import PyProof.EqAt
import PyProof.EqKinds
import PyProof.TupleCall
import KE.KTryMore
import PyProof.StationsW
import PyProof.ExcBaseAll.ValueError
import PyProof.Rows.CatchOwn
import PyProof.ZipIter
import PyProof.Rows.TupAdd
import PyProof.NeKinds
import KE.KUnpack
import KE.KRevSl
import PyProof.FitsBits
import PyProof.RulesAs
import PyProof.NsDelKeeps
import PyProof.ExcArgsOwn
import OpenK.KDescr
import KE.KIsNot
import PyProof.ExcAttrAll.ValueError
import PyProof.StrOps2
import PyProof.EnumFor
import PyProof.EnumMake
import PyProof.DictCompW
import PyProof.ListRange
import PyProof.DictIter
import KE.KSortKey
import PyProof.Rows.SortStr
import PySem.Challenge.RW_slashwise_k72_whole_what_stays_by_turns
open PySem.W (Frag)
set_option Elab.async false
set_option linter.all false
set_option maxRecDepth 100000
set_option maxHeartbeats 4000000
noncomputable section
namespace L2
open PySem PySem.Spec PyProof.Rows
abbrev Key:=Sum Int Str
def z9i:Key->Value->Bool
 |.inl k,v=>Value.isInt k v
 |.inr x,v=>Value.isStrOf x v
def keyH(w:World):Key->Int
 |.inl k=>hashInt k
 |.inr x=>hashStr w x
theorem q2o:∀{k:Key}{v:Value},z9i k v=true->(∃i t,k=Sum.inl i/\v=Value.int i t)\/(∃x t,k=Sum.inr x/\v=Value.str x t)
 |.inl i,v,h=>by
  obtain⟨t,e⟩:=Value.isInt_shape (k:=i) (v:=v) h
  exact .inl ⟨i,t,rfl,e⟩
 |.inr x,v,h=>by
  obtain⟨t,e⟩:=Value.isStrOf_shape (x:=x) (v:=v) h
  exact .inr ⟨x,t,rfl,e⟩
theorem y2t(i:Int)(t:Tok):z9i (.inl i) (.int i t)=true:=by simp[z9i,Value.isInt]
theorem y2s(x:Str)(t:Tok):z9i (.inr x) (.str x t)=true:=by simp[z9i,Value.isStrOf]
theorem x7o(a b:Int):decide ((Sum.inl a:Key)=Sum.inl b)=(a==b):=by
 by_cases e:a=b
 ·subst e;simp
 ·have h:¬(Sum.inl a:Key)=Sum.inl b:=fun q=>e (Sum.inl.inj q)
  rw[decide_eq_false h]
  exact(beq_eq_false_iff_ne.mpr e).symm
theorem x7l(a b:Str):decide ((Sum.inr a:Key)=Sum.inr b)=decide (a=b):=by
 by_cases e:a=b
 ·subst e;simp
 ·have h:¬(Sum.inr a:Key)=Sum.inr b:=fun q=>e (Sum.inr.inj q)
  rw[decide_eq_false h,decide_eq_false e]
theorem x7n(a:Int)(b:Str):decide ((Sum.inl a:Key)=Sum.inr b)=false:=decide_eq_false (fun q=>nomatch q)
theorem x7m(a:Str)(b:Int):decide ((Sum.inr a:Key)=Sum.inl b)=false:=decide_eq_false (fun q=>nomatch q)
def q2a(prog:Program)(w:World):PySem.KeyKind prog w Key where
 is:=z9i
 hash:=keyH w
 inj:=fun v a b ha hb=>by
  rcases q2o ha with⟨i,t,rfl,rfl⟩|⟨x,t,rfl,rfl⟩
  ·rcases q2o hb with⟨j,u,rfl,e⟩|⟨y,u,rfl,e⟩
   ·injection e with e1 _;rw[e1]
   ·exact nomatch e
  ·rcases q2o hb with⟨j,u,rfl,e⟩|⟨y,u,rfl,e⟩
   ·exact nomatch e
   ·injection e with e1 _;rw[e1]
 byValue:=fun k v h=>by
  rcases q2o h with⟨i,t,rfl,rfl⟩|⟨x,t,rfl,rfl⟩<;>rfl
 pyHash:=fun hv h=>by
  rcases q2o hv with⟨i,t,rfl,rfl⟩|⟨x,t,rfl,rfl⟩
  ·exact wpAny_pyHash_int h
  ·exact wpAny_pyHash_str h
 eqBool:=fun hu hv h=>by
  rcases q2o hu with⟨i,t,rfl,rfl⟩|⟨x,t,rfl,rfl⟩
  ·rcases q2o hv with⟨j,u,rfl,rfl⟩|⟨y,u,rfl,rfl⟩
   ·rw[x7o]at h;exact wpAny_eqBool_int h
   ·rw[x7n]at h;exact SeqAt.EqAt.int_str i t y u _ _ _ _ h
  ·rcases q2o hv with⟨j,u,rfl,rfl⟩|⟨y,u,rfl,rfl⟩
   ·rw[x7m]at h;exact SeqAt.EqAt.str_int x t j u _ _ _ _ h
   ·rw[x7l]at h;exact wpAny_eqBool_str h
 «strs»:=fun k x t v h=>by
  rcases q2o h with⟨i,u,rfl,e⟩|⟨y,u,rfl,e⟩
  ·exact nomatch e
  ·injection e with e1 _
   subst e1
   cases v<;>rfl
theorem z0m(prog:Program)(w:World)(i:Int)(t:Tok):(q2a prog w).is (.inl i) (.int i t)=true:=y2t i t
theorem z0l(prog:Program)(w:World)(x:Str)(t:Tok):(q2a prog w).is (.inr x) (.str x t)=true:=y2s x t
inductive V where
 |non|bl (b:Bool)|int (i:Int)|str (x:Str)|byt (b:Array UInt8)|flt (b:UInt64)|ref (a:Addr)|ty (n:String)
 deriving DecidableEq
def RelV:V->Value->Prop
 |.non,u=>u=Value.none
 |.bl b,u=>u=Value.bool b
 |.int i,u=>∃t,u=Value.int i t
 |.str x,u=>∃t,u=Value.str x t
 |.byt b,u=>∃t,u=Value.bytes b t
 |.flt b,u=>∃t,u=Value.float b t
 |.ref a,u=>u=Value.ref a
 |.ty n,u=>u=Value.type n
abbrev Vals:List V->List Value->Prop:=Paired RelV
theorem Vals.length{xs:List V}{us:List Value}(r:Vals xs us):xs.length=us.length:=Paired.length r
theorem Vals.get:∀{xs:List V}{us:List Value}{i:Nat}{x:V},Vals xs us->xs[i]?=some x->∃u,us[i]?=some u/\RelV x u
 |_,_,_,_,.nil,e=>by simp at e
 |_,_,0,_,.cons r _,e=>by simp at e;subst e;exact⟨_,rfl,r⟩
 |_,_,i+1,x,.cons _ t,e=>by
  obtain⟨u,h1,h2⟩:=Vals.get (i:=i) (x:=x) t (by simpa using e)
  exact⟨u,by simpa using h1,h2⟩
theorem Vals.set{x:V}{u:Value}(r:RelV x u):∀{xs:List V}{us:List Value}(i:Nat),Vals xs us->Vals (xs.set i x) (us.set i u)
 |_,_,_,.nil=>.nil
 |_,_,0,.cons _ t=>.cons r t
 |_,_,i+1,.cons q t=>.cons q (Vals.set r i t)
theorem Vals.append:∀{xs ys:List V}{us ws:List Value},Vals xs us->Vals ys ws->Vals (xs++ys) (us++ws)
 |_,_,_,_,.nil,s=>s
 |_,_,_,_,.cons r t,s=>.cons r (Vals.append t s)
theorem Vals.take:∀{xs:List V}{us:List Value}(n:Nat),Vals xs us->Vals (xs.take n) (us.take n)
 |_,_,0,_=>.nil
 |_,_,_+1,.nil=>.nil
 |_,_,n+1,.cons r t=>.cons r (Vals.take n t)
theorem Vals.drop:∀{xs:List V}{us:List Value}(n:Nat),Vals xs us->Vals (xs.drop n) (us.drop n)
 |_,_,0,r=>r
 |_,_,_+1,.nil=>.nil
 |_,_,n+1,.cons _ t=>Vals.drop n t
def RelO:Option V->Option Value->Prop
 |some v,some u=>RelV v u
 |none,none=>True
 |_,_=>False
def KV{κ:Type}:List (κ×V)->List (κ×Value)->Prop:=Paired fun(p:κ×V) (q:κ×Value)=>p.1=q.1/\RelV p.2 q.2
def kV:Key->V
 |.inl i=>.int i
 |.inr x=>.str x
inductive KTr where
 |int (i:Int)|str (x:Str)|tup (xs:List KTr)
instance w1l:DecidableEq KTr:=fun _ _=>Classical.propDecidable _
mutual
def kdep:KTr->Nat
 |.tup xs=>1+y2u xs
 |_=>0
def y2u:List KTr->Nat
 |[]=>0
 |x::xs=>max (kdep x) (y2u xs)
end
theorem q8g:∀{xs:List KTr}{j:Nat}{x:KTr},xs[j]?=some x->kdep x<=y2u xs
 |[],_,_,e=>by simp at e
 |x::xs,0,y,e=>by simp at e;subst e;simp only[y2u];omega
 |x::xs,j+1,y,e=>by simp at e;have:=q8g e;simp only[y2u];omega
theorem z1l(A:Around):A.in1.units=A.units+1:=rfl
theorem z1m{xs:List KTr}{j:Nat}{x:KTr}(e:xs[j]?=some x):xs.getD j (.int 0)=x:=by rw[List.getD_eq_getElem?_getD,e];rfl
mutual
def TrA(h:Heap):KTr->Value->Prop
 |.int i,v=>∃t,v=.int i t
 |.str x,v=>∃t,v=.str x t
 |.tup xs,v=>∃(a:Addr)(its:List Value),v=.ref a/\IsTup h a its.toArray/\TrAs h xs its
def TrAs(h:Heap):List KTr->List Value->Prop
 |[],vs=>vs=[]
 |x::xs,vs=>∃y ys,vs=y::ys/\TrA h x y/\TrAs h xs ys
end
theorem IsTup.same{h:Heap}{a:Addr}{xs ys:List Value}(p:IsTup h a xs.toArray)(q:IsTup h a ys.toArray):xs=ys:=by
 obtain⟨o,e,_,n,d⟩:=p
 obtain⟨o',e',_,n',d'⟩:=q
 obtain rfl:o=o':=Option.some.inj (e.symm.trans e')
 rw[d]at d'
 injection d' with h1 _
 simpa using h1
mutual
theorem TrA.inj{h:Heap}:∀{x y:KTr}{v:Value},TrA h x v->TrA h y v->x=y
 |.int i,y,v,⟨t,e⟩,q=>by
  subst e
  cases y with
  |int j=>obtain⟨t',e⟩:=q;cases e;rfl
  |str z=>obtain⟨t',e⟩:=q;cases e
  |tup ys=>obtain⟨a,its,e,_⟩:=q;cases e
 |.str x,y,v,⟨t,e⟩,q=>by
  subst e
  cases y with
  |int j=>obtain⟨t',e⟩:=q;cases e
  |str z=>obtain⟨t',e⟩:=q;cases e;rfl
  |tup ys=>obtain⟨a,its,e,_⟩:=q;cases e
 |.tup xs,y,v,⟨a,its,e,p,r⟩,q=>by
  subst e
  cases y with
  |int j=>obtain⟨t',e⟩:=q;cases e
  |str z=>obtain⟨t',e⟩:=q;cases e
  |tup ys=>
   obtain⟨b,its2,e,p2,r2⟩:=q
   cases e
   have:=IsTup.same p p2
   subst this
   rw[TrAs.inj r r2]
theorem TrAs.inj{h:Heap}:∀{xs ys:List KTr}{vs:List Value},TrAs h xs vs->TrAs h ys vs->xs=ys
 |[],[],_,_,_=>rfl
 |[],_::_,_,h,⟨_,_,e,_⟩=>by rw[show _=[]from h]at e;cases e
 |_::_,[],_,⟨_,_,e,_⟩,h=>by rw[show _=[]from h]at e;cases e
 |x::xs,y::ys,_,⟨a,b,e,r,t⟩,⟨a',b',e',r',t'⟩=>by
  subst e
  cases e'
  rw[TrA.inj r r',TrAs.inj t t']
end
mutual
theorem TrA.at{h h':Heap}(k:∀a its,IsTup h a its->IsTup h' a its):∀{x:KTr}{v:Value},TrA h x v->TrA h' x v
 |.int i,_,h=>h
 |.str x,_,h=>h
 |.tup xs,_,⟨a,its,e,p,r⟩=>⟨a,its,e,k _ _ p,TrAs.at k r⟩
theorem TrAs.at{h h':Heap}(k:∀a its,IsTup h a its->IsTup h' a its):∀{xs:List KTr}{vs:List Value},TrAs h xs vs->TrAs h' xs vs
 |[],_,h=>h
 |x::xs,_,⟨y,ys,e,r,t⟩=>⟨y,ys,e,TrA.at k r,TrAs.at k t⟩
end
theorem TrAs.length{h:Heap}:∀{xs:List KTr}{vs:List Value},TrAs h xs vs->xs.length=vs.length
 |[],_,h=>by rw[show _=[]from h];rfl
 |_::xs,_,⟨y,ys,e,_,t⟩=>by rw[e,List.length_cons,List.length_cons,TrAs.length t]
theorem TrAs.get{h:Heap}:∀{xs:List KTr}{vs:List Value}{i:Nat}{x:KTr},TrAs h xs vs->xs[i]?=some x->∃y,vs[i]?=some y/\TrA h x y
 |[],_,_,_,_,e=>by simp at e
 |x::xs,_,0,x',⟨y,ys,e,r,t⟩,q=>by
  simp at q;subst q;subst e
  exact⟨y,by simp,r⟩
 |x::xs,_,i+1,x',⟨y,ys,e,r,t⟩,q=>by
  subst e
  obtain⟨z,h1,h2⟩:=TrAs.get (i:=i) t (by simpa using q)
  exact⟨z,by simpa using h1,h2⟩
theorem x3u(xs ys:List KTr):((List.range (min xs.length ys.length)).all (fun j=>decide (xs.getD j (.int 0)=ys.getD j (.int 0)))&&xs.length==ys.length)=decide (KTr.tup xs=KTr.tup ys):=by
 rw[Bool.eq_iff_iff]
 simp only[Bool.and_eq_true,List.all_eq_true,List.mem_range,decide_eq_true_eq,beq_iff_eq,KTr.tup.injEq]
 constructor
 ·rintro⟨h,hl⟩
  apply List.ext_getElem hl
  intro n h1 h2
  have:=h n (by omega)
  rw[List.getD_eq_getElem?_getD,List.getD_eq_getElem?_getD,List.getElem?_eq_getElem h1,List.getElem?_eq_getElem h2]at this
  exact this
 ·rintro rfl
  exact⟨fun _ _=>rfl,rfl⟩
theorem x9f{s:Shared}:∀(d:Nat)(A:Around)(x y:KTr)(v u:Value),kdep x<=d->A.units+d<cLine->TrA s.heap x v->TrA s.heap y u->SeqAt.EqAt A s v u (decide (x=y)):=by
 intro d
 induction d with
 |zero=>
  intro A x y v u hd hu rx ry
  cases x with
  |tup xs=>simp[kdep]at hd
  |int a=>
   obtain⟨t,rfl⟩:=rx
   cases y with
   |int b=>obtain⟨t',rfl⟩:=ry;rw[show decide (KTr.int a=KTr.int b)=(a==b) by rw[Bool.eq_iff_iff];simp];exact .int_int a t b t'
   |str b=>obtain⟨t',rfl⟩:=ry;simpa using SeqAt.EqAt.int_str (A:=A) (s:=s) a t b t'
   |tup ys=>obtain⟨b,its,rfl,p,_⟩:=ry;simpa using SeqAt.EqAt.int_tuple (A:=A) (s:=s) a t p (by omega)
  |str a=>
   obtain⟨t,rfl⟩:=rx
   cases y with
   |int b=>obtain⟨t',rfl⟩:=ry;simpa using SeqAt.EqAt.str_int (A:=A) (s:=s) a t b t'
   |str b=>obtain⟨t',rfl⟩:=ry;rw[show decide (KTr.str a=KTr.str b)=(a==b) by rw[Bool.eq_iff_iff];simp];exact .str_str a t b t'
   |tup ys=>obtain⟨b,its,rfl,p,_⟩:=ry;simpa using SeqAt.EqAt.str_tuple (A:=A) (s:=s) a t p (by omega)
 |succ d ih=>
  intro A x y v u hd hu rx ry
  cases x with
  |tup xs=>
   obtain⟨a,its,rfl,p1,r1⟩:=id rx
   cases y with
   |int b=>obtain⟨t',rfl⟩:=ry;simpa using SeqAt.EqAt.tuple_int (A:=A) (s:=s) b t' p1 (by omega)
   |str b=>obtain⟨t',rfl⟩:=ry;simpa using SeqAt.EqAt.tuple_str (A:=A) (s:=s) b t' p1 (by omega)
   |tup ys=>
    obtain⟨b,its2,rfl,p2,r2⟩:=id ry
    by_cases hab:a=b
    ·subst hab
     rw[decide_eq_true (TrA.inj rx ry)]
     exact .same _
    ·refine .of_refs hab ?_
     have e:decide (KTr.tup xs=KTr.tup ys)=((List.range (min its.toArray.size its2.toArray.size)).all (fun j=>decide (xs.getD j (.int 0)=ys.getD j (.int 0)))&&its.toArray.size==its2.toArray.size):=by
      rw[List.size_toArray,List.size_toArray,<-r1.length,<-r2.length,x3u]
     rw[e]
     refine .tuples p1 p2 (by omega) fun j h1 h2=>?_
     have hj1:j<xs.length:=by rw[r1.length];simpa using h1
     have hj2:j<ys.length:=by rw[r2.length];simpa using h2
     have e1:xs[j]?=some xs[j]:=List.getElem?_eq_getElem hj1
     have e2:ys[j]?=some ys[j]:=List.getElem?_eq_getElem hj2
     obtain⟨v1,g1,q1⟩:=r1.get e1
     obtain⟨v2,g2,q2⟩:=r2.get e2
     have l1:j<its.length:=by simpa using h1
     have l2:j<its2.length:=by simpa using h2
     rw[z1m e1,z1m e2]
     rw[List.getElem?_eq_getElem l1]at g1
     rw[List.getElem?_eq_getElem l2]at g2
     cases g1
     cases g2
     have hdd:=q8g e1
     simp only[kdep]at hd
     exact ih A.in1 _ _ _ _ (by omega) (by rw[z1l];omega) (by simpa using q1) (by simpa using q2)
  |int a=>exact ih A _ _ v u (Nat.zero_le _) (by omega) rx ry
  |str a=>exact ih A _ _ v u (Nat.zero_le _) (by omega) rx ry
mutual
def trH(P:Program)(w:World):KTr->Int
 |.int i=>(q2a P w).hash (.inl i)
 |.str x=>(q2a P w).hash (.inr x)
 |.tup xs=>reduceHash (Builtin.Tuple.tupleHashOf (trHs P w xs))
def trHs(P:Program)(w:World):List KTr->List Int
 |[]=>[]
 |x::xs=>trH P w x::trHs P w xs
end
mutual
def trD:KTr->Nat
 |.tup xs=>trDs xs+1
 |_=>1
def trDs:List KTr->Nat
 |[]=>0
 |x::xs=>trD x+trDs xs
end
def HsAt(P:Program)(w:World)(A:Around)(h:Heap)(v:Value)(x:Int)(d:Nat):Prop:=∀(E:Value->Shared->Prop)(s:Shared)(Q:Int->Shared->Prop),s.heap=h->Q x {s with toks:=s.toks+d}->wpAny (model P w) A (pyHash v) Q E s
theorem x8h{P:Program}{w:World}{A:Around}{h:Heap}{a:Addr}{its:List Value}{xs:List KTr}(hu:A.units<cLine)(p:IsTup h a its.toArray)(hl:xs.length=its.length)(hi:∀(j:Nat)(x:KTr)(v:Value),xs[j]?=some x->its[j]?=some v->HsAt P w A.in1 h v (trH P w x) (trD x)) :
  HsAt P w A h (.ref a) (trH P w (.tup xs)) (trD (.tup xs)):=by
 intro E s Q eh hQ
 subst eh
 obtain⟨o,ho,hc,n,hd⟩:=p
 have hT:s.TypeIs (.ref a) "tuple" :=⟨o,ho,hc⟩
 unfold pyHash
 first|unfold pyHashByItsType|skip
 first|refine wpAny_bind (wpAny_cRoomFor_or (.inr hu) ?_)|skip
 refine wpAny_bind (wpAny_specialOf hT F.slot_tuple_hash.lookup ?_)
 show wpAny _ _ (if(some (Value.builtin "tuple.__hash__")==some Value.none)=true then _ else _) Q E s
 rw[if_neg (by rw[beq_builtin_none];exact Bool.false_ne_true)]
 refine wpAny_bind (wpAny_specialOf hT F.slot_tuple_hash.lookup ?_)
 show wpAny _ _ (callSpecialIfBoundUnlessNone? (.ref a) "__hash__" _ >>= _) Q E s
 refine wpAny_bind (wpAny_callSpecialIfBoundUnlessNone?_slot hT F.slot_tuple_hash (wpAny_call_entry F.slot_tuple_hash hT F.entry_tuple_hash ?_ (F.args_tuple_hash_1 _)))
 show wpAny _ _ (Builtin.Tuple.tupleItemsOf (.ref a) >>= _) _ _ s
 refine wpAny_bind (wpAny_tupleItemsOf ho hd ?_)
 refine wpAny_bind ?_
 rw[<-Array.forIn_toList]
 refine wpAny_forIn_list _
  (fun rest (b:Array Int) s'=>∃(done left:List KTr),xs=done++left/\its.drop done.length=rest/\b.toList=trHs P w done/\s'={s with toks:=s.toks+trDs done})
  _ ?_ ?_ _ _ ⟨[],xs,rfl,rfl,rfl,rfl⟩
 ·rintro v rest b s' ⟨done,left,e1,e2,hb,rfl⟩
  have hlt:done.length<its.length:=by
   rcases Nat.lt_or_ge done.length its.length with z|z
   ·exact z
   ·rw[List.drop_eq_nil_of_le z]at e2;cases e2
  rw[List.drop_eq_getElem_cons hlt]at e2
  obtain⟨ev,er⟩:=List.cons.inj e2
  obtain⟨x,left',rfl⟩:∃x l,left=x::l:=by
   cases left with
   |nil=>rw[List.append_nil]at e1;subst e1;omega
   |cons x l=>exact⟨x,l,rfl⟩
  have hx:xs[done.length]?=some x:=by rw[e1,List.getElem?_append_right (Nat.le_refl _),Nat.sub_self];rfl
  have hv:its[done.length]?=some v:=by rw[List.getElem?_eq_getElem hlt,ev]
  have sn:∀(l:List KTr),trHs P w (l++[x])=trHs P w l++[trH P w x]:=fun l=>by
   induction l with
   |nil=>rfl
   |cons a r ih=>simp only[List.cons_append,trHs,ih]
  have sd:∀(l:List KTr),trDs (l++[x])=trDs l+trD x:=fun l=>by
   induction l with
   |nil=>simp[trDs]
   |cons a r ih=>simp only[List.cons_append,trDs,ih];omega
  refine wpAny_bind (hi done.length x v hx hv _ _ _ rfl ?_)
  have fin:∃(done' left'':List KTr),xs=done'++left''/\its.drop done'.length=rest/\(b.push (trH P w x)).toList=trHs P w done'/\({s with toks:=s.toks+trDs done+trD x}:Shared)={s with toks:=s.toks+trDs done' }:=
   ⟨done++[x],left',by rw[e1];simp,by rw[List.length_append,List.length_singleton];exact er,by rw[sn,Array.toList_push,hb],by rw[sd,Nat.add_assoc]⟩
  first
   |exact wpAny_pure fin
   |exact wpAny_bind (wpAny_pure (wpAny_pure fin))
 ·rintro b s' ⟨done,left,e1,e2,hb,rfl⟩
  have hz:left=[]:=by
   have h1:its.length<=done.length:=List.drop_eq_nil_iff.mp e2
   have h2:=congrArg List.length e1
   rw[List.length_append]at h2
   cases left with
   |nil=>rfl
   |cons _ _=>simp at h2;omega
  subst hz
  rw[List.append_nil]at e1
  subst e1
  show wpAny _ _ (retInt (Builtin.Tuple.tupleHashOf b.toList)) _ _ _
  rw[hb]
  refine wpAny_ret_mkInt ?_
  show wpAny _ _ (if(decide (-(2:Int) ^ 63<=Builtin.Tuple.tupleHashOf (trHs P w xs))&&decide (Builtin.Tuple.tupleHashOf (trHs P w xs)<2 ^ 63))=true then _ else _) Q E _
  simp only[trH,trD]at hQ
  unfold reduceHash at hQ
  by_cases hr:(decide (-(2:Int) ^ 63<=Builtin.Tuple.tupleHashOf (trHs P w xs))&&decide (Builtin.Tuple.tupleHashOf (trHs P w xs)<2 ^ 63))=true
  ·rw[if_pos hr]
   rw[if_pos hr]at hQ
   exact wpAny_pure (by simpa[Nat.add_assoc]using hQ)
  ·rw[if_neg hr]
   rw[if_neg hr]at hQ
   exact wpAny_bind (wpAny_rule (wpAny_pure (by simpa[Nat.add_assoc]using hQ)))
theorem x0j{P:Program}{w:World}{h:Heap}:∀(d:Nat)(A:Around)(x:KTr)(v:Value),kdep x<=d->A.units+d<cLine->TrA h x v->HsAt P w A h v (trH P w x) (trD x):=by
 intro d
 have atom:∀(A:Around)(k:Key)(v:Value),(q2a P w).is k v=true->HsAt P w A h v ((q2a P w).hash k) 1:=fun A k v hk E s Q eh hQ=>(q2a P w).pyHash hk hQ
 induction d with
 |zero=>
  intro A x v hd hu r
  cases x with
  |tup xs=>simp[kdep]at hd
  |int a=>obtain⟨t,rfl⟩:=r;exact atom A (.inl a) _ (z0m P w a t)
  |str a=>obtain⟨t,rfl⟩:=r;exact atom A (.inr a) _ (z0l P w a t)
 |succ d ih=>
  intro A x v hd hu r
  cases x with
  |tup xs=>
   obtain⟨a,its,rfl,p,q⟩:=r
   refine x8h (by omega) p q.length fun j x v e1 e2=>?_
   obtain⟨v',g,q'⟩:=q.get e1
   rw[e2]at g
   cases g
   have:=q8g e1
   simp only[kdep]at hd
   exact ih A.in1 x v (by omega) (by rw[z1l];omega) q'
  |int a=>exact ih A _ v (Nat.zero_le _) (by omega) r
  |str a=>exact ih A _ v (Nat.zero_le _) (by omega) r
theorem y5c{P:Program}{w:World}{A:Around}{E:Value->Shared->Prop}{s:Shared}:∀(n:Nat)(x:KTr)(v:Value)(Q:Bool->Shared->Prop),kdep x<=n->TrA s.heap x v->Q true s->wpAny (model P w) A (eqIsQuiet n v) Q E s:=by
 intro n
 induction n with
 |zero=>
  intro x v Q hd r hQ
  cases x with
  |tup xs=>simp[kdep]at hd
  |int a=>obtain⟨t,rfl⟩:=r;rw[eqIsQuiet_byValue 0 rfl];exact wpAny_pure hQ
  |str a=>obtain⟨t,rfl⟩:=r;rw[eqIsQuiet_byValue 0 rfl];exact wpAny_pure hQ
 |succ n ih=>
  intro x v Q hd r hQ
  cases x with
  |int a=>obtain⟨t,rfl⟩:=r;rw[eqIsQuiet_byValue _ rfl];exact wpAny_pure hQ
  |str a=>obtain⟨t,rfl⟩:=r;rw[eqIsQuiet_byValue _ rfl];exact wpAny_pure hQ
  |tup xs=>
   obtain⟨a,its,rfl,⟨o,ho,hc,n',hd'⟩,q⟩:=r
   have hT:s.TypeIs (.ref a) "tuple" :=⟨o,ho,hc⟩
   simp only[kdep]at hd
   unfold eqIsQuiet
   refine wpAny_bind (wpAny_specialOf hT F.slot_tuple_eq.lookup ?_)
   show wpAny _ _ (isInstance (.ref a) (.type "tuple") >>= _) _ _ s
   refine wpAny_bind (wpAny_isInstance hT isSubtype_tuple_tuple ?_)
   simp only[Bool.not_true,Bool.false_eq_true,if_false]
   refine wpAny_bind (wpAny_seqItems ho hd' ?_)
   refine wpAny_bind ?_
   show wpAny _ _ (forIn its.toArray _ _) _ _ s
   rw[<-Array.forIn_toList]
   refine wpAny_forIn_list _ (fun rest r s'=>r.1=none/\s'=s/\∀v∈rest,∃y,kdep y<=n/\TrA s.heap y v) _ ?_ ?_ _ _ ⟨rfl,rfl,fun v hv=>?_⟩
   ·rintro v rest r s' ⟨hr,rfl,hall⟩
    obtain⟨y,h1,h2⟩:=hall v List.mem_cons_self
    refine wpAny_bind (ih y v _ h1 h2 ?_)
    simp only[Bool.not_true,Bool.false_eq_true,if_false]
    exact wpAny_pure ⟨rfl,rfl,fun u hu'=>hall u (List.mem_cons_of_mem _ hu')⟩
   ·rintro⟨r1,r2⟩ s' ⟨hr,rfl,_⟩
    simp only at hr
    subst hr
    exact wpAny_pure hQ
   ·obtain⟨j,hj⟩:=List.mem_iff_getElem?.mp hv
    have hjl:j<its.length:=by
     have:=(List.getElem?_eq_some_iff.mp hj).1
     simpa using this
    have hjx:j<xs.length:=by rw[q.length];exact hjl
    obtain⟨v',g,q'⟩:=q.get (List.getElem?_eq_getElem hjx)
    have:v'=v:=by
     have hj':its[j]?=some v:=by simpa using hj
     rw[hj']at g
     exact(Option.some.inj g).symm
    subst this
    have:=q8g (List.getElem?_eq_getElem hjx)
    exact⟨_,by omega,q'⟩
def y5b(P:Program)(w:World):HeapKind P w KTr where
 is:=fun h x a=>(∃xs,x=.tup xs)/\kdep x<=8/\TrA h x (.ref a)
 hash:=trH P w
 draws:=trD
 room:=fun A=>A.units+8<cLine
 inj:=fun hx hy=>TrA.inj hx.2.2 hy.2.2
 keeps:=fun {h h' k a d o es ep} hk ho hd hs=>⟨hk.1,hk.2.1,TrA.at (fun b its ⟨o',e,c,n,q⟩=>⟨o',(hs.2 b (by
  rintro rfl
  obtain rfl:o'=o:=Option.some.inj (e.symm.trans ho)
  rw [hd]at q;exact nomatch q)).trans e,c,n,q⟩) hk.2.2⟩
 pyHash:=fun hu hk h=>x0j 8 _ _ _ hk.2.1 hu hk.2.2 _ _ _ rfl h
 eqBool:=fun {A E s x y a b Q} hu hx hy h=>x9f 8 A x y _ _ hx.2.1 hu hx.2.2 hy.2.2 _ _ _ _ h
 quiet:=fun hk h=>y5c 8 _ _ _ hk.2.1 hk.2.2 h
inductive HO where
 |lst (xs:List V)
 |tup (xs:List V)
 |dK (kvs:List (Key×V))|dT (kvs:List (List Key×V))|dH (c:Nat) (kvs:List (KTr×Addr×V))
 |set (S:Int->Bool) (n:Nat)
 |ins (C dx:Addr) (fs:List (Str×V))
 |own (x:Addr)
 |xd (fs:List (Str×V))
 |met (f x:Addr)
 |rng (lo hi:Int)
 |frz (o:Obj) (u:HO)
 |tbl (ps:Array Value)
 |ext (φ:Heap->Prop)
abbrev Hp:=Addr->Option HO
def upd(H:Hp)(a:Addr)(o:HO):Hp:=fun b=>if b=a then some o else H b
theorem q2r{H:Hp}{a:Addr}{o:HO}:upd H a o a=some o:=by unfold upd;rw[if_pos rfl]
theorem q1c{H:Hp}{a b:Addr}{o:HO}(h:b≠a):upd H a o b=H b:=by unfold upd;rw[if_neg h]
theorem z2n{H:Hp}{a b:Addr}{o u:HO}(h:H a=some o)(h':H b=some u)(d:o≠u):a≠b:=by
 intro e;subst e;rw[h]at h';exact d (Option.some.inj h')
theorem q2l{H:Hp}{a b:Addr}{o:HO}(h:H a=some o)(h':H b=none):a≠b:=by
 intro e;subst e;rw[h]at h';cases h'
section
variable(P:Program)(w:World)
def q2y(H:Hp)(h:Heap)(a:Addr):HO->Prop
 |.lst xs=>xs.length<=sizeLine/\∃(its:List Value)(n:Nat),Vals xs its/\h.get? a=some {cls:=.type "list",data:=.seq its.toArray n}
 |.tup xs=>xs.length<=sizeLine/\∃its:List Value,Vals xs its/\IsTup h a its.toArray
 |.dK kvs=>kvs.length<=sizeLine/\(a==sysModules)=false/\∃vs,KV kvs vs/\h.DictOf (q2a P w) a vs
 |.dT kvs=>kvs.length<=sizeLine/\(a==sysModules)=false/\∃xs:List (List Key×Addr×Value),
   Paired (fun(p:List Key×V) (q:List Key×Addr×Value)=>p.1=q.1/\H q.2.1=some (.tup (p.1.map kV))/\RelV p.2 q.2.2) kvs xs/\
   ∃o es ep,h.get? a=some o/\o.ExactDict/\o.data=.dict es ep/\es.toList=xs.map (entryOfKey (tupleKind (q2a P w)))/\(xs.map (·.1)).Nodup
 |.dH c kvs=>kvs.length<=sizeLine/\(a==sysModules)=false/\∃xs:List (KTr×Addr×Value),
   Paired (fun(p:KTr×Addr×V) (q:KTr×Addr×Value)=>p.1=q.1/\p.2.1=q.2.1/\RelV p.2.2 q.2.2) kvs xs/\
   ∃o es,h.get? a=some o/\o.ExactDict/\o.data=.dict es (c+kvs.length)/\es.toList=xs.map (entryOfKey (y5b P w))/\(xs.map (·.1)).Nodup
 |.set S n=>h.SetOf (intKind P w) a S n
 |.ins C dx fs=>H dx=some (.own a)/\fs.length<=1000/\dx≠a/\h.get? a=some (PySem.W.instObj C dx)/\
   ∃mA,h.Ns1 dx mA/\(∀f,RelO (fs.lookup f) (mA f))/\PySem.Within mA (fs.map (·.1))
 |.own _=>∃o,h.get? a=some o
 |.xd fs=>∃mA,h.Ns1 a mA/\∀f,RelO (fs.lookup f) (mA f)
 |.rng lo hi=>∃t u v,h.get? a=some {cls:=.type "range",data:=.fields #[.int lo t,.int hi u,.int 1 v]}
 |.frz o u=>h.get? a=some o/\q2y H h a u
 |.tbl ps=>h.get? a=some {cls:=.none,data:=.fields ps}
 |.met f x=>h.get? a=some (PySem.W.methodObj (.ref f) (.ref x))
 |.ext φ=>φ h/\(∃o,h.get? a=some o)/\∀h1 h2:Heap,φ h1->(∀o,h1.get? a=some o->h2.get? a=some o)->φ h2
def HOk(H:Hp)(h:Heap):Prop:=∀a o,H a=some o->q2y P w H h a o
end
section
variable{P:Program}{w:World}{H H':Hp}{h h':Heap}{a:Addr}{o:HO}
theorem q2y.lt(x:q2y P w H h a o):a<h.objs.size:=by
 cases o with
 |lst xs=>obtain⟨_,_,_,_,e⟩:=x;exact Heap.lt_size e
 |tup xs=>obtain⟨_,_,_,p⟩:=x;exact p.lt
 |dK kvs=>obtain⟨_,_,_,_,o,_,_,e,_⟩:=x;exact Heap.lt_size e
 |dT kvs=>obtain⟨_,_,_,_,o,_,_,e,_⟩:=x;exact Heap.lt_size e
 |dH c kvs=>obtain⟨_,_,_,_,o,_,e,_⟩:=x;exact Heap.lt_size e
 |set S n=>obtain⟨o,_,_,_,e,_⟩:=x;exact Heap.lt_size e
 |ins C dx fs=>obtain⟨_,_,_,e,_⟩:=x;exact Heap.lt_size e
 |own y=>obtain⟨_,e⟩:=x;exact Heap.lt_size e
 |xd fs=>obtain⟨_,⟨_,_,_,e,_⟩,_⟩:=x;exact Heap.lt_size e
 |rng lo hi=>obtain⟨_,_,_,e⟩:=x;exact Heap.lt_size e
 |frz ob u=>obtain⟨e,_⟩:=x;exact Heap.lt_size e
 |tbl ps=>exact Heap.lt_size (show h.get? a=some _ from x)
 |met f y=>exact Heap.lt_size (show h.get? a=some _ from x)
 |ext φ=>obtain⟨_,⟨_,e⟩,_⟩:=x;exact Heap.lt_size e
theorem Paired.mapP{α β:Type}{F G:α->β->Prop}:∀{l₁:List α}{l₂:List β},Paired F l₁ l₂->(∀a b,F a b->G a b)->Paired G l₁ l₂
 |_,_,.nil,_=>.nil
 |_,_,.cons r t,f=>.cons (f _ _ r) (Paired.mapP t f)
theorem q2y.stay(x:q2y P w H h a o)(k:∀b u,(b=a\/H b=some (.own a))->h.get? b=some u->h'.get? b=some u)
  (ho:∀b,H b=some (.own a)->H' b=some (.own a)) (ht:∀b xs,H b=some (.tup xs)->H' b=some (.tup xs)):q2y P w H' h' a o:=by
 induction o with
 |lst xs=>obtain⟨z,its,n,r,e⟩:=x;exact⟨z,its,n,r,k _ _ (.inl rfl) e⟩
 |tup xs=>obtain⟨z,its,r,ob,e,c⟩:=x;exact⟨z,its,r,ob,k _ _ (.inl rfl) e,c⟩
 |dK kvs=>obtain⟨z,y,vs,r,ob,es,ep,e,c⟩:=x;exact⟨z,y,vs,r,ob,es,ep,k _ _ (.inl rfl) e,c⟩
 |dT kvs=>
  obtain⟨z,y,xs,r,ob,es,ep,e,c⟩:=x
  exact⟨z,y,xs,Paired.mapP r fun p q z=>⟨z.1,ht _ _ z.2.1,z.2.2⟩,ob,es,ep,k _ _ (.inl rfl) e,c⟩
 |dH n kvs=>obtain⟨z,y,xs,r,ob,es,e,c⟩:=x;exact⟨z,y,xs,r,ob,es,k _ _ (.inl rfl) e,c⟩
 |set S n=>obtain⟨ob,es,ep,t,e,c⟩:=x;exact⟨ob,es,ep,t,k _ _ (.inl rfl) e,c⟩
 |ins C dx fs=>
  obtain⟨d,z,ne,e,mA,⟨od,es,ep,e2,c⟩,r⟩:=x
  exact⟨ho _ d,z,ne,k _ _ (.inl rfl) e,mA,⟨od,es,ep,k _ _ (.inr d) e2,c⟩,r⟩
 |own y=>obtain⟨ob,e⟩:=x;exact⟨ob,k _ _ (.inl rfl) e⟩
 |xd fs=>obtain⟨mA,⟨od,es,ep,e,c⟩,r⟩:=x;exact⟨mA,⟨od,es,ep,k _ _ (.inl rfl) e,c⟩,r⟩
 |rng lo hi=>obtain⟨t,u,v,e⟩:=x;exact⟨t,u,v,k _ _ (.inl rfl) e⟩
 |frz ob u ih=>obtain⟨e,q⟩:=x;exact⟨k _ _ (.inl rfl) e,ih q⟩
 |tbl ps=>
  have e:h.get? a=some {cls:=.none,data:=.fields ps}:=x
  show h'.get? a=some {cls:=.none,data:=.fields ps}
  exact k a _ (.inl rfl) e
 |met f y=>
  have e:h.get? a=some (PySem.W.methodObj (.ref f) (.ref y)):=x
  show h'.get? a=some (PySem.W.methodObj (.ref f) (.ref y))
  exact k a _ (.inl rfl) e
 |ext φ=>obtain⟨p,⟨o,e⟩,st⟩:=x;exact⟨st _ _ p fun o q=>k _ _ (.inl rfl) q,⟨o,k _ _ (.inl rfl) e⟩,st⟩
theorem HOk.lt(x:HOk P w H h)(e:H a=some o):a<h.objs.size:=(x a o e).lt
theorem HOk.fresh(x:HOk P w H h)(e:h.objs.size<=a):H a=none:=by
 cases q:H a with
 |none=>rfl
 |some u=>exact absurd (Nat.lt_of_lt_of_le (x.lt q) e) (Nat.lt_irrefl _)
theorem HOk.kept(x:HOk P w H h)(k:∀b u,h.get? b=some u->h'.get? b=some u):HOk P w H h':=fun a o e=>
 (x a o e).stay (fun b u _ q=>k b u q) (fun _ q=>q) fun _ _ q=>q
theorem HOk.laid(x:HOk P w H h)(k:∀b u,h.get? b=some u->h'.get? b=some u)(hp:h.objs.size<=a)(new:q2y P w (upd H a o) h' a o):HOk P w (upd H a o) h':=fun b u e=>by
 have hn:=x.fresh hp
 by_cases hb:b=a
 ·subst hb;rw[q2r]at e;cases e;exact new
 ·rw[q1c hb]at e
  exact(x b u e).stay (fun c v _ q=>k c v q) (fun c q=>by rw[q1c (q2l q hn)];exact q) fun c xs q=>by rw[q1c (q2l q hn)];exact q
end
def Rd(H:Hp)(a:Addr)(u:HO):Prop:=H a=some u\/∃o,H a=some (.frz o u)
theorem Rd.ok{P:Program}{w:World}{H:Hp}{h:Heap}{a:Addr}{u:HO}(r:Rd H a u)(x:HOk P w H h):q2y P w H h a u:=by
 rcases r with r|⟨o,r⟩
 ·exact x a u r
 ·obtain⟨_,q⟩:=x a _ r
  exact q
def Mut:Option HO->Prop
 |some (.lst _)=>True
 |some (.dK _)=>True
 |some (.dT _)=>True
 |some (.dH _ _)=>True
 |some (.set _ _)=>True
 |some (.ins _ _ _)=>True
 |some (.ext _)=>True
 |_=>False
section
variable{P:Program}{w:World}{H:Hp}{h h':Heap}{x e:Addr}{o':HO}
theorem HOk.write(ok:HOk P w H h)(mu:Mut (H x))(he:e=x\/H e=some (.own x))(k:∀b u,b≠e->h.get? b=some u->h'.get? b=some u)(heo:∃u,h'.get? e=some u)
  (new:q2y P w (upd H x o') h' x o'):HOk P w (upd H x o') h':=fun b u q=>by
 have nown:∀c y,H c=some (.own y)->c≠x:=fun c y r z=>by subst z;rw[r]at mu;exact mu
 have ntup:∀c xs,H c=some (.tup xs)->c≠x:=fun c xs r z=>by subst z;rw[r]at mu;exact mu
 by_cases hb:b=x
 ·subst hb;rw[q2r]at q;cases q;exact new
 ·rw[q1c hb]at q
  by_cases hbe:b=e
  ·have q':H b=some (.own x):=by
    rcases he with z|z
    ·exact absurd (hbe.trans z) hb
    ·rw[hbe];exact z
   rw[q]at q';cases q'
   obtain⟨v,hv⟩:=heo
   exact⟨v,by rw[hbe];exact hv⟩
  ·refine(ok b u q).stay (fun c v hc r=>k c v ?_ r) (fun c r=>by rw[q1c (nown c b r)];exact r) fun c xs r=>by rw[q1c (ntup c xs r)];exact r
   rcases hc with rfl|hc
   ·exact hbe
   ·rintro rfl
    rcases he with z|z
    ·exact nown c b hc z
    ·rw[hc]at z;cases z;exact hb rfl
end
structure Un(fs ex:List Addr)(H H':Hp)(h h':Heap):Prop where
 keep:∀b o,h.get? b=some o->H b=none->b∉fs->b∉ex->h'.get? b=some o
 slot:∀b o,h.get? b=some o->H b=none->b∈fs->b∉ex->∃sl,h'.get? b=some {o with slots:=sl}
 free:∀b o,h.get? b=some o->H b=none->b∉ex->H' b=none
 there:∀b o,h.get? b=some o->b∉ex->∃o',h'.get? b=some o'
 tups:∀b xs,H b=some (.tup xs)->H' b=some (.tup xs)
 frzs:∀b o u,H b=some (.frz o u)->H' b=some (.frz o u)
 tbls:∀b ps,H b=some (.tbl ps)->∃more,H' b=some (.tbl (ps++more))
section
variable{fs fs' ex ex':List Addr}{H H1 H2:Hp}{h h1 h2 h':Heap}{a x e:Addr}{o:HO}
theorem Un.any(u:Un fs ex H H1 h h1){b:Addr}{ob:Obj}(q:h.get? b=some ob)(n:H b=none)(hx:b∉ex):∃sl,h1.get? b=some {ob with slots:=sl}:=by
 by_cases hb:b∈fs
 ·exact u.slot b ob q n hb hx
 ·exact⟨ob.slots,u.keep b ob q n hb hx⟩
theorem Un.kept(k:∀b u,h.get? b=some u->h'.get? b=some u):Un fs ex H H h h':=
 ⟨fun b ob q _ _ _=>k b ob q,fun b ob q _ _ _=>⟨ob.slots,k b ob q⟩,fun _ _ _ n _=>n,fun b ob q _=>⟨ob,k b ob q⟩,fun _ _ q=>q,fun _ _ _ q=>q,fun _ ps q=>⟨#[],by rw[q];simp⟩⟩
theorem Un.refl:Un fs ex H H h h:=Un.kept fun _ _ q=>q
theorem Un.laid(k:∀b u,h.get? b=some u->h'.get? b=some u)(hp:h.objs.size<=a)(hn:H a=none):Un fs ex H (upd H a o) h h' where
 keep:=fun b u q _ _ _=>k b u q
 slot:=fun b u q _ _ _=>⟨u.slots,k b u q⟩
 free:=fun b u q n _=>by rw[q1c (Nat.ne_of_lt (Nat.lt_of_lt_of_le (Heap.lt_size q) hp))];exact n
 there:=fun b u q _=>⟨u,k b u q⟩
 tups:=fun b xs q=>by rw[q1c (q2l q hn)];exact q
 frzs:=fun b u xs q=>by rw[q1c (q2l q hn)];exact q
 tbls:=fun b ps q=>⟨#[],by rw[q1c (q2l q hn),q];simp⟩
theorem Un.write(mu:Mut (H x))(he:e=x\/H e=some (.own x))(k:∀b u,b≠e->h.get? b=some u->h'.get? b=some u)(heo:∃u,h'.get? e=some u):Un fs ex H (upd H x o) h h':=by
 have hx:∀b,H b=none->b≠x:=fun b n z=>by subst z;rw[n]at mu;exact mu
 have hb:∀b,H b=none->b≠e:=fun b n z=>by
  subst z
  rcases he with r|r
  ·exact hx b n r
  ·rw[n]at r;cases r
 have hm:∀b u,H b=some u->¬Mut (some u)->b≠x:=fun b u q nm z=>by subst z;rw[q]at mu;exact nm mu
 refine⟨fun b u q n _ _=>k b u (hb b n) q,fun b u q n _ _=>⟨u.slots,k b u (hb b n) q⟩,fun b u q n _=>by rw[q1c (hx b n)];exact n,fun b u q _=>?_,
  fun b xs q=>by rw [q1c (hm b _ q fun z=>z)];exact q,fun b u xs q=>by rw [q1c (hm b _ q fun z=>z)];exact q,fun b ps q=>⟨#[],by rw [q1c (hm b _ q fun z=>z),q];simp⟩⟩
 by_cases hbe:b=e
 ·subst hbe;exact heo
 ·exact⟨u,k b u hbe q⟩
end
def trk(h:Heap)(H:Hp):List Addr:=(List.range h.objs.size).filter fun a=>(H a).isSome
def hidT(h:Heap)(H:Hp):Heap:=PySem.W.hideAll h (trk h H)
theorem y3e(h:Heap)(H:Hp):(hidT h H).objs.size=h.objs.size:=PySem.W.hideAll_size _ _
theorem y7n{h:Heap}{H:Hp}{b:Addr}{o:Obj}(e:h.get? b=some o)(n:H b=none):(hidT h H).get? b=some o:=
 PySem.W.hideAll_get _ e fun hm=>by
  have q:(H b).isSome=true:=(List.mem_filter.mp hm).2
  rw[n]at q;simp at q
theorem x1y{h:Heap}{H:Hp}{b:Addr}{o:Obj}(e:(hidT h H).get? b=some o):h.get? b=some o/\H b=none:=by
 have e':h.get? b=some o:=PySem.W.of_hideAll (trk h H) e
 refine⟨e',?_⟩
 cases q:H b with
 |none=>rfl
 |some x=>
  have hm:b∈trk h H:=List.mem_filter.mpr ⟨List.mem_range.mpr (Heap.lt_size e'),by simp[q]⟩
  have z:(hidT h H).get? b=none:=PySem.W.hideAll_none (trk h H) hm
  rw[z]at e;cases e
structure Mod(K:Frag)(mg:Str->Option Value)(base:Heap):Prop where
 kin:K.In base
 glob:base.Ns mainGlobals mg
 blt:∃mb,base.Ns builtinsNs mb/\∀x:Str,x≠ "__name__" ->mb x=bootBuiltins x
 nolimit:base.NoLimit
/-- the context: a def's body (or a comprehension's block) running. base: fixed through the whole law;s₀,H₀: the entry;outer: the frames whose slots others may change (a def's callers);stack: all frames that run;
   ex: iterators that were made ahead of the entry and are walked here (a comprehension's);fn: the names whose cells were made at the entry (a def: all;a comprehension's block: its own);calm: not within an except suite;pn: pins that every state bears;xe: what is wanted of an exception that leaves the code -/
structure Cx where
 prog:Program
 w:World
 K:Frag
 mg:Str->Option Value
 base:Heap
 A:Around
 N:List Str
 s₀:Shared
 H₀:Hp
 env:Env
 outer:List Env
 stack:List Env
 ex:List Addr
 fn:Str->Bool
 calm:Bool
 pn:List (Addr×Obj)
 xe:Value->Shared->Prop
def frs(l:List Env):List Addr:=l.filterMap (·.frame)
abbrev Cx.fs(X:Cx):List Addr:=frs X.outer
def Vis(sc:Scope)(x:Str):Prop:=sc.names.lookup x=some .local\/sc.names.lookup x=some .cell\/sc.names.lookup x=some .free
def Loc(sc:Scope)(x:Str):Prop:=sc.names.lookup x=some .local\/sc.names.lookup x=some .cell
def Look(env:Env)(h:Heap)(m:Str->Option Value)(x:Str)(u:Value):Prop:=
 (env.kindOf x=some .local/\m x=some u)\/((env.kindOf x=some .cell\/env.kindOf x=some .free)/\∃c,env.cells.lookup x=some c/\h.IsCell c (some u))
structure Cx.Ok(X:Cx):Prop where
 mod:Mod X.K X.mg X.base
 kind:X.env.scope.kind=.function
 glob:X.env.globals=mainGlobals
 blt:X.env.builtins=builtinsNs
 above:X.s₀.heap.objs.size<=X.env.locals
 inj:∀x y c,X.env.cells.lookup x=some c->X.env.cells.lookup y=some c->x=y
 has:∀x,(X.env.kindOf x=some .cell\/X.env.kindOf x=some .free)->∃c,X.env.cells.lookup x=some c
 cab:∀x c,X.fn x=true->X.env.cells.lookup x=some c->X.s₀.heap.objs.size<=c
 hd:X.calm=true->X.A.handled=none
 frames:X.A.frames=some X.stack
 stk:X.stack=X.outer\/(X.stack=X.env::X.outer/\X.env.frame=some X.env.locals)
 exf:∀b∈X.ex,b≠X.env.locals/\∀x c,X.env.cells.lookup x=some c->c≠b
 bs:∀b o,X.base.get? b=some o->X.s₀.heap.get? b=some o/\X.H₀ b=none
 bsz:X.base.objs.size<=X.s₀.heap.objs.size
 noex:∀b o,X.base.get? b=some o->b∉X.ex
 exfs:∀b∈X.ex,b∉X.fs
 funs:X.s₀.heap.FunFrames X.base X.outer
 frf:∀b∈X.fs,X.H₀ b=none
structure Inv(X:Cx)(pins:List (Addr×Obj))(σ:List (Option V))(H:Hp)(s:Shared):Prop where
 ok:X.Ok
 os:s.os=X.s₀.os
 bare:AllBare s.gens
 base:Un X.fs X.ex X.H₀ H X.s₀.heap s.heap
 loc:∃m,s.heap.Ns X.env.locals m/\∀(i:Nat)(x:Str)(v:V),X.N[i]?=some x->σ[i]?=some (some v)->Vis X.env.scope x->∃u,RelV v u/\Look X.env s.heap m x u
 cell:∀x c,X.env.cells.lookup x=some c->∃v,s.heap.IsCell c v
 free:H X.env.locals=none
 freeC:∀x c,X.env.cells.lookup x=some c->H c=none
 pin:∀p∈X.pn++pins,s.heap.get? p.1=some p.2/\H p.1=none/\p.1≠X.env.locals/\p.1∉X.fs/\∀v,p.2.data≠.cell v
 hok:HOk X.prog X.w H s.heap
 len:σ.length=X.N.length
section
variable{X:Cx}{pins:List (Addr×Obj)}{σ:List (Option V)}{H H':Hp}{s:Shared}{h':Heap}
theorem Cx.Ok.nofr(ok:X.Ok){b:Addr}{o:Obj}(e:X.base.get? b=some o):b∉X.fs:=fun hb=>by
 have:=(ok.funs.mem hb).1
 rw[e]at this;cases this
theorem Inv.bs(I:Inv X pins σ H s):∀b o,X.base.get? b=some o->s.heap.get? b=some o/\H b=none:=fun b o e=>
 ⟨I.base.keep b o (I.ok.bs b o e).1 (I.ok.bs b o e).2 (I.ok.nofr e) (I.ok.noex b o e),I.base.free b o (I.ok.bs b o e).1 (I.ok.bs b o e).2 (I.ok.noex b o e)⟩
theorem Inv.bk(I:Inv X pins σ H s):∀b o,X.base.get? b=some o->s.heap.get? b=some o:=fun b o e=>(I.bs b o e).1
theorem Inv.mod(I:Inv X pins σ H s):Mod X.K X.mg X.base:=I.ok.mod
theorem Inv.kIn(I:Inv X pins σ H s):X.K.In s.heap:=I.ok.mod.kin.keeps I.bk
theorem Inv.lt(I:Inv X pins σ H s):X.env.locals<s.heap.objs.size:=let ⟨_,hn,_⟩:=I.loc;hn.lt
theorem Inv.sz(I:Inv X pins σ H s):X.s₀.heap.objs.size<=s.heap.objs.size:=Nat.le_trans I.ok.above (Nat.le_of_lt I.lt)
theorem Inv.nofs(I:Inv X pins σ H s){a:Addr}(h:s.heap.objs.size<=a):a∉X.fs:=fun hb=>by
 obtain⟨_,o,ho,_⟩:=I.ok.funs.mem hb
 exact absurd (Nat.lt_of_lt_of_le (Heap.lt_size ho) (Nat.le_trans I.sz h)) (Nat.lt_irrefl _)
theorem Inv.cne(I:Inv X pins σ H s):∀x c,X.env.cells.lookup x=some c->c≠X.env.locals:=fun x c e z=>by
 obtain⟨v,o,ho,hd⟩:=I.cell x c e
 obtain⟨m,⟨o',es,ep,ho',hd',_⟩,_⟩:=I.loc
 rw[z,ho']at ho;cases ho;rw[hd']at hd;cases hd
theorem Inv.funs(I:Inv X pins σ H s):s.heap.FunFrames X.base X.outer:=by
 have all:∀(l:List Env),(∀b∈frs l,b∈X.fs)->X.s₀.heap.FunFrames X.base l->s.heap.FunFrames X.base l:=by
  intro l
  induction l with
  |nil=>intro _ _;trivial
  |cons env r ih=>
   intro hs hl
   obtain⟨hk,⟨L,o,hf,hn,ho,hd⟩,hr⟩:=hl
   have hL:L∈X.fs:=hs L (by unfold frs;rw[List.filterMap_cons,hf];exact List.mem_cons_self)
   obtain⟨sl,e⟩:=I.base.slot L o ho (I.ok.frf L hL) hL fun z=>I.ok.exfs L z hL
   exact⟨hk,⟨L,_,hf,hn,e,hd⟩,ih (fun b hb=>hs b (by unfold frs;rw[List.filterMap_cons,hf];exact List.mem_cons_of_mem _ hb)) hr⟩
 exact all X.outer (fun _ hb=>hb) I.ok.funs
theorem Inv.stack(I:Inv X pins σ H s):s.heap.FunFrames X.base X.stack:=by
 rcases I.ok.stk with e|⟨e,hf⟩
 ·rw[e];exact I.funs
 ·rw[e]
  obtain⟨m,hn,_⟩:=I.loc
  refine .cons (by rw[I.ok.kind];decide) hf hn ?_ I.funs
  exact Heap.get?_none_of_le (Nat.le_trans I.ok.bsz I.ok.above)
theorem Inv.stkSub(I:Inv X pins σ H s):∀b∈frs X.stack,b∈X.env.locals::X.fs:=fun b hb=>by
 rcases I.ok.stk with e|⟨e,hf⟩
 ·rw[e]at hb;exact List.mem_cons_of_mem _ hb
 ·rw[e]at hb
  unfold frs at hb
  rw[List.filterMap_cons,hf]at hb
  exact hb
theorem Inv.stkFree(I:Inv X pins σ H s):∀b∈frs X.stack,H b=none:=fun b hb=>by
 rcases List.mem_cons.mp (I.stkSub b hb)with e|hb
 ·rw[e];exact I.free
 ·obtain⟨_,o,ho,_⟩:=I.ok.funs.mem hb
  exact I.base.free b o ho (I.ok.frf b hb) fun z=>I.ok.exfs b z hb
theorem Inv.step{g':Array GenState}{t':Nat}{d':Drawn}{ch:List Addr}(I:Inv X pins σ H s)
  (hch:∀b∈ch,(b∈X.ex\/X.s₀.heap.objs.size<=b)/\b≠X.env.locals/\(∀x c,X.env.cells.lookup x=some c->c≠b)/\∀p∈X.pn++pins,p.1≠b)
  (keep:∀b o,b≠X.env.locals->b∉X.fs->b∉ch->s.heap.get? b=some o->H b=none->h'.get? b=some o)
  (slot:∀b o,b≠X.env.locals->b∈X.fs->b∉ch->s.heap.get? b=some o->H b=none->∃sl,h'.get? b=some {o with slots:=sl}) (free:∀b o,b∉ch->s.heap.get? b=some o->H b=none->H' b=none)
  (there:∀b o,b∉ch->s.heap.get? b=some o->∃o',h'.get? b=some o')
  (tups:∀b xs,H b=some (.tup xs)->H' b=some (.tup xs)) (frzs:∀b o u,H b=some (.frz o u)->H' b=some (.frz o u)) (tbls:∀b ps,H b=some (.tbl ps)->∃more,H' b=some (.tbl (ps++more)))
  (ns:∀m,s.heap.Ns X.env.locals m->h'.Ns X.env.locals m) (hok:HOk X.prog X.w H' h') (hg:AllBare g') :
  Inv X pins σ H' {s with heap:=h',gens:=g',drawn:=d',toks:=t' }:=by
 have neL:∀b o,X.s₀.heap.get? b=some o->b≠X.env.locals:=fun b o e=>Nat.ne_of_lt (Nat.lt_of_lt_of_le (Heap.lt_size e) I.ok.above)
 have neC:∀b o,X.s₀.heap.get? b=some o->b∉X.ex->b∉ch:=fun b o e hx hb=>by
  rcases(hch b hb).1 with z|z
  ·exact hx z
  ·exact absurd (Nat.lt_of_lt_of_le (Heap.lt_size e) z) (Nat.lt_irrefl _)
 have cellK:∀x c,X.env.cells.lookup x=some c->∀v,s.heap.IsCell c v->h'.IsCell c v:=fun x c e v hh1=>by
  obtain⟨o,ho,hd⟩:=hh1
  have nch:c∉ch:=fun z=>(hch c z).2.2.1 x c e rfl
  by_cases hc:c∈X.fs
  ·obtain⟨sl,q⟩:=slot c o (I.cne x c e) hc nch ho (I.freeC x c e)
   exact⟨_,q,hd⟩
  ·exact⟨o,keep c o (I.cne x c e) hc nch ho (I.freeC x c e),hd⟩
 refine⟨I.ok,I.os,hg,⟨fun b o e n hb hx=>?_,fun b o e n hb hx=>?_,fun b o e n hx=>?_,fun b o e hx=>?_,fun b xs e=>tups b xs (I.base.tups b xs e),fun b o xs e=>frzs b o xs (I.base.frzs b o xs e),fun b ps e=>?_⟩,?_,fun x c e=>?_,?_,fun x c e=>?_,fun p hp=>?_,hok,I.len⟩
 ·exact keep b o (neL b o e) hb (neC b o e hx) (I.base.keep b o e n hb hx) (I.base.free b o e n hx)
 ·obtain⟨sl,e1⟩:=I.base.slot b o e n hb hx
  obtain⟨sl',e2⟩:=slot b _ (neL b o e) hb (neC b o e hx) e1 (I.base.free b o e n hx)
  exact⟨sl',e2⟩
 ·obtain⟨o',e1⟩:=I.base.there b o e hx
  exact free b o' (neC b o e hx) e1 (I.base.free b o e n hx)
 ·obtain⟨o',e1⟩:=I.base.there b o e hx
  exact there b o' (neC b o e hx) e1
 ·obtain⟨m1,e1⟩:=I.base.tbls b ps e
  obtain⟨m2,e2⟩:=tbls b _ e1
  exact⟨m1++m2,by rw[e2,Array.append_assoc]⟩
 ·obtain⟨m,hn,hl⟩:=I.loc
  refine⟨m,ns m hn,fun i x v e1 e2 e3=>?_⟩
  obtain⟨u,r,l⟩:=hl i x v e1 e2 e3
  refine⟨u,r,?_⟩
  rcases l with l|⟨k,c,e,z⟩
  ·exact .inl l
  ·exact .inr ⟨k,c,e,cellK x c e _ z⟩
 ·obtain⟨v,z⟩:=I.cell x c e
  exact⟨v,cellK x c e v z⟩
 ·obtain⟨m,⟨o,_,_,ho,_⟩,_⟩:=I.loc
  exact free _ o (fun z=>(hch _ z).2.1 rfl) ho I.free
 ·obtain⟨v,o,ho,hd⟩:=I.cell x c e
  exact free c o (fun z=>(hch c z).2.2.1 x c e rfl) ho (I.freeC x c e)
 ·obtain⟨e,n,ne,nf,d⟩:=I.pin p hp
  have nch:p.1∉ch:=fun z=>(hch p.1 z).2.2.2 p hp rfl
  exact⟨keep p.1 p.2 ne nf nch e n,free p.1 p.2 nch e n,ne,nf,d⟩
theorem Inv.un{t':Nat}(I:Inv X pins σ H s)(u:Un X.fs [] H H' s.heap h')(hok:HOk X.prog X.w H' h'):Inv X pins σ H' {s with heap:=h',toks:=t' }:=by
 obtain⟨m,⟨o,es,ep,ho,r⟩,_⟩:=id I.loc
 obtain⟨sl,hL⟩:=u.any ho I.free (by simp)
 exact I.step (g':=s.gens) (d':=s.drawn) (ch:=[]) (fun _ z=>nomatch z) (fun b o _ hb _ e n=>u.keep b o e n hb (by simp)) (fun b o _ hb _ e n=>u.slot b o e n hb (by simp)) (fun b o _ e n=>u.free b o e n (by simp)) (fun b o _ e=>u.there b o e (by simp)) u.tups u.frzs u.tbls (fun m' hm=>by
  obtain ⟨o',es',ep',ho',r'⟩:=hm
  rw [ho]at ho';cases ho'
  exact ⟨_,es',ep',hL,r'⟩) hok I.bare
theorem Inv.call{g':Array GenState}{t':Nat}{d':Drawn}{ch:List Addr}(I:Inv X pins σ H s)(u:Un (frs X.stack) ch H H' s.heap h')(hok:HOk X.prog X.w H' h')(hg:AllBare g')
  (hch:∀b∈ch,(b∈X.ex\/X.s₀.heap.objs.size<=b)/\b≠X.env.locals/\(∀x c,X.env.cells.lookup x=some c->c≠b)/\∀p∈X.pn++pins,p.1≠b) :
  Inv X pins σ H' {s with heap:=h',gens:=g',drawn:=d',toks:=t' }:=by
 obtain⟨m,⟨o,es,ep,ho,r⟩,_⟩:=id I.loc
 obtain⟨sl,hL⟩:=u.any ho I.free fun z=>(hch _ z).2.1 rfl
 exact I.step (ch:=ch) hch (fun b o hL hb hc e n=>u.keep b o e n (fun z=>(List.mem_cons.mp (I.stkSub b z)).elim hL hb) hc) (fun b o _ _ hc e n=>u.any e n hc) (fun b o hc e n=>u.free b o e n hc) (fun b o hc e=>u.there b o e hc) u.tups u.frzs u.tbls (fun m' hm=>by
  obtain ⟨o',es',ep',ho',r'⟩:=hm
  rw [ho]at ho';cases ho'
  exact ⟨_,es',ep',hL,r'⟩) hok hg
theorem Inv.turned{t':Nat}{it:Addr}(I:Inv X pins σ H s)(k:∀b o,b≠it->s.heap.get? b=some o->h'.get? b=some o)(hn:H it=none)(hL:it≠X.env.locals)
  (h1:it∈X.ex\/X.s₀.heap.objs.size<=it) (h2:∀x c,X.env.cells.lookup x=some c->c≠it) (h3:∀p∈X.pn++pins,p.1≠it):Inv X pins σ H {s with heap:=h',toks:=t' }:=by
 have nit:∀b u,H b=some u->b≠it:=fun b u e z=>by rw[z,hn]at e;cases e
 refine I.step (g':=s.gens) (d':=s.drawn) (ch:=[it]) (fun b hb=>?_) (fun b o _ _ hc e _=>k b o (fun z=>hc (by simp[z])) e) (fun b o _ _ hc e _=>⟨o.slots,k b o (fun z=>hc (by simp[z])) e⟩) (fun _ _ _ _ n=>n)
  (fun b o hc e=>⟨o,k b o (fun z=>hc (by simp[z])) e⟩) (fun _ _ e=>e) (fun _ _ _ e=>e) (fun b ps e=>⟨#[],by rw[e];simp⟩) (fun m hm=>?_) (fun b u e=>?_) I.bare
 ·have e:b=it:=by simpa using hb
  subst e
  exact⟨h1,hL,h2,h3⟩
 ·obtain⟨o,es,ep,ho,r⟩:=hm
  exact⟨o,es,ep,k _ o (Ne.symm hL) ho,r⟩
 ·refine(I.hok b u e).stay (fun c v hc q=>k c v ?_ q) (fun _ q=>q) fun _ _ q=>q
  rcases hc with z|z
  ·rw[z];exact nit b u e
  ·exact nit c _ z
theorem Inv.tok(I:Inv X pins σ H s)(t:Nat):Inv X pins σ H {s with toks:=t}:=I.un (h':=s.heap) (t':=t) Un.refl I.hok
theorem Inv.kept{t':Nat}(I:Inv X pins σ H s)(k:∀b u,s.heap.get? b=some u->h'.get? b=some u):Inv X pins σ H {s with heap:=h',toks:=t' }:=I.un (Un.kept k) (I.hok.kept k)
theorem Inv.laid{a:Addr}{o:HO}{t':Nat}(I:Inv X pins σ H s)(k:∀b u,s.heap.get? b=some u->h'.get? b=some u)(hp:s.heap.objs.size<=a)(new:q2y X.prog X.w (upd H a o) h' a o) :
  Inv X pins σ (upd H a o) {s with heap:=h',toks:=t' }:=I.un (Un.laid k hp (I.hok.fresh hp)) (I.hok.laid k hp new)
theorem Inv.write{x e:Addr}{o:HO}{t':Nat}(I:Inv X pins σ H s)(mu:Mut (H x))(he:e=x\/H e=some (.own x))(k:∀b u,b≠e->s.heap.get? b=some u->h'.get? b=some u)(heo:∃u,h'.get? e=some u)
  (new:q2y X.prog X.w (upd H x o) h' x o):Inv X pins σ (upd H x o) {s with heap:=h',toks:=t' }:=I.un (Un.write mu he k heo) (I.hok.write mu he k heo new)
theorem Inv.pins_of{pins':List (Addr×Obj)}(I:Inv X pins σ H s)(h:∀p∈pins',s.heap.get? p.1=some p.2/\H p.1=none/\p.1≠X.env.locals/\p.1∉X.fs/\∀v,p.2.data≠.cell v):Inv X pins' σ H s:=
 ⟨I.ok,I.os,I.bare,I.base,I.loc,I.cell,I.free,I.freeC,fun p hp=>(List.mem_append.mp hp).elim (fun z=>I.pin p (List.mem_append_left _ z)) (h p),I.hok,I.len⟩
theorem z2m{N:List Str}(hN:N.Nodup){i j:Nat}{x:Str}(a:N[i]?=some x)(b:N[j]?=some x):i=j:=by
 obtain⟨h1,e1⟩:=List.getElem?_eq_some_iff.mp a
 obtain⟨h2,e2⟩:=List.getElem?_eq_some_iff.mp b
 exact(List.getElem_inj hN).mp (e1.trans e2.symm)
theorem z3k{M:Model}{A:Around}{E:Value->Shared->Prop}{i:Nat}{x:Str}{v:V}{u:Value}{Q:Unit->Shared->Prop}(I:Inv X pins σ H s)(hN:X.N.Nodup)(hi:X.N[i]?=some x)(hx:Loc X.env.scope x)(r:RelV v u)
  (h:∀s',Inv X pins (σ.set i (some v)) H s'->(∃a,Heap.SameBut a s.heap s'.heap/\(a=X.env.locals\/X.env.cells.lookup x=some a))->Q () s') (hf:X.fn x=true\/X.env.scope.names.lookup x=some .local:=by first|exact .inl rfl|exact .inr rfl|assumption):wpAny M A (storeName X.env x u) Q E s:=by
 obtain⟨m,hn,hl⟩:=id I.loc
 have hcls:(X.env.scope.kind==.class||(X.env.scope.kind==.module&&X.env.locals != X.env.globals))=false:=by rw[I.ok.kind];rfl
 have hiσ:i<σ.length:=by rw[I.len];exact(List.getElem?_eq_some_iff.mp hi).1
 have cne:=I.cne
 have tracked:∀{a:Addr}{h':Heap},(∃o,s.heap.get? a=some o/\H a=none)->Heap.SameBut a s.heap h'->HOk X.prog X.w H h':=fun {a h'} ha hs b ob e=>by
  obtain⟨_,_,hfree⟩:=ha
  refine(I.hok b ob e).stay (fun c w' hc q=>(hs.2 c ?_).trans q) (fun _ q=>q) fun _ _ q=>q
  rintro rfl
  rcases hc with rfl|hc
  ·rw[hfree]at e;cases e
  ·rw[hfree]at hc;cases hc
 rcases hx with hk|hk
 ·refine wpAny_storeName_local hk hn (fun h' hn' hs=>?_) hcls
  obtain⟨oL,_,_,hoL,_⟩:=id hn
  refine h _ ⟨I.ok,I.os,I.bare,⟨fun b o e n hb hx=>?_,fun b o e n hb hx=>?_,I.base.free,fun b o e hx=>?_,I.base.tups,I.base.frzs,I.base.tbls⟩,⟨_,hn',fun j y v' e1 e2 e3=>?_⟩,fun y c e=>?_,I.free,I.freeC,fun p hp=>?_,tracked ⟨oL,hoL,I.free⟩ hs,by simpa using I.len⟩ ⟨_,hs,.inl rfl⟩
  ·exact(hs.2 b (Nat.ne_of_lt (Nat.lt_of_lt_of_le (Heap.lt_size e) I.ok.above))).trans (I.base.keep b o e n hb hx)
  ·obtain⟨sl,e1⟩:=I.base.slot b o e n hb hx
   exact⟨sl,(hs.2 b (Nat.ne_of_lt (Nat.lt_of_lt_of_le (Heap.lt_size e) I.ok.above))).trans e1⟩
  ·obtain⟨o',e1⟩:=I.base.there b o e hx
   exact⟨o',(hs.2 b (Nat.ne_of_lt (Nat.lt_of_lt_of_le (Heap.lt_size e) I.ok.above))).trans e1⟩
  ·by_cases hj:j=i
   ·subst hj
    rw[hi]at e1;cases e1
    rw[List.getElem?_set_self hiσ]at e2
    cases e2
    exact⟨u,r,.inl ⟨hk,by simp⟩⟩
   ·rw[List.getElem?_set_ne (Ne.symm hj)]at e2
    obtain⟨u',r',q⟩:=hl j y v' e1 e2 e3
    refine⟨u',r',?_⟩
    rcases q with⟨k,e⟩|⟨k,c,e,z⟩
    ·refine .inl ⟨k,?_⟩
     have:y≠x:=fun e=>hj (z2m hN e1 (e▸hi))
     simp[this,e]
    ·exact .inr ⟨k,c,e,z.sameBut hs (cne y c e)⟩
  ·obtain⟨w',z⟩:=I.cell y c e
   exact⟨w',z.sameBut hs (cne y c e)⟩
  ·obtain⟨e,n,ne,nf,d⟩:=I.pin p hp
   exact⟨(hs.2 p.1 ne).trans e,n,ne,nf,d⟩
 ·have hfn:X.fn x=true:=by
   rcases hf with z|z
   ·exact z
   ·rw[z]at hk;cases hk
  obtain⟨c,hc⟩:=I.ok.has x (.inl hk)
  obtain⟨w',z⟩:=I.cell x c hc
  refine wpAny_storeName_cell I.ok.kind hk hc z (fun h' hc' hs=>?_)
  obtain⟨oc,hoc,hocd⟩:=id z
  refine h {s with heap:=h' } ⟨I.ok,I.os,I.bare,⟨fun b o e n hb hx=>?_,fun b o e n hb hx=>?_,I.base.free,fun b o e hx=>?_,I.base.tups,I.base.frzs,I.base.tbls⟩,⟨m,hn.sameBut hs (Ne.symm (cne x c hc)),fun j y v' e1 e2 e3=>?_⟩,fun y c' e=>?_,I.free,I.freeC,fun p hp=>?_,tracked ⟨oc,hoc,I.freeC x c hc⟩ hs,by simpa using I.len⟩ ⟨c,hs,.inr hc⟩
  ·exact(hs.2 b (Nat.ne_of_lt (Nat.lt_of_lt_of_le (Heap.lt_size e) (I.ok.cab x c hfn hc)))).trans (I.base.keep b o e n hb hx)
  ·obtain⟨sl,e1⟩:=I.base.slot b o e n hb hx
   exact⟨sl,(hs.2 b (Nat.ne_of_lt (Nat.lt_of_lt_of_le (Heap.lt_size e) (I.ok.cab x c hfn hc)))).trans e1⟩
  ·obtain⟨o',e1⟩:=I.base.there b o e hx
   exact⟨o',(hs.2 b (Nat.ne_of_lt (Nat.lt_of_lt_of_le (Heap.lt_size e) (I.ok.cab x c hfn hc)))).trans e1⟩
  ·by_cases hj:j=i
   ·subst hj
    rw[hi]at e1;cases e1
    rw[List.getElem?_set_self hiσ]at e2
    cases e2
    exact⟨u,r,.inr ⟨.inl hk,c,hc,hc'⟩⟩
   ·rw[List.getElem?_set_ne (Ne.symm hj)]at e2
    obtain⟨u',r',q⟩:=hl j y v' e1 e2 e3
    refine⟨u',r',?_⟩
    rcases q with q|⟨k,c',e,z'⟩
    ·exact .inl q
    ·refine .inr ⟨k,c',e,z'.sameBut hs ?_⟩
     rintro rfl
     exact hj (z2m hN e1 (I.ok.inj _ _ _ e hc▸hi))
  ·by_cases hcc:c'=c
   ·subst hcc;exact⟨_,hc'⟩
   ·obtain⟨w2,z2⟩:=I.cell y c' e
    exact⟨w2,z2.sameBut hs hcc⟩
  ·obtain⟨e,n,ne,nf,d⟩:=I.pin p hp
   refine⟨(hs.2 p.1 ?_).trans e,n,ne,nf,d⟩
   intro q
   rw[q,hoc]at e
   have q':oc=p.2:=Option.some.inj e
   exact d w' (by rw[<-q'];exact hocd)
theorem q9l{M:Model}{A:Around}{E:Value->Shared->Prop}{i:Nat}{x:Str}{v:V}{u:Value}{Q:Unit->Shared->Prop}(I:Inv X pins σ H s)(hN:X.N.Nodup)(hi:X.N[i]?=some x)(hx:Loc X.env.scope x)(r:RelV v u)
  (h:∀s',Inv X pins (σ.set i (some v)) H s'->Q () s') (hf:X.fn x=true\/X.env.scope.names.lookup x=some .local:=by first|exact .inl rfl|exact .inr rfl|assumption):wpAny M A (storeName X.env x u) Q E s:=
 z3k I hN hi hx r (fun s' I' _=>h s' I') hf
theorem Inv.call'{s':Shared}{ch:List Addr}(I:Inv X pins σ H s)(ho:s'.os=s.os)(u:Un (frs X.stack) ch H H' s.heap s'.heap)(hok:HOk X.prog X.w H' s'.heap)(hg:AllBare s'.gens)
  (hch:∀b∈ch,(b∈X.ex\/X.s₀.heap.objs.size<=b)/\b≠X.env.locals/\(∀x c,X.env.cells.lookup x=some c->c≠b)/\∀p∈X.pn++pins,p.1≠b):Inv X pins σ H' s':=by
 obtain⟨h',g',d',t',o'⟩:=s'
 have e:o'=s.os:=ho
 subst e
 exact I.call (g':=g') (t':=t') (d':=d') u hok hg hch
end
abbrev XK:=Value->Option Addr->Hp->Prop
abbrev St:=List (Option V)
abbrev VK:=V->Hp->Prop
abbrev TE:=St->Hp->VK->Prop
abbrev TT:=St->Hp->(Bool->Hp->Prop)->Prop
abbrev TA:=St->Hp->(List V->Hp->Prop)->Prop
structure Ends where
 nx:St->Hp->Prop
 rt:VK
 bk:St->Hp->Prop:=fun _ _=>False
 ct:St->Hp->Prop:=fun _ _=>False
abbrev TS:=Ends->St->Hp->Prop
def EP(X:Cx)(pins:List (Addr×Obj))(σ:St)(Q:VK)(u:Value)(s':Shared):Prop:=∃v H',Inv X pins σ H' s'/\RelV v u/\Q v H'
def TP(X:Cx)(pins:List (Addr×Obj))(σ:St)(Q:Bool->Hp->Prop)(b:Bool)(s':Shared):Prop:=∃H',Inv X pins σ H' s'/\Q b H'
def AP(X:Cx)(pins:List (Addr×Obj))(σ:St)(Q:List V->Hp->Prop)(us:List Value)(s':Shared):Prop:=∃vs H',Inv X pins σ H' s'/\Vals vs us/\Q vs H'
def SP(X:Cx)(pins:List (Addr×Obj))(D:Ends)(f:Flow)(s':Shared):Prop:=
 match f with
 |.next=>∃σ' H',Inv X pins σ' H' s'/\D.nx σ' H'
 |.brk=>∃σ' H',Inv X pins σ' H' s'/\D.bk σ' H'
 |.cont=>∃σ' H',Inv X pins σ' H' s'/\D.ct σ' H'
 |.ret u=>∃v σ' H',Inv X pins σ' H' s'/\RelV v u/\D.rt v H'
def PE(X:Cx)(e:Expr)(t:TE):Prop:=
 ∀(pins:List (Addr×Obj))(s:Shared)(σ:St)(H:Hp)(Q:VK),Inv X pins σ H s->t σ H Q->wpAny (model X.prog X.w) X.A (eval e X.env) (EP X pins σ Q) X.xe s
def PT(X:Cx)(e:Expr)(t:TT):Prop:=
 ∀(pins:List (Addr×Obj))(s:Shared)(σ:St)(H:Hp)(Q:Bool->Hp->Prop),Inv X pins σ H s->t σ H Q->wpAny (model X.prog X.w) X.A (isTrue e X.env (eval e X.env)) (TP X pins σ Q) X.xe s
def PW(X:Cx)(e:Expr)(t:TT):Prop:=
 ∀(whole:Sem Value)(pins:List (Addr×Obj))(s:Shared)(σ:St)(H:Hp)(Q:Bool->Hp->Prop),Inv X pins σ H s->t σ H Q->wpAny (model X.prog X.w) X.A (isTrue e X.env whole) (TP X pins σ Q) X.xe s
def PA(X:Cx)(es:List Expr)(t:TA):Prop:=
 ∀(pos:Pos)(pins:List (Addr×Obj))(s:Shared)(σ:St)(H:Hp)(Q:List V->Hp->Prop),Inv X pins σ H s->t σ H Q->wpAny (model X.prog X.w) X.A (spliced (backTo pos (starEach es X.env))) (AP X pins σ Q) X.xe s
def PS(X:Cx)(st:Stmt)(t:TS):Prop:=
 ∀(pins:List (Addr×Obj))(s:Shared)(σ:St)(H:Hp)(D:Ends),Inv X pins σ H s->t D σ H->wpAny (model X.prog X.w) X.A (exec st X.env) (SP X pins D) X.xe s
def PSs(X:Cx)(st:List Stmt)(t:TS):Prop:=
 ∀(pins:List (Addr×Obj))(s:Shared)(σ:St)(H:Hp)(D:Ends),Inv X pins σ H s->t D σ H->wpAny (model X.prog X.w) X.A (execs st X.env) (SP X pins D) X.xe s
theorem thn{α:Type}{t:Sem α}{Q Q':α->Shared->Prop}{M:Model}{A:Around}{E:Value->Shared->Prop}{s:Shared}(h:wpAny M A t Q E s)(hQ:∀a s,Q a s->Q' a s):wpAny M A t Q' E s:=wpAny_mono h hQ fun _ _ x=>x
section
variable{X:Cx}
def tVar(i:Nat):TE:=fun σ H Q=>∃v,σ[i]?=some (some v)/\Q v H
def tC(v:V):TE:=fun _ H Q=>Q v H
theorem x5z{i:Nat}{x:Str}{pos:Pos}(hN:X.N[i]?=some x)(hv:Vis X.env.scope x)(hd:(x==("__debug__" : Str))=false:=by decide)(hcd:(x==("__classdict__" : Str))=false:=by decide):PE X (.Name x pos) (tVar i):=by
 intro pins s σ H Q I h
 obtain⟨v,e,h⟩:=h
 obtain⟨m,hn,hl⟩:=I.loc
 obtain⟨u,r,l⟩:=hl i x v hN e hv
 have fin:EP X pins σ Q u s:=⟨v,H,I,r,h⟩
 rcases l with⟨hk,hm⟩|⟨hk,c,hc,hcell⟩
 ·exact wpAny_Name (wpAny_loadName_local I.ok.kind hk hn hm fin) hd
 ·rcases hk with hk|hk
  ·exact wpAny_Name (wpAny_loadName_cell I.ok.kind hk hc hcell fin) hd
  ·exact wpAny_Name (wpAny_loadName_free I.ok.kind hk hc hcell fin hcd) hd
theorem x6f {i j pos}:PE X (.Constant (.int i) j pos) (tC (.int i)):=fun _ _ _ H _ I h=>wpAny_Constant_int ⟨.int i,H,I.tok _,⟨_,rfl⟩,h⟩
theorem x9z {b j pos}:PE X (.Constant (.bool b) j pos) (tC (.bl b)):=fun _ _ _ H _ I h=>Constant_bool ⟨.bl b,H,I,rfl,h⟩
theorem x6d {j pos}:PE X (.Constant .none j pos) (tC .non):=fun _ _ _ H _ I h=>Constant_none ⟨.non,H,I,rfl,h⟩
theorem x6b {x j pos}:PE X (.Constant (.str x) j pos) (tC (.str x)):=fun _ _ _ H _ I h=>Calls.Constant_str ⟨.str x,H,I.tok _,⟨_,rfl⟩,h⟩
def Gl(X:Cx)(x:Str):Prop:=X.env.kindOf x=some .globalImplicit
theorem z0o{E:Value->Shared->Prop}{pins:List (Addr×Obj)}{s:Shared}{σ:St}{H:Hp}{x:Str}{u:Value}{pos:Pos}{Q:Value->Shared->Prop}(I:Inv X pins σ H s)(hg:Gl X x)(hm:X.mg x=some u)(h:Q u s)
  (hd:(x==("__debug__" : Str))=false:=by decide):wpAny (model X.prog X.w) X.A (eval (.Name x pos) X.env) Q E s:=
 Calls.Name_function_global I.ok.kind hg (Calls.loadGlobal_global (by rw[I.ok.glob];exact I.mod.glob.keeps I.bk) hm h) hd
theorem q9c{E:Value->Shared->Prop}{pins:List (Addr×Obj)}{s:Shared}{σ:St}{H:Hp}{x:Str}{u:Value}{pos:Pos}{Q:Value->Shared->Prop}(I:Inv X pins σ H s)(hg:Gl X x)(hm:X.mg x=none)(hv:bootBuiltins x=some u)(h:Q u s)
  (hn:x≠ "__name__" :=by decide) (hd:(x==("__debug__" : Str))=false:=by decide):wpAny (model X.prog X.w) X.A (eval (.Name x pos) X.env) Q E s:=by
 obtain⟨mb,h1,h2⟩:=I.mod.blt
 exact Calls.Name_function_global I.ok.kind hg (Calls.loadGlobal_builtin (by rw[I.ok.glob];exact I.mod.glob.keeps I.bk) hm (by rw[I.ok.blt];exact h1.keeps I.bk) ((h2 x hn).trans hv) h) hd
theorem z5u{x:Str}{v:V}{u:Value}{pos:Pos}(hg:Gl X x)(hm:X.mg x=some u)(r:RelV v u)(hd:(x==("__debug__" : Str))=false:=by decide):PE X (.Name x pos) (tC v):=
 fun _ _ _ H _ I h=>z0o I hg hm ⟨v,H,I,r,h⟩ hd
theorem y1s{x:Str}{v:V}{u:Value}{pos:Pos}(hg:Gl X x)(hm:X.mg x=none)(hv:bootBuiltins x=some u)(r:RelV v u)(hn:x≠ "__name__" :=by decide)(hd:(x==("__debug__" : Str))=false:=by decide):PE X (.Name x pos) (tC v):=
 fun _ _ _ H _ I h=>q9c I hg hm hv ⟨v,H,I,r,h⟩ hn hd
variable{a b:Expr}{ta tb:TE}{pos:Pos}
variable{tA tB':TT}{rest:List Expr}
def tAnd(t u:TT):TT:=fun σ H Q=>t σ H fun c H1=>if c=true then u σ H1 Q else Q false H1
def tOr(t u:TT):TT:=fun σ H Q=>t σ H fun c H1=>if c=true then Q true H1 else u σ H1 Q
def tNot(t:TT):TT:=fun σ H Q=>t σ H fun c H1=>Q (!c) H1
theorem x0z(ha:PT X a tA):PW X (.BoolOp .And [a] pos) tA:=by
 intro wh pins s σ H Q I h
 refine isTrue_and (thn (ha pins s σ H Q I h) fun c s1 e=>?_)
 cases c with
 |true=>exact isTrue_and_nil e
 |false=>exact e
theorem x5g(ha:PT X a tA):PW X (.BoolOp .Or [a] pos) tA:=by
 intro wh pins s σ H Q I h
 refine isTrue_or (thn (ha pins s σ H Q I h) fun c s1 e=>?_)
 cases c with
 |false=>exact isTrue_or_nil e
 |true=>exact e
theorem x5h(ha:PT X a tA)(hb:PW X (.BoolOp .And (b::rest) pos) tB'):PW X (.BoolOp .And (a::b::rest) pos) (tAnd tA tB'):=by
 intro wh pins s σ H Q I h
 refine isTrue_and (thn (ha pins s σ H _ I h) fun c s1 hh1=>?_)
 obtain⟨H1,I1,q1⟩:=hh1
 cases c with
 |true=>exact hb wh pins s1 σ H1 Q I1 q1
 |false=>exact⟨H1,I1,q1⟩
theorem x9s(ha:PT X a tA)(hb:PW X (.BoolOp .Or (b::rest) pos) tB'):PW X (.BoolOp .Or (a::b::rest) pos) (tOr tA tB'):=by
 intro wh pins s σ H Q I h
 refine isTrue_or (thn (ha pins s σ H _ I h) fun c s1 hh1=>?_)
 obtain⟨H1,I1,q1⟩:=hh1
 cases c with
 |true=>exact⟨H1,I1,q1⟩
 |false=>exact hb wh pins s1 σ H1 Q I1 q1
theorem x5i(ha:PT X a tA):PT X (.UnaryOp .Not a pos) (tNot tA):=by
 intro pins s σ H Q I h
 exact isTrue_not (ha pins s σ H (fun c H1=>Q (!c) H1) I h)
def x9n(ta tb:TE):TE:=fun σ H Q=>ta σ H fun x H1=>∃c,x=.bl c/\if c=true then tb σ H1 Q else Q (.bl false) H1
theorem x6c {op} {t:TE} (h:PE X a t):PE X (.BoolOp op [a] pos) t:=fun pins s σ H Q I hw=>BoolOp_one (h pins s σ H Q I hw)
theorem x6i(ha:PE X a ta)(hb:PE X (.BoolOp .And (b::rest) pos) tb):PE X (.BoolOp .And (a::b::rest) pos) (x9n ta tb):=by
 intro pins s σ H Q I h
 refine BoolOp_and (thn (ha pins s σ H _ I h) fun v s1 hh1=>?_)
 obtain⟨x,H1,I1,r1,q1⟩:=hh1
 obtain⟨c,rfl,q1⟩:=q1
 cases r1
 refine wpAny_truthy_bool ?_
 cases c with
 |true=>exact hb pins s1 σ H1 Q I1 q1
 |false=>exact⟨.bl false,H1,I1,rfl,q1⟩
def tIf(t:TT)(ta tb:TE):TE:=fun σ H Q=>t σ H fun c H1=>if c=true then ta σ H1 Q else tb σ H1 Q
theorem y6n{c:Expr}(hc:PT X c tA)(ha:PE X a ta)(hb:PE X b tb):PE X (.IfExp c a b pos) (tIf tA ta tb):=by
 intro pins s σ H Q I h
 refine wpAny_IfExp (thn (hc pins s σ H _ I h) fun d s1 hh1=>?_)
 obtain⟨H1,I1,q1⟩:=hh1
 cases d with
 |true=>exact ha pins s1 σ H1 Q I1 q1
 |false=>exact hb pins s1 σ H1 Q I1 q1
end
def SqL(K:Frag)(H:Hp)(a:Addr)(xs:List V):Prop:=
 Rd H a (.lst xs)\/
  ∃(o:Obj)(its:Array Value)(n:Nat),K.lookup a=some o/\o.cls=.type "list" /\o.dict=none/\o.data=.seq its n/\its.size<=sizeLine/\Vals xs its.toList
def SqT(K:Frag)(H:Hp)(a:Addr)(xs:List V):Prop:=
 Rd H a (.tup xs)\/
  ∃(o:Obj)(its:Array Value)(n:Nat),K.lookup a=some o/\o.cls=.type "tuple" /\o.data=.seq its n/\its.size<=sizeLine/\Vals xs its.toList
def absV:Value->Option V
 |.none=>some .non
 |.bool b=>some (.bl b)
 |.int i _=>some (.int i)
 |.str x _=>some (.str x)
 |.bytes b _=>some (.byt b)
 |.float b _=>some (.flt b)
 |.ref a=>some (.ref a)
 |.type n=>some (.ty n)
 |_=>none
theorem RelV.abs{x:V}{u:Value}(r:RelV x u):absV u=some x:=by
 cases x with
 |non=>cases r;rfl
 |bl _=>cases r;rfl
 |int _=>obtain⟨t,rfl⟩:=r;rfl
 |str _=>obtain⟨t,rfl⟩:=r;rfl
 |byt _=>obtain⟨t,rfl⟩:=r;rfl
 |flt _=>obtain⟨t,rfl⟩:=r;rfl
 |ref _=>cases r;rfl
 |ty _=>cases r;rfl
theorem RelV.inj{x y:V}{u:Value}(r:RelV x u)(q:RelV y u):x=y:=Option.some.inj (r.abs.symm.trans q.abs)
theorem Vals.inj:∀{xs ys:List V}{us:List Value},Vals xs us->Vals ys us->xs=ys
 |_,_,_,.nil,.nil=>rfl
 |_,_,_,.cons r t,.cons r' t'=>by rw[r.inj r',Vals.inj t t']
section
variable{X:Cx}{pins:List (Addr×Obj)}{σ:St}{H:Hp}{s:Shared}{a:Addr}{xs ys:List V}
theorem SqL.of{K:Frag}(h:H a=some (.lst xs)):SqL K H a xs:=.inl (.inl h)
theorem SqT.of{K:Frag}(h:H a=some (.tup xs)):SqT K H a xs:=.inl (.inl h)
theorem Inv.list(I:Inv X pins σ H s)(h:SqL X.K H a xs):∃its:List Value,Vals xs its/\PlainL s.heap a its.toArray/\xs.length<=sizeLine:=by
 rcases h with h|⟨o,its,n,hk,hc,hd,hs,hz,r⟩
 ·obtain⟨z,its,n,r,e⟩:=h.ok I.hok
  exact⟨its,r,⟨_,n,e,rfl,rfl,rfl⟩,z⟩
 ·refine⟨its.toList,r,⟨o,n,I.kIn a o hk,hc,hd,by simpa using hs⟩,?_⟩
  have e:=r.length
  simp only[Array.length_toList]at e
  omega
theorem Inv.tuple(I:Inv X pins σ H s)(h:SqT X.K H a xs):∃its:List Value,Vals xs its/\IsTup s.heap a its.toArray/\xs.length<=sizeLine:=by
 rcases h with h|⟨o,its,n,hk,hc,hs,hz,r⟩
 ·obtain⟨z,its,r,p⟩:=h.ok I.hok
  exact⟨its,r,p,z⟩
 ·refine⟨its.toList,r,⟨o,I.kIn a o hk,hc,n,by simpa using hs⟩,?_⟩
  have e:=r.length
  simp only[Array.length_toList]at e
  omega
theorem Inv.list_inj(I:Inv X pins σ H s)(h:SqL X.K H a xs)(h':SqL X.K H a ys):xs=ys:=by
 obtain⟨its,r,⟨o,n,e,_,_,d⟩,_⟩:=I.list h
 obtain⟨its',r',⟨o',n',e',_,_,d'⟩,_⟩:=I.list h'
 rw[e]at e';cases e'
 rw[d]at d'
 injection d' with d1 _
 have:its=its':=by simpa using congrArg Array.toList d1
 subst this
 exact r.inj r'
theorem Inv.tuple_inj(I:Inv X pins σ H s)(h:SqT X.K H a xs)(h':SqT X.K H a ys):xs=ys:=by
 obtain⟨its,r,⟨o,e,_,n,d⟩,_⟩:=I.tuple h
 obtain⟨its',r',⟨o',e',_,n',d'⟩,_⟩:=I.tuple h'
 rw[e]at e';cases e'
 rw[d]at d'
 injection d' with d1 _
 have:its=its':=by simpa using congrArg Array.toList d1
 subst this
 exact r.inj r'
end
section
variable{X:Cx}{pins:List (Addr×Obj)}{σ:St}{H:Hp}{s:Shared}{E:Value->Shared->Prop}
end
section
variable{X:Cx}{st:Stmt}{rest:List Stmt}{t u:TS}{e:Expr}{te:TE}{pos:Pos}
def x9i:TS:=fun D σ H=>D.nx σ H
def tSeq(t u:TS):TS:=fun D σ H=>t {D with nx:=u D} σ H
theorem x1d:PSs X [] x9i:=fun _ _ σ H _ I h=>wpAny_execs_nil ⟨σ,H,I,h⟩
theorem y6d(h1:PS X st t)(h2:PSs X rest u):PSs X (st::rest) (tSeq t u):=by
 intro pins s σ H D I h
 refine wpAny_execs_cons (thn (h1 pins s σ H {D with nx:=u D} I h) fun f s1 q=>?_)
 cases f with
 |next=>
  obtain⟨σ',H',I',q⟩:=q
  exact h2 pins s1 σ' H' D I' q
 |ret v=>exact q
 |brk=>exact q
 |cont=>exact q
theorem x1c(h1:PS X st t):PSs X [st] t:=by
 intro pins s σ H D I h
 refine wpAny_execs_cons (thn (h1 pins s σ H D I h) fun f s1 q=>?_)
 cases f with
 |next=>exact wpAny_execs_nil q
 |ret v=>exact q
 |brk=>exact q
 |cont=>exact q
theorem Inv.quiet{pins:List (Addr×Obj)}{σ:St}{H:Hp}{s:Shared}(I:Inv X pins σ H s):interactive X.env=false:=by simp[interactive,I.ok.kind]
def x9k(te:TE):TS:=fun D σ H=>te σ H fun _ H1=>D.nx σ H1
theorem x1f(he:PE X e te)(hs:swapsWith e none pos.line X.env=pure false:=by rfl):PS X (.Expr e pos) (x9k te):=by
 intro pins s σ H D I h
 exact wpAny_Expr_any (thn (he pins s σ H _ I h) fun v s1 hh1=>by obtain⟨x,H1,I1,r1,q1⟩:=hh1;exact(⟨σ,H1,I1,q1⟩)) I.quiet hs
def tRet(te:TE):TS:=fun D σ H=>te σ H D.rt
theorem x5k(he:PE X e te):PS X (.Return (some e) pos) (tRet te):=by
 intro pins s σ H D I h
 exact wpAny_Return_some (thn (he pins s σ H _ I h) fun v s1 hh1=>by obtain⟨x,H1,I1,r1,q1⟩:=hh1;exact(⟨x,σ,H1,I1,r1,q1⟩))
def tIfS(c:TT)(t u:TS):TS:=fun D σ H=>c σ H fun b H1=>if b=true then t D σ H1 else u D σ H1
theorem x9t{c:Expr}{a b:List Stmt}{tc:TT}(hc:PT X c tc)(ha:PSs X a t)(hb:PSs X b u):PS X (.If c a b pos) (tIfS tc t u):=by
 intro pins s σ H D I h
 refine wpAny_If (thn (hc pins s σ H _ I h) fun d s1 hh1=>?_)
 obtain⟨H1,I1,q1⟩:=hh1
 cases d with
 |true=>exact ha pins s1 σ H1 D I1 q1
 |false=>exact hb pins s1 σ H1 D I1 q1
def x4o:TS:=fun _ _ _=>False
theorem y6g:PS X st x4o:=fun _ _ _ _ _ _ h=>h.elim
end
abbrev TG:=V->St->Hp->(St->Hp->Prop)->Prop
abbrev TGs:=List V->St->Hp->(St->Hp->Prop)->Prop
def PG(X:Cx)(target:Expr)(t:TG):Prop:=
 ∀(pins:List (Addr×Obj))(s:Shared)(σ:St)(H:Hp)(v:V)(u:Value)(Q:St->Hp->Prop),Inv X pins σ H s->RelV v u->t v σ H Q->
  wpAny (model X.prog X.w) X.A (assign target X.env u) (fun _ s'=>∃σ' H',Inv X pins σ' H' s'/\Q σ' H') X.xe s
def PGs(X:Cx)(ts:List Expr)(t:TGs):Prop:=
 ∀(pins:List (Addr×Obj))(s:Shared)(σ:St)(H:Hp)(vs:List V)(us:List Value)(Q:St->Hp->Prop),Inv X pins σ H s->Vals vs us->t vs σ H Q->
  wpAny (model X.prog X.w) X.A (assignInOrder ((assignEach ts X.env).map (·.2)) us) (fun _ s'=>∃σ' H',Inv X pins σ' H' s'/\Q σ' H') X.xe s
abbrev TSet:=V->V->V->Hp->(Hp->Prop)->Prop
def PSet(X:Cx)(t:TSet):Prop:=
 ∀(pins:List (Addr×Obj))(s:Shared)(σ:St)(H:Hp)(o i v:V)(ov iv u:Value)(Q:Hp->Prop),Inv X pins σ H s->RelV o ov->RelV i iv->RelV v u->t o i v H Q->
  wpAny (model X.prog X.w) X.A (setItem ov iv u) (fun _ s'=>∃H',Inv X pins σ H' s'/\Q H') X.xe s
abbrev TIp:=V->V->Hp->VK->Prop
def PIp(X:Cx)(op:Operator)(t:TIp):Prop:=
 ∀(pins:List (Addr×Obj))(s:Shared)(σ:St)(H:Hp)(x y:V)(v u:Value)(Q:VK),Inv X pins σ H s->RelV x v->RelV y u->t x y H Q->
  wpAny (model X.prog X.w) X.A (inplaceOp op v u) (EP X pins σ Q) X.xe s
section
variable{X:Cx}{pos:Pos}
def x8j(i:Nat):TG:=fun v σ H Q=>Q (σ.set i (some v)) H
theorem x1m{i:Nat}{x:Str}(hN:X.N.Nodup)(hi:X.N[i]?=some x)(hx:Loc X.env.scope x)(hf:X.fn x=true\/X.env.scope.names.lookup x=some .local:=by first|exact .inl rfl|exact .inr rfl|assumption):PG X (.Name x pos) (x8j i):=by
 intro pins s σ H v u Q I r h
 exact wpAny_assign_Name (q9l I hN hi hx r (fun s' I'=>⟨_,H,I',h⟩) hf)
def gNil:TGs:=fun vs σ H Q=>vs=[]/\Q σ H
def w1a(t:TG)(u:TGs):TGs:=fun vs σ H Q=>∃v r,vs=v::r/\t v σ H fun σ' H'=>u r σ' H' Q
theorem x1l:PGs X [] gNil:=by
 intro pins s σ H vs us Q I r h
 obtain⟨e,h⟩:=h
 subst e
 cases r
 exact assignInOrder_nil ⟨σ,H,I,h⟩
theorem y6k{e:Expr}{es:List Expr}{t:TG}{u:TGs}(h1:PG X e t)(h2:PGs X es u)
  (hs:(assignEach (e::es) X.env).map (·.2)=assign e X.env::(assignEach es X.env).map (·.2):=by rfl):PGs X (e::es) (w1a t u):=by
 intro pins s σ H vs us Q I r h
 obtain⟨v,vr,e1,h⟩:=h
 subst e1
 cases r with
 |cons r rr=>
  rw[hs]
  refine assignInOrder_cons (thn (h1 pins s σ H _ _ _ I r h) fun _ s1 hh1=>?_)
  obtain⟨σ1,H1,I1,q1⟩:=hh1
  exact h2 pins s1 σ1 H1 _ _ Q I1 rr q1
def gTup(K:Frag)(n:Nat)(t:TGs):TG:=fun v σ H Q=>∃a xs,v=.ref a/\SqT K H a xs/\xs.length=n/\t xs σ H Q
theorem x5x{es:List Expr}{k:Nat}{t:TGs}{n:Nat}(hc:X.calm=true)(h:PGs X es t)
  (hn:(assignEach es X.env).length=n:=by rfl) (hst:(assignEach es X.env).findIdx? (·.1)=none:=by rfl):PG X (.Tuple es k pos) (gTup X.K n t):=by
 intro pins s σ H v u Q I r hw
 obtain⟨a,xs,e1,hq,hl,hw⟩:=hw
 subst e1
 cases r
 obtain⟨its,rv,ht,hz⟩:=I.tuple hq
 refine assign_Tuple_tuple (I.ok.hd hc) ht (by simp[hn,<-hl,rv.length]) hst fun h' hx=>?_
 have I1:Inv X pins σ H {s with heap:=h' }:=I.kept (t':=s.toks) fun b o e=>hx b o (Nat.ne_of_lt (Heap.lt_size e)) e
 exact h pins _ σ H xs _ Q I1 (by simpa using rv) hw
def gSub(to ti:TE)(t:TSet):TG:=fun v σ H Q=>to σ H fun o H1=>ti σ H1 fun i H2=>t o i v H2 fun H3=>Q σ H3
theorem x5y{o i:Expr}{to ti:TE}{t:TSet}(ho:PE X o to)(hi:PE X i ti)(hs:PSet X t)
  (ha:∀v,assign (.Subscript o i pos) X.env v=(do
   let ov <-holding [v] (eval o X.env)
   let iv <-holding [v,ov] (eval i X.env)
   standAt pos
   holding [v,ov,iv] (setItem ov iv v)
   release [v,ov,iv] []):=by intro _;rfl):PG X (.Subscript o i pos) (gSub to ti t):=by
 intro pins s σ H v u Q I r h
 rw[ha]
 refine wpAny_bind (wpAny_holding (thn (ho pins s σ H _ I h) fun ov s1 hh1=>?_))
 obtain⟨x,H1,I1,r1,q1⟩:=hh1
 refine wpAny_bind (wpAny_holding (thn (hi pins s1 σ H1 _ I1 q1) fun iv s2 hh2=>?_))
 obtain⟨y,H2,I2,r2,q2⟩:=hh2
 refine wpAny_bind (wpAny_standAt (wpAny_bind (wpAny_holding (thn (hs pins s2 σ H2 x y v ov iv u _ I2 r1 r2 r q2) fun _ s3 hh3=>?_))))
 obtain⟨H3,I3,q3⟩:=hh3
 exact wpAny_release ⟨σ,H3,I3,q3⟩
def tAsg(te:TE)(g:TG):TS:=fun D σ H=>te σ H fun x H1=>g x σ H1 D.nx
theorem x5n{tg e:Expr}{te:TE}{g:TG}(he:PE X e te)(hg:PG X tg g)(hs:swapsWithSole [tg] e pos.line X.env=pure false:=by rfl)(hw:swappedStores [tg] e X.env=pure none:=by rfl)
  (h1:(assignEach [tg] X.env).map (·.2)=[assign tg X.env]:=by rfl):PS X (.Assign [tg] e pos) (tAsg te g):=by
 intro pins s σ H D I h
 refine wpAny_Assign_stores (thn (he pins s σ H _ I h) fun v s1 ⟨x,H1,I1,r1,q1⟩=>?_) hs hw
 rw[h1]
 exact thn (hg pins s1 σ H1 x v _ I1 r1 q1) fun _ s2 q=>q
theorem x5j{i:Nat}{x:Str}{e:Expr}{te:TE}{pos':Pos}(hN:X.N.Nodup)(hi:X.N[i]?=some x)(hx:Loc X.env.scope x)(he:PE X e te)(hs:swapsWith e (some (.Name x pos')) pos.line X.env=pure false:=by rfl)(hf:X.fn x=true\/X.env.scope.names.lookup x=some .local:=by first|exact .inl rfl|exact .inr rfl|assumption) :
  PS X (.Assign [.Name x pos'] e pos) (tAsg te (x8j i)):=by
 intro pins s σ H D I h
 refine wpAny_Assign_Name (thn (he pins s σ H _ I h) fun v s1 ⟨y,H1,I1,r1,q1⟩=>?_) hs
 exact q9l I1 hN hi hx r1 (fun s2 I2=>⟨_,H1,I2,q1⟩) hf
def tAug(i:Nat)(te:TE)(ti:TIp):TS:=fun D σ H=>∃x,σ[i]?=some (some x)/\te σ H fun y H1=>ti x y H1 fun z H2=>D.nx (σ.set i (some z)) H2
theorem x5m{i:Nat}{x:Str}{e:Expr}{te:TE}{op:Operator}{ti:TIp}{pos':Pos}(hN:X.N.Nodup)(hi:X.N[i]?=some x)(hx:Loc X.env.scope x)(he:PE X e te)(ho:PIp X op ti)(hf:X.fn x=true\/X.env.scope.names.lookup x=some .local:=by first|exact .inl rfl|exact .inr rfl|assumption) :
  PS X (.AugAssign (.Name x pos') op e pos) (tAug i te ti):=by
 intro pins s σ H D I h
 obtain⟨v,e1,h⟩:=h
 obtain⟨m,hn,hl⟩:=I.loc
 have vis:Vis X.env.scope x:=by rcases hx with k|k;exact .inl k;exact .inr (.inl k)
 obtain⟨u,r,l⟩:=hl i x v hi e1 vis
 refine wpAny_AugAssign_Name ?_
 have go:wpAny (model X.prog X.w) X.A (eval e X.env) (fun w s₂=>wpAny (model X.prog X.w) X.A (inplaceOp op u w) (fun r s₃=>wpAny (model X.prog X.w) X.A (storeName X.env x r) (fun _=>SP X pins D .next) X.xe s₃) X.xe s₂) X.xe s:=by
  refine thn (he pins s σ H _ I h) fun w s1 hh1=>?_
  obtain⟨y,H1,I1,r1,q1⟩:=hh1
  refine thn (ho pins s1 σ H1 v y u w _ I1 r r1 q1) fun z s2 hh2=>?_
  obtain⟨zv,H2,I2,r2,q2⟩:=hh2
  exact q9l I2 hN hi hx r2 (fun s3 I3=>⟨_,H2,I3,q2⟩) hf
 rcases l with⟨hk,hm⟩|⟨hk,c,hc,hcell⟩
 ·exact wpAny_loadName_local I.ok.kind hk hn hm go
 ·rcases hk with hk|hk
  ·exact wpAny_loadName_cell I.ok.kind hk hc hcell go
  ·rcases hx with k|k
   ·have:X.env.scope.names.lookup x=some .free:=hk
    rw[k]at this;cases this
   ·have:X.env.scope.names.lookup x=some .free:=hk
    rw[k]at this;cases this
def ipI(f:Int->Int->Int):TIp:=fun x y H Q=>∃i j,x=.int i/\y=.int j/\Q (.int (f i j)) H
theorem x8f:PIp X .Add (ipI fun i j=>i+j):=by
 intro pins s σ H x y v u Q I r1 r2 h
 obtain⟨i,j,e1,e2,q⟩:=h
 subst e1;subst e2
 obtain⟨t,rfl⟩:=r1
 obtain⟨t',rfl⟩:=r2
 exact iadd_int ⟨.int _,H,I.tok _,⟨_,rfl⟩,q⟩
end
section
variable{X:Cx}{pos:Pos}
def x4m(c:TT)(tb:TS):TS:=fun D σ H=>∃W:Nat->St->Hp->Prop,(∃m,W m σ H)/\∀m σ H,W m σ H->
 c σ H fun b H1=>if b=true then ∃N:St->Hp->Prop,(∀σ' H',N σ' H'->∃m',m'<m/\W m' σ' H')/\tb {D with nx:=N,ct:=N,bk:=D.nx} σ H1 else D.nx σ H1
theorem y6e{c:Expr}{body:List Stmt}{tc:TT}{tb:TS}(hp:PassesOwn (model X.prog X.w) X.A X.env X.xe)(hc:PT X c tc)(hb:PSs X body tb):PS X (.While c body [] pos) (x4m tc tb):=by
 intro pins s σ H D I h
 obtain⟨W,⟨m0,w0⟩,turn⟩:=h
 refine wpAny_While (codeAny_whileLoop (fun n s'=>∃σ' H',Inv X pins σ' H' s'/\W n σ' H') ?_ m0 ⟨σ,H,I,w0⟩)
 rintro n s1 ⟨σ1,H1,I1,w1⟩
 refine wpAny_passesOwn hp (thn (hc pins s1 σ1 H1 _ I1 (turn n σ1 H1 w1)) fun b s2 hh1=>?_)
 obtain⟨H2,I2,q2⟩:=hh1
 cases b with
 |true=>
  obtain⟨N,hN,q2⟩:=q2
  rw[if_pos rfl]
  refine wpAny_passesOwn hp (thn (hb pins s2 σ1 H2 _ I2 q2) fun f s3 q3=>?_)
  cases f with
  |next=>
   obtain⟨σ3,H3,I3,n3⟩:=q3
   obtain⟨m',hm,w3⟩:=hN σ3 H3 n3
   exact⟨m',hm,σ3,H3,I3,w3⟩
  |cont=>
   obtain⟨σ3,H3,I3,n3⟩:=q3
   obtain⟨m',hm,w3⟩:=hN σ3 H3 n3
   exact⟨m',hm,σ3,H3,I3,w3⟩
  |brk=>exact q3
  |ret v=>exact q3
 |false=>
  rw[if_neg Bool.false_ne_true]
  exact wpAny_execs_nil ⟨σ1,H2,I2,q2⟩
end
structure It where
 go:Nat->Hp->Prop
 yld:Nat->Hp->V->Hp->Prop
 stop:Nat->Hp->Prop
def FpOk(X:Cx)(pins:List (Addr×Obj))(H:Hp)(b:Addr):Prop:=
 H b=none/\b≠X.env.locals/\b∉X.fs/\(b∈X.ex\/X.s₀.heap.objs.size<=b)/\(∀x c,X.env.cells.lookup x=some c->c≠b)/\∀p∈X.pn++pins,p.1≠b
theorem Inv.fpOk{X:Cx}{pins:List (Addr×Obj)}{σ:St}{H H':Hp}{s:Shared}{b:Addr}(I:Inv X pins σ H s)(hb:s.heap.objs.size<=b)(hn:H' b=none):FpOk X pins H' b:=by
 refine⟨hn,Nat.ne_of_gt (Nat.lt_of_lt_of_le I.lt hb),I.nofs hb,.inr (Nat.le_trans I.sz hb),fun x c e z=>?_,fun p hp z=>?_⟩
 ·obtain⟨v,q⟩:=I.cell x c e
  exact absurd (Nat.lt_of_lt_of_le q.lt (by rw[z];exact hb)) (Nat.lt_irrefl _)
 ·exact absurd (Nat.lt_of_lt_of_le (Heap.lt_size (I.pin p hp).1) (by rw[z];exact hb)) (Nat.lt_irrefl _)
structure Turn(P:Program)(w:World)(K:Frag)(tg:Expr)(J:It)(fp:List Addr)(it:Addr)(tn:Nat->Heap->Prop):Prop where
 mem:it∈fp
 obj:∀i h,tn i h->∀b∈fp,∃o,h.get? b=some o/\∀v,o.data≠.cell v
 keep:∀i h h',tn i h->(∀b∈fp,∀o,h.get? b=some o->h'.get? b=some o)->tn i h'
 item:∀(X:Cx),X.prog=P->X.w=w->X.K=K->X.calm=true->∀(i:Nat)(pins:List (Addr×Obj))(s:Shared)(σ:St)(H:Hp)(E:Value->Shared->Prop),Inv X pins σ H s->(∀b∈fp,FpOk X pins H b)->tn i s.heap->J.go i H->
  wpAny (model P w) X.A (pyNext (.ref it)) (fun r s1=>∃u,r=some u/\
   wpAny (model P w) X.A (letOwnedTupleGo tg (.ref it) u) (fun _ s2=>∃x H',Inv X pins σ H' s2/\RelV x u/\J.yld i H x H'/\tn (i+1) s2.heap/\∀b∈fp,H' b=none) E s1) E s
 done:∀(X:Cx),X.prog=P->X.w=w->X.K=K->X.calm=true->∀(i:Nat)(pins:List (Addr×Obj))(s:Shared)(σ:St)(H:Hp)(E:Value->Shared->Prop),Inv X pins σ H s->(∀b∈fp,FpOk X pins H b)->tn i s.heap->J.stop i H->
  wpAny (model P w) X.A (pyNext (.ref it)) (fun r s1=>r=none/\Inv X pins σ H s1) E s
 self:∀(A:Around)(i:Nat)(s:Shared)(Q:Value->Shared->Prop)(E:Value->Shared->Prop),tn i s.heap->Q (.ref it) s->wpAny (model P w) A (pyIter (.ref it)) Q E s
abbrev TI:=St->Hp->(It->Hp->Prop)->Prop
def PIE(X:Cx)(pins:List (Addr×Obj))(σ:St)(tg:Expr)(R:It->Hp->Prop)(itv:Value)(s2:Shared):Prop:=
 ∃(it:Addr)(fp:List Addr)(tn:Nat->Heap->Prop)(J:It)(H':Hp),itv=.ref it/\Inv X pins σ H' s2/\Turn X.prog X.w X.K tg J fp it tn/\tn 0 s2.heap/\(∀b∈fp,FpOk X pins H' b)/\R J H'
def PI(X:Cx)(tg iter:Expr)(wi:TI):Prop:=
 ∀(pins:List (Addr×Obj))(s:Shared)(σ:St)(H:Hp)(R:It->Hp->Prop),Inv X pins σ H s->wi σ H R->
  wpAny (model X.prog X.w) X.A (eval iter X.env) (fun v s1=>wpAny (model X.prog X.w) X.A (pyIter v) (PIE X pins σ tg R) X.xe s1) X.xe s
theorem z9t {M : Model} {A : Around} {E : Value -> Shared -> Prop} {s : Shared} {tg : Expr} {it : Addr} {u : Value} {o : Obj} {n : String} {vs : Array Value} {Q : Unit -> Shared -> Prop} (ho : s.heap.get? it = some o) (hc : o.cls = .type n) (hd : o.data = .fields vs)
    (hn : ["enumerate", "zip", "dict_itemiterator", "dict_reverseitemiterator", "odict_iterator", "itertools.zip_longest", "itertools.pairwise"].contains n = false) (hQ : Q () s) : wpAny M A (letOwnedTupleGo tg (.ref it) u) Q E s := by
  unfold letOwnedTupleGo
  cases tg <;> first
    | exact wpAny_pure hQ
    | (cases u <;> first
        | exact wpAny_pure hQ
        | (refine wpAny_bind (wpAny_load ho ?_)
           rw [hc, hd]
           show wpAny M A (if (["enumerate", "zip", "dict_itemiterator", "dict_reverseitemiterator", "odict_iterator", "itertools.zip_longest", "itertools.pairwise"].contains n && vs[0]? == some (rawInt _)) = true then _ else _) Q E s
           rw [if_neg (by intro h; rw [hn, Bool.false_and] at h; cases h)]
           exact wpAny_pure hQ))
def Itl(K:Frag)(a:Addr):It:=
 ⟨fun i H=>∃xs x,SqL K H a xs/\xs[i]?=some x,fun i H x H'=>H'=H/\∀xs,SqL K H a xs->xs[i]?=some x,fun i H=>∃xs,SqL K H a xs/\xs.length<=i⟩
def Itt(K:Frag)(a:Addr):It:=
 ⟨fun i H=>∃xs x,SqT K H a xs/\xs[i]?=some x,fun i H x H'=>H'=H/\∀xs,SqT K H a xs->xs[i]?=some x,fun i H=>∃xs,SqT K H a xs/\xs.length<=i⟩
def Itr(lo:Int)(n:Nat):It:=⟨fun i _=>i<n,fun i H x H'=>H'=H/\x=.int (lo+i),fun i _=>n<=i⟩
theorem y0i{P:Program}{w:World}{K:Frag}{tg:Expr}(a it:Addr):Turn P w K tg (Itl K a) [it] it (fun i h=>h.IsListIter it a i) where
 mem:=by simp
 obj:=fun i h st b hb=>by
  have e:b=it:=by simpa using hb
  subst e
  obtain⟨o,e,c,d⟩:=st
  exact⟨o,e,fun v z=>by rw[d]at z;cases z⟩
 keep:=fun i h h' st k=>st.at fun o e=>k it (by simp) o e
 item:=by
  intro X hP hw hK hc i pins s σ H E I hf st hg
  subst hP hw hK
  obtain⟨xs,x,hq,hx⟩:=hg
  obtain⟨its,rv,p,hz⟩:=I.list hq
  obtain⟨u,hu,ru⟩:=rv.get hx
  obtain⟨f0,f1,f2,f3,f4,f5⟩:=hf it (by simp)
  refine wpAny_pyNext_list_item st p.isList (x:=u) (by simpa using hu) fun h' st' sb=>?_
  have I1:Inv X pins σ H {s with heap:=h' }:=I.turned (t':=s.toks) (fun b o hb e=>(sb.2 b hb).trans e) f0 f1 f3 f4 f5
  obtain⟨o,e,c,d⟩:=id st'
  exact⟨u,rfl,z9t (s:={s with heap:=h' }) e c d (by decide) ⟨x,H,I1,ru,⟨rfl,fun ys hy=>by rw[I.list_inj hy hq];exact hx⟩,st',fun b hb=>(hf b hb).1⟩⟩
 done:=by
  intro X hP hw hK hc i pins s σ H E I hf st hg
  subst hP hw hK
  obtain⟨xs,hq,hx⟩:=hg
  obtain⟨its,rv,p,hz⟩:=I.list hq
  obtain⟨f0,f1,f2,f3,f4,f5⟩:=hf it (by simp)
  have hl:=rv.length
  exact wpAny_pyNext_list_end (I.ok.hd hc) st p.isList (by simp;omega) fun h' eb=>⟨rfl,I.turned (t':=s.toks) (fun b o hb e=>eb b o hb e) f0 f1 f3 f4 f5⟩
 self:=fun _ _ _ _ _ st h=>wpAny_pyIter_listiter st h
theorem z8s{P:Program}{w:World}{K:Frag}{tg:Expr}(a it:Addr):Turn P w K tg (Itt K a) [it] it (fun i h=>h.IsTupleIter it a i) where
 mem:=by simp
 obj:=fun i h st b hb=>by
  have e:b=it:=by simpa using hb
  subst e
  obtain⟨o,e,c,d⟩:=st
  exact⟨o,e,fun v z=>by rw[d]at z;cases z⟩
 keep:=fun i h h' st k=>st.at fun o e=>k it (by simp) o e
 item:=by
  intro X hP hw hK hc i pins s σ H E I hf st hg
  subst hP hw hK
  obtain⟨xs,x,hq,hx⟩:=hg
  obtain⟨its,rv,p,hz⟩:=I.tuple hq
  obtain⟨u,hu,ru⟩:=rv.get hx
  obtain⟨f0,f1,f2,f3,f4,f5⟩:=hf it (by simp)
  refine wpAny_pyNext_tuple_item st (show s.heap.IsTuple a its.toArray from p) (x:=u) (by simpa using hu) fun h' st' sb=>?_
  have I1:Inv X pins σ H {s with heap:=h' }:=I.turned (t':=s.toks) (fun b o hb e=>(sb.2 b hb).trans e) f0 f1 f3 f4 f5
  obtain⟨o,e,c,d⟩:=id st'
  exact⟨u,rfl,z9t (s:={s with heap:=h' }) e c d (by decide) ⟨x,H,I1,ru,⟨rfl,fun ys hy=>by rw[I.tuple_inj hy hq];exact hx⟩,st',fun b hb=>(hf b hb).1⟩⟩
 done:=by
  intro X hP hw hK hc i pins s σ H E I hf st hg
  subst hP hw hK
  obtain⟨xs,hq,hx⟩:=hg
  obtain⟨its,rv,p,hz⟩:=I.tuple hq
  obtain⟨f0,f1,f2,f3,f4,f5⟩:=hf it (by simp)
  have hl:=rv.length
  exact wpAny_pyNext_tuple_end (I.ok.hd hc) st (show s.heap.IsTuple a its.toArray from p) (by simp;omega) fun h' eb=>⟨rfl,I.turned (t':=s.toks) (fun b o hb e=>eb b o hb e) f0 f1 f3 f4 f5⟩
 self:=fun _ _ _ _ _ st h=>wpAny_pyIter_tupleiter st h
theorem z8t{P:Program}{w:World}{K:Frag}{tg:Expr}(it:Addr)(lo:Int)(n:Nat):Turn P w K tg (Itr lo n) [it] it (fun i h=>IsRangeIter h it (lo+(i:Nat)*1) ((n:Int)-(i:Nat)) 1) where
 mem:=by simp
 obj:=fun i h st b hb=>by
  have e:b=it:=by simpa using hb
  subst e
  exact⟨_,st,fun v z=>by
   have z':Data.fields _=Data.cell v:=z
   cases z'⟩
 keep:=fun i h h' st k=>k it (by simp) _ st
 item:=by
  intro X hP hw hK hc i pins s σ H E I hf st hg
  subst hP hw hK
  obtain⟨f0,f1,f2,f3,f4,f5⟩:=hf it (by simp)
  have W:=Walks.range (prog:=X.prog) (w:=X.w) (I.ok.hd hc) it lo 1 n
  refine W.item i s _ _ hg st fun v h' tk hv st' kk=>?_
  obtain⟨t,rfl⟩:=hv
  have I1:Inv X pins σ H {s with heap:=h',toks:=tk}:=I.turned (fun b o hb e=>kk b o (by simpa using hb) e) f0 f1 f3 f4 f5
  refine⟨_,rfl,z9t (s:={s with heap:=h',toks:=tk}) (n:= "range_iterator") st' rfl rfl (by decide) ⟨.int (lo+i),H,I1,⟨t,?_⟩,⟨rfl,rfl⟩,st',fun b hb=>(hf b hb).1⟩⟩
  rw[Int.mul_one]
 done:=by
  intro X hP hw hK hc i pins s σ H E I hf st hg
  subst hP hw hK
  obtain⟨f0,f1,f2,f3,f4,f5⟩:=hf it (by simp)
  exact wpAny_pyNext_range_end (I.ok.hd hc) st (by have:n<=i:=hg;omega) fun h' eb=>⟨rfl,I.turned (t':=s.toks) (fun b o hb e=>eb b o hb e) f0 f1 f3 f4 f5⟩
 self:=fun _ _ _ _ _ st h=>wpAny_pyIter_rangeiter st h
section
variable{X:Cx}{tg:Expr}
theorem y5y{pins:List (Addr×Obj)}{σ:St}{H:Hp}{s:Shared}{R:It->Hp->Prop}{E:Value->Shared->Prop}{lo hi:Int}{t u v:Tok}{tk:Nat}(I:Inv X pins σ H s)(h1:-(2 ^ 62)<=lo)(h2:lo<2 ^ 62)(h3:-(2 ^ 62)<=hi)(h4:hi<2 ^ 62)
  (q:R (Itr lo (hi-lo).toNat) H):wpAny (model X.prog X.w) X.A (pyIter (.ref s.heap.objs.size)) (PIE X pins σ tg R) E {s with heap:=s.heap.push {cls:=.type "range",data:=.fields #[.int lo t,.int hi u,.int 1 v]},toks:=tk}:=by
 refine wpAny_pyIter_range (IsRange.new ..) (small_one h1 h2 h3 h4) ?_
 have I1:Inv X pins σ H {s with heap:=s.heap.push {cls:=.type "range",data:=.fields #[.int lo t,.int hi u,.int 1 v]},toks:=tk}:=I.kept fun b o e=>Heap.get?_push_of_some _ e
 refine⟨(s.heap.push {cls:=.type "range",data:=.fields #[.int lo t,.int hi u,.int 1 v]}).objs.size,[(s.heap.push {cls:=.type "range",data:=.fields #[.int lo t,.int hi u,.int 1 v]}).objs.size],_,_,H,rfl,
  I1.kept (t':=tk) fun b o e=>Heap.get?_push_of_some _ e,z8t _ lo (hi-lo).toNat,?_,fun b hb=>?_,q⟩
 ·have e1:lo+((0:Nat):Int)*1=lo:=by simp
  have e2:(((hi-lo).toNat:Nat):Int)-((0:Nat):Int)=Builtin.Range.rangeSize lo hi 1:=by rw[rangeSize_one];split<;>omega
  show IsRangeIter _ _ (lo+((0:Nat):Int)*1) ((((hi-lo).toNat:Nat):Int)-((0:Nat):Int)) 1
  rw[e1,e2]
  exact Heap.get?_push_size _ rfl
 ·have e:b=(s.heap.push {cls:=.type "range",data:=.fields #[.int lo t,.int hi u,.int 1 v]}).objs.size:=by simpa using hb
  subst e
  exact I1.fpOk (Nat.le_refl _) (I1.hok.fresh (Nat.le_refl _))
def w0y(ta:TA):TI:=fun σ H R=>ta σ H fun vs H1=>∃j:Int,vs=[.int j]/\-(2 ^ 62)<=j/\j<2 ^ 62/\R (Itr 0 j.toNat) H1
theorem y1p{a:Expr}{ta:TA}{p pos:Pos}(hg:Gl X "range")(hm:X.mg "range" = none)(ha:PA X [a] ta)(hs:starEach [a] X.env=[(false,eval a X.env)]:=by rfl):PI X tg (.Call (.Name "range" p) [a] [] pos) (w0y ta):=by
 intro pins s σ H R I h
 refine Call_ (q9c I hg hm boot_range (PyProof.Rows.callWith_type1 (thn (ha pos pins s σ H _ I h) fun us s1 ⟨vs,H1,I1,r1,q1⟩=>?_) hs rfl))
 obtain⟨j,e,q1,q2,q⟩:=q1
 subst e
 cases r1 with
 |cons r rr=>
  cases rr
  obtain⟨t,rfl⟩:=r
  exact call_range_1 (y5y I1 (by omega) (by omega) q1 q2 (by simpa using q))
def tFor(wi:TI)(g:TG)(tb:TS):TS:=fun D σ H=>wi σ H fun J H1=>∃W:Nat->Nat->St->Hp->Prop,(∃m,W 0 m σ H1)/\∀i m σ H,W i m σ H->
 (J.stop i H/\D.nx σ H)\/(J.go i H/\∃N:St->Hp->Prop,(∀σ' H',N σ' H'->∃m',m'<m/\W (i+1) m' σ' H')/\∀x H',J.yld i H x H'->g x σ H' fun σ2 H2=>tb {D with nx:=N,ct:=N,bk:=D.nx} σ2 H2)
def z1g(fp:List Addr)(h:Heap):List (Addr×Obj):=fp.filterMap fun b=>(h.get? b).map fun o=>(b,o)
theorem q3k{fp:List Addr}{h:Heap}{b:Addr}{o:Obj}(hb:b∈fp)(e:h.get? b=some o):(b,o)∈z1g fp h:=List.mem_filterMap.mpr ⟨b,hb,by rw[e];rfl⟩
theorem z3s{fp:List Addr}{h:Heap}{p:Addr×Obj}(hp:p∈z1g fp h):p.1∈fp/\h.get? p.1=some p.2:=by
 obtain⟨b,hb,e⟩:=List.mem_filterMap.mp hp
 cases q:h.get? b with
 |none=>rw[q]at e;cases e
 |some o=>
  rw[q]at e
  have e':(b,o)=p:=Option.some.inj e
  subst e'
  exact⟨hb,q⟩
theorem Inv.pinned{pins:List (Addr×Obj)}{σ:St}{H:Hp}{s:Shared}{fp:List Addr}(I:Inv X pins σ H s)(hf:∀b∈fp,FpOk X pins H b)(ho:∀b∈fp,∃o,s.heap.get? b=some o/\∀v,o.data≠.cell v):Inv X (pins++z1g fp s.heap) σ H s:=
 I.pins_of fun p hp=>(List.mem_append.mp hp).elim (fun z=>I.pin p (List.mem_append_right _ z)) fun z=>by
  obtain⟨hb,e⟩:=z3s z
  obtain⟨f0,f1,f2,_⟩:=hf p.1 hb
  obtain⟨o,e',d⟩:=ho p.1 hb
  rw[e]at e';cases e'
  exact⟨e,f0,f1,f2,d⟩
theorem Inv.unpinned{pins pl:List (Addr×Obj)}{σ:St}{H:Hp}{s:Shared}(I:Inv X (pins++pl) σ H s):Inv X pins σ H s:=I.pins_of fun p hp=>I.pin p (List.mem_append_right _ (List.mem_append_left _ hp))
theorem x5l{iter:Expr}{body:List Stmt}{wi:TI}{g:TG}{tb:TS}{pos:Pos}(hp:PassesOwn (model X.prog X.w) X.A X.env X.xe)(hc:X.calm=true)(hi:PI X tg iter wi)(hg:PG X tg g)(hb:PSs X body tb)
  (hs:∀x,foldedSetIterable iter X.env x=pure x:=by intro _;rfl):PS X (.For tg iter body [] pos) (tFor wi g tb):=by
 intro pins s σ H D I h
 refine wpAny_For (thn (hi pins s σ H _ I h) fun v s1 h1=>thn h1 fun itv s2 h2=>?_) hs
 obtain⟨it,fp,tn,J,H2,e,I2,T,st2,f2,W,⟨m0,w0⟩,turn⟩:=h2
 subst e
 have stat:∀{H':Hp},(∀b∈fp,H' b=none)->∀b∈fp,FpOk X pins H' b:=fun hn b hb=>⟨hn b hb,(f2 b hb).2⟩
 refine codeAny_forLoop_any (fun n s'=>∃i σ' H',Inv X pins σ' H' s'/\tn i s'.heap/\(∀b∈fp,H' b=none)/\W i n σ' H') ?_ m0 ⟨0,σ,H2,I2,st2,fun b hb=>(f2 b hb).1,w0⟩
 rintro n s3 ⟨i,σ3,H3,I3,st3,fr3,w3⟩
 rcases turn i n σ3 H3 w3 with⟨stop,qn⟩|⟨go,N,hN,step⟩
 ·refine wpAny_passesOwn hp (thn (T.done X rfl rfl rfl hc i pins s3 σ3 H3 X.xe I3 (stat fr3) st3 stop) fun r s4 hh1=>?_)
  obtain⟨hr,I4⟩:=hh1
  subst hr
  exact wpAny_execs_nil ⟨σ3,H3,I4,qn⟩
 ·refine wpAny_passesOwn hp (thn (T.item X rfl rfl rfl hc i pins s3 σ3 H3 X.xe I3 (stat fr3) st3 go) fun r s4 hh2=>?_)
  obtain⟨u,hr,h4⟩:=hh2
  subst hr
  refine wpAny_passesOwn hp (thn h4 fun _ s5 hh3=>?_)
  obtain⟨x,H5,I5,r5,y5,st5,fr5⟩:=hh3
  have I5':=I5.pinned (stat fr5) (T.obj _ _ st5)
  refine wpAny_passesOwn hp (thn (hg _ s5 σ3 H5 x u _ I5' r5 (step x H5 y5)) fun _ s6 hh4=>?_)
  obtain⟨σ6,H6,I6,q6⟩:=hh4
  refine wpAny_passesOwn hp (thn (hb _ s6 σ6 H6 _ I6 q6) fun f s7 q7=>?_)
  have again:∀{σ7:St}{H7:Hp},Inv X (pins++z1g fp s5.heap) σ7 H7 s7->N σ7 H7->∃m,m<n/\∃i σ' H',Inv X pins σ' H' s7/\tn i s7.heap/\(∀b∈fp,H' b=none)/\W i m σ' H':=fun {σ7 H7} I7 n7=>by
   obtain⟨m',hm,w7⟩:=hN σ7 H7 n7
   refine⟨m',hm,i+1,σ7,H7,I7.unpinned,T.keep _ _ _ st5 fun b hb o e=>(I7.pin (b,o) (List.mem_append_right _ (List.mem_append_right _ (q3k hb e)))).1,fun b hb=>?_,w7⟩
   obtain⟨o,e,d⟩:=T.obj _ _ st5 b hb
   exact(I7.pin (b,o) (List.mem_append_right _ (List.mem_append_right _ (q3k hb e)))).2.1
  cases f with
  |next=>obtain⟨σ7,H7,I7,n7⟩:=q7;exact again I7 n7
  |cont=>obtain⟨σ7,H7,I7,n7⟩:=q7;exact again I7 n7
  |brk=>obtain⟨σ7,H7,I7,q7⟩:=q7;exact⟨σ7,H7,I7.unpinned,q7⟩
  |ret v=>obtain⟨x7,σ7,H7,I7,r7,q7⟩:=q7;exact⟨x7,σ7,H7,I7.unpinned,r7,q7⟩
end
abbrev R2:=V->V->Hp->VK->Prop
def OpR(X:Cx)(f:Value->Value->Sem Value)(r:R2):Prop:=
 ∀(pins:List (Addr×Obj))(s:Shared)(σ:St)(H:Hp)(x y:V)(v u:Value)(Q:VK),Inv X pins σ H s->RelV x v->RelV y u->r x y H Q->
  wpAny (model X.prog X.w) X.A (f v u) (EP X pins σ Q) X.xe s
def UnR(X:Cx)(f:Value->Sem Value)(r:V->Hp->VK->Prop):Prop:=
 ∀(pins:List (Addr×Obj))(s:Shared)(σ:St)(H:Hp)(x:V)(v:Value)(Q:VK),Inv X pins σ H s->RelV x v->r x H Q->
  wpAny (model X.prog X.w) X.A (f v) (EP X pins σ Q) X.xe s
def q6k(X:Cx)(f:Value)(r:List V->Hp->VK->Prop):Prop:=
 ∀(pins:List (Addr×Obj))(s:Shared)(σ:St)(H:Hp)(xs:List V)(us:List Value)(Q:VK),Inv X pins σ H s->Vals xs us->r xs H Q->
  wpAny (model X.prog X.w) X.A (call f us) (EP X pins σ Q) X.xe s
def TruR(X:Cx)(r:V->Hp->(Bool->Hp->Prop)->Prop):Prop:=
 ∀(pins:List (Addr×Obj))(s:Shared)(σ:St)(H:Hp)(x:V)(v:Value)(Q:Bool->Hp->Prop),Inv X pins σ H s->RelV x v->r x H Q->
  wpAny (model X.prog X.w) X.A (truthy v) (TP X pins σ Q) X.xe s
def tOp(r:R2)(ta tb:TE):TE:=fun σ H Q=>ta σ H fun x H1=>tb σ H1 fun y H2=>r x y H2 Q
def tUn(r:V->Hp->VK->Prop)(ta:TE):TE:=fun σ H Q=>ta σ H fun x H1=>r x H1 Q
def rI(C:Int->Int->Prop)(g:Int->Int->V):R2:=fun x y H Q=>∃i j,x=.int i/\y=.int j/\C i j/\Q (g i j) H
def rI0(g:Int->Int->V):R2:=fun x y H Q=>∃i j,x=.int i/\y=.int j/\Q (g i j) H
def rU(g:Int->V):V->Hp->VK->Prop:=fun x H Q=>∃i,x=.int i/\Q (g i) H
section
variable{X:Cx}{a b c:Expr}{ta tb tc:TE}{pos:Pos}
theorem binT(ha:PE X a ta)(hb:PE X b tb){pins:List (Addr×Obj)}{s:Shared}{σ:St}{H:Hp}{R:V->V->Hp->Prop}(I:Inv X pins σ H s)
  (h:ta σ H fun x H1=>tb σ H1 fun y H2=>R x y H2) {Q:Value->Shared->Prop} {f:Value->Value->Sem Value}
  (hf:∀v u s2 x y H2,Inv X pins σ H2 s2->RelV x v->RelV y u->R x y H2->wpAny (model X.prog X.w) X.A (f v u) Q X.xe s2) :
  wpAny (model X.prog X.w) X.A (eval a X.env) (fun v s₁=>wpAny (model X.prog X.w) X.A (eval b X.env) (fun u s₂=>wpAny (model X.prog X.w) X.A (f v u) Q X.xe s₂) X.xe s₁) X.xe s:=by
 refine thn (ha pins s σ H _ I h) fun v s1 hh1=>?_
 obtain⟨x,H1,I1,r1,q1⟩:=hh1
 refine thn (hb pins s1 σ H1 _ I1 q1) fun u s2 hh2=>?_
 obtain⟨y,H2,I2,r2,q2⟩:=hh2
 exact hf v u s2 x y H2 I2 r1 r2 q2
theorem x9w{op:Operator}{r:R2}(ho:OpR X (binaryOp op) r)(ha:PE X a ta)(hb:PE X b tb):PE X (.BinOp a op b pos) (tOp r ta tb):=by
 intro pins s σ H Q I h
 exact wpAny_BinOp (binT ha hb I h fun v u s2 x y H2 I2 rx ry q=>ho pins s2 σ H2 x y v u Q I2 rx ry q)
theorem x9v{op:UnaryOp}{r:V->Hp->VK->Prop}(ho:UnR X (unaryOp op) r)(ha:PE X a ta):PE X (.UnaryOp op a pos) (tUn r ta):=by
 intro pins s σ H Q I h
 exact UnaryOp_ (thn (ha pins s σ H _ I h) fun v s1 hh1=>by obtain⟨x,H1,I1,r1,q1⟩:=hh1;exact(ho pins s1 σ H1 x v Q I1 r1 q1))
theorem opI{f:Value->Value->Sem Value}{C:Int->Int->Prop}{g:Int->Int->Int}
  (rule:∀(i j:Int)(t u:Tok)(s:Shared)(Q:Value->Shared->Prop)(E:Value->Shared->Prop),C i j->Q (.int (g i j) s.toks) {s with toks:=s.toks+1}->wpAny (model X.prog X.w) X.A (f (.int i t) (.int j u)) Q E s) :
  OpR X f (rI C fun i j=>.int (g i j)):=by
 intro pins s σ H x y v u Q I rx ry h
 obtain⟨i,j,rfl,rfl,hc,q⟩:=h
 obtain⟨t,rfl⟩:=rx
 obtain⟨t',rfl⟩:=ry
 exact rule i j t t' s _ _ hc ⟨.int (g i j),H,I.tok _,⟨_,rfl⟩,q⟩
theorem opI0{f:Value->Value->Sem Value}{g:Int->Int->Int}
  (rule:∀(i j:Int)(t u:Tok)(s:Shared)(Q:Value->Shared->Prop)(E:Value->Shared->Prop),Q (.int (g i j) s.toks) {s with toks:=s.toks+1}->wpAny (model X.prog X.w) X.A (f (.int i t) (.int j u)) Q E s) :
  OpR X f (rI0 fun i j=>.int (g i j)):=by
 intro pins s σ H x y v u Q I rx ry h
 obtain⟨i,j,rfl,rfl,q⟩:=h
 obtain⟨t,rfl⟩:=rx
 obtain⟨t',rfl⟩:=ry
 exact rule i j t t' s _ _ ⟨.int (g i j),H,I.tok _,⟨_,rfl⟩,q⟩
theorem opB0{f:Value->Value->Sem Value}{g:Int->Int->Bool}
  (rule:∀(i j:Int)(t u:Tok)(s:Shared)(Q:Value->Shared->Prop)(E:Value->Shared->Prop),Q (.bool (g i j)) s->wpAny (model X.prog X.w) X.A (f (.int i t) (.int j u)) Q E s) :
  OpR X f (rI0 fun i j=>.bl (g i j)):=by
 intro pins s σ H x y v u Q I rx ry h
 obtain⟨i,j,rfl,rfl,q⟩:=h
 obtain⟨t,rfl⟩:=rx
 obtain⟨t',rfl⟩:=ry
 exact rule i j t t' s _ _ ⟨.bl (g i j),H,I,rfl,q⟩
def CPow(i j:Int):Prop:=0<=j/\j<=1000000/\i.natAbs<2 ^ 64
def CMul(i j:Int):Prop:=(-(2 ^ 64)<i/\i<2 ^ 64)\/(-(2 ^ 64)<j/\j<2 ^ 64)
theorem CMul.ok{i j:Int}(h:CMul i j):IntMulOk i j:=by
 rcases h with⟨h1,h2⟩|⟨h1,h2⟩
 ·exact .of_left (intBits_le_64 h1 h2)
 ·exact .of_right (intBits_le_64 h1 h2)
theorem x6u:OpR X (binaryOp .Add) (rI0 fun i j=>.int (i+j)):=opI0 fun _ _ _ _ _ _ _ q=>add_int q
theorem x6n:OpR X (binaryOp .Sub) (rI0 fun i j=>.int (i-j)):=opI0 fun _ _ _ _ _ _ _ q=>sub_int q
theorem x6q:OpR X (binaryOp .Mult) (rI CMul fun i j=>.int (i*j)):=opI fun _ _ _ _ _ _ _ hc q=>mul_int q hc.ok
theorem x6r:OpR X (binaryOp .Mod) (rI (fun _ j=>0<j) fun i j=>.int (i % j)):=opI fun i j _ _ _ _ _ hc q=>by
 have h1:(0:Int)<j:=hc
 exact mod_int' (by omega) (by rw[Int.fmod_eq_emod_of_nonneg i (by omega)];exact q)
theorem x6p:OpR X (binaryOp .Pow) (rI CPow fun i j=>.int (i ^ j.toNat)):=opI fun _ _ _ _ _ _ _ hc q=>pow_int_small hc.1 hc.2.1 hc.2.2 q
theorem unI{f:Value->Sem Value}{g:Int->Int}
  (rule:∀(i:Int)(t:Tok)(s:Shared)(Q:Value->Shared->Prop)(E:Value->Shared->Prop),Q (.int (g i) s.toks) {s with toks:=s.toks+1}->wpAny (model X.prog X.w) X.A (f (.int i t)) Q E s) :
  UnR X f (rU fun i=>.int (g i)):=by
 intro pins s σ H x v Q I rx h
 obtain⟨i,rfl,q⟩:=h
 obtain⟨t,rfl⟩:=rx
 exact rule i t s _ _ ⟨.int (g i),H,I.tok _,⟨_,rfl⟩,q⟩
theorem x4c:UnR X (unaryOp .USub) (rU fun i=>.int (-i)):=unI fun _ _ _ _ _ q=>neg_int q
end
section
variable{X:Cx}{a b c:Expr}{ta tb tc:TE}{pos:Pos}
theorem y3h{pins:List (Addr×Obj)}{σ:St}{H:Hp}{s:Shared}{Q:VK}{k k':Bool}(I:Inv X pins σ H s)(q:Q (.bl k) H)(e:k=k'):EP X pins σ Q (.bool k') s:=by
 subst e
 exact⟨.bl k,H,I,rfl,q⟩
theorem w0b:OpR X (compareOp .Lt) (rI0 fun i j=>.bl (decide (i<j))):=opB0 fun _ _ _ _ _ _ _ q=>lt_int q
theorem w0c:OpR X (compareOp .Gt) (rI0 fun i j=>.bl (decide (j<i))):=opB0 fun _ _ _ _ _ _ _ q=>gt_int q
theorem w0d:OpR X (compareOp .GtE) (rI0 fun i j=>.bl (decide (j<=i))):=opB0 fun _ _ _ _ _ _ _ q=>ge_int q
theorem y2a:OpR X (compareOp .In) (fun x y H Q=>∃i j,x=.str i/\y=.str j/\Q (.bl (!(Builtin.Str.occurrences j i 0 j.length 1).isEmpty)) H):=by
 intro pins s σ H x y v u Q I rx ry h
 obtain⟨i,j,rfl,rfl,q⟩:=h
 obtain⟨t,rfl⟩:=rx
 obtain⟨t',rfl⟩:=ry
 exact in_str (y3h I q rfl)
theorem x6s : OpR X (compareOp .Is) (fun x y H Q => y = .non /\ Q (.bl (decide (x = .non))) H) := by
 intro pins s σ H x y v u Q I rx ry h
 obtain ⟨rfl, q⟩ := h
 cases ry
 refine is_none_gen (y3h I q ?_)
 cases x <;> first
  | (cases rx; rfl)
  | (obtain ⟨t, rfl⟩ := rx; rfl)
theorem x1u : OpR X (compareOp .IsNot) (fun x y H Q => y = .non /\ Q (.bl (!decide (x = .non))) H) := by
 intro pins s σ H x y v u Q I rx ry h
 obtain ⟨rfl, q⟩ := h
 cases ry
 refine isnot_none_gen (y3h I q ?_)
 cases x <;> first
  | (cases rx; rfl)
  | (obtain ⟨t, rfl⟩ := rx; rfl)
theorem q0u(b:Expr){op:CmpOp}(h:op≠.In:=by decide)(h2:op≠.NotIn:=by decide):behindInMarks op b=false:=by
 have e1:(op==CmpOp.In)=false:=by cases op<;>first|rfl|exact absurd rfl h
 have e2:(op==CmpOp.NotIn)=false:=by cases op<;>first|rfl|exact absurd rfl h2
 cases b<;>simp[behindInMarks,e1,e2]
theorem x1o{op:CmpOp}{r:R2}(ho:OpR X (compareOp op) r)(ha:PE X a ta)(hb:PE X b tb)(hm:behindInMarks op b=false):PE X (.Compare a [op] [b] pos) (tOp r ta tb):=by
 intro pins s σ H Q I h
 exact wpAny_Compare1 (binT ha hb I h fun v u s2 x y H2 I2 rx ry q=>ho pins s2 σ H2 x y v u Q I2 rx ry q) hm
def x4n(t:TE):TT:=fun σ H Q=>t σ H fun x H'=>∃k,x=.bl k/\Q k H'
theorem x1a{op:CmpOp}{r:R2}(ho:OpR X (compareOp op) r)(ha:PE X a ta)(hb:PE X b tb)(hm:behindInMarks op b=false):PT X (.Compare a [op] [b] pos) (x4n (tOp r ta tb)):=by
 intro pins s σ H Q I h
 refine wpAny_isTrue_Compare1 (thn (ha pins s σ H _ I h) fun v s1 ⟨x,H1,I1,r1,q1⟩=>thn (hb pins s1 σ H1 _ I1 q1) fun u s2 ⟨y,H2,I2,r2,q2⟩=>
  thn (ho pins s2 σ H2 x y v u _ I2 r1 r2 q2) fun c s3 ⟨z,H3,I3,r3,k,e,q3⟩=>?_) hm
 subst e
 cases r3
 exact wpAny_truthy_bool ⟨H3,I3,q3⟩
def TruV(K:Frag)(x:V)(H:Hp)(k:Bool):Prop:=
 match x with
 |.non=>k=false
 |.bl b=>k=b
 |.int i=>k=(i != 0)
 |.str y=>y.length<=sizeLine/\k=((y.length:Int) != 0)
 |.byt y=>y.size<=sizeLine/\k=((y.size:Int) != 0)
 |.ref p=>(∃xs,SqL K H p xs/\k=!xs.isEmpty)\/(∃xs,SqT K H p xs/\k=!xs.isEmpty)\/∃kvs,H p=some (.dK kvs)/\k=!kvs.isEmpty
 |_=>False
theorem z9p{κ:Type}{kvs:List (κ×V)}{vs:List (κ×Value)}(r:KV kvs vs):(!vs.isEmpty)=!kvs.isEmpty:=by
 cases r<;>rfl
theorem z1n{xs:List V}{its:List Value}(r:Vals xs its):(!its.toArray.isEmpty)=!xs.isEmpty:=by
 cases r<;>simp
theorem z0n:(sizeLine:Nat)<2 ^ 63:=by rw[sizeLine_eq];decide
theorem x4e:TruR X (fun x H Q=>∃k,TruV X.K x H k/\Q k H):=by
 intro pins s σ H x v Q I rx h
 obtain⟨k,e,q⟩:=h
 have hl:=z0n
 have hs:sizeLine=16777216:=sizeLine_eq
 cases x with
 |non=>
  cases rx
  have e':k=false:=e
  subst e'
  exact truthy_none ⟨H,I,q⟩
 |bl b=>
  cases rx
  have e':k=b:=e
  subst e'
  exact wpAny_truthy_bool ⟨H,I,q⟩
 |int i=>
  obtain⟨t,rfl⟩:=rx
  have e':k=(i != 0):=e
  subst e'
  exact PySem.P.truthy_int ⟨H,I,q⟩
 |str y=>
  obtain⟨t,rfl⟩:=rx
  obtain⟨hy,e'⟩:y.length<=sizeLine/\k=((y.length:Int) != 0):=e
  subst e'
  exact PySem.P.truthy_str (by omega) ⟨H,I.tok _,q⟩
 |byt y=>
  obtain⟨t,rfl⟩:=rx
  obtain⟨hy,e'⟩:y.size<=sizeLine/\k=((y.size:Int) != 0):=e
  subst e'
  exact PySem.W.truthy_bytes (by omega) ⟨H,I.tok _,q⟩
 |ref p=>
  cases rx
  have e':(∃xs,SqL X.K H p xs/\k=!xs.isEmpty)\/(∃xs,SqT X.K H p xs/\k=!xs.isEmpty)\/∃kvs,H p=some (.dK kvs)/\k=!kvs.isEmpty:=e
  rcases e' with⟨xs,hx,e'⟩|⟨xs,hx,e'⟩|⟨kvs,hx,e'⟩
  ·subst e'
   obtain⟨its,r,pl,hz⟩:=I.list hx
   have hlen:=r.length
   exact wpAny_truthy_list pl.isList (by simp only[List.size_toArray];omega) ⟨H,I.tok _,by rw[z1n r];exact q⟩
  ·subst e'
   obtain⟨its,r,pl,hz⟩:=I.tuple hx
   have hlen:=r.length
   exact truthy_tuple pl (by simp only[List.size_toArray];omega) ⟨H,I.tok _,by rw[z1n r];exact q⟩
  ·subst e'
   obtain⟨hz,hS,vs,r,m⟩:kvs.length<=sizeLine/\(p==sysModules)=false/\∃vs,KV kvs vs/\s.heap.DictOf (q2a X.prog X.w) p vs:=I.hok p _ hx
   have hlen:kvs.length=vs.length:=Paired.length r
   exact wpAny_truthy_dict hS m (by omega) ⟨H,I.tok _,by rw[z9p r];exact q⟩
 |_=>exact(show False from e).elim
theorem y6b(ha:PE X a ta)(he:∀whole,isTrue a X.env whole=(do let v <-whole;standAt a.pos;holding [v] (truthy v))) :
  PT X a (fun σ H Q=>ta σ H fun x H'=>∃k,TruV X.K x H' k/\Q k H'):=by
 intro pins s σ H Q I h
 exact isTrue_plain (thn (ha pins s σ H _ I h) fun v s1 hh1=>by obtain⟨x,H1,I1,r1,q1⟩:=hh1;exact(x4e pins s1 σ H1 x v Q I1 r1 q1)) (he _)
theorem z9e:OpR X (binaryOp .Add) (fun x y H Q=>∃i j,x=.str i/\y=.str j/\i.length+j.length<=sizeLine/\Q (.str (i++j)) H):=by
 intro pins s σ H x y v u Q I rx ry h
 obtain⟨i,j,rfl,rfl,hz,q⟩:=h
 obtain⟨t,rfl⟩:=rx
 obtain⟨t',rfl⟩:=ry
 exact add_str (fun t' tk=>⟨.str (i++j),H,I.tok _,⟨_,rfl⟩,q⟩) hz
theorem z6p:OpR X (inplaceOp .Add) (fun x y H Q=>∃i j,x=.str i/\y=.str j/\i.length+j.length<=sizeLine/\Q (.str (i++j)) H):=by
 intro pins s σ H x y v u Q I rx ry h
 obtain⟨i,j,rfl,rfl,hz,q⟩:=h
 obtain⟨t,rfl⟩:=rx
 obtain⟨t',rfl⟩:=ry
 exact iadd_str (fun t' tk=>⟨.str (i++j),H,I.tok _,⟨_,rfl⟩,q⟩) hz
theorem z3h{x:V}{us:List Value}(r:Vals [x] us):∃u,us=[u]/\RelV x u:=by
 cases r with
 |cons r1 r2=>cases r2;exact⟨_,rfl,r1⟩
theorem x0e{x y:V}{us:List Value}(r:Vals [x,y] us):∃u w',us=[u,w']/\RelV x u/\RelV y w':=by
 cases r with
 |cons r1 r2=>
  cases r2 with
  |cons r3 r4=>cases r4;exact⟨_,_,rfl,r1,r3⟩
theorem z4w:q6k X (.type "int") (fun xs H Q=>(∃i,xs=[.int i]/\Q (.int i) H)\/∃k,xs=[.bl k]/\Q (.int (if k then 1 else 0)) H):=by
 intro pins s σ H xs us Q I r h
 rcases h with⟨i,rfl,q⟩|⟨k,rfl,q⟩
 ·obtain⟨u,rfl,t,rfl⟩:=z3h r
  exact call_int_int ⟨.int i,H,I,⟨_,rfl⟩,q⟩
 ·obtain⟨u,rfl,r1⟩:=z3h r
  cases r1
  exact call_int_bool ⟨.int (if k then 1 else 0),H,I.tok _,⟨_,rfl⟩,q⟩
end
structure ObjM(h:Heap)(x dx C:Addr)(mA:Str->Option Value):Prop where
 obj:h.get? x=some (PySem.W.instObj C dx)
 ns:h.Ns1 dx mA
 ne:dx≠x
theorem y2k{h:Heap}{dx:Addr}{mA:Str->Option Value}(n:h.Ns1 dx mA):∃od,h.get? dx=some od/\∀name,PySem.W.lookIn name od=some (mA name):=by
 obtain⟨o,es,ep,ho,hd,hk,_,hm⟩:=n
 refine⟨o,ho,fun name=>?_⟩
 have e:=hm name
 unfold nsFind findBy at e
 rw[<-Array.find?_toList]at e
 unfold PySem.W.lookIn
 rw[hd]
 dsimp only
 split
 ·rename_i y q
  rw[q]at e
  exact congrArg some e
 ·rename_i q
  rw[q]at e
  have a:es.toList.any (·.refKey)=false:=by
   rw[List.any_eq_false]
   intro y hy
   obtain⟨z,t,hkey⟩:=hk y (Array.mem_toList_iff.mp hy)
   simp[DictEntry.refKey,hkey]
  have a':¬es.toList.any (·.refKey)=true:=by rw[a];exact Bool.false_ne_true
  rw[if_neg a']
  exact congrArg some e
theorem ObjM.look{h:Heap}{x dx C:Addr}{mA:Str->Option Value}(I:ObjM h x dx C mA):∃od,PySem.W.InstAt h x (PySem.W.instObj C dx) C (some od)/\∀name,PySem.W.lookIn name od=some (mA name):=
 let ⟨od,ho,hl⟩:=y2k I.ns
 ⟨od,⟨I.obj,rfl,rfl,ho⟩,hl⟩
section
variable{prog:Program}{w:World}{A:Around}{E:Value->Shared->Prop}{s:Shared}{K:Frag}{x dx C f:Addr}{mA:Str->Option Value}{name:Str}{v:Value}
end
theorem RelO.some_of{v:V}{o:Option Value}(r:RelO (some v) o):∃u,o=some u/\RelV v u:=by
 cases o with
 |none=>exact(show False from r).elim
 |some u=>exact⟨u,rfl,r⟩
section
variable{P:Program}{w:World}{H H':Hp}{h h':Heap}{a C dx:Addr}{fs fs':List (Str×V)}
theorem x3c(hok:HOk P w H h)(e:H a=some (.ins C dx fs)):∃mA,ObjM h a dx C mA/\(∀f,RelO (fs.lookup f) (mA f))/\PySem.Within mA (fs.map (·.1))/\fs.length<=1000/\H dx=some (.own a):=by
 obtain⟨d,z,ne,ob,mA,n,r,q⟩:=(show q2y P w H h a (.ins C dx fs)from hok a _ e)
 exact⟨mA,⟨ob,n,ne⟩,r,q,z,d⟩
end
structure Cls(K:Frag)(C:Addr):Prop where
 pg:PySem.W.plainGet K C Str.empty=true
 hd:PySem.W.hasDictIn K C=true
 po:PySem.W.plainOver K C=true
 sa:PySem.W.findIn K (.ref C) "__setattr__" = some (some (.builtin "object.__setattr__"))
theorem Cls.get{K:Frag}{C:Addr}(c:Cls K C)(f:Str):PySem.W.plainGet K C f=true:=c.pg
structure Con(K:Frag)(C:Addr)(f:Str)(v:V)(u:Value):Prop where
 at_:PySem.W.findIn K (.ref C) f=some (some u)
 rel:RelV v u
 get:PySem.W.specialIn K u "__get__" = some none
 cp:PySem.W.copiedNames.contains f=false
structure Meth(K:Frag)(C:Addr)(m:Str)(f:Addr):Prop where
 at_:PySem.W.findIn K (.ref C) m=some (some (.ref f))
 fn:PySem.W.isFn K (.ref f)=true
 kp:PySem.W.keepIn K (.ref f)=true
section
variable{X:Cx}{pins:List (Addr×Obj)}{σ:St}{H:Hp}{s:Shared}{a C dx:Addr}{fs:List (Str×V)}{f:Str}{v:V}{A:Around}{E:Value->Shared->Prop}
end
section
variable{X:Cx}{o e value:Expr}{f:Str}{pos pos' tpos:Pos}{ta tv:TE}
end
section
variable{X:Cx}{pins:List (Addr×Obj)}{σ:St}{H:Hp}{s:Shared}{A:Around}{E:Value->Shared->Prop}{Q:Value->Shared->Prop}{c:Value}{b:Bool}
inductive TyOf(K:Frag)(H:Hp):V->Value->Prop where
 |non:TyOf K H .non (.type "NoneType")
 |bl (x:Bool):TyOf K H (.bl x) (.type "bool")
 |int (i:Int):TyOf K H (.int i) (.type "int")
 |str (x:Str):TyOf K H (.str x) (.type "str")
 |flt (x:UInt64):TyOf K H (.flt x) (.type "float")
 |lst {a:Addr} {xs:List V} (e:H a=some (.lst xs)):TyOf K H (.ref a) (.type "list")
 |frz {a:Addr} {o:Obj} {xs:List V} (e:H a=some (.frz o (.lst xs))):TyOf K H (.ref a) (.type "list")
 |tup {a:Addr} {xs:List V} (e:H a=some (.tup xs)):TyOf K H (.ref a) (.type "tuple")
 |dK {a:Addr} {kvs:List (Key×V)} (e:H a=some (.dK kvs)):TyOf K H (.ref a) (.type "dict")
 |dT {a:Addr} {kvs:List (List Key×V)} (e:H a=some (.dT kvs)):TyOf K H (.ref a) (.type "dict")
 |ins {a C dx:Addr} {fs:List (Str×V)} (e:H a=some (.ins C dx fs)) (cl:Cls K C) (ha:PySem.W.findIn K (.ref C) "__class__" = some (some (.builtin "object.__class__")))
   (hn:PySem.W.specialIn K (.builtin "object.__class__") "__get__" = some (some (.builtin "getset_descriptor.__get__"))) (htk:PySem.W.takesIn K (.builtin "object.__class__")=some true)
   (hm:PySem.W.mroIn K C (.type "object")=some true):TyOf K H (.ref a) (.ref C)
theorem z4i{x:V}{u t:Value}(I:Inv X pins σ H s)(rx:RelV x u)(ty:TyOf X.K H x t)(e:PySem.W.kitOne X.K t c=some b)(h:∀tk,Q (.bool b) {s with toks:=tk}) :
  wpAny (model X.prog X.w) A (call (.builtin "isinstance") [u,c]) Q E s:=by
 cases ty with
 |non=>cases(show u=Value.none from rx);exact PySem.W.kia_one PySem.W.kitx_none I.kIn True.intro e (fun z=>nomatch z) h
 |bl y=>cases(show u=Value.bool y from rx);exact PySem.W.kia_one PySem.W.kitx_bool I.kIn True.intro e (fun z=>nomatch z) h
 |int i=>obtain⟨t,q⟩:=(show ∃t,u=Value.int i t from rx);cases q;exact PySem.W.kia_one PySem.W.kitx_int I.kIn True.intro e (fun z=>nomatch z) h
 |str y=>obtain⟨t,q⟩:=(show ∃t,u=Value.str y t from rx);cases q;exact PySem.W.kia_one PySem.W.kitx_str I.kIn True.intro e (fun z=>nomatch z) h
 |flt y=>obtain⟨t,q⟩:=(show ∃t,u=Value.float y t from rx);cases q;exact PySem.W.kia_one PySem.W.kitx_float I.kIn True.intro e (fun z=>nomatch z) h
 |@lst a xs ea=>
  cases(show u=Value.ref a from rx)
  obtain⟨_,_,n,_,h1⟩:=(show q2y X.prog X.w H s.heap a (.lst xs)from I.hok a _ ea)
  exact PySem.W.kia_one PySem.W.kitx_list I.kIn ⟨_,h1,rfl⟩ e (fun z=>nomatch z) h
 |@frz a ob xs ea=>
  cases(show u=Value.ref a from rx)
  obtain⟨_,_,_,n,_,h1⟩:=(show q2y X.prog X.w H s.heap a (.frz ob (.lst xs))from I.hok a _ ea)
  exact PySem.W.kia_one PySem.W.kitx_list I.kIn ⟨_,h1,rfl⟩ e (fun z=>nomatch z) h
 |@tup a xs ea=>
  cases(show u=Value.ref a from rx)
  obtain⟨_,_,_,p⟩:=(show q2y X.prog X.w H s.heap a (.tup xs)from I.hok a _ ea)
  obtain⟨o,h1,h2,_⟩:=p
  exact PySem.W.kia_one PySem.W.kitx_tuple I.kIn ⟨o,h1,h2⟩ e (fun z=>nomatch z) h
 |@dK a kvs ea=>
  cases(show u=Value.ref a from rx)
  obtain⟨_,_,vs,_,p⟩:=(show q2y X.prog X.w H s.heap a (.dK kvs)from I.hok a _ ea)
  obtain⟨o,es,ep,h1,h2,_⟩:=p
  exact PySem.W.kia_one PySem.W.kitx_dict I.kIn ⟨o,h1,h2.1⟩ e (fun z=>nomatch z) h
 |@dT a kvs ea=>
  cases(show u=Value.ref a from rx)
  obtain⟨_,_,xs,_,o,es,ep,h1,h2,_⟩:=(show q2y X.prog X.w H s.heap a (.dT kvs)from I.hok a _ ea)
  exact PySem.W.kia_one PySem.W.kitx_dict I.kIn ⟨o,h1,h2.1⟩ e (fun z=>nomatch z) h
 |@ins a C dx fs ea cl ha hn htk hm=>
  cases(show u=Value.ref a from rx)
  obtain⟨mA,O,_⟩:=x3c I.hok ea
  obtain⟨od,J,_⟩:=O.look
  exact PySem.W.kia_one (PySem.W.kitx_own (cl.get _) cl.hd ha hn htk hm) I.kIn J e (fun z=>nomatch z) h
end
structure Room(k:Nat)(A:Around):Prop where
 hd:A.handled=none
 dp:A.depth+3*k+5<recursionLimit
 un:A.units+16*k+200<cLine
theorem Room.mono{j k:Nat}{A:Around}(r:Room k A)(h:j<=k):Room j A:=⟨r.hd,by have:=r.dp;omega,by have:=r.un;omega⟩
theorem Room.deeper{k:Nat}{A:Around}(r:Room (k+1) A)(env:Env):Room k (A.deeper env):=
 ⟨r.hd,by have:=r.dp;show A.depth+1+3*k+5<_;omega,by have:=r.un;show A.units+3+16*k+200<_;omega⟩
structure RoomW(k:Nat)(A:Around):Prop extends Room k A where
 wd:A.units+16*k+210<cLine
theorem Room.deeperW{k:Nat}{A:Around}(r:Room (k+1) A)(env:Env):RoomW k (A.deeper env):=⟨r.deeper env,by have:=r.un;show A.units+3+16*k+210<_;omega⟩
theorem RoomW.in2{k:Nat}{A:Around}(r:RoomW k A):Room k A.in1.in1:=⟨r.hd,by have:=r.dp;show A.depth+3*k+5<_;omega,by have:=r.wd;show A.units+1+1+16*k+200<_;omega⟩
theorem Room.depth{k:Nat}{A:Around}(r:Room k A):A.depth<recursionLimit:=by have:=r.dp;omega
def tNil:TA:=fun _ H Q=>Q [] H
def x4q(ta:TE)(tr:TA):TA:=fun σ H Q=>ta σ H fun x H1=>tr σ H1 fun xs H2=>Q (x::xs) H2
section
variable{X:Cx}{e:Expr}{es:List Expr}{te:TE}{t:TA}{pos:Pos}
theorem y1v:PA X [] tNil:=fun _ _ _ _ H Q I h=>Calls.spliced_nil ⟨[],H,I,.nil,h⟩
theorem z5v(ha:PE X e te)(hr:PA X es t)(hs:starEach (e::es) X.env=(false,eval e X.env)::starEach es X.env:=by rfl):PA X (e::es) (x4q te t):=by
 intro pos pins s σ H Q I h
 rw[hs]
 show wpAny _ _ (spliced ((false,eval e X.env)::backTo pos (starEach es X.env))) _ _ s
 refine Calls.spliced_cons (thn (ha pins s σ H _ I h) fun u s1 hh1=>?_)
 obtain⟨x,H1,I1,r1,q1⟩:=hh1
 exact thn (hr pos pins s1 σ H1 _ I1 q1) fun us s2 hh2=>by obtain⟨xs,H2,I2,r2,q2⟩:=hh2;exact(⟨x::xs,H2,I2,.cons r1 r2,q2⟩)
def tTup(t:TA):TE:=fun σ H Q=>t σ H fun xs H1=>xs.length<=sizeLine/\∀p,H1 p=none->Q (.ref p) (upd H1 p (.tup xs))
def tLst(t:TA):TE:=fun σ H Q=>t σ H fun xs H1=>xs.length<=sizeLine/\∀p,H1 p=none->Q (.ref p) (upd H1 p (.lst xs))
theorem x6a {x1} (h:PA X es t):PE X (.Tuple es x1 pos) (tTup t):=by
 intro pins s σ H Q I hq
 refine wpAny_Tuple_spliced (thn (h pos pins s σ H _ I hq) fun us s1 ⟨xs,H1,I1,r,z,q⟩=>⟨by rw[<-r.length];exact z,?_⟩)
 have hf:H1 s1.heap.objs.size=none:=I1.hok.fresh (Nat.le_refl _)
 refine⟨.ref s1.heap.objs.size,upd H1 s1.heap.objs.size (.tup xs),I1.laid (t':=s1.toks) (fun b u e=>Heap.get?_push_of_some _ e) (Nat.le_refl _) ?_,rfl,q _ hf⟩
 exact⟨z,us,r,⟨_,Heap.get?_push_size _ rfl,rfl,_,rfl⟩⟩
theorem x6e(h:PA X es t):PE X (.List es pos) (tLst t):=by
 intro pins s σ H Q I hq
 refine wpAny_List_spliced (thn (h pos pins s σ H _ I hq) fun us s1 ⟨xs,H1,I1,r,z,q⟩=>⟨by rw[<-r.length];exact z,?_⟩)
 have hf:H1 s1.heap.objs.size=none:=I1.hok.fresh (Nat.le_refl _)
 refine⟨.ref s1.heap.objs.size,upd H1 s1.heap.objs.size (.lst xs),I1.laid (t':=s1.toks) (fun b u e=>Heap.get?_push_of_some _ e) (Nat.le_refl _) ?_,rfl,q _ hf⟩
 exact⟨z,us,0,r,Heap.get?_push_size _ rfl⟩
end
abbrev Sp:=List V->Hp->VK->XK->Prop
abbrev CXT:=List Env->Hp->Shared->XK->Value->Shared->Prop
structure Env0(P:Program)(w:World)(K:Frag)(mg:Str->Option Value)(base:Heap)(A:Around)(outer:List Env)(s:Shared)(H:Hp):Prop where
 frames:A.frames=some outer
 mod:Mod K mg base
 bs:∀b o,base.get? b=some o->s.heap.get? b=some o/\H b=none
 bsz:base.objs.size<=s.heap.objs.size
 funs:s.heap.FunFrames base outer
 frf:∀b∈frs outer,H b=none
 hok:HOk P w H s.heap
 bare:AllBare s.gens
def CE(outer:List Env)(P:Program)(w:World)(H:Hp)(s:Shared)(Q:VK)(u:Value)(s':Shared):Prop:=
 ∃v H',s'.os=s.os/\AllBare s'.gens/\Un (frs outer) [] H H' s.heap s'.heap/\HOk P w H' s'.heap/\RelV v u/\Q v H'
def CR(CX:CXT)(outer:List Env)(P:Program)(w:World)(H:Hp)(s:Shared)(Q:VK)(E:XK)(r:Result)(s':Shared):Prop:=
 match r with
 |.ok (.ret u)=>CE outer P w H s Q u s'
 |.ok _=>False
 |.error e=>CX outer H s E e s'
structure FnOk(P:Program)(w:World)(K:Frag)(mg:Str->Option Value)(base:Heap)(CX:CXT)(k:Nat)(f:Addr)(fd:FuncData)(ps:List Str)(sp:Sp):Prop where
 len:∀vs H Q E,sp vs H Q E->vs.length=ps.length
 run:∀(A:Around)(outer:List Env)(s:Shared)(H:Hp)(args:Args)(us:List Value)(vs:List V)(Q:VK)(E:XK),Room k A->Env0 P w K mg base A outer s H->BindsTo s fd args (ps.zip us)->Vals vs us->sp vs H Q E->
  codeAny (model P w) A (.call (.ref f) args) (CR CX outer P w H s Q E) s
theorem FnOk.mono{P:Program}{w:World}{K:Frag}{mg:Str->Option Value}{base:Heap}{CX:CXT}{j k:Nat}{f:Addr}{fd:FuncData}{ps:List Str}{sp:Sp}(F:FnOk P w K mg base CX j f fd ps sp)(h:j<=k) :
  FnOk P w K mg base CX k f fd ps sp:=⟨F.len,fun A outer s H args us vs Q E hr=>F.run A outer s H args us vs Q E (hr.mono h)⟩
section
variable{X:Cx}{pins:List (Addr×Obj)}{σ:St}{H:Hp}{s s':Shared}
theorem Inv.env0(I:Inv X pins σ H s):Env0 X.prog X.w X.K X.mg X.base X.A X.stack s H:=
 ⟨I.ok.frames,I.ok.mod,I.bs,Nat.le_trans I.ok.bsz I.sz,I.stack,I.stkFree,I.hok,I.bare⟩
theorem Inv.after{Q:VK}{u:Value}(I:Inv X pins σ H s)(h:CE X.stack X.prog X.w H s Q u s'):EP X pins σ Q u s':=by
 obtain⟨v,H',os,bare,un,hok,r,q⟩:=h
 obtain⟨hh,g,d,t,os'⟩:=s'
 obtain rfl:os'=s.os:=os
 exact⟨v,H',I.call (h':=hh) (g':=g) (d':=d) (t':=t) (ch:=[]) un hok bare (fun b z=>absurd z (by simp)),r,q⟩
end
def x9m(sp:Sp)(dvs:List V)(E:XK)(t:TA):TE:=fun σ H Q=>t σ H fun vs H1=>sp (vs++dvs) H1 Q E
def z3f(K:Frag)(fd:FuncData)(ps:List Str)(ds:List Value):Prop:=
 ∀(s:Shared)(us:List Value),K.In s.heap->(us++ds).length=ps.length->BindsTo s fd ⟨us,[]⟩ (ps.zip (us++ds))
theorem z3f.all{K:Frag}{fd:FuncData}{ps:List Str}(h:∀us:List Value,us.length=ps.length->bindArgs fd ⟨us,[]⟩=pure (ps.zip us)):z3f K fd ps []:=fun s us _ hl=>by
 rw[List.append_nil]at hl ⊢
 exact .of_eq (h us hl)
def q5w(CX:CXT)(X:Cx)(E:XK):Prop:=∀(pins:List (Addr×Obj))(σ:St)(H:Hp)(s:Shared)(e:Value)(s':Shared),Inv X pins σ H s->CX X.stack H s E e s'->X.xe e s'
section
variable{X:Cx}{CX:CXT}{k:Nat}{f C:Addr}{fd:FuncData}{ps:List Str}{sp:Sp}{dvs:List V}{ds:List Value}{E:XK}{x m:Str}{p pos apos:Pos}{e o:Expr}{es:List Expr}{ta:TE}{t:TA}
theorem y8x{pins:List (Addr×Obj)}{σ:St}{H:Hp}{s:Shared}{Q:VK}{us:List Value}{vs:List V}(F:FnOk X.prog X.w X.K X.mg X.base CX k f fd ps sp)(hr:Room k X.A)(hb:z3f X.K fd ps ds)(hd:Vals dvs ds)(hx:q5w CX X E)
  (I:Inv X pins σ H s) (r:Vals vs us) (h:sp (vs++dvs) H Q E):wpAny (model X.prog X.w) X.A (call (.ref f) us) (EP X pins σ Q) X.xe s:=by
 have r2:Vals (vs++dvs) (us++ds):=r.append hd
 have hl:(us++ds).length=ps.length:=by rw[<-r2.length];exact F.len _ _ _ _ h
 refine wpAny_call (codeAny_mono (F.run X.A X.stack s H ⟨us,[]⟩ (us++ds) (vs++dvs) Q E hr I.env0 (hb s us I.kIn hl) r2 h) fun r s' hq=>?_)
 cases r with
 |error e=>exact hx pins σ H s e s' I hq
 |ok fl=>
  cases fl with
  |ret u=>exact I.after hq
  |next=>exact False.elim hq
  |brk=>exact False.elim hq
  |cont=>exact False.elim hq
theorem x1p(F:FnOk X.prog X.w X.K X.mg X.base CX k f fd ps sp)(hr:Room k X.A)(hg:Gl X x)(hm:X.mg x=some (.ref f))(hk:PySem.W.keepIn X.K (.ref f)=true)(hb:z3f X.K fd ps ds)(hd:Vals dvs ds)(hx:q5w CX X E)
  (ha:PA X (e::es) t) (hdb:(x==("__debug__" : Str))=false:=by decide) (he:starEach (e::es) X.env=(false,eval e X.env)::starEach es X.env:=by rfl) (hpl:(backTo pos (starEach es X.env)).any (·.1)=false:=by rfl) :
  PE X (.Call (.Name x p) (e::es) [] pos) (x9m sp dvs E t):=by
 intro pins s σ H Q I h
 refine wpAny_Call_Name_kw (z0o I hg hm ?_ hdb)
 refine PySem.W.callWith_K (h₀:=X.base) I.ok.mod.kin hk (thn (ha pos pins s σ H _ I h) fun us s1 ⟨vs,H1,I1,r,q⟩=>⟨I1.kIn,?_⟩) he hpl
 exact y8x F hr hb hd hx I1 r q
structure Mk(K:Frag)(C f:Addr):Prop where
 makes:PySem.W.makesIn K C=true
 init:PySem.W.findIn K (.ref C) "__init__" = some (some (.ref f))
 fn:PySem.W.isFn K (.ref f)=true
 kp:PySem.W.keepIn K (.ref C)=true
end
def PK(X:Cx)(kws:List Keyword)(t:TA):Prop:=
 ∀(pos:Pos)(pins:List (Addr×Obj))(s:Shared)(σ:St)(H:Hp)(Q:List V->Hp->Prop),Inv X pins σ H s->t σ H Q->wpAny (model X.prog X.w) X.A (evalAll ((backToKw pos (keywordEach kws X.env)).map (·.2))) (AP X pins σ Q) X.xe s
section
variable{X:Cx}{CX:CXT}{k:Nat}{f C:Addr}{fd:FuncData}{ps ks:List Str}{sp:Sp}{E:XK}{x m:Str}{p pos apos kpos:Pos}{e o:Expr}{es:List Expr}{kws:List Keyword}{te ta:TE}{t tk:TA}{nm:Option Str}
theorem x5r:PK X [] tNil:=fun _ _ _ _ H Q I h=>wpAny_evalAll_nil ⟨[],H,I,.nil,h⟩
theorem x1j(ha:PE X e te)(hr:PK X kws t):PK X (⟨nm,e,kpos⟩::kws) (x4q te t):=by
 intro pos pins s σ H Q I h
 show wpAny _ _ (evalAll ((do let v <-eval e X.env;standAt pos;pure v)::(backToKw pos (keywordEach kws X.env)).map (·.2))) _ _ s
 refine wpAny_evalAll_cons (wpAny_bind (thn (ha pins s σ H _ I h) fun u s1 ⟨x,H1,I1,r1,q1⟩=>wpAny_bind (wpAny_standAt (wpAny_pure ?_))))
 exact thn (hr pos pins s1 σ H1 _ I1 q1) fun us s2 hh1=>by obtain⟨xs,H2,I2,r2,q2⟩:=hh1;exact(⟨x::xs,H2,I2,.cons r1 r2,q2⟩)
structure KBinds(K:Frag)(fd:FuncData)(ps ks:List Str)(g:List Value->List Value->List Value)(gV:List V->List V->List V):Prop where
 to:∀(s:Shared)(us ws:List Value),K.In s.heap->(g us ws).length=ps.length->BindsTo s fd ⟨us,ks.zip ws⟩ (ps.zip (g us ws))
 rel:∀{vs:List V}{us:List Value}{zs:List V}{ws:List Value},Vals vs us->Vals zs ws->Vals (gV vs zs) (g us ws)
variable{g:List Value->List Value->List Value}{gV:List V->List V->List V}
end
structure FnScope(N P:List Str)(sc:Scope):Prop where
 kind:sc.kind=.function
 co:sc.isCoroutine=false
 gen:sc.isGenerator=false
 nd:N.Nodup
 pre:N.take P.length=P
 par:∀x∈P,sc.names.lookup x=some .local\/sc.names.lookup x=some .cell
 nofree:∀y∈sc.names,y.2≠.free
theorem z5a {kindOf : Str -> Option NameKind} {x : Str} : ∀ {binds : List (Str × Value)} {m : Str -> Option Value}, (∀ v, (x, v) ∉ binds) -> bindL kindOf binds m x = m x
 | [], _, _ => rfl
 | (n, v) :: r, m, h => by
  unfold bindL
  rw [z5a fun w hw => h w (List.mem_cons_of_mem _ hw)]
  split
  ·have : x ≠ n := by rintro rfl; exact h v List.mem_cons_self
   simp [this]
  ·rfl
theorem z5c {kindOf : Str -> Option NameKind} {x : Str} : ∀ {binds : List (Str × Value)} {m : Str -> Option Value}, (∀ v, (x, v) ∉ binds) -> bindC kindOf binds m x = m x
 | [], _, _ => rfl
 | (n, v) :: r, m, h => by
  unfold bindC
  rw [z5c fun w hw => h w (List.mem_cons_of_mem _ hw)]
  split
  ·rfl
  ·have : x ≠ n := by rintro rfl; exact h v List.mem_cons_self
   simp [this]
theorem z5b{kindOf:Str->Option NameKind}{x:Str}{v:Value}:∀{P:List Str}{vs:List Value}{i:Nat}{m:Str->Option Value},P.Nodup->P[i]?=some x->vs[i]?=some v->kindOf x=some .local->
  bindL kindOf (P.zip vs) m x=some v
 |[],_,_,_,_,h,_,_=>by simp at h
 |_::_,[],_,_,_,_,h,_=>by simp at h
 |p::P,w::vs,0,m,nd,h1,h2,hk=>by
  simp at h1 h2;subst h1;subst h2
  show bindL kindOf ((p,w)::P.zip vs) m p=_
  unfold bindL
  rw[z5a fun v hv=>(List.nodup_cons.mp nd).1 (List.of_mem_zip hv).1,if_pos hk]
  simp
 |p::P,w::vs,i+1,m,nd,h1,h2,hk=>by
  show bindL kindOf ((p,w)::P.zip vs) m x=_
  unfold bindL
  exact z5b (i:=i) (List.nodup_cons.mp nd).2 (by simpa using h1) (by simpa using h2) hk
theorem z5d{kindOf:Str->Option NameKind}{x:Str}{v:Value}:∀{P:List Str}{vs:List Value}{i:Nat}{m:Str->Option Value},P.Nodup->P[i]?=some x->vs[i]?=some v->kindOf x≠some .local->
  bindC kindOf (P.zip vs) m x=some v
 |[],_,_,_,_,h,_,_=>by simp at h
 |_::_,[],_,_,_,_,h,_=>by simp at h
 |p::P,w::vs,0,m,nd,h1,h2,hk=>by
  simp at h1 h2;subst h1;subst h2
  show bindC kindOf ((p,w)::P.zip vs) m p=_
  unfold bindC
  rw[z5c fun v hv=>(List.nodup_cons.mp nd).1 (List.of_mem_zip hv).1,if_neg hk]
  simp
 |p::P,w::vs,i+1,m,nd,h1,h2,hk=>by
  show bindC kindOf ((p,w)::P.zip vs) m x=_
  unfold bindC
  exact z5d (i:=i) (List.nodup_cons.mp nd).2 (by simpa using h1) (by simpa using h2) hk
def z0c(N:List Str)(vs:List V):St:=vs.map some++List.replicate (N.length-vs.length) none
def cxOf(CX:CXT)(P:Program)(w:World)(K:Frag)(mg:Str->Option Value)(base:Heap)(N:List Str)(qual:Str)(scope:Scope)(f:Addr)(cd:Value)(A:Around)(outer:List Env)(s:Shared)(H:Hp)(E:XK):Cx where
 prog:=P
 w:=w
 K:=K
 mg:=mg
 base:=base
 A:=A.deeper (envOfC qual scope s.heap.objs.size f cd)
 N:=N
 s₀:=s
 H₀:=H
 env:=envOfC qual scope s.heap.objs.size f cd
 outer:=outer
 stack:=envOfC qual scope s.heap.objs.size f cd::outer
 ex:=[]
 calm:=true
 fn:=fun _=>true
 pn:=[]
 xe:=fun e s'=>wpAny (model P w) (A.deeper (envOfC qual scope s.heap.objs.size f cd)) (leaving (envOfC qual scope s.heap.objs.size f cd) e) (fun _ s''=>CX outer H s E e s'') (fun e' s''=>CX outer H s E e' s'') s'
theorem z8e{sc:Scope}{n:Nat}{x:Str}(h:sc.names.lookup x=some .cell):∃c,(cellsFrom n sc.names []).lookup x=some c:=by
 have q:=PySem.W.cellsFrom_some sc.names n [] (.inl h)
 exact Option.isSome_iff_exists.mp q
theorem y3d{CX:CXT}{P:Program}{w:World}{K:Frag}{mg:Str->Option Value}{base:Heap}{N ps:List Str}{qual:Str}{scope:Scope}{f:Addr}{cd:Value}{A:Around}{outer:List Env}{s s1:Shared}{H:Hp}{E:XK}{us:List Value}{vs:List V}
  (S:FnScope N ps scope) (hd:A.handled=none) (e0:Env0 P w K mg base A outer s H) (hl:vs.length=ps.length) (r:Vals vs us)
  (x:InCallC s s.heap.objs.size (bindL (envOfC qual scope s.heap.objs.size f cd).kindOf (ps.zip us) fun _=>none) (cellsFrom (s.heap.objs.size+1) scope.names []) (bindC (envOfC qual scope s.heap.objs.size f cd).kindOf (ps.zip us) fun _=>none) s1) :
  Inv (cxOf CX P w K mg base N qual scope f cd A outer s H E) [] (z0c N vs) H s1:=by
 have hpl:ps.length<=N.length:=by have:=congrArg List.length S.pre;rw[List.length_take]at this;omega
 obtain⟨h1,tk,rfl,hk⟩:=x.done
 have noA:∀b:Addr,b∉(cxOf CX P w K mg base N qual scope f cd A outer s H E).ex:=fun b z=>absurd (show b∈([]:List Addr)from z) (by simp)
 refine⟨⟨e0.mod,S.kind,rfl,rfl,Nat.le_refl _,fun y z c h1 h2=>?_,fun y hy=>?_,fun y c _ h=>?_,fun _=>hd,Around.frames_deeper e0.frames,.inr ⟨rfl,rfl⟩,fun b z=>absurd z (noA b),e0.bs,e0.bsz,fun b _ _=>noA b,fun b z=>absurd z (noA b),e0.funs,e0.frf⟩,
  rfl,e0.bare,Un.kept hk,⟨_,x.toInCall.ns,fun i y v h1 h2 h3=>?_⟩,fun y c h=>⟨_,x.cell y c h⟩,e0.hok.fresh (Nat.le_refl _),fun y c h=>?_,fun p hp=>absurd (show p∈([]:List (Addr×Obj))from hp) (by simp),e0.hok.kept hk,?_⟩
 ·exact name_of_addr x.apart (PySem.mem_of_lookup h1) (PySem.mem_of_lookup h2)
 ·have hy:scope.names.lookup y=some .cell\/scope.names.lookup y=some .free:=hy
  rcases hy with hy|hy
  ·exact z8e hy
  ·exact absurd rfl (S.nofree _ (PySem.mem_of_lookup hy))
 ·exact Nat.le_of_lt (x.above y c (PySem.mem_of_lookup h))
 ·have hi:i<vs.length:=by
   unfold z0c at h2
   by_cases hi:i<vs.length
   ·exact hi
   ·rw[List.getElem?_append_right (by simpa using hi)]at h2
    rw[List.getElem?_replicate]at h2
    split at h2<;>cases h2
  have ha:vs[i]?=some v:=by
   unfold z0c at h2
   rw[List.getElem?_append_left (by simpa using hi),List.getElem?_map]at h2
   cases e:vs[i]? with
   |none=>rw[e]at h2;cases h2
   |some a=>rw[e]at h2;cases h2;rfl
  obtain⟨u,hu,rv⟩:=r.get ha
  have hp:ps[i]?=some y:=by
   rw[<-S.pre,List.getElem?_take_of_lt (by omega)];exact h1
  have ndP:ps.Nodup:=by rw[<-S.pre];exact S.nd.sublist (List.take_sublist _ _)
  refine⟨u,rv,?_⟩
  rcases S.par y (List.mem_of_getElem? hp)with k|k
  ·exact .inl ⟨k,z5b ndP hp hu k⟩
  ·obtain⟨c,e⟩:=z8e (n:=s.heap.objs.size+1) k
   refine .inr ⟨.inl k,c,e,?_⟩
   have q:=x.cell y c e
   rw[z5d ndP hp hu (by show scope.names.lookup y≠_;rw[k];decide)]at q
   exact q
 ·exact e0.hok.fresh (Nat.le_of_lt (x.above y c (PySem.mem_of_lookup h)))
 ·unfold z0c
  show _=N.length
  rw[List.length_append,List.length_map,List.length_replicate]
  omega
theorem w1b{CX:CXT}{P:Program}{w:World}{K:Frag}{mg:Str->Option Value}{base:Heap}{k:Nat}{f:Addr}{name qual:Str}{params:Arguments}{body:List Stmt}{scope:Scope}{dV kV doc pm cdv ct oc:Value}{an od:Option Addr}
  {osl:Array (Option Value)} {N ps:List Str} {sp:Sp} (lk:K.lookup f=some ⟨oc,od,.func (PySem.W.fnOf name qual params body scope dV kV doc pm an cdv ct),osl⟩) (hcd:PySem.W.codeIn K cdv qual=true) (S:FnScope N ps scope)
  (len:∀vs H Q E,sp vs H Q E->vs.length=ps.length)
  (hbody:∀(A:Around)(outer:List Env)(s:Shared)(H:Hp)(vs:List V)(Q:VK)(E:XK),RoomW k (A.deeper (envOfC qual scope s.heap.objs.size f cdv))->sp vs H Q E->
   ∃t,PSs (cxOf CX P w K mg base N qual scope f cdv A outer s H E) body t/\t {nx:=fun _ H'=>Q .non H',rt:=Q} (z0c N vs) H) :
  FnOk P w K mg base CX (k+1) f (PySem.W.fnOf name qual params body scope dV kV doc pm an cdv ct) ps sp:=by
 refine⟨len,fun A outer s H args us vs Q E hr e0 hb r hsp=>?_⟩
 have hl:=len _ _ _ _ hsp
 have KX:K.In s.heap:=e0.mod.kin.keeps fun b o e=>(e0.bs b o e).1
 have lim:s.heap.NoLimit:=e0.mod.nolimit.keeps fun b o e=>(e0.bs b o e).1
 have hkind:∀y∈ps.zip us,scope.names.lookup y.1=some .local\/(scope.names.lookup y.1=some .cell/\((cellsFrom (s.heap.objs.size+1) scope.names []).lookup y.1).isSome=true):=fun hh1 hy=>by
  obtain⟨n,v⟩:=hh1
  rcases S.par n (List.of_mem_zip hy).1 with q|q
  ·exact .inl q
  ·exact .inr ⟨q,PySem.W.cellsFrom_some _ _ _ (.inl q)⟩
 refine codeAny_call_function hr.depth (KX _ _ lk) rfl S.co S.gen rfl (PySem.W.codeRec_of KX hcd) (hb _ _ _ _ ?_)
 refine wpAny_newFunctionEnv_cells S.kind hkind fun env he s1 x=>?_
 subst he
 refine⟨lim.keeps x.toInCall.keep,codeAny_func ?_⟩
 obtain⟨t,ht,hq⟩:=hbody A outer s H vs Q E (hr.deeperW _) hsp
 have I:Inv (cxOf CX P w K mg base N qual scope f cdv A outer s H E) [] (z0c N vs) H s1:=y3d S hr.hd e0 hl r x
 refine wpAny_mono (ht [] s1 (z0c N vs) H _ I hq) (fun fl s' hs=>?_) fun e s' hs=>hs
 have fin:∀{σ':St}{H':Hp}{v:V}{u:Value},Inv (cxOf CX P w K mg base N qual scope f cdv A outer s H E) [] σ' H' s'->RelV v u->Q v H'->CE outer P w H s Q u s':=
  fun {σ' H' v u} J rv q=>⟨v,H',J.os,J.bare,J.base,J.hok,rv,q⟩
 cases fl with
 |ret u=>
  obtain⟨v,σ',H',J,rv,q⟩:=hs
  exact fin J rv q
 |next=>
  obtain⟨σ',H',J,q⟩:=hs
  exact fin (v:=V.non) (u:=Value.none) J rfl q
 |brk=>
  obtain⟨_,_,_,q⟩:=hs
  exact False.elim q
 |cont=>
  obtain⟨_,_,_,q⟩:=hs
  exact False.elim q
section
variable{X:Cx}{x:Str}{p pos:Pos}{e:Expr}{es:List Expr}{t:TA}{id T:String}{r:List V->Hp->VK->Prop}
def tCB(r:List V->Hp->VK->Prop)(t:TA):TE:=fun σ H Q=>t σ H fun vs H1=>r vs H1 Q
theorem y6p(hc:q6k X (.builtin id) r)(hg:Gl X x)(hm:X.mg x=none)(hv:bootBuiltins x=some (.builtin id))(ha:PA X (e::es) t)(hn:x≠ "__name__" :=by decide)(hdb:(x==("__debug__" : Str))=false:=by decide)
  (he:starEach (e::es) X.env=(false,eval e X.env)::starEach es X.env:=by rfl) (hpl:(backTo pos (starEach es X.env)).any (·.1)=false:=by rfl):PE X (.Call (.Name x p) (e::es) [] pos) (tCB r t):=by
 intro pins s σ H Q I h
 refine wpAny_Call_Name_kw (q9c I hg hm hv ?_ hn hdb)
 exact PyProof.Rows.callWith_builtin1 (thn (ha pos pins s σ H _ I h) fun us s1 hh1=>by obtain⟨vs,H1,I1,r1,q1⟩:=hh1;exact(hc pins s1 σ H1 vs us Q I1 r1 q1)) he hpl
theorem y1r(hc:q6k X (.type T) r)(hg:Gl X x)(hm:X.mg x=none)(hv:bootBuiltins x=some (.type T))(ha:PA X (e::es) t)(hn:x≠ "__name__" :=by decide)(hdb:(x==("__debug__" : Str))=false:=by decide)
  (he:starEach (e::es) X.env=(false,eval e X.env)::starEach es X.env:=by rfl) (hpl:(backTo pos (starEach es X.env)).any (·.1)=false:=by rfl):PE X (.Call (.Name x p) (e::es) [] pos) (tCB r t):=by
 intro pins s σ H Q I h
 refine wpAny_Call_Name_kw (q9c I hg hm hv ?_ hn hdb)
 exact PyProof.Rows.callWith_type1 (thn (ha pos pins s σ H _ I h) fun us s1 hh1=>by obtain⟨vs,H1,I1,r1,q1⟩:=hh1;exact(hc pins s1 σ H1 vs us Q I1 r1 q1)) he hpl
end
end L2
namespace HT
open PySem PyProof.Rows
section
open PySem.SeqAt
open PySem.AutoSeq1 (wpAny_loadPart')
open PySem.MeetsSeq PySem.MeetsSeq2 PySem.MeetsSeq3
end
section
variable{prog:Program}{w:World}{A:Around}{E:Value->Shared->Prop}{s:Shared}
theorem cat_tup{t b:Addr}{vs ws:List Value}{Q:Value->Shared->Prop}(ht:IsTup s.heap t vs.toArray)(hb:IsTup s.heap b ws.toArray)(hv:vs≠[])
  (h1:ws=[]->Q (.ref t) s) (h2:ws≠[]->Q (.ref s.heap.objs.size) {s with heap:=s.heap.push {cls:=.type "tuple",data:=.seq (vs++ws).toArray}})
  (hsz:vs.length+ws.length<=sizeLine):wpAny (model prog w) A (binaryOp .Add (.ref t) (.ref b)) Q E s:=by
 obtain⟨⟨cls,dd,data,sl⟩,ho,hc,n,hd⟩:=id ht
 obtain⟨⟨cls2,dd2,data2,sl2⟩,ho2,hc2,n2,hd2⟩:=id hb
 simp only at hc hd hc2 hd2
 subst hc hd hc2 hd2
 have e:vs.toArray++ws.toArray=(vs++ws).toArray:=by simp
 by_cases hw:ws=[]
 ·exact concat_meets ⟨_,ho,rfl⟩ ⟨_,ho2,rfl⟩ noFill_tuple_add seq_tuple_add PySem.F.slot_tuple_add PySem.F.entry_tuple_add (PySem.F.args_tuple_add_2 _ _)
   (tuple_addW1 t b vs.toArray ws.toArray n n2 dd dd2 sl sl2 (by simpa using hv) (by simp[hw])) ⟨ho,ho2,h1 hw⟩
 ·refine concat_meets ⟨_,ho,rfl⟩ ⟨_,ho2,rfl⟩ noFill_tuple_add seq_tuple_add PySem.F.slot_tuple_add PySem.F.entry_tuple_add (PySem.F.args_tuple_add_2 _ _)
   (tuple_addW2 t b vs.toArray ws.toArray n n2 dd dd2 sl sl2 (by simpa using hv) (by simpa using hw) (by rw[List.size_toArray,List.size_toArray];exact hsz)) ⟨ho,ho2,?_⟩
  rw[e]
  exact h2 hw
def sIx(n d:Nat):Option Int->Nat
 |none=>d
 |some v=>if v<0 then(v+(n:Int)).toNat else min v.toNat n
theorem sIx_none(n d:Nat):sIx n d none=d:=rfl
theorem sIx_nat(n d k:Nat):sIx n d (some (k:Int))=min k n:=by
 show(if(k:Int)<0 then((k:Int)+(n:Int)).toNat else min (k:Int).toNat n)=min k n
 rw[if_neg (by omega),Int.toNat_natCast]
theorem sIx_le(n d:Nat)(hd:d<=n)(o:Option Int):sIx n d o<=n:=by
 cases o with
 |none=>exact hd
 |some v=>
  show(if v<0 then(v+(n:Int)).toNat else min v.toNat n)<=n
  by_cases hv:v<0
  ·rw[if_pos hv];omega
  ·rw[if_neg hv];exact Nat.min_le_right _ _
theorem y3z(v:Int)(n d:Nat):(if v<0 then max (v+(n:Int)) 0 else min v (n:Int))=((sIx n d (some v):Nat):Int):=by
 show(if v<0 then max (v+(n:Int)) 0 else min v (n:Int))=(((if v<0 then(v+(n:Int)).toNat else min v.toNat n):Nat):Int)
 by_cases hv:v<0
 ·simp only[if_pos hv];omega
 ·simp only[if_neg hv];omega
theorem z9x(lo hi:Option Int)(n:Nat):Builtin.Slice.sliceAdjust lo hi 1 (n:Int)=(((sIx n 0 lo:Nat):Int),((sIx n n hi:Nat):Int)):=by
 have h1:¬((1:Int)<0):=by omega
 unfold Builtin.Slice.sliceAdjust
 simp only[h1,if_false]
 refine Prod.ext ?_ ?_
 ·cases lo with
  |none=>rfl
  |some v=>exact y3z v n 0
 ·cases hi with
  |none=>rfl
  |some v=>exact y3z v n n
theorem z9a(i j:Nat):Builtin.Slice.slicePlaces (i:Int) (j:Int) 1=j-i:=by
 unfold Builtin.Slice.slicePlaces
 have h1:(1:Int) > 0:=by omega
 simp only[h1,if_true,Int.ediv_one]
 split<;>omega
theorem z1d{v:Value}{o:Option Int}{Q:Option Int->Shared->Prop}(p:IsPart v o)(h:Q o s):wpAny (model prog w) A (Builtin.Slice.slicePartIndex v) Q E s:=by
 cases p with
 |none=>exact slicePart_none h
 |int i t=>exact slicePart_int h
theorem q9f{sl:Addr}{vl vu:Value}{lo hi:Option Int}{n:Nat}{Q:Int×Int×Nat->Shared->Prop}(hs:s.heap.IsSliceOf sl vl vu .none)(pl:IsPart vl lo)(pu:IsPart vu hi)
  (h:Q (((sIx n 0 lo:Nat):Int),1,sIx n n hi-sIx n 0 lo) s):wpAny (model prog w) A (Builtin.Slice.sliceApplied (.ref sl) (pure (n:Int))) Q E s:=by
 obtain⟨os,hos,hcs,hds⟩:=id hs
 unfold Builtin.Slice.sliceApplied Builtin.Slice.sliceFields
 refine wpAny_bind (wpAny_bind (wpAny_field hos hds (x:=vl) rfl (wpAny_bind (wpAny_field hos hds (x:=vu) rfl (wpAny_bind (wpAny_field hos hds (x:=.none) rfl (wpAny_pure ?_)))))))
 refine wpAny_bind (slicePart_none ?_)
 show wpAny _ _ (if((1:Int)==0)=true then _ else _) _ _ s
 rw[if_neg (by decide)]
 refine wpAny_bind (z1d pl (wpAny_bind (z1d pu (wpAny_bind (wpAny_pure ?_)))))
 show wpAny _ _ (match Builtin.Slice.sliceAdjust lo hi 1 (n:Int)with|(lo,hi)=>pure (lo,(1:Int),Builtin.Slice.slicePlaces lo hi 1)) _ _ s
 rw[z9x lo hi n]
 show wpAny _ _ (pure (((sIx n 0 lo:Nat):Int),(1:Int),Builtin.Slice.slicePlaces ((sIx n 0 lo:Nat):Int) ((sIx n n hi:Nat):Int) 1)) _ _ s
 rw[z9a]
 exact wpAny_pure h
theorem y6j(xs:Array Value)(i k:Nat):((List.range k).filterMap fun(m:Nat)=>xs[((i:Int)+(m:Int)*1).toNat]?).toArray=((xs.toList.drop i).take k).toArray:=by
 have e:(fun(m:Nat)=>xs[((i:Int)+(m:Int)*1).toNat]?)=fun m=>xs[i+m]?:=by
  funext m
  have:((i:Int)+(m:Int)*1).toNat=i+m:=by omega
  rw[this]
 rw[e]
 have:=pick_run xs i k
 rw[List.filterMap_map]at this
 have e2:((fun x=>xs[x]?)∘fun x=>i+x)=fun m=>xs[i+m]?:=rfl
 rw[e2]at this
 rw[this]
theorem getItem_tuple_cut{t sl:Addr}{items:Array Value}{vl vu:Value}{lo hi:Option Int}{Q:Value->Shared->Prop}(ht:IsTup s.heap t items)(hs:s.heap.IsSliceOf sl vl vu .none)(pl:IsPart vl lo)(pu:IsPart vu hi)
  (hw:¬(sIx items.size 0 lo=0/\sIx items.size items.size hi=items.size))
  (h:Q (.ref s.heap.objs.size) {s with heap:=s.heap.push {cls:=.type "tuple",data:=.seq ((items.toList.drop (sIx items.size 0 lo)).take (sIx items.size items.size hi-sIx items.size 0 lo)).toArray}})
  (hsz:items.size<=sizeLine):wpAny (model prog w) A (getItem (.ref t) (.ref sl)) Q E s:=by
 have htake:sizeOk (.seq ((items.toList.drop (sIx items.size 0 lo)).take (sIx items.size items.size hi-sIx items.size 0 lo)).toArray):=by
  show((items.toList.drop (sIx items.size 0 lo)).take (sIx items.size items.size hi-sIx items.size 0 lo)).toArray.size<=sizeLine
  rw[List.size_toArray,List.length_take,List.length_drop,Array.length_toList]
  omega
 have hj:sIx items.size items.size hi<=items.size:=sIx_le _ _ (Nat.le_refl _) hi
 obtain⟨os,hos,hcs,hds⟩:=id hs
 have hTs:s.TypeIs (.ref sl) "slice" :=⟨os,hos,hcs⟩
 unfold getItem
 try with_reducible refine wpAny_holding ?_
 first|refine wpAny_bind (wpAny_pure ?_)|skip
 refine wpAny_bind (wpAny_sequenceKey ht.typeIs (by decide) ?_)
 refine wpAny_bind (wpAny_callSpecial?_slot (name:=Str.ofString "__getitem__") ht.typeIs PyProof.Rows.slot_tuple_getitem
  (wpAny_call_entry PyProof.Rows.slot_tuple_getitem ht.typeIs entry_tuple_getitem ?_ (args_tuple_getitem _ _)))
 show wpAny _ _ (Builtin.Tuple.tupleItemsOf (.ref t) >>= _) _ _ s
 refine wpAny_bind (tupleItemsOf_ ht ?_)
 refine wpAny_bind (wpAny_typeOf hTs ?_)
 rw[if_pos (by decide)]
 refine wpAny_bind (q9f hs pl pu ?_)
 have hno:¬((((sIx items.size 0 lo:Nat):Int)==0&&(1:Int)==1&&(sIx items.size items.size hi-sIx items.size 0 lo)==items.size)=true):=by
  intro q
  rw[Bool.and_eq_true,Bool.and_eq_true]at q
  have q1:((sIx items.size 0 lo:Nat):Int)=0:=eq_of_beq q.1.1
  have q2:sIx items.size items.size hi-sIx items.size 0 lo=items.size:=eq_of_beq q.2
  exact hw ⟨by omega,by omega⟩
 show wpAny _ _ (if(((sIx items.size 0 lo:Nat):Int)==0&&(1:Int)==1&&(sIx items.size items.size hi-sIx items.size 0 lo)==items.size)=true then _ else _) _ _ s
 rw[if_neg hno,y6j]
 first
  |exact wpAny_bind (m:=Builtin.Tuple.tupleExact _) (wpAny_newObj_type (wpAny_pure ⟨_,rfl,wpAny_pure h⟩) htake)
  |exact wpAny_bind (m:=Builtin.Tuple.tupleExact _) (wpAny_newObj_type (wpAny_bind (wpAny_pure (wpAny_pure ⟨_,rfl,wpAny_pure h⟩))) htake)
  |exact wpAny_bind (wpAny_bind (m:=Builtin.Tuple.tupleExact _) (wpAny_newObj_type (wpAny_pure (wpAny_pure ⟨_,rfl,wpAny_pure h⟩)) htake))
  |exact wpAny_bind (wpAny_bind (m:=Builtin.Tuple.tupleExact _) (wpAny_newObj_type (wpAny_pure ⟨_,rfl,wpAny_pure h⟩) htake))
end
end HT
namespace L2
open PySem PySem.Spec PyProof.Rows
abbrev TO:=St->Hp->(Option Int->Hp->Prop)->Prop
def PO(X:Cx)(e:Option Expr)(t:TO):Prop:=
 ∀(pins:List (Addr×Obj))(s:Shared)(σ:St)(H:Hp)(Q:Option Int->Hp->Prop),Inv X pins σ H s->t σ H Q->
  wpAny (model X.prog X.w) X.A (evalPart e X.env) (fun u s'=>∃o H',Inv X pins σ H' s'/\IsPart u o/\Q o H') X.xe s
def x0l:TO:=fun _ H Q=>Q none H
def x9h(t:TE):TO:=fun σ H Q=>t σ H fun x H1=>∃i,x=.int i/\Q (some i) H1
theorem z9r{ns:List Int}:∀{us:List Value},Vals (ns.map V.int) us->IntsAre us ns:=by
 induction ns with
 |nil=>intro us r;rw[List.map_nil]at r;cases r;exact .nil
 |cons n ns ih=>
  intro us r
  rw[List.map_cons]at r
  cases r with
  |cons r1 r2=>
   obtain⟨t,e⟩:=r1
   subst e
   exact .cons n t (ih r2)
section
variable{X:Cx}{e:Expr}{te:TE}{lo hi:Option Expr}{tl th:TO}{pos p2:Pos}
theorem x1i:PO X none x0l:=by
 intro pins s σ H Q I h
 rw[evalPart_none]
 exact wpAny_pure ⟨none,H,I,.none,h⟩
theorem x1h(h:PE X e te):PO X (some e) (x9h te):=by
 intro pins s σ H Q I hw
 rw[evalPart_some]
 refine thn (h pins s σ H _ I hw) fun u s1 hh1=>?_
 obtain⟨x,H1,I1,r1,q1⟩:=hh1
 obtain⟨i,rfl,q⟩:=q1
 obtain⟨t,rfl⟩:=r1
 exact⟨some i,H1,I1,.int i t,q⟩
def SlR(X:Cx)(r:V->Option Int->Option Int->Hp->VK->Prop):Prop:=
 ∀(pins:List (Addr×Obj))(s:Shared)(σ:St)(H:Hp)(x:V)(v vl vu:Value)(lo hi:Option Int)(sl:Addr)(Q:VK),Inv X pins σ H s->RelV x v->s.heap.IsSliceOf sl vl vu .none->IsPart vl lo->IsPart vu hi->r x lo hi H Q->
  ∃T id,typeLookup (.type T) "__getitem__" = pure (some (.builtin id))/\s.TypeIs v T/\wpAny (model X.prog X.w) X.A (getItem v (.ref sl)) (EP X pins σ Q) X.xe s
def tSl(r:V->Option Int->Option Int->Hp->VK->Prop)(te:TE)(tl th:TO):TE:=fun σ H Q=>te σ H fun x H1=>tl σ H1 fun l H2=>th σ H2 fun u H3=>r x l u H3 Q
theorem y6m{r:V->Option Int->Option Int->Hp->VK->Prop}(hr:SlR X r)(he:PE X e te)(hl:PO X lo tl)(hu:PO X hi th):PE X (.Subscript e (.Slice lo hi none p2) pos) (tSl r te tl th):=by
 intro pins s σ H Q I h
 refine Subscript_ (thn (he pins s σ H _ I h) fun v s1 hh1=>?_)
 obtain⟨x,H1,I1,r1,q1⟩:=hh1
 refine wpAny_Slice (thn (hl pins s1 σ H1 _ I1 q1) fun vl s2 ⟨l,H2,I2,pl,q2⟩=>thn (hu pins s2 σ H2 _ I2 q2) fun vu s3 hh2=>?_)
 obtain⟨u,H3,I3,pu,q3⟩:=hh2
 rw[evalPart_none]
 refine wpAny_pure ?_
 have I4:Inv X pins σ H3 {s3 with heap:=s3.heap.push {cls:=.type "slice",data:=.fields #[vl,vu,.none]}}:=I3.kept (t':=s3.toks) fun b ob q=>Heap.get?_push_of_some _ q
 obtain⟨T,id,hT,ht,hg⟩:=hr pins {s3 with heap:=s3.heap.push {cls:=.type "slice",data:=.fields #[vl,vu,.none]}} σ H3 x v vl vu l u s3.heap.objs.size Q I4 r1 (Heap.IsSliceOf.new ..) pl pu q3
 show wpAny (model X.prog X.w) X.A (subscriptTail e (.Slice lo hi none p2) v (.ref s3.heap.objs.size)) (EP X pins σ Q) X.xe {s3 with heap:=s3.heap.push {cls:=.type "slice",data:=.fields #[vl,vu,.none]}}
 exact tail_any (ops:=[.ref s3.heap.objs.size,v]) ht hT hg (by with_unfolding_all rfl)
def cutV(xs:List V)(lo hi:Option Int):List V:=(xs.drop (HT.sIx xs.length 0 lo)).take (HT.sIx xs.length xs.length hi-HT.sIx xs.length 0 lo)
theorem z0u(xs:List V)(lo hi:Option Int):(cutV xs lo hi).length<=xs.length:=by
 unfold cutV
 rw[List.length_take,List.length_drop]
 omega
def rSlT(K:Frag):V->Option Int->Option Int->Hp->VK->Prop:=fun x lo hi H Q=>∃a xs,x=.ref a/\SqT K H a xs/\
 ¬(HT.sIx xs.length 0 lo=0/\HT.sIx xs.length xs.length hi=xs.length)/\∀p,H p=none->Q (.ref p) (upd H p (.tup (cutV xs lo hi)))
theorem x4v:SlR X (rSlT X.K):=by
 intro pins s σ H x v vl vu lo hi sl Q I rx hs pl pu h
 obtain⟨a,xs,rfl,hx,hw,q⟩:=h
 cases rx
 obtain⟨its,r,ht,hz⟩:=I.tuple hx
 have hlen:its.toArray.size=xs.length:=by rw[List.size_toArray];exact r.length.symm
 refine⟨"tuple",_,PyProof.Rows.slot_tuple_getitem.lookup,ht.typeIs,?_⟩
 refine HT.getItem_tuple_cut ht hs pl pu (by rw[hlen];exact hw) ?_ (by rw[hlen];exact hz)
 rw[hlen]
 refine⟨.ref s.heap.objs.size,_,I.laid (t':=s.toks) (o:=.tup (cutV xs lo hi)) (fun b ob q=>Heap.get?_push_of_some _ q) (Nat.le_refl _) ?_,rfl,q _ (I.hok.fresh (Nat.le_refl _))⟩
 exact⟨Nat.le_trans (z0u xs lo hi) hz,_,(r.drop (HT.sIx xs.length 0 lo)).take (HT.sIx xs.length xs.length hi-HT.sIx xs.length 0 lo),IsTup.new _ _⟩
def x5f(K:Frag):R2:=fun x y H Q=>∃a b xs ys,x=.ref a/\y=.ref b/\SqT K H a xs/\SqT K H b ys/\xs≠[]/\xs.length+ys.length<=sizeLine/\
 (ys=[]->Q (.ref a) H)/\(ys≠[]->∀p,H p=none->Q (.ref p) (upd H p (.tup (xs++ys))))
theorem Vals.nil_iff{xs:List V}{us:List Value}(r:Vals xs us):us=[]↔xs=[]:=by
 cases r with
 |nil=>simp
 |cons _ _=>simp
theorem x1v:OpR X (binaryOp .Add) (x5f X.K):=by
 intro pins s σ H x y v u Q I rx ry h
 obtain⟨a,b,xs,ys,rfl,rfl,ha,hb,hx,hz,q1,q2⟩:=h
 cases rx
 cases ry
 obtain⟨its,r1,p1,_⟩:=I.tuple ha
 obtain⟨its2,r2,p2,_⟩:=I.tuple hb
 refine HT.cat_tup p1 p2 (fun z=>hx (r1.nil_iff.mp z)) (fun z=>⟨.ref a,H,I,rfl,q1 (r2.nil_iff.mp z)⟩) (fun z=>?_) (by rw[<-r1.length,<-r2.length];exact hz)
 refine⟨.ref s.heap.objs.size,_,I.laid (t':=s.toks) (o:=.tup (xs++ys)) (fun b ob q=>Heap.get?_push_of_some _ q) (Nat.le_refl _) ?_,rfl,q2 (fun w=>z (r2.nil_iff.mpr w)) _ (I.hok.fresh (Nat.le_refl _))⟩
 exact⟨by rw[List.length_append];exact hz,_,r1.append r2,IsTup.new _ _⟩
end
def ixN(n:Nat)(i:Int):Option Nat:=if 0<=i then(if i<n then some i.toNat else none)else if -(n:Int)<=i then some (i+n).toNat else none
def atI{α:Type}(xs:List α)(i:Int):Option α:=(ixN xs.length i).bind fun j=>xs[j]?
theorem z6f{n:Nat}{i:Int}{j:Nat}(h:ixN n i=some j):seqIndex? i n=some j/\j<n/\-(n:Int)<=i/\i<n:=by
 unfold ixN at h
 by_cases h0:0<=i
 ·rw[if_pos h0]at h
  by_cases h1:i<n
  ·rw[if_pos h1]at h
   have e:i.toNat=j:=Option.some.inj h
   exact⟨by rw[seqIndex_of h0 h1,e],by omega,by omega,h1⟩
  ·rw[if_neg h1]at h;cases h
 ·rw[if_neg h0]at h
  by_cases h1:-(n:Int)<=i
  ·rw[if_pos h1]at h
   have e:(i+n).toNat=j:=Option.some.inj h
   exact⟨by rw[seqIndex_neg (by omega) h1,e],by omega,h1,by omega⟩
  ·rw[if_neg h1]at h;cases h
theorem z6y{α:Type}{xs:List α}{i:Int}{v:α}(h:atI xs i=some v):∃j,seqIndex? i xs.length=some j/\xs[j]?=some v/\j<xs.length/\-(xs.length:Int)<=i/\i<xs.length:=by
 unfold atI at h
 cases e:ixN xs.length i with
 |none=>rw[e]at h;cases h
 |some j=>
  rw[e]at h
  obtain⟨h1,h2,h3,h4⟩:=z6f e
  exact⟨j,h1,h,h2,h3,h4⟩
theorem x3s{α:Type}{xs:List α}{j:Nat}{v:α}(h:xs[j]?=some v):atI xs (j:Int)=some v:=by
 have hj:j<xs.length:=(List.getElem?_eq_some_iff.mp h).1
 have e:ixN xs.length (j:Int)=some j:=by
  unfold ixN
  rw[if_pos (by omega),if_pos (by omega)];simp
 unfold atI;rw[e];exact h
theorem q8k{α:Type}(xs:List α)(v:α):atI (xs++[v]) (-1)=some v:=by
 have hl:(xs++[v]).length=xs.length+1:=by simp
 have e:ixN (xs++[v]).length (-1)=some xs.length:=by
  unfold ixN
  rw[hl,if_neg (by decide),if_pos (by omega)]
  congr 1
  omega
 unfold atI
 rw[e]
 show(xs++[v])[xs.length]?=some v
 simp
def y4n(b:Expr):Prop:=∀o i,subscripted b false o i=operate [o,i] (getItem o i)
def IxR(X:Cx)(r:R2):Prop:=
 ∀(value slice:Expr)(pins:List (Addr×Obj))(s:Shared)(σ:St)(H:Hp)(x y:V)(v u:Value)(Q:VK),Inv X pins σ H s->RelV x v->RelV y u->r x y H Q->
  subscripted slice false v u=operate [v,u] (getItem v u)->wpAny (model X.prog X.w) X.A (subscriptTail value slice v u) (EP X pins σ Q) X.xe s
def MtR(X:Cx)(id:String)(r:V->List V->Hp->VK->Prop):Prop:=
 ∀(pins:List (Addr×Obj))(s:Shared)(σ:St)(H:Hp)(x:V)(xs:List V)(v:Value)(us:List Value)(Q:VK),Inv X pins σ H s->RelV x v->Vals xs us->r x xs H Q->
  wpAny (model X.prog X.w) X.A (call (.builtin id) (v::us)) (EP X pins σ Q) X.xe s
section
variable{X:Cx}{a b:Expr}{ta tb:TE}{pos:Pos}
theorem x9x{r:R2}(hr:IxR X r)(ha:PE X a ta)(hb:PE X b tb)(hs:y4n b):PE X (.Subscript a b pos) (tOp r ta tb):=by
 intro pins s σ H Q I h
 exact Subscript_ (binT ha hb I h fun v u s2 x y H2 I2 rx ry q=>hr a b pins s2 σ H2 x y v u Q I2 rx ry q (hs _ _))
def rIxL(K:Frag):R2:=fun x y H Q=>∃p xs i v,x=.ref p/\y=.int i/\SqL K H p xs/\atI xs i=some v/\Q v H
def rIxT(K:Frag):R2:=fun x y H Q=>∃p xs i v,x=.ref p/\y=.int i/\SqT K H p xs/\atI xs i=some v/\Q v H
def rIxS:R2:=fun x y H Q=>∃z i c,x=.str z/\y=.int i/\z.length<=sizeLine/\atI z.cps.toList i=some c/\Q (.str ⟨#[c]⟩) H
theorem y3b:IxR X (rIxL X.K):=by
 intro value slice pins s σ H x y v u Q I rx ry h hs
 obtain⟨p,xs,i,z,rfl,rfl,hq,he,q⟩:=h
 cases rx
 obtain⟨t,rfl⟩:=ry
 obtain⟨its,r,pl,hz⟩:=I.list hq
 obtain⟨j,h1,h2,h3,h4,h5⟩:=z6y he
 obtain⟨w,ew,rw'⟩:=r.get h2
 have hl:=r.length
 have hn:=z0n
 have fin:EP X pins σ Q w s:=⟨z,H,I,rw',q⟩
 by_cases h0:0<=i
 ·have hj:i.toNat=j:=by
   rw[seqIndex_of h0 h5]at h1
   exact Option.some.inj h1
  exact item_listR pl.isList h0 (by omega) (by rw[hj];simpa using ew) fin hs
 ·have hj:(i+(its.toArray.size:Int)).toNat=j:=by
   rw[seqIndex_neg (by omega) h4]at h1
   rw[List.size_toArray,<-hl]
   exact Option.some.inj h1
  exact subscriptTail_builtinR (x:=w) pl.isList.typeIs slot_list_getitem.lookup
   (wpAny_getItem_list_neg (Q:=fun r s'=>r=w/\EP X pins σ Q r s') pl.isList (by omega) (by rw[List.size_toArray]<;>omega) (by omega) (by rw[hj];simpa using ew) ⟨rfl,fin⟩) hs
theorem x8c:IxR X (rIxT X.K):=by
 intro value slice pins s σ H x y v u Q I rx ry h hs
 obtain⟨p,xs,i,z,rfl,rfl,hq,he,q⟩:=h
 cases rx
 obtain⟨t,rfl⟩:=ry
 obtain⟨its,r,pl,hz⟩:=I.tuple hq
 obtain⟨j,h1,h2,h3,h4,h5⟩:=z6y he
 obtain⟨w,ew,rw'⟩:=r.get h2
 have hl:=r.length
 have hn:=z0n
 have fin:EP X pins σ Q w s:=⟨z,H,I,rw',q⟩
 exact subscriptTail_builtinR (x:=w) pl.typeIs slot_tuple_getitem.lookup
  (getItem_tuple (j:=j) (Q:=fun r s'=>r=w/\EP X pins σ Q r s') pl (by omega) (by omega) (by rw[List.size_toArray,<-hl];exact h1) (by simpa using ew) ⟨rfl,fin⟩) hs
theorem x8d:IxR X rIxS:=by
 intro value slice pins s σ H x y v u Q I rx ry h hs
 obtain⟨z,i,c,rfl,rfl,hz,he,q⟩:=h
 obtain⟨t,rfl⟩:=rx
 obtain⟨t',rfl⟩:=ry
 obtain⟨j,h1,h2,h3,h4,h5⟩:=z6y he
 have hl:z.cps.toList.length=z.length:=by simp[Str.length]
 rw[hl]at h1 h4 h5
 have hn:=z0n
 exact tail_any (typeIs_str s z t) slot_str_getitem.lookup (getItem_str (c:=c) (by
  have e1:decide (i < -(2 ^ 63:Int))=false:=decide_eq_false (by omega)
  have e2:decide (i>=2 ^ 63)=false:=decide_eq_false (by omega)
  rw [e1,e2,Bool.or_false]) (by rw [h1];simpa using h2) ⟨.str ⟨#[c]⟩,H,I.tok _,⟨_,rfl⟩,q⟩) hs
theorem z9f(its:List Value)(n j:Nat)(u:Value):Obj.mapSeq (·.setIfInBounds j u) {cls:=.type "list",data:=.seq its.toArray n}={cls:=.type "list",data:=.seq (its.set j u).toArray n}:=by
 simp[Obj.mapSeq]
theorem Inv.lst{pins:List (Addr×Obj)}{σ:St}{H:Hp}{s:Shared}{p:Addr}{xs:List V}(I:Inv X pins σ H s)(h:H p=some (.lst xs)) :
  ∃(its:List Value)(n:Nat),Vals xs its/\s.heap.get? p=some {cls:=.type "list",data:=.seq its.toArray n}/\xs.length<=sizeLine:=by
 obtain⟨z,its,n,r,e⟩:=I.hok p _ h
 exact⟨its,n,r,e,z⟩
theorem Inv.lstUpd{pins:List (Addr×Obj)}{σ:St}{H:Hp}{s:Shared}{p:Addr}{xs ys:List V}{its its':List Value}{n n':Nat}{f:Obj->Obj}(I:Inv X pins σ H s)(h:H p=some (.lst xs))
  (ho:s.heap.get? p=some {cls:=.type "list",data:=.seq its.toArray n}) (hf:f {cls:=.type "list",data:=.seq its.toArray n}={cls:=.type "list",data:=.seq its'.toArray n' }) (r:Vals ys its') (hz:ys.length<=sizeLine) (t:Nat) :
  Inv X pins σ (upd H p (.lst ys)) {s with heap:=s.heap.update p f,toks:=t}:=by
 have e:(s.heap.update p f).get? p=some {cls:=.type "list",data:=.seq its'.toArray n' }:=by
  rw[Heap.get?_update_self f ho (by rw[hf]<;>rfl),hf]
 refine I.write (x:=p) (e:=p) (by rw[h];trivial) (.inl rfl) (fun b u hb q=>(Heap.get?_update_other _ _ (Ne.symm hb)).trans q) ⟨_,e⟩ ?_
 exact⟨hz,its',n',r,e⟩
def x9r:V->V->V->Hp->(Hp->Prop)->Prop:=fun o i v H Q=>∃p xs k j,o=.ref p/\i=.int k/\H p=some (.lst xs)/\ixN xs.length k=some j/\Q (upd H p (.lst (xs.set j v)))
theorem y5s:PSet X x9r:=by
 intro pins s σ H o i v ov iv u Q I ro ri rv h
 obtain⟨p,xs,k,j,rfl,rfl,hp,hj,q⟩:=h
 cases ro
 obtain⟨t,rfl⟩:=ri
 obtain⟨its,n,r,ho,hz⟩:=I.lst hp
 obtain⟨h1,h2,h3,h4⟩:=z6f hj
 have hl:=r.length
 have hn:=z0n
 have I':Inv X pins σ (upd H p (.lst (xs.set j v))) {s with heap:=s.heap.update p (Obj.mapSeq (·.setIfInBounds j u))}:=
  I.lstUpd hp ho (z9f its n j u) (r.set rv j) (by rw[List.length_set];exact hz) s.toks
 by_cases h0:0<=k
 ·have hk:k.toNat=j:=by
   rw[seqIndex_of h0 h4]at h1
   exact Option.some.inj h1
  exact PySem.W.ki_setAt ho h0 (by omega) (by rw[List.size_toArray,<-hl];exact h4) (by rw[hk];exact⟨_,I',q⟩)
 ·have hk:(k+(its.toArray.size:Int)).toNat=j:=by
   rw[seqIndex_neg (by omega) h3]at h1
   rw[List.size_toArray,<-hl]
   exact Option.some.inj h1
  exact PySem.W.ki_setBack ho (by omega) (by rw[List.size_toArray,<-hl];exact h3) (by omega) (by rw[hk];exact⟨_,I',q⟩)
theorem z3l(lo hi:Option Int)(n:Nat):(sliceBounds lo hi none n).1=((HT.sIx n 0 lo:Nat):Int)/\(sliceBounds lo hi none n).2.1=((HT.sIx n n hi:Nat):Int)/\(sliceBounds lo hi none n).2.2=1:=by
 refine⟨?_,?_,rfl⟩
 ·cases lo with
  |none=>simp[sliceBounds,HT.sIx]
  |some i=>
   simp only[sliceBounds,HT.sIx,Option.getD_none,show(1:Int) > 0 by decide,if_true]
   by_cases h:i<0
   ·simp only[h,if_true]<;>omega
   ·simp only[h,if_false]<;>omega
 ·cases hi with
  |none=>simp[sliceBounds,HT.sIx]
  |some i=>
   simp only[sliceBounds,HT.sIx,Option.getD_none,show(1:Int) > 0 by decide,if_true]
   by_cases h:i<0
   ·simp only[h,if_true]<;>omega
   ·simp only[h,if_false]<;>omega
theorem z2c(its:List Value)(lo hi:Option Int):slicePick its.toArray lo hi none=((its.drop (HT.sIx its.length 0 lo)).take (HT.sIx its.length its.length hi-HT.sIx its.length 0 lo)).toArray:=by
 obtain⟨h1,h2,h3⟩:=z3l lo hi its.toArray.size
 unfold slicePick
 rw[h1,h2,h3]
 simp only[sliceRange_one,pick_run,List.size_toArray]<;>rfl
def rSlL(K:Frag):V->Option Int->Option Int->Hp->VK->Prop:=fun x lo hi H Q=>∃a xs,x=.ref a/\SqL K H a xs/\∀p,H p=none->Q (.ref p) (upd H p (.lst (cutV xs lo hi)))
theorem y0q:SlR X (rSlL X.K):=by
 intro pins s σ H x v vl vu lo hi sl Q I rx hs pl pu h
 obtain⟨a,xs,rfl,hx,q⟩:=h
 cases rx
 obtain⟨its,r,ht,hz⟩:=I.list hx
 have hlen:=r.length
 refine⟨"list",_,slot_list_getitem.lookup,ht.isList.typeIs,?_⟩
 refine wpAny_getItem_list_slice ht.isList hs pl pu .none (by simp) ?_ (by rw[List.size_toArray]<;>omega)
 rw[z2c,<-hlen]
 refine⟨.ref s.heap.objs.size,_,I.laid (t':=s.toks) (o:=.lst (cutV xs lo hi)) (fun b ob q=>Heap.get?_push_of_some _ q) (Nat.le_refl _) ?_,rfl,q _ (I.hok.fresh (Nat.le_refl _))⟩
 exact⟨Nat.le_trans (z0u xs lo hi) hz,_,0,(r.drop (HT.sIx xs.length 0 lo)).take (HT.sIx xs.length xs.length hi-HT.sIx xs.length 0 lo),Heap.get?_push_size _ rfl⟩
theorem z3r:OpR X (compareOp .NotIn) (fun x y H Q=>∃i j,x=.str i/\y=.str j/\Q (.bl (!(!(Builtin.Str.occurrences j i 0 j.length 1).isEmpty))) H):=by
 intro pins s σ H x y v u Q I rx ry h
 obtain⟨i,j,rfl,rfl,q⟩:=h
 obtain⟨t,rfl⟩:=rx
 obtain⟨t',rfl⟩:=ry
 exact notIn_str ⟨.bl _,H,I,rfl,q⟩
theorem q6w:q6k X (.builtin "len") (fun xs H Q=>∃p ys,xs=[.ref p]/\(SqL X.K H p ys\/SqT X.K H p ys)/\Q (.int ys.length) H):=by
 intro pins s σ H xs us Q I r h
 obtain⟨p,ys,rfl,hq,q⟩:=h
 obtain⟨u,rfl,rx⟩:=z3h r
 cases rx
 have hn:=z0n
 rcases hq with hq|hq
 ·obtain⟨its,r',pl,hz⟩:=I.list hq
  have hlen:=r'.length
  exact Calls.call_len_list pl.isList (by simp only[List.size_toArray]<;>omega) ⟨.int ys.length,H,I.tok _,⟨s.toks+1,by rw[List.size_toArray,hlen]⟩,q⟩
 ·obtain⟨its,r',pl,hz⟩:=I.tuple hq
  have hlen:=r'.length
  exact len_tuple pl (by simp only[List.size_toArray]<;>omega) ⟨.int ys.length,H,I.tok _,⟨s.toks+1,by rw[List.size_toArray,hlen]⟩,q⟩
theorem z4v:q6k X (.builtin "len") (fun xs H Q=>∃z,xs=[.str z]/\z.length<=sizeLine/\Q (.int z.length) H):=by
 intro pins s σ H xs us Q I r h
 obtain⟨z,rfl,hz,q⟩:=h
 obtain⟨u,rfl,t,rfl⟩:=z3h r
 have hn:=z0n
 exact len_str (by omega) ⟨.int z.length,H,I.tok _,⟨_,rfl⟩,q⟩
theorem q6v:q6k X (.type "list") (fun xs H Q=>∃p ys,xs=[.ref p]/\(SqL X.K H p ys\/SqT X.K H p ys)/\∀l,H l=none->Q (.ref l) (upd H l (.lst ys))):=by
 intro pins s σ H xs us Q I r h
 obtain⟨p,ys,rfl,hq,q⟩:=h
 obtain⟨u,rfl,rx⟩:=z3h r
 cases rx
 have fin:∀(its:List Value),Vals ys its->ys.length<=sizeLine->∀(h':Heap)(c':Nat),(∀b o',s.heap.get? b=some o'->h'.get? b=some o')->
   h'.get? s.heap.objs.size=some {cls:=.type "list",dict:=none,data:=.seq its.toArray c',slots:=#[]}->EP X pins σ Q (.ref s.heap.objs.size) {s with heap:=h' }:=fun its r' hz h' c' kp e=>
  ⟨.ref s.heap.objs.size,_,I.laid (t':=s.toks) kp (Nat.le_refl _) (show q2y X.prog X.w _ h' _ (.lst ys)from⟨hz,its,c',r',e⟩),rfl,q _ (I.hok.fresh (Nat.le_refl _))⟩
 rcases hq with hq|hq
 ·obtain⟨its,r',pl,hz⟩:=I.list hq
  have hlen:=r'.length
  obtain⟨o,ho,hc,n,hd⟩:=pl.isList
  exact call_list_seq p (.inl rfl) ho hc hd (fun h' c' kp e=>fin its r' hz h' c' kp e) (by simp only[List.size_toArray]<;>omega)
 ·obtain⟨its,r',pl,hz⟩:=I.tuple hq
  have hlen:=r'.length
  obtain⟨o,ho,hc,n,hd⟩:=pl
  exact call_list_seq p (.inr rfl) ho hc hd (fun h' c' kp e=>fin its r' hz h' c' kp e) (by simp only[List.size_toArray]<;>omega)
theorem q8j:q6k X (.type "tuple") (fun xs H Q=>∃p ys,xs=[.ref p]/\((SqL X.K H p ys/\∀l,H l=none->Q (.ref l) (upd H l (.tup ys)))\/(SqT X.K H p ys/\Q (.ref p) H))):=by
 intro pins s σ H xs us Q I r h
 obtain⟨p,ys,rfl,h⟩:=h
 obtain⟨u,rfl,rx⟩:=z3h r
 cases rx
 rcases h with⟨hq,q⟩|⟨hq,q⟩
 ·obtain⟨its,r',pl,hz⟩:=I.list hq
  have hlen:=r'.length
  refine call_tuple_list pl.isList (fun h' kp=>?_) (by simp only[List.size_toArray]<;>omega)
  have I1:Inv X pins σ H {s with heap:=h' }:=I.kept (t':=s.toks) kp
  have I2:Inv X pins σ (upd H h'.objs.size (.tup ys)) {s with heap:=h'.push {cls:=.type "tuple",data:=.seq its.toArray}}:=
   I1.laid (t':=s.toks) (fun b o e=>Heap.get?_push_of_some _ e) (Nat.le_refl _) (show q2y X.prog X.w _ _ _ (.tup ys)from⟨hz,its,r',IsTup.new _ _⟩)
  exact⟨.ref h'.objs.size,_,I2,rfl,q _ (I1.hok.fresh (Nat.le_refl _))⟩
 ·obtain⟨its,r',pl,hz⟩:=I.tuple hq
  exact call_tuple_same pl ⟨.ref p,H,I,rfl,q⟩
def tyV(K:Frag)(T:String)(x:V)(H:Hp):Prop:=match x with
 |.str _=>T = "str"
 |.int _=>T = "int"
 |.ref p=>(T = "list" /\∃xs,SqL K H p xs)\/(T = "tuple" /\∃o,K.lookup p=some o/\o.cls=.type "tuple" /\o.dict=none)\/
   (T = "dict" /\((∃kvs,H p=some (.dK kvs))\/∃kvs,H p=some (.dT kvs)))\/(T = "set" /\∃S n,H p=some (.set S n))
 |_=>False
theorem y8u{pins:List (Addr×Obj)}{σ:St}{H:Hp}{s:Shared}{T:String}{x:V}{v:Value}(I:Inv X pins σ H s)(r:RelV x v)(ty:tyV X.K T x H) :
  s.TypeIs v T/\∀a,v=.ref a->∃ob,s.heap.get? a=some ob/\ob.dict=none:=by
 cases x with
 |str z=>
  obtain⟨t,rfl⟩:=r
  cases(show T = "str" from ty)
  exact⟨typeIs_str s z t,fun _ e=>nomatch e⟩
 |int i=>
  obtain⟨t,rfl⟩:=r
  cases(show T = "int" from ty)
  exact⟨typeIs_int s i t,fun _ e=>nomatch e⟩
 |ref p=>
  cases r
  rcases ty with⟨rfl,xs,hq⟩|⟨rfl,o,hk,hc,hd⟩|⟨rfl,hk⟩|⟨rfl,S,n,hk⟩
  ·obtain⟨its,_,pl,_⟩:=I.list hq
   refine⟨pl.isList.typeIs,fun a e=>?_⟩
   cases e
   obtain⟨o,n,e,c,hd,_⟩:=pl
   exact⟨o,e,hd⟩
  ·refine⟨⟨o,I.kIn p o hk,hc⟩,fun a e=>?_⟩
   cases e
   exact⟨o,I.kIn _ o hk,hd⟩
  ·have z:∃o,s.heap.get? p=some o/\o.ExactDict:=by
    rcases hk with⟨kvs,hk⟩|⟨kvs,hk⟩
    ·obtain⟨_,_,_,_,o,_,_,e,ex,_⟩:=I.hok p _ hk
     exact⟨o,e,ex⟩
    ·obtain⟨_,_,_,_,o,_,_,e,ex,_⟩:=I.hok p _ hk
     exact⟨o,e,ex⟩
   obtain⟨o,e,ex⟩:=z
   refine⟨⟨o,e,ex.1⟩,fun a e2=>?_⟩
   cases e2
   exact⟨o,e,ex.2.1⟩
  ·obtain⟨o,_,_,_,e,ex,_⟩:=I.hok p _ hk
   refine⟨⟨o,e,ex.1⟩,fun a e2=>?_⟩
   cases e2
   exact⟨o,e,ex.2.1⟩
 |_=>exact False.elim ty
def tBM0(K:Frag)(T:String)(r:V->List V->Hp->VK->Prop)(to:TE):TE:=fun σ H Q=>to σ H fun x H1=>tyV K T x H1/\r x [] H1 Q
def tBM(K:Frag)(T:String)(r:V->List V->Hp->VK->Prop)(to:TE)(t:TA):TE:=fun σ H Q=>to σ H fun x H1=>tyV K T x H1/\t σ H1 fun xs H2=>r x xs H2 Q
variable{o e:Expr}{es:List Expr}{to:TE}{t:TA}{name:Str}{apos cpos:Pos}{T id:String}{r:V->List V->Hp->VK->Prop}
theorem x6h(pa:PlainAttrs T)(slot:Slot T name id)(hty:typeOf (.builtin id)=pure (.type "method_descriptor"))(hm:MtR X id r)(ho:PE X o to)
  (hbase:attributeBase o name X.env (eval o X.env)=eval o X.env:=by rfl) (hline:(apos.endLine==cpos.line)=true:=by rfl):PE X (.Call (.Attribute o name apos) [] [] cpos) (tBM0 X.K T r to):=by
 intro pins s σ H Q I h
 refine wpAny_Call_method0_late hbase hline (thn (ho pins s σ H _ I h) fun v s1 hh1=>?_)
 obtain⟨x,H1,I1,r1,ty,q1⟩:=hh1
 obtain⟨h1,h2⟩:=y8u I1 r1 ty
 exact⟨T,id,pa,slot,hty,h1,h2,Calls.callWith_builtin rfl (PySem.evalArgs_none (hm pins s1 σ H1 x [] v [] Q I1 r1 .nil q1))⟩
theorem x9y(pa:PlainAttrs T)(slot:Slot T name id)(hty:typeOf (.builtin id)=pure (.type "method_descriptor"))(hm:MtR X id r)(ho:PE X o to)(ha:PA X (e::es) t)
  (hbase:attributeBase o name X.env (eval o X.env)=eval o X.env:=by rfl)
  (hfew:((backTo cpos (starEach (e::es) X.env)).all (fun x=>!x.1)&&(backToKw cpos (keywordEach [] X.env)).all (fun x=>x.1.isSome)
   && decide ((e::es).length+([]:List Keyword).length+(if ([]:List Keyword).isEmpty then 0 else 1)<30))=true:=by rfl)
  (hline:(apos.endLine==cpos.line)=true:=by rfl) (hs:starEach (e::es) X.env=(false,eval e X.env)::starEach es X.env:=by rfl) (hplain:(backTo cpos (starEach es X.env)).any (·.1)=false:=by rfl) :
  PE X (.Call (.Attribute o name apos) (e::es) [] cpos) (tBM X.K T r to t):=by
 intro pins s σ H Q I h
 refine wpAny_Call_method_late hbase hfew hline rfl (thn (ho pins s σ H _ I h) fun v s1 hh1=>?_)
 obtain⟨x,H1,I1,r1,ty,q1⟩:=hh1
 obtain⟨h1,h2⟩:=y8u I1 r1 ty
 refine⟨T,id,pa,slot,hty,h1,h2,?_⟩
 have hA:=ha cpos pins s1 σ H1 _ I1 q1
 rw[hs]at hA ⊢
 refine Calls.callWith_builtin (by show(false||(backTo cpos (starEach es X.env)).any (·.1))=false;rw[hplain]<;>rfl) (Calls.evalArgs_plain ?_)
 exact thn hA fun us s2 hh2=>by obtain⟨vs,H2,I2,r2,q2⟩:=hh2;exact(hm pins s2 σ H2 x vs v us Q I2 r1 r2 q2)
/- xs.append(e),list.index on a module's tuple .. are MtR facts of 06m -/
end
def MtM(X:Cx)(id:String)(r:V->List V->Hp->VK->Prop):Prop:=
 ∀(pins:List (Addr×Obj))(s:Shared)(σ:St)(H:Hp)(x:V)(xs:List V)(v:Value)(us:List Value)(Q:VK),Inv X pins σ H s->RelV x v->Vals xs us->r x xs H Q->
  wpAny (model X.prog X.w) X.A (call (.builtin id) (v::us)) (EP X pins σ Q) X.xe s
theorem Vals.one:∀{x:V}{us:List Value},Vals [x] us->∃u,us=[u]/\RelV x u
 |_,_,.cons r .nil=>⟨_,rfl,r⟩
theorem Vals.zero:∀{us:List Value},Vals [] us->us=[]
 |_,.nil=>rfl
theorem Vals.dropLast{xs:List V}{us:List Value}(h:Vals xs us):Vals xs.dropLast us.dropLast:=by
 induction h with
 |nil=>exact .nil
 |cons r t ih=>
  cases t with
  |nil=>exact .nil
  |cons q t'=>exact .cons r ih
theorem Vals.eraseIdx:∀{xs:List V}{us:List Value}(i:Nat),Vals xs us->Vals (xs.eraseIdx i) (us.eraseIdx i)
 |_,_,_,.nil=>.nil
 |_,_,0,.cons _ t=>t
 |_,_,i+1,.cons r t=>.cons r (Vals.eraseIdx i t)
theorem Vals.reverse{xs:List V}{us:List Value}(h:Vals xs us):Vals xs.reverse us.reverse:=by
 induction h with
 |nil=>exact .nil
 |cons r t ih=>rw[List.reverse_cons,List.reverse_cons];exact Vals.append ih (.cons r .nil)
theorem Vals.rep{xs:List V}{us:List Value}(h:Vals xs us):∀k:Nat,Vals (List.replicate k xs).flatten (List.replicate k us).flatten
 |0=>.nil
 |k+1=>by
  rw[List.replicate_succ,List.replicate_succ,List.flatten_cons,List.flatten_cons]
  exact Vals.append h (Vals.rep h k)
theorem z9v{α:Type}(l:List α):l.eraseIdx (l.length-1)=l.dropLast:=by
 induction l with
 |nil=>rfl
 |cons a r ih=>
  cases r with
  |nil=>rfl
  |cons b r=>
   have e:(a::b::r).length-1=((b::r).length-1)+1:=by
    have h1:(a::b::r).length=r.length+2:=rfl
    have h2:(b::r).length=r.length+1:=rfl
    omega
   rw[e,List.eraseIdx_cons_succ,ih]
   all_goals rfl
theorem z3w{α:Type}:∀(l:List α)(i:Nat),(l.eraseIdx i).length<=l.length
 |[],_=>Nat.le_refl _
 |_::_,0=>Nat.le_succ _
 |_::r,i+1=>Nat.succ_le_succ (z3w r i)
theorem z4o(its:List Value):∀(k:Nat)(acc:List Value),
  List.foldl (fun x1 x2=>x1++x2) acc.toArray (List.replicate k its.toArray)=(acc++(List.replicate k its).flatten).toArray
 |0,acc=>by simp
 |k+1,acc=>by
  have e:acc.toArray++its.toArray=(acc++its).toArray:=by simp
  have e2:(acc++its)++(List.replicate k its).flatten=acc++(List.replicate (k+1) its).flatten:=by
   rw[List.replicate_succ,List.flatten_cons,List.append_assoc]
  rw[<-e2,<-z4o its k (acc++its),<-e,List.replicate_succ,List.foldl_cons]
section
variable{X:Cx}{pins:List (Addr×Obj)}{σ:St}{H:Hp}{s:Shared}{l b:Addr}{xs ys zs:List V}
theorem Inv.lset{its its':List Value}{n:Nat}{f:Array Value->Array Value}{t':Nat}(I:Inv X pins σ H s)(hH:H l=some (.lst xs))
  (e:s.heap.get? l=some {cls:=.type "list",data:=.seq its.toArray n}) (hf:f its.toArray=its'.toArray) (hv:Vals ys its') (hz:ys.length<=sizeLine) :
  Inv X pins σ (upd H l (.lst ys)) {s with heap:=s.heap.update l (Obj.mapSeq f),toks:=t' }:=by
 have q:=PySem.IsL.update e f
 rw[hf]at q
 refine I.write (x:=l) (e:=l) (by rw[hH];exact trivial) (.inl rfl) (fun b' u hb hu=>(Heap.get?_update_other s.heap (Obj.mapSeq f) (Ne.symm hb)).trans hu) ⟨_,q⟩ ?_
 exact⟨hz,its',_,hv,q⟩
theorem Inv.lnew{its:List Value}{t':Nat}(I:Inv X pins σ H s)(hv:Vals ys its)(hz:ys.length<=sizeLine) :
  Inv X pins σ (upd H s.heap.objs.size (.lst ys)) {s with heap:=s.heap.push {cls:=.type "list",data:=.seq its.toArray},toks:=t' }:=
 I.laid (fun _ _ q=>Heap.get?_push_of_some _ q) (Nat.le_refl _) ⟨hz,its,0,hv,Heap.get?_push_size _ rfl⟩
theorem Inv.fresh(I:Inv X pins σ H s):H s.heap.objs.size=none:=I.hok.fresh (Nat.le_refl _)
theorem Inv.lstM(I:Inv X pins σ H s)(hH:H l=some (.lst xs)):xs.length<=sizeLine/\∃(its:List Value)(n:Nat),Vals xs its/\xs.length=its.length/\s.heap.get? l=some {cls:=.type "list",data:=.seq its.toArray n}:=by
 obtain⟨z,its,n,r,e⟩:=I.hok l _ hH
 exact⟨z,its,n,r,r.length,e⟩
theorem z2l{n:Nat}(h:n<=sizeLine):Builtin.List.listTooLong n=false:=by
 unfold Builtin.List.listTooLong
 exact decide_eq_false (by omega)
end
section
variable{X:Cx}
def x0y:V->List V->Hp->VK->Prop:=fun x vs H Q=>∃l xs y,x=.ref l/\vs=[y]/\H l=some (.lst xs)/\xs.length<sizeLine/\Q .non (upd H l (.lst (xs++[y])))
theorem y2h:MtM X "list.append" x0y:=by
 intro pins s σ H x vs v us Q I rx rv h
 obtain⟨l,xs,y,rfl,rfl,hH,hz,q⟩:=h
 cases rx
 obtain⟨u,rfl,ru⟩:=rv.one
 obtain⟨z,its,n,r,hl,e⟩:=I.lstM hH
 refine call_meets F.slot_list_append ⟨_,e,rfl⟩ F.entry_list_append (F.args_list_append_2 _ _) (PySem.list_append l its.toArray n u (by rw[List.size_toArray];omega)) ⟨e,?_⟩
 refine⟨.non,_,I.lset (its':=its++[u]) hH e (by simp) (r.append (.cons ru .nil)) ?_,rfl,q⟩
 rw[List.length_append,List.length_singleton]
 omega
def x0x:V->List V->Hp->VK->Prop:=fun x vs H Q=>∃l b xs zs,x=.ref l/\vs=[.ref b]/\H l=some (.lst xs)/\H b=some (.lst zs)/\xs.length+zs.length<=sizeLine/\Q .non (upd H l (.lst (xs++zs)))
theorem y2g:MtM X "list.extend" x0x:=by
 intro pins s σ H x vs v us Q I rx rv h
 obtain⟨l,b,xs,zs,rfl,rfl,hH,hB,hz,q⟩:=h
 cases rx
 obtain⟨u,rfl,ru⟩:=rv.one
 cases ru
 obtain⟨z,its,n,r,hl,e⟩:=I.lstM hH
 obtain⟨z2,its2,n2,r2,hl2,e2⟩:=I.lstM hB
 have hsz:its.toArray.size+its2.toArray.size<=sizeLine:=by rw[List.size_toArray,List.size_toArray];omega
 have hlong:¬(!its.toArray.isEmpty&&Builtin.List.listTooLong (its.toArray.size+its2.toArray.size))=true:=by
  rw[z2l hsz,Bool.and_false]
  exact Bool.false_ne_true
 refine call_meets F.slot_list_extend ⟨_,e,rfl⟩ F.entry_list_extend (F.args_list_extend_2 _ _)
  (AutoSeq1.list_extend_list_list_0 l its.toArray n b its2.toArray n2 hlong (by rw[List.size_toArray];omega) (by omega)) ⟨e,e2,?_⟩
 refine⟨.non,_,I.lset (its':=its++its2) hH e (by simp) (r.append r2) ?_,rfl,q⟩
 rw[List.length_append]
 omega
def rPop:V->List V->Hp->VK->Prop:=fun x vs H Q=>∃l xs y,x=.ref l/\vs=[]/\H l=some (.lst xs)/\xs[xs.length-1]?=some y/\Q y (upd H l (.lst xs.dropLast))
theorem x6x:MtM X "list.pop" rPop:=by
 intro pins s σ H x vs v us Q I rx rv h
 obtain⟨l,xs,y,rfl,rfl,hH,hy,q⟩:=h
 cases rx
 have hus:=rv.zero
 subst hus
 obtain⟨z,its,n,r,hl,e⟩:=I.lstM hH
 obtain⟨u,hu,ru⟩:=r.get hy
 have hy':its.toArray[its.toArray.size-1]?=some u:=by
  show its.toArray[its.length-1]?=some u
  rw[<-Array.getElem?_toList,<-hl]
  exact hu
 refine call_meets F.slot_list_pop ⟨_,e,rfl⟩ F.entry_list_pop (F.args_list_pop_1 _) (MeetsSeq.list_pop_last l its.toArray n u hy' (by rw[List.size_toArray];omega)) ⟨e,?_⟩
 refine⟨y,_,I.lset (its':=its.dropLast) hH e ?_ r.dropLast ?_,ru,q⟩
 ·show its.toArray.eraseIdxIfInBounds (its.toArray.size-1)=its.dropLast.toArray
  rw[List.size_toArray,List.eraseIdxIfInBounds_toArray,z9v]
 ·rw[List.length_dropLast]
  omega
def x5e:V->List V->Hp->VK->Prop:=fun x vs H Q=>∃l xs i k y,x=.ref l/\vs=[.int i]/\H l=some (.lst xs)/\-(2 ^ 63)<=i/\i<2 ^ 63/\seqIndex? i xs.length=some k/\xs[k]?=some y/\Q y (upd H l (.lst (xs.eraseIdx k)))
theorem y6x:MtM X "list.pop" x5e:=by
 intro pins s σ H x vs v us Q I rx rv h
 obtain⟨l,xs,i,k,y,rfl,rfl,hH,h1,h2,hk,hy,q⟩:=h
 cases rx
 obtain⟨u,rfl,ru⟩:=rv.one
 obtain⟨t,rfl⟩:=ru
 obtain⟨z,its,n,r,hl,e⟩:=I.lstM hH
 obtain⟨w,hw,rw'⟩:=r.get hy
 refine call_meets F.slot_list_pop ⟨_,e,rfl⟩ F.entry_list_pop (F.args_list_pop_2 _ _)
  (MeetsSeq.list_pop_at l its.toArray n i t k w (fitsIndex_both h1 h2) (by rw[List.size_toArray,<-hl];exact hk) (by rw[<-Array.getElem?_toList];exact hw) (by rw[List.size_toArray];omega)) ⟨e,?_⟩
 refine⟨y,_,I.lset (its':=its.eraseIdx k) hH e ?_ (r.eraseIdx k) ?_,rw',q⟩
 ·show its.toArray.eraseIdxIfInBounds k=(its.eraseIdx k).toArray
  rw[List.eraseIdxIfInBounds_toArray]
 ·have:=z3w xs k
  omega
def rCat:R2:=fun x y H Q=>∃l b xs zs,x=.ref l/\y=.ref b/\H l=some (.lst xs)/\H b=some (.lst zs)/\xs.length+zs.length<=sizeLine/\∀p,H p=none->Q (.ref p) (upd H p (.lst (xs++zs)))
theorem x6t:OpR X (binaryOp .Add) rCat:=by
 intro pins s σ H x y v u Q I rx ry h
 obtain⟨l,b,xs,zs,rfl,rfl,hH,hB,hz,q⟩:=h
 cases rx
 cases ry
 obtain⟨z,its,n,r,hl,e⟩:=I.lstM hH
 obtain⟨z2,its2,n2,r2,hl2,e2⟩:=I.lstM hB
 refine PySem.P.add_list e e2 ?_ (by rw[List.size_toArray,List.size_toArray];omega)
 have ea:its.toArray++its2.toArray=(its++its2).toArray:=by simp
 rw[ea]
 exact⟨.ref _,_,I.lnew (t':=s.toks) (r.append r2) (by rw[List.length_append];omega),rfl,q _ I.fresh⟩
def rRep:R2:=fun x y H Q=>∃l k xs,x=.ref l/\y=.int k/\H l=some (.lst xs)/\-(2 ^ 63)<=k/\k<2 ^ 63/\xs.length*k.toNat<=sizeLine/\
 ∀p,H p=none->Q (.ref p) (upd H p (.lst (List.replicate k.toNat xs).flatten))
theorem x2i{α:Type}(xs:List α)(k:Nat):(List.replicate k xs).flatten.length=k*xs.length:=by
 induction k with
 |zero=>simp
 |succ k ih=>rw[List.replicate_succ,List.flatten_cons,List.length_append,ih,Nat.succ_mul,Nat.add_comm]
theorem x6o:OpR X (binaryOp .Mult) rRep:=by
 intro pins s σ H x y v u Q I rx ry h
 obtain⟨l,k,xs,rfl,rfl,hH,h1,h2,hz,q⟩:=h
 cases rx
 obtain⟨t,rfl⟩:=ry
 obtain⟨z,its,n,r,hl,e⟩:=I.lstM hH
 have hlen:its.toArray.size*k.toNat<=sizeLine:=by rw[List.size_toArray,<-hl];exact hz
 have hcap:¬its.toArray.size*k.toNat > (2 ^ 63-1) / 8:=by
  have:(sizeLine:Nat)<=(2 ^ 63-1) / 8:=by decide
  omega
 have hfit:¬(!Builtin.List.listFitsIndex k)=true:=by
  rw[fitsIndex_both h1 h2]
  exact Bool.false_ne_true
 have hlong:¬Builtin.List.listTooLong (its.toArray.size*k.toNat)=true:=by
  rw[z2l hlen]
  exact Bool.false_ne_true
 have hnew:List.foldl (fun x1 x2=>x1++x2) #[] (List.replicate (if its.toArray.isEmpty=true then 0 else k.toNat) its.toArray)=(List.replicate k.toNat its).flatten.toArray:=by
  have f0:∀m:Nat,List.foldl (fun x1 x2=>x1++x2) #[] (List.replicate m its.toArray)=(List.replicate m its).flatten.toArray:=fun m=>by
   have:=z4o its m []
   rw[List.nil_append]at this
   exact this
  rw[f0]
  cases its with
  |nil=>simp
  |cons a r'=>rw[if_neg (by simp)]
 refine wpAny_binaryOp_repeat_ref (T:= "list") (U:= "int") (by decide) ⟨_,e,rfl⟩ (fun s'=>typeIs_int s' k t) noFill_list_mul F.fills_int_mul F.slot_int_rmul repeat_list F.slot_int_index.lookup
  (call_meets F.slot_int_rmul (typeIs_int s k t) F.entry_int_rmul (F.args_int_rmul_2 _ _) (int___rmul___int_list k t l its.toArray n)
   ⟨e,rfl,⟨_,e,rfl⟩,call_meets F.slot_list_mul ⟨_,e,rfl⟩ F.entry_list_mul (F.args_list_mul_2 _ _) (AutoListH.list___mul___list_int_3 l its.toArray n k t hfit hcap hlong) ⟨e,?_⟩⟩)
 rw[hnew]
 exact⟨.ref _,_,I.lnew (t':=s.toks) (r.rep k.toNat) (by rw[x2i,Nat.mul_comm];exact hz),rfl,q _ I.fresh⟩
end
section
variable{prog:Program}{w:World}{A:Around}{E:Value->Shared->Prop}{s:Shared}
end
section
variable{X:Cx}
end
end L2
namespace Att
open PySem PySem.W PySem.Calls PyProof.Rows
theorem z0r{P:Params}{h:Heap}:∀(ns:List Int)(vs:List Value),WellAll P h vs (ns.map WData.int)->IntsAre vs ns:=by
 intro ns
 induction ns with
 |nil=>
  intro vs w
  rw[List.map_nil]at w
  cases w
  exact .nil
 |cons n ns ih=>
  intro vs w
  rw[List.map_cons]at w
  cases w with
  |cons a b=>
   cases a
   exact .cons _ _ (ih _ b)
theorem y1a {l : OpenLaw} {n : Nat} (hn : l.most = some n) {P : Params} {h : Heap} {args : List WData} {vals : List Value}
  (hpre : l.row.toRowW.claim.pre args = true) (hwl : WellAll P h vals args) :
  ∃ a vs ns, vals = [Value.ref a] /\ args = [WData.list (ns.map WData.int)] /\ h.get? a = some { cls := .type "list", data := .seq vs.toArray } /\ IntsAre vs ns /\ ns.length <= n := by
 have hsh : WShape.hasAll [] args [.list .int] = true := (pre_splitW hpre).1
 have hc : l.pre.holds [] { args := args } = true := (pre_splitW hpre).2
 obtain ⟨d, r, rfl, h1, h2⟩ := hasAllW_cons hsh
 obtain rfl := hasAllW_nil h2
 obtain ⟨xs, rfl, h3⟩ := hasW_list h1
 obtain ⟨ns, rfl⟩ := items_int h3
 have hlen : ns.length <= n := by
  unfold OpenLaw.pre at hc
  have h4 : (WTm.not (.lt (.lit (.int (n : Int))) (.len (.arg 0)))).holds [] { args := [.list (ns.map .int)] } = true := by
   have h4 := (holds_andW hc).1
   rw [hn] at h4
   exact h4
  have h5 := condW_of h4 (w_not (w_lt w_lit (w_len_list (w_arg rfl))))
  rw [List.length_map] at h5
  refine Nat.le_of_not_lt fun q => ?_
  have q' : (n : Int) < ((ns.length : Nat) : Int) := by omega
  first
   | (rw [decide_eq_true q'] at h5; exact absurd h5 (by decide))
   | (simp at h5; omega)
 cases hwl with
 | cons w1 w2 =>
  cases w2
  cases w1 with
  | list ho hall => exact ⟨_, _, ns, rfl, rfl, ho, z0r ns _ hall, hlen⟩
theorem y1m(l:OpenLaw)(args:List WData):l.row.toRowW.claim.post args (.bool true) args=true:=
 postW_of (r:=l.row.toRowW) (X:=(true==true))
  (show WShape.has [] (.bool true) .bool=true by first|rfl|decide|simp[WShape.has,WShape.arms,WShape.armsAll])
  (show(WTm.eq .res (.lit (.bool true))).value [] {args:=args,res:=some (.bool true),after:=args}=some (.bool (true==true))from w_eq_bool (w_res rfl) w_lit) rfl
theorem attach_call{l:OpenLaw}{n:Nat}{q:Program}{loose:List Str}{XP:(Str->Option Value)->Heap->Prop}{YP:World->Heap->Prop}{d:DefRec}
  (hn:l.most=some n) (hdf:d.params.defaults=[])
  (call:∀(w:World)(s₀ s₁:Shared)(mg mb:Str->Option Value)(fa:Addr)(o:Obj)(pm cd doc:Value)(a:Addr)(vs:List Value)(ns:List Int),
   Ground q loose [] XP w s₀ mg mb s₁.heap->YP w s₁.heap->
   s₁.heap.get? fa=some o->o.data=.func (docDef d.name d.params d.body d.scope pm cd doc)->s₁.heap.CodeRec cd d.name->mg d.name=some (.ref fa)->
   s₁.heap.get? a=some {cls:=.type "list",data:=.seq vs.toArray}->IntsAre vs ns->ns.length<=n->s₁.gens=#[]->
   codeAny (model l.prog w) callerA (.call (.ref fa) ⟨[.ref a],[]⟩) (fun r s'=>r=.ok (.ret (.bool true))/\OldK s₁.heap s'.heap/\s'.os=s₁.os/\AllBare s'.gens) s₁) :
  WalkO q loose XP YP l.row.toRowW d [] (fun f vs=>PySem.call f vs):=by
 intro w s₀ s₁ mg mb G Y fa o pm cd doc dV kV ho hd hcd hD hmg hg args vals as hpre hlay hrd hwl hlo
 obtain rfl:dV=.none:=Dflts.none hD hdf
 obtain rfl:kV=.none:=Dflts.noKw hD
 obtain⟨a,vs,ns,rfl,rfl,hobj,hints,hlen⟩:=y1a hn hpre hwl
 refine enter_call (codeAny_mono (call w s₀ s₁ mg mb fa o pm cd doc a vs ns G Y ho (fd_plain hd) hcd hmg hobj hints hlen hg) fun r s' hq=>?_)
 obtain⟨rfl,h2,h3,h4⟩:=hq
 exact⟨.inl ⟨.bool true,.bool true,[],rfl,fun _=>rfl,.bool true,y1m l _,fun _=>⟨List.Pairwise.nil,fun _ hm=>(nomatch hm)⟩⟩,h2,h3,h4⟩
section
variable{prog:Program}{w:World}{A:Around}{E:Value->Shared->Prop}{s:Shared}{K:Frag}
end
end Att
namespace L2
open PySem PySem.Spec PyProof.Rows
theorem q7t:∀{vs:List Value}{ns:List Int},IntsAre vs ns->Vals (ns.map V.int) vs
 |_,_,.nil=>.nil
 |_,_,.cons n t h=>.cons ⟨t,rfl⟩ (q7t h)
def Only(H:Hp):Prop:=∀b,H b=none\/∃o xs,H b=some (.frz o (.lst xs))
theorem y7d{P:Program}{w:World}{K:Frag}{mg mb:Str->Option Value}{CX:CXT}{k:Nat}{fa a:Addr}{fd:FuncData}{x:Str}{sp:Sp}{s₁:Shared}{vs:List Value}{ns:List Int}
  (KX:K.In s₁.heap) (hns:s₁.heap.Ns mainGlobals mg) (hb:s₁.heap.Ns builtinsNs mb) (hbb:∀x:Str,x≠ "__name__" ->mb x=bootBuiltins x) (hlim:s₁.heap.NoLimit) (hg:s₁.gens=#[])
  (ha:s₁.heap.get? a=some {cls:=.type "list",data:=.seq vs.toArray}) (hi:IntsAre vs ns) (hl:ns.length<=sizeLine) (hr:Room k callerA)
  (F:∀base:Heap,K.In base->base.Ns mainGlobals mg->FnOk P w K mg base CX k fa fd [x] sp) (hbind:∀(s:Shared)(u:Value),BindsTo s fd ⟨[u],[]⟩ [(x,u)])
  (hsp:∀H:Hp,Only H->SqL K H a (ns.map V.int)->sp [.ref a] H (fun v _=>v=.bl true) fun _ _ _=>False)
  (hCX:∀H e s',CX [] H s₁ (fun _ _ _=>False) e s'->False) :
  codeAny (model P w) callerA (.call (.ref fa) ⟨[.ref a],[]⟩) (fun r s'=>r=.ok (.ret (.bool true))/\OldK s₁.heap s'.heap/\s'.os=s₁.os/\AllBare s'.gens) s₁:=by
 have rv:=q7t hi
 have lenV:=hi.length
 have core:∀H:Hp,Only H->SqL K H a (ns.map V.int)->HOk P w H s₁.heap->(∀b,H b≠none->b=a)->(H a≠none->K.lookup a=none)->
   codeAny (model P w) callerA (.call (.ref fa) ⟨[.ref a],[]⟩) (fun r s'=>r=.ok (.ret (.bool true))/\OldK s₁.heap s'.heap/\s'.os=s₁.os/\AllBare s'.gens) s₁:=by
  intro H hO hS hok hA hK
  have base_of:∀{b:Addr}{o:Obj},s₁.heap.get? b=some o->H b=none->(hidT s₁.heap H).get? b=some o:=fun e n=>y7n e n
  have noA:∀{b:Addr}{o:Obj}{es:Array DictEntry}{ep:Nat},s₁.heap.get? b=some o->o.data=.dict es ep->H b=none:=fun {b o es ep} e d=>by
   cases q:H b with
   |none=>rfl
   |some u=>
    have e':b=a:=hA b (by rw[q];simp)
    subst e'
    rw[ha]at e;cases e
    have d':Data.seq vs.toArray _=Data.dict es ep:=d
    cases d'
  have nsK:∀{b:Addr}{m:Str->Option Value},s₁.heap.Ns b m->(hidT s₁.heap H).Ns b m:=fun {b m} ⟨o,es,ep,e,d,r⟩=>⟨o,es,ep,base_of e (noA e d),d,r⟩
  have hKb:K.In (hidT s₁.heap H):=fun b o e=>base_of (KX b o e) (by
   cases q:H b with
   |none=>rfl
   |some u=>
    have e':b=a:=hA b (by rw [q];simp)
    subst e'
    rw [hK (by rw [q];simp)]at e;cases e)
  have hM:Mod K mg (hidT s₁.heap H):=⟨hKb,nsK hns,⟨mb,nsK hb,hbb⟩,let ⟨mc,h1,h2⟩:=hlim;⟨mc,nsK h1,h2⟩⟩
  have e0:Env0 P w K mg (hidT s₁.heap H) callerA [] s₁ H:=⟨rfl,hM,fun b o e=>x1y e,Nat.le_of_eq (y3e _ _),trivial,fun b hb=>absurd (show b∈([]:List Addr)from hb) (by simp),hok,.of_eq hg⟩
  refine codeAny_mono ((F _ hKb (nsK hns)).run callerA [] s₁ H ⟨[.ref a],[]⟩ [.ref a] [.ref a] _ _ hr e0 (hbind s₁ (.ref a)) (.cons rfl .nil) (hsp H hO hS)) fun r s' h=>?_
  cases r with
  |error e=>exact(hCX H e s' h).elim
  |ok fl=>
   cases fl with
   |next=>exact False.elim h
   |brk=>exact False.elim h
   |cont=>exact False.elim h
   |ret u=>
    obtain⟨v,H',os,bare,un,hok',r',q⟩:=h
    have q':v=.bl true:=q
    subst q'
    obtain rfl:u=Value.bool true:=r'
    refine⟨rfl,OldK.of_keep fun b o e=>?_,os,bare⟩
    cases q:H b with
    |none=>exact un.keep b o e q (by intro z;exact absurd (show b∈([]:List Addr)from z) (by simp)) (by simp)
    |some u=>
     rcases hO b with z|⟨ob,xs,z⟩
     ·rw[q]at z;cases z
     ·have z2:=un.frzs b ob _ z
      obtain⟨e1,_⟩:=hok b _ z
      obtain⟨e2,_⟩:=hok' b _ z2
      rw[e]at e1;cases e1
      exact e2
 cases hk:K.lookup a with
 |some o=>
  have e:=KX a o hk
  rw[ha]at e
  cases e
  refine core (fun _=>none) (fun _=>.inl rfl) (.inr ⟨_,vs.toArray,_,hk,rfl,rfl,rfl,by rw[List.size_toArray,lenV];exact hl,by simpa using rv⟩) (fun b u z=>by have z':(none:Option HO)=some u:=z;cases z') (fun b z=>absurd rfl z) fun z=>absurd rfl z
 |none=>
  refine core (fun b=>if b=a then some (.frz {cls:=.type "list",data:=.seq vs.toArray} (.lst (ns.map V.int)))else none) (fun b=>?_) (.inl (.inr ⟨{cls:=.type "list",data:=.seq vs.toArray},if_pos rfl⟩)) (fun b u z=>?_) (fun b z=>?_) fun _=>hk
  ·by_cases hb:b=a
   ·exact .inr ⟨_,_,if_pos hb⟩
   ·exact .inl (if_neg hb)
  ·by_cases hb:b=a
   ·have z':=(if_pos hb).symm.trans z
    cases z'
    subst hb
    exact⟨ha,by rw[List.length_map];exact hl,vs,_,rv,ha⟩
   ·have z':=(if_neg hb).symm.trans z
    cases z'
  ·by_cases hb:b=a
   ·exact hb
   ·exact absurd (if_neg hb) z
theorem y0f{l:PySem.W.OpenLaw}{n k:Nat}{q:Program}{loose:List Str}{XP:(Str->Option Value)->Heap->Prop}{YP:World->Heap->Prop}{d:DefRec}{K:Params->Frag}{CX:World->CXT}{sp:World->Sp}{x:Str}
  (hn:l.most=some n) (hn2:n<=sizeLine) (hdf:d.params.defaults=[]) (hr:Room k callerA)
  (hY:∀(w:World)(h:Heap),YP w h->(K w.params).In h)
  (F:∀(w:World)(mg:Str->Option Value)(fa:Addr)(h:Heap),(K w.params).In h->h.Ns mainGlobals mg->mg d.name=some (.ref fa)->
   ∃fd:FuncData,(∀(s:Shared)(u:Value),BindsTo s fd ⟨[u],[]⟩ [(x,u)])/\
    ∀base:Heap,(K w.params).In base->base.Ns mainGlobals mg->FnOk l.prog w (K w.params) mg base (CX w) k fa fd [x] (sp w))
  (hsp:∀(w:World)(H:Hp)(a:Addr)(ns:List Int),ns.length<=n->Only H->SqL (K w.params) H a (ns.map V.int)->sp w [.ref a] H (fun v _=>v=.bl true) fun _ _ _=>False)
  (hCX:∀(w:World)(H:Hp)(s:Shared)(e:Value)(s':Shared),CX w [] H s (fun _ _ _=>False) e s'->False) :
  PySem.W.WalkO q loose XP YP l.row.toRowW d [] (fun f vs=>PySem.call f vs):=by
 refine Att.attach_call hn hdf fun w s₀ s₁ mg mb fa o pm cd doc a vs ns G Y ho hd hcd hmg hobj hints hlen hg=>?_
 have KX:=hY w _ Y
 obtain⟨fd,hb,hF⟩:=F w mg fa _ KX G.T.g hmg
 exact y7d KX G.T.g G.T.b G.T.builtins G.T.nolimit hg hobj hints (Nat.le_trans hlen hn2) hr hF hb (fun H hO hS=>hsp w H a ns hlen hO hS) fun H e s'=>hCX w H s₁ e s'
end L2
/- THE LAST THEOREM (shape;LID,My.* are yours):
   My.Adr: a structure of the addresses that your layer names (classes,functions);My.Txt K t: a structure (Prop) of the equations over K;
   My.txt_mk:{K} {implicit addresses ..} (e1:nsIn K mainGlobals "law" = some (some (.ref f))) (e2:K.lookup f=some ⟨oc,od,.func (fnOf "law" "law" params body scope dV kV doc pm an cdv ct),sl⟩) (e3:codeIn K cdv "law" = true) ..:∃t,My.Txt K t
set_option maxRecDepth 100000 in
set_option maxHeartbeats 0 in
theorem PySem.Challenge.cw_LID_holds : PySem.Challenge.rw_LID.Holds := by
 w_on;o_law;k_head;(case hw => w_witness2)
 k_fill
 refine L2.y0f (l := PySem.Challenge.rw_LID) (n := 63) (k := 40) (x := "script") (CX := fun w => ..) (sp := fun _ => My.sp_law) rfl (by decide) rfl ⟨rfl, by decide, by decide⟩ (fun w h Y => PySem.W.kIn_of Y) ?F ?S ?C
 case F =>
  intro w mg fa h KX G hmg
  have T : ∃ t, My.Txt (L2.KOf KX) t := by
   dsimp only[L2.KOf]                          -- K must stand as «<heap const> w.params» for k_is
   refine' My.txt_mk ?e1 ?e2 ?e3 ..
   (case e1 => PySem.W.k_is)                    -- in the order: a name -> its address -> its object -> its parts
   (case e2 => PySem.W.k_is)
   ..
  obtain⟨t, T⟩ := T
  have e0 := hmg.symm.trans (PySem.W.mg_of KX G T.law)
  cases e0                                       -- fa is the law's own address
  exact⟨_, fun s u => .of_eq rfl, fun base kb nb => My.law_fn T kb nb⟩     -- if «.of_eq rfl» comes too early: refine' ⟨_, ?b, fun base kb nb => My.law_fn T kb nb⟩;exact fun s u => .of_eq rfl
 case S => exact fun w H a ns hl hO hS => ..
 case C => exact ..
(the tactic k_is has no namespace: write k_is) -/
namespace L2
open PySem PySem.Spec PyProof.Rows
def q8s(s:Stmt):Arguments:=match s with
 |.FunctionDef _ a _ _ _ _ _ _ _ _=>a
 |_=>{posonlyargs:=[],args:=[],vararg:=none,kwonlyargs:=[],kw_defaults:=[],kwarg:=none,defaults:=[]}
def q6h(s:Stmt):List Stmt:=match s with
 |.FunctionDef _ _ b _ _ _ _ _ _ _=>b
 |_=>[]
def q1z(s:Stmt):Scope:=match s with
 |.FunctionDef _ _ _ _ _ _ sc _ _ _=>sc
 |_=>{kind:=.function,names:=[],isGenerator:=false,isCoroutine:=false}
abbrev E0:XK:=fun _ _ _=>False
structure Fun(K:Frag)(x qual:Str)(st:Stmt)(f:Addr)(fd:FuncData):Prop where
 ex:∃(oc:Value)(od:Option Addr)(kV doc pm:Value)(an:Option Addr)(cdv ct:Value)(osl:Array (Option Value)),
  fd=PySem.W.fnOf x qual (q8s st) (q6h st) (q1z st) .none kV doc pm an cdv ct/\K.lookup f=some ⟨oc,od,.func fd,osl⟩/\PySem.W.codeIn K cdv qual=true
 kp:PySem.W.keepIn K (.ref f)=true
section
variable{P:Program}{w:World}{K:Frag}{mg:Str->Option Value}{base:Heap}
theorem Fun.binds{x qual:Str}{st:Stmt}{f:Addr}{fd:FuncData}{ps:List Str}(F:Fun K x qual st f fd)
  (h:∀(kV doc pm:Value)(an:Option Addr)(cdv ct:Value)(us:List Value),us.length=ps.length->bindArgs (PySem.W.fnOf x qual (q8s st) (q6h st) (q1z st) .none kV doc pm an cdv ct) ⟨us,[]⟩=pure (ps.zip us)):z3f K fd ps []:=by
 obtain⟨oc,od,kV,doc,pm,an,cdv,ct,osl,rfl,lk,hcd⟩:=F.ex
 exact .all (h kV doc pm an cdv ct)
theorem x8k{x qual:Str}{st:Stmt}{f:Addr}{oc:Value}{od an:Option Addr}{osl:Array (Option Value)}{kV doc pm cdv ct:Value}(l:K.lookup f=some ⟨oc,od,.func (PySem.W.fnOf x qual (q8s st) (q6h st) (q1z st) .none kV doc pm an cdv ct),osl⟩)
  (c:PySem.W.codeIn K cdv qual=true) (k:PySem.W.keepIn K (.ref f)=true):Fun K x qual st f (PySem.W.fnOf x qual (q8s st) (q6h st) (q1z st) .none kV doc pm an cdv ct):=⟨⟨oc,od,kV,doc,pm,an,cdv,ct,osl,rfl,l,c⟩,k⟩
end
section
variable{X:Cx}
end
theorem ite2{c A B:Prop} [Decidable c] (h1:c->A) (h2:¬c->B):if c then A else B:=by
 by_cases h:c
 ·rw[if_pos h]
  exact h1 h
 ·rw[if_neg h]
  exact h2 h
def Same(H H':Hp):Prop:=∀b o,H b=some o->H' b=some o
structure Fly(e:Addr)(cls:Value)(own:List Addr)(h:Heap):Prop where
 is:∃(oe:Obj)(vs:Array Value)(hd:Value),h.get? e=some oe/\oe.cls=cls/\oe.data=.fields vs/\vs[1]?=some hd/\
  (hd=.none\/∃(T:Addr)(oT:Obj)(ts:Array Value),hd=.ref T/\T∈own/\T≠e/\h.get? T=some oT/\oT.data=.fields ts/\ts[3]?=some .none)
structure Past(fs own:List Addr)(h h':Heap):Prop where
 keep:∀b o,h.get? b=some o->b∉own->b∉fs->h'.get? b=some o
 slot:∀b o,h.get? b=some o->b∉own->b∈fs->∃sl,h'.get? b=some {o with slots:=sl}
 there:∀b o,h.get? b=some o->∃o',h'.get? b=some o'
theorem Past.refl(fs own:List Addr)(h:Heap):Past fs own h h:=⟨fun _ _ q _ _=>q,fun _ o q _ _=>⟨o.slots,q⟩,fun _ o q=>⟨o,q⟩⟩
theorem Past.trans{fs own:List Addr}{h1 h2 h3:Heap}(a:Past fs own h1 h2)(b:Past fs own h2 h3):Past fs own h1 h3 where
 keep:=fun c o q n m=>b.keep c o (a.keep c o q n m) n m
 slot:=fun c o q n m=>by
  obtain⟨sl,q1⟩:=a.slot c o q n m
  obtain⟨sl2,q2⟩:=b.slot c _ q1 n m
  exact⟨sl2,q2⟩
 there:=fun c o q=>by
  obtain⟨o1,q1⟩:=a.there c o q
  exact b.there c o1 q1
theorem Past.mono{fs own own':List Addr}{h h':Heap}(a:Past fs own h h')(k:∀b∈own,b∈own'):Past fs own' h h':=
 ⟨fun b o q n m=>a.keep b o q (fun z=>n (k b z)) m,fun b o q n m=>a.slot b o q (fun z=>n (k b z)) m,a.there⟩
theorem z9b{fs own:List Addr}{h h':Heap}(x:Heap.SlotsOnly fs h h'):Past fs own h h' where
 keep:=fun b o q _ m=>by rw[x.2.1 b m];exact q
 slot:=fun b o q _ _=>x.2.2 b o q
 there:=fun b o q=>let ⟨_,z⟩:=x.2.2 b o q;⟨_,z⟩
theorem y1t{fs own:List Addr}(h:Heap)(o:Obj):Past fs own h (h.push o) where
 keep:=fun b u q _ _=>Heap.get?_push_of_some o q
 slot:=fun b u q _ _=>⟨u.slots,Heap.get?_push_of_some o q⟩
 there:=fun b u q=>⟨u,Heap.get?_push_of_some o q⟩
theorem q8o{fs own:List Addr}{h:Heap}{a:Addr}{oa:Obj}{vs:Array Value}(g:Array Value->Array Value)(ha:a∈own)(q:h.get? a=some oa)(hd:oa.data=.fields vs):Past fs own h (h.update a (Obj.mapFields g)) where
 keep:=fun b u z n _=>by rw[Heap.get?_update_other _ _ (fun w=>n (by rw[<-w];exact ha))];exact z
 slot:=fun b u z n _=>⟨u.slots,by rw[Heap.get?_update_other _ _ (fun w=>n (by rw[<-w];exact ha))];exact z⟩
 there:=fun b u z=>by
  by_cases w:a=b
  ·subst w
   exact⟨_,Heap.get?_update_self _ q (Obj.isFreed_of_fields (Obj.data_mapFields hd g))⟩
  ·exact⟨u,by rw[Heap.get?_update_other _ _ w];exact z⟩
section
variable{M:Model}{A:Around}{E:Value->Shared->Prop}{s:Shared}
theorem z7q{base:Heap}{env:Env}{outer:List Env}{L e:Addr}{oe:Obj}{vs:Array Value}{head:Value}{hn:Bool}{own:List Addr}{Q:Unit->Shared->Prop}(hfr:A.frames=some (env::outer))(hl:s.heap.FunFrames base (env::outer))
  (hf:env.frame=some L) (he:s.heap.get? e=some oe) (hd:oe.data=.fields vs) (hsz:1<vs.size) (ho:e∈own)
  (h:∀h' T,s.heap.get? T=none->Past ((env::outer).filterMap (·.frame)) own s.heap h'->Fly e oe.cls [T] h'->Q () {s with heap:=h' }) :
  wpAny M A (do let a <-frameOf env;let pl <-entryPlaceOf L hn;let b <-EntryCells.newEntry head a .none (rawInt L) .none pl;setField (.ref e) 1 b) (fun _ s'=>wpAny M A (setFlight (.ref e) none) Q E s') E s:=by
 have nfr:e∉(env::outer).filterMap (·.frame):=fun z=>by
  obtain⟨-,o,q,nd⟩:=hl.mem z
  rw[he]at q;cases q
  exact nd vs hd
 refine wpAny_bind (wpAny_frameOf_fun hfr hl hf fun g1 s1=>wpAny_bind (wpAny_entryPlaceOf fun pl hpl=>?_))
 have P1:Past ((env::outer).filterMap (·.frame)) own s.heap g1:=z9b s1
 unfold EntryCells.newEntry newFields
 refine wpAny_bind (wpAny_newObj_type ?_ (hpl.sizeOk5 _ _ _ _ _))
 have e1:g1.get? e=some oe:=by rw[s1.2.1 e nfr];exact he
 generalize hto:({cls:=.type "traceback",dict:=none,data:=.fields ([head,.ref L,.none,rawInt L,.none]++(if pl.isEmpty then List.replicate 6 Value.none else pl)).toArray}:Obj)=to
 have P2:Past ((env::outer).filterMap (·.frame)) own g1 (g1.push to):=y1t g1 to
 have e2:=Heap.get?_push_of_some (h:=g1) to e1
 have Tnew:s.heap.get? g1.objs.size=none:=by
  cases q:s.heap.get? g1.objs.size with
  |none=>rfl
  |some o=>exact absurd (Heap.lt_size q) (by rw[s1.1];exact Nat.lt_irrefl _)
 have T2:(g1.push to).get? g1.objs.size=some to:=Heap.get?_push_size g1 (by subst hto;rfl)
 refine wpAny_setField e2 hd hsz ?_
 have Te:g1.objs.size≠e:=Nat.ne_of_gt (Heap.lt_size e1)
 have P3:Past ((env::outer).filterMap (·.frame)) own (g1.push to) _:=q8o (·.setIfInBounds 1 (Value.ref g1.objs.size)) ho e2 hd
 have d3:=Obj.data_mapFields hd (·.setIfInBounds 1 (Value.ref g1.objs.size))
 have e3:=Heap.get?_update_self (Obj.mapFields (·.setIfInBounds 1 (Value.ref g1.objs.size))) e2 (Obj.isFreed_of_fields d3)
 have T3:=(Heap.get?_update_other (g1.push to) (Obj.mapFields (·.setIfInBounds 1 (Value.ref g1.objs.size))) (Ne.symm Te)).trans T2
 have tod:to.data=.fields ([head,.ref L,.none,rawInt L,.none]++(if pl.isEmpty then List.replicate 6 Value.none else pl)).toArray:=by subst hto;rfl
 unfold setFlight
 refine wpAny_bind (wpAny_field e3 d3 (x:=.ref g1.objs.size) (by simp[hsz]) ?_)
 rw[if_pos (show(Value.ref g1.objs.size != Value.none)=true by simp)]
 have sz3:3<([head,.ref L,.none,rawInt L,.none]++(if pl.isEmpty then List.replicate 6 Value.none else pl)).toArray.size:=by
  simp only[List.size_toArray,List.length_append,List.length_cons,List.length_nil];omega
 refine wpAny_setField T3 tod sz3 (h _ g1.objs.size Tnew ?_ ?_)
 ·have P:=(P1.trans P2).trans P3
  have nT:∀b u,s.heap.get? b=some u->g1.objs.size≠b:=fun b u z w=>by rw[w,z]at Tnew;cases Tnew
  refine⟨fun b u z n m=>?_,fun b u z n m=>?_,fun b u z=>?_⟩
  ·rw[Heap.get?_update_other _ _ (nT b u z)]
   exact P.keep b u z n m
  ·obtain⟨sl,q⟩:=P.slot b u z n m
   exact⟨sl,by rw[Heap.get?_update_other _ _ (nT b u z)];exact q⟩
  ·obtain⟨o',q⟩:=P.there b u z
   exact⟨o',by rw[Heap.get?_update_other _ _ (nT b u z)];exact q⟩
 ·have T4:=Heap.get?_update_self (Obj.mapFields (·.setIfInBounds 3 ((none:Option Addr).elim Value.none fun f=>rawInt f))) T3 (Obj.isFreed_of_fields (Obj.data_mapFields tod _))
  refine⟨_,_,.ref g1.objs.size,?_,Obj.cls_mapFields _ _,d3,by simp[hsz],.inr ⟨g1.objs.size,_,_,rfl,by simp,Te,T4,Obj.data_mapFields tod _,?_⟩⟩
  ·rw[Heap.get?_update_other _ _ Te]
   exact e3
  ·rw[Array.getElem?_setIfInBounds_self_of_lt sz3]
   rfl
theorem z7r{base:Heap}{env:Env}{outer:List Env}{L e:Addr}{cls:Value}{own:List Addr}{Q:Unit->Shared->Prop}(hfr:A.frames=some (env::outer))(hl:s.heap.FunFrames base (env::outer))(hf:env.frame=some L)(F:Fly e cls own s.heap)
  (h:∀h' T,s.heap.get? T=none->Past ((env::outer).filterMap (·.frame)) (e::own) s.heap h'->Fly e cls [T] h'->Q () {s with heap:=h' }):wpAny M A (noteFrame (.ref e) env) (fun _ s2=>wpAny M A (setFlight (.ref e) none) Q E s2) E s:=by
 obtain⟨oe,vs,hd,he,hc,hdt,h1,hh⟩:=F.is
 subst hc
 have hsz:1<vs.size:=(Array.getElem?_eq_some_iff.mp h1).1
 unfold noteFrame
 simp only[hf]
 refine wpAny_bind (wpAny_field he hdt h1 ?_)
 rcases hh with rfl|⟨T,oT,ts,rfl,hT,Te,gT,dT,h3⟩
 ·rw[if_neg (by decide)]
  exact z7q hfr hl hf he hdt hsz (by simp) h
 ·rw[if_pos (show(Value.ref T != Value.none)=true by simp)]
  refine wpAny_bind (wpAny_field gT dT h3 ?_)
  rw[if_neg (show ¬((Value.none==rawInt L)=true) by simp[rawInt])]
  refine wpAny_bind (wpAny_setField gT dT (Array.getElem?_eq_some_iff.mp h3).1 ?_)
  have P:Past ((env::outer).filterMap (·.frame)) (e::own) s.heap _:=q8o (·.setIfInBounds 3 Value.none) (List.mem_cons_of_mem _ hT) gT dT
  have hl2:(s.heap.update T (Obj.mapFields (·.setIfInBounds 3 Value.none))).FunFrames base (env::outer):=hl.of_keeps fun b o q nd=>⟨o,by
   rw [Heap.get?_update_other _ _ (fun w=>by subst w;rw [gT]at q;cases q;exact nd ts dT)];exact q,rfl⟩
  refine z7q (own:=e::own) hfr hl2 hf (oe:=oe) (by rw[Heap.get?_update_other _ _ Te];exact he) hdt hsz (by simp) fun h' T' n' P' F'=>h h' T' ?_ (P.trans P') F'
  cases q:s.heap.get? T' with
  |none=>rfl
  |some o=>
   obtain⟨o',z⟩:=P.there T' o q
   rw[z]at n'
   cases n'
theorem y2o{base:Heap}{env:Env}{outer:List Env}{L e:Addr}{cls:Value}{own:List Addr}{Q:Unit->Shared->Prop}(hfr:A.frames=some (env::outer))(hl:s.heap.FunFrames base (env::outer))(hf:env.frame=some L)(F:Fly e cls own s.heap)
  (h:∀h' T,s.heap.get? T=none->Past ((env::outer).filterMap (·.frame)) (e::own) s.heap h'->Fly e cls [T] h'->Q () {s with heap:=h' }):wpAny M A (leaving env (.ref e)) Q E s:=by
 unfold leaving
 exact wpAny_bind (z7r hfr hl hf F h)
theorem y7e{fs:List Addr}{e T:Addr}{cls:Value}{Q:Unit->Shared->Prop}(F:Fly e cls [T] s.heap)(h:∀h',Past fs [T] s.heap h'->Fly e cls [T] h'->Q () {s with heap:=h' }):wpAny M A (setFlight (.ref e) none) Q E s:=by
 obtain⟨oe,vs,hd,he,hc,hdt,h1,hh⟩:=F.is
 unfold setFlight
 refine wpAny_bind (wpAny_field he hdt h1 ?_)
 rcases hh with rfl|⟨T',oT,ts,rfl,hT,Te,gT,dT,h3⟩
 ·rw[if_neg (by decide)]
  exact wpAny_pure (h s.heap (Past.refl _ _ _) ⟨oe,vs,.none,he,hc,hdt,h1,.inl rfl⟩)
 ·have:T'=T:=by simpa using hT
  subst this
  rw[if_pos (show(Value.ref T' != Value.none)=true by simp)]
  have s3:=(Array.getElem?_eq_some_iff.mp h3).1
  have T4:=Heap.get?_update_self (Obj.mapFields (·.setIfInBounds 3 ((none:Option Addr).elim Value.none fun f=>rawInt f))) gT (Obj.isFreed_of_fields (Obj.data_mapFields dT _))
  refine wpAny_setField gT dT s3 (h _ (q8o _ (by simp) gT dT) ⟨oe,vs,.ref T',by rw[Heap.get?_update_other _ _ Te];exact he,hc,hdt,h1,.inr ⟨T',_,_,rfl,by simp,Te,T4,Obj.data_mapFields dT _,?_⟩⟩)
  rw[Array.getElem?_setIfInBounds_self_of_lt s3]
  rfl
end
def CXE(P:Program)(w:World):CXT:=fun outer H s E e s'=>∃(a:Addr)(cls:Value)(own:List Addr)(H':Hp),e=.ref a/\s'.os=s.os/\AllBare s'.gens/\Un (frs outer) [] H H' s.heap s'.heap/\HOk P w H' s'.heap/\Fly a cls own s'.heap/\
 (∀b∈a::own,s.heap.get? b=none/\H' b=none)/\E cls none H'
theorem HOk.past{P:Program}{w:World}{H:Hp}{h h':Heap}{fs own:List Addr}(ok:HOk P w H h)(p:Past fs own h h')(n1:∀b∈fs,H b=none)(n2:∀b∈own,H b=none):HOk P w H h':=fun a o q=>
 (ok a o q).stay (fun b u hb z=>p.keep b u z (fun m=>by
   rcases hb with rfl|hb
   ·rw [n2 _ m]at q;cases q
   ·rw [n2 _ m]at hb;cases hb) (fun m=>by
   rcases hb with rfl|hb
   ·rw [n1 _ m]at q;cases q
   ·rw [n1 _ m]at hb;cases hb)) (fun _ q=>q) fun _ _ q=>q
theorem q2y.ex{P:Program}{w:World}{H:Hp}{h:Heap}{a:Addr}{o:HO}(x:q2y P w H h a o):∃u,h.get? a=some u:=by
 cases o with
 |lst xs=>obtain⟨_,_,_,_,e⟩:=x;exact⟨_,e⟩
 |tup xs=>obtain⟨_,_,_,_,e,_⟩:=x;exact⟨_,e⟩
 |dK kvs=>obtain⟨_,_,_,_,o,_,_,e,_⟩:=x;exact⟨_,e⟩
 |dT kvs=>obtain⟨_,_,_,_,o,_,_,e,_⟩:=x;exact⟨_,e⟩
 |dH c kvs=>obtain⟨_,_,_,_,o,_,e,_⟩:=x;exact⟨_,e⟩
 |set S n=>obtain⟨o,_,_,_,e,_⟩:=x;exact⟨_,e⟩
 |ins C dx fs=>obtain⟨_,_,_,e,_⟩:=x;exact⟨_,e⟩
 |own _=>exact x
 |xd fs=>obtain⟨_,⟨_,_,_,e,_⟩,_⟩:=x;exact⟨_,e⟩
 |rng lo hi=>obtain⟨_,_,_,e⟩:=x;exact⟨_,e⟩
 |frz o u=>exact⟨_,x.1⟩
 |tbl ps=>exact⟨_,x⟩
 |met f y=>exact⟨_,x⟩
 |ext φ=>exact x.2.1
theorem HOk.none_of{P:Program}{w:World}{H:Hp}{h:Heap}{b:Addr}(ok:HOk P w H h)(n:h.get? b=none):H b=none:=by
 cases q:H b with
 |none=>rfl
 |some o=>
  obtain⟨u,z⟩:=q2y.ex (ok b o q)
  rw[n]at z;cases z
theorem w0a{P:Program}{w:World}{K:Frag}{mg:Str->Option Value}{base:Heap}{N:List Str}{qual:Str}{scope:Scope}{f:Addr}{cd:Value}{A:Around}{outer:List Env}{s:Shared}{H:Hp}{E:XK} :
  q5w (CXE P w) (cxOf (CXE P w) P w K mg base N qual scope f cd A outer s H E) E:=by
 intro pins σ H1 s1 e s2 I1 hx
 obtain⟨a,cls,own,H2,rfl,os,bare,un,hok,F,new,q⟩:=hx
 have I2:=I1.call' os un hok bare (fun b z=>absurd z (by simp))
 have n0:∀b,(∃o,s.heap.get? b=some o)->∃o,s1.heap.get? b=some o:=fun b ⟨o,z⟩=>I1.base.there b o z (by intro y;cases y)
 have old:∀b,(∃o,s.heap.get? b=some o)->b∉a::own:=fun b z m=>by
  obtain⟨o,y⟩:=n0 b z
  rw[(new b m).1]at y;cases y
 have n2:∀b,(∃o,s.heap.get? b=some o)->∃o,s2.heap.get? b=some o:=fun b ⟨o,z⟩=>I2.base.there b o z (by intro y;cases y)
 refine y2o (base:=base) I2.ok.frames I2.stack rfl F fun h' T nT P' F'=>?_
 have hfr:∀b,(∃o,s.heap.get? b=some o)->b∉frs outer->b∉frs (envOfC qual scope s.heap.objs.size f cd::outer):=fun b ⟨o,z⟩ m y=>by
  have lt:=Heap.lt_size z
  have y':b∈s.heap.objs.size::frs outer:=y
  rcases List.mem_cons.mp y' with r|r
  ·rw[r]at lt;exact absurd lt (Nat.lt_irrefl _)
  ·exact m r
 refine⟨a,cls,[T],H2,rfl,I2.os,I2.bare,⟨fun b o z n m _=>?_,fun b o z n m _=>?_,fun b o z n x=>I2.base.free b o z n x,fun b o z x=>?_,I2.base.tups,I2.base.frzs,I2.base.tbls⟩,?_,F',?_,q⟩
 ·exact P'.keep b o (I2.base.keep b o z n m (by intro y;cases y)) (old b ⟨o,z⟩) (hfr b ⟨o,z⟩ m)
 ·obtain⟨sl,y⟩:=I2.base.slot b o z n m (by intro y;cases y)
  obtain⟨sl2,y2⟩:=P'.slot b _ y (old b ⟨o,z⟩) (show b∈s.heap.objs.size::frs outer from List.mem_cons_of_mem _ m)
  exact⟨sl2,y2⟩
 ·obtain⟨o2,y⟩:=n2 b ⟨o,z⟩
  exact P'.there b o2 y
 ·exact HOk.past I2.hok P' I2.stkFree fun b m=>(new b m).2
 ·intro b m
  simp only[List.mem_cons,List.not_mem_nil,or_false]at m
  rcases m with rfl|rfl
  ·refine⟨?_,(new b (by simp)).2⟩
   cases z:s.heap.get? b with
   |none=>rfl
   |some o=>exact absurd (by simp) (old b ⟨o,z⟩)
  ·refine⟨?_,HOk.none_of I2.hok nT⟩
   cases z:s.heap.get? b with
   |none=>rfl
   |some o=>
    obtain⟨o',y⟩:=n2 b ⟨o,z⟩
    rw[nT]at y;cases y
theorem x3g{K:Frag}{h:Heap}{C:Addr}{bmB:List Value}{newId:String}(X:K.In h)(q:PySem.W.excIn K C bmB newId=true) :
  ∃bm N nm qn bs hd sn sub ab col dd k0 k1 k2 k3 k5 mN,h.get? C=some (excClassObj nm qn C N bs bm hd sn sub ab col dd k0 k1 k2 k3 k5 newId)/\h.Ns N mN/\mN "__init__" = none/\OwnTail h bmB bm:=by
 unfold PySem.W.excIn at q
 split at q
 ·rename_i d0 cl slots lk
  split at q
  ·rename_i C1 rest j0 j1 j2 j3 id j5 hm hs
   simp only[Bool.and_eq_true,beq_iff_eq,Bool.not_eq_true']at q
   obtain⟨⟨⟨⟨⟨rfl,rfl⟩,nodel⟩,tl⟩,okN⟩,noI⟩:=q
   obtain⟨c1,c2,c3,c4,c5,c6,c7,c8,c9,c10,c11⟩:=cl
   dsimp only at hm nodel okN noI
   subst hm nodel
   have es:slots=#[j0,j1,j2,j3,some (.builtin id),j5]:=by
    cases slots with
    |mk l=>simp only at hs;rw[hs]
   subst es
   refine⟨rest,c4,c1,c5,c2,c6,c7,c8,c9,c10,d0,j0,j1,j2,j3,j5,h.nsMap c4,X _ _ lk,?_,?_,?_⟩
   ·exact Heap.Ns.of_isNs (PySem.W.isNs_of_in X okN)
   ·exact PySem.W.nsMap_none_of_in X okN noI
   ·exact PySem.W.tail_of_in X tl
  ·cases q
 ·cases q
def vErr:List Value:=[.type "ValueError",.type "Exception",.type "BaseException",.type "object"]
section
variable{X:Cx}{E:XK}
theorem y6z{pins:List (Addr×Obj)}{σ:St}{H:Hp}{s:Shared}{h':Heap}{a C:Addr}{vs:List Value}(I:Inv X pins σ H s)(m:Heap.MadeExcOf s.heap h' a (.ref C) vs)(q:E (.ref C) none H):CXE X.prog X.w X.stack H s E (.ref a) {s with heap:=h' }:=by
 obtain⟨t,he,htn,ht⟩:=m.there
 refine⟨a,.ref C,[],H,rfl,rfl,I.bare,Un.kept m.keeps,I.hok.kept m.keeps,⟨_,_,.none,he,rfl,rfl,rfl,.inl rfl⟩,fun b hb=>?_,q⟩
 have:b=a:=by simpa using hb
 subst this
 exact⟨m.new,HOk.none_of I.hok m.new⟩
theorem y6f{x:Str}{C:Addr}{np cpos pos:Pos}{e0:Expr}{ta:TA}(hp:q5w (CXE X.prog X.w) X E)(hc:X.calm=true)(hg:Gl X x)(hm:X.mg x=some (.ref C))(q:PySem.W.excIn X.K C vErr "ValueError.__new__" = true)(ha:PA X [e0] ta)
  (hd:(x==("__debug__" : Str))=false:=by decide) (he:starEach [e0] X.env=(false,eval e0 X.env)::starEach [] X.env:=by rfl) :
  PS X (.Raise (some (.Call (.Name x np) [e0] [] cpos)) none pos) (fun _ σ H=>ta σ H fun vs H1=>vs.length<=sizeLine/\E (.ref C) none H1):=by
 intro pins s σ H D I h
 obtain⟨bm,N,nm,qn,bs,hdd,sn,sub,ab,col,dd,k0,k1,k2,k3,k5,mN,hC,hN,hni,T⟩:=x3g I.ok.mod.kin q
 have FB:=PySem.F.excBase_ValueError
 refine wpAny_Raise_call_subT (C:=C) (N:=N) (nm:=nm) (q:=qn) (bs:=bs) (bm:=bm) (hdct:=hdd) (sn:=sn) (sub:=sub) (ab:=ab) (col:=col) (dd:=dd) (k0:=k0) (k1:=k1) (k2:=k2) (k3:=k3) (k5:=k5) (mN:=mN) FB (T.hasType FB.hasBase) (I.ok.hd hc) (by rw[he];rfl) hni ?_
 refine z0o I hg hm ⟨rfl,?_⟩ hd
 have hs:=ha cpos pins s σ H _ I h
 rw[he]at hs ⊢
 refine Calls.evalArgs_plain (wpAny_mono hs (fun us s2 ⟨vs,H1,I1,r,hl,hE⟩=>?_) fun _ _ z=>z)
 refine⟨rfl,by rw[<-r.length];exact hl,I1.bk _ _ hC,hN.keeps I1.bk,T.keeps I1.bk,fun h' a m=>?_⟩
 exact hp pins σ H1 s2 (.ref a) _ I1 (y6z I1 m hE)
end
theorem Inv.stepX{X:Cx}{pins:List (Addr×Obj)}{σ:List (Option V)}{H H':Hp}{s:Shared}{h':Heap}{g':Array GenState}{t':Nat}{d':Drawn}{ch:List Addr}(I:Inv X pins σ H s)
  (hch:∀b∈ch,(b∈X.ex\/X.s₀.heap.get? b=none)/\b≠X.env.locals/\(∀x c,X.env.cells.lookup x=some c->c≠b)/\∀p∈X.pn++pins,p.1≠b)
  (keep:∀b o,b≠X.env.locals->b∉X.fs->b∉ch->s.heap.get? b=some o->H b=none->h'.get? b=some o)
  (slot:∀b o,b≠X.env.locals->b∈X.fs->b∉ch->s.heap.get? b=some o->H b=none->∃sl,h'.get? b=some {o with slots:=sl}) (free:∀b o,b∉ch->s.heap.get? b=some o->H b=none->H' b=none)
  (there:∀b o,b∉ch->s.heap.get? b=some o->∃o',h'.get? b=some o')
  (tups:∀b xs,H b=some (.tup xs)->H' b=some (.tup xs)) (frzs:∀b o u,H b=some (.frz o u)->H' b=some (.frz o u)) (tbls:∀b ps,H b=some (.tbl ps)->∃more,H' b=some (.tbl (ps++more)))
  (ns:∀m,s.heap.Ns X.env.locals m->h'.Ns X.env.locals m) (hok:HOk X.prog X.w H' h') (hg:AllBare g') :
  Inv X pins σ H' {s with heap:=h',gens:=g',drawn:=d',toks:=t' }:=by
 have neL:∀b o,X.s₀.heap.get? b=some o->b≠X.env.locals:=fun b o e=>Nat.ne_of_lt (Nat.lt_of_lt_of_le (Heap.lt_size e) I.ok.above)
 have neC:∀b o,X.s₀.heap.get? b=some o->b∉X.ex->b∉ch:=fun b o e hx hb=>by
  rcases(hch b hb).1 with z|z
  ·exact hx z
  ·rw[e]at z;cases z
 have cellK:∀x c,X.env.cells.lookup x=some c->∀v,s.heap.IsCell c v->h'.IsCell c v:=fun x c e v hh1=>by
  obtain⟨o,ho,hd⟩:=hh1
  have nch:c∉ch:=fun z=>(hch c z).2.2.1 x c e rfl
  by_cases hc:c∈X.fs
  ·obtain⟨sl,q⟩:=slot c o (I.cne x c e) hc nch ho (I.freeC x c e)
   exact⟨_,q,hd⟩
  ·exact⟨o,keep c o (I.cne x c e) hc nch ho (I.freeC x c e),hd⟩
 refine⟨I.ok,I.os,hg,⟨fun b o e n hb hx=>?_,fun b o e n hb hx=>?_,fun b o e n hx=>?_,fun b o e hx=>?_,fun b xs e=>tups b xs (I.base.tups b xs e),fun b o xs e=>frzs b o xs (I.base.frzs b o xs e),fun b ps e=>?_⟩,?_,fun x c e=>?_,?_,fun x c e=>?_,fun p hp=>?_,hok,I.len⟩
 ·exact keep b o (neL b o e) hb (neC b o e hx) (I.base.keep b o e n hb hx) (I.base.free b o e n hx)
 ·obtain⟨sl,e1⟩:=I.base.slot b o e n hb hx
  obtain⟨sl',e2⟩:=slot b _ (neL b o e) hb (neC b o e hx) e1 (I.base.free b o e n hx)
  exact⟨sl',e2⟩
 ·obtain⟨o',e1⟩:=I.base.there b o e hx
  exact free b o' (neC b o e hx) e1 (I.base.free b o e n hx)
 ·obtain⟨o',e1⟩:=I.base.there b o e hx
  exact there b o' (neC b o e hx) e1
 ·obtain⟨m1,e1⟩:=I.base.tbls b ps e
  obtain⟨m2,e2⟩:=tbls b _ e1
  exact⟨m1++m2,by rw[e2,Array.append_assoc]⟩
 ·obtain⟨m,hn,hl⟩:=I.loc
  refine⟨m,ns m hn,fun i x v e1 e2 e3=>?_⟩
  obtain⟨u,r,l⟩:=hl i x v e1 e2 e3
  refine⟨u,r,?_⟩
  rcases l with l|⟨k,c,e,z⟩
  ·exact .inl l
  ·exact .inr ⟨k,c,e,cellK x c e _ z⟩
 ·obtain⟨v,z⟩:=I.cell x c e
  exact⟨v,cellK x c e v z⟩
 ·obtain⟨m,⟨o,_,_,ho,_⟩,_⟩:=I.loc
  exact free _ o (fun z=>(hch _ z).2.1 rfl) ho I.free
 ·obtain⟨v,o,ho,hd⟩:=I.cell x c e
  exact free c o (fun z=>(hch c z).2.2.1 x c e rfl) ho (I.freeC x c e)
 ·obtain⟨e,n,ne,nf,d⟩:=I.pin p hp
  have nch:p.1∉ch:=fun z=>(hch p.1 z).2.2.2 p hp rfl
  exact⟨keep p.1 p.2 ne nf nch e n,free p.1 p.2 nch e n,ne,nf,d⟩
theorem x6j{P:Program}{w:World}{X:Cx}:q5w (CXE P w) X E0:=fun _ _ _ _ _ _ _ hh1=>by obtain⟨_,_,_,_,_,_,_,_,_,_,_,q⟩:=hh1;exact(q.elim)
theorem CXE.imp{P:Program}{w:World}{outer:List Env}{H:Hp}{s s':Shared}{E E':XK}{e:Value}(h:CXE P w outer H s E e s')(i:∀c d H',E c d H'->E' c d H'):CXE P w outer H s E' e s':=
 let ⟨a,cls,own,H',h1,h2,h3,h4,h5,h6,h7,q⟩:=h;⟨a,cls,own,H',h1,h2,h3,h4,h5,h6,h7,i _ _ _ q⟩
theorem q5w.imp{P:Program}{w:World}{X:Cx}{E E':XK}(h:q5w (CXE P w) X E)(i:∀c d H',E' c d H'->E c d H'):q5w (CXE P w) X E':=fun pins σ H s e s' I q=>h pins σ H s e s' I (q.imp i)
theorem Fun.okX{P:Program}{w:World}{K:Frag}{mg:Str->Option Value}{base:Heap}{x qual:Str}{st:Stmt}{f:Addr}{fd:FuncData}{N ps:List Str}{k:Nat}{sp:Sp}(F:Fun K x qual st f fd)(S:FnScope N ps (q1z st))(len:∀vs H Q E,sp vs H Q E->vs.length=ps.length)
  (hbody:∀(cdv:Value)(A:Around)(outer:List Env)(s:Shared)(H:Hp)(vs:List V)(Q:VK)(E:XK),RoomW k (A.deeper (envOfC qual (q1z st) s.heap.objs.size f cdv))->sp vs H Q E->
   ∃t,PSs (cxOf (CXE P w) P w K mg base N qual (q1z st) f cdv A outer s H E) (q6h st) t/\t {nx:=fun _ H'=>Q .non H',rt:=Q} (z0c N vs) H):FnOk P w K mg base (CXE P w) (k+1) f fd ps sp:=by
 obtain⟨oc,od,kV,doc,pm,an,cdv,ct,osl,rfl,lk,hcd⟩:=F.ex
 exact w1b lk hcd S len fun A outer s H vs Q E hr hsp=>hbody cdv A outer s H vs Q E hr hsp
section
variable(P:Program)(w:World)
end
section
variable{P:Program}{w:World}{H H':Hp}{h h':Heap}{a:Addr}{o:HO}
end
section
variable{P:Program}{w:World}{H:Hp}{h h':Heap}{x e:Addr}{o':HO}
end
section
variable{fs fs' ex ex':List Addr}{H H1 H2:Hp}{h h1 h2 h':Heap}{a x e:Addr}{o:HO}
end
section
variable{X:Cx}{pins:List (Addr×Obj)}{σ:List (Option V)}{H H':Hp}{s:Shared}{h':Heap}
end
section
variable{X:Cx}
variable{a b:Expr}{ta tb:TE}{pos:Pos}
variable{tA tB':TT}{rest:List Expr}
end
section
variable{X:Cx}{pins:List (Addr×Obj)}{σ:St}{H:Hp}{s:Shared}{a:Addr}{xs ys:List V}
end
section
variable{X:Cx}{pins:List (Addr×Obj)}{σ:St}{H:Hp}{s:Shared}{E:Value->Shared->Prop}
end
section
variable{X:Cx}{st:Stmt}{rest:List Stmt}{t u:TS}{e:Expr}{te:TE}{pos:Pos}
end
section
variable{X:Cx}{pos:Pos}
end
section
variable{X:Cx}{pos:Pos}
end
section
variable{X:Cx}{tg:Expr}
end
section
variable{X:Cx}{a b c:Expr}{ta tb tc:TE}{pos:Pos}
end
section
variable{X:Cx}{a b c:Expr}{ta tb tc:TE}{pos:Pos}
end
section
variable{prog:Program}{w:World}{A:Around}{E:Value->Shared->Prop}{s:Shared}{K:Frag}{x dx C f:Addr}{mA:Str->Option Value}{name:Str}{v:Value}
end
section
variable{P:Program}{w:World}{H H':Hp}{h h':Heap}{a C dx:Addr}{fs fs':List (Str×V)}
end
section
variable{X:Cx}{pins:List (Addr×Obj)}{σ:St}{H:Hp}{s:Shared}{a C dx:Addr}{fs:List (Str×V)}{f:Str}{v:V}{A:Around}{E:Value->Shared->Prop}
end
section
variable{X:Cx}{o e value:Expr}{f:Str}{pos pos' tpos:Pos}{ta tv:TE}
end
section
variable{X:Cx}{pins:List (Addr×Obj)}{σ:St}{H:Hp}{s:Shared}{A:Around}{E:Value->Shared->Prop}{Q:Value->Shared->Prop}{c:Value}{b:Bool}
end
section
variable{X:Cx}{e:Expr}{es:List Expr}{te:TE}{t:TA}{pos:Pos}
end
section
variable{X:Cx}{pins:List (Addr×Obj)}{σ:St}{H:Hp}{s s':Shared}
end
section
variable{X:Cx}{CX:CXT}{k:Nat}{f C:Addr}{fd:FuncData}{ps:List Str}{sp:Sp}{dvs:List V}{ds:List Value}{E:XK}{x m:Str}{p pos apos:Pos}{e o:Expr}{es:List Expr}{ta:TE}{t:TA}
end
section
variable{X:Cx}{CX:CXT}{k:Nat}{f C:Addr}{fd:FuncData}{ps ks:List Str}{sp:Sp}{E:XK}{x m:Str}{p pos apos kpos:Pos}{e o:Expr}{es:List Expr}{kws:List Keyword}{te ta:TE}{t tk:TA}{nm:Option Str}
variable{g:List Value->List Value->List Value}{gV:List V->List V->List V}
end
section
variable{X:Cx}{x:Str}{p pos:Pos}{e:Expr}{es:List Expr}{t:TA}{id T:String}{r:List V->Hp->VK->Prop}
end
section
variable{κ:Type} [DecidableEq κ]
def valV(kvs:List (κ×V))(k:κ):Option V:=(kvs.find? fun kv=>decide (kv.1=k)).map (·.2)
def putK(kvs:List (κ×V))(k:κ)(v:V):List (κ×V):=
 if(kvs.any fun kv=>decide (kv.1=k))=true then kvs.map (fun kv=>if kv.1=k then(kv.1,v)else kv)else kvs++[(k,v)]
theorem q9j{p:κ×V}{r:List (κ×V)}{k:κ}(e:p.1=k):valV (p::r) k=some p.2:=by simp[valV,List.find?_cons,e]
theorem q9k{p:κ×V}{r:List (κ×V)}{k:κ}(e:¬p.1=k):valV (p::r) k=valV r k:=by simp[valV,List.find?_cons,e]
theorem z7e(k:κ):∀kvs:List (κ×V),(kvs.any fun kv=>decide (kv.1=k))=(valV kvs k).isSome
 |[]=>rfl
 |p::r=>by
  rw[List.any_cons]
  by_cases e:p.1=k
  ·simp only[q9j e,decide_eq_true e,Bool.true_or,Option.isSome_some]
  ·rw[q9k e,decide_eq_false e,Bool.false_or];exact z7e k r
theorem q6f(kvs:List (κ×V))(k:κ)(v:V):(putK kvs k v).length<=kvs.length+1:=by
 unfold putK
 split
 ·rw[List.length_map];omega
 ·rw[List.length_append,List.length_cons,List.length_nil];omega
theorem RelO.isSome_eq{o:Option V}{u:Option Value}(r:RelO o u):o.isSome=u.isSome:=by
 cases o with
 |none=>cases u with
  |none=>rfl
  |some _=>exact(show False from r).elim
 |some _=>cases u with
  |none=>exact(show False from r).elim
  |some _=>rfl
theorem RelO.getD{o:Option V}{u:Option Value}{d:V}{d':Value}(r:RelO o u)(rd:RelV d d'):RelV (o.getD d) (u.getD d'):=by
 cases o with
 |none=>cases u with
  |none=>exact rd
  |some _=>exact(show False from r).elim
 |some _=>cases u with
  |none=>exact(show False from r).elim
  |some _=>exact r
theorem KV.val{kvs:List (κ×V)}{vs:List (κ×Value)}(r:KV kvs vs)(k:κ):RelO (valV kvs k) (valueAt vs k):=by
 unfold KV at r
 induction r with
 |nil=>exact True.intro
 |@cons p q ps qs h t ih=>
  obtain⟨h1,h2⟩:=h
  by_cases e:p.1=k
  ·have e':q.1=k:=h1.symm.trans e
   have b:valueAt (q::qs) k=some q.2:=by simp[valueAt,List.find?_cons,e']
   rw[q9j e,b];exact h2
  ·have e':¬q.1=k:=fun z=>e (h1.trans z)
   have b:valueAt (q::qs) k=valueAt qs k:=by simp[valueAt,List.find?_cons,e']
   rw[q9k e,b];exact ih
theorem KV.any{kvs:List (κ×V)}{vs:List (κ×Value)}(r:KV kvs vs)(k:κ):(kvs.any fun kv=>decide (kv.1=k))=vs.any fun kv=>decide (kv.1=k):=by
 unfold KV at r
 induction r with
 |nil=>rfl
 |cons h t ih=>rw[List.any_cons,List.any_cons,ih,h.1]
theorem KV.repl{kvs:List (κ×V)}{vs:List (κ×Value)}(r:KV kvs vs)(k:κ){y:V}{u:Value}(ry:RelV y u) :
  KV (kvs.map fun kv=>if kv.1=k then(kv.1,y)else kv) (vs.map fun kv=>if kv.1=k then(kv.1,u)else kv):=by
 unfold KV at r ⊢
 induction r with
 |nil=>exact .nil
 |@cons p q ps qs h t ih=>
  rw[List.map_cons,List.map_cons]
  refine .cons ?_ ih
  obtain⟨h1,h2⟩:=h
  by_cases e:p.1=k
  ·rw[if_pos e,if_pos (h1.symm.trans e)];exact⟨h1,ry⟩
  ·rw[if_neg e,if_neg (fun z=>e (h1.trans z))];exact⟨h1,h2⟩
theorem KV.put{kvs:List (κ×V)}{vs:List (κ×Value)}(r:KV kvs vs)(k:κ){y:V}{u:Value}(ry:RelV y u):KV (putK kvs k y) (stored vs k u):=by
 unfold putK stored
 rw[r.any k]
 by_cases e:(vs.any fun kv=>decide (kv.1=k))=true
 ·rw[if_pos e,if_pos e];exact r.repl k ry
 ·rw[if_neg e,if_neg e];exact Paired.snoc r ⟨rfl,ry⟩
theorem KV.length{kvs:List (κ×V)}{vs:List (κ×Value)}(r:KV kvs vs):kvs.length=vs.length:=Paired.length r
end
theorem y2z{P:Program}{w:World}{k:Key}{u:Value}(r:RelV (kV k) u):(q2a P w).is k u=true:=by
 cases k with
 |inl i=>obtain⟨t,e⟩:=(show ∃t,u=Value.int i t from r);subst e;exact z0m P w i t
 |inr x=>obtain⟨t,e⟩:=(show ∃t,u=Value.str x t from r);subst e;exact z0l P w x t
theorem z3z{P:Program}{w:World}:∀{ks:List Key}{us:List Value},Vals (ks.map kV) us->ItemsAre (q2a P w) ks us
 |[],_,r=>by rw[List.map_nil]at r;cases r;exact .nil
 |k::ks,_,r=>by
  rw[List.map_cons]at r
  cases r with
  |cons h t=>exact .cons (y2z h) (z3z t)
abbrev KT(H:Hp):List (List Key×V)->List (List Key×Addr×Value)->Prop:=Paired fun p q=>p.1=q.1/\H q.2.1=some (.tup (p.1.map kV))/\RelV p.2 q.2.2
theorem KT.val{H:Hp}{kvs:List (List Key×V)}{xs:List (List Key×Addr×Value)}(r:KT H kvs xs)(k:List Key):RelO (valV kvs k) ((atKey xs k).map (·.2)):=by
 induction r with
 |nil=>exact True.intro
 |@cons p q ps qs h t ih=>
  obtain⟨h1,_,h2⟩:=h
  by_cases e:p.1=k
  ·have e':q.1=k:=h1.symm.trans e
   have b:atKey (q::qs) k=some q.2:=by simp[atKey,List.find?_cons,e']
   rw[q9j e,b];exact h2
  ·have e':¬q.1=k:=fun z=>e (h1.trans z)
   have b:atKey (q::qs) k=atKey qs k:=by simp[atKey,List.find?_cons,e']
   rw[q9k e,b];exact ih
theorem KT.repl{H:Hp}{kvs:List (List Key×V)}{xs:List (List Key×Addr×Value)}(r:KT H kvs xs)(k:List Key){y:V}{u:Value}(ry:RelV y u) :
  KT H (kvs.map fun kv=>if kv.1=k then(kv.1,y)else kv) (xs.map (putAt k u)):=by
 induction r with
 |nil=>exact .nil
 |@cons p q ps qs h t ih=>
  rw[List.map_cons,List.map_cons]
  refine .cons ?_ ih
  obtain⟨h1,h2,h3⟩:=h
  unfold putAt
  by_cases e:p.1=k
  ·rw[if_pos e,if_pos (h1.symm.trans e)];exact⟨h1,h2,ry⟩
  ·rw[if_neg e,if_neg (fun z=>e (h1.trans z))];exact⟨h1,h2,h3⟩
theorem KT.put{H:Hp}{kvs:List (List Key×V)}{xs:List (List Key×Addr×Value)}(r:KT H kvs xs)(k:List Key){b:Addr}{y:V}{u:Value}(hb:H b=some (.tup (k.map kV)))(ry:RelV y u) :
  KT H (putK kvs k y) (storedH xs k b u):=by
 have e:(kvs.any fun kv=>decide (kv.1=k))=(atKey xs k).isSome:=by
  rw[z7e,(r.val k).isSome_eq,Option.isSome_map]
 unfold putK storedH
 rw[e]
 by_cases q:(atKey xs k).isSome=true
 ·rw[if_pos q,if_pos q];exact r.repl k ry
 ·rw[if_neg q,if_neg q];exact Paired.snoc r ⟨rfl,hb,ry⟩
theorem KT.keeps{H H':Hp}{kvs:List (List Key×V)}{xs:List (List Key×Addr×Value)}(r:KT H kvs xs)(ht:∀b ys,H b=some (.tup ys)->H' b=some (.tup ys)):KT H' kvs xs:=
 Paired.mapP r fun _ _ z=>⟨z.1,ht _ _ z.2.1,z.2.2⟩
section
variable{P:Program}{w:World}{H:Hp}{h:Heap}{a:Addr}
theorem x5d{u:HO}(ok:HOk P w H h)(e:Rd H a u):q2y P w H h a u:=e.ok ok
theorem x3l{kvs:List (Key×V)}(ok:HOk P w H h)(e:Rd H a (.dK kvs)):kvs.length<=sizeLine/\(a==sysModules)=false/\∃vs,KV kvs vs/\h.DictOf (q2a P w) a vs:=
 show q2y P w H h a (.dK kvs)from x5d ok e
theorem x3m{kvs:List (Key×V)}(ok:HOk P w H h)(e:H a=some (.dK kvs)):kvs.length<=sizeLine/\(a==sysModules)=false/\∃vs,KV kvs vs/\h.DictOf (q2a P w) a vs:=x3l ok (.inl e)
theorem y2r{ks:List Key}(ok:HOk P w H h)(e:H a=some (.tup (ks.map kV))):(tupleKind (q2a P w)).is h ks a:=by
 obtain⟨_,its,r,o,h1,h2,n,h3⟩:=(show q2y P w H h a (.tup (ks.map kV))from ok a _ e)
 exact⟨o,its.toArray,n,h1,h2,h3,by simpa using z3z r⟩
theorem x3i{kvs:List (List Key×V)}(ok:HOk P w H h)(e:Rd H a (.dT kvs)):kvs.length<=sizeLine/\(a==sysModules)=false/\
  ∃xs,KT H kvs xs/\h.DictOfH (tupleKind (q2a P w)) a xs:=by
 obtain⟨z,y,xs,r,o,es,ep,h1,h2,h3,h4,h5⟩:=(show q2y P w H h a (.dT kvs)from x5d ok e)
 refine⟨z,y,xs,r,o,es,ep,h1,h2,h3,h4,fun x hx=>?_,h5⟩
 have all:∀{l:List (List Key×V)}{m:List (List Key×Addr×Value)},KT H l m->∀x∈m,(tupleKind (q2a P w)).is h x.1 x.2.1:=by
  intro l m q
  induction q with
  |nil=>intro x hx;exact nomatch hx
  |@cons p q ps qs hq t ih=>
   intro x hx
   rcases List.mem_cons.mp hx with e|hx
   ·subst e
    exact y2r ok (by rw[<-hq.1];exact hq.2.1)
   ·exact ih x hx
 exact all r x hx
theorem w1c{kvs:List (List Key×V)}(ok:HOk P w H h)(e:H a=some (.dT kvs)):kvs.length<=sizeLine/\(a==sysModules)=false/\
  ∃xs,KT H kvs xs/\h.DictOfH (tupleKind (q2a P w)) a xs:=x3i ok (.inl e)
end
def DGet(H:Hp)(a:Addr)(y:V)(r:Option V):Prop:=
 (∃kvs k,Rd H a (.dK kvs)/\y=kV k/\r=valV kvs k)\/∃kvs k b,Rd H a (.dT kvs)/\y=.ref b/\H b=some (.tup (k.map kV))/\r=valV kvs k
def DPut(H:Hp)(a:Addr)(y v:V)(H':Hp):Prop:=
 (∃kvs k,H a=some (.dK kvs)/\y=kV k/\kvs.length<sizeLine/\H'=upd H a (.dK (putK kvs k v)))\/
 ∃kvs k b,H a=some (.dT kvs)/\y=.ref b/\H b=some (.tup (k.map kV))/\kvs.length<sizeLine/\H'=upd H a (.dT (putK kvs k v))
theorem DGet.k{H:Hp}{a:Addr}{kvs:List (Key×V)}{k:Key}(e:H a=some (.dK kvs)):DGet H a (kV k) (valV kvs k):=.inl ⟨kvs,k,.inl e,rfl,rfl⟩
theorem DPut.k{H:Hp}{a:Addr}{kvs:List (Key×V)}{k:Key}{v:V}(e:H a=some (.dK kvs))(hl:kvs.length<sizeLine):DPut H a (kV k) v (upd H a (.dK (putK kvs k v))):=.inl ⟨kvs,k,e,rfl,hl,rfl⟩
section
variable{X:Cx}{pins:List (Addr×Obj)}{σ:St}{H:Hp}{s:Shared}{a:Addr}{y v:V}{u r:Value}{o:Option V}{A:Around}{E:Value->Shared->Prop}
theorem Inv.big(I:Inv X pins σ H s):sysModules<s.heap.objs.size:=by
 have h:mainGlobals<s.heap.objs.size:=(I.mod.glob.keeps I.bk).lt
 exact Nat.lt_trans (by decide) h
theorem y3w{Q:Value->Shared->Prop}(hu:A.units+1<cLine)(I:Inv X pins σ H s)(g:DGet H a y (some v))(ry:RelV y u)(h:∀w' s',Inv X pins σ H s'->RelV v w'->Q w' s') :
  wpAny (model X.prog X.w) A (getItem (.ref a) u) Q E s:=by
 rcases g with⟨kvs,k,e,ey,l⟩|⟨kvs,k,b,e,ey,eb,l⟩
 ·subst ey
  obtain⟨z,hd,vs,rel,dd⟩:=x3l I.hok e
  obtain⟨w',hw,rw'⟩:=RelO.some_of (v:=v) (o:=valueAt vs k) (by rw[l];exact rel.val k)
  exact wpAny_getItem_of (y2z ry) dd.mapOf hw (h w' _ (I.tok _) rw')
 ·subst ey
  cases(show u=Value.ref b from ry)
  obtain⟨z,hd,xs,rel,dd⟩:=x3i I.hok e
  obtain⟨w',hw,rw'⟩:=RelO.some_of (v:=v) (o:=(atKey xs k).map (·.2)) (by rw[l];exact rel.val k)
  obtain⟨p,hp,hp2⟩:=Option.map_eq_some_iff.mp hw
  refine wpAny_getItem_heap (tupleKind_room_in1 hu) (y2r I.hok eb) dd hp ?_
  rw[hp2]
  exact h w' _ (I.tok _) rw'
theorem z2z{h':Heap}{t':Nat}{ob:HO}(I:Inv X pins σ H s)(mu:Mut (H a))(hs:Heap.SameBut a s.heap h')(he:∃q,h'.get? a=some q)(new:q2y X.prog X.w (upd H a ob) h' a ob) :
  Inv X pins σ (upd H a ob) {s with heap:=h',toks:=t' }:=
 I.write (x:=a) (e:=a) mu (.inl rfl) (fun b q hb z=>(hs.2 b hb).trans z) he new
theorem y3s{P:Program}{w:World}{H':Hp}{h':Heap}{kvs:List (Key×V)}{vs:List (Key×Value)}(z:kvs.length<=sizeLine)(hd:(a==sysModules)=false)(rel:KV kvs vs)(dd:h'.DictOf (q2a P w) a vs) :
  q2y P w H' h' a (.dK kvs):=⟨z,hd,vs,rel,dd⟩
theorem y3v{H':Hp}{Q:Unit->Shared->Prop}(hu:A.units+1<cLine)(I:Inv X pins σ H s)(g:DPut H a y v H')(ry:RelV y u)(rv:RelV v r)(h:∀s',Inv X pins σ H' s'->Q () s') :
  wpAny (model X.prog X.w) A (setItem (.ref a) u r) Q E s:=by
 rcases g with⟨kvs,k,e,ey,l,eH⟩|⟨kvs,k,b,e,ey,eb,l,eH⟩
 ·subst ey eH
  obtain⟨z,hd,vs,rel,dd⟩:=x3m I.hok e
  have hz:vs.length<=sizeLine:=by rw[<-rel.length];exact z
  have hl:(putK kvs k v).length<=sizeLine:=by have:=q6f kvs k v;omega
  refine wpAny_setItem_pairs (hsz:=hz) (y2z ry) dd fun h' dd' hs=>h _ ?_
  have he:∃q,h'.get? a=some q:=let ⟨q,_,_,hq,_⟩:=dd';⟨q,hq⟩
  exact z2z I (by rw[e];exact True.intro) hs he (y3s hl hd (rel.put k rv) dd')
 ·subst ey eH
  cases(show u=Value.ref b from ry)
  obtain⟨z,hd,xs,rel,dd⟩:=w1c I.hok e
  have hz:xs.length<=sizeLine:=by rw[<-Paired.length rel];exact z
  have hl:(putK kvs k v).length<=sizeLine:=by have:=q6f kvs k v;omega
  refine wpAny_setItem_heap (hsz:=hz) (tupleKind_room_in1 hu) (y2r I.hok eb) dd fun h' dd' hs=>h _ ?_
  obtain⟨q,es,ep,hq,h2,h3,h4,_,h5⟩:=dd'
  refine z2z I (by rw[e];exact True.intro) hs ⟨q,hq⟩ ⟨hl,hd,_,(rel.put k eb rv).keeps fun c ys ec=>?_,q,es,ep,hq,h2,h3,h4,h5⟩
  rw[q1c (z2n ec e (fun z=>nomatch z))]
  exact ec
end
section
variable{X:Cx}{pins:List (Addr×Obj)}{σ:St}{H:Hp}{s:Shared}{a:Addr}{kvs:List (Key×V)}{k:Key}{u:Value}{A:Around}{E:Value->Shared->Prop}
end
theorem z6t{X:Cx}{pins:List (Addr×Obj)}{σ:St}{H:Hp}{s:Shared}{a:Addr}{y:V}{o:Option V}(I:Inv X pins σ H s)(g:DGet H a y o):s.TypeIs (.ref a) "dict" :=by
 rcases g with⟨kvs,k,e,_,_⟩|⟨kvs,k,b,e,_,_,_⟩
 ·obtain⟨_,_,vs,_,dd⟩:=x3l I.hok e
  exact dd.typeIs
 ·obtain⟨_,_,xs,_,dd⟩:=x3i I.hok e
  exact dd.typeIs
section
variable{X:Cx}{o i e value:Expr}{pos pos' tpos:Pos}{td ty tv:TE}
end
theorem y7x{P:Program}{w:World}{H:Hp}(h:Heap)(hb:sysModules<h.objs.size):q2y P w H (h.push {cls:=.type "dict",data:=.dict #[]}) h.objs.size (.dK []):=
 ⟨Nat.zero_le _,beq_eq_false_iff_ne.mpr (Ne.symm (Nat.ne_of_lt hb)),[],.nil,Heap.DictOf.new h⟩
section
variable{X:Cx}{pos:Pos}
end
def z7g : List (TE × TE) -> St -> Hp -> (List (V × V) -> Hp -> Prop) -> Prop
 | [], _, H, Q => Q [] H
 | (tk, tv) :: r, σ, H, Q => tk σ H fun x H1 => tv σ H1 fun y H2 => z7g r σ H2 fun ps H3 => Q ((x, y) :: ps) H3
abbrev VV:List (V×V)->List (Value×Value)->Prop:=Paired fun p q=>RelV p.1 q.1/\RelV p.2 q.2
def PPs(X:Cx)(pos:Pos)(keys:List (Option Expr))(values:List Expr)(trs:List (TE×TE)):Prop:=
 ∀(pins:List (Addr×Obj))(s:Shared)(σ:St)(H:Hp)(Q:List (V×V)->Hp->Prop),Inv X pins σ H s->z7g trs σ H Q->
  wpAny (model X.prog X.w) X.A (evalPairs (pairTrees keys values X.env pos)) (fun vs s'=>∃ps H',Inv X pins σ H' s'/\VV ps vs/\Q ps H') X.xe s
theorem x1g{X:Cx}{pos:Pos}:PPs X pos [] [] []:=fun pins s σ H Q I h=>pairTrees_nil_walk ⟨[],H,I,.nil,h⟩
theorem y6h{X:Cx}{pos:Pos}{k v:Expr}{ks:List (Option Expr)}{vs:List Expr}{tk tv:TE}{trs:List (TE×TE)}(hk:PE X k tk)(hv:PE X v tv)(hr:PPs X pos ks vs trs) :
  PPs X pos (some k::ks) (v::vs) ((tk,tv)::trs):=fun pins s σ H Q I h=>
 pairTrees_cons_walk (thn (hk pins s σ H _ I h) fun u s1 hh1=>by obtain⟨x,H1,I1,rx,q1⟩:=hh1;exact(thn (hv pins s1 σ H1 _ I1 q1) fun w2 s2 ⟨y,H2,I2,ry,q2⟩=>
  thn (hr pins s2 σ H2 _ I2 q2) fun ws s3 hh2=>by obtain ⟨ps,H3,I3,rel,q3⟩:=hh2;exact (⟨(x,y)::ps,H3,I3,.cons ⟨rx,ry⟩ rel,q3⟩)))
def z1i(kvs more:List (Key×V)):List (Key×V):=more.foldl (fun acc kv=>putK acc kv.1 kv.2) kvs
theorem KV.merge:∀{more:List (Key×V)}{rs:List (Key×Value)}{kvs:List (Key×V)}{vs:List (Key×Value)},KV more rs->KV kvs vs->KV (z1i kvs more) (merged vs rs):=by
 intro more rs kvs vs r
 unfold KV at r
 induction r generalizing kvs vs with
 |nil=>intro q;exact q
 |@cons p q ps qs h t ih=>
  intro r0
  have e:KV (putK kvs p.1 p.2) (stored vs q.1 q.2):=by
   have:=r0.put p.1 h.2
   rw[<-h.1];exact this
  exact ih e
theorem q8f:∀(more kvs:List (Key×V)),(z1i kvs more).length<=kvs.length+more.length
 |[],kvs=>by show kvs.length<=kvs.length+0;omega
 |p::r,kvs=>by
  have h1:=q8f r (putK kvs p.1 p.2)
  have h2:=q6f kvs p.1 p.2
  show(z1i (putK kvs p.1 p.2) r).length<=_
  rw[List.length_cons];omega
theorem z1p{P:Program}{w:World}:∀{kvs:List (Key×V)}{ws:List (Value×Value)},VV (kvs.map fun kv=>(kV kv.1,kv.2)) ws->∃rs,Carries (q2a P w) ws rs/\KV kvs rs
 |[],_,r=>by rw[List.map_nil]at r;cases r;exact⟨[],True.intro,.nil⟩
 |p::kvs,_,r=>by
  rw[List.map_cons]at r
  cases r with
  |@cons a b as bs h t=>
   obtain⟨rs,c,q⟩:=z1p (P:=P) (w:=w) t
   obtain⟨b1,b2⟩:=b
   exact⟨(p.1,b2)::rs,⟨y2z h.1,rfl,c⟩,.cons ⟨rfl,h.2⟩ q⟩
def x9l(trs:List (TE×TE)):TE:=fun σ H Q=>∀p,H p=none->z7g trs σ (upd H p (.dK [])) fun ps H2=>H2 p=some (.dK [])/\∃kvs:List (Key×V),ps=kvs.map (fun kv=>(kV kv.1,kv.2))/\kvs.length<=15/\Q (.ref p) (upd H2 p (.dK (z1i [] kvs)))
theorem x1n{X:Cx}{pos:Pos}{keys:List (Option Expr)}{values:List Expr}{trs:List (TE×TE)}(h:PPs X pos keys values trs)(hall:keys.all (·.isSome)=true)(hl:keys.length=values.length)(h0:keys≠[])
  (h15:keys.length<=15):PE X (.Dict keys values pos) (x9l trs):=by
 intro pins s σ H Q I q
 have hn:=I.hok.fresh (Nat.le_refl s.heap.objs.size)
 have I1:=I.laid (a:=s.heap.objs.size) (o:=.dK []) (h':=s.heap.push {cls:=.type "dict",data:=.dict #[]}) (t':=s.toks) (fun _ _ q=>Heap.get?_push_of_some _ q) (Nat.le_refl _) (y7x s.heap I.big)
 refine wpAny_Dict_walk (knd:=q2a X.prog X.w) hall hl h0 h15 (thn (h pins _ σ _ _ I1 (q _ hn)) fun ws s2 hh1=>?_)
 obtain⟨ps,H2,I2,rel,e,kvs,ep,lk,q2⟩:=hh1
 subst ep
 obtain⟨rs,c,rk⟩:=z1p (P:=X.prog) (w:=X.w) rel
 obtain⟨z,hd,vs0,r0,dd⟩:=x3m I2.hok e
 cases r0
 refine⟨rs,c,dd,fun h' dd' hs=>⟨.ref s.heap.objs.size,_,?_,rfl,q2⟩⟩
 have hz:(z1i [] kvs).length<=sizeLine:=by
  have h1:=q8f kvs []
  rw[List.length_nil]at h1
  rw[sizeLine_eq];omega
 have he:∃q,h'.get? s.heap.objs.size=some q:=let ⟨q,_,_,hq,_⟩:=dd';⟨q,hq⟩
 exact z2z I2 (by rw[e];exact True.intro) hs he (y3s hz hd (rk.merge .nil) dd')
structure M1(X:Cx)(o:Expr)(m:Str)(apos:Pos)(e:Expr)(cpos:Pos):Prop where
 base:attributeBase o m X.env (eval o X.env)=eval o X.env
 few:((backTo cpos (starEach [e] X.env)).all (fun x=>!x.1)&&(backToKw cpos (keywordEach [] X.env)).all (fun x=>x.1.isSome)
  && decide (([e]:List Expr).length+([]:List Keyword).length+(if ([]:List Keyword).isEmpty then 0 else 1)<30))=true
 line:(apos.endLine==cpos.line)=true
 trees:backTo cpos (starEach [e] X.env)=[(false,eval e X.env)]
structure M2(X:Cx)(o:Expr)(m:Str)(apos:Pos)(e f:Expr)(cpos:Pos):Prop where
 base:attributeBase o m X.env (eval o X.env)=eval o X.env
 few:((backTo cpos (starEach [e,f] X.env)).all (fun x=>!x.1)&&(backToKw cpos (keywordEach [] X.env)).all (fun x=>x.1.isSome)
  && decide (([e,f]:List Expr).length+([]:List Keyword).length+(if ([]:List Keyword).isEmpty then 0 else 1)<30))=true
 line:(apos.endLine==cpos.line)=true
 trees:backTo cpos (starEach [e,f] X.env)=[(false,eval e X.env),(false,eval f X.env)]
section
variable{X:Cx}{pins:List (Addr×Obj)}{σ:St}{H:Hp}{s:Shared}{a:Addr}{y d:V}{u r:Value}{o:Option V}{A:Around}{E:Value->Shared->Prop}
end
section
variable{X:Cx}{o e f:Expr}{apos cpos:Pos}{td ty tx:TE}
end
section
variable{X:Cx}{pins:List (Addr×Obj)}{σ:St}{H:Hp}{s:Shared}{a:Addr}{kvs:List (Key×V)}{A:Around}{E:Value->Shared->Prop}
end
section
variable{X:Cx}{pins:List (Addr×Obj)}{σ:St}{H:Hp}{s:Shared}{a:Addr}{y:V}{u:Value}{A:Around}{E:Value->Shared->Prop}
end
end L2
namespace Att
open PySem PySem.W PySem.Calls PyProof.Rows
section
variable{prog:Program}{w:World}{A:Around}{E:Value->Shared->Prop}{s:Shared}{K:Frag}
end
end Att
namespace L2
open PySem PySem.Spec PyProof.Rows
section
variable{P:Program}{w:World}{K:Frag}{mg:Str->Option Value}{base:Heap}
end
section
variable{X:Cx}
end
section
variable{κ:Type} [DecidableEq κ]
end
theorem z4u(env:Env):∀(names:List (Str×NameKind))(acc:List (Str×Addr)),
  (∀p∈names,p.2=.free->∃c,env.cells.lookup p.1=some c)->
  (∀x c,acc.lookup x=some c->env.cells.lookup x=some c)->
  ∃cl,(forIn names acc (fun(x:Str×NameKind) cs=>
    (if (x.2==NameKind.free)=true then (do let a <-cellOf env x.1;pure (ForInStep.yield ((x.1,a)::cs)))else pure (ForInStep.yield cs))):Sem (List (Str×Addr)))=pure cl/\
   (∀x c,cl.lookup x=some c->env.cells.lookup x=some c)/\
   (∀x,(names.lookup x=some .free\/(acc.lookup x).isSome=true)->∃c,cl.lookup x=some c):=by
 intro names
 induction names with
 |nil=>
  intro acc _ ha
  refine⟨acc,rfl,ha,fun x hx=>?_⟩
  rcases hx with hx|hx
  ·simp at hx
  ·exact Option.isSome_iff_exists.mp hx
 |cons p r ih=>
  intro acc hf ha
  obtain⟨n,k⟩:=p
  have hr:∀p∈r,p.2=.free->∃c,env.cells.lookup p.1=some c:=fun p hp=>hf p (List.mem_cons_of_mem _ hp)
  by_cases hk:k=.free
  ·subst hk
   obtain⟨c,hc⟩:=hf (n,.free) List.mem_cons_self rfl
   obtain⟨cl,h1,h2,h3⟩:=ih ((n,c)::acc) hr (fun x c' e=>by
    rw [List.lookup_cons]at e
    cases hx:x==n with
    |true=>
     rw [hx]at e
     have:=eq_of_beq hx
     subst this
     cases e
     exact hc
    |false=>rw [hx]at e;exact ha x c' e)
   refine⟨cl,?_,h2,fun x hx=>h3 x ?_⟩
   ·rw[List.forIn_cons]
    have:cellOf env n=pure c:=by unfold cellOf;rw[hc]
    simp only[beq_self_eq_true,if_true,this]
    exact h1
   ·rcases hx with hx|hx
    ·rw[List.lookup_cons]at hx
     cases hq:x==n with
     |true=>right;rw[List.lookup_cons,hq];rfl
     |false=>rw[hq]at hx;exact .inl hx
    ·right
     rw[List.lookup_cons]
     cases hq:x==n with
     |true=>rfl
     |false=>exact hx
  ·have hb:(k==NameKind.free)=false:=by simpa using hk
   obtain⟨cl,h1,h2,h3⟩:=ih acc hr ha
   refine⟨cl,?_,h2,fun x hx=>h3 x ?_⟩
   ·rw[List.forIn_cons]
    simp only[hb,Bool.false_eq_true,if_false]
    exact h1
   ·rcases hx with hx|hx
    ·rw[List.lookup_cons]at hx
     cases hq:x==n with
     |true=>rw[hq]at hx;cases hx;exact absurd rfl hk
     |false=>rw[hq]at hx;exact .inl hx
    ·exact .inr hx
theorem q9d{scope:Scope}{env:Env}(hf:∀p∈scope.names,p.2=.free->∃c,env.cells.lookup p.1=some c) :
  ∃cl,closureFor scope env=pure cl/\(∀x c,cl.lookup x=some c->env.cells.lookup x=some c)/\(∀x,scope.names.lookup x=some .free->∃c,cl.lookup x=some c):=by
 obtain⟨cl,h1,h2,h3⟩:=z4u env scope.names [] hf (fun _ _ e=>by simp at e)
 refine⟨cl,?_,h2,fun x hx=>h3 x (.inl hx)⟩
 unfold closureFor
 simp only[]
 have:((forIn scope.names ([]:List (Str×Addr)) (fun(x:Str×NameKind) cs=>
    (if (x.2==NameKind.free)=true then (do let a <-cellOf env x.1;pure (ForInStep.yield ((x.1,a)::cs)))else pure (ForInStep.yield cs))):Sem (List (Str×Addr))) >>= fun r=>pure r)=pure cl:=by
  rw[h1];rfl
 exact this
def IxOk(N:List Str)(around:Scope)(scope:Scope):List Str->List (Option Nat)->Prop
 |[],[]=>True
 |y::r,some j::t=>(N[j]?=some y/\scope.names.lookup y=some .free/\(around.names.lookup y=some .cell\/around.names.lookup y=some .free))/\IxOk N around scope r t
 |_::r,none::t=>IxOk N around scope r t
 |_,_=>False
theorem IxOk.at{N:List Str}{around scope:Scope}:∀{N':List Str}{ix:List (Option Nat)},IxOk N around scope N' ix->∀(i:Nat)(y:Str)(j:Nat),N'[i]?=some y->ix[i]?=some (some j)->
  N[j]?=some y/\scope.names.lookup y=some .free/\(around.names.lookup y=some .cell\/around.names.lookup y=some .free)
 |[],_,_,i,y,j,e,_=>by simp at e
 |_::_,[],h,_,_,_,_,_=>h.elim
 |y'::r,some j'::t,h,0,y,j,e,e'=>by
  simp at e e'
  subst e e'
  exact h.1
 |y'::r,some j'::t,h,i+1,y,j,e,e'=>IxOk.at (N':=r) (ix:=t) h.2 i y j (by simpa using e) (by simpa using e')
 |y'::r,none::t,h,0,y,j,e,e'=>by simp at e'
 |y'::r,none::t,h,i+1,y,j,e,e'=>IxOk.at (N':=r) (ix:=t) h i y j (by simpa using e) (by simpa using e')
theorem IxOk.len{N:List Str}{around scope:Scope}:∀{N':List Str}{ix:List (Option Nat)},IxOk N around scope N' ix->ix.length=N'.length
 |[],[],_=>rfl
 |[],_::_,h=>h.elim
 |_::_,[],h=>h.elim
 |_::r,some _::t,h=>by simp[IxOk.len (N':=r) (ix:=t) h.2]
 |_::r,none::t,h=>by simp[IxOk.len (N':=r) (ix:=t) h]
def q3s(ix:List (Option Nat))(σ:St):St:=ix.map fun o=>match o with
 |none=>none
 |some j=>match σ[j]? with
  |some v=>v
  |none=>none
structure CompOk(X:Cx)(scope:Scope)(N':List Str)(ix:List (Option Nat)):Prop where
 kind:scope.kind=.function
 cell:∀y∈scope.names,y.2≠.cell
 names:∀y∈scope.names,y.2=.local->scope.names.lookup y.1=some .local
 free:∀y∈scope.names,y.2=.free->X.env.scope.names.lookup y.1=some .cell\/X.env.scope.names.lookup y.1=some .free
 ixs:IxOk X.N X.env.scope scope N' ix
def Cx.comp(X:Cx)(scope:Scope)(N':List Str)(cl:List (Str×Addr))(C:Addr)(s:Shared)(H:Hp)(fp:List Addr):Cx where
 prog:=X.prog
 w:=X.w
 K:=X.K
 mg:=X.mg
 base:=X.base
 A:=X.A
 N:=N'
 s₀:=s
 H₀:=H
 env:=compEnvC scope cl C X.env
 outer:=X.stack
 stack:=X.stack
 ex:=fp
 fn:=fun _=>false
 calm:=true
 pn:=[]
 xe:=fun _ _=>False
theorem z0y{env:Env}{scope:Scope}{x:Str}{k:NameKind}:(relabel scope env).names.lookup x=some k->k=.cell\/k=.free->(∀y∈scope.names,y.2≠.cell)->scope.names.lookup x=some .free:=by
 unfold relabel
 dsimp only
 generalize scope.names=names
 intro h hk hc
 induction names with
 |nil=>simp at h
 |cons p r ih=>
  obtain⟨n,k'⟩:=p
  rw[List.map_cons,List.lookup_cons]at h
  rw[List.lookup_cons]
  by_cases hf:k'=.free
  ·subst hf
   cases hq:x==n with
   |true=>rfl
   |false=>
    refine ih ?_ fun y hy=>hc y (List.mem_cons_of_mem _ hy)
    split at h
    ·rename_i hh;simp only[hq]at hh;split at hh<;>exact absurd hh (by simp[hq])
    ·exact h
  ·have hb:(k' == NameKind.free)=false:=by simpa using hf
   simp only[hb,Bool.false_and,Bool.false_eq_true,if_false]at h
   cases hq:x==n with
   |true=>
    rw[hq]at h
    simp only[Option.some.injEq]at h
    subst h
    rcases hk with hk|hk
    ·exact absurd hk (hc (n,k') List.mem_cons_self)
    ·exact absurd hk hf
   |false=>
    rw[hq]at h
    exact ih h fun y hy=>hc y (List.mem_cons_of_mem _ hy)
theorem z3p{env:Env}{scope:Scope}{x:Str}(h:scope.names.lookup x=some .free):(relabel scope env).names.lookup x=some .cell\/(relabel scope env).names.lookup x=some .free:=by
 unfold relabel
 dsimp only
 generalize scope.names=names at h
 induction names with
 |nil=>simp at h
 |cons p r ih=>
  obtain⟨n,k'⟩:=p
  rw[List.lookup_cons]at h
  rw[List.map_cons]
  cases hq:x==n with
  |true=>
   rw[hq]at h
   simp only[Option.some.injEq]at h
   subst h
   by_cases hc:(env.scope.kind==ScopeKind.function&&env.kindOf n==some NameKind.cell)=true
   ·left
    simp only[beq_self_eq_true,Bool.true_and,hc,if_true,List.lookup_cons,hq]
   ·right
    simp only[beq_self_eq_true,Bool.true_and,hc,Bool.false_eq_true,if_false,List.lookup_cons,hq]
  |false=>
   rw[hq]at h
   have:=ih h
   by_cases hc:(k' == NameKind.free&&env.scope.kind==ScopeKind.function&&env.kindOf n==some NameKind.cell)=true
   ·simp only[hc,if_true,List.lookup_cons,hq];exact this
   ·simp only[hc,Bool.false_eq_true,if_false,List.lookup_cons,hq];exact this
section
variable{X:Cx}{pins:List (Addr×Obj)}{σ:St}{H:Hp}{s:Shared}
theorem Inv.track{D:Addr}{its:List Value}{n:Nat}{ys:List V}(I:Inv X pins σ H s)(hn:H D=none)(hL:D≠X.env.locals)(h1:X.s₀.heap.objs.size<=D)
  (h2:∀x c,X.env.cells.lookup x=some c->c≠D) (h3:∀p∈X.pn++pins,p.1≠D) (ho:s.heap.get? D=some {cls:=.type "list",data:=.seq its.toArray n}) (r:Vals ys its) (hz:ys.length<=sizeLine) :
  Inv X pins σ (upd H D (.lst ys)) s:=by
 have ne:∀b u,H b=some u->b≠D:=fun b u e z=>by rw[z,hn]at e;cases e
 have ne0:∀b o,X.s₀.heap.get? b=some o->b≠D:=fun b o e=>Nat.ne_of_lt (Nat.lt_of_lt_of_le (Heap.lt_size e) h1)
 refine⟨I.ok,I.os,I.bare,⟨I.base.keep,I.base.slot,fun b o e n' hx=>?_,I.base.there,fun b xs e=>?_,fun b o u e=>?_,fun b ps e=>?_⟩,I.loc,I.cell,?_,fun x c e=>?_,fun p hp=>?_,fun b u e=>?_,I.len⟩
 ·rw[q1c (ne0 b o e)];exact I.base.free b o e n' hx
 ·have q:=I.base.tups b xs e
  rw[q1c (ne _ _ q)];exact q
 ·have q:=I.base.frzs b o u e
  rw[q1c (ne _ _ q)];exact q
 ·obtain⟨more,q⟩:=I.base.tbls b ps e
  exact⟨more,by rw[q1c (ne _ _ q)];exact q⟩
 ·rw[q1c (Ne.symm hL)];exact I.free
 ·rw[q1c (h2 x c e)];exact I.freeC x c e
 ·obtain⟨a1,a2,a3⟩:=I.pin p hp
  exact⟨a1,by rw[q1c (h3 p hp)];exact a2,a3⟩
 ·by_cases hb:b=D
  ·subst hb
   rw[q2r]at e
   cases e
   exact⟨hz,its,n,r,ho⟩
  ·rw[q1c hb]at e
   refine(I.hok b u e).stay (fun c v hc q=>q) (fun c q=>?_) fun c xs q=>?_
   ·rw[q1c (ne _ _ q)];exact q
   ·rw[q1c (ne _ _ q)];exact q
theorem Inv.comp{scope:Scope}{N':List Str}{ix:List (Option Nat)}{cl:List (Str×Addr)}{C:Addr}{fp:List Addr}{h':Heap}{t':Nat}(I:Inv X pins σ H s)(co:CompOk X scope N' ix)
  (hcl1:∀x c,cl.lookup x=some c->X.env.cells.lookup x=some c) (hcl2:∀x,scope.names.lookup x=some .free->∃c,cl.lookup x=some c) (hc:X.calm=true)
  (hC:s.heap.objs.size<=C) (hns:h'.Ns C fun _=>none) (hk:∀b o,s.heap.get? b=some o->h'.get? b=some o) (hf:∀b∈fp,FpOk X pins H b) (hfz:∀b∈fp,b<s.heap.objs.size) :
  Inv (X.comp scope N' cl C s H fp) [] (q3s ix σ) H {s with heap:=h',toks:=t' }:=by
 have lookK:∀x k,(compEnvC scope cl C X.env).kindOf x=some k->k=.cell\/k=.free->scope.names.lookup x=some .free:=fun x k e hk'=>z0y (env:=X.env) e hk' co.cell
 have ok:(X.comp scope N' cl C s H fp).Ok:=by
  refine⟨I.ok.mod,co.kind,I.ok.glob,I.ok.blt,hC,fun x y c e1 e2=>I.ok.inj x y c (hcl1 x c e1) (hcl1 y c e2),fun x hx=>?_,fun x c e=>(by cases e),fun _=>I.ok.hd hc,I.ok.frames,.inl rfl,fun b hb=>⟨?_,fun x c e=>?_⟩,I.bs,?_,fun b o e hb=>?_,fun b hb z=>?_,I.stack,I.stkFree⟩
  ·refine hcl2 x ?_
   rcases hx with e|e
   ·exact lookK x _ e (.inl rfl)
   ·exact lookK x _ e (.inr rfl)
  ·exact Nat.ne_of_lt (Nat.lt_of_lt_of_le (hfz b hb) hC)
  ·exact(hf b hb).2.2.2.2.1 x c (hcl1 x c e)
  ·exact Nat.le_trans I.ok.bsz I.sz
  ·rcases(hf b hb).2.2.2.1 with z|z
   ·exact I.ok.noex b o e z
   ·exact absurd (Nat.lt_of_lt_of_le (Heap.lt_size (I.ok.bs b o e).1) z) (Nat.lt_irrefl _)
  ·rcases List.mem_cons.mp (I.stkSub b z)with q|q
   ·exact(hf b hb).2.1 q
   ·exact(hf b hb).2.2.1 q
 refine⟨ok,rfl,I.bare,Un.kept hk,⟨_,hns,fun i y v e1 e2 e3=>?_⟩,fun x c e=>?_,?_,fun x c e=>I.freeC x c (hcl1 x c e),(fun p hp=>by cases hp),I.hok.kept hk,?_⟩
 ·-- a name of the frame around
  have e1':N'[i]?=some y:=e1
  have e2':(q3s ix σ)[i]?=some (some v):=e2
  unfold q3s at e2'
  rw[List.getElem?_map]at e2'
  cases hix:ix[i]? with
  |none=>rw[hix]at e2';cases e2'
  |some o=>
   rw[hix]at e2'
   cases o with
   |none=>cases e2'
   |some j=>
    have hj:σ[j]?=some (some v):=by
     cases hs:σ[j]? with
     |none=>simp only[Option.map_some,hs]at e2';cases e2'
     |some o=>
      simp only[Option.map_some,hs,Option.some.injEq]at e2'
      rw[e2']
    obtain⟨a1,a2,a3⟩:=co.ixs.at i y j e1' hix
    obtain⟨m,hm,hl⟩:=I.loc
    obtain⟨u,r,l⟩:=hl j y v a1 hj (by rcases a3 with z|z;exact .inr (.inl z);exact .inr (.inr z))
    refine⟨u,r,.inr ⟨z3p a2,?_⟩⟩
    obtain⟨c,hc'⟩:=hcl2 y a2
    refine⟨c,hc',?_⟩
    rcases l with⟨z,_⟩|⟨_,c',e',o,ho,hd⟩
    ·have z':X.env.scope.names.lookup y=some .local:=z
     rcases a3 with q|q<;>rw[z']at q<;>cases q
    ·have:c'=c:=Option.some.inj (e'.symm.trans (hcl1 y c hc'))
     subst this
     exact⟨o,hk _ _ ho,hd⟩
 ·obtain⟨v,o,ho,hd⟩:=I.cell x c (hcl1 x c e)
  exact⟨v,o,hk _ _ ho,hd⟩
 ·exact I.hok.fresh hC
 ·show(q3s ix σ).length=N'.length
  unfold q3s
  rw[List.length_map]
  exact co.ixs.len
end
def z8p(J:It)(g:TG)(tc:TT)(te:TE)(Q:VK)(σ₀:St)(H1:Hp):Prop:=∃(W:Nat->List V->St->Hp->Prop)(n:Nat),n<=sizeLine/\W 0 [] σ₀ H1/\∀i ys σ H,i<=n->W i ys σ H->
 (J.stop i H/\∀p,H p=none->Q (.ref p) (upd H p (.lst ys)))\/(i<n/\J.go i H/\∀x H',J.yld i H x H'->g x σ H' fun σ2 H2=>tc σ2 H2 fun b H3=>if b=true then te σ2 H3 fun y H4=>W (i+1) (ys++[y]) σ2 H4 else W (i+1) ys σ2 H3)
def z5o(wi:TI)(ix:List (Option Nat))(g:TG)(tc:TT)(te:TE):TE:=fun σ H Q=>wi σ H fun J H1=>z8p J g tc te Q (q3s ix σ) H1
section
variable{X:Cx}{tg iter elt c:Expr}{scope:Scope}{pos:Pos}{N':List Str}{ix:List (Option Nat)}{wi:TI}{g:TG}{te:TE}{tc:TT}
structure CompMid(X:Cx)(scope:Scope)(N':List Str)(cl:List (Str×Addr))(C D:Addr)(s₂:Shared)(H₂:Hp)(fp:List Addr)(tn:Nat->Heap->Prop)(W:Nat->List V->St->Hp->Prop)(i:Nat)(ys:List V)(σ':St)(H':Hp)(s':Shared):Prop where
 inv:∃us:List Value,Vals ys us/\Inv (X.comp scope N' cl C s₂ H₂ fp) [(D,{cls:=.type "list",data:=.seq us.toArray us.length})] σ' H' s'
 tn:tn i s'.heap
 fpn:∀b∈fp,H' b=none
 len:ys.length<=i
 w:W i ys σ' H'
theorem y8a{pins:List (Addr×Obj)}{σ:St}{H₂:Hp}{s₂:Shared}{cl:List (Str×Addr)}{C D:Addr}{fp:List Addr}{Q:VK}{ys:List V}{us:List Value}{σ':St}{H':Hp}{s':Shared}
  (I₂:Inv X pins σ H₂ s₂) (f2:∀b∈fp,FpOk X pins H₂ b) (hD:s₂.heap.objs.size<=D) (hC:s₂.heap.objs.size<=C) (hDC:D≠C) (r:Vals ys us)
  (I':Inv (X.comp scope N' cl C s₂ H₂ fp) [(D,{cls:=.type "list",data:=.seq us.toArray us.length})] σ' H' s') (hz:ys.length<=sizeLine) (q:∀p,H' p=none->Q (.ref p) (upd H' p (.lst ys))) :
  ∃m,s'.heap.Ns C m/\∀h',Heap.SameBut C s'.heap h'->EP X pins σ Q (.ref D) {s' with heap:=h' }:=by
 obtain⟨m,hm,_⟩:=I'.loc
 refine⟨m,hm,fun h' sb=>?_⟩
 have new:∀a,s₂.heap.objs.size<=a->a≠X.env.locals/\X.s₀.heap.objs.size<=a/\(∀x c,X.env.cells.lookup x=some c->c≠a)/\∀p∈X.pn++pins,p.1≠a:=fun a ha=>by
  refine⟨Nat.ne_of_gt (Nat.lt_of_lt_of_le I₂.lt ha),Nat.le_trans I₂.sz ha,fun x c e=>?_,fun p hp=>?_⟩
  ·obtain⟨v,o,ho,_⟩:=I₂.cell x c e
   exact Nat.ne_of_lt (Nat.lt_of_lt_of_le (Heap.lt_size ho) ha)
  ·exact Nat.ne_of_lt (Nat.lt_of_lt_of_le (Heap.lt_size (I₂.pin p hp).1) ha)
 have I3:Inv X pins σ H' s':=I₂.call' I'.os I'.base I'.hok I'.bare fun b hb=>⟨(f2 b hb).2.2.2.1,(f2 b hb).2.1,(f2 b hb).2.2.2.2.1,(f2 b hb).2.2.2.2.2⟩
 obtain⟨eD,nD,_,_,_⟩:=I'.pin (D,{cls:=.type "list",data:=.seq us.toArray us.length}) (by simp)
 obtain⟨c1,c2,c3,c4⟩:=new C hC
 have I4:Inv X pins σ H' {s' with heap:=h' }:=I3.turned (t':=s'.toks) (it:=C) (fun b o hb e=>(sb.2 b hb).trans e) I'.free c1 (.inr c2) c3 c4
 obtain⟨d1,d2,d3,d4⟩:=new D hD
 have I5:=I4.track (D:=D) (ys:=ys) nD d1 d2 d3 d4 ((sb.2 D hDC).trans eD) r hz
 exact⟨.ref D,_,I5,rfl,q D nD⟩
theorem y8b{H₂:Hp}{s₂:Shared}{cl:List (Str×Addr)}{C D:Addr}{fp:List Addr}{ys:List V}{us:List Value}{σ':St}{H':Hp}{s':Shared}{pl:List (Addr×Obj)}{y:V}{u:Value}{Q:Value->Shared->Prop}{E:Value->Shared->Prop}
  (hD:s₂.heap.objs.size<=D) (hDC:D≠C) (hcl:∀x c,cl.lookup x=some c->c≠D) (r:Vals ys us) (ry:RelV y u) (hz:ys.length<sizeLine)
  (I':Inv (X.comp scope N' cl C s₂ H₂ fp) ([(D,{cls:=.type "list",data:=.seq us.toArray us.length})]++pl) σ' H' s') (hp:∀p∈pl,p.1≠D)
  (h:∀s'',Inv (X.comp scope N' cl C s₂ H₂ fp) ([(D,{cls:=.type "list",data:=.seq (us++[u]).toArray (us++[u]).length})]++pl) σ' H' s''->Q .none s'') :
  wpAny (model X.prog X.w) X.A (call (.builtin "list.append") [.ref D,u]) Q E s':=by
 obtain⟨eD,nD,neD,nfD,ndD⟩:=I'.pin (D,{cls:=.type "list",data:=.seq us.toArray us.length}) (by simp)
 refine append_at eD (fun h₅ hs₅ hD₅=>h _ ?_) (by simp only[List.size_toArray];rw[<-r.length];exact Nat.le_of_lt hz)
 have I1:Inv (X.comp scope N' cl C s₂ H₂ fp) pl σ' H' s':=I'.pins_of fun p hp'=>I'.pin p (List.mem_append_right _ (List.mem_append_right _ hp'))
 have I2:Inv (X.comp scope N' cl C s₂ H₂ fp) pl σ' H' {s' with heap:=h₅}:=I1.turned (t':=s'.toks) (it:=D) (fun b o hb e=>(hs₅.2 b hb).trans e) nD neD (.inr hD) hcl (fun p hp'=>hp p (by simpa[Cx.comp]using hp'))
 refine I2.pins_of fun p hp'=>?_
 rcases List.mem_append.mp hp' with z|z
 ·obtain rfl:=List.mem_singleton.mp z
  refine⟨?_,nD,neD,nfD,fun v z=>by cases z⟩
  rw[hD₅,List.length_append,List.length_singleton,List.push_toArray]
 ·exact I2.pin p (List.mem_append_right _ z)
end
section
variable{X:Cx}{tg iter elt c:Expr}{scope:Scope}{pos:Pos}{N':List Str}{ix:List (Option Nat)}{wi:TI}{g:TG}{te:TE}{tc:TT}
theorem z4t{pins:List (Addr×Obj)}{σ:St}{H₂:Hp}{s₂:Shared}{cl:List (Str×Addr)}{C D:Addr}{fp:List Addr}{ys:List V}{us:List Value}{σ':St}{H':Hp}{s':Shared}{i:Nat}{x:Str}{py:Pos}{Q:Value->Shared->Prop}
  (hN:X.N.Nodup) (hi:X.N[i]?=some x) (hx:Loc X.env.scope x) (hf:X.fn x=true\/X.env.scope.names.lookup x=some .local)
  (I₂:Inv X pins σ H₂ s₂) (f2:∀b∈fp,FpOk X pins H₂ b) (hD:s₂.heap.objs.size<=D) (hC:s₂.heap.objs.size<=C) (hDC:D≠C) (r:Vals ys us)
  (I':Inv (X.comp scope N' cl C s₂ H₂ fp) [(D,{cls:=.type "list",data:=.seq us.toArray us.length})] σ' H' s') (hz:ys.length<=sizeLine)
  (q:∀s'',Inv X pins (σ.set i (some (.ref D))) (upd H' D (.lst ys)) s''->H' D=none->Q .none s'') :
  wpAny (model X.prog X.w) X.A (assign (.Name x py) X.env (.ref D)) (fun _ s''=>∃m,s''.heap.Ns C m/\∀h',Heap.SameBut C s''.heap h'->Q .none {s'' with heap:=h' }) X.xe s':=by
 obtain⟨m,hm,_⟩:=I'.loc
 have new:∀a,s₂.heap.objs.size<=a->a≠X.env.locals/\X.s₀.heap.objs.size<=a/\(∀x c,X.env.cells.lookup x=some c->c≠a)/\∀p∈X.pn++pins,p.1≠a:=fun a ha=>by
  refine⟨Nat.ne_of_gt (Nat.lt_of_lt_of_le I₂.lt ha),Nat.le_trans I₂.sz ha,fun x c e=>?_,fun p hp=>?_⟩
  ·obtain⟨v,o,ho,_⟩:=I₂.cell x c e
   exact Nat.ne_of_lt (Nat.lt_of_lt_of_le (Heap.lt_size ho) ha)
  ·exact Nat.ne_of_lt (Nat.lt_of_lt_of_le (Heap.lt_size (I₂.pin p hp).1) ha)
 have I3:Inv X pins σ H' s':=I₂.call' I'.os I'.base I'.hok I'.bare fun b hb=>⟨(f2 b hb).2.2.2.1,(f2 b hb).2.1,(f2 b hb).2.2.2.2.1,(f2 b hb).2.2.2.2.2⟩
 obtain⟨eD,nD,_,_,_⟩:=I'.pin (D,{cls:=.type "list",data:=.seq us.toArray us.length}) (by simp)
 obtain⟨c1,c2,c3,c4⟩:=new C hC
 obtain⟨d1,d2,d3,d4⟩:=new D hD
 have I5:=I3.track (D:=D) (ys:=ys) nD d1 d2 d3 d4 eD r hz
 refine wpAny_assign_Name (z3k I5 hN hi hx (v:=.ref D) rfl (fun s'' I'' ⟨a,sb,ha⟩=>?_) hf)
 have haC:a≠C:=by
  rcases ha with rfl|ha
  ·exact c1.symm
  ·exact c3 _ _ ha
 refine⟨m,hm.sameBut sb haC.symm,fun h' sb'=>q _ ?_ nD⟩
 exact I''.turned (t':=s''.toks) (it:=C) (fun b o hb e=>(sb'.2 b hb).trans e) (by rw[q1c hDC.symm];exact I'.free) c1 (.inr c2) c3 c4
theorem y7g{prog:Program}{w:World}{A:Around}{s:Shared}{elt target iter:Expr}{ifs:List Expr}{scope:Scope}{pos:Pos}{it acc:Value}{env:Env}{R:Result->Shared->Prop}(I:Nat->Shared->Prop)
  (turn:∀n s,I n s->wpAny (model prog w) A (pyNext it) (fun r s₁=>match r with
   |none=>R (.ok .next) s₁
   |some v=>wpAny (model prog w) A (letOwnedTupleGo target it v) (fun _ s₀=>wpAny (model prog w) A (assign target env v) (fun _ s₂=>
     wpAny (model prog w) A (forIn ifs true fun c r=>if r=true then do let ok <-isTrue c env (eval c env);pure (ForInStep.yield ok)else pure (ForInStep.yield r)) (fun ok s₃=>if ok=true then wpAny (model prog w) A (eval elt env) (fun x s₄=>
      wpAny (model prog w) A (call (.builtin "list.append") [acc,x]) (fun _ s₅=>∃m,m<n/\I m s₅) (notedBy (model prog w) A env fun e s'=>R (.error e) s') s₄) (notedBy (model prog w) A env fun e s'=>R (.error e) s') s₃
      else ∃m,m<n/\I m s₃) (notedBy (model prog w) A env fun e s'=>R (.error e) s') s₂)
     (notedBy (model prog w) A env fun e s'=>R (.error e) s') s₀) (notedBy (model prog w) A env fun e s'=>R (.error e) s') s₁) (notedBy (model prog w) A env fun e s'=>R (.error e) s') s)
  (n:Nat) (h:I n s):codeAny (model prog w) A (.compLoop (.ListComp elt [⟨target,iter,ifs,0⟩] scope pos) 0 it acc env) R s:=by
 refine codeAny_loop rfl I (fun n s hI=>?_) n h
 show wpAny _ A ((compTurn (.ListComp elt [⟨target,iter,ifs,0⟩] scope pos) 0 it acc env).onRaise (fun x=>do noteFrame x env;theTreesLotGoes x)) _ _ s
 refine wpAny_noted ?_
 rw[compTurn_list]
 refine wpAny_bind (wpAny_standAt (wpAny_bind (wpAny_mono (turn n s hI) (fun r s₁ h₁=>?_) fun _ _ h'=>h')))
 cases r with
 |none=>exact wpAny_pure h₁
 |some v=>
  refine wpAny_bind (wpAny_mono h₁ (fun _ s₀ h₀'=>?_) fun _ _ h'=>h')
  refine wpAny_bind (wpAny_mono h₀' (fun _ s₂ h₂=>?_) fun _ _ h'=>h')
  refine wpAny_bind (wpAny_mono h₂ (fun okb s₃ h₃=>?_) fun _ _ h'=>h')
  cases okb with
  |false=>exact wpAny_pure ⟨rfl,h₃⟩
  |true=>exact wpAny_bind (wpAny_bind (wpAny_mono h₃ (fun x s₄ h₄=>wpAny_bind (wpAny_mono h₄ (fun _ s₅ h₅=>wpAny_pure (wpAny_pure ⟨rfl,h₅⟩)) fun _ _ h'=>h')) fun _ _ h'=>h'))
def PTs(X:Cx)(ifs:List Expr)(t:TT):Prop:=
 ∀(pins:List (Addr×Obj))(s:Shared)(σ:St)(H:Hp)(Q:Bool->Hp->Prop),Inv X pins σ H s->t σ H Q->wpAny (model X.prog X.w) X.A (forIn ifs true fun c r=>if r=true then do let ok <-isTrue c X.env (eval c X.env);pure (ForInStep.yield ok)else pure (ForInStep.yield r)) (TP X pins σ Q) X.xe s
theorem y1j(h:PT X c tc):PTs X [c] tc:=fun pins s σ H Q I q=>wpAny_tests_one (h pins s σ H Q I q)
theorem y1k(h:∀σ H Q,tc σ H Q->Q true H):PTs X [] tc:=fun pins s σ H Q I q=>wpAny_tests_nil ⟨H,I,h σ H Q q⟩
theorem z4s{ifs:List Expr}{use:Option (Value->Sem Unit)}{Qf:Value->Shared->Prop}{pins:List (Addr×Obj)}{s:Shared}{σ:St}{H:Hp}{ps:Pos}(hc:X.calm=true)(co:CompOk X scope N' ix)(hi:PI X tg iter wi)(hg:∀cl C s H fp,PG (X.comp scope N' cl C s H fp) tg g)(ht:∀cl C s H fp,PTs (X.comp scope N' cl C s H fp) ifs tc)(he:∀cl C s H fp,PE (X.comp scope N' cl C s H fp) elt te)
  (hs:∀x,foldedSetIterable iter X.env x=pure x:=by intro _;rfl)
  (I:Inv X pins σ H s) (h:wi σ H fun J H1=>∃Q:VK,z8p J g tc te Q (q3s ix σ) H1/\∀{H₂:Hp}{s₂:Shared}{cl:List (Str×Addr)}{C D:Addr}{fp:List Addr}{ys:List V}{us:List Value}{σ':St}{H':Hp}{s':Shared},Inv X pins σ H₂ s₂->(∀b∈fp,FpOk X pins H₂ b)->s₂.heap.objs.size<=D->s₂.heap.objs.size<=C->D≠C->Vals ys us->
   Inv (X.comp scope N' cl C s₂ H₂ fp) [(D,{cls:=.type "list",data:=.seq us.toArray us.length})] σ' H' s'->ys.length<=sizeLine->(∀p,H' p=none->Q (.ref p) (upd H' p (.lst ys)))->compPost (model X.prog X.w) X.A X.xe use Qf (.ref D) C (.ok .next) s') :
  wpAny (model X.prog X.w) X.A (comprehension (.ListComp elt [⟨tg,iter,ifs,0⟩] scope pos) scope X.env ps (newList []) false (eval iter X.env) use) Qf X.xe s:=by
 obtain⟨cl,hclos,hcl1,hcl2⟩:=q9d (scope:=scope) (env:=X.env) fun p hp e=>by
  rcases co.free p hp e with z|z
  ·exact I.ok.has p.1 (.inl z)
  ·exact I.ok.has p.1 (.inr z)
 refine wpAny_comprehension_free (use:=use) rfl hs hclos co.kind co.names (thn (hi pins s σ H _ I h) fun v s1 h1=>thn h1 fun itv s₂ h2=>?_)
 obtain⟨it,fp,tn,J,H₂,rfl,I₂,T,st2,f2,Q,⟨W,n,hn,w0,turn⟩,fin⟩:=h2
 refine wpAny_newObj_type (wpAny_newFunctionEnv co.cell (by intro y hy;simp at hy) (fun h₁ hns₁ hsb₁=>?_) co.kind)
 dsimp only at hns₁ hsb₁ ⊢
 generalize hH2:s₂.heap.push {cls:=.type "list",dict:=none,data:=.seq ([]:List Value).toArray}=H2 at hns₁ hsb₁ ⊢
 have hC:H2.objs.size=s₂.heap.objs.size+1:=by rw[<-hH2,Heap.size_push]
 have hCle:s₂.heap.objs.size<=H2.objs.size:=by omega
 have hDC:s₂.heap.objs.size≠H2.objs.size:=by omega
 have old:∀b o,s₂.heap.get? b=some o->h₁.get? b=some o:=fun b o e=>hsb₁.extBut b o (Nat.ne_of_lt (by rw[hC];exact Nat.lt_succ_of_lt (Heap.lt_size e))) (Heap.get?_push_of_some _ (hH2▸Heap.get?_push_of_some _ e))
 have hacc:h₁.get? s₂.heap.objs.size=some {cls:=.type "list",data:=.seq ([]:List Value).toArray}:=hsb₁.extBut _ _ hDC (Heap.get?_push_of_some _ (hH2▸Heap.get?_push_size _ rfl))
 have hfz:∀b∈fp,b<s₂.heap.objs.size:=fun b hb=>by
  obtain⟨o,e,_⟩:=T.obj _ _ st2 b hb
  exact Heap.lt_size e
 have hclD:∀x c,cl.lookup x=some c->c≠s₂.heap.objs.size:=fun x c e=>by
  obtain⟨v,o,ho,_⟩:=I₂.cell x c (hcl1 x c e)
  exact Nat.ne_of_lt (Heap.lt_size ho)
 have st0:tn 0 h₁:=T.keep _ _ _ st2 fun b hb o e=>old b o e
 have loop:∀s₃:Shared,s₃={s₂ with heap:=h₁,toks:=s₂.toks+([]:List (Str×Value)).length}->
   codeAny (model X.prog X.w) X.A (.compLoop (.ListComp elt [⟨tg,iter,ifs,0⟩] scope pos) 0 (.ref it) (.ref s₂.heap.objs.size) (compEnvC scope cl H2.objs.size X.env))
    (compPost (model X.prog X.w) X.A X.xe use Qf (.ref s₂.heap.objs.size) H2.objs.size) s₃:=by
  rintro s₃ rfl
  have I0:=I₂.comp (t':=s₂.toks+([]:List (Str×Value)).length) co hcl1 hcl2 hc hCle hns₁ old f2 hfz
  have nof:s₂.heap.objs.size∉(X.comp scope N' cl H2.objs.size s₂ H₂ fp).fs:=fun z=>by
   obtain⟨_,o,ho,_⟩:=I0.ok.funs.mem z
   exact absurd (Heap.lt_size ho) (Nat.lt_irrefl _)
  have I0':Inv (X.comp scope N' cl H2.objs.size s₂ H₂ fp) [(s₂.heap.objs.size,{cls:=.type "list",data:=.seq ([]:List Value).toArray ([]:List Value).length})] (q3s ix σ) H₂ {s₂ with heap:=h₁,toks:=s₂.toks+([]:List (Str×Value)).length}:=I0.pins_of fun p hp=>by
   obtain rfl:=List.mem_singleton.mp hp
   exact⟨hacc,I₂.fresh,hDC,nof,fun v z=>by cases z⟩
  have hclC:∀x c,cl.lookup x=some c->c≠s₂.heap.objs.size:=hclD
  have fpok:∀{us:List Value}{H':Hp},(∀b∈fp,H' b=none)->∀b∈fp,FpOk (X.comp scope N' cl H2.objs.size s₂ H₂ fp) [(s₂.heap.objs.size,{cls:=.type "list",data:=.seq us.toArray us.length})] H' b:=fun hn' b hb=>
   ⟨hn' b hb,(I0.ok.exf b hb).1,I0.ok.exfs b hb,.inl hb,(I0.ok.exf b hb).2,fun p hp=>by
    have hp':p∈[(s₂.heap.objs.size,({cls:=.type "list",data:=.seq _ _}:Obj))]:=hp
    obtain rfl:=List.mem_singleton.mp hp'
    exact Nat.ne_of_gt (hfz b hb)⟩
  refine y7g (fun k s'=>∃i ys σ' H',i<=n/\k=n-i/\CompMid X scope N' cl H2.objs.size s₂.heap.objs.size s₂ H₂ fp tn W i ys σ' H' s') ?_ n
   ⟨0,[],q3s ix σ,H₂,Nat.zero_le _,rfl,⟨[],.nil,I0'⟩,st0,fun b hb=>(f2 b hb).1,Nat.le_refl _,w0⟩
  rintro k s3 ⟨i,ys,σ3,H3,hi3,rfl,⟨us,r3,I3⟩,st3,fr3,hl3,w3⟩
  have weak:∀{e:Value}{s':Shared},False->notedBy (model X.prog X.w) X.A (compEnvC scope cl H2.objs.size X.env) (fun e s'=>compPost (model X.prog X.w) X.A X.xe use Qf (.ref s₂.heap.objs.size) H2.objs.size (.error e) s') e s':=fun z=>z.elim
  rcases turn i ys σ3 H3 hi3 w3 with⟨stop,q⟩|⟨hlt,go,step⟩
  ·refine thn (T.done (X.comp scope N' cl H2.objs.size s₂ H₂ fp) rfl rfl rfl rfl i _ s3 σ3 H3 _ I3 (fpok fr3) st3 stop) fun r s4 hh1=>?_
   obtain⟨hr,I4⟩:=hh1
   subst hr
   exact fin I₂ f2 (Nat.le_refl _) hCle hDC r3 I4 (by omega) q
  ·refine thn (T.item (X.comp scope N' cl H2.objs.size s₂ H₂ fp) rfl rfl rfl rfl i _ s3 σ3 H3 _ I3 (fpok fr3) st3 go) fun r s4 hh2=>?_
   obtain⟨u,hr,h4⟩:=hh2
   subst hr
   refine thn h4 fun _ s5 hh3=>?_
   obtain⟨x,H5,I5,r5,y5,st5,fr5⟩:=hh3
   have I5':=I5.pinned (fpok fr5) (T.obj _ _ st5)
   refine wpAny_mono (hg cl _ s₂ H₂ fp _ s5 σ3 H5 x u _ I5' r5 (step x H5 y5)) (fun _ s6 ⟨σ6,H6,I6,q6⟩=>?_) fun _ _ z=>weak z
   refine wpAny_mono (ht cl _ s₂ H₂ fp _ s6 σ6 H6 _ I6 q6) (fun b6 s6' ⟨H6',I6',q6'⟩=>?_) fun _ _ z=>weak z
   have hpl:∀p∈z1g fp s5.heap,p.1≠s₂.heap.objs.size:=fun p hp=>Nat.ne_of_lt (hfz p.1 (z3s hp).1)
   cases b6 with
   |false=>
    have q6'':W (i+1) ys σ6 H6':=by simpa using q6'
    have g6:¬(false=true):=by decide
    rw[if_neg g6]
    refine⟨n-(i+1),by omega,i+1,ys,σ6,H6',hlt,rfl,⟨us,r3,I6'.unpinned⟩,?_,fun b hb=>?_,by omega,q6''⟩
    ·exact T.keep _ _ _ st5 fun b hb o e=>(I6'.pin (b,o) (List.mem_append_right _ (List.mem_append_right _ (q3k hb e)))).1
    ·obtain⟨o,e,d⟩:=T.obj _ _ st5 b hb
     exact(I6'.pin (b,o) (List.mem_append_right _ (List.mem_append_right _ (q3k hb e)))).2.1
   |true=>
    have q6'':te σ6 H6' fun y H4=>W (i+1) (ys++[y]) σ6 H4:=by simpa using q6'
    have g6:true=true:=rfl
    rw[if_pos g6]
    refine wpAny_mono (he cl _ s₂ H₂ fp _ s6' σ6 H6' _ I6' q6'') (fun u7 s7 ⟨y7,H7,I7,r7,q7⟩=>?_) fun _ _ z=>weak z
    refine y8b (pl:=z1g fp s5.heap) (Nat.le_refl _) hDC hclD r3 r7 (by omega) I7 hpl fun s8 I8=>?_
    refine⟨n-(i+1),by omega,i+1,ys++[y7],σ6,H7,hlt,rfl,⟨us++[u7],r3.append (.cons r7 .nil),I8.unpinned⟩,?_,fun b hb=>?_,by rw[List.length_append,List.length_singleton];omega,q7⟩
    ·exact T.keep _ _ _ st5 fun b hb o e=>(I8.pin (b,o) (List.mem_append_right _ (List.mem_append_right _ (q3k hb e)))).1
    ·obtain⟨o,e,d⟩:=T.obj _ _ st5 b hb
     exact(I8.pin (b,o) (List.mem_append_right _ (List.mem_append_right _ (q3k hb e)))).2.1
 exact codeAny_compStart_list (loop _ rfl) (T.self _ 0 _ _ _ st0 (loop _ rfl))
theorem z7p{ifs:List Expr}(hc:X.calm=true)(co:CompOk X scope N' ix)(hit:PI X tg iter wi)(hm:∀σ H R R',(∀J H1,R J H1->R' J H1)->wi σ H R->wi σ H R')(hg:∀cl C s H fp,PG (X.comp scope N' cl C s H fp) tg g)(ht:∀cl C s H fp,PTs (X.comp scope N' cl C s H fp) ifs tc)(he:∀cl C s H fp,PE (X.comp scope N' cl C s H fp) elt te)
  (hs:∀x,foldedSetIterable iter X.env x=pure x:=by intro _;rfl):PE X (.ListComp elt [⟨tg,iter,ifs,0⟩] scope pos) (z5o wi ix g tc te):=by
 intro pins s σ H Q I h
 rw[eval_ListComp]
 refine z4s (use:=none) (Qf:=EP X pins σ Q) hc co hit hg ht he hs I (hm σ H _ _ (fun J H1 q=>⟨_,q,?_⟩) h)
 intro H₂ s₂ cl C DD fp ys us σ' H' s' I₂ f2 hD hC hDC r I' hz q
 exact y8a I₂ f2 hD hC hDC r I' hz q
def z8u(wi:TI)(ix:List (Option Nat))(g:TG)(tc:TT)(te:TE)(i:Nat):TS:=fun D σ H=>z5o wi ix g tc te σ H fun v H1=>D.nx (σ.set i (some v)) H1
theorem PI.mono{wi wi':TI}(h:PI X tg iter wi)(i:∀σ H R,wi' σ H R->wi σ H R):PI X tg iter wi':=fun pins s σ H R I q=>h pins s σ H R I (i σ H R q)
theorem z0e{ifs:List Expr}{i:Nat}{x:Str}{px sp:Pos}(hsw:swapsWith (.ListComp elt [⟨tg,iter,ifs,0⟩] scope pos) (some (.Name x px)) sp.line X.env=pure true)(hN:X.N.Nodup)(hi:X.N[i]?=some x)(hx:Loc X.env.scope x)
  (hc:X.calm=true) (co:CompOk X scope N' ix) (hit:PI X tg iter wi) (hm:∀σ H R R',(∀J H1,R J H1->R' J H1)->wi σ H R->wi σ H R') (hg:∀cl C s H fp,PG (X.comp scope N' cl C s H fp) tg g) (ht:∀cl C s H fp,PTs (X.comp scope N' cl C s H fp) ifs tc) (he:∀cl C s H fp,PE (X.comp scope N' cl C s H fp) elt te)
  (hs:∀x,foldedSetIterable iter X.env x=pure x:=by intro _;rfl) (hf:X.fn x=true\/X.env.scope.names.lookup x=some .local:=by first|exact .inl rfl|exact .inr rfl|assumption) :
  PS X (.Assign [.Name x px] (.ListComp elt [⟨tg,iter,ifs,0⟩] scope pos) sp) (z8u wi ix g tc te i):=by
 intro pins s σ H D I h
 rw[exec_Assign_Name_used _ _ _ _ hsw]
 refine wpAny_bind (wpAny_standAt (wpAny_bind ?_))
 show wpAny _ X.A (do let _ <-comprehension (.ListComp elt [⟨tg,iter,ifs,0⟩] scope pos) scope X.env _ (newList []) false (eval iter X.env) (some (assign (.Name x px) X.env))) _ _ s
 refine wpAny_bind (wpAny_mono (z4s (use:=some (assign (.Name x px) X.env)) (Qf:=fun _ s'=>SP X pins D .next s') hc co hit hg ht he hs I (hm σ H _ _ (fun J H1 q=>⟨_,q,?_⟩) h)) (fun _ s' hq=>wpAny_pure (wpAny_pure hq)) fun _ _ e=>e)
 intro H₂ s₂ cl C DD fp ys us σ' H' s' I₂ f2 hD hC hDC r I' hz q
 exact z4t (py:=px) (Q:=fun _ s'=>SP X pins D .next s') hN hi hx hf I₂ f2 hD hC hDC r I' hz fun s'' I'' nD=>⟨_,_,I'',q DD nD⟩
end
section
variable{prog:Program}{w:World}{A:Around}{E:Value->Shared->Prop}{s:Shared}
end
def ZIt(tp:Bool)(it l:Addr)(i:Nat)(h:Heap):Prop:=if tp=true then h.IsTupleIter it l i else h.IsListIter it l i
def ZSrc(tp:Bool)(l:Addr)(xs:Array Value)(h:Heap):Prop:=if tp=true then h.IsTuple l xs else h.IsList l xs
theorem ZIt.get{tp:Bool}{it l:Addr}{i:Nat}{h:Heap}(x:ZIt tp it l i h):∃o,h.get? it=some o/\∀v,o.data≠.cell v:=by
 unfold ZIt at x
 split at x
 ·obtain⟨o,e,c,d⟩:=x
  exact⟨o,e,fun v z=>by rw[d]at z;cases z⟩
 ·obtain⟨o,e,c,d⟩:=x
  exact⟨o,e,fun v z=>by rw[d]at z;cases z⟩
theorem ZIt.at{tp:Bool}{it l:Addr}{i:Nat}{h h':Heap}(x:ZIt tp it l i h)(k:∀o,h.get? it=some o->h'.get? it=some o):ZIt tp it l i h':=by
 unfold ZIt at x ⊢
 split at x
 ·rename_i c;rw[if_pos c];obtain⟨o,e,r⟩:=x;exact⟨o,k o e,r⟩
 ·rename_i c;rw[if_neg c];obtain⟨o,e,r⟩:=x;exact⟨o,k o e,r⟩
theorem ZSrc.at{tp:Bool}{l:Addr}{xs:Array Value}{h h':Heap}(x:ZSrc tp l xs h)(k:∀o,h.get? l=some o->h'.get? l=some o):ZSrc tp l xs h':=by
 unfold ZSrc at x ⊢
 split at x
 ·rename_i c;rw[if_pos c];obtain⟨o,e,r⟩:=x;exact⟨o,k o e,r⟩
 ·rename_i c;rw[if_neg c];obtain⟨o,e,r⟩:=x;exact⟨o,k o e,r⟩
section
variable{prog:Program}{w:World}{A:Around}{E:Value->Shared->Prop}{s:Shared}
structure ZAp(z ti to j1 j2 t1 t2:Addr):Prop where
 a1:ti≠z
 a2:to≠z
 a3:j1≠z
 a4:j2≠z
 a5:ti≠to
 a6:ti≠j1
 a7:ti≠j2
 a8:to≠j1
 a9:to≠j2
 b1:j1≠j2
 b2:t1≠z
 b3:t1≠to
 b4:t1≠j1
 b5:t1≠j2
 b6:t2≠z
 b7:t2≠to
 b8:t2≠j1
 b9:t2≠j2
end
section
variable{X:Cx}{pins:List (Addr×Obj)}{σ:St}{H:Hp}{s:Shared}{h':Heap}
theorem Inv.trackO{D:Addr}{ob:HO}(I:Inv X pins σ H s)(hf:FpOk X pins H D)(h1:X.s₀.heap.objs.size<=D)(new:q2y X.prog X.w (upd H D ob) s.heap D ob):Inv X pins σ (upd H D ob) s:=by
 obtain⟨hn,hL,_,_,h2,h3⟩:=hf
 have ne:∀b u,H b=some u->b≠D:=fun b u e z=>by rw[z,hn]at e;cases e
 have ne0:∀b o,X.s₀.heap.get? b=some o->b≠D:=fun b o e=>Nat.ne_of_lt (Nat.lt_of_lt_of_le (Heap.lt_size e) h1)
 refine⟨I.ok,I.os,I.bare,⟨I.base.keep,I.base.slot,fun b o e n' hx=>?_,I.base.there,fun b xs e=>?_,fun b o u e=>?_,fun b ps e=>?_⟩,I.loc,I.cell,?_,fun x c e=>?_,fun p hp=>?_,fun b u e=>?_,I.len⟩
 ·rw[q1c (ne0 b o e)];exact I.base.free b o e n' hx
 ·have q:=I.base.tups b xs e
  rw[q1c (ne _ _ q)];exact q
 ·have q:=I.base.frzs b o u e
  rw[q1c (ne _ _ q)];exact q
 ·obtain⟨more,q⟩:=I.base.tbls b ps e
  exact⟨more,by rw[q1c (ne _ _ q)];exact q⟩
 ·rw[q1c (Ne.symm hL)];exact I.free
 ·rw[q1c (h2 x c e)];exact I.freeC x c e
 ·obtain⟨a1,a2,a3⟩:=I.pin p hp
  exact⟨a1,by rw[q1c (h3 p hp)];exact a2,a3⟩
 ·by_cases hb:b=D
  ·subst hb
   rw[q2r]at e
   cases e
   exact new
  ·rw[q1c hb]at e
   refine(I.hok b u e).stay (fun c v hc q=>q) (fun c q=>?_) fun c xs q=>?_
   ·rw[q1c (ne _ _ q)];exact q
   ·rw[q1c (ne _ _ q)];exact q
end
def Sq(tp:Bool)(K:Frag)(H:Hp)(a:Addr)(xs:List V):Prop:=if tp=true then SqT K H a xs else SqL K H a xs
theorem Inv.sq{X:Cx}{pins:List (Addr×Obj)}{σ:St}{H:Hp}{s:Shared}{tp:Bool}{a:Addr}{xs:List V}(I:Inv X pins σ H s)(h:Sq tp X.K H a xs):∃its:List Value,Vals xs its/\ZSrc tp a its.toArray s.heap/\xs.length<=sizeLine:=by
 cases tp with
 |true=>
  obtain⟨its,r,t,z⟩:=I.tuple h
  exact⟨its,r,t,z⟩
 |false=>
  obtain⟨its,r,t,z⟩:=I.list h
  exact⟨its,r,t.isList,z⟩
structure ZAt(tp tq:Bool)(z ti to j1 j2 a b:Addr)(i:Nat)(h:Heap):Prop where
 gz:IsZip h z ti to .none
 gi:IsPair h ti (.ref j1) (.ref j2)
 go:∃p q,IsPair h to p q
 g1:ZIt tp j1 a i h
 g2:ZIt tq j2 b i h
abbrev x3y(tp:Bool)(a:Addr):Obj:={cls:=.type (if tp=true then "tuple_iterator" else "list_iterator"),data:=.fields #[.ref a,.int 0 0]}
theorem ZIt.new{tp:Bool}{a:Addr}{h:Heap}{it:Addr}(g:h.get? it=some (x3y tp a)):ZIt tp it a 0 h:=by
 cases tp with
 |true=>exact⟨_,g,rfl,rfl⟩
 |false=>exact⟨_,g,rfl,rfl⟩
section
variable{X:Cx}
theorem y6s:OpR X (binaryOp .FloorDiv) (rI (fun _ j=>0<j/\j<2 ^ 100) fun i j=>.int (i / j)):=opI fun i j _ _ s Q E hc q=>by
 refine floordiv_int (by omega) ?_ (.inl (PyProof.noPylong_of_log2 ?_))
 ·rw[Int.fdiv_eq_ediv_of_nonneg _ (by omega)];exact q
 ·have:j.natAbs<2 ^ 100:=by omega
  have h2:j.natAbs.log2<100:=(Nat.log2_lt (by omega)).mpr this
  omega
theorem z8f:X.calm=true->q6k X (.builtin "sum") (fun xs H Q=>∃(p:Addr)(ns:List Int),xs=[.ref p]/\SqL X.K H p (ns.map V.int)/\Q (.int ns.sum) H):=by
 intro hc pins s σ H xs us Q I r h
 obtain⟨p,ns,rfl,hp,q⟩:=h
 obtain⟨u,rfl,ru⟩:=z3h r
 cases ru
 obtain⟨is,r1,p1,_⟩:=I.list hp
 have hi:=z9r r1
 obtain⟨zs,hz⟩:=hi.allInts.items
 refine sum_intListG (I.ok.hd hc) (by rw[<-hz];exact p1.isList) fun h' tk t' hk=>?_
 refine⟨.int _,H,I.kept hk,⟨t',rfl⟩,?_⟩
 have e:preSum (numAt zs) zs.size=ns.sum:=by
  rw[preSum_eq,List.take_of_length_le (by simp)]
  have e2:=hi.numsOf
  have e3:is=(intItems zs).toList:=by rw[<-hz]
  rw[e3,nums_intItems]at e2
  rw[<-e2]
 rw[e];exact q
theorem y8g{bs:List Bool}{us:List Value}(r:Vals (bs.map V.bl) us){i:Nat}{v:Value}(e:us[i]?=some v):v=.bool (bs.getD i true):=by
 have hl:=r.length
 rw[List.length_map]at hl
 obtain⟨hi,rfl⟩:=List.getElem?_eq_some_iff.mp e
 have hi':i<bs.length:=by omega
 have:(bs.map V.bl)[i]?=some (.bl bs[i]):=by simp[hi']
 obtain⟨u,eu,ru⟩:=r.get this
 rw[e]at eu
 cases eu
 have hd:bs.getD i true=bs[i]:=by simp[List.getD,hi']
 rw[hd]
 exact ru
theorem y1g(bs:List Bool):(List.range bs.length).all (fun i=>bs.getD i true)=bs.all id:=by
 rw[Bool.eq_iff_iff,List.all_eq_true,List.all_eq_true]
 constructor
 ·intro h x hx
  obtain⟨i,hi,rfl⟩:=List.mem_iff_getElem.mp hx
  have:=h i (by simp[hi])
  simpa[List.getD,hi]using this
 ·intro h i hi
  have hi':i<bs.length:=by simpa using hi
  have:=h bs[i] (List.getElem_mem hi')
  simpa[List.getD,hi']using this
theorem y8c:X.calm=true->q6k X (.builtin "all") (fun xs H Q=>∃(p:Addr)(bs:List Bool),xs=[.ref p]/\SqL X.K H p (bs.map V.bl)/\Q (.bl (bs.all id)) H):=by
 intro hc pins s σ H xs us Q I r h
 obtain⟨p,bs,rfl,hp,q⟩:=h
 obtain⟨u,rfl,ru⟩:=z3h r
 cases ru
 obtain⟨is,r1,p1,_⟩:=I.list hp
 have hl:=r1.length
 rw[List.length_map]at hl
 have hlt:p<s.heap.objs.size:=by obtain⟨_,e,_⟩:=p1.isList;exact Heap.lt_size e
 refine call_all_walk (wpAny_pyIter_list p1.isList ?_)
 refine⟨s.heap.objs.size,_,_,_,_,_,(fun i=>bs.getD i true),rfl,Walks.list (A:=X.A.in1) (I.ok.hd hc) s.heap.objs.size p (Nat.ne_of_lt hlt) is.toArray,⟨⟨_,Heap.get?_push_size _ rfl,rfl,rfl⟩,p1.isList.push _⟩,fun i v s' Q' E' hv hQ'=>?_,fun h' tk hk=>?_⟩
 ·have e:=y8g r1 (i:=i) (v:=v) (by simpa using hv)
  subst e
  exact wpAny_pure hQ'
 ·refine⟨.bl _,H,I.kept (fun b o e=>hk b o (by have:=Heap.lt_size e;simp;exact Nat.ne_of_lt this) (Heap.get?_push_of_some _ e)),rfl,?_⟩
  have e:(List.range is.toArray.size).all (fun i=>bs.getD i true)=bs.all id:=by
   rw[List.size_toArray,<-hl];exact y1g bs
  show Q (.bl ((List.range is.toArray.size).all fun i=>bs.getD i true)) H
  rw[e];exact q
theorem z9o{h:Heap}{sl:Addr}{vl vu:Value}{lo hi:Option Int}(hs:h.IsSliceOf sl vl vu .none)(pl:IsPart vl lo)(pu:IsPart vu hi):∃l u:Option (Int×Tok),h.IsSlice sl l u none/\l.map (·.1)=lo/\u.map (·.1)=hi:=by
 cases pl with
 |none=>
  cases pu with
  |none=>exact⟨none,none,hs,rfl,rfl⟩
  |int i t=>exact⟨none,some (_,_),hs,rfl,rfl⟩
 |int i t=>
  cases pu with
  |none=>exact⟨some (_,_),none,hs,rfl,rfl⟩
  |int i t=>exact⟨some (_,_),some (_,_),hs,rfl,rfl⟩
theorem x4w:SlR X (fun x lo hi H Q=>∃z:Str,x=.str z/\z.length<=sizeLine/\Q (.str (Txt.slice z lo hi)) H):=by
 intro pins s σ H x v vl vu lo hi sl Q I rx hs pl pu h
 obtain⟨z,rfl,hz,q⟩:=h
 obtain⟨t,rfl⟩:=rx
 obtain⟨l,u,hsl,rfl,rfl⟩:=z9o hs pl pu
 refine⟨"str",_,F.slot_str_getitem.lookup,typeIs_str _ _ _,wpAny_getItem_str_slice (l:=l) (u:=u) (st:=none) hsl rfl ?_⟩
 exact post_val_or_str ⟨Nat.le_trans (Txt.slice_le z _ _) hz,fun t' k=>⟨.str _,H,I.tok k,⟨t',rfl⟩,q⟩⟩
end
section
variable{X:Cx}
end
theorem y4f:bootBuiltins "list" = some (.type "list"):=by kernel_rfl
theorem q3v:bootBuiltins "tuple" = some (.type "tuple"):=by kernel_rfl
theorem z8h:bootBuiltins "str" = some (.type "str"):=by kernel_rfl
theorem z8j:bootBuiltins "int" = some (.type "int"):=by kernel_rfl
theorem y4g:bootBuiltins "bool" = some (.type "bool"):=by kernel_rfl
theorem q5b:bootBuiltins "isinstance" = some (.builtin "isinstance"):=by kernel_rfl
theorem y8e:bootBuiltins "sum" = some (.builtin "sum"):=by kernel_rfl
theorem y8f:bootBuiltins "all" = some (.builtin "all"):=by kernel_rfl
inductive Ty(H:Hp):V->String->Prop where
 |non:Ty H .non "NoneType"
 |bl (x:Bool):Ty H (.bl x) "bool"
 |int (i:Int):Ty H (.int i) "int"
 |str (x:Str):Ty H (.str x) "str"
 |lst {a:Addr} {xs:List V} (e:H a=some (.lst xs)):Ty H (.ref a) "list"
 |tup {a:Addr} {xs:List V} (e:H a=some (.tup xs)):Ty H (.ref a) "tuple"
section
variable{X:Cx}
theorem Ty.of{K:Frag}{H:Hp}{x:V}{T:String}(h:Ty H x T):TyOf K H x (.type T):=by
 cases h with
 |non=>exact .non
 |bl x=>exact .bl x
 |int i=>exact .int i
 |str x=>exact .str x
 |lst e=>exact .lst e
 |tup e=>exact .tup e
theorem y7f{K:Frag}{T C D:String}{b c:Bool}(h1:PySem.W.kitOne K (.type T) (.type C)=some b)(h2:PySem.W.kitOne K (.type T) (.type D)=some c):PySem.W.kitAny K (.type T) [.type C,.type D]=some (b||c):=by
 unfold PySem.W.kitAny
 rw[h1]
 cases b with
 |true=>rfl
 |false=>
  show PySem.W.kitAny K (.type T) [.type D]=_
  unfold PySem.W.kitAny
  rw[h2]
  cases c<;>rfl
end
structure Cal(P:Program)(w:World)(K:Frag)(mg:Str->Option Value)(base:Heap)(k:Nat)(name:Str)(ps:List Str)(sp:Sp)(f:Addr)(fd:FuncData):Prop where
 G:FnOk P w K mg base (CXE P w) k f fd ps sp
 m:mg name=some (.ref f)
 kp:PySem.W.keepIn K (.ref f)=true
 b:z3f K fd ps []
theorem Cal.mono{P:Program}{w:World}{K:Frag}{mg:Str->Option Value}{base:Heap}{j k:Nat}{name:Str}{ps:List Str}{sp:Sp}{f:Addr}{fd:FuncData}(c:Cal P w K mg base j name ps sp f fd)(h:j<=k):Cal P w K mg base k name ps sp f fd:=⟨c.G.mono h,c.m,c.kp,c.b⟩
structure Loc2(K:Frag)(mg:Str->Option Value)(name:Str)(st:Stmt)(ps:List Str)(f:Addr)(fd:FuncData):Prop where
 F:Fun K name name st f fd
 m:mg name=some (.ref f)
 b:z3f K fd ps []
theorem Loc2.cal{P:Program}{w:World}{K:Frag}{mg:Str->Option Value}{base:Heap}{k:Nat}{name:Str}{st:Stmt}{ps:List Str}{sp:Sp}{f:Addr}{fd:FuncData}(l:Loc2 K mg name st ps f fd)(G:FnOk P w K mg base (CXE P w) k f fd ps sp):Cal P w K mg base k name ps sp f fd:=⟨G,l.m,l.F.kp,l.b⟩
structure Zs(mg:Str->Option Value):Prop where
 len:mg "len" = none
 range:mg "range" = none
 isinstance:mg "isinstance" = none
 list:mg "list" = none
 tuple:mg "tuple" = none
 str:mg "str" = none
 int:mg "int" = none
 bool:mg "bool" = none
 sum:mg "sum" = none
 all:mg "all" = none
 zip:mg "zip" = none
def z3e(l:Addr)(H H':Hp):Prop:=∀b o,b≠l->H b=some o->H' b=some o
theorem Same.x{H H':Hp}(h:Same H H')(l:Addr):z3e l H H':=fun b o _ e=>h b o e
theorem z3e.trans{l:Addr}{H H1 H2:Hp}(a:z3e l H H1)(b:z3e l H1 H2):z3e l H H2:=fun c o n e=>b c o n (a c o n e)
theorem z3e.refl(l:Addr)(H:Hp):z3e l H H:=fun _ _ _ e=>e
theorem z3e.seq{K:Frag}{l:Addr}{H H':Hp}{a:Addr}{xs:List V}(e:z3e l H H')(n:a≠l)(h:SqL K H a xs):SqL K H' a xs:=by
 rcases h with h|h
 ·left
  rcases h with q|⟨ob,q⟩
  ·exact .inl (e _ _ n q)
  ·exact .inr ⟨ob,e _ _ n q⟩
 ·exact .inr h
end L2
namespace My
open PySem L2
def wd(ks:List Nat):Str:=⟨(ks.map (97+·)).toArray⟩
theorem z5p{x y:Str}(h:x.cps.toList=y.cps.toList):x=y:=by
 obtain⟨a⟩:=x
 obtain⟨b⟩:=y
 have:a=b:=by rw[<-Array.toList_inj];exact h
 rw[this]
theorem x0d(ks:List Nat):(wd ks).cps.toList=ks.map (97+·):=rfl
theorem y8s(ks:List Nat):(wd ks).length=ks.length:=by simp[wd,Str.length]
theorem y8h(x y:Str):(x++y).cps.toList=x.cps.toList++y.cps.toList:=by
 show(x.cps++y.cps).toList=_
 simp
theorem z1k:(Str.ofString "abcdefghijklmnopqrstuvwxyz")=wd (List.range 26):=by decide +kernel
theorem z9h{i:Int}(h0:0<=i)(h1:i<26):atI (Str.ofString "abcdefghijklmnopqrstuvwxyz").cps.toList i=some (97+i.toNat):=by
 obtain⟨m,rfl⟩:∃m:Nat,i=(m:Int):=⟨i.toNat,by omega⟩
 have hm:m<26:=by omega
 rw[z1k]
 refine x3s ?_
 rw[x0d]
 simp[hm]
theorem z6c:(Str.ofString "abcdefghijklmnopqrstuvwxyz").length<=sizeLine:=by rw[z1k,y8s];decide
theorem x8g(lo hi:Option Int)(n:Nat):Builtin.Str.strSliceIndices lo hi 1 n=(List.range (HT.sIx n n hi-HT.sIx n 0 lo)).map fun k=>HT.sIx n 0 lo+k:=by
 have clip:∀(v:Option Int)(d:Nat),(match v with|none=>((d:Nat):Int)|some i=>max 0 (min (if i<0 then i+(n:Int)else i) (n:Int)))=((HT.sIx n d v:Nat):Int):=by
  intro v d
  cases v with
  |none=>rfl
  |some i=>
   unfold HT.sIx
   dsimp only
   split
   ·omega
   ·omega
 unfold Builtin.Str.strSliceIndices
 simp only[show((1:Int) > 0) by decide,if_true]
 have e1:=clip lo 0
 have e2:=clip hi n
 simp only[Int.ofNat_zero]at e1
 have key:∀a b a' b':Int,a=a'->b=b'->sliceRange a b 1=sliceRange a' b' 1:=fun a b a' b' h1 h2=>by rw[h1,h2]
 refine(key _ _ _ _ e1 e2).trans ?_
 unfold sliceRange
 simp only[show((1:Int) > 0) by decide,if_true]
 have e3:(if((HT.sIx n 0 lo:Nat):Int)<((HT.sIx n n hi:Nat):Int)then(((HT.sIx n n hi:Nat):Int)-((HT.sIx n 0 lo:Nat):Int)+1-1) / 1 else 0).toNat=HT.sIx n n hi-HT.sIx n 0 lo:=by
  split
  ·rw[Int.ediv_one];omega
  ·omega
 rw[e3]
 apply List.map_congr_left
 intro k _
 omega
theorem x1k(xs:List Nat)(a c:Nat)(hc:a+c<=xs.length):((List.range c).map fun k=>a+k).filterMap (fun i=>xs[i]?)=(xs.drop a).take c:=by
 induction c generalizing a with
 |zero=>simp
 |succ c ih=>
  have ha:a<xs.length:=by omega
  rw[List.range_succ_eq_map,List.map_cons,List.map_map,List.filterMap_cons]
  have e0:xs[a+0]?=some xs[a]:=by simp[ha]
  rw[e0]
  dsimp only
  rw[List.drop_eq_getElem_cons ha,List.take_succ_cons]
  congr 1
  have:=ih (a+1) (by omega)
  rw[<-this]
  congr 1
  apply List.map_congr_left
  intro k _
  simp only[Function.comp]
  omega
theorem z1c(x:Str)(lo hi:Option Int):(Txt.slice x lo hi).cps.toList=(x.cps.toList.drop (HT.sIx x.length 0 lo)).take (HT.sIx x.length x.length hi-HT.sIx x.length 0 lo):=by
 have hn:x.cps.toList.length=x.length:=by simp[Str.length]
 have hb:=HT.sIx_le x.length x.length (Nat.le_refl _) hi
 have ha:=HT.sIx_le x.length 0 (Nat.zero_le _) lo
 unfold Txt.slice
 rw[x8g,List.length_map,List.length_range]
 split
 ·rename_i h
  have h':HT.sIx x.length x.length hi-HT.sIx x.length 0 lo=x.length:=by simpa using h
  have h2:HT.sIx x.length 0 lo=0\/x.length=0:=by omega
  rw[h']
  rcases h2 with h2|h2
  ·rw[h2,List.drop_zero,List.take_of_length_le (by omega)]
  ·have:x.cps.toList=[]:=List.length_eq_zero_iff.mp (by omega)
   rw[this];simp
 ·show List.filterMap _ _=_
  have e:(fun(i:Nat)=>x.cps[i]?)=fun i=>x.cps.toList[i]?:=by funext i;simp
  rw[e]
  by_cases hle:HT.sIx x.length 0 lo<=HT.sIx x.length x.length hi
  ·exact x1k _ _ _ (by omega)
  ·have:HT.sIx x.length x.length hi-HT.sIx x.length 0 lo=0:=by omega
   rw[this];simp
def Nm(x:Str):Prop:=∃ks:List Nat,x=wd ks/\ks≠[]/\ks.length<=8/\∀k∈ks,k<26
theorem Nm.len{x:Str}(h:Nm x):x.length<=8:=by
 obtain⟨ks,rfl,_,h,_⟩:=h
 rw[y8s];exact h
end My
namespace L2
open PySem PySem.Spec PyProof.Rows
theorem q5u{X:Cx}{scope:Scope}{N':List Str}{ix:List (Option Nat)}(kind:scope.kind=.function)(cell:∀y∈scope.names,y.2≠.cell)(names:∀y∈scope.names,y.2=.local->scope.names.lookup y.1=some .local)
  (free:(scope.names.all fun y=>!(y.2==.free)||X.env.scope.names.lookup y.1==some .cell||X.env.scope.names.lookup y.1==some .free)=true) (ixs:IxOk X.N X.env.scope scope N' ix):CompOk X scope N' ix:=
 ⟨kind,cell,names,fun y hy e=>by
  have h:=List.all_eq_true.mp free y hy
  simp only [e,beq_self_eq_true,Bool.not_true,Bool.false_or,Bool.or_eq_true,beq_iff_eq]at h
  exact h,ixs⟩
section
variable{X:Cx}{K:Frag}
end
end L2
namespace My
open PySem L2
end My
namespace L2
open PySem PySem.Spec PyProof.Rows
def Its(z:Str):It:=⟨fun i _=>i<z.length,fun i H v H'=>H'=H/\∃c,z.cps[i]?=some c/\v=.str ⟨#[c]⟩,fun i _=>z.length<=i⟩
theorem y0m{P:Program}{w:World}{A:Around}(hh:A.handled=none)(it:Addr)(x:Str)(t:Tok):Walks P w A it [it] [it] x.cps.size (SignAt x) fun i h=>h.IsStrIter it (strIterType x) x t i:=by
 unfold strIterType
 split
 ·exact Walks.strAscii hh it x t
 ·exact Walks.strWide hh it x t
theorem x8i{M:Model}{A:Around}{E:Value->Shared->Prop}{s:Shared}{tg:Expr}{it:Addr}{u:Value}{x:Str}{t:Tok}{i:Nat}{Q:Unit->Shared->Prop}(h:s.heap.IsStrIter it (strIterType x) x t i)(hQ:Q () s):wpAny M A (letOwnedTupleGo tg (.ref it) u) Q E s:=by
 obtain⟨o,e,c,d⟩:=h
 refine z9t e c d ?_ hQ
 unfold strIterType
 split<;>decide
theorem y4z{P:Program}{w:World}{K:Frag}{tg:Expr}(it:Addr)(x:Str)(t:Tok):Turn P w K tg (Its x) [it] it (fun i h=>i<=x.length/\h.IsStrIter it (strIterType x) x t i) where
 mem:=by simp
 obj:=fun i h st b hb=>by
  obtain rfl:=List.mem_singleton.mp hb
  obtain⟨_,o,e,c,d⟩:=st
  exact⟨o,e,fun v z=>by rw[d]at z;cases z⟩
 keep:=fun i h h' st k=>by
  obtain⟨hi,o,e,r⟩:=st
  exact⟨hi,o,k it (by simp) o e,r⟩
 item:=by
  intro X hP hw hK hc i pins s σ H E I hf st hg
  subst hP hw hK
  obtain⟨f0,f1,f2,f3,f4,f5⟩:=hf it (by simp)
  have hg':i<x.length:=hg
  refine(y0m (P:=X.prog) (w:=X.w) (I.ok.hd hc) it x t).item i s _ _ hg' st.2 fun v h' tk hv st' kk=>?_
  have I1:Inv X pins σ H {s with heap:=h',toks:=tk}:=I.turned (fun b o hb e=>kk b o (by simpa using hb) e) f0 f1 f3 f4 f5
  obtain⟨c,u,hc',rfl⟩:=hv
  exact⟨_,rfl,x8i (s:={s with heap:=h',toks:=tk}) st' ⟨.str ⟨#[c]⟩,H,I1,⟨u,rfl⟩,⟨rfl,c,hc',rfl⟩,⟨hg',st'⟩,fun b hb=>(hf b hb).1⟩⟩
 done:=by
  intro X hP hw hK hc i pins s σ H E I hf st hg
  subst hP hw hK
  obtain⟨f0,f1,f2,f3,f4,f5⟩:=hf it (by simp)
  have hg':x.length<=i:=hg
  have e:i=x.cps.size:=Nat.le_antisymm st.1 hg'
  subst e
  exact(y0m (P:=X.prog) (w:=X.w) (I.ok.hd hc) it x t).done s _ _ st.2 fun h' tk kk=>⟨rfl,I.turned (fun b o hb e=>kk b o (by simpa using hb) e) f0 f1 f3 f4 f5⟩
 self:=fun A i s Q E st h=>by
  have st':=st.2
  unfold strIterType at st'
  split at st'
  ·exact wpAny_pyIter_striter_ascii st' h
  ·exact wpAny_pyIter_striter_wide st' h
section
variable{X:Cx}{tg:Expr}
end
abbrev TJ:=St->Hp->Str->(Str->Hp->Prop)->Prop
def PJ(X:Cx)(es:List Expr)(t:TJ):Prop:=∀(pins:List (Addr×Obj))(s:Shared)(σ:St)(H:Hp)(acc:Str)(Q:Str->Hp->Prop),Inv X pins σ H s->t σ H acc Q->
 Joins (model X.prog X.w) X.A X.xe (evalEach es X.env) acc (fun out s₁=>∃H',Inv X pins σ H' s₁/\Q out H') s
def jNil:TJ:=fun _ H acc Q=>Q acc H
def jStr(x:Str)(t:TJ):TJ:=fun σ H acc Q=>(acc++x).length<=sizeLine/\t σ H (acc++x) Q
def jVal(te:TE)(t:TJ):TJ:=fun σ H acc Q=>te σ H fun v H1=>∃x:Str,v=.str x/\x.length<=sizeLine/\(acc++x).length<=sizeLine/\t σ H1 (acc++x) Q
section
variable{X:Cx}{e:Expr}{es:List Expr}{t:TJ}{te:TE}{pos p2:Pos}
theorem x5u:PJ X [] jNil:=fun _ _ _ H _ _ I h=>⟨H,I,h⟩
theorem x5t{x:Str} {j} (hr:PJ X es t) (he:evalEach (.Constant (.str x) j pos::es) X.env=eval (.Constant (.str x) j pos) X.env::evalEach es X.env:=by rfl):PJ X (.Constant (.str x) j pos::es) (jStr x t):=by
 intro pins s σ H acc Q I h
 rw[he]
 exact Calls.Constant_str ⟨x,_,rfl,h.1,hr pins _ σ H _ Q (I.tok _) h.2⟩
theorem x5s(h1:PE X e te)(hr:PJ X es t)(he:evalEach (.FormattedValue e (-1) none pos::es) X.env=eval (.FormattedValue e (-1) none pos) X.env::evalEach es X.env:=by rfl):PJ X (.FormattedValue e (-1) none pos::es) (jVal te t):=by
 intro pins s σ H acc Q I h
 rw[he]
 refine FormattedValue_plain (thn (h1 pins s σ H _ I h) fun v s1 hh1=>?_)
 obtain⟨y,H1,I1,r1,x,hx,hz,hz2,q⟩:=hh1
 subst hx
 obtain⟨tk,rfl⟩:=r1
 exact formatField_str (fun t' tk=>⟨x,t',rfl,hz2,hr pins _ σ H1 _ Q (I1.tok tk) q⟩) hz
def x0m(t:TJ):TE:=fun σ H Q=>t σ H Str.empty fun out H1=>out.length<=sizeLine/\Q (.str out) H1
theorem y1q{v₁ v₂:Expr}(h:PJ X (v₁::v₂::es) t):PE X (.JoinedStr (v₁::v₂::es) pos) (x0m t):=by
 intro pins s σ H Q I hq
 refine wpAny_JoinedStr ?_
 have h1:=h pins s σ H Str.empty _ I hq
 have mono:∀(l:List (Sem Value))(acc:Str)(s:Shared){R R':Str->Shared->Prop},(∀o s,R o s->R' o s)->Joins (model X.prog X.w) X.A X.xe l acc R s->Joins (model X.prog X.w) X.A X.xe l acc R' s:=by
  intro l
  induction l with
  |nil=>intro acc s R R' k h;exact k _ _ h
  |cons x r ih=>intro acc s R R' k h;exact thn h fun v s1 ⟨y,t,e,z,q⟩=>⟨y,t,e,z,ih _ _ k q⟩
 exact mono _ _ _ (fun o s1 ⟨H',I',hz,q⟩=>⟨hz,.str o,H',I'.tok _,⟨_,rfl⟩,q⟩) h1
theorem y1z:OpR X (compareOp .IsNot) (fun x y H Q=>∃a b,x=.bl a/\y=.bl b/\Q (.bl (!decide (a=b))) H):=by
 intro pins s σ H x y v u Q I rx ry h
 obtain⟨a,b,rfl,rfl,q⟩:=h
 cases(show v=Value.bool a from rx)
 cases(show u=Value.bool b from ry)
 refine wpAny_isNot_plain rfl ⟨.bl (!decide (a=b)),H,I,?_,q⟩
 show Value.bool _=Value.bool _
 cases a<;>cases b<;>rfl
end
section
variable{X:Cx}
theorem extT(lA:Addr)(xsA:Array Value)(nA:Nat)(tB:Addr)(ysB:Array Value)(nB:Nat)(ddB:Option Addr)(slB:Array (Option Value))(h0:¬(!xsA.isEmpty&&Builtin.List.listTooLong (xsA.size+ysB.size))=true)(h1:xsA.size<=sizeLine)(h2:xsA.size+ysB.size<=sizeLine+1) :
  Meets (Builtin.«list.extend» ⟨[.ref lA,.ref tB],[]⟩) (fun _ R s=>s.heap.get? lA=some {cls:=.type "list",dict:=none,data:=.seq xsA nA,slots:=#[]}/\s.heap.get? tB=some {cls:=.type "tuple",dict:=ddB,data:=.seq ysB nB,slots:=slB}/\R (.ok (.ret Value.none)) {s with heap:=s.heap.update lA (Obj.mapSeq fun u=>u++ysB),toks:=s.toks}):=
 .of_wp fun prog w A R s h=>by
  obtain⟨hp,g,d,tk,os⟩:=s
  obtain⟨hl,hb,h⟩:=h
  have f1:=AutoSeq1.idx_int
  have f2:=AutoSeq1.sub_tuple_tuple
  have f3:=AutoSeq1.sub_list_list
  have f4:=AutoSeq1.sub_tuple_list
  have f5:=AutoSeq1.sub_list_tuple
  have hz':(xsA++ysB).size<=sizeLine+1:=by rw[Array.size_append];exact h2
  wp_walk using(wpAny_updateSeq hl rfl (hz:=h1) (_hz':=hz')),AutoSeq1.wpAny_loadPart' hl,AutoSeq1.wpAny_loadPart' hb
  exact⟨_,rfl,h⟩
theorem y6t:OpR X (binaryOp .Add) (fun x y H Q=>(∃a b ys,x=.ref a/\y=.ref b/\SqT X.K H a []/\SqT X.K H b ys/\Q (.ref b) H)\/x5f X.K x y H Q):=by
 intro pins s σ H x y v u Q I rx ry h
 rcases h with h|h
 ·obtain⟨a,b,ys,rfl,rfl,ha,hb,q⟩:=h
  cases rx
  cases ry
  obtain⟨its,r1,p1,_⟩:=I.tuple ha
  obtain⟨its2,r2,p2,hz⟩:=I.tuple hb
  cases r1
  obtain⟨⟨c1,e1,t1,l1⟩,ho,hc,n,hd⟩:=p1
  obtain⟨⟨c2,e2,t2,l2⟩,ho2,hc2,n2,hd2⟩:=p2
  simp only at hc hd hc2 hd2
  subst hc hd hc2 hd2
  refine concat_meets ⟨_,ho,rfl⟩ ⟨_,ho2,rfl⟩ noFill_tuple_add seq_tuple_add PySem.F.slot_tuple_add PySem.F.entry_tuple_add (PySem.F.args_tuple_add_2 _ _)
   (tuple_addW0 a b _ its2.toArray n n2 e1 e2 l1 l2 (by rfl)) ⟨ho,ho2,⟨.ref b,H,I,rfl,q⟩⟩
 ·exact x1v pins s σ H x y v u Q I rx ry h
end
end L2
namespace Ev
open PySem L2
inductive PV where
 |non|bl (b:Bool)|int (i:Int)|str (x:Str)|ty (n:String)
 |tup (xs:List PV)|frl (xs:List PV)|ref (n:Nat)|exc (c:String)
inductive SO where
 |lst (xs:List PV)|dK (kvs:List (Key×PV))|dN (kvs:List (KTr×PV))
abbrev q0i:=List SO
abbrev Loc:=List (Option PV)
def SqF(K:Frag)(H:Hp)(a:Addr)(xs:List V):Prop:=
 (∃o,H a=some (.frz o (.lst xs)))\/∃(o:Obj)(its:Array Value)(n:Nat),K.lookup a=some o/\o.cls=.type "list" /\o.dict=none/\o.data=.seq its n/\its.size<=sizeLine/\Vals xs its.toList
theorem SqF.sq{K:Frag}{H:Hp}{a:Addr}{xs:List V}(h:SqF K H a xs):SqL K H a xs:=by
 rcases h with⟨o,h⟩|h
 ·exact .inl (.inr ⟨o,h⟩)
 ·exact .inr h
def w1k(K:Frag)(H:Hp)(a:Addr)(c:String):Prop:=∃(f:Heap->Prop)(C:Addr),H a=some (.ext f)/\PySem.W.nsIn K mainGlobals (Str.ofString c)=some (some (.ref C))/\∀h,f h->∃o,h.get? a=some o/\o.cls=.ref C
mutual
def RV(K:Frag)(H:Hp)(φ:List Addr):PV->V->Prop
 |.non,v=>v=.non
 |.bl b,v=>v=.bl b
 |.int i,v=>v=.int i
 |.str x,v=>v=.str x
 |.ty n,v=>v=.ty n
 |.tup xs,v=>∃a vs,v=.ref a/\SqT K H a vs/\RVs K H φ xs vs
 |.frl xs,v=>∃a vs,v=.ref a/\SqF K H a vs/\RVs K H φ xs vs
 |.ref n,v=>∃a,v=.ref a/\φ[n]?=some a
 |.exc c,v=>∃a,v=.ref a/\w1k K H a c
def RVs(K:Frag)(H:Hp)(φ:List Addr):List PV->List V->Prop
 |[],vs=>vs=[]
 |x::xs,vs=>∃y ys,vs=y::ys/\RV K H φ x y/\RVs K H φ xs ys
end
structure Mono(H H':Hp):Prop where
 tup:∀a xs,H a=some (.tup xs)->H' a=some (.tup xs)
 frz:∀a o u,H a=some (.frz o u)->H' a=some (.frz o u)
 ext:∀a f,H a=some (.ext f)->H' a=some (.ext f)
 dic:∀a c ws,H a=some (.dH c ws)->∃ws',H' a=some (.dH c ws')
theorem Mono.refl(H:Hp):Mono H H:=⟨fun _ _ h=>h,fun _ _ _ h=>h,fun _ _ h=>h,fun _ _ ws h=>⟨ws,h⟩⟩
theorem Mono.trans{H H1 H2:Hp}(a:Mono H H1)(b:Mono H1 H2):Mono H H2:=⟨fun c xs h=>b.tup c xs (a.tup c xs h),fun c o u h=>b.frz c o u (a.frz c o u h),fun c f h=>b.ext c f (a.ext c f h),fun c n ws h=>let ⟨ws',h'⟩:=a.dic c n ws h;b.dic c n ws' h'⟩
theorem Mono.new{H:Hp}{p:Addr}(o:HO)(h:H p=none):Mono H (upd H p o):=⟨fun b u q=>by rw[q1c (q2l q h)];exact q,fun b u v q=>by rw[q1c (q2l q h)];exact q,fun b f q=>by rw[q1c (q2l q h)];exact q,fun b c ws q=>⟨ws,by rw[q1c (q2l q h)];exact q⟩⟩
theorem Mono.rd{H H':Hp}(m:Mono H H'){a:Addr}{xs:List V}(h:Rd H a (.tup xs)):Rd H' a (.tup xs):=by
 rcases h with h|⟨o,h⟩
 ·exact .inl (m.tup _ _ h)
 ·exact .inr ⟨o,m.frz _ _ _ h⟩
theorem Mono.sqT{K:Frag}{H H':Hp}(m:Mono H H'){a:Addr}{xs:List V}(h:SqT K H a xs):SqT K H' a xs:=by
 rcases h with h|h
 ·exact .inl (m.rd h)
 ·exact .inr h
theorem Mono.sqF{K:Frag}{H H':Hp}(m:Mono H H'){a:Addr}{xs:List V}(h:SqF K H a xs):SqF K H' a xs:=by
 rcases h with⟨o,h⟩|h
 ·exact .inl ⟨o,m.frz _ _ _ h⟩
 ·exact .inr h
theorem q7k{φ φ':List Addr}(h:φ <+: φ'){n:Nat}{a:Addr}(e:φ[n]?=some a):φ'[n]?=some a:=by
 obtain⟨t,rfl⟩:=h
 rw[List.getElem?_append_left (by
  have:=List.getElem?_eq_some_iff.mp e
  exact this.1)]
 exact e
section
variable{K:Frag}{H H':Hp}{φ φ':List Addr}
mutual
theorem RV.mono(m:Mono H H')(p:φ <+: φ'):∀(v:PV)(x:V),RV K H φ v x->RV K H' φ' v x
 |.non,_,h=>h
 |.bl _,_,h=>h
 |.int _,_,h=>h
 |.str _,_,h=>h
 |.ty _,_,h=>h
 |.tup xs,_,⟨a,vs,e,s,r⟩=>⟨a,vs,e,m.sqT s,RVs.mono m p xs vs r⟩
 |.frl xs,_,⟨a,vs,e,s,r⟩=>⟨a,vs,e,m.sqF s,RVs.mono m p xs vs r⟩
 |.ref _,_,⟨a,e,q⟩=>⟨a,e,q7k p q⟩
 |.exc _,_,⟨a,e,f,C,h1,h2,h3⟩=>⟨a,e,f,C,m.ext _ _ h1,h2,h3⟩
theorem RVs.mono(m:Mono H H')(p:φ <+: φ'):∀(xs:List PV)(vs:List V),RVs K H φ xs vs->RVs K H' φ' xs vs
 |[],_,h=>h
 |x::xs,_,⟨y,ys,e,r,t⟩=>⟨y,ys,e,RV.mono m p x y r,RVs.mono m p xs ys t⟩
end
theorem RVs.length:∀{xs:List PV}{vs:List V},RVs K H φ xs vs->xs.length=vs.length
 |[],_,h=>by rw[show _=[]from h];rfl
 |_::xs,_,⟨y,ys,e,_,t⟩=>by rw[e,List.length_cons,List.length_cons,RVs.length t]
theorem RVs.get:∀{xs:List PV}{vs:List V}{i:Nat}{x:PV},RVs K H φ xs vs->xs[i]?=some x->∃y,vs[i]?=some y/\RV K H φ x y
 |[],_,_,_,_,e=>by simp at e
 |x::xs,_,0,x',⟨y,ys,e,r,t⟩,q=>by
  simp at q;subst q;subst e
  exact⟨y,by simp,r⟩
 |x::xs,_,i+1,x',⟨y,ys,e,r,t⟩,q=>by
  subst e
  obtain⟨z,h1,h2⟩:=RVs.get (i:=i) t (by simpa using q)
  exact⟨z,by simpa using h1,h2⟩
theorem RVs.getV:∀{xs:List PV}{vs:List V}{i:Nat}{y:V},RVs K H φ xs vs->vs[i]?=some y->∃x,xs[i]?=some x/\RV K H φ x y
 |[],_,_,_,h,e=>by rw[show _=[]from h]at e;simp at e
 |x::xs,_,0,y',⟨y,ys,e,r,t⟩,q=>by
  subst e;simp at q;subst q
  exact⟨x,by simp,r⟩
 |x::xs,_,i+1,y',⟨y,ys,e,r,t⟩,q=>by
  subst e
  obtain⟨z,h1,h2⟩:=RVs.getV (i:=i) t (by simpa using q)
  exact⟨z,by simpa using h1,h2⟩
theorem RVs.append:∀{xs ys:List PV}{vs ws:List V},RVs K H φ xs vs->RVs K H φ ys ws->RVs K H φ (xs++ys) (vs++ws)
 |[],_,_,_,h,s=>by rw[show _=[]from h];exact s
 |x::xs,_,_,_,⟨y,ys,e,r,t⟩,s=>by subst e;exact⟨y,_,rfl,r,RVs.append t s⟩
theorem RVs.one{x:PV}{y:V}(r:RV K H φ x y):RVs K H φ [x] [y]:=⟨y,[],rfl,r,rfl⟩
theorem RVs.cons{x:PV}{y:V}{xs:List PV}{ys:List V}(r:RV K H φ x y)(t:RVs K H φ xs ys):RVs K H φ (x::xs) (y::ys):=⟨y,ys,rfl,r,t⟩
theorem RVs.take:∀{xs:List PV}{vs:List V}(n:Nat),RVs K H φ xs vs->RVs K H φ (xs.take n) (vs.take n)
 |_,_,0,_=>by simp;exact rfl
 |[],_,_+1,h=>by rw[show _=[]from h];exact rfl
 |x::xs,_,n+1,⟨y,ys,e,r,t⟩=>by subst e;exact⟨y,_,rfl,r,RVs.take n t⟩
theorem RVs.drop:∀{xs:List PV}{vs:List V}(n:Nat),RVs K H φ xs vs->RVs K H φ (xs.drop n) (vs.drop n)
 |_,_,0,h=>h
 |[],_,_+1,h=>by rw[show _=[]from h];exact rfl
 |x::xs,_,n+1,⟨y,ys,e,r,t⟩=>by subst e;exact RVs.drop n t
theorem RVs.set{z:PV}{u:V}(q:RV K H φ z u):∀{xs:List PV}{vs:List V}(n:Nat),RVs K H φ xs vs->RVs K H φ (xs.set n z) (vs.set n u)
 |[],_,_,h=>by rw[show _=[]from h];exact rfl
 |x::xs,_,0,⟨y,ys,e,r,t⟩=>by subst e;exact⟨u,_,rfl,q,t⟩
 |x::xs,_,n+1,⟨y,ys,e,r,t⟩=>by subst e;exact⟨y,_,rfl,r,RVs.set q n t⟩
theorem RVs.eraseIdx:∀{xs:List PV}{vs:List V}(n:Nat),RVs K H φ xs vs->RVs K H φ (xs.eraseIdx n) (vs.eraseIdx n)
 |[],_,_,h=>by rw[show _=[]from h];exact rfl
 |x::xs,_,0,⟨y,ys,e,r,t⟩=>by subst e;exact t
 |x::xs,_,n+1,⟨y,ys,e,r,t⟩=>by subst e;exact⟨y,_,rfl,r,RVs.eraseIdx n t⟩
theorem RVs.dropLast{xs:List PV}{vs:List V}(h:RVs K H φ xs vs):RVs K H φ xs.dropLast vs.dropLast:=by
 rw[List.dropLast_eq_take,List.dropLast_eq_take,<-h.length]
 exact h.take _
theorem RVs.reverse:∀{xs:List PV}{vs:List V},RVs K H φ xs vs->RVs K H φ xs.reverse vs.reverse
 |[],_,h=>by rw[show _=[]from h];exact rfl
 |x::xs,_,⟨y,ys,e,r,t⟩=>by
  subst e
  rw[List.reverse_cons,List.reverse_cons]
  exact(RVs.reverse t).append (.one r)
theorem RVs.rep{xs:List PV}{vs:List V}(h:RVs K H φ xs vs):∀n,RVs K H φ (List.replicate n xs).flatten (List.replicate n vs).flatten
 |0=>rfl
 |n+1=>by
  rw[List.replicate_succ,List.replicate_succ,List.flatten_cons,List.flatten_cons]
  exact h.append (RVs.rep h n)
theorem RVs.ints:∀{ns:List Int}{vs:List V},RVs K H φ (ns.map PV.int) vs->vs=ns.map V.int
 |[],_,h=>h
 |_::ns,_,⟨y,ys,e,r,t⟩=>by rw[e,show y=_ from r,RVs.ints t];rfl
theorem RVs.strs:∀{ns:List Str}{vs:List V},RVs K H φ (ns.map PV.str) vs->vs=ns.map V.str
 |[],_,h=>h
 |_::ns,_,⟨y,ys,e,r,t⟩=>by rw[e,show y=_ from r,RVs.strs t];rfl
theorem RVs.bls:∀{ns:List Bool}{vs:List V},RVs K H φ (ns.map PV.bl) vs->vs=ns.map V.bl
 |[],_,h=>h
 |_::ns,_,⟨y,ys,e,r,t⟩=>by rw[e,show y=_ from r,RVs.bls t];rfl
theorem RVs.of_ints:∀(ns:List Int),RVs K H φ (ns.map PV.int) (ns.map V.int)
 |[]=>rfl
 |_::ns=>⟨_,_,rfl,rfl,RVs.of_ints ns⟩
def RKs(K:Frag)(H:Hp)(φ:List Addr):List (Key×PV)->List (Key×V)->Prop:=Paired fun p q=>p.1=q.1/\RV K H φ p.2 q.2
theorem RKs.mono(m:Mono H H')(p:φ <+: φ'){xs:List (Key×PV)}{ys:List (Key×V)}(h:RKs K H φ xs ys):RKs K H' φ' xs ys:=Paired.mapP h fun _ _ hh1=>by obtain⟨a,b⟩:=hh1;exact(⟨a,RV.mono m p _ _ b⟩)
mutual
def ktP:KTr->PV
 |.int i=>.int i
 |.str x=>.str x
 |.tup xs=>.tup (ktPs xs)
def ktPs:List KTr->List PV
 |[]=>[]
 |x::xs=>ktP x::ktPs xs
end
def RNs(K:Frag)(H:Hp)(φ:List Addr):List (KTr×PV)->List (KTr×Addr×V)->Prop:=Paired fun p q=>p.1=q.1/\((∃ys,p.1=.tup ys)/\kdep p.1<=8)/\RV K H φ (ktP p.1) (.ref q.2.1)/\RV K H φ p.2 q.2.2
theorem RNs.mono(m:Mono H H')(p:φ <+: φ'){xs:List (KTr×PV)}{ys:List (KTr×Addr×V)}(h:RNs K H φ xs ys):RNs K H' φ' xs ys:=Paired.mapP h fun _ _ hh1=>by obtain⟨a,c,b,d⟩:=hh1;exact(⟨a,c,RV.mono m p _ _ b,RV.mono m p _ _ d⟩)
def ObjR(K:Frag)(H:Hp)(φ:List Addr):SO->Addr->Prop
 |.lst xs,a=>∃vs,H a=some (.lst vs)/\RVs K H φ xs vs
 |.dK kvs,a=>∃ws,H a=some (.dK ws)/\RKs K H φ kvs ws
 |.dN kvs,a=>∃c ws,H a=some (.dH c ws)/\RNs K H φ kvs ws
theorem ObjR.some{o:SO}{a:Addr}(h:ObjR K H φ o a):∃u,H a=Option.some u:=by
 cases o with
 |lst xs=>obtain⟨vs,e,_⟩:=h;exact⟨_,e⟩
 |dK xs=>obtain⟨vs,e,_⟩:=h;exact⟨_,e⟩
 |dN xs=>obtain⟨_,vs,e,_⟩:=h;exact⟨_,e⟩
theorem ObjR.mono(m:Mono H H')(p:φ <+: φ'){o:SO}{a:Addr}(e:∀u,H a=Option.some u->H' a=Option.some u)(h:ObjR K H φ o a):ObjR K H' φ' o a:=by
 cases o with
 |lst xs=>obtain⟨vs,q,r⟩:=h;exact⟨vs,e _ q,RVs.mono m p _ _ r⟩
 |dK xs=>obtain⟨vs,q,r⟩:=h;exact⟨vs,e _ q,RKs.mono m p r⟩
 |dN xs=>obtain⟨c,vs,q,r⟩:=h;exact⟨c,vs,e _ q,RNs.mono m p r⟩
structure Rel(K:Frag)(φ:List Addr)(S:q0i)(H:Hp):Prop where
 len:φ.length=S.length
 nd:φ.Nodup
 obj:∀(n:Nat)(a:Addr)(o:SO),φ[n]?=some a->S[n]?=some o->ObjR K H φ o a
theorem Rel.at{S:q0i}(h:Rel K φ S H){n:Nat}{o:SO}(e:S[n]?=some o):∃a,φ[n]?=some a/\ObjR K H φ o a:=by
 have hn:n<φ.length:=by rw[h.len];exact(List.getElem?_eq_some_iff.mp e).1
 exact⟨φ[n],List.getElem?_eq_getElem hn,h.obj n _ o (List.getElem?_eq_getElem hn) e⟩
theorem Rel.at'{S:q0i}(h:Rel K φ S H){n:Nat}{a:Addr}(e:φ[n]?=some a):∃o,S[n]?=some o/\ObjR K H φ o a:=by
 have hn:n<S.length:=by rw[<-h.len];exact(List.getElem?_eq_some_iff.mp e).1
 exact⟨S[n],List.getElem?_eq_getElem hn,h.obj n a _ e (List.getElem?_eq_getElem hn)⟩
theorem Rel.frame{S:q0i}(h:Rel K φ S H){p:Addr}(o:HO)(hp:H p=none):Rel K φ S (upd H p o):=
 ⟨h.len,h.nd,fun n a o' e q=>(h.obj n a o' e q).mono (Mono.new o hp) (List.prefix_refl _) fun u z=>by rw[q1c (q2l z hp)];exact z⟩
theorem Rel.new{S:q0i}(h:Rel K φ S H){p:Addr}{o:SO}{u:HO}(hp:H p=none)(ho:ObjR K (upd H p u) (φ++[p]) o p):Rel K (φ++[p]) (S++[o]) (upd H p u):=by
 refine⟨by simp[h.len],?_,fun n a o' e q=>?_⟩
 ·refine List.nodup_append.mpr ⟨h.nd,by simp,fun a ha b hb=>?_⟩
  rw[List.mem_singleton]at hb
  subst hb
  intro z
  subst z
  obtain⟨n,hn,e⟩:=List.mem_iff_getElem.mp ha
  obtain⟨o',_,r⟩:=h.at' (n:=n) (a:=a) (by rw[List.getElem?_eq_getElem hn,e])
  obtain⟨u',z⟩:=r.some
  rw[hp]at z
  cases z
 ·by_cases hn:n<φ.length
  ·rw[List.getElem?_append_left hn]at e
   rw[List.getElem?_append_left (by rw[<-h.len];exact hn)]at q
   exact(h.obj n a o' e q).mono (Mono.new u hp) (List.prefix_append _ _) fun u' z=>by rw[q1c (q2l z hp)];exact z
  ·have hn':n=φ.length:=by
    have:=(List.getElem?_eq_some_iff.mp e).1
    simp at this
    omega
   subst hn'
   rw[List.getElem?_append_right (Nat.le_refl _)]at e
   rw[h.len,List.getElem?_append_right (Nat.le_refl _)]at q
   simp at e q
   subst e q
   exact ho
theorem Rel.put{S:q0i}(h:Rel K φ S H){n:Nat}{a:Addr}{o:SO}{u:HO}(e:φ[n]?=some a)(m:Mono H (upd H a u))(ho:ObjR K (upd H a u) φ o a):Rel K φ (S.set n o) (upd H a u):=by
 refine⟨by simp[h.len],h.nd,fun i b o' q r=>?_⟩
 by_cases hi:i=n
 ·subst hi
  rw[e]at q
  cases q
  have hl:i<S.length:=by rw[<-h.len];exact(List.getElem?_eq_some_iff.mp e).1
  rw[List.getElem?_set_self hl]at r
  cases r
  exact ho
 ·rw[List.getElem?_set_ne (fun z=>hi z.symm)]at r
  have hb:b≠a:=fun z=>by
   subst z
   have h1:=List.getElem?_eq_some_iff.mp q
   have h2:=List.getElem?_eq_some_iff.mp e
   obtain⟨l1,e1⟩:=h1
   obtain⟨l2,e2⟩:=h2
   exact hi ((List.getElem_inj h.nd).mp (e1.trans e2.symm))
  exact(h.obj i b o' q r).mono m (List.prefix_refl _) fun u' z=>by rw[q1c hb];exact z
theorem Mono.lst{a:Addr}{xs:List V}{u:HO}(e:H a=some (.lst xs)):Mono H (upd H a u):=
 ⟨fun b xs q=>by rw[q1c (z2n q e (by intro z;cases z))];exact q,fun b o w q=>by rw[q1c (z2n q e (by intro z;cases z))];exact q,fun b f q=>by rw[q1c (z2n q e (by intro z;cases z))];exact q,fun b c ws q=>⟨ws,by rw[q1c (z2n q e (by intro z;cases z))];exact q⟩⟩
theorem Mono.dict{a:Addr}{xs:List (Key×V)}{u:HO}(e:H a=some (.dK xs)):Mono H (upd H a u):=
 ⟨fun b xs q=>by rw[q1c (z2n q e (by intro z;cases z))];exact q,fun b o w q=>by rw[q1c (z2n q e (by intro z;cases z))];exact q,fun b f q=>by rw[q1c (z2n q e (by intro z;cases z))];exact q,fun b c ws q=>⟨ws,by rw[q1c (z2n q e (by intro z;cases z))];exact q⟩⟩
abbrev EK:=PV->q0i->Prop
structure GX where
 ek:EK
 xh:PV->Hp->Prop
structure LRel(K:Frag)(G:GX)(H:Hp)(φ:List Addr)(σ:Loc)(σV:St):Prop where
 len:σ.length=σV.length
 at':∀(i:Nat)(v:PV),σ[i]?=some (some v)->∃x,σV[i]?=some (some x)/\RV K H φ v x
 kx:∀v S' φ' H',G.ek v S'->φ <+: φ'->Mono H H'->Rel K φ' S' H'->G.xh v H'
theorem LRel.mono{G:GX}(m:Mono H H')(p:φ <+: φ'){σ:Loc}{σV:St}(h:LRel K G H φ σ σV):LRel K G H' φ' σ σV:=
 ⟨h.len,fun i v e=>let ⟨x,a,b⟩:=h.at' i v e;⟨x,a,RV.mono m p _ _ b⟩,fun v S1 φ1 H1 g p1 m1 r=>h.kx v S1 φ1 H1 g (p.trans p1) (m.trans m1) r⟩
theorem LRel.set{G:GX}{σ:Loc}{σV:St}(h:LRel K G H φ σ σV)(i:Nat){v:PV}{x:V}(r:RV K H φ v x):LRel K G H φ (σ.set i (some v)) (σV.set i (some x)):=by
 refine⟨by simp[h.len],fun j u e=>?_,h.kx⟩
 by_cases hj:j=i
 ·subst hj
  have hl:j<σ.length:=by
   have:=(List.getElem?_eq_some_iff.mp e).1
   simpa using this
  rw[List.getElem?_set_self hl]at e
  cases e
  exact⟨x,List.getElem?_set_self (by rw[<-h.len];exact hl),r⟩
 ·rw[List.getElem?_set_ne (fun z=>hj z.symm)]at e
  rw[List.getElem?_set_ne (fun z=>hj z.symm)]
  exact h.at' j u e
end
end Ev
namespace Ev
open PySem L2
abbrev VC:=PV->q0i->Prop
abbrev WE:=Loc->q0i->EK->VC->Prop
abbrev WT:=Loc->q0i->EK->(Bool->q0i->Prop)->Prop
abbrev WA:=Loc->q0i->EK->(List PV->q0i->Prop)->Prop
def KE(K:Frag)(φ:List Addr)(H:Hp)(Q0:VC)(Q:VK):Prop:=∀v S' φ' H' x,Q0 v S'->φ <+: φ'->Mono H H'->Rel K φ' S' H'->RV K H' φ' v x->Q x H'
def KB(K:Frag)(φ:List Addr)(H:Hp)(Q0:Bool->q0i->Prop)(Q:Bool->Hp->Prop):Prop:=∀v S' φ' H',Q0 v S'->φ <+: φ'->Mono H H'->Rel K φ' S' H'->Q v H'
def KL(K:Frag)(φ:List Addr)(H:Hp)(Q0:List PV->q0i->Prop)(Q:List V->Hp->Prop):Prop:=∀v S' φ' H' x,Q0 v S'->φ <+: φ'->Mono H H'->Rel K φ' S' H'->RVs K H' φ' v x->Q x H'
theorem KE.up{K:Frag}{φ φ1:List Addr}{H H1:Hp}{Q0:VC}{Q:VK}(k:KE K φ H Q0 Q)(p:φ <+: φ1)(m:Mono H H1):KE K φ1 H1 Q0 Q:=fun v S' φ' H' x q p' m'=>k v S' φ' H' x q (p.trans p') (m.trans m')
theorem KB.up{K:Frag}{φ φ1:List Addr}{H H1:Hp}{Q0:Bool->q0i->Prop}{Q:Bool->Hp->Prop}(k:KB K φ H Q0 Q)(p:φ <+: φ1)(m:Mono H H1):KB K φ1 H1 Q0 Q:=fun v S' φ' H' q p' m'=>k v S' φ' H' q (p.trans p') (m.trans m')
theorem KL.up{K:Frag}{φ φ1:List Addr}{H H1:Hp}{Q0:List PV->q0i->Prop}{Q:List V->Hp->Prop}(k:KL K φ H Q0 Q)(p:φ <+: φ1)(m:Mono H H1):KL K φ1 H1 Q0 Q:=fun v S' φ' H' x q p' m'=>k v S' φ' H' x q (p.trans p') (m.trans m')
def q7n(K:Frag)(G:GX)(w:WE):TE:=fun σV H Q=>∃φ σ S Q0,LRel K G H φ σ σV/\Rel K φ S H/\w σ S G.ek Q0/\KE K φ H Q0 Q
def z2p(K:Frag)(G:GX)(w:WT):TT:=fun σV H Q=>∃φ σ S Q0,LRel K G H φ σ σV/\Rel K φ S H/\w σ S G.ek Q0/\KB K φ H Q0 Q
def x7g(K:Frag)(G:GX)(w:WA):TA:=fun σV H Q=>∃φ σ S Q0,LRel K G H φ σ σV/\Rel K φ S H/\w σ S G.ek Q0/\KL K φ H Q0 Q
def SimE(X:Cx)(G:GX)(e:Expr)(w:WE):Prop:=PE X e (q7n X.K G w)
def SimT(X:Cx)(G:GX)(e:Expr)(w:WT):Prop:=PT X e (z2p X.K G w)
def SimW(X:Cx)(G:GX)(e:Expr)(w:WT):Prop:=PW X e (z2p X.K G w)
def SimA(X:Cx)(G:GX)(es:List Expr)(w:WA):Prop:=PA X es (x7g X.K G w)
theorem _root_.L2.PE.imp{X:Cx}{e:Expr}{t t':TE}(h:PE X e t)(i:∀σ H Q,t' σ H Q->t σ H Q):PE X e t':=fun pins s σ H Q I q=>h pins s σ H Q I (i σ H Q q)
theorem _root_.L2.PT.imp{X:Cx}{e:Expr}{t t':TT}(h:PT X e t)(i:∀σ H Q,t' σ H Q->t σ H Q):PT X e t':=fun pins s σ H Q I q=>h pins s σ H Q I (i σ H Q q)
theorem _root_.L2.PW.imp{X:Cx}{e:Expr}{t t':TT}(h:PW X e t)(i:∀σ H Q,t' σ H Q->t σ H Q):PW X e t':=fun wh pins s σ H Q I q=>h wh pins s σ H Q I (i σ H Q q)
theorem _root_.L2.PA.imp{X:Cx}{e:List Expr}{t t':TA}(h:PA X e t)(i:∀σ H Q,t' σ H Q->t σ H Q):PA X e t':=fun pos pins s σ H Q I q=>h pos pins s σ H Q I (i σ H Q q)
def wVar(i:Nat):WE:=fun σ S _ Q=>match σ[i]? with
 |some (some v)=>Q v S
 |_=>False
def wC(v:PV):WE:=fun _ S _ Q=>Q v S
section
variable{X:Cx}{G:GX}{pos:Pos}
theorem q0b(i:Nat){x:Str}(hN:X.N[i]?=some x:=by rfl)(hv:Vis X.env.scope x:=by first|exact Or.inl rfl|exact Or.inr (Or.inl rfl)|exact Or.inr (Or.inr rfl))(hd:(x==("__debug__" : Str))=false:=by decide)(hcd:(x==("__classdict__" : Str))=false:=by decide) :
  SimE X G (.Name x pos) (wVar i):=by
 refine(x5z (i:=i) hN hv hd hcd).imp fun σV H Q hh1=>?_
 obtain⟨φ,σ,S,Q0,L,R,h,k⟩:=hh1
 unfold wVar at h
 split at h
 ·rename_i v e
  obtain⟨x,e',r⟩:=L.at' i v e
  exact⟨x,e',k v S φ H x h (List.prefix_refl _) (.refl _) R r⟩
 ·exact h.elim
theorem q8m{e:Expr}{v:V}(p:PV)(h:PE X e (tC v))(r:∀H φ,RV X.K H φ p v):SimE X G e (wC p):=
 h.imp fun σV H Q hh1=>by obtain⟨φ,σ,S,Q0,L,R,h,k⟩:=hh1;exact(k p S φ H v h (List.prefix_refl _) (.refl _) R (r H φ))
theorem q0f {i j}:SimE X G (.Constant (.int i) j pos) (wC (.int i)):=q8m _ x6f fun _ _=>rfl
theorem q6o {i j}:SimE X G (.Constant (.bool i) j pos) (wC (.bl i)):=q8m _ x9z fun _ _=>rfl
theorem q0j {i j}:SimE X G (.Constant (.str i) j pos) (wC (.str i)):=q8m _ x6b fun _ _=>rfl
theorem q5z {j}:SimE X G (.Constant .none j pos) (wC .non):=q8m _ x6d fun _ _=>rfl
structure GlobV(K:Frag)(mg:Str->Option Value)(x:Str)(p:PV):Prop where
 is:∃u v,mg x=some u/\RelV v u/\∀H φ,RV K H φ p v
theorem q7x{x:Str}{p:PV}(g:GlobV X.K X.mg x p)(hg:Gl X x:=by rfl)(hd:(x==("__debug__" : Str))=false:=by decide):SimE X G (.Name x pos) (wC p):=by
 obtain⟨u,v,h1,h2,h3⟩:=g.is
 exact q8m p (z5u hg h1 h2 hd) h3
theorem z3m{x:Str}{T:String}(hm:X.mg x=none)(hb:bootBuiltins x=some (.type T))(hg:Gl X x:=by rfl)(hn:x≠ "__name__" :=by decide)(hd:(x==("__debug__" : Str))=false:=by decide):SimE X G (.Name x pos) (wC (.ty T)):=
 q8m (v:=.ty T) _ (y1s hg hm hb rfl hn hd) fun _ _=>rfl
end
abbrev F2:=PV->PV->q0i->VC->Prop
def wBin(f:F2)(wa wb:WE):WE:=fun σ S E Q=>wa σ S E fun x S1=>wb σ S1 E fun y S2=>f x y S2 Q
def q5d(K:Frag)(f:F2):R2:=fun x' y' H Q=>∃φ S x y Q0,Rel K φ S H/\RV K H φ x x'/\RV K H φ y y'/\f x y S Q0/\KE K φ H Q0 Q
section
variable{X:Cx}{G:GX}{pos:Pos}{a b:Expr}{wa wb:WE}{f:F2}
theorem q9r{σV:St}{H:Hp}{Q:VK}(h:q7n X.K G (wBin f wa wb) σV H Q):tOp (q5d X.K f) (q7n X.K G wa) (q7n X.K G wb) σV H Q:=by
 obtain⟨φ,σ,S,Q0,L,R,h,k⟩:=h
 refine⟨φ,σ,S,_,L,R,h,fun v S1 φ1 H1 x q p1 m1 R1 r1=>?_⟩
 refine⟨φ1,σ,S1,_,L.mono m1 p1,R1,q,fun u S2 φ2 H2 y q2 p2 m2 R2 r2=>?_⟩
 exact⟨φ2,S2,v,u,Q0,R2,RV.mono m2 p2 _ _ r1,r2,q2,k.up (p1.trans p2) (m1.trans m2)⟩
theorem q0q{op:Operator}(ho:OpR X (binaryOp op) (q5d X.K f))(ha:SimE X G a wa)(hb:SimE X G b wb):SimE X G (.BinOp a op b pos) (wBin f wa wb):=(x9w ho ha hb).imp fun _ _ _ h=>q9r h
theorem q7i{op:CmpOp}(ho:OpR X (compareOp op) (q5d X.K f))(ha:SimE X G a wa)(hb:SimE X G b wb)(hm:behindInMarks op b=false):SimE X G (.Compare a [op] [b] pos) (wBin f wa wb):=(x1o ho ha hb hm).imp fun _ _ _ h=>q9r h
def q0w(w:WE):WT:=fun σ S E Q=>w σ S E fun x S1=>match x with
 |.bl c=>Q c S1
 |_=>False
theorem y2l{w:WE}{t:TE}(i:∀σ H Q,q7n X.K G w σ H Q->t σ H Q){σV:St}{H:Hp}{Q:Bool->Hp->Prop}(h:z2p X.K G (q0w w) σV H Q):x4n t σV H Q:=by
 obtain⟨φ,σ,S,Q0,L,R,h,k⟩:=h
 refine i _ _ _ ⟨φ,σ,S,_,L,R,h,fun v S1 φ1 H1 x q p1 m1 R1 r1=>?_⟩
 cases v with
 |bl c=>exact⟨c,r1,k c S1 φ1 H1 q p1 m1 R1⟩
 |_=>exact q.elim
theorem q0l{op:CmpOp}(ho:OpR X (compareOp op) (q5d X.K f))(ha:SimE X G a wa)(hb:SimE X G b wb)(hm:behindInMarks op b=false):SimT X G (.Compare a [op] [b] pos) (q0w (wBin f wa wb)):=
 (x1a ho ha hb hm).imp fun _ _ _ h=>y2l (fun _ _ _ h=>q9r h) h
end
def truK(x:PV)(S:q0i)(Q:Bool->q0i->Prop):Prop:=match x with
 |.non=>Q false S
 |.bl b=>Q b S
 |.int i=>Q (i != 0) S
 |.str y=>y.length<=sizeLine/\Q (!decide (y.length=0)) S
 |.tup xs=>Q (!xs.isEmpty) S
 |.frl xs=>Q (!xs.isEmpty) S
 |.ref n=>match S[n]? with
  |some (.lst xs)=>Q (!xs.isEmpty) S
  |some (.dK xs)=>Q (!xs.isEmpty) S
  |_=>False
 |.ty _=>False
 |.exc _=>False
def wTru(w:WE):WT:=fun σ S E Q=>w σ S E fun x S1=>truK x S1 Q
theorem y3n{K:Frag}{H:Hp}{φ:List Addr}{xs:List PV}{vs:List V}(r:RVs K H φ xs vs):(!xs.isEmpty)=!vs.isEmpty:=by
 have:=r.length
 cases xs<;>cases vs<;>simp_all
theorem x0i{K:Frag}{H:Hp}{φ:List Addr}{S:q0i}{x:PV}{x':V}{Q0:Bool->q0i->Prop}{Q:Bool->Hp->Prop}(R:Rel K φ S H)(r:RV K H φ x x')(h:truK x S Q0)(k:∀b,Q0 b S->Q b H):∃b,TruV K x' H b/\Q b H:=by
 unfold truK at h
 cases x with
 |non=>cases r;exact⟨false,rfl,k _ h⟩
 |bl b=>cases r;exact⟨b,rfl,k _ h⟩
 |int i=>cases r;exact⟨_,rfl,k _ h⟩
 |str y=>
  cases r
  obtain⟨hz,h⟩:=h
  refine⟨!decide (y.length=0),⟨hz,?_⟩,k _ h⟩
  by_cases e:y.length=0
  ·rw[e];rfl
  ·rw[decide_eq_false e]
   symm
   simp only[bne_iff_ne,Bool.not_false]
   intro z
   exact e (by exact_mod_cast z)
 |tup xs=>
  obtain⟨a,vs,rfl,s,rs⟩:=r
  exact⟨_,.inr (.inl ⟨vs,s,rfl⟩),k _ (by rw[<-y3n rs];exact h)⟩
 |frl xs=>
  obtain⟨a,vs,rfl,s,rs⟩:=r
  exact⟨_,.inl ⟨vs,s.sq,rfl⟩,k _ (by rw[<-y3n rs];exact h)⟩
 |ref n=>
  obtain⟨a,rfl,e⟩:=r
  dsimp only at h
  split at h
  ·rename_i xs es
   obtain⟨vs,e1,rs⟩:=R.obj n a _ e es
   exact⟨_,.inl ⟨vs,SqL.of e1,rfl⟩,k _ (by rw[<-y3n rs];exact h)⟩
  ·rename_i xs es
   obtain⟨vs,e1,rs⟩:=R.obj n a _ e es
   have:(!xs.isEmpty)=!vs.isEmpty:=by cases rs<;>rfl
   exact⟨_,.inr (.inr ⟨vs,e1,rfl⟩),k _ (by rw[<-this];exact h)⟩
  ·exact h.elim
 |ty n=>exact h.elim
 |exc c=>exact h.elim
section
variable{X:Cx}{G:GX}{pos:Pos}{a b c:Expr}{wa wb:WE}{ta tb:WT}{rest:List Expr}
theorem q1u(ha:SimE X G a wa)(he:∀whole,isTrue a X.env whole=(do let v <-whole;standAt a.pos;holding [v] (truthy v)):=by intro _;rfl):SimT X G a (wTru wa):=
 (y6b ha he).imp fun σV H Q hh1=>by obtain⟨φ,σ,S,Q0,L,R,h,k⟩:=hh1;exact(⟨φ,σ,S,_,L,R,h,fun v S1 φ1 H1 x q p1 m1 R1 r1=>x0i R1 r1 q fun b q=>k b S1 φ1 H1 q p1 m1 R1⟩)
def wAnd(ta tb:WT):WT:=fun σ S E Q=>ta σ S E fun c S1=>if c=true then tb σ S1 E Q else Q false S1
def wOr(ta tb:WT):WT:=fun σ S E Q=>ta σ S E fun c S1=>if c=true then Q true S1 else tb σ S1 E Q
def wNot(ta:WT):WT:=fun σ S E Q=>ta σ S E fun c S1=>Q (!c) S1
theorem SimW.t{e:Expr}{w:WT}(h:SimW X G e w):SimT X G e w:=h _
theorem q2w(ha:SimT X G a ta):SimW X G (.BoolOp .And [a] pos) ta:=x0z ha
theorem q3d(ha:SimT X G a ta):SimW X G (.BoolOp .Or [a] pos) ta:=x5g ha
theorem q3r(ha:SimT X G a ta)(hb:SimW X G (.BoolOp .And (b::rest) pos) tb):SimW X G (.BoolOp .And (a::b::rest) pos) (wAnd ta tb):=
 (x5h ha hb).imp fun σV H Q hh1=>by obtain⟨φ,σ,S,Q0,L,R,h,k⟩:=hh1;exact(⟨φ,σ,S,_,L,R,h,fun c S1 φ1 H1 q p1 m1 R1=>by
  cases c with
  |true=>exact ⟨φ1,σ,S1,_,L.mono m1 p1,R1,q,k.up p1 m1⟩
  |false=>exact k false S1 φ1 H1 q p1 m1 R1⟩)
theorem q2v(ha:SimT X G a ta)(hb:SimW X G (.BoolOp .Or (b::rest) pos) tb):SimW X G (.BoolOp .Or (a::b::rest) pos) (wOr ta tb):=
 (x9s ha hb).imp fun σV H Q hh1=>by obtain⟨φ,σ,S,Q0,L,R,h,k⟩:=hh1;exact(⟨φ,σ,S,_,L,R,h,fun c S1 φ1 H1 q p1 m1 R1=>by
  cases c with
  |false=>exact ⟨φ1,σ,S1,_,L.mono m1 p1,R1,q,k.up p1 m1⟩
  |true=>exact k true S1 φ1 H1 q p1 m1 R1⟩)
theorem q5j(ha:SimT X G a ta):SimT X G (.UnaryOp .Not a pos) (wNot ta):=
 (x5i ha).imp fun σV H Q hh1=>by obtain⟨φ,σ,S,Q0,L,R,h,k⟩:=hh1;exact(⟨φ,σ,S,_,L,R,h,fun c S1 φ1 H1 q p1 m1 R1=>k (!c) S1 φ1 H1 q p1 m1 R1⟩)
def y0g(wa wb:WE):WE:=fun σ S E Q=>wa σ S E fun x S1=>match x with
 |.bl c=>if c=true then wb σ S1 E Q else Q (.bl false) S1
 |_=>False
theorem y0v {op} (h:SimE X G a wa):SimE X G (.BoolOp op [a] pos) wa:=x6c h
theorem y0z(ha:SimE X G a wa)(hb:SimE X G (.BoolOp .And (b::rest) pos) wb):SimE X G (.BoolOp .And (a::b::rest) pos) (y0g wa wb):=
 (x6i ha hb).imp fun σV H Q hh1=>by obtain⟨φ,σ,S,Q0,L,R,h,k⟩:=hh1;exact(⟨φ,σ,S,_,L,R,h,fun v S1 φ1 H1 x q p1 m1 R1 r1=>by
  cases v with
  |bl c=>
   refine ⟨c,r1,?_⟩
   cases c with
   |true=>exact ⟨φ1,σ,S1,_,L.mono m1 p1,R1,q,k.up p1 m1⟩
   |false=>exact k _ S1 φ1 H1 _ q p1 m1 R1 rfl
  |_=>exact q.elim⟩)
def wIf(t:WT)(wa wb:WE):WE:=fun σ S E Q=>t σ S E fun c S1=>if c=true then wa σ S1 E Q else wb σ S1 E Q
theorem y0w(hc:SimT X G c ta)(ha:SimE X G a wa)(hb:SimE X G b wb):SimE X G (.IfExp c a b pos) (wIf ta wa wb):=
 (y6n hc ha hb).imp fun σV H Q hh1=>by obtain⟨φ,σ,S,Q0,L,R,h,k⟩:=hh1;exact(⟨φ,σ,S,_,L,R,h,fun c S1 φ1 H1 q p1 m1 R1=>by
  cases c with
  |true=>exact ⟨φ1,σ,S1,_,L.mono m1 p1,R1,q,k.up p1 m1⟩
  |false=>exact ⟨φ1,σ,S1,_,L.mono m1 p1,R1,q,k.up p1 m1⟩⟩)
def wNeg(wa:WE):WE:=fun σ S E Q=>wa σ S E fun x S1=>match x with
 |.int i=>Q (.int (-i)) S1
 |_=>False
theorem z2d(ha:SimE X G a wa):SimE X G (.UnaryOp .USub a pos) (wNeg wa):=
 (x9v x4c ha).imp fun σV H Q hh1=>by obtain⟨φ,σ,S,Q0,L,R,h,k⟩:=hh1;exact(⟨φ,σ,S,_,L,R,h,fun v S1 φ1 H1 x q p1 m1 R1 r1=>by
  cases v with
  |int c=>exact ⟨c,r1,k _ S1 φ1 H1 _ q p1 m1 R1 rfl⟩
  |_=>exact q.elim⟩)
def wNil:WA:=fun _ S _ Q=>Q [] S
def q0d(wa:WE)(wr:WA):WA:=fun σ S E Q=>wa σ S E fun x S1=>wr σ S1 E fun xs S2=>Q (x::xs) S2
theorem q0c:SimA X G [] wNil:=y1v.imp fun σV H Q hh1=>by obtain⟨φ,σ,S,Q0,L,R,h,k⟩:=hh1;exact(k [] S φ H [] h (List.prefix_refl _) (.refl _) R rfl)
theorem q0a{e:Expr}{es:List Expr}{we:WE}{wr:WA}(ha:SimE X G e we)(hr:SimA X G es wr)(hs:starEach (e::es) X.env=(false,eval e X.env)::starEach es X.env:=by rfl):SimA X G (e::es) (q0d we wr):=
 (z5v ha hr hs).imp fun σV H Q hh1=>by obtain⟨φ,σ,S,Q0,L,R,h,k⟩:=hh1;exact(⟨φ,σ,S,_,L,R,h,fun v S1 φ1 H1 x q p1 m1 R1 r1=>
  ⟨φ1,σ,S1,_,L.mono m1 p1,R1,q,fun vs S2 φ2 H2 xs q2 p2 m2 R2 r2=>k (v::vs) S2 φ2 H2 (x::xs) q2 (p1.trans p2) (m1.trans m2) R2 (.cons (RV.mono m2 p2 _ _ r1) r2)⟩⟩)
def wTup(w:WA):WE:=fun σ S E Q=>w σ S E fun xs S1=>xs.length<=sizeLine/\Q (.tup xs) S1
def wLst(w:WA):WE:=fun σ S E Q=>w σ S E fun xs S1=>xs.length<=sizeLine/\Q (.ref S1.length) (S1++[.lst xs])
variable{es:List Expr}{w:WA}
theorem KE.tup{K:Frag}{φ:List Addr}{H:Hp}{Q0:VC}{Q:VK}{S:q0i}{xs:List PV}{vs:List V}(k:KE K φ H Q0 Q)(q:Q0 (.tup xs) S)(R:Rel K φ S H)(r:RVs K H φ xs vs):∀p,H p=none->Q (.ref p) (upd H p (.tup vs)):=fun p hp=>
 k _ S φ _ _ q (List.prefix_refl _) (.new _ hp) (R.frame _ hp) ⟨p,vs,rfl,SqT.of q2r,RVs.mono (.new _ hp) (List.prefix_refl _) _ _ r⟩
theorem KE.lst{K:Frag}{φ:List Addr}{H:Hp}{Q0:VC}{Q:VK}{S:q0i}{xs:List PV}{vs:List V}(k:KE K φ H Q0 Q)(q:Q0 (.ref S.length) (S++[.lst xs]))(R:Rel K φ S H)(r:RVs K H φ xs vs):∀p,H p=none->Q (.ref p) (upd H p (.lst vs)):=fun p hp=>
 k _ (S++[.lst xs]) (φ++[p]) _ _ q (List.prefix_append _ _) (.new _ hp) (R.new (o:=.lst xs) hp ⟨vs,q2r,RVs.mono (.new _ hp) (List.prefix_append _ _) _ _ r⟩) (show RV K _ _ (.ref S.length) _ from⟨p,rfl,by rw[<-R.len];simp⟩)
theorem q0m {x1} (h:SimA X G es w):SimE X G (.Tuple es x1 pos) (wTup w):=
 (x6a h).imp fun σV H Q hh1=>by obtain⟨φ,σ,S,Q0,L,R,h,k⟩:=hh1;exact(⟨φ,σ,S,_,L,R,h,fun vs S1 φ1 H1 xs hh2 p1 m1 R1 r1=>by obtain⟨hz,q⟩:=hh2;exact(⟨by rw[<-r1.length];exact hz,(k.up p1 m1).tup q R1 r1⟩)⟩)
theorem q1q(h:SimA X G es w):SimE X G (.List es pos) (wLst w):=
 (x6e h).imp fun σV H Q hh1=>by obtain⟨φ,σ,S,Q0,L,R,h,k⟩:=hh1;exact(⟨φ,σ,S,_,L,R,h,fun vs S1 φ1 H1 xs hh2 p1 m1 R1 r1=>by obtain⟨hz,q⟩:=hh2;exact(⟨by rw[<-r1.length];exact hz,(k.up p1 m1).lst q R1 r1⟩)⟩)
end
def q7m(S:q0i)(n:Nat):Option (List PV):=match S[n]? with
 |some (.lst xs)=>some xs
 |_=>none
def q3i(S:q0i)(n:Nat):Option (List PV):=match S[n]? with
 |some (.lst xs)=>some xs
 |_=>none
def x3n(S:q0i)(n:Nat):Option (List (Key×PV)):=match S[n]? with
 |some (.dK xs)=>some xs
 |_=>none
section
variable{K:Frag}{H:Hp}{φ:List Addr}{S:q0i}
theorem y2j{n:Nat}{xs:List PV}(e:q7m S n=some xs):S[n]?=some (.lst xs):=by
 unfold q7m at e
 split at e
 ·cases e;assumption
 ·cases e
theorem y3u{n:Nat}{xs:List (Key×PV)}(e:x3n S n=some xs):S[n]?=some (.dK xs):=by
 unfold x3n at e
 split at e
 ·cases e;assumption
 ·cases e
theorem Rel.lst(R:Rel K φ S H){n:Nat}{a:Addr}{xs:List PV}(q:φ[n]?=some a)(e:q7m S n=some xs):∃vs,H a=some (.lst vs)/\RVs K H φ xs vs:=R.obj n a _ q (y2j e)
theorem Rel.dic(R:Rel K φ S H){n:Nat}{a:Addr}{xs:List (Key×PV)}(q:φ[n]?=some a)(e:x3n S n=some xs):∃vs,H a=some (.dK vs)/\RKs K H φ xs vs:=R.obj n a _ q (y3u e)
theorem Rel.seq(R:Rel K φ S H){n:Nat}{a:Addr}{xs:List PV}(q:φ[n]?=some a)(e:q3i S n=some xs):∃vs,SqL K H a vs/\RVs K H φ xs vs:=by
 unfold q3i at e
 split at e
 ·rename_i ys es
  cases e
  obtain⟨vs,e1,r⟩:=R.obj n a _ q es
  exact⟨vs,SqL.of e1,r⟩
 ·cases e
end
def bAdd:F2:=fun x y S Q=>match x,y with
 |.int i,.int j=>Q (.int (i+j)) S
 |.str a,.str b=>a.length+b.length<=sizeLine/\Q (.str (a++b)) S
 |.tup xs,.tup ys=>xs.length+ys.length<=sizeLine/\Q (.tup (xs++ys)) S
 |.ref m,.ref n=>match q7m S m,q7m S n with
  |some xs,some ys=>xs.length+ys.length<=sizeLine/\Q (.ref S.length) (S++[.lst (xs++ys)])
  |_,_=>False
 |_,_=>False
def bI(C:Int->Int->Prop)(g:Int->Int->PV):F2:=fun x y S Q=>match x,y with
 |.int i,.int j=>C i j/\Q (g i j) S
 |_,_=>False
def bSub:F2:=bI (fun _ _=>True) fun i j=>.int (i-j)
def q8t:F2:=bI (fun _ j=>0<j/\j<2 ^ 100) fun i j=>.int (i / j)
def bMod:F2:=bI (fun _ j=>0<j) fun i j=>.int (i % j)
def bPow:F2:=bI CPow fun i j=>.int (i ^ j.toNat)
def cLt:F2:=bI (fun _ _=>True) fun i j=>.bl (decide (i<j))
def cGt:F2:=bI (fun _ _=>True) fun i j=>.bl (decide (j<i))
def cGe:F2:=bI (fun _ _=>True) fun i j=>.bl (decide (j<=i))
def bMul:F2:=fun x y S Q=>match x,y with
 |.int i,.int j=>CMul i j/\Q (.int (i*j)) S
 |.ref m,.int k=>match q7m S m with
  |some xs=>(-(2 ^ 63)<=k/\k<2 ^ 63/\xs.length*k.toNat<=sizeLine)/\Q (.ref S.length) (S++[.lst (List.replicate k.toNat xs).flatten])
  |none=>False
 |_,_=>False
section
variable{X:Cx}
theorem z5w{f:Value->Value->Sem Value}{C D:Int->Int->Prop}{g:Int->Int->PV}{gV:Int->Int->V}(ho:OpR X f (rI D gV))(hd:∀i j,C i j->D i j)(hg:∀i j H φ,RV X.K H φ (g i j) (gV i j)):OpR X f (q5d X.K (bI C g)):=by
 rintro pins s σ H x y v u Q I rx ry ⟨φ,S,px,py,Q0,R,hx,hy,h,k⟩
 unfold bI at h
 split at h
 ·rename_i i j
  exact ho pins s σ H x y v u Q I rx ry ⟨i,j,hx,hy,hd i j h.1,k _ S φ H _ h.2 (List.prefix_refl _) (.refl _) R (hg i j H φ)⟩
 ·exact h.elim
theorem OpR.of0{f:Value->Value->Sem Value}{gV:Int->Int->V}(ho:OpR X f (rI0 gV)):OpR X f (rI (fun _ _=>True) gV):=fun pins s σ H x y v u Q I rx ry hh1=>by obtain⟨i,j,a,b,_,q⟩:=hh1;exact(ho pins s σ H x y v u Q I rx ry ⟨i,j,a,b,q⟩)
theorem q8p:OpR X (binaryOp .Sub) (q5d X.K bSub):=z5w (OpR.of0 x6n) (fun _ _ h=>h) fun _ _ _ _=>rfl
theorem q5k:OpR X (binaryOp .FloorDiv) (q5d X.K q8t):=z5w y6s (fun _ _ h=>h) fun _ _ _ _=>rfl
theorem q1t:OpR X (binaryOp .Mod) (q5d X.K bMod):=z5w x6r (fun _ _ h=>h) fun _ _ _ _=>rfl
theorem y1w:OpR X (binaryOp .Pow) (q5d X.K bPow):=z5w x6p (fun _ _ h=>h) fun _ _ _ _=>rfl
theorem z0f:OpR X (compareOp .Lt) (q5d X.K cLt):=z5w (OpR.of0 w0b) (fun _ _ h=>h) fun _ _ _ _=>rfl
theorem q7c:OpR X (compareOp .Gt) (q5d X.K cGt):=z5w (OpR.of0 w0c) (fun _ _ h=>h) fun _ _ _ _=>rfl
theorem y1y:OpR X (compareOp .GtE) (q5d X.K cGe):=z5w (OpR.of0 w0d) (fun _ _ h=>h) fun _ _ _ _=>rfl
theorem z2i:OpR X (binaryOp .Mult) (q5d X.K bMul):=by
 rintro pins s σ H x y v u Q I rx ry ⟨φ,S,px,py,Q0,R,hx,hy,h,k⟩
 unfold bMul at h
 split at h
 ·rename_i i j
  exact x6q pins s σ H x y v u Q I rx ry ⟨i,j,hx,hy,h.1,k _ S φ H _ h.2 (List.prefix_refl _) (.refl _) R rfl⟩
 ·rename_i m kk
  split at h
  ·rename_i xs e
   obtain⟨a,rfl,qa⟩:=hx
   cases hy
   obtain⟨vs,ea,r⟩:=R.lst qa e
   obtain⟨⟨h1,h2,h3⟩,h⟩:=h
   exact x6o pins s σ H _ _ v u Q I rx ry ⟨a,kk,vs,rfl,rfl,ea,h1,h2,by rw[<-r.length];exact h3,k.lst h R (r.rep _)⟩
  ·exact h.elim
 ·exact h.elim
theorem q1h:OpR X (binaryOp .Add) (q5d X.K bAdd):=by
 rintro pins s σ H x y v u Q I rx ry ⟨φ,S,px,py,Q0,R,hx,hy,h,k⟩
 unfold bAdd at h
 split at h
 ·rename_i i j
  exact x6u pins s σ H x y v u Q I rx ry ⟨i,j,hx,hy,k _ S φ H _ h (List.prefix_refl _) (.refl _) R rfl⟩
 ·rename_i a b
  exact z9e pins s σ H x y v u Q I rx ry ⟨a,b,hx,hy,h.1,k _ S φ H _ h.2 (List.prefix_refl _) (.refl _) R rfl⟩
 ·rename_i xs ys
  obtain⟨a,vs,rfl,sa,ra⟩:=hx
  obtain⟨b,ws,rfl,sb,rb⟩:=hy
  refine y6t pins s σ H _ _ v u Q I rx ry ?_
  by_cases hv:vs=[]
  ·subst hv
   have:xs=[]:=List.length_eq_zero_iff.mp (by rw[ra.length];rfl)
   subst this
   exact .inl ⟨a,b,ws,rfl,rfl,sa,sb,k _ S φ H _ h.2 (List.prefix_refl _) (.refl _) R ⟨b,ws,rfl,sb,rb⟩⟩
  ·refine .inr ⟨a,b,vs,ws,rfl,rfl,sa,sb,hv,by rw[<-ra.length,<-rb.length];exact h.1,fun hw=>?_,fun _=>k.tup h.2 R (ra.append rb)⟩
   subst hw
   have:ys=[]:=List.length_eq_zero_iff.mp (by rw[rb.length];rfl)
   subst this
   refine k _ S φ H _ h.2 (List.prefix_refl _) (.refl _) R ?_
   rw[List.append_nil]
   exact⟨a,vs,rfl,sa,ra⟩
 ·rename_i m n
  split at h
  ·rename_i xs ys e1 e2
   obtain⟨a,rfl,qa⟩:=hx
   obtain⟨b,rfl,qb⟩:=hy
   obtain⟨vs,ea,ra⟩:=R.lst qa e1
   obtain⟨ws,eb,rb⟩:=R.lst qb e2
   exact x6t pins s σ H _ _ v u Q I rx ry ⟨a,b,vs,ws,rfl,rfl,ea,eb,by rw[<-ra.length,<-rb.length];exact h.1,k.lst h.2 R (ra.append rb)⟩
  ·exact h.elim
 ·exact h.elim
def z6w:F2:=fun x y S Q=>match x,y with
 |.int i,.int j=>Q (.int (i+j)) S
 |.str a,.str b=>a.length+b.length<=sizeLine/\Q (.str (a++b)) S
 |_,_=>False
theorem x3b:PIp X .Add (fun x' y' H Q=>q5d X.K z6w x' y' H Q):=by
 rintro pins s σ H x y v u Q I rx ry ⟨φ,S,px,py,Q0,R,hx,hy,h,k⟩
 unfold z6w at h
 split at h
 ·rename_i i j
  exact x8f pins s σ H x y v u Q I rx ry ⟨i,j,hx,hy,k _ S φ H _ h (List.prefix_refl _) (.refl _) R rfl⟩
 ·rename_i a b
  exact z6p pins s σ H x y v u Q I rx ry ⟨a,b,hx,hy,h.1,k _ S φ H _ h.2 (List.prefix_refl _) (.refl _) R rfl⟩
 ·exact h.elim
end
mutual
def eqB:PV->PV->Bool
 |.non,y=>match y with
  |.non=>true
  |_=>false
 |.bl a,y=>match y with
  |.bl b=>a==b
  |.int b=>(if a then 1 else 0)==b
  |_=>false
 |.int a,y=>match y with
  |.bl b=>a==(if b then 1 else 0)
  |.int b=>a==b
  |_=>false
 |.str a,y=>match y with
  |.str b=>a==b
  |_=>false
 |.tup xs,y=>match y with
  |.tup ys=>eqBs xs ys
  |_=>false
 |.ty _,_=>false
 |.frl _,_=>false
 |.ref _,_=>false
 |.exc _,_=>false
def eqBs:List PV->List PV->Bool
 |[],ys=>ys.isEmpty
 |x::xs,ys=>match ys with
  |[]=>false
  |y::r=>eqB x y&&eqBs xs r
end
mutual
def nrf:PV->Bool
 |.ty _=>false
 |.frl _=>false
 |.ref _=>false
 |.exc _=>false
 |.tup xs=>nrfs xs
 |_=>true
def nrfs:List PV->Bool
 |[]=>true
 |x::xs=>nrf x&&nrfs xs
end
mutual
def dep:PV->Nat
 |.tup xs=>1+deps xs
 |_=>0
def deps:List PV->Nat
 |[]=>0
 |x::xs=>max (dep x) (deps xs)
end
theorem z7y:∀{xs ys:List PV},eqBs xs ys=true->xs.length=ys.length
 |[],ys,h=>by cases ys<;>simp_all [eqBs]
 |x::xs,ys,h=>by
  cases ys with
  |nil=>simp[eqBs]at h
  |cons y r=>
   simp only[eqBs,Bool.and_eq_true]at h
   simp[z7y h.2]
theorem q5t:∀(xs ys:List PV),eqBs xs ys=((List.range (min xs.length ys.length)).all (fun j=>eqB (xs.getD j .non) (ys.getD j .non))&&xs.length==ys.length)
 |[],ys=>by cases ys<;>simp[eqBs]
 |x::xs,ys=>by
  cases ys with
  |nil=>simp[eqBs]
  |cons y r=>
   have e:min (x::xs).length (y::r).length=min xs.length r.length+1:=by simp only[List.length_cons];omega
   rw[e,List.range_succ_eq_map,List.all_cons,List.all_map]
   simp only[eqBs,q5t xs r,List.length_cons,Function.comp]
   rw[Bool.and_assoc]
   congr 2
   by_cases h:xs.length=r.length
   ·simp[h]
   ·simp[h]
mutual
theorem q9u:∀x:PV,nrf x=true->eqB x x=true
 |.non,_=>rfl
 |.bl b,_=>by simp[eqB]
 |.int i,_=>by simp[eqB]
 |.str x,_=>by simp[eqB]
 |.tup xs,h=>by simp only[eqB];exact q4i xs (by simpa[nrf]using h)
 |.ty _,h=>by simp[nrf]at h
 |.frl _,h=>by simp[nrf]at h
 |.ref _,h=>by simp[nrf]at h
 |.exc _,h=>by simp[nrf]at h
theorem q4i:∀xs:List PV,nrfs xs=true->eqBs xs xs=true
 |[],_=>rfl
 |x::xs,h=>by
  simp only[nrfs,Bool.and_eq_true]at h
  simp only[eqBs,q9u x h.1,q4i xs h.2,Bool.and_self]
end
section
variable{X:Cx}{pins:List (Addr×Obj)}{s:Shared}{σ:St}{H:Hp}{φ:List Addr}
mutual
theorem RV.inj(I:Inv X pins σ H s):∀(x y:PV)(v:V),nrf x=true->nrf y=true->RV X.K H φ x v->RV X.K H φ y v->x=y
 |.non,y,v,_,hy,r,q=>by cases y<;>simp_all [RV,nrf]
 |.bl b,y,v,_,hy,r,q=>by cases y<;>simp_all [RV,nrf]
 |.int b,y,v,_,hy,r,q=>by cases y<;>simp_all [RV,nrf]
 |.str b,y,v,_,hy,r,q=>by cases y<;>simp_all [RV,nrf]
 |.ty _,y,v,h,hy,r,q=>by simp[nrf]at h
 |.frl _,y,v,h,hy,r,q=>by simp[nrf]at h
 |.ref _,y,v,h,hy,r,q=>by simp[nrf]at h
 |.exc _,y,v,h,hy,r,q=>by simp[nrf]at h
 |.tup xs,y,v,h,hy,r,q=>by
  obtain⟨a,vs,rfl,sa,ra⟩:=r
  cases y with
  |tup ys=>
   obtain⟨b,ws,e,sb,rb⟩:=q
   cases e
   have:=I.tuple_inj sa sb
   subst this
   rw[RVs.inj I xs ys vs (by simpa[nrf]using h) (by simpa[nrf]using hy) ra rb]
  |non=>cases q
  |bl _=>cases q
  |int _=>cases q
  |str _=>cases q
  |ty _=>simp[nrf]at hy
  |frl _=>simp[nrf]at hy
  |ref _=>simp[nrf]at hy
  |exc _=>simp[nrf]at hy
theorem RVs.inj(I:Inv X pins σ H s):∀(xs ys:List PV)(vs:List V),nrfs xs=true->nrfs ys=true->RVs X.K H φ xs vs->RVs X.K H φ ys vs->xs=ys
 |[],ys,vs,_,_,r,q=>by
  rw[show vs=[]from r]at q
  exact(List.length_eq_zero_iff.mp (by rw[RVs.length q];rfl)).symm
 |x::xs,ys,vs,h,h',r,q=>by
  obtain⟨v,ws,rfl,r1,r2⟩:=r
  cases ys with
  |nil=>cases(show v::ws=[]from q)
  |cons y ys=>
   obtain⟨v',ws',e,q1,q2⟩:=q
   cases e
   simp only[nrfs,Bool.and_eq_true]at h h'
   rw[RV.inj I x y v h.1 h'.1 r1 q1,RVs.inj I xs ys ws h.2 h'.2 r2 q2]
end
theorem q5s(A:Around):A.in1.units=A.units+1:=rfl
theorem q5o{vs:List V}{its:List Value}(r:Vals vs its){j:Nat}(h:j<its.toArray.size){x:V}(e:vs[j]?=some x):RelV x its.toArray[j]:=by
 obtain⟨u,e1,r1⟩:=r.get e
 have:its.toArray[j]=u:=by
  have h':j<its.length:=by simpa using h
  rw[List.getElem?_eq_getElem h']at e1
  simpa using e1
 rw[this]
 exact r1
theorem q2j:∀{xs:List PV}{j:Nat}{x:PV},nrfs xs=true->xs[j]?=some x->nrf x=true
 |[],_,_,_,e=>by simp at e
 |x::xs,0,y,h,e=>by simp[nrfs]at h e;subst e;exact h.1
 |x::xs,j+1,y,h,e=>by simp[nrfs]at h e;exact q2j h.2 e
theorem q6g:∀{xs:List PV}{j:Nat}{x:PV},xs[j]?=some x->dep x<=deps xs
 |[],_,_,e=>by simp at e
 |x::xs,0,y,e=>by simp at e;subst e;simp only[deps];omega
 |x::xs,j+1,y,e=>by simp at e;have:=q6g e;simp only[deps];omega
theorem getD_some{xs:List PV}{j:Nat}{x:PV}(e:xs[j]?=some x):xs.getD j .non=x:=by rw[List.getD_eq_getElem?_getD,e];rfl
theorem z4q(I:Inv X pins σ H s):∀(d:Nat)(A:Around)(x y:PV)(x' y':V)(v u:Value),nrf x=true->nrf y=true->dep x<=d->A.units+d<cLine->RV X.K H φ x x'->RV X.K H φ y y'->RelV x' v->RelV y' u->SeqAt.EqAt A s v u (eqB x y):=by
 intro d
 induction d with
 |zero=>
  intro A x y x' y' v u hx hy hd hu rx ry qx qy
  cases x with
  |tup xs=>simp[dep]at hd
  |non=>
   cases rx;cases qx
   cases y with
   |non=>cases ry;cases qy;exact .same _
   |bl b=>cases ry;cases qy;exact .none_bool b
   |int b=>cases ry;obtain⟨t,rfl⟩:=qy;exact .none_int b t
   |str b=>cases ry;obtain⟨t,rfl⟩:=qy;exact .none_str b t
   |tup ys=>obtain⟨b,ws,rfl,sb,rb⟩:=ry;cases qy;obtain⟨_,_,p,_⟩:=I.tuple sb;exact .none_tuple p (by omega)
   |ty _=>simp[nrf]at hy
   |frl _=>simp[nrf]at hy
   |ref _=>simp[nrf]at hy
   |exc _=>simp[nrf]at hy
  |bl a=>
   cases rx;cases qx
   cases y with
   |non=>cases ry;cases qy;exact .bool_none a
   |bl b=>cases ry;cases qy;exact .bool_bool a b
   |int b=>cases ry;obtain⟨t,rfl⟩:=qy;exact .bool_int a b t
   |str b=>cases ry;obtain⟨t,rfl⟩:=qy;exact .bool_str a b t
   |tup ys=>obtain⟨b,ws,rfl,sb,rb⟩:=ry;cases qy;obtain⟨_,_,p,_⟩:=I.tuple sb;exact .bool_tuple a p (by omega)
   |ty _=>simp[nrf]at hy
   |frl _=>simp[nrf]at hy
   |ref _=>simp[nrf]at hy
   |exc _=>simp[nrf]at hy
  |int a=>
   cases rx;obtain⟨t,rfl⟩:=qx
   cases y with
   |non=>cases ry;cases qy;exact .int_none a t
   |bl b=>cases ry;cases qy;exact .int_bool a t b
   |int b=>cases ry;obtain⟨t',rfl⟩:=qy;exact .int_int a t b t'
   |str b=>cases ry;obtain⟨t',rfl⟩:=qy;exact .int_str a t b t'
   |tup ys=>obtain⟨b,ws,rfl,sb,rb⟩:=ry;cases qy;obtain⟨_,_,p,_⟩:=I.tuple sb;exact .int_tuple a t p (by omega)
   |ty _=>simp[nrf]at hy
   |frl _=>simp[nrf]at hy
   |ref _=>simp[nrf]at hy
   |exc _=>simp[nrf]at hy
  |str a=>
   cases rx;obtain⟨t,rfl⟩:=qx
   cases y with
   |non=>cases ry;cases qy;exact .str_none a t
   |bl b=>cases ry;cases qy;exact .str_bool a t b
   |int b=>cases ry;obtain⟨t',rfl⟩:=qy;exact .str_int a t b t'
   |str b=>cases ry;obtain⟨t',rfl⟩:=qy;exact .str_str a t b t'
   |tup ys=>obtain⟨b,ws,rfl,sb,rb⟩:=ry;cases qy;obtain⟨_,_,p,_⟩:=I.tuple sb;exact .str_tuple a t p (by omega)
   |ty _=>simp[nrf]at hy
   |frl _=>simp[nrf]at hy
   |ref _=>simp[nrf]at hy
   |exc _=>simp[nrf]at hy
  |ty _=>simp[nrf]at hx
  |frl _=>simp[nrf]at hx
  |ref _=>simp[nrf]at hx
  |exc _=>simp[nrf]at hx
 |succ d ih=>
  intro A x y x' y' v u hx hy hd hu rx ry qx qy
  cases x with
  |tup xs=>
   obtain⟨a,vs,rfl,sa,ra⟩:=id rx
   cases qx
   obtain⟨its,r1,p1,_⟩:=I.tuple sa
   cases y with
   |non=>cases ry;cases qy;exact .tuple_none p1 (by omega)
   |bl b=>cases ry;cases qy;exact .tuple_bool b p1 (by omega)
   |int b=>cases ry;obtain⟨t,rfl⟩:=qy;exact .tuple_int b t p1 (by omega)
   |str b=>cases ry;obtain⟨t,rfl⟩:=qy;exact .tuple_str b t p1 (by omega)
   |ty _=>simp[nrf]at hy
   |frl _=>simp[nrf]at hy
   |ref _=>simp[nrf]at hy
   |exc _=>simp[nrf]at hy
   |tup ys=>
    obtain⟨b,ws,rfl,sb,rb⟩:=id ry
    cases qy
    obtain⟨its2,r2,p2,_⟩:=I.tuple sb
    by_cases hab:a=b
    ·subst hab
     rw[RV.inj I _ _ _ hx hy rx ry,q9u _ hy]
     exact .same _
    ·refine .of_refs hab ?_
     have e:eqB (.tup xs) (.tup ys)=((List.range (min its.toArray.size its2.toArray.size)).all (fun j=>eqB (xs.getD j .non) (ys.getD j .non))&&its.toArray.size==its2.toArray.size):=by
      simp only[eqB]
      rw[q5t,List.size_toArray,List.size_toArray,<-r1.length,<-r2.length,ra.length,rb.length]
     rw[e]
     refine .tuples p1 p2 (by omega) fun j h1 h2=>?_
     have hj1:j<xs.length:=by rw[ra.length,r1.length];simpa using h1
     have hj2:j<ys.length:=by rw[rb.length,r2.length];simpa using h2
     have e1:xs[j]?=some xs[j]:=List.getElem?_eq_getElem hj1
     have e2:ys[j]?=some ys[j]:=List.getElem?_eq_getElem hj2
     obtain⟨v1,g1,q1⟩:=ra.get e1
     obtain⟨v2,g2,q2⟩:=rb.get e2
     rw[getD_some e1,getD_some e2]
     have hdd:=q6g e1
     simp only[dep]at hd
     exact ih A.in1 _ _ v1 v2 _ _ (q2j (by simpa[nrf]using hx) e1) (q2j (by simpa[nrf]using hy) e2) (by omega) (by rw[q5s];omega) q1 q2 (q5o r1 h1 g1) (q5o r2 h2 g2)
  |non=>exact ih A _ _ x' y' v u hx hy (Nat.zero_le _) (by omega) rx ry qx qy
  |bl a=>exact ih A _ _ x' y' v u hx hy (Nat.zero_le _) (by omega) rx ry qx qy
  |int a=>exact ih A _ _ x' y' v u hx hy (Nat.zero_le _) (by omega) rx ry qx qy
  |str a=>exact ih A _ _ x' y' v u hx hy (Nat.zero_le _) (by omega) rx ry qx qy
  |ty _=>simp[nrf]at hx
  |frl _=>simp[nrf]at hx
  |ref _=>simp[nrf]at hx
  |exc _=>simp[nrf]at hx
end
section
variable{X:Cx}{pins:List (Addr×Obj)}{s:Shared}{σ:St}{H:Hp}{φ:List Addr}
theorem y8z(I:Inv X pins σ H s)(d:Nat)(A:Around)(x y:PV)(x' y':V)(v u:Value)(hx:nrf x=true)(hy:nrf y=true)(hd:∀xs ys,x=.tup xs->y=.tup ys->dep x<=d)(hu:A.units+d<cLine)(rx:RV X.K H φ x x')(ry:RV X.K H φ y y')(qx:RelV x' v)(qy:RelV y' u):SeqAt.RcAt A s v u (eqB x y):=by
 cases x with
 |non=>
  cases rx
  cases qx
  cases y with
  |non=>cases ry;cases qy;exact .none_none
  |bl b=>cases ry;cases qy;exact .none_bool b
  |int b=>cases ry;obtain⟨t',rfl⟩:=qy;exact .none_int b t'
  |str b=>cases ry;obtain⟨t',rfl⟩:=qy;exact .none_str b t'
  |tup ys=>obtain⟨b,ws,rfl,sb,rb⟩:=ry;cases qy;obtain⟨_,_,p,_⟩:=I.tuple sb;exact .none_tuple  p (by omega)
  |ty _=>simp[nrf]at hy
  |frl _=>simp[nrf]at hy
  |ref _=>simp[nrf]at hy
  |exc _=>simp[nrf]at hy
 |bl a=>
  cases rx
  cases qx
  cases y with
  |non=>cases ry;cases qy;exact .bool_none a
  |bl b=>cases ry;cases qy;exact .bool_bool a b
  |int b=>cases ry;obtain⟨t',rfl⟩:=qy;exact .bool_int a b t'
  |str b=>cases ry;obtain⟨t',rfl⟩:=qy;exact .bool_str a b t'
  |tup ys=>obtain⟨b,ws,rfl,sb,rb⟩:=ry;cases qy;obtain⟨_,_,p,_⟩:=I.tuple sb;exact .bool_tuple a p (by omega)
  |ty _=>simp[nrf]at hy
  |frl _=>simp[nrf]at hy
  |ref _=>simp[nrf]at hy
  |exc _=>simp[nrf]at hy
 |int a=>
  cases rx
  obtain⟨t,rfl⟩:=qx
  cases y with
  |non=>cases ry;cases qy;exact .int_none a t
  |bl b=>cases ry;cases qy;exact .int_bool a t b
  |int b=>cases ry;obtain⟨t',rfl⟩:=qy;exact .int_int a t b t'
  |str b=>cases ry;obtain⟨t',rfl⟩:=qy;exact .int_str a t b t'
  |tup ys=>obtain⟨b,ws,rfl,sb,rb⟩:=ry;cases qy;obtain⟨_,_,p,_⟩:=I.tuple sb;exact .int_tuple a t p (by omega)
  |ty _=>simp[nrf]at hy
  |frl _=>simp[nrf]at hy
  |ref _=>simp[nrf]at hy
  |exc _=>simp[nrf]at hy
 |str a=>
  cases rx
  obtain⟨t,rfl⟩:=qx
  cases y with
  |non=>cases ry;cases qy;exact .str_none a t
  |bl b=>cases ry;cases qy;exact .str_bool a t b
  |int b=>cases ry;obtain⟨t',rfl⟩:=qy;exact .str_int a t b t'
  |str b=>cases ry;obtain⟨t',rfl⟩:=qy;exact .str_str a t b t'
  |tup ys=>obtain⟨b,ws,rfl,sb,rb⟩:=ry;cases qy;obtain⟨_,_,p,_⟩:=I.tuple sb;exact .str_tuple a t p (by omega)
  |ty _=>simp[nrf]at hy
  |frl _=>simp[nrf]at hy
  |ref _=>simp[nrf]at hy
  |exc _=>simp[nrf]at hy
 |ty _=>simp[nrf]at hx
 |frl _=>simp[nrf]at hx
 |ref _=>simp[nrf]at hx
 |exc _=>simp[nrf]at hx
 |tup xs=>
  obtain⟨a,vs,rfl,sa,ra⟩:=id rx
  cases qx
  obtain⟨its,r1,p1,_⟩:=I.tuple sa
  cases y with
  |non=>cases ry;cases qy;exact .tuple_none p1 (by omega)
  |bl b=>cases ry;cases qy;exact .tuple_bool b p1 (by omega)
  |int b=>cases ry;obtain⟨t,rfl⟩:=qy;exact .tuple_int b t p1 (by omega)
  |str b=>cases ry;obtain⟨t,rfl⟩:=qy;exact .tuple_str b t p1 (by omega)
  |ty _=>simp[nrf]at hy
  |frl _=>simp[nrf]at hy
  |ref _=>simp[nrf]at hy
  |exc _=>simp[nrf]at hy
  |tup ys=>
   obtain⟨b,ws,rfl,sb,rb⟩:=id ry
   cases qy
   obtain⟨its2,r2,p2,_⟩:=I.tuple sb
   have e:eqB (.tup xs) (.tup ys)=((List.range (min its.toArray.size its2.toArray.size)).all (fun j=>eqB (xs.getD j .non) (ys.getD j .non))&&its.toArray.size==its2.toArray.size):=by
    simp only[eqB]
    rw[q5t,List.size_toArray,List.size_toArray,<-r1.length,<-r2.length,ra.length,rb.length]
   rw[e]
   have hd':=hd xs ys rfl rfl
   simp only[dep]at hd'
   refine .tuples p1 p2 (by omega) fun j h1 h2=>?_
   have hj1:j<xs.length:=by rw[ra.length,r1.length];simpa using h1
   have hj2:j<ys.length:=by rw[rb.length,r2.length];simpa using h2
   have e1:xs[j]?=some xs[j]:=List.getElem?_eq_getElem hj1
   have e2:ys[j]?=some ys[j]:=List.getElem?_eq_getElem hj2
   obtain⟨v1,g1,q1⟩:=ra.get e1
   obtain⟨v2,g2,q2⟩:=rb.get e2
   rw[getD_some e1,getD_some e2]
   have hdd:=q6g e1
   exact z4q I (d-1) A.in1 _ _ v1 v2 _ _ (q2j (by simpa[nrf]using hx) e1) (q2j (by simpa[nrf]using hy) e2) (by omega) (by rw[q5s];omega) q1 q2 (q5o r1 h1 g1) (q5o r2 h2 g2)
theorem z7m(I:Inv X pins σ H s)(d:Nat)(A:Around)(x y:PV)(x' y':V)(v u:Value)(hx:nrf x=true)(hy:nrf y=true)(hd:∀xs ys,x=.tup xs->y=.tup ys->dep x<=d)(hu:A.units+d<cLine)(rx:RV X.K H φ x x')(ry:RV X.K H φ y y')(qx:RelV x' v)(qy:RelV y' u):SeqAt.RcNeAt A s v u (!eqB x y):=by
 cases x with
 |non=>
  cases rx
  cases qx
  cases y with
  |non=>cases ry;cases qy;exact .none_none
  |bl b=>cases ry;cases qy;exact .none_bool b
  |int b=>cases ry;obtain⟨t',rfl⟩:=qy;exact .none_int b t'
  |str b=>cases ry;obtain⟨t',rfl⟩:=qy;exact .none_str b t'
  |tup ys=>obtain⟨b,ws,rfl,sb,rb⟩:=ry;cases qy;obtain⟨_,_,p,_⟩:=I.tuple sb;exact .none_tuple  p (by omega)
  |ty _=>simp[nrf]at hy
  |frl _=>simp[nrf]at hy
  |ref _=>simp[nrf]at hy
  |exc _=>simp[nrf]at hy
 |bl a=>
  cases rx
  cases qx
  cases y with
  |non=>cases ry;cases qy;exact .bool_none a
  |bl b=>cases ry;cases qy;exact .bool_bool a b
  |int b=>cases ry;obtain⟨t',rfl⟩:=qy;exact .bool_int a b t'
  |str b=>cases ry;obtain⟨t',rfl⟩:=qy;exact .bool_str a b t'
  |tup ys=>obtain⟨b,ws,rfl,sb,rb⟩:=ry;cases qy;obtain⟨_,_,p,_⟩:=I.tuple sb;exact .bool_tuple a p (by omega)
  |ty _=>simp[nrf]at hy
  |frl _=>simp[nrf]at hy
  |ref _=>simp[nrf]at hy
  |exc _=>simp[nrf]at hy
 |int a=>
  cases rx
  obtain⟨t,rfl⟩:=qx
  cases y with
  |non=>cases ry;cases qy;exact .int_none a t
  |bl b=>cases ry;cases qy;exact .int_bool a t b
  |int b=>cases ry;obtain⟨t',rfl⟩:=qy;exact .int_int a t b t'
  |str b=>cases ry;obtain⟨t',rfl⟩:=qy;exact .int_str a t b t'
  |tup ys=>obtain⟨b,ws,rfl,sb,rb⟩:=ry;cases qy;obtain⟨_,_,p,_⟩:=I.tuple sb;exact .int_tuple a t p (by omega)
  |ty _=>simp[nrf]at hy
  |frl _=>simp[nrf]at hy
  |ref _=>simp[nrf]at hy
  |exc _=>simp[nrf]at hy
 |str a=>
  cases rx
  obtain⟨t,rfl⟩:=qx
  cases y with
  |non=>cases ry;cases qy;exact .str_none a t
  |bl b=>cases ry;cases qy;exact .str_bool a t b
  |int b=>cases ry;obtain⟨t',rfl⟩:=qy;exact .str_int a t b t'
  |str b=>cases ry;obtain⟨t',rfl⟩:=qy;exact .str_str a t b t'
  |tup ys=>obtain⟨b,ws,rfl,sb,rb⟩:=ry;cases qy;obtain⟨_,_,p,_⟩:=I.tuple sb;exact .str_tuple a t p (by omega)
  |ty _=>simp[nrf]at hy
  |frl _=>simp[nrf]at hy
  |ref _=>simp[nrf]at hy
  |exc _=>simp[nrf]at hy
 |ty _=>simp[nrf]at hx
 |frl _=>simp[nrf]at hx
 |ref _=>simp[nrf]at hx
 |exc _=>simp[nrf]at hx
 |tup xs=>
  obtain⟨a,vs,rfl,sa,ra⟩:=id rx
  cases qx
  obtain⟨its,r1,p1,_⟩:=I.tuple sa
  cases y with
  |non=>cases ry;cases qy;exact .tuple_none p1 (by omega)
  |bl b=>cases ry;cases qy;exact .tuple_bool b p1 (by omega)
  |int b=>cases ry;obtain⟨t,rfl⟩:=qy;exact .tuple_int b t p1 (by omega)
  |str b=>cases ry;obtain⟨t,rfl⟩:=qy;exact .tuple_str b t p1 (by omega)
  |ty _=>simp[nrf]at hy
  |frl _=>simp[nrf]at hy
  |ref _=>simp[nrf]at hy
  |exc _=>simp[nrf]at hy
  |tup ys=>
   obtain⟨b,ws,rfl,sb,rb⟩:=id ry
   cases qy
   obtain⟨its2,r2,p2,_⟩:=I.tuple sb
   have e:eqB (.tup xs) (.tup ys)=((List.range (min its.toArray.size its2.toArray.size)).all (fun j=>eqB (xs.getD j .non) (ys.getD j .non))&&its.toArray.size==its2.toArray.size):=by
    simp only[eqB]
    rw[q5t,List.size_toArray,List.size_toArray,<-r1.length,<-r2.length,ra.length,rb.length]
   rw[e]
   have hd':=hd xs ys rfl rfl
   simp only[dep]at hd'
   refine .tuples p1 p2 (by omega) fun j h1 h2=>?_
   have hj1:j<xs.length:=by rw[ra.length,r1.length];simpa using h1
   have hj2:j<ys.length:=by rw[rb.length,r2.length];simpa using h2
   have e1:xs[j]?=some xs[j]:=List.getElem?_eq_getElem hj1
   have e2:ys[j]?=some ys[j]:=List.getElem?_eq_getElem hj2
   obtain⟨v1,g1,q1⟩:=ra.get e1
   obtain⟨v2,g2,q2⟩:=rb.get e2
   rw[getD_some e1,getD_some e2]
   have hdd:=q6g e1
   exact z4q I (d-1) A.in1 _ _ v1 v2 _ _ (q2j (by simpa[nrf]using hx) e1) (q2j (by simpa[nrf]using hy) e2) (by omega) (by rw[q5s];omega) q1 q2 (q5o r1 h1 g1) (q5o r2 h2 g2)
theorem z8m{f:PV->Bool}{e:Value->Bool}:∀{its:List Value}{ys:List PV},its.length=ys.length->(∀(j:Nat) u y,its[j]?=some u->ys[j]?=some y->e u=f y)->its.any e=ys.any f
 |[],[],_,_=>rfl
 |u::its,y::ys,hl,he=>by
  rw[List.any_cons,List.any_cons,he 0 u y rfl rfl,z8m (by simpa using hl) fun j u y h1 h2=>he (j+1) u y (by simpa using h1) (by simpa using h2)]
 |[],_::_,hl,_=>by simp at hl
 |_::_,[],hl,_=>by simp at hl
end
def okEq(x:PV):Prop:=nrf x=true/\dep x<=190
def q6c(xs:List PV):Prop:=nrfs xs=true/\deps xs<=190
def cEqG(neg:Bool):F2:=fun x y S Q=>match x,y with
 |.tup xs,.tup ys=>(okEq (.tup xs)/\okEq (.tup ys))/\Q (.bl (neg ^^ eqBs xs ys)) S
 |.ref m,.ref n=>match q3i S m,q3i S n with
  |some xs,some ys=>(q6c xs/\q6c ys)/\Q (.bl (neg ^^ eqBs xs ys)) S
  |_,_=>False
 |.ref _,_=>False
 |_,.ref _=>False
 |x,y=>(nrf x=true/\nrf y=true)/\Q (.bl (neg ^^ eqB x y)) S
def cEq:F2:=cEqG false
def cNe:F2:=cEqG true
theorem y3i:∀{xs ys:List PV},xs.length≠ys.length->eqBs xs ys=false:=fun {xs ys} h=>by
 cases e:eqBs xs ys with
 |false=>rfl
 |true=>exact absurd (z7y e) h
theorem y3j{xs ys:List PV}(h:xs.length=ys.length):eqBs xs ys=(List.range xs.length).all (fun j=>eqB (xs.getD j .non) (ys.getD j .non)):=by
 rw[q5t,<-h,Nat.min_self];simp
section
variable{X:Cx}
theorem q5m(b:Bool):(false ^^ b)=b:=by cases b<;>rfl
theorem q5l(b:Bool):(true ^^ b)=!b:=by cases b<;>rfl
theorem q9i{pins:List (Addr×Obj)}{s:Shared}{σ:St}{H:Hp}{φ:List Addr}{S:q0i}{Q0:VC}{Q:VK}{b b':Bool}(I:Inv X pins σ H s)(k:KE X.K φ H Q0 Q)(R:Rel X.K φ S H)(q:Q0 (.bl b) S)(e:b=b'):EP X pins σ Q (.bool b') s:=by
 subst e
 exact⟨.bl b,H,I,rfl,k _ S φ H _ q (List.prefix_refl _) (.refl _) R rfl⟩
theorem y3f{x y:PV}(h:∀xs ys,x=.tup xs->y=.tup ys->False)(d:Nat):∀xs ys,x=.tup xs->y=.tup ys->dep x<=d:=fun xs ys a b=>(h xs ys a b).elim
theorem q1d(hu:X.A.units+200<cLine):OpR X (compareOp .Eq) (q5d X.K cEq):=by
 rintro pins s σ H x y v u Q I rx ry ⟨φ,S,px,py,Q0,R,hx,hy,h,k⟩
 unfold cEq cEqG at h
 split at h
 ·rename_i xs ys
  obtain⟨⟨o1,o2⟩,h⟩:=h
  rw[q5m]at h
  exact y8z I 190 X.A _ _ x y v u o1.1 o2.1 (fun _ _ _ _=>o1.2) (by omega) hx hy rx ry X.prog X.w X.xe _ (q9i I k R h (by simp only[eqB]))
 ·rename_i m n
  split at h
  ·rename_i xs ys e1 e2
   obtain⟨⟨o1,o2⟩,h⟩:=h
   rw[q5m]at h
   obtain⟨a,rfl,qa⟩:=hx
   obtain⟨b,rfl,qb⟩:=hy
   obtain⟨vs,sa,ra⟩:=R.seq qa e1
   obtain⟨ws,sb,rb⟩:=R.seq qb e2
   cases rx
   cases ry
   obtain⟨its,r1,p1,_⟩:=I.list sa
   obtain⟨its2,r2,p2,_⟩:=I.list sb
   by_cases hl:xs.length=ys.length
   ·rw[y3j hl]at h
    have hz:its.toArray.size=its2.toArray.size:=by rw[List.size_toArray,List.size_toArray,<-r1.length,<-r2.length,<-ra.length,<-rb.length,hl]
    refine SeqAt.eq_listAt (e:=fun j=>eqB (xs.getD j .non) (ys.getD j .non)) p1.isList p2.isList hz (by omega) (fun j h1 h2=>?_) (q9i I k R h (by rw[List.size_toArray,<-r1.length,<-ra.length]))
    have hj1:j<xs.length:=by rw[ra.length,r1.length];simpa using h1
    have hj2:j<ys.length:=by omega
    have e1:xs[j]?=some xs[j]:=List.getElem?_eq_getElem hj1
    have e2:ys[j]?=some ys[j]:=List.getElem?_eq_getElem hj2
    obtain⟨v1,g1,q1⟩:=ra.get e1
    obtain⟨v2,g2,q2⟩:=rb.get e2
    rw[getD_some e1,getD_some e2]
    have hdd:=q6g e1
    have:=o1.2
    exact z4q I 190 X.A.in1 _ _ v1 v2 _ _ (q2j o1.1 e1) (q2j o2.1 e2) (by omega) (by rw[q5s];omega) q1 q2 (q5o r1 h1 g1) (q5o r2 h2 g2)
   ·rw[y3i hl]at h
    have hz:(its.toArray.size != its2.toArray.size)=true:=by rw[List.size_toArray,List.size_toArray,<-r1.length,<-r2.length,<-ra.length,<-rb.length];simpa using hl
    exact SeqAt.eq_list_lengthsAt p1.isList p2.isList hz (by omega) (q9i I k R h rfl)
  ·exact h.elim
 ·exact h.elim
 ·exact h.elim
 ·rename_i h1 h2 h3 h4
  obtain⟨⟨o1,o2⟩,h⟩:=h
  rw[q5m]at h
  exact y8z I 0 X.A _ _ x y v u o1 o2 (y3f (by assumption) _) (by omega) hx hy rx ry X.prog X.w X.xe _ (q9i I k R h rfl)
theorem q8z(hu:X.A.units+200<cLine):OpR X (compareOp .NotEq) (q5d X.K cNe):=by
 rintro pins s σ H x y v u Q I rx ry ⟨φ,S,px,py,Q0,R,hx,hy,h,k⟩
 unfold cNe cEqG at h
 split at h
 ·rename_i xs ys
  obtain⟨⟨o1,o2⟩,h⟩:=h
  rw[q5l]at h
  exact z7m I 190 X.A _ _ x y v u o1.1 o2.1 (fun _ _ _ _=>o1.2) (by omega) hx hy rx ry X.prog X.w X.xe _ (q9i I k R h (by simp only[eqB]))
 ·rename_i m n
  split at h
  ·rename_i xs ys e1 e2
   obtain⟨⟨o1,o2⟩,h⟩:=h
   rw[q5l]at h
   obtain⟨a,rfl,qa⟩:=hx
   obtain⟨b,rfl,qb⟩:=hy
   obtain⟨vs,sa,ra⟩:=R.seq qa e1
   obtain⟨ws,sb,rb⟩:=R.seq qb e2
   cases rx
   cases ry
   obtain⟨its,r1,p1,_⟩:=I.list sa
   obtain⟨its2,r2,p2,_⟩:=I.list sb
   by_cases hl:xs.length=ys.length
   ·rw[y3j hl]at h
    have hz:its.toArray.size=its2.toArray.size:=by rw[List.size_toArray,List.size_toArray,<-r1.length,<-r2.length,<-ra.length,<-rb.length,hl]
    refine SeqAt.RcNeAt.lists (e:=fun j=>eqB (xs.getD j .non) (ys.getD j .non)) p1.isList p2.isList hz (by omega) (fun j h1 h2=>?_) X.prog X.w X.xe _ (q9i I k R h (by rw[List.size_toArray,<-r1.length,<-ra.length]))
    have hj1:j<xs.length:=by rw[ra.length,r1.length];simpa using h1
    have hj2:j<ys.length:=by omega
    have e1:xs[j]?=some xs[j]:=List.getElem?_eq_getElem hj1
    have e2:ys[j]?=some ys[j]:=List.getElem?_eq_getElem hj2
    obtain⟨v1,g1,q1⟩:=ra.get e1
    obtain⟨v2,g2,q2⟩:=rb.get e2
    rw[getD_some e1,getD_some e2]
    have hdd:=q6g e1
    have:=o1.2
    exact z4q I 190 X.A.in1 _ _ v1 v2 _ _ (q2j o1.1 e1) (q2j o2.1 e2) (by omega) (by rw[q5s];omega) q1 q2 (q5o r1 h1 g1) (q5o r2 h2 g2)
   ·rw[y3i hl]at h
    have hz:(its.toArray.size != its2.toArray.size)=true:=by rw[List.size_toArray,List.size_toArray,<-r1.length,<-r2.length,<-ra.length,<-rb.length];simpa using hl
    exact SeqAt.RcNeAt.lists_lengths p1.isList p2.isList hz (by omega) X.prog X.w X.xe _ (q9i I k R h rfl)
  ·exact h.elim
 ·exact h.elim
 ·exact h.elim
 ·rename_i h1 h2 h3 h4
  obtain⟨⟨o1,o2⟩,h⟩:=h
  rw[q5l]at h
  exact z7m I 0 X.A _ _ x y v u o1 o2 (y3f (by assumption) _) (by omega) hx hy rx ry X.prog X.w X.xe _ (q9i I k R h rfl)
def inS(i j:Str):Bool:=!(Builtin.Str.occurrences j i 0 j.length 1).isEmpty
def cInG(neg:Bool):F2:=fun x y S Q=>match x,y with
 |.str i,.str j=>Q (.bl (neg ^^ inS i j)) S
 |x,.tup ys=>(okEq x/\q6c ys)/\Q (.bl (neg ^^ ys.any fun y=>eqB y x)) S
 |x,.ref n=>match q3i S n with
  |some ys=>(okEq x/\q6c ys)/\Q (.bl (neg ^^ ys.any fun y=>eqB y x)) S
  |none=>False
 |_,_=>False
def cIn:F2:=cInG false
def z4x:F2:=cInG true
open Classical in
theorem q9t{pins:List (Addr×Obj)}{s:Shared}{σ:St}{H:Hp}{φ:List Addr}(hu:X.A.units+200<cLine)(I:Inv X pins σ H s){x:PV}{x':V}{v:Value}{ys:List PV}{vs:List V}{its:List Value}(ox:okEq x)(oy:q6c ys)(rx:RV X.K H φ x x')(qx:RelV x' v)(ry:RVs X.K H φ ys vs)(r:Vals vs its) :
  ∃e:Value->Bool,(∀u,u∈its.toArray->SeqAt.EqAt X.A.in1 s u v (e u))/\its.toArray.any e=ys.any fun y=>eqB y x:=by
 have key:∀(j:Nat) u y,its[j]?=some u->ys[j]?=some y->∃y',RV X.K H φ y y'/\RelV y' u:=fun j u y h1 h2=>by
  obtain⟨y',g,q⟩:=ry.get h2
  obtain⟨u',g',q'⟩:=r.get g
  rw[h1]at g'
  cases g'
  exact⟨y',q,q'⟩
 refine⟨fun u=>decide (∃(j:Nat)(y:PV),its[j]?=some u/\ys[j]?=some y/\eqB y x=true),?_,?_⟩
 ·intro u hu'
  have hm:u∈its:=by simpa using hu'
  obtain⟨j,hj,e⟩:=List.mem_iff_getElem.mp hm
  have hjy:j<ys.length:=by rw[ry.length,r.length];exact hj
  have e1:its[j]?=some u:=by rw[List.getElem?_eq_getElem hj,e]
  have e2:ys[j]?=some ys[j]:=List.getElem?_eq_getElem hjy
  obtain⟨y',q,q'⟩:=key j u _ e1 e2
  have hdd:=q6g e2
  have o2:=oy.2
  have base:=z4q I 190 X.A.in1 _ x y' x' u v (q2j oy.1 e2) ox.1 (by omega) (by rw[q5s];omega) q rx q' qx
  have:decide (∃(j:Nat)(y:PV),its[j]?=some u/\ys[j]?=some y/\eqB y x=true)=eqB ys[j] x:=by
   cases hb:eqB ys[j] x with
   |true=>exact decide_eq_true ⟨j,_,e1,e2,hb⟩
   |false=>
    refine decide_eq_false ?_
    rintro⟨i,y,h1,h2,h3⟩
    obtain⟨y2,g,g'⟩:=key i u y h1 h2
    have:=g'.inj q'
    subst this
    have:=RV.inj I _ _ _ (q2j oy.1 h2) (q2j oy.1 e2) g q
    rw[this,hb]at h3
    cases h3
  dsimp only
  rw[this]
  exact base
 ·rw[List.any_toArray]
  refine z8m (by rw[<-r.length,ry.length]) fun j u y h1 h2=>?_
  obtain⟨y',q,q'⟩:=key j u y h1 h2
  cases hb:eqB y x with
  |true=>exact decide_eq_true ⟨j,_,h1,h2,hb⟩
  |false=>
   refine decide_eq_false ?_
   rintro⟨i,z,g1,g2,g3⟩
   obtain⟨y2,g,g'⟩:=key i u z g1 g2
   have:=g'.inj q'
   subst this
   have:=RV.inj I _ _ _ (q2j oy.1 g2) (q2j oy.1 h2) g q
   rw[this,hb]at g3
   cases g3
theorem q9a(hu:X.A.units+200<cLine):OpR X (compareOp .In) (q5d X.K cIn):=by
 rintro pins s σ H x y v u Q I rx ry ⟨φ,S,px,py,Q0,R,hx,hy,h,k⟩
 unfold cIn cInG at h
 split at h
 ·rename_i i j
  rw[q5m]at h
  exact y2a pins s σ H x y v u Q I rx ry ⟨i,j,hx,hy,k _ S φ H _ h (List.prefix_refl _) (.refl _) R rfl⟩
 ·rename_i ys _
  obtain⟨⟨o1,o2⟩,h⟩:=h
  rw[q5m]at h
  obtain⟨a,vs,rfl,sa,ra⟩:=hy
  cases ry
  obtain⟨its,r1,p1,_⟩:=I.tuple sa
  obtain⟨e,h1,h2⟩:=q9t hu I o1 o2 hx rx ra r1
  exact SeqAt.in_tupleAt e p1 h1 (q9i I k R h (by rw[h2]))
 ·rename_i n _
  split at h
  ·rename_i ys es
   obtain⟨⟨o1,o2⟩,h⟩:=h
   rw[q5m]at h
   obtain⟨a,rfl,qa⟩:=hy
   cases ry
   obtain⟨vs,sa,ra⟩:=R.seq qa es
   obtain⟨its,r1,p1,_⟩:=I.list sa
   obtain⟨e,h1,h2⟩:=q9t hu I o1 o2 hx rx ra r1
   exact SeqAt.in_listAt e p1.isList h1 (q9i I k R h (by rw[h2]))
  ·exact h.elim
 ·exact h.elim
theorem y1x(hu:X.A.units+200<cLine):OpR X (compareOp .NotIn) (q5d X.K z4x):=by
 rintro pins s σ H x y v u Q I rx ry ⟨φ,S,px,py,Q0,R,hx,hy,h,k⟩
 unfold z4x cInG at h
 split at h
 ·rename_i i j
  rw[q5l]at h
  exact z3r pins s σ H x y v u Q I rx ry ⟨i,j,hx,hy,k _ S φ H _ h (List.prefix_refl _) (.refl _) R rfl⟩
 ·rename_i ys _
  obtain⟨⟨o1,o2⟩,h⟩:=h
  rw[q5l]at h
  obtain⟨a,vs,rfl,sa,ra⟩:=hy
  cases ry
  obtain⟨its,r1,p1,_⟩:=I.tuple sa
  obtain⟨e,h1,h2⟩:=q9t hu I o1 o2 hx rx ra r1
  exact SeqAt.notIn_tupleAt e p1 h1 (q9i I k R h (by rw[h2]))
 ·rename_i n _
  split at h
  ·rename_i ys es
   obtain⟨⟨o1,o2⟩,h⟩:=h
   rw[q5l]at h
   obtain⟨a,rfl,qa⟩:=hy
   cases ry
   obtain⟨vs,sa,ra⟩:=R.seq qa es
   obtain⟨its,r1,p1,_⟩:=I.list sa
   obtain⟨e,h1,h2⟩:=q9t hu I o1 o2 hx rx ra r1
   exact SeqAt.notIn_listAt e p1.isList h1 (q9i I k R h (by rw[h2]))
  ·exact h.elim
 ·exact h.elim
def z4l:PV->Bool
 |.non=>true
 |_=>false
def cIs:F2:=fun x y S Q=>match y with
 |.non=>Q (.bl (z4l x)) S
 |_=>False
def q9e:F2:=fun x y S Q=>match x,y with
 |x,.non=>Q (.bl (!z4l x)) S
 |.bl a,.bl b=>Q (.bl (!decide (a=b))) S
 |_,_=>False
theorem z4k{K:Frag}{H:Hp}{φ:List Addr}{x:PV}{x':V}(r:RV K H φ x x'):decide (x'=.non)=z4l x:=by
 cases x with
 |non=>cases r;rfl
 |bl b=>cases r;exact decide_eq_false (fun z=>nomatch z)
 |int b=>cases r;exact decide_eq_false (fun z=>nomatch z)
 |str b=>cases r;exact decide_eq_false (fun z=>nomatch z)
 |ty b=>cases r;exact decide_eq_false (fun z=>nomatch z)
 |tup b=>obtain⟨a,vs,rfl,_⟩:=r;exact decide_eq_false (fun z=>nomatch z)
 |frl b=>obtain⟨a,vs,rfl,_⟩:=r;exact decide_eq_false (fun z=>nomatch z)
 |ref b=>obtain⟨a,rfl,_⟩:=r;exact decide_eq_false (fun z=>nomatch z)
 |exc b=>obtain⟨a,rfl,_⟩:=r;exact decide_eq_false (fun z=>nomatch z)
theorem x6m:OpR X (compareOp .Is) (q5d X.K cIs):=by
 rintro pins s σ H x y v u Q I rx ry ⟨φ,S,px,py,Q0,R,hx,hy,h,k⟩
 unfold cIs at h
 split at h
 ·exact x6s pins s σ H x y v u Q I rx ry ⟨hy,k _ S φ H _ h (List.prefix_refl _) (.refl _) R (by rw[z4k hx];rfl)⟩
 ·exact h.elim
theorem q8e:OpR X (compareOp .IsNot) (q5d X.K q9e):=by
 rintro pins s σ H x y v u Q I rx ry ⟨φ,S,px,py,Q0,R,hx,hy,h,k⟩
 unfold q9e at h
 split at h
 ·exact x1u pins s σ H x y v u Q I rx ry ⟨hy,k _ S φ H _ h (List.prefix_refl _) (.refl _) R (by rw[z4k hx];rfl)⟩
 ·exact y1z pins s σ H x y v u Q I rx ry ⟨_,_,hx,hy,k _ S φ H _ h (List.prefix_refl _) (.refl _) R rfl⟩
 ·exact h.elim
end
theorem z6x{K:Frag}{H:Hp}{φ:List Addr}{xs:List PV}{vs:List V}{i:Int}{v:PV}(r:RVs K H φ xs vs)(e:atI xs i=some v):∃x,atI vs i=some x/\RV K H φ v x:=by
 unfold atI at e ⊢
 rw[<-r.length]
 cases h:ixN xs.length i with
 |none=>rw[h]at e;cases e
 |some j=>
  rw[h]at e
  obtain⟨x,h1,h2⟩:=r.get (i:=j) e
  exact⟨x,h1,h2⟩
def valP(kvs:List (Key×PV))(k:Key):Option PV:=(kvs.find? fun kv=>decide (kv.1=k)).map (·.2)
def putP(kvs:List (Key×PV))(k:Key)(v:PV):List (Key×PV):=
 if kvs.any (fun kv=>decide (kv.1=k))then kvs.map fun kv=>if kv.1=k then(kv.1,v)else kv else kvs++[(k,v)]
def z2u:PV->Option Key
 |.int i=>some (.inl i)
 |.str x=>some (.inr x)
 |_=>none
theorem z2t{K:Frag}{H:Hp}{φ:List Addr}{y:PV}{y':V}{k:Key}(r:RV K H φ y y')(e:z2u y=some k):y'=kV k:=by
 cases y with
 |int i=>cases e;exact r
 |str i=>cases e;exact r
 |_=>cases e
theorem RKs.val{K:Frag}{H:Hp}{φ:List Addr}{xs:List (Key×PV)}{ys:List (Key×V)}(h:RKs K H φ xs ys)(k:Key):(∀v,valP xs k=some v->∃x,valV ys k=some x/\RV K H φ v x)/\(valP xs k=none->valV ys k=none):=by
 unfold RKs at h
 induction h with
 |nil=>exact⟨fun v e=>by simp[valP]at e,fun _=>rfl⟩
 |@cons p q ps qs hd t ih=>
  by_cases e:p.1=k
  ·have e1:valP (p::ps) k=some p.2:=by simp[valP,List.find?_cons,e]
   rw[e1,q9j (hd.1.symm.trans e)]
   exact⟨fun v z=>by cases z;exact⟨_,rfl,hd.2⟩,fun z=>by cases z⟩
  ·have e1:valP (p::ps) k=valP ps k:=by simp[valP,List.find?_cons,e]
   rw[e1,q9k (fun z=>e (hd.1.trans z))]
   exact ih
theorem RKs.any{K:Frag}{H:Hp}{φ:List Addr}{xs:List (Key×PV)}{ys:List (Key×V)}(h:RKs K H φ xs ys)(k:Key):(xs.any fun kv=>decide (kv.1=k))=ys.any fun kv=>decide (kv.1=k):=by
 unfold RKs at h
 induction h with
 |nil=>rfl
 |@cons p q ps qs hd t ih=>rw[List.any_cons,List.any_cons,ih,hd.1]
theorem RKs.repl{K:Frag}{H:Hp}{φ:List Addr}{xs:List (Key×PV)}{ys:List (Key×V)}(h:RKs K H φ xs ys)(k:Key){v:PV}{x:V}(r:RV K H φ v x):RKs K H φ (xs.map fun kv=>if kv.1=k then(kv.1,v)else kv) (ys.map fun kv=>if kv.1=k then(kv.1,x)else kv):=by
 unfold RKs at h ⊢
 induction h with
 |nil=>exact .nil
 |@cons p q ps qs hd t ih=>
  rw[List.map_cons,List.map_cons]
  refine .cons ?_ ih
  by_cases e:p.1=k
  ·rw[if_pos e,if_pos (hd.1.symm.trans e)]
   exact⟨hd.1,r⟩
  ·rw[if_neg e,if_neg (fun z=>e (hd.1.trans z))]
   exact hd
theorem RKs.snoc{K:Frag}{H:Hp}{φ:List Addr}{xs:List (Key×PV)}{ys:List (Key×V)}(h:RKs K H φ xs ys)(k:Key){v:PV}{x:V}(r:RV K H φ v x):RKs K H φ (xs++[(k,v)]) (ys++[(k,x)]):=by
 unfold RKs at h ⊢
 induction h with
 |nil=>exact .cons ⟨rfl,r⟩ .nil
 |cons hd t ih=>exact .cons hd ih
theorem RKs.put{K:Frag}{H:Hp}{φ:List Addr}{xs:List (Key×PV)}{ys:List (Key×V)}(h:RKs K H φ xs ys)(k:Key){v:PV}{x:V}(r:RV K H φ v x):RKs K H φ (putP xs k v) (putK ys k x):=by
 unfold putP putK
 rw[h.any]
 split
 ·exact h.repl k r
 ·exact h.snoc k r
theorem RKs.length{K:Frag}{H:Hp}{φ:List Addr}{xs:List (Key×PV)}{ys:List (Key×V)}(h:RKs K H φ xs ys):xs.length=ys.length:=Paired.length h
def bIx:F2:=fun x y S Q=>match x,y with
 |.tup xs,.int i=>match atI xs i with
  |some v=>Q v S
  |none=>False
 |.str z,.int i=>z.length<=sizeLine/\match atI z.cps.toList i with
  |some c=>Q (.str ⟨#[c]⟩) S
  |none=>False
 |.frl xs,.int i=>match atI xs i with
  |some v=>Q v S
  |none=>False
 |.ref n,y=>match S[n]? with
  |some (.lst xs)=>match y with
   |.int i=>match atI xs i with
    |some v=>Q v S
    |none=>False
   |_=>False
  |some (.dK kvs)=>match z2u y with
   |some k=>match valP kvs k with
    |some v=>Q v S
    |none=>False
   |none=>False
  |_=>False
 |_,_=>False
theorem x2t{X:Cx}(hu:X.A.units+200<cLine):IxR X (fun x y H Q=>∃a v,x=.ref a/\DGet H a y (some v)/\Q v H):=by
 intro value slice pins s σ H x y v u Q I rx ry h hs
 obtain⟨a,w,rfl,g,q⟩:=h
 cases rx
 exact PyProof.Rows.tail_any (z6t I g) PySem.F.slot_dict_getitem.lookup (y3w (by omega) I g ry fun w' s3 I3 rw'=>⟨w,H,I3,rw',q⟩) hs
section
variable{X:Cx}{G:GX}{pos:Pos}
theorem x2s(hu:X.A.units+200<cLine):IxR X (q5d X.K bIx):=by
 rintro value slice pins s σ H x y v u Q I rx ry ⟨φ,S,px,py,Q0,R,hx,hy,h,k⟩ hs
 unfold bIx at h
 split at h
 ·rename_i xs i
  split at h
  ·rename_i w e
   obtain⟨a,vs,rfl,sa,ra⟩:=hx
   cases hy
   obtain⟨w',e',r'⟩:=z6x ra e
   exact x8c value slice pins s σ H _ _ v u Q I rx ry ⟨a,vs,i,w',rfl,rfl,sa,e',k _ S φ H _ h (List.prefix_refl _) (.refl _) R r'⟩ hs
  ·exact h.elim
 ·rename_i z i
  obtain⟨hz,h⟩:=h
  split at h
  ·rename_i c e
   cases hx
   cases hy
   exact x8d value slice pins s σ H _ _ v u Q I rx ry ⟨z,i,c,rfl,rfl,hz,e,k _ S φ H _ h (List.prefix_refl _) (.refl _) R rfl⟩ hs
  ·exact h.elim
 ·rename_i xs i
  split at h
  ·rename_i w e
   obtain⟨a,vs,rfl,sa,ra⟩:=hx
   cases hy
   obtain⟨w',e',r'⟩:=z6x ra e
   exact y3b value slice pins s σ H _ _ v u Q I rx ry ⟨a,vs,i,w',rfl,rfl,sa.sq,e',k _ S φ H _ h (List.prefix_refl _) (.refl _) R r'⟩ hs
  ·exact h.elim
 ·rename_i n
  obtain⟨a,rfl,qa⟩:=hx
  split at h
  ·rename_i xs es
   split at h
   ·rename_i i
    split at h
    ·rename_i w e
     cases hy
     obtain⟨vs,sa,ra⟩:=R.obj n a _ qa es
     obtain⟨w',e',r'⟩:=z6x ra e
     exact y3b value slice pins s σ H _ _ v u Q I rx ry ⟨a,vs,i,w',rfl,rfl,SqL.of sa,e',k _ S φ H _ h (List.prefix_refl _) (.refl _) R r'⟩ hs
    ·exact h.elim
   ·exact h.elim
  ·rename_i kvs es
   split at h
   ·rename_i kk ek
    split at h
    ·rename_i w e
     have hk:=z2t hy ek
     subst hk
     obtain⟨ws,sa,ra⟩:=R.obj n a _ qa es
     obtain⟨w',e',r'⟩:=(ra.val kk).1 w e
     refine x2t hu value slice pins s σ H _ _ v u Q I rx ry ⟨a,w',rfl,?_,k _ S φ H _ h (List.prefix_refl _) (.refl _) R r'⟩ hs
     rw[<-e']
     exact DGet.k sa
    ·exact h.elim
   ·exact h.elim
  ·exact h.elim
 ·exact h.elim
variable{a b:Expr}{wa wb:WE}
theorem q0k(hu:X.A.units+200<cLine)(ha:SimE X G a wa)(hb:SimE X G b wb)(hs:y4n b:=by exact fun _ _=>rfl):SimE X G (.Subscript a b pos) (wBin bIx wa wb):=(x9x (x2s hu) ha hb hs).imp fun _ _ _ h=>q9r h
def cutP{α:Type}(xs:List α)(lo hi:Option Int):List α:=(xs.drop (HT.sIx xs.length 0 lo)).take (HT.sIx xs.length xs.length hi-HT.sIx xs.length 0 lo)
theorem z6u{K:Frag}{H:Hp}{φ:List Addr}{xs:List PV}{vs:List V}(lo hi:Option Int)(r:RVs K H φ xs vs):RVs K H φ (cutP xs lo hi) (cutV vs lo hi):=by
 unfold cutP cutV
 rw[<-r.length]
 exact(r.drop _).take _
abbrev F3:=PV->Option Int->Option Int->q0i->VC->Prop
def bSl:F3:=fun x lo hi S Q=>match x with
 |.str z=>z.length<=sizeLine/\Q (.str (Txt.slice z lo hi)) S
 |.tup xs=>¬(HT.sIx xs.length 0 lo=0/\HT.sIx xs.length xs.length hi=xs.length)/\Q (.tup (cutP xs lo hi)) S
 |.frl xs=>Q (.ref S.length) (S++[.lst (cutP xs lo hi)])
 |.ref n=>match q3i S n with
  |some xs=>Q (.ref S.length) (S++[.lst (cutP xs lo hi)])
  |none=>False
 |_=>False
def x7d(K:Frag)(f:F3):V->Option Int->Option Int->Hp->VK->Prop:=fun x' lo hi H Q=>∃φ S x Q0,Rel K φ S H/\RV K H φ x x'/\f x lo hi S Q0/\KE K φ H Q0 Q
theorem sls:SlR X (x7d X.K bSl):=by
 rintro pins s σ H x v vl vu lo hi sl Q I rx hs pl pu ⟨φ,S,px,Q0,R,hx,h,k⟩
 unfold bSl at h
 split at h
 ·rename_i z
  cases hx
  exact x4w pins s σ H _ v vl vu lo hi sl Q I rx hs pl pu ⟨z,rfl,h.1,k _ S φ H _ h.2 (List.prefix_refl _) (.refl _) R rfl⟩
 ·rename_i xs
  obtain⟨a,vs,rfl,sa,ra⟩:=hx
  exact x4v pins s σ H _ v vl vu lo hi sl Q I rx hs pl pu ⟨a,vs,rfl,sa,by rw[<-ra.length];exact h.1,k.tup h.2 R (z6u lo hi ra)⟩
 ·rename_i xs
  obtain⟨a,vs,rfl,sa,ra⟩:=hx
  exact y0q pins s σ H _ v vl vu lo hi sl Q I rx hs pl pu ⟨a,vs,rfl,sa.sq,k.lst h R (z6u lo hi ra)⟩
 ·rename_i n
  split at h
  ·rename_i xs es
   obtain⟨a,rfl,qa⟩:=hx
   obtain⟨vs,sa,ra⟩:=R.seq qa es
   exact y0q pins s σ H _ v vl vu lo hi sl Q I rx hs pl pu ⟨a,vs,rfl,sa,k.lst h R (z6u lo hi ra)⟩
  ·exact h.elim
 ·exact h.elim
abbrev WO:=Loc->q0i->EK->(Option Int->q0i->Prop)->Prop
def KO(K:Frag)(φ:List Addr)(H:Hp)(Q0:Option Int->q0i->Prop)(Q:Option Int->Hp->Prop):Prop:=∀v S' φ' H',Q0 v S'->φ <+: φ'->Mono H H'->Rel K φ' S' H'->Q v H'
def w0i(K:Frag)(G:GX)(w:WO):TO:=fun σV H Q=>∃φ σ S Q0,LRel K G H φ σ σV/\Rel K φ S H/\w σ S G.ek Q0/\KO K φ H Q0 Q
def SimO(X:Cx)(G:GX)(e:Option Expr)(w:WO):Prop:=PO X e (w0i X.K G w)
theorem PO.imp{e:Option Expr}{t t':TO}(h:PO X e t)(i:∀σ H Q,t' σ H Q->t σ H Q):PO X e t':=fun pins s σ H Q I q=>h pins s σ H Q I (i σ H Q q)
def q5y:WO:=fun _ S _ Q=>Q none S
def z1s(w:WE):WO:=fun σ S E Q=>w σ S E fun x S1=>match x with
 |.int i=>Q (some i) S1
 |_=>False
theorem q7z:SimO X G none q5y:=PO.imp x1i fun σV H Q hh1=>by obtain⟨φ,σ,S,Q0,L,R,h,k⟩:=hh1;exact(k none S φ H h (List.prefix_refl _) (.refl _) R)
theorem q7y{e:Expr}{w:WE}(h:SimE X G e w):SimO X G (some e) (z1s w):=
 PO.imp (x1h h) fun σV H Q hh1=>by obtain⟨φ,σ,S,Q0,L,R,h,k⟩:=hh1;exact(⟨φ,σ,S,_,L,R,h,fun v S1 φ1 H1 x q p1 m1 R1 r1=>by
  cases v with
  |int i=>exact ⟨i,r1,k _ S1 φ1 H1 q p1 m1 R1⟩
  |_=>exact q.elim⟩)
def wSl(w:WE)(wl wh:WO):WE:=fun σ S E Q=>w σ S E fun x S1=>wl σ S1 E fun lo S2=>wh σ S2 E fun hi S3=>bSl x lo hi S3 Q
theorem q7v{e:Expr}{w:WE}{lo hi:Option Expr}{wl wh:WO}{p2:Pos}(he:SimE X G e w)(hl:SimO X G lo wl)(hh:SimO X G hi wh):SimE X G (.Subscript e (.Slice lo hi none p2) pos) (wSl w wl wh):=
 (y6m sls he hl hh).imp fun σV H Q hh1=>by obtain⟨φ,σ,S,Q0,L,R,h,k⟩:=hh1;exact(⟨φ,σ,S,_,L,R,h,fun v S1 φ1 H1 x q p1 m1 R1 r1=>
  ⟨φ1,σ,S1,_,L.mono m1 p1,R1,q,fun l S2 φ2 H2 q2 p2 m2 R2=>
   ⟨φ2,σ,S2,_,(L.mono m1 p1).mono m2 p2,R2,q2,fun u S3 φ3 H3 q3 p3 m3 R3=>
    ⟨φ3,S3,v,Q0,R3,RV.mono m3 p3 _ _ (RV.mono m2 p2 _ _ r1),q3,k.up ((p1.trans p2).trans p3) ((m1.trans m2).trans m3)⟩⟩⟩⟩)
abbrev FL:=List PV->q0i->VC->Prop
def z0z(K:Frag)(f:FL):List V->Hp->VK->Prop:=fun xs' H Q=>∃φ S xs Q0,Rel K φ S H/\RVs K H φ xs xs'/\f xs S Q0/\KE K φ H Q0 Q
def wCB(f:FL)(wa:WA):WE:=fun σ S E Q=>wa σ S E fun xs S1=>f xs S1 Q
theorem y2m{f:FL}{wa:WA}{σV:St}{H:Hp}{Q:VK}(h:q7n X.K G (wCB f wa) σV H Q):tCB (z0z X.K f) (x7g X.K G wa) σV H Q:=by
 obtain⟨φ,σ,S,Q0,L,R,h,k⟩:=h
 exact⟨φ,σ,S,_,L,R,h,fun v S1 φ1 H1 x q p1 m1 R1 r1=>⟨φ1,S1,v,Q0,R1,r1,q,k.up p1 m1⟩⟩
theorem q1b{f:FL}{x:Str}{id:String}{p:Pos}{e:Expr}{es:List Expr}{wa:WA}(hc:q6k X (.builtin id) (z0z X.K f))(hm:X.mg x=none)(hv:bootBuiltins x=some (.builtin id))(ha:SimA X G (e::es) wa)(hg:Gl X x:=by rfl)(hn:x≠ "__name__" :=by decide)(hdb:(x==("__debug__" : Str))=false:=by decide)
  (he:starEach (e::es) X.env=(false,eval e X.env)::starEach es X.env:=by rfl) (hpl:(backTo pos (starEach es X.env)).any (·.1)=false:=by rfl):SimE X G (.Call (.Name x p) (e::es) [] pos) (wCB f wa):=
 (y6p hc hg hm hv ha hn hdb he hpl).imp fun _ _ _ h=>y2m h
theorem q3j{f:FL}{x:Str}{T:String}{p:Pos}{e:Expr}{es:List Expr}{wa:WA}(hc:q6k X (.type T) (z0z X.K f))(hm:X.mg x=none)(hv:bootBuiltins x=some (.type T))(ha:SimA X G (e::es) wa)(hg:Gl X x:=by rfl)(hn:x≠ "__name__" :=by decide)(hdb:(x==("__debug__" : Str))=false:=by decide)
  (he:starEach (e::es) X.env=(false,eval e X.env)::starEach es X.env:=by rfl) (hpl:(backTo pos (starEach es X.env)).any (·.1)=false:=by rfl):SimE X G (.Call (.Name x p) (e::es) [] pos) (wCB f wa):=
 (y1r hc hg hm hv ha hn hdb he hpl).imp fun _ _ _ h=>y2m h
theorem q2d{K:Frag}{H:Hp}{φ:List Addr}{x:PV}{vs:List V}(r:RVs K H φ [x] vs):∃v,vs=[v]/\RV K H φ x v:=by
 obtain⟨y,ys,rfl,r1,r2⟩:=r
 rw[show ys=[]from r2]
 exact⟨y,rfl,r1⟩
theorem z5m{K:Frag}{H:Hp}{φ:List Addr}{x y:PV}{vs:List V}(r:RVs K H φ [x,y] vs):∃v w,vs=[v,w]/\RV K H φ x v/\RV K H φ y w:=by
 obtain⟨a,as,rfl,r1,r2⟩:=r
 obtain⟨b,rfl,r3⟩:=q2d r2
 exact⟨a,b,rfl,r1,r3⟩
def fLen:FL:=fun xs S Q=>match xs with
 |[.str z]=>z.length<=sizeLine/\Q (.int z.length) S
 |[.tup xs]=>Q (.int xs.length) S
 |[.frl xs]=>Q (.int xs.length) S
 |[.ref n]=>match q3i S n with
  |some xs=>Q (.int xs.length) S
  |none=>False
 |_=>False
theorem q1j:q6k X (.builtin "len") (z0z X.K fLen):=by
 rintro pins s σ H xs us Q I r ⟨φ,S,pxs,Q0,R,hx,h,k⟩
 unfold fLen at h
 split at h
 ·rename_i z
  obtain⟨v,rfl,r1⟩:=q2d hx
  cases r1
  exact z4v pins s σ H _ us Q I r ⟨z,rfl,h.1,k _ S φ H _ h.2 (List.prefix_refl _) (.refl _) R rfl⟩
 ·rename_i ys
  obtain⟨v,rfl,a,vs,rfl,sa,ra⟩:=q2d hx
  exact q6w pins s σ H _ us Q I r ⟨a,vs,rfl,.inr sa,k _ S φ H _ h (List.prefix_refl _) (.refl _) R (by rw[<-ra.length];rfl)⟩
 ·rename_i ys
  obtain⟨v,rfl,a,vs,rfl,sa,ra⟩:=q2d hx
  exact q6w pins s σ H _ us Q I r ⟨a,vs,rfl,.inl sa.sq,k _ S φ H _ h (List.prefix_refl _) (.refl _) R (by rw[<-ra.length];rfl)⟩
 ·rename_i n
  split at h
  ·rename_i ys es
   obtain⟨v,rfl,a,rfl,qa⟩:=q2d hx
   obtain⟨vs,sa,ra⟩:=R.seq qa es
   exact q6w pins s σ H _ us Q I r ⟨a,vs,rfl,.inl sa,k _ S φ H _ h (List.prefix_refl _) (.refl _) R (by rw[<-ra.length];rfl)⟩
  ·exact h.elim
 ·exact h.elim
def tyP(x:PV)(S:q0i):Option String:=match x with
 |.non=>some "NoneType"
 |.bl _=>some "bool"
 |.int _=>some "int"
 |.str _=>some "str"
 |.tup _=>some "tuple"
 |.ref n=>match S[n]? with
  |some (.lst _)=>some "list"
  |some (.dK _)=>some "dict"
  |_=>none
 |.frl _=>some "list"
 |.ty _=>none
 |.exc _=>none
def isT(T C:String):Bool:=T==C||(T == "bool"&&C == "int")
def y2q:List String:=["NoneType", "bool", "int", "str", "tuple", "list", "dict"]
def q5r:List String:=["list", "tuple", "str", "int", "bool", "dict"]
theorem z6e(K:Frag):∀T∈y2q,∀C∈q5r,PySem.W.kitOne K (.type T) (.type C)=some (isT T C):=by
 intro T hT C hC
 simp only[y2q,List.mem_cons,List.not_mem_nil,or_false]at hT
 simp only[q5r,List.mem_cons,List.not_mem_nil,or_false]at hC
 rcases hT with rfl|rfl|rfl|rfl|rfl|rfl|rfl<;>rcases hC with rfl|rfl|rfl|rfl|rfl|rfl<;>kernel_rfl
theorem z1u {x : PV} {S : q0i} {T : String} (h : tyP x S = some T) : T ∈ y2q := by
 unfold tyP at h
 split at h
 all_goals first
  | (cases h; simp [y2q])
  | (split at h <;> first | (cases h; simp [y2q]) | cases h)
  | cases h
end
section
variable{X:Cx}{G:GX}{pos:Pos}
theorem x2z{pins:List (Addr×Obj)}{s:Shared}{σ:St}{H:Hp}{φ:List Addr}{S:q0i}{x:PV}{x':V}{u c:Value}{T:String}{b:Bool}{A:Around}{E:Value->Shared->Prop}{Q:Value->Shared->Prop}(I:Inv X pins σ H s)(R:Rel X.K φ S H)(rx:RV X.K H φ x x')(q:RelV x' u)
  (ht:tyP x S=some T) (e:PySem.W.kitOne X.K (.type T) c=some b) (h:∀tk,Q (.bool b) {s with toks:=tk}):wpAny (model X.prog X.w) A (call (.builtin "isinstance") [u,c]) Q E s:=by
 unfold tyP at ht
 split at ht
 ·cases ht;cases rx;cases(show u=Value.none from q);exact PySem.W.kia_one PySem.W.kitx_none I.kIn True.intro e (fun z=>nomatch z) h
 ·rename_i y;cases ht;cases rx;cases(show u=Value.bool y from q);exact PySem.W.kia_one PySem.W.kitx_bool I.kIn True.intro e (fun z=>nomatch z) h
 ·rename_i y;cases ht;cases rx;obtain⟨t,rfl⟩:=(show ∃t,u=Value.int y t from q);exact PySem.W.kia_one PySem.W.kitx_int I.kIn True.intro e (fun z=>nomatch z) h
 ·rename_i y;cases ht;cases rx;obtain⟨t,rfl⟩:=(show ∃t,u=Value.str y t from q);exact PySem.W.kia_one PySem.W.kitx_str I.kIn True.intro e (fun z=>nomatch z) h
 ·cases ht
  obtain⟨a,vs,rfl,sa,ra⟩:=rx
  cases q
  obtain⟨its,_,⟨o,h1,h2,_⟩,_⟩:=I.tuple sa
  exact PySem.W.kia_one PySem.W.kitx_tuple I.kIn ⟨o,h1,h2⟩ e (fun z=>nomatch z) h
 ·rename_i n
  obtain⟨a,rfl,qa⟩:=rx
  cases q
  split at ht
  ·rename_i xs es
   cases ht
   obtain⟨vs,e1,_⟩:=R.obj n a _ qa es
   exact z4i (x:=.ref a) I rfl (TyOf.lst (K:=X.K) e1) e h
  ·rename_i xs es
   cases ht
   obtain⟨vs,e1,_⟩:=R.obj n a _ qa es
   exact z4i (x:=.ref a) I rfl (TyOf.dK (K:=X.K) e1) e h
  ·cases ht
 ·cases ht
  obtain⟨a,vs,rfl,sa,ra⟩:=rx
  cases q
  obtain⟨its,_,p,_⟩:=I.list sa.sq
  obtain⟨o,h1,h2,_⟩:=p.isList
  exact PySem.W.kia_one PySem.W.kitx_list I.kIn ⟨o,h1,h2⟩ e (fun z=>nomatch z) h
 ·cases ht
 ·cases ht
theorem x2y{pins:List (Addr×Obj)}{s:Shared}{σ:St}{H:Hp}{φ:List Addr}{S:q0i}{x:PV}{x':V}{u:Value}{T:String}{p:Addr}{its:List Value}{b:Bool}{A:Around}{E:Value->Shared->Prop}{Q:Value->Shared->Prop}(I:Inv X pins σ H s)(R:Rel X.K φ S H)(rx:RV X.K H φ x x')(q:RelV x' u)
  (ht:tyP x S=some T) (ho:PyProof.Rows.IsTup s.heap p its.toArray) (e:PySem.W.kitAny X.K (.type T) its=some b) (h:∀tk,Q (.bool b) {s with toks:=tk}):wpAny (model X.prog X.w) A (call (.builtin "isinstance") [u,.ref p]) Q E s:=by
 obtain⟨⟨cls,dd,dat,sl⟩,ho,hc,n,hd⟩:=ho
 simp only at hc hd
 subst hc hd
 unfold tyP at ht
 split at ht
 ·cases ht;cases rx;cases(show u=Value.none from q);exact PySem.W.kia_tup PySem.W.kitx_none I.kIn True.intro ho e (fun z=>nomatch z) h
 ·rename_i y;cases ht;cases rx;cases(show u=Value.bool y from q);exact PySem.W.kia_tup PySem.W.kitx_bool I.kIn True.intro ho e (fun z=>nomatch z) h
 ·rename_i y;cases ht;cases rx;obtain⟨t,rfl⟩:=(show ∃t,u=Value.int y t from q);exact PySem.W.kia_tup PySem.W.kitx_int I.kIn True.intro ho e (fun z=>nomatch z) h
 ·rename_i y;cases ht;cases rx;obtain⟨t,rfl⟩:=(show ∃t,u=Value.str y t from q);exact PySem.W.kia_tup PySem.W.kitx_str I.kIn True.intro ho e (fun z=>nomatch z) h
 ·cases ht
  obtain⟨a,vs,rfl,sa,ra⟩:=rx
  cases q
  obtain⟨_,_,⟨o,h1,h2,_⟩,_⟩:=I.tuple sa
  exact PySem.W.kia_tup PySem.W.kitx_tuple I.kIn ⟨o,h1,h2⟩ ho e (fun z=>nomatch z) h
 ·rename_i m
  obtain⟨a,rfl,qa⟩:=rx
  cases q
  split at ht
  ·rename_i xs es
   cases ht
   obtain⟨vs,e1,_⟩:=R.obj m a _ qa es
   obtain⟨_,_,n,_,h1⟩:=(show q2y X.prog X.w H s.heap a (.lst vs)from I.hok a _ e1)
   exact PySem.W.kia_tup PySem.W.kitx_list I.kIn ⟨_,h1,rfl⟩ ho e (fun z=>nomatch z) h
  ·rename_i xs es
   cases ht
   obtain⟨vs,e1,_⟩:=R.obj m a _ qa es
   obtain⟨_,_,_,_,p⟩:=(show q2y X.prog X.w H s.heap a (.dK vs)from I.hok a _ e1)
   obtain⟨o,es,ep,h1,h2,_⟩:=p
   exact PySem.W.kia_tup PySem.W.kitx_dict I.kIn ⟨o,h1,h2.1⟩ ho e (fun z=>nomatch z) h
  ·cases ht
 ·cases ht
  obtain⟨a,vs,rfl,sa,ra⟩:=rx
  cases q
  obtain⟨_,_,p,_⟩:=I.list sa.sq
  obtain⟨o,h1,h2,_⟩:=p.isList
  exact PySem.W.kia_tup PySem.W.kitx_list I.kIn ⟨o,h1,h2⟩ ho e (fun z=>nomatch z) h
 ·cases ht
 ·cases ht
def fIsi:FL:=fun xs S Q=>match xs with
 |[x,.ty D]=>match tyP x S with
  |some T=>D∈q5r/\Q (.bl (isT T D)) S
  |none=>False
 |[x,.tup [.ty D,.ty D']]=>match tyP x S with
  |some T=>(D∈q5r/\D'∈q5r)/\Q (.bl (isT T D||isT T D')) S
  |none=>False
 |_=>False
theorem q6u:q6k X (.builtin "isinstance") (z0z X.K fIsi):=by
 rintro pins s σ H xs us Q I r ⟨φ,S,pxs,Q0,R,hx,h,k⟩
 unfold fIsi at h
 split at h
 ·rename_i x D
  split at h
  ·rename_i T ht
   obtain⟨v,w,rfl,r1,r2⟩:=z5m hx
   cases r2
   obtain⟨u,c,rfl,ru,rc⟩:=x0e r
   cases(show c=Value.type D from rc)
   exact x2z I R r1 ru ht (z6e X.K T (z1u ht) D h.1) fun tk=>⟨.bl _,H,I.tok tk,rfl,k _ S φ H _ h.2 (List.prefix_refl _) (.refl _) R rfl⟩
  ·exact h.elim
 ·rename_i x D D'
  split at h
  ·rename_i T ht
   obtain⟨v,w,rfl,r1,a,vs,rfl,sa,ra⟩:=z5m hx
   obtain⟨d1,d2,rfl,q1,q2⟩:=z5m ra
   cases q1
   cases q2
   obtain⟨u,c,rfl,ru,rc⟩:=x0e r
   cases(show c=Value.ref a from rc)
   obtain⟨its,rv,p,_⟩:=I.tuple sa
   obtain⟨v1,v2,rfl,g1,g2⟩:=x0e rv
   cases(show v1=Value.type D from g1)
   cases(show v2=Value.type D' from g2)
   exact x2y I R r1 ru ht p (y7f (z6e X.K T (z1u ht) D h.1.1) (z6e X.K T (z1u ht) D' h.1.2)) fun tk=>⟨.bl _,H,I.tok tk,rfl,k _ S φ H _ h.2 (List.prefix_refl _) (.refl _) R rfl⟩
  ·exact h.elim
 ·exact h.elim
def q7e:List PV->Option (List Int)
 |[]=>some []
 |.int i::r=>(q7e r).map (i::·)
 |_=>none
def z4z:List PV->Option (List Bool)
 |[]=>some []
 |.bl i::r=>(z4z r).map (i::·)
 |_=>none
theorem z0s:∀{xs:List PV}{ns:List Int},q7e xs=some ns->xs=ns.map PV.int
 |[],ns,h=>by simp[q7e]at h;subst h;rfl
 |x::r,ns,h=>by
  cases x with
  |int i=>
   simp only[q7e,Option.map_eq_some_iff]at h
   obtain⟨ms,h1,rfl⟩:=h
   rw[z0s h1];rfl
  |_=>simp[q7e]at h
theorem z8k:∀{xs:List PV}{ns:List Bool},z4z xs=some ns->xs=ns.map PV.bl
 |[],ns,h=>by simp[z4z]at h;subst h;rfl
 |x::r,ns,h=>by
  cases x with
  |bl i=>
   simp only[z4z,Option.map_eq_some_iff]at h
   obtain⟨ms,h1,rfl⟩:=h
   rw[z8k h1];rfl
  |_=>simp[z4z]at h
theorem z9q(ns:List Int):q7e (ns.map PV.int)=some ns:=by induction ns with
 |nil=>rfl
 |cons a r ih=>simp[q7e,ih]
theorem y4h(ns:List Bool):z4z (ns.map PV.bl)=some ns:=by induction ns with
 |nil=>rfl
 |cons a r ih=>simp[z4z,ih]
def fSum:FL:=fun xs S Q=>match xs with
 |[.frl ys]=>match q7e ys with
  |some ns=>Q (.int ns.sum) S
  |none=>False
 |[.ref n]=>match (q3i S n).bind q7e with
  |some ns=>Q (.int ns.sum) S
  |none=>False
 |_=>False
def fAll:FL:=fun xs S Q=>match xs with
 |[.ref n]=>match (q3i S n).bind z4z with
  |some ns=>Q (.bl (ns.all id)) S
  |none=>False
 |_=>False
theorem y4c(hc:X.calm=true):q6k X (.builtin "sum") (z0z X.K fSum):=by
 rintro pins s σ H xs us Q I r ⟨φ,S,pxs,Q0,R,hx,h,k⟩
 unfold fSum at h
 split at h
 ·split at h
  ·rename_i ns e
   have:=z0s e
   subst this
   obtain⟨v,rfl,a,vs,rfl,sa,ra⟩:=q2d hx
   have sa:=sa.sq
   rw[ra.ints]at sa
   exact z8f hc pins s σ H _ us Q I r ⟨a,ns,rfl,sa,k _ S φ H _ h (List.prefix_refl _) (.refl _) R rfl⟩
  ·exact h.elim
 ·rename_i n
  split at h
  ·rename_i ns e
   obtain⟨ys,e1,e2⟩:=Option.bind_eq_some_iff.mp e
   have:=z0s e2
   subst this
   obtain⟨v,rfl,a,rfl,qa⟩:=q2d hx
   obtain⟨vs,sa,ra⟩:=R.seq qa e1
   rw[ra.ints]at sa
   exact z8f hc pins s σ H _ us Q I r ⟨a,ns,rfl,sa,k _ S φ H _ h (List.prefix_refl _) (.refl _) R rfl⟩
  ·exact h.elim
 ·exact h.elim
theorem y4e(hc:X.calm=true):q6k X (.builtin "all") (z0z X.K fAll):=by
 rintro pins s σ H xs us Q I r ⟨φ,S,pxs,Q0,R,hx,h,k⟩
 unfold fAll at h
 split at h
 ·rename_i n
  split at h
  ·rename_i ns e
   obtain⟨ys,e1,e2⟩:=Option.bind_eq_some_iff.mp e
   have:=z8k e2
   subst this
   obtain⟨v,rfl,a,rfl,qa⟩:=q2d hx
   obtain⟨vs,sa,ra⟩:=R.seq qa e1
   rw[ra.bls]at sa
   exact y8c hc pins s σ H _ us Q I r ⟨a,ns,rfl,sa,k _ S φ H _ h (List.prefix_refl _) (.refl _) R rfl⟩
  ·exact h.elim
 ·exact h.elim
def z9u:FL:=fun xs S Q=>match xs with
 |[.frl ys]=>Q (.ref S.length) (S++[.lst ys])
 |[.tup ys]=>Q (.ref S.length) (S++[.lst ys])
 |[.ref n]=>match q3i S n with
  |some ys=>Q (.ref S.length) (S++[.lst ys])
  |none=>False
 |_=>False
def q7f:FL:=fun xs S Q=>match xs with
 |[.tup ys]=>Q (.tup ys) S
 |[.ref n]=>match q3i S n with
  |some ys=>Q (.tup ys) S
  |none=>False
 |_=>False
theorem z9w:q6k X (.type "list") (z0z X.K z9u):=by
 rintro pins s σ H xs us Q I r ⟨φ,S,pxs,Q0,R,hx,h,k⟩
 unfold z9u at h
 split at h
 ·obtain⟨v,rfl,a,vs,rfl,sa,ra⟩:=q2d hx
  exact q6v pins s σ H _ us Q I r ⟨a,vs,rfl,.inl sa.sq,k.lst h R ra⟩
 ·obtain⟨v,rfl,a,vs,rfl,sa,ra⟩:=q2d hx
  exact q6v pins s σ H _ us Q I r ⟨a,vs,rfl,.inr sa,k.lst h R ra⟩
 ·rename_i n
  split at h
  ·rename_i ys e
   obtain⟨v,rfl,a,rfl,qa⟩:=q2d hx
   obtain⟨vs,sa,ra⟩:=R.seq qa e
   exact q6v pins s σ H _ us Q I r ⟨a,vs,rfl,.inl sa,k.lst h R ra⟩
  ·exact h.elim
 ·exact h.elim
theorem q3u:q6k X (.type "tuple") (z0z X.K q7f):=by
 rintro pins s σ H xs us Q I r ⟨φ,S,pxs,Q0,R,hx,h,k⟩
 unfold q7f at h
 split at h
 ·obtain⟨v,rfl,a,vs,rfl,sa,ra⟩:=q2d hx
  exact q8j pins s σ H _ us Q I r ⟨a,vs,rfl,.inr ⟨sa,k _ S φ H _ h (List.prefix_refl _) (.refl _) R ⟨a,vs,rfl,sa,ra⟩⟩⟩
 ·rename_i n
  split at h
  ·rename_i ys e
   obtain⟨v,rfl,a,rfl,qa⟩:=q2d hx
   obtain⟨vs,sa,ra⟩:=R.seq qa e
   exact q8j pins s σ H _ us Q I r ⟨a,vs,rfl,.inl ⟨sa,k.tup h R ra⟩⟩
  ·exact h.elim
 ·exact h.elim
def fInt:FL:=fun xs S Q=>match xs with
 |[.int i]=>Q (.int i) S
 |[.bl b]=>Q (.int (if b then 1 else 0)) S
 |_=>False
theorem y4d:q6k X (.type "int") (z0z X.K fInt):=by
 rintro pins s σ H xs us Q I r ⟨φ,S,pxs,Q0,R,hx,h,k⟩
 unfold fInt at h
 split at h
 ·obtain⟨v,rfl,r1⟩:=q2d hx
  cases r1
  exact z4w pins s σ H _ us Q I r (.inl ⟨_,rfl,k _ S φ H _ h (List.prefix_refl _) (.refl _) R rfl⟩)
 ·obtain⟨v,rfl,r1⟩:=q2d hx
  cases r1
  exact z4w pins s σ H _ us Q I r (.inr ⟨_,rfl,k _ S φ H _ h (List.prefix_refl _) (.refl _) R rfl⟩)
 ·exact h.elim
def fStr:FL:=fun xs S Q=>match xs with
 |[.int i]=>i.natAbs.log2<1920/\Q (.str (toString i)) S
 |_=>False
abbrev FM:=PV->List PV->q0i->VC->Prop
def z9g(K:Frag)(f:FM):V->List V->Hp->VK->Prop:=fun x' xs' H Q=>∃φ S x xs Q0,Rel K φ S H/\RV K H φ x x'/\RVs K H φ xs xs'/\f x xs S Q0/\KE K φ H Q0 Q
def wBM(T:String)(f:FM)(wo:WE)(wa:WA):WE:=fun σ S E Q=>wo σ S E fun x S1=>tyP x S1=some T/\wa σ S1 E fun xs S2=>f x xs S2 Q
def wBM0(T:String)(f:FM)(wo:WE):WE:=fun σ S E Q=>wo σ S E fun x S1=>tyP x S1=some T/\f x [] S1 Q
theorem y8t{K:Frag}{H:Hp}{φ:List Addr}{S:q0i}{x:PV}{x':V}{T:String}(R:Rel K φ S H)(r:RV K H φ x x')(h:tyP x S=some T)(hT:T = "str" \/T = "list" \/T = "dict"):tyV K T x' H:=by
 unfold tyP at h
 split at h
 ·cases h;simp at hT
 ·cases h;simp at hT
 ·cases h;simp at hT
 ·cases h;cases r;rfl
 ·cases h;simp at hT
 ·rename_i n
  obtain⟨a,rfl,qa⟩:=r
  split at h
  ·rename_i xs es
   cases h
   obtain⟨vs,e1,_⟩:=R.obj n a _ qa es
   exact .inl ⟨rfl,vs,SqL.of e1⟩
  ·rename_i xs es
   cases h
   obtain⟨vs,e1,_⟩:=R.obj n a _ qa es
   exact .inr (.inr (.inl ⟨rfl,.inl ⟨vs,e1⟩⟩))
  ·cases h
 ·cases h
  obtain⟨a,vs,rfl,sa,ra⟩:=r
  exact .inl ⟨rfl,vs,sa.sq⟩
 ·cases h
 ·cases h
theorem q2s{f:FM}{T id:String}{name:Str}{o e:Expr}{es:List Expr}{apos cpos:Pos}{wo:WE}{wa:WA}(pa:PlainAttrs T)(slot:Slot T name id)(hty:typeOf (.builtin id)=pure (.type "method_descriptor"))(hm:MtR X id (z9g X.K f))(ho:SimE X G o wo)(ha:SimA X G (e::es) wa)
  (hT:T = "str" \/T = "list" \/T = "dict" :=by first|exact Or.inl rfl|exact Or.inr (Or.inl rfl)|exact Or.inr (Or.inr rfl))
  (hbase:attributeBase o name X.env (eval o X.env)=eval o X.env:=by rfl)
  (hfew:((backTo cpos (starEach (e::es) X.env)).all (fun x=>!x.1)&&(backToKw cpos (keywordEach [] X.env)).all (fun x=>x.1.isSome)
   && decide ((e::es).length+([]:List Keyword).length+(if ([]:List Keyword).isEmpty then 0 else 1)<30))=true:=by rfl)
  (hline:(apos.endLine==cpos.line)=true:=by rfl) (hs:starEach (e::es) X.env=(false,eval e X.env)::starEach es X.env:=by rfl) (hplain:(backTo cpos (starEach es X.env)).any (·.1)=false:=by rfl) :
  SimE X G (.Call (.Attribute o name apos) (e::es) [] cpos) (wBM T f wo wa):=
 (x9y pa slot hty hm ho ha hbase hfew hline hs hplain).imp fun σV H Q hh1=>by obtain⟨φ,σ,S,Q0,L,R,h,k⟩:=hh1;exact(⟨φ,σ,S,_,L,R,h,fun v S1 φ1 H1 x hh2 p1 m1 R1 r1=>by obtain⟨ht,q⟩:=hh2;exact(⟨y8t R1 r1 ht hT,
  ⟨φ1,σ,S1,_,L.mono m1 p1,R1,q,fun vs S2 φ2 H2 xs q2 p2 m2 R2 r2=>⟨φ2,S2,v,vs,Q0,R2,RV.mono m2 p2 _ _ r1,r2,q2,k.up (p1.trans p2) (m1.trans m2)⟩⟩⟩)⟩)
theorem q4k{f:FM}{T id:String}{name:Str}{o:Expr}{apos cpos:Pos}{wo:WE}(pa:PlainAttrs T)(slot:Slot T name id)(hty:typeOf (.builtin id)=pure (.type "method_descriptor"))(hm:MtR X id (z9g X.K f))(ho:SimE X G o wo)
  (hT:T = "str" \/T = "list" \/T = "dict" :=by first|exact Or.inl rfl|exact Or.inr (Or.inl rfl)|exact Or.inr (Or.inr rfl))
  (hbase:attributeBase o name X.env (eval o X.env)=eval o X.env:=by rfl) (hline:(apos.endLine==cpos.line)=true:=by rfl) :
  SimE X G (.Call (.Attribute o name apos) [] [] cpos) (wBM0 T f wo):=
 (x6h pa slot hty hm ho hbase hline).imp fun σV H Q hh1=>by obtain⟨φ,σ,S,Q0,L,R,h,k⟩:=hh1;exact(⟨φ,σ,S,_,L,R,h,fun v S1 φ1 H1 x hh2 p1 m1 R1 r1=>by obtain⟨ht,q⟩:=hh2;exact(⟨y8t R1 r1 ht hT,⟨φ1,S1,v,[],Q0,R1,r1,rfl,q,k.up p1 m1⟩⟩)⟩)
theorem KE.put{K:Frag}{φ:List Addr}{H:Hp}{Q0:VC}{Q:VK}{S:q0i}{n:Nat}{a:Addr}{old:List V}{xs:List PV}{vs:List V}{y:PV}{y':V}(k:KE K φ H Q0 Q)(R:Rel K φ S H)(qa:φ[n]?=some a)(e:H a=some (.lst old))(r:RVs K H φ xs vs)(ry:RV K H φ y y')(q:Q0 y (S.set n (.lst xs))):Q y' (upd H a (.lst vs)):=
 k _ _ φ _ _ q (List.prefix_refl _) (.lst e) (R.put (o:=.lst xs) qa (.lst e) ⟨vs,q2r,RVs.mono (.lst e) (List.prefix_refl _) _ _ r⟩) (RV.mono (.lst e) (List.prefix_refl _) _ _ ry)
def q1s:FM:=fun x xs S Q=>match x,xs with
 |.ref n,[y]=>match q7m S n with
  |some ys=>ys.length<sizeLine/\Q .non (S.set n (.lst (ys++[y])))
  |none=>False
 |_,_=>False
theorem q1n:MtR X "list.append" (z9g X.K q1s):=by
 rintro pins s σ H x xs v us Q I rx rs ⟨φ,S,px,pxs,Q0,R,hx,hxs,h,k⟩
 unfold q1s at h
 split at h
 ·rename_i n y
  split at h
  ·rename_i ys e
   obtain⟨a,rfl,qa⟩:=hx
   obtain⟨y',rfl,ry⟩:=q2d hxs
   obtain⟨vs,ea,ra⟩:=R.lst qa e
   exact y2h pins s σ H _ _ v us Q I rx rs ⟨a,vs,y',rfl,rfl,ea,by rw[<-ra.length];exact h.1,k.put R qa ea (ra.append (.one ry)) (show RV X.K H φ .non .non from rfl) h.2⟩
  ·exact h.elim
 ·exact h.elim
def mPop:FM:=fun x xs S Q=>match x,xs with
 |.ref n,[]=>match q7m S n with
  |some ys=>match ys.getLast? with
   |some y=>Q y (S.set n (.lst ys.dropLast))
   |none=>False
  |none=>False
 |_,_=>False
theorem q4l:MtR X "list.pop" (z9g X.K mPop):=by
 rintro pins s σ H x xs v us Q I rx rs ⟨φ,S,px,pxs,Q0,R,hx,hxs,h,k⟩
 unfold mPop at h
 split at h
 ·rename_i n
  split at h
  ·rename_i ys e
   split at h
   ·rename_i y ey
    obtain⟨a,rfl,qa⟩:=hx
    have hxs':xs=[]:=hxs
    subst hxs'
    obtain⟨vs,ea,ra⟩:=R.lst qa e
    rw[List.getLast?_eq_getElem?]at ey
    obtain⟨y',e',r'⟩:=ra.get ey
    rw[ra.length]at e'
    exact x6x pins s σ H _ _ v us Q I rx rs ⟨a,vs,y',rfl,rfl,ea,e',k.put R qa ea ra.dropLast r' h⟩
   ·exact h.elim
  ·exact h.elim
 ·exact h.elim
def z1j:FM:=fun x xs S Q=>match x,xs with
 |.ref n,[.int i]=>match q7m S n with
  |some ys=>match ixN ys.length i with
   |some j=>match ys[j]? with
    |some y=>(-(2 ^ 63)<=i/\i<2 ^ 63)/\Q y (S.set n (.lst (ys.eraseIdx j)))
    |none=>False
   |none=>False
  |none=>False
 |_,_=>False
def q6e:FM:=fun x xs S Q=>match x,xs with
 |.ref n,[.ref m]=>match q7m S n,q7m S m with
  |some ys,some zs=>ys.length+zs.length<=sizeLine/\Q .non (S.set n (.lst (ys++zs)))
  |_,_=>False
 |.ref n,[.tup zs]=>match q7m S n with
  |some ys=>ys.length+zs.length<=sizeLine/\Q .non (S.set n (.lst (ys++zs)))
  |none=>False
 |_,_=>False
theorem x3f:MtM X "list.extend" (fun x vs H Q=>∃l b xs zs,x=.ref l/\vs=[.ref b]/\H l=some (.lst xs)/\SqT X.K H b zs/\xs.length+zs.length<=sizeLine/\Q .non (upd H l (.lst (xs++zs)))):=by
 intro pins s σ H x vs v us Q I rx rv h
 obtain⟨l,b,xs,zs,rfl,rfl,hH,hB,hz,q⟩:=h
 cases rx
 obtain⟨u,rfl,ru⟩:=rv.one
 cases ru
 obtain⟨z,its,n,r,hl,e⟩:=I.lstM hH
 obtain⟨its2,r2,⟨⟨cls,dd,dat,sl⟩,h1,h2,n2,h3⟩,z2⟩:=I.tuple hB
 simp only at h2 h3
 subst h2 h3
 have hl2:=r2.length
 have hss:its.toArray.size+its2.toArray.size<=sizeLine:=by simp only[List.size_toArray];omega
 have hlong:¬(!its.toArray.isEmpty&&Builtin.List.listTooLong (its.toArray.size+its2.toArray.size))=true:=by rw[z2l hss,Bool.and_false];exact Bool.false_ne_true
 refine call_meets F.slot_list_extend ⟨_,e,rfl⟩ F.entry_list_extend (F.args_list_extend_2 _ _) (extT l its.toArray n b its2.toArray n2 dd sl hlong (by rw[List.size_toArray];omega) (by omega)) ⟨e,h1,?_⟩
 exact⟨.non,_,I.lset (its':=its++its2) hH e (by simp) (r.append r2) (by rw[List.length_append];omega),rfl,q⟩
theorem q6z:MtR X "list.extend" (z9g X.K q6e):=by
 rintro pins s σ H x xs v us Q I rx rs ⟨φ,S,px,pxs,Q0,R,hx,hxs,h,k⟩
 unfold q6e at h
 split at h
 ·rename_i n m
  split at h
  ·rename_i ys zs e1 e2
   obtain⟨a,rfl,qa⟩:=hx
   obtain⟨y',rfl,b,rfl,qb⟩:=q2d hxs
   obtain⟨vs,ea,ra⟩:=R.lst qa e1
   obtain⟨ws,eb,rb⟩:=R.lst qb e2
   exact y2g pins s σ H _ _ v us Q I rx rs ⟨a,b,vs,ws,rfl,rfl,ea,eb,by rw[<-ra.length,<-rb.length];exact h.1,k.put (y:=.non) R qa ea (ra.append rb) rfl h.2⟩
  ·exact h.elim
 ·rename_i n zs
  split at h
  ·rename_i ys e1
   obtain⟨a,rfl,qa⟩:=hx
   obtain⟨y',rfl,b,ws,rfl,sb,rb⟩:=q2d hxs
   obtain⟨vs,ea,ra⟩:=R.lst qa e1
   exact x3f pins s σ H _ _ v us Q I rx rs ⟨a,b,vs,ws,rfl,rfl,ea,sb,by rw[<-ra.length,<-rb.length];exact h.1,k.put (y:=.non) R qa ea (ra.append rb) rfl h.2⟩
  ·exact h.elim
 ·exact h.elim
theorem z3v:MtR X "list.pop" (z9g X.K z1j):=by
 rintro pins s σ H x xs v us Q I rx rs ⟨φ,S,px,pxs,Q0,R,hx,hxs,h,k⟩
 unfold z1j at h
 split at h
 ·rename_i n i
  split at h
  ·rename_i ys e
   split at h
   ·rename_i j ej
    split at h
    ·rename_i y ey
     obtain⟨a,rfl,qa⟩:=hx
     obtain⟨y',rfl,ry⟩:=q2d hxs
     cases ry
     obtain⟨vs,ea,ra⟩:=R.lst qa e
     obtain⟨y',e',r'⟩:=ra.get ey
     rw[ra.length]at ej
     exact y6x pins s σ H _ _ v us Q I rx rs ⟨a,vs,i,j,y',rfl,rfl,ea,h.1.1,h.1.2,(z6f ej).1,e',k.put R qa ea (ra.eraseIdx _) r' h.2⟩
    ·exact h.elim
   ·exact h.elim
  ·exact h.elim
 ·exact h.elim
abbrev WJ:=Loc->q0i->EK->Str->(Str->q0i->Prop)->Prop
def KJ(K:Frag)(φ:List Addr)(H:Hp)(Q0:Str->q0i->Prop)(Q:Str->Hp->Prop):Prop:=∀v S' φ' H',Q0 v S'->φ <+: φ'->Mono H H'->Rel K φ' S' H'->Q v H'
def w0j(K:Frag)(G:GX)(w:WJ):TJ:=fun σV H acc Q=>∃φ σ S Q0,LRel K G H φ σ σV/\Rel K φ S H/\w σ S G.ek acc Q0/\KJ K φ H Q0 Q
def SimJ(X:Cx)(G:GX)(es:List Expr)(w:WJ):Prop:=PJ X es (w0j X.K G w)
theorem PJ.imp{e:List Expr}{t t':TJ}(h:PJ X e t)(i:∀σ H a Q,t' σ H a Q->t σ H a Q):PJ X e t':=fun pins s σ H acc Q I q=>h pins s σ H acc Q I (i σ H acc Q q)
def y4u:WJ:=fun _ S _ acc Q=>Q acc S
def y0b(x:Str)(w:WJ):WJ:=fun σ S E acc Q=>(acc++x).length<=sizeLine/\w σ S E (acc++x) Q
def y4t(we:WE)(w:WJ):WJ:=fun σ S E acc Q=>we σ S E fun v S1=>match v with
 |.str x=>(x.length<=sizeLine/\(acc++x).length<=sizeLine)/\w σ S1 E (acc++x) Q
 |_=>False
theorem y5q:SimJ X G [] y4u:=PJ.imp x5u fun σV H acc Q hh1=>by obtain⟨φ,σ,S,Q0,L,R,h,k⟩:=hh1;exact(k _ S φ H h (List.prefix_refl _) (.refl _) R)
theorem z7h{x:Str} {j} {es:List Expr} {w:WJ} (hr:SimJ X G es w) (he:evalEach (.Constant (.str x) j pos::es) X.env=eval (.Constant (.str x) j pos) X.env::evalEach es X.env:=by rfl):SimJ X G (.Constant (.str x) j pos::es) (y0b x w):=
 PJ.imp (x5t hr he) fun σV H acc Q hh1=>by obtain⟨φ,σ,S,Q0,L,R,h,k⟩:=hh1;exact(⟨h.1,φ,σ,S,Q0,L,R,h.2,k⟩)
theorem y5p{e:Expr}{es:List Expr}{we:WE}{w:WJ}(h1:SimE X G e we)(hr:SimJ X G es w)(he:evalEach (.FormattedValue e (-1) none pos::es) X.env=eval (.FormattedValue e (-1) none pos) X.env::evalEach es X.env:=by rfl):SimJ X G (.FormattedValue e (-1) none pos::es) (y4t we w):=
 PJ.imp (x5s h1 hr he) fun σV H acc Q hh1=>by obtain⟨φ,σ,S,Q0,L,R,h,k⟩:=hh1;exact(⟨φ,σ,S,_,L,R,h,fun v S1 φ1 H1 x q p1 m1 R1 r1=>by
  cases v with
  |str y=>exact ⟨y,r1,q.1.1,q.1.2,φ1,σ,S1,Q0,L.mono m1 p1,R1,q.2,fun o S2 φ2 H2 q2 p2 m2 R2=>k o S2 φ2 H2 q2 (p1.trans p2) (m1.trans m2) R2⟩
  |_=>exact q.elim⟩)
def z1t(w:WJ):WE:=fun σ S E Q=>w σ S E Str.empty fun out S1=>out.length<=sizeLine/\Q (.str out) S1
theorem z8w{v₁ v₂:Expr}{es:List Expr}{w:WJ}(h:SimJ X G (v₁::v₂::es) w):SimE X G (.JoinedStr (v₁::v₂::es) pos) (z1t w):=
 (y1q h).imp fun σV H Q hh1=>by obtain⟨φ,σ,S,Q0,L,R,h,k⟩:=hh1;exact(⟨φ,σ,S,_,L,R,h,fun o S1 φ1 H1 q p1 m1 R1=>⟨q.1,k _ S1 φ1 H1 _ q.2 p1 m1 R1 rfl⟩⟩)
end
structure PEnds where
 nx:Loc->q0i->Prop
 rt:VC
 bk:Loc->q0i->Prop:=fun _ _=>False
 ct:Loc->q0i->Prop:=fun _ _=>False
abbrev WS:=PEnds->EK->Loc->q0i->Prop
def KN(K:Frag)(G:GX)(φ:List Addr)(H:Hp)(Q0:Loc->q0i->Prop)(Q:St->Hp->Prop):Prop:=∀σ' S' φ' H' σV',Q0 σ' S'->φ <+: φ'->Mono H H'->Rel K φ' S' H'->LRel K G H' φ' σ' σV'->Q σV' H'
theorem KN.up{K:Frag}{G:GX}{φ φ1:List Addr}{H H1:Hp}{Q0:Loc->q0i->Prop}{Q:St->Hp->Prop}(k:KN K G φ H Q0 Q)(p:φ <+: φ1)(m:Mono H H1):KN K G φ1 H1 Q0 Q:=fun σ' S' φ' H' σV' q p' m'=>k σ' S' φ' H' σV' q (p.trans p') (m.trans m')
structure KS(K:Frag)(G:GX)(φ:List Addr)(H:Hp)(D0:PEnds)(D:Ends):Prop where
 nx:KN K G φ H D0.nx D.nx
 rt:KE K φ H D0.rt D.rt
 bk:KN K G φ H D0.bk D.bk
 ct:KN K G φ H D0.ct D.ct
theorem KS.up{K:Frag}{G:GX}{φ φ1:List Addr}{H H1:Hp}{D0:PEnds}{D:Ends}(k:KS K G φ H D0 D)(p:φ <+: φ1)(m:Mono H H1):KS K G φ1 H1 D0 D:=⟨k.nx.up p m,k.rt.up p m,k.bk.up p m,k.ct.up p m⟩
def y7a(K:Frag)(G:GX)(w:WS):TS:=fun D σV H=>∃φ σ S D0,LRel K G H φ σ σV/\Rel K φ S H/\w D0 G.ek σ S/\KS K G φ H D0 D
def SimS(X:Cx)(G:GX)(st:Stmt)(w:WS):Prop:=PS X st (y7a X.K G w)
def z0x(X:Cx)(G:GX)(st:List Stmt)(w:WS):Prop:=PSs X st (y7a X.K G w)
theorem _root_.L2.PS.imp{X:Cx}{e:Stmt}{t t':TS}(h:PS X e t)(i:∀D σ H,t' D σ H->t D σ H):PS X e t':=fun pins s σ H D I q=>h pins s σ H D I (i D σ H q)
theorem _root_.L2.PSs.imp{X:Cx}{e:List Stmt}{t t':TS}(h:PSs X e t)(i:∀D σ H,t' D σ H->t D σ H):PSs X e t':=fun pins s σ H D I q=>h pins s σ H D I (i D σ H q)
section
variable{X:Cx}{G:GX}{pos:Pos}
def q1i:WS:=fun D _ σ S=>D.nx σ S
def wSeq(w1 w2:WS):WS:=fun D E σ S=>w1 {D with nx:=w2 D E} E σ S
theorem q0s:z0x X G [] q1i:=x1d.imp fun D σV H hh1=>by obtain⟨φ,σ,S,D0,L,R,h,k⟩:=hh1;exact(k.nx σ S φ H σV h (List.prefix_refl _) (.refl _) R L)
theorem q0g{st:Stmt}{w:WS}(h:SimS X G st w):z0x X G [st] w:=x1c h
theorem q0e{st:Stmt}{rest:List Stmt}{w1 w2:WS}(h1:SimS X G st w1)(h2:z0x X G rest w2):z0x X G (st::rest) (wSeq w1 w2):=
 (y6d h1 h2).imp fun D σV H hh1=>by obtain⟨φ,σ,S,D0,L,R,h,k⟩:=hh1;exact(⟨φ,σ,S,_,L,R,h,⟨fun σ' S' φ' H' σV' q p m R' L'=>⟨φ',σ',S',D0,L',R',q,k.up p m⟩,k.rt,k.bk,k.ct⟩⟩)
def z3g:WS:=fun _ _ _ _=>False
theorem z3n{st:Stmt}:SimS X G st z3g:=(y6g (X:=X)).imp fun D σV H hh1=>by obtain⟨φ,σ,S,D0,L,R,h,k⟩:=hh1;exact(h)
def q3c(w:WE):WS:=fun D E σ S=>w σ S E fun _ S1=>D.nx σ S1
theorem q1r{e:Expr}{w:WE}(he:SimE X G e w)(hs:swapsWith e none pos.line X.env=pure false:=by rfl):SimS X G (.Expr e pos) (q3c w):=
 (x1f he hs).imp fun D σV H hh1=>by obtain⟨φ,σ,S,D0,L,R,h,k⟩:=hh1;exact(⟨φ,σ,S,_,L,R,h,fun v S1 φ1 H1 x q p1 m1 R1 r1=>k.nx σ S1 φ1 H1 σV q p1 m1 R1 (L.mono m1 p1)⟩)
def wRet(w:WE):WS:=fun D E σ S=>w σ S E D.rt
theorem q0n{e:Expr}{w:WE}(he:SimE X G e w):SimS X G (.Return (some e) pos) (wRet w):=
 (x5k he).imp fun D σV H hh1=>by obtain⟨φ,σ,S,D0,L,R,h,k⟩:=hh1;exact(⟨φ,σ,S,_,L,R,h,k.rt⟩)
def wIfS(c:WT)(t u:WS):WS:=fun D E σ S=>c σ S E fun b S1=>if b=true then t D E σ S1 else u D E σ S1
theorem q0y{c:Expr}{a b:List Stmt}{wc:WT}{t u:WS}(hc:SimT X G c wc)(ha:z0x X G a t)(hb:z0x X G b u):SimS X G (.If c a b pos) (wIfS wc t u):=
 (x9t hc ha hb).imp fun D σV H hh1=>by obtain⟨φ,σ,S,D0,L,R,h,k⟩:=hh1;exact(⟨φ,σ,S,_,L,R,h,fun c S1 φ1 H1 q p1 m1 R1=>by
  cases c with
  |true=>exact ⟨φ1,σ,S1,D0,L.mono m1 p1,R1,q,k.up p1 m1⟩
  |false=>exact ⟨φ1,σ,S1,D0,L.mono m1 p1,R1,q,k.up p1 m1⟩⟩)
abbrev WG:=PV->Loc->q0i->EK->(Loc->q0i->Prop)->Prop
abbrev WGs:=List PV->Loc->q0i->EK->(Loc->q0i->Prop)->Prop
def z6b(K:Frag)(G:GX)(w:WG):TG:=fun v' σV H Q=>∃φ v σ S Q0,LRel K G H φ σ σV/\Rel K φ S H/\RV K H φ v v'/\w v σ S G.ek Q0/\KN K G φ H Q0 Q
def x7e(K:Frag)(G:GX)(w:WGs):TGs:=fun v' σV H Q=>∃φ v σ S Q0,LRel K G H φ σ σV/\Rel K φ S H/\RVs K H φ v v'/\w v σ S G.ek Q0/\KN K G φ H Q0 Q
def SimG(X:Cx)(G:GX)(tg:Expr)(w:WG):Prop:=PG X tg (z6b X.K G w)
def y8n(X:Cx)(G:GX)(tg:List Expr)(w:WGs):Prop:=PGs X tg (x7e X.K G w)
theorem PG.imp{e:Expr}{t t':TG}(h:PG X e t)(i:∀v σ H Q,t' v σ H Q->t v σ H Q):PG X e t':=fun pins s σ H v u Q I r q=>h pins s σ H v u Q I r (i v σ H Q q)
theorem PGs.imp{e:List Expr}{t t':TGs}(h:PGs X e t)(i:∀v σ H Q,t' v σ H Q->t v σ H Q):PGs X e t':=fun pins s σ H v u Q I r q=>h pins s σ H v u Q I r (i v σ H Q q)
def q0z(i:Nat):WG:=fun v σ S _ Q=>Q (σ.set i (some v)) S
theorem q0p{i:Nat}{x:Str}(hN:X.N.Nodup)(hi:X.N[i]?=some x:=by rfl)(hx:L2.Loc X.env.scope x:=by first|exact Or.inl rfl|exact Or.inr rfl)(hf:X.fn x=true\/X.env.scope.names.lookup x=some .local:=by first|exact .inl rfl|exact .inr rfl|assumption):SimG X G (.Name x pos) (q0z i):=
 PG.imp (x1m (i:=i) hN hi hx hf) fun v' σV H Q hh1=>by obtain⟨φ,v,σ,S,Q0,L,R,r,h,k⟩:=hh1;exact(k _ S φ H _ h (List.prefix_refl _) (.refl _) R (L.set i r))
def q4j:WGs:=fun vs σ S _ Q=>match vs with
 |[]=>Q σ S
 |_=>False
def q1e(w:WG)(ws:WGs):WGs:=fun vs σ S E Q=>match vs with
 |v::r=>w v σ S E fun σ' S'=>ws r σ' S' E Q
 |_=>False
theorem q1p:y8n X G [] q4j:=PGs.imp x1l fun v' σV H Q hh1=>by
 obtain⟨φ,v,σ,S,Q0,L,R,r,h,k⟩:=hh1
 cases v with
 |nil=>exact⟨r,k _ S φ H _ h (List.prefix_refl _) (.refl _) R L⟩
 |cons _ _=>exact h.elim
theorem q0r{e:Expr}{es:List Expr}{w:WG}{ws:WGs}(h1:SimG X G e w)(h2:y8n X G es ws)(hs:(assignEach (e::es) X.env).map (·.2)=assign e X.env::(assignEach es X.env).map (·.2):=by rfl):y8n X G (e::es) (q1e w ws):=
 PGs.imp (y6k h1 h2 hs) fun v' σV H Q hh1=>by
  obtain⟨φ,v,σ,S,Q0,L,R,r,h,k⟩:=hh1
  cases v with
  |nil=>exact h.elim
  |cons a b=>
   obtain⟨y,ys,rfl,r1,r2⟩:=r
   exact⟨y,ys,rfl,φ,a,σ,S,_,L,R,r1,h,fun σ' S' φ' H' σV' q p m R' L'=>⟨φ',b,σ',S',Q0,L',R',RVs.mono m p _ _ r2,q,k.up p m⟩⟩
def q4e(n:Nat)(ws:WGs):WG:=fun v σ S E Q=>match v with
 |.tup xs=>xs.length=n/\ws xs σ S E Q
 |_=>False
theorem q1y{es:List Expr}{kk:Nat}{ws:WGs}(n:Nat)(hc:X.calm=true)(h:y8n X G es ws)(hn:(assignEach es X.env).length=n:=by rfl)(hst:(assignEach es X.env).findIdx? (·.1)=none:=by rfl):SimG X G (.Tuple es kk pos) (q4e n ws):=
 PG.imp (x5x hc h hn hst) fun v' σV H Q hh1=>by
  obtain⟨φ,v,σ,S,Q0,L,R,r,h,k⟩:=hh1
  cases v with
  |tup xs=>
   obtain⟨a,vs,rfl,sa,ra⟩:=r
   exact⟨a,vs,rfl,sa,by rw[<-ra.length];exact h.1,φ,xs,σ,S,Q0,L,R,ra,h.2,k⟩
  |_=>exact h.elim
def wAsg(w:WE)(g:WG):WS:=fun D E σ S=>w σ S E fun v S1=>g v σ S1 E D.nx
theorem q3e{tg e:Expr}{w:WE}{g:WG}(he:SimE X G e w)(hg:SimG X G tg g)(hs:swapsWithSole [tg] e pos.line X.env=pure false:=by rfl)(hw:swappedStores [tg] e X.env=pure none:=by rfl)
  (h1:(assignEach [tg] X.env).map (·.2)=[assign tg X.env]:=by rfl):SimS X G (.Assign [tg] e pos) (wAsg w g):=
 (x5n he hg hs hw h1).imp fun D σV H hh1=>by obtain⟨φ,σ,S,D0,L,R,h,k⟩:=hh1;exact(⟨φ,σ,S,_,L,R,h,fun v S1 φ1 H1 x q p1 m1 R1 r1=>⟨φ1,v,σ,S1,D0.nx,L.mono m1 p1,R1,r1,q,k.nx.up p1 m1⟩⟩)
def wSet(i:Nat)(w:WE):WS:=fun D E σ S=>w σ S E fun v S1=>D.nx (σ.set i (some v)) S1
theorem q0o(i:Nat){x:Str}{e:Expr}{w:WE}{pos':Pos}(hN:X.N.Nodup)(he:SimE X G e w)(hi:X.N[i]?=some x:=by rfl)(hx:L2.Loc X.env.scope x:=by first|exact Or.inl rfl|exact Or.inr rfl)(hs:swapsWith e (some (.Name x pos')) pos.line X.env=pure false:=by rfl)(hf:X.fn x=true\/X.env.scope.names.lookup x=some .local:=by first|exact .inl rfl|exact .inr rfl|assumption) :
  SimS X G (.Assign [.Name x pos'] e pos) (wSet i w):=
 (x5j (i:=i) hN hi hx he hs hf).imp fun D σV H hh1=>by obtain⟨φ,σ,S,D0,L,R,h,k⟩:=hh1;exact(⟨φ,σ,S,_,L,R,h,fun v S1 φ1 H1 x q p1 m1 R1 r1=>k.nx _ S1 φ1 H1 _ q p1 m1 R1 ((L.mono m1 p1).set i r1)⟩)
def wAug(i:Nat)(f:F2)(w:WE):WS:=fun D E σ S=>match σ[i]? with
 |some (some x)=>w σ S E fun y S1=>f x y S1 fun z S2=>D.nx (σ.set i (some z)) S2
 |_=>False
theorem y0y(i:Nat){x:Str}{e:Expr}{w:WE}{pos':Pos}(hN:X.N.Nodup)(he:SimE X G e w)(hi:X.N[i]?=some x:=by rfl)(hx:L2.Loc X.env.scope x:=by first|exact Or.inl rfl|exact Or.inr rfl)(hf:X.fn x=true\/X.env.scope.names.lookup x=some .local:=by first|exact .inl rfl|exact .inr rfl|assumption) :
  SimS X G (.AugAssign (.Name x pos') .Add e pos) (wAug i z6w w):=
 (x5m (i:=i) hN hi hx he x3b hf).imp fun D σV H hh1=>by
  obtain⟨φ,σ,S,D0,L,R,h,k⟩:=hh1
  unfold wAug at h
  split at h
  ·rename_i v ev
   obtain⟨x',e',r'⟩:=L.at' i v ev
   refine⟨x',e',φ,σ,S,_,L,R,h,fun u S1 φ1 H1 y q p1 m1 R1 r1=>?_⟩
   exact⟨φ1,S1,v,u,_,R1,RV.mono m1 p1 _ _ r',r1,q,fun z S2 φ2 H2 z' q2 p2 m2 R2 r2=>k.nx _ S2 φ2 H2 _ q2 (p1.trans p2) (m1.trans m2) R2 (((L.mono m1 p1).mono m2 p2).set i r2)⟩
  ·exact h.elim
abbrev FS:=PV->PV->PV->q0i->(q0i->Prop)->Prop
def y2n(K:Frag)(f:FS):TSet:=fun o' i' v' H Q=>∃φ S o i v Q0,Rel K φ S H/\RV K H φ o o'/\RV K H φ i i'/\RV K H φ v v'/\f o i v S Q0/\∀S' H',Q0 S'->Mono H H'->Rel K φ S' H'->Q H'
def sSet:FS:=fun o i v S Q=>match o with
 |.ref n=>match S[n]? with
  |some (.lst xs)=>match i with
   |.int k=>match ixN xs.length k with
    |some j=>Q (S.set n (.lst (xs.set j v)))
    |none=>False
   |_=>False
  |some (.dK kvs)=>match z2u i with
   |some k=>kvs.length<sizeLine/\Q (S.set n (.dK (putP kvs k v)))
   |none=>False
  |_=>False
 |_=>False
theorem sets(hu:X.A.units+200<cLine):PSet X (y2n X.K sSet):=by
 rintro pins s σ H o i v ov iv u Q I ro ri rv ⟨φ,S,po,pi,pv,Q0,R,ho,hi,hv,h,k⟩
 unfold sSet at h
 split at h
 ·rename_i n
  obtain⟨a,rfl,qa⟩:=ho
  split at h
  ·rename_i xs e
   split at h
   ·rename_i kk
    split at h
    ·rename_i j ej
     cases hi
     obtain⟨vs,ea,ra⟩:=R.obj n a _ qa e
     rw[ra.length]at ej
     refine y5s pins s σ H _ _ v ov iv u Q I ro ri rv ⟨a,vs,kk,j,rfl,rfl,ea,ej,k _ _ h (.lst ea) (R.put (o:=.lst (xs.set j pv)) qa (.lst ea) ⟨vs.set j v,q2r,RVs.mono (.lst ea) (List.prefix_refl _) _ _ (ra.set hv j)⟩)⟩
    ·exact h.elim
   ·exact h.elim
  ·rename_i kvs e
   split at h
   ·rename_i kk ek
    have hk:=z2t hi ek
    subst hk
    obtain⟨ws,ea,ra⟩:=R.obj n a _ qa e
    cases ro
    refine y3v (by omega) I (DPut.k ea (by rw[<-ra.length];exact h.1)) ri rv fun s' I'=>⟨_,I',k _ _ h.2 (.dict ea) (R.put (o:=.dK (putP kvs kk pv)) qa (.dict ea) ⟨_,q2r,RKs.mono (.dict ea) (List.prefix_refl _) (ra.put kk hv)⟩)⟩
   ·exact h.elim
  ·exact h.elim
 ·exact h.elim
def z1r(wo wi:WE)(f:FS):WG:=fun v σ S E Q=>wo σ S E fun o S1=>wi σ S1 E fun i S2=>f o i v S2 fun S3=>Q σ S3
theorem q6y{o i:Expr}{wo wi:WE}{f:FS}(hf:PSet X (y2n X.K f))(ho:SimE X G o wo)(hi:SimE X G i wi)
  (ha:∀v,assign (.Subscript o i pos) X.env v=(do
   let ov <-holding [v] (eval o X.env)
   let iv <-holding [v,ov] (eval i X.env)
   standAt pos
   holding [v,ov,iv] (setItem ov iv v)
   release [v,ov,iv] []):=by intro _;rfl):SimG X G (.Subscript o i pos) (z1r wo wi f):=
 PG.imp (x5y ho hi hf ha) fun v' σV H Q hh1=>by obtain⟨φ,v,σ,S,Q0,L,R,r,h,k⟩:=hh1;exact(⟨φ,σ,S,_,L,R,h,fun ov S1 φ1 H1 x q p1 m1 R1 r1=>⟨φ1,σ,S1,_,L.mono m1 p1,R1,q,fun iv S2 φ2 H2 y q2 p2 m2 R2 r2=>
  ⟨φ2,S2,ov,iv,v,_,R2,RV.mono m2 p2 _ _ r1,r2,RV.mono m2 p2 _ _ (RV.mono m1 p1 _ _ r),q2,fun S3 H3 q3 m3 R3=>k σ S3 φ2 H3 σV q3 (p1.trans p2) ((m1.trans m2).trans m3) R3 (((L.mono m1 p1).mono m2 p2).mono m3 (List.prefix_refl _))⟩⟩⟩)
def q6i(c:WT)(b:WS):WS:=fun D E σ S=>∃W:Nat->Loc->q0i->Prop,(∃m,W m σ S)/\∀m σ S,W m σ S->
 c σ S E fun bo S1=>if bo=true then ∃N:Loc->q0i->Prop,(∀σ' S',N σ' S'->∃m',m'<m/\W m' σ' S')/\b {D with nx:=N,ct:=N,bk:=D.nx} E σ S1 else D.nx σ S1
theorem q4g{c:Expr}{body:List Stmt}{wc:WT}{wb:WS}(hp:PassesOwn (model X.prog X.w) X.A X.env X.xe)(hc:SimT X G c wc)(hb:z0x X G body wb):SimS X G (.While c body [] pos) (q6i wc wb):=
 (y6e hp hc hb).imp fun D σV H hh1=>by
  obtain⟨φ,σ,S,D0,L,R,h,k⟩:=hh1
  obtain⟨W,⟨m0,w0⟩,st⟩:=h
  refine⟨fun m σV' H'=>∃φ' σ' S',φ <+: φ'/\Mono H H'/\LRel X.K G H' φ' σ' σV'/\Rel X.K φ' S' H'/\W m σ' S',⟨m0,φ,σ,S,List.prefix_refl _,.refl _,L,R,w0⟩,?_⟩
  rintro m σV' H' ⟨φ',σ',S',p,mo,L',R',hw⟩
  refine⟨φ',σ',S',_,L',R',st m σ' S' hw,fun bo S1 φ1 H1 q p1 m1 R1=>?_⟩
  cases bo with
  |true=>
   obtain⟨N,hN,hb⟩:=q
   refine⟨fun σ2V H2=>∃φ2 σ2 S2,φ1 <+: φ2/\Mono H1 H2/\LRel X.K G H2 φ2 σ2 σ2V/\Rel X.K φ2 S2 H2/\N σ2 S2,?_,?_⟩
   ·rintro σ2V H2 ⟨φ2,σ2,S2,p2,m2,L2,R2,hn⟩
    obtain⟨m',hm,hw'⟩:=hN σ2 S2 hn
    exact⟨m',hm,φ2,σ2,S2,(p.trans p1).trans p2,(mo.trans m1).trans m2,L2,R2,hw'⟩
   ·exact⟨φ1,σ',S1,_,L'.mono m1 p1,R1,hb,⟨fun σ2 S2 φ2 H2 σ2V q p2 m2 R2 L2=>⟨φ2,σ2,S2,p2,m2,L2,R2,q⟩,k.rt.up (p.trans p1) (mo.trans m1),k.nx.up (p.trans p1) (mo.trans m1),fun σ2 S2 φ2 H2 σ2V q p2 m2 R2 L2=>⟨φ2,σ2,S2,p2,m2,L2,R2,q⟩⟩⟩
  |false=>exact k.nx σ' S1 φ1 H1 σV' q (p.trans p1) (mo.trans m1) R1 (L'.mono m1 p1)
structure PIt where
 xs:List PV
 chk:q0i->Prop
structure ItR(K:Frag)(φ0:List Addr)(H0:Hp)(J:It)(it:PIt):Prop where
 go:∀φ H S,φ0 <+: φ->Mono H0 H->Rel K φ S H->it.chk S->∀(i:Nat) x,it.xs[i]?=some x->J.go i H/\∀y H',J.yld i H y H'->∃φ',φ <+: φ'/\Mono H H'/\Rel K φ' S H'/\RV K H' φ' x y
 stop:∀φ H S,φ0 <+: φ->Mono H0 H->Rel K φ S H->it.chk S->∀i:Nat,it.xs.length<=i->J.stop i H
abbrev WI:=Loc->q0i->EK->(PIt->q0i->Prop)->Prop
def KI(K:Frag)(φ:List Addr)(H:Hp)(Q0:PIt->q0i->Prop)(R:It->Hp->Prop):Prop:=∀it S' φ' H' J,Q0 it S'->φ <+: φ'->Mono H H'->Rel K φ' S' H'->ItR K φ' H' J it->R J H'
def y7b(K:Frag)(G:GX)(w:WI):TI:=fun σV H R=>∃φ σ S Q0,LRel K G H φ σ σV/\Rel K φ S H/\w σ S G.ek Q0/\KI K φ H Q0 R
def SimI(X:Cx)(G:GX)(tg iter:Expr)(w:WI):Prop:=PI X tg iter (y7b X.K G w)
theorem PI.imp{tg e:Expr}{t t':TI}(h:PI X tg e t)(i:∀σ H Q,t' σ H Q->t σ H Q):PI X tg e t':=fun pins s σ H R I q=>h pins s σ H R I (i σ H R q)
def iAny(K:Frag)(tl:TE):TI:=fun σ H R=>tl σ H fun x H1=>(∃a,x=.ref a/\(∃xs,SqL K H1 a xs)/\R (Itl K a) H1)\/(∃a,x=.ref a/\(∃xs,SqT K H1 a xs)/\R (Itt K a) H1)\/∃z,x=.str z/\R (Its z) H1
theorem x5w{tg l:Expr}{tl:TE}(hl:PE X l tl):PI X tg l (iAny X.K tl):=by
 intro pins s σ H R I h
 refine thn (hl pins s σ H _ I h) fun v s1 hh1=>?_
 obtain⟨x,H1,I1,r1,q1⟩:=hh1
 rcases q1 with⟨a,e,⟨xs,hq⟩,q⟩|⟨a,e,⟨xs,hq⟩,q⟩|⟨z,rfl,q⟩
 ·subst e
  cases r1
  obtain⟨its,rv,p,hz⟩:=I1.list hq
  refine wpAny_pyIter_list p.isList ?_
  refine⟨s1.heap.objs.size,[s1.heap.objs.size],_,_,H1,rfl,I1.kept (t':=s1.toks) fun b o e=>Heap.get?_push_of_some _ e,y0i a _,⟨_,Heap.get?_push_size _ rfl,rfl,rfl⟩,fun b hb=>?_,q⟩
  have e:b=s1.heap.objs.size:=by simpa using hb
  subst e
  exact I1.fpOk (Nat.le_refl _) (I1.hok.fresh (Nat.le_refl _))
 ·subst e
  cases r1
  obtain⟨its,rv,p,hz⟩:=I1.tuple hq
  refine wpAny_pyIter_tuple (show s1.heap.IsTuple a its.toArray from p) ?_
  refine⟨s1.heap.objs.size,[s1.heap.objs.size],_,_,H1,rfl,I1.kept (t':=s1.toks) fun b o e=>Heap.get?_push_of_some _ e,z8s a _,⟨_,Heap.get?_push_size _ rfl,rfl,rfl⟩,fun b hb=>?_,q⟩
  have e:b=s1.heap.objs.size:=by simpa using hb
  subst e
  exact I1.fpOk (Nat.le_refl _) (I1.hok.fresh (Nat.le_refl _))
 ·obtain⟨t,rfl⟩:=r1
  refine wpAny_pyIter_strU ?_
  refine⟨s1.heap.objs.size,[s1.heap.objs.size],_,_,H1,rfl,I1.kept (t':=s1.toks) fun b o e=>Heap.get?_push_of_some _ e,y4z _ z t,⟨Nat.zero_le _,_,Heap.get?_push_size _ rfl,rfl,rfl⟩,fun b hb=>?_,q⟩
  obtain rfl:=List.mem_singleton.mp hb
  exact I1.fpOk (Nat.le_refl _) I1.fresh
def chr1(c:Nat):PV:=.str ⟨#[c]⟩
def q5n(w:WE):WI:=fun σ S E Q=>w σ S E fun x S1=>match x with
 |.ref n=>match q3i S1 n with
  |some xs=>Q ⟨xs,fun S=>q3i S n=some xs⟩ S1
  |none=>False
 |.tup xs=>Q ⟨xs,fun _=>True⟩ S1
 |.frl xs=>Q ⟨xs,fun _=>True⟩ S1
 |.str z=>Q ⟨z.cps.toList.map chr1,fun _=>True⟩ S1
 |_=>False
theorem y7l{K:Frag}{φ:List Addr}{H:Hp}{n:Nat}{a:Addr}{xs:List PV}(qa:φ[n]?=some a):ItR K φ H (Itl K a) ⟨xs,fun S=>q3i S n=some xs⟩ where
 go:=fun φ1 H1 S1 p m R e i x hx=>by
  obtain⟨vs,sa,ra⟩:=R.seq (q7k p qa) e
  obtain⟨y,ey,ry⟩:=ra.get hx
  refine⟨⟨vs,y,sa,ey⟩,fun y' H' hh1=>?_⟩
  obtain⟨e1,e2⟩:=hh1
  subst e1
  have:=e2 vs sa
  rw[ey]at this
  cases this
  exact⟨φ1,List.prefix_refl _,.refl _,R,ry⟩
 stop:=fun φ1 H1 S1 p m R e i hi=>by
  obtain⟨vs,sa,ra⟩:=R.seq (q7k p qa) e
  exact⟨vs,sa,by rw[<-ra.length];exact hi⟩
theorem x2u{K:Frag}{φ:List Addr}{H:Hp}{a:Addr}{xs:List PV}{vs:List V}(sa:SqT K H a vs)(ra:RVs K H φ xs vs):ItR K φ H (Itt K a) ⟨xs,fun _=>True⟩ where
 go:=fun φ1 H1 S1 p m R e i x hx=>by
  have sa1:=m.sqT sa
  obtain⟨y,ey,ry⟩:=(RVs.mono m p _ _ ra).get hx
  refine⟨⟨vs,y,sa1,ey⟩,fun y' H' hh1=>?_⟩
  obtain⟨e1,e2⟩:=hh1
  subst e1
  have:=e2 vs sa1
  rw[ey]at this
  cases this
  exact⟨φ1,List.prefix_refl _,.refl _,R,ry⟩
 stop:=fun φ1 H1 S1 p m R e i hi=>⟨vs,m.sqT sa,by rw[<-ra.length];exact hi⟩
theorem x2x{K:Frag}{φ:List Addr}{H:Hp}{a:Addr}{xs:List PV}{vs:List V}(sa:SqF K H a vs)(ra:RVs K H φ xs vs):ItR K φ H (Itl K a) ⟨xs,fun _=>True⟩ where
 go:=fun φ1 H1 S1 p m R e i x hx=>by
  have sa1:=(m.sqF sa).sq
  obtain⟨y,ey,ry⟩:=(RVs.mono m p _ _ ra).get hx
  refine⟨⟨vs,y,sa1,ey⟩,fun y' H' hh1=>?_⟩
  obtain⟨e1,e2⟩:=hh1
  subst e1
  have:=e2 vs sa1
  rw[ey]at this
  cases this
  exact⟨φ1,List.prefix_refl _,.refl _,R,ry⟩
 stop:=fun φ1 H1 S1 p m R e i hi=>⟨vs,(m.sqF sa).sq,by rw[<-ra.length];exact hi⟩
theorem x2v{K:Frag}{φ:List Addr}{H:Hp}{z:Str}:ItR K φ H (Its z) ⟨z.cps.toList.map chr1,fun _=>True⟩ where
 go:=fun φ1 H1 S1 p m R e i x hx=>by
  have hx':(z.cps.toList.map chr1)[i]?=some x:=hx
  rw[List.getElem?_map]at hx'
  obtain⟨c,hc,rfl⟩:=Option.map_eq_some_iff.mp hx'
  have hc':z.cps[i]?=some c:=by simpa using hc
  refine⟨(Array.getElem?_eq_some_iff.mp hc').1,fun y' H' ⟨e1,c',e2,e3⟩=>?_⟩
  subst e1
  rw[hc']at e2
  cases e2
  exact⟨φ1,List.prefix_refl _,.refl _,R,e3⟩
 stop:=fun φ1 H1 S1 p m R e i hi=>by
  have:(z.cps.toList.map chr1).length<=i:=hi
  show z.cps.size<=i
  simpa using this
theorem q2i{tg l:Expr}{w:WE}(hl:SimE X G l w):SimI X G tg l (q5n w):=
 PI.imp (x5w hl) fun σV H Q hh1=>by obtain⟨φ,σ,S,Q0,L,R,h,k⟩:=hh1;exact(⟨φ,σ,S,_,L,R,h,fun v S1 φ1 H1 x q p1 m1 R1 r1=>by
  split at q
  ·rename_i n
   split at q
   ·rename_i xs e
    obtain ⟨a,rfl,qa⟩:=r1
    obtain ⟨vs,sa,ra⟩:=R1.seq qa e
    exact .inl ⟨a,rfl,⟨vs,sa⟩,k _ S1 φ1 H1 _ q p1 m1 R1 (y7l qa)⟩
   ·exact q.elim
  ·rename_i xs
   obtain ⟨a,vs,rfl,sa,ra⟩:=r1
   exact .inr (.inl ⟨a,rfl,⟨vs,sa⟩,k _ S1 φ1 H1 _ q p1 m1 R1 (x2u sa ra)⟩)
  ·rename_i xs
   obtain ⟨a,vs,rfl,sa,ra⟩:=r1
   exact .inl ⟨a,rfl,⟨vs,sa.sq⟩,k _ S1 φ1 H1 _ q p1 m1 R1 (x2x sa ra)⟩
  ·rename_i z
   cases r1
   exact .inr (.inr ⟨z,rfl,k _ S1 φ1 H1 _ q p1 m1 R1 x2v⟩)
  ·exact q.elim⟩)
def rngP(lo:Int)(n:Nat):List PV:=(List.range n).map fun i=>.int (lo+(i:Nat))
def q9z(wa:WA):WI:=fun σ S E Q=>wa σ S E fun xs S1=>match xs with
 |[.int j]=>(-(2 ^ 62)<=j/\j<2 ^ 62)/\Q ⟨rngP 0 j.toNat,fun _=>True⟩ S1
 |_=>False
theorem y3c{K:Frag}{φ:List Addr}{H:Hp}{lo:Int}{n:Nat}:ItR K φ H (Itr lo n) ⟨rngP lo n,fun _=>True⟩ where
 go:=fun φ1 H1 S1 p m R e i x hx=>by
  have hx':(rngP lo n)[i]?=some x:=hx
  unfold rngP at hx'
  rw[List.getElem?_map]at hx'
  obtain⟨c,hc,rfl⟩:=Option.map_eq_some_iff.mp hx'
  obtain⟨hl,rfl⟩:=List.getElem?_eq_some_iff.mp hc
  rw[List.getElem_range]
  refine⟨by show i<n;simpa using hl,fun y' H' hh1=>?_⟩
  obtain⟨e1,e2⟩:=hh1
  subst e1
  exact⟨φ1,List.prefix_refl _,.refl _,R,e2⟩
 stop:=fun φ1 H1 S1 p m R e i hi=>by
  have:(rngP lo n).length<=i:=hi
  unfold rngP at this
  show n<=i
  simpa using this
theorem z1f{tg a:Expr}{wa:WA}{p:Pos}(hm:X.mg "range" = none)(ha:SimA X G [a] wa)(hg:Gl X "range" :=by rfl)(hs:starEach [a] X.env=[(false,eval a X.env)]:=by rfl):SimI X G tg (.Call (.Name "range" p) [a] [] pos) (q9z wa):=
 PI.imp (y1p hg hm ha hs) fun σV H Q hh1=>by obtain⟨φ,σ,S,Q0,L,R,h,k⟩:=hh1;exact(⟨φ,σ,S,_,L,R,h,fun v S1 φ1 H1 x q p1 m1 R1 r1=>by
  split at q
  ·rename_i j
   obtain ⟨y,rfl,r⟩:=q2d r1
   cases r
   exact ⟨j,rfl,q.1.1,q.1.2,k _ S1 φ1 H1 _ q.2 p1 m1 R1 y3c⟩
  ·exact q.elim⟩)
def z4n(chk:q0i->Prop)(g:WG)(wb:WS)(D:PEnds)(E:EK):List PV->Loc->q0i->Prop
 |[],σ,S=>chk S/\D.nx σ S
 |x::r,σ,S=>chk S/\∃N:Loc->q0i->Prop,(∀σ' S',N σ' S'->z4n chk g wb D E r σ' S')/\g x σ S E fun σ2 S2=>wb {nx:=N,rt:=D.rt,ct:=N,bk:=D.nx} E σ2 S2
def wFor(wi:WI)(g:WG)(wb:WS):WS:=fun D E σ S=>wi σ S E fun it S1=>z4n it.chk g wb D E it.xs σ S1
theorem q6n{tg iter:Expr}{body:List Stmt}{wi:WI}{g:WG}{wb:WS}(hp:PassesOwn (model X.prog X.w) X.A X.env X.xe)(hc:X.calm=true)(hi:SimI X G tg iter wi)(hg:SimG X G tg g)(hb:z0x X G body wb)(hs:∀x,foldedSetIterable iter X.env x=pure x:=by intro _;rfl):SimS X G (.For tg iter body [] pos) (wFor wi g wb):=
 (x5l hp hc hi hg hb hs).imp fun D σV H hh1=>by obtain⟨φ,σ,S,D0,L,R,h,k⟩:=hh1;exact(⟨φ,σ,S,_,L,R,h,fun it S1 φ1 H1 J q p1 m1 R1 hj=>by
  refine ⟨fun i m σV' H'=>m=it.xs.length-i/\i<=it.xs.length/\∃φ' σ' S',φ1 <+: φ'/\Mono H1 H'/\LRel X.K G H' φ' σ' σV'/\Rel X.K φ' S' H'/\z4n it.chk g wb D0 G.ek (it.xs.drop i) σ' S',⟨it.xs.length,by simp,Nat.zero_le _,φ1,σ,S1,List.prefix_refl _,.refl _,L.mono m1 p1,R1,by simpa using q⟩,?_⟩
  rintro i m σV' H' ⟨rfl,hi,φ',σ',S',p',m',L',R',hf⟩
  by_cases hlt:i<it.xs.length
  ·rw [List.drop_eq_getElem_cons hlt]at hf
   obtain ⟨hch,N,hN,hb⟩:=hf
   obtain ⟨jg,jy⟩:=hj.go φ' H' S' p' m' R' hch i _ (List.getElem?_eq_getElem hlt)
   refine .inr ⟨jg,fun σ2V H2=>∃φ2 σ2 S2,φ' <+: φ2/\Mono H' H2/\LRel X.K G H2 φ2 σ2 σ2V/\Rel X.K φ2 S2 H2/\N σ2 S2,?_,?_⟩
   ·rintro σ2V H2 ⟨φ2,σ2,S2,p2,m2,L2,R2,hn⟩
    exact ⟨it.xs.length-(i+1),by omega,rfl,hlt,φ2,σ2,S2,p'.trans p2,m'.trans m2,L2,R2,hN σ2 S2 hn⟩
   ·intro y H2 hy
    obtain ⟨φ2,p2,m2,R2,r2⟩:=jy y H2 hy
    refine ⟨φ2,_,σ',S',_,L'.mono m2 p2,R2,r2,hb,fun σ3 S3 φ3 H3 σ3V q3 p3 m3 R3 L3=>?_⟩
    refine ⟨φ3,σ3,S3,_,L3,R3,q3,⟨?_,k.rt.up (((p1.trans p').trans p2).trans p3) (((m1.trans m').trans m2).trans m3),k.nx.up (((p1.trans p').trans p2).trans p3) (((m1.trans m').trans m2).trans m3),?_⟩⟩
    ·exact fun σ4 S4 φ4 H4 σ4V q4 p4 m4 R4 L4=>⟨φ4,σ4,S4,(p2.trans p3).trans p4,(m2.trans m3).trans m4,L4,R4,q4⟩
    ·exact fun σ4 S4 φ4 H4 σ4V q4 p4 m4 R4 L4=>⟨φ4,σ4,S4,(p2.trans p3).trans p4,(m2.trans m3).trans m4,L4,R4,q4⟩
  ·have e:i=it.xs.length:=by omega
   subst e
   rw [List.drop_length]at hf
   exact .inl ⟨hj.stop φ' H' S' p' m' R' hf.1 _ (Nat.le_refl _),k.nx σ' S' φ' H' σV' hf.2 (p1.trans p') (m1.trans m') R' L'⟩⟩)
def z0t(ix:List (Option Nat))(σ:Loc):Loc:=ix.map fun o=>match o with
 |none=>none
 |some j=>match σ[j]? with
  |some v=>v
  |none=>none
abbrev NoX:EK:=fun _ _=>False
abbrev NoG:GX:=⟨NoX,fun _ _=>False⟩
def q8i(chk:q0i->Prop)(g:WG)(wc:WT)(we:WE)(Q:VC):List PV->List PV->Loc->q0i->Prop
 |[],ys,_,S=>chk S/\Q (.ref S.length) (S++[.lst ys])
 |x::r,ys,σ,S=>chk S/\∃N:List PV->Loc->q0i->Prop,(∀ys' σ' S',N ys' σ' S'->q8i chk g wc we Q r ys' σ' S')/\g x σ S NoX fun σ2 S2=>wc σ2 S2 NoX fun b S3=>if b=true then we σ2 S3 NoX (fun y S4=>N (ys++[y]) σ2 S4)else N ys σ2 S3
def q2t:WT:=fun _ S _ Q=>Q true S
def q5c(wi:WI)(ix:List (Option Nat))(g:WG)(wc:WT)(we:WE):WE:=fun σ S E Q=>wi σ S E fun it S1=>it.xs.length<=sizeLine/\q8i it.chk g wc we Q it.xs [] (z0t ix σ) S1
theorem z4m{K:Frag}{H:Hp}{φ:List Addr}{σ:Loc}{σV:St}(ix:List (Option Nat))(L:LRel K G H φ σ σV):LRel K NoG H φ (z0t ix σ) (q3s ix σV):=by
 refine⟨by simp[z0t,q3s],fun i v e=>?_,fun _ _ _ _ q=>q.elim⟩
 unfold z0t at e
 rw[List.getElem?_map]at e
 obtain⟨o,ho,e'⟩:=Option.map_eq_some_iff.mp e
 cases o with
 |none=>cases e'
 |some j=>
  dsimp only at e'
  cases hj:σ[j]? with
  |none=>rw[hj]at e';cases e'
  |some w=>
   rw[hj]at e'
   dsimp only at e'
   subst e'
   obtain⟨x,hx,r⟩:=L.at' j v hj
   refine⟨x,?_,r⟩
   unfold q3s
   rw[List.getElem?_map,ho]
   simp[hx]
end
end Ev
namespace Ev
open PySem L2 PySem.Spec PyProof.Rows
section
variable{X:Cx}{G:GX}{pos:Pos}
end
abbrev Den:=List PV->q0i->EK->VC->Prop
def ClsP(K:Frag)(v:PV)(cls:Value):Prop:=∃c C,v=.exc c/\cls=.ref C/\PySem.W.nsIn K mainGlobals (Str.ofString c)=some (some (.ref C))
def xkOf(K:Frag)(f:PV->Hp->Prop):XK:=fun cls _ H'=>∃v,ClsP K v cls/\f v H'
def KX(K:Frag)(φ:List Addr)(H:Hp)(E0:EK)(f:PV->Hp->Prop):Prop:=∀v S' φ' H',E0 v S'->φ <+: φ'->Mono H H'->Rel K φ' S' H'->f v H'
theorem y9b{P:Program}{w:World}{X:Cx}{K:Frag}:q5w (CXE P w) X (xkOf K NoG.xh):=x6j.imp fun _ _ _ hh1=>by obtain⟨_,_,q⟩:=hh1;exact(q)
def q1a(K:Frag)(sp:Den):Sp:=fun vs H Q E=>∃φ args S Q0 E0 f,RVs K H φ args vs/\Rel K φ S H/\sp args S E0 Q0/\KE K φ H Q0 Q/\KX K φ H E0 f/\∀cls d H',xkOf K f cls d H'->E cls d H'
def q0t(sp:Den)(wa:WA):WE:=fun σ S E Q=>wa σ S E fun xs S1=>sp xs S1 E Q
theorem q0h{X:Cx}{G:GX}{pos:Pos}{k:Nat}{f:Addr}{fd:FuncData}{ps:List Str}{sp:Den}{x:Str}{p:Pos}{e:Expr}{es:List Expr}{wa:WA}(C:Cal X.prog X.w X.K X.mg X.base k x ps (q1a X.K sp) f fd)(hr:Room k X.A)(hx:q5w (CXE X.prog X.w) X (xkOf X.K G.xh))(ha:SimA X G (e::es) wa)(hg:Gl X x:=by rfl)
  (hdb:(x==("__debug__" : Str))=false:=by decide) (he:starEach (e::es) X.env=(false,eval e X.env)::starEach es X.env:=by rfl) (hpl:(backTo pos (starEach es X.env)).any (·.1)=false:=by rfl) :
  SimE X G (.Call (.Name x p) (e::es) [] pos) (q0t sp wa):=
 (x1p C.G hr hg C.m C.kp C.b .nil hx ha hdb he hpl).imp fun σV H Q hh1=>by obtain⟨φ,σ,S,Q0,L,R,h,k⟩:=hh1;exact(⟨φ,σ,S,_,L,R,h,fun v S1 φ1 H1 x q p1 m1 R1 r1=>
  ⟨φ1,v,S1,Q0,G.ek,G.xh,by rw [List.append_nil];exact r1,R1,q,k.up p1 m1,(L.mono m1 p1).kx,fun _ _ _ z=>z⟩⟩)
def fnP(np nl:Nat)(w:WS):Den:=fun args S E Q=>args.length=np/\w {nx:=fun _ S'=>Q .non S',rt:=Q} E (args.map some++List.replicate (nl-np) none) S
theorem y0n{K:Frag}{G:GX}{H:Hp}{φ:List Addr}{args:List PV}{vs:List V}(N:List Str)(r:RVs K H φ args vs)(kx:KX K φ H G.ek G.xh):LRel K G H φ (args.map some++List.replicate (N.length-args.length) none) (L2.z0c N vs):=by
 refine⟨by unfold L2.z0c;simp[r.length],fun i v e=>?_,kx⟩
 by_cases hi:i<args.length
 ·rw[List.getElem?_append_left (by simpa using hi),List.getElem?_map]at e
  obtain⟨u,hu,e'⟩:=Option.map_eq_some_iff.mp e
  cases e'
  obtain⟨x,hx,rx⟩:=r.get hu
  refine⟨x,?_,rx⟩
  unfold L2.z0c
  rw[List.getElem?_append_left (by simpa[<-r.length]using hi),List.getElem?_map,hx]
  rfl
 ·rw[List.getElem?_append_right (by simpa using hi),List.getElem?_replicate]at e
  split at e<;>cases e
theorem x8l{P:Program}{w:World}{K:Frag}{mg:Str->Option Value}{base:Heap}{x qual:Str}{st:Stmt}{f:Addr}{fd:FuncData}{N ps:List Str}{k:Nat}{wb:WS}(F:Fun K x qual st f fd)(Sc:FnScope N ps (q1z st))
  (sim:∀(cdv:Value)(A:Around)(outer:List Env)(s:Shared)(H:Hp)(E:XK)(G:GX),RoomW k (A.deeper (envOfC qual (q1z st) s.heap.objs.size f cdv))->q5w (CXE P w) (cxOf (CXE P w) P w K mg base N qual (q1z st) f cdv A outer s H E) (xkOf K G.xh)->
   z0x (cxOf (CXE P w) P w K mg base N qual (q1z st) f cdv A outer s H E) G (q6h st) wb) :
  FnOk P w K mg base (CXE P w) (k+1) f fd ps (q1a K (fnP ps.length N.length wb)):=by
 refine F.okX Sc (fun vs H Q E h=>?_) (fun cdv A outer s H vs Q E hr h=>?_)
 ·obtain⟨φ,args,S,Q0,E0,g,r,_,⟨h,_⟩,_⟩:=h
  rw[<-r.length,h]
 ·obtain⟨φ,args,S,Q0,E0,g,r,R,⟨hl,h⟩,kk,kx,hE⟩:=h
  refine⟨_,sim cdv A outer s H E ⟨E0,g⟩ hr (w0a.imp hE),φ,_,S,{nx:=fun _ S'=>Q0 .non S',rt:=Q0},?_,R,h,⟨fun σ' S' φ' H' σV' q p m R' L'=>kk _ S' φ' H' _ q p m R' rfl,kk,fun _ _ _ _ _ q=>q.elim,fun _ _ _ _ _ q=>q.elim⟩⟩
  have:=y0n (G:=⟨E0,g⟩) N r kx
  rw[hl]at this
  exact this
theorem q1w{P:Program}{w:World}{K:Frag}{mg:Str->Option Value}{base:Heap}{k:Nat}{f:Addr}{fd:FuncData}{ps:List Str}:FnOk P w K mg base (CXE P w) k f fd ps (q1a K fun _ _ _ _=>False):=
 ⟨fun vs H Q E hh1=>by obtain⟨_,_,_,_,_,_,_,_,h,_⟩:=hh1;exact(h.elim),fun A outer s H args us vs Q E _ _ _ _ hh2=>by obtain⟨_,_,_,_,_,_,_,_,h,_⟩:=hh2;exact(h.elim)⟩
def LawP(sp:Den):Prop:=∀ns:List Int,ns.length<=63->sp [.frl (ns.map .int)] [] NoX fun v _=>v=.bl true
theorem x7i{K:Frag}{sp:Den}(h:LawP sp):∀(H:Hp)(a:Addr)(ns:List Int),ns.length<=63->Only H->SqL K H a (ns.map V.int)->q1a K sp [.ref a] H (fun v _=>v=.bl true) fun _ _ _=>False:=by
 intro H a ns hl hO hS
 refine⟨[],[.frl (ns.map .int)],[],_,NoX,fun _ _=>False,⟨_,_,rfl,⟨a,_,rfl,?_,RVs.of_ints ns⟩,rfl⟩,⟨rfl,by simp,fun n a o e=>by simp at e⟩,h ns hl,fun v S' φ' H' x q p m R r=>?_,fun _ _ _ _ q=>q.elim,fun _ _ _ hh1=>by obtain⟨_,_,q⟩:=hh1;exact(q)⟩
 ·rcases hS with hS|hS
  ·rcases hS with z|⟨o,z⟩
   ·rcases hO a with w|⟨o,xs,w⟩
    ·rw[z]at w;cases w
    ·rw[z]at w;cases w
   ·exact .inl ⟨o,z⟩
  ·exact .inr hS
 ·subst q
  exact r
end Ev
namespace L2
open PySem PySem.Spec PyProof.Rows
section
variable{prog:Program}{w:World}{A:Around}{E:Value->Shared->Prop}{s:Shared}
end
end L2
namespace Ev
open PySem L2
section
variable{X:Cx}{G:GX}{pos:Pos}
abbrev WD:=Loc->q0i->EK->(List (Key×PV)->q0i->Prop)->Prop
def KD(K:Frag)(φ:List Addr)(H:Hp)(Q0:List (Key×PV)->q0i->Prop)(Q:List (V×V)->Hp->Prop):Prop:=∀kvs S' φ' H' ws,Q0 kvs S'->φ <+: φ'->Mono H H'->Rel K φ' S' H'->RKs K H' φ' kvs ws->Q (ws.map fun kv=>(kV kv.1,kv.2)) H'
def w0k(K:Frag)(G:GX)(w:WD)(σV:St)(H:Hp)(Q:List (V×V)->Hp->Prop):Prop:=∃φ σ S Q0,LRel K G H φ σ σV/\Rel K φ S H/\w σ S G.ek Q0/\KD K φ H Q0 Q
def SimD(X:Cx)(G:GX)(pos:Pos)(ks:List (Option Expr))(vs:List Expr)(w:WD):Prop:=∃trs,PPs X pos ks vs trs/\∀σV H Q,w0k X.K G w σV H Q->z7g trs σV H Q
def y4v:WD:=fun _ S _ Q=>Q [] S
def q8w(wk wv:WE)(w:WD):WD:=fun σ S E Q=>wk σ S E fun k S1=>wv σ S1 E fun v S2=>match z2u k with
 |some kk=>w σ S2 E fun kvs S3=>Q ((kk,v)::kvs) S3
 |none=>False
theorem y5r:SimD X G pos [] [] y4v:=⟨[],x1g,fun σV H Q hh1=>by obtain⟨φ,σ,S,Q0,L,R,h,k⟩:=hh1;exact(k [] S φ H [] h (List.prefix_refl _) (.refl _) R .nil)⟩
theorem q6p{k v:Expr}{ks:List (Option Expr)}{vs:List Expr}{wk wv:WE}{w:WD}(hk:SimE X G k wk)(hv:SimE X G v wv)(hr:SimD X G pos ks vs w):SimD X G pos (some k::ks) (v::vs) (q8w wk wv w):=by
 obtain⟨trs,hp,hi⟩:=hr
 refine⟨_,y6h hk hv hp,fun σV H Q hh1=>?_⟩
 obtain⟨φ,σ,S,Q0,L,R,h,kk⟩:=hh1
 refine⟨φ,σ,S,_,L,R,h,fun pk S1 φ1 H1 x q p1 m1 R1 r1=>⟨φ1,σ,S1,_,L.mono m1 p1,R1,q,fun pv S2 φ2 H2 y q2 p2 m2 R2 r2=>?_⟩⟩
 refine hi _ _ _ ?_
 split at q2
 ·rename_i key ek
  refine⟨φ2,σ,S2,_,(L.mono m1 p1).mono m2 p2,R2,q2,fun kvs S3 φ3 H3 ws q3 p3 m3 R3 r3=>?_⟩
  have:=kk ((key,pv)::kvs) S3 φ3 H3 ((key,y)::ws) q3 ((p1.trans p2).trans p3) ((m1.trans m2).trans m3) R3 (.cons ⟨rfl,RV.mono m3 p3 _ _ r2⟩ r3)
  rw[z2t r1 ek]
  exact this
 ·exact q2.elim
def z7t(kvs more:List (Key×PV)):List (Key×PV):=more.foldl (fun acc kv=>putP acc kv.1 kv.2) kvs
theorem RKs.merge{K:Frag}{H:Hp}{φ:List Addr}{more:List (Key×PV)}{rs:List (Key×V)}(r:RKs K H φ more rs):∀{kvs:List (Key×PV)}{vs:List (Key×V)},RKs K H φ kvs vs->RKs K H φ (z7t kvs more) (z1i vs rs):=by
 unfold RKs at r
 induction r with
 |nil=>intro kvs vs q;exact q
 |@cons p q ps qs h t ih=>
  intro kvs vs r0
  have e:RKs K H φ (putP kvs p.1 p.2) (putK vs q.1 q.2):=by
   have:=r0.put p.1 h.2
   rw[<-h.1];exact this
  exact ih e
def y4x(w:WD):WE:=fun σ S E Q=>w σ (S++[.dK []]) E fun kvs S1=>(S1[S.length]?=some (.dK [])/\kvs.length<=15)/\Q (.ref S.length) (S1.set S.length (.dK (z7t [] kvs)))
theorem y5o{keys:List (Option Expr)}{values:List Expr}{w:WD}(h:SimD X G pos keys values w)(hall:keys.all (·.isSome)=true:=by rfl)(hl:keys.length=values.length:=by rfl)(h0:keys≠[]:=by simp)(h15:keys.length<=15:=by decide):SimE X G (.Dict keys values pos) (y4x w):=by
 obtain⟨trs,hp,hi⟩:=h
 refine(x1n hp hall hl h0 h15).imp fun σV H Q hh1=>?_
 obtain⟨φ,σ,S,Q0,L,R,h,k⟩:=hh1
 intro p hp
 refine hi _ _ _ ?_
 have R1:Rel X.K (φ++[p]) (S++[.dK []]) (upd H p (.dK [])):=R.new (o:=.dK []) hp ⟨[],q2r,.nil⟩
 refine⟨φ++[p],σ,_,_,L.mono (.new _ hp) (List.prefix_append _ _),R1,h,fun kvs S' φ' H' ws q p' m' R' r'=>?_⟩
 obtain⟨⟨e,hl⟩,q⟩:=q
 have ep:φ'[S.length]?=some p:=q7k p' (by rw[<-R.len];simp)
 obtain⟨vs,ev,rv⟩:=R'.obj _ _ _ ep e
 have:vs=[]:=List.length_eq_zero_iff.mp (by rw[<-RKs.length rv];rfl)
 subst this
 refine⟨ev,ws,rfl,by rw[<-RKs.length r'];exact hl,?_⟩
 refine k _ _ φ' _ _ q ((List.prefix_append _ _).trans p') (((Mono.new _ hp).trans m').trans (.dict ev)) (R'.put (o:=.dK (z7t [] kvs)) ep (.dict ev) ⟨_,q2r,?_⟩) ⟨p,rfl,ep⟩
 exact RKs.mono (.dict ev) (List.prefix_refl _) (RKs.merge r' .nil)
end
section
variable{X:Cx}{G:GX}{pos:Pos}
theorem q7a{K:Frag}{w:WI}(σ:St)(H:Hp)(R R':It->Hp->Prop)(h:∀J H1,R J H1->R' J H1)(q:y7b K G w σ H R):y7b K G w σ H R':=by
 obtain⟨φ,σ,S,Q0,L,R,hw,k⟩:=q
 exact⟨φ,σ,S,Q0,L,R,hw,fun it S' φ' H' J q p m R hj=>h _ _ (k it S' φ' H' J q p m R hj)⟩
theorem q8h{tg iter elt c:Expr}{scope:Scope}{wi:WI}{g:WG}{wc:WT}{we:WE}{ix:List (Option Nat)}{σV:St}{H:Hp}{Q:VK}(h:q7n X.K G (q5c wi ix g wc we) σV H Q):z5o (y7b X.K G wi) ix (z6b X.K NoG g) (z2p X.K NoG wc) (q7n X.K NoG we) σV H Q:=by
 obtain⟨φ,σ,S,Q0,L,R,h,k⟩:=h
 refine⟨φ,σ,S,_,L,R,h,fun it S1 φ1 H1 J hh1 p1 m1 R1 hj=>?_⟩
 obtain⟨hz,q⟩:=hh1
 refine⟨fun i ys σV' H'=>∃φ' σ' S' pys,φ1 <+: φ'/\Mono H1 H'/\LRel X.K NoG H' φ' σ' σV'/\Rel X.K φ' S' H'/\RVs X.K H' φ' pys ys/\q8i it.chk g wc we Q0 (it.xs.drop i) pys σ' S',it.xs.length,hz,⟨φ1,_,S1,[],List.prefix_refl _,.refl _,z4m ix (L.mono m1 p1),R1,rfl,by simpa using q⟩,?_⟩
 rintro i ys σV' H' hi ⟨φ',σ',S',pys,p',m',L',R',rys,hf⟩
 by_cases hlt:i<it.xs.length
 ·rw[List.drop_eq_getElem_cons hlt]at hf
  obtain⟨hch,N,hN,hb⟩:=hf
  obtain⟨jg,jy⟩:=hj.go φ' H' S' p' m' R' hch i _ (List.getElem?_eq_getElem hlt)
  refine .inr ⟨hlt,jg,fun y H2 hy=>?_⟩
  obtain⟨φ2,p2,m2,R2,r2⟩:=jy y H2 hy
  refine⟨φ2,_,σ',S',_,L'.mono m2 p2,R2,r2,hb,fun σ3 S3 φ3 H3 σ3V q3 p3 m3 R3 L3=>?_⟩
  refine⟨φ3,σ3,S3,_,L3,R3,q3,fun b S4 φ4 H4 q4 p4 m4 R4=>?_⟩
  cases b with
  |true=>
   have hw:we σ3 S4 NoX (fun y S4=>N (pys++[y]) σ3 S4):=q4
   refine⟨φ4,σ3,S4,_,L3.mono m4 p4,R4,hw,fun z S5 φ5 H5 z' q5 p5 m5 R5 r5=>?_⟩
   exact⟨φ5,σ3,S5,pys++[z],(((p'.trans p2).trans p3).trans p4).trans p5,(((m'.trans m2).trans m3).trans m4).trans m5,(L3.mono m4 p4).mono m5 p5,R5,(RVs.mono (((m2.trans m3).trans m4).trans m5) (((p2.trans p3).trans p4).trans p5) _ _ rys).append (.one r5),hN _ _ _ q5⟩
  |false=>exact⟨φ4,σ3,S4,pys,((p'.trans p2).trans p3).trans p4,((m'.trans m2).trans m3).trans m4,L3.mono m4 p4,R4,RVs.mono ((m2.trans m3).trans m4) ((p2.trans p3).trans p4) _ _ rys,hN _ _ _ q4⟩
 ·have e:i=it.xs.length:=by omega
  subst e
  rw[List.drop_length]at hf
  exact .inl ⟨hj.stop φ' H' S' p' m' R' hf.1 _ (Nat.le_refl _),(k.up (p1.trans p') (m1.trans m')).lst hf.2 R' rys⟩
theorem z7k{D:Ends}{σV:St}{H:Hp}{i:Nat}{w:WE}(h:y7a X.K G (wSet i w) D σV H):q7n X.K G w σV H fun v H1=>D.nx (σV.set i (some v)) H1:=by
 obtain⟨φ,σ,S,D0,L,R,h,k⟩:=h
 exact⟨φ,σ,S,_,L,R,h,fun v S1 φ1 H1 x q p1 m1 R1 r1=>k.nx _ S1 φ1 H1 _ q p1 m1 R1 ((L.mono m1 p1).set i r1)⟩
theorem z3i{K:Frag}(σ:St)(H:Hp)(Q:Bool->Hp->Prop)(h:z2p K NoG q2t σ H Q):Q true H:=by
 obtain⟨φ,σ,S,Q0,L,R,h,k⟩:=h
 exact k true S φ H h (List.prefix_refl _) (.refl _) R
theorem q6a{tg iter elt:Expr}{scope:Scope}{wi:WI}{g:WG}{we:WE}(N':List Str)(ix:List (Option Nat))(hc:X.calm=true)(co:CompOk X scope N' ix)(hi:SimI X G tg iter wi)(hg:∀cl C s H fp,SimG (X.comp scope N' cl C s H fp) NoG tg g)(he:∀cl C s H fp,SimE (X.comp scope N' cl C s H fp) NoG elt we)
  (hs:∀x,foldedSetIterable iter X.env x=pure x:=by intro _;rfl):SimE X G (.ListComp elt [⟨tg,iter,[],0⟩] scope pos) (q5c wi ix g q2t we):=
 (z7p (g:=z6b X.K NoG g) (tc:=z2p X.K NoG q2t) (te:=q7n X.K NoG we) hc co hi q7a hg (fun _ _ _ _ _=>y1k z3i) he hs).imp fun σV H Q h=>q8h (tg:=tg) (iter:=iter) (elt:=elt) (c:=elt) (scope:=scope) h
theorem z1e{tg iter elt c:Expr}{scope:Scope}{wi:WI}{g:WG}{wc:WT}{we:WE}(N':List Str)(ix:List (Option Nat))(hc:X.calm=true)(co:CompOk X scope N' ix)(hi:SimI X G tg iter wi)(hg:∀cl C s H fp,SimG (X.comp scope N' cl C s H fp) NoG tg g)(ht:∀cl C s H fp,SimT (X.comp scope N' cl C s H fp) NoG c wc)(he:∀cl C s H fp,SimE (X.comp scope N' cl C s H fp) NoG elt we)
  (hs:∀x,foldedSetIterable iter X.env x=pure x:=by intro _;rfl):SimE X G (.ListComp elt [⟨tg,iter,[c],0⟩] scope pos) (q5c wi ix g wc we):=
 (z7p (g:=z6b X.K NoG g) (tc:=z2p X.K NoG wc) (te:=q7n X.K NoG we) hc co hi q7a hg (fun cl C s H fp=>y1j (ht cl C s H fp)) he hs).imp fun σV H Q h=>q8h (tg:=tg) (iter:=iter) (elt:=elt) (c:=c) (scope:=scope) h
theorem z5q(i:Nat){x:Str}{px sp:Pos}{tg iter elt:Expr}{scope:Scope}{wi:WI}{g:WG}{we:WE}(N':List Str)(ix:List (Option Nat))(hN:X.N.Nodup)(hc:X.calm=true)(co:CompOk X scope N' ix)(hi:SimI X G tg iter wi)(hg:∀cl C s H fp,SimG (X.comp scope N' cl C s H fp) NoG tg g)(he:∀cl C s H fp,SimE (X.comp scope N' cl C s H fp) NoG elt we)
  (hsw:swapsWith (.ListComp elt [⟨tg,iter,[],0⟩] scope pos) (some (.Name x px)) sp.line X.env=pure true:=by rfl) (hii:X.N[i]?=some x:=by rfl) (hx:L2.Loc X.env.scope x:=by first|exact Or.inl rfl|exact Or.inr rfl)
  (hs:∀x,foldedSetIterable iter X.env x=pure x:=by intro _;rfl) (hf:X.fn x=true\/X.env.scope.names.lookup x=some .local:=by first|exact .inl rfl|exact .inr rfl|assumption) :
  SimS X G (.Assign [.Name x px] (.ListComp elt [⟨tg,iter,[],0⟩] scope pos) sp) (wSet i (q5c wi ix g q2t we)):=
 (z0e (g:=z6b X.K NoG g) (tc:=z2p X.K NoG q2t) (te:=q7n X.K NoG we) hsw hN hii hx hc co hi q7a hg (fun _ _ _ _ _=>y1k z3i) he hs hf).imp fun D σV H h=>q8h (tg:=tg) (iter:=iter) (elt:=elt) (c:=elt) (scope:=scope) (z7k h)
theorem q7w(i:Nat){x:Str}{px sp:Pos}{tg iter elt c:Expr}{scope:Scope}{wi:WI}{g:WG}{wc:WT}{we:WE}(N':List Str)(ix:List (Option Nat))(hN:X.N.Nodup)(hc:X.calm=true)(co:CompOk X scope N' ix)(hi:SimI X G tg iter wi)(hg:∀cl C s H fp,SimG (X.comp scope N' cl C s H fp) NoG tg g)(ht:∀cl C s H fp,SimT (X.comp scope N' cl C s H fp) NoG c wc)(he:∀cl C s H fp,SimE (X.comp scope N' cl C s H fp) NoG elt we)
  (hsw:swapsWith (.ListComp elt [⟨tg,iter,[c],0⟩] scope pos) (some (.Name x px)) sp.line X.env=pure true:=by rfl) (hii:X.N[i]?=some x:=by rfl) (hx:L2.Loc X.env.scope x:=by first|exact Or.inl rfl|exact Or.inr rfl)
  (hs:∀x,foldedSetIterable iter X.env x=pure x:=by intro _;rfl) (hf:X.fn x=true\/X.env.scope.names.lookup x=some .local:=by first|exact .inl rfl|exact .inr rfl|assumption) :
  SimS X G (.Assign [.Name x px] (.ListComp elt [⟨tg,iter,[c],0⟩] scope pos) sp) (wSet i (q5c wi ix g wc we)):=
 (z0e (g:=z6b X.K NoG g) (tc:=z2p X.K NoG wc) (te:=q7n X.K NoG we) hsw hN hii hx hc co hi q7a hg (fun cl C s H fp=>y1j (ht cl C s H fp)) he hs hf).imp fun D σV H h=>q8h (tg:=tg) (iter:=iter) (elt:=elt) (c:=c) (scope:=scope) (z7k h)
end
end Ev
namespace My
open PySem L2 Ev
def Ex(D:List Nat)(S S':q0i):Prop:=S.length<=S'.length/\∀i,i<S.length->i∉D->S'[i]?=S[i]?
theorem Ex.refl(D:List Nat)(S:q0i):Ex D S S:=⟨Nat.le_refl _,fun _ _ _=>rfl⟩
theorem Ex.trans{D:List Nat}{S S1 S2:q0i}(a:Ex D S S1)(b:Ex D S1 S2):Ex D S S2:=⟨Nat.le_trans a.1 b.1,fun i h n=>(b.2 i (Nat.lt_of_lt_of_le h a.1) n).trans (a.2 i h n)⟩
theorem Ex.weak{D D':List Nat}{S S':q0i}(a:Ex D S S')(h:∀i∈D,i∈D'):Ex D' S S':=⟨a.1,fun i l n=>a.2 i l fun z=>n (h i z)⟩
theorem Ex.nil{D:List Nat}{S S':q0i}(a:Ex [] S S'):Ex D S S':=a.weak fun i h=>by cases h
theorem Ex.app{D:List Nat}{S S':q0i}(a:Ex D S S')(xs:List SO):Ex D S (S'++xs):=⟨by rw[List.length_append];exact Nat.le_trans a.1 (Nat.le_add_right _ _),fun i h n=>by rw[List.getElem?_append_left (Nat.lt_of_lt_of_le h a.1)];exact a.2 i h n⟩
theorem Ex.set{D:List Nat}{S S':q0i}(a:Ex D S S'){i:Nat}{o:SO}(hi:i∈D\/S.length<=i):Ex D S (S'.set i o):=⟨by rw[List.length_set];exact a.1,fun j h n=>by
 rw [List.getElem?_set_ne]
 ·exact a.2 j h n
 ·rintro rfl
  rcases hi with z|z
  ·exact n z
  ·omega⟩
theorem Ex.get{D:List Nat}{S S':q0i}(a:Ex D S S'){i:Nat}{o:SO}(e:S[i]?=some o)(n:i∉D):S'[i]?=some o:=by
 rw[a.2 i (List.getElem?_eq_some_iff.mp e).1 n];exact e
theorem Ex.new(D:List Nat)(S:q0i)(xs:List SO):Ex D S (S++xs):=(Ex.refl D S).app xs
theorem q1g(S:q0i)(o:SO):(S++[o])[S.length]?=some o:=by simp
theorem q1m{S:q0i}{i:Nat}{o:SO}(e:S[i]?=some o)(xs:List SO):(S++xs)[i]?=some o:=by
 rw[List.getElem?_append_left (List.getElem?_eq_some_iff.mp e).1];exact e
theorem q1k{S:q0i}{i:Nat}{o:SO}(u:SO)(e:S[i]?=some o):(S.set i u)[i]?=some u:=List.getElem?_set_self (List.getElem?_eq_some_iff.mp e).1
theorem q1x{S:q0i}{i j:Nat}{o:SO}(u:SO)(e:S[i]?=some o)(h:j≠i):(S.set j u)[i]?=some o:=by rw[List.getElem?_set_ne h];exact e
theorem q1l{S:q0i}{i:Nat}{o:SO}(e:S[i]?=some o):i<S.length:=(List.getElem?_eq_some_iff.mp e).1
theorem q1f{S:q0i}{n:Nat}{xs:List PV}(e:S[n]?=some (.lst xs)):q7m S n=some xs:=by unfold q7m;rw[e]
theorem q0v{S:q0i}{n:Nat}{xs:List PV}(e:S[n]?=some (.lst xs)):q3i S n=some xs:=by unfold q3i;rw[e]
theorem x0t(S:q0i)(xs:List PV):q3i (S++[.lst xs]) S.length=some xs:=q0v (q1g _ _)
theorem x2g(S:q0i)(xs:List PV):q7m (S++[.lst xs]) S.length=some xs:=q1f (q1g _ _)
theorem seqI{a b:WS}{D:PEnds}{E:EK}{σ:Ev.Loc}{S:q0i}(h:∀K:Ev.Loc->q0i->Prop,(∀σ S,b D E σ S->K σ S)->a {D with nx:=K} E σ S):wSeq a b D E σ S:=h _ fun _ _ z=>z
theorem forI{chk:q0i->Prop}{g:WG}{wb:WS}{D:PEnds}{E:EK}(P:List PV->Ev.Loc->q0i->Prop)(hn:∀σ S,P [] σ S->chk S/\D.nx σ S)
  (hc:∀x r σ S,P (x::r) σ S->∀N:Ev.Loc->q0i->Prop,(∀σ S,P r σ S->N σ S)->chk S/\g x σ S E fun σ2 S2=>wb {nx:=N,rt:=D.rt,ct:=N,bk:=D.nx} E σ2 S2):∀(xs:List PV)(σ:Ev.Loc)(S:q0i),P xs σ S->z4n chk g wb D E xs σ S
 |[],σ,S,h=>hn σ S h
 |x::r,σ,S,h=>⟨(hc x r σ S h (P r) fun _ _ z=>z).1,P r,fun σ' S' q=>forI P hn hc r σ' S' q,(hc x r σ S h (P r) fun _ _ z=>z).2⟩
theorem z3a{chk:q0i->Prop}{g:WG}{wc:WT}{we:WE}{Q:VC}(P:List PV->List PV->Ev.Loc->q0i->Prop)(hn:∀ys σ S,P [] ys σ S->chk S/\Q (.ref S.length) (S++[.lst ys]))
  (hc:∀x r ys σ S,P (x::r) ys σ S->∀N:List PV->Ev.Loc->q0i->Prop,(∀ys σ S,P r ys σ S->N ys σ S)->chk S/\g x σ S NoX fun σ2 S2=>wc σ2 S2 NoX fun b S3=>if b=true then we σ2 S3 NoX (fun y S4=>N (ys++[y]) σ2 S4)else N ys σ2 S3):∀(xs ys:List PV)(σ:Ev.Loc)(S:q0i),P xs ys σ S->q8i chk g wc we Q xs ys σ S
 |[],ys,σ,S,h=>hn ys σ S h
 |x::r,ys,σ,S,h=>⟨(hc x r ys σ S h (P r) fun _ _ _ z=>z).1,P r,fun ys' σ' S' q=>z3a P hn hc r ys' σ' S' q,(hc x r ys σ S h (P r) fun _ _ _ z=>z).2⟩
theorem q8v{c:WT}{b:WS}{D:PEnds}{E:EK}{σ:Ev.Loc}{S:q0i}(P:Nat->Ev.Loc->q0i->Prop)(m:Nat)(h0:P m σ S)
  (hs:∀m σ S,P m σ S->∀T F:Ev.Loc->q0i->Prop,(∀S1,(∀N:Ev.Loc->q0i->Prop,(∀m' σ' S',m'<m->P m' σ' S'->N σ' S')->b {D with nx:=N,ct:=N,bk:=D.nx} E σ S1)->T σ S1)->(∀S1,D.nx σ S1->F σ S1)->c σ S E fun bo S1=>if bo=true then T σ S1 else F σ S1):q6i c b D E σ S:=by
 refine⟨P,⟨m,h0⟩,fun m σ S p=>?_⟩
 exact hs m σ S p (fun σ S1=>∃N:Ev.Loc->q0i->Prop,(∀σ' S',N σ' S'->∃m',m'<m/\P m' σ' S')/\b {D with nx:=N,ct:=N,bk:=D.nx} E σ S1) D.nx (fun S1 h=>⟨fun σ' S'=>∃m',m'<m/\P m' σ' S',fun σ' S' n=>n,h _ fun m' σ' S' a b=>⟨m',a,b⟩⟩) fun S1 h=>h
theorem y7i:("tuple" ∈q5r)=True:=by simp[q5r]
theorem x7q:("str" ∈q5r)=True:=by simp[q5r]
theorem x7r:("int" ∈q5r)=True:=by simp[q5r]
theorem x2j:("bool" ∈q5r)=True:=by simp[q5r]
theorem q9g:isT "NoneType" "list" = false:=rfl
theorem q8r:isT "NoneType" "tuple" = false:=rfl
theorem z0p:isT "NoneType" "str" = false:=rfl
theorem z0q:isT "NoneType" "int" = false:=rfl
theorem q9h:isT "NoneType" "bool" = false:=rfl
theorem z4g:isT "bool" "list" = false:=rfl
theorem z2y:isT "bool" "tuple" = false:=rfl
theorem z6m:isT "bool" "str" = false:=rfl
theorem z6n:isT "bool" "int" = true:=rfl
theorem z4h:isT "bool" "bool" = true:=rfl
theorem z6k:isT "int" "list" = false:=rfl
theorem z4f:isT "int" "tuple" = false:=rfl
theorem z9m:isT "int" "str" = false:=rfl
theorem z9n:isT "int" "int" = true:=rfl
theorem z6l:isT "int" "bool" = false:=rfl
theorem z6g:isT "str" "list" = false:=rfl
theorem z4c:isT "str" "tuple" = false:=rfl
theorem z9k:isT "str" "str" = true:=rfl
theorem z9l:isT "str" "int" = false:=rfl
theorem z6h:isT "str" "bool" = false:=rfl
theorem z2v:isT "tuple" "list" = false:=rfl
theorem z1a:isT "tuple" "tuple" = true:=rfl
theorem z4a:isT "tuple" "str" = false:=rfl
theorem z4b:isT "tuple" "int" = false:=rfl
theorem z2w:isT "tuple" "bool" = false:=rfl
theorem z4d:isT "list" "list" = true:=rfl
theorem z2x:isT "list" "tuple" = false:=rfl
theorem z6i:isT "list" "str" = false:=rfl
theorem z6j:isT "list" "int" = false:=rfl
theorem z4e:isT "list" "bool" = false:=rfl
theorem x2a:nrf .non=true:=rfl
theorem x6w(b:Bool):nrf (.bl b)=true:=rfl
theorem x2b(b:Int):nrf (.int b)=true:=rfl
theorem x1z(b:Str):nrf (.str b)=true:=rfl
theorem z0h(b:List PV):nrf (.tup b)=nrfs b:=by simp only[nrf]
theorem z7z(a b:Int):eqB (.int a) (.int b)=decide (a=b):=by simp only[eqB];exact Bool.beq_eq_decide_eq a b
theorem q4o(a b:Str):eqB (.str a) (.str b)=decide (a=b):=by
 simp only[eqB]
 by_cases h:a=b
 ·subst h;simp
 ·rw[decide_eq_false h];exact beq_eq_false_iff_ne.mpr h
theorem y3l(a:Str)(b:List PV):eqB (.str a) (.tup b)=false:=by simp only[eqB]
theorem y3k(a:List PV)(b:Str):eqB (.tup a) (.str b)=false:=by simp only[eqB]
theorem q6s(a b:List PV):eqB (.tup a) (.tup b)=eqBs a b:=by simp only[eqB]
theorem y6u(a:Str):okEq (.str a)=True:=by simp[okEq,nrf,dep]
theorem q8q(l:List Str):q6c (l.map PV.str):=by
 refine⟨?_,?_⟩
 ·induction l with
  |nil=>rfl
  |cons a r ih=>simp only[List.map_cons,nrfs,nrf,ih,Bool.and_self]
 ·induction l with
  |nil=>simp[deps]
  |cons a r ih=>simp only[List.map_cons,deps,dep];omega
theorem y2b:q6c []=True:=by simp[q6c,nrfs,deps]
theorem x8v(a b:Int)(S:q0i)(Q:VC):cEq (.int a) (.int b) S Q=(Q (.bl (decide (a=b))) S):=by simp only[cEq,cEqG,nrf,z7z,q5m,q5l,true_and,and_self]
theorem y9q(a b:Str)(S:q0i)(Q:VC):cEq (.str a) (.str b) S Q=(Q (.bl (decide (a=b))) S):=by simp only[cEq,cEqG,nrf,q4o,q5m,q5l,true_and,and_self]
theorem y9p(a:Str)(b:List PV)(S:q0i)(Q:VC):cEq (.str a) (.tup b) S Q=(nrfs b=true/\Q (.bl false) S):=by simp only[cEq,cEqG,nrf,eqB,q5m,q5l,true_and,and_true,Bool.not_false]
theorem y9o(a:List PV)(b:Str)(S:q0i)(Q:VC):cEq (.tup a) (.str b) S Q=(nrfs a=true/\Q (.bl false) S):=by simp only[cEq,cEqG,nrf,eqB,q5m,q5l,true_and,and_true,Bool.not_false]
theorem z8g(a b:List PV)(S:q0i)(Q:VC):cEq (.tup a) (.tup b) S Q=((okEq (.tup a)/\okEq (.tup b))/\Q (.bl (eqBs a b)) S):=by simp only[cEq,cEqG,q5m,q5l]
theorem x8t(m n:Nat)(S:q0i)(Q:VC):cEq (.ref m) (.ref n) S Q=(match q3i S m,q3i S n with
  |some xs,some ys=>(q6c xs/\q6c ys)/\Q (.bl (eqBs xs ys)) S
  |_,_=>False):=by simp only [cEq,cEqG,q5m,q5l];try rfl
theorem x8q(a b:Int)(S:q0i)(Q:VC):cNe (.int a) (.int b) S Q=(Q (.bl (!decide (a=b))) S):=by simp only[cNe,cEqG,nrf,z7z,q5m,q5l,true_and,and_self]
theorem x8p(a b:Str)(S:q0i)(Q:VC):cNe (.str a) (.str b) S Q=(Q (.bl (!decide (a=b))) S):=by simp only[cNe,cEqG,nrf,q4o,q5m,q5l,true_and,and_self]
theorem x8o(a b:List PV)(S:q0i)(Q:VC):cNe (.tup a) (.tup b) S Q=((okEq (.tup a)/\okEq (.tup b))/\Q (.bl (!eqBs a b)) S):=by simp only[cNe,cEqG,q5m,q5l]
theorem y9n(m n:Nat)(S:q0i)(Q:VC):cNe (.ref m) (.ref n) S Q=(match q3i S m,q3i S n with
  |some xs,some ys=>(q6c xs/\q6c ys)/\Q (.bl (!eqBs xs ys)) S
  |_,_=>False):=by simp only [cNe,cEqG,q5m,q5l];try rfl
theorem x8r(a b:Str)(S:q0i)(Q:VC):cIn (.str a) (.str b) S Q=(Q (.bl (inS a b)) S):=by simp only[cIn,cInG,q5m,q5l]
theorem w1f(x:PV)(b:List PV)(S:q0i)(Q:VC):cIn x (.tup b) S Q=((okEq x/\q6c b)/\Q (.bl (b.any fun y=>eqB y x)) S):=by cases x<;>simp only[cIn,cInG,q5m,q5l]
theorem w1g(x:PV)(n:Nat)(S:q0i)(Q:VC):cIn x (.ref n) S Q=(match q3i S n with
  |some ys=>(okEq x/\q6c ys)/\Q (.bl (ys.any fun y=>eqB y x)) S
  |none=>False):=by cases x<;>(simp only [cIn,cInG,q5m,q5l];try rfl)
theorem y8d(x:PV)(n:Nat)(S:q0i)(Q:VC):z4x x (.ref n) S Q=(match q3i S n with
  |some ys=>(okEq x/\q6c ys)/\Q (.bl (!ys.any fun y=>eqB y x)) S
  |none=>False):=by cases x<;>(simp only [z4x,cInG,q5m,q5l];try rfl)
theorem big{n:Nat}(h:n<=1000000):n<=sizeLine:=Nat.le_trans h (by decide)
theorem bigl{n:Nat}(h:n<=1000000):n<sizeLine:=Nat.lt_of_le_of_lt h (by decide)
end My
namespace Ev
open PySem PySem.Spec PyProof.Rows L2
section
variable{X:Cx}{G:GX}{pos:Pos}
end
section
variable{X:Cx}{G:GX}{pos:Pos}
def Itv(K:Frag)(a:Addr)(n:Nat):It:=
 ⟨fun i H=>∃xs x,SqL K H a xs/\i<n/\xs[n-1-i]?=some x,fun i H x H'=>H'=H/\∀xs,SqL K H a xs->xs[n-1-i]?=some x,fun i _=>n<=i⟩
theorem y5a{P:Program}{w:World}{K:Frag}{tg:Expr}(a it:Addr)(n:Nat):Turn P w K tg (Itv K a n) [it] it (fun i h=>i<=n/\h.IsRevIter it a ((n:Int)-1-i)) where
 mem:=by simp
 obj:=fun i h st b hb=>by
  have e:b=it:=by simpa using hb
  subst e
  obtain⟨_,o,e,c,d⟩:=st
  exact⟨o,e,fun v z=>by rw[d]at z;cases z⟩
 keep:=fun i h h' st k=>⟨st.1,st.2.at fun o e=>k it (by simp) o e⟩
 item:=by
  intro X hP hw hK hc i pins s σ H E I hf st hg
  subst hP hw hK
  obtain⟨xs,x,hq,hi,hx⟩:=hg
  obtain⟨its,rv,p,hz⟩:=I.list hq
  obtain⟨u,hu,ru⟩:=rv.get hx
  obtain⟨f0,f1,f2,f3,f4,f5⟩:=hf it (by simp)
  have st2:=st.2
  rw[show(n:Int)-1-i=((n-1-i:Nat):Int) by omega]at st2
  refine wpAny_pyNext_rev_item st2 p.isList (x:=u) (by simpa using hu) fun h' st' sb=>?_
  have I1:Inv X pins σ H {s with heap:=h' }:=I.turned (t':=s.toks) (fun b o hb e=>(sb.2 b hb).trans e) f0 f1 f3 f4 f5
  rw[show((n-1-i:Nat):Int)-1=(n:Int)-1-((i+1:Nat):Int) by omega]at st'
  obtain⟨o,e,c,d⟩:=id st'
  exact⟨u,rfl,z9t (s:={s with heap:=h' }) e c d (by decide) ⟨x,H,I1,ru,⟨rfl,fun ys hy=>by rw[I.list_inj hy hq];exact hx⟩,⟨hi,st'⟩,fun b hb=>(hf b hb).1⟩⟩
 done:=by
  intro X hP hw hK hc i pins s σ H E I hf st hg
  subst hP hw hK
  obtain⟨f0,f1,f2,f3,f4,f5⟩:=hf it (by simp)
  have hg:n<=i:=hg
  have st2:=st.2
  have h1:=st.1
  rw[show(n:Int)-1-i=-1 by omega]at st2
  exact wpAny_pyNext_rev_end (I.ok.hd hc) st2 fun h' eb=>⟨rfl,I.turned (t':=s.toks) (fun b o hb e=>eb b o hb e) f0 f1 f3 f4 f5⟩
 self:=fun _ _ _ _ _ st h=>wpAny_pyIter_revIter st.2 h
def iRev(K:Frag)(tl:TE):TI:=fun σ H R=>tl σ H fun x H1=>∃a xs,x=.ref a/\SqL K H1 a xs/\R (Itv K a xs.length) H1
theorem z8i:bootBuiltins (Str.ofString "reversed")=some (.type "reversed"):=by with_unfolding_all rfl
theorem x5v{tg l:Expr}{tl:TE}{p:Pos}(hl:PE X l tl)(hm:X.mg "reversed" = none)(hg:Gl X "reversed" :=by rfl)(he:starEach [l] X.env=(false,eval l X.env)::starEach [] X.env:=by rfl):PI X tg (.Call (.Name "reversed" p) [l] [] pos) (iRev X.K tl):=by
 intro pins s σ H R I h
 refine wpAny_Call_Name_kw (q9c I hg hm z8i ?_)
 refine PyProof.Rows.callWith_type1 ?_ he rfl
 rw[he]
 show wpAny _ _ (spliced ((false,eval l X.env)::backTo pos (starEach [] X.env))) _ _ s
 refine Calls.spliced_cons (thn (hl pins s σ H _ I h) ?_)
 rintro v s1 ⟨x,H1,I1,r1,a,xs,rfl,hq,q⟩
 refine Calls.spliced_nil ?_
 cases r1
 obtain⟨its,rv,p,hz⟩:=I1.list hq
 refine call_reversed_list p.isList ?_
 have e0:(its.toArray.size:Int)-1=(xs.length:Int)-1-((0:Nat):Int):=by have:=rv.length;simp;omega
 refine wpAny_pyIter_revIter (l:=a) (i:=(its.toArray.size:Int)-1) ⟨_,Heap.get?_push_size _ rfl,rfl,rfl⟩ ?_
 refine⟨s1.heap.objs.size,[s1.heap.objs.size],_,_,H1,rfl,I1.kept (t':=s1.toks) fun b o e=>Heap.get?_push_of_some _ e,y5a a _ xs.length,⟨Nat.zero_le _,_,Heap.get?_push_size _ rfl,rfl,by rw[e0];rfl⟩,fun b hb=>?_,q⟩
 have e:b=s1.heap.objs.size:=by simpa using hb
 subst e
 exact I1.fpOk (Nat.le_refl _) (I1.hok.fresh (Nat.le_refl _))
theorem x2w{K:Frag}{φ:List Addr}{H:Hp}{n k:Nat}{a:Addr}{xs:List PV}(qa:φ[n]?=some a)(hk:k=xs.length):ItR K φ H (Itv K a k) ⟨xs.reverse,fun S=>q3i S n=some xs⟩ where
 go:=fun φ1 H1 S1 p m R e i x hx=>by
  subst hk
  obtain⟨vs,sa,ra⟩:=R.seq (q7k p qa) e
  have hi:i<xs.length:=by have:=(List.getElem?_eq_some_iff.mp hx).1;simpa using this
  have hx':xs[xs.length-1-i]?=some x:=by rw[<-List.getElem?_reverse hi];exact hx
  obtain⟨y,ey,ry⟩:=ra.get hx'
  refine⟨⟨vs,y,sa,hi,ey⟩,fun y' H' hh1=>?_⟩
  obtain⟨e1,e2⟩:=hh1
  subst e1
  have:=e2 vs sa
  rw[ey]at this
  cases this
  exact⟨φ1,List.prefix_refl _,.refl _,R,ry⟩
 stop:=fun φ1 H1 S1 p m R e i hi=>by
  subst hk
  have:xs.reverse.length<=i:=hi
  rw[List.length_reverse]at this
  exact this
def z5l(w:WE):WI:=fun σ S E Q=>w σ S E fun x S1=>match x with
 |.ref n=>match q3i S1 n with
  |some xs=>Q ⟨xs.reverse,fun S=>q3i S n=some xs⟩ S1
  |none=>False
 |_=>False
theorem z7i{tg l:Expr}{w:WE}{p:Pos}(hm:X.mg "reversed" = none)(hl:SimE X G l w)(hg:Gl X "reversed" :=by rfl)(he:starEach [l] X.env=(false,eval l X.env)::starEach [] X.env:=by rfl):SimI X G tg (.Call (.Name "reversed" p) [l] [] pos) (z5l w):=
 PI.imp (x5v hl hm hg he) fun σV H Q hh1=>by obtain⟨φ,σ,S,Q0,L,R,h,k⟩:=hh1;exact(⟨φ,σ,S,_,L,R,h,fun v S1 φ1 H1 x q p1 m1 R1 r1=>by
  split at q
  ·rename_i n
   split at q
   ·rename_i xs e
    obtain ⟨a,rfl,qa⟩:=r1
    obtain ⟨vs,sa,ra⟩:=R1.seq qa e
    exact ⟨a,vs,rfl,sa,k _ S1 φ1 H1 _ q p1 m1 R1 (x2w qa ra.length.symm)⟩
   ·exact q.elim
  ·exact q.elim⟩)
end
section
variable{X:Cx}{G:GX}{pos:Pos}
end
end Ev
namespace My
open PySem L2 Ev
theorem ix_t(xs:List PV)(i:Int)(S:q0i)(Q:VC):bIx (.tup xs) (.int i) S Q=match atI xs i with
  |some v=>Q v S
  |none=>False:=rfl
theorem ix_s(z:Str)(i:Int)(S:q0i)(Q:VC):bIx (.str z) (.int i) S Q=(z.length<=sizeLine/\match atI z.cps.toList i with
  |some c=>Q (.str ⟨#[c]⟩) S
  |none=>False):=rfl
theorem ix_f(xs:List PV)(i:Int)(S:q0i)(Q:VC):bIx (.frl xs) (.int i) S Q=match atI xs i with
  |some v=>Q v S
  |none=>False:=rfl
theorem ix_r(n:Nat)(y:PV)(S:q0i)(Q:VC):bIx (.ref n) y S Q=match S[n]? with
  |some (.lst xs)=>match y with
   |.int i=>match atI xs i with
    |some v=>Q v S
    |none=>False
   |_=>False
  |some (.dK kvs)=>match z2u y with
   |some k=>match valP kvs k with
    |some v=>Q v S
    |none=>False
   |none=>False
  |_=>False:=rfl
theorem z0v{chk:q0i->Prop}{g:WG}{wc:WT}{we:WE}{Q:VC}{ys:List PV}{σ:Ev.Loc}{S:q0i}(h1:chk S)(h:Q (.ref S.length) (S++[.lst ys])):q8i chk g wc we Q [] ys σ S:=⟨h1,h⟩
theorem q6t{chk:q0i->Prop}{g:WG}{we:WE}{Q:VC}{x:PV}{r ys:List PV}{σ:Ev.Loc}{S:q0i}(h1:chk S)
  (h:∀N:List PV->Ev.Loc->q0i->Prop,(∀ys σ S,q8i chk g q2t we Q r ys σ S->N ys σ S)->g x σ S NoX fun σ2 S2=>we σ2 S2 NoX (fun y S4=>N (ys++[y]) σ2 S4)):q8i chk g q2t we Q (x::r) ys σ S:=
 ⟨h1,_,fun _ _ _ z=>z,h _ fun _ _ _ z=>z⟩
end My
namespace L2
open PySem PySem.Spec PyProof.Rows
def Cx.nx(X:Cx):Cx:={X with xe:=fun _ _=>False}
def Cx.hd(X:Cx)(e:Addr):Cx:={X with A:=X.A.mark (some (.ref e)),calm:=false,xe:=fun _ _=>False}
section
variable{X:Cx}{pins:List (Addr×Obj)}{σ:St}{H H':Hp}{s:Shared}
theorem Inv.nx(I:Inv X pins σ H s):Inv X.nx pins σ H s:=
 ⟨⟨I.ok.mod,I.ok.kind,I.ok.glob,I.ok.blt,I.ok.above,I.ok.inj,I.ok.has,I.ok.cab,I.ok.hd,I.ok.frames,I.ok.stk,I.ok.exf,I.ok.bs,I.ok.bsz,I.ok.noex,I.ok.exfs,I.ok.funs,I.ok.frf⟩,I.os,I.bare,I.base,I.loc,I.cell,I.free,I.freeC,I.pin,I.hok,I.len⟩
theorem Inv.ofnx(o:X.Ok)(I:Inv X.nx pins σ H s):Inv X pins σ H s:=⟨o,I.os,I.bare,I.base,I.loc,I.cell,I.free,I.freeC,I.pin,I.hok,I.len⟩
theorem Inv.hd{e:Addr}(I:Inv X pins σ H s):Inv (X.hd e) pins σ H s:=
 ⟨⟨I.ok.mod,I.ok.kind,I.ok.glob,I.ok.blt,I.ok.above,I.ok.inj,I.ok.has,I.ok.cab,fun z=>(Bool.false_ne_true z).elim,I.ok.frames,I.ok.stk,I.ok.exf,I.ok.bs,I.ok.bsz,I.ok.noex,I.ok.exfs,I.ok.funs,I.ok.frf⟩,I.os,I.bare,I.base,I.loc,I.cell,I.free,I.freeC,I.pin,I.hok,I.len⟩
theorem Inv.ofhd{e:Addr}(o:X.Ok)(I:Inv (X.hd e) pins σ H s):Inv X pins σ H s:=⟨o,I.os,I.bare,I.base,I.loc,I.cell,I.free,I.freeC,I.pin,I.hok,I.len⟩
theorem SP.imp{Y:Cx}{D:Ends}{f:Flow}(i:∀σ H s,Inv Y pins σ H s->Inv X pins σ H s)(h:SP Y pins D f s):SP X pins D f s:=by
 unfold SP at *
 cases f with
 |next=>obtain⟨a,b,c,d⟩:=h;exact⟨a,b,i _ _ _ c,d⟩
 |brk=>obtain⟨a,b,c,d⟩:=h;exact⟨a,b,i _ _ _ c,d⟩
 |cont=>obtain⟨a,b,c,d⟩:=h;exact⟨a,b,i _ _ _ c,d⟩
 |ret u=>obtain⟨v,a,b,c,d⟩:=h;exact⟨v,a,b,i _ _ _ c,d⟩
end
def EXE(X:Cx)(pins:List (Addr×Obj))(σ:St)(E:XK):Value->Shared->Prop:=fun e s'=>∃H1 s1,Inv X pins σ H1 s1/\CXE X.prog X.w X.stack H1 s1 E e s'
abbrev TEX:=St->Hp->VK->XK->Prop
def PEX(X:Cx)(e:Expr)(t:TEX):Prop:=
 ∀(pins:List (Addr×Obj))(s:Shared)(σ:St)(H:Hp)(Q:VK)(E:XK),Inv X pins σ H s->t σ H Q E->wpAny (model X.prog X.w) X.A (eval e X.env) (EP X pins σ Q) (EXE X pins σ E) s
abbrev XC:=Value->St->Hp->Prop
abbrev TSX:=Ends->XC->St->Hp->Prop
def XEnd(X:Cx)(pins:List (Addr×Obj))(E:XC):Value->Shared->Prop:=fun e s'=>∃σ,EXE X pins σ (fun cls _ H'=>E cls σ H') e s'
def PSX(X:Cx)(st:Stmt)(t:TSX):Prop:=
 ∀(pins:List (Addr×Obj))(s:Shared)(σ:St)(H:Hp)(D:Ends)(E:XC),Inv X pins σ H s->t D E σ H->wpAny (model X.prog X.w) X.A (exec st X.env) (SP X pins D) (XEnd X pins E) s
def PSXs(X:Cx)(st:List Stmt)(t:TSX):Prop:=
 ∀(pins:List (Addr×Obj))(s:Shared)(σ:St)(H:Hp)(D:Ends)(E:XC),Inv X pins σ H s->t D E σ H->wpAny (model X.prog X.w) X.A (execs st X.env) (SP X pins D) (XEnd X pins E) s
section
variable{X:Cx}{k:Nat}{f:Addr}{fd:FuncData}{ps:List Str}{sp:Sp}{dvs:List V}{ds:List Value}{x:Str}{p pos:Pos}{e:Expr}{es:List Expr}{t:TA}
theorem x0u{pins:List (Addr×Obj)}{σ:St}{H:Hp}{s:Shared}{Q:VK}{E:XK}{us:List Value}{vs:List V}(F:FnOk X.prog X.w X.K X.mg X.base (CXE X.prog X.w) k f fd ps sp)(hr:Room k X.A)(hb:z3f X.K fd ps ds)(hd:Vals dvs ds)
  (I:Inv X pins σ H s) (r:Vals vs us) (h:sp (vs++dvs) H Q E):wpAny (model X.prog X.w) X.A (call (.ref f) us) (EP X pins σ Q) (EXE X pins σ E) s:=by
 have r2:Vals (vs++dvs) (us++ds):=r.append hd
 have hl:(us++ds).length=ps.length:=by rw[<-r2.length];exact F.len _ _ _ _ h
 refine wpAny_call (codeAny_mono (F.run X.A X.stack s H ⟨us,[]⟩ (us++ds) (vs++dvs) Q E hr I.env0 (hb s us I.kIn hl) r2 h) fun r s' hq=>?_)
 cases r with
 |error e=>exact⟨H,s,I,hq⟩
 |ok fl=>
  cases fl with
  |ret u=>exact I.after hq
  |next=>exact False.elim hq
  |brk=>exact False.elim hq
  |cont=>exact False.elim hq
theorem y6l(F:FnOk X.prog X.w X.K X.mg X.base (CXE X.prog X.w) k f fd ps sp)(hr:Room k X.A)(hg:Gl X x)(hm:X.mg x=some (.ref f))(hk:PySem.W.keepIn X.K (.ref f)=true)(hb:z3f X.K fd ps ds)(hd:Vals dvs ds)
  (ha:PA X.nx (e::es) t) (hdb:(x==("__debug__" : Str))=false:=by decide) (he:starEach (e::es) X.env=(false,eval e X.env)::starEach es X.env:=by rfl) (hpl:(backTo pos (starEach es X.env)).any (·.1)=false:=by rfl) :
  PEX X (.Call (.Name x p) (e::es) [] pos) (fun σ H Q E=>t σ H fun vs H1=>sp (vs++dvs) H1 Q E):=by
 intro pins s σ H Q E I h
 refine wpAny_Call_Name_kw (z0o I hg hm ?_ hdb)
 refine PySem.W.callWith_K (h₀:=X.base) I.ok.mod.kin hk (wpAny_mono (ha pos pins s σ H _ I.nx h) (fun us s1 ⟨vs,H1,I1,r,q⟩=>⟨(I1.ofnx I.ok).kIn,?_⟩) fun _ _ z=>z.elim) he hpl
 exact x0u F hr hb hd (I1.ofnx I.ok) r q
end
section
variable{X:Cx}{e:Expr}{te:TEX}{pos:Pos}
theorem x1b{i:Nat}{x:Str}{pos':Pos}(hN:X.N.Nodup)(hi:X.N[i]?=some x)(hx:Loc X.env.scope x)(he:PEX X e te)(hs:swapsWith e (some (.Name x pos')) pos.line X.env=pure false:=by rfl)(hf:X.fn x=true\/X.env.scope.names.lookup x=some .local:=by first|exact .inl rfl|exact .inr rfl|assumption) :
  PSX X (.Assign [.Name x pos'] e pos) (fun D E σ H=>te σ H (fun v H1=>D.nx (σ.set i (some v)) H1) fun cls _ H'=>E cls σ H'):=by
 intro pins s σ H D E I h
 refine wpAny_Assign_Name (wpAny_mono (he pins s σ H _ _ I h) (fun v s1 ⟨y,H1,I1,r1,q1⟩=>?_) fun _ _ z=>⟨σ,z⟩) hs
 exact q9l I1 hN hi hx r1 (fun s2 I2=>⟨_,H1,I2,q1⟩) hf
theorem y6c:PSXs X [] (fun D _ σ H=>D.nx σ H):=by
 intro pins s σ H D E I h
 exact wpAny_execs_nil ⟨σ,H,I,h⟩
theorem y1l{st:Stmt}{sts:List Stmt}{t u:TSX}(a:PSX X st t)(b:PSXs X sts u):PSXs X (st::sts) (fun D E σ H=>t {D with nx:=fun σ1 H1=>u D E σ1 H1} E σ H):=by
 intro pins s σ H D E I h
 refine wpAny_execs_cons (wpAny_mono (a pins s σ H _ E I h) (fun f s1 q=>?_) fun _ _ z=>z)
 cases f with
 |next=>obtain⟨σ1,H1,I1,q1⟩:=q;exact b pins s1 σ1 H1 D E I1 q1
 |ret u=>exact q
 |brk=>exact q
 |cont=>exact q
end
section
variable{X:Cx}{pins:List (Addr×Obj)}{σ:St}{H H':Hp}{s:Shared}
theorem Inv.gone{i:Nat}{x:Str}{h':Heap}{t':Nat}{m:Str->Option Value}{v:Option Value}(I:Inv X pins σ H s)(hN:X.N.Nodup)(hi:X.N[i]?=some x)(hm:s.heap.Ns X.env.locals m)(hn':h'.Ns X.env.locals (fun y=>if y=x then v else m y))(hs:Heap.SameBut X.env.locals s.heap h') :
  Inv X pins (σ.set i none) H {s with heap:=h',toks:=t' }:=by
 obtain⟨m0,hn,hl⟩:=id I.loc
 have em:m0=m:=by rw[hn.eq_nsMap,hm.eq_nsMap]
 subst em
 have cne:=I.cne
 have tracked:HOk X.prog X.w H h':=fun b ob e=>by
  refine(I.hok b ob e).stay (fun c w' hc q=>(hs.2 c ?_).trans q) (fun _ q=>q) fun _ _ q=>q
  rintro rfl
  rcases hc with rfl|hc
  ·rw[I.free]at e;cases e
  ·rw[I.free]at hc;cases hc
 refine⟨I.ok,I.os,I.bare,⟨fun b o e n hb hx=>?_,fun b o e n hb hx=>?_,I.base.free,fun b o e hx=>?_,I.base.tups,I.base.frzs,I.base.tbls⟩,⟨_,hn',fun j y v' e1 e2 e3=>?_⟩,fun y c e=>?_,I.free,I.freeC,fun p hp=>?_,tracked,by simpa using I.len⟩
 ·exact(hs.2 b (Nat.ne_of_lt (Nat.lt_of_lt_of_le (Heap.lt_size e) I.ok.above))).trans (I.base.keep b o e n hb hx)
 ·obtain⟨sl,e1⟩:=I.base.slot b o e n hb hx
  exact⟨sl,(hs.2 b (Nat.ne_of_lt (Nat.lt_of_lt_of_le (Heap.lt_size e) I.ok.above))).trans e1⟩
 ·obtain⟨o',e1⟩:=I.base.there b o e hx
  exact⟨o',(hs.2 b (Nat.ne_of_lt (Nat.lt_of_lt_of_le (Heap.lt_size e) I.ok.above))).trans e1⟩
 ·have hj:j≠i:=by
   rintro rfl
   by_cases hlt:j<σ.length
   ·rw[List.getElem?_set_self hlt]at e2;cases e2
   ·rw[List.getElem?_eq_none (by simpa using hlt)]at e2;cases e2
  rw[List.getElem?_set_ne (Ne.symm hj)]at e2
  obtain⟨u',r',q⟩:=hl j y v' e1 e2 e3
  refine⟨u',r',?_⟩
  rcases q with⟨k,e⟩|⟨k,c,e,z⟩
  ·refine .inl ⟨k,?_⟩
   have:y≠x:=fun e=>hj (z2m hN e1 (e▸hi))
   simp[this,e]
  ·exact .inr ⟨k,c,e,z.sameBut hs (cne y c e)⟩
 ·obtain⟨w',z⟩:=I.cell y c e
  exact⟨w',z.sameBut hs (cne y c e)⟩
 ·obtain⟨e,n,ne,nf,d⟩:=I.pin p hp
  exact⟨(hs.2 p.1 ne).trans e,n,ne,nf,d⟩
theorem Inv.news{b:Addr}(I:Inv X pins σ H s)(n:s.heap.get? b=none):(b∈X.ex\/X.s₀.heap.get? b=none)/\b≠X.env.locals/\(∀x c,X.env.cells.lookup x=some c->c≠b)/\∀p∈X.pn++pins,p.1≠b:=by
 refine⟨?_,?_,fun x c e z=>?_,fun p hp z=>?_⟩
 ·by_cases hb:b∈X.ex
  ·exact .inl hb
  ·refine .inr ?_
   cases q:X.s₀.heap.get? b with
   |none=>rfl
   |some o=>
    obtain⟨o',e1⟩:=I.base.there b o q hb
    rw[n]at e1;cases e1
 ·rintro rfl
  obtain⟨m,⟨o,_,_,ho,_⟩,_⟩:=I.loc
  rw[n]at ho;cases ho
 ·subst z
  obtain⟨v,o,ho,_⟩:=I.cell x c e
  rw[n]at ho;cases ho
 ·subst z
  obtain⟨e,_⟩:=I.pin p hp
  rw[n]at e;cases e
theorem y6v{h h':Heap}{L:Addr}{m:Str->Option Value}(hn:h.Ns L m)(k:∀o,h.get? L=some o->∃sl,h'.get? L=some {o with slots:=sl}):h'.Ns L m:=by
 obtain⟨o,es,ep,ho,r⟩:=hn
 obtain⟨sl,e⟩:=k o ho
 exact⟨_,es,ep,e,r⟩
theorem Inv.past{h':Heap}{own:List Addr}(I:Inv X pins σ H s)(hst:X.stack=X.env::X.outer)(hf:X.env.frame=some X.env.locals)(nw:∀b∈own,((b∈X.ex\/X.s₀.heap.get? b=none)/\b≠X.env.locals/\(∀x c,X.env.cells.lookup x=some c->c≠b)/\∀p∈X.pn++pins,p.1≠b)/\H b=none)
  (p:Past (frs X.stack) own s.heap h'):Inv X pins σ H {s with heap:=h' }:=by
 have efs:frs X.stack=X.env.locals::X.fs:=by rw[hst];show frs (X.env::X.outer)=_;unfold frs;rw[List.filterMap_cons,hf];rfl
 refine I.stepX (ch:=own) (g':=s.gens) (d':=s.drawn) (t':=s.toks) (fun b hb=>(nw b hb).1) (fun b o n1 n2 n3 e _=>?_) (fun b o n1 n2 n3 e _=>?_) (fun b o _ _ z=>z) (fun b o _ e=>p.there b o e) (fun b xs z=>z) (fun b o u z=>z) (fun b ps z=>⟨#[],by rw[Array.append_empty];exact z⟩) (fun m hn=>?_) (HOk.past I.hok p I.stkFree fun b hb=>(nw b hb).2) I.bare
 ·exact p.keep b o e n3 (by rw[efs];exact fun z=>(List.mem_cons.mp z).elim n1 n2)
 ·exact p.slot b o e n3 (by rw[efs];exact List.mem_cons_of_mem _ n2)
 ·refine y6v hn fun o ho=>p.slot _ o ho (fun z=>(nw _ z).1.2.1 rfl) (by rw[efs];exact List.mem_cons_self)
end
def y9w(a:Addr)(cls:Value)(h:Heap):Prop:=∃o vs,h.get? a=some o/\o.cls=cls/\o.data=.fields vs
theorem y9w.ok{P:Program}{w:World}{H:Hp}{a T:Addr}{cls:Value}{h:Heap}(F:Fly a cls [T] h):q2y P w H h a (.ext (y9w a cls)):=by
 obtain⟨oe,vs,hd,he,hc,hdt,h1,hh⟩:=F.is
 refine⟨⟨oe,vs,he,hc,hdt⟩,⟨oe,he⟩,fun h1 h2 hh1 k=>by obtain⟨o,vs,q,c,d⟩:=hh1;exact(⟨o,vs,k o q,c,d⟩)⟩
section
variable{X:Cx}{i:Nat}{y n:Str}{yp hpos pos:Pos}{cv:Value}{body suite:List Stmt}{b₀:Stmt}{tb:TSX}{ts:TS}
theorem x8n{pins:List (Addr×Obj)}{E:XC}{e:Value}{s':Shared}{Q:Flow->Shared->Prop}{hs:List ExceptHandler}(hst:X.stack=X.env::X.outer)(hf:X.env.frame=some X.env.locals)(h:XEnd X pins E e s')
  (go:∀a T cls σ H h',e=.ref a->Inv X pins σ H {s' with heap:=h' }->Fly a cls [T] h'->(∀b∈[a,T],((b∈X.ex\/X.s₀.heap.get? b=none)/\b≠X.env.locals/\(∀x c,X.env.cells.lookup x=some c->c≠b)/\∀p∈X.pn++pins,p.1≠b)/\H b=none)->E cls σ H->wpAny (model X.prog X.w) X.A (handleBy (.ref a) X.env hs) Q X.xe {s' with heap:=h' }) :
  wpAny (model X.prog X.w) X.A (noteFrame e X.env) (fun _ s₂=>wpAny (model X.prog X.w) X.A (setFlight e none) (fun _ s₃=>wpAny (model X.prog X.w) X.A (handleBy e X.env hs) Q X.xe s₃) X.xe s₂) X.xe s':=by
 obtain⟨σ,H1,s1,I1,a,cls,own,H2,rfl,os,bare,un,hok,F,new,q⟩:=h
 have I2:Inv X pins σ H2 s':=I1.call' os un hok bare (fun b z=>absurd z (by simp))
 refine z7r (base:=X.base) (outer:=X.outer) (by rw[I2.ok.frames,hst]) (by have:=I2.stack;rw[hst]at this;exact this) hf F fun h' T nT P' F'=>?_
 have nw:∀b∈a::own,((b∈X.ex\/X.s₀.heap.get? b=none)/\b≠X.env.locals/\(∀x c,X.env.cells.lookup x=some c->c≠b)/\∀p∈X.pn++pins,p.1≠b)/\H2 b=none:=fun b hb=>⟨I1.news (new b hb).1,(new b hb).2⟩
 refine go a T cls σ H2 h' rfl (I2.past hst hf nw (by rw[hst];exact P')) F' (fun b hb=>?_) q
 simp only[List.mem_cons,List.not_mem_nil,or_false]at hb
 rcases hb with rfl|rfl
 ·exact nw b (by simp)
 ·exact⟨I2.news nT,HOk.none_of I2.hok nT⟩
end
theorem x1e{X:Cx}{y:Str}{yp hpos pos:Pos}{cv:Value}{body suite:List Stmt}{b₀:Stmt}{tb:TSX}{ts:TS}(hst:X.stack=X.env::X.outer)(hf:X.env.frame=some X.env.locals)(hB:PSXs X body tb)(hg:Gl X y)(hm:X.mg y=some cv)(hS:∀a,PSs (X.hd a) (b₀::suite) ts)
  (hd:(y==("__debug__" : Str))=false:=by decide) :
  PS X (.Try body [.ExceptHandler (some (.Name y yp)) none (b₀::suite) hpos] [] [] pos) (fun D σ H=>tb D (fun cls σ' H'=>PySem.W.exmOne X.K cls cv=some true/\ts D σ' H') σ H):=by
 intro pins s σ H D I h
 have ok:=I.ok
 refine wpAny_Try_except (wpAny_mono (hB pins s σ H _ _ I h) (fun f s1 q=>?_) fun e s1 q=>?_)
 ·cases f with
  |next=>exact wpAny_execs_nil q
  |ret u=>exact q
  |brk=>exact q
  |cont=>exact q
 ·refine x8n hst hf q fun a T cls σ1 H1 h1 _ I1 F1 nw hh1=>?_
  obtain⟨em,hq⟩:=hh1
  refine wpAny_handleBy_cons (codeAny_handlers_test ?_) (by intro z;cases z)
  refine z0o (X:=X.hd a) (I1.hd (e:=a)) hg hm ?_ hd
  obtain⟨oe,vs,hdv,he,hc,hdt,h1',hh⟩:=id F1.is
  subst hc
  have LT:PySem.W.Looks (model X.prog X.w) h1 (typeOf (.ref a)) oe.cls:=by
   unfold typeOf
   exact(PySem.W.Looks.ld he).andThen .now
  refine PySem.W.exm_one I1.kIn LT em _ _ _ _ (fun _ _ z=>z) ?_
  show codeAny _ _ _ _ _
  refine codeAny_handlers_suite ?_
  refine y7e (fs:=frs X.stack) F1 fun h2 P2 F2=>?_
  have I2:Inv X pins σ1 H1 {s1 with heap:=h2}:=I1.past (s:={s1 with heap:=h1}) (h':=h2) hst hf (own:=[T]) (fun b hb=>nw b (by simp only[List.mem_singleton]at hb;subst hb;simp)) P2
  refine wpAny_mono (hS a pins _ _ _ _ (I2.hd (e:=a)) hq) (fun f s4 q4=>?_) fun _ _ z=>z.elim
  exact q4.imp fun _ _ _=>Inv.ofhd ok
end L2
namespace L2
open PySem PySem.Spec PySem.W PySem.Calls PyProof.Rows Builtin Builtin.ObjectAttr Builtin.Getset_descriptor
structure ExcK(K:Frag)(D:Addr):Prop where
 c:(clsIn K D).isSome=true
 ga:findIn K (.ref D) "__getattribute__" = some (some (.builtin "BaseException.__getattribute__"))
 nga:findIn K (.ref D) "__getattr__" = some none
 cl:findIn K (.ref D) "__class__" = some (some (.builtin "object.__class__"))
 gt:specialIn K (.builtin "object.__class__") "__get__" = some (some (.builtin "getset_descriptor.__get__"))
 tk:takesIn K (.builtin "object.__class__")=some true
 mo:mroIn K D (.type "object")=some true
 mb:mroIn K D (.type "BaseException")=some true
section
variable{K:Frag}{D x:Addr}{prog:Program}{w:World}{A:Around}{E:Value->Shared->Prop}{s:Shared}
end
end L2
namespace Ev
open PySem L2 PySem.Spec PyProof.Rows
theorem LRel.nog{K:Frag}{G:GX}{H:Hp}{φ:List Addr}{σ:Loc}{σV:L2.St}(L:LRel K G H φ σ σV):LRel K NoG H φ σ σV:=⟨L.len,L.at',fun _ _ _ _ q=>q.elim⟩
structure ExcC(K:Frag)(mg:Str->Option Value)(c:String):Prop where
 is:∃C,PySem.W.nsIn K mainGlobals (Str.ofString c)=some (some (.ref C))/\mg (Str.ofString c)=some (.ref C)/\PySem.W.excIn K C vErr "ValueError.__new__" = true
def q6m(c:String)(wa:WA):WS:=fun _ E σ S=>wa σ S E fun xs S1=>xs.length<=sizeLine/\E (.exc c) S1
section
variable{X:Cx}{G:GX}{pos:Pos}
theorem q4h{c:String}{x:Str}{np cpos:Pos}{e0:Expr}{wa:WA}(C:ExcC X.K X.mg c)(hx:q5w (CXE X.prog X.w) X (xkOf X.K G.xh))(hc:X.calm=true)(ha:SimA X G [e0] wa)(ex:x=Str.ofString c:=by rfl)(hg:Gl X x:=by rfl)
  (hd:(x==("__debug__" : Str))=false:=by decide) (he:starEach [e0] X.env=(false,eval e0 X.env)::starEach [] X.env:=by rfl):SimS X G (.Raise (some (.Call (.Name x np) [e0] [] cpos)) none pos) (q6m c wa):=by
 obtain⟨C,h1,h2,h3⟩:=C.is
 subst ex
 exact(y6f hx hc hg h2 h3 ha hd he).imp fun D σV H hh1=>by obtain⟨φ,σ,S,D0,L,R,h,k⟩:=hh1;exact(⟨φ,σ,S,_,L,R,h,fun v S1 φ1 H1 x hh2 p1 m1 R1 r1=>by obtain⟨hl,q⟩:=hh2;exact(⟨by rw[<-r1.length];exact hl,.exc c,⟨c,C,rfl,rfl,h1⟩,(L.mono m1 p1).kx _ S1 φ1 H1 q (List.prefix_refl _) (.refl _) R1⟩)⟩)
end
abbrev XEK:=PV->Loc->q0i->Prop
abbrev WSX:=PEnds->XEK->Loc->q0i->Prop
def KXS(K:Frag)(G:GX)(φ:List Addr)(H:Hp)(E0:XEK)(E:XC):Prop:=∀v σ' S' φ' H' σV' cls,E0 v σ' S'->φ <+: φ'->Mono H H'->Rel K φ' S' H'->LRel K G H' φ' σ' σV'->ClsP K v cls->E cls σV' H'
theorem KXS.up{K:Frag}{G:GX}{φ φ1:List Addr}{H H1:Hp}{E0:XEK}{E:XC}(k:KXS K G φ H E0 E)(p:φ <+: φ1)(m:Mono H H1):KXS K G φ1 H1 E0 E:=fun v σ' S' φ' H' σV' cls q p' m'=>k v σ' S' φ' H' σV' cls q (p.trans p') (m.trans m')
def y9f(K:Frag)(G:GX)(w:WSX):TSX:=fun D E σV H=>∃φ σ S D0 E0,LRel K G H φ σ σV/\Rel K φ S H/\w D0 E0 σ S/\KS K G φ H D0 D/\KXS K G φ H E0 E
def x3v(X:Cx)(G:GX)(st:Stmt)(w:WSX):Prop:=PSX X st (y9f X.K G w)
def z5g(X:Cx)(G:GX)(st:List Stmt)(w:WSX):Prop:=PSXs X st (y9f X.K G w)
def x7f(K:Frag)(G:GX)(w:WE):TEX:=fun σV H Q E=>∃φ σ S Q0 E0,LRel K G H φ σ σV/\Rel K φ S H/\w σ S E0 Q0/\KE K φ H Q0 Q/\∀v S' φ' H' cls d,E0 v S'->φ <+: φ'->Mono H H'->Rel K φ' S' H'->ClsP K v cls->E cls d H'
def x8z(X:Cx)(G:GX)(e:Expr)(w:WE):Prop:=PEX X e (x7f X.K G w)
theorem _root_.L2.PEX.imp{X:Cx}{e:Expr}{t t':TEX}(h:PEX X e t)(i:∀σ H Q E,t' σ H Q E->t σ H Q E):PEX X e t':=fun pins s σ H Q E I q=>h pins s σ H Q E I (i σ H Q E q)
theorem _root_.L2.PSX.imp{X:Cx}{e:Stmt}{t t':TSX}(h:PSX X e t)(i:∀D E σ H,t' D E σ H->t D E σ H):PSX X e t':=fun pins s σ H D E I q=>h pins s σ H D E I (i D E σ H q)
theorem _root_.L2.PSXs.imp{X:Cx}{e:List Stmt}{t t':TSX}(h:PSXs X e t)(i:∀D E σ H,t' D E σ H->t D E σ H):PSXs X e t':=fun pins s σ H D E I q=>h pins s σ H D E I (i D E σ H q)
def z7d(sp:Den)(wa:WA):WE:=fun σ S E Q=>wa σ S NoX fun xs S1=>sp xs S1 E Q
def y4q(i:Nat)(w:WE):WSX:=fun D E σ S=>w σ S (fun v S'=>E v σ S') fun v S1=>D.nx (σ.set i (some v)) S1
def y9y:WSX:=fun D _ σ S=>D.nx σ S
def y9x(w1 w2:WSX):WSX:=fun D E σ S=>w1 {D with nx:=w2 D E} E σ S
section
variable{X:Cx}{G:GX}{pos:Pos}
theorem y0t{k:Nat}{f:Addr}{fd:FuncData}{ps:List Str}{sp:Den}{x:Str}{p:Pos}{e:Expr}{es:List Expr}{wa:WA}(C:Cal X.prog X.w X.K X.mg X.base k x ps (q1a X.K sp) f fd)(hr:Room k X.A)(ha:SimA X.nx NoG (e::es) wa)(hg:Gl X x:=by rfl)
  (hdb:(x==("__debug__" : Str))=false:=by decide) (he:starEach (e::es) X.env=(false,eval e X.env)::starEach es X.env:=by rfl) (hpl:(backTo pos (starEach es X.env)).any (·.1)=false:=by rfl) :
  x8z X G (.Call (.Name x p) (e::es) [] pos) (z7d sp wa):=
 (y6l (dvs:=[]) C.G hr hg C.m C.kp C.b .nil ha hdb he hpl).imp fun σV H Q E hh1=>by obtain⟨φ,σ,S,Q0,E0,L,R,h,k,kx⟩:=hh1;exact(⟨φ,σ,S,_,L.nog,R,h,fun v S1 φ1 H1 x q p1 m1 R1 r1=>
  ⟨φ1,v,S1,Q0,E0,fun v' H'=>∀cls d,ClsP X.K v' cls->E cls d H',by rw [List.append_nil];exact r1,R1,q,k.up p1 m1,fun v' S' φ' H' q' p' m' R' cls d hc=>kx v' S' φ' H' cls d q' (p1.trans p') (m1.trans m') R' hc,fun cls d H' hh2=>by obtain ⟨v',hc,q'⟩:=hh2;exact (q' cls d hc)⟩⟩)
theorem y5k(i:Nat){x:Str}{e:Expr}{w:WE}{pos':Pos}(hN:X.N.Nodup)(he:x8z X G e w)(hi:X.N[i]?=some x:=by rfl)(hx:L2.Loc X.env.scope x:=by first|exact Or.inl rfl|exact Or.inr rfl)(hs:swapsWith e (some (.Name x pos')) pos.line X.env=pure false:=by rfl)(hf:X.fn x=true\/X.env.scope.names.lookup x=some .local:=by first|exact .inl rfl|exact .inr rfl|assumption) :
  x3v X G (.Assign [.Name x pos'] e pos) (y4q i w):=
 (x1b (i:=i) hN hi hx he hs hf).imp fun D E σV H hh1=>by obtain⟨φ,σ,S,D0,E0,L,R,h,k,kx⟩:=hh1;exact(⟨φ,σ,S,_,_,L,R,h,fun v S1 φ1 H1 x q p1 m1 R1 r1=>k.nx _ S1 φ1 H1 _ q p1 m1 R1 ((L.mono m1 p1).set i r1),fun v S' φ' H' cls d q p m R' hc=>kx v σ S' φ' H' σV cls q p m R' (L.mono m p) hc⟩)
theorem y5m:z5g X G [] y9y:=y6c.imp fun D E σV H hh1=>by obtain⟨φ,σ,S,D0,E0,L,R,h,k,kx⟩:=hh1;exact(k.nx σ S φ H σV h (List.prefix_refl _) (.refl _) R L)
theorem y0s{st:Stmt}{rest:List Stmt}{w1 w2:WSX}(h1:x3v X G st w1)(h2:z5g X G rest w2):z5g X G (st::rest) (y9x w1 w2):=
 (y1l h1 h2).imp fun D E σV H hh1=>by obtain⟨φ,σ,S,D0,E0,L,R,h,k,kx⟩:=hh1;exact(⟨φ,σ,S,_,_,L,R,h,⟨fun σ' S' φ' H' σV' q p m R' L'=>⟨φ',σ',S',D0,E0,L',R',q,k.up p m,kx.up p m⟩,k.rt,k.bk,k.ct⟩,kx⟩)
theorem y5l{st:Stmt}{w:WSX}(h:x3v X G st w):z5g X G [st] w:=(y0s h y5m).imp fun D E σV H hh1=>by obtain⟨φ,σ,S,D0,E0,L,R,h,k,kx⟩:=hh1;exact(⟨φ,σ,S,D0,E0,L,R,h,k,kx⟩)
end
def x1q(i:Nat)(D:PEnds):PEnds:={nx:=fun σ S=>D.nx (σ.set i none) S,rt:=D.rt,bk:=fun σ S=>D.bk (σ.set i none) S,ct:=fun σ S=>D.ct (σ.set i none) S}
structure Cau(K:Frag)(mg:Str->Option Value)(y:Str)(cs:List String):Prop where
 is:∃cv,mg y=some cv/\∀c∈cs,∃C,PySem.W.nsIn K mainGlobals (Str.ofString c)=some (some (.ref C))/\PySem.W.exmOne K (.ref C) cv=some true
def wTry(i:Nat)(cs:List String)(wb:WSX)(ws:WS):WS:=fun D _ σ S=>wb D (fun v σ' S'=>match v with
 |.exc c=>c∈cs/\ws (x1q i D) NoX (σ'.set i (some v)) S'
 |_=>False) σ S
section
variable{X:Cx}{G:GX}{pos:Pos}
end
def cV:V->Value
 |.ref a=>.ref a
 |.ty T=>.type T
 |_=>.none
def IsCV(v:V):Prop:=(∃a,v=.ref a)\/∃T,v=.ty T
theorem IsCV.eq{v:V}{u:Value}(h:IsCV v)(r:RelV v u):u=cV v:=by
 rcases h with⟨a,rfl⟩|⟨T,rfl⟩
 ·exact r
 ·exact r
def x9d(X:Cx)(y:Str)(v:V):Prop:=IsCV v/\∃u,RelV v u/\((X.mg y=some u)\/(X.mg y=none/\bootBuiltins y=some u/\y≠ "__name__"))
section
variable{X:Cx}{G:GX}{pos:Pos}
theorem x6g{y:Str}{v:V}(h:x9d X y v)(hg:Gl X y)(hd:(y==("__debug__" : Str))=false):PE X (.Name y pos) (tC v):=by
 obtain⟨_,u,r,h|⟨h1,h2,h3⟩⟩:=h
 ·exact z5u hg h r hd
 ·exact y1s hg h1 h2 r h3 hd
def x9j(vs:List V):TA:=fun _ H Q=>Q vs H
inductive Names(X:Cx):List Expr->List V->Prop
 |nil:Names X [] []
 |cons {y:Str} {p:Pos} {v:V} {es:List Expr} {vs:List V} (h:x9d X y v) (hg:Gl X y) (hd:(y==("__debug__" : Str))=false) (r:Names X es vs):Names X (.Name y p::es) (v::vs)
theorem Names.pa{es:List Expr}{vs:List V}(h:Names X es vs):PA X es (x9j vs):=by
 induction h with
 |nil=>exact y1v
 |cons h hg hd r ih=>exact z5v (x6g h hg hd) ih
theorem Names.cv{es:List Expr}{vs:List V}(h:Names X es vs):∀v∈vs,IsCV v:=by
 induction h with
 |nil=>simp
 |cons h hg hd r ih=>intro v hv;rcases List.mem_cons.mp hv with rfl|hv;exact h.1;exact ih v hv
def ExcH(H:Hp)(a C:Addr):Prop:=∃f:Heap->Prop,H a=some (.ext f)/\∀h,f h->∃o,h.get? a=some o/\o.cls=.ref C
structure TabX1(K:Frag)(cv:Value)(tab:List (String×Bool)):Prop where
 is:∀c b,tab.lookup c=some b->∃C,PySem.W.nsIn K mainGlobals (Str.ofString c)=some (some (.ref C))/\ExcK K C/\PySem.W.kitOne K (.ref C) cv=some b
structure TabXT(K:Frag)(cvs:List Value)(tab:List (String×Bool)):Prop where
 is:∀c b,tab.lookup c=some b->∃C,PySem.W.nsIn K mainGlobals (Str.ofString c)=some (some (.ref C))/\ExcK K C/\PySem.W.kitAny K (.ref C) cvs=some b
theorem ExcH.upd{H:Hp}{a C p:Addr}{o:HO}(x:ExcH H a C)(hp:H p=none):ExcH (upd H p o) a C:=by
 obtain⟨f,e,k⟩:=x
 exact⟨f,by rw[q1c (fun z=>by subst z;rw[hp]at e;cases e)];exact e,k⟩
end
def YV(mg:Str->Option Value)(y:Str)(v:V):Prop:=IsCV v/\∃u,RelV v u/\((mg y=some u)\/(mg y=none/\bootBuiltins y=some u/\y≠ "__name__"))
theorem YV.own{mg:Str->Option Value}{y:Str}{C:Addr}(h:mg y=some (.ref C)):YV mg y (.ref C):=⟨.inl ⟨C,rfl⟩,_,rfl,.inl h⟩
theorem YV.ty{mg:Str->Option Value}{y:Str}{T:String}(h:mg y=none)(b:bootBuiltins y=some (.type T))(n:y≠ "__name__" :=by decide):YV mg y (.ty T):=⟨.inr ⟨T,rfl⟩,_,rfl,.inr ⟨h,b,n⟩⟩
structure HIs1(K:Frag)(mg:Str->Option Value)(y:Str)(tab:List (String×Bool)):Prop where
 is:∃v,YV mg y v/\TabX1 K (cV v) tab
def y9u(mg:Str->Option Value):List Str->List V->Prop
 |[],[]=>True
 |y::ys,v::vs=>YV mg y v/\y9u mg ys vs
 |_,_=>False
structure HIsT(K:Frag)(mg:Str->Option Value)(ys:List Str)(tab:List (String×Bool)):Prop where
 is:∃vs,y9u mg ys vs/\TabXT K (vs.map cV) tab
theorem TabX1.nil{K:Frag}{cv:Value}:TabX1 K cv []:=⟨fun _ _ h=>by cases h⟩
theorem TabX1.cons{K:Frag}{cv:Value}{c:String}{C:Addr}{b:Bool}{tab:List (String×Bool)}(h:PySem.W.nsIn K mainGlobals (Str.ofString c)=some (some (.ref C)))(k:ExcK K C)(e:PySem.W.kitOne K (.ref C) cv=some b)(r:TabX1 K cv tab):TabX1 K cv ((c,b)::tab):=⟨fun c' b' q=>by
 rw [List.lookup_cons]at q
 split at q
 ·rename_i z
  have z:=eq_of_beq z
  subst z
  cases q
  exact ⟨C,h,k,e⟩
 ·exact r.is c' b' q⟩
theorem TabXT.nil{K:Frag}{cv:List Value}:TabXT K cv []:=⟨fun _ _ h=>by cases h⟩
theorem TabXT.cons{K:Frag}{cv:List Value}{c:String}{C:Addr}{b:Bool}{tab:List (String×Bool)}(h:PySem.W.nsIn K mainGlobals (Str.ofString c)=some (some (.ref C)))(k:ExcK K C)(e:PySem.W.kitAny K (.ref C) cv=some b)(r:TabXT K cv tab):TabXT K cv ((c,b)::tab):=⟨fun c' b' q=>by
 rw [List.lookup_cons]at q
 split at q
 ·rename_i z
  have z:=eq_of_beq z
  subst z
  cases q
  exact ⟨C,h,k,e⟩
 ·exact r.is c' b' q⟩
def CauL(K:Frag)(cv:Value)(cs:List String):Prop:=∀c∈cs,∃C,PySem.W.nsIn K mainGlobals (Str.ofString c)=some (some (.ref C))/\PySem.W.exmOne K (.ref C) cv=some true
theorem CauL.nil{K:Frag}{cv:Value}:CauL K cv []:=fun _ h=>by cases h
theorem CauL.cons{K:Frag}{cv:Value}{c:String}{C:Addr}{cs:List String}(h:PySem.W.nsIn K mainGlobals (Str.ofString c)=some (some (.ref C)))(e:PySem.W.exmOne K (.ref C) cv=some true)(r:CauL K cv cs):CauL K cv (c::cs):=fun c' hc=>by
 rcases List.mem_cons.mp hc with rfl|hc
 ·exact⟨C,h,e⟩
 ·exact r c' hc
section
variable{X:Cx}{G:GX}{pos:Pos}
end
section
variable{X:Cx}{G:GX}{pos:Pos}
def y4w(cs:List String)(wb:WSX)(ws:WS):WS:=fun D _ σ S=>wb D (fun v σ' S'=>match v with
 |.exc c=>c∈cs/\ws D NoX σ' S'
 |_=>False) σ S
theorem y5n{y:Str}{yp hpos:Pos}{body suite:List Stmt}{b₀:Stmt}{wb:WSX}{ws:WS}{cs:List String}(C:Cau X.K X.mg y cs)(hB:z5g X G body wb)(hS:∀a,z0x (X.hd a) NoG (b₀::suite) ws)(hst:X.stack=X.env::X.outer:=by rfl)(hf:X.env.frame=some X.env.locals:=by rfl)
  (hg:Gl X y:=by rfl) (hd:(y==("__debug__" : Str))=false:=by decide) :
  SimS X G (.Try body [.ExceptHandler (some (.Name y yp)) none (b₀::suite) hpos] [] [] pos) (y4w cs wb ws):=by
 obtain⟨cv,hm,hc⟩:=C.is
 refine(x1e (ts:=y7a X.K NoG ws) hst hf hB hg hm hS hd).imp fun D σV H ⟨φ,σ,S,D0,L,R,h,k⟩=>⟨φ,σ,S,D0,_,L,R,h,k,fun v σ' S' φ' H' σV' cls q p m R' L' hcl=>?_⟩
 obtain⟨c,C',rfl,rfl,hn⟩:=hcl
 obtain⟨hcs,hw⟩:=q
 obtain⟨C2,hn2,hx⟩:=hc c hcs
 rw[hn]at hn2
 cases hn2
 refine⟨hx,φ',_,S',_,L'.nog,R',hw,?_⟩
 have kk:=k.up p m
 have up:∀{σ1 φ1 H1 σV1},φ' <+: φ1->Mono H' H1->LRel X.K NoG H1 φ1 σ1 σV1->LRel X.K G H1 φ1 σ1 σV1:=fun {σ1 φ1 H1 σV1} p1 m1 L1=>⟨L1.len,L1.at',(L'.mono m1 p1).kx⟩
 exact⟨fun σ1 S1 φ1 H1 σV1 q1 p1 m1 R1 L1=>kk.nx _ S1 φ1 H1 _ q1 p1 m1 R1 (up p1 m1 L1),kk.rt,fun σ1 S1 φ1 H1 σV1 q1 p1 m1 R1 L1=>kk.bk _ S1 φ1 H1 _ q1 p1 m1 R1 (up p1 m1 L1),fun σ1 S1 φ1 H1 σV1 q1 p1 m1 R1 L1=>kk.ct _ S1 φ1 H1 _ q1 p1 m1 R1 (up p1 m1 L1)⟩
end
end Ev
namespace Ev
open PySem PySem.Spec PyProof.Rows L2
open PySem.AutoSeq1 (wpAny_loadPart')
section
variable{X:Cx}
end
theorem z8z(r:Addr)(n:Int)(t u v:Tok)(h0:0<=n)(h1:n<2 ^ 62) :
  Meets (Builtin.«range.__reversed__» ⟨[.ref r],[]⟩)
   (fun _ R s=>s.heap.get? r=some {cls:=.type "range",data:=.fields #[.int 0 t,.int n u,.int 1 v]}/\
    R (.ok (.ret (.ref s.heap.objs.size))) {s with heap:=s.heap.push {cls:=.type "range_iterator",data:=.fields #[rawInt (n-1),rawInt n,rawInt (-1)]}}):=
 .of_wp fun prog w A R s h=>by
  obtain⟨hp,g,d,tk,os⟩:=s;obtain⟨hl,h⟩:=h
  have e0:Builtin.Range.rangeSize 0 n 1=n:=by rw[rangeSize_one];split<;>omega
  have fl:∀i:Int,-(2 ^ 63)<=i->i<2 ^ 63->Builtin.Range.rangeFitsLong i=true:=fun i a b=>by
   unfold Builtin.Range.rangeFitsLong
   rw[decide_eq_true a,decide_eq_true b];rfl
  have sm:(Builtin.Range.rangeFitsLong 0&&Builtin.Range.rangeFitsLong n&&Builtin.Range.rangeFitsLong 1&&Builtin.Range.rangeFitsLong (-1)&&Builtin.Range.rangeFitsLong (0-1)&&Builtin.Range.rangeFitsLong (Builtin.Range.rangeSize 0 n 1))=true:=by
   rw[e0,fl 0 (by omega) (by omega),fl n (by omega) (by omega),fl 1 (by omega) (by omega),fl (-1) (by omega) (by omega),fl (0-1) (by omega) (by omega)];rfl
  have e1:(0:Int)+(n-1)*1=n-1:=by omega
  wp_walk
  rw[sm,e0,e1]
  simp only[Bool.not_true,Bool.false_eq_true,if_false,if_true]
  wp_walk
  exact⟨_,rfl,h⟩
section
variable{prog:Program}{w:World}{A:Around}{E:Value->Shared->Prop}{s:Shared}{r:Addr}{n:Int}{t u v:Tok}{Q:Value->Shared->Prop}
theorem q7r(hr:IsRange s.heap r 0 n 1 t u v)(h0:0<=n)(h1:n<2 ^ 62)(h:Q (.ref s.heap.objs.size) {s with heap:=s.heap.push {cls:=.type "range_iterator",data:=.fields #[rawInt (n-1),rawInt n,rawInt (-1)]}}):wpAny (model prog w) A (call (.builtin "range.__reversed__") [.ref r]) Q E s:=
 call_meets PySem.F.slot_range_reversed ⟨_,hr,rfl⟩ PySem.F.entry_range_reversed (PySem.F.args_range_reversed_1 _) (z8z r n t u v h0 h1) ⟨hr,h⟩
theorem q7p(hr:IsRange s.heap r 0 n 1 t u v)(h0:0<=n)(h1:n<2 ^ 62)(h:Q (.ref s.heap.objs.size) {s with heap:=s.heap.push {cls:=.type "range_iterator",data:=.fields #[rawInt (n-1),rawInt n,rawInt (-1)]}}) :
  codeAny (model prog w) A (Code.call (.builtin "reversed.__new__") {pos:=[.type "reversed",.ref r]}) (wants Q E) s:=by
 refine codeAny_of_tree (wpAny_bind (wpAny_of_eq (PySem.F.newCall_reversed_1 (.ref r)) (wpAny_pure ⟨plainId_quiet PySem.F.plain_reversed_new _,codeAny_builtin PySem.F.entry_reversed_new ?_⟩)))
 rw[Around.under_plainId PySem.F.plain_reversed_new]
 refine wpAny_bind (wpAny_of_eq (newClass_reversed (.ref r)) ?_)
 refine wpAny_bind (wpAny_of_eq rfl ?_)
 refine wpAny_bind (wpAny_of_eq rfl ?_)
 refine wpAny_bind (wpAny_specialOf (T:= "range") ⟨_,hr,rfl⟩ PySem.F.slot_range_reversed.lookup ?_)
 refine wpAny_bind (wpAny_of_eq (PySem.F.slot_range_reversed.bind (.ref r)) ?_)
 show wpAny _ _ (if _ then _ else _) _ _ _
 rw[if_neg (by intro q;cases q)]
 exact wpAny_bind (wpAny_rule (wpAny_bind (q7r hr h0 h1 (wpAny_pure h))))
theorem z0b:isSubtype (Value.type "range_iterator") (Value.type "reversed")=pure false:=by
 rw[isSubtype_type];rfl
theorem q7q(hr:IsRange s.heap r 0 n 1 t u v)(h0:0<=n)(h1:n<2 ^ 62)(h:Q (.ref s.heap.objs.size) {s with heap:=s.heap.push {cls:=.type "range_iterator",data:=.fields #[rawInt (n-1),rawInt n,rawInt (-1)]}}):wpAny (model prog w) A (call (.type "reversed") [.ref r]) Q E s:=by
 refine callType_other (U:= "range_iterator") (by decide) PySem.F.create_reversed ⟨_,_,PySem.F.mro_reversed⟩ PySem.F.made_reversed z0b (PySem.F.typeCall_reversed_1 _) (q7p (Q:=fun o s'=>o=.ref s.heap.objs.size/\s'=_) hr h0 h1 ⟨rfl,rfl⟩) ?_
 rintro o s1 ⟨rfl,rfl⟩
 exact⟨⟨_,Heap.get?_push_size _ rfl,rfl⟩,h⟩
end
section
variable{X:Cx}{G:GX}{pos:Pos}
def Itrv(n:Nat):It:=⟨fun i _=>i<n,fun i H x H'=>H'=H/\x=.int ((n:Int)-1-i),fun i _=>n<=i⟩
theorem z5n{P:Program}{w:World}{K:Frag}{tg:Expr}(it:Addr)(n:Nat):Turn P w K tg (Itrv n) [it] it (fun i h=>IsRangeIter h it (((n:Int)-1)+(i:Nat)*(-1)) ((n:Int)-(i:Nat)) (-1)) where
 mem:=by simp
 obj:=fun i h st b hb=>by
  have e:b=it:=by simpa using hb
  subst e
  exact⟨_,st,fun v z=>by
   have z':Data.fields _=Data.cell v:=z
   cases z'⟩
 keep:=fun i h h' st k=>k it (by simp) _ st
 item:=by
  intro X hP hw hK hc i pins s σ H E I hf st hg
  subst hP hw hK
  obtain⟨f0,f1,f2,f3,f4,f5⟩:=hf it (by simp)
  have W:=Walks.range (prog:=X.prog) (w:=X.w) (I.ok.hd hc) it ((n:Int)-1) (-1) n
  refine W.item i s _ _ hg st fun v h' tk hv st' kk=>?_
  obtain⟨t,rfl⟩:=hv
  have I1:Inv X pins σ H {s with heap:=h',toks:=tk}:=I.turned (fun b o hb e=>kk b o (by simpa using hb) e) f0 f1 f3 f4 f5
  refine⟨_,rfl,z9t (s:={s with heap:=h',toks:=tk}) (n:= "range_iterator") st' rfl rfl (by decide) ⟨.int ((n:Int)-1-i),H,I1,⟨t,?_⟩,⟨rfl,rfl⟩,st',fun b hb=>(hf b hb).1⟩⟩
  rw[show(n:Int)-1+(i:Nat)*(-1)=(n:Int)-1-i by omega]
 done:=by
  intro X hP hw hK hc i pins s σ H E I hf st hg
  subst hP hw hK
  obtain⟨f0,f1,f2,f3,f4,f5⟩:=hf it (by simp)
  exact wpAny_pyNext_range_end (I.ok.hd hc) st (by have:n<=i:=hg;omega) fun h' eb=>⟨rfl,I.turned (t':=s.toks) (fun b o hb e=>eb b o hb e) f0 f1 f3 f4 f5⟩
 self:=fun _ _ _ _ _ st h=>wpAny_pyIter_rangeiter st h
def x3d(ta:TA):TI:=fun σ H R=>ta σ H fun vs H1=>∃j:Int,vs=[.int j]/\0<=j/\j<2 ^ 62/\R (Itrv j.toNat) H1
theorem y1o{tg a:Expr}{ta:TA}{p p2 pos2:Pos}(ha:PA X [a] ta)(hm:X.mg "reversed" = none)(hm2:X.mg "range" = none)(hg:Gl X "reversed" :=by rfl)(hg2:Gl X "range" :=by rfl)
  (he:starEach [.Call (.Name "range" p2) [a] [] pos2] X.env=(false,eval (.Call (.Name "range" p2) [a] [] pos2) X.env)::starEach [] X.env:=by rfl) (hs:starEach [a] X.env=[(false,eval a X.env)]:=by rfl) :
  PI X tg (.Call (.Name "reversed" p) [.Call (.Name "range" p2) [a] [] pos2] [] pos) (x3d ta):=by
 intro pins s σ H R I h
 refine wpAny_Call_Name_kw (q9c I hg hm z8i ?_)
 refine PyProof.Rows.callWith_type1 ?_ he rfl
 rw[he]
 show wpAny _ _ (spliced ((false,eval (.Call (.Name "range" p2) [a] [] pos2) X.env)::backTo pos (starEach [] X.env))) _ _ s
 refine Calls.spliced_cons (Call_ (q9c I hg2 hm2 boot_range (PyProof.Rows.callWith_type1 (thn (ha pos2 pins s σ H _ I h) fun us s1 ⟨vs,H1,I1,r1,q1⟩=>?_) hs rfl)))
 obtain⟨j,e,q1,q2,q⟩:=q1
 subst e
 cases r1 with
 |cons r rr=>
  cases rr
  obtain⟨t,rfl⟩:=r
  refine call_range_1 (Calls.spliced_nil ?_)
  refine q7q (IsRange.new ..) q1 q2 ?_
  have I2:Inv X pins σ H1 {s1 with heap:=s1.heap.push {cls:=.type "range",data:=.fields #[.int 0 s1.toks,.int j t,.int 1 (s1.toks+1)]},toks:=s1.toks+1+1}:=I1.kept fun b o e=>Heap.get?_push_of_some _ e
  generalize hS:s1.heap.push {cls:=.type "range",data:=.fields #[.int 0 s1.toks,.int j t,.int 1 (s1.toks+1)]}=hp2 at I2 ⊢
  refine wpAny_pyIter_rangeiter (x:=j-1) (left:=j) (step:=-1) (Heap.get?_push_size _ rfl) ?_
  refine⟨hp2.objs.size,[hp2.objs.size],_,_,H1,rfl,I2.kept (t':=s1.toks+1+1) fun b o e=>Heap.get?_push_of_some _ e,z5n _ j.toNat,?_,fun b hb=>?_,q⟩
  ·have e1:((j.toNat:Nat):Int)-1+((0:Nat):Int)*(-1)=j-1:=by omega
   have e2:((j.toNat:Nat):Int)-((0:Nat):Int)=j:=by omega
   show IsRangeIter _ _ (((j.toNat:Nat):Int)-1+((0:Nat):Int)*(-1)) (((j.toNat:Nat):Int)-((0:Nat):Int)) (-1)
   rw[e1,e2]
   exact Heap.get?_push_size _ rfl
  ·have e:b=hp2.objs.size:=by simpa using hb
   subst e
   exact I2.fpOk (Nat.le_refl _) (I2.hok.fresh (Nat.le_refl _))
def q5p(wa:WA):WI:=fun σ S E Q=>wa σ S E fun xs S1=>match xs with
 |[.int j]=>(0<=j/\j<2 ^ 62)/\Q ⟨(rngP 0 j.toNat).reverse,fun _=>True⟩ S1
 |_=>False
theorem z9j{K:Frag}{φ:List Addr}{H:Hp}{n:Nat}:ItR K φ H (Itrv n) ⟨(rngP 0 n).reverse,fun _=>True⟩ where
 go:=fun φ1 H1 S1 p m R e i x hx=>by
  have hx':(rngP 0 n).reverse[i]?=some x:=hx
  have hl:i<n:=by have:=(List.getElem?_eq_some_iff.mp hx').1;unfold rngP at this;simpa using this
  have hlr:i<(rngP 0 n).length:=by unfold rngP;simpa using hl
  rw[List.getElem?_reverse hlr]at hx'
  unfold rngP at hx'
  rw[List.getElem?_map,List.length_map,List.length_range,List.getElem?_range (by omega)]at hx'
  cases hx'
  refine⟨hl,fun y' H' hh1=>?_⟩
  obtain⟨e1,e2⟩:=hh1
  subst e1
  refine⟨φ1,List.prefix_refl _,.refl _,R,?_⟩
  have:(0:Int)+((n-1-i:Nat):Int)=(n:Int)-1-i:=by omega
  show RV K H' φ1 (PV.int (0+((n-1-i:Nat):Int))) y'
  rw[this]
  exact e2
 stop:=fun φ1 H1 S1 p m R e i hi=>by
  have:(rngP 0 n).reverse.length<=i:=hi
  unfold rngP at this
  show n<=i
  simpa using this
theorem z5r{tg a:Expr}{wa:WA}{p p2 pos2:Pos}(hm:X.mg "reversed" = none)(hm2:X.mg "range" = none)(ha:SimA X G [a] wa)(hg:Gl X "reversed" :=by rfl)(hg2:Gl X "range" :=by rfl)
  (he:starEach [.Call (.Name "range" p2) [a] [] pos2] X.env=(false,eval (.Call (.Name "range" p2) [a] [] pos2) X.env)::starEach [] X.env:=by rfl) (hs:starEach [a] X.env=[(false,eval a X.env)]:=by rfl):SimI X G tg (.Call (.Name "reversed" p) [.Call (.Name "range" p2) [a] [] pos2] [] pos) (q5p wa):=
 PI.imp (y1o ha hm hm2 hg hg2 he hs) fun σV H Q hh1=>by obtain⟨φ,σ,S,Q0,L,R,h,k⟩:=hh1;exact(⟨φ,σ,S,_,L,R,h,fun v S1 φ1 H1 x q p1 m1 R1 r1=>by
  split at q
  ·rename_i j
   obtain ⟨y,rfl,r⟩:=q2d r1
   cases r
   exact ⟨j,rfl,q.1.1,q.1.2,k _ S1 φ1 H1 _ q.2 p1 m1 R1 z9j⟩
  ·exact q.elim⟩)
end
section
variable{X:Cx}{G:GX}{pos:Pos}{a:Expr}{ta:TE}{wa:WE}
end
section
variable{X:Cx}
end
section
variable{X:Cx}
end
section
variable{X:Cx}{G:GX}{pos:Pos}
structure EAt(e it a:Addr)(i:Nat)(h:Heap):Prop where
 ge:∃old,IsEnum h e it i old
 gi:h.IsListIter it a i
end
end Ev
namespace L2
open PySem PySem.Spec PyProof.Rows
section
variable{X:Cx}{tg iter kx vx:Expr}{scope:Scope}{pos:Pos}{N':List Str}{ix:List (Option Nat)}{wi:TI}
end
end L2
namespace Ev
open PySem PySem.Spec PyProof.Rows L2
section
variable{X:Cx}{G:GX}{pos:Pos}
end
section
variable{X:Cx}
end
section
variable{P:Program}{w:World}{κ:Type} [DecidableEq κ] {knd:HeapKind P w κ} {A:Around} {E:Value->Shared->Prop} {s:Shared}
end
section
variable{X:Cx}{G:GX}{pos:Pos}{pins:List (Addr×Obj)}{σ:L2.St}{H:Hp}{s:Shared}{φ:List Addr}
theorem Paired.app{α β:Type}{F:α->β->Prop}{l:List α}{m:List β}{a:α}{b:β}(h:Paired F l m)(r:F a b):Paired F (l++[a]) (m++[b]):=by
 induction h with
 |nil=>exact .cons r .nil
 |cons r' _ ih=>exact .cons r' ih
end
end Ev
namespace L2
open PySem PySem.Spec PyProof.Rows
theorem y7h{prog:Program}{w:World}{A:Around}{s:Shared}{kx vx target iter:Expr}{scope:Scope}{pos:Pos}{it:Value}{D:Addr}{env:Env}{R:Result->Shared->Prop}(I:Nat->Shared->Prop)
  (turn:∀n s,I n s->wpAny (model prog w) A (pyNext it) (fun r s₁=>match r with
   |none=>R (.ok .next) s₁
   |some v=>wpAny (model prog w) A (letOwnedTupleGo target it v) (fun _ s₀=>wpAny (model prog w) A (assign target env v) (fun _ s₂=>
     wpAny (model prog w) A (eval kx env) (fun kv s₄=>wpAny (model prog w) A (eval vx env) (fun vv s₅=>
      wpAny (model prog w) A (dictSet D kv vv) (fun _ s₆=>∃m,m<n/\I m s₆) (notedBy (model prog w) A env fun e s'=>R (.error e) s') s₅) (notedBy (model prog w) A env fun e s'=>R (.error e) s') s₄)
      (notedBy (model prog w) A env fun e s'=>R (.error e) s') s₂)
     (notedBy (model prog w) A env fun e s'=>R (.error e) s') s₀) (notedBy (model prog w) A env fun e s'=>R (.error e) s') s₁) (notedBy (model prog w) A env fun e s'=>R (.error e) s') s)
  (n:Nat) (h:I n s):codeAny (model prog w) A (.compLoop (.DictComp kx vx [⟨target,iter,[],0⟩] scope pos) 0 it (.ref D) env) R s:=by
 refine codeAny_loop rfl I (fun n s hI=>?_) n h
 show wpAny _ A ((compTurn (.DictComp kx vx [⟨target,iter,[],0⟩] scope pos) 0 it (.ref D) env).onRaise (fun x=>do noteFrame x env;theTreesLotGoes x)) _ _ s
 refine wpAny_noted ?_
 rw[compTurn_dict]
 refine wpAny_bind (wpAny_standAt (wpAny_bind (wpAny_mono (turn n s hI) (fun r s₁ h₁=>?_) fun _ _ h'=>h')))
 cases r with
 |none=>exact wpAny_pure h₁
 |some v=>
  refine wpAny_bind (wpAny_mono h₁ (fun _ s₀ h₀'=>?_) fun _ _ h'=>h')
  refine wpAny_bind (wpAny_mono h₀' (fun _ s₂ h₂=>?_) fun _ _ h'=>h')
  refine wpAny_bind (wpAny_tests_nil ?_)
  exact wpAny_bind (wpAny_bind (wpAny_mono h₂ (fun kv s₄ h₄=>wpAny_bind (wpAny_holding (wpAny_mono h₄ (fun vv s₅ h₅=>wpAny_bind (wpAny_standAt (wpAny_holding (wpAny_mono h₅ (fun _ s₆ h₆=>wpAny_pure ⟨rfl,h₆⟩) fun _ _ h'=>h')))) fun _ _ h'=>h'))) fun _ _ h'=>h'))
theorem y3x{X:Cx}{pins:List (Addr×Obj)}{σ:St}{H:Hp}{s:Shared}{a:Addr}{k:Key}{v:V}{kvs:List (Key×V)}{u r:Value}{A:Around}{E:Value->Shared->Prop}{Q:Unit->Shared->Prop}(I:Inv X pins σ H s)(e:H a=some (.dK kvs))(l:kvs.length<sizeLine)(ry:RelV (kV k) u)(rv:RelV v r)(h:∀s',Inv X pins σ (upd H a (.dK (putK kvs k v))) s'->Q () s') :
  wpAny (model X.prog X.w) A (dictSet a u r) Q E s:=by
 obtain⟨z,hd,vs,rel,dd⟩:=x3m I.hok e
 have hz:vs.length<=sizeLine:=by rw[<-rel.length];exact z
 have hl:(putK kvs k v).length<=sizeLine:=by have:=q6f kvs k v;omega
 refine wpAny_dictSet_pairs (hsz:=hz) (y2z ry) dd fun h' dd' hs=>h _ ?_
 have he:∃q,h'.get? a=some q:=let ⟨q,_,_,hq,_⟩:=dd';⟨q,hq⟩
 exact z2z I (by rw[e];exact True.intro) hs he (y3s hl hd (rel.put k rv) dd')
def DcGo(J:It)(g:TG)(tk tv:TE)(p:Addr)(Q:Hp->Prop)(σ₀:St)(H0:Hp):Prop:=∃(W:Nat->St->Hp->Prop)(n:Nat),W 0 σ₀ H0/\∀i σ H,i<=n->W i σ H->
 (J.stop i H/\Q H)\/(i<n/\J.go i H/\∀x H',J.yld i H x H'->g x σ H' fun σ2 H2=>tk σ2 H2 fun kv H3=>tv σ2 H3 fun vv H4=>∃kvs k,H4 p=some (.dK kvs)/\kv=kV k/\kvs.length<sizeLine/\W (i+1) σ2 (upd H4 p (.dK (putK kvs k vv))))
def x4p(wi:TI)(ix:List (Option Nat))(g:TG)(tk tv:TE):TE:=fun σ H Q=>wi σ H fun J H1=>∀p,H1 p=none->DcGo J g tk tv p (Q (.ref p)) (q3s ix σ) (upd H1 p (.dK []))
section
variable{X:Cx}{tg iter kx vx:Expr}{scope:Scope}{pos:Pos}{N':List Str}{ix:List (Option Nat)}{wi:TI}{g:TG}{tk tv:TE}
theorem y6o(hc:X.calm=true)(co:CompOk X scope N' ix)(hi:PI X tg iter wi)(hg:∀cl C s H fp,PG (X.comp scope N' cl C s H fp) tg g)(hk:∀cl C s H fp,PE (X.comp scope N' cl C s H fp) kx tk)(hv:∀cl C s H fp,PE (X.comp scope N' cl C s H fp) vx tv)
  (hs:∀x,foldedSetIterable iter X.env x=pure x:=by intro _;rfl):PE X (.DictComp kx vx [⟨tg,iter,[],0⟩] scope pos) (x4p wi ix g tk tv):=by
 intro pins s σ H Q I h
 obtain⟨cl,hclos,hcl1,hcl2⟩:=q9d (scope:=scope) (env:=X.env) fun p hp e=>by
  rcases co.free p hp e with z|z
  ·exact I.ok.has p.1 (.inl z)
  ·exact I.ok.has p.1 (.inr z)
 rw[arm_eval_DictComp]
 refine wpAny_comprehension_free (use:=none) rfl hs hclos co.kind co.names (thn (hi pins s σ H _ I h) fun v s1 h1=>thn h1 fun itv s₂ h2=>?_)
 obtain⟨it,fp,tn,J,H₂,rfl,I₂,T,st2,f2,go0⟩:=h2
 obtain⟨W,n,w0,turn⟩:=go0 s₂.heap.objs.size I₂.fresh
 refine wpAny_newObj_type (wpAny_newFunctionEnv co.cell (by intro y hy;simp at hy) (fun h₁ hns₁ hsb₁=>?_) co.kind)
 dsimp only at hns₁ hsb₁ ⊢
 have hne0:(s₂.heap.push {cls:=.type "dict",dict:=none,data:=.dict #[]}).DictOf (q2a X.prog X.w) s₂.heap.objs.size []:=Heap.DictOf.new s₂.heap
 generalize hH2:s₂.heap.push {cls:=.type "dict",dict:=none,data:=.dict #[]}=H2 at hns₁ hsb₁ hne0 ⊢
 have hC:H2.objs.size=s₂.heap.objs.size+1:=by rw[<-hH2,Heap.size_push]
 have hCle:s₂.heap.objs.size<=H2.objs.size:=by omega
 have hDC:s₂.heap.objs.size≠H2.objs.size:=by omega
 have old:∀b o,s₂.heap.get? b=some o->h₁.get? b=some o:=fun b o e=>hsb₁.extBut b o (Nat.ne_of_lt (by rw[hC];exact Nat.lt_succ_of_lt (Heap.lt_size e))) (Heap.get?_push_of_some _ (hH2▸Heap.get?_push_of_some _ e))
 have hacc:h₁.DictOf (q2a X.prog X.w) s₂.heap.objs.size []:=hne0.at fun o e=>hsb₁.extBut _ _ hDC (Heap.get?_push_of_some _ e)
 have hfz:∀b∈fp,b<s₂.heap.objs.size:=fun b hb=>by
  obtain⟨o,e,_⟩:=T.obj _ _ st2 b hb
  exact Heap.lt_size e
 have hclD:∀x c,cl.lookup x=some c->c≠s₂.heap.objs.size:=fun x c e=>by
  obtain⟨v,o,ho,_⟩:=I₂.cell x c (hcl1 x c e)
  exact Nat.ne_of_lt (Heap.lt_size ho)
 have st0:tn 0 h₁:=T.keep _ _ _ st2 fun b hb o e=>old b o e
 have loop:∀s₃:Shared,s₃={s₂ with heap:=h₁,toks:=s₂.toks+([]:List (Str×Value)).length}->
   codeAny (model X.prog X.w) X.A (.compLoop (.DictComp kx vx [⟨tg,iter,[],0⟩] scope pos) 0 (.ref it) (.ref s₂.heap.objs.size) (compEnvC scope cl H2.objs.size X.env))
    (compPost (model X.prog X.w) X.A X.xe none (EP X pins σ Q) (.ref s₂.heap.objs.size) H2.objs.size) s₃:=by
  rintro s₃ rfl
  have I0:=I₂.comp (t':=s₂.toks+([]:List (Str×Value)).length) co hcl1 hcl2 hc hCle hns₁ old f2 hfz
  have nof:s₂.heap.objs.size∉(X.comp scope N' cl H2.objs.size s₂ H₂ fp).fs:=fun z=>by
   obtain⟨_,o,ho,_⟩:=I0.ok.funs.mem z
   exact absurd (Heap.lt_size ho) (Nat.lt_irrefl _)
  have fD:FpOk (X.comp scope N' cl H2.objs.size s₂ H₂ fp) [] H₂ s₂.heap.objs.size:=⟨I₂.fresh,hDC,nof,.inr (Nat.le_refl _),hclD,fun p hp=>by cases hp⟩
  have I0':=I0.trackO (D:=s₂.heap.objs.size) (ob:=.dK []) fD (Nat.le_refl _) ⟨Nat.zero_le _,beq_eq_false_iff_ne.mpr (Ne.symm (Nat.ne_of_lt I₂.big)),[],.nil,hacc⟩
  have fpok:∀{H':Hp},(∀b∈fp,H' b=none)->∀b∈fp,FpOk (X.comp scope N' cl H2.objs.size s₂ H₂ fp) [] H' b:=fun hn' b hb=>
   ⟨hn' b hb,(I0.ok.exf b hb).1,I0.ok.exfs b hb,.inl hb,(I0.ok.exf b hb).2,fun p hp=>by cases hp⟩
  refine y7h (fun k s'=>∃i σ' H',i<=n/\k=n-i/\Inv (X.comp scope N' cl H2.objs.size s₂ H₂ fp) [] σ' H' s'/\tn i s'.heap/\(∀b∈fp,H' b=none)/\W i σ' H') ?_ n
   ⟨0,q3s ix σ,_,Nat.zero_le _,rfl,I0',st0,fun b hb=>by rw[q1c (Nat.ne_of_lt (hfz b hb))];exact(f2 b hb).1,w0⟩
  rintro k s3 ⟨i,σ3,H3,hi3,rfl,I3,st3,fr3,w3⟩
  have weak:∀{e:Value}{s':Shared},False->notedBy (model X.prog X.w) X.A (compEnvC scope cl H2.objs.size X.env) (fun e s'=>compPost (model X.prog X.w) X.A X.xe none (EP X pins σ Q) (.ref s₂.heap.objs.size) H2.objs.size (.error e) s') e s':=fun z=>z.elim
  rcases turn i σ3 H3 hi3 w3 with⟨stop,q⟩|⟨hlt,go,step⟩
  ·refine thn (T.done (X.comp scope N' cl H2.objs.size s₂ H₂ fp) rfl rfl rfl rfl i _ s3 σ3 H3 _ I3 (fpok fr3) st3 stop) fun r s' hh1=>?_
   obtain⟨hr,I'⟩:=hh1
   subst hr
   obtain⟨m,hm,_⟩:=I'.loc
   refine⟨m,hm,fun h' sb=>?_⟩
   have new:∀a,s₂.heap.objs.size<=a->a≠X.env.locals/\X.s₀.heap.objs.size<=a/\(∀x c,X.env.cells.lookup x=some c->c≠a)/\∀p∈X.pn++pins,p.1≠a:=fun a ha=>by
    refine⟨Nat.ne_of_gt (Nat.lt_of_lt_of_le I₂.lt ha),Nat.le_trans I₂.sz ha,fun x c e=>?_,fun p hp=>?_⟩
    ·obtain⟨v,o,ho,_⟩:=I₂.cell x c e
     exact Nat.ne_of_lt (Nat.lt_of_lt_of_le (Heap.lt_size ho) ha)
    ·exact Nat.ne_of_lt (Nat.lt_of_lt_of_le (Heap.lt_size (I₂.pin p hp).1) ha)
   have I4:Inv X pins σ H3 s':=I₂.call' I'.os I'.base I'.hok I'.bare fun b hb=>⟨(f2 b hb).2.2.2.1,(f2 b hb).2.1,(f2 b hb).2.2.2.2.1,(f2 b hb).2.2.2.2.2⟩
   obtain⟨c1,c2,c3,c4⟩:=new H2.objs.size hCle
   have I5:Inv X pins σ H3 {s' with heap:=h' }:=I4.turned (t':=s'.toks) (it:=H2.objs.size) (fun b o hb e=>(sb.2 b hb).trans e) I'.free c1 (.inr c2) c3 c4
   exact⟨.ref s₂.heap.objs.size,_,I5,rfl,q⟩
  ·refine thn (T.item (X.comp scope N' cl H2.objs.size s₂ H₂ fp) rfl rfl rfl rfl i _ s3 σ3 H3 _ I3 (fpok fr3) st3 go) fun r s4 hh2=>?_
   obtain⟨u,hr,h4⟩:=hh2
   subst hr
   refine thn h4 fun _ s5 hh3=>?_
   obtain⟨x,H5,I5,r5,y5,st5,fr5⟩:=hh3
   have I5':=I5.pinned (fpok fr5) (T.obj _ _ st5)
   refine wpAny_mono (hg cl _ s₂ H₂ fp _ s5 σ3 H5 x u _ I5' r5 (step x H5 y5)) (fun _ s6 ⟨σ6,H6,I6,q6⟩=>?_) fun _ _ z=>weak z
   refine wpAny_mono (hk cl _ s₂ H₂ fp _ s6 σ6 H6 _ I6 q6) (fun u7 s7 ⟨y7,H7,I7,r7,q7⟩=>?_) fun _ _ z=>weak z
   refine wpAny_mono (hv cl _ s₂ H₂ fp _ s7 σ6 H7 _ I7 q7) (fun u8 s8 ⟨y8,H8,I8,r8,q8⟩=>?_) fun _ _ z=>weak z
   obtain⟨kvs,kk,e8,rfl,l8,w8⟩:=q8
   refine y3x (X:=X.comp scope N' cl H2.objs.size s₂ H₂ fp) I8 e8 l8 r7 r8 fun s9 I9=>?_
   refine⟨n-(i+1),by omega,i+1,σ6,_,hlt,rfl,I9.unpinned,?_,fun b hb=>?_,w8⟩
   ·exact T.keep _ _ _ st5 fun b hb o e=>(I9.pin (b,o) (List.mem_append_right _ (List.mem_append_right _ (q3k hb e)))).1
   ·obtain⟨o,e,d⟩:=T.obj _ _ st5 b hb
    exact(I9.pin (b,o) (List.mem_append_right _ (List.mem_append_right _ (q3k hb e)))).2.1
 exact codeAny_compStart_dict (loop _ rfl) (T.self _ 0 _ _ _ st0 (loop _ rfl))
end
end L2
namespace Ev
open PySem PySem.Spec PyProof.Rows L2
section
variable{X:Cx}{G:GX}{pos:Pos}
def dcGo(chk:q0i->Prop)(g:WG)(wk wv:WE)(d:Nat)(Q:VC):List PV->Ev.Loc->q0i->Prop
 |[],_,S=>chk S/\Q (.ref d) S
 |x::r,σ,S=>chk S/\∃N:Ev.Loc->q0i->Prop,(∀σ' S',N σ' S'->dcGo chk g wk wv d Q r σ' S')/\g x σ S NoX fun σ2 S2=>wk σ2 S2 NoX fun k S3=>wv σ2 S3 NoX fun v S4=>∃kvs kk,S4[d]?=some (.dK kvs)/\z2u k=some kk/\kvs.length<sizeLine/\N σ2 (S4.set d (.dK (putP kvs kk v)))
def z7c(wi:WI)(ix:List (Option Nat))(g:WG)(wk wv:WE):WE:=fun σ S E Q=>wi σ S E fun it S1=>dcGo it.chk g wk wv S1.length Q it.xs (z0t ix σ) (S1++[.dK []])
theorem y0x{tg iter kx vx:Expr}{scope:Scope}{wi:WI}{g:WG}{wk wv:WE}(N':List Str)(ix:List (Option Nat))(hc:X.calm=true)(co:CompOk X scope N' ix)(hi:SimI X G tg iter wi)(hg:∀cl C s H fp,SimG (X.comp scope N' cl C s H fp) NoG tg g)(hk:∀cl C s H fp,SimE (X.comp scope N' cl C s H fp) NoG kx wk)(hv:∀cl C s H fp,SimE (X.comp scope N' cl C s H fp) NoG vx wv)
  (hs:∀x,foldedSetIterable iter X.env x=pure x:=by intro _;rfl):SimE X G (.DictComp kx vx [⟨tg,iter,[],0⟩] scope pos) (z7c wi ix g wk wv):=
 (y6o (g:=z6b X.K NoG g) (tk:=q7n X.K NoG wk) (tv:=q7n X.K NoG wv) hc co hi hg hk hv hs).imp fun σV H Q hh1=>by obtain⟨φ,σ,S,Q0,L,R,h,k⟩:=hh1;exact(⟨φ,σ,S,_,L,R,h,fun it S1 φ1 H1 J q p1 m1 R1 hj=>by
  intro p hp
  have R2:Rel X.K (φ1++[p]) (S1++[.dK []]) (upd H1 p (.dK [])):=R1.new (o:=.dK []) hp ⟨[],q2r,.nil⟩
  have ep:(φ1++[p])[S1.length]?=some p:=by rw [<-R1.len,List.getElem?_append_right (Nat.le_refl _)];simp
  have mp:Mono H1 (upd H1 p (.dK [])):=.new _ hp
  have pp:φ1 <+: φ1++[p]:=List.prefix_append _ _
  refine ⟨fun i σV' H'=>∃φ' σ' S',(φ1++[p]) <+: φ'/\Mono (upd H1 p (.dK [])) H'/\LRel X.K NoG H' φ' σ' σV'/\Rel X.K φ' S' H'/\dcGo it.chk g wk wv S1.length Q0 (it.xs.drop i) σ' S',it.xs.length,⟨φ1++[p],_,_,List.prefix_refl _,.refl _,z4m ix ((L.mono m1 p1).mono mp pp),R2,by simpa using q⟩,?_⟩
  rintro i σV' H' hi ⟨φ',σ',S',p',m',L',R',hf⟩
  by_cases hlt:i<it.xs.length
  ·rw [List.drop_eq_getElem_cons hlt]at hf
   obtain ⟨hch,N,hN,hb⟩:=hf
   obtain ⟨jg,jy⟩:=hj.go φ' H' S' (pp.trans p') (mp.trans m') R' hch i _ (List.getElem?_eq_getElem hlt)
   refine .inr ⟨hlt,jg,fun y H2 hy=>?_⟩
   obtain ⟨φ2,p2,m2,R2,r2⟩:=jy y H2 hy
   refine ⟨φ2,_,σ',S',_,L'.mono m2 p2,R2,r2,hb,fun σ3 S3 φ3 H3 σ3V q3 p3 m3 R3 L3=>?_⟩
   refine ⟨φ3,σ3,S3,_,L3,R3,q3,fun z S4 φ4 H4 z' q4 p4 m4 R4 r4=>?_⟩
   refine ⟨φ4,σ3,S4,_,L3.mono m4 p4,R4,q4,fun v S5 φ5 H5 v' q5 p5 m5 R5 r5=>?_⟩
   obtain ⟨kvs,kk,e5,ek,l5,n5⟩:=q5
   have hd:φ5[S1.length]?=some p:=q7k ((((p'.trans p2).trans p3).trans p4).trans p5) ep
   obtain ⟨ws,ea,ra⟩:=R5.obj _ _ _ hd e5
   have hk':=z2t (RV.mono m5 p5 _ _ r4) ek
   refine ⟨ws,kk,ea,hk',by rw [<-ra.length];exact l5,?_⟩
   refine ⟨φ5,σ3,_,(((p'.trans p2).trans p3).trans p4).trans p5,(((((m'.trans m2).trans m3).trans m4).trans m5)).trans (.dict ea),((L3.mono m4 p4).mono m5 p5).mono (.dict ea) (List.prefix_refl _),R5.put (o:=.dK (putP kvs kk v)) hd (.dict ea) ⟨_,q2r,RKs.mono (.dict ea) (List.prefix_refl _) (ra.put kk r5)⟩,hN _ _ n5⟩
  ·have e:i=it.xs.length:=by omega
   subst e
   rw [List.drop_length]at hf
   exact .inl ⟨hj.stop φ' H' S' (pp.trans p') (mp.trans m') R' hf.1 _ (Nat.le_refl _),k _ _ _ _ _ hf.2 ((p1.trans pp).trans p') ((m1.trans mp).trans m') R' ⟨p,rfl,q7k p' ep⟩⟩⟩)
end
section
variable{X:Cx}{G:GX}{pos:Pos}
end
end Ev
namespace L2
open PySem PySem.Spec PyProof.Rows
section
variable{X:Cx}{tg iter kx vx:Expr}{scope:Scope}{pos:Pos}{N':List Str}{ix:List (Option Nat)}{wi:TI}{g:TG}{tk tv:TE}
end
end L2
namespace Ev
open PySem PySem.Spec PyProof.Rows L2
section
variable{X:Cx}{G:GX}{pos:Pos}
end
section
variable{X:Cx}{G:GX}{pos:Pos}
end
section
variable{X:Cx}{G:GX}{pos:Pos}
theorem q7t:∀{its:List Value}{ns:List Int},IntsAre its ns->Vals (ns.map V.int) its
 |_,_,.nil=>.nil
 |_,_,.cons n t h=>.cons ⟨t,rfl⟩ (q7t h)
theorem z6v:bootBuiltins "sorted" = some (.builtin "sorted"):=by kernel_rfl
end
section
variable{P:Program}{w:World}{A:Around}{E:Value->Shared->Prop}{s:Shared}{it d:Addr}{i ep:Nat}{od:Obj}{es:Array DictEntry}
end
section
variable{X:Cx}{G:GX}{pos:Pos}
end
end Ev
namespace L2
open PySem PySem.Spec PyProof.Rows
def Cx.in2(X:Cx):Cx:={X with A:=X.A.in1.in1,xe:=fun _ _=>False}
theorem Cx.Ok.in2{X:Cx}(o:X.Ok):X.in2.Ok:=⟨o.mod,o.kind,o.glob,o.blt,o.above,o.inj,o.has,o.cab,o.hd,o.frames,o.stk,o.exf,o.bs,o.bsz,o.noex,o.exfs,o.funs,o.frf⟩
section
variable{X:Cx}{pins:List (Addr×Obj)}{σ:St}{H:Hp}{s:Shared}
theorem Inv.in2(I:Inv X pins σ H s):Inv X.in2 pins σ H s:=⟨I.ok.in2,I.os,I.bare,I.base,I.loc,I.cell,I.free,I.freeC,I.pin,I.hok,I.len⟩
theorem Inv.out2(o:X.Ok)(I:Inv X.in2 pins σ H s):Inv X pins σ H s:=⟨o,I.os,I.bare,I.base,I.loc,I.cell,I.free,I.freeC,I.pin,I.hok,I.len⟩
theorem Inv.adopt{h':Heap}{t':Nat}{D kS:Addr}{ys:List V}(I:Inv X pins σ H s)(fD:FpOk X pins H D)(fk:FpOk X pins H kS)(k:∀b o,b≠D->b≠kS->s.heap.get? b=some o->h'.get? b=some o)
  (hk:∃o,h'.get? kS=some o) (new:q2y X.prog X.w (upd H D (.lst ys)) h' D (.lst ys)):Inv X pins σ (upd H D (.lst ys)) {s with heap:=h',toks:=t' }:=by
 have nD:∀b u,H b=some u->b≠D:=fun b u e z=>by rw[z,fD.1]at e;cases e
 have nk:∀b u,H b=some u->b≠kS:=fun b u e z=>by rw[z,fk.1]at e;cases e
 have cs:∀b,b∉[D,kS]->b≠D/\b≠kS:=fun b hb=>⟨fun z=>hb (by simp[z]),fun z=>hb (by simp[z])⟩
 refine I.step (g':=s.gens) (d':=s.drawn) (ch:=[D,kS]) (fun b hb=>?_) (fun b o _ _ hc e _=>k b o (cs b hc).1 (cs b hc).2 e) (fun b o _ _ hc e _=>⟨o.slots,k b o (cs b hc).1 (cs b hc).2 e⟩) (fun b o hc _ n=>by rw[q1c (cs b hc).1];exact n)
  (fun b o hc e=>⟨o,k b o (cs b hc).1 (cs b hc).2 e⟩) (fun b xs e=>by rw[q1c (nD _ _ e)];exact e) (fun b o u e=>by rw[q1c (nD _ _ e)];exact e) (fun b ps e=>⟨#[],by rw[q1c (nD _ _ e),e];simp⟩) (fun m hm=>?_) (fun b u e=>?_) I.bare
 ·rcases List.mem_cons.mp hb with e|hb
  ·subst e;exact⟨fD.2.2.2.1,fD.2.1,fD.2.2.2.2.1,fD.2.2.2.2.2⟩
  ·obtain rfl:=List.mem_singleton.mp hb;exact⟨fk.2.2.2.1,fk.2.1,fk.2.2.2.2.1,fk.2.2.2.2.2⟩
 ·obtain⟨o,es,ep,ho,r⟩:=hm
  exact⟨o,es,ep,k _ o (Ne.symm fD.2.1) (Ne.symm fk.2.1) ho,r⟩
 ·by_cases hb:b=D
  ·subst hb;rw[q2r]at e;cases e;exact new
  ·rw[q1c hb]at e
   refine(I.hok b u e).stay (fun c v hc q=>?_) (fun c q=>by rw[q1c (nD _ _ q)];exact q) fun c xs q=>by rw[q1c (nD _ _ q)];exact q
   rcases hc with z|z
   ·rw[z]at q ⊢;exact k b v hb (nk b u e) q
   ·exact k c v (nD c _ z) (nk c _ z) q
end
end L2
namespace Ev
open PySem PySem.Spec PyProof.Rows L2
def upS(ps:List (Str×V)):Prop:=ps.Pairwise fun p q=>¬q.1.cps.toList<p.1.cps.toList
theorem z3j{x:Str}{t:Tok}:∀{vs:List Value}{ns:List Str},StrsAre vs ns->StrsAre (vs++[.str x t]) (ns++[x])
 |_,_,.nil=>.cons x t .nil
 |_,_,.cons y u h=>.cons y u (z3j h)
theorem z1z:∀{vs:List Value}{ns:List Str},StrsAre vs ns->vs.length=ns.length
 |_,_,.nil=>rfl
 |_,_,.cons y u h=>by rw[List.length_cons,List.length_cons,z1z h]
theorem y4p{keys:List Value}{ks:List Str}{us:List Value}{xs:List V}(hk:StrsAre keys ks)(r:Vals xs us):∀p∈keys.zip us,∃(x:Str)(t:Tok)(v:V),p.1=.str x t/\RelV v p.2/\(x,v)∈ks.zip xs:=by
 induction hk generalizing us xs with
 |nil=>intro p hp;simp at hp
 |@cons y u vs ns h ih=>
  intro p hp
  cases r with
  |nil=>simp at hp
  |cons r1 r2=>
   rw[List.zip_cons_cons]at hp
   rcases List.mem_cons.mp hp with rfl|hp
   ·exact⟨y,u,_,rfl,r1,by simp⟩
   ·obtain⟨x,t,v,a,b,c⟩:=ih r2 p hp
    exact⟨x,t,v,a,b,by rw[List.zip_cons_cons];exact List.mem_cons_of_mem _ c⟩
theorem z3q{α β:Type}{F:α->β->Prop}{as cs:List α}{bs:List β}(p:cs.Perm as)(r:Paired F as bs):∃ds,ds.Perm bs/\Paired F cs ds:=by
 induction p generalizing bs with
 |nil=>cases r;exact⟨[],.refl _,.nil⟩
 |cons x _ ih=>
  cases r with
  |cons r1 r2=>obtain⟨ds,p1,q1⟩:=ih r2;exact⟨_::ds,.cons _ p1,.cons r1 q1⟩
 |swap x y l=>
  cases r with
  |cons r1 r2=>cases r2 with
   |cons r2 r3=>exact⟨_::_::_,.swap _ _ _,.cons r2 (.cons r1 r3)⟩
 |trans _ _ ih1 ih2=>
  obtain⟨ds,p1,q1⟩:=ih2 r
  obtain⟨es,p2,q2⟩:=ih1 q1
  exact⟨es,p2.trans p1,q2⟩
abbrev KP:Value×Value->Str×V->Prop:=fun a b=>(∃t,a.1=.str b.1 t)/\RelV b.2 a.2
theorem z8q{keys:List Value}{ks:List Str}{us:List Value}{xs:List V}(hk:StrsAre keys ks)(r:Vals xs us):Paired KP (keys.zip us) (ks.zip xs):=by
 induction hk generalizing us xs with
 |nil=>simp;exact .nil
 |@cons y u vs ns h ih=>
  cases r with
  |nil=>simp;exact .nil
  |cons r1 r2=>exact .cons ⟨⟨u,rfl⟩,r1⟩ (ih r2)
theorem z9d{α β:Type}{F:α->β->Prop}{as:List α}{bs:List β}(r:Paired F as bs){i:Nat}{b:β}(e:bs[i]?=some b):∃a,as[i]?=some a/\F a b:=by
 induction r generalizing i with
 |nil=>simp at e
 |cons h t ih=>cases i with
  |zero=>simp at e;subst e;exact⟨_,rfl,h⟩
  |succ j=>simp at e;simpa using ih e
theorem x6k{keys:Array Value}{ks:List Str}{us:List Value}{xs:List V}(hk:StrsAre keys.toList ks)(r:Vals xs us){ar:Array Keyed}(hp:ar.Perm (keys.zip us.toArray))(hs:SortedToK strKind ar ar.size) :
  ∃ps:List (Str×V),ps.Perm (ks.zip xs)/\upS ps/\Vals (ps.map (·.2)) (ar.map (·.2)).toList:=by
 have hl:ar.toList.Perm (keys.toList.zip us):=by rw[<-ksk_zip];exact Array.perm_iff_toList_perm.mp hp
 obtain⟨ps,p1,p2⟩:=z3q hl (z8q hk r)
 refine⟨ps,p1,?_,?_⟩
 ·unfold upS
  rw[List.pairwise_iff_getElem]
  intro i j hi hj hij
  have ln:ar.toList.length=ps.length:=Paired.length p2
  have hi':i<ar.size:=by rw[Array.length_toList]at ln;omega
  have hj':j<ar.size:=by rw[Array.length_toList]at ln;omega
  have q:=hs i j (Nat.le_of_lt hij) hj'
  have e:∀(n:Nat)(hn:n<ps.length)(hn':n<ar.size),KK strKind ar n=ps[n].1.cps.toList:=fun n hn hn'=>by
   obtain⟨a,ea,⟨t,et⟩,_⟩:=z9d p2 (List.getElem?_eq_getElem hn)
   have ha:ar[n]=a:=by
    have:ar.toList[n]?=some ar[n]:=by simp[hn']
    rw[this]at ea
    exact Option.some.inj ea
   exact KK_str hn' (x:=ps[n].1) (t:=t) (q:=a.2) (by rw[ha];exact Prod.ext et rfl)
  rw[e i hi hi',e j hj hj']at q
  have q':decide (ps[j].1.cps.toList<ps[i].1.cps.toList)=false:=q
  exact of_decide_eq_false q'
 ·rw[Array.toList_map]
  clear hs hp hl p1 hk r
  generalize ar.toList=l at p2
  induction p2 with
  |nil=>exact .nil
  |cons h t ih=>exact .cons h.2 ih
section
variable{X:Cx}{pins:List (Addr×Obj)}{σ:L2.St}{H:Hp}{s:Shared}
theorem y9e(c:String)(xs:Array Value)(n:Nat):∀v,(seqObj c xs n).data≠.cell v:=fun v z=>by cases(show Data.seq xs n=Data.cell v from z)
theorem x4y{Q:PySem.Fin->Shared->Prop}{D kS:Addr}{keys:Array Value}{us:List Value}{xs:List V}{ks:List Str}{e e1:Nat}{E:Value->Shared->Prop}(I:Inv X.in2 pins σ H s)(fD:FpOk X.in2 pins H D)(fk:FpOk X.in2 pins H kS)(hne:kS≠D)
  (nk:s.heap.get? kS=some (seqObj "list" keys e)) (na:s.heap.get? D=some (seqObj "list" #[] e1)) (hk:StrsAre keys.toList ks) (hlen:ks.length=us.length) (r:Vals xs us) (h64:us.length<64)
  (h:∀(ps:List (Str×V))(s':Shared),ps.Perm (ks.zip xs)->upS ps->Inv X.in2 pins σ (upd H D (.lst (ps.map (·.2)))) s'->Q (.done (.ret .none)) s'):wpAny (model X.prog X.w) X.in2.A (ksk_end D false us.toArray e1 (.ref kS) keys) Q E s:=by
 have hsz:keys.size=us.length:=by have:=z1z hk;rw[Array.length_toList]at this;omega
 have hzs:(keys.zip us.toArray).size=us.length:=by rw[Array.size_zip,hsz,List.size_toArray,Nat.min_self]
 have tail:∀st:SortSt,(arrOf st).Perm (keys.zip us.toArray)->failedOf st=none->SortedToK strKind (arrOf st) (arrOf st).size->wpAny (model X.prog X.w) X.in2.A (ksk_tail D false e1 (.ref kS) st) Q E s:=by
  intro st hp hf hs
  obtain⟨ps,p1,p2,p3⟩:=x6k hk r hp hs
  have hl:(arrOf st).size=us.length:=by rw[hp.size_eq,hzs]
  have pl:ps.length=us.length:=by
   have e:=p3.length
   simp only[List.length_map,Array.length_toList,Array.size_map]at e
   omega
  unfold ksk_tail
  try dsimp only
  have s1:=Heap.SameBut.update s.heap kS (Obj.mapSeq fun _=>(#[]:Array Value))
  have na1:=(s1.2 D hne.symm).trans na
  have s2:=Heap.SameBut.update (s.heap.update kS (Obj.mapSeq fun _=>(#[]:Array Value))) D (Obj.mapSeq fun _=>(arrOf st).map (·.2))
  refine wpAny_bind (listUpdate_at nk rfl ?_ (by rw[hsz,sizeLine_eq];omega) (Nat.zero_le _))
  refine wpAny_bind (wpAny_letGo (wpAny_bind (seqEpoch_at na1 rfl ?_)))
  simp only[Bool.false_eq_true,if_false]
  refine wpAny_bind (listUpdate_at na1 rfl ?_ (Nat.zero_le _) (by rw[Array.size_map,hl,sizeLine_eq];omega))
  rw[hf]
  simp only[bne_self_eq_false,Bool.false_eq_true,if_false]
  refine wpAny_pure (h ps _ p1 p2 (I.adopt (t':=s.toks) (D:=D) (kS:=kS) fD fk (fun b o hb hb' q=>(s2.2 b hb).trans ((s1.2 b hb').trans q)) ⟨_,(s2.2 kS hne).trans (get?_update_seq nk fun _=>#[])⟩ ?_))
  have e3:=get?_update_seq na1 fun _=>(arrOf st).map (·.2)
  exact⟨by rw[List.length_map,pl,sizeLine_eq];omega,((arrOf st).map (·.2)).toList,_,p3,by rw[Array.toArray_toList];exact e3⟩
 unfold ksk_end
 try dsimp only
 simp only[Bool.false_eq_true,if_false]
 by_cases h2:us.toArray.size<2
 ·rw[if_pos h2,if_pos h2]
  refine wpAny_bind (wpAny_pure ?_)
  rw[StateT.run_pure]
  refine wpAny_bind (wpAny_pure ?_)
  try dsimp only
  refine tail (SortSt.mk' general' (keys.zip us.toArray) #[] 7 none) (Array.Perm.refl _) rfl fun i j hij hj=>?_
  have hj2:j<(keys.zip us.toArray).size:=hj
  rw[hzs]at hj2
  rw[List.size_toArray]at h2
  obtain rfl:i=j:=by omega
  exact KeyOrd.kle_refl _
 ·rw[if_neg h2,if_neg h2]
  rw[List.size_toArray]at h2
  have hkk:keyKind' keys=pure oneType':=by
   obtain⟨v1,v2,rest,e⟩:∃v1 v2 rest,keys.toList=v1::v2::rest:=by
    have hl:2<=keys.toList.length:=by rw[Array.length_toList,hsz];omega
    match q:keys.toList with
    |[]=>rw[q]at hl;simp at hl
    |[_]=>rw[q]at hl;simp at hl
    |a::b::c=>exact⟨a,b,c,rfl⟩
   rw[show keys=(v1::v2::rest).toArray by rw[<-e,Array.toArray_toList]]
   rw[e]at hk
   exact keyKind_strs hk
  rw[hkk]
  refine wpAny_bind (wpAny_pure ?_)
  have hko:KeysOf strKind (keys.zip us.toArray):=by
   intro p hp
   rw[ksk_zip]at hp
   obtain⟨x,t,v,e,_⟩:=y4p hk r p hp
   exact⟨x.cps.toList,by rw[e]⟩
  refine wpAny_bind (wpAny_mono (wpS_sortRunsK (κ:=strKind) (a₀:=keys.zip us.toArray) (st:=SortSt.mk' oneType' (keys.zip us.toArray) #[] 7 none)
   (Q:=fun _ st'=>(arrOf st').Perm (keys.zip us.toArray)/\failedOf st'=none/\SortedToK strKind (arrOf st') (keys.zip us.toArray).size)
   strKind_oneLt hko ⟨Array.Perm.refl _,rfl,rfl,rfl⟩ (by rw [hzs];omega) (by rw [hzs];exact h64) fun st' a1 a2 a3=>⟨a1,a2,a3⟩) ?_ fun _ _ e=>e)
  rintro⟨⟨⟩,st'⟩ s' ⟨rfl,hp,hf,hs⟩
  try dsimp only
  exact tail st' hp hf (by rw[hp.size_eq];exact hs)
theorem x0s{Q:PySem.Fin->Shared->Prop}{D kS f:Addr}{us:List Value}{xs:List V}{ks:List Str}{e1:Nat}{E:Value->Shared->Prop}(R:Hp->Prop)(hR:R H)(I:Inv X.in2 pins σ H s)(fD:FpOk X.in2 pins H D)(fk:FpOk X.in2 pins H kS)(hne:kS≠D)
  (nk:s.heap.get? kS=some (seqObj "list" #[] 0)) (na:s.heap.get? D=some (seqObj "list" #[] e1)) (hlen:ks.length=us.length) (r:Vals xs us) (h64:us.length<64)
  (turn:∀(i:Nat)(x:V)(u:Value)(k:Str),xs[i]?=some x->RelV x u->ks[i]?=some k->∀(pins':List (Addr×Obj))(s':Shared)(H':Hp),Inv X.in2 pins' σ H' s'->R H'->
   wpAny (model X.prog X.w) X.in2.A (call (.ref f) [u]) (fun v s2=>(∃t,v=.str k t)/\∃H2,Inv X.in2 pins' σ H2 s2/\R H2) (fun _ _=>False) s')
  (h:∀(H':Hp)(ps:List (Str×V))(s':Shared),R H'->H' D=none->ps.Perm (ks.zip xs)->upS ps->Inv X.in2 pins σ (upd H' D (.lst (ps.map (·.2)))) s'->Q (.done (.ret .none)) s'):wpAny (model X.prog X.w) X.in2.A (ksk_rest D (.ref f) false us.toArray e1 (.ref kS)) Q E s:=by
 unfold ksk_rest
 refine wpAny_bind (wpAny_rule ?_)
 rw[<-Array.forIn_toList]
 have pk:∀{H':Hp}{s':Shared}{kA:Array Value}{e:Nat},Inv X.in2 (pins++[(kS,seqObj "list" kA e),(D,seqObj "list" #[] e1)]) σ H' s'->s'.heap.get? kS=some (seqObj "list" kA e)/\s'.heap.get? D=some (seqObj "list" #[] e1)/\H' kS=none/\H' D=none:=fun {H' s' kA e} J=>by
  have h1:=J.pin (kS,seqObj "list" kA e) (by simp)
  have h2:=J.pin (D,seqObj "list" #[] e1) (by simp)
  exact⟨h1.1,h2.1,h1.2.1,h2.2.1⟩
 have rep:∀{H':Hp}{s':Shared}{kA:Array Value}{e:Nat},Inv X.in2 pins σ H' s'->s'.heap.get? kS=some (seqObj "list" kA e)->s'.heap.get? D=some (seqObj "list" #[] e1)->H' kS=none->H' D=none->Inv X.in2 (pins++[(kS,seqObj "list" kA e),(D,seqObj "list" #[] e1)]) σ H' s':=fun J a b c d=>
  J.pins_of fun p hp=>by
   rcases List.mem_append.mp hp with hp|hp
   ·exact J.pin p (List.mem_append_right _ hp)
   ·rcases List.mem_cons.mp hp with rfl|hp
    ·exact⟨a,c,fk.2.1,fk.2.2.1,y9e _ _ _⟩
    ·obtain rfl:=List.mem_singleton.mp hp
     exact⟨b,d,fD.2.1,fD.2.2.1,y9e _ _ _⟩
 refine wpAny_bind (ksk_fold (fun i s'=>∃H' kA e,Inv X.in2 (pins++[(kS,seqObj "list" kA e),(D,seqObj "list" #[] e1)]) σ H' s'/\R H'/\StrsAre kA.toList (ks.take i)) us 0 s
  ⟨H,#[],0,rep I nk na fk.1 fD.1,hR,by simpa using StrsAre.nil⟩ ?step ?done)
 case step=>
  rintro j u s' hu ⟨H',kA,e,J,q,hk⟩
  rw[Nat.zero_add]at hk
  have hj:j<us.length:=(List.getElem?_eq_some_iff.mp hu).1
  have hkj:ks[j]?=some ks[j]:=List.getElem?_eq_getElem (by omega)
  obtain⟨x,hx,rx⟩:∃x,xs[j]?=some x/\RelV x u:=by
   have hl:=r.length
   obtain⟨u',e1,e2⟩:=r.get (List.getElem?_eq_getElem (show j<xs.length by omega))
   rw[hu]at e1
   cases e1
   exact⟨_,List.getElem?_eq_getElem (show j<xs.length by omega),e2⟩
  have hz:kA.size<=us.length:=by
   have:=z1z hk
   rw[Array.length_toList,List.length_take]at this
   omega
  refine wpAny_bind (wpAny_attempt (wpAny_mono (turn j x u _ hx rx hkj _ _ _ J q) (fun v s2 z=>?_) fun _ _ z=>z.elim))
  obtain⟨⟨t,rfl⟩,H2,J2,q2⟩:=z
  obtain⟨a1,a2,a3,a4⟩:=pk J2
  try dsimp only
  have s1:=Heap.SameBut.update s2.heap kS (Obj.mapSeq (·.push (.str ks[j] t)))
  refine wpAny_bind (listUpdate_at a1 rfl ?_ (by rw[sizeLine_eq];omega) (Nat.le_trans (Nat.le_of_eq (Array.size_push ..)) (by rw[sizeLine_eq];omega)))
  have J3:Inv X.in2 pins σ H2 {s2 with heap:=s2.heap.update kS (Obj.mapSeq (·.push (.str ks[j] t)))}:=J2.unpinned.turned (t':=s2.toks) (fun b o hb z=>(s1.2 b hb).trans z) a3 fk.2.1 fk.2.2.2.1 fk.2.2.2.2.1 fk.2.2.2.2.2
  have e3:=get?_update_seq a1 (·.push (.str ks[j] t))
  refine wpAny_pure ⟨rfl,H2,_,_,rep J3 e3 ((s1.2 D hne.symm).trans a2) a3 a4,q2,?_⟩
  rw[Nat.zero_add,List.take_add_one,hkj,Array.toList_push]
  exact z3j hk
 case done=>
  rintro s' ⟨H',kA,e,J,q,hk⟩
  rw[List.take_of_length_le (by omega)]at hk
  obtain⟨a1,a2,a3,a4⟩:=pk J
  refine wpAny_bind (listItems_at a1 rfl ?_)
  exact x4y J.unpinned ⟨a4,fD.2⟩ ⟨a3,fk.2⟩ hne a1 a2 hk hlen r h64 fun ps s2 p1 p2 J2=>h H' ps s2 q a4 p1 p2 J2
theorem y0r{Q:VK}{a f:Addr}{xs:List V}{ks:List Str}(R:Hp->Prop)(hR:R H)(I:Inv X pins σ H s)(sa:SqL X.K H a xs)(hlen:ks.length=xs.length)(h64:xs.length<64)
  (turn:∀(i:Nat)(x:V)(u:Value)(k:Str),xs[i]?=some x->RelV x u->ks[i]?=some k->∀(pins':List (Addr×Obj))(s':Shared)(H':Hp),Inv X.in2 pins' σ H' s'->R H'->
   wpAny (model X.prog X.w) X.in2.A (call (.ref f) [u]) (fun v s2=>(∃t,v=.str k t)/\∃H2,Inv X.in2 pins' σ H2 s2/\R H2) (fun _ _=>False) s')
  (h:∀(H':Hp)(ps:List (Str×V))(D:Addr),R H'->H' D=none->ps.Perm (ks.zip xs)->upS ps->Q (.ref D) (upd H' D (.lst (ps.map (·.2))))) :
  wpAny (model X.prog X.w) X.A (call (.builtin "sorted") [.ref a] [(Str.ofString "key",.ref f)]) (EP X pins σ Q) X.xe s:=by
 obtain⟨us,r,p,hz⟩:=I.list sa
 have hl:=r.length
 refine call_function_entry_kw kind_sorted plain_sorted entry_sorted (ksk_s1 _ _) ?_
 unfold Builtin.«sorted»
 refine wpAny_bind (m:=checkCount "sorted" 1 1 _) (wpAny_pure (wpAny_bind (collect_list p.isList ?_ (by rw[sizeLine_eq];omega))))
 refine wpAny_bind (wpAny_newList ?_ (by rw[sizeLine_eq];omega))
 generalize hh:(s.heap.push (seqObj "list" #[] 0)).update s.heap.objs.size (Obj.mapSeq (·++us.toArray))=h1
 have z1:h1.objs.size=s.heap.objs.size+1:=by rw[<-hh,Heap.size_update,size_push']
 have k1:∀b o,s.heap.get? b=some o->h1.get? b=some o:=fun b o q=>by
  have hlt:b<s.heap.objs.size:=Heap.lt_size q
  rw[<-hh,Heap.get?_update_ne _ _ _ _ (Nat.ne_of_lt hlt),Heap.get?_push_ne _ _ _ (Nat.ne_of_lt hlt)]
  exact q
 have oL:(h1.push (seqObj "list" us.toArray 0)).get? h1.objs.size=some (seqObj "list" us.toArray 0):=Heap.get?_push_size _ rfl
 refine wpAny_bind (wpAny_holding (wpAny_call_entry_kw slot_list_sort (T:= "list") (s:={s with heap:=h1.push (seqObj "list" us.toArray 0)}) ⟨_,oL,rfl⟩ entry_list_sort ?_ (ksk_l1 _ _)))
 show wpAny (model X.prog X.w) X.in2.A (Builtin.«list.sort» ⟨[.ref h1.objs.size],[(Str.ofString "key",.ref f)]⟩) _ _ _
 rw[ksk_t1]
 unfold ksk_tree
 generalize hD:h1.objs.size=D at oL ⊢
 refine wpAny_bind (listItems_at (s:={s with heap:=h1.push (seqObj "list" us.toArray 0)}) oL rfl ?_)
 refine wpAny_bind (listUpdate_at (s:={s with heap:=h1.push (seqObj "list" us.toArray 0)}) oL rfl ?_ (by rw[List.size_toArray,sizeLine_eq];omega) (Nat.zero_le _))
 have e1:=get?_update_seq oL fun _=>#[]
 generalize hh2:(h1.push (seqObj "list" us.toArray 0)).update D (Obj.mapSeq fun _=>(#[]:Array Value))=h2 at e1
 have z2:h2.objs.size=D+1:=by rw[<-hh2,Heap.size_update,size_push',hD]
 have k2:∀b o,s.heap.get? b=some o->h2.get? b=some o:=fun b o q=>by
  have hlt:b<s.heap.objs.size:=Heap.lt_size q
  have hb:b<D:=by rw[<-hD,z1];exact Nat.lt_succ_of_lt hlt
  rw[<-hh2,Heap.get?_update_ne _ _ _ _ (Nat.ne_of_lt hb),Heap.get?_push_ne _ _ _ (by rw[hD];exact Nat.ne_of_lt hb)]
  exact k1 b o q
 refine wpAny_bind (seqEpoch_at (s:={s with heap:=h2}) e1 rfl ?_)
 refine wpAny_bind (wpAny_newTuple (s:={s with heap:=h2}) ?_ (by show us.length<=_;rw[sizeLine_eq];omega))
 refine wpAny_bind (wpAny_newList ?_ (Nat.zero_le _))
 refine wpAny_holding ?_
 generalize hkS:(h2.push (seqObj "tuple" us.toArray 0)).objs.size=kS
 have z3:kS=D+2:=by rw[<-hkS,size_push',z2]
 have oK:((h2.push (seqObj "tuple" us.toArray 0)).push (seqObj "list" #[] 0)).get? kS=some (seqObj "list" #[] 0):=by rw[<-hkS];exact Heap.get?_push_size _ rfl
 have I1:Inv X pins σ H {s with heap:=(h2.push (seqObj "tuple" us.toArray 0)).push (seqObj "list" #[] 0)}:=I.kept (t':=s.toks) fun b o q=>Heap.get?_push_of_some _ (Heap.get?_push_of_some _ (k2 b o q))
 have fD:FpOk X pins H D:=I.fpOk (by omega) (I.hok.fresh (by omega))
 have fk:FpOk X pins H kS:=I.fpOk (by omega) (I.hok.fresh (by omega))
 refine x0s R hR I1.in2 fD fk (by rw[z3];exact Nat.ne_of_gt (Nat.lt_add_of_pos_right (by decide))) oK (Heap.get?_push_of_some _ (Heap.get?_push_of_some _ e1)) (by omega) r (by omega) turn fun H' ps s' q n p1 p2 J=>?_
 exact⟨_,rfl,wpAny_pure ⟨_,rfl,.ref D,_,J.out2 I.ok,rfl,h H' ps D q n p1 p2⟩⟩
end
def upP(ps:List (Str×PV)):Prop:=ps.Pairwise fun p q=>¬q.1.cps.toList<p.1.cps.toList
def z7b(sp:Den)(we:WE):WE:=fun σ S E Q=>we σ S E fun x S1=>∃(n:Nat)(xs:List PV)(ks:List Str),x=.ref n/\q3i S1 n=some xs/\xs.length<64/\ks.length=xs.length/\
 (∀(i:Nat)(v:PV)(k:Str),xs[i]?=some v->ks[i]?=some k->sp [v] S1 NoX fun u S2=>u=.str k/\S2=S1)/\∀ps:List (Str×PV),ps.Perm (ks.zip xs)->upP ps->Q (.ref S1.length) (S1++[.lst (ps.map (·.2))])
theorem z9z{K:Frag}{H:Hp}{φ:List Addr}:∀{ks:List Str}{xs:List PV}{vs:List V},RVs K H φ xs vs->Paired (fun(a:Str×V) (b:Str×PV)=>a.1=b.1/\RV K H φ b.2 a.2) (ks.zip vs) (ks.zip xs)
 |[],_,_,_=>by simp;exact .nil
 |_::_,[],vs,h=>by rw[show vs=[]from h];simp;exact .nil
 |k::ks,x::xs,vs,h=>by
  obtain⟨y,ys,rfl,r,t⟩:=h
  exact .cons ⟨rfl,r⟩ (z9z t)
theorem z9c{K:Frag}{H:Hp}{φ:List Addr}{as:List (Str×V)}{bs:List (Str×PV)}(h:Paired (fun(a:Str×V) (b:Str×PV)=>a.1=b.1/\RV K H φ b.2 a.2) as bs):RVs K H φ (bs.map (·.2)) (as.map (·.2))/\as.map (·.1)=bs.map (·.1):=by
 induction h with
 |nil=>exact⟨rfl,rfl⟩
 |cons h _ ih=>exact⟨⟨_,_,rfl,h.2,ih.1⟩,by rw[List.map_cons,List.map_cons,h.1,ih.2]⟩
section
variable{X:Cx}{G:GX}{pos:Pos}
theorem y0u {e : Expr} {we : WE} {p p' kpos : Pos} {x : Str} {k : Nat} {f : Addr} {fd : FuncData} {ps : List Str} {sp : Den} (hm : X.mg "sorted" = none) (C : Cal X.prog X.w X.K X.mg X.base k x ps (q1a X.K sp) f fd) (hr : Room k X.A.in1.in1) (he : SimE X G e we)
    (hg : Gl X "sorted" := by rfl) (hgx : Gl X x := by rfl) (hdb : (x == ("__debug__" : Str)) = false := by decide) (hst : starEach [e] X.env = (false, eval e X.env) :: starEach [] X.env := by rfl) : SimE X G (.Call (.Name "sorted" p) [e] [⟨some "key", .Name x p', kpos⟩] pos) (z7b sp we) := by
  rintro pins s σV H Q I ⟨φ, σ, S, Q0, L, R, h, kk⟩
  refine wpAny_Call_Name_kw (q9c I hg hm z6v ?_)
  have ha := z5v he y1v hst
  have hk := x1j (nm := some "key") (kpos := kpos) (z5u (pos := p') hgx C.m (show RelV (V.ref f) (Value.ref f) from rfl) hdb) x5r
  refine callWith_kw (thn (ha pos pins s σV H (fun vs H1 => ∃ (n : Nat) (xs : List PV) (ks : List Str) (φ1 : List Addr) (S1 : q0i) (a : Addr), vs = [.ref a] /\ φ1[n]? = some a /\ φ <+: φ1 /\ Mono H H1 /\ Rel X.K φ1 S1 H1 /\ q3i S1 n = some xs /\ xs.length < 64 /\ ks.length = xs.length /\
      (∀ (i : Nat) (v : PV) (k : Str), xs[i]? = some v -> ks[i]? = some k -> sp [v] S1 NoX fun u S2 => u = .str k /\ S2 = S1) /\ ∀ ps : List (Str × PV), ps.Perm (ks.zip xs) -> upP ps -> Q0 (.ref S1.length) (S1 ++ [.lst (ps.map (·.2))])) I
      ⟨φ, σ, S, _, L, R, h, fun v S1 φ1 H1 y q p1 m1 R1 r1 => ?_⟩) ?_) (by rw [hst]; rfl) (by rw [hst]; rfl)
  · obtain ⟨n, xs, ks, rfl, q⟩ := q
    obtain ⟨a, rfl, qa⟩ := r1
    exact ⟨n, xs, ks, φ1, S1, a, rfl, qa, p1, m1, R1, q⟩
  · rintro us s1 ⟨vs, H1, I1, r1, n, xs, ks, φ1, S1, a, rfl, qa, p1, m1, R1, e1, h64, hlen, ht, hq⟩
    refine thn (hk pos pins s1 σV H1 (fun zs H2 => zs = [.ref f] /\ H2 = H1) I1 ⟨rfl, rfl⟩) ?_
    rintro ws s2 ⟨zs, H2, I2, r2, rfl, rfl⟩
    cases r1 with
    | cons r1 r1' => cases r1'; cases r1; cases r2 with
      | cons r2 r2' => cases r2'; cases r2
                       obtain ⟨vs, sa, ra⟩ := R1.seq qa e1
                       have hl := ra.length
                       show wpAny (model X.prog X.w) X.A (call (.builtin "sorted") [.ref a] [(Str.ofString "key", .ref f)]) _ X.xe s2
                       refine y0r (ks := ks) (fun H' => ∃ φ', φ1 <+: φ' /\ Mono H2 H' /\ Rel X.K φ' S1 H') ⟨φ1, List.prefix_refl _, .refl _, R1⟩ I2 sa (by omega) (by omega) ?_ ?_
                       · rintro i y u kx hy ru hkx pins' s' H' I' ⟨φ', q1, q2, q3⟩
                         obtain ⟨pv, e2, rv⟩ := ra.getV hy
                         have rv' := RV.mono q2 q1 _ _ rv
                         refine wpAny_mono (y8x (X := X.in2) (vs := [y]) (Q := fun v H2' => v = .str kx /\ ∃ φ', φ1 <+: φ' /\ Mono H2 H' /\ Rel X.K φ' S1 H2' /\ Mono H2 H2') C.G hr C.b .nil (y9b (K := X.K)) I' (.cons ru .nil) ?_) ?_ fun _ _ z => z
                         · refine ⟨φ', [pv], S1, _, NoX, NoG.xh, ⟨_, _, rfl, rv', rfl⟩, q3, ht i pv kx e2 hkx, ?_, fun _ _ _ _ z => z.elim, fun _ _ _ z => z⟩
                           rintro v S2 φ2 H3 w' ⟨rfl, rfl⟩ p3 m3 R3 rfl
                           exact ⟨rfl, φ2, q1.trans p3, q2, R3, q2.trans m3⟩
                         · rintro v s3 ⟨w', H3, I3, r3, rfl, φ2, z1, z2, z3, z4⟩
                           exact ⟨r3, H3, I3, φ2, z1, z4, z3⟩
                       · rintro H' ps' D ⟨φ', q1, q2, q3⟩ n' p' up'
                         obtain ⟨bs, b1, b2⟩ := z3q p' (z9z (RVs.mono q2 q1 _ _ ra))
                         obtain ⟨c1, c2⟩ := z9c b2
                         have up2 : upP bs := by
                           have h1 : (ps'.map (·.1)).Pairwise fun a b => ¬ b.cps.toList < a.cps.toList := List.pairwise_map.mpr up'
                           rw [c2] at h1
                           exact List.pairwise_map.mp h1
                         exact ((kk.up p1 m1).up q1 q2).lst (hq bs b1 up2) q3 c1 D n'
end
abbrev SimF(P:Program)(w:World)(K:Frag)(mg:Str->Option Value)(base:Heap)(k:Nat)(x:Str)(N:List Str)(st:Stmt)(W:WS)(f:Addr):Prop:=∀{cdv:Value}{A:Around}{outer:List Env}{s:Shared}{H:Hp}{E:XK}{G:GX},RoomW k (A.deeper (envOfC x (q1z st) s.heap.objs.size f cdv))->Room k (A.deeper (envOfC x (q1z st) s.heap.objs.size f cdv))->q5w (CXE P w) (cxOf (CXE P w) P w K mg base N x (q1z st) f cdv A outer s H E) (xkOf K G.xh)->(A.deeper (envOfC x (q1z st) s.heap.objs.size f cdv)).units+200<cLine->N.Nodup->z0x (cxOf (CXE P w) P w K mg base N x (q1z st) f cdv A outer s H E) G (q6h st) W
section
variable{P:Program}{w:World}{K:Frag}{mg:Str->Option Value}{base h:Heap}{k:Nat}{x:Str}{N ps:List Str}{st:Stmt}{W:WS}{f:Addr}{fd:FuncData}
theorem sco{sc:Scope}(h1:sc.kind=.function)(h2:sc.isCoroutine=false)(h3:sc.isGenerator=false)(h:N.Nodup/\N.take ps.length=ps/\(∀x∈ps,sc.names.lookup x=some .local\/sc.names.lookup x=some .cell)/\∀y∈sc.names,y.2≠.free):FnScope N ps sc:=⟨h1,h2,h3,h.1,h.2.1,h.2.2.1,h.2.2.2⟩
theorem _root_.L2.Loc2.sim(l:Loc2 K mg x st ps f fd)(h:SimF P w K mg base k x N st W f)(sc:FnScope N ps (q1z st):=by exact sco rfl rfl rfl (by decide +kernel)):Cal P w K mg base (k+1) x ps (q1a K (fnP ps.length N.length W)) f fd:=
 l.cal (x8l l.F sc fun _ _ _ _ _ _ _ hr hx=>h hr hr.toRoom hx (by have:=hr.un;omega) sc.nd)
def FnIn(K:Frag)(x:Str)(st:Stmt)(f:Addr):Prop:=PySem.W.nsIn K mainGlobals x=some (some (.ref f))/\∃fd,Fun K x x st f fd
theorem FnIn.mk{oc:Value}{od an:Option Addr}{osl:Array (Option Value)}{kV doc pm cdv ct:Value}(a:PySem.W.nsIn K mainGlobals x=some (some (.ref f)))(l:K.lookup f=some ⟨oc,od,.func (PySem.W.fnOf x x (q8s st) (q6h st) (q1z st) .none kV doc pm an cdv ct),osl⟩)
  (c:PySem.W.codeIn K cdv x=true) (k:PySem.W.keepIn K (.ref f)=true):FnIn K x st f:=⟨a,_,x8k l c k⟩
theorem FnIn.gl(i:FnIn K x st f)(X:K.In h)(G:h.Ns mainGlobals mg):mg x=some (.ref f):=PySem.W.mg_of X G i.1
theorem FnIn.loc(i:FnIn K x st f)(X:K.In h)(G:h.Ns mainGlobals mg)
  (b:∀(kV doc pm:Value)(an:Option Addr)(cdv ct:Value)(us:List Value),us.length=ps.length->bindArgs (PySem.W.fnOf x x (q8s st) (q6h st) (q1z st) .none kV doc pm an cdv ct) ⟨us,[]⟩=pure (ps.zip us)) :
  ∃fd,Loc2 K mg x st ps f fd/\∀us,us.length=ps.length->bindArgs fd ⟨us,[]⟩=pure (ps.zip us):=by
 obtain⟨a,fd,F⟩:=i
 obtain⟨oc,od,kV,doc,pm,an,cdv,ct,osl,rfl,lk,hcd⟩:=id F.ex
 exact⟨_,⟨F,PySem.W.mg_of X G a,F.binds b⟩,b kV doc pm an cdv ct⟩
end
end Ev
namespace My
open PySem L2 Ev
def q5i:WS:=
 (wSeq (wSet 1 (wBin bAdd (wSl (wVar 0) q5y (z1s (wC (.int 63)))) (wLst (q0d (wC (.int 0)) wNil))))
 (wSeq (wSet 2 (wBin cEq (wBin bMod (wBin bIx (wVar 1) (wC (.int 0))) (wC (.int 2))) (wC (.int 1))))
 (wSeq (wAsg (wBin q8t (wBin bIx (wVar 1) (wC (.int 0))) (wC (.int 2))) (z1r (wVar 1) (wC (.int 0)) sSet))
 (wRet (y4x (q8w (wC (.str "cells")) (wVar 1) (q8w (wC (.str "left")) (wC (.int 12)) (q8w (wC (.str "at")) (wC (.int 0)) (q8w (wC (.str "seed")) (wBin bAdd (wC (.int 1)) (wBin bMod (wCB fSum (q0d (wVar 1) wNil)) (wC (.int 2147483646)))) (q8w (wC (.str "mixed")) (wVar 2) y4v))))))))))
def q5h:WS:=
 (wSeq (wSet 1 (wBin bIx (wVar 0) (wC (.str "cells"))))
 (wSeq (wIfS (wTru (wBin bIx (wVar 0) (wC (.str "mixed"))))
 (wSeq (wAsg (wBin bAdd (wBin bIx (wVar 0) (wC (.str "at"))) (wC (.int 1))) (z1r (wVar 0) (wC (.str "at")) sSet))
 (wSeq (wSet 2 (wBin bIx (wVar 1) (wBin bMod (wBin bIx (wVar 0) (wC (.str "at"))) (wCB fLen (q0d (wVar 1) wNil)))))
 (wSeq (wAsg (wBin bMod (wBin bAdd (wBin bAdd (wBin bMul (wBin bIx (wVar 0) (wC (.str "seed"))) (wC (.int 48271))) (wVar 2)) (wBin bIx (wVar 0) (wC (.str "at")))) (wC (.int 2147483647))) (z1r (wVar 0) (wC (.str "seed")) sSet))
 (wSeq (wSet 3 (wBin bMod (wBin bAdd (wBin bMul (wBin bIx (wVar 0) (wC (.str "seed"))) (wBin bIx (wVar 0) (wC (.str "seed")))) (wBin bMul (wC (.int 7919)) (wBin bIx (wVar 0) (wC (.str "at"))))) (wC (.int 2147483629))))
 (wRet (wBin bMod (wBin bMul (wVar 3) (wBin bAdd (wVar 3) (wC (.int 69621)))) (wC (.int 999999999989))))))))
 q1i)
 (wSeq (wSet 3 (wBin bMod (wBin bIx (wVar 1) (wC (.int 0))) (wBin bPow (wC (.int 10)) (wC (.int 12)))))
 (wSeq (wAsg (wBin q8t (wBin bIx (wVar 1) (wC (.int 0))) (wBin bPow (wC (.int 10)) (wC (.int 12)))) (z1r (wVar 1) (wC (.int 0)) sSet))
 (wSeq (wAsg (wBin bSub (wBin bIx (wVar 0) (wC (.str "left"))) (wC (.int 1))) (z1r (wVar 0) (wC (.str "left")) sSet))
 (wSeq (wIfS (wAnd (q0w (wBin cEq (wBin bIx (wVar 0) (wC (.str "left"))) (wC (.int 0)))) (q0w (wBin cGt (wCB fLen (q0d (wVar 1) wNil)) (wC (.int 1)))))
 (wSeq (q3c (wBM "list" z1j (wVar 1) (q0d (wC (.int 0)) wNil)))
 (wAsg (wC (.int 12)) (z1r (wVar 0) (wC (.str "left")) sSet)))
 q1i)
 (wRet (wVar 3))))))))
def q3q:WS:=
 (wSeq (wSet 2 (wC (.str "")))
 (wSeq (wFor (q9z (q0d (wVar 1) wNil)) (q0z 3) (wSeq (wSet 2 (wBin bAdd (wVar 2) (wBin bIx (wC (.str "abcdefghijklmnopqrstuvwxyz")) (wBin bMod (wVar 0) (wC (.int 26))))))
 (wSet 0 (wBin q8t (wVar 0) (wC (.int 26))))))
 (wRet (wVar 2))))
def q8x(spLnext:Den)(spLspelled:Den):WS:=
 (wSeq (wSet 2 (q0t spLnext (q0d (wVar 0) wNil)))
 (wSeq (wSet 3 (q0t spLnext (q0d (wVar 0) wNil)))
 (wSeq (wSet 4 (wBin bAdd (wC (.int 1)) (wBin bMod (wVar 2) (wC (.int 8)))))
 (wSeq (wSet 5 (q0t spLspelled (q0d (wVar 3) (q0d (wVar 4) wNil))))
 (wSeq (wIfS (wAnd (q0w (wBin cNe (wVar 1) (wLst wNil))) (q0w (wBin cEq (wBin bMod (wBin q8t (wVar 2) (wC (.int 8))) (wC (.int 2))) (wC (.int 1)))))
 (wSeq (wSet 6 (wBin bMod (wBin q8t (wVar 2) (wC (.int 16))) (wCB fLen (q0d (wBin bIx (wVar 1) (wC (.int 0))) wNil))))
 (wSet 5 (wBin bAdd (wBin bAdd (wSl (wBin bIx (wVar 1) (wC (.int 0))) q5y (z1s (wVar 6))) (wBin bIx (wVar 5) (wC (.int 0)))) (wSl (wBin bIx (wVar 1) (wC (.int 0))) (z1s (wBin bAdd (wVar 6) (wC (.int 1)))) q5y))))
 q1i)
 (wSeq (q6i (wOr (q0w (wBin cIn (wVar 5) (wVar 1))) (q0w (wBin cEq (wVar 5) (wC (.str "any"))))) (wSeq (wSet 3 (wBin bAdd (wVar 3) (wC (.int 1))))
 (wSeq (wSet 4 (wBin bAdd (wBin bMod (wVar 4) (wC (.int 8))) (wC (.int 1))))
 (wSet 5 (q0t spLspelled (q0d (wVar 3) (q0d (wVar 4) wNil)))))))
 (wRet (wVar 5))))))))
def q4w(spLword:Den):WS:=
 (wSeq (wSet 2 (wLst wNil))
 (wSeq (wFor (q9z (q0d (wVar 1) wNil)) (q0z 3) (q3c (wBM "list" q1s (wVar 2) (q0d (q0t spLword (q0d (wVar 0) (q0d (wVar 2) wNil))) wNil))))
 (wRet (wVar 2))))
def q3z:WS:=
 (wSeq (wIfS (wOr (wNot (wTru (wCB fIsi (q0d (wVar 0) (q0d (wC (.ty "str")) wNil))))) (wOr (q0w (wBin cEq (wCB fLen (q0d (wVar 0) wNil)) (wC (.int 0)))) (q0w (wBin cGt (wCB fLen (q0d (wVar 0) wNil)) (wC (.int 8))))))
 (wRet (wC (.bl false)))
 q1i)
 (wRet (wCB fAll (q0d (q5c (q5n (wVar 0)) [none] (q0z 0) q2t (wBin cIn (wVar 0) (wC (.str "abcdefghijklmnopqrstuvwxyz")))) wNil))))
local macro_rules | `(tactic| dsimp! [$xs,*]) => do
 let ns := (("wSet wAsg q0z z1r q4e q1e q4j sSet wIfS q0w wTru truK wAnd wOr wNot y0g wIf wNeg wBin wVar wC wCB q0d wNil wTup wLst wRet q3c q0t wBM wBM0 wSl bSl z1s q5y q1i z3g wFor q5n q9z q5p z5l z7b z7c q5c q2t z0t wAug z6w bAdd bI bSub q8t bMod bPow bMul cLt cGt cGe x8v y9q y9p y9o z8g x8t x8q x8p x8o y9n x8r w1f w1g y8d cIs q9e z4l q6m wTry y4w z7d y4q y9y y9x x1q ix_t ix_s ix_f ix_r q1g z2u fLen fIsi tyP fSum fAll z9u q7f fInt fStr q1s mPop z1j q6e z1t y4u y0b y4t y4x q8w y4v List.getElem?_cons_zero List.getElem?_cons_succ List.set_cons_zero List.set_cons_succ List.map_cons List.map_nil List.replicate List.cons_append List.nil_append List.length_cons List.length_nil q5m q5l x0t x2g true_and if_true Bool.false_eq_true if_false Bool.not_true Bool.not_false y7i x7q x7r x2j q9g q8r z0p z0q q9h z4g z2y z6m z6n z4h z6k z4f z9m z9n z6l z6g z4c z9k z9l z6h z2v z1a z4a z4b z2w z4d z2x z6i z6j z4e x2a x6w x2b x1z z0h z7z q4o y3l y3k q6s y6u y2b decide_eq_true_eq and_self and_true decide_true decide_false not_true_eq_false not_false_eq_true Int.cast_ofNat_Int Int.reduceEq Int.reduceNeg Nat.reduceSub Nat.sub_self Bool.not_eq_true' decide_eq_false_iff_not Nat.reduceAdd".splitOn " ").map fun z => Lean.mkIdent z.toName).toArray
 let ds := (("wSet wAsg q0z z1r q4e q1e q4j sSet wIfS q0w wTru truK wAnd wOr wNot y0g wIf wNeg wBin wVar wC wCB q0d wNil wTup wLst wRet q3c q0t wBM wBM0 wSl bSl z1s q5y q1i z3g wFor q5n q9z q5p z5l z7b z7c q5c q2t z0t wAug z6w bAdd bI bSub q8t bMod bPow bMul cLt cGt cGe cIs q6m wTry y4w z7d y4q y9y y9x x1q ix_t ix_s ix_f ix_r z2u fLen fIsi tyP fSum fAll z9u q7f fInt fStr q1s mPop z1j q6e z1t y4u y0b y4t y4x q8w y4v true_and List.getElem?_cons_zero List.getElem?_cons_succ List.set_cons_zero List.set_cons_succ List.map_cons List.map_nil List.cons_append List.nil_append".splitOn " ").map fun z => Lean.mkIdent z.toName).toArray
 `(tactic| first|(dsimp only[$[$ds:ident],*];first|simp only[$[$ns:ident],*, $xs,*]|skip)|simp only[$[$ns:ident],*, $xs,*])
def mk(l:List Nat):Str:=⟨l.toArray⟩
theorem q6d(l:List Nat):(mk l).cps.toList=l:=rfl
theorem q9b(l:List Nat):(mk l).length=l.length:=by simp[mk,Str.length]
theorem y2i(a b:List Nat):mk a++mk b=mk (a++b):=by
 apply z5p
 rw[y8h,q6d,q6d,q6d]
theorem x6y{a b:List Nat}(h:mk a=mk b):a=b:=by rw[<-q6d a,h,q6d]
theorem z2q(z:Str):z.cps.toList.length=z.length:=by simp[Str.length]
theorem y7u:Str.ofString "" = mk []:=by decide +kernel
theorem y9m(c:Nat):(⟨#[c]⟩:Str)=mk [c]:=rfl
def isL(c:Nat):Bool:=inS ⟨#[c]⟩ (Str.ofString "abcdefghijklmnopqrstuvwxyz")
def q3t(z:Str):Bool:=!decide (z.length=0)&&!decide (8<z.length)&&z.cps.toList.all isL
theorem z6o{z:Str}{S:q0i}{E:EK}{Q:VC}(hz:z.length<=1000000)(h:∀S',Ex [] S S'->Q (.bl (q3t z)) S'):fnP 1 1 q3z [.str z] S E Q:=by
 refine⟨rfl,?_⟩
 unfold q3z
 refine seqI fun K hK=>?_
 dsimp![true_and]
 refine⟨big hz,ite2 (fun c=>?_) (fun c=>⟨big hz,ite2 (fun d=>?_) (fun d=>?_)⟩)⟩
 ·have:=h S (Ex.refl _ _)
  rw[show q3t z=false by unfold q3t;rw[decide_eq_true (show z.length=0 by omega)];rfl]at this
  exact this
 ·have:=h S (Ex.refl _ _)
  rw[show q3t z=false by unfold q3t;rw[decide_eq_true (show 8<z.length by omega),Bool.not_true,Bool.and_false,Bool.false_and]]at this
  exact this
 refine hK _ _ ?_
 dsimp![true_and]
 refine⟨by rw[List.length_map,z2q];exact big hz,?_⟩
 refine z3a (fun rest ys σ S1=>S1=S/\(∃v,σ=[v])/\∃done cs,z.cps.toList=done++cs/\rest=cs.map chr1/\ys=(done.map isL).map PV.bl) ?_ ?_ _ _ _ _ ⟨rfl,⟨none,rfl⟩,[],z.cps.toList,rfl,rfl,rfl⟩
 ·rintro ys σ S1 ⟨rfl,-,done,cs,e1,e2,rfl⟩
  have:cs=[]:=by
   cases cs with
   |nil=>rfl
   |cons a b=>simp at e2
  subst this
  rw[List.append_nil]at e1
  refine⟨trivial,?_⟩
  dsimp![Option.bind_some,y4h]
  have:=h _ (Ex.new [] S1 [.lst ((done.map isL).map PV.bl)])
  have e:q3t z=(done.map isL).all id:=by
   unfold q3t
   rw[decide_eq_false (show ¬z.length=0 by omega),decide_eq_false (show ¬8<z.length by omega),e1,List.all_map]
   rfl
  rw[e]at this
  exact this
 ·rintro x r ys σ S1 ⟨rfl,⟨v,rfl⟩,done,cs,e1,e2,rfl⟩ N hN
  cases cs with
  |nil=>simp at e2
  |cons c cs=>
   simp only[List.map_cons,List.cons.injEq]at e2
   obtain⟨rfl,rfl⟩:=e2
   dsimp![chr1]
   exact hN _ _ _ ⟨rfl,⟨_,rfl⟩,done++[c],cs,by simp[e1],rfl,by simp[isL]⟩
inductive Kd where
 |a (s:Str)|p (f t:Kd)
def Kd.pv:Kd->PV
 |.a s=>.str s
 |.p f t=>.tup [f.pv,t.pv]
def Kd.lv:Kd->Nat
 |.a _=>1
 |.p f t=>f.lv+t.lv
def Kd.dp:Kd->Nat
 |.a _=>0
 |.p f t=>max f.dp t.dp+1
def Kd.ok:Kd->Prop
 |.a s=>q3t s=true
 |.p f t=>f.ok/\t.ok
theorem z0k{s:Str}(h:q3t s=true):1<=s.length/\s.length<=8/\s.cps.toList.all isL=true:=by
 unfold q3t at h
 simp only[Bool.and_eq_true,Bool.not_eq_true',decide_eq_false_iff_not]at h
 exact⟨by omega,by omega,h.2⟩
theorem Kd.lv_pos:∀k:Kd,1<=k.lv
 |.a _=>Nat.le_refl _
 |.p f t=>Nat.le_trans (Kd.lv_pos f) (Nat.le_add_right _ _)
theorem Kd.dp_lv:∀k:Kd,k.dp+1<=k.lv
 |.a _=>Nat.le_refl _
 |.p f t=>by
  have h1:=Kd.dp_lv f
  have h2:=Kd.dp_lv t
  simp only[Kd.dp,Kd.lv]
  omega
theorem y2f:∀k:Kd,nrf k.pv=true
 |.a _=>rfl
 |.p f t=>by simp only[Kd.pv,nrf,nrfs,y2f f,y2f t,Bool.and_self]
theorem z4r:∀k:Kd,dep k.pv=k.dp
 |.a _=>rfl
 |.p f t=>by simp only[Kd.pv,dep,deps,z4r f,z4r t,Kd.dp];omega
theorem y2c{k:Kd}(h:k.dp<=190):okEq k.pv:=⟨y2f k,by rw[z4r];exact h⟩
theorem x6v(a b:Str):q6c [.str a,.str b]:=q8q [a,b]
structure ReadAt(S0:q0i)(z:Str)(np ns:Nat)(pcs:List Str)(st:List Kd)(σ:Ev.Loc)(S:q0i):Prop where
 loc:∃j,σ=[some (.str z),some (.ref np),some (.ref ns),j]
 pcs:S[np]?=some (.lst (pcs.map PV.str))
 stk:S[ns]?=some (.lst (st.map Kd.pv))
 ext:Ex [] S0 S
section
variable{spc spi:Den}{S0:q0i}{z:Str}{np ns:Nat}{pcs:List Str}{D:PEnds}{E:EK}
end
def q5e(c:Nat)(l a s:Int)(m:Bool):List (Key×PV):=[(.inr (Str.ofString "cells"),.ref c),(.inr (Str.ofString "left"),.int l),(.inr (Str.ofString "at"),.int a),(.inr (Str.ofString "seed"),.int s),(.inr (Str.ofString "mixed"),.bl m)]
theorem y7y(c:Nat)(l a s:Int)(m:Bool):valP (q5e c l a s m) (.inr (Str.ofString "cells"))=some (.ref c):=rfl
theorem y3t(c:Nat)(l a s:Int)(m:Bool):valP (q5e c l a s m) (.inr (Str.ofString "left"))=some (.int l):=rfl
theorem y7z(c:Nat)(l a s:Int)(m:Bool):valP (q5e c l a s m) (.inr (Str.ofString "at"))=some (.int a):=rfl
theorem y3r(c:Nat)(l a s:Int)(m:Bool):valP (q5e c l a s m) (.inr (Str.ofString "seed"))=some (.int s):=rfl
theorem y7v(c:Nat)(l a s:Int)(m:Bool):valP (q5e c l a s m) (.inr (Str.ofString "mixed"))=some (.bl m):=rfl
theorem y3q(c:Nat)(l a s:Int)(m:Bool)(x:Int):putP (q5e c l a s m) (.inr (Str.ofString "left")) (.int x)=q5e c x a s m:=rfl
theorem w1d(c:Nat)(l a s:Int)(m:Bool)(x:Int):putP (q5e c l a s m) (.inr (Str.ofString "at")) (.int x)=q5e c l x s m:=rfl
theorem x3j(c:Nat)(l a s:Int)(m:Bool)(x:Int):putP (q5e c l a s m) (.inr (Str.ofString "seed")) (.int x)=q5e c l a x m:=rfl
theorem z8b(c:Nat)(l a s:Int)(m:Bool):(q5e c l a s m).length<sizeLine:=bigl (by show 5<=1000000;decide)
structure Deck(d c:Nat)(S:q0i):Prop where
 is:∃(l a s:Int)(m:Bool)(x:Int)(xs:List Int),S[d]?=some (.dK (q5e c l a s m))/\S[c]?=some (.lst ((x::xs).map PV.int))/\xs.length<=100/\0<=s/\s<2147483647
 ne:d≠c
theorem Deck.ex{d c:Nat}{S S':q0i}(h:Deck d c S){D:List Nat}(e:Ex D S S')(h1:d∉D)(h2:c∉D):Deck d c S':=by
 obtain⟨⟨l,a,s,m,x,xs,g1,g2,r⟩,ne⟩:=h
 exact⟨⟨l,a,s,m,x,xs,e.get g1 h1,e.get g2 h2,r⟩,ne⟩
def z5i(sp:Den):Prop:=∀(d c:Nat)(S:q0i)(E:EK)(Q:VC),Deck d c S->(∀(n:Int) S',0<=n->n<1000000000000->Deck d c S'->Ex [d,c] S S'->Q (.int n) S')->sp [.ref d] S E Q
theorem q9s(n:Nat):ixN (n+1) 0=some 0:=by
 unfold ixN
 rw[if_pos (by decide),if_pos (by omega)]
 rfl
theorem q0x(x:PV)(xs:List PV):atI (x::xs) 0=some x:=by
 unfold atI ixN
 simp only[List.length_cons]
 rw[if_pos (by decide),if_pos (by omega)]
 rfl
theorem x3t{xs:List Int}{i:Int}(h:xs≠[]):∃y,atI (xs.map PV.int) (i % (xs.length:Int))=some (.int y):=by
 have hp:0<xs.length:=List.length_pos_iff.mpr h
 have h0:0<=i % (xs.length:Int):=Int.emod_nonneg _ (by omega)
 have h1:i % (xs.length:Int)<xs.length:=Int.emod_lt_of_pos _ (by omega)
 unfold atI ixN
 rw[List.length_map,if_pos h0,if_pos h1]
 have:(i % (xs.length:Int)).toNat<xs.length:=by omega
 exact⟨xs[(i % (xs.length:Int)).toNat],by simp[this]⟩
theorem y3y{i j:Int}(h:-(2 ^ 64)<j)(h':j<2 ^ 64):CMul i j:=.inr ⟨h,h'⟩
theorem x8m{i j:Int}(h:-(2 ^ 64)<i)(h':i<2 ^ 64):CMul i j:=.inl ⟨h,h'⟩
theorem x2c:z5i (fnP 1 4 q5h):=by
 rintro d c S E Q ⟨⟨l,a,s,m,x,xs,g1,g2,hl,s0,s1⟩,ne⟩ h
 refine⟨rfl,?_⟩
 unfold q5h
 refine seqI fun K hK=>?_
 dsimp![g1,y7y]
 refine hK _ _ ?_
 refine seqI fun K hK=>?_
 dsimp![g1,y7v]
 refine ite2 (fun hm=>?_) (fun hm=>?_)
 ·refine seqI fun K2 hK2=>?_
  dsimp![g1,y7z,w1d]
  refine⟨z8b _ _ _ _ _,hK2 _ _ ?_⟩
  have a1:=q1k (.dK (q5e c l (a+1) s m)) g1
  have b1:=q1x (j:=d) (.dK (q5e c l (a+1) s m)) g2 ne
  refine seqI fun K2 hK2=>?_
  obtain⟨y,hy⟩:=x3t (xs:=x::xs) (i:=a+1) (by simp)
  dsimp![a1,b1,y7z,q0v b1,List.length_map]
  simp only[List.map_cons,List.length_cons]at hy
  rw[show((xs.length+1:Nat):Int)=((xs.length:Int)+1) by omega]at hy ⊢
  refine⟨by omega,?_⟩
  rw[hy]
  refine hK2 _ _ ?_
  refine seqI fun K2 hK2=>?_
  dsimp![a1,y7z,y3r,x3j]
  refine⟨y3y (by decide) (by decide),by decide,z8b _ _ _ _ _,hK2 _ _ ?_⟩
  have s2:∀z:Int,0<=z % 2147483647/\z % 2147483647<2147483647:=fun z=>⟨Int.emod_nonneg _ (by decide),Int.emod_lt_of_pos _ (by decide)⟩
  obtain⟨t0,t1⟩:=s2 (s*48271+y+(a+1))
  generalize hs':(s*48271+y+(a+1)) % 2147483647=s' at t0 t1 ⊢
  have a2:=q1k (.dK (q5e c l (a+1) s' m)) a1
  have b2:=q1x (j:=d) (.dK (q5e c l (a+1) s' m)) b1 ne
  refine seqI fun K2 hK2=>?_
  dsimp![a2,y7z,y3r]
  refine⟨y3y (by omega) (by omega),x8m (by decide) (by decide),by decide,hK2 _ _ ?_⟩
  have n0:0<=(s'*s'+7919*(a+1)) % 2147483629:=Int.emod_nonneg _ (by decide)
  have n1:(s'*s'+7919*(a+1)) % 2147483629<2147483629:=Int.emod_lt_of_pos _ (by decide)
  generalize (s'*s'+7919*(a+1)) % 2147483629=nn at n0 n1 ⊢
  dsimp![true_and]
  refine⟨y3y (by omega) (by omega),by decide,?_⟩
  refine h _ _ (Int.emod_nonneg _ (by decide)) (Int.lt_trans (Int.emod_lt_of_pos _ (by decide)) (by decide)) ⟨⟨l,a+1,s',m,x,xs,a2,b2,hl,t0,t1⟩,ne⟩ (((Ex.refl _ _).set (.inl (by simp))).set (.inl (by simp)))
 ·refine hK _ _ ?_
  refine seqI fun K hK=>?_
  dsimp![g2,q0x]
  refine⟨⟨by decide,by decide,by decide⟩,by decide,hK _ _ ?_⟩
  rw[show((10:Int) ^ (12:Int).toNat)=1000000000000 by decide]
  refine seqI fun K hK=>?_
  simp only[List.map_cons]at g2
  dsimp![g2,q0x,q9s]
  rw[show((10:Int) ^ (12:Int).toNat)=1000000000000 by decide]
  refine⟨⟨by decide,by decide,by decide⟩,⟨by decide,by decide⟩,hK _ _ ?_⟩
  have b1:=q1k (.lst (PV.int (x / 1000000000000)::xs.map PV.int)) g2
  have a1:=q1x (j:=c) (.lst (PV.int (x / 1000000000000)::xs.map PV.int)) g1 (Ne.symm ne)
  refine seqI fun K hK=>?_
  dsimp![a1,y3t,y3q]
  refine⟨z8b _ _ _ _ _,hK _ _ ?_⟩
  have a2:=q1k (.dK (q5e c (l-1) a s m)) a1
  have b2:=q1x (j:=d) (.dK (q5e c (l-1) a s m)) b1 ne
  have n0:0<=x % 1000000000000:=Int.emod_nonneg _ (by decide)
  have n1:x % 1000000000000<1000000000000:=Int.emod_lt_of_pos _ (by decide)
  have exx:Ex [d,c] S ((S.set c (.lst (PV.int (x / 1000000000000)::xs.map PV.int))).set d (.dK (q5e c (l-1) a s m))):=((Ex.refl _ _).set (.inl (by simp))).set (.inl (by simp))
  refine seqI fun K hK=>?_
  dsimp![a2,y3t,q0v b2,List.length_map]
  have fin0:K [some (.ref d),some (.ref c),none,some (.int (x % 1000000000000))] ((S.set c (.lst (PV.int (x / 1000000000000)::xs.map PV.int))).set d (.dK (q5e c (l-1) a s m))):=by
   refine hK _ _ ?_
   dsimp![true_and]
   exact h _ _ n0 n1 ⟨⟨l-1,a,s,m,x / 1000000000000,xs,a2,b2,hl,s0,s1⟩,ne⟩ exx
  refine ite2 (fun z=>ite2 (fun z2=>?_) (fun z2=>fin0)) (fun z=>fin0)
  refine seqI fun K2 hK2=>?_
  dsimp![b2,q1f b2,q9s,List.eraseIdx_zero,List.tail_cons]
  refine⟨⟨by decide,by decide⟩,hK2 _ _ ?_⟩
  have b3:=q1k (.lst (xs.map PV.int)) b2
  have a3:=q1x (j:=c) (.lst (xs.map PV.int)) a2 (Ne.symm ne)
  dsimp![a3,y3q]
  refine⟨z8b _ _ _ _ _,hK _ _ ?_⟩
  dsimp![true_and]
  obtain⟨x',xs',rfl⟩:∃x' xs',xs=x'::xs':=by
   cases xs with
   |nil=>simp at z2
   |cons a b=>exact⟨a,b,rfl⟩
  refine h _ _ n0 n1 ⟨⟨12,a,s,m,x',xs',q1k _ a3,q1x _ b3 ne,by simp at hl;omega,s0,s1⟩,ne⟩ ((exx.set (.inl (by simp))).set (.inl (by simp)))
def x9e(sp:Den):Prop:=∀(ns:List Int)(S:q0i)(E:EK)(Q:VC),ns.length<=63->(∀d c S',Deck d c S'->Ex [] S S'->S.length<=c->S.length<=d->Q (.ref d) S')->sp [.frl (ns.map .int)] S E Q
theorem w1e(ns:List Int)(h:ns.length<=63):cutP (ns.map PV.int) none (some 63)=ns.map PV.int:=by
 unfold cutP
 have:HT.sIx (ns.map PV.int).length (ns.map PV.int).length (some 63)=(ns.map PV.int).length:=by
  rw[show(63:Int)=((63:Nat):Int)from rfl,HT.sIx_nat,List.length_map]
  omega
 rw[this,HT.sIx_none,List.drop_zero,Nat.sub_zero,List.take_length]
theorem x3o:x9e (fnP 1 3 q5i):=by
 intro ns S E Q hl h
 refine⟨rfl,?_⟩
 unfold q5i
 refine seqI fun K hK=>?_
 obtain⟨x,xs,hxs,hxl⟩:∃x xs,ns++[0]=x::xs/\xs.length<=100:=by
  cases ns with
  |nil=>exact⟨0,[],rfl,by simp⟩
  |cons a r=>exact⟨a,r++[0],rfl,by simp at hl ⊢;omega⟩
 have e0:(S++[SO.lst (ns.map PV.int)])[S.length]?=some (.lst (ns.map PV.int)):=q1g _ _
 have e1:=q1m e0 [SO.lst [PV.int 0]]
 have e2:=q1g (S++[SO.lst (ns.map PV.int)]) (.lst [PV.int 0])
 dsimp![w1e ns hl,q1f e1]
 refine⟨big (by decide),⟨by rw[List.length_map];exact big (by omega),hK _ _ ?_⟩⟩
 have ecat:ns.map PV.int++[PV.int 0]=(x::xs).map PV.int:=by rw[<-hxs];simp
 rw[ecat]
 generalize hS3:S++[SO.lst (ns.map PV.int)]++[SO.lst [PV.int 0]]=S3
 have hx3:Ex [] S S3:=by rw[<-hS3];exact(Ex.new _ _ _).app _
 have g:=q1g S3 (.lst ((x::xs).map PV.int))
 refine seqI fun K hK=>?_
 simp only[List.map_cons]at g
 dsimp![g,q0x]
 refine⟨by decide,hK _ _ ?_⟩
 refine seqI fun K hK=>?_
 dsimp![g,q0x,q9s]
 refine⟨⟨by decide,by decide⟩,hK _ _ ?_⟩
 have g2:=q1k (.lst (PV.int (x / 2)::xs.map PV.int)) g
 have hx4:Ex [] S ((S3++[SO.lst (PV.int x::xs.map PV.int)]).set S3.length (.lst (PV.int (x / 2)::xs.map PV.int))):=(hx3.app _).set (.inr hx3.1)
 generalize hS4:(S3++[SO.lst (PV.int x::xs.map PV.int)]).set S3.length (.lst (PV.int (x / 2)::xs.map PV.int))=S4 at g2 hx4 ⊢
 have g3:=q1m g2 [SO.dK []]
 have eI:q7e (PV.int (x / 2)::xs.map PV.int)=some ((x / 2)::xs):=z9q ((x / 2)::xs)
 dsimp![q0v g3,Option.bind_some,eI]
 refine⟨by decide,by first|exact⟨q1g _ _,by decide⟩|decide,?_⟩
 have em:∀(b:Bool)(s:Int),z7t [] [(Sum.inr (Str.ofString "cells"),PV.ref S3.length),(Sum.inr (Str.ofString "left"),PV.int 12),(Sum.inr (Str.ofString "at"),PV.int 0),(Sum.inr (Str.ofString "seed"),PV.int s),(Sum.inr (Str.ofString "mixed"),PV.bl b)]=q5e S3.length 12 0 s b:=fun b s=>rfl
 rw[em]
 have hlt:S3.length<S4.length:=q1l g2
 have n0:0<=((x / 2)::xs).sum % 2147483646:=Int.emod_nonneg _ (by decide)
 have n1:((x / 2)::xs).sum % 2147483646<2147483646:=Int.emod_lt_of_pos _ (by decide)
 refine h S4.length S3.length _ ⟨⟨12,0,_,_,x / 2,xs,q1k _ (q1g S4 (SO.dK [])),q1x _ g3 (by omega),hxl,?_,?_⟩,by omega⟩ ((hx4.app _).set (.inr hx4.1)) hx3.1 hx4.1
 ·generalize ((x / 2)::xs).sum % 2147483646=y at n0 n1 ⊢;omega
 ·generalize ((x / 2)::xs).sum % 2147483646=y at n0 n1 ⊢;omega
def spl:Int->Nat->List Nat
 |_,0=>[]
 |n,k+1=>(97+(n % 26).toNat)::spl (n / 26) k
theorem q7h:∀(k:Nat)(n:Int),(spl n k).length=k
 |0,_=>rfl
 |k+1,n=>by rw[spl,List.length_cons,q7h k]
def z3d(sp:Den):Prop:=∀(n:Int)(k:Nat)(S:q0i)(E:EK)(Q:VC),k<=8->Q (.str (mk (spl n k))) S->sp [.int n,.int k] S E Q
theorem y1f(lo:Int)(n:Nat):(rngP lo n).length=n:=by simp[rngP]
theorem z8v:z3d (fnP 2 4 q3q):=by
 intro n k S E Q hk h
 refine⟨rfl,?_⟩
 unfold q3q
 refine seqI fun K hK=>?_
 dsimp![true_and]
 refine hK _ _ ?_
 refine seqI fun K hK=>?_
 dsimp![true_and]
 refine⟨⟨by omega,by omega⟩,?_⟩
 rw[Int.toNat_natCast]
 refine forI (fun rest σ S1=>∃(num:Int)(w:List Nat)(j:Option PV),σ=[some (.int num),some (.int k),some (.str (mk w)),j]/\S1=S/\w++spl num rest.length=spl n k) ?_ ?_ _ _ _ ⟨n,[],none,by rw[y7u],rfl,by rw[y1f];rfl⟩
 ·rintro σ S1 ⟨num,w,j,rfl,rfl,hw⟩
  refine⟨trivial,hK _ _ ?_⟩
  dsimp![true_and]
  rw[List.length_nil,spl,List.append_nil]at hw
  rw[hw]
  exact h
 ·rintro x r σ S1 ⟨num,w,j,rfl,rfl,hw⟩ N hN
  rw[List.length_cons,spl]at hw
  refine⟨trivial,?_⟩
  have hwl:w.length<=8:=by
   have:=congrArg List.length hw
   rw[List.length_append,q7h]at this
   omega
  have m0:0<=num % 26:=Int.emod_nonneg _ (by decide)
  have m1:num % 26<26:=Int.emod_lt_of_pos _ (by decide)
  dsimp![true_and]
  refine seqI fun K2 hK2=>?_
  dsimp![z9h m0 m1]
  refine⟨by decide,z6c,?_⟩
  rw[y9m,y2i,q9b,q9b]
  refine⟨big (by simp;omega),hK2 _ _ ?_⟩
  dsimp![true_and]
  refine⟨⟨by decide,by decide⟩,hN _ _ ⟨num / 26,w++[97+(num % 26).toNat],_,rfl,rfl,by rw[<-hw];simp⟩⟩
theorem x3a:∀m:Nat,m<26->isL (97+m)=true:=by decide +kernel
theorem z2b:∀(k:Nat)(n:Int),(spl n k).all isL=true
 |0,_=>rfl
 |k+1,n=>by
  have m0:0<=n % 26:=Int.emod_nonneg _ (by decide)
  have m1:n % 26<26:=Int.emod_lt_of_pos _ (by decide)
  rw[spl,List.all_cons,z2b k,Bool.and_true]
  exact x3a _ (by omega)
theorem z2o{l:List Nat}(h1:1<=l.length)(h8:l.length<=8)(h:l.all isL=true):q3t (mk l)=true:=by
 unfold q3t
 rw[q9b,q6d,h,decide_eq_false (by omega),decide_eq_false (by omega)]
 rfl
theorem z7s{α:Type} [DecidableEq α]:∀{l F:List α},l.Nodup->(∀x∈l,x∈F)->l.length<=F.length
 |[],_,_,_=>Nat.zero_le _
 |a::l,F,nd,h=>by
  obtain⟨h1,h2⟩:=List.nodup_cons.mp nd
  have ha:a∈F:=h a (by simp)
  have:=z7s (l:=l) (F:=F.erase a) h2 fun x hx=>(List.mem_erase_of_ne (by rintro rfl;exact h1 hx)).mpr (h x (List.mem_cons_of_mem _ hx))
  rw[List.length_erase_of_mem ha]at this
  have:0<F.length:=List.length_pos_of_mem ha
  simp only[List.length_cons]
  omega
def sAny:Str:=Str.ofString "any"
def szn(k i:Nat):Nat:=(k-1+i) % 8+1
theorem y5e(k i:Nat):szn (szn k 1) i=szn k (i+1):=by unfold szn;omega
def Bad(ws:List Str)(w:Str):Prop:=w∈ws\/w=sAny
def z5j(ws:List Str)(num:Int)(k i:Nat):Prop:=¬Bad ws (mk (spl (num+(i:Nat)) (szn k i)))
theorem x0p(z:Str)(k:Nat)(h:k<=z.length):Txt.slice z none (some (k:Int))=mk (z.cps.toList.take k):=by
 apply z5p
 rw[z1c,q6d,HT.sIx_none,HT.sIx_nat,List.drop_zero,Nat.sub_zero,Nat.min_eq_left h]
theorem x0r(z:Str)(k:Nat)(h:k<=z.length):Txt.slice z (some (k:Int)) none=mk (z.cps.toList.drop k):=by
 apply z5p
 rw[z1c,q6d,HT.sIx_none,HT.sIx_nat,Nat.min_eq_left h,List.take_of_length_le]
 rw[List.length_drop,z2q]
 exact Nat.le_refl _
theorem y7t(ws:List Str):eqBs (ws.map PV.str) []=ws.isEmpty:=by cases ws<;>simp[eqBs]
theorem x8x(ws:List Str)(w:Str):((ws.map PV.str).any fun y=>eqB y (.str w))=decide (w∈ws):=by
 rw[List.any_map,Bool.eq_iff_iff,List.any_eq_true,decide_eq_true_eq]
 constructor
 ·rintro⟨x,hx,e⟩
  have e':eqB (.str x) (.str w)=true:=e
  rw[q4o,decide_eq_true_eq]at e'
  rw[<-e'];exact hx
 ·intro h
  exact⟨w,h,by show eqB (.str w) (.str w)=true;rw[q4o];simp⟩
theorem y8i{p:Nat->Bool}{l:List Nat}(k:Nat)(h:l.all p=true):(l.take k).all p=true:=List.all_eq_true.mpr fun x hx=>List.all_eq_true.mp h x (List.mem_of_mem_take hx)
theorem y8j{p:Nat->Bool}{l:List Nat}(k:Nat)(h:l.all p=true):(l.drop k).all p=true:=List.all_eq_true.mpr fun x hx=>List.all_eq_true.mp h x (List.mem_of_mem_drop hx)
theorem q9w{α:Type}(xs:List α)(j:Nat)(h:j<xs.length):atI xs (j:Int)=some xs[j]:=by
 unfold atI ixN
 rw[if_pos (by omega),if_pos (by omega)]
 simp[h]
def q8y(spLnext:Den)(spLspelled:Den):WS:=
 (wSeq (wSet 2 (q0t spLnext (q0d (wVar 0) wNil)))
 (wSeq (wSet 3 (q0t spLnext (q0d (wVar 0) wNil)))
 (wSeq (wSet 4 (wBin bAdd (wC (.int 1)) (wBin bMod (wVar 2) (wC (.int 8)))))
 (wSeq (wSet 5 (q0t spLspelled (q0d (wVar 3) (q0d (wVar 4) wNil))))
 (wSeq (wIfS (wAnd (q0w (wBin cNe (wVar 1) (wLst wNil))) (q0w (wBin cEq (wBin bMod (wBin q8t (wVar 2) (wC (.int 8))) (wC (.int 2))) (wC (.int 1)))))
 (wSeq (wSet 6 (wBin bMod (wBin q8t (wVar 2) (wC (.int 16))) (wCB fLen (q0d (wBin bIx (wVar 1) (wC (.int 0))) wNil))))
 (wSet 5 (wBin bAdd (wBin bAdd (wSl (wBin bIx (wVar 1) (wC (.int 0))) q5y (z1s (wVar 6))) (wBin bIx (wVar 5) (wC (.int 0)))) (wSl (wBin bIx (wVar 1) (wC (.int 0))) (z1s (wBin bAdd (wVar 6) (wC (.int 1)))) q5y))))
 q1i)
 (wSeq (q6i (wOr (q0w (wBin cIn (wVar 5) (wVar 1))) (q0w (wBin cEq (wVar 5) (wC (.str "any"))))) (wSeq (wSet 3 (wBin bAdd (wVar 3) (wC (.int 1))))
 (wSeq (wSet 4 (wBin bAdd (wBin bMod (wVar 4) (wC (.int 8))) (wC (.int 1))))
 (wSet 5 (q0t spLspelled (q0d (wVar 3) (q0d (wVar 4) wNil)))))))
 (wRet (wVar 5))))))))
def q2f:WS:=
 (wSeq (wSet 1 (wLst wNil))
 (wSeq (wSet 2 (wLst (q0d (wTup (q0d (wVar 0) (q0d (wTup wNil) wNil))) wNil)))
 (wSeq (q6i (wTru (wVar 2)) (wSeq (wAsg (wBM0 "list" mPop (wVar 2)) (q4e 2 (q1e (q0z 3) (q1e (q0z 4) q4j))))
 (wSeq (wIfS (q0w (wBin cEq (wBin bIx (wVar 3) (wC (.int 0))) (wC (.str "fn"))))
 (q3c (wBM "list" q1s (wVar 2) (q0d (wTup (q0d (wBin bIx (wVar 3) (wC (.int 2))) (q0d (wBin bAdd (wVar 4) (wTup (q0d (wCB fLen (q0d (wVar 1) wNil)) wNil))) wNil))) wNil)))
 (wIfS (q0w (wBin cEq (wBin bIx (wVar 3) (wC (.int 0))) (wC (.str "of"))))
 (q3c (wBM "list" q6e (wVar 2) (q0d (wLst (q0d (wTup (q0d (wBin bIx (wVar 3) (wC (.int 2))) (q0d (wVar 4) wNil))) (q0d (wTup (q0d (wBin bIx (wVar 3) (wC (.int 1))) (q0d (wVar 4) wNil))) wNil))) wNil)))
 q1i))
 (q3c (wBM "list" q1s (wVar 1) (q0d (wTup (q0d (wVar 3) (q0d (wVar 4) wNil))) wNil))))))
 (wRet (wVar 1)))))
def q1o:WS:=
 (wSeq (wIfS (q0w (wBin cEq (wBin bIx (wVar 0) (wC (.int 0))) (wC (.str "fn"))))
 (wRet (wTup (q0d (wBin bIx (wVar 0) (wC (.int 2))) wNil)))
 q1i)
 (wSeq (wIfS (q0w (wBin cEq (wBin bIx (wVar 0) (wC (.int 0))) (wC (.str "of"))))
 (wRet (wTup (q0d (wBin bIx (wVar 0) (wC (.int 1))) (q0d (wBin bIx (wVar 0) (wC (.int 2))) wNil))))
 q1i)
 (wRet (wTup wNil))))
def q4p(spinner_of:Den):WS:=
 (wSeq (wSet 2 (wLst (q0d (wVar 0) wNil)))
 (wSeq (wFor (q5n (wVar 1)) (q0z 3) (wSeq (wSet 4 (q0t spinner_of (q0d (wBin bIx (wVar 2) (wNeg (wC (.int 1)))) wNil)))
 (wSeq (wIfS (wOr (q0w (wBin cLt (wVar 3) (wC (.int 0)))) (q0w (wBin cGe (wVar 3) (wCB fLen (q0d (wVar 4) wNil)))))
 (q6m "NoPlace" (q0d (wC (.str "the place leads nowhere")) wNil))
 q1i)
 (q3c (wBM "list" q1s (wVar 2) (q0d (wBin bIx (wVar 4) (wVar 3)) wNil))))))
 (wRet (wVar 2))))
def q2k:WS:=
 (wRet (y0g (wBin cEq (wBin bIx (wVar 0) (wC (.int 0))) (wC (.str "of"))) (wBin cEq (wBin bIx (wBin bIx (wVar 0) (wC (.int 1))) (wC (.int 0))) (wC (.str "fn")))))
def q2b(spparts_and_fns:Den):WS:=
 (wSeq (wSet 2 (wCB z9u (q0d (wVar 1) wNil)))
 (wSeq (wSet 3 (wLst wNil))
 (wSeq (wFor (z5l (q0t spparts_and_fns (q0d (wVar 0) wNil))) (q4e 2 (q1e (q0z 4) (q1e (q0z 5) q4j))) (wIfS (q0w (wBin cEq (wBin bIx (wVar 4) (wC (.int 0))) (wC (.str "bound"))))
 (q3c (wBM "list" q1s (wVar 3) (q0d (wBM0 "list" mPop (wVar 2)) wNil)))
 (wIfS (q0w (wBin cEq (wBin bIx (wVar 4) (wC (.int 0))) (wC (.str "fn"))))
 (q3c (wBM "list" q1s (wVar 3) (q0d (wTup (q0d (wC (.str "fn")) (q0d (wBin bIx (wVar 4) (wC (.int 1))) (q0d (wBM0 "list" mPop (wVar 3)) wNil)))) wNil)))
 (wIfS (q0w (wBin cEq (wBin bIx (wVar 4) (wC (.int 0))) (wC (.str "of"))))
 (wSeq (wSet 6 (wBM0 "list" mPop (wVar 3)))
 (q3c (wBM "list" q1s (wVar 3) (q0d (wTup (q0d (wC (.str "of")) (q0d (wVar 6) (q0d (wBM0 "list" mPop (wVar 3)) wNil)))) wNil))))
 (q3c (wBM "list" q1s (wVar 3) (q0d (wVar 4) wNil)))))))
 (wRet (wBin bIx (wVar 3) (wC (.int 0)))))))
def q3a(spparts_and_fns:Den):WS:=
 (wRet (q5c (q5n (q0t spparts_and_fns (q0d (wVar 0) wNil))) [none,none] (q4e 2 (q1e (q0z 0) (q1e (q0z 1) q4j))) (q0w (wBin cEq (wBin bIx (wVar 0) (wC (.int 0))) (wC (.str "bound")))) (wTup (q0d (wBin bIx (wVar 0) (wC (.int 1))) (q0d (wCB fLen (q0d (wVar 1) wNil)) wNil)))))
def q4r(spwith_bound_ones:Den)(spbound_ones:Den):WS:=
 (wRet (q0t spwith_bound_ones (q0d (wVar 0) (q0d (q5c (q5n (q0t spbound_ones (q0d (wVar 0) wNil))) [none,none,some 1] (q4e 2 (q1e (q0z 0) (q1e (q0z 1) q4j))) q2t (wTup (q0d (wC (.str "bound")) (q0d (wIf (q0w (wBin cLt (wVar 0) (wVar 1))) (wVar 0) (wBin bAdd (wVar 0) (wVar 2))) wNil)))) wNil))))
def q3y(spraised:Den):WS:=
 (wSeq (wIfS (q0w (wBin cLt (wVar 0) (wVar 1)))
 (wRet (wTup (q0d (wC (.str "bound")) (q0d (wVar 0) wNil))))
 q1i)
 (wSeq (wIfS (q0w (wBin cEq (wVar 0) (wVar 1)))
 (wRet (q0t spraised (q0d (wVar 2) (q0d (wVar 1) wNil))))
 q1i)
 (wRet (wTup (q0d (wC (.str "bound")) (q0d (wBin bSub (wVar 0) (wC (.int 1))) wNil))))))
def q4s(spwith_bound_ones:Den)(spput_for:Den)(spbound_ones:Den):WS:=
 (wRet (q0t spwith_bound_ones (q0d (wVar 0) (q0d (q5c (q5n (q0t spbound_ones (q0d (wVar 0) wNil))) [none,none,some 1] (q4e 2 (q1e (q0z 0) (q1e (q0z 1) q4j))) q2t (q0t spput_for (q0d (wVar 0) (q0d (wVar 1) (q0d (wVar 2) wNil))))) wNil))))
def q2z:WS:=
 (wSeq (wIfS (q0w (wBin cEq (wBin bIx (wVar 0) (wC (.int 0))) (wC (.str "fn"))))
 (wRet (wTup (q0d (wC (.str "fn")) (q0d (wBin bIx (wVar 0) (wC (.int 1))) (q0d (wVar 2) wNil)))))
 q1i)
 (wSeq (wIfS (q0w (wBin cEq (wVar 1) (wC (.int 0))))
 (wRet (wTup (q0d (wC (.str "of")) (q0d (wVar 2) (q0d (wBin bIx (wVar 0) (wC (.int 2))) wNil)))))
 q1i)
 (wRet (wTup (q0d (wC (.str "of")) (q0d (wBin bIx (wVar 0) (wC (.int 1))) (q0d (wVar 2) wNil)))))))
def q4b(spway_to:Den)(spis_to_do:Den)(spput_in:Den)(spwith_inner:Den):WS:=
 (wSeq (wSet 2 (q0t spway_to (q0d (wVar 0) (q0d (wVar 1) wNil))))
 (wSeq (wSet 3 (wBM0 "list" mPop (wVar 2)))
 (wSeq (wIfS (wNot (wTru (q0t spis_to_do (q0d (wVar 3) wNil))))
 (q6m "NoPlace" (q0d (wC (.str "the place leads to no of whose f is a fn")) wNil))
 q1i)
 (wSeq (wSet 4 (q0t spput_in (q0d (wBin bIx (wBin bIx (wVar 3) (wC (.int 1))) (wC (.int 2))) (q0d (wBin bIx (wVar 3) (wC (.int 2))) wNil))))
 (wSeq (q6i (wTru (wVar 2)) (wSeq (wSet 5 (wBM0 "list" mPop (wVar 2)))
 (wSet 4 (q0t spwith_inner (q0d (wVar 5) (q0d (wBin bIx (wVar 1) (wCB fLen (q0d (wVar 2) wNil))) (q0d (wVar 4) wNil)))))))
 (wRet (wVar 4)))))))
def q4t(spis_to_do:Den)(spinner_of:Den):WS:=
 (wSeq (wSet 1 (wLst wNil))
 (wSeq (wSet 2 (wLst (q0d (wTup (q0d (wVar 0) (q0d (wTup wNil) wNil))) wNil)))
 (wSeq (q6i (wTru (wVar 2)) (wSeq (wAsg (wBM0 "list" mPop (wVar 2)) (q4e 2 (q1e (q0z 3) (q1e (q0z 4) q4j))))
 (wSeq (wIfS (wTru (q0t spis_to_do (q0d (wVar 3) wNil)))
 (q3c (wBM "list" q1s (wVar 1) (q0d (wVar 4) wNil)))
 q1i)
 (wSeq (wSet 5 (q0t spinner_of (q0d (wVar 3) wNil)))
 (q3c (wBM "list" q6e (wVar 2) (q0d (q5c (q5p (q0d (wCB fLen (q0d (wVar 5) wNil)) wNil)) [none,some 5,some 4] (q0z 0) q2t (wTup (q0d (wBin bIx (wVar 1) (wVar 0)) (q0d (wBin bAdd (wVar 2) (wTup (q0d (wVar 0) wNil))) wNil)))) wNil)))))))
 (wRet (wVar 1)))))
def q3m(spplaces:Den)(spdone_at:Den):WS:=
 (wSeq (wSet 1 (wLst (q0d (wVar 0) wNil)))
 (wSeq (wSet 2 (q0t spplaces (q0d (wVar 0) wNil)))
 (wSeq (q6i (wTru (wVar 2)) (wSeq (q3c (wBM "list" q1s (wVar 1) (q0d (q0t spdone_at (q0d (wBin bIx (wVar 1) (wNeg (wC (.int 1)))) (q0d (wBin bIx (wVar 2) (wC (.int 0))) wNil))) wNil)))
 (wSet 2 (q0t spplaces (q0d (wBin bIx (wVar 1) (wNeg (wC (.int 1)))) wNil)))))
 (wRet (wVar 1)))))
def q3n(spsteps_of:Den):WS:=
 (wRet (wBin bIx (q0t spsteps_of (q0d (wVar 0) wNil)) (wNeg (wC (.int 1)))))
def q5x:WS:=
 (wSeq (wIfS (q0w (wBin cEq (wBin bIx (wVar 0) (wC (.int 0))) (wC (.str "/"))))
 (wSeq (wIfS (q0w (wBin cEq (wBin bIx (wVar 0) (wC (.int 2))) (wVar 1)))
 (wRet (wTup (q0d (wC (.str ">")) (q0d (wBin bIx (wVar 0) (wC (.int 1))) wNil))))
 q1i)
 (wIfS (wAnd (q0w (wBin cEq (wBin bIx (wVar 1) (wC (.int 0))) (wC (.str "/")))) (q0w (wBin cEq (wBin bIx (wVar 0) (wC (.int 2))) (wBin bIx (wVar 1) (wC (.int 1))))))
 (wRet (wTup (q0d (wC (.str ">>")) (q0d (wTup (q0d (wC (.str "/")) (q0d (wBin bIx (wVar 0) (wC (.int 1))) (q0d (wBin bIx (wVar 1) (wC (.int 2))) wNil)))) wNil))))
 q1i))
 q1i)
 (wSeq (wIfS (q0w (wBin cEq (wBin bIx (wVar 1) (wC (.int 0))) (wC (.str "\\"))))
 (wSeq (wIfS (q0w (wBin cEq (wBin bIx (wVar 1) (wC (.int 2))) (wVar 0)))
 (wRet (wTup (q0d (wC (.str "<")) (q0d (wBin bIx (wVar 1) (wC (.int 1))) wNil))))
 q1i)
 (wIfS (wAnd (q0w (wBin cEq (wBin bIx (wVar 0) (wC (.int 0))) (wC (.str "\\")))) (q0w (wBin cEq (wBin bIx (wVar 1) (wC (.int 2))) (wBin bIx (wVar 0) (wC (.int 1))))))
 (wRet (wTup (q0d (wC (.str "<<")) (q0d (wTup (q0d (wC (.str "\\")) (q0d (wBin bIx (wVar 1) (wC (.int 1))) (q0d (wBin bIx (wVar 0) (wC (.int 2))) wNil)))) wNil))))
 q1i))
 q1i)
 (wRet (wC .non))))
inductive Fm where
 |b (s:Str)|n (l:Bool) (x y:Fm)
deriving DecidableEq
def sSl:Bool->Str
 |false=>Str.ofString "/"
 |true=>Str.ofString "\\"
def Fm.pv:Fm->PV
 |.b s=>.tup [.str "basic",.str s]
 |.n l x y=>.tup [.str (sSl l),x.pv,y.pv]
def Fm.dp:Fm->Nat
 |.b _=>1
 |.n _ x y=>max x.dp y.dp+1
def Fm.lv:Fm->Nat
 |.b _=>1
 |.n _ x y=>x.lv+y.lv
def Fm.ov(ws:List Str):Fm->Prop
 |.b s=>s∈ws
 |.n _ x y=>x.ov ws/\y.ov ws
theorem Fm.lv_pos:∀f:Fm,1<=f.lv
 |.b _=>Nat.le_refl _
 |.n _ x y=>Nat.le_trans (Fm.lv_pos x) (Nat.le_add_right _ _)
theorem Fm.dp_lv:∀f:Fm,f.dp<=f.lv
 |.b _=>Nat.le_refl _
 |.n _ x y=>by have:=Fm.dp_lv x;have:=Fm.dp_lv y;have:=Fm.lv_pos x;have:=Fm.lv_pos y;simp only[Fm.dp,Fm.lv];omega
theorem Fm.pv_tup(f:Fm):∃xs,f.pv=.tup xs:=by cases f<;>exact⟨_,rfl⟩
theorem z0i:∀f:Fm,nrf f.pv=true
 |.b _=>rfl
 |.n _ x y=>by simp only[Fm.pv,nrf,nrfs,z0i x,z0i y,Bool.and_self]
theorem q7g:∀f:Fm,dep f.pv=f.dp
 |.b _=>rfl
 |.n _ x y=>by simp only[Fm.pv,dep,deps,q7g x,q7g y,Fm.dp];omega
theorem y8w:sSl false≠sSl true:=by decide +kernel
theorem z8a:∀f g:Fm,eqB f.pv g.pv=decide (f=g)
 |.b s,.b t=>by simp[Fm.pv,q6s,eqBs,q4o]
 |.b s,.n l x y=>by simp[Fm.pv,q6s,eqBs,q4o]
 |.n l x y,.b s=>by simp[Fm.pv,q6s,eqBs,q4o]
 |.n l x y,.n m u v=>by
  have h:(sSl l=sSl m)↔l=m:=by
   cases l<;>cases m<;>simp[y8w,y8w.symm]
  simp[Fm.pv,q6s,eqBs,q4o,z8a x u,z8a y v,h]
theorem z6a{f:Fm}(h:f.dp<=190):okEq f.pv:=⟨z0i f,by rw[q7g];exact h⟩
theorem x8w{f g:Fm}(hf:f.dp<=190)(hg:g.dp<=190)(S:q0i)(Q:VC):cEq f.pv g.pv S Q=Q (.bl (decide (f=g))) S:=by
 have h:=z8a f g
 have o1:=z6a hf
 have o2:=z6a hg
 obtain⟨xs,hx⟩:=f.pv_tup
 obtain⟨ys,hy⟩:=g.pv_tup
 rw[hx,hy]at h
 rw[hx]at o1 ⊢
 rw[hy]at o2 ⊢
 rw[z8g,<-q6s,h]
 simp only[o1,o2,and_self,true_and]
theorem fb0(s:Str)(S:q0i)(Q:VC):bIx (Fm.b s).pv (.int 0) S Q=Q (.str "basic") S:=rfl
theorem fb1(s:Str)(S:q0i)(Q:VC):bIx (Fm.b s).pv (.int 1) S Q=Q (.str s) S:=rfl
theorem fn0(l:Bool)(x y:Fm)(S:q0i)(Q:VC):bIx (Fm.n l x y).pv (.int 0) S Q=Q (.str (sSl l)) S:=rfl
theorem fn1(l:Bool)(x y:Fm)(S:q0i)(Q:VC):bIx (Fm.n l x y).pv (.int 1) S Q=Q x.pv S:=rfl
theorem fn2(l:Bool)(x y:Fm)(S:q0i)(Q:VC):bIx (Fm.n l x y).pv (.int 2) S Q=Q y.pv S:=rfl
theorem x0q:(sSl false=Str.ofString "/")=True:=by simp only[sSl]
theorem y5j:(sSl false=Str.ofString "\\")=False:=by simp only[eq_iff_iff,iff_false];decide +kernel
theorem y5i:(sSl true=Str.ofString "\\")=True:=by simp only[sSl]
theorem x0o:(sSl true=Str.ofString "/")=False:=by simp only[eq_iff_iff,iff_false];decide +kernel
theorem q7u(l:Bool):(sSl l=Str.ofString "basic")=False:=by cases l<;>(simp only[eq_iff_iff,iff_false];decide +kernel)
theorem ba_f:(Str.ofString "basic" = Str.ofString "/")=False:=by simp only[eq_iff_iff,iff_false];decide +kernel
theorem ba_b:(Str.ofString "basic" = Str.ofString "\\")=False:=by simp only[eq_iff_iff,iff_false];decide +kernel
mutual
theorem q9u:∀x:PV,nrf x=true->eqB x x=true
 |.non,_=>rfl
 |.bl b,_=>by simp[eqB]
 |.int i,_=>by simp[eqB]
 |.str s,_=>by rw[q4o];simp
 |.tup xs,h=>by rw[q6s];exact q4i xs (by rw[z0h]at h;exact h)
theorem q4i:∀xs:List PV,nrfs xs=true->eqBs xs xs=true
 |[],_=>rfl
 |x::xs,h=>by
  simp only[nrfs,Bool.and_eq_true]at h
  simp only[eqBs,q9u x h.1,q4i xs h.2,Bool.and_self]
end
theorem q9x{ws:List Str}{i:Int}(h:ws≠[]):∃y,y∈ws/\atI (ws.map PV.str) (i % (ws.length:Int))=some (.str y):=by
 have hp:0<ws.length:=List.length_pos_iff.mpr h
 have h0:0<=i % (ws.length:Int):=Int.emod_nonneg _ (by omega)
 have h1:i % (ws.length:Int)<ws.length:=Int.emod_lt_of_pos _ (by omega)
 unfold atI ixN
 rw[List.length_map,if_pos h0,if_pos h1]
 have:(i % (ws.length:Int)).toNat<ws.length:=by omega
 exact⟨ws[(i % (ws.length:Int)).toNat],List.getElem_mem _,by simp[this]⟩
theorem at2{a b:PV}(i:Int):atI [a,b] (i % 2)=some (if i % 2=0 then a else b):=by
 have h0:0<=i % 2:=Int.emod_nonneg _ (by decide)
 have h1:i % 2<2:=Int.emod_lt_of_pos _ (by decide)
 rcases(show i % 2=0\/i % 2=1 by omega)with z|z
 ·rw[z];rfl
 ·rw[z];rfl
theorem y8v(i:Int)(x y:Fm):PV.tup [if i % 2=0 then PV.str "/"else PV.str "\\",x.pv,y.pv]=(Fm.n (!decide (i % 2=0)) x y).pv:=by
 by_cases z:i % 2=0
 ·rw[if_pos z,decide_eq_true z];rfl
 ·rw[if_neg z,decide_eq_false z];rfl
def lt(m:Nat):Str:=mk [97+m]
def tx(w:List Nat):Str:=mk (w.map (97+·))
def ro(w:List Nat)(i:Nat):List Nat:=match w with
 |[]=>[]
 |a::r=>(a+i) % 26::r
def mdL(a b:Fm):Option (Str×Fm):=match a with
 |.n false x y=>if y=b then some (Str.ofString ">",x)else match b with
  |.n false y' z=>if y=y' then some (Str.ofString ">>",.n false x z)else none
  |_=>none
 |_=>none
def mdR(a b:Fm):Option (Str×Fm):=match b with
 |.n true x y=>if y=a then some (Str.ofString "<",x)else match a with
  |.n true y' z=>if y=y' then some (Str.ofString "<<",.n true x z)else none
  |_=>none
 |_=>none
def md(a b:Fm):Option (Str×Fm):=(mdL a b).or (mdR a b)
def mdP:Option (Str×Fm)->PV
 |none=>.non
 |some (s,f)=>.tup [.str s,f.pv]
def y8p(sp:Den):Prop:=∀(a b:Fm)(S:q0i)(E:EK)(Q:VC),a.dp<=100->b.dp<=100->Q (mdP (md a b)) S->sp [a.pv,b.pv] S E Q
theorem Fm.ne_in{l:Bool}{x y:Fm}:x≠.n l x y:=by
 intro h
 have:=congrArg Fm.lv h
 simp only[Fm.lv]at this
 have:=Fm.lv_pos y
 omega
theorem z3b{f g:Fm}(hf:f.dp<=100)(hg:g.dp<=100)(S:q0i)(Q:VC):cEq f.pv g.pv S Q=Q (.bl (decide (f=g))) S:=x8w (by omega) (by omega) _ _
theorem x2f:y8p (fnP 2 2 q5x):=by
 intro a b S E Q ha hb h
 refine⟨rfl,?_⟩
 unfold q5x
 have p2:2<=sizeLine:=big (by decide)
 have p3:3<=sizeLine:=big (by decide)
 refine seqI fun K hK=>?_
 have hnon:mdL a b=none->K [some a.pv,some b.pv] S:=by
  intro hL
  refine hK _ _ ?_
  clear hK
  refine seqI fun K hK=>?_
  have hnon:mdR a b=none->K [some a.pv,some b.pv] S:=fun z=>hK _ _ (by
   rw [md,hL,z]at h
   exact h)
  have hsome:∀s f,mdR a b=some (s,f)->Q (.tup [.str s,f.pv]) S:=fun s f z=>by
   rw[md,hL,z]at h
   exact h
  clear h hK
  cases b with
  |b t=>dsimp![fb0,ba_b];exact hnon rfl
  |n m u v=>
   cases m with
   |false=>dsimp![fn0,y5j];exact hnon rfl
   |true=>
    simp only[Fm.dp]at hb
    dsimp![fn0,y5i]
    refine seqI fun K2 hK2=>?_
    dsimp![fn1,fn2,z3b (show v.dp<=100 by omega) ha]
    refine ite2 (fun z=>⟨p2,hsome _ _ (by simp only[mdR,if_pos z])⟩) (fun z=>hK2 _ _ ?_)
    cases a with
    |b t=>dsimp![fb0,ba_b];exact hnon (by simp only[mdR,if_neg z])
    |n l x y=>
     cases l with
     |false=>dsimp![fn0,y5j];exact hnon (by simp only[mdR,if_neg z])
     |true=>
      simp only[Fm.dp]at ha
      dsimp![fn0,fn1,fn2,y5i,z3b (show v.dp<=100 by omega) (show x.dp<=100 by omega)]
      exact ite2 (fun z2=>⟨p3,p2,hsome _ (.n true u y) (by simp only[mdR,if_neg z,if_pos z2])⟩) (fun z2=>hnon (by simp only[mdR,if_neg z,if_neg z2]))
 have hsome:∀s f,mdL a b=some (s,f)->Q (.tup [.str s,f.pv]) S:=fun s f z=>by
  rw[md,z]at h
  exact h
 clear h hK
 cases a with
 |b t=>dsimp![fb0,ba_f];exact hnon rfl
 |n l x y=>
  cases l with
  |true=>dsimp![fn0,x0o];exact hnon rfl
  |false=>
   simp only[Fm.dp]at ha
   dsimp![fn0,x0q]
   refine seqI fun K2 hK2=>?_
   dsimp![fn1,fn2,z3b (show y.dp<=100 by omega) hb]
   refine ite2 (fun z=>⟨p2,hsome _ _ (by simp only[mdL,if_pos z])⟩) (fun z=>hK2 _ _ ?_)
   cases b with
   |b t=>dsimp![fb0,ba_f];exact hnon (by simp only[mdL,if_neg z])
   |n m u v=>
    cases m with
    |true=>dsimp![fn0,x0o];exact hnon (by simp only[mdL,if_neg z])
    |false=>
     simp only[Fm.dp]at hb
     dsimp![fn0,fn1,fn2,x0q,z3b (show y.dp<=100 by omega) (show u.dp<=100 by omega)]
     exact ite2 (fun z2=>⟨p3,p2,hsome _ (.n false x v) (by simp only[mdL,if_neg z,if_pos z2])⟩) (fun z2=>hnon (by simp only[mdL,if_neg z,if_neg z2]))
theorem x7c {a b : Fm} {s : Str} {f : Fm} (h : mdL a b = some (s, f)) : f.dp <= max a.dp b.dp := by
 unfold mdL at h
 repeat' split at h
 all_goals first
  | (cases h; done)
  | (simp only [Option.some.injEq, Prod.mk.injEq] at h; obtain ⟨-, rfl⟩ := h; simp only [Fm.dp]; omega)
theorem x7a {a b : Fm} {s : Str} {f : Fm} (h : mdR a b = some (s, f)) : f.dp <= max a.dp b.dp := by
 unfold mdR at h
 repeat' split at h
 all_goals first
  | (cases h; done)
  | (simp only [Option.some.injEq, Prod.mk.injEq] at h; obtain ⟨-, rfl⟩ := h; simp only [Fm.dp]; omega)
theorem x6z{a b:Fm}{s:Str}{f:Fm}(h:md a b=some (s,f)):f.dp<=max a.dp b.dp:=by
 unfold md at h
 cases e:mdL a b with
 |none=>rw[e]at h;exact x7a h
 |some p=>rw[e]at h;cases h;exact x7c e
theorem Fm.dp_pos(f:Fm):1<=f.dp:=by cases f<;>simp[Fm.dp]
def q6l(spLkind:Den):WS:=
 (wSeq (wIfS (q0w (wBin cEq (wBin bIx (wVar 0) (wC (.int 0))) (wC (.str "basic"))))
 (wRet (wBin bIx (wVar 0) (wC (.int 1))))
 q1i)
 (wRet (wTup (q0d (q0t spLkind (q0d (wBin bIx (wVar 0) (wC (.int 2))) wNil)) (q0d (q0t spLkind (q0d (wBin bIx (wVar 0) (wC (.int 1))) wNil)) wNil)))))
def q5a(spkind_of_form:Den):WS:=
 (wSeq (wIfS (q0w (wBin cEq (wBin bIx (wVar 0) (wC (.int 0))) (wC (.str "basic"))))
 (wRet (wBin bIx (wVar 0) (wC (.int 1))))
 q1i)
 (wRet (wTup (q0d (q0t spkind_of_form (q0d (wBin bIx (wVar 0) (wC (.int 2))) wNil)) (q0d (q0t spkind_of_form (q0d (wBin bIx (wVar 0) (wC (.int 1))) wNil)) wNil)))))
def q4u(spkind_of_form:Den):WS:=
 (wRet (wTup (q0d (wC (.str "fn")) (q0d (q0t spkind_of_form (q0d (wVar 0) wNil)) (q0d (wTup (q0d (wC (.str "of")) (q0d (wVar 1) (q0d (wTup (q0d (wC (.str "of")) (q0d (wVar 2) (q0d (wTup (q0d (wC (.str "bound")) (q0d (wC (.int 0)) wNil))) wNil)))) wNil)))) wNil)))))
def q2u(spjoined:Den):WS:=
 (wSeq (wIfS (q0w (wBin cEq (wVar 0) (wC (.str ">"))))
 (wRet (wTup (q0d (wC (.str "of")) (q0d (wVar 3) (q0d (wVar 4) wNil)))))
 q1i)
 (wSeq (wIfS (q0w (wBin cEq (wVar 0) (wC (.str "<"))))
 (wRet (wTup (q0d (wC (.str "of")) (q0d (wVar 4) (q0d (wVar 3) wNil)))))
 q1i)
 (wSeq (wIfS (q0w (wBin cEq (wVar 0) (wC (.str ">>"))))
 (wRet (q0t spjoined (q0d (wBin bIx (wVar 2) (wC (.int 2))) (q0d (wVar 3) (q0d (wVar 4) wNil)))))
 q1i)
 (wRet (q0t spjoined (q0d (wBin bIx (wVar 1) (wC (.int 2))) (q0d (wVar 4) (q0d (wVar 3) wNil))))))))
set_option maxHeartbeats 1000000
def Fm.kd:Fm->PV
 |.b s=>.str s
 |.n _ x y=>.tup [y.kd,x.kd]
theorem z2s{T:Nat->Den}(hT:∀n,T (n+1)=fnP 1 1 (q6l (T n))):∀(n:Nat)(f:Fm),f.dp<=n->∀(S:q0i)(E:EK)(Q:VC),Q f.kd S->T n [f.pv] S E Q
 |0,f,hd,S,E,Q,h=>by have:=f.dp_pos;omega
 |n+1,.b s,hd,S,E,Q,h=>by
  rw[hT]
  refine⟨rfl,?_⟩
  unfold q6l
  dsimp![wSeq,fb0,fb1]
  exact h
 |n+1,.n l x y,hd,S,E,Q,h=>by
  simp only[Fm.dp]at hd
  rw[hT]
  refine⟨rfl,?_⟩
  unfold q6l
  dsimp![wSeq,fn0,fn1,fn2,q7u]
  refine z2s hT n y (by omega) _ _ _ ?_
  refine z2s hT n x (by omega) _ _ _ ?_
  exact⟨big (by decide),h⟩
def y8q(sp:Den)(d:Nat):Prop:=∀(f:Fm),f.dp<=d->∀(S:q0i)(E:EK)(Q:VC),Q f.kd S->sp [f.pv] S E Q
def jnP(z:Fm)(f g:PV):PV:=.tup [.str "fn",z.kd,.tup [.str "of",f,.tup [.str "of",g,.tup [.str "bound",.int 0]]]]
theorem y3a{sp:Den}{d:Nat}(hk:y8q sp d){z:Fm}{f g:PV}{S:q0i}{E:EK}{Q:VC}(hd:z.dp<=d)(h:Q (jnP z f g) S):fnP 3 3 (q4u sp) [z.pv,f,g] S E Q:=by
 refine⟨rfl,?_⟩
 unfold q4u
 dsimp![true_and]
 refine hk z hd _ _ _ ?_
 exact⟨big (by decide),big (by decide),big (by decide),big (by decide),h⟩
def x3w(sp:Den)(d:Nat):Prop:=∀(z:Fm)(f g:PV)(S:q0i)(E:EK)(Q:VC),z.dp<=d->Q (jnP z f g) S->sp [z.pv,f,g] S E Q
def ofP(f g:PV):PV:=.tup [.str "of",f,g]
theorem sg1:(Str.ofString "<" = Str.ofString ">")=False:=by simp only[eq_iff_iff,iff_false];decide +kernel
theorem sg2:(Str.ofString ">>" = Str.ofString ">")=False:=by simp only[eq_iff_iff,iff_false];decide +kernel
theorem sg3:(Str.ofString ">>" = Str.ofString "<")=False:=by simp only[eq_iff_iff,iff_false];decide +kernel
theorem sg4:(Str.ofString "<<" = Str.ofString ">")=False:=by simp only[eq_iff_iff,iff_false];decide +kernel
theorem sg5:(Str.ofString "<<" = Str.ofString "<")=False:=by simp only[eq_iff_iff,iff_false];decide +kernel
theorem sg6:(Str.ofString "<<" = Str.ofString ">>")=False:=by simp only[eq_iff_iff,iff_false];decide +kernel
structure MeantD(sp:Den)(d:Nat):Prop where
 a:∀(l r f g:PV)(S:q0i)(E:EK)(Q:VC),Q (ofP f g) S->sp [.str ">",l,r,f,g] S E Q
 b:∀(l r f g:PV)(S:q0i)(E:EK)(Q:VC),Q (ofP g f) S->sp [.str "<",l,r,f,g] S E Q
 c:∀(l:PV)(x z:Fm)(s:Bool)(f g:PV)(S:q0i)(E:EK)(Q:VC),z.dp<=d->Q (jnP z f g) S->sp [.str ">>",l,(Fm.n s x z).pv,f,g] S E Q
 d:∀(r:PV)(x z:Fm)(s:Bool)(f g:PV)(S:q0i)(E:EK)(Q:VC),z.dp<=d->Q (jnP z g f) S->sp [.str "<<",(Fm.n s x z).pv,r,f,g] S E Q
theorem y6y{sp:Den}{d:Nat}(hj:x3w sp d):MeantD (fnP 5 5 (q2u sp)) d where
 a:=fun l r f g S E Q h=>by
  refine⟨rfl,?_⟩
  unfold q2u
  dsimp![wSeq]
  exact⟨big (by decide),h⟩
 b:=fun l r f g S E Q h=>by
  refine⟨rfl,?_⟩
  unfold q2u
  dsimp![wSeq,sg1]
  exact⟨big (by decide),h⟩
 c:=fun l x z s f g S E Q hd h=>by
  refine⟨rfl,?_⟩
  unfold q2u
  dsimp![wSeq,sg2,sg3,fn2]
  exact hj z f g _ _ _ hd h
 d:=fun r x z s f g S E Q hd h=>by
  refine⟨rfl,?_⟩
  unfold q2u
  dsimp![wSeq,sg4,sg5,sg6,fn2]
  exact hj z g f _ _ _ hd h
theorem md1(x y:Fm):md (.n false x y) y=some (Str.ofString ">",x):=by simp[md,mdL]
theorem x7b{x y:Fm}:mdL y (.n true x y)=none:=by
 unfold mdL
 split
 ·rename_i u v
  rw[if_neg]
  intro z
  have:=congrArg Fm.lv z
  simp only[Fm.lv]at this
  have:=u.lv_pos
  have:=x.lv_pos
  omega
 ·rfl
theorem md2(x y:Fm):md y (.n true x y)=some (Str.ofString "<",x):=by simp[md,x7b,mdR]
theorem md3(x y z:Fm):md (.n false x y) (.n false y z)=some (Str.ofString ">>",.n false x z):=by
 have h:¬y=.n false y z:=Fm.ne_in
 simp only[md,mdL,mdR,if_neg h,if_true,Option.or_none]
theorem md4(x y z:Fm):md (.n true y z) (.n true x y)=some (Str.ofString "<<",.n true x z):=by
 have h:¬y=.n true y z:=Fm.ne_in
 simp only[md,mdL,mdR,if_neg h,if_true,Option.none_or]
def q4f(spLwide:Den):WS:=
 (wSeq (wIfS (q0w (wBin cEq (wBin bIx (wVar 0) (wC (.int 0))) (wC (.str "basic"))))
 (wRet (wC (.int 1)))
 q1i)
 (wRet (wBin bAdd (q0t spLwide (q0d (wBin bIx (wVar 0) (wC (.int 1))) wNil)) (q0t spLwide (q0d (wBin bIx (wVar 0) (wC (.int 2))) wNil)))))
def q4y(spLnext:Den)(spLwide:Den):WS:=
 (wSeq (wSet 3 (q0t spLnext (q0d (wVar 0) wNil)))
 (wSeq (wSet 4 (wTup (q0d (wC (.str "basic")) (q0d (wBin bIx (wVar 1) (wBin bMod (wVar 3) (wCB fLen (q0d (wVar 1) wNil)))) wNil))))
 (wSeq (wIfS (wOr (q0w (wBin cGt (wBin bMod (wBin q8t (wVar 3) (wC (.int 3))) (wC (.int 4))) (wC (.int 0)))) (q0w (wBin cGt (q0t spLwide (q0d (wVar 2) wNil)) (wC (.int 3)))))
 (wRet (wVar 4))
 q1i)
 (wRet (wTup (q0d (wBin bIx (wLst (q0d (wC (.str "/")) (q0d (wC (.str "\\")) wNil))) (wBin bMod (wBin q8t (wVar 3) (wC (.int 12))) (wC (.int 2)))) (q0d (wVar 4) (q0d (wTup (q0d (wC (.str "basic")) (q0d (wBin bIx (wVar 1) (wBin bMod (wBin q8t (wVar 3) (wC (.int 24))) (wCB fLen (q0d (wVar 1) wNil)))) wNil))) wNil))))))))
def q2q(spLnext:Den)(spLother:Den):WS:=
 (wSeq (wSet 2 (wTup (q0d (wC (.str "basic")) (q0d (wBin bIx (wVar 1) (wBin bMod (q0t spLnext (q0d (wVar 0) wNil)) (wCB fLen (q0d (wVar 1) wNil)))) wNil))))
 (wSeq (wSet 3 (q0t spLother (q0d (wVar 0) (q0d (wVar 1) (q0d (wVar 2) wNil)))))
 (wSeq (wSet 4 (wBin bMod (q0t spLnext (q0d (wVar 0) wNil)) (wC (.int 6))))
 (wSeq (wIfS (q0w (wBin cLt (wVar 4) (wC (.int 2))))
 (wRet (wVar 2))
 q1i)
 (wRet (wTup (q0d (wBin bIx (wLst (q0d (wC (.str "/")) (q0d (wC (.str "\\")) wNil))) (wBin bMod (wVar 4) (wC (.int 2)))) (q0d (wVar 2) (q0d (wVar 3) wNil)))))))))
def q5g(spLnext:Den)(spLother:Den)(spLwide:Den)(spLtree:Den):WS:=
 (wSeq (wIfS (q0w (wBin cLt (wVar 4) (wC (.int 2))))
 (wRet (wTup (q0d (wC (.str "word")) (q0d (wVar 3) (q0d (wVar 2) wNil)))))
 q1i)
 (wSeq (wSet 5 (wBin bAdd (wC (.int 1)) (wBin bMod (q0t spLnext (q0d (wVar 0) wNil)) (wBin bSub (wVar 4) (wC (.int 1))))))
 (wSeq (wSet 6 (q0t spLnext (q0d (wVar 0) wNil)))
 (wSeq (wSet 7 (q0t spLother (q0d (wVar 0) (q0d (wVar 1) (q0d (wVar 2) wNil)))))
 (wSeq (wSet 8 (wC (.str ">")))
 (wSeq (wSet 9 (wTup (q0d (wTup (q0d (wC (.str "/")) (q0d (wVar 2) (q0d (wVar 7) wNil)))) (q0d (wVar 7) wNil))))
 (wSeq (wIfS (q0w (wBin cEq (wBin bMod (wVar 6) (wC (.int 2))) (wC (.int 1))))
 (wSeq (wSet 8 (wC (.str "<")))
 (wSet 9 (wTup (q0d (wVar 7) (q0d (wTup (q0d (wC (.str "\\")) (q0d (wVar 2) (q0d (wVar 7) wNil)))) wNil)))))
 q1i)
 (wSeq (wIfS (wAnd (q0w (wBin cEq (wBin bIx (wVar 2) (wC (.int 0))) (wC (.str "/")))) (wOr (q0w (wBin cGt (wBin bMod (wVar 6) (wC (.int 8))) (wC (.int 1)))) (q0w (wBin cGt (q0t spLwide (q0d (wVar 2) wNil)) (wC (.int 4))))))
 (wSeq (wSet 8 (wC (.str ">>")))
 (wSet 9 (wTup (q0d (wTup (q0d (wC (.str "/")) (q0d (wBin bIx (wVar 2) (wC (.int 1))) (q0d (wVar 7) wNil)))) (q0d (wTup (q0d (wC (.str "/")) (q0d (wVar 7) (q0d (wBin bIx (wVar 2) (wC (.int 2))) wNil)))) wNil)))))
 q1i)
 (wSeq (wIfS (wAnd (q0w (wBin cEq (wBin bIx (wVar 2) (wC (.int 0))) (wC (.str "\\")))) (wOr (q0w (wBin cGt (wBin bMod (wVar 6) (wC (.int 8))) (wC (.int 1)))) (q0w (wBin cGt (q0t spLwide (q0d (wVar 2) wNil)) (wC (.int 4))))))
 (wSeq (wSet 8 (wC (.str "<<")))
 (wSet 9 (wTup (q0d (wTup (q0d (wC (.str "\\")) (q0d (wVar 7) (q0d (wBin bIx (wVar 2) (wC (.int 2))) wNil)))) (q0d (wTup (q0d (wC (.str "\\")) (q0d (wBin bIx (wVar 2) (wC (.int 1))) (q0d (wVar 7) wNil)))) wNil)))))
 q1i)
 (wSeq (wSet 10 (q0t spLtree (q0d (wVar 0) (q0d (wVar 1) (q0d (wBin bIx (wVar 9) (wC (.int 0))) (q0d (wVar 3) (q0d (wVar 5) wNil)))))))
 (wRet (wTup (q0d (wVar 8) (q0d (wVar 10) (q0d (q0t spLtree (q0d (wVar 0) (q0d (wVar 1) (q0d (wBin bIx (wVar 9) (wC (.int 1))) (q0d (wBin bAdd (wVar 3) (wVar 5)) (q0d (wBin bSub (wVar 4) (wVar 5)) wNil)))))) wNil)))))))))))))))
def q4z(spLnext:Den)(spLtree:Den)(spLchain:Den):WS:=
 (wSeq (wIfS (wOr (q0w (wBin cLt (wVar 4) (wC (.int 3)))) (wOr (q0w (wBin cEq (wBin bIx (wVar 2) (wC (.int 0))) (wC (.str "basic")))) (q0w (wBin cEq (wBin bMod (q0t spLnext (q0d (wVar 0) wNil)) (wC (.int 4))) (wC (.int 0))))))
 (wRet (q0t spLtree (q0d (wVar 0) (q0d (wVar 1) (q0d (wVar 2) (q0d (wVar 3) (q0d (wVar 4) wNil)))))))
 q1i)
 (wSeq (wSet 5 (wTup (q0d (wC (.str "basic")) (q0d (wBin bIx (wVar 1) (wBin bMod (q0t spLnext (q0d (wVar 0) wNil)) (wCB fLen (q0d (wVar 1) wNil)))) wNil))))
 (wSeq (wSet 6 (wBin bAdd (wC (.int 1)) (wBin bMod (q0t spLnext (q0d (wVar 0) wNil)) (wBin bSub (wVar 4) (wC (.int 1))))))
 (wSeq (wSet 7 (wC (.str ">>")))
 (wSeq (wSet 8 (wTup (q0d (wTup (q0d (wC (.str "/")) (q0d (wBin bIx (wVar 2) (wC (.int 1))) (q0d (wVar 5) wNil)))) (q0d (wTup (q0d (wC (.str "/")) (q0d (wVar 5) (q0d (wBin bIx (wVar 2) (wC (.int 2))) wNil)))) wNil))))
 (wSeq (wIfS (q0w (wBin cEq (wBin bIx (wVar 2) (wC (.int 0))) (wC (.str "\\"))))
 (wSeq (wSet 7 (wC (.str "<<")))
 (wSet 8 (wTup (q0d (wTup (q0d (wC (.str "\\")) (q0d (wVar 5) (q0d (wBin bIx (wVar 2) (wC (.int 2))) wNil)))) (q0d (wTup (q0d (wC (.str "\\")) (q0d (wBin bIx (wVar 2) (wC (.int 1))) (q0d (wVar 5) wNil)))) wNil)))))
 q1i)
 (wSeq (wSet 9 (q0t spLchain (q0d (wVar 0) (q0d (wVar 1) (q0d (wBin bIx (wVar 8) (wC (.int 0))) (q0d (wVar 3) (q0d (wVar 6) wNil)))))))
 (wRet (wTup (q0d (wVar 7) (q0d (wVar 9) (q0d (q0t spLchain (q0d (wVar 0) (q0d (wVar 1) (q0d (wBin bIx (wVar 8) (wC (.int 1))) (q0d (wBin bAdd (wVar 3) (wVar 6)) (q0d (wBin bSub (wVar 4) (wVar 6)) wNil)))))) wNil))))))))))))
def q4c(spLwithin:Den):WS:=
 (wSeq (wIfS (q0w (wBin cEq (wBin bIx (wVar 0) (wC (.int 0))) (wC (.str "word"))))
 (wRet (wLst (q0d (wVar 0) wNil)))
 q1i)
 (wRet (wBin bAdd (wBin bAdd (wLst (q0d (wVar 0) wNil)) (q0t spLwithin (q0d (wBin bIx (wVar 0) (wC (.int 1))) wNil))) (q0t spLwithin (q0d (wBin bIx (wVar 0) (wC (.int 2))) wNil)))))
def q2n(spLturned_once:Den):WS:=
 (wSeq (wIfS (q0w (wBin cEq (wBin bIx (wVar 0) (wC (.int 0))) (wC (.str "word"))))
 (wRet (wLst wNil))
 q1i)
 (wSeq (wAsg (wVar 0) (q4e 3 (q1e (q0z 1) (q1e (q0z 2) (q1e (q0z 3) q4j)))))
 (wSeq (wSet 4 (wLst wNil))
 (wSeq (wIfS (wAnd (q0w (wBin cIn (wVar 1) (wTup (q0d (wC (.str ">")) (q0d (wC (.str ">>")) wNil))))) (q0w (wBin cEq (wBin bIx (wVar 2) (wC (.int 0))) (wC (.str ">>")))))
 (q3c (wBM "list" q1s (wVar 4) (q0d (wTup (q0d (wVar 1) (q0d (wBin bIx (wVar 2) (wC (.int 1))) (q0d (wTup (q0d (wVar 1) (q0d (wBin bIx (wVar 2) (wC (.int 2))) (q0d (wVar 3) wNil)))) wNil)))) wNil)))
 q1i)
 (wSeq (wIfS (wAnd (q0w (wBin cIn (wVar 1) (wTup (q0d (wC (.str "<")) (q0d (wC (.str "<<")) wNil))))) (q0w (wBin cEq (wBin bIx (wVar 3) (wC (.int 0))) (wC (.str "<<")))))
 (q3c (wBM "list" q1s (wVar 4) (q0d (wTup (q0d (wVar 1) (q0d (wTup (q0d (wVar 1) (q0d (wVar 2) (q0d (wBin bIx (wVar 3) (wC (.int 1))) wNil)))) (q0d (wBin bIx (wVar 3) (wC (.int 2))) wNil)))) wNil)))
 q1i)
 (wSeq (wSet 4 (wBin bAdd (wVar 4) (q5c (q5n (q0t spLturned_once (q0d (wVar 2) wNil))) [none,some 1,some 3] (q0z 0) q2t (wTup (q0d (wVar 1) (q0d (wVar 0) (q0d (wVar 2) wNil)))))))
 (wRet (wBin bAdd (wVar 4) (q5c (q5n (q0t spLturned_once (q0d (wVar 3) wNil))) [none,some 1,some 2] (q0z 0) q2t (wTup (q0d (wVar 1) (q0d (wVar 2) (q0d (wVar 0) wNil)))))))))))))
def q2e:WS:=
 (wSeq (wIfS (q0w (wBin cEq (wBin bIx (wVar 0) (wC (.int 0))) (wC (.str "word"))))
 (wRet (wC .non))
 q1i)
 (wSeq (wAsg (wVar 0) (q4e 3 (q1e (q0z 1) (q1e (q0z 2) (q1e (q0z 3) q4j)))))
 (wSeq (wIfS (wAnd (q0w (wBin cIn (wVar 1) (wTup (q0d (wC (.str ">")) (q0d (wC (.str ">>")) wNil))))) (q0w (wBin cEq (wBin bIx (wVar 2) (wC (.int 0))) (wC (.str ">>")))))
 (wRet (wTup (q0d (wVar 1) (q0d (wBin bIx (wVar 2) (wC (.int 1))) (q0d (wTup (q0d (wVar 1) (q0d (wBin bIx (wVar 2) (wC (.int 2))) (q0d (wVar 3) wNil)))) wNil)))))
 q1i)
 (wSeq (wIfS (wAnd (q0w (wBin cIn (wVar 1) (wTup (q0d (wC (.str "<")) (q0d (wC (.str "<<")) wNil))))) (q0w (wBin cEq (wBin bIx (wVar 3) (wC (.int 0))) (wC (.str "<<")))))
 (wRet (wTup (q0d (wVar 1) (q0d (wTup (q0d (wVar 1) (q0d (wVar 2) (q0d (wBin bIx (wVar 3) (wC (.int 1))) wNil)))) (q0d (wBin bIx (wVar 3) (wC (.int 2))) wNil)))))
 q1i)
 (wRet (wC .non))))))
def q4q(spturned_at_top:Den)(spturned:Den):WS:=
 (wSeq (wSet 1 (q0t spturned_at_top (q0d (wVar 0) wNil)))
 (wSeq (wIfS (wOr (q0w (wBin q9e (wVar 1) (wC .non))) (q0w (wBin cEq (wBin bIx (wVar 0) (wC (.int 0))) (wC (.str "word")))))
 (wRet (wVar 1))
 q1i)
 (wSeq (wAsg (wVar 0) (q4e 3 (q1e (q0z 2) (q1e (q0z 3) (q1e (q0z 4) q4j)))))
 (wSeq (wSet 1 (q0t spturned (q0d (wVar 3) wNil)))
 (wSeq (wIfS (q0w (wBin q9e (wVar 1) (wC .non)))
 (wRet (wTup (q0d (wVar 2) (q0d (wVar 1) (q0d (wVar 4) wNil)))))
 q1i)
 (wSeq (wSet 1 (q0t spturned (q0d (wVar 4) wNil)))
 (wSeq (wIfS (q0w (wBin q9e (wVar 1) (wC .non)))
 (wRet (wTup (q0d (wVar 2) (q0d (wVar 3) (q0d (wVar 1) wNil)))))
 q1i)
 (wRet (wC .non)))))))))
set_option maxHeartbeats 1000000
inductive Sg where
 |a|b|c|d
deriving DecidableEq
def Sg.st:Sg->Str
 |.a=>Str.ofString ">"
 |.b=>Str.ofString "<"
 |.c=>Str.ofString ">>"
 |.d=>Str.ofString "<<"
inductive Rd where
 |w (i:Int) (f:Fm)|n (s:Sg) (l r:Rd)
deriving DecidableEq
def z3o:Str:=Str.ofString "word"
def Rd.pv:Rd->PV
 |.w i f=>.tup [.str z3o,.int i,f.pv]
 |.n s l r=>.tup [.str s.st,l.pv,r.pv]
def Rd.lv:Rd->Nat
 |.w _ _=>1
 |.n _ l r=>l.lv+r.lv
def Rd.fd:Rd->Nat
 |.w _ f=>f.dp
 |.n _ l r=>max l.fd r.fd
def Rd.is:Rd->Int->Int->Fm->Prop
 |.w i f,a,b,g=>i=a/\b=a+1/\f=g
 |.n s l r,a,b,g=>∃k x y,l.is a k x/\r.is k b y/\md x y=some (s.st,g)
theorem Rd.lv_pos:∀r:Rd,1<=r.lv
 |.w _ _=>Nat.le_refl _
 |.n _ l r=>Nat.le_trans (Rd.lv_pos l) (Nat.le_add_right _ _)
theorem z2a(s:Sg):(s.st=z3o)=False:=by cases s<;>(simp only[eq_iff_iff,iff_false];decide +kernel)
theorem y0o{s t:Sg}:s.st=t.st↔s=t:=by
 refine⟨fun h=>?_,fun h=>by rw[h]⟩
 cases s<;>cases t<;>first|rfl|(exfalso;revert h;decide +kernel)
theorem rw0(i:Int)(f:Fm)(S:q0i)(Q:VC):bIx (Rd.w i f).pv (.int 0) S Q=Q (.str z3o) S:=rfl
theorem rw1(i:Int)(f:Fm)(S:q0i)(Q:VC):bIx (Rd.w i f).pv (.int 1) S Q=Q (.int i) S:=rfl
theorem rw2(i:Int)(f:Fm)(S:q0i)(Q:VC):bIx (Rd.w i f).pv (.int 2) S Q=Q f.pv S:=rfl
theorem rn0(s:Sg)(l r:Rd)(S:q0i)(Q:VC):bIx (Rd.n s l r).pv (.int 0) S Q=Q (.str s.st) S:=rfl
theorem rn1(s:Sg)(l r:Rd)(S:q0i)(Q:VC):bIx (Rd.n s l r).pv (.int 1) S Q=Q l.pv S:=rfl
theorem rn2(s:Sg)(l r:Rd)(S:q0i)(Q:VC):bIx (Rd.n s l r).pv (.int 2) S Q=Q r.pv S:=rfl
theorem z5k{T:Nat->Den}(hT:∀n,T (n+1)=fnP 1 1 (q4f (T n))):∀(n:Nat)(f:Fm),f.dp<=n->∀(S:q0i)(E:EK)(Q:VC),Q (.int (f.lv:Nat)) S->T n [f.pv] S E Q
 |0,f,hd,S,E,Q,h=>by have:=f.dp_pos;omega
 |n+1,.b s,hd,S,E,Q,h=>by
  rw[hT]
  refine⟨rfl,?_⟩
  unfold q4f
  dsimp![wSeq,fb0]
  exact h
 |n+1,.n l x y,hd,S,E,Q,h=>by
  simp only[Fm.dp]at hd
  rw[hT]
  refine⟨rfl,?_⟩
  unfold q4f
  dsimp![wSeq,fn0,fn1,fn2,q7u]
  refine z5k hT n x (by omega) _ _ _ ?_
  refine z5k hT n y (by omega) _ _ _ ?_
  dsimp![true_and]
  simp only[Fm.lv,Int.natCast_add]at h
  exact h
def y8m(sp:Den)(d:Nat):Prop:=∀(f:Fm),f.dp<=d->∀(S:q0i)(E:EK)(Q:VC),Q (.int (f.lv:Nat)) S->sp [f.pv] S E Q
theorem q9v(s:Str):PV.tup [.str "basic",.str s]=(Fm.b s).pv:=rfl
set_option maxHeartbeats 1000000
theorem y8y(s:Sg)(l r:Rd):PV.tup [.str s.st,l.pv,r.pv]=(Rd.n s l r).pv:=rfl
theorem y9c(x y:PV)(S:q0i)(Q:VC):bIx (.tup [x,y]) (.int 0) S Q=Q x S:=rfl
theorem y1u(x y:PV)(S:q0i)(Q:VC):bIx (.tup [x,y]) (.int 1) S Q=Q y S:=rfl
set_option maxHeartbeats 1000000
def Rd.top:Rd->Option Rd
 |.n .a (.n .c x y) z=>some (.n .a x (.n .a y z))
 |.n .c (.n .c x y) z=>some (.n .c x (.n .c y z))
 |.n .b x (.n .d y z)=>some (.n .b (.n .b x y) z)
 |.n .d x (.n .d y z)=>some (.n .d (.n .d x y) z)
 |_=>none
def Rd.once:Rd->List Rd
 |.w _ _=>[]
 |.n s l r=>(Rd.top (.n s l r)).toList++l.once.map (fun x=>.n s x r)++r.once.map (fun x=>.n s l x)
def Rd.tn:Rd->Option Rd
 |.w _ _=>none
 |.n s l r=>match Rd.top (.n s l r)with
  |some t=>some t
  |none=>match l.tn with
   |some t=>some (.n s t r)
   |none=>match r.tn with
    |some t=>some (.n s l t)
    |none=>none
theorem z1y:∀r:Rd,(∀t,r.tn=some t->t∈r.once)/\(r.tn=none->r.once=[])
 |.w _ _=>⟨fun _ h=>(by cases h),fun _=>rfl⟩
 |.n s l r=>by
  obtain⟨l1,l2⟩:=z1y l
  obtain⟨r1,r2⟩:=z1y r
  unfold Rd.tn Rd.once
  cases e:Rd.top (.n s l r)with
  |some t=>exact⟨fun u h=>by cases h;simp,fun h=>by cases h⟩
  |none=>
   cases el:l.tn with
   |some t=>exact⟨fun u h=>by cases h;simp[l1 t el],fun h=>by cases h⟩
   |none=>
    cases er:r.tn with
    |some t=>exact⟨fun u h=>by cases h;simp[r1 t er],fun h=>by cases h⟩
    |none=>exact⟨fun u h=>(by cases h),fun _=>(by simp[l2 el,r2 er])⟩
def Rd.ms:Rd->Nat
 |.w _ _=>0
 |.n s l r=>l.ms+r.ms+match s with
  |.a=>l.lv
  |.c=>l.lv
  |.b=>r.lv
  |.d=>r.lv
theorem x4g {r t : Rd} (h : r.top = some t) : t.ms < r.ms /\ t.lv = r.lv /\ t.fd = r.fd := by
 unfold Rd.top at h
 split at h
 all_goals first
  | (cases h; done)
  | (rename_i x y z; have := x.lv_pos; have := y.lv_pos; have := z.lv_pos; simp only [Option.some.injEq] at h; subst h; simp only [Rd.ms, Rd.lv, Rd.fd]; omega)
theorem z2j:∀{r t:Rd},t∈r.once->t.ms<r.ms/\t.lv=r.lv/\t.fd=r.fd
 |.w _ _,t,h=>by cases h
 |.n s l r,t,h=>by
  unfold Rd.once at h
  simp only[List.mem_append,List.mem_map,Option.mem_toList]at h
  rcases h with(h|⟨u,hu,rfl⟩)|⟨u,hu,rfl⟩
  ·exact x4g h
  ·obtain⟨a,b,c⟩:=z2j hu
   refine⟨?_,by simp only[Rd.lv,b],by simp only[Rd.fd,c]⟩
   cases s<;>simp only[Rd.ms,b]<;>omega
  ·obtain⟨a,b,c⟩:=z2j hu
   refine⟨?_,by simp only[Rd.lv,b],by simp only[Rd.fd,c]⟩
   cases s<;>simp only[Rd.ms,b]<;>omega
theorem q9q:∀r:Rd,r.once.length+1<=r.lv+r.lv
 |.w _ _=>by simp[Rd.once,Rd.lv]
 |.n s l r=>by
  have h1:=q9q l
  have h2:=q9q r
  have:(Rd.top (.n s l r)).toList.length<=1:=by cases Rd.top (.n s l r)<;>simp
  simp only[Rd.once,Rd.lv,List.length_append,List.length_map]
  omega
theorem x2d:∀r:Rd,r.ms<=r.lv*r.lv
 |.w _ _=>by simp[Rd.ms]
 |.n s l r=>by
  have h1:=x2d l
  have h2:=x2d r
  have e:(l.lv+r.lv)*(l.lv+r.lv)=l.lv*l.lv+r.lv*r.lv+2*(l.lv*r.lv):=by rw[Nat.mul_add,Nat.add_mul,Nat.add_mul,Nat.mul_comm r.lv l.lv];omega
  have hl:l.lv<=l.lv*r.lv:=Nat.le_mul_of_pos_right _ r.lv_pos
  have hr:r.lv<=l.lv*r.lv:=Nat.le_mul_of_pos_left _ l.lv_pos
  simp only[Rd.ms,Rd.lv,e]
  cases s<;>simp only<;>omega
set_option maxHeartbeats 1000000
theorem z5s(S:q0i)(o u:SO):List.set (S++[o]) S.length u=S++[u]:=by
 rw[List.set_append_right _ _ (Nat.le_refl _),Nat.sub_self];rfl
def Rd.hd:Rd->Str
 |.w _ _=>z3o
 |.n s _ _=>s.st
theorem rd0(r:Rd)(S:q0i)(Q:VC):bIx r.pv (.int 0) S Q=Q (.str r.hd) S:=by cases r<;>rfl
def Sg.ac:Sg->Bool
 |.a=>true
 |.c=>true
 |_=>false
def Rd.isS(t:Sg):Rd->Bool
 |.n s _ _=>decide (s=t)
 |_=>false
theorem z7v{t:Sg}{r:Rd}(h:r.isS t=true):∃x y,r=.n t x y:=by
 cases r with
 |w i f=>cases h
 |n s x y=>exact⟨x,y,by rw[show s=t from of_decide_eq_true h]⟩
theorem hd_c(r:Rd):(r.hd=Str.ofString ">>")=(r.isS .c=true):=by
 cases r with
 |w i f=>simp only[Rd.hd,Rd.isS,eq_iff_iff,Bool.false_eq_true,iff_false];decide +kernel
 |n s x y=>simp only[Rd.hd,Rd.isS,eq_iff_iff,decide_eq_true_eq];exact y0o (t:=.c)
theorem hd_d(r:Rd):(r.hd=Str.ofString "<<")=(r.isS .d=true):=by
 cases r with
 |w i f=>simp only[Rd.hd,Rd.isS,eq_iff_iff,Bool.false_eq_true,iff_false];decide +kernel
 |n s x y=>simp only[Rd.hd,Rd.isS,eq_iff_iff,decide_eq_true_eq];exact y0o (t:=.d)
theorem hd_w(s:Sg)(x y:Rd):((Rd.n s x y).hd=Str.ofString "word")=False:=z2a s
theorem z6r(i:Int)(f:Fm):((Rd.w i f).hd=Str.ofString "word")=True:=by simp only[Rd.hd,z3o]
theorem y4i(s:Sg):([PV.str ">",PV.str ">>"].any fun y=>eqB y (.str s.st))=s.ac:=by
 simp only[List.any_cons,List.any_nil,q4o,Bool.or_false]
 cases s<;>decide +kernel
theorem z8n(s:Sg):([PV.str "<",PV.str "<<"].any fun y=>eqB y (.str s.st))=!s.ac:=by
 simp only[List.any_cons,List.any_nil,q4o,Bool.or_false]
 cases s<;>decide +kernel
theorem x4k{s:Sg}{x y r:Rd}(h:s.ac=true):Rd.top (.n s (.n .c x y) r)=some (.n s x (.n s y r)):=by cases s<;>first|rfl|(cases h;done)
theorem x4j{s:Sg}{l y z:Rd}(h:s.ac=false):Rd.top (.n s l (.n .d y z))=some (.n s (.n s l y) z):=by cases s<;>first|rfl|(cases h;done)
theorem z7f{s:Sg}{l r:Rd}(h1:s.ac=true->l.isS .c=false)(h2:s.ac=false->r.isS .d=false):Rd.top (.n s l r)=none:=by
 unfold Rd.top
 split
 ·rename_i e;cases e;cases h1 rfl
 ·rename_i e;cases e;cases h1 rfl
 ·rename_i e;cases e;cases h2 rfl
 ·rename_i e;cases e;cases h2 rfl
 ·rfl
def optP:Option Rd->PV
 |none=>.non
 |some t=>t.pv
theorem x5c(s:Sg)(l r:Rd):(Rd.n s l r).pv=.tup [.str s.st,l.pv,r.pv]:=rfl
theorem wgt3(ws:WGs)(s:Sg)(l r:Rd)(σ:Ev.Loc)(S:q0i)(E:EK)(Q:Ev.Loc->q0i->Prop):(q4e 3 ws (Rd.n s l r).pv σ S E Q)=ws [.str s.st,l.pv,r.pv] σ S E Q:=by
 rw[x5c]
 show(([PV.str s.st,l.pv,r.pv].length=3)/\_)=_
 simp
def TopD(sp:Den):Prop:=∀(r:Rd)(S:q0i)(E:EK)(Q:VC),Q (optP r.top) S->sp [r.pv] S E Q
theorem ok2(a b:Str):q6c [.str a,.str b]:=x6v a b
theorem x3p:TopD (fnP 1 4 q2e):=by
 intro r S E Q h
 refine⟨rfl,?_⟩
 unfold q2e
 have p2:2<=sizeLine:=big (by decide)
 have p3:3<=sizeLine:=big (by decide)
 cases r with
 |w i f=>
  dsimp![wSeq,rd0,z6r]
  exact h
 |n s l r=>
  refine seqI fun K hK=>?_
  dsimp![rd0,hd_w]
  refine hK _ _ ?_
  clear hK
  refine seqI fun K hK=>?_
  simp only[wAsg,wVar,wgt3,List.getElem?_cons_zero,List.map_cons,List.map_nil,List.cons_append,List.nil_append]
  dsimp![true_and]
  refine hK _ _ ?_
  clear hK
  dsimp![wSeq,y4i,z8n,rd0,hd_c,hd_d,ok2]
  cases hs:s.ac with
  |true=>
   refine⟨p2,?_⟩
   simp only[if_true]
   cases hl:l.isS .c with
   |true=>
    obtain⟨x,y,rfl⟩:=z7v hl
    rw[x4k hs]at h
    simp only[if_true]
    dsimp![rn1,rn2]
    exact⟨p3,p3,h⟩
   |false=>
    rw[z7f (fun _=>hl) (fun z=>by rw[hs]at z;cases z)]at h
    dsimp![true_and]
    exact⟨p2,h⟩
  |false=>
   refine⟨p2,?_⟩
   dsimp![true_and]
   refine⟨p2,?_⟩
   cases hr:r.isS .d with
   |true=>
    obtain⟨y,z,rfl⟩:=z7v hr
    rw[x4j hs]at h
    simp only[if_true]
    dsimp![rn1,rn2]
    exact⟨p3,p3,h⟩
   |false=>
    rw[z7f (fun z=>by rw[hs]at z;cases z) (fun _=>hr)]at h
    dsimp![true_and]
    exact h
set_option maxHeartbeats 1000000
theorem w0e(r:Rd):z4l r.pv=false:=by cases r<;>rfl
theorem z2h(o:Option Rd):z4l (optP o)=o.isNone:=by cases o with
 |none=>rfl
 |some t=>exact w0e t
theorem q5v(x:PV)(S:q0i)(Q:VC):q9e x .non S Q=Q (.bl (!z4l x)) S:=by cases x<;>rfl
def TnD(sp:Den)(n:Nat):Prop:=∀(r:Rd),r.lv<=n->∀(S:q0i)(E:EK)(Q:VC),Q (optP r.tn) S->sp [r.pv] S E Q
theorem z0a{T A:Nat->Den}(hT:∀n,T (n+1)=fnP 1 5 (q4q (A n) (T n)))(hA:∀n,TopD (A (n+1))):∀(n:Nat),TnD (T (n+1)) n
 |0=>fun r hr=>by have:=r.lv_pos;omega
 |n+1=>by
  intro r hr S E Q h
  rw[hT]
  refine⟨rfl,?_⟩
  unfold q4q
  have p3:3<=sizeLine:=big (by decide)
  cases r with
  |w i f=>
   refine seqI fun K hK=>?_
   dsimp![true_and]
   refine hA n _ _ _ _ (hK _ _ ?_)
   clear hK
   simp only[q5v,wSeq,wIfS,wOr,q0w,wBin,wVar,wC,List.set_cons_zero,List.set_cons_succ,List.map_cons,List.map_nil,List.cons_append,List.nil_append,List.replicate,List.getElem?_cons_zero,List.getElem?_cons_succ,Nat.reduceSub]
   dsimp![show(Rd.w i f).top=none from rfl,optP,rd0,z6r,z4l]
   exact h
  |n s l r=>
   simp only[Rd.lv]at hr
   have:=l.lv_pos
   have:=r.lv_pos
   refine seqI fun K hK=>?_
   dsimp![true_and]
   refine hA n _ _ _ _ (hK _ _ ?_)
   clear hK
   refine seqI fun K hK=>?_
   simp only[wIfS,wOr,q0w,wBin,wVar,wC,List.set_cons_zero,List.set_cons_succ,List.map_cons,List.map_nil,List.cons_append,List.nil_append,List.replicate,List.getElem?_cons_zero,List.getElem?_cons_succ,Nat.reduceSub,q5v,z2h]
   unfold Rd.tn at h
   cases e:Rd.top (.n s l r)with
   |some t=>
    rw[e]at h
    dsimp![true_and]
    exact h
   |none=>
    rw[e]at h
    dsimp![Option.isNone_none,rd0,hd_w]
    refine hK _ _ ?_
    clear hK
    refine seqI fun K hK=>?_
    simp only[wAsg,wVar,wgt3,List.getElem?_cons_zero]
    dsimp![true_and]
    refine hK _ _ ?_
    clear hK
    refine seqI fun K hK=>?_
    dsimp![true_and]
    refine z0a hT hA n l (by omega) _ _ _ (hK _ _ ?_)
    clear hK
    refine seqI fun K hK=>?_
    simp only[wIfS,q0w,wBin,wVar,wC,List.getElem?_cons_zero,List.getElem?_cons_succ,q5v,z2h]
    cases el:l.tn with
    |some t=>
     rw[el]at h
     dsimp![Option.isNone_some,optP]
     exact⟨p3,h⟩
    |none=>
     rw[el]at h
     dsimp![Option.isNone_none]
     refine hK _ _ ?_
     clear hK
     refine seqI fun K hK=>?_
     dsimp![true_and]
     refine z0a hT hA n r (by omega) _ _ _ (hK _ _ ?_)
     clear hK
     refine seqI fun K hK=>?_
     simp only[wIfS,q0w,wBin,wVar,wC,List.getElem?_cons_zero,List.getElem?_cons_succ,q5v,z2h]
     cases er:r.tn with
     |some t=>
      rw[er]at h
      dsimp![Option.isNone_some,optP]
      exact⟨p3,h⟩
     |none=>
      rw[er]at h
      dsimp![Option.isNone_none]
      refine hK _ _ ?_
      dsimp![true_and]
      exact h
def x9c(sp:Den)(n:Nat):Prop:=∀(r:Rd),r.lv<=n->∀(S:q0i)(E:EK)(Q:VC),(∀(q:Nat) S',S.length<=q->S'[q]?=some (.lst (r.once.map Rd.pv))->Ex [] S S'->Q (.ref q) S')->sp [r.pv] S E Q
theorem z7u{g:WG}{we:WE}{Q:VC}{q:Nat}{ts:List Rd}(f:Rd->Rd)(τ:Option PV->Ev.Loc)(hg:∀(j:Option PV)(x:Rd)(S:q0i)(N:Ev.Loc->q0i->Prop),N (τ (some x.pv)) S->g x.pv (τ j) S NoX N)(he:∀(x:Rd)(S:q0i)(N:VC),N (f x).pv S->we (τ (some x.pv)) S NoX N)
  (S:q0i) (h:∀(S':q0i),Ex [] S S'->S'.length=S.length->Q (.ref S'.length) (S'++[.lst ((ts.map f).map Rd.pv)])) (hq:S[q]?=some (.lst (ts.map Rd.pv))) (j0:Option PV):q8i (fun S=>q3i S q=some (ts.map Rd.pv)) g q2t we Q (ts.map Rd.pv) [] (τ j0) S:=by
 refine z3a (fun rest ys σ S1=>S1=S/\(∃j,σ=τ j)/\∃done cs,ts=done++cs/\rest=cs.map Rd.pv/\ys=(done.map f).map Rd.pv) ?_ ?_ _ _ _ _ ⟨rfl,⟨j0,rfl⟩,[],ts,rfl,rfl,rfl⟩
 ·rintro ys σ S1 ⟨rfl,-,done,cs,e1,e2,rfl⟩
  have:cs=[]:=by
   cases cs with
   |nil=>rfl
   |cons a b=>simp at e2
  subst this
  rw[List.append_nil]at e1
  subst e1
  exact⟨q0v hq,h S1 (Ex.refl _ _) rfl⟩
 ·rintro x r ys σ S1 ⟨rfl,⟨j,rfl⟩,done,cs,e1,e2,rfl⟩ N hN
  cases cs with
  |nil=>simp at e2
  |cons c cs=>
   simp only[List.map_cons,List.cons.injEq]at e2
   obtain⟨rfl,rfl⟩:=e2
   refine⟨q0v hq,hg _ _ _ _ ?_⟩
   simp only[q2t,if_true]
   exact he _ _ _ (hN _ _ _ ⟨rfl,⟨_,rfl⟩,done++[c],cs,by simp[e1],rfl,by simp⟩)
theorem z5y{T:Nat->Den}(hT:∀n,T (n+1)=fnP 1 5 (q2n (T n))):∀(n:Nat),n<=1000->x9c (T (n+1)) n
 |0,_=>fun r hr=>by have:=r.lv_pos;omega
 |n+1,hn=>by
  intro r hr S E Q h
  rw[hT]
  refine⟨rfl,?_⟩
  unfold q2n
  have p2:2<=sizeLine:=big (by decide)
  have p3:3<=sizeLine:=big (by decide)
  have p0:0<=sizeLine:=big (by decide)
  cases r with
  |w i f=>
   dsimp![wSeq,rd0,z6r]
   exact⟨p0,h _ _ (Nat.le_refl _) (q1g _ _) (Ex.new _ _ _)⟩
  |n s l r=>
   have ol:=q9q l
   have or':=q9q r
   simp only[Rd.lv]at hr
   have:=l.lv_pos
   have:=r.lv_pos
   refine seqI fun K hK=>?_
   dsimp![rd0,hd_w]
   refine hK _ _ ?_
   clear hK
   refine seqI fun K hK=>?_
   simp only[wAsg,wVar,wgt3,List.getElem?_cons_zero,List.map_cons,List.map_nil,List.cons_append,List.nil_append]
   dsimp![true_and]
   refine hK _ _ ?_
   clear hK
   refine seqI fun K hK=>?_
   dsimp![true_and]
   refine⟨p0,hK _ _ ?_⟩
   clear hK
   have rest:∀S1:q0i,S1[S.length]?=some (.lst ((Rd.top (.n s l r)).toList.map Rd.pv))->Ex [] S S1->(wSeq (wSet 4 (wBin bAdd (wVar 4) (q5c (q5n (q0t (T (n+1)) (q0d (wVar 2) wNil))) [none,some 1,some 3] (q0z 0) q2t (wTup (q0d (wVar 1) (q0d (wVar 0) (q0d (wVar 2) wNil)))))))
 (wRet (wBin bAdd (wVar 4) (q5c (q5n (q0t (T (n+1)) (q0d (wVar 3) wNil))) [none,some 1,some 2] (q0z 0) q2t (wTup (q0d (wVar 1) (q0d (wVar 2) (q0d (wVar 0) wNil)))))))) {nx:=fun _ S'=>Q .non S',rt:=Q} E [some (Rd.n s l r).pv,some (.str s.st),some l.pv,some r.pv,some (.ref S.length)] S1:=by
    intro S1 h1 hx1
    have tl:(Rd.top (.n s l r)).toList.length<=1:=by cases Rd.top (.n s l r)<;>simp
    refine seqI fun K hK=>?_
    dsimp![true_and]
    refine z5y hT n (by omega) l (by omega) _ _ _ fun q S2 hq0 hq hx2=>?_
    dsimp![q0v hq]
    refine⟨by rw[List.length_map];exact big (by omega),?_⟩
    refine z7u (fun x=>.n s x r) (fun j=>[j,some (.str s.st),some r.pv]) (fun j x S N hN=>?_) (fun x S N hN=>?_) S2 (fun S' hx' _=>?_) hq none
    ·dsimp![true_and]
     exact hN
    ·dsimp![true_and]
     exact⟨p3,hN⟩
    have a1:=q1m ((hx2.trans hx').get h1 (by simp)) [SO.lst ((l.once.map fun x=>Rd.n s x r).map Rd.pv)]
    dsimp![q1f a1]
    refine⟨by simp only[List.length_map];exact big (by omega),hK _ _ ?_⟩
    clear hK
    rw[<-List.map_append]
    have hx3:Ex [] S (S'++[SO.lst ((l.once.map fun x=>Rd.n s x r).map Rd.pv)]++[SO.lst (((Rd.top (.n s l r)).toList++l.once.map fun x=>Rd.n s x r).map Rd.pv)]):=(((hx1.trans hx2).trans hx').app _).app _
    have a2:=q1g (S'++[SO.lst ((l.once.map fun x=>Rd.n s x r).map Rd.pv)]) (SO.lst (((Rd.top (.n s l r)).toList++l.once.map fun x=>Rd.n s x r).map Rd.pv))
    generalize S'++[SO.lst ((l.once.map fun x=>Rd.n s x r).map Rd.pv)]++[SO.lst (((Rd.top (.n s l r)).toList++l.once.map fun x=>Rd.n s x r).map Rd.pv)]=S3 at hx3 a2 ⊢
    generalize (S'++[SO.lst ((l.once.map fun x=>Rd.n s x r).map Rd.pv)]).length=m at a2 ⊢
    dsimp![true_and]
    refine z5y hT n (by omega) r (by omega) _ _ _ fun q S4 hq0 hq hx4=>?_
    dsimp![q0v hq]
    refine⟨by rw[List.length_map];exact big (by omega),?_⟩
    refine z7u (fun x=>.n s l x) (fun j=>[j,some (.str s.st),some l.pv]) (fun j x S N hN=>?_) (fun x S N hN=>?_) S4 (fun S' hx' _=>?_) hq none
    ·dsimp![true_and]
     exact hN
    ·dsimp![true_and]
     exact⟨p3,hN⟩
    have a3:=q1m ((hx4.trans hx').get a2 (by simp)) [SO.lst ((r.once.map fun x=>Rd.n s l x).map Rd.pv)]
    dsimp![q1f a3]
    refine⟨by simp only[List.length_map,List.length_append];exact big (by omega),?_⟩
    rw[<-List.map_append]
    have hx5:=((hx3.trans hx4).trans hx').app [SO.lst ((r.once.map fun x=>Rd.n s l x).map Rd.pv)]
    exact h _ _ hx5.1 (q1g _ _) (hx5.app _)
   have n0:=q1g S (SO.lst [])
   cases hs:s.ac with
   |true=>
    refine seqI fun K hK=>?_
    dsimp![y4i,rd0,hd_c,ok2,hs]
    refine⟨p2,?_⟩
    cases hl:l.isS .c with
    |true=>
     obtain⟨x,y,rfl⟩:=z7v hl
     dsimp![rn1,rn2]
     refine⟨p3,p3,bigl (by decide),hK _ _ ?_⟩
     rw[z5s]
     clear hK
     refine seqI fun K hK=>?_
     dsimp![z8n,hs,ok2]
     refine⟨p2,hK _ _ (rest _ ?_ (Ex.new _ _ _))⟩
     rw[x4k hs]
     exact q1g _ _
    |false=>
     dsimp![true_and]
     refine hK _ _ ?_
     clear hK
     refine seqI fun K hK=>?_
     dsimp![z8n,hs,ok2]
     refine⟨p2,hK _ _ (rest _ ?_ (Ex.new _ _ _))⟩
     rw[z7f (fun _=>hl) (fun z=>by rw[hs]at z;cases z)]
     exact q1g _ _
   |false=>
    refine seqI fun K hK=>?_
    dsimp![y4i,ok2,hs]
    refine⟨p2,hK _ _ ?_⟩
    clear hK
    refine seqI fun K hK=>?_
    dsimp![z8n,rd0,hd_d,ok2,hs]
    refine⟨p2,?_⟩
    cases hr:r.isS .d with
    |true=>
     obtain⟨y,z,rfl⟩:=z7v hr
     dsimp![rn1,rn2]
     refine⟨p3,p3,bigl (by decide),hK _ _ (rest _ ?_ ?_)⟩
     ·rw[z5s,x4j hs]
      exact q1g _ _
     ·rw[z5s]
      exact Ex.new _ _ _
    |false=>
     dsimp![true_and]
     refine hK _ _ (rest _ ?_ (Ex.new _ _ _))
     rw[z7f (fun z=>by rw[hs]at z;cases z) (fun _=>hr)]
     exact q1g _ _
set_option maxHeartbeats 1000000
def Rd.wi:Rd->List Rd
 |.w i f=>[.w i f]
 |.n s l r=>.n s l r::(l.wi++r.wi)
theorem q9y:∀r:Rd,r.wi.length+1=r.lv+r.lv
 |.w _ _=>rfl
 |.n s l r=>by have:=q9y l;have:=q9y r;simp only[Rd.wi,Rd.lv,List.length_cons,List.length_append];omega
def WiD(sp:Den)(n:Nat):Prop:=∀(r:Rd),r.lv<=n->∀(S:q0i)(E:EK)(Q:VC),(∀(q:Nat) S',S.length<=q->S'[q]?=some (.lst (r.wi.map Rd.pv))->Ex [] S S'->Q (.ref q) S')->sp [r.pv] S E Q
theorem x0c{T:Nat->Den}(hT:∀n,T (n+1)=fnP 1 1 (q4c (T n))):∀(n:Nat),n<=1000->WiD (T (n+1)) n
 |0,_=>fun r hr=>by have:=r.lv_pos;omega
 |n+1,hn=>by
  intro r hr S E Q h
  rw[hT]
  refine⟨rfl,?_⟩
  unfold q4c
  have p1:1<=sizeLine:=big (by decide)
  cases r with
  |w i f=>
   dsimp![wSeq,rd0,z6r]
   exact⟨p1,h _ _ (Nat.le_refl _) (q1g _ _) (Ex.new _ _ _)⟩
  |n s l r=>
   have wl:=q9y l
   have wr:=q9y r
   simp only[Rd.lv]at hr
   have:=l.lv_pos
   have:=r.lv_pos
   dsimp![wSeq,rd0,hd_w,rn1,rn2]
   refine⟨p1,x0c hT n (by omega) l (by omega) _ _ _ fun q S1 hq0 hq hx1=>?_⟩
   have a1:=hx1.get (q1g S (SO.lst [(Rd.n s l r).pv])) (by simp)
   dsimp![q1f a1,q1f hq]
   refine⟨by rw[List.length_map];exact big (by omega),?_⟩
   refine x0c hT n (by omega) r (by omega) _ _ _ fun q2 S2 hq20 hq2 hx2=>?_
   have a2:=hx2.get (q1g S1 (SO.lst ((Rd.n s l r).pv::l.wi.map Rd.pv))) (by simp)
   dsimp![q1f a2,q1f hq2]
   refine⟨by simp only[List.length_map];exact big (by omega),?_⟩
   have ex:Ex [] S S2:=(((Ex.refl _ _).app _).trans hx1).trans (((Ex.refl _ _).app _).trans hx2)
   refine h _ _ ex.1 ?_ (ex.app _)
   rw[q1g,Rd.wi,List.map_cons,List.map_append]
def Rd.sm:Rd->Prop
 |.w _ f=>f.lv<=5
 |.n _ l r=>l.sm/\r.sm
def Rd.ov(ws:List Str):Rd->Prop
 |.w _ f=>f.ov ws
 |.n _ l r=>l.ov ws/\r.ov ws
def z5h(sp:Den)(dd:Nat):Prop:=∀(d c b:Nat)(ws:List Str)(f:Fm)(S:q0i)(E:EK)(Q:VC),Deck d c S->S[b]?=some (.lst (ws.map PV.str))->ws≠[]->b≠d->b≠c->f.dp<=dd->
 (∀(o:Fm) S',o.lv<=2->(3<f.lv->o.lv=1)->o.ov ws->Deck d c S'->Ex [d,c] S S'->Q o.pv S')->sp [.ref d,.ref b,f.pv] S E Q
theorem x1t{spn spw:Den}{dd:Nat}(hn:z5i spn)(hw:y8m spw dd):z5h (fnP 3 5 (q4y spn spw)) dd:=by
 intro d c b ws f S E Q hd hb hne nd nc hf h
 refine⟨rfl,?_⟩
 unfold q4y
 have p2:2<=sizeLine:=big (by decide)
 have p3:3<=sizeLine:=big (by decide)
 have hpos:0<(ws.length:Int):=by have:=List.length_pos_iff.mpr hne;omega
 refine seqI fun K hK=>?_
 dsimp![true_and]
 refine hn d c _ _ _ hd fun way S1 w0 w1 hd1 hx1=>hK _ _ ?_
 have hb1:=hx1.get hb (by simp;exact⟨nd,nc⟩)
 obtain⟨y,hy,hya⟩:=q9x (i:=way) hne
 obtain⟨z,hz,hza⟩:=q9x (i:=way / 24) hne
 refine seqI fun K hK=>?_
 dsimp![hb1,q0v hb1,List.length_map,hya]
 refine⟨hpos,p2,hK _ _ ?_⟩
 have d1:=h (.b y) S1 (by simp[Fm.lv]) (fun _=>rfl) hy hd1 hx1
 dsimp![wSeq,hb1,q0v hb1,List.length_map,hza]
 refine⟨⟨by decide,by decide⟩,by decide,ite2 (fun _=>d1) (fun _=>?_)⟩
 refine hw f hf _ _ _ ?_
 dsimp![true_and]
 refine ite2 (fun _=>d1) (fun zw=>?_)
 have hb2:=q1m hb1 [SO.lst [PV.str "/",PV.str "\\"]]
 dsimp![at2,hb2,q0v hb2,List.length_map,hza]
 refine⟨p2,⟨by decide,by decide⟩,by decide,⟨by decide,by decide⟩,hpos,p2,p3,?_⟩
 rw[q9v,q9v,y8v]
 exact h _ _ (by simp[Fm.lv]) (fun z=>by omega) ⟨hy,hz⟩ (hd1.ex (Ex.new [] _ _) (by simp) (by simp)) (hx1.app _)
def y4o(sp:Den):Prop:=∀(d c b:Nat)(ws:List Str)(S:q0i)(E:EK)(Q:VC),Deck d c S->S[b]?=some (.lst (ws.map PV.str))->ws≠[]->b≠d->b≠c->
 (∀(o:Fm) S',o.lv<=3->o.ov ws->Deck d c S'->Ex [d,c] S S'->Q o.pv S')->sp [.ref d,.ref b] S E Q
theorem y3o{spn spo:Den}{dd:Nat}(hn:z5i spn)(ho:z5h spo dd)(h1:1<=dd):y4o (fnP 2 5 (q2q spn spo)):=by
 intro d c b ws S E Q hd hb hne nd nc h
 refine⟨rfl,?_⟩
 unfold q2q
 have p2:2<=sizeLine:=big (by decide)
 have p3:3<=sizeLine:=big (by decide)
 have hpos:0<(ws.length:Int):=by have:=List.length_pos_iff.mpr hne;omega
 refine seqI fun K hK=>?_
 dsimp![hb]
 refine hn d c _ _ _ hd fun n1 S1 w0 w1 hd1 hx1=>?_
 have hb1:=hx1.get hb (by simp;exact⟨nd,nc⟩)
 obtain⟨y,hy,hya⟩:=q9x (i:=n1) hne
 dsimp![hb1,q0v hb1,List.length_map,hya]
 refine⟨hpos,p2,hK _ _ ?_⟩
 rw[q9v]
 clear hK
 refine seqI fun K hK=>?_
 dsimp![true_and]
 refine ho d c b ws _ _ _ _ hd1 hb1 hne nd nc (by simp only[Fm.dp];omega) fun o S2 ho2 _ hov hd2 hx2=>hK _ _ ?_
 clear hK
 refine seqI fun K hK=>?_
 dsimp![true_and]
 refine hn d c _ _ _ hd2 fun n2 S3 n20 n21 hd3 hx3=>?_
 dsimp![true_and]
 refine⟨by decide,hK _ _ ?_⟩
 clear hK
 dsimp![wSeq,at2]
 refine ite2 (fun _=>h (.b y) S3 (by simp[Fm.lv]) hy hd3 (hx1.trans (hx2.trans hx3))) (fun _=>⟨p2,by decide,p3,?_⟩)
 rw[y8v]
 exact h _ _ (by simp only[Fm.lv];omega) ⟨hy,hov⟩ (hd3.ex (Ex.new [] _ _) (by simp) (by simp)) ((hx1.trans (hx2.trans hx3)).app _)
def z5f(sp:Den)(m:Nat):Prop:=∀(d c b:Nat)(ws:List Str)(f:Fm)(p:Int)(S:q0i)(E:EK)(Q:VC),Deck d c S->S[b]?=some (.lst (ws.map PV.str))->ws≠[]->b≠d->b≠c->m<=15->f.lv<=5->f.ov ws->
 (∀(r:Rd) S',r.lv=m->r.sm->r.is p (p+(m:Nat)) f->r.ov ws->Deck d c S'->Ex [d,c] S S'->Q r.pv S')->sp [.ref d,.ref b,f.pv,.int p,.int (m:Nat)] S E Q
theorem z1x{T N O W:Nat->Den}(hT:∀n,T (n+1)=fnP 5 11 (q5g (N n) (O n) (W n) (T n)))(hN:∀n,20<=n->z5i (N n))(hO:∀n,20<=n->z5h (O n) 18)(hW:∀n,20<=n->y8m (W n) 18):∀(n m:Nat),m+20<=n->1<=m->z5f (T n) m
 |0,m,hn,hm=>by omega
 |n+1,m,hn,hm=>by
  intro d c b ws f p S E Q hd hb hne nd nc hg hlv hov h
  have hfd:=f.dp_lv
  rw[hT]
  refine⟨rfl,?_⟩
  unfold q5g
  have p2:2<=sizeLine:=big (by decide)
  have p3:3<=sizeLine:=big (by decide)
  refine seqI fun K hK=>?_
  dsimp![true_and]
  refine ite2 (fun z=>⟨p3,?_⟩) (fun z=>hK _ _ ?_)
  ·obtain rfl:m=1:=by omega
   exact h (.w p f) S rfl hlv ⟨rfl,rfl,rfl⟩ hov hd (Ex.refl _ _)
  clear hK
  have hmm:(0:Int)<(m:Int)-1:=by omega
  refine seqI fun K hK=>?_
  dsimp![true_and]
  refine hN n (by omega) d c _ _ _ hd fun n1 S1 _ _ hd1 hx1=>?_
  dsimp![true_and]
  obtain⟨k,hk,hk1,hk2⟩:∃k:Nat,1+n1 % ((m:Int)-1)=(k:Int)/\1<=k/\k<m:=by
   have a:=Int.emod_nonneg n1 (show(m:Int)-1≠0 by omega)
   have b:=Int.emod_lt_of_pos n1 hmm
   exact⟨(1+n1 % ((m:Int)-1)).toNat,by omega,by omega,by omega⟩
  refine⟨hmm,hK _ _ ?_⟩
  rw[hk]
  clear hK
  refine seqI fun K hK=>?_
  dsimp![true_and]
  refine hN n (by omega) d c _ _ _ hd1 fun n2 S2 _ _ hd2 hx2=>hK _ _ ?_
  clear hK
  have hb2:=(hx1.trans hx2).get hb (by simp;exact⟨nd,nc⟩)
  refine seqI fun K hK=>?_
  dsimp![true_and]
  refine hO n (by omega) d c b ws f _ _ _ hd2 hb2 hne nd nc (by omega) fun o S3 ho ho1 hoo hd3 hx3=>hK _ _ ?_
  clear hK
  have hb3:=hx3.get hb2 (by simp;exact⟨nd,nc⟩)
  have hx123:=(hx1.trans hx2).trans hx3
  clear hx1 hx2 hx3 hd1 hd2 hb2
  have hop:=o.lv_pos
  have last:∀(s:Sg)(x y:Fm),md x y=some (s.st,f)->x.lv<=5->y.lv<=5->x.ov ws->y.ov ws->(wSeq (wSet 10 (q0t (T n) (q0d (wVar 0) (q0d (wVar 1) (q0d (wBin bIx (wVar 9) (wC (.int 0))) (q0d (wVar 3) (q0d (wVar 5) wNil)))))))
 (wRet (wTup (q0d (wVar 8) (q0d (wVar 10) (q0d (q0t (T n) (q0d (wVar 0) (q0d (wVar 1) (q0d (wBin bIx (wVar 9) (wC (.int 1))) (q0d (wBin bAdd (wVar 3) (wVar 5)) (q0d (wBin bSub (wVar 4) (wVar 5)) wNil)))))) wNil)))))) {nx:=fun _ S'=>Q .non S',rt:=Q} E [some (.ref d),some (.ref b),some f.pv,some (.int p),some (.int (m:Nat)),some (.int (k:Nat)),some (.int n2),some o.pv,some (.str s.st),some (.tup [x.pv,y.pv]),none] S3:=by
   intro s x y hmd hx hy hxo hyo
   refine seqI fun K hK=>?_
   dsimp![y9c]
   refine z1x hT hN hO hW n k (by omega) hk1 d c b ws x p S3 _ _ hd3 hb3 hne nd nc (by omega) hx hxo fun l S4 hl1 hl2 hl3 hl4 hd4 hx4=>hK _ _ ?_
   have hb4:=hx4.get hb3 (by simp;exact⟨nd,nc⟩)
   dsimp![y1u]
   rw[show(m:Int)-(k:Int)=((m-k:Nat):Int) by omega]
   refine z1x hT hN hO hW n (m-k) (by omega) (by omega) d c b ws y (p+k) S4 _ _ hd4 hb4 hne nd nc (by omega) hy hyo fun r S5 hr1 hr2 hr3 hr4 hd5 hx5=>?_
   refine⟨p3,?_⟩
   rw[y8y]
   refine h (.n s l r) S5 (by simp only[Rd.lv];omega) ⟨hl2,hr2⟩ ⟨_,x,y,hl3,?_,hmd⟩ ⟨hl4,hr4⟩ hd5 (hx123.trans (hx4.trans hx5))
   rw[show p+(m:Int)=p+(k:Int)+((m-k:Nat):Int) by omega]
   exact hr3
  have third:∀(s:Sg)(x y:Fm),md x y=some (s.st,f)->((x.lv<=5/\y.lv<=5)\/(4<f.lv/\∃u v,f=.n true u v))->x.ov ws->y.ov ws->(wSeq (wIfS (wAnd (q0w (wBin cEq (wBin bIx (wVar 2) (wC (.int 0))) (wC (.str "\\")))) (wOr (q0w (wBin cGt (wBin bMod (wVar 6) (wC (.int 8))) (wC (.int 1)))) (q0w (wBin cGt (q0t (W n) (q0d (wVar 2) wNil)) (wC (.int 4))))))
 (wSeq (wSet 8 (wC (.str "<<")))
 (wSet 9 (wTup (q0d (wTup (q0d (wC (.str "\\")) (q0d (wVar 7) (q0d (wBin bIx (wVar 2) (wC (.int 2))) wNil)))) (q0d (wTup (q0d (wC (.str "\\")) (q0d (wBin bIx (wVar 2) (wC (.int 1))) (q0d (wVar 7) wNil)))) wNil)))))
 q1i)
 (wSeq (wSet 10 (q0t (T n) (q0d (wVar 0) (q0d (wVar 1) (q0d (wBin bIx (wVar 9) (wC (.int 0))) (q0d (wVar 3) (q0d (wVar 5) wNil)))))))
 (wRet (wTup (q0d (wVar 8) (q0d (wVar 10) (q0d (q0t (T n) (q0d (wVar 0) (q0d (wVar 1) (q0d (wBin bIx (wVar 9) (wC (.int 1))) (q0d (wBin bAdd (wVar 3) (wVar 5)) (q0d (wBin bSub (wVar 4) (wVar 5)) wNil)))))) wNil))))))) {nx:=fun _ S'=>Q .non S',rt:=Q} E [some (.ref d),some (.ref b),some f.pv,some (.int p),some (.int (m:Nat)),some (.int (k:Nat)),some (.int n2),some o.pv,some (.str s.st),some (.tup [x.pv,y.pv]),none] S3:=by
   intro s x y hmd hxy hxo hyo
   refine seqI fun K hK=>?_
   cases f with
   |b t=>
    obtain⟨hx,hy⟩:=hxy.resolve_right (by rintro⟨_,u,v,e⟩;cases e)
    dsimp![fb0,ba_b];exact hK _ _ (last s x y hmd hx hy hxo hyo)
   |n l u v=>
    cases l with
    |false=>
     obtain⟨hx,hy⟩:=hxy.resolve_right (by rintro⟨_,u,v,e⟩;cases e)
     dsimp![fn0,y5j];exact hK _ _ (last s x y hmd hx hy hxo hyo)
    |true=>
     have hb5:o.lv+v.lv<=5/\u.lv+o.lv<=5:=by
      simp only[Fm.lv]at hlv ho1
      have:=u.lv_pos
      have:=v.lv_pos
      rcases Nat.lt_or_ge 3 (u.lv+v.lv)with z|z
      ·have:=ho1 z;omega
      ·omega
     have l1:=hK _ _ (last .d (.n true o v) (.n true u o) (md4 u o v) (by simp only[Fm.lv];exact hb5.1) (by simp only[Fm.lv];exact hb5.2) ⟨hoo,hov.2⟩ ⟨hov.1,hoo⟩)
     dsimp![wSeq,fn0,fn1,fn2,y5i]
     refine⟨by decide,ite2 (fun _=>⟨p3,p3,p2,l1⟩) (fun _=>?_)⟩
     refine hW n (by omega) _ (by omega) _ _ _ ?_
     dsimp![true_and]
     refine ite2 (fun _=>⟨p3,p3,p2,l1⟩) (fun zw=>?_)
     obtain⟨hx,hy⟩:=hxy.resolve_right (fun hh1=>by obtain⟨h4,_⟩:=hh1;exact(zw (by omega)))
     exact hK _ _ (last s x y hmd hx hy hxo hyo)
  refine seqI fun K hK=>?_
  dsimp![true_and]
  refine hK _ _ ?_
  clear hK
  refine seqI fun K hK=>?_
  dsimp![true_and]
  refine⟨p3,p2,hK _ _ ?_⟩
  clear hK
  have second:∀(s:Sg)(x y:Fm),md x y=some (s.st,f)->((x.lv<=5/\y.lv<=5)\/(4<f.lv/\∃l u v,f=.n l u v))->x.ov ws->y.ov ws->(wSeq (wIfS (wAnd (q0w (wBin cEq (wBin bIx (wVar 2) (wC (.int 0))) (wC (.str "/")))) (wOr (q0w (wBin cGt (wBin bMod (wVar 6) (wC (.int 8))) (wC (.int 1)))) (q0w (wBin cGt (q0t (W n) (q0d (wVar 2) wNil)) (wC (.int 4))))))
 (wSeq (wSet 8 (wC (.str ">>")))
 (wSet 9 (wTup (q0d (wTup (q0d (wC (.str "/")) (q0d (wBin bIx (wVar 2) (wC (.int 1))) (q0d (wVar 7) wNil)))) (q0d (wTup (q0d (wC (.str "/")) (q0d (wVar 7) (q0d (wBin bIx (wVar 2) (wC (.int 2))) wNil)))) wNil)))))
 q1i)
 (wSeq (wIfS (wAnd (q0w (wBin cEq (wBin bIx (wVar 2) (wC (.int 0))) (wC (.str "\\")))) (wOr (q0w (wBin cGt (wBin bMod (wVar 6) (wC (.int 8))) (wC (.int 1)))) (q0w (wBin cGt (q0t (W n) (q0d (wVar 2) wNil)) (wC (.int 4))))))
 (wSeq (wSet 8 (wC (.str "<<")))
 (wSet 9 (wTup (q0d (wTup (q0d (wC (.str "\\")) (q0d (wVar 7) (q0d (wBin bIx (wVar 2) (wC (.int 2))) wNil)))) (q0d (wTup (q0d (wC (.str "\\")) (q0d (wBin bIx (wVar 2) (wC (.int 1))) (q0d (wVar 7) wNil)))) wNil)))))
 q1i)
 (wSeq (wSet 10 (q0t (T n) (q0d (wVar 0) (q0d (wVar 1) (q0d (wBin bIx (wVar 9) (wC (.int 0))) (q0d (wVar 3) (q0d (wVar 5) wNil)))))))
 (wRet (wTup (q0d (wVar 8) (q0d (wVar 10) (q0d (q0t (T n) (q0d (wVar 0) (q0d (wVar 1) (q0d (wBin bIx (wVar 9) (wC (.int 1))) (q0d (wBin bAdd (wVar 3) (wVar 5)) (q0d (wBin bSub (wVar 4) (wVar 5)) wNil)))))) wNil)))))))) {nx:=fun _ S'=>Q .non S',rt:=Q} E [some (.ref d),some (.ref b),some f.pv,some (.int p),some (.int (m:Nat)),some (.int (k:Nat)),some (.int n2),some o.pv,some (.str s.st),some (.tup [x.pv,y.pv]),none] S3:=by
   intro s x y hmd hxy hxo hyo
   refine seqI fun K hK=>?_
   cases f with
   |b t=>
    have hxy':=hxy.resolve_right (by rintro⟨_,l,u,v,e⟩;cases e)
    dsimp![fb0,ba_f];exact hK _ _ (third s x y hmd (.inl hxy') hxo hyo)
   |n l u v=>
    cases l with
    |true=>
     have hxy':((x.lv<=5/\y.lv<=5)\/(4<(Fm.n true u v).lv/\∃u' v',Fm.n true u v=.n true u' v')):=hxy.imp id fun z=>⟨z.1,u,v,rfl⟩
     dsimp![fn0,x0o];exact hK _ _ (third s x y hmd hxy' hxo hyo)
    |false=>
     have hb5:o.lv+v.lv<=5/\u.lv+o.lv<=5:=by
      simp only[Fm.lv]at hlv ho1
      have:=u.lv_pos
      have:=v.lv_pos
      rcases Nat.lt_or_ge 3 (u.lv+v.lv)with z|z
      ·have:=ho1 z;omega
      ·omega
     have l1:=hK _ _ (third .c (.n false u o) (.n false o v) (md3 u o v) (.inl ⟨by simp only[Fm.lv];exact hb5.2,by simp only[Fm.lv];exact hb5.1⟩) ⟨hov.1,hoo⟩ ⟨hoo,hov.2⟩)
     dsimp![wSeq,fn0,fn1,fn2,x0q]
     refine⟨by decide,ite2 (fun _=>⟨p3,p3,p2,l1⟩) (fun _=>?_)⟩
     refine hW n (by omega) _ (by omega) _ _ _ ?_
     dsimp![true_and]
     refine ite2 (fun _=>⟨p3,p3,p2,l1⟩) (fun zw=>?_)
     have hxy':=hxy.resolve_right (fun hh2=>by obtain⟨h4,_⟩:=hh2;exact(zw (by omega)))
     exact hK _ _ (third s x y hmd (.inl hxy') hxo hyo)
  have top:(f.lv+o.lv<=5)\/(4<f.lv/\∃l u v,f=.n l u v):=by
   cases f with
   |b t=>left;simp only[Fm.lv];omega
   |n l u v=>
    rcases Nat.lt_or_ge 4 (Fm.n l u v).lv with z|z
    ·exact .inr ⟨z,l,u,v,rfl⟩
    ·left
     rcases Nat.lt_or_ge 3 (Fm.n l u v).lv with y|y
     ·have:=ho1 y;omega
     ·omega
  refine seqI fun K hK=>?_
  dsimp![wSeq]
  refine⟨by decide,ite2 (fun _=>⟨p3,p2,hK _ _ ?_⟩) (fun _=>hK _ _ ?_)⟩
  ·exact second .b o (.n true f o) (md2 f o) (top.imp (fun z=>⟨by omega,by simp only[Fm.lv];exact z⟩) id) hoo ⟨hov,hoo⟩
  ·exact second .a (.n false f o) o (md1 f o) (top.imp (fun z=>⟨by simp only[Fm.lv];exact z,by omega⟩) id) ⟨hov,hoo⟩ hoo
def q3h(spLwithin:Den):WS:=
 (wRet (q5c (q5n (q0t spLwithin (q0d (wVar 0) wNil))) [none] (q0z 0) (q0w (wBin cEq (wBin bIx (wVar 0) (wC (.int 0))) (wC (.str "word")))) (wSl (wVar 0) (z1s (wC (.int 1))) q5y)))
def q2h(spform_and_term:Den)(spmade:Den)(spmeant:Den):WS:=
 (wSeq (wIfS (q0w (wBin cEq (wBin bIx (wVar 0) (wC (.int 0))) (wC (.str "word"))))
 (wRet (wTup (q0d (wBin bIx (wVar 0) (wC (.int 2))) (q0d (wBin bIx (wVar 1) (wBin bIx (wVar 0) (wC (.int 1)))) wNil))))
 q1i)
 (wSeq (wAsg (q0t spform_and_term (q0d (wBin bIx (wVar 0) (wC (.int 1))) (q0d (wVar 1) wNil))) (q4e 2 (q1e (q0z 2) (q1e (q0z 3) q4j))))
 (wSeq (wAsg (q0t spform_and_term (q0d (wBin bIx (wVar 0) (wC (.int 2))) (q0d (wVar 1) wNil))) (q4e 2 (q1e (q0z 4) (q1e (q0z 5) q4j))))
 (wSeq (wAsg (q0t spmade (q0d (wVar 2) (q0d (wVar 4) wNil))) (q4e 2 (q1e (q0z 6) (q1e (q0z 7) q4j))))
 (wRet (wTup (q0d (wVar 7) (q0d (q0t spmeant (q0d (wVar 6) (q0d (wVar 2) (q0d (wVar 4) (q0d (wVar 3) (q0d (wVar 5) wNil)))))) wNil))))))))
def q2m(spform_and_term:Den):WS:=
 (wRet (wBin bIx (q0t spform_and_term (q0d (wVar 0) (q0d (wVar 1) wNil))) (wC (.int 1))))
def q3l(spwords_of:Den):WS:=
 (wSeq (wIfS (q0w (wBin cEq (wBin bIx (wVar 0) (wC (.int 0))) (wC (.str "word"))))
 (wRet (wLst (q0d (wTup (q0d (wBin bIx (wVar 0) (wC (.int 1))) (q0d (wBin bIx (wVar 0) (wC (.int 2))) wNil))) wNil)))
 q1i)
 (wRet (wBin bAdd (q0t spwords_of (q0d (wBin bIx (wVar 0) (wC (.int 1))) wNil)) (q0t spwords_of (q0d (wBin bIx (wVar 0) (wC (.int 2))) wNil)))))
def q3w(spmeaning_with:Den)(spwords_of:Den):WS:=
 (wRet (q0t spmeaning_with (q0d (wVar 0) (q0d (z7c (q5n (q0t spwords_of (q0d (wVar 0) wNil))) [none,none] (q4e 2 (q1e (q0z 0) (q1e (q0z 1) q4j))) (wVar 0) (wTup (q0d (wC (.str "leaf")) (q0d (wVar 0) (q0d (wVar 1) wNil))))) wNil))))
def q4n(spLkind_of_form:Den):WS:=
 (wSeq (wIfS (q0w (wBin cEq (wBin bIx (wVar 0) (wC (.int 0))) (wC (.str "basic"))))
 (wRet (wBin bIx (wVar 0) (wC (.int 1))))
 q1i)
 (wRet (wTup (q0d (q0t spLkind_of_form (q0d (wBin bIx (wVar 0) (wC (.int 2))) wNil)) (q0d (q0t spLkind_of_form (q0d (wBin bIx (wVar 0) (wC (.int 1))) wNil)) wNil)))))
def q3x:WS:=
 (wSeq (wSet 2 (q5c (q5n (wBin bIx (wVar 0) (wC (.int 2)))) [none,none,none,some 1] (q4e 3 (q1e (q0z 0) (q1e (q0z 1) (q1e (q0z 2) q4j)))) (q0w (wBin cEq (wVar 0) (wVar 3))) (wTup (q0d (wVar 1) (q0d (wVar 2) wNil)))))
 (wSeq (wIfS (wNot (wTru (wVar 2)))
 z3g
 q1i)
 (wRet (wVar 2))))
def Fm.k:Fm->KTr
 |.b s=>.tup [.str "basic",.str s]
 |.n l x y=>.tup [.str (sSl l),x.k,y.k]
def wk(p:Int×Fm):KTr:=.tup [.int p.1,p.2.k]
def mdI(x y g:Fm):Sg->Prop
 |.a=>x=.n false g y
 |.b=>y=.n true g x
 |.c=>∃u v z,x=.n false u v/\y=.n false v z/\g=.n false u z
 |.d=>∃u v z,x=.n true v z/\y=.n true u v/\g=.n true u z
theorem q7d{s:Sg}{x y g:Fm}(h:md x y=some (s.st,g)):mdI x y g s:=by
 have key:∀{t:Sg}{f:Fm},some (t.st,f)=some (s.st,g)->t=s/\f=g:=fun e=>by
  simp only[Option.some.injEq,Prod.mk.injEq]at e
  exact⟨y0o.mp e.1,e.2⟩
 unfold md at h
 cases e:mdL x y with
 |some p=>
  rw[e]at h
  unfold mdL at e
  split at e
  ·rename_i u v
   split at e
   ·rename_i hv
    subst hv
    cases e
    obtain⟨rfl,rfl⟩:=key (t:=.a) h
    exact rfl
   ·split at e
    ·rename_i v' z _
     split at e
     ·rename_i hv
      subst hv
      cases e
      obtain⟨rfl,rfl⟩:=key (t:=.c) h
      exact⟨_,_,_,rfl,rfl,rfl⟩
     ·cases e
    ·cases e
  ·cases e
 |none=>
  rw[e]at h
  have h:mdR x y=some (s.st,g):=h
  unfold mdR at h
  split at h
  ·rename_i u v
   split at h
   ·rename_i hv
    subst hv
    obtain⟨rfl,rfl⟩:=key (t:=.b) h
    exact rfl
   ·split at h
    ·rename_i v' z _
     split at h
     ·rename_i hv
      subst hv
      obtain⟨rfl,rfl⟩:=key (t:=.d) h
      exact⟨_,_,_,rfl,rfl,rfl⟩
     ·cases h
    ·cases h
  ·cases h
def Fm.arg:Fm->Fm
 |.n _ _ z=>z
 |f=>f
def Fm.res:Fm->Fm
 |.n _ x _=>x
 |f=>f
def Rd.fm:Rd->Fm
 |.w _ f=>f
 |.n .a l _=>l.fm.res
 |.n .b _ r=>r.fm.res
 |.n .c l r=>.n false l.fm.res r.fm.arg
 |.n .d l r=>.n true r.fm.res l.fm.arg
def Rd.tm(L:Int×Fm->PV):Rd->PV
 |.w i f=>L (i,f)
 |.n .a l r=>ofP (l.tm L) (r.tm L)
 |.n .b l r=>ofP (r.tm L) (l.tm L)
 |.n .c l r=>jnP r.fm.arg (l.tm L) (r.tm L)
 |.n .d l r=>jnP l.fm.arg (r.tm L) (l.tm L)
theorem z1b:∀{r:Rd}{a b:Int}{g:Fm},r.is a b g->r.fm=g
 |.w i f,a,b,g,⟨_,_,e⟩=>e
 |.n s l r,a,b,g,⟨k,x,y,h1,h2,h3⟩=>by
  have e1:=z1b h1
  have e2:=z1b h2
  have:=q7d h3
  cases s with
  |a=>rw[show x=_ from this]at e1;simp only[Rd.fm,e1,Fm.res]
  |b=>rw[show y=_ from this]at e2;simp only[Rd.fm,e2,Fm.res]
  |c=>obtain⟨u,v,z,rfl,rfl,rfl⟩:=this;simp only[Rd.fm,e1,e2,Fm.res,Fm.arg]
  |d=>obtain⟨u,v,z,rfl,rfl,rfl⟩:=this;simp only[Rd.fm,e1,e2,Fm.res,Fm.arg]
theorem z4j:∀{r:Rd}{a b:Int}{g:Fm},r.is a b g->r.sm->g.dp<=5
 |.w i f,a,b,g,⟨_,_,e⟩,h=>by subst e;exact Nat.le_trans f.dp_lv h
 |.n s l r,a,b,g,⟨k,x,y,h1,h2,h3⟩,h=>by
  have:=z4j h1 h.1
  have:=z4j h2 h.2
  have:=x6z h3
  omega
def Rd.ws:Rd->List (Int×Fm)
 |.w i f=>[(i,f)]
 |.n _ l r=>l.ws++r.ws
theorem q7s:∀r:Rd,r.ws.length=r.lv
 |.w _ _=>rfl
 |.n _ l r=>by simp only[Rd.ws,Rd.lv,List.length_append,q7s l,q7s r]
theorem z1q:∀{r:Rd}{p:Int×Fm},r.sm->p∈r.ws->p.2.lv<=5
 |.w i f,p,h,hp=>by simp only[Rd.ws,List.mem_singleton]at hp;subst hp;exact h
 |.n s l r,p,h,hp=>by
  rcases List.mem_append.mp hp with z|z
  ·exact z1q h.1 z
  ·exact z1q h.2 z
theorem y4r:∀{r:Rd}{a b:Int}{g:Fm},r.is a b g->a<=b/\(∀p∈r.ws,a<=p.1/\p.1<b)/\(r.ws.map (·.1)).Nodup
 |.w i f,a,b,g,⟨e1,e2,_⟩=>by
  subst e1 e2
  simp only[Rd.ws,List.mem_singleton,List.map_cons,List.map_nil,List.nodup_cons,List.not_mem_nil,not_false_eq_true,List.nodup_nil,and_true]
  exact⟨by omega,by rintro p rfl;exact⟨Int.le_refl _,by show i<i+1;omega⟩⟩
 |.n s l r,a,b,g,⟨k,x,y,h1,h2,_⟩=>by
  obtain⟨a1,a2,a3⟩:=y4r h1
  obtain⟨b1,b2,b3⟩:=y4r h2
  simp only[Rd.ws,List.mem_append,List.map_append,List.nodup_append]
  refine⟨by omega,?_,a3,b3,?_⟩
  ·rintro p (h|h)
   ·have:=a2 p h;omega
   ·have:=b2 p h;omega
  ·intro i hi j hj e
   obtain⟨p,hp,rfl⟩:=List.mem_map.mp hi
   obtain⟨q,hq,rfl⟩:=List.mem_map.mp hj
   have:=a2 p hp
   have:=b2 q hq
   omega
def encW(p:Int×Fm):PV:=.tup [.int p.1,p.2.pv]
theorem x0b:∀{r t:Rd},t∈r.wi->∀p∈t.ws,p∈r.ws
 |.w i f,t,ht=>by simp only[Rd.wi,List.mem_singleton]at ht;subst ht;exact fun p h=>h
 |.n s l r,t,ht=>by
  simp only[Rd.wi,List.mem_cons,List.mem_append]at ht
  rcases ht with rfl|ht|ht
  ·exact fun p h=>h
  ·exact fun p h=>List.mem_append_left _ (x0b ht p h)
  ·exact fun p h=>List.mem_append_right _ (x0b ht p h)
theorem q5q(p:Key×PV)(r:List (Key×PV))(k:Key):valP (p::r) k=if p.1=k then some p.2 else valP r k:=by
 unfold valP
 rw[List.find?_cons]
 by_cases h:p.1=k
 ·rw[if_pos h,decide_eq_true h];rfl
 ·rw[if_neg h,decide_eq_false h]
theorem z8r(kvs:List (Key×PV))(k k':Key)(v:PV)(h:k'≠k):valP (putP kvs k v) k'=valP kvs k':=by
 have hk:¬k=k':=fun z=>h z.symm
 unfold putP
 split
 ·rename_i hh
  clear hh
  induction kvs with
  |nil=>rfl
  |cons p r ih=>
   rw[List.map_cons,q5q,q5q]
   by_cases z:p.1=k
   ·have:¬p.1=k':=by rw[z];exact hk
    rw[if_pos z,if_neg this,if_neg this,ih]
   ·rw[if_neg z,ih]
 ·rename_i hh
  clear hh
  induction kvs with
  |nil=>simp[valP,hk]
  |cons p r ih=>rw[List.cons_append,q5q,q5q];simp_all
theorem y0h(kvs:List (Key×PV))(k:Key)(v:PV):valP (putP kvs k v) k=some v:=by
 unfold putP
 split
 ·rename_i h
  induction kvs with
  |nil=>simp at h
  |cons p r ih=>
   rw[List.map_cons,q5q]
   by_cases z:p.1=k
   ·simp[z]
   ·rw[if_neg z,if_neg z]
    refine ih ?_
    rw[List.any_cons,decide_eq_false z,Bool.false_or]at h
    exact h
 ·rename_i h
  induction kvs with
  |nil=>simp[valP]
  |cons p r ih=>
   rw[List.cons_append,q5q]
   simp_all
theorem y6a(kvs:List (Key×PV))(k:Key)(v:PV):(putP kvs k v).length<=kvs.length+1:=by
 unfold putP
 split<;>simp
theorem dcI{chk:q0i->Prop}{g:WG}{wk wv:WE}{d:Nat}{Q:VC}(P:List PV->Ev.Loc->q0i->Prop)(hn:∀σ S,P [] σ S->chk S/\Q (.ref d) S)
  (hc:∀x r σ S,P (x::r) σ S->∀N:Ev.Loc->q0i->Prop,(∀σ S,P r σ S->N σ S)->chk S/\g x σ S NoX fun σ2 S2=>wk σ2 S2 NoX fun k S3=>wv σ2 S3 NoX fun v S4=>∃kvs kk,S4[d]?=some (.dK kvs)/\z2u k=some kk/\kvs.length<sizeLine/\N σ2 (S4.set d (.dK (putP kvs kk v)))):∀(xs:List PV)(σ:Ev.Loc)(S:q0i),P xs σ S->dcGo chk g wk wv d Q xs σ S
 |[],σ,S,h=>hn σ S h
 |x::r,σ,S,h=>⟨(hc x r σ S h (P r) fun _ _ z=>z).1,P r,fun σ' S' q=>dcI P hn hc r σ' S' q,(hc x r σ S h (P r) fun _ _ z=>z).2⟩
def WoD(sp:Den)(n:Nat):Prop:=∀(r:Rd),r.lv<=n->∀(S:q0i)(E:EK)(Q:VC),(∀(q:Nat) S',S.length<=q->S'[q]?=some (.lst (r.ws.map encW))->Ex [] S S'->Q (.ref q) S')->sp [r.pv] S E Q
theorem y9z{T:Nat->Den}(hT:∀n,T (n+1)=fnP 1 1 (q3l (T n))):∀(n:Nat),n<=1000->WoD (T (n+1)) n
 |0,_=>fun r hr=>by have:=r.lv_pos;omega
 |n+1,hn=>by
  intro r hr S E Q h
  rw[hT]
  refine⟨rfl,?_⟩
  unfold q3l
  cases r with
  |w i f=>
   dsimp![wSeq,rd0,z6r,rw1,rw2]
   exact⟨big (by decide),big (by decide),h _ _ (Nat.le_refl _) (q1g _ _) (Ex.new _ _ _)⟩
  |n s l r=>
   have wl:=q7s l
   have wr:=q7s r
   simp only[Rd.lv]at hr
   have:=l.lv_pos
   have:=r.lv_pos
   dsimp![wSeq,rd0,hd_w,rn1,rn2]
   refine y9z hT n (by omega) l (by omega) _ _ _ fun q S1 hq0 hq hx1=>?_
   refine y9z hT n (by omega) r (by omega) _ _ _ fun q2 S2 hq20 hq2 hx2=>?_
   have a1:=hx2.get hq (by simp)
   dsimp![q1f a1,q1f hq2]
   refine⟨by simp only[List.length_map];exact big (by omega),?_⟩
   have ex:Ex [] S S2:=hx1.trans hx2
   refine h _ _ ex.1 ?_ (ex.app _)
   rw[q1g,Rd.ws,List.map_append]
def FtD(L:Int×Fm->PV)(sp:Den)(n:Nat):Prop:=∀(r:Rd)(a b:Int)(g:Fm),r.is a b g->r.sm->r.lv<=n->∀(t:Nat)(kvs:List (Key×PV))(S:q0i)(E:EK)(Q:VC),S[t]?=some (.dK kvs)->(∀p∈r.ws,valP kvs (.inl p.1)=some (L p))->Q (.tup [g.pv,r.tm L]) S->sp [r.pv,.ref t] S E Q
theorem x3e{L:Int×Fm->PV}{T M N:Nat->Den}(hT:∀n,T (n+1)=fnP 2 8 (q2h (T n) (M n) (N n)))(hM:∀n,20<=n->y8p (M n))(hN:∀n,20<=n->MeantD (N n) 10):∀(n m:Nat),m+21<=n->FtD L (T n) m
 |0,m,h=>by omega
 |n+1,m,hnm=>by
  intro r a b g his hsm hr t kvs S E Q ht hv h
  rw[hT]
  refine⟨rfl,?_⟩
  unfold q2h
  have p2:2<=sizeLine:=big (by decide)
  cases r with
  |w i f=>
   obtain⟨rfl,rfl,rfl⟩:=his
   have hv1:=hv (i,f) (by simp[Rd.ws])
   dsimp![wSeq,rd0,z6r,rw1,rw2,ht,hv1]
   exact⟨p2,h⟩
  |n s l r=>
   obtain⟨k,x,y,h1,h2,h3⟩:=his
   simp only[Rd.lv]at hr
   have:=l.lv_pos
   have:=r.lv_pos
   have hx:=z4j h1 hsm.1
   have hy:=z4j h2 hsm.2
   have e1:=z1b h1
   have e2:=z1b h2
   refine seqI fun K hK=>?_
   dsimp![rd0,hd_w]
   refine hK _ _ ?_
   clear hK
   refine seqI fun K hK=>?_
   dsimp![rn1]
   refine x3e hT hM hN n (m-1) (by omega) l a k x h1 hsm.1 (by omega) t kvs S _ _ ht (fun p hp=>hv p (by simp[Rd.ws,hp])) ?_
   dsimp![true_and]
   refine hK _ _ ?_
   clear hK
   refine seqI fun K hK=>?_
   dsimp![rn2]
   refine x3e hT hM hN n (m-1) (by omega) r k b y h2 hsm.2 (by omega) t kvs S _ _ ht (fun p hp=>hv p (by simp[Rd.ws,hp])) ?_
   dsimp![true_and]
   refine hK _ _ ?_
   clear hK
   refine seqI fun K hK=>?_
   dsimp![true_and]
   refine hM n (by omega) x y _ _ _ (by omega) (by omega) ?_
   rw[h3]
   dsimp![mdP]
   refine hK _ _ ?_
   clear hK
   have hi:=q7d h3
   have H:=hN n (by omega)
   cases s with
   |a=>
    dsimp![true_and]
    exact H.a _ _ _ _ _ _ _ ⟨p2,h⟩
   |b=>
    dsimp![true_and]
    exact H.b _ _ _ _ _ _ _ ⟨p2,h⟩
   |c=>
    obtain⟨u,v,z,rfl,rfl,rfl⟩:=hi
    simp only[Rd.tm,e2,Fm.arg]at h
    simp only[Fm.dp]at hy
    dsimp![true_and]
    exact H.c _ _ _ _ _ _ _ _ _ (by omega) ⟨p2,h⟩
   |d=>
    obtain⟨u,v,z,rfl,rfl,rfl⟩:=hi
    simp only[Rd.tm,e1,Fm.arg]at h
    simp only[Fm.dp]at hx
    dsimp![true_and]
    exact H.d _ _ _ _ _ _ _ _ _ (by omega) ⟨p2,h⟩
def Rd.one:Rd->Option (Int×Fm)
 |.w i f=>some (i,f)
 |_=>none
theorem y0d:∀r:Rd,r.wi.filterMap Rd.one=r.ws
 |.w i f=>rfl
 |.n s l r=>by rw[Rd.wi,List.filterMap_cons_none rfl,List.filterMap_append,y0d l,y0d r];rfl
theorem cut3(a b c:PV):cutP [a,b,c] (some 1) none=[b,c]:=rfl
theorem w0g(a b c:PV):¬(HT.sIx [a,b,c].length 0 (some 1)=0/\HT.sIx [a,b,c].length [a,b,c].length none=[a,b,c].length):=by
 rintro⟨h,_⟩
 exact absurd (show(1:Nat)=0 from h) (by decide)
theorem x5b(i:Int)(f:Fm):(Rd.w i f).pv=PV.tup [.str z3o,.int i,f.pv]:=rfl
theorem w0h{sp:Den}(hp:WiD sp 10):WoD (fnP 1 1 (q3h sp)) 10:=by
 intro r hr S E Q h
 refine⟨rfl,?_⟩
 unfold q3h
 dsimp![true_and]
 refine hp r hr _ _ _ fun q S1 hq0 hq hx=>?_
 have hwl:=q9y r
 dsimp![q0v hq]
 refine⟨by rw[List.length_map];exact big (by omega),?_⟩
 refine z3a (fun rest ys σ S2=>∃(ts us:List Rd)(j1:Option PV),rest=ts.map Rd.pv/\σ=[j1]/\S2=S1/\ys=(us.filterMap Rd.one).map encW/\us++ts=r.wi) ?_ ?_ _ _ _ _ ⟨r.wi,[],none,rfl,rfl,rfl,rfl,rfl⟩
 ·rintro ys σ S2 ⟨ts,us,j1,hr',rfl,rfl,rfl,e⟩
  obtain rfl:ts=[]:=by cases ts with
   |nil=>rfl
   |cons a b=>simp at hr'
  rw[List.append_nil]at e
  refine⟨q0v hq,h _ _ hx.1 ?_ (hx.app _)⟩
  rw[q1g,e,y0d]
 ·rintro x rest ys σ S2 ⟨ts,us,j1,hr',rfl,rfl,rfl,e⟩ N hN
  obtain⟨t,ts,rfl⟩:∃p r,ts=p::r:=by
   cases ts with
   |nil=>simp at hr'
   |cons a b=>exact⟨a,b,rfl⟩
  simp only[List.map_cons,List.cons.injEq]at hr'
  obtain⟨rfl,rfl⟩:=hr'
  refine⟨q0v hq,?_⟩
  cases t with
  |n s l r=>
   dsimp![rd0,hd_w]
   exact hN _ _ _ ⟨ts,us++[.n s l r],_,rfl,rfl,rfl,by rw[List.filterMap_append,List.filterMap_cons_none rfl];simp,by simp[<-e]⟩
  |w i f=>
   have:=hN _ _ _ ⟨ts,us++[.w i f],some (Rd.w i f).pv,rfl,rfl,rfl,rfl,by simp[<-e]⟩
   rw[List.filterMap_append,List.map_append]at this
   dsimp![rd0,z6r]
   rw[x5b]
   refine⟨w0g _ _ _,?_⟩
   rw[cut3]
   exact this
def Sg.ab:Sg->Bool
 |.a=>true
 |.b=>true
 |_=>false
mutual
def plV:PV->Bool
 |.str _=>true
 |.int _=>true
 |.tup xs=>plVs xs&&decide (xs.length<=10)
 |_=>false
def plVs:List PV->Bool
 |[]=>true
 |x::xs=>plV x&&plVs xs
end
theorem y9r(f:Fm):f.arg.dp<=f.dp:=by
 cases f with
 |b s=>exact Nat.le_refl _
 |n l x y=>simp only[Fm.arg,Fm.dp];omega
inductive Tm where
 |nm (w:Str)|lf (n:Int) (f:PV)|bd (k:Nat)|fn (k:PV) (t:Tm)|ap (f a:Tm)
def Tm.pv:Tm->PV
 |.nm w=>.tup [.str "name",.str w]
 |.lf n f=>.tup [.str "leaf",.int n,f]
 |.bd k=>.tup [.str "bound",.int k]
 |.fn k t=>.tup [.str "fn",k,t.pv]
 |.ap f a=>.tup [.str "of",f.pv,a.pv]
def Tm.sz:Tm->Nat
 |.fn _ t=>1+t.sz
 |.ap f a=>1+f.sz+a.sz
 |_=>1
def Tm.dp:Tm->Nat
 |.fn _ t=>t.dp+1
 |.ap f a=>max f.dp a.dp+1
 |_=>0
theorem tg1:(Str.ofString "name" = Str.ofString "fn")=False:=eq_false (by decide +kernel)
theorem tg2:(Str.ofString "name" = Str.ofString "of")=False:=eq_false (by decide +kernel)
theorem tg3:(Str.ofString "name" = Str.ofString "bound")=False:=eq_false (by decide +kernel)
theorem tg4:(Str.ofString "leaf" = Str.ofString "fn")=False:=eq_false (by decide +kernel)
theorem tg5:(Str.ofString "leaf" = Str.ofString "of")=False:=eq_false (by decide +kernel)
theorem tg6:(Str.ofString "leaf" = Str.ofString "bound")=False:=eq_false (by decide +kernel)
theorem tg7:(Str.ofString "bound" = Str.ofString "fn")=False:=eq_false (by decide +kernel)
theorem tg8:(Str.ofString "bound" = Str.ofString "of")=False:=eq_false (by decide +kernel)
theorem tg9:(Str.ofString "fn" = Str.ofString "of")=False:=eq_false (by decide +kernel)
theorem tga:(Str.ofString "fn" = Str.ofString "bound")=False:=eq_false (by decide +kernel)
theorem tgb:(Str.ofString "of" = Str.ofString "fn")=False:=eq_false (by decide +kernel)
theorem tgc:(Str.ofString "of" = Str.ofString "bound")=False:=eq_false (by decide +kernel)
theorem q8u(x y:PV)(xs:List PV):atI (x::y::xs) 1=some y:=q9w (x::y::xs) 1 (by simp)
theorem z5e(x y z:PV)(xs:List PV):atI (x::y::z::xs) 2=some z:=q9w (x::y::z::xs) 2 (by simp)
def encI(fs:List Nat):List PV:=fs.map fun x:Nat=>PV.int x
def enc(p:Tm×List Nat):PV:=.tup [p.1.pv,.tup (encI p.2)]
def q2x:Tm->List Nat->Nat->List (Tm×List Nat)
 |.fn k b,fs,i=>(.fn k b,fs)::q2x b (fs++[i]) (i+1)
 |.ap f a,fs,i=>(.ap f a,fs)::(q2x f fs (i+1)++q2x a fs (i+1+f.sz))
 |t,fs,_=>[(t,fs)]
def flat : List (Tm × List Nat) -> Nat -> List (Tm × List Nat)
 | [], _ => []
 | (t, fs) :: r, i => q2x t fs i ++ flat r (i + t.sz)
def szT : List (Tm × List Nat) -> Nat
 | [] => 0
 | (t, _) :: r => t.sz + szT r
theorem x4r:∀t:Tm,1<=t.sz
 |.nm _=>Nat.le_refl _
 |.lf _ _=>Nat.le_refl _
 |.bd _=>Nat.le_refl _
 |.fn _ _=>by simp only[Tm.sz];omega
 |.ap _ _=>by simp only[Tm.sz];omega
theorem y0l : ∀ st : List (Tm × List Nat), st.length <= szT st
 | [] => Nat.le_refl _
 | (t, _) :: r => by have := y0l r; have := x4r t; simp only [List.length_cons, szT]; omega
theorem q9n:∀(t:Tm)(fs:List Nat)(i:Nat),(q2x t fs i).length=t.sz
 |.nm _,_,_=>rfl
 |.lf _ _,_,_=>rfl
 |.bd _,_,_=>rfl
 |.fn _ b,fs,i=>by simp only[q2x,List.length_cons,q9n b,Tm.sz];omega
 |.ap f a,fs,i=>by simp only[q2x,List.length_cons,List.length_append,q9n f,q9n a,Tm.sz];omega
def z8o(sp:Den):Prop:=∀(t:Tm)(S:q0i)(E:EK)(Q:VC),t.sz<=1000->(∀(r:Nat) S',S'[r]?=some (.lst ((q2x t [] 0).map enc))->S.length<=r->Ex [] S S'->Q (.ref r) S')->sp [t.pv] S E Q
theorem tm3:∀x:Tm,(∃z rs,x.pv=.tup (.str z::rs)/\(z=Str.ofString "fn")=False/\(z=Str.ofString "of")=False/\x.sz=1/\∀fs i,q2x x fs i=[(x,fs)])\/(∃k b,x=.fn k b)\/∃f a,x=.ap f a
 |.nm _=>.inl ⟨_,_,rfl,tg1,tg2,rfl,fun _ _=>rfl⟩
 |.lf _ _=>.inl ⟨_,_,rfl,tg4,tg5,rfl,fun _ _=>rfl⟩
 |.bd _=>.inl ⟨_,_,rfl,tg7,tg8,rfl,fun _ _=>rfl⟩
 |.fn k b=>.inr (.inl ⟨k,b,rfl⟩)
 |.ap f a=>.inr (.inr ⟨f,a,rfl⟩)
theorem y6q:z8o (fnP 1 5 q2f):=by
 intro t S E Q hz h
 refine⟨rfl,?_⟩
 unfold q2f
 refine seqI fun K hK=>?_
 dsimp![true_and]
 refine⟨big (by decide),hK _ _ ?_⟩
 refine seqI fun K hK=>?_
 dsimp![true_and]
 refine⟨big (by decide),big (by decide),big (by decide),hK _ _ ?_⟩
 refine seqI fun K hK=>?_
 have hl1:(S++[SO.lst []]).length=S.length+1:=by simp
 refine q8v (fun m σ S1=>∃(st dn:List (Tm×List Nat))(j1 j2:Option PV),σ=[some t.pv,some (.ref S.length),some (.ref (S.length+1)),j1,j2]/\S1[S.length]?=some (.lst (dn.map enc))/\S1[S.length+1]?=some (.lst (st.reverse.map enc))/\Ex [] S S1/\
  dn++flat st dn.length=q2x t [] 0/\dn.length+szT st=t.sz/\(∀p∈st,p.2.length<=dn.length)/\m=szT st) (szT [(t,[])]) ?_ ?_
 ·exact⟨[(t,[])],[],none,none,by rw[hl1],q1m (q1g _ _) _,by rw[<-hl1];exact q1g _ _,(Ex.new _ _ _).app _,by simp[flat],by simp[szT],by simp,rfl⟩
 ·rintro m σ S1 ⟨st,dn,j1,j2,rfl,h1,h2,hx,hf,hb,hfl,rfl⟩ T F hT hF
  have hlen:=y0l st
  dsimp![h2]
  refine ite2 (fun c=>?_) (fun c=>?_)
  ·obtain⟨⟨x,fs⟩,r,rfl⟩:∃x r,st=x::r:=by
    cases st with
    |nil=>simp at c
    |cons a b=>exact⟨a,b,rfl⟩
   refine hT _ fun N hN=>?_
   refine seqI fun K2 hK2=>?_
   have hfs:fs.length<=dn.length:=hfl (x,fs) (by simp)
   dsimp![h2,q1f h2,List.reverse_cons,List.map_append,List.getLast?_append,List.getLast?_singleton,Option.or,Option.some_or,List.dropLast_concat,enc]
   refine hK2 _ _ ?_
   have g2:=q1k (.lst (r.reverse.map enc)) h2
   have g1:=q1x (j:=S.length+1) (.lst (r.reverse.map enc)) h1 (by omega)
   have hx1:Ex [] S (S1.set (S.length+1) (.lst (r.reverse.map enc))):=hx.set (.inr (by omega))
   generalize S1.set (S.length+1) (.lst (r.reverse.map enc))=S2 at g1 g2 hx1 ⊢
   simp only[szT,List.length_cons]at hb hlen
   have fin:∀(S3:q0i)(st':List (Tm×List Nat)),S3[S.length]?=some (.lst (dn.map enc))->S3[S.length+1]?=some (.lst (st'.reverse.map enc))->Ex [] S S3->q2x x fs dn.length++flat r (dn.length+x.sz)=(x,fs)::flat st' (dn.length+1)->szT st'+1=x.sz+szT r->(∀p∈st',p.2.length<=dn.length+1)->
     q3c (wBM "list" q1s (wVar 1) (q0d (wTup (q0d (wVar 3) (q0d (wVar 4) wNil))) wNil)) {nx:=N,rt:=Q,ct:=N,bk:=K} E [some t.pv,some (.ref S.length),some (.ref (S.length+1)),some x.pv,some (.tup (encI fs))] S3:=by
    intro S3 st' e1 e2 ex e3 e4 e5
    dsimp![e1,q1f e1]
    refine⟨big (by decide),by rw[List.length_map];exact bigl (by omega),hN (szT st') _ _ (by simp only[szT];omega) ?_⟩
    refine⟨st',dn++[(x,fs)],_,_,rfl,?_,q1x _ e2 (by omega),ex.set (.inr (Nat.le_refl _)),?_,?_,?_,rfl⟩
    ·rw[q1k _ e1];simp[enc]
    ·rw[<-hf];simp only[flat,List.length_append,List.length_singleton,List.append_assoc,e3,List.singleton_append]
    ·simp only[List.length_append,List.length_singleton];omega
    ·intro p hp;simp only[List.length_append,List.length_singleton];exact e5 p hp
   have keep:∀p∈r,p.2.length<=dn.length+1:=fun p hp=>Nat.le_succ_of_le (hfl p (by simp[hp]))
   refine seqI fun K3 hK3=>?_
   rcases tm3 x with⟨z,rs,ex,z1,z2,hs,hro⟩|⟨k,b,rfl⟩|⟨f,a,rfl⟩
   ·have f2:=fin _ r g1 g2 hx1 (by rw[hro,hs];simp) (by omega) keep
    rw[ex]at f2 ⊢
    dsimp![q0x,z1,z2]
    exact hK3 _ _ f2
   ·simp only[Tm.sz]at hb hlen
    dsimp![Tm.pv,q0x,z5e,g1,g2,q0v g1,q1f g2]
    refine⟨big (by decide),by rw[encI,List.length_map];exact big (by simp;omega),big (by decide),by rw[List.length_map,List.length_reverse];exact bigl (by omega),hK3 _ _ ?_⟩
    refine fin _ ((b,fs++[dn.length])::r) (q1x _ g1 (by omega)) ?_ (hx1.set (.inr (by omega))) ?_ ?_ ?_
    ·rw[q1k _ g2];simp[enc,encI]
    ·simp only[q2x,flat,Tm.sz,List.cons_append]
     rw[show dn.length+(1+b.sz)=dn.length+1+b.sz by omega]
    ·simp only[szT,Tm.sz];omega
    ·intro p hp
     rcases List.mem_cons.mp hp with rfl|z
     ·simp;exact hfs
     ·exact keep p z
   ·simp only[Tm.sz]at hb hlen
    dsimp![Tm.pv,q0x,q8u,z5e,g1,g2,tgb]
    have g3:=q1m g2 [SO.lst [PV.tup [a.pv,PV.tup (encI fs)],PV.tup [f.pv,PV.tup (encI fs)]]]
    refine⟨big (by decide),big (by decide),big (by decide),?_⟩
    dsimp![q1f g3]
    refine⟨by rw[List.length_map,List.length_reverse];exact big (by omega),hK3 _ _ ?_⟩
    refine fin _ ((f,fs)::(a,fs)::r) (q1x _ (q1m g1 _) (by omega)) ?_ ((hx1.app _).set (.inr (by omega))) ?_ ?_ ?_
    ·rw[q1k _ g3];simp[enc]
    ·simp only[q2x,flat,Tm.sz,List.cons_append,List.append_assoc]
     rw[show dn.length+(1+f.sz+a.sz)=dn.length+1+f.sz+a.sz by omega]
    ·simp only[szT,Tm.sz];omega
    ·intro p hp
     rcases List.mem_cons.mp hp with rfl|z
     ·exact Nat.le_succ_of_le hfs
     ·rcases List.mem_cons.mp z with rfl|z
      ·exact Nat.le_succ_of_le hfs
      ·exact keep p z
  ·obtain rfl:st=[]:=by
    cases st with
    |nil=>rfl
    |cons a b=>simp at c
   refine hF _ (hK _ _ ?_)
   dsimp![true_and]
   refine h _ _ ?_ (Nat.le_refl _) hx
   rw[h1,<-hf];simp[flat]
theorem x3r(xs:List PV)(k:Nat)(h:k<xs.length):atI xs (-1-(k:Int))=xs[xs.length-1-k]?:=by
 unfold atI ixN
 rw[if_neg (by omega),if_pos (by omega)]
 rw[Option.bind_some]
 congr 1
 omega
theorem y0p{n m:Int}(h:spl n 8=spl m 8)(h1:0<n-m)(h2:n-m<=640):False:=by
 simp only[spl,List.cons.injEq]at h
 obtain⟨a,b,-⟩:=h
 have a':n % 26=m % 26:=by have:=Int.emod_nonneg n (show(26:Int)≠0 by decide);have:=Int.emod_nonneg m (show(26:Int)≠0 by decide);omega
 have b':n / 26 % 26=m / 26 % 26:=by have:=Int.emod_nonneg (n / 26) (show(26:Int)≠0 by decide);have:=Int.emod_nonneg (m / 26) (show(26:Int)≠0 by decide);omega
 clear a b
 omega
theorem y1e(n:Int)(F:List Str)(hF:F.length<=80):∃j:Nat,j<=80/\mk (spl (n+8*j) 8)∉F:=by
 refine Classical.byContradiction fun hc=>?_
 have hall:∀j:Nat,j<=80->mk (spl (n+8*j) 8)∈F:=fun j hj=>Classical.byContradiction fun hz=>hc ⟨j,hj,hz⟩
 have nd:((List.range 81).map fun j:Nat=>mk (spl (n+8*j) 8)).Nodup:=by
  refine List.pairwise_map.mpr (List.Pairwise.imp_of_mem ?_ (List.nodup_range (n:=81)))
  intro a b ha hb hab e
  have e:=x6y e
  rw[List.mem_range]at ha hb
  refine hab ?_
  rcases Nat.lt_trichotomy a b with z|z|z
  ·exact(y0p e.symm (by omega) (by omega)).elim
  ·exact z
  ·exact(y0p e (by omega) (by omega)).elim
 have:=z7s nd (F:=F) fun x hx=>by
  obtain⟨j,hj,rfl⟩:=List.mem_map.mp hx
  rw[List.mem_range]at hj
  exact hall j (by omega)
 rw[List.length_map,List.length_range]at this
 omega
theorem z9s(ws:List Str)(num:Int)(k:Nat)(h:ws.length<=79):∃i:Nat,z5j ws num k (i+1):=by
 have h1:∃r:Nat,r<8/\szn k (r+1)=8:=⟨(15-(k-1) % 8-1) % 8,by omega,by unfold szn;omega⟩
 obtain⟨r,hr,hs⟩:=h1
 obtain⟨j,hj,hf⟩:=y1e (num+((r+1:Nat):Int)) (sAny::ws) (by simp;omega)
 refine⟨r+8*j,?_⟩
 have e1:szn k (r+8*j+1)=8:=by unfold szn at hs ⊢;omega
 have e2:num+((r+8*j+1:Nat):Int)=num+((r+1:Nat):Int)+8*j:=by omega
 unfold z5j Bad
 rw[e1,e2]
 rintro(z|z)
 ·exact hf (List.mem_cons_of_mem _ z)
 ·exact hf (by rw[z];exact List.mem_cons_self)
def y4k(sp:Den):Prop:=∀(d c n:Nat)(ws:List Str)(S:q0i)(E:EK)(Q:VC),Deck d c S->S[n]?=some (.lst (ws.map PV.str))->ws.length<=79->(∀w∈ws,q3t w=true)->n≠d->n≠c->
 (∀w S',q3t w=true->w∉ws->w≠sAny->Deck d c S'->Ex [d,c] S S'->Q (.str w) S')->sp [.ref d,.ref n] S E Q
theorem y4s{spn sps:Den}(hn:z5i spn)(hs:z3d sps):y4k (fnP 2 7 (q8y spn sps)):=by
 intro d c n ws S E Q hd hw hl hna nd nc h
 refine⟨rfl,?_⟩
 unfold q8y
 refine seqI fun K hK=>?_
 dsimp![true_and]
 refine hn d c _ _ _ hd fun way S1 w0 w1 hd1 hx1=>hK _ _ ?_
 refine seqI fun K hK=>?_
 dsimp![true_and]
 refine hn d c _ _ _ hd1 fun num S2 n0 n1 hd2 hx2=>hK _ _ ?_
 have hx12:=hx1.trans hx2
 have hw2:S2[n]?=some (.lst (ws.map PV.str)):=hx12.get hw (by simp;exact⟨nd,nc⟩)
 obtain⟨k,hk,hk1,hk8⟩:∃k:Nat,1+way % 8=(k:Int)/\1<=k/\k<=8:=⟨(1+way % 8).toNat,by omega,by omega,by omega⟩
 refine seqI fun K hK=>?_
 dsimp![true_and]
 refine⟨by decide,hK _ _ ?_⟩
 rw[hk]
 refine seqI fun K hK=>?_
 dsimp![true_and]
 refine hs num k _ _ _ hk8 (hK _ _ ?_)
 have spn1:q3t (mk (spl num k))=true:=z2o (by rw[q7h];exact hk1) (by rw[q7h];exact hk8) (z2b _ _)
 have rest:∀(w:Str)(S':q0i)(j:Option PV),q3t w=true->Ex [] S2 S'->wSeq (q6i (wOr (q0w (wBin cIn (wVar 5) (wVar 1))) (q0w (wBin cEq (wVar 5) (wC (.str "any"))))) (wSeq (wSet 3 (wBin bAdd (wVar 3) (wC (.int 1))))
   (wSeq (wSet 4 (wBin bAdd (wBin bMod (wVar 4) (wC (.int 8))) (wC (.int 1))))
   (wSet 5 (q0t sps (q0d (wVar 3) (q0d (wVar 4) wNil)))))))
   (wRet (wVar 5)) {nx:=fun _ S'=>Q .non S',rt:=Q} E [some (.ref d),some (.ref n),some (.int way),some (.int num),some (.int (k:Nat)),some (.str w),j] S':=by
  intro w S' j hwn hx'
  refine seqI fun K hK=>?_
  obtain⟨i0,hi0⟩:=z9s ws num k hl
  refine q8v (fun m σ S3=>∃(nu:Int)(kk:Nat)(ww:Str),σ=[some (.ref d),some (.ref n),some (.int way),some (.int nu),some (.int (kk:Nat)),some (.str ww),j]/\S3=S'/\1<=kk/\kk<=8/\q3t ww=true/\((m=0/\¬Bad ws ww)\/∃i,m=i+1/\z5j ws nu kk (i+1))) (i0+1) ⟨num,k,w,rfl,rfl,hk1,hk8,hwn,.inr ⟨i0,rfl,hi0⟩⟩ ?_
  rintro m σ S3 ⟨nu,kk,ww,rfl,rfl,k1,k8,nw,hm⟩ T F hT hF
  have hw3:=hx'.get hw2 (by simp)
  dsimp![q0v hw3,x8x]
  refine⟨q8q ws,?_⟩
  have bad:Bad ws ww->T [some (.ref d),some (.ref n),some (.int way),some (.int nu),some (.int (kk:Nat)),some (.str ww),j] S3:=fun hb=>by
   obtain⟨i,rfl,hg⟩:∃i,m=i+1/\z5j ws nu kk (i+1):=by
    rcases hm with⟨_,z⟩|z
    ·exact absurd hb z
    ·exact z
   refine hT _ fun N hN=>?_
   refine seqI fun K2 hK2=>?_
   dsimp![true_and]
   refine hK2 _ _ ?_
   refine seqI fun K2 hK2=>?_
   dsimp![true_and]
   refine⟨by decide,hK2 _ _ ?_⟩
   have ek:((kk:Nat):Int) % 8+1=((szn kk 1:Nat):Int):=by unfold szn;omega
   have hz1:1<=szn kk 1:=by unfold szn;omega
   have hz8:szn kk 1<=8:=by unfold szn;omega
   rw[ek]
   dsimp![true_and]
   refine hs (nu+1) (szn kk 1) _ _ _ hz8 ?_
   refine hN i _ _ (by omega) ⟨nu+1,szn kk 1,mk (spl (nu+1) (szn kk 1)),rfl,rfl,hz1,hz8,z2o (by rw[q7h];exact hz1) (by rw[q7h];exact hz8) (z2b _ _),?_⟩
   cases i with
   |zero=>exact .inl ⟨rfl,hg⟩
   |succ i=>
    refine .inr ⟨i,rfl,?_⟩
    unfold z5j at hg ⊢
    rw[y5e,show nu+1+((i+1:Nat):Int)=nu+((i+1+1:Nat):Int) by omega]
    exact hg
  refine ite2 (fun z=>bad (.inl z)) (fun z=>ite2 (fun z2=>bad (.inr z2)) (fun z2=>?_))
  refine hF _ (hK _ _ ?_)
  dsimp![true_and]
  have hx3:Ex [d,c] S S3:=hx12.trans hx'.nil
  exact h ww S3 nw z z2 (hd2.ex hx' (by simp) (by simp)) hx3
 refine seqI fun K hK=>?_
 have g1:=q1m hw2 [SO.lst []]
 have hx3:Ex [] S2 (S2++[SO.lst []]):=Ex.new _ _ _
 dsimp![q0v g1,y7t]
 refine⟨big (by decide),q8q ws,ite2 (fun z=>?_) (fun z=>hK _ _ (rest _ _ _ spn1 hx3))⟩
 refine⟨by decide,by decide,ite2 (fun z2=>?_) (fun z2=>hK _ _ (rest _ _ _ spn1 hx3))⟩
 obtain⟨v,vs,rfl⟩:∃v vs,ws=v::vs:=by
  cases ws with
  |nil=>simp at z
  |cons a b=>exact⟨a,b,rfl⟩
 have hv:=z0k (hna v (by simp))
 simp only[List.map_cons]at g1
 refine seqI fun K2 hK2=>?_
 dsimp![g1,q0x]
 refine⟨⟨by decide,by decide⟩,big (by omega),by omega,hK2 _ _ ?_⟩
 obtain⟨at',hat,hat1⟩:∃a:Nat,way / 16 % (v.length:Int)=(a:Int)/\a<v.length:=⟨(way / 16 % (v.length:Int)).toNat,by have:=Int.emod_nonneg (way / 16) (show(v.length:Int)≠0 by omega);omega,by have:=Int.emod_lt_of_pos (way / 16) (show(0:Int)<v.length by omega);have:=Int.emod_nonneg (way / 16) (show(v.length:Int)≠0 by omega);omega⟩
 rw[hat]
 obtain⟨c0,cs,hc0⟩:∃c0 cs,spl num k=c0::cs:=by
  obtain⟨k',rfl⟩:∃k',k=k'+1:=⟨k-1,by omega⟩
  exact⟨_,_,rfl⟩
 have hc0':atI (mk (spl num k)).cps.toList 0=some c0:=by
  rw[q6d,hc0]
  unfold atI
  rw[List.length_cons,q9s]
  rfl
 have hcl:isL c0=true:=by
  have:=z2b k num
  rw[hc0,List.all_cons,Bool.and_eq_true]at this
  exact this.1
 dsimp![g1,q0x,hc0']
 rw[show((at':Nat):Int)+1=((at'+1:Nat):Int) by omega,x0p v at' (by omega),x0r v (at'+1) (by omega),y9m]
 have hvl:=z2q v
 refine⟨big (by omega),big (by rw[q9b,q7h];omega),big (by rw[q9b,q9b];simp;omega),big (by omega),?_⟩
 rw[y2i,y2i,q9b,q9b]
 refine⟨big (by simp only[List.length_append,List.length_take,List.length_drop,List.length_singleton];omega),hK _ _ (rest _ _ _ ?_ hx3)⟩
 refine z2o ?_ ?_ ?_
 ·simp only[List.length_append,List.length_take,List.length_drop,List.length_singleton];omega
 ·simp only[List.length_append,List.length_take,List.length_drop,List.length_singleton];omega
 ·simp only[List.all_append,y8i _ hv.2.2,y8j _ hv.2.2,List.all_cons,List.all_nil,hcl,Bool.and_self]
def y4j(sp:Den):Prop:=∀(d c m:Nat)(S:q0i)(E:EK)(Q:VC),Deck d c S->m<=79->
 (∀(n:Nat)(ws:List Str) S',S'[n]?=some (.lst (ws.map PV.str))->ws.length=m->(∀w∈ws,q3t w=true)->ws.Nodup->S.length<=n->Deck d c S'->Ex [d,c] S S'->Q (.ref n) S')->sp [.ref d,.int m] S E Q
theorem y0a{spw:Den}(hw:y4k spw):y4j (fnP 2 4 (q4w spw)):=by
 intro d c m S E Q hd hm h
 refine⟨rfl,?_⟩
 unfold q4w
 refine seqI fun K hK=>?_
 dsimp![true_and]
 refine⟨big (by decide),hK _ _ ?_⟩
 refine seqI fun K hK=>?_
 dsimp![true_and]
 refine⟨⟨by omega,by omega⟩,?_⟩
 rw[Int.toNat_natCast]
 have hdl:d<S.length:=by obtain⟨⟨_,_,_,_,_,_,g,_⟩,_⟩:=hd;exact q1l g
 have hcl:c<S.length:=by obtain⟨⟨_,_,_,_,_,_,_,g,_⟩,_⟩:=hd;exact q1l g
 refine forI (fun rest σ S1=>∃(ws:List Str)(j:Option PV),σ=[some (.ref d),some (.int m),some (.ref S.length),j]/\S1[S.length]?=some (.lst (ws.map PV.str))/\ws.length+rest.length=m/\(∀w∈ws,q3t w=true)/\ws.Nodup/\Deck d c S1/\Ex [d,c] S S1) ?_ ?_ _ _ _ ⟨[],none,rfl,q1g _ _,by rw[y1f];simp,by simp,by simp,hd.ex (Ex.new [] _ _) (by simp) (by simp),Ex.new _ _ _⟩
 ·rintro σ S1 ⟨ws,j,rfl,hs,hl,hn,hnd,hd1,hx⟩
  refine⟨trivial,hK _ _ ?_⟩
  dsimp![true_and]
  exact h _ ws _ hs (by simpa using hl) hn hnd (Nat.le_refl _) hd1 hx
 ·rintro x r σ S1 ⟨ws,j,rfl,hs,hl,hn,hnd,hd1,hx⟩ N hN
  rw[List.length_cons]at hl
  refine⟨trivial,?_⟩
  dsimp![hs]
  refine hw d c S.length ws _ _ _ hd1 hs (by omega) hn (by omega) (by omega) fun w S2 nw nin _ hd2 hx2=>?_
  have hs2:S2[S.length]?=some (.lst (ws.map PV.str)):=hx2.get hs (by simp;omega)
  dsimp![q1f hs2]
  refine⟨by rw[List.length_map];exact bigl (by omega),hN _ _ ⟨ws++[w],_,rfl,?_,?_,?_,?_,hd2.ex (D:=[S.length]) ((Ex.refl _ _).set (.inl (by simp))) (by simp;omega) (by simp;omega),(hx.trans hx2).set (.inr (Nat.le_refl _))⟩⟩
  ·rw[q1k _ hs2];simp
  ·simp;omega
  ·intro y hy
   rcases List.mem_append.mp hy with z|z
   ·exact hn y z
   ·simp at z;subst z;exact nw
  ·rw[List.nodup_append]
   exact⟨hnd,by simp,fun x hx y hy e=>by simp at hy;subst hy;subst e;exact nin hx⟩
mutual
def q1v:PV->Bool
 |.str _=>true
 |.int _=>true
 |.tup xs=>q3f xs&&decide (xs.length<=10)
 |_=>false
def q3f:List PV->Bool
 |[]=>true
 |x::xs=>q1v x&&q3f xs
end
theorem q9p:∀k:Kd,q1v k.pv=true
 |.a s=>by simp only[Kd.pv,q1v]
 |.p f t=>by simp only[Kd.pv,q1v,q3f,List.length_cons,List.length_nil,Nat.reduceAdd,Nat.reduceLeDiff,decide_true,Bool.and_true,q9p f,q9p t,Bool.and_self]
def Tm.gd:Tm->Nat->Prop
 |.nm _,_=>True
 |.lf _ f,_=>q1v f=true/\dep f<=30
 |.bd k,n=>k<n
 |.fn k t,n=>(q1v k=true/\dep k<=30)/\t.gd (n+1)
 |.ap f a,n=>f.gd n/\a.gd n
def y8r(b m d:Nat)(u:Int):List (Key×PV):=[(.inr (Str.ofString "basics"),.ref b),(.inr (Str.ofString "names"),.ref m),(.inr (Str.ofString "deck"),.ref d),(.inr (Str.ofString "uses"),.int u),(.inr (Str.ofString "leaves"),.bl true)]
def encN(p:Str×Kd):PV:=.tup [.str p.1,p.2.pv]
structure Wd(w b m d c N:Nat)(S:q0i):Prop where
 dk:Deck d c S
 wd:∃u,S[w]?=some (.dK (y8r b m d u))
 bs:∃ws:List Str,S[b]?=some (.lst (ws.map PV.str))/\ws≠[]
 nm:∃ps:List (Str×Kd),S[m]?=some (.lst (ps.map encN))/\ps.length<=N/\∀p∈ps,q3t p.1=true/\p.2.dp<=20
 ne:(w≠d/\w≠c)/\(b≠d/\b≠c)/\(m≠d/\m≠c)/\w≠m/\b≠m
theorem Wd.ex{w b m d c N:Nat}{S S':q0i}(h:Wd w b m d c N S){D:List Nat}(e:Ex D S S')(hw:w∉D)(hb:b∉D)(hm:m∉D)(hd:d∉D)(hc:c∉D):Wd w b m d c N S':=by
 obtain⟨dk,⟨u,wd⟩,⟨ws,b1,b2⟩,⟨ps,p1,p2⟩,ne⟩:=h
 exact⟨dk.ex e hd hc,⟨u,e.get wd hw⟩,⟨ws,e.get b1 hb,b2⟩,⟨ps,e.get p1 hm,p2⟩,ne⟩
theorem Wd.nx{w b m d c N:Nat}{S S':q0i}(h:Wd w b m d c N S)(hd:Deck d c S')(e:Ex [d,c] S S'):Wd w b m d c N S':=by
 obtain⟨dk,⟨u,wd⟩,⟨ws,b1,b2⟩,⟨ps,p1,p2⟩,ne⟩:=h
 exact⟨hd,⟨u,e.get wd (by simp;exact ne.1)⟩,⟨ws,e.get b1 (by simp;exact ne.2.1),b2⟩,⟨ps,e.get p1 (by simp;exact ne.2.2.1),p2⟩,ne⟩
theorem Wd.le{w b m d c N N':Nat}{S:q0i}(h:Wd w b m d c N S)(l:N<=N'):Wd w b m d c N' S:=by
 obtain⟨dk,wd,bs,⟨ps,p1,p2,p3⟩,ne⟩:=h
 exact⟨dk,wd,bs,⟨ps,p1,Nat.le_trans p2 l,p3⟩,ne⟩
structure Ar(w b m d c a:Nat)(rs:List Nat)(S:q0i):Prop where
 at':S[a]?=some (.lst (rs.map PV.ref))
 rw':∀r∈rs,∃(k:Kd)(u:Int),S[r]?=some (.lst [k.pv,.int u])/\k.dp<=20
 ne:∀r∈a::rs,r≠w/\r≠b/\r≠m/\r≠d/\r≠c
 na:a∉rs
theorem Ar.ex{w b m d c a:Nat}{rs:List Nat}{S S':q0i}(h:Ar w b m d c a rs S)(e:Ex [m,d,c] S S'):Ar w b m d c a rs S':=by
 have g:∀r∈a::rs,r∉[m,d,c]:=fun r hr=>by have:=h.ne r hr;simp;exact⟨this.2.2.1,this.2.2.2.1,this.2.2.2.2⟩
 exact⟨e.get h.at' (g a (by simp)),fun r hr=>by obtain⟨k,u,h1,h2⟩:=h.rw' r hr;exact⟨k,u,e.get h1 (g r (by simp[hr])),h2⟩,h.ne,h.na⟩
theorem Ar.nx{w b m d c a:Nat}{rs:List Nat}{S S':q0i}(h:Ar w b m d c a rs S)(e:Ex [d,c] S S'):Ar w b m d c a rs S':=h.ex (e.weak (by simp))
def mb(F:Nat->Nat->Tm):Tm->Nat->Tm
 |.bd k,d=>F k d
 |.fn k t,d=>.fn k (mb F t (d+1))
 |.ap f a,d=>.ap (mb F f d) (mb F a d)
 |t,_=>t
def rsF(m:Nat)(k d:Nat):Tm:=.bd (if k<d then k else k+m)
def rs(t:Tm)(m d:Nat):Tm:=mb (rsF m) t d
def sbF(a:Tm)(k d:Nat):Tm:=if k<d then .bd k else if k=d then rs a d 0 else .bd (k-1)
def sb(t:Tm)(d:Nat)(a:Tm):Tm:=mb (sbF a) t d
theorem z2e:∀(t:Tm)(d:Nat),rs t 0 d=t
 |.nm _,_=>rfl
 |.lf _ _,_=>rfl
 |.bd k,d=>by simp[rs,mb,rsF]
 |.fn k t,d=>by have:=z2e t (d+1);unfold rs at this ⊢;rw[mb,this]
 |.ap f a,d=>by have h1:=z2e f d;have h2:=z2e a d;unfold rs at h1 h2 ⊢;rw[mb,h1,h2]
def dn:Tm->List Nat->Tm
 |.ap (.fn _ b) a,[]=>sb b 0 a
 |t,[]=>t
 |.fn k t,_::p=>.fn k (dn t p)
 |.ap f a,0::p=>.ap (dn f p) a
 |.ap f a,_::p=>.ap f (dn a p)
 |t,_=>t
inductive Pl:Tm->List Nat->Prop
 |here (k:PV) (b a:Tm):Pl (.ap (.fn k b) a) []
 |fn (k:PV) (t:Tm) (p:List Nat):Pl t p->Pl (.fn k t) (0::p)
 |l (f a:Tm) (p:List Nat):Pl f p->Pl (.ap f a) (0::p)
 |r (f a:Tm) (p:List Nat):Pl a p->Pl (.ap f a) (1::p)
inductive Nt where
 |nm (w:Str)|lf (n:Int) (f:PV)|vr (i:Nat)|fn (k:PV) (o:Nat) (t:Nt)|ap (f a:Nt)
def nf:Tm->Nat
 |.fn _ t=>nf t+1
 |.ap f a=>nf f+nf a
 |_=>0
theorem x0v(k m d:Nat):rs (.bd k) m d=.bd (if k<d then k else k+m):=rfl
theorem q6r(k:PV)(t:Tm)(m d:Nat):rs (.fn k t) m d=.fn k (rs t m (d+1)):=rfl
theorem q7j(f a:Tm)(m d:Nat):rs (.ap f a) m d=.ap (rs f m d) (rs a m d):=rfl
theorem x9p(w:Str)(m d:Nat):rs (.nm w) m d=.nm w:=rfl
theorem x9q(n:Int)(f:PV)(m d:Nat):rs (.lf n f) m d=.lf n f:=rfl
theorem z5t(k d:Nat)(a:Tm):sb (.bd k) d a=if k<d then .bd k else if k=d then rs a d 0 else .bd (k-1):=rfl
theorem q8b(k:PV)(t:Tm)(d:Nat)(a:Tm):sb (.fn k t) d a=.fn k (sb t (d+1) a):=rfl
theorem q8c(f g:Tm)(d:Nat)(a:Tm):sb (.ap f g) d a=.ap (sb f d a) (sb g d a):=rfl
theorem x4z(w:Str)(d:Nat)(a:Tm):sb (.nm w) d a=.nm w:=rfl
theorem x5a(n:Int)(f:PV)(d:Nat)(a:Tm):sb (.lf n f) d a=.lf n f:=rfl
theorem q6q{k d:Nat}{a:Tm}(h:k<d):sb (.bd k) d a=.bd k:=by rw[z5t,if_pos h]
theorem z0d(d:Nat)(a:Tm):sb (.bd d) d a=rs a d 0:=by rw[z5t,if_neg (by omega),if_pos rfl]
theorem q8n{k d:Nat}{a:Tm}(h:d<k):sb (.bd k) d a=.bd (k-1):=by rw[z5t,if_neg (by omega),if_neg (by omega)]
theorem q6b{k m d:Nat}(h:k<d):rs (.bd k) m d=.bd k:=by rw[x0v,if_pos h]
theorem q7b{k m d:Nat}(h:d<=k):rs (.bd k) m d=.bd (k+m):=by rw[x0v,if_neg (by omega)]
def oc:Tm->Nat->Nat
 |.bd k,j=>if k=j then 1 else 0
 |.fn _ t,j=>oc t (j+1)
 |.ap f a,j=>oc f j+oc a j
 |_,_=>0
def af(u:Nat):Tm->Prop
 |.fn _ t=>oc t 0<=u/\af u t
 |.ap f a=>af u f/\af u a
 |_=>True
def Tm.nd:Tm->Nat
 |.fn _ t=>1+t.nd
 |.ap f a=>1+f.nd+a.nd
 |_=>0
theorem z3u:∀t:Tm,t.nd+1<=t.sz
 |.nm _=>Nat.le_refl _
 |.lf _ _=>Nat.le_refl _
 |.bd _=>Nat.le_refl _
 |.fn _ t=>by have:=z3u t;simp only[Tm.nd,Tm.sz];omega
 |.ap f a=>by have:=z3u f;have:=z3u a;simp only[Tm.nd,Tm.sz];omega
theorem y3p:∀t:Tm,t.dp<=t.nd
 |.nm _=>Nat.le_refl _
 |.lf _ _=>Nat.le_refl _
 |.bd _=>Nat.le_refl _
 |.fn _ t=>by have:=y3p t;simp only[Tm.nd,Tm.dp];omega
 |.ap f a=>by have:=y3p f;have:=y3p a;simp only[Tm.nd,Tm.dp];omega
theorem y2e:∀(t:Tm)(m d j:Nat),oc (rs t m d) j=if j<d then oc t j else if j<d+m then 0 else oc t (j-m)
 |.nm _,m,d,j=>by simp[x9p,oc]
 |.lf _ _,m,d,j=>by simp[x9q,oc]
 |.bd k,m,d,j=>by
  by_cases h:k<d
  ·rw[q6b h];simp only[oc];(repeat' split)<;>first|rfl|omega
  ·rw[q7b (by omega)];simp only[oc];(repeat' split)<;>first|rfl|omega
 |.fn _ t,m,d,j=>by
  rw[q6r]
  simp only[oc]
  rw[y2e t m (d+1) (j+1)]
  by_cases h:j<d
  ·rw[if_pos h,if_pos (by omega)]
  ·rw[if_neg h,if_neg (by omega)]
   by_cases h2:j<d+m
   ·rw[if_pos h2,if_pos (by omega)]
   ·rw[if_neg h2,if_neg (by omega),show j+1-m=j-m+1 by omega]
 |.ap f a,m,d,j=>by
  rw[q7j]
  simp only[oc]
  rw[y2e f m d j,y2e a m d j]
  split
  ·rfl
  ·split<;>rfl
theorem y2d(a:Tm):∀(t:Tm)(d j:Nat),oc (sb t d a) j=(if j<d then oc t j else oc t (j+1))+oc t d*(if j<d then 0 else oc a (j-d))
 |.nm _,d,j=>by simp[x4z,oc]
 |.lf _ _,d,j=>by simp[x5a,oc]
 |.bd k,d,j=>by
  rcases Nat.lt_trichotomy k d with h|h|h
  ·rw[q6q h];simp only[oc,if_neg (show ¬k=d by omega),Nat.zero_mul,Nat.add_zero];(repeat' split)<;>first|rfl|omega
  ·subst h
   rw[z0d,y2e]
   simp only[oc,Nat.zero_add,if_true,Nat.one_mul,Nat.not_lt_zero,if_false]
   split
   ·split<;>omega
   ·rw[if_neg (by omega)];omega
  ·rw[q8n h];simp only[oc]
   rw[if_neg (show ¬k=d by omega),Nat.zero_mul,Nat.add_zero]
   (repeat' split)<;>first|rfl|omega
 |.fn _ t,d,j=>by
  rw[q8b]
  simp only[oc]
  rw[y2d a t (d+1) (j+1)]
  by_cases h:j<d
  ·rw[if_pos h,if_pos h,if_pos (by omega),if_pos (by omega)]
  ·rw[if_neg h,if_neg h,if_neg (by omega),if_neg (by omega),show j+1-(d+1)=j-d by omega]
 |.ap f g,d,j=>by
  rw[q8c]
  simp only[oc]
  rw[y2d a f d j,y2d a g d j,Nat.add_mul]
  split<;>omega
theorem y5g:∀(t:Tm)(m d:Nat),(rs t m d).sz=t.sz/\(rs t m d).nd=t.nd
 |.nm _,_,_=>⟨rfl,rfl⟩
 |.lf _ _,_,_=>⟨rfl,rfl⟩
 |.bd _,_,_=>⟨rfl,rfl⟩
 |.fn _ t,m,d=>by have:=y5g t m (d+1);rw[q6r];simp only[Tm.sz,Tm.nd];omega
 |.ap f a,m,d=>by have:=y5g f m d;have:=y5g a m d;rw[q7j];simp only[Tm.sz,Tm.nd];omega
theorem y5f(a:Tm):∀(t:Tm)(d:Nat),(sb t d a).sz+oc t d=t.sz+oc t d*a.sz/\(sb t d a).nd=t.nd+oc t d*a.nd
 |.nm _,d=>by simp[x4z,oc]
 |.lf _ _,d=>by simp[x5a,oc]
 |.bd k,d=>by
  rcases Nat.lt_trichotomy k d with h|h|h
  ·rw[q6q h];simp only[oc,if_neg (show ¬k=d by omega)];simp
  ·subst h
   have:=y5g a k 0
   rw[z0d];simp only[oc,if_true,Tm.sz,Tm.nd];omega
  ·rw[q8n h];simp only[oc,if_neg (show ¬k=d by omega)];simp[Tm.sz,Tm.nd]
 |.fn _ t,d=>by have:=y5f a t (d+1);rw[q8b];simp only[oc,Tm.sz,Tm.nd];omega
 |.ap f g,d=>by
  have h1:=y5f a f d
  have h2:=y5f a g d
  rw[q8c];simp only[oc,Tm.sz,Tm.nd,Nat.add_mul];omega
theorem y8l(u:Nat):∀(t:Tm)(m d:Nat),af u t->af u (rs t m d)
 |.nm _,_,_,_=>trivial
 |.lf _ _,_,_,_=>trivial
 |.bd _,_,_,_=>trivial
 |.fn _ t,m,d,h=>by
  rw[q6r]
  exact⟨by rw[y2e,if_pos (by omega)];exact h.1,y8l u t m (d+1) h.2⟩
 |.ap f a,m,d,h=>⟨y8l u f m d h.1,y8l u a m d h.2⟩
theorem y8k(u:Nat){a:Tm}(ha:af u a):∀(t:Tm)(d:Nat),af u t->af u (sb t d a)
 |.nm _,_,_=>trivial
 |.lf _ _,_,_=>trivial
 |.bd k,d,_=>by
  rw[z5t]
  split
  ·trivial
  ·split
   ·exact y8l u a d 0 ha
   ·trivial
 |.fn _ t,d,h=>by
  rw[q8b]
  refine⟨?_,y8k u ha t (d+1) h.2⟩
  rw[y2d,if_pos (by omega),if_pos (by omega),Nat.mul_zero,Nat.add_zero]
  exact h.1
 |.ap f g,d,h=>⟨y8k u ha f d h.1,y8k u ha g d h.2⟩
theorem y7p:∀(t:Tm)(n m d:Nat),t.gd (d+n)->(rs t m d).gd (d+m+n)
 |.nm _,_,_,_,_=>trivial
 |.lf _ _,_,_,_,h=>h
 |.bd k,n,m,d,h=>by
  have h:k<d+n:=h
  rw[x0v]
  show _<_
  split<;>omega
 |.fn _ t,n,m,d,h=>by
  rw[q6r]
  refine⟨h.1,?_⟩
  have:=y7p t n m (d+1) (by rw[show d+1+n=d+n+1 by omega];exact h.2)
  rw[show d+1+m+n=d+m+n+1 by omega]at this
  exact this
 |.ap f a,n,m,d,h=>⟨y7p f n m d h.1,y7p a n m d h.2⟩
theorem y7o{a:Tm}{n:Nat}(ha:a.gd n):∀(t:Tm)(d:Nat),t.gd (d+n+1)->(sb t d a).gd (d+n)
 |.nm _,_,_=>trivial
 |.lf _ _,_,h=>h
 |.bd k,d,h=>by
  have h:k<d+n+1:=h
  rw[z5t]
  split
  ·show _<_;omega
  ·split
   ·have:=y7p a n d 0 (by rw[Nat.zero_add];exact ha)
    rw[Nat.zero_add]at this
    exact this
   ·show _<_;omega
 |.fn _ t,d,h=>by
  rw[q8b]
  refine⟨h.1,?_⟩
  have:=y7o ha t (d+1) (by rw[show d+1+n+1=d+n+1+1 by omega];exact h.2)
  rw[show d+1+n=d+n+1 by omega]at this
  exact this
 |.ap f g,d,h=>⟨y7o ha f d h.1,y7o ha g d h.2⟩
theorem y5w:∀(t:Tm)(m m' c i:Nat),i<=m->rs (rs t m c) m' (c+i)=rs t (m+m') c
 |.nm _,_,_,_,_,_=>rfl
 |.lf _ _,_,_,_,_,_=>rfl
 |.bd k,m,m',c,i,h=>by
  by_cases h1:k<c
  ·rw[q6b h1,q6b (by omega),q6b h1]
  ·rw[q7b (by omega),q7b (by omega),q7b (by omega),Nat.add_assoc]
 |.fn k t,m,m',c,i,h=>by
  have:=y5w t m m' (c+1) i h
  rw[q6r,q6r,q6r,show c+i+1=c+1+i by omega,this]
 |.ap f a,m,m',c,i,h=>by rw[q7j,q7j,q7j,y5w f m m' c i h,y5w a m m' c i h]
theorem z2f:∀(t:Tm)(m m' c i:Nat),rs (rs t m c) m' (c+i+m)=rs (rs t m' (c+i)) m c
 |.nm _,_,_,_,_=>rfl
 |.lf _ _,_,_,_,_=>rfl
 |.bd k,m,m',c,i=>by
  by_cases h1:k<c
  ·rw[q6b h1,q6b (by omega),q6b (by omega),q6b h1]
  ·rw[q7b (by omega)]
   by_cases h2:k<c+i
   ·rw[q6b (by omega),q6b h2,q7b (by omega)]
   ·rw[q7b (by omega),q7b (by omega),q7b (by omega),show k+m+m'=k+m'+m by omega]
 |.fn k t,m,m',c,i=>by
  have:=z2f t m m' (c+1) i
  rw[q6r,q6r,q6r,q6r,show c+i+m+1=c+1+i+m by omega,this,show c+1+i=c+i+1 by omega]
 |.ap f a,m,m',c,i=>by rw[q7j,q7j,q7j,q7j,z2f f m m' c i,z2f a m m' c i]
theorem y5v(a:Tm)(m i:Nat):∀(t:Tm)(d:Nat),rs (sb t d a) m (d+i)=sb (rs t m (d+i+1)) d (rs a m i)
 |.nm _,_=>rfl
 |.lf _ _,_=>rfl
 |.bd k,d=>by
  rcases Nat.lt_trichotomy k d with h|h|h
  ·rw[q6q h,q6b (by omega),q6b (by omega),q6q h]
  ·subst h
   rw[z0d,q6b (show k<k+i+1 by omega),z0d]
   have:=z2f a k m 0 i
   rw[Nat.zero_add,Nat.add_comm i k]at this
   exact this
  ·rw[q8n h]
   by_cases h2:k<d+i+1
   ·rw[q6b (by omega),q6b h2,q8n h]
   ·rw[q7b (by omega),q7b (by omega),q8n (by omega),show k-1+m=k+m-1 by omega]
 |.fn k t,d=>by
  have:=y5v a m i t (d+1)
  rw[q8b,q6r,q6r,q8b,show d+i+1=d+1+i by omega,this]
 |.ap f g,d=>by rw[q8c,q7j,q7j,q8c,y5v a m i f d,y5v a m i g d]
theorem q9m(x:Tm)(m:Nat):∀(t:Tm)(c i:Nat),i<=m->sb (rs t (m+1) c) (c+i) x=rs t m c
 |.nm _,_,_,_=>rfl
 |.lf _ _,_,_,_=>rfl
 |.bd k,c,i,h=>by
  by_cases h1:k<c
  ·rw[q6b h1,q6q (by omega),q6b h1]
  ·rw[q7b (by omega),q8n (by omega),q7b (by omega),show k+(m+1)-1=k+m by omega]
 |.fn k t,c,i,h=>by
  have:=q9m x m t (c+1) i h
  rw[q6r,q8b,q6r,show c+i+1=c+1+i by omega,this]
 |.ap f g,c,i,h=>by rw[q7j,q8c,q7j,q9m x m f c i h,q9m x m g c i h]
theorem q8a(a:Tm)(e d:Nat):∀(t:Tm)(c:Nat),sb (rs t e c) (e+d+c) a=rs (sb t (d+c) a) e c
 |.nm _,_=>rfl
 |.lf _ _,_=>rfl
 |.bd k,c=>by
  by_cases h1:k<c
  ·rw[q6b h1,q6q (by omega),q6q (by omega),q6b h1]
  ·rw[q7b (by omega)]
   rcases Nat.lt_trichotomy k (d+c)with h|h|h
   ·rw[q6q (by omega),q6q h,q7b (by omega)]
   ·subst h
    rw[show d+c+e=e+d+c by omega,z0d,z0d]
    have:=y5w a (d+c) e 0 c (by omega)
    rw[Nat.zero_add]at this
    rw[this,show d+c+e=e+d+c by omega]
   ·rw[q8n (by omega),q8n h,q7b (by omega),show k+e-1=k-1+e by omega]
 |.fn k t,c=>by
  have:=q8a a e d t (c+1)
  rw[q6r,q8b,q8b,q6r,show e+d+c+1=e+d+(c+1) by omega,this,show d+(c+1)=d+c+1 by omega]
 |.ap f g,c=>by rw[q7j,q8c,q8c,q7j,q8a a e d f c,q8a a e d g c]
theorem y5t(a b:Tm)(d:Nat):∀(t:Tm)(e:Nat),sb (sb t e b) (e+d) a=sb (sb t (e+d+1) a) e (sb b d a)
 |.nm _,_=>rfl
 |.lf _ _,_=>rfl
 |.bd k,e=>by
  rcases Nat.lt_trichotomy k e with h|h|h
  ·rw[q6q h,q6q (by omega),q6q (by omega),q6q h]
  ·subst h
   rw[z0d,q6q (show k<k+d+1 by omega),z0d]
   have:=q8a a k d b 0
   simpa using this
  ·rw[q8n h]
   rcases Nat.lt_trichotomy k (e+d+1)with h2|h2|h2
   ·rw[q6q (by omega),q6q h2,q8n h]
   ·subst h2
    rw[z0d,show e+d+1-1=e+d by omega,z0d]
    have:=q9m (sb b d a) (e+d) a 0 e (by omega)
    rw[Nat.zero_add]at this
    exact this.symm
   ·rw[q8n (by omega),q8n h2,q8n (by omega)]
 |.fn k t,e=>by
  have:=y5t a b d t (e+1)
  rw[q8b,q8b,q8b,q8b,show e+d+1=e+1+d by omega,this]
 |.ap f g,e=>by rw[q8c,q8c,q8c,q8c,y5t a b d f e,y5t a b d g e]
inductive R:Tm->Tm->Prop
 |be (k:PV) (b a:Tm):R (.ap (.fn k b) a) (sb b 0 a)
 |fn (k:PV) {t t':Tm}:R t t'->R (.fn k t) (.fn k t')
 |l (a:Tm) {f f':Tm}:R f f'->R (.ap f a) (.ap f' a)
 |r (f:Tm) {a a':Tm}:R a a'->R (.ap f a) (.ap f a')
inductive Rs:Tm->Tm->Prop
 |nil (t:Tm):Rs t t
 |cons {t u v:Tm}:R t u->Rs u v->Rs t v
theorem Rs.one{t u:Tm}(h:R t u):Rs t u:=.cons h (.nil _)
theorem Rs.trans{t u v:Tm}(h:Rs t u)(g:Rs u v):Rs t v:=by
 induction h with
 |nil=>exact g
 |cons h1 _ ih=>exact .cons h1 (ih g)
theorem Rs.fn(k:PV){t u:Tm}(h:Rs t u):Rs (.fn k t) (.fn k u):=by
 induction h with
 |nil=>exact .nil _
 |cons h1 _ ih=>exact .cons (.fn k h1) ih
theorem Rs.l(a:Tm){t u:Tm}(h:Rs t u):Rs (.ap t a) (.ap u a):=by
 induction h with
 |nil=>exact .nil _
 |cons h1 _ ih=>exact .cons (.l a h1) ih
theorem Rs.r(f:Tm){t u:Tm}(h:Rs t u):Rs (.ap f t) (.ap f u):=by
 induction h with
 |nil=>exact .nil _
 |cons h1 _ ih=>exact .cons (.r f h1) ih
theorem pl_R{t:Tm}{p:List Nat}(h:Pl t p):R t (dn t p):=by
 induction h with
 |here k b a=>exact .be k b a
 |fn k t p _ ih=>exact .fn k ih
 |l f a p _ ih=>rw[show dn (.ap f a) (0::p)=.ap (dn f p) a by simp only[dn]];exact .l a ih
 |r f a p _ ih=>rw[show dn (.ap f a) (1::p)=.ap f (dn a p) by simp only[dn]];exact .r f ih
theorem R_pl{t u:Tm}(h:R t u):∃p,Pl t p/\u=dn t p:=by
 induction h with
 |be k b a=>exact⟨[],.here k b a,rfl⟩
 |fn k _ ih=>obtain⟨p,h1,rfl⟩:=ih;exact⟨0::p,.fn k _ p h1,rfl⟩
 |l a _ ih=>obtain⟨p,h1,rfl⟩:=ih;exact⟨0::p,.l _ a p h1,by simp only[dn]⟩
 |r f _ ih=>obtain⟨p,h1,rfl⟩:=ih;exact⟨1::p,.r f _ p h1,by simp only[dn]⟩
theorem R_af{t u:Tm}(h:R t u):af 1 t->af 1 u/\(∀j,oc u j<=oc t j)/\u.sz+3<=t.sz/\u.nd+2<=t.nd:=by
 induction h with
 |be k b a=>
  rintro⟨⟨h1,h2⟩,h3⟩
  refine⟨y8k 1 h3 b 0 h2,fun j=>?_,?_⟩
  ·rw[y2d,if_neg (by omega),if_neg (by omega)]
   simp only[oc,Nat.sub_zero]
   have:=Nat.mul_le_mul_right (oc a j) h1
   omega
  ·obtain⟨e1,e2⟩:=y5f a b 0
   have m1:=Nat.mul_le_mul_right a.nd h1
   have sp:=z3u a
   simp only[Tm.sz,Tm.nd]
   refine⟨?_,by omega⟩
   rcases Nat.le_one_iff_eq_zero_or_eq_one.mp h1 with z|z
   ·rw[z]at e1;omega
   ·rw[z]at e1;omega
 |fn k _ ih=>
  rintro⟨h1,h2⟩
  obtain⟨i1,i2,i3,i4⟩:=ih h2
  exact⟨⟨Nat.le_trans (i2 0) h1,i1⟩,fun j=>i2 (j+1),by simp only[Tm.sz];omega,by simp only[Tm.nd];omega⟩
 |l a _ ih=>
  rintro⟨h1,h2⟩
  obtain⟨i1,i2,i3,i4⟩:=ih h1
  exact⟨⟨i1,h2⟩,fun j=>by have:=i2 j;simp only[oc];omega,by simp only[Tm.sz];omega,by simp only[Tm.nd];omega⟩
 |r f _ ih=>
  rintro⟨h1,h2⟩
  obtain⟨i1,i2,i3,i4⟩:=ih h2
  exact⟨⟨h1,i1⟩,fun j=>by have:=i2 j;simp only[oc];omega,by simp only[Tm.sz];omega,by simp only[Tm.nd];omega⟩
theorem R_gd{t u:Tm}(h:R t u):∀n,t.gd n->u.gd n:=by
 induction h with
 |be k b a=>intro n hn;have:=y7o (n:=n) hn.2 b 0 (by rw[Nat.zero_add];exact hn.1.2);rw[Nat.zero_add]at this;exact this
 |fn k _ ih=>intro n hn;exact⟨hn.1,ih _ hn.2⟩
 |l a _ ih=>intro n hn;exact⟨ih _ hn.1,hn.2⟩
 |r f _ ih=>intro n hn;exact⟨hn.1,ih _ hn.2⟩
theorem R_rs{t u:Tm}(h:R t u):∀m c,R (rs t m c) (rs u m c):=by
 induction h with
 |be k b a=>
  intro m c
  have:=y5v a m c b 0
  rw[Nat.zero_add]at this
  rw[this]
  exact .be k _ _
 |fn k _ ih=>intro m c;exact .fn k (ih m (c+1))
 |l a _ ih=>intro m c;exact .l _ (ih m c)
 |r f _ ih=>intro m c;exact .r _ (ih m c)
theorem R_sb{t u:Tm}(h:R t u):∀(d:Nat)(a:Tm),R (sb t d a) (sb u d a):=by
 induction h with
 |be k b c=>
  intro d a
  have:=y5t a c d b 0
  rw[Nat.zero_add]at this
  rw[this]
  exact .be k _ _
 |fn k _ ih=>intro d a;exact .fn k (ih (d+1) a)
 |l c _ ih=>intro d a;exact .l _ (ih d a)
 |r f _ ih=>intro d a;exact .r _ (ih d a)
theorem y4l{a a':Tm}(h:R a a'):∀(t:Tm)(d:Nat),Rs (sb t d a) (sb t d a')
 |.nm _,_=>.nil _
 |.lf _ _,_=>.nil _
 |.bd k,d=>by
  rw[z5t,z5t]
  split
  ·exact .nil _
  ·split
   ·exact .one (R_rs h d 0)
   ·exact .nil _
 |.fn k t,d=>(y4l h t (d+1)).fn k
 |.ap f g,d=>((y4l h f d).l _).trans ((y4l h g d).r _)
theorem x9b{t u:Tm}(h:R t u):∀{v:Tm},R t v->∃w,Rs u w/\Rs v w:=by
 induction h with
 |be k b a=>
  intro v g
  cases g with
  |be=>exact⟨_,.nil _,.nil _⟩
  |l _ g=>cases g with
   |fn _ g=>exact⟨_,.one (R_sb g 0 a),.one (.be k _ _)⟩
  |r _ g=>exact⟨_,y4l g b 0,.one (.be k _ _)⟩
 |fn k _ ih=>
  intro v g
  cases g with
  |fn _ g=>obtain⟨w,h1,h2⟩:=ih g;exact⟨_,h1.fn k,h2.fn k⟩
 |l a h ih=>
  intro v g
  cases g with
  |be k b _=>cases h with
   |fn _ h=>exact⟨_,.one (.be k _ _),.one (R_sb h 0 a)⟩
  |l _ g=>obtain⟨w,h1,h2⟩:=ih g;exact⟨_,h1.l a,h2.l a⟩
  |r _ g=>exact⟨_,.one (.r _ g),.one (.l _ h)⟩
 |r f h ih=>
  intro v g
  cases g with
  |be k b _=>exact⟨_,.one (.be k b _),y4l h b 0⟩
  |l _ g=>exact⟨_,.one (.l _ g),.one (.r _ h)⟩
  |r _ g=>obtain⟨w,h1,h2⟩:=ih g;exact⟨_,h1.r f,h2.r f⟩
def Nf(t:Tm):Prop:=∀u,¬R t u
theorem y8o{t u:Tm}(h:Rs t u):af 1 t->af 1 u/\(∀j,oc u j<=oc t j)/\u.sz<=t.sz/\u.nd<=t.nd:=by
 induction h with
 |nil=>intro h;exact⟨h,fun _=>Nat.le_refl _,Nat.le_refl _,Nat.le_refl _⟩
 |cons h1 _ ih=>
  intro h
  obtain⟨a1,a2,a3,a4⟩:=R_af h1 h
  obtain⟨b1,b2,b3,b4⟩:=ih a1
  exact⟨b1,fun j=>Nat.le_trans (b2 j) (a2 j),by omega,by omega⟩
theorem w1j{t u:Tm}(h:Rs t u):∀n,t.gd n->u.gd n:=by
 induction h with
 |nil=>intro n h;exact h
 |cons h1 _ ih=>intro n h;exact ih n (R_gd h1 n h)
theorem z0j:∀(n:Nat)(t:Tm),t.sz<=n->af 1 t->∀u v,Rs t u->Nf u->Rs t v->Nf v->u=v
 |0,t,hz,_,_,_,_,_,_,_=>by have:=z3u t;omega
 |n+1,t,hz,ha,u,v,hu,nu,hv,nv=>by
  cases hu with
  |nil=>cases hv with
   |nil=>rfl
   |cons h _=>exact absurd h (nu _)
  |cons h1 hu=>cases hv with
   |nil=>exact absurd h1 (nv _)
   |cons h2 hv=>
    rename_i u1 v1
    obtain⟨a1,_,z1,_⟩:=R_af h1 ha
    obtain⟨a2,_,z2,_⟩:=R_af h2 ha
    obtain⟨w,w1,w2⟩:=x9b h1 h2
    obtain⟨w3,_,z3,_⟩:=y8o w1 a1
    obtain⟨x,hx,nx⟩:=ex_nf n w (by omega) w3
    have e1:=z0j n u1 (by omega) a1 u x hu nu (w1.trans hx) nx
    have e2:=z0j n v1 (by omega) a2 v x hv nv (w2.trans hx) nx
    rw[e1,e2]
where ex_nf:∀(n:Nat)(t:Tm),t.sz<=n->af 1 t->∃x,Rs t x/\Nf x
 |0,t,hz,_=>by have:=z3u t;omega
 |n+1,t,hz,ha=>by
  by_cases h:Nf t
  ·exact⟨t,.nil _,h⟩
  ·obtain⟨u,hu⟩:∃u,R t u:=Classical.byContradiction fun c=>h fun u hu=>c ⟨u,hu⟩
   obtain⟨a1,_,z1,_⟩:=R_af hu ha
   obtain⟨x,h1,h2⟩:=ex_nf n u (by omega) a1
   exact⟨x,.cons hu h1,h2⟩
def lfs:Tm->List (Int×PV)
 |.lf n f=>[(n,f)]
 |.fn _ t=>lfs t
 |.ap f a=>lfs f++lfs a
 |_=>[]
def li:Tm->Prop
 |.fn _ t=>oc t 0=1/\li t
 |.ap f a=>li f/\li a
 |_=>True
instance w1n:DecidableEq (Int×PV):=fun _ _=>Classical.propDecidable _
def fl(L:Int->PV->Tm):Tm->Tm
 |.lf n f=>L n f
 |.fn k t=>.fn k (fl L t)
 |.ap f a=>.ap (fl L f) (fl L a)
 |t=>t
theorem y1b:∀(t:Tm){d:Nat}(a:Tm),t.gd d->sb t d a=t
 |.nm _,_,_,_=>rfl
 |.lf _ _,_,_,_=>rfl
 |.bd k,d,a,h=>q6q h
 |.fn k t,d,a,h=>by rw[q8b,y1b t a h.2]
 |.ap f g,d,a,h=>by rw[q8c,y1b f a h.1,y1b g a h.2]
theorem z6s:∀(t:Tm){n m:Nat},n<=m->t.gd n->t.gd m
 |.nm _,_,_,_,_=>trivial
 |.lf _ _,_,_,_,h=>h
 |.bd k,n,m,l,h=>Nat.lt_of_lt_of_le (show k<n from h) l
 |.fn _ t,n,m,l,h=>⟨h.1,z6s t (Nat.succ_le_succ l) h.2⟩
 |.ap f a,n,m,l,h=>⟨z6s f l h.1,z6s a l h.2⟩
section
variable{L:Int->PV->Tm}(hL:∀n f,(L n f).gd 0)
include hL
end
inductive FK:PV->Kd->Prop
 |b (s:Str):FK (.tup [.str "basic",.str s]) (.a s)
 |n (l:Bool) {x y:PV} {kx ky:Kd}:FK x kx->FK y ky->FK (.tup [.str (if l=true then Str.ofString "\\" else Str.ofString "/"),x,y]) (.p ky kx)
theorem FK.plain{f:PV}{k:Kd}(h:FK f k):q1v f=true/\dep f<=k.dp+1:=by
 induction h with
 |b s=>exact⟨by simp[q1v,q3f],by simp[dep,deps]⟩
 |n l _ _ h1 h2=>exact⟨by simp only[q1v,q3f,List.length_cons,List.length_nil,Nat.reduceAdd,Nat.reduceLeDiff,decide_true,Bool.and_true,h1.1,h2.1,Bool.and_self],by simp only[dep,deps,Kd.dp];omega⟩
def lkN(ps:List (Str×Kd))(w:Str):Option Kd:=(ps.find? fun p=>decide (p.1=w)).map (·.2)
theorem x2h{ps qs:List (Str×Kd)}{w:Str}{k:Kd}(h:lkN ps w=some k):lkN (ps++qs) w=some k:=by
 unfold lkN at h ⊢
 rw[List.find?_append]
 cases e:ps.find? fun p=>decide (p.1=w)with
 |none=>rw[e]at h;cases h
 |some p=>rw[e]at h;exact h
inductive Ty(ps:List (Str×Kd)):List Kd->Tm->Kd->Prop
 |nm {e:List Kd} {w:Str} {k:Kd}:lkN ps w=some k->Ty ps e (.nm w) k
 |lf {e:List Kd} (n:Int) {f:PV} {k:Kd}:FK f k->k.dp<=20->Ty ps e (.lf n f) k
 |bd {e:List Kd} {j:Nat} {k:Kd}:e[j]?=some k->Ty ps e (.bd j) k
 |fn {e:List Kd} {k k':Kd} {t:Tm}:k.dp<=20->Ty ps (k::e) t k'->Ty ps e (.fn k.pv t) (.p k k')
 |ap {e:List Kd} {k k':Kd} {f a:Tm}:Ty ps e f (.p k k')->Ty ps e a k->Ty ps e (.ap f a) k'
theorem Ty.mono{ps qs:List (Str×Kd)}{e:List Kd}{t:Tm}{k:Kd}(h:Ty ps e t k):Ty (ps++qs) e t k:=by
 induction h with
 |nm h=>exact .nm (x2h h)
 |lf n h g=>exact .lf n h g
 |bd h=>exact .bd h
 |fn h _ ih=>exact .fn h ih
 |ap _ _ i1 i2=>exact .ap i1 i2
theorem Ty.gd{ps:List (Str×Kd)}{e:List Kd}{t:Tm}{k:Kd}(h:Ty ps e t k):t.gd e.length:=by
 induction h with
 |nm h=>trivial
 |lf n h g=>exact⟨h.plain.1,by have:=h.plain.2;omega⟩
 |bd h=>exact(List.getElem?_eq_some_iff.mp h).1
 |fn h _ ih=>exact⟨⟨q9p _,by rw[z4r];omega⟩,ih⟩
 |ap _ _ i1 i2=>exact⟨i1,i2⟩
instance w1m:DecidableEq Kd:=fun _ _=>Classical.propDecidable _
theorem y3m:∀f g:Kd,eqB f.pv g.pv=decide (f=g)
 |.a s,.a t=>by simp[Kd.pv,q4o]
 |.a s,.p f t=>by simp[Kd.pv,y3l]
 |.p f t,.a s=>by simp[Kd.pv,y3k]
 |.p f t,.p f' t'=>by
  have h1:=y3m f f'
  have h2:=y3m t t'
  simp only[Kd.pv,q6s,eqBs,h1,h2,Bool.and_true,Kd.p.injEq]
  by_cases z1:f=f'<;>by_cases z2:t=t'<;>simp[z1,z2]
theorem x8u{k k':Kd}{S:q0i}{Q:VC}(h1:k.dp<=20)(h2:k'.dp<=20)(h:Q (.bl (decide (k=k'))) S):cEq k.pv k'.pv S Q:=by
 have o1:=y2c (k:=k) (by omega)
 have o2:=y2c (k:=k') (by omega)
 rw[<-y3m]at h
 cases k with
 |a s=>
  cases k' with
  |a t=>rw[Kd.pv,Kd.pv,y9q];simpa[Kd.pv,q4o]using h
  |p f t=>rw[Kd.pv,Kd.pv,y9p];exact⟨by have:=o2.1;rw[Kd.pv,z0h]at this;exact this,by simpa[Kd.pv,y3l]using h⟩
 |p f t=>
  cases k' with
  |a t=>rw[Kd.pv,Kd.pv,y9o];exact⟨by have:=o1.1;rw[Kd.pv,z0h]at this;exact this,by simpa[Kd.pv,y3k]using h⟩
  |p f' t'=>rw[Kd.pv,Kd.pv,z8g];rw[Kd.pv]at o1 o2;exact⟨⟨o1,o2⟩,by simpa[Kd.pv,q6s]using h⟩
structure Wt(w b m d c u:Nat)(ps:List (Str×Kd))(S:q0i):Prop where
 dk:Deck d c S
 wd:S[w]?=some (.dK (y8r b m d (u:Nat)))
 bs:∃ws:List Str,S[b]?=some (.lst (ws.map PV.str))/\ws.length=3
 nm:S[m]?=some (.lst (ps.map encN))
 ok:∀p∈ps,q3t p.1=true/\p.2.dp<=20
 nd:(ps.map (·.1)).Nodup
 ne:(w≠d/\w≠c)/\(b≠d/\b≠c)/\(m≠d/\m≠c)/\w≠m/\b≠m
theorem Wt.ex{w b m d c u:Nat}{ps:List (Str×Kd)}{S S':q0i}(h:Wt w b m d c u ps S){D:List Nat}(e:Ex D S S')(hw:w∉D)(hb:b∉D)(hm:m∉D)(hd:d∉D)(hc:c∉D):Wt w b m d c u ps S':=by
 obtain⟨dk,wd,⟨ws,b1,b2⟩,p1,p2,p3,ne⟩:=h
 exact⟨dk.ex e hd hc,e.get wd hw,⟨ws,e.get b1 hb,b2⟩,e.get p1 hm,p2,p3,ne⟩
theorem Wt.nx{w b m d c u:Nat}{ps:List (Str×Kd)}{S S':q0i}(h:Wt w b m d c u ps S)(hd:Deck d c S')(e:Ex [d,c] S S'):Wt w b m d c u ps S':=by
 obtain⟨dk,wd,⟨ws,b1,b2⟩,p1,p2,p3,ne⟩:=h
 exact⟨hd,e.get wd (by simp;exact ne.1),⟨ws,e.get b1 (by simp;exact ne.2.1),b2⟩,e.get p1 (by simp;exact ne.2.2.1),p2,p3,ne⟩
theorem Wt.new{w b m d c u:Nat}{ps:List (Str×Kd)}{S:q0i}(h:Wt w b m d c u ps S)(xs:List SO):Wt w b m d c u ps (S++xs):=h.ex (Ex.new [] _ _) (by simp) (by simp) (by simp) (by simp) (by simp)
theorem Wt.lt{w b m d c u:Nat}{ps:List (Str×Kd)}{S:q0i}(h:Wt w b m d c u ps S):w<S.length/\b<S.length/\m<S.length/\d<S.length/\c<S.length:=by
 obtain⟨ws,g,_⟩:=h.bs
 have hd:=h.dk
 obtain⟨⟨_,_,_,_,_,_,g1,g2,_⟩,_⟩:=hd
 exact⟨q1l h.wd,q1l g,q1l h.nm,q1l g1,q1l g2⟩
def Fm.kk:Fm->Kd
 |.b s=>.a s
 |.n _ x y=>.p y.kk x.kk
theorem z6d:∀f:Fm,f.kk.pv=f.kd
 |.b s=>rfl
 |.n _ x y=>by simp only[Fm.kk,Kd.pv,Fm.kd,z6d x,z6d y]
theorem y2p:∀f:Fm,f.kk.dp<=f.dp
 |.b s=>Nat.zero_le _
 |.n _ x y=>by have:=y2p x;have:=y2p y;simp only[Fm.kk,Kd.dp,Fm.dp];omega
structure Bk2(a b n:Nat)(ps:List (Str×Kd))(S:q0i):Prop where
 is:∃ws:List Str,S[a]?=some (.lst (ps.map encN))/\S[b]?=some (.lst (ws.map PV.str))/\n<=ws.length/\ps.length+ws.length<=100/\(ps.map (·.1)++ws).Nodup
 dp:∀p∈ps,p.2.dp<=20
 ne:a≠b
theorem Bk2.ex{a b n:Nat}{ps:List (Str×Kd)}{S S':q0i}{D:List Nat}(h:Bk2 a b n ps S)(e:Ex D S S')(h1:a∉D)(h2:b∉D):Bk2 a b n ps S':=by
 obtain⟨⟨ws,g1,g2,r⟩,dp,ne⟩:=h
 exact⟨⟨ws,e.get g1 h1,e.get g2 h2,r⟩,dp,ne⟩
theorem Bk2.lt{a b n:Nat}{ps:List (Str×Kd)}{S:q0i}(h:Bk2 a b n ps S):a<S.length/\b<S.length:=by
 obtain⟨⟨ws,g1,g2,r⟩,_,ne⟩:=h
 exact⟨q1l g1,q1l g2⟩
theorem Bk2.le{a b n m:Nat}{ps:List (Str×Kd)}{S:q0i}(h:Bk2 a b n ps S)(k:m<=n):Bk2 a b m ps S:=by
 obtain⟨⟨ws,g1,g2,h1,r⟩,dp,ne⟩:=h
 exact⟨⟨ws,g1,g2,by omega,r⟩,dp,ne⟩
theorem y7w{d c:Nat}{S:q0i}(h:Deck d c S):d<S.length/\c<S.length:=by
 obtain⟨⟨_,_,_,_,_,_,g1,g2,_⟩,_⟩:=h
 exact⟨q1l g1,q1l g2⟩
structure Ap2(d c a b:Nat):Prop where
 ad:a≠d
 ac:a≠c
 bd:b≠d
 bc:b≠c
structure Bd(ps:List (Str×Kd))(e:List Kd)(t:Tm)(k:Kd)(z:Nat):Prop where
 ty:Ty ps e t k
 oc:∀j,oc t j<=1
 af:af 1 t
 lf:lfs t=[]
 sz:t.sz<=z
 nd:t.nd+7<=z
structure Bt(ps:List (Str×Kd))(t:Tm)(k:Kd):Prop where
 ty:Ty ps [] t k
 af:af 1 t
 lf:lfs t=[]
 sz:t.sz<=30
 nd:t.nd<=19
theorem Bt.mono{ps qs:List (Str×Kd)}{t:Tm}{k:Kd}(h:Bt ps t k):Bt (ps++qs) t k:=⟨h.ty.mono,h.af,h.lf,h.sz,h.nd⟩
theorem Bd.le{ps:List (Str×Kd)}{e:List Kd}{t:Tm}{k:Kd}{z y:Nat}(h:Bd ps e t k z)(l:z<=y):Bd ps e t k y:=⟨h.ty,h.oc,h.af,h.lf,Nat.le_trans h.sz l,Nat.le_trans h.nd l⟩
theorem Bd.mono{ps qs:List (Str×Kd)}{e:List Kd}{t:Tm}{k:Kd}{z:Nat}(h:Bd ps e t k z):Bd (ps++qs) e t k z:=⟨h.ty.mono,h.oc,h.af,h.lf,h.sz,h.nd⟩
mutual
theorem y1n:∀v:PV,plV v=true->nrf v=true
 |.str _,_=>rfl
 |.int _,_=>rfl
 |.tup xs,h=>by
  simp only[plV,Bool.and_eq_true]at h
  simp only[nrf]
  exact z7o xs h.1
 |.non,h=>by simp[plV]at h
 |.bl _,h=>by simp[plV]at h
 |.ref _,h=>by simp[plV]at h
 |.frl _,h=>by simp[plV]at h
 |.ty _,h=>by simp[plV]at h
 |.exc _,h=>by simp[plV]at h
theorem z7o:∀xs:List PV,plVs xs=true->nrfs xs=true
 |[],_=>rfl
 |x::r,h=>by
  simp only[plVs,Bool.and_eq_true]at h
  simp only[nrfs,y1n x h.1,z7o r h.2,Bool.and_self]
end
def okP(n:Nat)(v:PV):Prop:=plV v=true/\dep v<=n
theorem okP.le{n m:Nat}{v:PV}(h:okP n v)(k:n<=m):okP m v:=⟨h.1,Nat.le_trans h.2 k⟩
theorem okP.eq{n:Nat}{v:PV}(h:okP n v)(k:n<=190):okEq v:=⟨y1n v h.1,Nat.le_trans h.2 k⟩
def pfP(p:Str×Fm):PV:=.tup [.str p.1,p.2.pv]
def trP(t:(Str×Fm)×PV):PV:=.tup [.str t.1.1,t.1.2.pv,t.2]
def ky(ws:List Str)(p:Int×Fm):Str×Fm:=((ws[p.1.toNat]?).getD (mk []),p.2)
theorem x7k{ws:List Str}{p:Int×Fm}(h0:0<=p.1)(h1:p.1<(ws.length:Int)):atI (ws.map PV.str) p.1=some (.str (ky ws p).1):=by
 obtain⟨i,f⟩:=p
 obtain⟨n,rfl⟩:=Int.eq_ofNat_of_zero_le h0
 have hn:n<ws.length:=by simpa using h1
 show atI (ws.map PV.str) ((n:Nat):Int)=_
 rw[q9w _ n (by rw[List.length_map];exact hn),List.getElem_map]
 simp[ky,hn]
def bkP(x y:PV)(tr:List ((Str×Fm)×PV)):PV:=.tup [x,y,.tup (tr.map trP)]
theorem bk2(x y:PV)(tr:List ((Str×Fm)×PV))(S:q0i)(Q:VC):bIx (bkP x y tr) (.int 2) S Q=Q (.tup (tr.map trP)) S:=rfl
structure GB(tr:List ((Str×Fm)×PV))(ws:List Str)(r:Rd):Prop where
 nd:(tr.map (·.1)).Nodup
 len:tr.length<=10
 ok:∀t∈tr,t.1.2.lv<=5
 all:∀p∈r.ws,0<=p.1/\p.1<(ws.length:Int)/\ky ws p∈tr.map (·.1)/\p.2.lv<=5
def ftP(t:(Str×Fm)×PV):PV:=.tup [t.1.2.pv,t.2]
def x9a(sp:Den):Prop:=∀(x y:PV)(tr:List ((Str×Fm)×PV))(w:Str)(S:q0i)(E:EK)(Q:VC),tr.length<=100->(∃t∈tr,t.1.1=w)->
 (∀(q:Nat) S',S'[q]?=some (.lst ((tr.filter fun t=>decide (t.1.1=w)).map ftP))->Ex [] S S'->Q (.ref q) S')->sp [bkP x y tr,.str w] S E Q
theorem y1d:x9a (fnP 2 3 q3x):=by
 intro x y tr w S E Q hl hex h
 refine⟨rfl,?_⟩
 unfold q3x
 have p2:2<=sizeLine:=big (by decide)
 refine seqI fun K hK=>?_
 dsimp![bk2]
 refine⟨by rw[List.length_map];exact big (by omega),?_⟩
 refine z3a (fun rest ys σ S2=>∃(us vs:List ((Str×Fm)×PV))(j0 j1 j2:Option PV),rest=us.map trP/\σ=[j0,j1,j2,some (.str w)]/\S2=S/\ys=(vs.filter fun t=>decide (t.1.1=w)).map ftP/\vs++us=tr) ?_ ?_ _ _ _ _ ⟨tr,[],none,none,none,rfl,rfl,rfl,rfl,rfl⟩
 ·rintro ys σ S2 ⟨us,vs,j0,j1,j2,hr',rfl,rfl,rfl,e⟩
  obtain rfl:us=[]:=by cases us with
   |nil=>rfl
   |cons a b=>simp at hr'
  rw[List.append_nil]at e
  subst e
  refine⟨trivial,hK _ _ ?_⟩
  clear hK
  have gn:=q1g S2 (.lst ((vs.filter fun t=>decide (t.1.1=w)).map ftP))
  have hx:Ex [] S2 (S2++[SO.lst ((vs.filter fun t=>decide (t.1.1=w)).map ftP)]):=Ex.new [] _ _
  refine seqI fun K hK=>?_
  have hne:(vs.filter fun t=>decide (t.1.1=w)).map ftP≠[]:=by
   obtain⟨t,ht,e⟩:=hex
   have:t∈vs.filter fun t=>decide (t.1.1=w):=List.mem_filter.mpr ⟨ht,by simpa using e⟩
   intro z
   rw[List.map_eq_nil_iff]at z
   rw[z]at this
   cases this
  generalize S2.length=q at *
  generalize S2++[SO.lst ((vs.filter fun t=>decide (t.1.1=w)).map ftP)]=S3 at *
  dsimp![gn]
  refine ite2 (fun c=>absurd (List.isEmpty_iff.mp (by simpa using c)) hne) (fun _=>hK _ _ ?_)
  dsimp![true_and]
  exact h q S3 gn hx
 ·rintro z rest ys σ S2 ⟨us,vs,j0,j1,j2,hr',rfl,rfl,rfl,e⟩ N hN
  obtain⟨t,us,rfl⟩:∃p r,us=p::r:=by
   cases us with
   |nil=>simp at hr'
   |cons a b=>exact⟨a,b,rfl⟩
  simp only[List.map_cons,List.cons.injEq]at hr'
  obtain⟨rfl,rfl⟩:=hr'
  refine⟨trivial,?_⟩
  dsimp![trP]
  have e2:(vs++[t])++us=tr:=by simp[<-e]
  refine ite2 (fun c=>⟨p2,?_⟩) (fun c=>?_)
  ·have:=hN _ _ _ ⟨us,vs++[t],some (.str t.1.1),some t.1.2.pv,some t.2,rfl,rfl,rfl,rfl,e2⟩
   rw[List.filter_append,List.filter_cons_of_pos (by simpa using c),List.filter_nil,List.map_append]at this
   exact this
  ·have:=hN _ _ _ ⟨us,vs++[t],some (.str t.1.1),some t.1.2.pv,some t.2,rfl,rfl,rfl,rfl,e2⟩
   rw[List.filter_append,List.filter_cons_of_neg (by simpa using c),List.filter_nil,List.append_nil]at this
   exact this
structure TrsT(ks:List (Str×Fm))(tr:List ((Str×Fm)×Tm))(ps:List (Str×Kd)):Prop where
 nd:(tr.map (·.1)).Nodup
 all:∀p∈ks,p∈tr.map (·.1)
 ok:∀t∈tr,Bt ps t.2 t.1.2.kk/\t.1.2.lv<=5
 len:tr.length<=ks.length
structure At(w b m d c a:Nat)(V:List (Nat×Kd))(g:Nat->Nat)(S:q0i):Prop where
 at':S[a]?=some (.lst (V.reverse.map fun x=>PV.ref x.1))
 rw':∀x∈V,S[x.1]?=some (.lst [x.2.pv,.int (g x.1:Nat)])/\x.2.dp<=20
 ne:∀r∈a::V.map (·.1),r≠w/\r≠b/\r≠m/\r≠d/\r≠c
 na:a∉V.map (·.1)
 nd:(V.map (·.1)).Nodup
theorem At.ex{w b m d c a:Nat}{V:List (Nat×Kd)}{g:Nat->Nat}{S S':q0i}(h:At w b m d c a V g S)(e:Ex [m,d,c] S S'):At w b m d c a V g S':=by
 have k:∀r∈a::V.map (·.1),r∉[m,d,c]:=fun r hr=>by have:=h.ne r hr;simp;exact⟨this.2.2.1,this.2.2.2.1,this.2.2.2.2⟩
 exact⟨e.get h.at' (k a (by simp)),fun x hx=>by obtain⟨h1,h2⟩:=h.rw' x hx;exact⟨e.get h1 (k x.1 (List.mem_cons_of_mem _ (List.mem_map.mpr ⟨x,hx,rfl⟩))),h2⟩,h.ne,h.na,h.nd⟩
theorem At.nx{w b m d c a:Nat}{V:List (Nat×Kd)}{g:Nat->Nat}{S S':q0i}(h:At w b m d c a V g S)(e:Ex [d,c] S S'):At w b m d c a V g S':=h.ex (e.weak (by simp))
structure Got(u:Nat)(ps:List (Str×Kd))(V:List (Nat×Kd))(g g':Nat->Nat)(t:Tm)(k:Kd):Prop where
 ty:Ty ps (V.map (·.2)) t k
 af:af u t
 us:∀j x,V[j]?=some x->oc t j+g' x.1<=g x.1
theorem forC{chk:q0i->Prop}{g:WG}{wb:WS}{D:PEnds}{E:EK}{x:PV}{r:List PV}{σ:Ev.Loc}{S:q0i}(hc:chk S)(h:∀N:Ev.Loc->q0i->Prop,(∀σ S,z4n chk g wb D E r σ S->N σ S)->g x σ S E fun σ2 S2=>wb {nx:=N,rt:=D.rt,ct:=N,bk:=D.nx} E σ2 S2):z4n chk g wb D E (x::r) σ S:=⟨hc,_,fun _ _ z=>z,h _ fun _ _ z=>z⟩
def bo:Tm->Nat->List (Nat×Nat)
 |.bd k,d=>[(k,d)]
 |.fn _ b,d=>bo b (d+1)
 |.ap f a,d=>bo f d++bo a d
 |_,_=>[]
def x1w(p:Tm×List Nat):Option (Nat×Nat):=match p.1 with
 |.bd k=>some (k,p.2.length)
 |_=>none
theorem z3c:∀(t:Tm)(fs:List Nat)(i:Nat),(q2x t fs i).filterMap x1w=bo t fs.length
 |.nm _,_,_=>rfl
 |.lf _ _,_,_=>rfl
 |.bd _,_,_=>rfl
 |.fn _ b,fs,i=>by rw[q2x,List.filterMap_cons_none rfl,z3c b,List.length_append];rfl
 |.ap f a,fs,i=>by rw[q2x,List.filterMap_cons_none rfl,List.filterMap_append,z3c f,z3c a];rfl
theorem z4y:∀(t:Tm)(d:Nat),(bo t d).length<=t.sz
 |.nm _,_=>Nat.zero_le _
 |.lf _ _,_=>Nat.zero_le _
 |.bd _,_=>Nat.le_refl _
 |.fn _ b,d=>by have:=z4y b (d+1);simp only[bo,Tm.sz];omega
 |.ap f a,d=>by have:=z4y f d;have:=z4y a d;simp only[bo,Tm.sz,List.length_append];omega
def encP(p:Nat×Nat):PV:=.tup [.int (p.1:Nat),.int (p.2:Nat)]
def BoD(sp:Den):Prop:=∀(t:Tm)(S:q0i)(E:EK)(Q:VC),t.sz<=1000->(∀(r:Nat) S',S'[r]?=some (.lst ((bo t 0).map encP))->Ex [] S S'->Q (.ref r) S')->sp [t.pv] S E Q
theorem w1h{sp:Den}(hp:z8o sp):BoD (fnP 1 1 (q3a sp)):=by
 intro t S E Q hz h
 refine⟨rfl,?_⟩
 unfold q3a
 dsimp![true_and]
 refine hp t _ _ _ hz fun r S1 e _ hx=>?_
 dsimp![q0v e]
 refine⟨by rw[List.length_map,q9n];exact big (by omega),?_⟩
 refine z3a (fun rest ys σ S2=>∃(ps qs:List (Tm×List Nat))(j1 j2:Option PV),rest=ps.map enc/\σ=[j1,j2]/\S2=S1/\ys=(qs.filterMap x1w).map encP/\qs++ps=q2x t [] 0) ?_ ?_ _ _ _ _ ⟨q2x t [] 0,[],none,none,rfl,rfl,rfl,rfl,rfl⟩
 ·rintro ys σ S2 ⟨ps,qs,j1,j2,hr,rfl,rfl,rfl,hq⟩
  obtain rfl:ps=[]:=by cases ps with
   |nil=>rfl
   |cons a b=>simp at hr
  refine⟨q0v e,h _ _ ?_ (hx.app _)⟩
  rw[q1g]
  rw[List.append_nil]at hq
  rw[hq,z3c];rfl
 ·rintro x rest ys σ S2 ⟨ps,qs,j1,j2,hr,rfl,rfl,rfl,hq⟩ N hN
  obtain⟨⟨u,fs⟩,ps,rfl⟩:∃p r,ps=p::r:=by
   cases ps with
   |nil=>simp at hr
   |cons a b=>exact⟨a,b,rfl⟩
  simp only[List.map_cons,List.cons.injEq]at hr
  obtain⟨rfl,rfl⟩:=hr
  refine⟨q0v e,?_⟩
  cases u with
  |nm w=>
   dsimp![enc,Tm.pv,q0x,tg3]
   exact hN _ _ _ ⟨ps,qs++[(.nm w,fs)],_,_,rfl,rfl,rfl,by rw[List.filterMap_append,List.filterMap_cons_none rfl];simp,by simp[<-hq]⟩
  |lf a b=>
   dsimp![enc,Tm.pv,q0x,tg6]
   exact hN _ _ _ ⟨ps,qs++[(.lf a b,fs)],_,_,rfl,rfl,rfl,by rw[List.filterMap_append,List.filterMap_cons_none rfl];simp,by simp[<-hq]⟩
  |fn a b=>
   dsimp![enc,Tm.pv,q0x,tga]
   exact hN _ _ _ ⟨ps,qs++[(.fn a b,fs)],_,_,rfl,rfl,rfl,by rw[List.filterMap_append,List.filterMap_cons_none rfl];simp,by simp[<-hq]⟩
  |ap a b=>
   dsimp![enc,Tm.pv,q0x,tgc]
   exact hN _ _ _ ⟨ps,qs++[(.ap a b,fs)],_,_,rfl,rfl,rfl,by rw[List.filterMap_append,List.filterMap_cons_none rfl];simp,by simp[<-hq]⟩
  |bd k=>
   have hl:(encI fs).length=fs.length:=by simp[encI]
   dsimp![enc,Tm.pv,q0x,q8u,hl]
   refine⟨big (by decide),?_⟩
   exact hN _ _ _ ⟨ps,qs++[(.bd k,fs)],_,_,rfl,rfl,rfl,by rw[List.filterMap_append];simp[x1w,encP],by simp[<-hq]⟩
def wboG:WG:=q4e 2 (q1e (q0z 4) (q1e (q0z 5) q4j))
def wboB:WS:=(wIfS (q0w (wBin cEq (wBin bIx (wVar 4) (wC (.int 0))) (wC (.str "bound"))))
 (q3c (wBM "list" q1s (wVar 3) (q0d (wBM0 "list" mPop (wVar 2)) wNil)))
 (wIfS (q0w (wBin cEq (wBin bIx (wVar 4) (wC (.int 0))) (wC (.str "fn"))))
 (q3c (wBM "list" q1s (wVar 3) (q0d (wTup (q0d (wC (.str "fn")) (q0d (wBin bIx (wVar 4) (wC (.int 1))) (q0d (wBM0 "list" mPop (wVar 3)) wNil)))) wNil)))
 (wIfS (q0w (wBin cEq (wBin bIx (wVar 4) (wC (.int 0))) (wC (.str "of"))))
 (wSeq (wSet 6 (wBM0 "list" mPop (wVar 3)))
 (q3c (wBM "list" q1s (wVar 3) (q0d (wTup (q0d (wC (.str "of")) (q0d (wVar 6) (q0d (wBM0 "list" mPop (wVar 3)) wNil)))) wNil))))
 (q3c (wBM "list" q1s (wVar 3) (q0d (wVar 4) wNil))))))
structure Wb(x0 x1:PV)(r tl rw:Nat)(rows:List PV)(S0:q0i)(R st:List Tm)(σ:Ev.Loc)(S:q0i):Prop where
 loc:∃j4 j5 j6:Option PV,σ=[some x0,some x1,some (.ref r),some (.ref tl),j4,j5,j6]
 gr:S[r]?=some (.lst (R.map Tm.pv))
 gt:S[tl]?=some (.lst (st.reverse.map Tm.pv))
 gw:S[rw]?=some (.lst rows)
 ex:Ex [] S0 S
theorem x4a{x0 x1:PV}{r tl rw:Nat}{rows:List PV}{S0:q0i}{D:PEnds}{E:EK}(F:Nat->Nat->Tm)(h1:S0.length<=r)(h2:S0.length<=tl)(n1:r≠tl)(n2:rw≠r)(n3:rw≠tl):∀(t:Tm)(fs:List Nat)(i:Nat)(REST:List PV)(R st:List Tm)(σ:Ev.Loc)(S:q0i),
  t.sz+st.length<=2000->Wb x0 x1 r tl rw rows S0 (R++(bo t fs.length).map fun p=>F p.1 p.2) st σ S->
  (∀σ' S',Wb x0 x1 r tl rw rows S0 R (mb F t fs.length::st) σ' S'->z4n (fun S=>q3i S rw=some rows) wboG wboB D E REST σ' S')->
  z4n (fun S=>q3i S rw=some rows) wboG wboB D E ((q2x t fs i).reverse.map enc++REST) σ S:=by
 intro t
 induction t with
 |nm w=>
  rintro fs i REST R st σ S hz ⟨⟨j4,j5,j6,rfl⟩,gr,gt,gw,ex⟩ h
  simp only[bo,List.map_nil,List.append_nil]at gr
  refine forC (q0v gw) fun N hN=>?_
  unfold wboB wboG
  dsimp![enc,Tm.pv,q0x,tg3,tg1,tg2,gt,q1f gt]
  refine⟨by simp only[List.length_map,List.length_reverse];exact bigl (by omega),hN _ _ (h _ _ ⟨⟨_,_,_,rfl⟩,q1x _ gr (Ne.symm n1),?_,q1x _ gw (Ne.symm n3),ex.set (.inr h2)⟩)⟩
  rw[q1k _ gt];simp[mb,Tm.pv]
 |lf a b=>
  rintro fs i REST R st σ S hz ⟨⟨j4,j5,j6,rfl⟩,gr,gt,gw,ex⟩ h
  simp only[bo,List.map_nil,List.append_nil]at gr
  refine forC (q0v gw) fun N hN=>?_
  unfold wboB wboG
  dsimp![enc,Tm.pv,q0x,tg6,tg4,tg5,gt,q1f gt]
  refine⟨by simp only[List.length_map,List.length_reverse];exact bigl (by omega),hN _ _ (h _ _ ⟨⟨_,_,_,rfl⟩,q1x _ gr (Ne.symm n1),?_,q1x _ gw (Ne.symm n3),ex.set (.inr h2)⟩)⟩
  rw[q1k _ gt];simp[mb,Tm.pv]
 |bd k=>
  rintro fs i REST R st σ S hz ⟨⟨j4,j5,j6,rfl⟩,gr,gt,gw,ex⟩ h
  simp only[bo,List.map_cons,List.map_nil,List.map_append]at gr
  refine forC (q0v gw) fun N hN=>?_
  unfold wboB wboG
  have gt2:=q1x (j:=r) (.lst (R.map Tm.pv)) gt n1
  dsimp![enc,Tm.pv,q0x,gt,gr,q1f gr,List.getLast?_append,List.getLast?_singleton,Option.or,Option.some_or,List.dropLast_concat]
  dsimp![q1f gt2]
  refine⟨by simp only[List.length_map,List.length_reverse];exact bigl (by omega),hN _ _ (h _ _ ⟨⟨_,_,_,rfl⟩,q1x _ (q1k _ gr) (Ne.symm n1),?_,q1x _ (q1x _ gw (Ne.symm n2)) (Ne.symm n3),(ex.set (.inr h1)).set (.inr h2)⟩)⟩
  rw[q1k _ gt2];simp[mb]
 |fn k b ih=>
  rintro fs i REST R st σ S hz hW h
  simp only[Tm.sz]at hz
  simp only[q2x,List.reverse_cons,List.map_append,List.append_assoc,List.map_cons,List.map_nil,List.singleton_append]
  refine ih (fs++[i]) (i+1) _ R st σ S (by omega) (by simpa[bo]using hW) ?_
  rintro σ' S' ⟨⟨j4,j5,j6,rfl⟩,gr,gt,gw,ex⟩
  rw[List.length_append,List.length_singleton]at gt
  simp only[List.reverse_cons,List.map_append,List.map_cons,List.map_nil]at gt
  refine forC (q0v gw) fun N hN=>?_
  unfold wboB wboG
  have gt2:=q1k (.lst (st.reverse.map Tm.pv)) gt
  dsimp![enc,Tm.pv,q0x,q8u,tga,gt,q1f gt,List.getLast?_append,List.getLast?_singleton,Option.or,Option.some_or,List.dropLast_concat]
  dsimp![q1f gt2]
  refine⟨big (by decide),by simp only[List.length_map,List.length_reverse];exact bigl (by omega),hN _ _ (h _ _ ⟨⟨_,_,_,rfl⟩,q1x _ (q1x _ gr (Ne.symm n1)) (Ne.symm n1),?_,q1x _ (q1x _ gw (Ne.symm n3)) (Ne.symm n3),(ex.set (.inr h2)).set (.inr h2)⟩)⟩
  rw[q1k _ gt2];simp[mb,Tm.pv]
 |ap f a ihf iha=>
  rintro fs i REST R st σ S hz hW h
  simp only[Tm.sz]at hz
  simp only[q2x,List.reverse_cons,List.reverse_append,List.map_append,List.append_assoc,List.map_cons,List.map_nil,List.singleton_append]
  refine iha fs (i+1+f.sz) _ (R++(bo f fs.length).map fun p=>F p.1 p.2) st σ S (by omega) (by simpa[bo]using hW) ?_
  intro σ1 S1 hW1
  refine ihf fs (i+1) _ R (mb F a fs.length::st) σ1 S1 (by simp only[List.length_cons];omega) hW1 ?_
  rintro σ' S' ⟨⟨j4,j5,j6,rfl⟩,gr,gt,gw,ex⟩
  simp only[List.reverse_cons,List.map_append,List.map_cons,List.map_nil]at gt
  refine forC (q0v gw) fun N hN=>?_
  unfold wboB wboG
  have gt2:=q1k (.lst (st.reverse.map Tm.pv++[(mb F a fs.length).pv])) gt
  have gt3:=q1k (.lst (st.reverse.map Tm.pv)) gt2
  dsimp![enc,Tm.pv,q0x,tgc,tgb]
  refine seqI fun K2 hK2=>?_
  dsimp![gt,q1f gt,List.getLast?_append,List.getLast?_singleton,Option.or,Option.some_or,List.dropLast_concat]
  refine hK2 _ _ ?_
  dsimp![gt2,q1f gt2,List.getLast?_append,List.getLast?_singleton,Option.or,Option.some_or,List.dropLast_concat]
  dsimp![q1f gt3]
  refine⟨big (by decide),by simp only[List.length_map,List.length_reverse];exact bigl (by omega),hN _ _ (h _ _ ⟨⟨_,_,_,rfl⟩,q1x _ (q1x _ (q1x _ gr (Ne.symm n1)) (Ne.symm n1)) (Ne.symm n1),?_,q1x _ (q1x _ (q1x _ gw (Ne.symm n3)) (Ne.symm n3)) (Ne.symm n3),((ex.set (.inr h2)).set (.inr h2)).set (.inr h2)⟩)⟩
  rw[q1k _ gt3];simp[mb,Tm.pv]
def WboD(sp:Den):Prop:=∀(F:Nat->Nat->Tm)(t:Tm)(n:Nat)(S:q0i)(E:EK)(Q:VC),t.sz<=1000->S[n]?=some (.lst ((bo t 0).map fun p=>(F p.1 p.2).pv))->(∀S',Ex [] S S'->Q (mb F t 0).pv S')->sp [t.pv,.ref n] S E Q
theorem x3z{sp:Den}(hp:z8o sp):WboD (fnP 2 7 (q2b sp)):=by
 intro F t n S E Q hz hn h
 refine⟨rfl,?_⟩
 unfold q2b
 show wSeq (wSet 2 (wCB z9u (q0d (wVar 1) wNil))) (wSeq (wSet 3 (wLst wNil)) (wSeq (wFor (z5l (q0t sp (q0d (wVar 0) wNil))) wboG wboB) (wRet (wBin bIx (wVar 3) (wC (.int 0)))))) _ _ _ _
 refine seqI fun K hK=>?_
 dsimp![q0v hn]
 refine hK _ _ ?_
 refine seqI fun K hK=>?_
 dsimp![true_and]
 refine⟨big (by decide),hK _ _ ?_⟩
 refine seqI fun K hK=>?_
 dsimp![true_and]
 refine hp t _ _ _ hz fun rr S1 e hrr hx=>?_
 dsimp![z5l,q0v e]
 have hl1:(S++[SO.lst (List.map (fun p=>(F p.1 p.2).pv) (bo t 0))]).length=S.length+1:=by simp
 have hl2:(S++[SO.lst (List.map (fun p=>(F p.1 p.2).pv) (bo t 0))]++[SO.lst []]).length=S.length+2:=by simp
 rw[hl2]at hrr
 have g1:=hx.get (q1m (q1g S (SO.lst (List.map (fun p=>(F p.1 p.2).pv) (bo t 0)))) [SO.lst []]) (by simp)
 have g2:=hx.get (q1g (S++[SO.lst (List.map (fun p=>(F p.1 p.2).pv) (bo t 0))]) (SO.lst [])) (by simp)
 rw[hl1]at g2 ⊢
 have hx0:Ex [] S S1:=((Ex.new [] S _).app _).trans hx
 have e1:((q2x t [] 0).map enc).reverse=(q2x t [] 0).reverse.map enc++[]:=by rw[List.append_nil,List.map_reverse]
 rw[e1]
 have em:(bo t 0).map (fun p=>(F p.1 p.2).pv)=([]++(bo t ([]:List Nat).length).map fun p:Nat×Nat=>F p.1 p.2).map Tm.pv:=by simp
 rw[em]at g1
 refine x4a F (x0:=t.pv) (x1:=.ref n) (r:=S.length) (tl:=S.length+1) (S0:=S) (Nat.le_refl _) (by omega) (by omega) (by omega) (by omega) t [] 0 [] [] [] _ S1 (by simp;omega) ⟨⟨_,_,_,rfl⟩,g1,by simpa using g2,e,hx0⟩ ?_
 rintro σ' S' ⟨⟨j4,j5,j6,rfl⟩,gr,gt,gw,ex⟩
 refine⟨q0v gw,hK _ _ ?_⟩
 simp only[List.reverse_cons,List.reverse_nil,List.nil_append,List.map_cons,List.map_nil]at gt
 dsimp![gt,q0x]
 exact h _ ex
def z6z(sp:Den):Prop:=∀(t:Tm)(m:Nat)(S:q0i)(E:EK)(Q:VC),t.sz<=1000->(∀S',Ex [] S S'->Q (rs t m 0).pv S')->sp [t.pv,.int m] S E Q
theorem y1h{sw sbo:Den}(hw:WboD sw)(hb:BoD sbo):z6z (fnP 2 2 (q4r sw sbo)):=by
 intro t m S E Q hz h
 refine⟨rfl,?_⟩
 unfold q4r
 dsimp![true_and]
 refine hb t _ _ _ hz fun r S1 e hx=>?_
 dsimp![q0v e]
 have hbl:=z4y t 0
 refine⟨by rw[List.length_map];exact big (by omega),?_⟩
 refine z3a (fun rest ys σ S2=>∃(ps qs:List (Nat×Nat))(j1 j2:Option PV),rest=ps.map encP/\σ=[j1,j2,some (.int m)]/\S2=S1/\ys=qs.map (fun p=>(rsF m p.1 p.2).pv)/\qs++ps=bo t 0) ?_ ?_ _ _ _ _ ⟨bo t 0,[],none,none,rfl,rfl,rfl,rfl,rfl⟩
 ·rintro ys σ S2 ⟨ps,qs,j1,j2,hr,rfl,rfl,rfl,hq⟩
  obtain rfl:ps=[]:=by cases ps with
   |nil=>rfl
   |cons a b=>simp at hr
  rw[List.append_nil]at hq
  refine⟨q0v e,?_⟩
  refine hw (rsF m) t _ _ _ _ hz (by rw[q1g,hq]) fun S3 hx3=>h _ ((hx.app _).trans hx3)
 ·rintro x rest ys σ S2 ⟨ps,qs,j1,j2,hr,rfl,rfl,rfl,hq⟩ N hN
  obtain⟨⟨k,d⟩,ps,rfl⟩:∃p r,ps=p::r:=by
   cases ps with
   |nil=>simp at hr
   |cons a b=>exact⟨a,b,rfl⟩
  simp only[List.map_cons,List.cons.injEq]at hr
  obtain⟨rfl,rfl⟩:=hr
  refine⟨q0v e,?_⟩
  have nxt:∀z:Int,z=((if k<d then k else k+m:Nat):Int)->N (List.map (fun p=>(rsF m p.1 p.2).pv) qs++[PV.tup [PV.str "bound",PV.int z]]) [some (.int (k:Nat)),some (.int (d:Nat)),some (.int m)] S2:=fun z hz=>hN _ _ _ ⟨ps,qs++[(k,d)],_,_,rfl,rfl,rfl,by rw[hz];simp[rsF,Tm.pv],by simp[<-hq]⟩
  dsimp![encP]
  by_cases c:k<d
  ·rw[if_pos (by omega)]
   exact⟨big (by decide),nxt _ (by rw[if_pos c])⟩
  ·rw[if_neg (by omega)]
   exact⟨big (by decide),nxt _ (by rw[if_neg c];omega)⟩
def z7a(sp:Den):Prop:=∀(a:Tm)(k d:Nat)(S:q0i)(E:EK)(Q:VC),a.sz<=1000->(∀S',Ex [] S S'->Q (sbF a k d).pv S')->sp [.int k,.int d,a.pv] S E Q
theorem y1i{sr:Den}(hr:z6z sr):z7a (fnP 3 3 (q3y sr)):=by
 intro a k d S E Q hz h
 refine⟨rfl,?_⟩
 unfold q3y
 refine seqI fun K hK=>?_
 dsimp![true_and]
 by_cases c:k<d
 ·rw[if_pos (by omega)]
  have:=h S (Ex.refl _ _)
  unfold sbF at this
  rw[if_pos c]at this
  exact⟨big (by decide),this⟩
 ·rw[if_neg (by omega)]
  refine hK _ _ ?_
  refine seqI fun K hK=>?_
  dsimp![true_and]
  by_cases c2:k=d
  ·rw[if_pos (by omega)]
   refine hr a d _ _ _ hz fun S' hx=>?_
   have:=h S' hx
   unfold sbF at this
   rw[if_neg c,if_pos c2]at this
   exact this
  ·rw[if_neg (by omega)]
   refine hK _ _ ?_
   dsimp![true_and]
   have:=h S (Ex.refl _ _)
   unfold sbF at this
   rw[if_neg c,if_neg c2,Tm.pv]at this
   rw[show(k:Int)-1=((k-1:Nat):Int) by omega]
   exact⟨big (by decide),this⟩
def y4m(sp:Den):Prop:=∀(b a:Tm)(S:q0i)(E:EK)(Q:VC),b.sz<=1000->a.sz<=1000->(∀S',Ex [] S S'->Q (sb b 0 a).pv S')->sp [b.pv,a.pv] S E Q
theorem y5z{sw sf sbo:Den}(hw:WboD sw)(hf:z7a sf)(hb:BoD sbo):y4m (fnP 2 2 (q4s sw sf sbo)):=by
 intro t a S E Q hz hza h
 refine⟨rfl,?_⟩
 unfold q4s
 dsimp![true_and]
 refine hb t _ _ _ hz fun r S1 e hx=>?_
 dsimp![q0v e]
 have hbl:=z4y t 0
 refine⟨by rw[List.length_map];exact big (by omega),?_⟩
 refine z3a (fun rest ys σ S2=>∃(ps qs:List (Nat×Nat))(j1 j2:Option PV),rest=ps.map encP/\σ=[j1,j2,some a.pv]/\Ex [] S1 S2/\ys=qs.map (fun p=>(sbF a p.1 p.2).pv)/\qs++ps=bo t 0) ?_ ?_ _ _ _ _ ⟨bo t 0,[],none,none,rfl,rfl,Ex.refl _ _,rfl,rfl⟩
 ·rintro ys σ S2 ⟨ps,qs,j1,j2,hr,rfl,hx2,rfl,hq⟩
  obtain rfl:ps=[]:=by cases ps with
   |nil=>rfl
   |cons a b=>simp at hr
  rw[List.append_nil]at hq
  refine⟨q0v (hx2.get e (by simp)),?_⟩
  refine hw (sbF a) t _ _ _ _ hz (by rw[q1g,hq]) fun S3 hx3=>h _ (((hx.trans hx2).app _).trans hx3)
 ·rintro x rest ys σ S2 ⟨ps,qs,j1,j2,hr,rfl,hx2,rfl,hq⟩ N hN
  obtain⟨⟨k,d⟩,ps,rfl⟩:∃p r,ps=p::r:=by
   cases ps with
   |nil=>simp at hr
   |cons a b=>exact⟨a,b,rfl⟩
  simp only[List.map_cons,List.cons.injEq]at hr
  obtain⟨rfl,rfl⟩:=hr
  refine⟨q0v (hx2.get e (by simp)),?_⟩
  dsimp![encP]
  refine hf a k d _ _ _ hza fun S3 hx3=>?_
  exact hN _ _ _ ⟨ps,qs++[(k,d)],_,_,rfl,rfl,hx2.trans hx3,by simp,by simp[<-hq]⟩
def wi:Tm->Nat->Tm->Tm
 |.fn k _,_,x=>.fn k x
 |.ap _ a,0,x=>.ap x a
 |.ap f _,_,x=>.ap f x
 |t,_,_=>t
def isC:Tm->Prop
 |.fn _ _=>True
 |.ap _ _=>True
 |_=>False
def reb(fr:List (Tm×Nat))(x:Tm):Tm:=fr.foldr (fun p x=>wi p.1 p.2 x) x
theorem q9o(fr:List (Tm×Nat))(p:Tm×Nat)(x:Tm):reb (fr++[p]) x=reb fr (wi p.1 p.2 x):=by simp[reb]
theorem y0c{o x:Tm}{k:Nat}{S:q0i}{E:EK}{Q:VC}(hc:isC o)(h:Q (wi o k x).pv S):fnP 3 3 q2z [o.pv,.int k,x.pv] S E Q:=by
 refine⟨rfl,?_⟩
 unfold q2z
 refine seqI fun K hK=>?_
 cases o with
 |nm w=>exact hc.elim
 |lf a b=>exact hc.elim
 |bd k=>exact hc.elim
 |fn kk t=>
  dsimp![Tm.pv,q0x,q8u]
  exact⟨big (by decide),h⟩
 |ap f a=>
  dsimp![Tm.pv,q0x,tgb]
  refine hK _ _ ?_
  refine seqI fun K hK=>?_
  dsimp![z5e]
  cases k with
  |zero=>
   rw[if_pos (by rfl)]
   exact⟨big (by decide),h⟩
  |succ k=>
   rw[if_neg (by omega)]
   refine hK _ _ ?_
   dsimp![q8u]
   exact⟨big (by decide),h⟩
theorem x0k{k:PV}{b a:Tm}{S:q0i}{E:EK}{Q:VC}(h:Q (.bl true) S):fnP 1 1 q2k [(Tm.ap (.fn k b) a).pv] S E Q:=by
 refine⟨rfl,?_⟩
 unfold q2k
 dsimp![Tm.pv,q0x,q8u]
 exact h
def y9v(sp:Den):Prop:=(∀(k:PV)(t:Tm)(S:q0i)(E:EK)(Q:VC),Q (.tup [t.pv]) S->sp [(Tm.fn k t).pv] S E Q)/\∀(f a:Tm)(S:q0i)(E:EK)(Q:VC),Q (.tup [f.pv,a.pv]) S->sp [(Tm.ap f a).pv] S E Q
theorem y7m:y9v (fnP 1 1 q1o):=by
 constructor
 ·intro k t S E Q h
  refine⟨rfl,?_⟩
  unfold q1o
  refine seqI fun K hK=>?_
  dsimp![Tm.pv,q0x,z5e]
  exact⟨big (by decide),h⟩
 ·intro f a S E Q h
  refine⟨rfl,?_⟩
  unfold q1o
  refine seqI fun K hK=>?_
  dsimp![Tm.pv,q0x,tgb]
  refine hK _ _ ?_
  refine seqI fun K hK=>?_
  dsimp![q0x,q8u,z5e]
  exact⟨big (by decide),h⟩
def frT(fr:List (Tm×Nat)):List Tm:=fr.map (·.1)
def frN(fr:List (Tm×Nat)):List Nat:=fr.map (·.2)
def WayD(sp:Den):Prop:=∀(t:Tm)(p:List Nat)(S:q0i)(E:EK)(Q:VC),Pl t p->p.length<=400->(∀(r:Nat)(fr:List (Tm×Nat))(k:PV)(b a:Tm) S',p=frN fr->S'[r]?=some (.lst ((frT fr++[Tm.ap (.fn k b) a]).map Tm.pv))->dn t p=reb fr (sb b 0 a)->(∀x∈fr,isC x.1)->b.sz<=t.sz->a.sz<=t.sz->S.length<=r->Ex [] S S'->Q (.ref r) S')->sp [t.pv,.tup (encI p)] S E Q
theorem q8k(xs:List PV)(y:PV):atI (xs++[y]) (-1)=some y:=by
 have:=x3r (xs++[y]) 0 (by simp)
 simp only[Int.natCast_zero,Int.sub_zero]at this
 have e:(-1-((0:Nat):Int))=-1:=by omega
 simpa using this
theorem x4b{sp:Den}(hi:y9v sp):WayD (fnP 2 5 (q4p sp)):=by
 intro t p S E Q hP hl h
 refine⟨rfl,?_⟩
 unfold q4p
 refine seqI fun K hK=>?_
 dsimp![true_and]
 refine⟨big (by decide),hK _ _ ?_⟩
 refine seqI fun K hK=>?_
 dsimp![true_and]
 refine forI (fun rest σ S1=>∃(fr:List (Tm×Nat))(u:Tm)(q:List Nat)(j3 j4:Option PV),rest=encI q/\σ=[some t.pv,some (.tup (encI p)),some (.ref S.length),j3,j4]/\S1[S.length]?=some (.lst ((frT fr++[u]).map Tm.pv))/\Ex [] S S1/\Pl u q/\p=frN fr++q/\dn t p=reb fr (dn u q)/\(∀x∈fr,isC x.1)/\u.sz<=t.sz) ?_ ?_ _ _ _ ⟨[],t,p,none,none,rfl,rfl,by rw[q1g];rfl,Ex.new _ _ _,hP,rfl,rfl,by simp,Nat.le_refl _⟩
 ·rintro σ S1 ⟨fr,u,q,j3,j4,hr,rfl,g,hx,hu,hp,hd,hc,hz⟩
  obtain rfl:q=[]:=by cases q with
   |nil=>rfl
   |cons a b=>simp[encI]at hr
  refine⟨trivial,hK _ _ ?_⟩
  dsimp![true_and]
  cases hu with
  |here k b a=>
   simp only[Tm.sz]at hz
   exact h _ fr k b a _ (by simpa using hp) g (by rw[hd,dn]) hc (by omega) (by omega) (Nat.le_refl _) hx
 ·rintro x rest σ S1 ⟨fr,u,q,j3,j4,hr,rfl,g,hx,hu,hp,hd,hc,hz⟩ N hN
  obtain⟨k,q,rfl⟩:∃k r,q=k::r:=by
   cases q with
   |nil=>simp[encI]at hr
   |cons a b=>exact⟨a,b,rfl⟩
  simp only[encI,List.map_cons,List.cons.injEq]at hr
  obtain⟨rfl,rfl⟩:=hr
  refine⟨trivial,?_⟩
  have hfl:fr.length<=400:=by
   have:=congrArg List.length hp
   simp[frN]at this;omega
  have g':=g
  rw[List.map_append,List.map_cons,List.map_nil]at g'
  dsimp![true_and]
  refine seqI fun K2 hK2=>?_
  dsimp![g',q8k]
  cases hu with
  |fn kk t' _ hu'=>
   refine hi.1 _ _ _ _ _ (hK2 _ _ ?_)
   refine seqI fun K2 hK2=>?_
   dsimp![Int.natCast_zero]
   refine hK2 _ _ ?_
   dsimp![g',q1f g',q0x]
   refine⟨by simp[frT];exact bigl (by omega),hN _ _ ⟨fr++[(.fn kk t',0)],t',q,_,_,rfl,rfl,?_,hx.set (.inr (Nat.le_refl _)),hu',by rw[hp];simp[frN],by rw[hd,q9o];rfl,?_,by simp only[Tm.sz]at hz;omega⟩⟩
   ·rw[q1k _ g'];simp[frT]
   ·intro y hy;rcases List.mem_append.mp hy with z|z
    ·exact hc y z
    ·simp at z;subst z;trivial
  |l f a _ hu'=>
   refine hi.2 _ _ _ _ _ (hK2 _ _ ?_)
   refine seqI fun K2 hK2=>?_
   dsimp![Int.natCast_zero]
   refine hK2 _ _ ?_
   dsimp![g',q1f g',q0x]
   refine⟨by simp[frT];exact bigl (by omega),hN _ _ ⟨fr++[(.ap f a,0)],f,q,_,_,rfl,rfl,?_,hx.set (.inr (Nat.le_refl _)),hu',by rw[hp];simp[frN],by rw[hd,q9o,dn];rfl,?_,by simp only[Tm.sz]at hz;omega⟩⟩
   ·rw[q1k _ g'];simp[frT]
   ·intro y hy;rcases List.mem_append.mp hy with z|z
    ·exact hc y z
    ·simp at z;subst z;trivial
  |r f a _ hu'=>
   refine hi.2 _ _ _ _ _ (hK2 _ _ ?_)
   refine seqI fun K2 hK2=>?_
   dsimp![Int.natCast_one]
   refine hK2 _ _ ?_
   dsimp![g',q1f g',q8u]
   refine⟨by simp[frT];exact bigl (by omega),hN _ _ ⟨fr++[(.ap f a,1)],a,q,_,_,rfl,rfl,?_,hx.set (.inr (Nat.le_refl _)),hu',by rw[hp];simp[frN],by rw[hd,q9o,show dn (.ap f a) (1::q)=.ap f (dn a q) by simp only[dn]];rfl,?_,by simp only[Tm.sz]at hz;omega⟩⟩
   ·rw[q1k _ g'];simp[frT]
   ·intro y hy;rcases List.mem_append.mp hy with z|z
    ·exact hc y z
    ·simp at z;subst z;trivial
def x3x(sp:Den):Prop:=∀(t:Tm)(p:List Nat)(S:q0i)(E:EK)(Q:VC),Pl t p->p.length<=400->t.sz<=1000->(∀S',Ex [] S S'->Q (dn t p).pv S')->sp [t.pv,.tup (encI p)] S E Q
theorem x3k{sw st sp si:Den}(hw:WayD sw)(ht:∀(k:PV)(b a:Tm)(S:q0i)(E:EK)(Q:VC),Q (.bl true) S->st [(Tm.ap (.fn k b) a).pv] S E Q)(hp:y4m sp)(hi:∀(o x:Tm)(k:Nat)(S:q0i)(E:EK)(Q:VC),isC o->Q (wi o k x).pv S->si [o.pv,.int k,x.pv] S E Q):x3x (fnP 2 6 (q4b sw st sp si)):=by
 intro t p S E Q hP hl hz h
 refine⟨rfl,?_⟩
 unfold q4b
 refine seqI fun K hK=>?_
 dsimp![true_and]
 refine hw t p _ _ _ hP hl fun r fr k b a S1 hpf g hd hc hb ha hrl hx=>hK _ _ ?_
 have hfl:fr.length<=400:=by
  have:=congrArg List.length hpf
  simp[frN]at this;omega
 rw[List.map_append,List.map_cons,List.map_nil]at g
 refine seqI fun K hK=>?_
 dsimp![g,q1f g,List.getLast?_append,List.getLast?_singleton,Option.or,Option.some_or,List.dropLast_concat]
 refine hK _ _ ?_
 have g1:=q1k (.lst ((frT fr).map Tm.pv)) g
 have hx1:Ex [] S (S1.set r (.lst ((frT fr).map Tm.pv))):=hx.set (.inr hrl)
 generalize S1.set r (.lst ((frT fr).map Tm.pv))=S2 at g1 hx1 ⊢
 refine seqI fun K hK=>?_
 dsimp![true_and]
 refine ht k b a _ _ _ ?_
 dsimp![true_and]
 refine hK _ _ ?_
 refine seqI fun K hK=>?_
 dsimp![Tm.pv,q8u,z5e]
 refine hp b a _ _ _ (by omega) (by omega) fun S3 hx3=>hK _ _ ?_
 have g3:=hx3.get g1 (by simp)
 have hx4:=hx1.trans hx3
 clear hK K
 refine seqI fun K hK=>?_
 refine q8v (fun m σ S4=>∃(f1 f2:List (Tm×Nat))(x:Tm)(j3 j5:Option PV),σ=[some t.pv,some (.tup (encI p)),some (.ref r),j3,some x.pv,j5]/\S4[r]?=some (.lst ((frT f1).map Tm.pv))/\Ex [] S S4/\f1++f2=fr/\dn t p=reb f1 x/\m=f1.length) fr.length ⟨fr,[],sb b 0 a,_,_,rfl,g3,hx4,by simp,hd,rfl⟩ ?_
 rintro m σ S4 ⟨f1,f2,x,j3,j5,rfl,g4,hx5,hf,hd5,rfl⟩ T F hT hF
 dsimp![g4]
 refine ite2 (fun c=>?_) (fun c=>?_)
 ·obtain⟨f1,⟨o,kk⟩,rfl⟩:∃f1' y,f1=f1'++[y]:=⟨f1.dropLast,f1.getLast (by rintro rfl;simp[frT]at c),(List.dropLast_concat_getLast _).symm⟩
  refine hT _ fun N hN=>?_
  refine seqI fun K2 hK2=>?_
  have g5:=g4
  simp only[frT,List.map_append,List.map_cons,List.map_nil]at g5
  dsimp![g5,q1f g5,List.getLast?_append,List.getLast?_singleton,Option.or,Option.some_or,List.dropLast_concat]
  refine hK2 _ _ ?_
  have g6:=q1k (.lst ((f1.map (·.1)).map Tm.pv)) g5
  have hat:atI (encI p) (((f1.map (·.1)).map Tm.pv).length:Int)=some (.int (kk:Nat)):=by
   have hpl:p=frN f1++kk::frN f2:=by rw[hpf,<-hf];simp[frN]
   have hl2:f1.length<(encI p).length:=by rw[hpl];simp[encI,frN]
   rw[List.length_map,List.length_map,q9w _ _ hl2]
   congr 1
   have:(encI p)[f1.length]?=some (.int (kk:Nat)):=by
    unfold encI
    rw[List.getElem?_map,hpl,List.getElem?_append_right (by simp[frN])]
    simp[frN]
   rw[List.getElem?_eq_getElem hl2]at this
   exact Option.some.inj this
  dsimp![q0v g6,hat]
  refine hi o x kk _ _ _ (hc (o,kk) (by rw[<-hf];simp)) ?_
  refine hN f1.length _ _ (by simp) ⟨f1,(o,kk)::f2,wi o kk x,_,_,rfl,?_,hx5.set (.inr hrl),by rw[<-hf];simp,by rw[hd5,q9o],rfl⟩
  rw[g6];rfl
 ·obtain rfl:f1=[]:=by
   cases f1 with
   |nil=>rfl
   |cons a b=>simp[frT]at c
  refine hF _ (hK _ _ ?_)
  dsimp![true_and]
  have:=h _ hx5
  rw[hd5]at this
  exact this
def Nt.pv:Nt->PV
 |.nm w=>.tup [.str "name",.str w]
 |.lf n f=>.tup [.str "leaf",.int n,f]
 |.vr i=>.tup [.str "var",.int (i:Nat)]
 |.fn k o t=>.tup [.str "fn",k,.int (o:Nat),t.pv]
 |.ap f a=>.tup [.str "of",f.pv,a.pv]
def Nt.dp:Nt->Nat
 |.fn _ _ t=>t.dp+1
 |.ap f a=>max f.dp a.dp+1
 |_=>0
mutual
theorem z3t:∀x:PV,q1v x=true->nrf x=true
 |.str _,_=>rfl
 |.int _,_=>rfl
 |.tup xs,h=>by rw[q1v,Bool.and_eq_true]at h;rw[z0h];exact z1h xs h.1
 |.non,h=>by simp[q1v]at h
 |.bl _,h=>by simp[q1v]at h
 |.ty _,h=>by simp[q1v]at h
 |.frl _,h=>by simp[q1v]at h
 |.ref _,h=>by simp[q1v]at h
theorem z1h:∀xs:List PV,q3f xs=true->nrfs xs=true
 |[],_=>rfl
 |x::r,h=>by
  rw[q3f,Bool.and_eq_true]at h
  simp only[nrfs,z3t x h.1,z1h r h.2,Bool.and_self]
end
mutual
theorem z4p:∀x:PV,q1v x=true->eqB x x=true
 |.str s,_=>by rw[q4o];simp
 |.int i,_=>by rw[z7z];simp
 |.tup xs,h=>by rw[q1v,Bool.and_eq_true]at h;rw[q6s];exact z1o xs h.1
 |.non,h=>by simp[q1v]at h
 |.bl _,h=>by simp[q1v]at h
 |.ty _,h=>by simp[q1v]at h
 |.frl _,h=>by simp[q1v]at h
 |.ref _,h=>by simp[q1v]at h
theorem z1o:∀xs:List PV,q3f xs=true->eqBs xs xs=true
 |[],_=>by simp[eqBs]
 |x::r,h=>by
  rw[q3f,Bool.and_eq_true]at h
  simp only[eqBs,z4p x h.1,z1o r h.2,Bool.and_self]
end
def Tm.pp:Tm->Prop
 |.lf _ f=>q1v f=true/\dep f<=30
 |.fn k t=>(q1v k=true/\dep k<=30)/\t.pp
 |.ap f a=>f.pp/\a.pp
 |_=>True
theorem y7q:∀(t:Tm)(n:Nat),t.gd n->t.pp
 |.nm _,_,_=>trivial
 |.lf _ _,_,h=>h
 |.bd _,_,_=>trivial
 |.fn _ t,n,h=>⟨h.1,y7q t _ h.2⟩
 |.ap f a,n,h=>⟨y7q f n h.1,y7q a n h.2⟩
theorem y6i:∀t:Tm,t.pp->q1v t.pv=true/\dep t.pv<=t.dp+32
 |.nm _,_=>by simp[Tm.pv,q1v,q3f,dep,deps]
 |.lf _ f,h=>by simp only[Tm.pv,q1v,q3f,List.length_cons,List.length_nil,Nat.reduceAdd,Nat.reduceLeDiff,decide_true,Bool.and_true,dep,deps,h.1,Bool.and_self,Tm.dp,true_and];have:=h.2;omega
 |.bd _,_=>by simp[Tm.pv,q1v,q3f,dep,deps]
 |.fn k t,h=>by
  obtain⟨h1,h2⟩:=y6i t h.2
  simp only[Tm.pv,q1v,q3f,List.length_cons,List.length_nil,Nat.reduceAdd,Nat.reduceLeDiff,decide_true,Bool.and_true,dep,deps,h.1.1,h1,Bool.and_self,Tm.dp,true_and];have:=h.1.2;omega
 |.ap f a,h=>by
  obtain⟨h1,h2⟩:=y6i f h.1
  obtain⟨h3,h4⟩:=y6i a h.2
  simp only[Tm.pv,q1v,q3f,List.length_cons,List.length_nil,Nat.reduceAdd,Nat.reduceLeDiff,decide_true,Bool.and_true,dep,deps,h1,h3,Bool.and_self,Tm.dp,true_and];omega
def isFn:Tm->Bool
 |.fn _ _=>true
 |_=>false
def toDo:Tm->Bool
 |.ap f _=>isFn f
 |_=>false
def pls:Tm->List (List Int)
 |.fn _ b=>(pls b).map (0::·)
 |.ap f a=>(if isFn f=true then[[]]else[])++((pls f).map (0::·)++(pls a).map (1::·))
 |_=>[]
def pj(p:List Int):PV:=.tup (p.map PV.int)
theorem z2g:∀t:Tm,(pls t).length<=t.sz/\∀p∈pls t,p.length<=t.dp
 |.nm _=>by simp[pls,Tm.sz]
 |.lf _ _=>by simp[pls,Tm.sz]
 |.bd _=>by simp[pls,Tm.sz]
 |.fn _ b=>by
  have ih:=z2g b
  refine⟨by simp only[pls,List.length_map,Tm.sz];omega,fun p hp=>?_⟩
  simp only[pls,List.mem_map]at hp
  obtain⟨q,hq,rfl⟩:=hp
  have:=ih.2 q hq
  simp only[List.length_cons,Tm.dp];omega
 |.ap f a=>by
  have hf:=z2g f
  have ha:=z2g a
  refine⟨?_,fun p hp=>?_⟩
  ·simp only[pls,List.length_append,List.length_map,Tm.sz]
   have:(if isFn f=true then[([]:List Int)]else[]).length<=1:=by split<;>simp
   omega
  ·simp only[pls,List.mem_append,List.mem_map]at hp
   rcases hp with hp|⟨q,hq,rfl⟩|⟨q,hq,rfl⟩
   ·split at hp
    ·simp only[List.mem_singleton]at hp;subst hp;simp
    ·simp at hp
   ·have:=hf.2 q hq;simp only[List.length_cons,Tm.dp];omega
   ·have:=ha.2 q hq;simp only[List.length_cons,Tm.dp];omega
theorem w1i(f:Tm):∃(z:Str)(r:List PV),f.pv=.tup (.str z::r)/\decide (z=Str.ofString "fn")=isFn f:=by
 cases f with
 |nm w=>exact⟨_,_,rfl,by simp[tg1,isFn]⟩
 |lf a b=>exact⟨_,_,rfl,by simp[tg4,isFn]⟩
 |bd k=>exact⟨_,_,rfl,by simp[tg7,isFn]⟩
 |fn k b=>exact⟨_,_,rfl,by simp[isFn]⟩
 |ap f a=>exact⟨_,_,rfl,by simp[tgb,isFn]⟩
def x8y(sp:Den):Prop:=∀(t:Tm)(S:q0i)(E:EK)(Q:VC),Q (.bl (toDo t)) S->sp [t.pv] S E Q
theorem y5d:x8y (fnP 1 1 q2k):=by
 intro t S E Q h
 refine⟨rfl,?_⟩
 unfold q2k
 cases t with
 |nm w=>dsimp![Tm.pv,q0x,tg2];exact h
 |lf a b=>dsimp![Tm.pv,q0x,tg5];exact h
 |bd k=>dsimp![Tm.pv,q0x,tg8];exact h
 |fn k b=>dsimp![Tm.pv,q0x,tg9];exact h
 |ap f a=>
  obtain⟨z,r,e,hz⟩:=w1i f
  simp only[Tm.pv,e]
  dsimp![q0x,q8u]
  have h':Q (.bl (isFn f)) S:=h
  rw[<-hz]at h'
  exact h'
def inn:Tm->List Tm
 |.fn _ b=>[b]
 |.ap f a=>[f,a]
 |_=>[]
def InD(sp:Den):Prop:=∀(t:Tm)(S:q0i)(E:EK)(Q:VC),Q (.tup ((inn t).map Tm.pv)) S->sp [t.pv] S E Q
theorem z6q{z:Str}{r:List PV}(z1:(z=Str.ofString "fn")=False)(z2:(z=Str.ofString "of")=False){S:q0i}{E:EK}{Q:VC}(h:Q (.tup []) S):fnP 1 1 q1o [.tup (.str z::r)] S E Q:=by
 refine⟨rfl,?_⟩
 unfold q1o
 refine seqI fun K hK=>?_
 dsimp![q0x,z1]
 refine hK _ _ ?_
 refine seqI fun K hK=>?_
 dsimp![q0x,z2]
 refine hK _ _ ?_
 dsimp![true_and]
 first|exact h|exact⟨big (by decide),h⟩
theorem w0x:InD (fnP 1 1 q1o):=by
 intro t S E Q h
 cases t with
 |nm w=>exact z6q tg1 tg2 h
 |lf a b=>exact z6q tg4 tg5 h
 |bd k=>exact z6q tg7 tg8 h
 |fn k b=>
  refine⟨rfl,?_⟩
  unfold q1o
  refine seqI fun K hK=>?_
  dsimp![Tm.pv,q0x,z5e]
  exact⟨big (by decide),h⟩
 |ap f a=>
  refine⟨rfl,?_⟩
  unfold q1o
  refine seqI fun K hK=>?_
  dsimp![Tm.pv,q0x,tgb]
  refine hK _ _ ?_
  refine seqI fun K hK=>?_
  dsimp![q0x,q8u,z5e]
  exact⟨big (by decide),h⟩
def pr(x:Tm×List Int):PV:=.tup [x.1.pv,pj x.2]
def out(st:List (Tm×List Int)):List (List Int):=st.flatMap fun x=>(pls x.1).map (x.2++·)
def tsz(st:List (Tm×List Int)):Nat:=(st.map fun x=>x.1.sz).sum
theorem y0j:∀t:Tm,1<=t.sz
 |.nm _=>Nat.le_refl _
 |.lf _ _=>Nat.le_refl _
 |.bd _=>Nat.le_refl _
 |.fn _ b=>by simp only[Tm.sz];omega
 |.ap f a=>by simp only[Tm.sz];omega
theorem x0h(st:List (Tm×List Int)):st.length<=tsz st:=by
 induction st with
 |nil=>exact Nat.le_refl _
 |cons x r ih=>
  have:=y0j x.1
  simp only[tsz,List.map_cons,List.sum_cons,List.length_cons]at ih ⊢
  omega
def PlsD(sp:Den):Prop:=∀(t:Tm)(S:q0i)(E:EK)(Q:VC),t.sz<=1000->(∀(r:Nat) S',S'[r]?=some (.lst ((pls t).map pj))->S.length<=r->Ex [] S S'->Q (.ref r) S')->sp [t.pv] S E Q
theorem z1w(x:Tm×List Int)(st:List (Tm×List Int)):tsz (x::st)=x.1.sz+tsz st:=by simp[tsz]
theorem y6r(x:Tm×List Int)(st:List (Tm×List Int)):out (x::st)=(pls x.1).map (x.2++·)++out st:=by simp[out]
theorem x2e(p:List Int)(k:Int)(l:List (List Int)):(l.map (k::·)).map (p++·)=l.map ((p++[k])++·):=by simp[List.map_map,Function.comp_def]
theorem x6l(f a:Tm)(p:List Int):(if toDo (.ap f a)=true then[p]else[])++out [(f,p++[0]),(a,p++[1])]=(pls (.ap f a)).map (p++·):=by
 have e:toDo (.ap f a)=isFn f:=rfl
 rw[e]
 simp only[out,List.flatMap_cons,List.flatMap_nil,pls,List.map_append,x2e,List.append_nil]
 by_cases h:isFn f=true
 ·rw[if_pos h,if_pos h];simp
 ·rw[if_neg h,if_neg h];simp
theorem x5o{s1 s2:Den}(h1:x8y s1)(h2:InD s2):PlsD (fnP 1 6 (q4t s1 s2)):=by
 intro t S E Q hz h
 refine⟨rfl,?_⟩
 unfold q4t
 refine seqI fun K hK=>?_
 dsimp![true_and]
 refine⟨by decide,hK _ _ ?_⟩
 clear hK K
 refine seqI fun K hK=>?_
 dsimp![true_and]
 refine⟨big (by decide),big (by decide),big (by decide),hK _ _ ?_⟩
 clear hK K
 have hS1:List.length (S++[SO.lst []])=S.length+1:=by simp
 rw[hS1]
 have a0:(S++[SO.lst []]++[SO.lst [PV.tup [t.pv,PV.tup []]]])[S.length]?=some (.lst (([]:List (List Int)).map pj)):=q1m (q1g _ _) _
 have a1:(S++[SO.lst []]++[SO.lst [PV.tup [t.pv,PV.tup []]]])[S.length+1]?=some (.lst ([(t,([]:List Int))].reverse.map pr)):=by rw[<-hS1];exact q1g _ _
 have a2:Ex [] S (S++[SO.lst []]++[SO.lst [PV.tup [t.pv,PV.tup []]]]):=(Ex.new [] S _).app _
 generalize S++[SO.lst []]++[SO.lst [PV.tup [t.pv,PV.tup []]]]=S0 at a0 a1 a2 ⊢
 refine seqI fun K hK=>?_
 refine q8v (fun m σ S1=>∃(fs:List (List Int))(st:List (Tm×List Int))(j3 j4 j5:Option PV),σ=[some t.pv,some (.ref S.length),some (.ref (S.length+1)),j3,j4,j5]/\S1[S.length]?=some (.lst (fs.map pj))/\S1[S.length+1]?=some (.lst (st.reverse.map pr))/\fs++out st=pls t/\m=tsz st/\Ex [] S S1/\tsz st<=1000/\(∀x∈st,x.2.length+tsz st<=2000)/\fs.length+tsz st<=2000) t.sz ⟨[],[(t,[])],none,none,none,rfl,a0,a1,by simp[out],by simp[tsz],a2,by simp[tsz];omega,by simp[tsz];omega,by simp[tsz];omega⟩ ?_
 rintro m σ S1 ⟨fs,st,j3,j4,j5,rfl,g1,g2,ho,rfl,hx,hsz,hpl,hfl⟩ T F hT hF
 dsimp![g2]
 cases st with
 |nil=>
  rw[if_neg (by simp)]
  refine hF _ (hK _ _ ?_)
  dsimp![true_and]
  refine h _ _ ?_ (Nat.le_refl _) hx
  rw[g1,<-ho]
  simp[out]
 |cons x st=>
  rw[if_pos (by simp)]
  obtain⟨u,p⟩:=x
  have pl:=hpl (u,p) (by simp)
  rw[z1w]at hsz hfl pl
  have stl:=x0h st
  have up:=y0j u
  simp only[]at hsz hfl pl
  refine hT _ fun N hN=>?_
  clear hT hF
  have g2':S1[S.length+1]?=some (.lst (st.reverse.map pr++[pr (u,p)])):=by rw[g2];simp
  refine seqI fun K2 hK2=>?_
  dsimp![g2',q1f g2',List.getLast?_append,List.getLast?_singleton,Option.some_or,List.dropLast_concat,pr]
  refine hK2 _ _ ?_
  clear hK2 K2
  have e2:=q1k (.lst (st.reverse.map pr)) g2'
  have e1:=q1x (.lst (st.reverse.map pr)) g1 (show S.length+1≠S.length by omega)
  have x2:Ex [] S (S1.set (S.length+1) (.lst (st.reverse.map pr))):=hx.set (.inr (by omega))
  generalize S1.set (S.length+1) (.lst (st.reverse.map pr))=S2 at e1 e2 x2 ⊢
  clear g1 g2 g2' hx S1
  refine seqI fun K2 hK2=>?_
  have rest:∀(fs':List (List Int))(S3:q0i),fs'=fs++(if toDo u=true then[p]else[])->S3[S.length]?=some (.lst (fs'.map pj))->S3[S.length+1]?=some (.lst (st.reverse.map pr))->Ex [] S S3->K2 [some t.pv,some (.ref S.length),some (.ref (S.length+1)),some u.pv,some (pj p),j5] S3:=by
   intro fs' S3 ef q1 q2 x3
   have fl:fs'.length<=fs.length+1:=by rw[ef];split<;>simp
   refine hK2 _ _ ?_
   clear hK2 K2
   refine seqI fun K2 hK2=>?_
   dsimp![true_and]
   refine h2 u _ _ _ (hK2 _ _ ?_)
   clear hK2 K2
   have fin:∀(ys:List (Tm×List Int))(S4:q0i),Ex [] S3 S4->tsz ys+1<=u.sz->(∀x∈ys,x.2.length<=p.length+1)->ys.length<=2->(if toDo u=true then[p]else[])++out ys=(pls u).map (p++·)->∀j,N [some t.pv,some (.ref S.length),some (.ref (S.length+1)),some u.pv,some (pj p),j] (S4.set (S.length+1) (.lst (st.reverse.map pr++ys.reverse.map pr))):=by
    intro ys S4 x4 hs hp hl ho2 j
    have k1:=x4.get q1 (by simp)
    have k2:=x4.get q2 (by simp)
    have sum:tsz (ys++st)=tsz ys+tsz st:=by simp[tsz]
    refine hN (tsz (ys++st)) _ _ (by rw[sum,z1w];show tsz ys+tsz st<u.sz+tsz st;omega) ⟨fs',ys++st,some u.pv,some (pj p),j,rfl,q1x _ k1 (by omega),by rw[q1k _ k2];simp,?_,rfl,(x3.trans x4).set (.inr (by omega)),by rw[sum];omega,fun x hx=>?_,by rw[sum];omega⟩
    ·rw[ef,<-ho,y6r,<-ho2]
     simp[out]
    ·rw[sum]
     rcases List.mem_append.mp hx with z|z
     ·have:=hp x z;omega
     ·have:=hpl x (by simp[z])
      rw[z1w]at this
      simp only[]at this
      omega
   have lsl:(st.reverse.map pr).length<=1000:=by simp;omega
   have go:∀(ys:List (Tm×List Int))(j:Option PV),tsz ys+1<=u.sz->(∀x∈ys,x.2.length<=p.length+1)->ys.length<=2->(if toDo u=true then[p]else[])++out ys=(pls u).map (p++·)->((st.reverse.map pr).length+(ys.reverse.map pr).length<=sizeLine/\N [some t.pv,some (.ref S.length),some (.ref (S.length+1)),some u.pv,some (pj p),j] ((S3++[SO.lst (ys.reverse.map pr)]).set (S.length+1) (.lst (st.reverse.map pr++ys.reverse.map pr)))):=
    fun ys j hs hp hl ho2=>⟨big (by simp only[List.length_map,List.length_reverse]at lsl ⊢;omega),fin ys _ (Ex.new [] S3 _) hs hp hl ho2 j⟩
   have leaf:toDo u=false->pls u=[]->inn u=[]->q3c (wBM "list" q6e (wVar 2) (q0d (q5c (q5p (q0d (wCB fLen (q0d (wVar 5) wNil)) wNil)) [none,some 5,some 4] (q0z 0) q2t (wTup (q0d (wBin bIx (wVar 1) (wVar 0)) (q0d (wBin bAdd (wVar 2) (wTup (q0d (wVar 0) wNil))) wNil)))) wNil)) {nx:=N,rt:=Q,ct:=N,bk:=K} E [some t.pv,some (.ref S.length),some (.ref (S.length+1)),some u.pv,some (pj p),some (.tup ((inn u).map Tm.pv))] S3:=by
    intro t0 p0 i0
    rw[i0]
    dsimp![q2]
    rw[show(rngP 0 (Int.toNat 0)).reverse=[]from rfl]
    refine⟨⟨by decide,by decide⟩,by decide,z0v trivial ?_⟩
    have k:=q1m q2 [SO.lst []]
    dsimp![q1f k]
    exact go [] _ (by simpa[tsz]using up) (by simp) (by simp) (by rw[t0,p0];simp[out])
   cases u with
   |nm w=>exact leaf rfl rfl rfl
   |lf a b=>exact leaf rfl rfl rfl
   |bd k=>exact leaf rfl rfl rfl
   |fn kk b=>
    simp only[inn,Tm.sz]at up go ⊢
    dsimp![q2]
    rw[show(rngP 0 (Int.toNat 1)).reverse=[.int 0]from rfl]
    refine⟨⟨by decide,by decide⟩,by decide,?_⟩
    refine q6t trivial fun N1 hN1=>?_
    dsimp![q0x,pj,List.length_map]
    refine⟨big (by decide),big (by omega),big (by decide),hN1 _ _ _ ?_⟩
    refine z0v trivial ?_
    have k:=q1m q2 [SO.lst [PV.tup [b.pv,PV.tup (p.map PV.int++[PV.int 0])]]]
    dsimp![q1f k]
    have:=go [(b,p++[0])] (some (.tup [b.pv])) (by simp[tsz];omega) (by simp) (by simp) (by simp[out,pls,toDo])
    simpa[pr,pj]using this
   |ap f a=>
    simp only[inn,Tm.sz]at up go ⊢
    dsimp![q2]
    rw[show(rngP 0 (Int.toNat 2)).reverse=[.int 1,.int 0]from rfl]
    refine⟨⟨by decide,by decide⟩,by decide,?_⟩
    refine q6t trivial fun N1 hN1=>?_
    dsimp![q8u,pj,List.length_map]
    refine⟨big (by decide),big (by omega),big (by decide),hN1 _ _ _ ?_⟩
    refine q6t trivial fun N2 hN2=>?_
    dsimp![q0x,pj,List.length_map]
    refine⟨big (by decide),big (by omega),big (by decide),hN2 _ _ _ ?_⟩
    refine z0v trivial ?_
    have k:=q1m q2 [SO.lst [PV.tup [a.pv,PV.tup (p.map PV.int++[PV.int 1])],PV.tup [f.pv,PV.tup (p.map PV.int++[PV.int 0])]]]
    dsimp![q1f k]
    have:=go [(f,p++[0]),(a,p++[1])] (some (.tup [f.pv,a.pv])) (by simp[tsz];omega) (by simp) (by simp) (x6l f a p)
    simpa[pr,pj]using this
  dsimp![true_and]
  refine h1 u _ _ _ ?_
  cases ht:toDo u with
  |true=>
   dsimp![e1,q1f e1]
   refine⟨by rw[List.length_map];exact bigl (by omega),rest (fs++[p]) _ (by rw[ht];rfl) (by rw[q1k _ e1];simp) (q1x _ e2 (by omega)) (x2.set (.inr (Nat.le_refl _)))⟩
  |false=>
   dsimp![true_and]
   exact rest fs _ (by rw[ht];simp) e1 e2 x2
def ci(p:List Nat):List Int:=p.map fun x:Nat=>(x:Int)
theorem x9u(p:List Nat):pj (ci p)=.tup (encI p):=by simp[pj,ci,encI]
theorem y9a{t:Tm}{p:List Nat}(h:Pl t p):ci p∈pls t:=by
 induction h with
 |here k b a=>simp[pls,isFn,ci]
 |fn k t p _ ih=>simp only[pls];exact List.mem_map.mpr ⟨_,ih,rfl⟩
 |l f a p _ ih=>simp only[pls,List.mem_append];exact .inr (.inl (List.mem_map.mpr ⟨_,ih,rfl⟩))
 |r f a p _ ih=>simp only[pls,List.mem_append];exact .inr (.inr (List.mem_map.mpr ⟨_,ih,rfl⟩))
theorem z7n:∀{t:Tm}{q:List Int},q∈pls t->∃p,q=ci p/\Pl t p
 |.nm _,q,h=>by simp[pls]at h
 |.lf _ _,q,h=>by simp[pls]at h
 |.bd _,q,h=>by simp[pls]at h
 |.fn k t,q,h=>by
  simp only[pls,List.mem_map]at h
  obtain⟨r,hr,rfl⟩:=h
  obtain⟨p,rfl,hp⟩:=z7n hr
  exact⟨0::p,rfl,.fn k t p hp⟩
 |.ap f a,q,h=>by
  simp only[pls,List.mem_append,List.mem_map]at h
  rcases h with h|⟨r,hr,rfl⟩|⟨r,hr,rfl⟩
  ·split at h
   ·rename_i hf
    rw[List.mem_singleton]at h
    subst h
    cases f with
    |fn k b=>exact⟨[],rfl,.here k b a⟩
    |nm _=>cases hf
    |lf _ _=>cases hf
    |bd _=>cases hf
    |ap _ _=>cases hf
   ·cases h
  ·obtain⟨p,rfl,hp⟩:=z7n hr
   exact⟨0::p,rfl,.l f a p hp⟩
  ·obtain⟨p,rfl,hp⟩:=z7n hr
   exact⟨1::p,rfl,.r f a p hp⟩
theorem w0f{t:Tm}(h:pls t=[]):Nf t:=fun u hu=>by
 obtain⟨p,hp,_⟩:=R_pl hu
 have:=y9a hp
 rw[h]at this
 cases this
theorem x5q{t:Tm}{p:List Nat}(h:Pl t p):p.length<=t.dp:=by
 have:=(z2g t).2 _ (y9a h)
 simpa[ci]using this
inductive StepL:Tm->List Tm->Prop
 |stop {t:Tm}:pls t=[]->StepL t [t]
 |go {t:Tm} {p:List Nat} {qs:List (List Int)} {L:List Tm}:pls t=ci p::qs->Pl t p->StepL (dn t p) L->StepL t (t::L)
theorem StepL.last{t:Tm}{L:List Tm}(h:StepL t L):∃M u,L=M++[u]/\Rs t u/\Nf u:=by
 induction h with
 |stop h=>exact⟨[],_,rfl,.nil _,w0f h⟩
 |go h hp _ ih=>
  obtain⟨M,u,rfl,h1,h2⟩:=ih
  exact⟨_::M,u,rfl,.cons (pl_R hp) h1,h2⟩
def y9t(sp:Den):Prop:=∀(t:Tm)(S:q0i)(E:EK)(Q:VC),af 1 t->t.sz<=1000->t.nd<=400->(∀(r:Nat)(L:List Tm) S',S'[r]?=some (.lst (L.map Tm.pv))->S.length<=r->StepL t L->L.length<=1000->Ex [] S S'->Q (.ref r) S')->sp [t.pv] S E Q
theorem y5h{s1 s2:Den}(h1:PlsD s1)(h2:x3x s2):y9t (fnP 1 3 (q3m s1 s2)):=by
 intro t S E Q ha hz hn h
 refine⟨rfl,?_⟩
 unfold q3m
 refine seqI fun K hK=>?_
 dsimp![true_and]
 refine⟨big (by decide),hK _ _ ?_⟩
 clear hK K
 have g0:=q1g S (SO.lst [t.pv])
 have x0:Ex [] S (S++[SO.lst [t.pv]]):=Ex.new [] _ _
 refine seqI fun K hK=>?_
 dsimp![true_and]
 refine h1 t _ _ _ hz fun r S1 e hr hx=>hK _ _ ?_
 clear hK K
 rw[List.length_append,List.length_singleton]at hr
 refine seqI fun K hK=>?_
 refine q8v (fun m σ S2=>∃(us:List Tm)(u:Tm)(q:Nat),σ=[some t.pv,some (.ref S.length),some (.ref q)]/\S2[S.length]?=some (.lst ((us++[u]).map Tm.pv))/\S2[q]?=some (.lst ((pls u).map pj))/\S.length<q/\m=u.sz/\af 1 u/\us.length+u.sz<=1000/\u.nd<=400/\(∀L,StepL u (u::L)->StepL t (us++u::L))/\Ex [] S S2) t.sz ⟨[],t,r,rfl,hx.get g0 (by simp),e,by omega,rfl,ha,by simpa using hz,hn,fun L h=>h,x0.trans hx⟩ ?_
 rintro m σ S2 ⟨us,u,q,rfl,e1,e2,hq,rfl,ua,uz,un,hL,hx2⟩ T F hT hF
 dsimp![e2]
 have e1':=e1
 rw[List.map_append,List.map_cons,List.map_nil]at e1'
 cases ep:pls u with
 |nil=>
  rw[if_neg (by simp)]
  refine hF _ (hK _ _ ?_)
  dsimp![true_and]
  exact h _ (us++[u]) _ e1 (Nat.le_refl _) (hL [] (.stop ep)) (by rw[List.length_append,List.length_singleton];have:=z3u u;omega) hx2
 |cons p0 ps=>
  obtain⟨p,rfl,hp⟩:=z7n (t:=u) (q:=p0) (by rw[ep];simp)
  rw[if_pos (by simp)]
  rw[ep]at e2
  have hpl:=x5q hp
  have hd:=y3p u
  obtain⟨ra,_,rz,rn⟩:=R_af (pl_R hp) ua
  refine hT _ fun N hN=>?_
  refine seqI fun K2 hK2=>?_
  dsimp![e1',e2,q8k,q0x,x9u]
  refine h2 u p _ _ _ hp (by omega) (by omega) fun S3 hx3=>?_
  have e3:=hx3.get e1' (by simp)
  dsimp![q1f e3]
  refine⟨bigl (by simp only[List.length_append,List.length_map,List.length_singleton];omega),hK2 _ _ ?_⟩
  clear hK2
  have e4:=q1k (.lst (us.map Tm.pv++[u.pv]++[(dn u p).pv])) e3
  have x4:Ex [] S (S3.set S.length (.lst (us.map Tm.pv++[u.pv]++[(dn u p).pv]))):=(hx2.trans hx3).set (.inr (Nat.le_refl _))
  have e4':(S3.set S.length (.lst (us.map Tm.pv++[u.pv]++[(dn u p).pv])))[S.length]?=some (.lst (((us++[u])++[dn u p]).map Tm.pv)):=by rw[e4];simp
  generalize S3.set S.length (.lst (us.map Tm.pv++[u.pv]++[(dn u p).pv]))=S4 at e4 x4 e4' ⊢
  dsimp![e4,q8k]
  refine h1 (dn u p) _ _ _ (by omega) fun r5 S5 e5 hr5 hx5=>?_
  have l4:=q1l e4
  refine hN (dn u p).sz _ _ (by omega) ⟨us++[u],dn u p,r5,rfl,hx5.get e4' (by simp),e5,by omega,rfl,ra,by rw[List.length_append,List.length_singleton];omega,by omega,fun L hl=>?_,x4.trans hx5⟩
  have:=hL _ (.go ep hp hl)
  rw[List.append_assoc]
  exact this
def PlnD(sp:Den):Prop:=∀(t:Tm)(S:q0i)(E:EK)(Q:VC),af 1 t->t.sz<=1000->t.nd<=400->(∀(u:Tm) S',Rs t u->Nf u->Ex [] S S'->Q u.pv S')->sp [t.pv] S E Q
theorem x5p{s1:Den}(h1:y9t s1):PlnD (fnP 1 1 (q3n s1)):=by
 intro t S E Q ha hz hn h
 refine⟨rfl,?_⟩
 unfold q3n
 dsimp![true_and]
 refine h1 t _ _ _ ha hz hn fun r L S1 e _ hL _ hx=>?_
 obtain⟨M,u,rfl,h2,h3⟩:=hL.last
 rw[List.map_append,List.map_cons,List.map_nil]at e
 dsimp![e,q8k]
 exact h u S1 h2 h3 hx
theorem y7r:∀(t:Tm){n j:Nat},n<=j->t.gd n->oc t j=0
 |.nm _,_,_,_,_=>rfl
 |.lf _ _,_,_,_,h=>rfl
 |.bd k,n,j,l,h=>by
  have:k<n:=h
  simp only[oc]
  rw[if_neg (by omega)]
 |.fn _ t,n,j,l,h=>y7r t (Nat.succ_le_succ l) h.2
 |.ap f a,n,j,l,h=>by simp only[oc,y7r f l h.1,y7r a l h.2]
theorem x9g{t:Tm}(hg:t.gd 0)(hd:t.nd<=158):∃xs,t.pv=.tup xs/\okEq (.tup xs)/\eqBs xs xs=true:=by
 have h1:=y6i t (y7q t 0 hg)
 have h2:=y3p t
 have h3:=z3t _ h1.1
 have h4:=z4p _ h1.1
 obtain⟨xs,e⟩:∃xs,t.pv=.tup xs:=by cases t<;>exact⟨_,rfl⟩
 rw[e]at h1 h3 h4
 exact⟨xs,e,⟨h3,by omega⟩,by rw[q6s]at h4;exact h4⟩
theorem x8s{t:Tm}(hg:t.gd 0)(hd:t.nd<=158)(S:q0i)(Q:VC):cEq t.pv t.pv S Q=Q (.bl true) S:=by
 obtain⟨xs,e,h1,h2⟩:=x9g hg hd
 rw[e,z8g,h2]
 simp[h1]
def Rd.tt(L:Int×Fm->Tm):Rd->Tm
 |.w i f=>L (i,f)
 |.n .a l r=>.ap (l.tt L) (r.tt L)
 |.n .b l r=>.ap (r.tt L) (l.tt L)
 |.n .c l r=>.fn r.fm.arg.kd (.ap (l.tt L) (.ap (r.tt L) (.bd 0)))
 |.n .d l r=>.fn l.fm.arg.kd (.ap (r.tt L) (.ap (l.tt L) (.bd 0)))
theorem z1v(L:Int×Fm->Tm):∀r:Rd,(r.tt L).pv=r.tm (fun p=>(L p).pv)
 |.w _ _=>rfl
 |.n .a l r=>by simp only[Rd.tt,Rd.tm,Tm.pv,z1v L l,z1v L r];rfl
 |.n .b l r=>by simp only[Rd.tt,Rd.tm,Tm.pv,z1v L l,z1v L r];rfl
 |.n .c l r=>by simp only[Rd.tt,Rd.tm,Tm.pv,z1v L l,z1v L r];rfl
 |.n .d l r=>by simp only[Rd.tt,Rd.tm,Tm.pv,z1v L l,z1v L r];rfl
theorem x7p(f:Fm)(h:f.dp<=5):q1v f.kd=true/\dep f.kd<=30:=by
 rw[<-z6d]
 exact⟨q9p _,by rw[z4r];have:=y2p f;omega⟩
theorem q8d:∀f:Fm,q1v f.pv=true
 |.b s=>by simp[Fm.pv,q1v,q3f]
 |.n l x y=>by simp only[Fm.pv,q1v,q3f,List.length_cons,List.length_nil,Nat.reduceAdd,Nat.reduceLeDiff,decide_true,Bool.and_true,q8d x,q8d y,Bool.and_self]
theorem q8l{L:Int×Fm->Tm}:∀{r:Rd}{a b:Int}{g:Fm},r.is a b g->r.sm->(∀p∈r.ws,(L p).gd 0)->(r.tt L).gd 0
 |.w i f,a,b,g,_,_,h=>h (i,f) (by simp[Rd.ws])
 |.n s l r,a,b,g,⟨k,x,y,h1,h2,h3⟩,hs,h=>by
  have gl:=q8l h1 hs.1 fun p hp=>h p (by simp[Rd.ws,hp])
  have gr:=q8l h2 hs.2 fun p hp=>h p (by simp[Rd.ws,hp])
  have hx:=z4j h1 hs.1
  have hy:=z4j h2 hs.2
  rw[<-z1b h1]at hx
  rw[<-z1b h2]at hy
  have hxa:=y9r l.fm
  have hya:=y9r r.fm
  cases s with
  |a=>exact⟨gl,gr⟩
  |b=>exact⟨gr,gl⟩
  |c=>exact⟨x7p _ (by omega),z6s _ (Nat.zero_le _) gl,z6s _ (Nat.zero_le _) gr,Nat.zero_lt_one⟩
  |d=>exact⟨x7p _ (by omega),z6s _ (Nat.zero_le _) gr,z6s _ (Nat.zero_le _) gl,Nat.zero_lt_one⟩
theorem x0g{L:Int×Fm->Tm}{A:Tm->Prop}(hA:A=li\/A=af 1):∀{r:Rd},(∀p∈r.ws,(L p).gd 0/\A (L p))->A (r.tt L)/\(∀j,oc (r.tt L) j=0)
 |.w i f,h=>by
  obtain⟨h1,h2⟩:=h (i,f) (by simp[Rd.ws])
  exact⟨h2,fun j=>y7r _ (Nat.zero_le _) h1⟩
 |.n s l r,h=>by
  obtain⟨l1,l2⟩:=x0g hA (r:=l) fun p hp=>h p (by simp[Rd.ws,hp])
  obtain⟨r1,r2⟩:=x0g hA (r:=r) fun p hp=>h p (by simp[Rd.ws,hp])
  rcases hA with rfl|rfl
  ·cases s with
   |a=>exact⟨⟨l1,r1⟩,fun j=>by simp only[Rd.tt,oc,l2,r2]⟩
   |b=>exact⟨⟨r1,l1⟩,fun j=>by simp only[Rd.tt,oc,l2,r2]⟩
   |c=>exact⟨⟨by simp only[oc,l2,r2];rfl,l1,r1,trivial⟩,fun j=>by simp only[Rd.tt,oc,l2,r2];rw[if_neg (by omega)]⟩
   |d=>exact⟨⟨by simp only[oc,l2,r2];rfl,r1,l1,trivial⟩,fun j=>by simp only[Rd.tt,oc,l2,r2];rw[if_neg (by omega)]⟩
  ·cases s with
   |a=>exact⟨⟨l1,r1⟩,fun j=>by simp only[Rd.tt,oc,l2,r2]⟩
   |b=>exact⟨⟨r1,l1⟩,fun j=>by simp only[Rd.tt,oc,l2,r2]⟩
   |c=>exact⟨⟨by simp only[oc,l2,r2];decide,l1,r1,trivial⟩,fun j=>by simp only[Rd.tt,oc,l2,r2];rw[if_neg (by omega)]⟩
   |d=>exact⟨⟨by simp only[oc,l2,r2];decide,r1,l1,trivial⟩,fun j=>by simp only[Rd.tt,oc,l2,r2];rw[if_neg (by omega)]⟩
theorem x0f{L:Int×Fm->Tm}:∀{r:Rd},(∀p∈r.ws,(L p).sz<=30/\(L p).nd<=19)->(r.tt L).sz+4<=34*r.lv/\(r.tt L).nd+3<=22*r.lv
 |.w i f,h=>by have:=h (i,f) (by simp[Rd.ws]);simp only[Rd.tt,Rd.lv];omega
 |.n s l r,h=>by
  have h1:=x0f (r:=l) fun p hp=>h p (by simp[Rd.ws,hp])
  have h2:=x0f (r:=r) fun p hp=>h p (by simp[Rd.ws,hp])
  cases s<;>(simp only[Rd.tt,Rd.lv,Tm.sz,Tm.nd];omega)
def q6j(p:Int×Fm):Tm:=.lf p.1 p.2.pv
def UnQ(sp:Den):Prop:=∀(r:Rd)(a b:Int)(g:Fm),r.is a b g->r.sm->r.lv<=10->∀(S:q0i)(E:EK)(Q:VC),(∀S',Ex [] S S'->Q (r.tt q6j).pv S')->sp [r.pv] S E Q
theorem x4d{s1 s2 sf:Den}(h1:WoD s2 10)(hf:∀L,FtD L sf 10)(hs:s1=fnP 2 2 (q2m sf)):UnQ (fnP 1 1 (q3w s1 s2)):=by
 intro r a b g his hsm hr S E Q h
 refine⟨rfl,?_⟩
 unfold q3w
 dsimp![true_and]
 refine h1 r hr _ _ _ fun q S1 _ hq hx1=>?_
 dsimp![q0v hq]
 obtain⟨_,_,nd⟩:=y4r his
 have hl:=q7s r
 refine dcI (fun rest σ S2=>∃(ps qs:List (Int×Fm))(kvs:List (Key×PV))(j1 j2:Option PV),rest=ps.map encW/\σ=[j1,j2]/\qs++ps=r.ws/\S2[S1.length]?=some (.dK kvs)/\S2[q]?=some (.lst (r.ws.map encW))/\Ex [] S S2/\kvs.length<=qs.length/\(∀p∈qs,valP kvs (.inl p.1)=some (q6j p).pv)) ?_ ?_ _ _ _ ⟨r.ws,[],[],none,none,rfl,rfl,rfl,q1g _ _,q1m hq _,hx1.app _,Nat.le_refl _,by simp⟩
 ·rintro σ S2 ⟨ps,qs,kvs,j1,j2,hr',rfl,e,k1,k2,k3,k4,k5⟩
  obtain rfl:ps=[]:=by cases ps with
   |nil=>rfl
   |cons a b=>simp at hr'
  rw[List.append_nil]at e
  refine⟨q0v k2,?_⟩
  rw[hs]
  refine⟨rfl,?_⟩
  unfold q2m
  dsimp![true_and]
  refine hf (fun p=>(q6j p).pv) r a b g his hsm hr _ kvs S2 _ _ k1 (fun p hp=>k5 p (by rw[e];exact hp)) ?_
  dsimp![y1u]
  have:=h _ k3
  rw[z1v]at this
  exact this
 ·rintro x rest σ S2 ⟨ps,qs,kvs,j1,j2,hr',rfl,e,k1,k2,k3,k4,k5⟩ N hN
  obtain⟨p,ps,rfl⟩:∃p r,ps=p::r:=by
   cases ps with
   |nil=>simp at hr'
   |cons a b=>exact⟨a,b,rfl⟩
  simp only[List.map_cons,List.cons.injEq]at hr'
  obtain⟨rfl,rfl⟩:=hr'
  refine⟨q0v k2,?_⟩
  have hle:=congrArg List.length e
  simp only[List.length_append,List.length_cons]at hle
  have hq2:=q1l k2
  have hq1:=q1l hq
  dsimp![encW]
  refine⟨big (by decide),kvs,.inl p.1,k1,rfl,bigl (by omega),hN _ _ ⟨ps,qs++[p],putP kvs (.inl p.1) (q6j p).pv,_,_,rfl,rfl,by rw[<-e];simp,q1k _ k1,q1x _ k2 (by omega),k3.set (.inr hx1.1),?_,?_⟩⟩
  ·have:=y6a kvs (.inl p.1) (q6j p).pv
   simp only[List.length_append,List.length_singleton];omega
  ·intro p' hp'
   rcases List.mem_append.mp hp' with z|z
   ·have hne:p'.1≠p.1:=by
     intro y
     rw[<-e,List.map_append,List.nodup_append]at nd
     exact nd.2.2 p'.1 (List.mem_map.mpr ⟨p',z,rfl⟩) p.1 (by simp) y
    rw[z8r _ _ _ _ (by simpa using hne)]
    exact k5 p' z
   ·rw[List.mem_singleton]at z
    subst z
    exact y0h _ _ _
theorem Fm.ne2{l:Bool}{x y:Fm}:y≠.n l x y:=by
 intro h
 have:=congrArg Fm.lv h
 simp only[Fm.lv]at this
 have:=Fm.lv_pos x
 omega
theorem md_a(x y:Fm):md (.n false x y) y=some (Sg.a.st,x):=by simp[md,mdL,Sg.st]
theorem md_c(x y z:Fm):md (.n false x y) (.n false y z)=some (Sg.c.st,.n false x z):=by
 have:y≠.n false y z:=Fm.ne_in
 simp[md,mdL,this,Sg.st]
theorem md_b(x y:Fm):md y (.n true x y)=some (Sg.b.st,x):=by
 have h:mdL y (.n true x y)=none:=by
  cases y with
  |b s=>rfl
  |n l u v=>
   cases l with
   |true=>rfl
   |false=>
    have hne:v≠.n true x (.n false u v):=fun e=>by
     have:=congrArg Fm.lv e
     simp only[Fm.lv]at this
     have:=Fm.lv_pos x
     omega
    simp[mdL,hne]
 simp[md,h,mdR,Sg.st]
theorem md_d(x y z:Fm):md (.n true y z) (.n true x y)=some (Sg.d.st,.n true x z):=by
 have:y≠.n true y z:=Fm.ne_in
 simp[md,mdL,mdR,this,Sg.st]
theorem x4i{r t:Rd}{a b:Int}{g:Fm}(h:r.top=some t)(hi:r.is a b g):t.is a b g:=by
 unfold Rd.top at h
 split at h
 ·rename_i x y z
  cases h
  obtain⟨k,X,Z,⟨k',U,V,hx,hy,m1⟩,hz,m2⟩:=hi
  obtain⟨u,v,w,rfl,rfl,rfl⟩:=q7d m1
  have e:=q7d m2
  cases(show Fm.n false u w=Fm.n false g Z from e)
  exact⟨k',_,v,hx,⟨k,_,_,hy,hz,md_a _ _⟩,md_a _ _⟩
 ·rename_i x y z
  cases h
  obtain⟨k,X,Z,⟨k',U,V,hx,hy,m1⟩,hz,m2⟩:=hi
  obtain⟨u,v,w,rfl,rfl,rfl⟩:=q7d m1
  obtain⟨u',v',w',e,rfl,rfl⟩:=q7d m2
  cases e
  exact⟨k',_,.n false v w',hx,⟨k,_,_,hy,hz,md_c _ _ _⟩,md_c _ _ _⟩
 ·rename_i x y z
  cases h
  obtain⟨k,X,Y,hx,⟨k',U,V,hy,hz,m1⟩,m2⟩:=hi
  obtain⟨u,v,w,rfl,rfl,rfl⟩:=q7d m1
  have e:=q7d m2
  cases e
  exact⟨k',_,_,⟨k,_,_,hx,hy,md_b _ _⟩,hz,md_b _ _⟩
 ·rename_i x y z
  cases h
  obtain⟨k,X,Y,hx,⟨k',U,V,hy,hz,m1⟩,m2⟩:=hi
  obtain⟨u,v,w,rfl,rfl,rfl⟩:=q7d m1
  obtain⟨u',v',w',rfl,e,rfl⟩:=q7d m2
  cases e
  exact⟨k',_,_,⟨k,_,_,hx,hy,md_d _ _ _⟩,hz,md_d _ _ _⟩
 ·cases h
theorem z0g:∀{r t:Rd}{a b:Int}{g:Fm},t∈r.once->r.is a b g->t.is a b g
 |.w _ _,t,a,b,g,h,_=>by cases h
 |.n s l r,t,a,b,g,h,hi=>by
  simp only[Rd.once,List.mem_append,List.mem_map,Option.mem_toList,Option.mem_def]at h
  rcases h with(h|⟨l',h,rfl⟩)|⟨r',h,rfl⟩
  ·exact x4i h hi
  ·obtain⟨k,x,y,h1,h2,h3⟩:=hi
   exact⟨k,x,y,z0g h h1,h2,h3⟩
  ·obtain⟨k,x,y,h1,h2,h3⟩:=hi
   exact⟨k,x,y,h1,z0g h h2,h3⟩
def Jn(t u:Tm):Prop:=∃w,Rs t w/\Rs u w
theorem Jn.refl(t:Tm):Jn t t:=⟨t,.nil _,.nil _⟩
theorem Jn.ap{f f' a a':Tm}(h:Jn f f')(g:Jn a a'):Jn (.ap f a) (.ap f' a'):=by
 obtain⟨w,h1,h2⟩:=h
 obtain⟨v,g1,g2⟩:=g
 exact⟨.ap w v,(h1.l a).trans (g1.r w),(h2.l a').trans (g2.r w)⟩
theorem Jn.fn(k:PV){t u:Tm}(h:Jn t u):Jn (.fn k t) (.fn k u):=by
 obtain⟨w,h1,h2⟩:=h
 exact⟨.fn k w,h1.fn k,h2.fn k⟩
theorem y6w:∀(n:Nat)(t:Tm),t.sz<=n->af 1 t->∃u,Rs t u/\Nf u
 |0,t,h,_=>by have:=z3u t;omega
 |n+1,t,h,ha=>by
  by_cases z:Nf t
  ·exact⟨t,.nil _,z⟩
  ·obtain⟨u,hu⟩:∃u,R t u:=Classical.byContradiction fun y=>z fun u hu=>y ⟨u,hu⟩
   obtain⟨a1,_,a3,_⟩:=R_af hu ha
   obtain⟨v,v1,v2⟩:=y6w n u (by omega) a1
   exact⟨v,.cons hu v1,v2⟩
theorem w0w{t u v w:Tm}(ht:af 1 t)(hu:af 1 u)(j:Jn t u)(h1:Rs t v)(n1:Nf v)(h2:Rs u w)(n2:Nf w):v=w:=by
 obtain⟨x,j1,j2⟩:=j
 obtain⟨y,y1,y2⟩:=y6w _ x (Nat.le_refl _) (y8o j1 ht).1
 rw[z0j _ t (Nat.le_refl _) ht v y h1 n1 (j1.trans y1) y2,z0j _ u (Nat.le_refl _) hu w y h2 n2 (j2.trans y1) y2]
theorem z8x{X Y Z:Tm}(hx:X.gd 0)(hy:Y.gd 0)(k:PV):R (.ap (.fn k (.ap X (.ap Y (.bd 0)))) Z) (.ap X (.ap Y Z)):=by
 have:=R.be k (.ap X (.ap Y (.bd 0))) Z
 rw[q8c,q8c,y1b X _ hx,y1b Y _ hy,z0d,z2e]at this
 exact this
theorem x4h{L:Int×Fm->Tm}{r t:Rd}{a b:Int}{g:Fm}(h:r.top=some t)(hi:r.is a b g)(hs:r.sm)(hL:∀p∈r.ws,(L p).gd 0):Jn (r.tt L) (t.tt L):=by
 unfold Rd.top at h
 split at h
 ·rename_i x y z
  cases h
  obtain⟨k,X,Z,⟨k',U,V,hx,hy,_⟩,hz,_⟩:=hi
  have gx:=q8l hx hs.1.1 fun p hp=>hL p (by simp[Rd.ws,hp])
  have gy:=q8l hy hs.1.2 fun p hp=>hL p (by simp[Rd.ws,hp])
  exact⟨_,.one (z8x gx gy _),.nil _⟩
 ·rename_i x y z
  cases h
  obtain⟨k,X,Z,⟨k',U,V,hx,hy,_⟩,hz,_⟩:=hi
  have gx:=q8l hx hs.1.1 fun p hp=>hL p (by simp[Rd.ws,hp])
  have gy:=q8l hy hs.1.2 fun p hp=>hL p (by simp[Rd.ws,hp])
  have gz:=q8l hz hs.2 fun p hp=>hL p (by simp[Rd.ws,hp])
  exact⟨_,Rs.fn _ (.one (z8x gx gy _)),Rs.fn _ (Rs.r _ (.one (z8x gy gz _)))⟩
 ·rename_i x y z
  cases h
  obtain⟨k,X,Y,hx,⟨k',U,V,hy,hz,_⟩,_⟩:=hi
  have gy:=q8l hy hs.2.1 fun p hp=>hL p (by simp[Rd.ws,hp])
  have gz:=q8l hz hs.2.2 fun p hp=>hL p (by simp[Rd.ws,hp])
  exact⟨_,.one (z8x gz gy _),.nil _⟩
 ·rename_i x y z
  cases h
  obtain⟨k,X,Y,hx,⟨k',U,V,hy,hz,_⟩,_⟩:=hi
  have gx:=q8l hx hs.1 fun p hp=>hL p (by simp[Rd.ws,hp])
  have gy:=q8l hy hs.2.1 fun p hp=>hL p (by simp[Rd.ws,hp])
  have gz:=q8l hz hs.2.2 fun p hp=>hL p (by simp[Rd.ws,hp])
  exact⟨_,Rs.fn _ (.one (z8x gz gy _)),Rs.fn _ (Rs.r _ (.one (z8x gy gx _)))⟩
 ·cases h
theorem z5z{L:Int×Fm->Tm}:∀{r t:Rd}{a b:Int}{g:Fm},t∈r.once->r.is a b g->r.sm->(∀p∈r.ws,(L p).gd 0)->Jn (r.tt L) (t.tt L)
 |.w _ _,t,a,b,g,h,_,_,_=>by cases h
 |.n s l r,t,a,b,g,h,hi,hs,hL=>by
  simp only[Rd.once,List.mem_append,List.mem_map,Option.mem_toList,Option.mem_def]at h
  rcases h with(h|⟨l',h,rfl⟩)|⟨r',h,rfl⟩
  ·exact x4h h hi hs hL
  ·obtain⟨k,x,y,h1,h2,h3⟩:=hi
   have j:=z5z (L:=L) h h1 hs.1 fun p hp=>hL p (by simp[Rd.ws,hp])
   have e:l'.fm=l.fm:=by rw[z1b h1,z1b (z0g h h1)]
   cases s with
   |a=>exact j.ap (.refl _)
   |b=>exact(Jn.refl _).ap j
   |c=>exact Jn.fn _ (j.ap (.refl _))
   |d=>simp only[Rd.tt,e];exact Jn.fn _ ((Jn.refl _).ap (j.ap (.refl _)))
  ·obtain⟨k,x,y,h1,h2,h3⟩:=hi
   have j:=z5z (L:=L) h h2 hs.2 fun p hp=>hL p (by simp[Rd.ws,hp])
   have e:r'.fm=r.fm:=by rw[z1b h2,z1b (z0g h h2)]
   cases s with
   |a=>exact(Jn.refl _).ap j
   |b=>exact j.ap (.refl _)
   |c=>simp only[Rd.tt,e];exact Jn.fn _ ((Jn.refl _).ap (j.ap (.refl _)))
   |d=>exact Jn.fn _ (j.ap (.refl _))
theorem x4f{r t:Rd}(h:r.top=some t):t.ws=r.ws:=by
 unfold Rd.top at h
 split at h<;>first|(cases h;simp only[Rd.ws,List.append_assoc];done)|cases h
theorem z5x:∀{r t:Rd},t∈r.once->t.ws=r.ws
 |.w _ _,t,h=>by cases h
 |.n s l r,t,h=>by
  simp only[Rd.once,List.mem_append,List.mem_map,Option.mem_toList,Option.mem_def]at h
  rcases h with(h|⟨l',h,rfl⟩)|⟨r',h,rfl⟩
  ·exact x4f h
  ·simp only[Rd.ws,z5x h]
  ·simp only[Rd.ws,z5x h]
def q5f(spturned:Den):WS:=
 (wSeq (wSet 1 (wLst (q0d (wVar 0) wNil)))
 (wSeq (wSet 2 (q0t spturned (q0d (wVar 0) wNil)))
 (wSeq (q6i (q0w (wBin q9e (wVar 2) (wC .non))) (wSeq (q3c (wBM "list" q1s (wVar 1) (q0d (wVar 2) wNil)))
 (wSet 2 (q0t spturned (q0d (wVar 2) wNil)))))
 (wRet (wVar 1)))))
set_option maxHeartbeats 1000000
def Chn:List Rd->Prop
 |[]=>False
 |[r]=>r.tn=none
 |r::t::l=>r.tn=some t/\Chn (t::l)
theorem x4l{r t:Rd}(h:r.tn=some t):t.ms<r.ms/\t.lv=r.lv/\t.fd=r.fd:=z2j ((z1y r).1 t h)
theorem y4b:∀(n:Nat)(r:Rd),r.ms<=n->∃l,Chn (r::l)/\l.length<=n
 |n,r,h=>by
  cases e:r.tn with
  |none=>exact⟨[],e,Nat.zero_le _⟩
  |some t=>
   have:=x4l e
   cases n with
   |zero=>omega
   |succ n=>
    obtain⟨l,h1,h2⟩:=y4b n t (by omega)
    exact⟨t::l,⟨e,h1⟩,by simp;omega⟩
theorem z8d:∀{done:List Rd}{t:Rd}{rest:List Rd},Chn (done++t::rest)->t.tn=rest.head?
 |[],t,[],h=>h
 |[],t,u::rest,h=>h.1
 |[a],t,rest,h=>z8d (done:=[]) h.2
 |a::b::done,t,rest,h=>z8d (done:=b::done) h.2
theorem y4a:∀{l:List Rd}{r t:Rd},Chn (r::l)->t∈r::l->t.lv=r.lv/\t.fd=r.fd
 |[],r,t,h,ht=>by simp at ht;subst ht;exact⟨rfl,rfl⟩
 |u::l,r,t,h,ht=>by
  rcases List.mem_cons.mp ht with rfl|z
  ·exact⟨rfl,rfl⟩
  ·have:=x4l h.1
   have:=y4a h.2 z
   omega
theorem z8c:∀{l m:List Rd}{r:Rd},Chn (r::l)->Chn (r::m)->l=m
 |[],[],_,_,_=>rfl
 |[],u::m,r,h1,h2=>by have a:r.tn=none:=h1;rw[h2.1]at a;cases a
 |u::l,[],r,h1,h2=>by have a:r.tn=none:=h2;rw[h1.1]at a;cases a
 |u::l,v::m,r,h1,h2=>by
  have e:u=v:=by have:=h1.1;rw[h2.1]at this;cases this;rfl
  subst e
  rw[z8c h1.2 h2.2]
def y9s(sp:Den)(n:Nat):Prop:=∀(r:Rd)(l:List Rd),Chn (r::l)->r.lv<=n->r.lv<=100->∀(S:q0i)(E:EK)(Q:VC),(∀(q:Nat) S',S.length<=q->S'[q]?=some (.lst ((r::l).map Rd.pv))->Ex [] S S'->Q (.ref q) S')->sp [r.pv] S E Q
theorem x3q{l:List Rd}{r:Rd}(h:Chn (r::l)):l.length<=r.lv*r.lv:=by
 obtain⟨m,h1,h2⟩:=y4b r.ms r (Nat.le_refl _)
 rw[z8c h h1]
 exact Nat.le_trans h2 (x2d r)
theorem y4y{spt:Den}{n:Nat}(ht:TnD spt n):y9s (fnP 1 3 (q5f spt)) n:=by
 intro r l hch hr h100 S E Q h
 refine⟨rfl,?_⟩
 unfold q5f
 have hlen:l.length<=10000:=Nat.le_trans (x3q hch) (Nat.mul_le_mul h100 h100)
 refine seqI fun K hK=>?_
 dsimp![true_and]
 refine⟨big (by decide),hK _ _ ?_⟩
 clear hK
 refine seqI fun K hK=>?_
 dsimp![true_and]
 refine ht r hr _ _ _ (hK _ _ ?_)
 clear hK
 refine seqI fun K hK=>?_
 refine q8v (fun m σ S1=>∃(done rest:List Rd),r::l=done++rest/\m=rest.length/\done≠[]/\S1[S.length]?=some (.lst (done.map Rd.pv))/\Ex [] S S1/\σ=[some r.pv,some (.ref S.length),some (optP rest.head?)]) l.length ⟨[r],l,rfl,rfl,by simp,q1g _ _,Ex.new _ _ _,by rw[z8d (done:=[]) hch]⟩ ?_
 rintro m σ S1 ⟨done,rest,e,rfl,hne,h1,hx,rfl⟩ T F hT hF
 simp only[q0w,wBin,wVar,wC,List.getElem?_cons_zero,List.getElem?_cons_succ,q5v,z2h]
 cases rest with
 |nil=>
  dsimp![List.head?_nil,Option.isNone_none]
  refine hF _ (hK _ _ ?_)
  rw[List.append_nil]at e
  subst e
  dsimp![true_and]
  exact h _ _ (Nat.le_refl _) h1 hx
 |cons t rest=>
  dsimp![List.head?_cons,Option.isNone_some]
  refine hT _ fun N hN=>?_
  have hl:(r::l).length=done.length+(rest.length+1):=by rw[e];simp
  simp only[List.length_cons]at hl
  dsimp![wSeq,optP,h1,q1f h1]
  refine⟨by rw[List.length_map];exact bigl (by omega),?_⟩
  have tm:t∈r::l:=by rw[e];simp
  refine ht t (by have:=y4a hch tm;omega) _ _ _ ?_
  refine hN rest.length _ _ (by simp) ⟨done++[t],rest,by rw[e];simp,rfl,by simp,?_,hx.set (.inr (Nat.le_refl _)),?_⟩
  ·rw[q1k _ h1];simp
  ·rw[z8d (done:=done) (t:=t) (rest:=rest) (by rw[<-e];exact hch)]
set_option maxHeartbeats 1000000
def Rd.ap(s:Sg):Rd->Rd->Rd
 |.n .c u v,z=>.n s u (Rd.ap s v z)
 |x,z=>.n s x z
def Rd.pa(s:Sg):Rd->Rd->Rd
 |x,.n .d y z=>.n s (Rd.pa s x y) z
 |x,z=>.n s x z
def Rd.nf:Rd->Rd
 |.w i f=>.w i f
 |.n s l r=>if s.ac=true then Rd.ap s l.nf r.nf else Rd.pa s l.nf r.nf
def q3b(spLkind_of_form:Den):WS:=
 (wSeq (wSet 3 (wLst wNil))
 (wSeq (wSet 4 (wLst wNil))
 (wSeq (wFor (q5n (wVar 1)) (q4e 2 (q1e (q0z 5) (q1e (q0z 6) q4j))) (wSeq (wSet 7 (q0t spLkind_of_form (q0d (wVar 6) wNil)))
 (wSeq (wSet 8 (q5c (q5n (wVar 3)) [none,none,some 7] (q4e 2 (q1e (q0z 0) (q1e (q0z 1) q4j))) (q0w (wBin cEq (wVar 1) (wVar 2))) (wVar 0)))
 (wSeq (wIfS (q0w (wBin cEq (wVar 8) (wLst wNil)))
 (wSeq (wSet 8 (wLst (q0d (wBM "list" z1j (wVar 2) (q0d (wC (.int 0)) wNil)) wNil)))
 (q3c (wBM "list" q1s (wVar 3) (q0d (wTup (q0d (wBin bIx (wVar 8) (wC (.int 0))) (q0d (wVar 7) wNil))) wNil))))
 q1i)
 (q3c (wBM "list" q1s (wVar 4) (q0d (wTup (q0d (wVar 5) (q0d (wVar 6) (q0d (wTup (q0d (wC (.str "name")) (q0d (wBin bIx (wVar 8) (wC (.int 0))) wNil))) wNil)))) wNil)))))))
 (wRet (wTup (q0d (wCB q7f (q0d (wVar 0) wNil)) (q0d (wCB q7f (q0d (wVar 3) wNil)) (q0d (wCB q7f (q0d (wVar 4) wNil)) wNil))))))))
def q3g:WS:=
 (wSeq (wIfS (wOr (wNot (wTru (wCB fIsi (q0d (wVar 0) (q0d (wC (.ty "tuple")) wNil))))) (q0w (wBin cNe (wCB fLen (q0d (wVar 0) wNil)) (wVar 2))))
 (wRet (wC (.bl false)))
 q1i)
 (wRet (y0g (wCB fIsi (q0d (wBin bIx (wVar 0) (wC (.int 0))) (q0d (wC (.ty "str")) wNil))) (wBin cIn (wBin bIx (wVar 0) (wC (.int 0))) (wVar 1)))))
def q3o(spis_headed:Den):WS:=
 (wSeq (wSet 2 (wLst wNil))
 (wSeq (wSet 3 (wLst (q0d (wVar 0) wNil)))
 (wSeq (wSet 4 (wC (.int 0)))
 (wSeq (q6i (wTru (wVar 3)) (wSeq (wIfS (q0w (wBin cGt (wBin bAdd (wVar 4) (wCB fLen (q0d (wVar 3) wNil))) (wVar 1)))
 (q6m "NoReading" (q0d (wC (.str "a reading has each word of the sentence once at most")) wNil))
 q1i)
 (wSeq (wSet 5 (wBM0 "list" mPop (wVar 3)))
 (wSeq (wIfS (wTru (q0t spis_headed (q0d (wVar 5) (q0d (wTup (q0d (wC (.str "word")) wNil)) (q0d (wC (.int 3)) wNil)))))
 (wAug 4 z6w (wC (.int 1)))
 (wIfS (wTru (q0t spis_headed (q0d (wVar 5) (q0d (wC (.tup [(.str ">"),(.str "<"),(.str ">>"),(.str "<<")])) (q0d (wC (.int 3)) wNil)))))
 (q3c (wBM "list" q6e (wVar 3) (q0d (wLst (q0d (wBin bIx (wVar 5) (wC (.int 2))) (q0d (wBin bIx (wVar 5) (wC (.int 1))) wNil))) wNil)))
 (q6m "NoReading" (q0d (wC (.str "a reading is a word by a form, or a rule's sign and two readings")) wNil))))
 (q3c (wBM "list" q1s (wVar 2) (q0d (wVar 5) wNil)))))))
 (wRet (wVar 2))))))
def q2p(spshow_form:Den):WS:=
 (wSeq (wIfS (q0w (wBin cEq (wBin bIx (wVar 0) (wC (.int 0))) (wC (.str "basic"))))
 (wRet (wBin bIx (wVar 0) (wC (.int 1))))
 q1i)
 (wSeq (wAsg (wVar 0) (q4e 3 (q1e (q0z 1) (q1e (q0z 2) (q1e (q0z 3) q4j)))))
 (wSeq (wSet 4 (q0t spshow_form (q0d (wVar 3) wNil)))
 (wSeq (wIfS (q0w (wBin cNe (wBin bIx (wVar 3) (wC (.int 0))) (wC (.str "basic"))))
 (wSet 4 (z1t (y0b (Str.ofString "(") (y4t (wVar 4) (y0b (Str.ofString ")") y4u)))))
 q1i)
 (wRet (wBin bAdd (wBin bAdd (q0t spshow_form (q0d (wVar 2) wNil)) (wVar 1)) (wVar 4)))))))
def q3p(sprows_of:Den)(spshow_form:Den):WS:=
 (wRet (z7b spshow_form (q5c (q5n (q0t sprows_of (q0d (wVar 0) (q0d (wVar 1) wNil)))) [none,none] (q4e 2 (q1e (q0z 0) (q1e (q0z 1) q4j))) q2t (wVar 0))))
def q4a(spis_headed:Den)(spis_name:Den):WS:=
 (wSeq (wSet 1 (wLst (q0d (wVar 0) wNil)))
 (wSeq (wSet 2 (wC (.int 0)))
 (wSeq (q6i (wTru (wVar 1)) (wSeq (wIfS (q0w (wBin cGt (wBin bAdd (wVar 2) (wCB fLen (q0d (wVar 1) wNil))) (wC (.int 12))))
 (wRet (wC (.bl false)))
 q1i)
 (wSeq (wSet 3 (wBM0 "list" mPop (wVar 1)))
 (wIfS (wAnd (wTru (q0t spis_headed (q0d (wVar 3) (q0d (wTup (q0d (wC (.str "basic")) wNil)) (q0d (wC (.int 2)) wNil))))) (wTru (q0t spis_name (q0d (wBin bIx (wVar 3) (wC (.int 1))) wNil))))
 (wAug 2 z6w (wC (.int 1)))
 (wIfS (wTru (q0t spis_headed (q0d (wVar 3) (q0d (wC (.tup [(.str "/"),(.str "\\")])) (q0d (wC (.int 3)) wNil)))))
 (q3c (wBM "list" q6e (wVar 1) (q0d (wLst (q0d (wBin bIx (wVar 3) (wC (.int 2))) (q0d (wBin bIx (wVar 3) (wC (.int 1))) wNil))) wNil)))
 (wRet (wC (.bl false))))))))
 (wRet (wC (.bl true))))))
def q2c(spforms_of:Den)(spis_form:Den):WS:=
 (wSeq (wIfS (wOr (wNot (wTru (wCB fIsi (q0d (wVar 2) (q0d (wC (.ty "int")) wNil))))) (wOr (wTru (wCB fIsi (q0d (wVar 2) (q0d (wC (.ty "bool")) wNil)))) (wOr (q0w (wBin cLt (wVar 2) (wC (.int 0)))) (q0w (wBin cGe (wVar 2) (wCB fLen (q0d (wVar 1) wNil)))))))
 (q6m "NoReading" (q0d (wC (.str "the sentence has no such place")) wNil))
 q1i)
 (wSeq (y4w [] (y4q 4 (z7d spforms_of (q0d (wVar 0) (q0d (wBin bIx (wVar 1) (wVar 2)) wNil))))
 z3g)
 (wSeq (wIfS (wOr (wNot (wTru (q0t spis_form (q0d (wVar 3) wNil)))) (q0w (wBin z4x (wVar 3) (wVar 4))))
 (q6m "NoReading" (q0d (wC (.str "the word has not this form")) wNil))
 q1i)
 (wRet (wTup (q0d (wVar 2) (q0d (wBin bAdd (wVar 2) (wC (.int 1))) (q0d (wVar 3) wNil))))))))
def q2g(spmade:Den):WS:=
 (wSeq (wIfS (q0w (wBin cNe (wBin bIx (wVar 1) (wC (.int 1))) (wBin bIx (wVar 2) (wC (.int 0)))))
 (q6m "NoReading" (q0d (wC (.str "the left one does not end where the right one begins")) wNil))
 q1i)
 (wSeq (wSet 3 (q0t spmade (q0d (wBin bIx (wVar 1) (wC (.int 2))) (q0d (wBin bIx (wVar 2) (wC (.int 2))) wNil))))
 (wSeq (wIfS (wOr (q0w (wBin cIs (wVar 3) (wC .non))) (q0w (wBin cNe (wBin bIx (wVar 3) (wC (.int 0))) (wVar 0))))
 (q6m "NoReading" (q0d (wC (.str "the rule does not put these two forms together")) wNil))
 q1i)
 (wRet (wTup (q0d (wBin bIx (wVar 1) (wC (.int 0))) (q0d (wBin bIx (wVar 2) (wC (.int 1))) (q0d (wBin bIx (wVar 3) (wC (.int 1))) wNil))))))))
def q4v(spnodes_of:Den)(spformed_of_word:Den)(spformed_of_two:Den):WS:=
 (wSeq (wSet 3 (wLst wNil))
 (wSeq (wFor (z5l (q0t spnodes_of (q0d (wVar 2) (q0d (wCB fLen (q0d (wVar 1) wNil)) wNil)))) (q0z 4) (wIfS (q0w (wBin cEq (wBin bIx (wVar 4) (wC (.int 0))) (wC (.str "word"))))
 (q3c (wBM "list" q1s (wVar 3) (q0d (q0t spformed_of_word (q0d (wVar 0) (q0d (wVar 1) (q0d (wBin bIx (wVar 4) (wC (.int 1))) (q0d (wBin bIx (wVar 4) (wC (.int 2))) wNil))))) wNil)))
 (wSeq (wSet 5 (wBM0 "list" mPop (wVar 3)))
 (q3c (wBM "list" q1s (wVar 3) (q0d (q0t spformed_of_two (q0d (wBin bIx (wVar 4) (wC (.int 0))) (q0d (wVar 5) (q0d (wBM0 "list" mPop (wVar 3)) wNil)))) wNil))))))
 (wRet (wBin bIx (wVar 3) (wC (.int 0))))))
def q4x(spLwords_of:Den)(spformed:Den)(spplain_of:Den)(spunknown:Den):WS:=
 (wSeq (wIfS (wOr (q0w (wBin cNe (q0t spLwords_of (q0d (wVar 3) wNil)) (q0t spLwords_of (q0d (wVar 2) wNil)))) (q0w (wBin cNe (q0t spformed (q0d (wVar 0) (q0d (wVar 1) (q0d (wVar 3) wNil)))) (wTup (q0d (wC (.int 0)) (q0d (wCB fLen (q0d (wVar 1) wNil)) (q0d (wVar 4) wNil)))))))
 (wRet (wC (.bl false)))
 q1i)
 (wRet (wBin cEq (q0t spplain_of (q0d (q0t spunknown (q0d (wVar 3) wNil)) wNil)) (q0t spplain_of (q0d (q0t spunknown (q0d (wVar 2) wNil)) wNil)))))
def q4d(spLwords_of:Den)(spLweight:Den):WS:=
 (wSeq (wIfS (q0w (wBin cEq (wBin bIx (wVar 0) (wC (.int 0))) (wC (.str "word"))))
 (wRet (wC (.int 0)))
 q1i)
 (wSeq (wAsg (wVar 0) (q4e 3 (q1e (q0z 1) (q1e (q0z 2) (q1e (q0z 3) q4j)))))
 (wSeq (wSet 4 (wCB fLen (q0d (q0t spLwords_of (q0d (wBin bIx (wLst (q0d (wVar 2) (q0d (wVar 3) wNil))) (wCB fInt (q0d (wBin cIn (wVar 1) (wTup (q0d (wC (.str "<")) (q0d (wC (.str "<<")) wNil)))) wNil))) wNil)) wNil)))
 (wRet (wBin bAdd (wBin bAdd (wVar 4) (q0t spLweight (q0d (wVar 2) wNil))) (q0t spLweight (q0d (wVar 3) wNil)))))))
def q6x(spLdeck:Den)(spLwords:Den)(spLnext:Den)(spLdrawn_form:Den)(spLchain:Den)(spLwords_of:Den)(spLlone_book:Den)(spformed:Den)(spturns:Den)(spLturned_once:Den)(spLstays:Den)(spLweight:Den):WS:=
 (wSeq (wSet 1 (q0t spLdeck (q0d (wVar 0) wNil)))
 (wSeq (wSet 2 (q0t spLwords (q0d (wVar 1) (q0d (wBin bAdd (wC (.int 2)) (wBin bMod (q0t spLnext (q0d (wVar 1) wNil)) (wC (.int 2)))) wNil))))
 (wSeq (wSet 3 (q0t spLdrawn_form (q0d (wVar 1) (q0d (wVar 2) wNil))))
 (wSeq (wSet 4 (q0t spLchain (q0d (wVar 1) (q0d (wVar 2) (q0d (wVar 3) (q0d (wC (.int 0)) (q0d (wBin bAdd (wC (.int 1)) (wBin bMod (q0t spLnext (q0d (wVar 1) wNil)) (wC (.int 7)))) wNil)))))))
 (wSeq (wSet 5 (q0t spLwords (q0d (wVar 1) (q0d (wCB fLen (q0d (q0t spLwords_of (q0d (wVar 4) wNil)) wNil)) wNil))))
 (wSeq (wSet 6 (q5c (q5n (q0t spLwords_of (q0d (wVar 4) wNil))) [none,none,some 5] (q4e 2 (q1e (q0z 0) (q1e (q0z 1) q4j))) q2t (wTup (q0d (wBin bIx (wVar 2) (wVar 0)) (q0d (wVar 1) wNil)))))
 (wSeq (wSet 7 (q0t spLlone_book (q0d (wVar 2) (q0d (wVar 6) (q0d (q0t spLwords (q0d (wVar 1) (q0d (wC (.int 20)) wNil))) wNil)))))
 (wSeq (wIfS (q0w (wBin cNe (q0t spformed (q0d (wVar 7) (q0d (wCB q7f (q0d (wVar 5) wNil)) (q0d (wVar 4) wNil)))) (wTup (q0d (wC (.int 0)) (q0d (wCB fLen (q0d (wVar 5) wNil)) (q0d (wVar 3) wNil))))))
 (wRet (wC (.bl false)))
 q1i)
 (wSeq (wFor (q5n (q0t spturns (q0d (wVar 4) wNil))) (q0z 8) (wSeq (wFor (q5n (q0t spLturned_once (q0d (wVar 8) wNil))) (q0z 9) (wSeq (wIfS (wNot (wTru (q0t spLstays (q0d (wVar 7) (q0d (wCB q7f (q0d (wVar 5) wNil)) (q0d (wVar 4) (q0d (wVar 9) (q0d (wVar 3) wNil))))))))
 (wRet (wC (.bl false)))
 q1i)
 (wIfS (q0w (wBin cGe (q0t spLweight (q0d (wVar 9) wNil)) (q0t spLweight (q0d (wVar 8) wNil))))
 (wRet (wC (.bl false)))
 q1i)))
 (wIfS (wNot (wTru (q0t spLstays (q0d (wVar 7) (q0d (wCB q7f (q0d (wVar 5) wNil)) (q0d (wVar 4) (q0d (wVar 8) (q0d (wVar 3) wNil))))))))
 (wRet (wC (.bl false)))
 q1i)))
 (wRet (wC (.bl true))))))))))))
theorem Ex.wk{S0 S:q0i}{xs:List Nat}(h:Ex xs S0 S)(hn:∀n∈xs,S0.length<=n):Ex [] S0 S:=⟨h.1,fun i hi _=>h.2 i hi fun z=>by have:=hn i z;omega⟩
theorem z0w{C N T:Nat->Den}(hC:∀n,C (n+1)=fnP 5 10 (q4z (N n) (T n) (C n)))(hN:∀n,20<=n->z5i (N n))(hT:∀n m,m+20<=n->1<=m->z5f (T n) m):∀(n m:Nat),m+21<=n->1<=m->z5f (C n) m
 |0,m,hn,hm=>by omega
 |n+1,m,hn,hm=>by
  intro d c b ws f p S E Q hd hb hne nd nc hg hlv hov h
  rw[hC]
  refine⟨rfl,?_⟩
  unfold q4z
  have p2:2<=sizeLine:=big (by decide)
  have p3:3<=sizeLine:=big (by decide)
  have tr:=hT n m (by omega) hm d c b ws f p
  refine seqI fun K hK=>?_
  dsimp![true_and]
  refine ite2 (fun z=>tr S E Q hd hb hne nd nc hg hlv hov h) (fun z=>?_)
  cases f with
  |b t=>
   dsimp![fb0]
   exact tr S E Q hd hb hne nd nc hg hlv hov h
  |n l u v=>
   dsimp![fn0,q7u]
   refine hN n (by omega) d c _ _ _ hd fun n1 S1 _ _ hd1 hx1=>?_
   have hb1:=hx1.get hb (by simp;exact⟨nd,nc⟩)
   dsimp![true_and]
   refine⟨by decide,ite2 (fun _=>tr S1 E Q hd1 hb1 hne nd nc hg hlv hov fun r S' a1 a2 a3 a4 a5 a6=>h r S' a1 a2 a3 a4 a5 (hx1.trans a6)) (fun _=>hK _ _ ?_)⟩
   clear hK
   have hpos:0<(ws.length:Int):=by have:=List.length_pos_iff.mpr hne;omega
   refine seqI fun K hK=>?_
   dsimp![hb1]
   refine hN n (by omega) d c _ _ _ hd1 fun n2 S2 _ _ hd2 hx2=>?_
   have hb2:=hx2.get hb1 (by simp;exact⟨nd,nc⟩)
   obtain⟨y,hy,hya⟩:=q9x (i:=n2) hne
   dsimp![hb2,q0v hb2,List.length_map,hya]
   refine⟨hpos,p2,hK _ _ ?_⟩
   rw[q9v]
   clear hK
   have hmm:(0:Int)<(m:Int)-1:=by omega
   refine seqI fun K hK=>?_
   dsimp![true_and]
   refine hN n (by omega) d c _ _ _ hd2 fun n3 S3 _ _ hd3 hx3=>?_
   dsimp![true_and]
   obtain⟨k,hk,hk1,hk2⟩:∃k:Nat,1+n3 % ((m:Int)-1)=(k:Int)/\1<=k/\k<m:=by
    have a:=Int.emod_nonneg n3 (show(m:Int)-1≠0 by omega)
    have b:=Int.emod_lt_of_pos n3 hmm
    exact⟨(1+n3 % ((m:Int)-1)).toNat,by omega,by omega,by omega⟩
   refine⟨hmm,hK _ _ ?_⟩
   rw[hk]
   clear hK
   have hb3:=hx3.get hb2 (by simp;exact⟨nd,nc⟩)
   have hx123:=(hx1.trans hx2).trans hx3
   clear hx1 hx2 hx3 hd1 hd2 hb1 hb2
   have last:∀(s:Sg)(x z:Fm),md x z=some (s.st,.n l u v)->x.lv<=5->z.lv<=5->x.ov ws->z.ov ws->(wSeq (wSet 9 (q0t (C n) (q0d (wVar 0) (q0d (wVar 1) (q0d (wBin bIx (wVar 8) (wC (.int 0))) (q0d (wVar 3) (q0d (wVar 6) wNil)))))))
 (wRet (wTup (q0d (wVar 7) (q0d (wVar 9) (q0d (q0t (C n) (q0d (wVar 0) (q0d (wVar 1) (q0d (wBin bIx (wVar 8) (wC (.int 1))) (q0d (wBin bAdd (wVar 3) (wVar 6)) (q0d (wBin bSub (wVar 4) (wVar 6)) wNil)))))) wNil)))))) {nx:=fun _ S'=>Q .non S',rt:=Q} E [some (.ref d),some (.ref b),some (Fm.n l u v).pv,some (.int p),some (.int (m:Nat)),some (Fm.b y).pv,some (.int (k:Nat)),some (.str s.st),some (.tup [x.pv,z.pv]),none] S3:=by
    intro s x z hmd hx hz hxo hzo
    refine seqI fun K hK=>?_
    dsimp![y9c]
    refine z0w hC hN hT n k (by omega) hk1 d c b ws x p S3 _ _ hd3 hb3 hne nd nc (by omega) hx hxo fun a S4 hl1 hl2 hl3 hl4 hd4 hx4=>hK _ _ ?_
    have hb4:=hx4.get hb3 (by simp;exact⟨nd,nc⟩)
    dsimp![y1u]
    rw[show(m:Int)-(k:Int)=((m-k:Nat):Int) by omega]
    refine z0w hC hN hT n (m-k) (by omega) (by omega) d c b ws z (p+k) S4 _ _ hd4 hb4 hne nd nc (by omega) hz hzo fun r S5 hr1 hr2 hr3 hr4 hd5 hx5=>?_
    refine⟨p3,?_⟩
    rw[y8y]
    refine h (.n s a r) S5 (by simp only[Rd.lv];omega) ⟨hl2,hr2⟩ ⟨_,x,z,hl3,?_,hmd⟩ ⟨hl4,hr4⟩ hd5 (hx123.trans (hx4.trans hx5))
    rw[show p+(m:Int)=p+(k:Int)+((m-k:Nat):Int) by omega]
    exact hr3
   refine seqI fun K hK=>?_
   dsimp![true_and]
   refine hK _ _ ?_
   clear hK
   refine seqI fun K hK=>?_
   dsimp![fn1,fn2]
   refine⟨p3,p3,p2,hK _ _ ?_⟩
   clear hK
   have up:=u.lv_pos
   have vp:=v.lv_pos
   simp only[Fm.lv]at hlv
   refine seqI fun K hK=>?_
   cases l with
   |false=>
    dsimp![fn0,y5j]
    exact hK _ _ (last .c (.n false u (.b y)) (.n false (.b y) v) (md3 u (.b y) v) (by simp only[Fm.lv];omega) (by simp only[Fm.lv];omega) ⟨hov.1,hy⟩ ⟨hy,hov.2⟩)
   |true=>
    dsimp![wSeq,fn0,fn1,fn2,y5i]
    exact⟨p3,p3,p2,hK _ _ (last .d (.n true (.b y) v) (.n true u (.b y)) (md4 u (.b y) v) (by simp only[Fm.lv];omega) (by simp only[Fm.lv];omega) ⟨hy,hov.2⟩ ⟨hov.1,hy⟩)⟩
theorem q7l(ss:List Str):q6c (ss.map PV.str):=by
 induction ss with
 |nil=>exact⟨rfl,Nat.zero_le _⟩
 |cons s r ih=>
  obtain⟨h1,h2⟩:=ih
  exact⟨by simp[nrfs,nrf,h1],by simp only[List.map_cons,deps,dep];omega⟩
theorem z8l(ss:List Str)(z:Str):((ss.map PV.str).any fun y=>eqB y (.str z))=decide (z∈ss):=by
 induction ss with
 |nil=>rfl
 |cons s r ih=>
  rw[List.map_cons,List.any_cons,ih,q4o]
  by_cases h:s=z
  ·simp[h]
  ·have:¬z=s:=fun e=>h e.symm
   simp[h,this]
def HdD(sp:Den):Prop:=∀(z:Str)(xs:List PV)(hs:List Str)(n:Nat)(S:q0i)(E:EK)(Q:VC),Q (.bl (decide (xs.length+1=n)&&decide (z∈hs))) S->sp [.tup (.str z::xs),.tup (hs.map PV.str),.int n] S E Q
theorem w0z:HdD (fnP 3 3 q3g):=by
 intro z xs hs n S E Q h
 refine⟨rfl,?_⟩
 unfold q3g
 refine seqI fun K hK=>?_
 by_cases hl:xs.length+1=n
 ·rw[decide_eq_true hl,Bool.true_and]at h
  dsimp![Bool.true_eq_false,hl]
  refine hK _ _ ?_
  clear hK
  dsimp![q0x]
  refine⟨q7l hs,?_⟩
  rw[z8l]
  exact h
 ·rw[decide_eq_false hl,Bool.false_and]at h
  have hl':¬((xs.length+1:Nat):Int)=(n:Int):=by omega
  dsimp![Bool.true_eq_false,hl',hl]
  exact h
def Fm.nb:Fm->Prop
 |.b s=>q3t s=true
 |.n _ x y=>x.nb/\y.nb
theorem x1s{ws:List Str}(hw:∀w∈ws,q3t w=true):∀{f:Fm},f.ov ws->f.nb
 |.b s,h=>hw s h
 |.n _ x y,h=>⟨x1s hw h.1,x1s hw h.2⟩
def Fm.nod:Fm->Nat
 |.b _=>1
 |.n _ x y=>x.nod+y.nod+1
def fl2(fs:List Fm):Nat:=(fs.map Fm.lv).sum
def fn2'(fs:List Fm):Nat:=(fs.map Fm.nod).sum
theorem y3g(fs:List Fm):fs.length<=fl2 fs:=by
 induction fs with
 |nil=>exact Nat.le_refl _
 |cons f r ih=>have:=f.lv_pos;simp only[fl2,List.map_cons,List.sum_cons,List.length_cons]at ih ⊢;omega
theorem y7s(fs:List Fm)(g:Fm):fl2 (fs++[g])=fl2 fs+g.lv:=by simp[fl2]
theorem z7w(fs:List Fm)(g:Fm):fn2' (fs++[g])=fn2' fs+g.nod:=by simp[fn2']
def IsNm(sp:Den):Prop:=∀(z:Str)(S:q0i)(E:EK)(Q:VC),z.length<=1000000->(∀S',Ex [] S S'->Q (.bl (q3t z)) S')->sp [.str z] S E Q
def IsfD(sp:Den):Prop:=∀(f:Fm)(S:q0i)(E:EK)(Q:VC),f.nb->f.lv<=12->(∀S',Ex [] S S'->Q (.bl true) S')->sp [f.pv] S E Q
theorem x4x(l:Bool):sSl l∈[Str.ofString "/",Str.ofString "\\"]:=by cases l<;>simp[sSl]
theorem x8e{sh si:Den}(hh:HdD sh)(hi:IsNm si):IsfD (fnP 1 4 (q4a sh si)):=by
 intro f S E Q ho hl h
 refine⟨rfl,?_⟩
 unfold q4a
 refine seqI fun K hK=>?_
 dsimp![true_and]
 refine⟨by decide,hK _ _ ?_⟩
 clear hK K
 refine seqI fun K hK=>?_
 dsimp![true_and]
 refine hK _ _ ?_
 clear hK K
 refine seqI fun K hK=>?_
 refine q8v (fun m σ S1=>∃(fs:List Fm)(k:Nat)(v:Option PV),σ=[some f.pv,some (.ref S.length),some (.int (k:Int)),v]/\S1[S.length]?=some (.lst (fs.map Fm.pv))/\(∀g∈fs,g.nb)/\k+fl2 fs=f.lv/\m=fn2' fs/\Ex [S.length] S S1) (fn2' [f]) ⟨[f],0,none,rfl,q1g _ _,fun g hg=>by simp only[List.mem_singleton]at hg;subst hg;exact ho,by simp[fl2],rfl,(Ex.new _ S _)⟩ ?_
 rintro m σ S1 ⟨fs,k,v,rfl,g1,hf,hk,rfl,hx⟩ T F hT hF
 dsimp![g1]
 rcases List.eq_nil_or_concat fs with rfl|⟨gs,g,rfl⟩
 ·rw[if_neg (by simp)]
  refine hF _ (hK _ _ ?_)
  dsimp![true_and]
  exact h _ (hx.wk (by simp))
 ·rw[if_pos (by simp)]
  simp only[List.concat_eq_append]at g1 hf hk hT
  refine hT _ fun N hN=>?_
  clear hT hF
  have hlen:=y3g (gs++[g])
  rw[y7s]at hk hlen
  refine seqI fun K2 hK2=>?_
  dsimp![g1,q1f g1,q0v g1]
  rw[if_neg (by simp only[List.length_map];omega)]
  refine hK2 _ _ ?_
  clear hK2 K2
  have e:S1[S.length]?=some (.lst (gs.map Fm.pv++[g.pv])):=by rw[g1];simp
  refine seqI fun K2 hK2=>?_
  dsimp![e,q1f e,List.getLast?_append,List.getLast?_singleton,Option.some_or,List.dropLast_concat]
  refine hK2 _ _ ?_
  clear hK2 K2
  have e2:=q1k (.lst (gs.map Fm.pv)) e
  have x2:Ex [S.length] S (S1.set S.length (.lst (gs.map Fm.pv))):=hx.set (.inl (by simp))
  have og:=hf g (by simp)
  cases g with
  |b s=>
   dsimp![true_and]
   refine⟨by decide,hh (Str.ofString "basic") [.str s] [Str.ofString "basic"] 2 _ _ _ ?_⟩
   rw[show(decide (([PV.str s].length+1=2))&&decide (Str.ofString "basic" ∈[Str.ofString "basic"]))=true by simp]
   dsimp![fb1]
   refine hi s _ _ _ ?_ fun S2 x3=>?_
   ·have:=(z0k (show q3t s=true from og)).2.1
    omega
   rw[show q3t s=true from og]
   dsimp![true_and]
   have e4:S2[S.length]?=some (.lst (gs.map Fm.pv)):=by rw[x3.2 _ (q1l e2) (by simp)];exact e2
   refine hN (fn2' gs) _ _ (by rw[z7w];show fn2' gs<fn2' gs+1;omega) ⟨gs,k+1,some (Fm.b s).pv,by simp,e4,fun g hg=>hf g (by simp[hg]),?_,rfl,x2.trans x3.nil⟩
   simp only[Fm.lv]at hk
   omega
  |n l x y=>
   dsimp![true_and]
   refine⟨by decide,hh (sSl l) [x.pv,y.pv] [Str.ofString "basic"] 2 _ _ _ ?_⟩
   rw[show(decide (([x.pv,y.pv].length+1=2))&&decide (sSl l∈[Str.ofString "basic"]))=false by simp]
   dsimp![true_and]
   refine hh (sSl l) [x.pv,y.pv] [Str.ofString "/",Str.ofString "\\"] 3 _ _ _ ?_
   rw[show(decide (([x.pv,y.pv].length+1=3))&&decide (sSl l∈[Str.ofString "/",Str.ofString "\\"]))=true by rw[decide_eq_true (x4x l)];rfl]
   have e5:=q1m e2 [.lst [y.pv,x.pv]]
   dsimp![fn1,fn2,e2,q1f e5]
   refine⟨by decide,big ?_,?_⟩
   ·have:=y3g gs
    simp only[List.length_map]
    omega
   have tlx:fl2 (gs++[y,x])=fl2 gs+y.lv+x.lv:=by simp[fl2];omega
   have tnx:fn2' (gs++[y,x])=fn2' gs+y.nod+x.nod:=by simp[fn2'];omega
   refine hN (fn2' (gs++[y,x])) _ _ (by rw[z7w,tnx];show _<fn2' gs+(x.nod+y.nod+1);omega) ⟨gs++[y,x],k,_,rfl,?_,fun g hg=>?_,?_,rfl,(x2.trans (Ex.new _ _ _)).set (.inl (by simp))⟩
   ·rw[q1k _ e5];simp
   ·simp only[List.mem_append,List.mem_cons,List.not_mem_nil,or_false]at hg
    rcases hg with hg|rfl|rfl
    ·exact hf g (by simp[hg])
    ·exact og.2
    ·exact og.1
   ·simp only[Fm.lv]at hk
    omega
def ShoD(sp:Den)(n:Nat):Prop:=∀(f:Fm),f.nb->f.lv<=n->∃z:Str,z.length+10<=20*f.lv/\∀(S:q0i)(E:EK)(Q:VC),Q (.str z) S->sp [f.pv] S E Q
theorem z7j{T:Nat->Den}(hT:∀n,T (n+1)=fnP 1 5 (q2p (T n))):∀(n:Nat),n<=100->ShoD (T n) n
 |0,_=>fun f _ h=>by have:=f.lv_pos;omega
 |n+1,hn100=>by
  intro f hn hl
  cases f with
  |b s=>
   refine⟨s,?_,fun S E Q hq=>?_⟩
   ·have:=(z0k (show q3t s=true from hn)).2.1
    simp only[Fm.lv];omega
   ·rw[hT]
    refine⟨rfl,?_⟩
    unfold q2p
    dsimp![wSeq,fb0,fb1]
    exact hq
  |n l x y=>
   have xp:=x.lv_pos
   have yp:=y.lv_pos
   simp only[Fm.lv]at hl
   obtain⟨zx,hx1,hx2⟩:=z7j hT n (by omega) x hn.1 (by omega)
   obtain⟨zy,hy1,hy2⟩:=z7j hT n (by omega) y hn.2 (by omega)
   have l1:∀l:Bool,(sSl l).length=1:=fun l=>by cases l<;>decide +kernel
   have la:∀a b:Str,(a++b).length=a.length+b.length:=fun a b=>by
    show(a.cps++b.cps).size=_
    rw[Array.size_append];rfl
   have last:∀(w:Str)(S:q0i)(E:EK)(Q:VC),w.length<=20*y.lv->Q (.str (zx++sSl l++w)) S->wRet (wBin bAdd (wBin bAdd (q0t (T n) (q0d (wVar 2) wNil)) (wVar 1)) (wVar 4)) {nx:=fun x S'=>Q PV.non S',rt:=Q} E
     [some (Fm.n l x y).pv,some (PV.str (sSl l)),some x.pv,some y.pv,some (PV.str w)] S:=fun w S E Q hw hq=>by
    dsimp![true_and]
    refine hx2 S _ _ ?_
    dsimp![true_and]
    have e1:=la zx (sSl l)
    have e2:=la (zx++sSl l) w
    have e3:=l1 l
    exact⟨big (by omega),big (by omega),hq⟩
   have hw:(if y.lv=1 then zy else Str.empty++Str.ofString "(" ++zy++Str.ofString ")").length<=zy.length+2:=by
    split
    ·omega
    ·rw[la,la,la,show Str.empty.length=0 from rfl,show(Str.ofString "(").length=1 by decide +kernel,show(Str.ofString ")").length=1 by decide +kernel]
     omega
   have hall:∀(S:q0i)(E:EK)(Q:VC),Q (.str (zx++sSl l++(if y.lv=1 then zy else Str.empty++Str.ofString "(" ++zy++Str.ofString ")"))) S->T (n+1) [(Fm.n l x y).pv] S E Q:=by
    intro S E Q hq
    rw[hT]
    refine⟨rfl,?_⟩
    unfold q2p
    refine seqI fun K hK=>?_
    dsimp![fn0,q7u]
    refine hK _ _ ?_
    clear hK K
    refine seqI fun K hK=>?_
    dsimp![Fm.pv]
    refine hK _ _ ?_
    clear hK K
    refine seqI fun K hK=>?_
    dsimp![true_and]
    refine hy2 S _ _ (hK _ _ ?_)
    clear hK K
    refine seqI fun K hK=>?_
    cases y with
    |b s=>
     dsimp![fb0]
     exact hK _ _ (last _ _ _ _ (by omega) hq)
    |n m u v=>
     have up:=u.lv_pos
     have vp:=v.lv_pos
     have ne:¬(Fm.n m u v).lv=1:=by simp only[Fm.lv];omega
     rw[if_neg ne]at hq hw
     have hw2:=la (Str.empty++Str.ofString "(" ++zy) (Str.ofString ")")
     have hw3:=la (Str.empty++Str.ofString "(") zy
     have hw4:=la Str.empty (Str.ofString "(")
     have c1:(Str.ofString "(").length=1:=by decide +kernel
     have c2:(Str.ofString ")").length=1:=by decide +kernel
     have c0:Str.empty.length=0:=rfl
     dsimp! [fn0,q7u]
     refine ⟨by decide,⟨big (by omega),big (by omega)⟩,big (by omega),big (by omega),?_⟩
     exact hK _ _ (last _ _ _ _ (by omega) hq)
   refine ⟨_,?_,hall⟩
   have e1:=la zx (sSl l)
   have e2:=la (zx++sSl l) (if y.lv=1 then zy else Str.empty++Str.ofString "(" ++zy++Str.ofString ")")
   have e3:=l1 l
   simp only [Fm.lv]
   omega
def rl2(ts:List Rd):Nat:=(ts.map Rd.lv).sum
def rw2'(ts:List Rd):Nat:=(ts.map fun t=>t.wi.length).sum
theorem x0w(fs:List Rd):fs.length<=rl2 fs:=by
 induction fs with
 |nil=>exact Nat.le_refl _
 |cons f r ih=>have:=f.lv_pos;simp only[rl2,List.map_cons,List.sum_cons,List.length_cons]at ih ⊢;omega
theorem y5x(fs:List Rd)(g:Rd):rl2 (fs++[g])=rl2 fs+g.lv:=by simp[rl2]
theorem z7l(fs:List Rd)(g:Rd):rw2' (fs++[g])=rw2' fs+g.wi.length:=by simp[rw2']
def sgs:List Str:=[Str.ofString ">",Str.ofString "<",Str.ofString ">>",Str.ofString "<<"]
theorem x4t(s:Sg):s.st∈sgs:=by cases s<;>simp[sgs,Sg.st]
theorem x9o(s:Sg):s.st∉[Str.ofString "word"]:=by
 rw[List.mem_singleton]
 intro e
 have:=z2a s
 exact this.mp e
def NodD(sp:Den):Prop:=∀(r:Rd)(m:Nat),r.lv<=m->m<=100->∀(S:q0i)(E:EK)(Q:VC),(∀(q:Nat) S',S.length<=q->S'[q]?=some (.lst (r.wi.map Rd.pv))->Ex [] S S'->Q (.ref q) S')->sp [r.pv,.int (m:Nat)] S E Q
theorem y9d{sh:Den}(hh:HdD sh):NodD (fnP 2 6 (q3o sh)):=by
 intro r m hr hm S E Q h
 refine⟨rfl,?_⟩
 unfold q3o
 have p1:1<=sizeLine:=big (by decide)
 have p2:2<=sizeLine:=big (by decide)
 have hwr:=q9y r
 refine seqI fun K hK=>?_
 dsimp![true_and]
 refine⟨Nat.zero_le _,hK _ _ ?_⟩
 clear hK K
 refine seqI fun K hK=>?_
 dsimp![true_and]
 refine⟨p1,hK _ _ ?_⟩
 clear hK K
 have g0:=q1m (q1g S (.lst [])) [SO.lst [r.pv]]
 have g0':=q1g (S++[SO.lst []]) (.lst [r.pv])
 have x0:Ex [S.length,S.length+1] S (S++[SO.lst []]++[SO.lst [r.pv]]):=(Ex.new _ S _).app _
 have dl:(S++[SO.lst []]).length=S.length+1:=by simp
 rw[dl]at g0' ⊢
 generalize S++[SO.lst []]++[SO.lst [r.pv]]=S0 at g0 g0' x0 ⊢
 refine seqI fun K hK=>?_
 dsimp![true_and]
 refine hK _ _ ?_
 clear hK K
 refine seqI fun K hK=>?_
 refine q8v (fun mm σ S1=>∃(ts ns:List Rd)(k:Nat)(v:Option PV),σ=[some r.pv,some (.int (m:Nat)),some (.ref S.length),some (.ref (S.length+1)),some (.int (k:Nat)),v]/\S1[S.length]?=some (.lst (ns.map Rd.pv))/\S1[S.length+1]?=some (.lst (ts.map Rd.pv))/\ns++ts.reverse.flatMap Rd.wi=r.wi/\k+rl2 ts=r.lv/\mm=rw2' ts/\Ex [S.length,S.length+1] S S1) (rw2' [r]) ⟨[r],[],0,none,rfl,g0,g0',by simp,by simp[rl2],rfl,x0⟩ ?_
 rintro mm σ S1 ⟨ts,ns,k,v,rfl,g1,g2,e1,e2,rfl,hx⟩ T F hT hF
 dsimp![g2]
 rcases List.eq_nil_or_concat ts with rfl|⟨gs,t,rfl⟩
 ·rw[if_neg (by simp)]
  refine hF _ (hK _ _ ?_)
  dsimp![true_and]
  rw[List.reverse_nil,List.flatMap_nil,List.append_nil]at e1
  subst e1
  exact h _ _ (Nat.le_refl _) g1 (hx.wk (by simp))
 ·rw[if_pos (by simp)]
  simp only[List.concat_eq_append]at g2 e1 e2 hT
  refine hT _ fun N hN=>?_
  clear hT hF
  have hlen:=x0w (gs++[t])
  rw[y5x]at e2 hlen
  have nl:=congrArg List.length e1
  simp only[List.length_append]at nl hlen
  have ne:S.length≠S.length+1:=by omega
  refine seqI fun K2 hK2=>?_
  dsimp![g2,q1f g2,q0v g2]
  rw[if_neg (by simp only[List.length_map,List.length_append];omega)]
  refine hK2 _ _ ?_
  clear hK2 K2
  have e:S1[S.length+1]?=some (.lst (gs.map Rd.pv++[t.pv])):=by rw[g2];simp
  refine seqI fun K2 hK2=>?_
  dsimp![e,q1f e,List.getLast?_append,List.getLast?_singleton,Option.some_or,List.dropLast_concat]
  refine hK2 _ _ ?_
  clear hK2 K2
  have k2:=q1k (.lst (gs.map Rd.pv)) e
  have k1:=q1x (.lst (gs.map Rd.pv)) g1 (j:=S.length+1) (by omega)
  have x2:Ex [S.length,S.length+1] S (S1.set (S.length+1) (.lst (gs.map Rd.pv))):=hx.set (.inl (by simp))
  generalize S1.set (S.length+1) (.lst (gs.map Rd.pv))=S2 at k1 k2 x2 ⊢
  rw[List.reverse_append,List.reverse_singleton,List.singleton_append,List.flatMap_cons]at e1
  have fin:∀(us:List Rd)(k':Nat)(S3:q0i),S3[S.length]?=some (.lst (ns.map Rd.pv))->S3[S.length+1]?=some (.lst (us.map Rd.pv))->Ex [S.length,S.length+1] S S3->k'+rl2 us=r.lv->t::us.reverse.flatMap Rd.wi=t.wi++gs.reverse.flatMap Rd.wi->rw2' us<rw2' (gs++[t])->
    q3c (wBM "list" q1s (wVar 2) (q0d (wVar 5) wNil)) {nx:=N,rt:=Q,bk:=K,ct:=N} E [some r.pv,some (.int (m:Nat)),some (.ref S.length),some (.ref (S.length+1)),some (.int (k':Nat)),some t.pv] S3:=by
   intro us k' S3 a1 a2 a3 a4 a5 a6
   dsimp![a1,q1f a1]
   refine⟨big (by simp only[List.length_map];omega),hN _ _ _ a6 ⟨us,ns++[t],k',_,rfl,?_,q1x _ a2 (by omega),?_,a4,rfl,a3.set (.inl (by simp))⟩⟩
   ·rw[q1k _ a1];simp
   ·rw[<-e1,<-a5];simp
  cases t with
  |w i f=>
   refine seqI fun K2 hK2=>?_
   dsimp![true_and]
   refine⟨p1,hh (Str.ofString "word") [.int i,f.pv] [Str.ofString "word"] 3 _ _ _ ?_⟩
   rw[show(decide (([PV.int i,f.pv].length+1=3))&&decide (Str.ofString "word" ∈[Str.ofString "word"]))=true by simp]
   dsimp![true_and]
   refine hK2 _ _ ?_
   rw[show(k:Int)+1=((k+1:Nat):Int) by omega]
   exact fin gs (k+1) S2 k1 k2 x2 (by simp only[Rd.lv]at e2;omega) (by simp[Rd.wi]) (by rw[z7l];simp[Rd.wi])
  |n s l q=>
   refine seqI fun K2 hK2=>?_
   dsimp![true_and]
   refine⟨p1,hh s.st [l.pv,q.pv] [Str.ofString "word"] 3 _ _ _ ?_⟩
   rw[show(decide (([l.pv,q.pv].length+1=3))&&decide (s.st∈[Str.ofString "word"]))=false by rw[decide_eq_false (x9o s)];rfl]
   dsimp![true_and]
   refine hh s.st [l.pv,q.pv] sgs 3 _ _ _ ?_
   rw[show(decide (([l.pv,q.pv].length+1=3))&&decide (s.st∈sgs))=true by rw[decide_eq_true (x4t s)];rfl]
   have e5:=q1m k2 [.lst [q.pv,l.pv]]
   dsimp![rn1,rn2,k2,q1f e5]
   refine⟨p2,big (by simp only[List.length_map,List.length_cons,List.length_nil];omega),hK2 _ _ ?_⟩
   refine fin (gs++[q,l]) k _ (q1x _ (q1m k1 _) (by omega)) (by rw[q1k _ e5];simp) ((x2.app _).set (.inl (by simp))) ?_ ?_ ?_
   ·simp only[Rd.lv]at e2;simp[rl2]at e2 ⊢;omega
   ·simp[Rd.wi]
   ·rw[z7l];simp[rw2',Rd.wi];omega
abbrev Tri:=Int×Int×Fm
def triP(t:Tri):PV:=.tup [.int t.1,.int t.2.1,t.2.2.pv]
def stp:Rd->List Tri->Option (List Tri)
 |.w i f,st=>some ((i,i+1,f)::st)
 |.n s _ _,(a,k,x)::(k',b,y)::st=>match md x y with
  |some (z,g)=>if k=k'/\z=s.st then some ((a,b,g)::st)else none
  |none=>none
 |.n _ _ _,_=>none
def run:List Rd->List Tri->Option (List Tri)
 |[],st=>some st
 |t::ts,st=>(stp t st).bind (run ts)
theorem y1c:∀{r:Rd}{a b:Int}{g:Fm}(ts:List Rd)(st:List Tri),r.is a b g->run (r.wi.reverse++ts) st=run ts ((a,b,g)::st)
 |.w i f,a,b,g,ts,st,⟨h1,h2,h3⟩=>by
  subst h1 h2 h3
  rfl
 |.n s l r,a,b,g,ts,st,⟨k,x,y,h1,h2,h3⟩=>by
  rw[Rd.wi,List.reverse_cons,List.reverse_append,List.append_assoc,List.append_assoc,y1c _ _ h2,y1c _ _ h1]
  simp[run,stp,h3]
theorem z7x:∀{tr:List ((Str×Fm)×PV)},(tr.map (·.1.1)).Nodup->∀{t:(Str×Fm)×PV},t∈tr->(tr.filter fun u=>decide (u.1.1=t.1.1))=[t]
 |x::r,nd,t,ht=>by
  rw[List.map_cons,List.nodup_cons]at nd
  rcases List.mem_cons.mp ht with z|z
  ·subst z
   rw[List.filter_cons,if_pos (by simp)]
   congr 1
   rw[List.filter_eq_nil_iff]
   intro u hu e
   exact nd.1 (List.mem_map.mpr ⟨u,hu,by simpa using e⟩)
  ·rw[List.filter_cons,if_neg (by simp;exact fun e=>nd.1 (List.mem_map.mpr ⟨t,z,e.symm⟩))]
   exact z7x nd.2 z
def FosD(sp:Den):Prop:=∀(x y:PV)(tr:List ((Str×Fm)×PV))(t:(Str×Fm)×PV)(S:q0i)(E:EK)(Q:VC),tr.length<=100->t∈tr->(tr.map (·.1.1)).Nodup->t.1.2.nb->t.1.2.lv<=5->
 (∀(q:Nat) S',S'[q]?=some (.lst [t.1.2.pv])->Ex [] S S'->Q (.ref q) S')->sp [bkP x y tr,.str t.1.1] S E Q
theorem y9k{sr ss:Den}(hr:x9a sr)(hs:ShoD ss 5):FosD (fnP 2 2 (q3p sr ss)):=by
 intro x y tr t S E Q hl ht nd nb lv h
 obtain⟨z,_,hz⟩:=hs t.1.2 nb lv
 refine⟨rfl,?_⟩
 unfold q3p
 dsimp![true_and]
 refine hr x y tr t.1.1 _ _ _ hl ⟨t,ht,rfl⟩ fun q S1 hq hx=>?_
 rw[z7x nd ht]at hq
 dsimp![q0v hq]
 refine⟨big (by simp),?_⟩
 refine q6t (q0v hq) fun N hN=>?_
 dsimp![ftP]
 refine hN _ _ _ ?_
 refine z0v (q0v hq) ?_
 have gn:=q1g S1 (.lst [t.1.2.pv])
 refine⟨S1.length,[t.1.2.pv],[z],rfl,q0v gn,by simp,rfl,fun i v k e1 e2=>?_,fun ps hp _=>?_⟩
 ·cases i with
  |zero=>
   simp at e1 e2
   subst e1 e2
   exact hz _ _ _ ⟨rfl,rfl⟩
  |succ i=>simp at e1
 ·have e:ps=[(z,t.1.2.pv)]:=List.perm_singleton.mp hp
  subst e
  exact h _ _ (q1g _ _) ((hx.app _).app _)
structure GC(tr:List ((Str×Fm)×PV))(ws:List Str)(r:Rd):Prop where
 nd:(tr.map (·.1.1)).Nodup
 len:tr.length<=10
 all:∀p∈r.ws,0<=p.1/\p.1<(ws.length:Int)/\ky ws p∈tr.map (·.1)/\p.2.lv<=5/\p.2.nb
def FowD(sp:Den):Prop:=∀(x y:PV)(tr:List ((Str×Fm)×PV))(ws:List Str)(p:Int×Fm)(S:q0i)(E:EK)(Q:VC),(tr.map (·.1.1)).Nodup->tr.length<=10->ws.length<=100->0<=p.1->p.1<(ws.length:Int)->ky ws p∈tr.map (·.1)->p.2.lv<=5->p.2.nb->
 (∀S',Ex [] S S'->Q (triP (p.1,p.1+1,p.2)) S')->sp [bkP x y tr,.tup (ws.map PV.str),.int p.1,p.2.pv] S E Q
theorem y9i{sf si:Den}(hf:FosD sf)(hi:IsfD si):FowD (fnP 4 5 (q2c sf si)):=by
 intro x y tr ws p S E Q nd len hwl h0 h1 hk lv nb h
 refine⟨rfl,?_⟩
 unfold q2c
 have p3:3<=sizeLine:=big (by decide)
 obtain⟨t,ht,et⟩:=List.mem_map.mp hk
 have e1:t.1.1=(ky ws p).1:=by rw[et]
 have e2:t.1.2=p.2:=by rw[et];rfl
 refine seqI fun K hK=>?_
 dsimp![Bool.true_eq_false,List.length_map]
 rw[if_neg (by omega),if_neg (by omega)]
 refine hK _ _ ?_
 clear hK
 refine seqI fun K hK=>?_
 dsimp![x7k h0 h1]
 rw[<-e1]
 refine hf x y tr t _ _ _ (by omega) ht nd (e2▸nb) (e2▸lv) fun q S1 hq hx=>hK _ _ ?_
 clear hK
 rw[e2]at hq
 refine seqI fun K hK=>?_
 dsimp![true_and]
 refine hi p.2 _ _ _ nb (by omega) fun S2 x2=>?_
 have hq2:=x2.get hq (by simp)
 dsimp![q0v hq2]
 have hd:=p.2.dp_lv
 rw[if_neg (by decide),if_neg (by rw[List.any_cons,z8a,decide_eq_true rfl];simp)]
 refine⟨⟨z6a (by omega),⟨by simp only[nrfs,z0i,Bool.and_self],by simp only[deps,q7g];omega⟩⟩,hK _ _ ?_⟩
 clear hK
 dsimp![true_and]
 exact⟨p3,h S2 (hx.trans x2)⟩
def FotD(sp:Den):Prop:=∀(s:Sg)(a k b:Int)(u v g:Fm)(S:q0i)(E:EK)(Q:VC),md u v=some (s.st,g)->u.dp<=100->v.dp<=100->Q (triP (a,b,g)) S->sp [.str s.st,triP (a,k,u),triP (k,b,v)] S E Q
theorem y9j{sm:Den}(hm:y8p sm):FotD (fnP 3 4 (q2g sm)):=by
 intro s a k b u v g S E Q hmd hu hv h
 refine⟨rfl,?_⟩
 unfold q2g
 have p3:3<=sizeLine:=big (by decide)
 have i0:∀(t:Tri)(S:q0i)(Q:VC),bIx (triP t) (.int 0) S Q=Q (.int t.1) S:=fun _ _ _=>rfl
 have i1:∀(t:Tri)(S:q0i)(Q:VC),bIx (triP t) (.int 1) S Q=Q (.int t.2.1) S:=fun _ _ _=>rfl
 have i2:∀(t:Tri)(S:q0i)(Q:VC),bIx (triP t) (.int 2) S Q=Q t.2.2.pv S:=fun _ _ _=>rfl
 refine seqI fun K hK=>?_
 dsimp![i0,i1]
 refine hK _ _ ?_
 clear hK
 refine seqI fun K hK=>?_
 dsimp![i2]
 refine hm u v _ _ _ hu hv (hK _ _ ?_)
 clear hK
 rw[hmd]
 refine seqI fun K hK=>?_
 dsimp![mdP,q0x]
 refine hK _ _ ?_
 clear hK
 dsimp![i0,i1,q8u]
 exact⟨p3,h⟩
def FmdD(sp:Den):Prop:=∀(x y:PV)(tr:List ((Str×Fm)×PV))(ws:List Str)(r:Rd)(a b:Int)(g:Fm)(S:q0i)(E:EK)(Q:VC),GC tr ws r->r.is a b g->r.sm->r.lv<=ws.length->ws.length<=100->
 (∀S',Ex [] S S'->Q (triP (a,b,g)) S')->sp [bkP x y tr,.tup (ws.map PV.str),r.pv] S E Q
theorem x0a{r t:Rd}{i:Int}{f:Fm}(h:t∈r.wi)(e:t=.w i f):(i,f)∈r.ws:=x0b h _ (by rw[e];simp[Rd.ws])
theorem y9l {sn sw st : Den} (hn : NodD sn) (hw : FowD sw) (ht : FotD st) : FmdD (fnP 3 6 (q4v sn sw st)) := by
 intro x y tr ws r a b g S E Q gc his hsm hl hwl h
 refine ⟨rfl, ?_⟩
 unfold q4v
 have wl := q9y r
 refine seqI fun K hK => ?_
 dsimp! [true_and]
 refine ⟨Nat.zero_le _, hK _ _ ?_⟩
 clear hK
 have g0 := q1g S (.lst [])
 have x0 : Ex [S.length] S (S ++ [SO.lst []]) := Ex.new _ S _
 refine seqI fun K hK => ?_
 dsimp! [List.length_map]
 refine hn r ws.length hl hwl _ _ _ fun q S1 hq0 hq hx => ?_
 dsimp! [q0v hq]
 have hqn : S.length ≠ q := by simp at hq0; omega
 have g1 := hx.get g0 (by simp)
 have x1 := x0.trans hx.nil
 rw [<- List.map_reverse]
 refine forI (fun rest σ S2 => ∃ (ts : List Rd) (st : List Tri) (j4 j5 : Option PV), rest = ts.map Rd.pv /\ run ts st = some [(a, b, g)] /\ (∀ t ∈ ts, t ∈ r.wi) /\ st.length + ts.length <= 300 /\ (∀ u ∈ st, u.2.2.dp <= 100) /\ σ = [some (bkP x y tr), some (.tup (ws.map PV.str)), some r.pv, some (.ref S.length), j4, j5] /\ S2[S.length]? = some (.lst (st.reverse.map triP)) /\ S2[q]? = some (.lst (r.wi.map Rd.pv)) /\ Ex [S.length] S S2) ?_ ?_ _ _ _
  ⟨r.wi.reverse, [], none, none, rfl, by have := y1c [] [] his; rw [List.append_nil] at this; rw [this]; rfl, fun t ht => by simpa using ht, by simp; omega, by simp, rfl, g1, hq, x1⟩
 ·rintro σ S2 ⟨ts, st, j4, j5, hr, e1, _, _, _, rfl, k1, k2, k3⟩
  obtain rfl : ts = [] := by cases ts with
   | nil => rfl
   | cons a b => simp at hr
  refine ⟨q0v k2, hK _ _ ?_⟩
  simp only [run, Option.some.injEq] at e1
  subst e1
  have k1' : S2[S.length]? = some (.lst [triP (a, b, g)]) := k1
  dsimp! [k1', q0v k1', q0x]
  exact h S2 (k3.wk (by simp))
 ·rintro z rest σ S2 ⟨ts, st, j4, j5, hr, e1, hin, hln, hdp, rfl, k1, k2, k3⟩ N hN
  obtain ⟨t, ts, rfl⟩ : ∃ p r, ts = p :: r := by
   cases ts with
   | nil => simp at hr
   | cons a b => exact ⟨a, b, rfl⟩
  simp only [List.map_cons, List.cons.injEq] at hr
  obtain ⟨rfl, rfl⟩ := hr
  refine ⟨q0v k2, ?_⟩
  have htw := hin t (by simp)
  simp only [List.length_cons] at hln
  cases t with
  | w i f =>
   have hp := x0a htw rfl
   obtain ⟨p0, p1, p2, p3, p4⟩ := gc.all _ hp
   dsimp! [rw0, rw1, rw2, k1, z3o]
   refine hw x y tr ws (i, f) _ _ _ gc.nd gc.len hwl p0 p1 p2 p3 p4 fun S3 x3 => ?_
   have m1 := x3.get k1 (by simp)
   have m2 := x3.get k2 (by simp)
   dsimp! [q1f m1]
   simp only [run, stp, Option.bind_some] at e1
   have := f.dp_lv
   refine ⟨big (by simp; omega), hN _ _ ⟨ts, (i, i + 1, f) :: st, _, _, rfl, e1, fun t ht => hin t (by simp [ht]), by simp; omega, fun u hu => ?_, rfl, ?_, q1x _ m2 hqn, (k3.trans x3.nil).set (.inl (by simp))⟩⟩
   ·rcases List.mem_cons.mp hu with z | z
    ·subst z; simp at p3 ⊢; omega
    ·exact hdp u z
   ·rw [q1k _ m1]; simp
  | n s l q' =>
   simp only [run] at e1
   obtain ⟨st', es, e2⟩ := Option.bind_eq_some_iff.mp e1
   match st, es with
   | (a1, k', u) :: (k'', b1, v) :: st0, es =>
    simp only [stp] at es
    cases hmd : md u v with
    | none => rw [hmd] at es; cases es
    | some zg =>
     obtain ⟨z0, g1⟩ := zg
     rw [hmd] at es
     simp only at es
     by_cases hc : k' = k'' /\ z0 = s.st
     ·rw [if_pos hc] at es
      obtain ⟨rfl, rfl⟩ := hc
      cases es
      have sw' : (s.st = Str.ofString "word") = False := z2a s
      have e0 : S2[S.length]? = some (.lst (st0.reverse.map triP ++ [triP (k', b1, v)] ++ [triP (a1, k', u)])) := by rw [k1]; simp
      dsimp! [rn0, sw']
      refine seqI fun K2 hK2 => ?_
      dsimp! [e0, q1f e0, List.getLast?_append, List.getLast?_singleton, Option.some_or, List.dropLast_concat]
      refine hK2 _ _ ?_
      clear hK2
      have e1' := q1k (.lst (st0.reverse.map triP ++ [triP (k', b1, v)])) e0
      dsimp! [rn0, e1', q1f e1', List.getLast?_append, List.getLast?_singleton, Option.some_or, List.dropLast_concat]
      have e2' := q1k (.lst (st0.reverse.map triP)) e1'
      refine ht s a1 k' b1 u v g1 _ _ _ hmd (hdp (a1, k', u) (by simp)) (hdp (k', b1, v) (by simp)) ?_
      dsimp! [q1f e2']
      simp only [List.length_cons] at hln
      have hg1 := x6z hmd
      refine ⟨big (by simp; omega), hN _ _ ⟨ts, (a1, b1, g1) :: st0, _, _, rfl, e2, fun t ht => hin t (by simp [ht]), by simp; omega, fun w hw' => ?_, rfl, ?_, q1x _ (q1x _ (q1x _ k2 hqn) hqn) hqn, ((k3.set (.inl (by simp))).set (.inl (by simp))).set (.inl (by simp))⟩⟩
      ·rcases List.mem_cons.mp hw' with z | z
       ·subst z
        have d1 : u.dp <= 100 := hdp (a1, k', u) (by simp)
        have d2 : v.dp <= 100 := hdp (k', b1, v) (by simp)
        show g1.dp <= 100
        omega
       ·exact hdp w (by simp [z])
      ·rw [q1k _ e2']; simp
     ·rw [if_neg hc] at es; cases es
   | [], es => cases es
   | [_], es => cases es
def WgtD(sp:Den)(n:Nat):Prop:=∀(r:Rd),r.lv<=n->∀(S:q0i)(E:EK)(Q:VC),(∀S',Ex [] S S'->Q (.int (r.ms:Nat)) S')->sp [r.pv] S E Q
def Sg.lt:Sg->Bool
 |.a=>false
 |.b=>true
 |.c=>false
 |.d=>true
theorem x4u(s:Sg):([PV.str "<",PV.str "<<"].any fun y=>eqB y (.str s.st))=s.lt:=by
 have:=z8l [Str.ofString "<",Str.ofString "<<"] s.st
 rw[List.map_cons,List.map_cons,List.map_nil]at this
 rw[this]
 cases s<;>decide +kernel
theorem ms_n(s:Sg)(l r:Rd):(Rd.n s l r).ms=(if s.lt then r.lv else l.lv)+l.ms+r.ms:=by cases s<;>simp[Rd.ms,Sg.lt]<;>omega
theorem y0e{T W:Nat->Den}(hT:∀n,T (n+1)=fnP 1 5 (q4d (W n) (T n)))(hW:∀n,21<=n->n<=900->WoD (W n) 10):∀(n m:Nat),m+20<=n->m<=10->n<=900->WgtD (T n) m
 |0,m,h,_,_=>by omega
 |n+1,m,hnm,hm,h9=>by
  intro r hr S E Q h
  rw[hT]
  refine⟨rfl,?_⟩
  unfold q4d
  cases r with
  |w i f=>
   dsimp![wSeq,rw0,z3o]
   exact h S (Ex.refl _ _)
  |n s l r=>
   have lp:=l.lv_pos
   have rp:=r.lv_pos
   simp only[Rd.lv]at hr
   have p2:2<=sizeLine:=big (by decide)
   have sw':(s.st=Str.ofString "word")=False:=z2a s
   refine seqI fun K hK=>?_
   dsimp![rn0,sw']
   refine hK _ _ ?_
   clear hK
   refine seqI fun K hK=>?_
   dsimp![Rd.pv]
   refine hK _ _ ?_
   clear hK
   refine seqI fun K hK=>?_
   dsimp![q1g]
   rw[x4u]
   have hu:∃u:Rd,atI [l.pv,r.pv] (if s.lt=true then 1 else 0)=some u.pv/\u.lv=(if s.lt then r.lv else l.lv):=by
    cases s.lt
    ·exact⟨l,rfl,rfl⟩
    ·exact⟨r,rfl,rfl⟩
   obtain⟨u,hu1,hu2⟩:=hu
   have hul:u.lv<=10:=by rw[hu2];split<;>omega
   rw[hu1]
   refine⟨p2,p2,q7l [_,_],hW n (by omega) (by omega) u hul _ _ _ fun q S1 _ hq hx=>?_⟩
   simp only[q0v hq,List.length_map,q7s]
   refine hK _ _ ?_
   clear hK
   have x1:Ex [] S S1:=(Ex.new [] S _).trans hx
   dsimp![true_and]
   refine y0e hT hW n (m-1) (by omega) (by omega) (by omega) l (by omega) _ _ _ fun S2 x2=>?_
   dsimp![true_and]
   refine y0e hT hW n (m-1) (by omega) (by omega) (by omega) r (by omega) _ _ _ fun S3 x3=>?_
   dsimp![true_and]
   have:=h S3 ((x1.trans x2).trans x3)
   rw[ms_n,<-hu2]at this
   rw[show(u.lv:Int)+(l.ms:Int)+(r.ms:Int)=((u.lv+l.ms+r.ms:Nat):Int) by omega]
   exact this
theorem z2k:∀ps:List (Int×Fm),nrfs (ps.map encW)=true
 |[]=>rfl
 |p::r=>by simp only[List.map_cons,nrfs,encW,nrf,z0i,z2k r,Bool.and_self]
theorem x3h(ps:List (Int×Fm)):eqBs (ps.map encW) (ps.map encW)=true:=q4i _ (z2k ps)
theorem x1x(ps:List (Int×Fm))(h:∀p∈ps,p.2.dp<=100):q6c (ps.map encW):=by
 refine⟨z2k ps,?_⟩
 induction ps with
 |nil=>exact Nat.zero_le _
 |cons p r ih=>
  have:=h p (by simp)
  have:=ih fun q hq=>h q (by simp[hq])
  simp only[List.map_cons,deps,encW,dep,q7g]at this ⊢
  omega
def StyD(sp:Den):Prop:=∀(x y:PV)(tr:List ((Str×Fm)×PV))(ws:List Str)(r t:Rd)(g:Fm)(S:q0i)(E:EK)(Q:VC),GC tr ws t->r.is 0 (ws.length:Nat) g->t.is 0 (ws.length:Nat) g->r.sm->t.sm->t.ws=r.ws->r.lv=ws.length->t.lv=ws.length->ws.length<=7->Jn (r.tt q6j) (t.tt q6j)->
 (∀S',Ex [] S S'->Q (.bl true) S')->sp [bkP x y tr,.tup (ws.map PV.str),r.pv,t.pv,g.pv] S E Q
theorem z2r{t:Rd}{a b:Int}{g:Fm}(h:t.is a b g)(hs:t.sm):af 1 (t.tt q6j)/\(t.tt q6j).sz+4<=34*t.lv/\(t.tt q6j).nd+3<=22*t.lv/\(t.tt q6j).gd 0:=by
 obtain⟨bl,_⟩:=x0g (L:=q6j) (A:=af 1) (.inr rfl) (r:=t) fun p hp=>⟨⟨q8d _,by rw[q7g];have:=p.2.dp_lv;have:=z1q hs hp;omega⟩,trivial⟩
 have bz:=x0f (L:=q6j) (r:=t) fun p hp=>⟨by simp[q6j,Tm.sz],by simp[q6j,Tm.nd]⟩
 exact⟨bl,bz.1,bz.2,q8l (L:=q6j) h hs fun p hp=>⟨q8d _,by rw[q7g];have:=p.2.dp_lv;have:=z1q hs hp;omega⟩⟩
theorem x4s{s1 s2 s3 s4:Den}(h1:WoD s1 10)(h2:FmdD s2)(h3:PlnD s3)(h4:UnQ s4):StyD (fnP 5 5 (q4x s1 s2 s3 s4)):=by
 intro x y tr ws r t g S E Q gc hr ht hrs hts hws hrl htl hwl hj h
 refine⟨rfl,?_⟩
 unfold q4x
 have p3:3<=sizeLine:=big (by decide)
 have gd:=z4j ht hts
 have wdp:∀p∈r.ws,p.2.dp<=100:=fun p hp=>by have:=z1q hrs hp;have:=p.2.dp_lv;omega
 obtain⟨a1,a2,a3,a4⟩:=z2r ht hts
 obtain⟨b1,b2,b3,b4⟩:=z2r hr hrs
 refine seqI fun K hK=>?_
 dsimp![true_and]
 refine h1 t (by omega) _ _ _ fun q1 S1 _ hq1 hx1=>?_
 refine h1 r (by omega) _ _ _ fun q2 S2 _ hq2 hx2=>?_
 have hq1':=hx2.get hq1 (by simp)
 rw[hws]at hq1'
 rw[y9n]
 simp only[q0v hq1',q0v hq2,x1x _ wdp,x3h,and_self,true_and,Bool.not_true]
 dsimp![true_and]
 refine h2 x y tr ws t _ _ g _ _ _ gc ht hts (by omega) (by omega) fun S3 x3=>?_
 dsimp![triP,List.length_map]
 refine⟨p3,?_⟩
 have nr:nrfs [PV.int 0,PV.int (ws.length:Nat),g.pv]=true:=by simp only[nrfs,nrf,z0i,Bool.and_self]
 rw[q4i _ nr,if_neg (by decide)]
 refine⟨⟨by simpa[nrf]using nr,by simp only[dep,deps,q7g];omega⟩,hK _ _ ?_⟩
 clear hK
 dsimp![true_and]
 refine h4 t _ _ g ht hts (by omega) _ _ _ fun S4 x4=>?_
 refine h3 _ _ _ _ a1 (by omega) (by omega) fun u S5 ru nu x5=>?_
 refine h4 r _ _ g hr hrs (by omega) _ _ _ fun S6 x6=>?_
 refine h3 _ _ _ _ b1 (by omega) (by omega) fun v S7 rv nv x7=>?_
 obtain rfl:=w0w b1 a1 hj rv nv ru nu
 obtain⟨_,_,_,vn⟩:=y8o rv b1
 rw[x8s (w1j rv 0 b4) (by omega)]
 exact h S7 ((((((hx1.trans hx2).trans x3).trans x4).trans x5).trans x6).trans x7)
def nkP(p:Str×Fm):PV:=.tup [.str p.1,p.2.kd]
def LbkD(sp:Den):Prop:=∀(b pl qk:Nat)(bs pool:List Str)(ks:List (Str×Fm))(S:q0i)(E:EK)(Q:VC),S[b]?=some (.lst (bs.map PV.str))->bs.length<=100->S[qk]?=some (.lst (ks.map pfP))->ks.length<=10->S[pl]?=some (.lst (pool.map PV.str))->pool.length=20->b≠pl->qk≠pl->(∀p∈ks,p.2.dp<=10)->
 (∀(x y:PV)(tr:List ((Str×Fm)×PV)) S',tr.map (·.1)=ks->Ex [pl] S S'->Q (bkP x y tr) S')->sp [.ref b,.ref qk,.ref pl] S E Q
theorem x7h{sk:Den}(hk:y8q sk 10):LbkD (fnP 3 9 (q3b sk)):=by
 intro b pl qk bs pool ks S E Q hb hbl hq hkl hp hpl nb nq hdp h
 refine⟨rfl,?_⟩
 unfold q3b
 have p1:1<=sizeLine:=big (by decide)
 have p2:2<=sizeLine:=big (by decide)
 have p3:3<=sizeLine:=big (by decide)
 have lb:=q1l hb
 have lq:=q1l hq
 have lp:=q1l hp
 refine seqI fun K hK=>?_
 dsimp![true_and]
 refine⟨Nat.zero_le _,hK _ _ ?_⟩
 clear hK
 refine seqI fun K hK=>?_
 dsimp![true_and]
 refine⟨Nat.zero_le _,hK _ _ ?_⟩
 clear hK
 have g0:=q1m (q1g S (.lst [])) [SO.lst []]
 have g1:=q1g (S++[SO.lst []]) (.lst [])
 have dl:(S++[SO.lst []]).length=S.length+1:=by simp
 have x0:Ex [pl,S.length,S.length+1] S (S++[SO.lst []]++[SO.lst []]):=(Ex.new _ S _).app _
 have b0:=q1m (q1m hb [SO.lst []]) [SO.lst []]
 have q0:=q1m (q1m hq [SO.lst []]) [SO.lst []]
 have c0:=q1m (q1m hp [SO.lst []]) [SO.lst []]
 rw[dl]at g1 ⊢
 generalize S++[SO.lst []]++[SO.lst []]=S0 at g0 g1 x0 b0 q0 c0 ⊢
 refine seqI fun K hK=>?_
 dsimp![q0v q0]
 refine forI (fun rest σ S2=>∃(us vs:List (Str×Fm))(nms:List (Str×Fm))(trs:List ((Str×Fm)×PV))(po:List Str)(j5 j6 j7 j8:Option PV),rest=us.map pfP/\vs++us=ks/\σ=[some (.ref b),some (.ref qk),some (.ref pl),some (.ref S.length),some (.ref (S.length+1)),j5,j6,j7,j8]/\S2[S.length]?=some (.lst (nms.map nkP))/\S2[S.length+1]?=some (.lst (trs.map trP))/\trs.map (·.1)=vs/\S2[pl]?=some (.lst (po.map PV.str))/\nms.length+po.length=20/\nms.length<=vs.length/\(∀p∈nms,p.2.dp<=10)/\S2[qk]?=some (.lst (ks.map pfP))/\S2[b]?=some (.lst (bs.map PV.str))/\Ex [pl,S.length,S.length+1] S S2) ?_ ?_ _ _ _
  ⟨ks,[],[],[],pool,none,none,none,none,rfl,rfl,rfl,g0,g1,rfl,c0,by simp[hpl],Nat.le_refl _,by simp,q0,b0,x0⟩
 ·rintro σ S2 ⟨us,vs,nms,trs,po,j5,j6,j7,j8,hr,hvs,rfl,k1,k2,k3,k4,k5,k6,k7,k8,k9,kx⟩
  obtain rfl:us=[]:=by cases us with
   |nil=>rfl
   |cons a b=>simp at hr
  rw[List.append_nil]at hvs
  subst hvs
  refine⟨q0v k8,hK _ _ ?_⟩
  clear hK
  have tl:trs.length=vs.length:=by rw[<-k3,List.length_map]
  dsimp![q0v k1,q0v k2,q0v k9]
  refine⟨p3,h _ _ trs S2 k3 ⟨kx.1,fun i hi hn=>kx.2 i hi fun z=>?_⟩⟩
  simp only[List.mem_cons,List.not_mem_nil,or_false]at z hn
  omega
 ·rintro z rest σ S2 ⟨us,vs,nms,trs,po,j5,j6,j7,j8,hr,hvs,rfl,k1,k2,k3,k4,k5,k6,k7,k8,k9,kx⟩ N hN
  obtain⟨p,us,rfl⟩:∃p r,us=p::r:=by
   cases us with
   |nil=>simp at hr
   |cons a b=>exact⟨a,b,rfl⟩
  simp only[List.map_cons,List.cons.injEq]at hr
  obtain⟨rfl,rfl⟩:=hr
  refine⟨q0v k8,?_⟩
  have hvl:=congrArg List.length hvs
  simp only[List.length_append,List.length_cons]at hvl
  have pd:=hdp p (by rw[<-hvs];simp)
  dsimp![pfP]
  refine seqI fun K2 hK2=>?_
  dsimp![true_and]
  refine hk p.2 (by omega) _ _ _ (hK2 _ _ ?_)
  clear hK2
  refine seqI fun K2 hK2=>?_
  dsimp![q0v k1]
  refine⟨big (by simp;omega),?_⟩
  refine z3a (fun rest ys σ S3=>S3=S2/\∃(us:List (Str×Fm))(zs:List Str)(j0 j1:Option PV),rest=us.map nkP/\(∀u∈us,u.2.dp<=10)/\ys=zs.map PV.str/\zs.length+us.length<=20/\σ=[j0,j1,some p.2.kd]) ?_ ?_ _ _ _ _ ⟨rfl,nms,[],none,none,rfl,k7,rfl,by simp;omega,rfl⟩
  ·rintro ys σ S3 ⟨rfl,us',zs,j0,j1,hr,_,rfl,hz,rfl⟩
   refine⟨q0v k1,hK2 _ _ ?_⟩
   clear hK2
   have kn:=q1g S3 (.lst (zs.map PV.str))
   refine seqI fun K2 hK2=>?_
   dsimp![true_and]
   refine⟨Nat.zero_le _,?_⟩
   have kn2:=q1m kn [SO.lst []]
   simp only[q0v kn2]
   refine⟨⟨q7l zs,⟨rfl,Nat.zero_le _⟩⟩,?_⟩
   have l1:=q1m (q1m k1 [SO.lst (zs.map PV.str)]) [SO.lst []]
   have l2:=q1m (q1m k2 [SO.lst (zs.map PV.str)]) [SO.lst []]
   have l4:=q1m (q1m k4 [SO.lst (zs.map PV.str)]) [SO.lst []]
   have l8:=q1m (q1m k8 [SO.lst (zs.map PV.str)]) [SO.lst []]
   have l9:=q1m (q1m k9 [SO.lst (zs.map PV.str)]) [SO.lst []]
   have lx:Ex [pl,S.length,S.length+1] S (S3++[SO.lst (zs.map PV.str)]++[SO.lst []]):=(kx.app _).app _
   have lS:=kx.1
   have sl:=q1l k2
   generalize hS4:S3++[SO.lst (zs.map PV.str)]++[SO.lst []]=S4 at kn2 l1 l2 l4 l8 l9 lx ⊢
   generalize hn8:S3.length=n8 at kn2 sl ⊢
   have last:∀(w:Str)(k8':Nat)(xs:List PV)(nms':List (Str×Fm))(po':List Str)(S5:q0i),S5[k8']?=some (.lst (.str w::xs))->S.length+1<k8'->S5[S.length]?=some (.lst (nms'.map nkP))->S5[S.length+1]?=some (.lst (trs.map trP))->S5[pl]?=some (.lst (po'.map PV.str))->nms'.length+po'.length=20->nms'.length<=vs.length+1->(∀p∈nms',p.2.dp<=10)->S5[qk]?=some (.lst (ks.map pfP))->S5[b]?=some (.lst (bs.map PV.str))->Ex [pl,S.length,S.length+1] S S5->
     q3c (wBM "list" q1s (wVar 4) (q0d (wTup (q0d (wVar 5) (q0d (wVar 6) (q0d (wTup (q0d (wC (.str "name")) (q0d (wBin bIx (wVar 8) (wC (.int 0))) wNil))) wNil)))) wNil)) {nx:=N,rt:=Q,bk:=K,ct:=N} E [some (.ref b),some (.ref qk),some (.ref pl),some (.ref S.length),some (.ref (S.length+1)),some (.str p.1),some p.2.pv,some p.2.kd,some (.ref k8')] S5:=by
    intro w k8' xs nms' po' S5 a1 a2 a3 a4 a5 a6 a7 a8 a9 a10 a11
    dsimp![a1,q0v a1,q0x,a4,q1f a4]
    have tl:trs.length=vs.length:=by rw[<-k3,List.length_map]
    refine⟨p2,p3,big (by simp;omega),hN _ _ ⟨us,vs++[p],nms',trs++[(p,.tup [.str "name",.str w])],po',_,_,_,_,rfl,by rw[<-hvs];simp,rfl,q1x _ a3 (by omega),?_,by rw[List.map_append,k3];rfl,q1x _ a5 (by omega),a6,by simp;omega,a8,q1x _ a9 (by omega),q1x _ a10 (by omega),a11.set (.inl (by simp))⟩⟩
    rw[q1k _ a4];simp[trP]
   cases zs with
   |nil=>
    rw[if_pos (show eqBs (List.map PV.str []) []=true from rfl)]
    cases po with
    |nil=>simp at k5;omega
    |cons w po'=>
     simp only[List.map_cons]at l4
     refine seqI fun K3 hK3=>?_
     dsimp![l4,q1f l4]
     have e0:ixN ((po'.map PV.str).length+1) 0=some 0:=by simp[ixN]
     simp only[e0,List.getElem?_cons_zero,List.eraseIdx_cons_zero]
     refine⟨by decide,p1,hK3 _ _ ?_⟩
     clear hK3
     have ne1:pl≠S.length:=by omega
     have ne2:pl≠S.length+1:=by omega
     have m1:=q1m (q1x (.lst (po'.map PV.str)) l1 (j:=pl) ne1) [SO.lst [PV.str w]]
     have m2:=q1m (q1x (.lst (po'.map PV.str)) l2 (j:=pl) ne2) [SO.lst [PV.str w]]
     have m4:=q1m (q1k (.lst (po'.map PV.str)) l4) [SO.lst [PV.str w]]
     have m8:=q1m (q1x (.lst (po'.map PV.str)) l8 (j:=pl) (Ne.symm nq)) [SO.lst [PV.str w]]
     have m9:=q1m (q1x (.lst (po'.map PV.str)) l9 (j:=pl) (Ne.symm nb)) [SO.lst [PV.str w]]
     have mk:=q1g (S4.set pl (.lst (po'.map PV.str))) (.lst [PV.str w])
     have mx:Ex [pl,S.length,S.length+1] S (S4.set pl (.lst (po'.map PV.str))++[SO.lst [PV.str w]]):=(lx.set (.inl (by simp))).app _
     have ml:S.length+1<(S4.set pl (.lst (po'.map PV.str))).length:=by rw[List.length_set];exact q1l l2
     generalize S4.set pl (.lst (po'.map PV.str))++[SO.lst [PV.str w]]=S5 at m1 m2 m4 m8 m9 mk mx ⊢
     generalize (S4.set pl (.lst (po'.map PV.str))).length=n9 at mk ml ⊢
     dsimp![mk,q0v mk,q0x,m1,q1f m1]
     simp only[List.length_cons]at k5
     refine⟨p2,big (by simp;omega),hK2 _ _ ?_⟩
     refine last w n9 [] (nms++[(w,p.2)]) po' _ (q1x _ mk (by omega)) ml ?_ (q1x _ m2 (by omega)) (q1x _ m4 (by omega)) (by simp;omega) (by simp;omega) (fun u hu=>?_) (q1x _ m8 (by omega)) (q1x _ m9 (by omega)) (mx.set (.inl (by simp)))
     ·rw[q1k _ m1];simp[nkP]
     ·rcases List.mem_append.mp hu with z|z
      ·exact k7 u z
      ·rw[List.mem_singleton]at z;subst z;exact pd
   |cons w ws'=>
    rw[if_neg (by simp[eqBs])]
    exact hK2 _ _ (last w n8 _ nms po S4 kn2 (by omega) l1 l2 l4 k5 (by omega) k7 l8 l9 lx)
  ·rintro w rest ys σ S3 ⟨rfl,us',zs,j0,j1,hr,hud,rfl,hz,rfl⟩ N2 hN2
   obtain⟨u,us',rfl⟩:∃p r,us'=p::r:=by
    cases us' with
    |nil=>simp at hr
    |cons a b=>exact⟨a,b,rfl⟩
   simp only[List.map_cons,List.cons.injEq]at hr
   obtain⟨rfl,rfl⟩:=hr
   refine⟨q0v k1,?_⟩
   have ud:=hud u (by simp)
   dsimp![nkP]
   have:=y2p u.2
   have:=y2p p.2
   rw[<-z6d,<-z6d]
   refine x8u (by omega) (by omega) ?_
   rw[z6d,z6d]
   simp only[List.length_cons]at hz
   refine ite2 (fun _=>hN2 _ _ _ ⟨rfl,us',zs++[u.1],_,_,rfl,fun w hw=>hud w (by simp[hw]),by simp,by simp;omega,rfl⟩) (fun _=>hN2 _ _ _ ⟨rfl,us',zs,_,_,rfl,fun w hw=>hud w (by simp[hw]),rfl,by omega,rfl⟩)
section
open PySem L2 Ev PySem.Spec PyProof.Rows
def top(i:Nat):Stmt:=PySem.Challenge.pw_slashwise_k72_whole_what_stays_by_turns.main.body.getD i (.Pass ⟨0,0,0,0⟩)
structure Tab where
 dLdeck:Den
 dLnext:Den
 dLspelled:Den
 dLword:Den
 dLwords:Den
 dLwide:Den
 dLother:Den
 dLdrawn_form:Den
 dLtree:Den
 dLchain:Den
 dLwithin:Den
 dLwords_of:Den
 dLkind_of_form:Den
 dLlone_book:Den
 dis_headed:Den
 dnodes_of:Den
 drows_of:Den
 dshow_form:Den
 dforms_of:Den
 dis_name:Den
 dis_form:Den
 dformed_of_word:Den
 dmade:Den
 dformed_of_two:Den
 dformed:Den
 dturned_at_top:Den
 dturned:Den
 dturns:Den
 dLturned_once:Den
 dis_to_do:Den
 dinner_of:Den
 dplaces:Den
 dway_to:Den
 dparts_and_fns:Den
 dwith_bound_ones:Den
 dbound_ones:Den
 draised:Den
 dput_for:Den
 dput_in:Den
 dwith_inner:Den
 ddone_at:Den
 dsteps_of:Den
 dplain_of:Den
 dkind_of_form:Den
 djoined:Den
 dmeant:Den
 dform_and_term:Den
 dmeaning_with:Den
 dwords_of:Den
 dunknown:Den
 dLstays:Den
 dLweight:Den
 dlaw:Den
def tabS(t:Tab):Tab where
 dLdeck:=fnP 1 3 (q5i)
 dLnext:=fnP 1 4 (q5h)
 dLspelled:=fnP 2 4 (q3q)
 dLword:=fnP 2 7 (q8x t.dLnext t.dLspelled)
 dLwords:=fnP 2 4 (q4w t.dLword)
 dLwide:=fnP 1 1 (q4f t.dLwide)
 dLother:=fnP 3 5 (q4y t.dLnext t.dLwide)
 dLdrawn_form:=fnP 2 5 (q2q t.dLnext t.dLother)
 dLtree:=fnP 5 11 (q5g t.dLnext t.dLother t.dLwide t.dLtree)
 dLchain:=fnP 5 10 (q4z t.dLnext t.dLtree t.dLchain)
 dLwithin:=fnP 1 1 (q4c t.dLwithin)
 dLwords_of:=fnP 1 1 (q3h t.dLwithin)
 dLkind_of_form:=fnP 1 1 (q4n t.dLkind_of_form)
 dLlone_book:=fnP 3 9 (q3b t.dLkind_of_form)
 dis_headed:=fnP 3 3 (q3g)
 dnodes_of:=fnP 2 6 (q3o t.dis_headed)
 drows_of:=fnP 2 3 (q3x)
 dshow_form:=fnP 1 5 (q2p t.dshow_form)
 dforms_of:=fnP 2 2 (q3p t.drows_of t.dshow_form)
 dis_name:=fnP 1 1 (q3z)
 dis_form:=fnP 1 4 (q4a t.dis_headed t.dis_name)
 dformed_of_word:=fnP 4 5 (q2c t.dforms_of t.dis_form)
 dmade:=fnP 2 2 (q5x)
 dformed_of_two:=fnP 3 4 (q2g t.dmade)
 dformed:=fnP 3 6 (q4v t.dnodes_of t.dformed_of_word t.dformed_of_two)
 dturned_at_top:=fnP 1 4 (q2e)
 dturned:=fnP 1 5 (q4q t.dturned_at_top t.dturned)
 dturns:=fnP 1 3 (q5f t.dturned)
 dLturned_once:=fnP 1 5 (q2n t.dLturned_once)
 dis_to_do:=fnP 1 1 (q2k)
 dinner_of:=fnP 1 1 (q1o)
 dplaces:=fnP 1 6 (q4t t.dis_to_do t.dinner_of)
 dway_to:=fnP 2 5 (q4p t.dinner_of)
 dparts_and_fns:=fnP 1 5 (q2f)
 dwith_bound_ones:=fnP 2 7 (q2b t.dparts_and_fns)
 dbound_ones:=fnP 1 1 (q3a t.dparts_and_fns)
 draised:=fnP 2 2 (q4r t.dwith_bound_ones t.dbound_ones)
 dput_for:=fnP 3 3 (q3y t.draised)
 dput_in:=fnP 2 2 (q4s t.dwith_bound_ones t.dput_for t.dbound_ones)
 dwith_inner:=fnP 3 3 (q2z)
 ddone_at:=fnP 2 6 (q4b t.dway_to t.dis_to_do t.dput_in t.dwith_inner)
 dsteps_of:=fnP 1 3 (q3m t.dplaces t.ddone_at)
 dplain_of:=fnP 1 1 (q3n t.dsteps_of)
 dkind_of_form:=fnP 1 1 (q5a t.dkind_of_form)
 djoined:=fnP 3 3 (q4u t.dkind_of_form)
 dmeant:=fnP 5 5 (q2u t.djoined)
 dform_and_term:=fnP 2 8 (q2h t.dform_and_term t.dmade t.dmeant)
 dmeaning_with:=fnP 2 2 (q2m t.dform_and_term)
 dwords_of:=fnP 1 1 (q3l t.dwords_of)
 dunknown:=fnP 1 1 (q3w t.dmeaning_with t.dwords_of)
 dLstays:=fnP 5 5 (q4x t.dLwords_of t.dformed t.dplain_of t.dunknown)
 dLweight:=fnP 1 5 (q4d t.dLwords_of t.dLweight)
 dlaw:=fnP 1 10 (q6x t.dLdeck t.dLwords t.dLnext t.dLdrawn_form t.dLchain t.dLwords_of t.dLlone_book t.dformed t.dturns t.dLturned_once t.dLstays t.dLweight)
def tab:Nat->Tab
 |0=>⟨fun _ _ _ _=>False,fun _ _ _ _=>False,fun _ _ _ _=>False,fun _ _ _ _=>False,fun _ _ _ _=>False,fun _ _ _ _=>False,fun _ _ _ _=>False,fun _ _ _ _=>False,fun _ _ _ _=>False,fun _ _ _ _=>False,fun _ _ _ _=>False,fun _ _ _ _=>False,fun _ _ _ _=>False,fun _ _ _ _=>False,fun _ _ _ _=>False,fun _ _ _ _=>False,fun _ _ _ _=>False,fun _ _ _ _=>False,fun _ _ _ _=>False,fun _ _ _ _=>False,fun _ _ _ _=>False,fun _ _ _ _=>False,fun _ _ _ _=>False,fun _ _ _ _=>False,fun _ _ _ _=>False,fun _ _ _ _=>False,fun _ _ _ _=>False,fun _ _ _ _=>False,fun _ _ _ _=>False,fun _ _ _ _=>False,fun _ _ _ _=>False,fun _ _ _ _=>False,fun _ _ _ _=>False,fun _ _ _ _=>False,fun _ _ _ _=>False,fun _ _ _ _=>False,fun _ _ _ _=>False,fun _ _ _ _=>False,fun _ _ _ _=>False,fun _ _ _ _=>False,fun _ _ _ _=>False,fun _ _ _ _=>False,fun _ _ _ _=>False,fun _ _ _ _=>False,fun _ _ _ _=>False,fun _ _ _ _=>False,fun _ _ _ _=>False,fun _ _ _ _=>False,fun _ _ _ _=>False,fun _ _ _ _=>False,fun _ _ _ _=>False,fun _ _ _ _=>False,fun _ _ _ _=>False⟩
 |k+1=>tabS (tab k)
structure Sta(K:Frag)(mg:Str->Option Value):Prop where
 z0:mg "all" = none
 z1:mg "bool" = none
 z2:mg "int" = none
 z3:mg "isinstance" = none
 z4:mg "len" = none
 z5:mg "list" = none
 z6:mg "range" = none
 z7:mg "reversed" = none
 z8:mg "sorted" = none
 z9:mg "str" = none
 z10:mg "sum" = none
 z11:mg "tuple" = none
 g0:GlobV K mg "LETTERS" (.str "abcdefghijklmnopqrstuvwxyz")
 g1:GlobV K mg "LONGEST_NAME" (.int 8)
 g2:GlobV K mg "MOST_BASICS" (.int 12)
 g3:GlobV K mg "SIGNS" (.tup [(.str ">"),(.str "<"),(.str ">>"),(.str "<<")])
 g4:GlobV K mg "SLASHES" (.tup [(.str "/"),(.str "\\")])
 h0:ExcC K mg "NoPlace"
 h1:ExcC K mg "NoReading"
 h2:Cau K mg "NoWord" []
abbrev sF0:Stmt:=top 55
abbrev nF0:List Str:=["_law_script", "_law_cells", "_law_mixed"]
abbrev pF0:List Str:=["_law_script"]
abbrev sF1:Stmt:=top 56
abbrev nF1:List Str:=["_law_deck_here", "_law_cells", "_law_cell", "_law_number"]
abbrev pF1:List Str:=["_law_deck_here"]
abbrev sF2:Stmt:=top 57
abbrev nF2:List Str:=["_law_number", "_law_size", "_law_word_here", "_law_k"]
abbrev pF2:List Str:=["_law_number", "_law_size"]
abbrev sF3:Stmt:=top 58
abbrev nF3:List Str:=["_law_deck_here", "_law_words_here", "_law_way", "_law_number", "_law_size", "_law_word_here", "_law_at"]
abbrev pF3:List Str:=["_law_deck_here", "_law_words_here"]
abbrev sF4:Stmt:=top 59
abbrev nF4:List Str:=["_law_deck_here", "_law_many", "_law_words_here", "_law_k"]
abbrev pF4:List Str:=["_law_deck_here", "_law_many"]
abbrev sF5:Stmt:=top 60
abbrev nF5:List Str:=["_law_form"]
abbrev pF5:List Str:=["_law_form"]
abbrev sF6:Stmt:=top 61
abbrev nF6:List Str:=["_law_deck_here", "_law_basics", "_law_form", "_law_way", "_law_one"]
abbrev pF6:List Str:=["_law_deck_here", "_law_basics", "_law_form"]
abbrev sF7:Stmt:=top 63
abbrev nF7:List Str:=["_law_deck_here", "_law_basics", "_law_one", "_law_other_here", "_law_way"]
abbrev pF7:List Str:=["_law_deck_here", "_law_basics"]
abbrev sF8:Stmt:=top 62
abbrev nF8:List Str:=["_law_deck_here", "_law_basics", "_law_form", "_law_at", "_law_many", "_law_cut", "_law_way", "_law_other_here", "_law_sign", "_law_some", "_law_left"]
abbrev pF8:List Str:=["_law_deck_here", "_law_basics", "_law_form", "_law_at", "_law_many"]
abbrev sF9:Stmt:=top 64
abbrev nF9:List Str:=["_law_deck_here", "_law_basics", "_law_form", "_law_at", "_law_many", "_law_one", "_law_cut", "_law_sign", "_law_some", "_law_left"]
abbrev pF9:List Str:=["_law_deck_here", "_law_basics", "_law_form", "_law_at", "_law_many"]
abbrev sF10:Stmt:=top 66
abbrev nF10:List Str:=["_law_reading"]
abbrev pF10:List Str:=["_law_reading"]
abbrev sF11:Stmt:=top 67
abbrev nF11:List Str:=["_law_reading"]
abbrev pF11:List Str:=["_law_reading"]
abbrev sF12:Stmt:=top 65
abbrev nF12:List Str:=["_law_form"]
abbrev pF12:List Str:=["_law_form"]
abbrev sF13:Stmt:=top 70
abbrev nF13:List Str:=["_law_basics", "_law_pairs", "_law_words_here", "_law_names", "_law_triples", "_law_word_here", "_law_form", "_law_kind", "_law_known"]
abbrev pF13:List Str:=["_law_basics", "_law_pairs", "_law_words_here"]
abbrev sF14:Stmt:=top 17
abbrev nF14:List Str:=["thing", "heads", "size"]
abbrev pF14:List Str:=["thing", "heads", "size"]
abbrev sF15:Stmt:=top 35
abbrev nF15:List Str:=["reading", "most", "nodes", "todo", "words", "node"]
abbrev pF15:List Str:=["reading", "most"]
abbrev sF16:Stmt:=top 21
abbrev nF16:List Str:=["book", "word", "rows"]
abbrev pF16:List Str:=["book", "word"]
abbrev sF17:Stmt:=top 18
abbrev nF17:List Str:=["form", "slash", "left", "right", "shown"]
abbrev pF17:List Str:=["form"]
abbrev sF18:Stmt:=top 22
abbrev nF18:List Str:=["book", "word"]
abbrev pF18:List Str:=["book", "word"]
abbrev sF19:Stmt:=top 12
abbrev nF19:List Str:=["thing"]
abbrev pF19:List Str:=["thing"]
abbrev sF20:Stmt:=top 16
abbrev nF20:List Str:=["thing", "todo", "basics", "part"]
abbrev pF20:List Str:=["thing"]
abbrev sF21:Stmt:=top 36
abbrev nF21:List Str:=["book", "words", "place", "form", "forms"]
abbrev pF21:List Str:=["book", "words", "place", "form"]
abbrev sF22:Stmt:=top 25
abbrev nF22:List Str:=["left", "right"]
abbrev pF22:List Str:=["left", "right"]
abbrev sF23:Stmt:=top 37
abbrev nF23:List Str:=["sign", "left", "right", "told"]
abbrev pF23:List Str:=["sign", "left", "right"]
abbrev sF24:Stmt:=top 34
abbrev nF24:List Str:=["book", "words", "reading", "told", "node", "left"]
abbrev pF24:List Str:=["book", "words", "reading"]
abbrev sF25:Stmt:=top 1
abbrev nF25:List Str:=["reading", "sign", "left", "right"]
abbrev pF25:List Str:=["reading"]
abbrev sF26:Stmt:=top 2
abbrev nF26:List Str:=["reading", "told", "sign", "left", "right"]
abbrev pF26:List Str:=["reading"]
abbrev sF27:Stmt:=top 3
abbrev nF27:List Str:=["reading", "told", "behind"]
abbrev pF27:List Str:=["reading"]
abbrev sF28:Stmt:=top 68
abbrev nF28:List Str:=["_law_reading", "_law_sign", "_law_left", "_law_right", "_law_found"]
abbrev pF28:List Str:=["_law_reading"]
abbrev sF29:Stmt:=top 42
abbrev nF29:List Str:=["part"]
abbrev pF29:List Str:=["part"]
abbrev sF30:Stmt:=top 41
abbrev nF30:List Str:=["part"]
abbrev pF30:List Str:=["part"]
abbrev sF31:Stmt:=top 43
abbrev nF31:List Str:=["term", "found", "todo", "part", "place", "inner"]
abbrev pF31:List Str:=["term"]
abbrev sF32:Stmt:=top 45
abbrev nF32:List Str:=["term", "place", "way", "k", "inner"]
abbrev pF32:List Str:=["term", "place"]
abbrev sF33:Stmt:=top 39
abbrev nF33:List Str:=["term", "rows", "todo", "part", "fns"]
abbrev pF33:List Str:=["term"]
abbrev sF34:Stmt:=top 51
abbrev nF34:List Str:=["term", "news", "rest", "told", "part", "fns", "f"]
abbrev pF34:List Str:=["term", "news"]
abbrev sF35:Stmt:=top 50
abbrev nF35:List Str:=["term"]
abbrev pF35:List Str:=["term"]
abbrev sF36:Stmt:=top 49
abbrev nF36:List Str:=["term", "more"]
abbrev pF36:List Str:=["term", "more"]
abbrev sF37:Stmt:=top 48
abbrev nF37:List Str:=["k", "fns", "a"]
abbrev pF37:List Str:=["k", "fns", "a"]
abbrev sF38:Stmt:=top 47
abbrev nF38:List Str:=["body", "a"]
abbrev pF38:List Str:=["body", "a"]
abbrev sF39:Stmt:=top 46
abbrev nF39:List Str:=["part", "k", "new"]
abbrev pF39:List Str:=["part", "k", "new"]
abbrev sF40:Stmt:=top 44
abbrev nF40:List Str:=["term", "place", "way", "part", "done", "outer"]
abbrev pF40:List Str:=["term", "place"]
abbrev sF41:Stmt:=top 52
abbrev nF41:List Str:=["term", "steps", "found"]
abbrev pF41:List Str:=["term"]
abbrev sF42:Stmt:=top 53
abbrev nF42:List Str:=["term"]
abbrev pF42:List Str:=["term"]
abbrev sF43:Stmt:=top 19
abbrev nF43:List Str:=["form"]
abbrev pF43:List Str:=["form"]
abbrev sF44:Stmt:=top 27
abbrev nF44:List Str:=["wanted", "f", "g"]
abbrev pF44:List Str:=["wanted", "f", "g"]
abbrev sF45:Stmt:=top 26
abbrev nF45:List Str:=["sign", "left", "right", "first", "second"]
abbrev pF45:List Str:=["sign", "left", "right", "first", "second"]
abbrev sF46:Stmt:=top 32
abbrev nF46:List Str:=["reading", "terms", "left", "first", "right", "second", "sign", "form"]
abbrev pF46:List Str:=["reading", "terms"]
abbrev sF47:Stmt:=top 31
abbrev nF47:List Str:=["reading", "terms"]
abbrev pF47:List Str:=["reading", "terms"]
abbrev sF48:Stmt:=top 30
abbrev nF48:List Str:=["reading"]
abbrev pF48:List Str:=["reading"]
abbrev sF49:Stmt:=top 29
abbrev nF49:List Str:=["reading"]
abbrev pF49:List Str:=["reading"]
abbrev sF50:Stmt:=top 71
abbrev nF50:List Str:=["_law_book", "_law_words_here", "_law_reading", "_law_one", "_law_form"]
abbrev pF50:List Str:=["_law_book", "_law_words_here", "_law_reading", "_law_one", "_law_form"]
abbrev sF51:Stmt:=top 69
abbrev nF51:List Str:=["_law_reading", "_law_sign", "_law_left", "_law_right", "_law_many"]
abbrev pF51:List Str:=["_law_reading"]
abbrev sF52:Stmt:=top 72
abbrev nF52:List Str:=["_law_script", "_law_deck_here", "_law_basics", "_law_form", "_law_reading", "_law_words_here", "_law_pairs", "_law_book", "_law_one", "_law_other_here"]
abbrev pF52:List Str:=["_law_script"]
structure Fns(P:Program)(w:World)(K:Frag)(mg:Str->Option Value)(base:Heap)(k:Nat)(t:Tab)(f:Nat->Addr)(fd:Nat->FuncData):Prop where
 c0:Cal P w K mg base k "_law_deck" pF0 (q1a K t.dLdeck) (f 0) (fd 0)
 c1:Cal P w K mg base k "_law_next" pF1 (q1a K t.dLnext) (f 1) (fd 1)
 c2:Cal P w K mg base k "_law_spelled" pF2 (q1a K t.dLspelled) (f 2) (fd 2)
 c3:Cal P w K mg base k "_law_word" pF3 (q1a K t.dLword) (f 3) (fd 3)
 c4:Cal P w K mg base k "_law_words" pF4 (q1a K t.dLwords) (f 4) (fd 4)
 c5:Cal P w K mg base k "_law_wide" pF5 (q1a K t.dLwide) (f 5) (fd 5)
 c6:Cal P w K mg base k "_law_other" pF6 (q1a K t.dLother) (f 6) (fd 6)
 c7:Cal P w K mg base k "_law_drawn_form" pF7 (q1a K t.dLdrawn_form) (f 7) (fd 7)
 c8:Cal P w K mg base k "_law_tree" pF8 (q1a K t.dLtree) (f 8) (fd 8)
 c9:Cal P w K mg base k "_law_chain" pF9 (q1a K t.dLchain) (f 9) (fd 9)
 c10:Cal P w K mg base k "_law_within" pF10 (q1a K t.dLwithin) (f 10) (fd 10)
 c11:Cal P w K mg base k "_law_words_of" pF11 (q1a K t.dLwords_of) (f 11) (fd 11)
 c12:Cal P w K mg base k "_law_kind_of_form" pF12 (q1a K t.dLkind_of_form) (f 12) (fd 12)
 c13:Cal P w K mg base k "_law_lone_book" pF13 (q1a K t.dLlone_book) (f 13) (fd 13)
 c14:Cal P w K mg base k "is_headed" pF14 (q1a K t.dis_headed) (f 14) (fd 14)
 c15:Cal P w K mg base k "nodes_of" pF15 (q1a K t.dnodes_of) (f 15) (fd 15)
 c16:Cal P w K mg base k "rows_of" pF16 (q1a K t.drows_of) (f 16) (fd 16)
 c17:Cal P w K mg base k "show_form" pF17 (q1a K t.dshow_form) (f 17) (fd 17)
 c18:Cal P w K mg base k "forms_of" pF18 (q1a K t.dforms_of) (f 18) (fd 18)
 c19:Cal P w K mg base k "is_name" pF19 (q1a K t.dis_name) (f 19) (fd 19)
 c20:Cal P w K mg base k "is_form" pF20 (q1a K t.dis_form) (f 20) (fd 20)
 c21:Cal P w K mg base k "formed_of_word" pF21 (q1a K t.dformed_of_word) (f 21) (fd 21)
 c22:Cal P w K mg base k "made" pF22 (q1a K t.dmade) (f 22) (fd 22)
 c23:Cal P w K mg base k "formed_of_two" pF23 (q1a K t.dformed_of_two) (f 23) (fd 23)
 c24:Cal P w K mg base k "formed" pF24 (q1a K t.dformed) (f 24) (fd 24)
 c25:Cal P w K mg base k "turned_at_top" pF25 (q1a K t.dturned_at_top) (f 25) (fd 25)
 c26:Cal P w K mg base k "turned" pF26 (q1a K t.dturned) (f 26) (fd 26)
 c27:Cal P w K mg base k "turns" pF27 (q1a K t.dturns) (f 27) (fd 27)
 c28:Cal P w K mg base k "_law_turned_once" pF28 (q1a K t.dLturned_once) (f 28) (fd 28)
 c29:Cal P w K mg base k "is_to_do" pF29 (q1a K t.dis_to_do) (f 29) (fd 29)
 c30:Cal P w K mg base k "inner_of" pF30 (q1a K t.dinner_of) (f 30) (fd 30)
 c31:Cal P w K mg base k "places" pF31 (q1a K t.dplaces) (f 31) (fd 31)
 c32:Cal P w K mg base k "way_to" pF32 (q1a K t.dway_to) (f 32) (fd 32)
 c33:Cal P w K mg base k "parts_and_fns" pF33 (q1a K t.dparts_and_fns) (f 33) (fd 33)
 c34:Cal P w K mg base k "with_bound_ones" pF34 (q1a K t.dwith_bound_ones) (f 34) (fd 34)
 c35:Cal P w K mg base k "bound_ones" pF35 (q1a K t.dbound_ones) (f 35) (fd 35)
 c36:Cal P w K mg base k "raised" pF36 (q1a K t.draised) (f 36) (fd 36)
 c37:Cal P w K mg base k "put_for" pF37 (q1a K t.dput_for) (f 37) (fd 37)
 c38:Cal P w K mg base k "put_in" pF38 (q1a K t.dput_in) (f 38) (fd 38)
 c39:Cal P w K mg base k "with_inner" pF39 (q1a K t.dwith_inner) (f 39) (fd 39)
 c40:Cal P w K mg base k "done_at" pF40 (q1a K t.ddone_at) (f 40) (fd 40)
 c41:Cal P w K mg base k "steps_of" pF41 (q1a K t.dsteps_of) (f 41) (fd 41)
 c42:Cal P w K mg base k "plain_of" pF42 (q1a K t.dplain_of) (f 42) (fd 42)
 c43:Cal P w K mg base k "kind_of_form" pF43 (q1a K t.dkind_of_form) (f 43) (fd 43)
 c44:Cal P w K mg base k "joined" pF44 (q1a K t.djoined) (f 44) (fd 44)
 c45:Cal P w K mg base k "meant" pF45 (q1a K t.dmeant) (f 45) (fd 45)
 c46:Cal P w K mg base k "form_and_term" pF46 (q1a K t.dform_and_term) (f 46) (fd 46)
 c47:Cal P w K mg base k "meaning_with" pF47 (q1a K t.dmeaning_with) (f 47) (fd 47)
 c48:Cal P w K mg base k "words_of" pF48 (q1a K t.dwords_of) (f 48) (fd 48)
 c49:Cal P w K mg base k "unknown" pF49 (q1a K t.dunknown) (f 49) (fd 49)
 c50:Cal P w K mg base k "_law_stays" pF50 (q1a K t.dLstays) (f 50) (fd 50)
 c51:Cal P w K mg base k "_law_weight" pF51 (q1a K t.dLweight) (f 51) (fd 51)
 c52:Cal P w K mg base k "law" pF52 (q1a K t.dlaw) (f 52) (fd 52)
structure Locs(K:Frag)(mg:Str->Option Value)(f:Nat->Addr)(fd:Nat->FuncData):Prop where
 l0:Loc2 K mg "_law_deck" sF0 pF0 (f 0) (fd 0)
 l1:Loc2 K mg "_law_next" sF1 pF1 (f 1) (fd 1)
 l2:Loc2 K mg "_law_spelled" sF2 pF2 (f 2) (fd 2)
 l3:Loc2 K mg "_law_word" sF3 pF3 (f 3) (fd 3)
 l4:Loc2 K mg "_law_words" sF4 pF4 (f 4) (fd 4)
 l5:Loc2 K mg "_law_wide" sF5 pF5 (f 5) (fd 5)
 l6:Loc2 K mg "_law_other" sF6 pF6 (f 6) (fd 6)
 l7:Loc2 K mg "_law_drawn_form" sF7 pF7 (f 7) (fd 7)
 l8:Loc2 K mg "_law_tree" sF8 pF8 (f 8) (fd 8)
 l9:Loc2 K mg "_law_chain" sF9 pF9 (f 9) (fd 9)
 l10:Loc2 K mg "_law_within" sF10 pF10 (f 10) (fd 10)
 l11:Loc2 K mg "_law_words_of" sF11 pF11 (f 11) (fd 11)
 l12:Loc2 K mg "_law_kind_of_form" sF12 pF12 (f 12) (fd 12)
 l13:Loc2 K mg "_law_lone_book" sF13 pF13 (f 13) (fd 13)
 l14:Loc2 K mg "is_headed" sF14 pF14 (f 14) (fd 14)
 l15:Loc2 K mg "nodes_of" sF15 pF15 (f 15) (fd 15)
 l16:Loc2 K mg "rows_of" sF16 pF16 (f 16) (fd 16)
 l17:Loc2 K mg "show_form" sF17 pF17 (f 17) (fd 17)
 l18:Loc2 K mg "forms_of" sF18 pF18 (f 18) (fd 18)
 l19:Loc2 K mg "is_name" sF19 pF19 (f 19) (fd 19)
 l20:Loc2 K mg "is_form" sF20 pF20 (f 20) (fd 20)
 l21:Loc2 K mg "formed_of_word" sF21 pF21 (f 21) (fd 21)
 l22:Loc2 K mg "made" sF22 pF22 (f 22) (fd 22)
 l23:Loc2 K mg "formed_of_two" sF23 pF23 (f 23) (fd 23)
 l24:Loc2 K mg "formed" sF24 pF24 (f 24) (fd 24)
 l25:Loc2 K mg "turned_at_top" sF25 pF25 (f 25) (fd 25)
 l26:Loc2 K mg "turned" sF26 pF26 (f 26) (fd 26)
 l27:Loc2 K mg "turns" sF27 pF27 (f 27) (fd 27)
 l28:Loc2 K mg "_law_turned_once" sF28 pF28 (f 28) (fd 28)
 l29:Loc2 K mg "is_to_do" sF29 pF29 (f 29) (fd 29)
 l30:Loc2 K mg "inner_of" sF30 pF30 (f 30) (fd 30)
 l31:Loc2 K mg "places" sF31 pF31 (f 31) (fd 31)
 l32:Loc2 K mg "way_to" sF32 pF32 (f 32) (fd 32)
 l33:Loc2 K mg "parts_and_fns" sF33 pF33 (f 33) (fd 33)
 l34:Loc2 K mg "with_bound_ones" sF34 pF34 (f 34) (fd 34)
 l35:Loc2 K mg "bound_ones" sF35 pF35 (f 35) (fd 35)
 l36:Loc2 K mg "raised" sF36 pF36 (f 36) (fd 36)
 l37:Loc2 K mg "put_for" sF37 pF37 (f 37) (fd 37)
 l38:Loc2 K mg "put_in" sF38 pF38 (f 38) (fd 38)
 l39:Loc2 K mg "with_inner" sF39 pF39 (f 39) (fd 39)
 l40:Loc2 K mg "done_at" sF40 pF40 (f 40) (fd 40)
 l41:Loc2 K mg "steps_of" sF41 pF41 (f 41) (fd 41)
 l42:Loc2 K mg "plain_of" sF42 pF42 (f 42) (fd 42)
 l43:Loc2 K mg "kind_of_form" sF43 pF43 (f 43) (fd 43)
 l44:Loc2 K mg "joined" sF44 pF44 (f 44) (fd 44)
 l45:Loc2 K mg "meant" sF45 pF45 (f 45) (fd 45)
 l46:Loc2 K mg "form_and_term" sF46 pF46 (f 46) (fd 46)
 l47:Loc2 K mg "meaning_with" sF47 pF47 (f 47) (fd 47)
 l48:Loc2 K mg "words_of" sF48 pF48 (f 48) (fd 48)
 l49:Loc2 K mg "unknown" sF49 pF49 (f 49) (fd 49)
 l50:Loc2 K mg "_law_stays" sF50 pF50 (f 50) (fd 50)
 l51:Loc2 K mg "_law_weight" sF51 pF51 (f 51) (fd 51)
 l52:Loc2 K mg "law" sF52 pF52 (f 52) (fd 52)
section
variable{P:Program}{w:World}{K:Frag}{mg:Str->Option Value}{base:Heap}{k:Nat}{t:Tab}{f:Nat->Addr}{fd:Nat->FuncData}{g:Addr}(Z:Sta K mg)(I:Fns P w K mg base k t f fd)
include Z I
theorem mF0:SimF P w K mg base k "_law_deck" nF0 sF0 (q5i) g:=
 fun hw hr hx hu hn=>(q0e (q0o 1 hn (q0q q1h (q7v (q0b 0) q7z (q7y q0f)) (q1q (q0a q0f q0c))))
 (q0e (q0o 2 hn (q7i (q1d hu) (q0q q1t (q0k hu (q0b 1) q0f) q0f) q0f (q0u _)))
 (q0e (q3e (q0q q5k (q0k hu (q0b 1) q0f) q0f) (q6y (sets hu) (q0b 1) q0f))
 (q0g (q0n (y5o (q6p q0j (q0b 1) (q6p q0j q0f (q6p q0j q0f (q6p q0j (q0q q1h q0f (q0q q1t (q1b (y4c rfl) Z.z10 L2.y8e (q0a (q0b 1) q0c)) q0f)) (q6p q0j (q0b 2) y5r)))))))))))
theorem mF1:SimF P w K mg base k "_law_next" nF1 sF1 (q5h) g:=
 fun hw hr hx hu hn=>(q0e (q0o 1 hn (q0k hu (q0b 0) q0j))
 (q0e (q0y (q1u (q0k hu (q0b 0) q0j)) (q0e (q3e (q0q q1h (q0k hu (q0b 0) q0j) q0f) (q6y (sets hu) (q0b 0) q0j))
 (q0e (q0o 2 hn (q0k hu (q0b 1) (q0q q1t (q0k hu (q0b 0) q0j) (q1b q1j Z.z4 PySem.boot_len (q0a (q0b 1) q0c)))))
 (q0e (q3e (q0q q1t (q0q q1h (q0q q1h (q0q z2i (q0k hu (q0b 0) q0j) q0f) (q0b 2)) (q0k hu (q0b 0) q0j)) q0f) (q6y (sets hu) (q0b 0) q0j))
 (q0e (q0o 3 hn (q0q q1t (q0q q1h (q0q z2i (q0k hu (q0b 0) q0j) (q0k hu (q0b 0) q0j)) (q0q z2i q0f (q0k hu (q0b 0) q0j))) q0f))
 (q0g (q0n (q0q q1t (q0q z2i (q0b 3) (q0q q1h (q0b 3) q0f)) q0f))))))) q0s)
 (q0e (q0o 3 hn (q0q q1t (q0k hu (q0b 1) q0f) (q0q y1w q0f q0f)))
 (q0e (q3e (q0q q5k (q0k hu (q0b 1) q0f) (q0q y1w q0f q0f)) (q6y (sets hu) (q0b 1) q0f))
 (q0e (q3e (q0q q8p (q0k hu (q0b 0) q0j) q0f) (q6y (sets hu) (q0b 0) q0j))
 (q0e (q0y (SimW.t (q3r (q0l (q1d hu) (q0k hu (q0b 0) q0j) q0f (q0u _)) (q2w (q0l q7c (q1b q1j Z.z4 PySem.boot_len (q0a (q0b 1) q0c)) q0f (q0u _))))) (q0e (q1r (q2s PySem.F.plainAttrs_list PySem.F.slot_list_pop PySem.F.type_list_pop z3v (q0b 1) (q0a q0f q0c)))
 (q0g (q3e q0f (q6y (sets hu) (q0b 0) q0j)))) q0s)
 (q0g (q0n (q0b 3)))))))))
theorem mF2:SimF P w K mg base k "_law_spelled" nF2 sF2 (q3q) g:=
 fun hw hr hx hu hn=>(q0e (q0o 2 hn q0j)
 (q0e (q6n PassesOwn.leaving rfl (z1f Z.z6 (q0a (q0b 1) q0c)) (q0p (i:=3) hn) (q0e (q0o 2 hn (q0q q1h (q0b 2) (q0k hu q0j (q0q q1t (q0b 0) q0f))))
 (q0g (q0o 0 hn (q0q q5k (q0b 0) q0f)))))
 (q0g (q0n (q0b 2)))))
theorem mF3:SimF P w K mg base k "_law_word" nF3 sF3 (q8x t.dLnext t.dLspelled) g:=
 fun hw hr hx hu hn=>(q0e (q0o 2 hn (q0h I.c1 hr hx (q0a (q0b 0) q0c)))
 (q0e (q0o 3 hn (q0h I.c1 hr hx (q0a (q0b 0) q0c)))
 (q0e (q0o 4 hn (q0q q1h q0f (q0q q1t (q0b 2) q0f)))
 (q0e (q0o 5 hn (q0h I.c2 hr hx (q0a (q0b 3) (q0a (q0b 4) q0c))))
 (q0e (q0y (SimW.t (q3r (q0l (q8z hu) (q0b 1) (q1q q0c) (q0u _)) (q2w (q0l (q1d hu) (q0q q1t (q0q q5k (q0b 2) q0f) q0f) q0f (q0u _))))) (q0e (q0o 6 hn (q0q q1t (q0q q5k (q0b 2) q0f) (q1b q1j Z.z4 PySem.boot_len (q0a (q0k hu (q0b 1) q0f) q0c))))
 (q0g (q0o 5 hn (q0q q1h (q0q q1h (q7v (q0k hu (q0b 1) q0f) q7z (q7y (q0b 6))) (q0k hu (q0b 5) q0f)) (q7v (q0k hu (q0b 1) q0f) (q7y (q0q q1h (q0b 6) q0f)) q7z))))) q0s)
 (q0e (q4g PassesOwn.leaving (SimW.t (q2v (q0l (q9a hu) (q0b 5) (q0b 1) (by with_unfolding_all rfl)) (q3d (q0l (q1d hu) (q0b 5) q0j (q0u _))))) (q0e (q0o 3 hn (q0q q1h (q0b 3) q0f))
 (q0e (q0o 4 hn (q0q q1h (q0q q1t (q0b 4) q0f) q0f))
 (q0g (q0o 5 hn (q0h I.c2 hr hx (q0a (q0b 3) (q0a (q0b 4) q0c))))))))
 (q0g (q0n (q0b 5)))))))))
theorem mF4:SimF P w K mg base k "_law_words" nF4 sF4 (q4w t.dLword) g:=
 fun hw hr hx hu hn=>(q0e (q0o 2 hn (q1q q0c))
 (q0e (q6n PassesOwn.leaving rfl (z1f Z.z6 (q0a (q0b 1) q0c)) (q0p (i:=3) hn) (q0g (q1r (q2s PySem.F.plainAttrs_list PySem.F.slot_list_append PySem.F.type_list_append q1n (q0b 2) (q0a (q0h I.c3 hr hx (q0a (q0b 0) (q0a (q0b 2) q0c))) q0c)))))
 (q0g (q0n (q0b 2)))))
theorem mF5:SimF P w K mg base k "_law_wide" nF5 sF5 (q4f t.dLwide) g:=
 fun hw hr hx hu hn=>(q0e (q0y (q0l (q1d hu) (q0k hu (q0b 0) q0f) q0j (q0u _)) (q0g (q0n q0f)) q0s)
 (q0g (q0n (q0q q1h (q0h I.c5 hr hx (q0a (q0k hu (q0b 0) q0f) q0c)) (q0h I.c5 hr hx (q0a (q0k hu (q0b 0) q0f) q0c))))))
theorem mF6:SimF P w K mg base k "_law_other" nF6 sF6 (q4y t.dLnext t.dLwide) g:=
 fun hw hr hx hu hn=>(q0e (q0o 3 hn (q0h I.c1 hr hx (q0a (q0b 0) q0c)))
 (q0e (q0o 4 hn (q0m (q0a q0j (q0a (q0k hu (q0b 1) (q0q q1t (q0b 3) (q1b q1j Z.z4 PySem.boot_len (q0a (q0b 1) q0c)))) q0c))))
 (q0e (q0y (SimW.t (q2v (q0l q7c (q0q q1t (q0q q5k (q0b 3) q0f) q0f) q0f (q0u _)) (q3d (q0l q7c (q0h I.c5 hr hx (q0a (q0b 2) q0c)) q0f (q0u _))))) (q0g (q0n (q0b 4))) q0s)
 (q0g (q0n (q0m (q0a (q0k hu (q1q (q0a q0j (q0a q0j q0c))) (q0q q1t (q0q q5k (q0b 3) q0f) q0f)) (q0a (q0b 4) (q0a (q0m (q0a q0j (q0a (q0k hu (q0b 1) (q0q q1t (q0q q5k (q0b 3) q0f) (q1b q1j Z.z4 PySem.boot_len (q0a (q0b 1) q0c)))) q0c))) q0c)))))))))
theorem mF7:SimF P w K mg base k "_law_drawn_form" nF7 sF7 (q2q t.dLnext t.dLother) g:=
 fun hw hr hx hu hn=>(q0e (q0o 2 hn (q0m (q0a q0j (q0a (q0k hu (q0b 1) (q0q q1t (q0h I.c1 hr hx (q0a (q0b 0) q0c)) (q1b q1j Z.z4 PySem.boot_len (q0a (q0b 1) q0c)))) q0c))))
 (q0e (q0o 3 hn (q0h I.c6 hr hx (q0a (q0b 0) (q0a (q0b 1) (q0a (q0b 2) q0c)))))
 (q0e (q0o 4 hn (q0q q1t (q0h I.c1 hr hx (q0a (q0b 0) q0c)) q0f))
 (q0e (q0y (q0l z0f (q0b 4) q0f (q0u _)) (q0g (q0n (q0b 2))) q0s)
 (q0g (q0n (q0m (q0a (q0k hu (q1q (q0a q0j (q0a q0j q0c))) (q0q q1t (q0b 4) q0f)) (q0a (q0b 2) (q0a (q0b 3) q0c))))))))))
theorem mF8:SimF P w K mg base k "_law_tree" nF8 sF8 (q5g t.dLnext t.dLother t.dLwide t.dLtree) g:=
 fun hw hr hx hu hn=>(q0e (q0y (q0l z0f (q0b 4) q0f (q0u _)) (q0g (q0n (q0m (q0a q0j (q0a (q0b 3) (q0a (q0b 2) q0c)))))) q0s)
 (q0e (q0o 5 hn (q0q q1h q0f (q0q q1t (q0h I.c1 hr hx (q0a (q0b 0) q0c)) (q0q q8p (q0b 4) q0f))))
 (q0e (q0o 6 hn (q0h I.c1 hr hx (q0a (q0b 0) q0c)))
 (q0e (q0o 7 hn (q0h I.c6 hr hx (q0a (q0b 0) (q0a (q0b 1) (q0a (q0b 2) q0c)))))
 (q0e (q0o 8 hn q0j)
 (q0e (q0o 9 hn (q0m (q0a (q0m (q0a q0j (q0a (q0b 2) (q0a (q0b 7) q0c)))) (q0a (q0b 7) q0c))))
 (q0e (q0y (q0l (q1d hu) (q0q q1t (q0b 6) q0f) q0f (q0u _)) (q0e (q0o 8 hn q0j)
 (q0g (q0o 9 hn (q0m (q0a (q0b 7) (q0a (q0m (q0a q0j (q0a (q0b 2) (q0a (q0b 7) q0c)))) q0c)))))) q0s)
 (q0e (q0y (SimW.t (q3r (q0l (q1d hu) (q0k hu (q0b 2) q0f) q0j (q0u _)) (q2w (SimW.t (q2v (q0l q7c (q0q q1t (q0b 6) q0f) q0f (q0u _)) (q3d (q0l q7c (q0h I.c5 hr hx (q0a (q0b 2) q0c)) q0f (q0u _)))))))) (q0e (q0o 8 hn q0j)
 (q0g (q0o 9 hn (q0m (q0a (q0m (q0a q0j (q0a (q0k hu (q0b 2) q0f) (q0a (q0b 7) q0c)))) (q0a (q0m (q0a q0j (q0a (q0b 7) (q0a (q0k hu (q0b 2) q0f) q0c)))) q0c)))))) q0s)
 (q0e (q0y (SimW.t (q3r (q0l (q1d hu) (q0k hu (q0b 2) q0f) q0j (q0u _)) (q2w (SimW.t (q2v (q0l q7c (q0q q1t (q0b 6) q0f) q0f (q0u _)) (q3d (q0l q7c (q0h I.c5 hr hx (q0a (q0b 2) q0c)) q0f (q0u _)))))))) (q0e (q0o 8 hn q0j)
 (q0g (q0o 9 hn (q0m (q0a (q0m (q0a q0j (q0a (q0b 7) (q0a (q0k hu (q0b 2) q0f) q0c)))) (q0a (q0m (q0a q0j (q0a (q0k hu (q0b 2) q0f) (q0a (q0b 7) q0c)))) q0c)))))) q0s)
 (q0e (q0o 10 hn (q0h I.c8 hr hx (q0a (q0b 0) (q0a (q0b 1) (q0a (q0k hu (q0b 9) q0f) (q0a (q0b 3) (q0a (q0b 5) q0c)))))))
 (q0g (q0n (q0m (q0a (q0b 8) (q0a (q0b 10) (q0a (q0h I.c8 hr hx (q0a (q0b 0) (q0a (q0b 1) (q0a (q0k hu (q0b 9) q0f) (q0a (q0q q1h (q0b 3) (q0b 5)) (q0a (q0q q8p (q0b 4) (q0b 5)) q0c)))))) q0c))))))))))))))))
theorem mF9:SimF P w K mg base k "_law_chain" nF9 sF9 (q4z t.dLnext t.dLtree t.dLchain) g:=
 fun hw hr hx hu hn=>(q0e (q0y (SimW.t (q2v (q0l z0f (q0b 4) q0f (q0u _)) (q2v (q0l (q1d hu) (q0k hu (q0b 2) q0f) q0j (q0u _)) (q3d (q0l (q1d hu) (q0q q1t (q0h I.c1 hr hx (q0a (q0b 0) q0c)) q0f) q0f (q0u _)))))) (q0g (q0n (q0h I.c8 hr hx (q0a (q0b 0) (q0a (q0b 1) (q0a (q0b 2) (q0a (q0b 3) (q0a (q0b 4) q0c)))))))) q0s)
 (q0e (q0o 5 hn (q0m (q0a q0j (q0a (q0k hu (q0b 1) (q0q q1t (q0h I.c1 hr hx (q0a (q0b 0) q0c)) (q1b q1j Z.z4 PySem.boot_len (q0a (q0b 1) q0c)))) q0c))))
 (q0e (q0o 6 hn (q0q q1h q0f (q0q q1t (q0h I.c1 hr hx (q0a (q0b 0) q0c)) (q0q q8p (q0b 4) q0f))))
 (q0e (q0o 7 hn q0j)
 (q0e (q0o 8 hn (q0m (q0a (q0m (q0a q0j (q0a (q0k hu (q0b 2) q0f) (q0a (q0b 5) q0c)))) (q0a (q0m (q0a q0j (q0a (q0b 5) (q0a (q0k hu (q0b 2) q0f) q0c)))) q0c))))
 (q0e (q0y (q0l (q1d hu) (q0k hu (q0b 2) q0f) q0j (q0u _)) (q0e (q0o 7 hn q0j)
 (q0g (q0o 8 hn (q0m (q0a (q0m (q0a q0j (q0a (q0b 5) (q0a (q0k hu (q0b 2) q0f) q0c)))) (q0a (q0m (q0a q0j (q0a (q0k hu (q0b 2) q0f) (q0a (q0b 5) q0c)))) q0c)))))) q0s)
 (q0e (q0o 9 hn (q0h I.c9 hr hx (q0a (q0b 0) (q0a (q0b 1) (q0a (q0k hu (q0b 8) q0f) (q0a (q0b 3) (q0a (q0b 6) q0c)))))))
 (q0g (q0n (q0m (q0a (q0b 7) (q0a (q0b 9) (q0a (q0h I.c9 hr hx (q0a (q0b 0) (q0a (q0b 1) (q0a (q0k hu (q0b 8) q0f) (q0a (q0q q1h (q0b 3) (q0b 6)) (q0a (q0q q8p (q0b 4) (q0b 6)) q0c)))))) q0c)))))))))))))
theorem mF10:SimF P w K mg base k "_law_within" nF10 sF10 (q4c t.dLwithin) g:=
 fun hw hr hx hu hn=>(q0e (q0y (q0l (q1d hu) (q0k hu (q0b 0) q0f) q0j (q0u _)) (q0g (q0n (q1q (q0a (q0b 0) q0c)))) q0s)
 (q0g (q0n (q0q q1h (q0q q1h (q1q (q0a (q0b 0) q0c)) (q0h I.c10 hr hx (q0a (q0k hu (q0b 0) q0f) q0c))) (q0h I.c10 hr hx (q0a (q0k hu (q0b 0) q0f) q0c))))))
theorem mF11:SimF P w K mg base k "_law_words_of" nF11 sF11 (q3h t.dLwithin) g:=
 fun hw hr hx hu hn=>(q0g (q0n (z1e ["_law_one"] [none] rfl (q5u rfl (by decide +kernel) (by decide +kernel) rfl trivial) (q2i (q0h I.c10 hr hx (q0a (q0b 0) q0c))) (fun _ _ _ _ _=>(q0p (i:=0) (show(["_law_one"]:List Str).Nodup by decide +kernel))) (fun _ _ _ _ _=>(q0l (q1d hu) (q0k hu (q0b 0) q0f) q0j (q0u _))) (fun _ _ _ _ _=>(q7v (q0b 0) (q7y q0f) q7z)))))
theorem mF12:SimF P w K mg base k "_law_kind_of_form" nF12 sF12 (q4n t.dLkind_of_form) g:=
 fun hw hr hx hu hn=>(q0e (q0y (q0l (q1d hu) (q0k hu (q0b 0) q0f) q0j (q0u _)) (q0g (q0n (q0k hu (q0b 0) q0f))) q0s)
 (q0g (q0n (q0m (q0a (q0h I.c12 hr hx (q0a (q0k hu (q0b 0) q0f) q0c)) (q0a (q0h I.c12 hr hx (q0a (q0k hu (q0b 0) q0f) q0c)) q0c))))))
theorem mF13:SimF P w K mg base k "_law_lone_book" nF13 sF13 (q3b t.dLkind_of_form) g:=
 fun hw hr hx hu hn=>(q0e (q0o 3 hn (q1q q0c))
 (q0e (q0o 4 hn (q1q q0c))
 (q0e (q6n PassesOwn.leaving rfl (q2i (q0b 1)) (q1y 2 rfl (q0r (q0p (i:=5) hn) (q0r (q0p (i:=6) hn) q1p))) (q0e (q0o 7 hn (q0h I.c12 hr hx (q0a (q0b 6) q0c)))
 (q0e (q7w 8 ["_law_name", "_law_other_here", "_law_kind"] [none,none,some 7] hn rfl (q5u rfl (by decide +kernel) (by decide +kernel) rfl ⟨⟨rfl,rfl,by first|exact Or.inl rfl|exact Or.inr rfl⟩,trivial⟩) (q2i (q0b 3)) (fun _ _ _ _ _=>(q1y 2 rfl (q0r (q0p (i:=0) (show (["_law_name", "_law_other_here", "_law_kind"]:List Str).Nodup by decide +kernel)) (q0r (q0p (i:=1) (show (["_law_name", "_law_other_here", "_law_kind"]:List Str).Nodup by decide +kernel)) q1p)))) (fun _ _ _ _ _=>(q0l (q1d hu) (q0b 1) (q0b 2) (q0u _))) (fun _ _ _ _ _=>(q0b 0)))
 (q0e (q0y (q0l (q1d hu) (q0b 8) (q1q q0c) (q0u _)) (q0e (q0o 8 hn (q1q (q0a (q2s PySem.F.plainAttrs_list PySem.F.slot_list_pop PySem.F.type_list_pop z3v (q0b 2) (q0a q0f q0c)) q0c)))
 (q0g (q1r (q2s PySem.F.plainAttrs_list PySem.F.slot_list_append PySem.F.type_list_append q1n (q0b 3) (q0a (q0m (q0a (q0k hu (q0b 8) q0f) (q0a (q0b 7) q0c))) q0c))))) q0s)
 (q0g (q1r (q2s PySem.F.plainAttrs_list PySem.F.slot_list_append PySem.F.type_list_append q1n (q0b 4) (q0a (q0m (q0a (q0b 5) (q0a (q0b 6) (q0a (q0m (q0a q0j (q0a (q0k hu (q0b 8) q0f) q0c))) q0c)))) q0c))))))))
 (q0g (q0n (q0m (q0a (q3j q3u Z.z11 L2.q3v (q0a (q0b 0) q0c)) (q0a (q3j q3u Z.z11 L2.q3v (q0a (q0b 3) q0c)) (q0a (q3j q3u Z.z11 L2.q3v (q0a (q0b 4) q0c)) q0c)))))))))
theorem mF14:SimF P w K mg base k "is_headed" nF14 sF14 (q3g) g:=
 fun hw hr hx hu hn=>(q0e (q0y (SimW.t (q2v (q5j (q1u (q1b q6u Z.z3 L2.q5b (q0a (q0b 0) (q0a (z3m Z.z11 L2.q3v) q0c))))) (q3d (q0l (q8z hu) (q1b q1j Z.z4 PySem.boot_len (q0a (q0b 0) q0c)) (q0b 2) (q0u _))))) (q0g (q0n q6o)) q0s)
 (q0g (q0n (y0z (q1b q6u Z.z3 L2.q5b (q0a (q0k hu (q0b 0) q0f) (q0a (z3m Z.z9 L2.z8h) q0c))) (y0v (q7i (q9a hu) (q0k hu (q0b 0) q0f) (q0b 1) (by with_unfolding_all rfl)))))))
theorem mF15:SimF P w K mg base k "nodes_of" nF15 sF15 (q3o t.dis_headed) g:=
 fun hw hr hx hu hn=>(q0e (q0o 2 hn (q1q q0c))
 (q0e (q0o 3 hn (q1q (q0a (q0b 0) q0c)))
 (q0e (q0o 4 hn q0f)
 (q0e (q4g PassesOwn.leaving (q1u (q0b 3)) (q0e (q0y (q0l q7c (q0q q1h (q0b 4) (q1b q1j Z.z4 PySem.boot_len (q0a (q0b 3) q0c))) (q0b 1) (q0u _)) (q0g (q4h Z.h1 hx rfl (q0a q0j q0c))) q0s)
 (q0e (q0o 5 hn (q4k PySem.F.plainAttrs_list PySem.F.slot_list_pop PySem.F.type_list_pop q4l (q0b 3)))
 (q0e (q0y (q1u (q0h I.c14 hr hx (q0a (q0b 5) (q0a (q0m (q0a q0j q0c)) (q0a q0f q0c))))) (q0g (y0y 4 hn q0f)) (q0g (q0y (q1u (q0h I.c14 hr hx (q0a (q0b 5) (q0a (q7x Z.g3) (q0a q0f q0c))))) (q0g (q1r (q2s PySem.F.plainAttrs_list PySem.F.slot_list_extend PySem.F.type_list_extend q6z (q0b 3) (q0a (q1q (q0a (q0k hu (q0b 5) q0f) (q0a (q0k hu (q0b 5) q0f) q0c))) q0c)))) (q0g (q4h Z.h1 hx rfl (q0a q0j q0c))))))
 (q0g (q1r (q2s PySem.F.plainAttrs_list PySem.F.slot_list_append PySem.F.type_list_append q1n (q0b 2) (q0a (q0b 5) q0c))))))))
 (q0g (q0n (q0b 2)))))))
theorem mF16:SimF P w K mg base k "rows_of" nF16 sF16 (q3x) g:=
 fun hw hr hx hu hn=>(q0e (q7w 2 ["own", "form", "term", "word"] [none,none,none,some 1] hn rfl (q5u rfl (by decide +kernel) (by decide +kernel) rfl ⟨⟨rfl,rfl,by first|exact Or.inl rfl|exact Or.inr rfl⟩,trivial⟩) (q2i (q0k hu (q0b 0) q0f)) (fun _ _ _ _ _=>(q1y 3 rfl (q0r (q0p (i:=0) (show(["own", "form", "term", "word"]:List Str).Nodup by decide +kernel)) (q0r (q0p (i:=1) (show(["own", "form", "term", "word"]:List Str).Nodup by decide +kernel)) (q0r (q0p (i:=2) (show(["own", "form", "term", "word"]:List Str).Nodup by decide +kernel)) q1p))))) (fun _ _ _ _ _=>(q0l (q1d hu) (q0b 0) (q0b 3) (q0u _))) (fun _ _ _ _ _=>(q0m (q0a (q0b 1) (q0a (q0b 2) q0c)))))
 (q0e (q0y (q5j (q1u (q0b 2))) (q0g z3n) q0s)
 (q0g (q0n (q0b 2)))))
theorem mF17:SimF P w K mg base k "show_form" nF17 sF17 (q2p t.dshow_form) g:=
 fun hw hr hx hu hn=>(q0e (q0y (q0l (q1d hu) (q0k hu (q0b 0) q0f) q0j (q0u _)) (q0g (q0n (q0k hu (q0b 0) q0f))) q0s)
 (q0e (q3e (q0b 0) (q1y 3 rfl (q0r (q0p (i:=1) hn) (q0r (q0p (i:=2) hn) (q0r (q0p (i:=3) hn) q1p)))))
 (q0e (q0o 4 hn (q0h I.c17 hr hx (q0a (q0b 3) q0c)))
 (q0e (q0y (q0l (q8z hu) (q0k hu (q0b 3) q0f) q0j (q0u _)) (q0g (q0o 4 hn (z8w (z7h (y5p (q0b 4) (z7h y5q)))))) q0s)
 (q0g (q0n (q0q q1h (q0q q1h (q0h I.c17 hr hx (q0a (q0b 2) q0c)) (q0b 1)) (q0b 4))))))))
theorem mF18:SimF P w K mg base k "forms_of" nF18 sF18 (q3p t.drows_of t.dshow_form) g:=
 fun hw hr hx hu hn=>(q0g (q0n (y0u Z.z8 I.c17 hw.in2 (q6a ["form", "term"] [none,none] rfl (q5u rfl (by decide +kernel) (by decide +kernel) rfl trivial) (q2i (q0h I.c16 hr hx (q0a (q0b 0) (q0a (q0b 1) q0c)))) (fun _ _ _ _ _=>(q1y 2 rfl (q0r (q0p (i:=0) (show(["form", "term"]:List Str).Nodup by decide +kernel)) (q0r (q0p (i:=1) (show(["form", "term"]:List Str).Nodup by decide +kernel)) q1p)))) (fun _ _ _ _ _=>(q0b 0))))))
theorem mF19:SimF P w K mg base k "is_name" nF19 sF19 (q3z) g:=
 fun hw hr hx hu hn=>(q0e (q0y (SimW.t (q2v (q5j (q1u (q1b q6u Z.z3 L2.q5b (q0a (q0b 0) (q0a (z3m Z.z9 L2.z8h) q0c))))) (q2v (q0l (q1d hu) (q1b q1j Z.z4 PySem.boot_len (q0a (q0b 0) q0c)) q0f (q0u _)) (q3d (q0l q7c (q1b q1j Z.z4 PySem.boot_len (q0a (q0b 0) q0c)) (q7x Z.g1) (q0u _)))))) (q0g (q0n q6o)) q0s)
 (q0g (q0n (q1b (y4e rfl) Z.z0 L2.y8f (q0a (q6a ["sign"] [none] rfl (q5u rfl (by decide +kernel) (by decide +kernel) rfl trivial) (q2i (q0b 0)) (fun _ _ _ _ _=>(q0p (i:=0) (show (["sign"]:List Str).Nodup by decide +kernel))) (fun _ _ _ _ _=>(q7i (q9a hu) (q0b 0) (q7x Z.g0) (by with_unfolding_all rfl)))) q0c)))))
theorem mF20:SimF P w K mg base k "is_form" nF20 sF20 (q4a t.dis_headed t.dis_name) g:=
 fun hw hr hx hu hn=>(q0e (q0o 1 hn (q1q (q0a (q0b 0) q0c)))
 (q0e (q0o 2 hn q0f)
 (q0e (q4g PassesOwn.leaving (q1u (q0b 1)) (q0e (q0y (q0l q7c (q0q q1h (q0b 2) (q1b q1j Z.z4 PySem.boot_len (q0a (q0b 1) q0c))) (q7x Z.g2) (q0u _)) (q0g (q0n q6o)) q0s)
 (q0e (q0o 3 hn (q4k PySem.F.plainAttrs_list PySem.F.slot_list_pop PySem.F.type_list_pop q4l (q0b 1)))
 (q0g (q0y (SimW.t (q3r (q1u (q0h I.c14 hr hx (q0a (q0b 3) (q0a (q0m (q0a q0j q0c)) (q0a q0f q0c))))) (q2w (q1u (q0h I.c19 hr hx (q0a (q0k hu (q0b 3) q0f) q0c)))))) (q0g (y0y 2 hn q0f)) (q0g (q0y (q1u (q0h I.c14 hr hx (q0a (q0b 3) (q0a (q7x Z.g4) (q0a q0f q0c))))) (q0g (q1r (q2s PySem.F.plainAttrs_list PySem.F.slot_list_extend PySem.F.type_list_extend q6z (q0b 1) (q0a (q1q (q0a (q0k hu (q0b 3) q0f) (q0a (q0k hu (q0b 3) q0f) q0c))) q0c)))) (q0g (q0n q6o)))))))))
 (q0g (q0n q6o)))))
theorem mF21:SimF P w K mg base k "formed_of_word" nF21 sF21 (q2c t.dforms_of t.dis_form) g:=
 fun hw hr hx hu hn=>(q0e (q0y (SimW.t (q2v (q5j (q1u (q1b q6u Z.z3 L2.q5b (q0a (q0b 2) (q0a (z3m Z.z2 L2.z8j) q0c))))) (q2v (q1u (q1b q6u Z.z3 L2.q5b (q0a (q0b 2) (q0a (z3m Z.z1 L2.y4g) q0c)))) (q2v (q0l z0f (q0b 2) q0f (q0u _)) (q3d (q0l y1y (q0b 2) (q1b q1j Z.z4 PySem.boot_len (q0a (q0b 1) q0c)) (q0u _))))))) (q0g (q4h Z.h1 hx rfl (q0a q0j q0c))) q0s)
 (q0e (y5n Z.h2 (y5l (y5k 4 hn (y0t I.c18 hr (q0a (q0b 0) (q0a (q0k hu (q0b 1) (q0b 2)) q0c))))) (fun _=>(q0g z3n)))
 (q0e (q0y (SimW.t (q2v (q5j (q1u (q0h I.c20 hr hx (q0a (q0b 3) q0c)))) (q3d (q0l (y1x hu) (q0b 3) (q0b 4) (by with_unfolding_all rfl))))) (q0g (q4h Z.h1 hx rfl (q0a q0j q0c))) q0s)
 (q0g (q0n (q0m (q0a (q0b 2) (q0a (q0q q1h (q0b 2) q0f) (q0a (q0b 3) q0c)))))))))
theorem mF22:SimF P w K mg base k "made" nF22 sF22 (q5x) g:=
 fun hw hr hx hu hn=>(q0e (q0y (q0l (q1d hu) (q0k hu (q0b 0) q0f) q0j (q0u _)) (q0e (q0y (q0l (q1d hu) (q0k hu (q0b 0) q0f) (q0b 1) (q0u _)) (q0g (q0n (q0m (q0a q0j (q0a (q0k hu (q0b 0) q0f) q0c))))) q0s)
 (q0g (q0y (SimW.t (q3r (q0l (q1d hu) (q0k hu (q0b 1) q0f) q0j (q0u _)) (q2w (q0l (q1d hu) (q0k hu (q0b 0) q0f) (q0k hu (q0b 1) q0f) (q0u _))))) (q0g (q0n (q0m (q0a q0j (q0a (q0m (q0a q0j (q0a (q0k hu (q0b 0) q0f) (q0a (q0k hu (q0b 1) q0f) q0c)))) q0c))))) q0s))) q0s)
 (q0e (q0y (q0l (q1d hu) (q0k hu (q0b 1) q0f) q0j (q0u _)) (q0e (q0y (q0l (q1d hu) (q0k hu (q0b 1) q0f) (q0b 0) (q0u _)) (q0g (q0n (q0m (q0a q0j (q0a (q0k hu (q0b 1) q0f) q0c))))) q0s)
 (q0g (q0y (SimW.t (q3r (q0l (q1d hu) (q0k hu (q0b 0) q0f) q0j (q0u _)) (q2w (q0l (q1d hu) (q0k hu (q0b 1) q0f) (q0k hu (q0b 0) q0f) (q0u _))))) (q0g (q0n (q0m (q0a q0j (q0a (q0m (q0a q0j (q0a (q0k hu (q0b 1) q0f) (q0a (q0k hu (q0b 0) q0f) q0c)))) q0c))))) q0s))) q0s)
 (q0g (q0n q5z))))
theorem mF23:SimF P w K mg base k "formed_of_two" nF23 sF23 (q2g t.dmade) g:=
 fun hw hr hx hu hn=>(q0e (q0y (q0l (q8z hu) (q0k hu (q0b 1) q0f) (q0k hu (q0b 2) q0f) (q0u _)) (q0g (q4h Z.h1 hx rfl (q0a q0j q0c))) q0s)
 (q0e (q0o 3 hn (q0h I.c22 hr hx (q0a (q0k hu (q0b 1) q0f) (q0a (q0k hu (q0b 2) q0f) q0c))))
 (q0e (q0y (SimW.t (q2v (q0l x6m (q0b 3) q5z (q0u _)) (q3d (q0l (q8z hu) (q0k hu (q0b 3) q0f) (q0b 0) (q0u _))))) (q0g (q4h Z.h1 hx rfl (q0a q0j q0c))) q0s)
 (q0g (q0n (q0m (q0a (q0k hu (q0b 1) q0f) (q0a (q0k hu (q0b 2) q0f) (q0a (q0k hu (q0b 3) q0f) q0c)))))))))
theorem mF24:SimF P w K mg base k "formed" nF24 sF24 (q4v t.dnodes_of t.dformed_of_word t.dformed_of_two) g:=
 fun hw hr hx hu hn=>(q0e (q0o 3 hn (q1q q0c))
 (q0e (q6n PassesOwn.leaving rfl (z7i Z.z7 (q0h I.c15 hr hx (q0a (q0b 2) (q0a (q1b q1j Z.z4 PySem.boot_len (q0a (q0b 1) q0c)) q0c)))) (q0p (i:=4) hn) (q0g (q0y (q0l (q1d hu) (q0k hu (q0b 4) q0f) q0j (q0u _)) (q0g (q1r (q2s PySem.F.plainAttrs_list PySem.F.slot_list_append PySem.F.type_list_append q1n (q0b 3) (q0a (q0h I.c21 hr hx (q0a (q0b 0) (q0a (q0b 1) (q0a (q0k hu (q0b 4) q0f) (q0a (q0k hu (q0b 4) q0f) q0c))))) q0c)))) (q0e (q0o 5 hn (q4k PySem.F.plainAttrs_list PySem.F.slot_list_pop PySem.F.type_list_pop q4l (q0b 3)))
 (q0g (q1r (q2s PySem.F.plainAttrs_list PySem.F.slot_list_append PySem.F.type_list_append q1n (q0b 3) (q0a (q0h I.c23 hr hx (q0a (q0k hu (q0b 4) q0f) (q0a (q0b 5) (q0a (q4k PySem.F.plainAttrs_list PySem.F.slot_list_pop PySem.F.type_list_pop q4l (q0b 3)) q0c)))) q0c))))))))
 (q0g (q0n (q0k hu (q0b 3) q0f)))))
theorem mF25:SimF P w K mg base k "turned_at_top" nF25 sF25 (q2e) g:=
 fun hw hr hx hu hn=>(q0e (q0y (q0l (q1d hu) (q0k hu (q0b 0) q0f) q0j (q0u _)) (q0g (q0n q5z)) q0s)
 (q0e (q3e (q0b 0) (q1y 3 rfl (q0r (q0p (i:=1) hn) (q0r (q0p (i:=2) hn) (q0r (q0p (i:=3) hn) q1p)))))
 (q0e (q0y (SimW.t (q3r (q0l (q9a hu) (q0b 1) (q0m (q0a q0j (q0a q0j q0c))) (by with_unfolding_all rfl)) (q2w (q0l (q1d hu) (q0k hu (q0b 2) q0f) q0j (q0u _))))) (q0g (q0n (q0m (q0a (q0b 1) (q0a (q0k hu (q0b 2) q0f) (q0a (q0m (q0a (q0b 1) (q0a (q0k hu (q0b 2) q0f) (q0a (q0b 3) q0c)))) q0c)))))) q0s)
 (q0e (q0y (SimW.t (q3r (q0l (q9a hu) (q0b 1) (q0m (q0a q0j (q0a q0j q0c))) (by with_unfolding_all rfl)) (q2w (q0l (q1d hu) (q0k hu (q0b 3) q0f) q0j (q0u _))))) (q0g (q0n (q0m (q0a (q0b 1) (q0a (q0m (q0a (q0b 1) (q0a (q0b 2) (q0a (q0k hu (q0b 3) q0f) q0c)))) (q0a (q0k hu (q0b 3) q0f) q0c)))))) q0s)
 (q0g (q0n q5z))))))
theorem mF26:SimF P w K mg base k "turned" nF26 sF26 (q4q t.dturned_at_top t.dturned) g:=
 fun hw hr hx hu hn=>(q0e (q0o 1 hn (q0h I.c25 hr hx (q0a (q0b 0) q0c)))
 (q0e (q0y (SimW.t (q2v (q0l q8e (q0b 1) q5z (q0u _)) (q3d (q0l (q1d hu) (q0k hu (q0b 0) q0f) q0j (q0u _))))) (q0g (q0n (q0b 1))) q0s)
 (q0e (q3e (q0b 0) (q1y 3 rfl (q0r (q0p (i:=2) hn) (q0r (q0p (i:=3) hn) (q0r (q0p (i:=4) hn) q1p)))))
 (q0e (q0o 1 hn (q0h I.c26 hr hx (q0a (q0b 3) q0c)))
 (q0e (q0y (q0l q8e (q0b 1) q5z (q0u _)) (q0g (q0n (q0m (q0a (q0b 2) (q0a (q0b 1) (q0a (q0b 4) q0c)))))) q0s)
 (q0e (q0o 1 hn (q0h I.c26 hr hx (q0a (q0b 4) q0c)))
 (q0e (q0y (q0l q8e (q0b 1) q5z (q0u _)) (q0g (q0n (q0m (q0a (q0b 2) (q0a (q0b 3) (q0a (q0b 1) q0c)))))) q0s)
 (q0g (q0n q5z)))))))))
theorem mF27:SimF P w K mg base k "turns" nF27 sF27 (q5f t.dturned) g:=
 fun hw hr hx hu hn=>(q0e (q0o 1 hn (q1q (q0a (q0b 0) q0c)))
 (q0e (q0o 2 hn (q0h I.c26 hr hx (q0a (q0b 0) q0c)))
 (q0e (q4g PassesOwn.leaving (q0l q8e (q0b 2) q5z (q0u _)) (q0e (q1r (q2s PySem.F.plainAttrs_list PySem.F.slot_list_append PySem.F.type_list_append q1n (q0b 1) (q0a (q0b 2) q0c)))
 (q0g (q0o 2 hn (q0h I.c26 hr hx (q0a (q0b 2) q0c))))))
 (q0g (q0n (q0b 1))))))
theorem mF28:SimF P w K mg base k "_law_turned_once" nF28 sF28 (q2n t.dLturned_once) g:=
 fun hw hr hx hu hn=>(q0e (q0y (q0l (q1d hu) (q0k hu (q0b 0) q0f) q0j (q0u _)) (q0g (q0n (q1q q0c))) q0s)
 (q0e (q3e (q0b 0) (q1y 3 rfl (q0r (q0p (i:=1) hn) (q0r (q0p (i:=2) hn) (q0r (q0p (i:=3) hn) q1p)))))
 (q0e (q0o 4 hn (q1q q0c))
 (q0e (q0y (SimW.t (q3r (q0l (q9a hu) (q0b 1) (q0m (q0a q0j (q0a q0j q0c))) (by with_unfolding_all rfl)) (q2w (q0l (q1d hu) (q0k hu (q0b 2) q0f) q0j (q0u _))))) (q0g (q1r (q2s PySem.F.plainAttrs_list PySem.F.slot_list_append PySem.F.type_list_append q1n (q0b 4) (q0a (q0m (q0a (q0b 1) (q0a (q0k hu (q0b 2) q0f) (q0a (q0m (q0a (q0b 1) (q0a (q0k hu (q0b 2) q0f) (q0a (q0b 3) q0c)))) q0c)))) q0c)))) q0s)
 (q0e (q0y (SimW.t (q3r (q0l (q9a hu) (q0b 1) (q0m (q0a q0j (q0a q0j q0c))) (by with_unfolding_all rfl)) (q2w (q0l (q1d hu) (q0k hu (q0b 3) q0f) q0j (q0u _))))) (q0g (q1r (q2s PySem.F.plainAttrs_list PySem.F.slot_list_append PySem.F.type_list_append q1n (q0b 4) (q0a (q0m (q0a (q0b 1) (q0a (q0m (q0a (q0b 1) (q0a (q0b 2) (q0a (q0k hu (q0b 3) q0f) q0c)))) (q0a (q0k hu (q0b 3) q0f) q0c)))) q0c)))) q0s)
 (q0e (q0o 4 hn (q0q q1h (q0b 4) (q6a ["_law_one", "_law_sign", "_law_right"] [none,some 1,some 3] rfl (q5u rfl (by decide +kernel) (by decide +kernel) rfl ⟨⟨rfl,rfl,by first|exact Or.inl rfl|exact Or.inr rfl⟩,⟨⟨rfl,rfl,by first|exact Or.inl rfl|exact Or.inr rfl⟩,trivial⟩⟩) (q2i (q0h I.c28 hr hx (q0a (q0b 2) q0c))) (fun _ _ _ _ _=>(q0p (i:=0) (show (["_law_one", "_law_sign", "_law_right"]:List Str).Nodup by decide +kernel))) (fun _ _ _ _ _=>(q0m (q0a (q0b 1) (q0a (q0b 0) (q0a (q0b 2) q0c))))))))
 (q0g (q0n (q0q q1h (q0b 4) (q6a ["_law_one", "_law_sign", "_law_left"] [none,some 1,some 2] rfl (q5u rfl (by decide +kernel) (by decide +kernel) rfl ⟨⟨rfl,rfl,by first|exact Or.inl rfl|exact Or.inr rfl⟩,⟨⟨rfl,rfl,by first|exact Or.inl rfl|exact Or.inr rfl⟩,trivial⟩⟩) (q2i (q0h I.c28 hr hx (q0a (q0b 3) q0c))) (fun _ _ _ _ _=>(q0p (i:=0) (show (["_law_one", "_law_sign", "_law_left"]:List Str).Nodup by decide +kernel))) (fun _ _ _ _ _=>(q0m (q0a (q0b 1) (q0a (q0b 2) (q0a (q0b 0) q0c)))))))))))))))
theorem mF29:SimF P w K mg base k "is_to_do" nF29 sF29 (q2k) g:=
 fun hw hr hx hu hn=>(q0g (q0n (y0z (q7i (q1d hu) (q0k hu (q0b 0) q0f) q0j (q0u _)) (y0v (q7i (q1d hu) (q0k hu (q0k hu (q0b 0) q0f) q0f) q0j (q0u _))))))
theorem mF30:SimF P w K mg base k "inner_of" nF30 sF30 (q1o) g:=
 fun hw hr hx hu hn=>(q0e (q0y (q0l (q1d hu) (q0k hu (q0b 0) q0f) q0j (q0u _)) (q0g (q0n (q0m (q0a (q0k hu (q0b 0) q0f) q0c)))) q0s)
 (q0e (q0y (q0l (q1d hu) (q0k hu (q0b 0) q0f) q0j (q0u _)) (q0g (q0n (q0m (q0a (q0k hu (q0b 0) q0f) (q0a (q0k hu (q0b 0) q0f) q0c))))) q0s)
 (q0g (q0n (q0m q0c)))))
theorem mF31:SimF P w K mg base k "places" nF31 sF31 (q4t t.dis_to_do t.dinner_of) g:=
 fun hw hr hx hu hn=>(q0e (q0o 1 hn (q1q q0c))
 (q0e (q0o 2 hn (q1q (q0a (q0m (q0a (q0b 0) (q0a (q0m q0c) q0c))) q0c)))
 (q0e (q4g PassesOwn.leaving (q1u (q0b 2)) (q0e (q3e (q4k PySem.F.plainAttrs_list PySem.F.slot_list_pop PySem.F.type_list_pop q4l (q0b 2)) (q1y 2 rfl (q0r (q0p (i:=3) hn) (q0r (q0p (i:=4) hn) q1p))))
 (q0e (q0y (q1u (q0h I.c29 hr hx (q0a (q0b 3) q0c))) (q0g (q1r (q2s PySem.F.plainAttrs_list PySem.F.slot_list_append PySem.F.type_list_append q1n (q0b 1) (q0a (q0b 4) q0c)))) q0s)
 (q0e (q0o 5 hn (q0h I.c30 hr hx (q0a (q0b 3) q0c)))
 (q0g (q1r (q2s PySem.F.plainAttrs_list PySem.F.slot_list_extend PySem.F.type_list_extend q6z (q0b 2) (q0a (q6a ["k", "inner", "place"] [none,some 5,some 4] rfl (q5u rfl (by decide +kernel) (by decide +kernel) rfl ⟨⟨rfl,rfl,by first|exact Or.inl rfl|exact Or.inr rfl⟩,⟨⟨rfl,rfl,by first|exact Or.inl rfl|exact Or.inr rfl⟩,trivial⟩⟩) (z5r Z.z7 Z.z6 (q0a (q1b q1j Z.z4 PySem.boot_len (q0a (q0b 5) q0c)) q0c)) (fun _ _ _ _ _=>(q0p (i:=0) (show (["k", "inner", "place"]:List Str).Nodup by decide +kernel))) (fun _ _ _ _ _=>(q0m (q0a (q0k hu (q0b 1) (q0b 0)) (q0a (q0q q1h (q0b 2) (q0m (q0a (q0b 0) q0c))) q0c))))) q0c))))))))
 (q0g (q0n (q0b 1))))))
theorem mF32:SimF P w K mg base k "way_to" nF32 sF32 (q4p t.dinner_of) g:=
 fun hw hr hx hu hn=>(q0e (q0o 2 hn (q1q (q0a (q0b 0) q0c)))
 (q0e (q6n PassesOwn.leaving rfl (q2i (q0b 1)) (q0p (i:=3) hn) (q0e (q0o 4 hn (q0h I.c30 hr hx (q0a (q0k hu (q0b 2) (z2d q0f)) q0c)))
 (q0e (q0y (SimW.t (q2v (q0l z0f (q0b 3) q0f (q0u _)) (q3d (q0l y1y (q0b 3) (q1b q1j Z.z4 PySem.boot_len (q0a (q0b 4) q0c)) (q0u _))))) (q0g (q4h Z.h0 hx rfl (q0a q0j q0c))) q0s)
 (q0g (q1r (q2s PySem.F.plainAttrs_list PySem.F.slot_list_append PySem.F.type_list_append q1n (q0b 2) (q0a (q0k hu (q0b 4) (q0b 3)) q0c)))))))
 (q0g (q0n (q0b 2)))))
theorem mF33:SimF P w K mg base k "parts_and_fns" nF33 sF33 (q2f) g:=
 fun hw hr hx hu hn=>(q0e (q0o 1 hn (q1q q0c))
 (q0e (q0o 2 hn (q1q (q0a (q0m (q0a (q0b 0) (q0a (q0m q0c) q0c))) q0c)))
 (q0e (q4g PassesOwn.leaving (q1u (q0b 2)) (q0e (q3e (q4k PySem.F.plainAttrs_list PySem.F.slot_list_pop PySem.F.type_list_pop q4l (q0b 2)) (q1y 2 rfl (q0r (q0p (i:=3) hn) (q0r (q0p (i:=4) hn) q1p))))
 (q0e (q0y (q0l (q1d hu) (q0k hu (q0b 3) q0f) q0j (q0u _)) (q0g (q1r (q2s PySem.F.plainAttrs_list PySem.F.slot_list_append PySem.F.type_list_append q1n (q0b 2) (q0a (q0m (q0a (q0k hu (q0b 3) q0f) (q0a (q0q q1h (q0b 4) (q0m (q0a (q1b q1j Z.z4 PySem.boot_len (q0a (q0b 1) q0c)) q0c))) q0c))) q0c)))) (q0g (q0y (q0l (q1d hu) (q0k hu (q0b 3) q0f) q0j (q0u _)) (q0g (q1r (q2s PySem.F.plainAttrs_list PySem.F.slot_list_extend PySem.F.type_list_extend q6z (q0b 2) (q0a (q1q (q0a (q0m (q0a (q0k hu (q0b 3) q0f) (q0a (q0b 4) q0c))) (q0a (q0m (q0a (q0k hu (q0b 3) q0f) (q0a (q0b 4) q0c))) q0c))) q0c)))) q0s)))
 (q0g (q1r (q2s PySem.F.plainAttrs_list PySem.F.slot_list_append PySem.F.type_list_append q1n (q0b 1) (q0a (q0m (q0a (q0b 3) (q0a (q0b 4) q0c))) q0c)))))))
 (q0g (q0n (q0b 1))))))
theorem mF34:SimF P w K mg base k "with_bound_ones" nF34 sF34 (q2b t.dparts_and_fns) g:=
 fun hw hr hx hu hn=>(q0e (q0o 2 hn (q3j z9w Z.z5 L2.y4f (q0a (q0b 1) q0c)))
 (q0e (q0o 3 hn (q1q q0c))
 (q0e (q6n PassesOwn.leaving rfl (z7i Z.z7 (q0h I.c33 hr hx (q0a (q0b 0) q0c))) (q1y 2 rfl (q0r (q0p (i:=4) hn) (q0r (q0p (i:=5) hn) q1p))) (q0g (q0y (q0l (q1d hu) (q0k hu (q0b 4) q0f) q0j (q0u _)) (q0g (q1r (q2s PySem.F.plainAttrs_list PySem.F.slot_list_append PySem.F.type_list_append q1n (q0b 3) (q0a (q4k PySem.F.plainAttrs_list PySem.F.slot_list_pop PySem.F.type_list_pop q4l (q0b 2)) q0c)))) (q0g (q0y (q0l (q1d hu) (q0k hu (q0b 4) q0f) q0j (q0u _)) (q0g (q1r (q2s PySem.F.plainAttrs_list PySem.F.slot_list_append PySem.F.type_list_append q1n (q0b 3) (q0a (q0m (q0a q0j (q0a (q0k hu (q0b 4) q0f) (q0a (q4k PySem.F.plainAttrs_list PySem.F.slot_list_pop PySem.F.type_list_pop q4l (q0b 3)) q0c)))) q0c)))) (q0g (q0y (q0l (q1d hu) (q0k hu (q0b 4) q0f) q0j (q0u _)) (q0e (q0o 6 hn (q4k PySem.F.plainAttrs_list PySem.F.slot_list_pop PySem.F.type_list_pop q4l (q0b 3)))
 (q0g (q1r (q2s PySem.F.plainAttrs_list PySem.F.slot_list_append PySem.F.type_list_append q1n (q0b 3) (q0a (q0m (q0a q0j (q0a (q0b 6) (q0a (q4k PySem.F.plainAttrs_list PySem.F.slot_list_pop PySem.F.type_list_pop q4l (q0b 3)) q0c)))) q0c))))) (q0g (q1r (q2s PySem.F.plainAttrs_list PySem.F.slot_list_append PySem.F.type_list_append q1n (q0b 3) (q0a (q0b 4) q0c)))))))))))
 (q0g (q0n (q0k hu (q0b 3) q0f))))))
theorem mF35:SimF P w K mg base k "bound_ones" nF35 sF35 (q3a t.dparts_and_fns) g:=
 fun hw hr hx hu hn=>(q0g (q0n (z1e ["part", "fns"] [none,none] rfl (q5u rfl (by decide +kernel) (by decide +kernel) rfl trivial) (q2i (q0h I.c33 hr hx (q0a (q0b 0) q0c))) (fun _ _ _ _ _=>(q1y 2 rfl (q0r (q0p (i:=0) (show(["part", "fns"]:List Str).Nodup by decide +kernel)) (q0r (q0p (i:=1) (show(["part", "fns"]:List Str).Nodup by decide +kernel)) q1p)))) (fun _ _ _ _ _=>(q0l (q1d hu) (q0k hu (q0b 0) q0f) q0j (q0u _))) (fun _ _ _ _ _=>(q0m (q0a (q0k hu (q0b 0) q0f) (q0a (q1b q1j Z.z4 PySem.boot_len (q0a (q0b 1) q0c)) q0c)))))))
theorem mF36:SimF P w K mg base k "raised" nF36 sF36 (q4r t.dwith_bound_ones t.dbound_ones) g:=
 fun hw hr hx hu hn=>(q0g (q0n (q0h I.c34 hr hx (q0a (q0b 0) (q0a (q6a ["k", "fns", "more"] [none,none,some 1] rfl (q5u rfl (by decide +kernel) (by decide +kernel) rfl ⟨⟨rfl,rfl,by first|exact Or.inl rfl|exact Or.inr rfl⟩,trivial⟩) (q2i (q0h I.c35 hr hx (q0a (q0b 0) q0c))) (fun _ _ _ _ _=>(q1y 2 rfl (q0r (q0p (i:=0) (show(["k", "fns", "more"]:List Str).Nodup by decide +kernel)) (q0r (q0p (i:=1) (show(["k", "fns", "more"]:List Str).Nodup by decide +kernel)) q1p)))) (fun _ _ _ _ _=>(q0m (q0a q0j (q0a (y0w (q0l z0f (q0b 0) (q0b 1) (q0u _)) (q0b 0) (q0q q1h (q0b 0) (q0b 2))) q0c))))) q0c)))))
theorem mF37:SimF P w K mg base k "put_for" nF37 sF37 (q3y t.draised) g:=
 fun hw hr hx hu hn=>(q0e (q0y (q0l z0f (q0b 0) (q0b 1) (q0u _)) (q0g (q0n (q0m (q0a q0j (q0a (q0b 0) q0c))))) q0s)
 (q0e (q0y (q0l (q1d hu) (q0b 0) (q0b 1) (q0u _)) (q0g (q0n (q0h I.c36 hr hx (q0a (q0b 2) (q0a (q0b 1) q0c))))) q0s)
 (q0g (q0n (q0m (q0a q0j (q0a (q0q q8p (q0b 0) q0f) q0c)))))))
theorem mF38:SimF P w K mg base k "put_in" nF38 sF38 (q4s t.dwith_bound_ones t.dput_for t.dbound_ones) g:=
 fun hw hr hx hu hn=>(q0g (q0n (q0h I.c34 hr hx (q0a (q0b 0) (q0a (q6a ["k", "fns", "a"] [none,none,some 1] rfl (q5u rfl (by decide +kernel) (by decide +kernel) rfl ⟨⟨rfl,rfl,by first|exact Or.inl rfl|exact Or.inr rfl⟩,trivial⟩) (q2i (q0h I.c35 hr hx (q0a (q0b 0) q0c))) (fun _ _ _ _ _=>(q1y 2 rfl (q0r (q0p (i:=0) (show(["k", "fns", "a"]:List Str).Nodup by decide +kernel)) (q0r (q0p (i:=1) (show(["k", "fns", "a"]:List Str).Nodup by decide +kernel)) q1p)))) (fun _ _ _ _ _=>(q0h I.c37 hr y9b (q0a (q0b 0) (q0a (q0b 1) (q0a (q0b 2) q0c)))))) q0c)))))
theorem mF39:SimF P w K mg base k "with_inner" nF39 sF39 (q2z) g:=
 fun hw hr hx hu hn=>(q0e (q0y (q0l (q1d hu) (q0k hu (q0b 0) q0f) q0j (q0u _)) (q0g (q0n (q0m (q0a q0j (q0a (q0k hu (q0b 0) q0f) (q0a (q0b 2) q0c)))))) q0s)
 (q0e (q0y (q0l (q1d hu) (q0b 1) q0f (q0u _)) (q0g (q0n (q0m (q0a q0j (q0a (q0b 2) (q0a (q0k hu (q0b 0) q0f) q0c)))))) q0s)
 (q0g (q0n (q0m (q0a q0j (q0a (q0k hu (q0b 0) q0f) (q0a (q0b 2) q0c))))))))
theorem mF40:SimF P w K mg base k "done_at" nF40 sF40 (q4b t.dway_to t.dis_to_do t.dput_in t.dwith_inner) g:=
 fun hw hr hx hu hn=>(q0e (q0o 2 hn (q0h I.c32 hr hx (q0a (q0b 0) (q0a (q0b 1) q0c))))
 (q0e (q0o 3 hn (q4k PySem.F.plainAttrs_list PySem.F.slot_list_pop PySem.F.type_list_pop q4l (q0b 2)))
 (q0e (q0y (q5j (q1u (q0h I.c29 hr hx (q0a (q0b 3) q0c)))) (q0g (q4h Z.h0 hx rfl (q0a q0j q0c))) q0s)
 (q0e (q0o 4 hn (q0h I.c38 hr hx (q0a (q0k hu (q0k hu (q0b 3) q0f) q0f) (q0a (q0k hu (q0b 3) q0f) q0c))))
 (q0e (q4g PassesOwn.leaving (q1u (q0b 2)) (q0e (q0o 5 hn (q4k PySem.F.plainAttrs_list PySem.F.slot_list_pop PySem.F.type_list_pop q4l (q0b 2)))
 (q0g (q0o 4 hn (q0h I.c39 hr hx (q0a (q0b 5) (q0a (q0k hu (q0b 1) (q1b q1j Z.z4 PySem.boot_len (q0a (q0b 2) q0c))) (q0a (q0b 4) q0c))))))))
 (q0g (q0n (q0b 4))))))))
theorem mF41:SimF P w K mg base k "steps_of" nF41 sF41 (q3m t.dplaces t.ddone_at) g:=
 fun hw hr hx hu hn=>(q0e (q0o 1 hn (q1q (q0a (q0b 0) q0c)))
 (q0e (q0o 2 hn (q0h I.c31 hr hx (q0a (q0b 0) q0c)))
 (q0e (q4g PassesOwn.leaving (q1u (q0b 2)) (q0e (q1r (q2s PySem.F.plainAttrs_list PySem.F.slot_list_append PySem.F.type_list_append q1n (q0b 1) (q0a (q0h I.c40 hr hx (q0a (q0k hu (q0b 1) (z2d q0f)) (q0a (q0k hu (q0b 2) q0f) q0c))) q0c)))
 (q0g (q0o 2 hn (q0h I.c31 hr hx (q0a (q0k hu (q0b 1) (z2d q0f)) q0c))))))
 (q0g (q0n (q0b 1))))))
theorem mF42:SimF P w K mg base k "plain_of" nF42 sF42 (q3n t.dsteps_of) g:=
 fun hw hr hx hu hn=>(q0g (q0n (q0k hu (q0h I.c41 hr hx (q0a (q0b 0) q0c)) (z2d q0f))))
theorem mF43:SimF P w K mg base k "kind_of_form" nF43 sF43 (q5a t.dkind_of_form) g:=
 fun hw hr hx hu hn=>(q0e (q0y (q0l (q1d hu) (q0k hu (q0b 0) q0f) q0j (q0u _)) (q0g (q0n (q0k hu (q0b 0) q0f))) q0s)
 (q0g (q0n (q0m (q0a (q0h I.c43 hr hx (q0a (q0k hu (q0b 0) q0f) q0c)) (q0a (q0h I.c43 hr hx (q0a (q0k hu (q0b 0) q0f) q0c)) q0c))))))
theorem mF44:SimF P w K mg base k "joined" nF44 sF44 (q4u t.dkind_of_form) g:=
 fun hw hr hx hu hn=>(q0g (q0n (q0m (q0a q0j (q0a (q0h I.c43 hr hx (q0a (q0b 0) q0c)) (q0a (q0m (q0a q0j (q0a (q0b 1) (q0a (q0m (q0a q0j (q0a (q0b 2) (q0a (q0m (q0a q0j (q0a q0f q0c))) q0c)))) q0c)))) q0c))))))
theorem mF45:SimF P w K mg base k "meant" nF45 sF45 (q2u t.djoined) g:=
 fun hw hr hx hu hn=>(q0e (q0y (q0l (q1d hu) (q0b 0) q0j (q0u _)) (q0g (q0n (q0m (q0a q0j (q0a (q0b 3) (q0a (q0b 4) q0c)))))) q0s)
 (q0e (q0y (q0l (q1d hu) (q0b 0) q0j (q0u _)) (q0g (q0n (q0m (q0a q0j (q0a (q0b 4) (q0a (q0b 3) q0c)))))) q0s)
 (q0e (q0y (q0l (q1d hu) (q0b 0) q0j (q0u _)) (q0g (q0n (q0h I.c44 hr hx (q0a (q0k hu (q0b 2) q0f) (q0a (q0b 3) (q0a (q0b 4) q0c)))))) q0s)
 (q0g (q0n (q0h I.c44 hr hx (q0a (q0k hu (q0b 1) q0f) (q0a (q0b 4) (q0a (q0b 3) q0c)))))))))
theorem mF46:SimF P w K mg base k "form_and_term" nF46 sF46 (q2h t.dform_and_term t.dmade t.dmeant) g:=
 fun hw hr hx hu hn=>(q0e (q0y (q0l (q1d hu) (q0k hu (q0b 0) q0f) q0j (q0u _)) (q0g (q0n (q0m (q0a (q0k hu (q0b 0) q0f) (q0a (q0k hu (q0b 1) (q0k hu (q0b 0) q0f)) q0c))))) q0s)
 (q0e (q3e (q0h I.c46 hr hx (q0a (q0k hu (q0b 0) q0f) (q0a (q0b 1) q0c))) (q1y 2 rfl (q0r (q0p (i:=2) hn) (q0r (q0p (i:=3) hn) q1p))))
 (q0e (q3e (q0h I.c46 hr hx (q0a (q0k hu (q0b 0) q0f) (q0a (q0b 1) q0c))) (q1y 2 rfl (q0r (q0p (i:=4) hn) (q0r (q0p (i:=5) hn) q1p))))
 (q0e (q3e (q0h I.c22 hr hx (q0a (q0b 2) (q0a (q0b 4) q0c))) (q1y 2 rfl (q0r (q0p (i:=6) hn) (q0r (q0p (i:=7) hn) q1p))))
 (q0g (q0n (q0m (q0a (q0b 7) (q0a (q0h I.c45 hr hx (q0a (q0b 6) (q0a (q0b 2) (q0a (q0b 4) (q0a (q0b 3) (q0a (q0b 5) q0c)))))) q0c)))))))))
theorem mF47:SimF P w K mg base k "meaning_with" nF47 sF47 (q2m t.dform_and_term) g:=
 fun hw hr hx hu hn=>(q0g (q0n (q0k hu (q0h I.c46 hr hx (q0a (q0b 0) (q0a (q0b 1) q0c))) q0f)))
theorem mF48:SimF P w K mg base k "words_of" nF48 sF48 (q3l t.dwords_of) g:=
 fun hw hr hx hu hn=>(q0e (q0y (q0l (q1d hu) (q0k hu (q0b 0) q0f) q0j (q0u _)) (q0g (q0n (q1q (q0a (q0m (q0a (q0k hu (q0b 0) q0f) (q0a (q0k hu (q0b 0) q0f) q0c))) q0c)))) q0s)
 (q0g (q0n (q0q q1h (q0h I.c48 hr hx (q0a (q0k hu (q0b 0) q0f) q0c)) (q0h I.c48 hr hx (q0a (q0k hu (q0b 0) q0f) q0c))))))
theorem mF49:SimF P w K mg base k "unknown" nF49 sF49 (q3w t.dmeaning_with t.dwords_of) g:=
 fun hw hr hx hu hn=>(q0g (q0n (q0h I.c47 hr hx (q0a (q0b 0) (q0a (y0x ["place", "form"] [none,none] rfl (q5u rfl (by decide +kernel) (by decide +kernel) rfl trivial) (q2i (q0h I.c48 hr hx (q0a (q0b 0) q0c))) (fun _ _ _ _ _=>(q1y 2 rfl (q0r (q0p (i:=0) (show(["place", "form"]:List Str).Nodup by decide +kernel)) (q0r (q0p (i:=1) (show(["place", "form"]:List Str).Nodup by decide +kernel)) q1p)))) (fun _ _ _ _ _=>(q0b 0)) (fun _ _ _ _ _=>(q0m (q0a q0j (q0a (q0b 0) (q0a (q0b 1) q0c)))))) q0c)))))
theorem mF50:SimF P w K mg base k "_law_stays" nF50 sF50 (q4x t.dLwords_of t.dformed t.dplain_of t.dunknown) g:=
 fun hw hr hx hu hn=>(q0e (q0y (SimW.t (q2v (q0l (q8z hu) (q0h I.c11 hr hx (q0a (q0b 3) q0c)) (q0h I.c11 hr hx (q0a (q0b 2) q0c)) (q0u _)) (q3d (q0l (q8z hu) (q0h I.c24 hr hx (q0a (q0b 0) (q0a (q0b 1) (q0a (q0b 3) q0c)))) (q0m (q0a q0f (q0a (q1b q1j Z.z4 PySem.boot_len (q0a (q0b 1) q0c)) (q0a (q0b 4) q0c)))) (q0u _))))) (q0g (q0n q6o)) q0s)
 (q0g (q0n (q7i (q1d hu) (q0h I.c42 hr hx (q0a (q0h I.c49 hr hx (q0a (q0b 3) q0c)) q0c)) (q0h I.c42 hr hx (q0a (q0h I.c49 hr hx (q0a (q0b 2) q0c)) q0c)) (q0u _)))))
theorem mF51:SimF P w K mg base k "_law_weight" nF51 sF51 (q4d t.dLwords_of t.dLweight) g:=
 fun hw hr hx hu hn=>(q0e (q0y (q0l (q1d hu) (q0k hu (q0b 0) q0f) q0j (q0u _)) (q0g (q0n q0f)) q0s)
 (q0e (q3e (q0b 0) (q1y 3 rfl (q0r (q0p (i:=1) hn) (q0r (q0p (i:=2) hn) (q0r (q0p (i:=3) hn) q1p)))))
 (q0e (q0o 4 hn (q1b q1j Z.z4 PySem.boot_len (q0a (q0h I.c11 hr hx (q0a (q0k hu (q1q (q0a (q0b 2) (q0a (q0b 3) q0c))) (q3j y4d Z.z2 L2.z8j (q0a (q7i (q9a hu) (q0b 1) (q0m (q0a q0j (q0a q0j q0c))) (by with_unfolding_all rfl)) q0c))) q0c)) q0c)))
 (q0g (q0n (q0q q1h (q0q q1h (q0b 4) (q0h I.c51 hr hx (q0a (q0b 2) q0c))) (q0h I.c51 hr hx (q0a (q0b 3) q0c))))))))
theorem mF52:SimF P w K mg base k "law" nF52 sF52 (q6x t.dLdeck t.dLwords t.dLnext t.dLdrawn_form t.dLchain t.dLwords_of t.dLlone_book t.dformed t.dturns t.dLturned_once t.dLstays t.dLweight) g:=
 fun hw hr hx hu hn=>(q0e (q0o 1 hn (q0h I.c0 hr hx (q0a (q0b 0) q0c)))
 (q0e (q0o 2 hn (q0h I.c4 hr hx (q0a (q0b 1) (q0a (q0q q1h q0f (q0q q1t (q0h I.c1 hr hx (q0a (q0b 1) q0c)) q0f)) q0c))))
 (q0e (q0o 3 hn (q0h I.c7 hr hx (q0a (q0b 1) (q0a (q0b 2) q0c))))
 (q0e (q0o 4 hn (q0h I.c9 hr hx (q0a (q0b 1) (q0a (q0b 2) (q0a (q0b 3) (q0a q0f (q0a (q0q q1h q0f (q0q q1t (q0h I.c1 hr hx (q0a (q0b 1) q0c)) q0f)) q0c)))))))
 (q0e (q0o 5 hn (q0h I.c4 hr hx (q0a (q0b 1) (q0a (q1b q1j Z.z4 PySem.boot_len (q0a (q0h I.c11 hr hx (q0a (q0b 4) q0c)) q0c)) q0c))))
 (q0e (z5q 6 ["_law_place", "_law_other_here", "_law_words_here"] [none,none,some 5] hn rfl (q5u rfl (by decide +kernel) (by decide +kernel) rfl ⟨⟨rfl,rfl,by first|exact Or.inl rfl|exact Or.inr rfl⟩,trivial⟩) (q2i (q0h I.c11 hr hx (q0a (q0b 4) q0c))) (fun _ _ _ _ _=>(q1y 2 rfl (q0r (q0p (i:=0) (show (["_law_place", "_law_other_here", "_law_words_here"]:List Str).Nodup by decide +kernel)) (q0r (q0p (i:=1) (show (["_law_place", "_law_other_here", "_law_words_here"]:List Str).Nodup by decide +kernel)) q1p)))) (fun _ _ _ _ _=>(q0m (q0a (q0k hu (q0b 2) (q0b 0)) (q0a (q0b 1) q0c)))))
 (q0e (q0o 7 hn (q0h I.c13 hr hx (q0a (q0b 2) (q0a (q0b 6) (q0a (q0h I.c4 hr hx (q0a (q0b 1) (q0a q0f q0c))) q0c)))))
 (q0e (q0y (q0l (q8z hu) (q0h I.c24 hr hx (q0a (q0b 7) (q0a (q3j q3u Z.z11 L2.q3v (q0a (q0b 5) q0c)) (q0a (q0b 4) q0c)))) (q0m (q0a q0f (q0a (q1b q1j Z.z4 PySem.boot_len (q0a (q0b 5) q0c)) (q0a (q0b 3) q0c)))) (q0u _)) (q0g (q0n q6o)) q0s)
 (q0e (q6n PassesOwn.leaving rfl (q2i (q0h I.c27 hr hx (q0a (q0b 4) q0c))) (q0p (i:=8) hn) (q0e (q6n PassesOwn.leaving rfl (q2i (q0h I.c28 hr hx (q0a (q0b 8) q0c))) (q0p (i:=9) hn) (q0e (q0y (q5j (q1u (q0h I.c50 hr hx (q0a (q0b 7) (q0a (q3j q3u Z.z11 L2.q3v (q0a (q0b 5) q0c)) (q0a (q0b 4) (q0a (q0b 9) (q0a (q0b 3) q0c)))))))) (q0g (q0n q6o)) q0s)
 (q0g (q0y (q0l y1y (q0h I.c51 hr hx (q0a (q0b 9) q0c)) (q0h I.c51 hr hx (q0a (q0b 8) q0c)) (q0u _)) (q0g (q0n q6o)) q0s))))
 (q0g (q0y (q5j (q1u (q0h I.c50 hr hx (q0a (q0b 7) (q0a (q3j q3u Z.z11 L2.q3v (q0a (q0b 5) q0c)) (q0a (q0b 4) (q0a (q0b 8) (q0a (q0b 3) q0c)))))))) (q0g (q0n q6o)) q0s))))
 (q0g (q0n q6o)))))))))))
end
theorem good{P:Program}{w:World}{K:Frag}{mg:Str->Option Value}{base:Heap}{f:Nat->Addr}{fd:Nat->FuncData}(Z:Sta K mg)(l:Locs K mg f fd):∀k,Fns P w K mg base k (tab k) f fd
 |0=>⟨l.l0.cal q1w,l.l1.cal q1w,l.l2.cal q1w,l.l3.cal q1w,l.l4.cal q1w,l.l5.cal q1w,l.l6.cal q1w,l.l7.cal q1w,l.l8.cal q1w,l.l9.cal q1w,l.l10.cal q1w,l.l11.cal q1w,l.l12.cal q1w,l.l13.cal q1w,l.l14.cal q1w,l.l15.cal q1w,l.l16.cal q1w,l.l17.cal q1w,l.l18.cal q1w,l.l19.cal q1w,l.l20.cal q1w,l.l21.cal q1w,l.l22.cal q1w,l.l23.cal q1w,l.l24.cal q1w,l.l25.cal q1w,l.l26.cal q1w,l.l27.cal q1w,l.l28.cal q1w,l.l29.cal q1w,l.l30.cal q1w,l.l31.cal q1w,l.l32.cal q1w,l.l33.cal q1w,l.l34.cal q1w,l.l35.cal q1w,l.l36.cal q1w,l.l37.cal q1w,l.l38.cal q1w,l.l39.cal q1w,l.l40.cal q1w,l.l41.cal q1w,l.l42.cal q1w,l.l43.cal q1w,l.l44.cal q1w,l.l45.cal q1w,l.l46.cal q1w,l.l47.cal q1w,l.l48.cal q1w,l.l49.cal q1w,l.l50.cal q1w,l.l51.cal q1w,l.l52.cal q1w⟩
 |k+1=>by
  have I:=good (P:=P) (w:=w) (base:=base) Z l k
  exact⟨l.l0.sim (mF0 Z I),l.l1.sim (mF1 Z I),l.l2.sim (mF2 Z I),l.l3.sim (mF3 Z I),l.l4.sim (mF4 Z I),l.l5.sim (mF5 Z I),l.l6.sim (mF6 Z I),l.l7.sim (mF7 Z I),l.l8.sim (mF8 Z I),l.l9.sim (mF9 Z I),l.l10.sim (mF10 Z I),l.l11.sim (mF11 Z I),l.l12.sim (mF12 Z I),l.l13.sim (mF13 Z I),l.l14.sim (mF14 Z I),l.l15.sim (mF15 Z I),l.l16.sim (mF16 Z I),l.l17.sim (mF17 Z I),l.l18.sim (mF18 Z I),l.l19.sim (mF19 Z I),l.l20.sim (mF20 Z I),l.l21.sim (mF21 Z I),l.l22.sim (mF22 Z I),l.l23.sim (mF23 Z I),l.l24.sim (mF24 Z I),l.l25.sim (mF25 Z I),l.l26.sim (mF26 Z I),l.l27.sim (mF27 Z I),l.l28.sim (mF28 Z I),l.l29.sim (mF29 Z I),l.l30.sim (mF30 Z I),l.l31.sim (mF31 Z I),l.l32.sim (mF32 Z I),l.l33.sim (mF33 Z I),l.l34.sim (mF34 Z I),l.l35.sim (mF35 Z I),l.l36.sim (mF36 Z I),l.l37.sim (mF37 Z I),l.l38.sim (mF38 Z I),l.l39.sim (mF39 Z I),l.l40.sim (mF40 Z I),l.l41.sim (mF41 Z I),l.l42.sim (mF42 Z I),l.l43.sim (mF43 Z I),l.l44.sim (mF44 Z I),l.l45.sim (mF45 Z I),l.l46.sim (mF46 Z I),l.l47.sim (mF47 Z I),l.l48.sim (mF48 Z I),l.l49.sim (mF49 Z I),l.l50.sim (mF50 Z I),l.l51.sim (mF51 Z I),l.l52.sim (mF52 Z I)⟩
theorem q4m{P:List Value->Prop}{ps:List Str}(hp:ps.length=1)(h:∀a0,P [a0])(us:List Value)(hl:us.length=ps.length):P us:=by
 rw[hp]at hl
 cases us with|nil=>exact absurd hl (by simp)|cons a r=>cases r with|nil=>exact h _|cons b r=>exact absurd hl (by simp)
theorem q7o{P:List Value->Prop}{ps:List Str}(hp:ps.length=2)(h:∀a0 a1,P [a0,a1])(us:List Value)(hl:us.length=ps.length):P us:=by
 rw[hp]at hl
 cases us with|nil=>exact absurd hl (by simp)|cons a r=>cases r with|nil=>exact absurd hl (by simp)|cons b r=>cases r with|nil=>exact h _ _|cons b r=>exact absurd hl (by simp)
theorem z3x{P:List Value->Prop}{ps:List Str}(hp:ps.length=3)(h:∀a0 a1 a2,P [a0,a1,a2])(us:List Value)(hl:us.length=ps.length):P us:=by
 rw[hp]at hl
 cases us with|nil=>exact absurd hl (by simp)|cons a r=>cases r with|nil=>exact absurd hl (by simp)|cons b r=>cases r with|nil=>exact absurd hl (by simp)|cons b r=>cases r with|nil=>exact h _ _ _|cons b r=>exact absurd hl (by simp)
theorem w0l{P:List Value->Prop}{ps:List Str}(hp:ps.length=4)(h:∀a0 a1 a2 a3,P [a0,a1,a2,a3])(us:List Value)(hl:us.length=ps.length):P us:=by
 rw[hp]at hl
 cases us with|nil=>exact absurd hl (by simp)|cons a r=>cases r with|nil=>exact absurd hl (by simp)|cons b r=>cases r with|nil=>exact absurd hl (by simp)|cons b r=>cases r with|nil=>exact absurd hl (by simp)|cons b r=>cases r with|nil=>exact h _ _ _ _|cons b r=>exact absurd hl (by simp)
theorem y7c{P:List Value->Prop}{ps:List Str}(hp:ps.length=5)(h:∀a0 a1 a2 a3 a4,P [a0,a1,a2,a3,a4])(us:List Value)(hl:us.length=ps.length):P us:=by
 rw[hp]at hl
 cases us with|nil=>exact absurd hl (by simp)|cons a r=>cases r with|nil=>exact absurd hl (by simp)|cons b r=>cases r with|nil=>exact absurd hl (by simp)|cons b r=>cases r with|nil=>exact absurd hl (by simp)|cons b r=>cases r with|nil=>exact absurd hl (by simp)|cons b r=>cases r with|nil=>exact h _ _ _ _ _|cons b r=>exact absurd hl (by simp)
theorem all_mk{l:PySem.W.OpenLaw}{w:World}{K:Frag}{h:Heap}{mg:Str->Option Value}{fa f0 f1 f2 f3 f4 f5 f6 f7 f8 f9 f10 f11 f12 f13 f14 f15 f16 f17 f18 f19 f20 f21 f22 f23 f24 f25 f26 f27 f28 f29 f30 f31 f32 f33 f34 f35 f36 f37 f38 f39 f40 f41 f42 f43 f44 f45 f46 f47 f48 f49 f50 f51 f52:Addr}(X:K.In h)(G:h.Ns mainGlobals mg)(hfa:mg "law" = some (.ref fa))
    (h0:FnIn K "_law_deck" sF0 f0)
    (h1:FnIn K "_law_next" sF1 f1)
    (h2:FnIn K "_law_spelled" sF2 f2)
    (h3:FnIn K "_law_word" sF3 f3)
    (h4:FnIn K "_law_words" sF4 f4)
    (h5:FnIn K "_law_wide" sF5 f5)
    (h6:FnIn K "_law_other" sF6 f6)
    (h7:FnIn K "_law_drawn_form" sF7 f7)
    (h8:FnIn K "_law_tree" sF8 f8)
    (h9:FnIn K "_law_chain" sF9 f9)
    (h10:FnIn K "_law_within" sF10 f10)
    (h11:FnIn K "_law_words_of" sF11 f11)
    (h12:FnIn K "_law_kind_of_form" sF12 f12)
    (h13:FnIn K "_law_lone_book" sF13 f13)
    (h14:FnIn K "is_headed" sF14 f14)
    (h15:FnIn K "nodes_of" sF15 f15)
    (h16:FnIn K "rows_of" sF16 f16)
    (h17:FnIn K "show_form" sF17 f17)
    (h18:FnIn K "forms_of" sF18 f18)
    (h19:FnIn K "is_name" sF19 f19)
    (h20:FnIn K "is_form" sF20 f20)
    (h21:FnIn K "formed_of_word" sF21 f21)
    (h22:FnIn K "made" sF22 f22)
    (h23:FnIn K "formed_of_two" sF23 f23)
    (h24:FnIn K "formed" sF24 f24)
    (h25:FnIn K "turned_at_top" sF25 f25)
    (h26:FnIn K "turned" sF26 f26)
    (h27:FnIn K "turns" sF27 f27)
    (h28:FnIn K "_law_turned_once" sF28 f28)
    (h29:FnIn K "is_to_do" sF29 f29)
    (h30:FnIn K "inner_of" sF30 f30)
    (h31:FnIn K "places" sF31 f31)
    (h32:FnIn K "way_to" sF32 f32)
    (h33:FnIn K "parts_and_fns" sF33 f33)
    (h34:FnIn K "with_bound_ones" sF34 f34)
    (h35:FnIn K "bound_ones" sF35 f35)
    (h36:FnIn K "raised" sF36 f36)
    (h37:FnIn K "put_for" sF37 f37)
    (h38:FnIn K "put_in" sF38 f38)
    (h39:FnIn K "with_inner" sF39 f39)
    (h40:FnIn K "done_at" sF40 f40)
    (h41:FnIn K "steps_of" sF41 f41)
    (h42:FnIn K "plain_of" sF42 f42)
    (h43:FnIn K "kind_of_form" sF43 f43)
    (h44:FnIn K "joined" sF44 f44)
    (h45:FnIn K "meant" sF45 f45)
    (h46:FnIn K "form_and_term" sF46 f46)
    (h47:FnIn K "meaning_with" sF47 f47)
    (h48:FnIn K "words_of" sF48 f48)
    (h49:FnIn K "unknown" sF49 f49)
    (h50:FnIn K "_law_stays" sF50 f50)
    (h51:FnIn K "_law_weight" sF51 f51)
    (h52:FnIn K "law" sF52 f52)
     {t_LETTERS:Tok} {t_LONGEST_NAME:Tok} {t_MOST_BASICS:Tok} {a_SIGNS:Addr} {dd_SIGNS:Option Addr} {n_SIGNS:Nat} {sl_SIGNS:Array (Option Value)} {t_SIGNS_0:Tok} {t_SIGNS_1:Tok} {t_SIGNS_2:Tok} {t_SIGNS_3:Tok} {a_SLASHES:Addr} {dd_SLASHES:Option Addr} {n_SLASHES:Nat} {sl_SLASHES:Array (Option Value)} {t_SLASHES_0:Tok} {t_SLASHES_1:Tok} {C_NoPlace:Addr} {C_NoReading:Addr} {C_NoWord:Addr}
    (gg_LETTERS:PySem.W.nsIn K mainGlobals "LETTERS" = some (some (.str "abcdefghijklmnopqrstuvwxyz" t_LETTERS)))
    (gg_LONGEST_NAME:PySem.W.nsIn K mainGlobals "LONGEST_NAME" = some (some (.int 8 t_LONGEST_NAME)))
    (gg_MOST_BASICS:PySem.W.nsIn K mainGlobals "MOST_BASICS" = some (some (.int 12 t_MOST_BASICS)))
    (gg_SIGNS:PySem.W.nsIn K mainGlobals "SIGNS" = some (some (.ref a_SIGNS)))
    (gl_SIGNS:K.lookup a_SIGNS=some ⟨.type "tuple",dd_SIGNS,.seq #[.str ">" t_SIGNS_0,.str "<" t_SIGNS_1,.str ">>" t_SIGNS_2,.str "<<" t_SIGNS_3] n_SIGNS,sl_SIGNS⟩)
    (gg_SLASHES:PySem.W.nsIn K mainGlobals "SLASHES" = some (some (.ref a_SLASHES)))
    (gl_SLASHES:K.lookup a_SLASHES=some ⟨.type "tuple",dd_SLASHES,.seq #[.str "/" t_SLASHES_0,.str "\\" t_SLASHES_1] n_SLASHES,sl_SLASHES⟩)
    (xa_NoPlace:PySem.W.nsIn K mainGlobals "NoPlace" = some (some (.ref C_NoPlace)))
    (xa_NoReading:PySem.W.nsIn K mainGlobals "NoReading" = some (some (.ref C_NoReading)))
    (xa_NoWord:PySem.W.nsIn K mainGlobals "NoWord" = some (some (.ref C_NoWord)))
    (xe_NoPlace:PySem.W.excIn K C_NoPlace vErr "ValueError.__new__" = true)
    (xe_NoReading:PySem.W.excIn K C_NoReading vErr "ValueError.__new__" = true)
    (z_all:PySem.W.nsIn K mainGlobals "all" = some none)
    (z_bool:PySem.W.nsIn K mainGlobals "bool" = some none)
    (z_int:PySem.W.nsIn K mainGlobals "int" = some none)
    (z_isinstance:PySem.W.nsIn K mainGlobals "isinstance" = some none)
    (z_len:PySem.W.nsIn K mainGlobals "len" = some none)
    (z_list:PySem.W.nsIn K mainGlobals "list" = some none)
    (z_range:PySem.W.nsIn K mainGlobals "range" = some none)
    (z_reversed:PySem.W.nsIn K mainGlobals "reversed" = some none)
    (z_sorted:PySem.W.nsIn K mainGlobals "sorted" = some none)
    (z_str:PySem.W.nsIn K mainGlobals "str" = some none)
    (z_sum:PySem.W.nsIn K mainGlobals "sum" = some none)
    (z_tuple:PySem.W.nsIn K mainGlobals "tuple" = some none)
    : ∃fd:FuncData,(∀(s:Shared)(v:Value),BindsTo s fd ⟨[v],[]⟩ [("_law_script",v)])/\∀base:Heap,K.In base->base.Ns mainGlobals mg->FnOk l.prog w K mg base (CXE l.prog w) 200 fa fd ["_law_script"] (q1a K (tab 200).dlaw):=by
  cases hfa.symm.trans (h52.gl X G)
  have g_LETTERS:GlobV K mg "LETTERS" (.str "abcdefghijklmnopqrstuvwxyz"):=⟨⟨_,.str "abcdefghijklmnopqrstuvwxyz",PySem.W.mg_of X G gg_LETTERS,⟨_,rfl⟩,fun _ _=>rfl⟩⟩
  have g_LONGEST_NAME:GlobV K mg "LONGEST_NAME" (.int 8):=⟨⟨_,.int 8,PySem.W.mg_of X G gg_LONGEST_NAME,⟨_,rfl⟩,fun _ _=>rfl⟩⟩
  have g_MOST_BASICS:GlobV K mg "MOST_BASICS" (.int 12):=⟨⟨_,.int 12,PySem.W.mg_of X G gg_MOST_BASICS,⟨_,rfl⟩,fun _ _=>rfl⟩⟩
  have g_SIGNS:GlobV K mg "SIGNS" (.tup [(.str ">"),(.str "<"),(.str ">>"),(.str "<<")]):=⟨⟨_,.ref a_SIGNS,PySem.W.mg_of X G gg_SIGNS,rfl,fun H φ=>⟨a_SIGNS,[.str ">",.str "<",.str ">>",.str "<<"],rfl,.inr ⟨_,_,_,gl_SIGNS,rfl,rfl,by show 4<=sizeLine;decide,(.cons ⟨_,rfl⟩ (.cons ⟨_,rfl⟩ (.cons ⟨_,rfl⟩ (.cons ⟨_,rfl⟩ .nil))))⟩,⟨_,_,rfl,rfl,⟨_,_,rfl,rfl,⟨_,_,rfl,rfl,⟨_,_,rfl,rfl,rfl⟩⟩⟩⟩⟩⟩⟩
  have g_SLASHES:GlobV K mg "SLASHES" (.tup [(.str "/"),(.str "\\")]):=⟨⟨_,.ref a_SLASHES,PySem.W.mg_of X G gg_SLASHES,rfl,fun H φ=>⟨a_SLASHES,[.str "/",.str "\\"],rfl,.inr ⟨_,_,_,gl_SLASHES,rfl,rfl,by show 2<=sizeLine;decide,(.cons ⟨_,rfl⟩ (.cons ⟨_,rfl⟩ .nil))⟩,⟨_,_,rfl,rfl,⟨_,_,rfl,rfl,rfl⟩⟩⟩⟩⟩
  have x_NoPlace:ExcC K mg "NoPlace" :=⟨⟨C_NoPlace,xa_NoPlace,PySem.W.mg_of X G xa_NoPlace,xe_NoPlace⟩⟩
  have x_NoReading:ExcC K mg "NoReading" :=⟨⟨C_NoReading,xa_NoReading,PySem.W.mg_of X G xa_NoReading,xe_NoReading⟩⟩
  have y_NoWord:Cau K mg "NoWord" []:=⟨⟨.ref C_NoWord,PySem.W.mg_of X G xa_NoWord,(.nil:CauL K (.ref C_NoWord) _)⟩⟩
  obtain⟨d0,L0,b0⟩:=h0.loc (ps:=pF0) X G fun _ _ _ _ _ _=>q4m rfl fun _=>rfl
  obtain⟨d1,L1,b1⟩:=h1.loc (ps:=pF1) X G fun _ _ _ _ _ _=>q4m rfl fun _=>rfl
  obtain⟨d2,L2,b2⟩:=h2.loc (ps:=pF2) X G fun _ _ _ _ _ _=>q7o rfl fun _ _=>rfl
  obtain⟨d3,L3,b3⟩:=h3.loc (ps:=pF3) X G fun _ _ _ _ _ _=>q7o rfl fun _ _=>rfl
  obtain⟨d4,L4,b4⟩:=h4.loc (ps:=pF4) X G fun _ _ _ _ _ _=>q7o rfl fun _ _=>rfl
  obtain⟨d5,L5,b5⟩:=h5.loc (ps:=pF5) X G fun _ _ _ _ _ _=>q4m rfl fun _=>rfl
  obtain⟨d6,L6,b6⟩:=h6.loc (ps:=pF6) X G fun _ _ _ _ _ _=>z3x rfl fun _ _ _=>rfl
  obtain⟨d7,L7,b7⟩:=h7.loc (ps:=pF7) X G fun _ _ _ _ _ _=>q7o rfl fun _ _=>rfl
  obtain⟨d8,L8,b8⟩:=h8.loc (ps:=pF8) X G fun _ _ _ _ _ _=>y7c rfl fun _ _ _ _ _=>rfl
  obtain⟨d9,L9,b9⟩:=h9.loc (ps:=pF9) X G fun _ _ _ _ _ _=>y7c rfl fun _ _ _ _ _=>rfl
  obtain⟨d10,L10,b10⟩:=h10.loc (ps:=pF10) X G fun _ _ _ _ _ _=>q4m rfl fun _=>rfl
  obtain⟨d11,L11,b11⟩:=h11.loc (ps:=pF11) X G fun _ _ _ _ _ _=>q4m rfl fun _=>rfl
  obtain⟨d12,L12,b12⟩:=h12.loc (ps:=pF12) X G fun _ _ _ _ _ _=>q4m rfl fun _=>rfl
  obtain⟨d13,L13,b13⟩:=h13.loc (ps:=pF13) X G fun _ _ _ _ _ _=>z3x rfl fun _ _ _=>rfl
  obtain⟨d14,L14,b14⟩:=h14.loc (ps:=pF14) X G fun _ _ _ _ _ _=>z3x rfl fun _ _ _=>rfl
  obtain⟨d15,L15,b15⟩:=h15.loc (ps:=pF15) X G fun _ _ _ _ _ _=>q7o rfl fun _ _=>rfl
  obtain⟨d16,L16,b16⟩:=h16.loc (ps:=pF16) X G fun _ _ _ _ _ _=>q7o rfl fun _ _=>rfl
  obtain⟨d17,L17,b17⟩:=h17.loc (ps:=pF17) X G fun _ _ _ _ _ _=>q4m rfl fun _=>rfl
  obtain⟨d18,L18,b18⟩:=h18.loc (ps:=pF18) X G fun _ _ _ _ _ _=>q7o rfl fun _ _=>rfl
  obtain⟨d19,L19,b19⟩:=h19.loc (ps:=pF19) X G fun _ _ _ _ _ _=>q4m rfl fun _=>rfl
  obtain⟨d20,L20,b20⟩:=h20.loc (ps:=pF20) X G fun _ _ _ _ _ _=>q4m rfl fun _=>rfl
  obtain⟨d21,L21,b21⟩:=h21.loc (ps:=pF21) X G fun _ _ _ _ _ _=>w0l rfl fun _ _ _ _=>rfl
  obtain⟨d22,L22,b22⟩:=h22.loc (ps:=pF22) X G fun _ _ _ _ _ _=>q7o rfl fun _ _=>rfl
  obtain⟨d23,L23,b23⟩:=h23.loc (ps:=pF23) X G fun _ _ _ _ _ _=>z3x rfl fun _ _ _=>rfl
  obtain⟨d24,L24,b24⟩:=h24.loc (ps:=pF24) X G fun _ _ _ _ _ _=>z3x rfl fun _ _ _=>rfl
  obtain⟨d25,L25,b25⟩:=h25.loc (ps:=pF25) X G fun _ _ _ _ _ _=>q4m rfl fun _=>rfl
  obtain⟨d26,L26,b26⟩:=h26.loc (ps:=pF26) X G fun _ _ _ _ _ _=>q4m rfl fun _=>rfl
  obtain⟨d27,L27,b27⟩:=h27.loc (ps:=pF27) X G fun _ _ _ _ _ _=>q4m rfl fun _=>rfl
  obtain⟨d28,L28,b28⟩:=h28.loc (ps:=pF28) X G fun _ _ _ _ _ _=>q4m rfl fun _=>rfl
  obtain⟨d29,L29,b29⟩:=h29.loc (ps:=pF29) X G fun _ _ _ _ _ _=>q4m rfl fun _=>rfl
  obtain⟨d30,L30,b30⟩:=h30.loc (ps:=pF30) X G fun _ _ _ _ _ _=>q4m rfl fun _=>rfl
  obtain⟨d31,L31,b31⟩:=h31.loc (ps:=pF31) X G fun _ _ _ _ _ _=>q4m rfl fun _=>rfl
  obtain⟨d32,L32,b32⟩:=h32.loc (ps:=pF32) X G fun _ _ _ _ _ _=>q7o rfl fun _ _=>rfl
  obtain⟨d33,L33,b33⟩:=h33.loc (ps:=pF33) X G fun _ _ _ _ _ _=>q4m rfl fun _=>rfl
  obtain⟨d34,L34,b34⟩:=h34.loc (ps:=pF34) X G fun _ _ _ _ _ _=>q7o rfl fun _ _=>rfl
  obtain⟨d35,L35,b35⟩:=h35.loc (ps:=pF35) X G fun _ _ _ _ _ _=>q4m rfl fun _=>rfl
  obtain⟨d36,L36,b36⟩:=h36.loc (ps:=pF36) X G fun _ _ _ _ _ _=>q7o rfl fun _ _=>rfl
  obtain⟨d37,L37,b37⟩:=h37.loc (ps:=pF37) X G fun _ _ _ _ _ _=>z3x rfl fun _ _ _=>rfl
  obtain⟨d38,L38,b38⟩:=h38.loc (ps:=pF38) X G fun _ _ _ _ _ _=>q7o rfl fun _ _=>rfl
  obtain⟨d39,L39,b39⟩:=h39.loc (ps:=pF39) X G fun _ _ _ _ _ _=>z3x rfl fun _ _ _=>rfl
  obtain⟨d40,L40,b40⟩:=h40.loc (ps:=pF40) X G fun _ _ _ _ _ _=>q7o rfl fun _ _=>rfl
  obtain⟨d41,L41,b41⟩:=h41.loc (ps:=pF41) X G fun _ _ _ _ _ _=>q4m rfl fun _=>rfl
  obtain⟨d42,L42,b42⟩:=h42.loc (ps:=pF42) X G fun _ _ _ _ _ _=>q4m rfl fun _=>rfl
  obtain⟨d43,L43,b43⟩:=h43.loc (ps:=pF43) X G fun _ _ _ _ _ _=>q4m rfl fun _=>rfl
  obtain⟨d44,L44,b44⟩:=h44.loc (ps:=pF44) X G fun _ _ _ _ _ _=>z3x rfl fun _ _ _=>rfl
  obtain⟨d45,L45,b45⟩:=h45.loc (ps:=pF45) X G fun _ _ _ _ _ _=>y7c rfl fun _ _ _ _ _=>rfl
  obtain⟨d46,L46,b46⟩:=h46.loc (ps:=pF46) X G fun _ _ _ _ _ _=>q7o rfl fun _ _=>rfl
  obtain⟨d47,L47,b47⟩:=h47.loc (ps:=pF47) X G fun _ _ _ _ _ _=>q7o rfl fun _ _=>rfl
  obtain⟨d48,L48,b48⟩:=h48.loc (ps:=pF48) X G fun _ _ _ _ _ _=>q4m rfl fun _=>rfl
  obtain⟨d49,L49,b49⟩:=h49.loc (ps:=pF49) X G fun _ _ _ _ _ _=>q4m rfl fun _=>rfl
  obtain⟨d50,L50,b50⟩:=h50.loc (ps:=pF50) X G fun _ _ _ _ _ _=>y7c rfl fun _ _ _ _ _=>rfl
  obtain⟨d51,L51,b51⟩:=h51.loc (ps:=pF51) X G fun _ _ _ _ _ _=>q4m rfl fun _=>rfl
  obtain⟨d52,L52,b52⟩:=h52.loc (ps:=pF52) X G fun _ _ _ _ _ _=>q4m rfl fun _=>rfl
  exact⟨d52,fun s v=>.of_eq (b52 [v] rfl),fun base _ _=>(good (f:=fun i=>[f0,f1,f2,f3,f4,f5,f6,f7,f8,f9,f10,f11,f12,f13,f14,f15,f16,f17,f18,f19,f20,f21,f22,f23,f24,f25,f26,f27,f28,f29,f30,f31,f32,f33,f34,f35,f36,f37,f38,f39,f40,f41,f42,f43,f44,f45,f46,f47,f48,f49,f50,f51,fa].getD i fa) (fd:=fun i=>[d0,d1,d2,d3,d4,d5,d6,d7,d8,d9,d10,d11,d12,d13,d14,d15,d16,d17,d18,d19,d20,d21,d22,d23,d24,d25,d26,d27,d28,d29,d30,d31,d32,d33,d34,d35,d36,d37,d38,d39,d40,d41,d42,d43,d44,d45,d46,d47,d48,d49,d50,d51,d52].getD i d0) (⟨PySem.W.mg_none_of X G z_all,PySem.W.mg_none_of X G z_bool,PySem.W.mg_none_of X G z_int,PySem.W.mg_none_of X G z_isinstance,PySem.W.mg_none_of X G z_len,PySem.W.mg_none_of X G z_list,PySem.W.mg_none_of X G z_range,PySem.W.mg_none_of X G z_reversed,PySem.W.mg_none_of X G z_sorted,PySem.W.mg_none_of X G z_str,PySem.W.mg_none_of X G z_sum,PySem.W.mg_none_of X G z_tuple,g_LETTERS,g_LONGEST_NAME,g_MOST_BASICS,g_SIGNS,g_SLASHES,x_NoPlace,x_NoReading,y_NoWord⟩:Sta K mg) ⟨L0,L1,L2,L3,L4,L5,L6,L7,L8,L9,L10,L11,L12,L13,L14,L15,L16,L17,L18,L19,L20,L21,L22,L23,L24,L25,L26,L27,L28,L29,L30,L31,L32,L33,L34,L35,L36,L37,L38,L39,L40,L41,L42,L43,L44,L45,L46,L47,L48,L49,L50,L51,L52⟩ 200).c52.G⟩
theorem walk{l:PySem.W.OpenLaw}{q:Program}{loose:List Str}{XP:(Str->Option Value)->Heap->Prop}{YP:World->Heap->Prop}{d:DefRec}{K:Params->Frag}(hlaw:LawP (tab 200).dlaw)(hn:l.most=some 63)(hdf:d.params.defaults=[])
  (hY:∀(w:World)(h:Heap),YP w h->(K w.params).In h)
  (F:∀(w:World)(mg:Str->Option Value)(fa:Addr)(h:Heap),(K w.params).In h->h.Ns mainGlobals mg->mg d.name=some (.ref fa)->
   ∃fd:FuncData,(∀(s:Shared)(u:Value),BindsTo s fd ⟨[u],[]⟩ [("_law_script",u)])/\∀base:Heap,(K w.params).In base->base.Ns mainGlobals mg->FnOk l.prog w (K w.params) mg base (CXE l.prog w) 200 fa fd ["_law_script"] (q1a (K w.params) (tab 200).dlaw)) :
  PySem.W.WalkO q loose XP YP l.row.toRowW d [] (fun f vs=>PySem.call f vs):=
 L2.y0f (n:=63) (k:=200) (x:= "_law_script") (CX:=fun w=>CXE l.prog w) (sp:=fun w=>q1a (K w.params) (tab 200).dlaw) hn (by decide) hdf ⟨rfl,by decide,by decide⟩ hY F (fun _ H a ns hl hO hS=>x7i hlaw H a ns hl hO hS) fun _ _ _ _ _ hh1=>by obtain⟨_,_,_,_,_,_,_,_,_,_,_,z⟩:=hh1;exact(z)
end
theorem x0n:∀{r:Rd},(∀p∈r.ws,p.2.lv<=5)->r.sm
 |.w i f,h=>h (i,f) (by simp[Rd.ws])
 |.n s l r,h=>⟨x0n fun p hp=>h p (by simp[Rd.ws,hp]),x0n fun p hp=>h p (by simp[Rd.ws,hp])⟩
theorem x1r{bs:List Str}:∀{r:Rd},r.ov bs->∀p∈r.ws,p.2.ov bs
 |.w i f,h,p,hp=>by simp only[Rd.ws,List.mem_singleton]at hp;subst hp;exact h
 |.n s l r,h,p,hp=>by
  simp only[Rd.ws,List.mem_append]at hp
  rcases hp with z|z
  ·exact x1r h.1 p z
  ·exact x1r h.2 p z
def z9y(t u:Tm):Prop:=∃v,Nf v/\Rs t v/\Rs u v
theorem z9y.jn{t u:Tm}(h:z9y t u):Jn t u:=by obtain⟨v,_,a,b⟩:=h;exact⟨v,a,b⟩
theorem z8y{t:Tm}(h:af 1 t):z9y t t:=by obtain⟨v,a,b⟩:=y6w _ t (Nat.le_refl _) h;exact⟨v,b,a,a⟩
theorem y5u{t u w:Tm}(hu:af 1 u)(h:z9y t u)(j:Jn u w):z9y t w:=by
 obtain⟨v,n,a,b⟩:=h
 obtain⟨x,j1,j2⟩:=j
 obtain⟨y,y1,y2⟩:=y6w _ x (Nat.le_refl _) (y8o j1 hu).1
 have:=z0j _ u (Nat.le_refl _) hu v y b n (j1.trans y1) y2
 subst this
 exact⟨v,n,a,j2.trans y1⟩
structure Tof(r:Rd)(n:Int)(g:Fm)(u:Rd):Prop where
 is:u.is 0 n g
 ws:u.ws=r.ws
 same:z9y (r.tt q6j) (u.tt q6j)
theorem Tof.sm{r:Rd}{n:Int}{g:Fm}{u:Rd}(h:Tof r n g u)(hs:r.sm):u.sm:=x0n fun p hp=>by rw[h.ws]at hp;exact z1q hs hp
theorem Tof.lv{r:Rd}{n:Int}{g:Fm}{u:Rd}(h:Tof r n g u):u.lv=r.lv:=by rw[<-q7s,h.ws,q7s]
theorem Tof.once{r:Rd}{n:Int}{g:Fm}{u t:Rd}(h:Tof r n g u)(hs:r.sm)(ht:t∈u.once):Tof r n g t:=by
 have su:=h.sm hs
 refine⟨z0g ht h.is,by rw[z5x ht,h.ws],y5u (z2r h.is su).1 h.same (z5z ht h.is su fun p hp=>⟨q8d _,by rw[q7g];have:=p.2.dp_lv;have:=z1q su hp;omega⟩)⟩
theorem y0k{r:Rd}{n:Int}{g:Fm}(hs:r.sm):∀{l:List Rd}{u:Rd},Chn (u::l)->Tof r n g u->∀t∈u::l,Tof r n g t
 |[],u,_,h,t,ht=>by simp at ht;subst ht;exact h
 |v::l,u,hc,h,t,ht=>by
  rcases List.mem_cons.mp ht with z|z
  ·subst z;exact h
  ·exact y0k hs hc.2 (h.once hs ((z1y u).1 v hc.1)) t z
theorem y9g{ws:List Str}{wq:Nat}{S:q0i}{Q:VC}{chk:q0i->Prop}(hc:chk S)(hw:S[wq]?=some (.lst (ws.map PV.str))):∀(ps:List (Int×Fm))(vs:List (Str×Fm))(σ:Ev.Loc),(∀p∈ps,0<=p.1/\p.1<(ws.length:Int))->(∃j0 j1,σ=[j0,j1,some (.ref wq)])->Q (.ref S.length) (S++[.lst ((vs++ps.map (ky ws)).map pfP)])->
  q8i chk (q4e 2 (q1e (q0z 0) (q1e (q0z 1) q4j))) q2t (wTup (q0d (wBin bIx (wVar 2) (wVar 0)) (q0d (wVar 1) wNil))) Q (ps.map encW) (vs.map pfP) σ S
 |[],vs,σ,hp,_,h=>z0v hc (by simpa using h)
 |p::r,vs,σ,hp,⟨j0,j1,e⟩,h=>by
  subst e
  obtain⟨p0,p1⟩:=hp p (by simp)
  refine q6t hc fun N hN=>?_
  dsimp![encW,hw,q0v hw,x7k p0 p1]
  refine⟨big (by decide),hN _ _ _ ?_⟩
  rw[show vs.map pfP++[PV.tup [PV.str (ky ws p).1,p.2.pv]]=(vs++[ky ws p]).map pfP by simp[pfP,ky]]
  refine y9g hc hw r _ _ (fun q hq=>hp q (by simp[hq])) ⟨_,_,rfl⟩ ?_
  rw[List.append_assoc]
  exact h
theorem x7j{ws:List Str}(nd:ws.Nodup):∀{ps:List (Int×Fm)},(ps.map (·.1)).Nodup->(∀p∈ps,0<=p.1/\p.1<(ws.length:Int))->((ps.map (ky ws)).map (·.1)).Nodup
 |[],_,_=>by simp
 |p::r,h,hp=>by
  rw[List.map_cons,List.nodup_cons]at h
  rw[List.map_cons,List.map_cons,List.nodup_cons]
  refine⟨fun hm=>?_,x7j nd h.2 fun q hq=>hp q (by simp[hq])⟩
  rw[List.map_map]at hm
  obtain⟨q,hq,e⟩:=List.mem_map.mp hm
  obtain⟨p0,p1⟩:=hp p (by simp)
  obtain⟨q0,q1⟩:=hp q (by simp[hq])
  have hpn:p.1.toNat<ws.length:=by omega
  have hqn:q.1.toNat<ws.length:=by omega
  simp only[Function.comp,ky,List.getElem?_eq_getElem hpn,List.getElem?_eq_getElem hqn,Option.getD_some]at e
  have:=(List.getElem_inj nd).mp e
  exact h.1 (List.mem_map.mpr ⟨q,hq,by omega⟩)
theorem z3y(n:Nat):z5i (tab (n+1)).dLnext:=x2c
theorem y2v(n:Nat):z3d (tab (n+1)).dLspelled:=z8v
theorem x7s(n:Nat):y4k (tab (n+2)).dLword:=y4s (z3y n) (y2v n)
theorem x2k(n:Nat):y4j (tab (n+3)).dLwords:=y0a (x7s n)
theorem x8b(n:Nat):x9e (tab (n+1)).dLdeck:=x3o
theorem y9h(n:Nat):y8m (tab n).dLwide n:=z5k (T:=fun n=>(tab n).dLwide) (fun _=>rfl) n
theorem x7w(n:Nat):z5h (tab (n+2)).dLother (n+1):=x1t (z3y n) (y9h (n+1))
theorem x2q(n:Nat):y4o (tab (n+3)).dLdrawn_form:=y3o (z3y (n+1)) (x7w n) (by omega)
theorem up{n k:Nat}(h:k<=n):∃m,n=m+k:=⟨n-k,by omega⟩
theorem z5h.le{sp:Den}{a b:Nat}(h:z5h sp a)(hb:b<=a):z5h sp b:=fun d c b' ws f S E Q h1 h2 h3 h4 h5 h6=>h d c b' ws f S E Q h1 h2 h3 h4 h5 (Nat.le_trans h6 hb)
theorem y2x(n:Nat)(h:20<=n):z5i (tab n).dLnext:=by obtain⟨m,rfl⟩:=up h;exact z3y (m+19)
theorem x7v(n:Nat)(h:20<=n):z5h (tab n).dLother 18:=by obtain⟨m,rfl⟩:=up h;exact(x7w (m+18)).le (by omega)
theorem x2l(n:Nat)(h:20<=n):y8m (tab n).dLwide 18:=fun f hf=>y9h n f (by omega)
theorem x7u:∀n m,m+20<=n->1<=m->z5f (tab n).dLtree m:=z1x (T:=fun n=>(tab n).dLtree) (N:=fun n=>(tab n).dLnext) (O:=fun n=>(tab n).dLother) (W:=fun n=>(tab n).dLwide) (fun _=>rfl) y2x x7v x2l
theorem k_wi(n:Nat)(h:n<=1000):WiD (tab (n+1)).dLwithin n:=x0c (T:=fun n=>(tab n).dLwithin) (fun _=>rfl) n h
theorem k_kf(n:Nat):y8q (tab n).dkind_of_form n:=z2s (T:=fun n=>(tab n).dkind_of_form) (fun _=>rfl) n
theorem k_lk(n:Nat):y8q (tab n).dLkind_of_form n:=z2s (T:=fun n=>(tab n).dLkind_of_form) (fun _=>rfl) n
theorem y2y(n:Nat)(h:20<=n):y8p (tab n).dmade:=by obtain⟨m,rfl⟩:=up h;exact x2f
theorem x2p(n:Nat)(h:20<=n):MeantD (tab n).dmeant 10:=by
 obtain⟨m,rfl⟩:=up h
 exact y6y (fun z f g S E Q hd h=>y3a (k_kf (m+18)) (by omega) h)
theorem k_ft(L:Int×Fm->PV):∀n m,m+21<=n->FtD L (tab n).dform_and_term m:=x3e (T:=fun n=>(tab n).dform_and_term) (M:=fun n=>(tab n).dmade) (N:=fun n=>(tab n).dmeant) (fun _=>rfl) y2y x2p
theorem k_wo(n:Nat)(h:n<=1000):WoD (tab (n+1)).dwords_of n:=y9z (T:=fun n=>(tab n).dwords_of) (fun _=>rfl) n h
theorem WoD.le{sp:Den}{a b:Nat}(h:WoD sp a)(hb:b<=a):WoD sp b:=fun r hr=>h r (by omega)
theorem WiD.le{sp:Den}{a b:Nat}(h:WiD sp a)(hb:b<=a):WiD sp b:=fun r hr=>h r (by omega)
theorem k_lw(n:Nat)(h:20<=n)(h2:n<=900):WoD (tab (n+1)).dLwords_of 10:=by
 obtain⟨m,rfl⟩:=up h
 exact w0h ((k_wi (m+19) (by omega)).le (by omega))
theorem x2r:∀n m,m+21<=n->1<=m->z5f (tab n).dLchain m:=z0w (C:=fun n=>(tab n).dLchain) (N:=fun n=>(tab n).dLnext) (T:=fun n=>(tab n).dLtree) (fun _=>rfl) y2x x7u
theorem k_un:UnQ (tab 198).dunknown:=x4d (sf:=(tab 196).dform_and_term) ((k_wo 196 (by omega)).le (by omega)) (fun L=>k_ft L 196 10 (by omega)) rfl
theorem y2w(n:Nat):z8o (tab (n+1)).dparts_and_fns:=y6q
theorem x7t(n:Nat):WboD (tab (n+2)).dwith_bound_ones:=x3z (y2w n)
theorem k_bo(n:Nat):BoD (tab (n+2)).dbound_ones:=w1h (y2w n)
theorem y7j(n:Nat):z6z (tab (n+3)).draised:=y1h (x7t n) (k_bo n)
theorem y7k(n:Nat):z7a (tab (n+4)).dput_for:=y1i (y7j n)
theorem x2n(n:Nat):y4m (tab (n+5)).dput_in:=y5z (x7t (n+2)) (y7k n) (k_bo (n+2))
theorem w0n(n:Nat):WayD (tab (n+2)).dway_to:=x4b (y7m)
theorem x8a(n:Nat):x3x (tab (n+6)).ddone_at:=x3k (w0n (n+3)) (fun _ _ _ _ _ _ h=>x0k h) (x2n n) (fun _ _ _ _ _ _ h1 h2=>y0c h1 h2)
theorem w0q(n:Nat):PlsD (tab (n+2)).dplaces:=x5o y5d w0x
theorem x2o(n:Nat):PlnD (tab (n+8)).dplain_of:=x5p (y5h (w0q (n+4)) (x8a n))
theorem k_hd(n:Nat):HdD (tab (n+1)).dis_headed:=w0z
theorem x7y(n:Nat):IsfD (tab (n+2)).dis_form:=x8e (k_hd n) (fun z S E Q hz h=>z6o hz h)
theorem w0p:ShoD (tab 195).dshow_form 5:=fun f hn hl=>z7j (T:=fun n=>(tab (n+95)).dshow_form) (fun _=>rfl) 100 (by decide) f hn (by omega)
theorem w0u:FosD (tab 196).dforms_of:=y9k y1d w0p
theorem w0s:FowD (tab 197).dformed_of_word:=y9i w0u (x7y 194)
theorem w0t:FotD (tab 197).dformed_of_two:=y9j (y2y 196 (by decide))
theorem w0v:FmdD (tab 198).dformed:=y9l (y9d (k_hd 195)) w0s w0t
theorem x7z:FmdD (tab 199).dformed:=y9l (sn:=(tab 198).dnodes_of) (y9d (k_hd 196)) (y9i (sf:=(tab 197).dforms_of) (y9k (sr:=(tab 196).drows_of) y1d (fun f hn hl=>z7j (T:=fun n=>(tab (n+96)).dshow_form) (fun _=>rfl) 100 (by decide) f hn (by omega))) (x7y 195)) (y9j (y2y 197 (by decide)))
theorem w0o:StyD (tab 199).dLstays:=x4s (k_lw 197 (by decide) (by decide)) w0v (x2o 190) k_un
theorem w0m:WgtD (tab 199).dLweight 10:=y0e (T:=fun n=>(tab n).dLweight) (W:=fun n=>(tab n).dLwords_of) (fun _=>rfl) (fun n h h9=>by obtain⟨m,rfl⟩:∃m,n=m+1:=⟨n-1,by omega⟩;exact k_lw m (by omega) (by omega)) 199 10 (by omega) (by omega) (by omega)
theorem w0r:LbkD (tab 199).dLlone_book:=x7h (fun f hf=>k_lk 198 f (by omega))
theorem x7x(n:Nat)(h:n<=1000):x9c (tab (n+1)).dLturned_once n:=z5y (T:=fun n=>(tab n).dLturned_once) (fun _=>rfl) n h
theorem k_tn(n:Nat):TnD (tab (n+1)).dturned n:=z0a (T:=fun n=>(tab n).dturned) (A:=fun n=>(tab n).dturned_at_top) (fun _=>rfl) (fun _=>x3p) n
theorem x2m(n:Nat):y9s (tab (n+2)).dturns n:=y4y (k_tn n)
theorem law_ok:LawP (tab 200).dlaw:=by
 intro ns hns
 have hdeck:=x8b 198
 have hwords:=x2k 196
 have hnext:=z3y 198
 have hdrawn:=x2q 196
 have hchain:=x2r 199
 have hlw:=k_lw 198 (by decide) (by decide)
 have hlbk:=w0r
 have hfmd:=x7z
 have hturns:=x2m 197
 have honce:=x7x 198 (by omega)
 have hsty:=w0o
 have hwgt:=w0m
 show fnP 1 10 (q6x (tab 199).dLdeck (tab 199).dLwords (tab 199).dLnext (tab 199).dLdrawn_form (tab 199).dLchain (tab 199).dLwords_of (tab 199).dLlone_book (tab 199).dformed (tab 199).dturns (tab 199).dLturned_once (tab 199).dLstays (tab 199).dLweight) _ _ _ _
 generalize (tab 199).dLdeck=s1,(tab 199).dLwords=s2,(tab 199).dLnext=s3,(tab 199).dLdrawn_form=s4,(tab 199).dLchain=s5,(tab 199).dLwords_of=s6,(tab 199).dLlone_book=s7,(tab 199).dformed=s8,(tab 199).dturns=s9,(tab 199).dLturned_once=s10,(tab 199).dLstays=s11,(tab 199).dLweight=s12 at *
 refine⟨rfl,?_⟩
 unfold q6x
 refine seqI fun K hK=>?_
 dsimp![true_and]
 refine hdeck ns _ _ _ hns fun d c S1 hd hx _ _=>hK _ _ ?_
 clear hK hx
 refine seqI fun K hK=>?_
 dsimp![true_and]
 refine hnext d c _ _ _ hd fun n1 S2 n10 n11 hd2 hx2=>?_
 dsimp![true_and]
 refine⟨by decide,?_⟩
 obtain⟨m,hm,hm1,hm2⟩:∃m:Nat,2+n1 % 2=(m:Int)/\2<=m/\m<=3:=⟨(2+n1 % 2).toNat,by omega,by omega,by omega⟩
 rw[hm]
 refine hwords d c m _ _ _ hd2 (by omega) fun b bs S3 hbs hbl hna _ hb hd3 hx3=>hK _ _ ?_
 clear hK
 have hne:bs≠[]:=fun z=>by rw[z]at hbl;simp at hbl;omega
 have nb:b≠d/\b≠c:=by
  have:=y7w hd2
  omega
 refine seqI fun K hK=>?_
 dsimp![true_and]
 refine hdrawn d c b bs _ _ _ hd3 hbs hne nb.1 nb.2 fun f S4 hf hov hd4 hx4=>hK _ _ ?_
 clear hK
 have hbs4:=hx4.get hbs (by simp;exact nb)
 refine seqI fun K hK=>?_
 dsimp![true_and]
 refine hnext d c _ _ _ hd4 fun n2 S5 n20 n21 hd5 hx5=>?_
 have hbs5:=hx5.get hbs4 (by simp;exact nb)
 dsimp![true_and]
 refine⟨by decide,?_⟩
 obtain⟨k,hk,hk1,hk8⟩:∃k:Nat,1+n2 % 7=(k:Int)/\1<=k/\k<=7:=⟨(1+n2 % 7).toNat,by omega,by omega,by omega⟩
 rw[hk]
 refine hchain k (by omega) hk1 d c b bs f 0 _ _ _ hd5 hbs5 hne nb.1 nb.2 (by omega) (by omega) hov fun r S6 hrl hsm his hro hd6 hx6=>hK _ _ ?_
 clear hK
 have hbs6:=hx6.get hbs5 (by simp;exact nb)
 clear hd hd2 hd3 hd4 hd5 hbs hbs4 hbs5 hx2 hx3 hx4 hx5 hx6
 have hwl:=q7s r
 rw[Int.zero_add]at his
 obtain⟨_,win,wnd⟩:=y4r his
 have hdl6:=y7w hd6
 refine seqI fun K hK=>?_
 dsimp![true_and]
 refine hlw r (by omega) _ _ _ fun q1 S7 hq0 hq1 hx7=>?_
 have hd7:=hd6.ex hx7 (by simp) (by simp)
 have hbs7:=hx7.get hbs6 (by simp)
 dsimp![q0v hq1,List.length_map]
 rw[hwl,hrl]
 refine hwords d c k _ _ _ hd7 (by omega) fun wq ws S8 hws hwsl hwn hwnd hwq hd8 hx8=>hK _ _ ?_
 clear hK
 have hbs8:=hx8.get hbs7 (by simp;exact nb)
 have hdl7:=y7w hd7
 have nw:wq≠d/\wq≠c:=by omega
 have hvi:∀p∈r.ws,0<=p.1/\p.1<(ws.length:Int):=fun p hp=>by have:=win p hp;omega
 refine seqI fun K hK=>?_
 dsimp![true_and]
 refine hlw r (by omega) _ _ _ fun q2 S9 hq20 hq2 hx9=>?_
 have hd9:=hd8.ex hx9 (by simp) (by simp)
 have hbs9:=hx9.get hbs8 (by simp)
 have hws9:=hx9.get hws (by simp)
 dsimp![q0v hq2]
 refine⟨by rw[List.length_map];exact big (by omega),?_⟩
 refine y9g (q0v hq2) hws9 r.ws [] _ hvi ⟨_,_,rfl⟩ (hK _ _ ?_)
 clear hK
 rw[List.nil_append]
 have hks:=q1g S9 (.lst ((r.ws.map (ky ws)).map pfP))
 have hd10:=hd9.ex (Ex.new [] S9 [SO.lst ((r.ws.map (ky ws)).map pfP)]) (by simp) (by simp)
 have hbs10:=q1m hbs9 [SO.lst ((r.ws.map (ky ws)).map pfP)]
 have hws10:=q1m hws9 [SO.lst ((r.ws.map (ky ws)).map pfP)]
 have hdl9:=y7w hd9
 have lb9:=q1l hbs9
 have lw9:=q1l hws9
 generalize hqk:S9.length=qk at hks hdl9 lb9 lw9 ⊢
 generalize hSS:S9++[SO.lst ((r.ws.map (ky ws)).map pfP)]=S10 at hks hd10 hbs10 hws10 ⊢
 have lk10:=q1l hks
 have nk:qk≠d/\qk≠c:=by omega
 refine seqI fun K hK=>?_
 dsimp![true_and]
 refine hwords d c 20 _ _ _ hd10 (by omega) fun pl pool S11 hpl hpll _ _ hpl0 hd11 hx11=>?_
 have hbs11:=hx11.get hbs10 (by simp;exact nb)
 have hws11:=hx11.get hws10 (by simp;exact nw)
 have hks11:=hx11.get hks (by simp;exact nk)
 have lb10:=q1l hbs10
 have lw10:=q1l hws10
 have hkd:∀p∈r.ws.map (ky ws),p.2.dp<=10:=fun p hp=>by
  obtain⟨p',hp',rfl⟩:=List.mem_map.mp hp
  have:=z1q hsm hp'
  have:=p'.2.dp_lv
  show p'.2.dp<=10
  omega
 refine hlbk b pl qk bs pool (r.ws.map (ky ws)) _ _ _ hbs11 (by omega) hks11 (by rw[List.length_map];omega) hpl hpll (by omega) (by omega) hkd fun x y tr S12 htr hx12=>hK _ _ ?_
 clear hK
 have hws12:=hx12.get hws11 (by simp;omega)
 have gc:∀u:Rd,u.ws=r.ws->GC tr ws u:=fun u hu=>by
  have trl:tr.length=r.ws.length:=by rw[<-List.length_map (f:=(·.1)) (as:=tr),htr,List.length_map]
  refine⟨?_,by omega,fun p hp=>?_⟩
  ·rw[show tr.map (·.1.1)=(tr.map (·.1)).map (·.1) by rw[List.map_map];rfl,htr]
   exact x7j hwnd wnd hvi
  ·rw[hu]at hp
   exact⟨(hvi p hp).1,(hvi p hp).2,by rw[htr];exact List.mem_map.mpr ⟨p,hp,rfl⟩,z1q hsm hp,x1s hna (x1r hro p hp)⟩
 have hkw:(k:Int)=((ws.length:Nat):Int):=by rw[hwsl]
 rw[hkw]at his
 have p3:3<=sizeLine:=big (by decide)
 have fd:=z4j his hsm
 have tr0:Tof r (ws.length:Nat) f r:=⟨his,rfl,z8y (z2r his hsm).1⟩
 have nr:nrfs [PV.int 0,PV.int (ws.length:Nat),f.pv]=true:=by simp only[nrfs,nrf,z0i,Bool.and_self]
 refine seqI fun K hK=>?_
 dsimp![q0v hws12]
 refine hfmd x y tr ws r _ _ f _ _ _ (gc r rfl) his hsm (by omega) (by omega) fun S13 hx13=>?_
 have hws13:=hx13.get hws12 (by simp)
 dsimp![triP,q0v hws13,List.length_map]
 rw[q4i _ nr,if_neg (by decide)]
 refine⟨p3,⟨by simpa[nrf]using nr,by simp only[dep,deps,q7g];omega⟩,hK _ _ ?_⟩
 clear hK
 obtain⟨l,hch,-⟩:=y4b r.ms r (Nat.le_refl _)
 have htof:∀u∈r::l,Tof r (ws.length:Nat) f u:=y0k hsm hch tr0
 refine seqI fun K hK=>?_
 dsimp![true_and]
 refine hturns r l hch (by omega) (by omega) _ _ _ fun q3 S14 hq30 hq3 hx14=>?_
 have hws14:=hx14.get hws13 (by simp)
 dsimp![q0v hq3]
 refine forI (fun rest σ S15=>∃(ts:List Rd)(j8 j9:Option PV),rest=ts.map Rd.pv/\(∀t∈ts,t∈r::l)/\σ=[some (PV.frl (List.map PV.int ns)),some (PV.ref d),some (PV.ref b),some f.pv,some r.pv,some (.ref wq),some (.ref qk),some (bkP x y tr),j8,j9]/\S15[q3]?=some (.lst ((r::l).map Rd.pv))/\S15[wq]?=some (.lst (ws.map PV.str))) ?_ ?_ _ _ _ ⟨r::l,none,none,rfl,fun t ht=>ht,rfl,hq3,hws14⟩
 ·rintro σ S15 ⟨ts,j8,j9,_,_,rfl,k1,_⟩
  refine⟨q0v k1,hK _ _ ?_⟩
  dsimp![true_and]
 ·rintro z rest σ S15 ⟨ts,j8,j9,hr,hin,rfl,k1,k2⟩ N hN
  obtain⟨u,ts,rfl⟩:∃p r,ts=p::r:=by
   cases ts with
   |nil=>simp at hr
   |cons a b=>exact⟨a,b,rfl⟩
  simp only[List.map_cons,List.cons.injEq]at hr
  obtain⟨rfl,rfl⟩:=hr
  refine⟨q0v k1,?_⟩
  have hu:=htof u (hin u (by simp))
  have hul:=hu.lv
  have hus:=hu.sm hsm
  dsimp![true_and]
  refine seqI fun K2 hK2=>?_
  dsimp![true_and]
  refine honce u (by omega) _ _ _ fun q4 S16 hq40 hq4 hx16=>?_
  have m1:=hx16.get k1 (by simp)
  have m2:=hx16.get k2 (by simp)
  dsimp![q0v hq4]
  refine forI (fun rest σ S17=>∃(vs:List Rd)(j9:Option PV),rest=vs.map Rd.pv/\(∀t∈vs,t∈u.once)/\σ=[some (PV.frl (List.map PV.int ns)),some (PV.ref d),some (PV.ref b),some f.pv,some r.pv,some (.ref wq),some (.ref qk),some (bkP x y tr),some u.pv,j9]/\S17[q4]?=some (.lst (u.once.map Rd.pv))/\S17[q3]?=some (.lst ((r::l).map Rd.pv))/\S17[wq]?=some (.lst (ws.map PV.str))) ?_ ?_ _ _ _ ⟨u.once,_,rfl,fun t ht=>ht,rfl,hq4,m1,m2⟩
  ·rintro σ S17 ⟨vs,j9,_,_,rfl,a1,a2,a3⟩
   refine⟨q0v a1,hK2 _ _ ?_⟩
   dsimp![q0v a3]
   refine hsty x y tr ws r u f _ _ _ (gc u hu.ws) his hu.is hsm hus hu.ws (by omega) (by omega) (by omega) hu.same.jn fun S18 x18=>?_
   dsimp![true_and]
   exact hN _ _ ⟨ts,_,_,rfl,fun t ht=>hin t (by simp[ht]),rfl,x18.get a2 (by simp),x18.get a3 (by simp)⟩
  ·rintro z rest σ S17 ⟨vs,j9,hr,hin2,rfl,a1,a2,a3⟩ N2 hN2
   obtain⟨v,vs,rfl⟩:∃p r,vs=p::r:=by
    cases vs with
    |nil=>simp at hr
    |cons a b=>exact⟨a,b,rfl⟩
   simp only[List.map_cons,List.cons.injEq]at hr
   obtain⟨rfl,rfl⟩:=hr
   refine⟨q0v a1,?_⟩
   have hvo:=hin2 v (by simp)
   have hv:=hu.once hsm hvo
   have hvl:=hv.lv
   have hms:=(z2j hvo).1
   dsimp![true_and]
   refine seqI fun K3 hK3=>?_
   dsimp![q0v a3]
   refine hsty x y tr ws r v f _ _ _ (gc v hv.ws) his hv.is hsm (hv.sm hsm) hv.ws (by omega) (by omega) (by omega) hv.same.jn fun S18 x18=>?_
   dsimp![true_and]
   refine hK3 _ _ ?_
   clear hK3
   dsimp![true_and]
   refine hwgt v (by omega) _ _ _ fun S19 x19=>?_
   refine hwgt u (by omega) _ _ _ fun S20 x20=>?_
   dsimp![true_and]
   rw[if_neg (by omega)]
   have xx:=(x18.trans x19).trans x20
   exact hN2 _ _ ⟨vs,_,rfl,fun t ht=>hin2 t (by simp[ht]),rfl,xx.get a1 (by simp),xx.get a2 (by simp),xx.get a3 (by simp)⟩
end My
open PySem PySem.W PyProof.Rows
def PySem.W.Fast.tw15630285658603421796:Unit:=()
def PySem.W.Fast.tw17919862175443431509:Unit:=()
def PySem.W.Fast.tw6370557365861390906:Unit:=()
def PySem.W.Fast.tw11821307849558377634:Unit:=()
def PySem.W.Fast.tw3664563422344054704:Unit:=()
def PySem.W.Fast.tw6547948872839656921:Unit:=()
def PySem.W.Fast.tw18324913210746291948:Unit:=()
def PySem.W.Fast.tw13588336950720397518:Unit:=()
def PySem.W.Fast.tw315447520367905987:Unit:=()
def PySem.W.Fast.tw3104379425401627837:Unit:=()
def PySem.W.Fast.tw5916314602891558676:Unit:=()
def PySem.W.Fast.tw2692938074897933255:Unit:=()
def PySem.W.Fast.tw3308704966936064583:Unit:=()
def PySem.W.Fast.tw2753744419151324242:Unit:=()
def PySem.W.Fast.tw15483531784191292361:Unit:=()
def PySem.W.Fast.tw15379313047524259904:Unit:=()
def PySem.W.Fast.tw12904803603559583615:Unit:=()
def PySem.W.Fast.tw14784116092309685836:Unit:=()
def PySem.W.Fast.tw14267643305876133005:Unit:=()
def PySem.W.Fast.tw13106245652299393957:Unit:=()
def PySem.W.Fast.tw17844553946825124860:Unit:=()
def PySem.W.Fast.tw2422196100495128911:Unit:=()
def PySem.W.Fast.tw2403492869123720568:Unit:=()
def PySem.W.Fast.tw1665371723700868176:Unit:=()
def PySem.W.Fast.tw5021782663220755937:Unit:=()
def PySem.W.Fast.tw17228054215935883960:Unit:=()
def PySem.W.Fast.tw13936593490032004498:Unit:=()
def PySem.W.Fast.tw513176891901497820:Unit:=()
def PySem.W.Fast.tw7581078340291675156:Unit:=()
def PySem.W.Fast.tw2720580607458210640:Unit:=()
def PySem.W.Fast.tw14899243824431527625:Unit:=()
def PySem.W.Fast.tw16641682027949217927:Unit:=()
def PySem.W.Fast.tw12484020562676355513:Unit:=()
def PySem.W.Fast.tw6292314482095007961:Unit:=()
def PySem.W.Fast.tw3859514752665429013:Unit:=()
def PySem.W.Fast.tw5829074683484632083:Unit:=()
def PySem.W.Fast.tw12003705626075721009:Unit:=()
def PySem.W.Fast.tw15482436889127179928:Unit:=()
def PySem.W.Fast.tw6454250704166168434:Unit:=()
def PySem.W.Fast.tw2575360726969450689:Unit:=()
def PySem.W.Fast.tw10512904753467914743:Unit:=()
def PySem.W.Fast.tw4563476567497359460:Unit:=()
def PySem.W.Fast.tw9855849967842727706:Unit:=()
def PySem.W.Fast.tw15355149737114994001:Unit:=()
def PySem.W.Fast.tw14179017748876444734:Unit:=()
def PySem.W.Fast.tw798312099897288524:Unit:=()
def PySem.W.Fast.tw12574532078398631234:Unit:=()
def PySem.W.Fast.tw6648243384551391629:Unit:=()
def PySem.W.Fast.tw18356683914429072093:Unit:=()
def PySem.W.Fast.tw12584555027390719532:Unit:=()
def PySem.W.Fast.tw15122917747474618821:Unit:=()
def PySem.W.Fast.tw10431367755371783232:Unit:=()
def PySem.W.Fast.tw2522786733229500911:Unit:=()
set_option maxRecDepth 100000 in
set_option maxHeartbeats 0 in
theorem PySem.Challenge.cw_slashwise_k72_whole_what_stays_by_turns_holds : PySem.Challenge.rw_slashwise_k72_whole_what_stays_by_turns.Holds := by
 w_on; o_law; k_head; (case hw => w_witness2)
 k_fill
 refine My.walk (l := PySem.Challenge.rw_slashwise_k72_whole_what_stays_by_turns) My.law_ok rfl rfl (fun w h Y => PySem.W.kIn_of Y) ?F
 case F =>
  intro w mg fa h KX G hmg
  refine' My.all_mk KX G hmg (.mk ?a0 ?l0 ?c0 ?k0) (.mk ?a1 ?l1 ?c1 ?k1) (.mk ?a2 ?l2 ?c2 ?k2) (.mk ?a3 ?l3 ?c3 ?k3) (.mk ?a4 ?l4 ?c4 ?k4) (.mk ?a5 ?l5 ?c5 ?k5) (.mk ?a6 ?l6 ?c6 ?k6) (.mk ?a7 ?l7 ?c7 ?k7) (.mk ?a8 ?l8 ?c8 ?k8) (.mk ?a9 ?l9 ?c9 ?k9) (.mk ?a10 ?l10 ?c10 ?k10) (.mk ?a11 ?l11 ?c11 ?k11) (.mk ?a12 ?l12 ?c12 ?k12) (.mk ?a13 ?l13 ?c13 ?k13) (.mk ?a14 ?l14 ?c14 ?k14) (.mk ?a15 ?l15 ?c15 ?k15) (.mk ?a16 ?l16 ?c16 ?k16) (.mk ?a17 ?l17 ?c17 ?k17) (.mk ?a18 ?l18 ?c18 ?k18) (.mk ?a19 ?l19 ?c19 ?k19) (.mk ?a20 ?l20 ?c20 ?k20) (.mk ?a21 ?l21 ?c21 ?k21) (.mk ?a22 ?l22 ?c22 ?k22) (.mk ?a23 ?l23 ?c23 ?k23) (.mk ?a24 ?l24 ?c24 ?k24) (.mk ?a25 ?l25 ?c25 ?k25) (.mk ?a26 ?l26 ?c26 ?k26) (.mk ?a27 ?l27 ?c27 ?k27) (.mk ?a28 ?l28 ?c28 ?k28) (.mk ?a29 ?l29 ?c29 ?k29) (.mk ?a30 ?l30 ?c30 ?k30) (.mk ?a31 ?l31 ?c31 ?k31) (.mk ?a32 ?l32 ?c32 ?k32) (.mk ?a33 ?l33 ?c33 ?k33) (.mk ?a34 ?l34 ?c34 ?k34) (.mk ?a35 ?l35 ?c35 ?k35) (.mk ?a36 ?l36 ?c36 ?k36) (.mk ?a37 ?l37 ?c37 ?k37) (.mk ?a38 ?l38 ?c38 ?k38) (.mk ?a39 ?l39 ?c39 ?k39) (.mk ?a40 ?l40 ?c40 ?k40) (.mk ?a41 ?l41 ?c41 ?k41) (.mk ?a42 ?l42 ?c42 ?k42) (.mk ?a43 ?l43 ?c43 ?k43) (.mk ?a44 ?l44 ?c44 ?k44) (.mk ?a45 ?l45 ?c45 ?k45) (.mk ?a46 ?l46 ?c46 ?k46) (.mk ?a47 ?l47 ?c47 ?k47) (.mk ?a48 ?l48 ?c48 ?k48) (.mk ?a49 ?l49 ?c49 ?k49) (.mk ?a50 ?l50 ?c50 ?k50) (.mk ?a51 ?l51 ?c51 ?k51) (.mk ?a52 ?l52 ?c52 ?k52) ?gg_LETTERS ?gg_LONGEST_NAME ?gg_MOST_BASICS ?gg_SIGNS ?gl_SIGNS ?gg_SLASHES ?gl_SLASHES ?xa_NoPlace ?xa_NoReading ?xa_NoWord ?xe_NoPlace ?xe_NoReading ?z_all ?z_bool ?z_int ?z_isinstance ?z_len ?z_list ?z_range ?z_reversed ?z_sorted ?z_str ?z_sum ?z_tuple
  (case a0 | l0 | c0 | k0 | a1 | l1 | c1 | k1 | a2 | l2 | c2 | k2 | a3 | l3 | c3 | k3 | a4 | l4 | c4 | k4 | a5 | l5 | c5 | k5 | a6 | l6 | c6 | k6 | a7 | l7 | c7 | k7 | a8 | l8 | c8 | k8 | a9 | l9 | c9 | k9 | a10 | l10 | c10 | k10 | a11 | l11 | c11 | k11 | a12 | l12 | c12 | k12 | a13 | l13 | c13 | k13 | a14 | l14 | c14 | k14 | a15 | l15 | c15 | k15 | a16 | l16 | c16 | k16 | a17 | l17 | c17 | k17 | a18 | l18 | c18 | k18 | a19 | l19 | c19 | k19 | a20 | l20 | c20 | k20 | a21 | l21 | c21 | k21 | a22 | l22 | c22 | k22 | a23 | l23 | c23 | k23 | a24 | l24 | c24 | k24 | a25 | l25 | c25 | k25 | a26 | l26 | c26 | k26 | a27 | l27 | c27 | k27 | a28 | l28 | c28 | k28 | a29 | l29 | c29 | k29 | a30 | l30 | c30 | k30 | a31 | l31 | c31 | k31 | a32 | l32 | c32 | k32 | a33 | l33 | c33 | k33 | a34 | l34 | c34 | k34 | a35 | l35 | c35 | k35 | a36 | l36 | c36 | k36 | a37 | l37 | c37 | k37 | a38 | l38 | c38 | k38 | a39 | l39 | c39 | k39 | a40 | l40 | c40 | k40 | a41 | l41 | c41 | k41 | a42 | l42 | c42 | k42 | a43 | l43 | c43 | k43 | a44 | l44 | c44 | k44 | a45 | l45 | c45 | k45 | a46 | l46 | c46 | k46 | a47 | l47 | c47 | k47 | a48 | l48 | c48 | k48 | a49 | l49 | c49 | k49 | a50 | l50 | c50 | k50 | a51 | l51 | c51 | k51 | a52 | l52 | c52 | k52 | gg_LETTERS | gg_LONGEST_NAME | gg_MOST_BASICS | gg_SIGNS | gl_SIGNS | gg_SLASHES | gl_SLASHES | xa_NoPlace | xa_NoReading | xa_NoWord => k_is)
  (case xe_NoPlace | xe_NoReading => k_exc)
  (case z_all | z_bool | z_int | z_isinstance | z_len | z_list | z_range | z_reversed | z_sorted | z_str | z_sum | z_tuple => k_is)
#print axioms PySem.Challenge.cw_slashwise_k72_whole_what_stays_by_turns_holds
